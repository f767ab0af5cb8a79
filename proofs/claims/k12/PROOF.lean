import PyProof.Rows.All
import Wide.All
import OpenK.AllK
import Wide.FinOn
import Lean
import PyProof.EqAt
import PyProof.EqKinds
import PyProof.TupleCall
import PySem.Challenge.RW_kindbags_k12_words_of_texts
set_option Elab.async false
set_option linter.all false
set_option maxRecDepth 100000
namespace L2
open PySem PySem.Spec PyProof.Rows
abbrev Key:=Sum Int Str
def jKq:Key->Value->Bool
  | .inl k,v=>Value.isInt k v
  | .inr x,v=>Value.isStrOf x v
def oGq (w:World):Key->Int
  | .inl k=>hashInt k
  | .inr x=>hashStr w x
theorem aCq:∀ {k:Key} {v:Value},jKq k v=true->(∃ i t,k=Sum.inl i/\v=Value.int i t)\/(∃ x t,k=Sum.inr x/\v=Value.str x t)
  | .inl i,v,h=>by
    obtain ⟨t,e⟩:=Value.isInt_shape (k:=i) (v:=v) h
    exact .inl ⟨i,t,rfl,e⟩
  | .inr x,v,h=>by
    obtain ⟨t,e⟩:=Value.isStrOf_shape (x:=x) (v:=v) h
    exact .inr ⟨x,t,rfl,e⟩
theorem l0q (a b:Int):decide ((Sum.inl a:Key)=Sum.inl b)=(a==b):=by
  by_cases e:a=b
  . subst e;simp
  . have h:¬ (Sum.inl a:Key)=Sum.inl b:=λ q=>e (Sum.inl.inj q)
    rw [decide_eq_false h]
    exact (beq_eq_false_iff_ne.mpr e).symm
theorem kWq (a b:Str):decide ((Sum.inr a:Key)=Sum.inr b)=decide (a=b):=by
  by_cases e:a=b
  . subst e;simp
  . have h:¬ (Sum.inr a:Key)=Sum.inr b:=λ q=>e (Sum.inr.inj q)
    rw [decide_eq_false h,decide_eq_false e]
theorem kIq (a:Int) (b:Str):decide ((Sum.inl a:Key)=Sum.inr b)=false:=decide_eq_false (λ q=>nomatch q)
theorem kRq (a:Str) (b:Int):decide ((Sum.inr a:Key)=Sum.inl b)=false:=decide_eq_false (λ q=>nomatch q)
def e0q (prog:Program) (w:World):PySem.KeyKind prog w Key where
  is:=jKq
  hash:=oGq w
  inj:=λ v a b ha hb=>by
    rcases aCq ha with ⟨i,t,rfl,rfl⟩ | ⟨x,t,rfl,rfl⟩
    . rcases aCq hb with ⟨j,u,rfl,e⟩ | ⟨y,u,rfl,e⟩
      . injection e with e1 _;rw [e1]
      . exact nomatch e
    . rcases aCq hb with ⟨j,u,rfl,e⟩ | ⟨y,u,rfl,e⟩
      . exact nomatch e
      . injection e with e1 _;rw [e1]
  byValue:=λ k v h=>by
    rcases aCq h with ⟨i,t,rfl,rfl⟩ | ⟨x,t,rfl,rfl⟩<;>rfl
  pyHash:=λ hv h=>by
    rcases aCq hv with ⟨i,t,rfl,rfl⟩ | ⟨x,t,rfl,rfl⟩
    . exact wpAny_pyHash_int h
    . exact wpAny_pyHash_str h
  eqBool:=λ hu hv h=>by
    rcases aCq hu with ⟨i,t,rfl,rfl⟩ | ⟨x,t,rfl,rfl⟩
    . rcases aCq hv with ⟨j,u,rfl,rfl⟩ | ⟨y,u,rfl,rfl⟩
      . rw [l0q] at h;exact wpAny_eqBool_int h
      . rw [kIq] at h;exact SeqAt.EqAt.int_str i t y u _ _ _ _ h
    . rcases aCq hv with ⟨j,u,rfl,rfl⟩ | ⟨y,u,rfl,rfl⟩
      . rw [kRq] at h;exact SeqAt.EqAt.str_int x t j u _ _ _ _ h
      . rw [kWq] at h;exact wpAny_eqBool_str h
  «strs»:=λ k x t v h=>by
    rcases aCq h with ⟨i,u,rfl,e⟩ | ⟨y,u,rfl,e⟩
    . exact nomatch e
    . injection e with e1 _
      subst e1
      cases v<;>rfl
inductive V where
  | non | bl (b:Bool) | int (i:Int) | str (x:Str) | byt (b:Array UInt8) | flt (b:UInt64) | ref (a:Addr) | ty (n:String)
  deriving DecidableEq
def RelV:V->Value->Prop
  | .non,u=>u=Value.none
  | .bl b,u=>u=Value.bool b
  | .int i,u=>∃ t,u=Value.int i t
  | .str x,u=>∃ t,u=Value.str x t
  | .byt b,u=>∃ t,u=Value.bytes b t
  | .flt b,u=>∃ t,u=Value.float b t
  | .ref a,u=>u=Value.ref a
  | .ty n,u=>u=Value.type n
abbrev Vals:List V->List Value->Prop:=Paired RelV
theorem Vals.length {xs:List V} {us:List Value} (r:Vals xs us):xs.length=us.length:=Paired.length r
theorem Vals.get:∀ {xs:List V} {us:List Value} {i:Nat} {x:V},Vals xs us->xs[i]?=some x->∃ u,us[i]?=some u/\RelV x u
  | _,_,_,_,.nil,e=>by simp at e
  | _,_,0,_,.cons r _,e=>by simp at e;subst e;exact ⟨_,rfl,r⟩
  | _,_,i+1,x,.cons _ t,e=>by
    obtain ⟨u,h1,h2⟩:=Vals.get (i:=i) (x:=x) t (by simpa using e)
    exact ⟨u,by simpa using h1,h2⟩
theorem Vals.set {x:V} {u:Value} (r:RelV x u):∀ {xs:List V} {us:List Value} (i:Nat),Vals xs us->Vals (xs.set i x) (us.set i u)
  | _,_,_,.nil=>.nil
  | _,_,0,.cons _ t=>.cons r t
  | _,_,i+1,.cons q t=>.cons q (Vals.set r i t)
theorem Vals.append:∀ {xs ys:List V} {us ws:List Value},Vals xs us->Vals ys ws->Vals (xs++ys) (us++ws)
  | _,_,_,_,.nil,s=>s
  | _,_,_,_,.cons r t,s=>.cons r (Vals.append t s)
def mQq:Option V->Option Value->Prop
  | some v,some u=>RelV v u
  | none,none=>True
  | _,_=>False
def KV {κ:Type}:List (κ × V)->List (κ × Value)->Prop:=Paired λ(p:κ × V) (q:κ × Value)=>p.1=q.1/\RelV p.2 q.2
def kV:Key->V
  | .inl i=>.int i
  | .inr x=>.str x
inductive HO where
  | lst (xs:List V)
  | tup (xs:List V)
  | dK (kvs:List (Key × V)) | dT (kvs:List (List Key × V))
  | set (S:Int->Bool) (n:Nat)
  | ins (C dx:Addr) (fs:List (Str × V))
  | own (x:Addr)
  | xd (fs:List (Str × V))
  | met (f x:Addr)
  | rng (lo hi:Int)
  | frz (o:Obj) (u:HO)
  | tbl (ps:Array Value)
  | ext (φ:Heap->Prop)
abbrev Hp:=Addr->Option HO
def upd (H:Hp) (a:Addr) (o:HO):Hp:=λ b=>if b=a then some o else H b
theorem aIq {H:Hp} {a:Addr} {o:HO}:upd H a o a=some o:=by unfold upd;rw [if_pos rfl]
theorem a9q {H:Hp} {a b:Addr} {o:HO} (h:b≠a):upd H a o b=H b:=by unfold upd;rw [if_neg h]
theorem aAq {H:Hp} {a b:Addr} {o:HO} (h:H a=some o) (h':H b=none):a≠b:=by
  intro e;subst e;rw [h] at h';cases h'
section
variable (P:Program) (w:World)
def ObjOk (H:Hp) (h:Heap) (a:Addr):HO->Prop
  | .lst xs=>xs.length<=sizeLine/\∃ (its:List Value) (n:Nat),Vals xs its/\h.get? a=some { cls:=.type "list", data:=.seq its.toArray n }
  | .tup xs=>xs.length<=sizeLine/\∃ its:List Value,Vals xs its/\IsTup h a its.toArray
  | .dK kvs=>kvs.length<=sizeLine/\(a==sysModules)=false/\∃ vs,KV kvs vs/\h.DictOf (e0q P w) a vs
  | .dT kvs=>kvs.length<=sizeLine/\(a==sysModules)=false/\∃ xs:List (List Key × Addr × Value),
      Paired (λ(p:List Key × V) (q:List Key × Addr × Value)=>p.1=q.1/\H q.2.1=some (.tup (p.1.map kV))/\RelV p.2 q.2.2) kvs xs ∧
      ∃ o es ep,h.get? a=some o/\o.ExactDict/\o.data=.dict es ep/\es.toList=xs.map (entryOfKey (tupleKind (e0q P w)))/\(xs.map (·.1)).Nodup
  | .set S n=>h.SetOf (intKind P w) a S n
  | .ins C dx fs=>H dx=some (.own a)/\fs.length<=1000/\dx≠a/\h.get? a=some (PySem.W.instObj C dx) ∧
      ∃ mA,h.Ns1 dx mA/\(∀ f,mQq (fs.lookup f) (mA f))/\PySem.Within mA (fs.map (·.1))
  | .own _=>∃ o,h.get? a=some o
  | .xd fs=>∃ mA,h.Ns1 a mA/\∀ f,mQq (fs.lookup f) (mA f)
  | .rng lo hi=>∃ t u v,h.get? a=some { cls:=.type "range", data:=.fields #[.int lo t,.int hi u,.int 1 v] }
  | .frz o u=>h.get? a=some o/\ObjOk H h a u
  | .tbl ps=>h.get? a=some { cls:=.none,data:=.fields ps }
  | .met f x=>h.get? a=some (PySem.W.methodObj (.ref f) (.ref x))
  | .ext φ=>φ h/\(∃ o,h.get? a=some o)/\∀ h1 h2:Heap,φ h1->(∀ o,h1.get? a=some o->h2.get? a=some o)->φ h2
def HOk (H:Hp) (h:Heap):Prop:=∀ a o,H a=some o->ObjOk P w H h a o
end
section
variable {P:Program} {w:World} {H H':Hp} {h h':Heap} {a:Addr} {o:HO}
theorem ObjOk.lt (x:ObjOk P w H h a o):a < h.objs.size:=by
  cases o with
  | lst xs=>obtain ⟨_,_,_,_,e⟩:=x;exact Heap.lt_size e
  | tup xs=>obtain ⟨_,_,_,p⟩:=x;exact p.lt
  | dK kvs=>obtain ⟨_,_,_,_,o,_,_,e,_⟩:=x;exact Heap.lt_size e
  | dT kvs=>obtain ⟨_,_,_,_,o,_,_,e,_⟩:=x;exact Heap.lt_size e
  | set S n=>obtain ⟨o,_,_,_,e,_⟩:=x;exact Heap.lt_size e
  | ins C dx fs=>obtain ⟨_,_,_,e,_⟩:=x;exact Heap.lt_size e
  | own y=>obtain ⟨_,e⟩:=x;exact Heap.lt_size e
  | xd fs=>obtain ⟨_,⟨_,_,_,e,_⟩,_⟩:=x;exact Heap.lt_size e
  | rng lo hi=>obtain ⟨_,_,_,e⟩:=x;exact Heap.lt_size e
  | frz ob u=>obtain ⟨e,_⟩:=x;exact Heap.lt_size e
  | tbl ps=>exact Heap.lt_size (show h.get? a=some _ from x)
  | met f y=>exact Heap.lt_size (show h.get? a=some _ from x)
  | ext φ=>obtain ⟨_,⟨_,e⟩,_⟩:=x;exact Heap.lt_size e
theorem Paired.mapP {α β:Type} {F G:α->β->Prop}:∀ {l₁:List α} {l₂:List β},Paired F l₁ l₂->(∀ a b,F a b->G a b)->Paired G l₁ l₂
  | _,_,.nil,_=>.nil
  | _,_,.cons r t,f=>.cons (f _ _ r) (Paired.mapP t f)
theorem ObjOk.stay (x:ObjOk P w H h a o) (k:∀ b u,(b=a\/H b=some (.own a))->h.get? b=some u->h'.get? b=some u)
    (ho:∀ b,H b=some (.own a)->H' b=some (.own a)) (ht:∀ b xs,H b=some (.tup xs)->H' b=some (.tup xs)):ObjOk P w H' h' a o:=by
  induction o with
  | lst xs=>obtain ⟨z,its,n,r,e⟩:=x;exact ⟨z,its,n,r,k _ _ (.inl rfl) e⟩
  | tup xs=>obtain ⟨z,its,r,ob,e,c⟩:=x;exact ⟨z,its,r,ob,k _ _ (.inl rfl) e,c⟩
  | dK kvs=>obtain ⟨z,y,vs,r,ob,es,ep,e,c⟩:=x;exact ⟨z,y,vs,r,ob,es,ep,k _ _ (.inl rfl) e,c⟩
  | dT kvs=>
    obtain ⟨z,y,xs,r,ob,es,ep,e,c⟩:=x
    exact ⟨z,y,xs,Paired.mapP r λ p q z=>⟨z.1,ht _ _ z.2.1,z.2.2⟩,ob,es,ep,k _ _ (.inl rfl) e,c⟩
  | set S n=>obtain ⟨ob,es,ep,t,e,c⟩:=x;exact ⟨ob,es,ep,t,k _ _ (.inl rfl) e,c⟩
  | ins C dx fs=>
    obtain ⟨d,z,ne,e,mA,⟨od,es,ep,e2,c⟩,r⟩:=x
    exact ⟨ho _ d,z,ne,k _ _ (.inl rfl) e,mA,⟨od,es,ep,k _ _ (.inr d) e2,c⟩,r⟩
  | own y=>obtain ⟨ob,e⟩:=x;exact ⟨ob,k _ _ (.inl rfl) e⟩
  | xd fs=>obtain ⟨mA,⟨od,es,ep,e,c⟩,r⟩:=x;exact ⟨mA,⟨od,es,ep,k _ _ (.inl rfl) e,c⟩,r⟩
  | rng lo hi=>obtain ⟨t,u,v,e⟩:=x;exact ⟨t,u,v,k _ _ (.inl rfl) e⟩
  | frz ob u ih=>obtain ⟨e,q⟩:=x;exact ⟨k _ _ (.inl rfl) e,ih q⟩
  | tbl ps=>
    have e:h.get? a=some { cls:=.none,data:=.fields ps }:=x
    show h'.get? a=some { cls:=.none,data:=.fields ps }
    exact k a _ (.inl rfl) e
  | met f y=>
    have e:h.get? a=some (PySem.W.methodObj (.ref f) (.ref y)):=x
    show h'.get? a=some (PySem.W.methodObj (.ref f) (.ref y))
    exact k a _ (.inl rfl) e
  | ext φ=>obtain ⟨p,⟨o,e⟩,st⟩:=x;exact ⟨st _ _ p λ o q=>k _ _ (.inl rfl) q,⟨o,k _ _ (.inl rfl) e⟩,st⟩
theorem HOk.lt (x:HOk P w H h) (e:H a=some o):a < h.objs.size:=(x a o e).lt
theorem HOk.fresh (x:HOk P w H h) (e:h.objs.size<=a):H a=none:=by
  cases q:H a with
  | none=>rfl
  | some u=>exact absurd (Nat.lt_of_lt_of_le (x.lt q) e) (Nat.lt_irrefl _)
theorem HOk.kept (x:HOk P w H h) (k:∀ b u,h.get? b=some u->h'.get? b=some u):HOk P w H h':=λ a o e=>
  (x a o e).stay (λ b u _ q=>k b u q) (λ _ q=>q) λ _ _ q=>q
theorem HOk.laid (x:HOk P w H h) (k:∀ b u,h.get? b=some u->h'.get? b=some u) (hp:h.objs.size<=a) (new:ObjOk P w (upd H a o) h' a o):HOk P w (upd H a o) h':=λ b u e=>by
  have hn:=x.fresh hp
  by_cases hb:b=a
  . subst hb;rw [aIq] at e;cases e;exact new
  . rw [a9q hb] at e
    exact (x b u e).stay (λ c v _ q=>k c v q) (λ c q=>by rw [a9q (aAq q hn)];exact q) λ c xs q=>by rw [a9q (aAq q hn)];exact q
end
def Rd (H:Hp) (a:Addr) (u:HO):Prop:=H a=some u\/∃ o,H a=some (.frz o u)
theorem Rd.ok {P:Program} {w:World} {H:Hp} {h:Heap} {a:Addr} {u:HO} (r:Rd H a u) (x:HOk P w H h):ObjOk P w H h a u:=by
  rcases r with r | ⟨o,r⟩
  . exact x a u r
  . obtain ⟨_,q⟩:=x a _ r
    exact q
def Mut:Option HO->Prop
  | some (.lst _)=>True
  | some (.dK _)=>True
  | some (.dT _)=>True
  | some (.set _ _)=>True
  | some (.ins _ _ _)=>True
  | some (.ext _)=>True
  | _=>False
section
variable {P:Program} {w:World} {H:Hp} {h h':Heap} {x e:Addr} {o':HO}
theorem HOk.write (ok:HOk P w H h) (mu:Mut (H x)) (he:e=x\/H e=some (.own x)) (k:∀ b u,b≠e->h.get? b=some u->h'.get? b=some u) (heo:∃ u,h'.get? e=some u)
    (new:ObjOk P w (upd H x o') h' x o'):HOk P w (upd H x o') h':=λ b u q=>by
  have nown:∀ c y,H c=some (.own y)->c≠x:=λ c y r z=>by subst z;rw [r] at mu;exact mu
  have ntup:∀ c xs,H c=some (.tup xs)->c≠x:=λ c xs r z=>by subst z;rw [r] at mu;exact mu
  by_cases hb:b=x
  . subst hb;rw [aIq] at q;cases q;exact new
  . rw [a9q hb] at q
    by_cases hbe:b=e
    . have q':H b=some (.own x):=by
        rcases he with z | z
        . exact absurd (hbe.trans z) hb
        . rw [hbe];exact z
      rw [q] at q';cases q'
      obtain ⟨v,hv⟩:=heo
      exact ⟨v,by rw [hbe];exact hv⟩
    . refine (ok b u q).stay (λ c v hc r=>k c v ?_ r) (λ c r=>by rw [a9q (nown c b r)];exact r) λ c xs r=>by rw [a9q (ntup c xs r)];exact r
      rcases hc with rfl | hc
      . exact hbe
      . rintro rfl
        rcases he with z | z
        . exact nown c b hc z
        . rw [hc] at z;cases z;exact hb rfl
end
structure Un (fs ex:List Addr) (H H':Hp) (h h':Heap):Prop where
  keep:∀ b o,h.get? b=some o->H b=none->b ∉ fs->b ∉ ex->h'.get? b=some o
  slot:∀ b o,h.get? b=some o->H b=none->b∈fs->b ∉ ex->∃ sl,h'.get? b=some { o with slots:=sl }
  free:∀ b o,h.get? b=some o->H b=none->b ∉ ex->H' b=none
  there:∀ b o,h.get? b=some o->b ∉ ex->∃ o',h'.get? b=some o'
  tups:∀ b xs,H b=some (.tup xs)->H' b=some (.tup xs)
  frzs:∀ b o u,H b=some (.frz o u)->H' b=some (.frz o u)
  tbls:∀ b ps,H b=some (.tbl ps)->∃ more,H' b=some (.tbl (ps++more))
section
variable {fs fs' ex ex':List Addr} {H H1 H2:Hp} {h h1 h2 h':Heap} {a x e:Addr} {o:HO}
theorem Un.any (u:Un fs ex H H1 h h1) {b:Addr} {ob:Obj} (q:h.get? b=some ob) (n:H b=none) (hx:b ∉ ex):∃ sl,h1.get? b=some { ob with slots:=sl }:=by
  by_cases hb:b∈fs
  . exact u.slot b ob q n hb hx
  . exact ⟨ob.slots,u.keep b ob q n hb hx⟩
theorem Un.kept (k:∀ b u,h.get? b=some u->h'.get? b=some u):Un fs ex H H h h':=
  ⟨λ b ob q _ _ _=>k b ob q,λ b ob q _ _ _=>⟨ob.slots,k b ob q⟩,λ _ _ _ n _=>n,λ b ob q _=>⟨ob,k b ob q⟩,λ _ _ q=>q,λ _ _ _ q=>q,λ _ ps q=>⟨#[],by rw [q];simp⟩⟩
theorem Un.refl:Un fs ex H H h h:=Un.kept λ _ _ q=>q
theorem Un.laid (k:∀ b u,h.get? b=some u->h'.get? b=some u) (hp:h.objs.size<=a) (hn:H a=none):Un fs ex H (upd H a o) h h' where
  keep:=λ b u q _ _ _=>k b u q
  slot:=λ b u q _ _ _=>⟨u.slots,k b u q⟩
  free:=λ b u q n _=>by rw [a9q (Nat.ne_of_lt (Nat.lt_of_lt_of_le (Heap.lt_size q) hp))];exact n
  there:=λ b u q _=>⟨u,k b u q⟩
  tups:=λ b xs q=>by rw [a9q (aAq q hn)];exact q
  frzs:=λ b u xs q=>by rw [a9q (aAq q hn)];exact q
  tbls:=λ b ps q=>⟨#[],by rw [a9q (aAq q hn),q];simp⟩
theorem Un.write (mu:Mut (H x)) (he:e=x\/H e=some (.own x)) (k:∀ b u,b≠e->h.get? b=some u->h'.get? b=some u) (heo:∃ u,h'.get? e=some u):Un fs ex H (upd H x o) h h':=by
  have hx:∀ b,H b=none->b≠x:=λ b n z=>by subst z;rw [n] at mu;exact mu
  have hb:∀ b,H b=none->b≠e:=λ b n z=>by
    subst z
    rcases he with r | r
    . exact hx b n r
    . rw [n] at r;cases r
  have hm:∀ b u,H b=some u->¬ Mut (some u)->b≠x:=λ b u q nm z=>by subst z;rw [q] at mu;exact nm mu
  refine ⟨λ b u q n _ _=>k b u (hb b n) q,λ b u q n _ _=>⟨u.slots,k b u (hb b n) q⟩,λ b u q n _=>by rw [a9q (hx b n)];exact n,λ b u q _=>?_,
    λ b xs q=>by rw [a9q (hm b _ q λ z=>z)];exact q,λ b u xs q=>by rw [a9q (hm b _ q λ z=>z)];exact q,λ b ps q=>⟨#[],by rw [a9q (hm b _ q λ z=>z),q];simp⟩⟩
  by_cases hbe:b=e
  . subst hbe;exact heo
  . exact ⟨u,k b u hbe q⟩
end
def trk (h:Heap) (H:Hp):List Addr:=(List.range h.objs.size).filter λ a=>(H a).isSome
def gXq (h:Heap) (H:Hp):Heap:=PySem.W.hideAll h (trk h H)
theorem gBq (h:Heap) (H:Hp):(gXq h H).objs.size=h.objs.size:=PySem.W.hideAll_size _ _
theorem h3q {h:Heap} {H:Hp} {b:Addr} {o:Obj} (e:h.get? b=some o) (n:H b=none):(gXq h H).get? b=some o:=
  PySem.W.hideAll_get _ e λ hm=>by
    have q:(H b).isSome=true:=(List.mem_filter.mp hm).2
    rw [n] at q;simp at q
theorem i4q {h:Heap} {H:Hp} {b:Addr} {o:Obj} (e:(gXq h H).get? b=some o):h.get? b=some o/\H b=none:=by
  have e':h.get? b=some o:=PySem.W.of_hideAll (trk h H) e
  refine ⟨e',?_⟩
  cases q:H b with
  | none=>rfl
  | some x=>
    have hm:b∈trk h H:=List.mem_filter.mpr ⟨List.mem_range.mpr (Heap.lt_size e'),by simp [q]⟩
    have z:(gXq h H).get? b=none:=PySem.W.hideAll_none (trk h H) hm
    rw [z] at e;cases e
structure Mod (K:PySem.W.Frag) (mg:Str->Option Value) (base:Heap):Prop where
  kin:K.In base
  glob:base.Ns mainGlobals mg
  blt:∃ mb,base.Ns builtinsNs mb/\∀ x:Str,x≠"__name__"->mb x=bootBuiltins x
  nolimit:base.NoLimit
structure Cx where
  prog:Program
  w:World
  K:PySem.W.Frag
  mg:Str->Option Value
  base:Heap
  A:Around
  N:List Str
  s₀:Shared
  H₀:Hp
  env:Env
  outer:List Env
  stack:List Env
  ex:List Addr
  fn:Str->Bool
  calm:Bool
  pn:List (Addr × Obj)
  xe:Value->Shared->Prop
def frs (l:List Env):List Addr:=l.filterMap (·.frame)
abbrev Cx.fs (X:Cx):List Addr:=frs X.outer
def Vis (sc:Scope) (x:Str):Prop:=sc.names.lookup x=some .local\/sc.names.lookup x=some .cell\/sc.names.lookup x=some .free
def Loc (sc:Scope) (x:Str):Prop:=sc.names.lookup x=some .local\/sc.names.lookup x=some .cell
def nTq (env:Env) (h:Heap) (m:Str->Option Value) (x:Str) (u:Value):Prop:=
  (env.kindOf x=some .local/\m x=some u)\/((env.kindOf x=some .cell\/env.kindOf x=some .free)/\∃ c,env.cells.lookup x=some c/\h.IsCell c (some u))
structure Cx.Ok (X:Cx):Prop where
  mod:Mod X.K X.mg X.base
  kind:X.env.scope.kind=.function
  glob:X.env.globals=mainGlobals
  blt:X.env.builtins=builtinsNs
  above:X.s₀.heap.objs.size<=X.env.locals
  inj:∀ x y c,X.env.cells.lookup x=some c->X.env.cells.lookup y=some c->x=y
  has:∀ x,(X.env.kindOf x=some .cell\/X.env.kindOf x=some .free)->∃ c,X.env.cells.lookup x=some c
  cab:∀ x c,X.fn x=true->X.env.cells.lookup x=some c->X.s₀.heap.objs.size<=c
  hd:X.calm=true->X.A.handled=none
  frames:X.A.frames=some X.stack
  stk:X.stack=X.outer\/(X.stack=X.env::X.outer/\X.env.frame=some X.env.locals)
  exf:∀ b∈X.ex,b≠X.env.locals/\∀ x c,X.env.cells.lookup x=some c->c≠b
  bs:∀ b o,X.base.get? b=some o->X.s₀.heap.get? b=some o/\X.H₀ b=none
  bsz:X.base.objs.size<=X.s₀.heap.objs.size
  noex:∀ b o,X.base.get? b=some o->b ∉ X.ex
  exfs:∀ b∈X.ex,b ∉ X.fs
  funs:X.s₀.heap.FunFrames X.base X.outer
  frf:∀ b∈X.fs,X.H₀ b=none
structure Inv (X:Cx) (pins:List (Addr × Obj)) (σ:List (Option V)) (H:Hp) (s:Shared):Prop where
  ok:X.Ok
  os:s.os=X.s₀.os
  bare:AllBare s.gens
  base:Un X.fs X.ex X.H₀ H X.s₀.heap s.heap
  loc:∃ m,s.heap.Ns X.env.locals m/\∀ (i:Nat) (x:Str) (v:V),X.N[i]?=some x->σ[i]?=some (some v)->Vis X.env.scope x->∃ u,RelV v u/\nTq X.env s.heap m x u
  cell:∀ x c,X.env.cells.lookup x=some c->∃ v,s.heap.IsCell c v
  free:H X.env.locals=none
  freeC:∀ x c,X.env.cells.lookup x=some c->H c=none
  pin:∀ p∈X.pn++pins,s.heap.get? p.1=some p.2/\H p.1=none/\p.1≠X.env.locals/\p.1 ∉ X.fs/\∀ v,p.2.data≠.cell v
  hok:HOk X.prog X.w H s.heap
  len:σ.length=X.N.length
section
variable {X:Cx} {pins:List (Addr × Obj)} {σ:List (Option V)} {H H':Hp} {s:Shared} {h':Heap}
theorem Cx.Ok.nofr (ok:X.Ok) {b:Addr} {o:Obj} (e:X.base.get? b=some o):b ∉ X.fs:=λ hb=>by
  have:=(ok.funs.mem hb).1
  rw [e] at this;cases this
theorem Inv.bs (I:Inv X pins σ H s):∀ b o,X.base.get? b=some o->s.heap.get? b=some o/\H b=none:=λ b o e=>
  ⟨I.base.keep b o (I.ok.bs b o e).1 (I.ok.bs b o e).2 (I.ok.nofr e) (I.ok.noex b o e),I.base.free b o (I.ok.bs b o e).1 (I.ok.bs b o e).2 (I.ok.noex b o e)⟩
theorem Inv.bk (I:Inv X pins σ H s):∀ b o,X.base.get? b=some o->s.heap.get? b=some o:=λ b o e=>(I.bs b o e).1
theorem Inv.mod (I:Inv X pins σ H s):Mod X.K X.mg X.base:=I.ok.mod
theorem Inv.kIn (I:Inv X pins σ H s):X.K.In s.heap:=I.ok.mod.kin.keeps I.bk
theorem Inv.lt (I:Inv X pins σ H s):X.env.locals < s.heap.objs.size:=let ⟨_,hn,_⟩:=I.loc;hn.lt
theorem Inv.sz (I:Inv X pins σ H s):X.s₀.heap.objs.size<=s.heap.objs.size:=Nat.le_trans I.ok.above (Nat.le_of_lt I.lt)
theorem Inv.nofs (I:Inv X pins σ H s) {a:Addr} (h:s.heap.objs.size<=a):a ∉ X.fs:=λ hb=>by
  obtain ⟨_,o,ho,_⟩:=I.ok.funs.mem hb
  exact absurd (Nat.lt_of_lt_of_le (Heap.lt_size ho) (Nat.le_trans I.sz h)) (Nat.lt_irrefl _)
theorem Inv.cne (I:Inv X pins σ H s):∀ x c,X.env.cells.lookup x=some c->c≠X.env.locals:=λ x c e z=>by
  obtain ⟨v,o,ho,hd⟩:=I.cell x c e
  obtain ⟨m,⟨o',es,ep,ho',hd',_⟩,_⟩:=I.loc
  rw [z,ho'] at ho;cases ho;rw [hd'] at hd;cases hd
theorem Inv.funs (I:Inv X pins σ H s):s.heap.FunFrames X.base X.outer:=by
  have all:∀ (l:List Env),(∀ b∈frs l,b∈X.fs)->X.s₀.heap.FunFrames X.base l->s.heap.FunFrames X.base l:=by
    intro l
    induction l with
    | nil=>intro _ _;trivial
    | cons env r ih=>
      intro hs hl
      obtain ⟨hk,⟨L,o,hf,hn,ho,hd⟩,hr⟩:=hl
      have hL:L∈X.fs:=hs L (by unfold frs;rw [List.filterMap_cons,hf];exact List.mem_cons_self)
      obtain ⟨sl,e⟩:=I.base.slot L o ho (I.ok.frf L hL) hL λ z=>I.ok.exfs L z hL
      exact ⟨hk,⟨L,_,hf,hn,e,hd⟩,ih (λ b hb=>hs b (by unfold frs;rw [List.filterMap_cons,hf];exact List.mem_cons_of_mem _ hb)) hr⟩
  exact all X.outer (λ _ hb=>hb) I.ok.funs
theorem Inv.stack (I:Inv X pins σ H s):s.heap.FunFrames X.base X.stack:=by
  rcases I.ok.stk with e | ⟨e,hf⟩
  . rw [e];exact I.funs
  . rw [e]
    obtain ⟨m,hn,_⟩:=I.loc
    refine .cons (by rw [I.ok.kind];decide) hf hn ?_ I.funs
    exact Heap.get?_none_of_le (Nat.le_trans I.ok.bsz I.ok.above)
theorem Inv.stkSub (I:Inv X pins σ H s):∀ b∈frs X.stack,b∈X.env.locals::X.fs:=λ b hb=>by
  rcases I.ok.stk with e | ⟨e,hf⟩
  . rw [e] at hb;exact List.mem_cons_of_mem _ hb
  . rw [e] at hb
    unfold frs at hb
    rw [List.filterMap_cons,hf] at hb
    exact hb
theorem Inv.stkFree (I:Inv X pins σ H s):∀ b∈frs X.stack,H b=none:=λ b hb=>by
  rcases List.mem_cons.mp (I.stkSub b hb) with e | hb
  . rw [e];exact I.free
  . obtain ⟨_,o,ho,_⟩:=I.ok.funs.mem hb
    exact I.base.free b o ho (I.ok.frf b hb) λ z=>I.ok.exfs b z hb
theorem Inv.step {g':Array GenState} {t':Nat} {d':Drawn} {ch:List Addr} (I:Inv X pins σ H s)
    (hch:∀ b∈ch,(b∈X.ex\/X.s₀.heap.objs.size<=b)/\b≠X.env.locals/\(∀ x c,X.env.cells.lookup x=some c->c≠b)/\∀ p∈X.pn++pins,p.1≠b)
    (keep:∀ b o,b≠X.env.locals->b ∉ X.fs->b ∉ ch->s.heap.get? b=some o->H b=none->h'.get? b=some o)
    (slot:∀ b o,b≠X.env.locals->b∈X.fs->b ∉ ch->s.heap.get? b=some o->H b=none->∃ sl,h'.get? b=some { o with slots:=sl }) (free:∀ b o,b ∉ ch->s.heap.get? b=some o->H b=none->H' b=none)
    (there:∀ b o,b ∉ ch->s.heap.get? b=some o->∃ o',h'.get? b=some o')
    (tups:∀ b xs,H b=some (.tup xs)->H' b=some (.tup xs)) (frzs:∀ b o u,H b=some (.frz o u)->H' b=some (.frz o u)) (tbls:∀ b ps,H b=some (.tbl ps)->∃ more,H' b=some (.tbl (ps++more)))
    (ns:∀ m,s.heap.Ns X.env.locals m->h'.Ns X.env.locals m) (hok:HOk X.prog X.w H' h') (hg:AllBare g') :
    Inv X pins σ H' { s with heap:=h',gens:=g',drawn:=d',toks:=t' }:=by
  have neL:∀ b o,X.s₀.heap.get? b=some o->b≠X.env.locals:=λ b o e=>Nat.ne_of_lt (Nat.lt_of_lt_of_le (Heap.lt_size e) I.ok.above)
  have neC:∀ b o,X.s₀.heap.get? b=some o->b ∉ X.ex->b ∉ ch:=λ b o e hx hb=>by
    rcases (hch b hb).1 with z | z
    . exact hx z
    . exact absurd (Nat.lt_of_lt_of_le (Heap.lt_size e) z) (Nat.lt_irrefl _)
  have cellK:∀ x c,X.env.cells.lookup x=some c->∀ v,s.heap.IsCell c v->h'.IsCell c v:=λ x c e v ⟨o,ho,hd⟩=>by
    have nch:c ∉ ch:=λ z=>(hch c z).2.2.1 x c e rfl
    by_cases hc:c∈X.fs
    . obtain ⟨sl,q⟩:=slot c o (I.cne x c e) hc nch ho (I.freeC x c e)
      exact ⟨_,q,hd⟩
    . exact ⟨o,keep c o (I.cne x c e) hc nch ho (I.freeC x c e),hd⟩
  refine ⟨I.ok,I.os,hg,⟨λ b o e n hb hx=>?_,λ b o e n hb hx=>?_,λ b o e n hx=>?_,λ b o e hx=>?_,λ b xs e=>tups b xs (I.base.tups b xs e),λ b o xs e=>frzs b o xs (I.base.frzs b o xs e),λ b ps e=>?_⟩,?_,λ x c e=>?_,?_,λ x c e=>?_,λ p hp=>?_,hok,I.len⟩
  . exact keep b o (neL b o e) hb (neC b o e hx) (I.base.keep b o e n hb hx) (I.base.free b o e n hx)
  . obtain ⟨sl,e1⟩:=I.base.slot b o e n hb hx
    obtain ⟨sl',e2⟩:=slot b _ (neL b o e) hb (neC b o e hx) e1 (I.base.free b o e n hx)
    exact ⟨sl',e2⟩
  . obtain ⟨o',e1⟩:=I.base.there b o e hx
    exact free b o' (neC b o e hx) e1 (I.base.free b o e n hx)
  . obtain ⟨o',e1⟩:=I.base.there b o e hx
    exact there b o' (neC b o e hx) e1
  . obtain ⟨m1,e1⟩:=I.base.tbls b ps e
    obtain ⟨m2,e2⟩:=tbls b _ e1
    exact ⟨m1++m2,by rw [e2,Array.append_assoc]⟩
  . obtain ⟨m,hn,hl⟩:=I.loc
    refine ⟨m,ns m hn,λ i x v e1 e2 e3=>?_⟩
    obtain ⟨u,r,l⟩:=hl i x v e1 e2 e3
    refine ⟨u,r,?_⟩
    rcases l with l | ⟨k,c,e,z⟩
    . exact .inl l
    . exact .inr ⟨k,c,e,cellK x c e _ z⟩
  . obtain ⟨v,z⟩:=I.cell x c e
    exact ⟨v,cellK x c e v z⟩
  . obtain ⟨m,⟨o,_,_,ho,_⟩,_⟩:=I.loc
    exact free _ o (λ z=>(hch _ z).2.1 rfl) ho I.free
  . obtain ⟨v,o,ho,hd⟩:=I.cell x c e
    exact free c o (λ z=>(hch c z).2.2.1 x c e rfl) ho (I.freeC x c e)
  . obtain ⟨e,n,ne,nf,d⟩:=I.pin p hp
    have nch:p.1 ∉ ch:=λ z=>(hch p.1 z).2.2.2 p hp rfl
    exact ⟨keep p.1 p.2 ne nf nch e n,free p.1 p.2 nch e n,ne,nf,d⟩
theorem Inv.un {t':Nat} (I:Inv X pins σ H s) (u:Un X.fs [] H H' s.heap h') (hok:HOk X.prog X.w H' h'):Inv X pins σ H' { s with heap:=h',toks:=t' }:=by
  obtain ⟨m,⟨o,es,ep,ho,r⟩,_⟩:=id I.loc
  obtain ⟨sl,hL⟩:=u.any ho I.free (by simp)
  exact I.step (g':=s.gens) (d':=s.drawn) (ch:=[]) (λ _ z=>nomatch z) (λ b o _ hb _ e n=>u.keep b o e n hb (by simp)) (λ b o _ hb _ e n=>u.slot b o e n hb (by simp)) (λ b o _ e n=>u.free b o e n (by simp)) (λ b o _ e=>u.there b o e (by simp)) u.tups u.frzs u.tbls (λ m' hm=>by
    obtain ⟨o',es',ep',ho',r'⟩:=hm
    rw [ho] at ho';cases ho'
    exact ⟨_,es',ep',hL,r'⟩) hok I.bare
theorem Inv.call {g':Array GenState} {t':Nat} {d':Drawn} {ch:List Addr} (I:Inv X pins σ H s) (u:Un (frs X.stack) ch H H' s.heap h') (hok:HOk X.prog X.w H' h') (hg:AllBare g')
    (hch:∀ b∈ch,(b∈X.ex\/X.s₀.heap.objs.size<=b)/\b≠X.env.locals/\(∀ x c,X.env.cells.lookup x=some c->c≠b)/\∀ p∈X.pn++pins,p.1≠b) :
    Inv X pins σ H' { s with heap:=h',gens:=g',drawn:=d',toks:=t' }:=by
  obtain ⟨m,⟨o,es,ep,ho,r⟩,_⟩:=id I.loc
  obtain ⟨sl,hL⟩:=u.any ho I.free λ z=>(hch _ z).2.1 rfl
  exact I.step (ch:=ch) hch (λ b o hL hb hc e n=>u.keep b o e n (λ z=>(List.mem_cons.mp (I.stkSub b z)).elim hL hb) hc) (λ b o _ _ hc e n=>u.any e n hc) (λ b o hc e n=>u.free b o e n hc) (λ b o hc e=>u.there b o e hc) u.tups u.frzs u.tbls (λ m' hm=>by
    obtain ⟨o',es',ep',ho',r'⟩:=hm
    rw [ho] at ho';cases ho'
    exact ⟨_,es',ep',hL,r'⟩) hok hg
theorem Inv.turned {t':Nat} {it:Addr} (I:Inv X pins σ H s) (k:∀ b o,b≠it->s.heap.get? b=some o->h'.get? b=some o) (hn:H it=none) (hL:it≠X.env.locals)
    (h1:it∈X.ex\/X.s₀.heap.objs.size<=it) (h2:∀ x c,X.env.cells.lookup x=some c->c≠it) (h3:∀ p∈X.pn++pins,p.1≠it):Inv X pins σ H { s with heap:=h',toks:=t' }:=by
  have nit:∀ b u,H b=some u->b≠it:=λ b u e z=>by rw [z,hn] at e;cases e
  refine I.step (g':=s.gens) (d':=s.drawn) (ch:=[it]) (λ b hb=>?_) (λ b o _ _ hc e _=>k b o (λ z=>hc (by simp [z])) e) (λ b o _ _ hc e _=>⟨o.slots,k b o (λ z=>hc (by simp [z])) e⟩) (λ _ _ _ _ n=>n)
    (λ b o hc e=>⟨o,k b o (λ z=>hc (by simp [z])) e⟩) (λ _ _ e=>e) (λ _ _ _ e=>e) (λ b ps e=>⟨#[],by rw [e];simp⟩) (λ m hm=>?_) (λ b u e=>?_) I.bare
  . have e:b=it:=by simpa using hb
    subst e
    exact ⟨h1,hL,h2,h3⟩
  . obtain ⟨o,es,ep,ho,r⟩:=hm
    exact ⟨o,es,ep,k _ o (Ne.symm hL) ho,r⟩
  . refine (I.hok b u e).stay (λ c v hc q=>k c v ?_ q) (λ _ q=>q) λ _ _ q=>q
    rcases hc with z | z
    . rw [z];exact nit b u e
    . exact nit c _ z
theorem Inv.tok (I:Inv X pins σ H s) (t:Nat):Inv X pins σ H { s with toks:=t }:=I.un (h':=s.heap) (t':=t) Un.refl I.hok
theorem Inv.kept {t':Nat} (I:Inv X pins σ H s) (k:∀ b u,s.heap.get? b=some u->h'.get? b=some u):Inv X pins σ H { s with heap:=h',toks:=t' }:=I.un (Un.kept k) (I.hok.kept k)
theorem Inv.laid {a:Addr} {o:HO} {t':Nat} (I:Inv X pins σ H s) (k:∀ b u,s.heap.get? b=some u->h'.get? b=some u) (hp:s.heap.objs.size<=a) (new:ObjOk X.prog X.w (upd H a o) h' a o) :
    Inv X pins σ (upd H a o) { s with heap:=h',toks:=t' }:=I.un (Un.laid k hp (I.hok.fresh hp)) (I.hok.laid k hp new)
theorem Inv.write {x e:Addr} {o:HO} {t':Nat} (I:Inv X pins σ H s) (mu:Mut (H x)) (he:e=x\/H e=some (.own x)) (k:∀ b u,b≠e->s.heap.get? b=some u->h'.get? b=some u) (heo:∃ u,h'.get? e=some u)
    (new:ObjOk X.prog X.w (upd H x o) h' x o):Inv X pins σ (upd H x o) { s with heap:=h',toks:=t' }:=I.un (Un.write mu he k heo) (I.hok.write mu he k heo new)
theorem Inv.pins_of {pins':List (Addr × Obj)} (I:Inv X pins σ H s) (h:∀ p∈pins',s.heap.get? p.1=some p.2/\H p.1=none/\p.1≠X.env.locals/\p.1 ∉ X.fs/\∀ v,p.2.data≠.cell v):Inv X pins' σ H s:=
  ⟨I.ok,I.os,I.bare,I.base,I.loc,I.cell,I.free,I.freeC,λ p hp=>(List.mem_append.mp hp).elim (λ z=>I.pin p (List.mem_append_left _ z)) (h p),I.hok,I.len⟩
theorem eJq {N:List Str} (hN:N.Nodup) {i j:Nat} {x:Str} (a:N[i]?=some x) (b:N[j]?=some x):i=j:=by
  obtain ⟨h1,e1⟩:=List.getElem?_eq_some_iff.mp a
  obtain ⟨h2,e2⟩:=List.getElem?_eq_some_iff.mp b
  exact (List.getElem_inj hN).mp (e1.trans e2.symm)
theorem dDq {M:Model} {A:Around} {E:Value->Shared->Prop} {i:Nat} {x:Str} {v:V} {u:Value} {Q:Unit->Shared->Prop} (I:Inv X pins σ H s) (hN:X.N.Nodup) (hi:X.N[i]?=some x) (hx:Loc X.env.scope x) (r:RelV v u)
    (h:∀ s',Inv X pins (σ.set i (some v)) H s'->(∃ a,Heap.SameBut a s.heap s'.heap/\(a=X.env.locals\/X.env.cells.lookup x=some a))->Q () s') (hf:X.fn x=true\/X.env.scope.names.lookup x=some .local:=by first | exact .inl rfl | exact .inr rfl | assumption):wpAny M A (storeName X.env x u) Q E s:=by
  obtain ⟨m,hn,hl⟩:=id I.loc
  have hcls:(X.env.scope.kind==.class||(X.env.scope.kind==.module&&X.env.locals !=X.env.globals))=false:=by rw [I.ok.kind];rfl
  have hiσ:i < σ.length:=by rw [I.len];exact (List.getElem?_eq_some_iff.mp hi).1
  have cne:=I.cne
  have tracked:∀ {a:Addr} {h':Heap},(∃ o,s.heap.get? a=some o/\H a=none)->Heap.SameBut a s.heap h'->HOk X.prog X.w H h':=λ{a h'} ha hs b ob e=>by
    obtain ⟨_,_,hfree⟩:=ha
    refine (I.hok b ob e).stay (λ c w' hc q=>(hs.2 c ?_).trans q) (λ _ q=>q) λ _ _ q=>q
    rintro rfl
    rcases hc with rfl | hc
    . rw [hfree] at e;cases e
    . rw [hfree] at hc;cases hc
  rcases hx with hk | hk
  . refine wpAny_storeName_local hk hn (λ h' hn' hs=>?_) hcls
    obtain ⟨oL,_,_,hoL,_⟩:=id hn
    refine h _ ⟨I.ok,I.os,I.bare,⟨λ b o e n hb hx=>?_,λ b o e n hb hx=>?_,I.base.free,λ b o e hx=>?_,I.base.tups,I.base.frzs,I.base.tbls⟩,⟨_,hn',λ j y v' e1 e2 e3=>?_⟩,λ y c e=>?_,I.free,I.freeC,λ p hp=>?_,tracked ⟨oL,hoL,I.free⟩ hs,by simpa using I.len⟩ ⟨_,hs,.inl rfl⟩
    . exact (hs.2 b (Nat.ne_of_lt (Nat.lt_of_lt_of_le (Heap.lt_size e) I.ok.above))).trans (I.base.keep b o e n hb hx)
    . obtain ⟨sl,e1⟩:=I.base.slot b o e n hb hx
      exact ⟨sl,(hs.2 b (Nat.ne_of_lt (Nat.lt_of_lt_of_le (Heap.lt_size e) I.ok.above))).trans e1⟩
    . obtain ⟨o',e1⟩:=I.base.there b o e hx
      exact ⟨o',(hs.2 b (Nat.ne_of_lt (Nat.lt_of_lt_of_le (Heap.lt_size e) I.ok.above))).trans e1⟩
    . by_cases hj:j=i
      . subst hj
        rw [hi] at e1;cases e1
        rw [List.getElem?_set_self hiσ] at e2
        cases e2
        exact ⟨u,r,.inl ⟨hk,by simp⟩⟩
      . rw [List.getElem?_set_ne (Ne.symm hj)] at e2
        obtain ⟨u',r',q⟩:=hl j y v' e1 e2 e3
        refine ⟨u',r',?_⟩
        rcases q with ⟨k,e⟩ | ⟨k,c,e,z⟩
        . refine .inl ⟨k,?_⟩
          have:y≠x:=λ e=>hj (eJq hN e1 (e ▸ hi))
          simp [this,e]
        . exact .inr ⟨k,c,e,z.sameBut hs (cne y c e)⟩
    . obtain ⟨w',z⟩:=I.cell y c e
      exact ⟨w',z.sameBut hs (cne y c e)⟩
    . obtain ⟨e,n,ne,nf,d⟩:=I.pin p hp
      exact ⟨(hs.2 p.1 ne).trans e,n,ne,nf,d⟩
  . have hfn:X.fn x=true:=by
      rcases hf with z | z
      . exact z
      . rw [z] at hk;cases hk
    obtain ⟨c,hc⟩:=I.ok.has x (.inl hk)
    obtain ⟨w',z⟩:=I.cell x c hc
    refine wpAny_storeName_cell I.ok.kind hk hc z (λ h' hc' hs=>?_)
    obtain ⟨oc,hoc,hocd⟩:=id z
    refine h { s with heap:=h' } ⟨I.ok,I.os,I.bare,⟨λ b o e n hb hx=>?_,λ b o e n hb hx=>?_,I.base.free,λ b o e hx=>?_,I.base.tups,I.base.frzs,I.base.tbls⟩,⟨m,hn.sameBut hs (Ne.symm (cne x c hc)),λ j y v' e1 e2 e3=>?_⟩,λ y c' e=>?_,I.free,I.freeC,λ p hp=>?_,tracked ⟨oc,hoc,I.freeC x c hc⟩ hs,by simpa using I.len⟩ ⟨c,hs,.inr hc⟩
    . exact (hs.2 b (Nat.ne_of_lt (Nat.lt_of_lt_of_le (Heap.lt_size e) (I.ok.cab x c hfn hc)))).trans (I.base.keep b o e n hb hx)
    . obtain ⟨sl,e1⟩:=I.base.slot b o e n hb hx
      exact ⟨sl,(hs.2 b (Nat.ne_of_lt (Nat.lt_of_lt_of_le (Heap.lt_size e) (I.ok.cab x c hfn hc)))).trans e1⟩
    . obtain ⟨o',e1⟩:=I.base.there b o e hx
      exact ⟨o',(hs.2 b (Nat.ne_of_lt (Nat.lt_of_lt_of_le (Heap.lt_size e) (I.ok.cab x c hfn hc)))).trans e1⟩
    . by_cases hj:j=i
      . subst hj
        rw [hi] at e1;cases e1
        rw [List.getElem?_set_self hiσ] at e2
        cases e2
        exact ⟨u,r,.inr ⟨.inl hk,c,hc,hc'⟩⟩
      . rw [List.getElem?_set_ne (Ne.symm hj)] at e2
        obtain ⟨u',r',q⟩:=hl j y v' e1 e2 e3
        refine ⟨u',r',?_⟩
        rcases q with q | ⟨k,c',e,z'⟩
        . exact .inl q
        . refine .inr ⟨k,c',e,z'.sameBut hs ?_⟩
          rintro rfl
          exact hj (eJq hN e1 (I.ok.inj _ _ _ e hc ▸ hi))
    . by_cases hcc:c'=c
      . subst hcc;exact ⟨_,hc'⟩
      . obtain ⟨w2,z2⟩:=I.cell y c' e
        exact ⟨w2,z2.sameBut hs hcc⟩
    . obtain ⟨e,n,ne,nf,d⟩:=I.pin p hp
      refine ⟨(hs.2 p.1 ?_).trans e,n,ne,nf,d⟩
      intro q
      rw [q,hoc] at e
      have q':oc=p.2:=Option.some.inj e
      exact d w' (by rw [<- q'];exact hocd)
theorem eNq {M:Model} {A:Around} {E:Value->Shared->Prop} {i:Nat} {x:Str} {v:V} {u:Value} {Q:Unit->Shared->Prop} (I:Inv X pins σ H s) (hN:X.N.Nodup) (hi:X.N[i]?=some x) (hx:Loc X.env.scope x) (r:RelV v u)
    (h:∀ s',Inv X pins (σ.set i (some v)) H s'->Q () s') (hf:X.fn x=true\/X.env.scope.names.lookup x=some .local:=by first | exact .inl rfl | exact .inr rfl | assumption):wpAny M A (storeName X.env x u) Q E s:=
  dDq I hN hi hx r (λ s' I' _=>h s' I') hf
theorem Inv.call' {s':Shared} {ch:List Addr} (I:Inv X pins σ H s) (ho:s'.os=s.os) (u:Un (frs X.stack) ch H H' s.heap s'.heap) (hok:HOk X.prog X.w H' s'.heap) (hg:AllBare s'.gens)
    (hch:∀ b∈ch,(b∈X.ex\/X.s₀.heap.objs.size<=b)/\b≠X.env.locals/\(∀ x c,X.env.cells.lookup x=some c->c≠b)/\∀ p∈X.pn++pins,p.1≠b):Inv X pins σ H' s':=by
  obtain ⟨h',g',d',t',o'⟩:=s'
  have e:o'=s.os:=ho
  subst e
  exact I.call (g':=g') (t':=t') (d':=d') u hok hg hch
end
abbrev XK:=Value->Option Addr->Hp->Prop
abbrev St:=List (Option V)
abbrev VK:=V->Hp->Prop
abbrev TE:=St->Hp->VK->Prop
abbrev TT:=St->Hp->(Bool->Hp->Prop)->Prop
abbrev TA:=St->Hp->(List V->Hp->Prop)->Prop
structure Ends where
  nx:St->Hp->Prop
  rt:VK
  bk:St->Hp->Prop:=λ _ _=>False
  ct:St->Hp->Prop:=λ _ _=>False
abbrev TS:=Ends->St->Hp->Prop
def EP (X:Cx) (pins:List (Addr × Obj)) (σ:St) (Q:VK) (u:Value) (s':Shared):Prop:=∃ v H',Inv X pins σ H' s'/\RelV v u/\Q v H'
def TP (X:Cx) (pins:List (Addr × Obj)) (σ:St) (Q:Bool->Hp->Prop) (b:Bool) (s':Shared):Prop:=∃ H',Inv X pins σ H' s'/\Q b H'
def AP (X:Cx) (pins:List (Addr × Obj)) (σ:St) (Q:List V->Hp->Prop) (us:List Value) (s':Shared):Prop:=∃ vs H',Inv X pins σ H' s'/\Vals vs us/\Q vs H'
def SP (X:Cx) (pins:List (Addr × Obj)) (D:Ends) (f:Flow) (s':Shared):Prop:=
  match f with
  | .next=>∃ σ' H',Inv X pins σ' H' s'/\D.nx σ' H'
  | .brk=>∃ σ' H',Inv X pins σ' H' s'/\D.bk σ' H'
  | .cont=>∃ σ' H',Inv X pins σ' H' s'/\D.ct σ' H'
  | .ret u=>∃ v σ' H',Inv X pins σ' H' s'/\RelV v u/\D.rt v H'
def PE (X:Cx) (e:Expr) (t:TE):Prop:=
  ∀ (pins:List (Addr × Obj)) (s:Shared) (σ:St) (H:Hp) (Q:VK),Inv X pins σ H s->t σ H Q->wpAny (model X.prog X.w) X.A (eval e X.env) (EP X pins σ Q) X.xe s
def PT (X:Cx) (e:Expr) (t:TT):Prop:=
  ∀ (pins:List (Addr × Obj)) (s:Shared) (σ:St) (H:Hp) (Q:Bool->Hp->Prop),Inv X pins σ H s->t σ H Q->wpAny (model X.prog X.w) X.A (isTrue e X.env (eval e X.env)) (TP X pins σ Q) X.xe s
def PW (X:Cx) (e:Expr) (t:TT):Prop:=
  ∀ (whole:Sem Value) (pins:List (Addr × Obj)) (s:Shared) (σ:St) (H:Hp) (Q:Bool->Hp->Prop),Inv X pins σ H s->t σ H Q->wpAny (model X.prog X.w) X.A (isTrue e X.env whole) (TP X pins σ Q) X.xe s
theorem PW.pt {X:Cx} {e:Expr} {t:TT} (h:PW X e t):PT X e t:=h _
def PA (X:Cx) (es:List Expr) (t:TA):Prop:=
  ∀ (pos:Pos) (pins:List (Addr × Obj)) (s:Shared) (σ:St) (H:Hp) (Q:List V->Hp->Prop),Inv X pins σ H s->t σ H Q->wpAny (model X.prog X.w) X.A (spliced (backTo pos (starEach es X.env))) (AP X pins σ Q) X.xe s
def PS (X:Cx) (st:Stmt) (t:TS):Prop:=
  ∀ (pins:List (Addr × Obj)) (s:Shared) (σ:St) (H:Hp) (D:Ends),Inv X pins σ H s->t D σ H->wpAny (model X.prog X.w) X.A (exec st X.env) (SP X pins D) X.xe s
def PSs (X:Cx) (st:List Stmt) (t:TS):Prop:=
  ∀ (pins:List (Addr × Obj)) (s:Shared) (σ:St) (H:Hp) (D:Ends),Inv X pins σ H s->t D σ H->wpAny (model X.prog X.w) X.A (execs st X.env) (SP X pins D) X.xe s
theorem thn {α:Type} {t:Sem α} {Q Q':α->Shared->Prop} {M:Model} {A:Around} {E:Value->Shared->Prop} {s:Shared} (h:wpAny M A t Q E s) (hQ:∀ a s,Q a s->Q' a s):wpAny M A t Q' E s:=wpAny_mono h hQ λ _ _ x=>x
section
variable {X:Cx}
theorem bin {a b:Expr} {ta tb:TE} (ha:PE X a ta) (hb:PE X b tb) {pins:List (Addr × Obj)} {s:Shared} {σ:St} {H:Hp} {R:V->V->Hp->Prop} (I:Inv X pins σ H s) (h:ta σ H λ x H1=>tb σ H1 λ y H2=>R x y H2)
    {α:Type} {Q:α->Shared->Prop} {f:Value->Value->Sem α}
    (hf:∀ v u s2 x y H2,Inv X pins σ H2 s2->RelV x v->RelV y u->R x y H2->wpAny (model X.prog X.w) X.A (f v u) Q X.xe s2) :
    wpAny (model X.prog X.w) X.A (eval a X.env) (λ v s₁=>wpAny (model X.prog X.w) X.A (eval b X.env) (λ u s₂=>wpAny (model X.prog X.w) X.A (f v u) Q X.xe s₂) X.xe s₁) X.xe s:=by
  refine thn (ha pins s σ H _ I h) λ v s1 ⟨x,H1,I1,r1,q1⟩=>?_
  refine thn (hb pins s1 σ H1 _ I1 q1) λ u s2 ⟨y,H2,I2,r2,q2⟩=>?_
  exact hf v u s2 x y H2 I2 r1 r2 q2
def nBq (i:Nat):TE:=λ σ H Q=>∃ v,σ[i]?=some (some v)/\Q v H
def tC (v:V):TE:=λ _ H Q=>Q v H
theorem k2q {i:Nat} {x:Str} {pos:Pos} (hN:X.N[i]?=some x) (hv:Vis X.env.scope x) (hd:(x==("__debug__" : Str))=false:=by decide) (hcd:(x==("__classdict__" : Str))=false:=by decide):PE X (.Name x pos) (nBq i):=by
  intro pins s σ H Q I h
  obtain ⟨v,e,h⟩:=h
  obtain ⟨m,hn,hl⟩:=I.loc
  obtain ⟨u,r,l⟩:=hl i x v hN e hv
  have fin:EP X pins σ Q u s:=⟨v,H,I,r,h⟩
  rcases l with ⟨hk,hm⟩ | ⟨hk,c,hc,hcell⟩
  . exact wpAny_Name (wpAny_loadName_local I.ok.kind hk hn hm fin) hd
  . rcases hk with hk | hk
    . exact wpAny_Name (wpAny_loadName_cell I.ok.kind hk hc hcell fin) hd
    . exact wpAny_Name (wpAny_loadName_free I.ok.kind hk hc hcell fin hcd) hd
theorem k9q {i j pos}:PE X (.Constant (.int i) j pos) (tC (.int i)):=λ _ _ _ H _ I h=>wpAny_Constant_int ⟨.int i,H,I.tok _,⟨_,rfl⟩,h⟩
theorem mYq {b j pos}:PE X (.Constant (.bool b) j pos) (tC (.bl b)):=λ _ _ _ H _ I h=>Constant_bool ⟨.bl b,H,I,rfl,h⟩
theorem k7q {x j pos}:PE X (.Constant (.str x) j pos) (tC (.str x)):=λ _ _ _ H _ I h=>Calls.Constant_str ⟨.str x,H,I.tok _,⟨_,rfl⟩,h⟩
def Gl (X:Cx) (x:Str):Prop:=X.env.kindOf x=some .globalImplicit
theorem hWq {E:Value->Shared->Prop} {pins:List (Addr × Obj)} {s:Shared} {σ:St} {H:Hp} {x:Str} {u:Value} {pos:Pos} {Q:Value->Shared->Prop} (I:Inv X pins σ H s) (hg:Gl X x) (hm:X.mg x=some u) (h:Q u s)
    (hd:(x==("__debug__" : Str))=false:=by decide):wpAny (model X.prog X.w) X.A (eval (.Name x pos) X.env) Q E s:=
  Calls.Name_function_global I.ok.kind hg (Calls.loadGlobal_global (by rw [I.ok.glob];exact I.mod.glob.keeps I.bk) hm h) hd
theorem e4q {E:Value->Shared->Prop} {pins:List (Addr × Obj)} {s:Shared} {σ:St} {H:Hp} {x:Str} {u:Value} {pos:Pos} {Q:Value->Shared->Prop} (I:Inv X pins σ H s) (hg:Gl X x) (hm:X.mg x=none) (hv:bootBuiltins x=some u) (h:Q u s)
    (hn:x≠"__name__":=by decide) (hd:(x==("__debug__" : Str))=false:=by decide):wpAny (model X.prog X.w) X.A (eval (.Name x pos) X.env) Q E s:=by
  obtain ⟨mb,h1,h2⟩:=I.mod.blt
  exact Calls.Name_function_global I.ok.kind hg (Calls.loadGlobal_builtin (by rw [I.ok.glob];exact I.mod.glob.keeps I.bk) hm (by rw [I.ok.blt];exact h1.keeps I.bk) ((h2 x hn).trans hv) h) hd
theorem iXq {x:Str} {v:V} {u:Value} {pos:Pos} (hg:Gl X x) (hm:X.mg x=none) (hv:bootBuiltins x=some u) (r:RelV v u) (hn:x≠"__name__":=by decide) (hd:(x==("__debug__" : Str))=false:=by decide):PE X (.Name x pos) (tC v):=
  λ _ _ _ H _ I h=>e4q I hg hm hv ⟨v,H,I,r,h⟩ hn hd
variable {a b:Expr} {ta tb:TE} {pos:Pos}
variable {tA tB':TT} {rest:List Expr}
def tOr (t u:TT):TT:=λ σ H Q=>t σ H λ c H1=>if c=true then Q true H1 else u σ H1 Q
def n7q (t:TT):TT:=λ σ H Q=>t σ H λ c H1=>Q (!c) H1
theorem jZq (ha:PT X a tA):PW X (.BoolOp .Or [a] pos) tA:=by
  intro wh pins s σ H Q I h
  refine isTrue_or (thn (ha pins s σ H Q I h) λ c s1 e=>?_)
  cases c with
  | false=>exact isTrue_or_nil e
  | true=>exact e
theorem mRq (ha:PT X a tA) (hb:PW X (.BoolOp .Or (b::rest) pos) tB'):PW X (.BoolOp .Or (a::b::rest) pos) (tOr tA tB'):=by
  intro wh pins s σ H Q I h
  refine isTrue_or (thn (ha pins s σ H _ I h) λ c s1 ⟨H1,I1,q1⟩=>?_)
  cases c with
  | true=>exact ⟨H1,I1,q1⟩
  | false=>exact hb wh pins s1 σ H1 Q I1 q1
theorem jNq (ha:PT X a tA):PT X (.UnaryOp .Not a pos) (n7q tA):=by
  intro pins s σ H Q I h
  exact isTrue_not (ha pins s σ H (λ c H1=>Q (!c) H1) I h)
def kMq (ta tb:TE):TE:=λ σ H Q=>ta σ H λ x H1=>∃ c,x=.bl c/\if c=true then tb σ H1 Q else Q (.bl false) H1
theorem jVq {op} {t:TE} (h:PE X a t):PE X (.BoolOp op [a] pos) t:=λ pins s σ H Q I hw=>BoolOp_one (h pins s σ H Q I hw)
theorem jCq (ha:PE X a ta) (hb:PE X (.BoolOp .And (b::rest) pos) tb):PE X (.BoolOp .And (a::b::rest) pos) (kMq ta tb):=by
  intro pins s σ H Q I h
  refine BoolOp_and (thn (ha pins s σ H _ I h) λ v s1 ⟨x,H1,I1,r1,q1⟩=>?_)
  obtain ⟨c,rfl,q1⟩:=q1
  cases r1
  refine wpAny_truthy_bool ?_
  cases c with
  | true=>exact hb pins s1 σ H1 Q I1 q1
  | false=>exact ⟨.bl false,H1,I1,rfl,q1⟩
end
def SqL (K:PySem.W.Frag) (H:Hp) (a:Addr) (xs:List V):Prop:=
  Rd H a (.lst xs) ∨
    ∃ (o:Obj) (its:Array Value) (n:Nat),K.lookup a=some o/\o.cls=.type "list"/\o.dict=none/\o.data=.seq its n/\its.size<=sizeLine/\Vals xs its.toList
def SqT (K:PySem.W.Frag) (H:Hp) (a:Addr) (xs:List V):Prop:=
  Rd H a (.tup xs) ∨
    ∃ (o:Obj) (its:Array Value) (n:Nat),K.lookup a=some o/\o.cls=.type "tuple"/\o.data=.seq its n/\its.size<=sizeLine/\Vals xs its.toList
def oDq:Value->Option V
  | .none=>some .non
  | .bool b=>some (.bl b)
  | .int i _=>some (.int i)
  | .str x _=>some (.str x)
  | .bytes b _=>some (.byt b)
  | .float b _=>some (.flt b)
  | .ref a=>some (.ref a)
  | .type n=>some (.ty n)
  | _=>none
theorem RelV.abs {x:V} {u:Value} (r:RelV x u):oDq u=some x:=by
  cases x with
  | non=>cases r;rfl
  | bl _=>cases r;rfl
  | int _=>obtain ⟨t,rfl⟩:=r;rfl
  | str _=>obtain ⟨t,rfl⟩:=r;rfl
  | byt _=>obtain ⟨t,rfl⟩:=r;rfl
  | flt _=>obtain ⟨t,rfl⟩:=r;rfl
  | ref _=>cases r;rfl
  | ty _=>cases r;rfl
theorem RelV.inj {x y:V} {u:Value} (r:RelV x u) (q:RelV y u):x=y:=Option.some.inj (r.abs.symm.trans q.abs)
theorem Vals.inj:∀ {xs ys:List V} {us:List Value},Vals xs us->Vals ys us->xs=ys
  | _,_,_,.nil,.nil=>rfl
  | _,_,_,.cons r t,.cons r' t'=>by rw [r.inj r',Vals.inj t t']
section
variable {X:Cx} {pins:List (Addr × Obj)} {σ:St} {H:Hp} {s:Shared} {a:Addr} {xs ys:List V}
theorem SqL.of {K:PySem.W.Frag} (h:H a=some (.lst xs)):SqL K H a xs:=.inl (.inl h)
theorem SqT.of {K:PySem.W.Frag} (h:H a=some (.tup xs)):SqT K H a xs:=.inl (.inl h)
theorem Inv.list (I:Inv X pins σ H s) (h:SqL X.K H a xs):∃ its:List Value,Vals xs its/\PlainL s.heap a its.toArray/\xs.length<=sizeLine:=by
  rcases h with h | ⟨o,its,n,hk,hc,hd,hs,hz,r⟩
  . obtain ⟨z,its,n,r,e⟩:=h.ok I.hok
    exact ⟨its,r,⟨_,n,e,rfl,rfl,rfl⟩,z⟩
  . refine ⟨its.toList,r,⟨o,n,I.kIn a o hk,hc,hd,by simpa using hs⟩,?_⟩
    have e:=r.length
    simp only [Array.length_toList] at e
    omega
theorem Inv.tuple (I:Inv X pins σ H s) (h:SqT X.K H a xs):∃ its:List Value,Vals xs its/\IsTup s.heap a its.toArray/\xs.length<=sizeLine:=by
  rcases h with h | ⟨o,its,n,hk,hc,hs,hz,r⟩
  . obtain ⟨z,its,r,p⟩:=h.ok I.hok
    exact ⟨its,r,p,z⟩
  . refine ⟨its.toList,r,⟨o,I.kIn a o hk,hc,n,by simpa using hs⟩,?_⟩
    have e:=r.length
    simp only [Array.length_toList] at e
    omega
theorem Inv.list_inj (I:Inv X pins σ H s) (h:SqL X.K H a xs) (h':SqL X.K H a ys):xs=ys:=by
  obtain ⟨its,r,⟨o,n,e,_,_,d⟩,_⟩:=I.list h
  obtain ⟨its',r',⟨o',n',e',_,_,d'⟩,_⟩:=I.list h'
  rw [e] at e';cases e'
  rw [d] at d'
  injection d' with d1 _
  have:its=its':=by simpa using congrArg Array.toList d1
  subst this
  exact r.inj r'
theorem Inv.tuple_inj (I:Inv X pins σ H s) (h:SqT X.K H a xs) (h':SqT X.K H a ys):xs=ys:=by
  obtain ⟨its,r,⟨o,e,_,n,d⟩,_⟩:=I.tuple h
  obtain ⟨its',r',⟨o',e',_,n',d'⟩,_⟩:=I.tuple h'
  rw [e] at e';cases e'
  rw [d] at d'
  injection d' with d1 _
  have:its=its':=by simpa using congrArg Array.toList d1
  subst this
  exact r.inj r'
end
abbrev Cx.wish (X:Cx) (E:Value->Shared->Prop):Cx:={ X with xe:=E }
abbrev Cx.nox (X:Cx):Cx:=X.wish λ _ _=>False
theorem Cx.Ok.wish {X:Cx} (ok:X.Ok) (E:Value->Shared->Prop):(X.wish E).Ok:=
  ⟨ok.mod,ok.kind,ok.glob,ok.blt,ok.above,ok.inj,ok.has,ok.cab,ok.hd,ok.frames,ok.stk,ok.exf,ok.bs,ok.bsz,ok.noex,ok.exfs,ok.funs,ok.frf⟩
theorem Cx.Ok.unwish {X:Cx} {E:Value->Shared->Prop} (ok:(X.wish E).Ok):X.Ok:=
  ⟨ok.mod,ok.kind,ok.glob,ok.blt,ok.above,ok.inj,ok.has,ok.cab,ok.hd,ok.frames,ok.stk,ok.exf,ok.bs,ok.bsz,ok.noex,ok.exfs,ok.funs,ok.frf⟩
section
variable {X:Cx} {pins:List (Addr × Obj)} {σ:St} {H:Hp} {s:Shared} {E:Value->Shared->Prop}
theorem Inv.wish (I:Inv X pins σ H s) (E:Value->Shared->Prop):Inv (X.wish E) pins σ H s:=⟨I.ok.wish E,I.os,I.bare,I.base,I.loc,I.cell,I.free,I.freeC,I.pin,I.hok,I.len⟩
theorem Inv.unwish (I:Inv (X.wish E) pins σ H s):Inv X pins σ H s:=⟨I.ok.unwish,I.os,I.bare,I.base,I.loc,I.cell,I.free,I.freeC,I.pin,I.hok,I.len⟩
theorem SP.unwish {D:Ends} {f:Flow} {s':Shared} (h:SP (X.wish E) pins D f s'):SP X pins D f s':=by
  cases f with
  | next=>obtain ⟨σ',H',I,q⟩:=h;exact ⟨σ',H',I.unwish,q⟩
  | brk=>obtain ⟨σ',H',I,q⟩:=h;exact ⟨σ',H',I.unwish,q⟩
  | cont=>obtain ⟨σ',H',I,q⟩:=h;exact ⟨σ',H',I.unwish,q⟩
  | ret u=>obtain ⟨v,σ',H',I,r,q⟩:=h;exact ⟨v,σ',H',I.unwish,r,q⟩
theorem PSs.nox {st:List Stmt} {t:TS} (h:PSs X.nox st t):PSs X st t:=λ pins s σ H D I hw=>
  wpAny_mono (h pins s σ H D (I.wish _) hw) (λ _ _ q=>q.unwish) λ _ _ z=>False.elim z
end
section
variable {X:Cx} {st:Stmt} {rest:List Stmt} {t u:TS} {e:Expr} {te:TE} {pos:Pos}
def k0q:TS:=λ D σ H=>D.nx σ H
def m6q (t u:TS):TS:=λ D σ H=>t { D with nx:=u D } σ H
theorem iFq:PSs X [] k0q:=λ _ _ σ H _ I h=>wpAny_execs_nil ⟨σ,H,I,h⟩
theorem h5q (h1:PS X st t) (h2:PSs X rest u):PSs X (st::rest) (m6q t u):=by
  intro pins s σ H D I h
  refine wpAny_execs_cons (thn (h1 pins s σ H { D with nx:=u D } I h) λ f s1 q=>?_)
  cases f with
  | next=>
    obtain ⟨σ',H',I',q⟩:=q
    exact h2 pins s1 σ' H' D I' q
  | ret v=>exact q
  | brk=>exact q
  | cont=>exact q
theorem j8q (h1:PS X st t):PSs X [st] t:=by
  intro pins s σ H D I h
  refine wpAny_execs_cons (thn (h1 pins s σ H D I h) λ f s1 q=>?_)
  cases f with
  | next=>exact wpAny_execs_nil q
  | ret v=>exact q
  | brk=>exact q
  | cont=>exact q
theorem Inv.quiet {pins:List (Addr × Obj)} {σ:St} {H:Hp} {s:Shared} (I:Inv X pins σ H s):interactive X.env=false:=by simp [interactive,I.ok.kind]
def jYq (te:TE):TS:=λ D σ H=>te σ H λ _ H1=>D.nx σ H1
theorem i7q (he:PE X e te) (hs:swapsWith e none pos.line X.env=pure false:=by rfl):PS X (.Expr e pos) (jYq te):=by
  intro pins s σ H D I h
  exact wpAny_Expr_any (thn (he pins s σ H _ I h) λ v s1 ⟨x,H1,I1,r1,q1⟩=>⟨σ,H1,I1,q1⟩) I.quiet hs
def nDq (te:TE):TS:=λ D σ H=>te σ H D.rt
theorem jMq (he:PE X e te):PS X (.Return (some e) pos) (nDq te):=by
  intro pins s σ H D I h
  exact wpAny_Return_some (thn (he pins s σ H _ I h) λ v s1 ⟨x,H1,I1,r1,q1⟩=>⟨x,σ,H1,I1,r1,q1⟩)
def nPq (c:TT) (t u:TS):TS:=λ D σ H=>c σ H λ b H1=>if b=true then t D σ H1 else u D σ H1
theorem n5q {c:Expr} {a b:List Stmt} {tc:TT} (hc:PT X c tc) (ha:PSs X a t) (hb:PSs X b u):PS X (.If c a b pos) (nPq tc t u):=by
  intro pins s σ H D I h
  refine wpAny_If (thn (hc pins s σ H _ I h) λ d s1 ⟨H1,I1,q1⟩=>?_)
  cases d with
  | true=>exact ha pins s1 σ H1 D I1 q1
  | false=>exact hb pins s1 σ H1 D I1 q1
end
abbrev TG:=V->St->Hp->(St->Hp->Prop)->Prop
def PG (X:Cx) (target:Expr) (t:TG):Prop:=
  ∀ (pins:List (Addr × Obj)) (s:Shared) (σ:St) (H:Hp) (v:V) (u:Value) (Q:St->Hp->Prop),Inv X pins σ H s->RelV v u->t v σ H Q →
    wpAny (model X.prog X.w) X.A (assign target X.env u) (λ _ s'=>∃ σ' H',Inv X pins σ' H' s'/\Q σ' H') X.xe s
abbrev kSq:=V->V->V->Hp->(Hp->Prop)->Prop
def mFq (X:Cx) (t:kSq):Prop:=
  ∀ (pins:List (Addr × Obj)) (s:Shared) (σ:St) (H:Hp) (o i v:V) (ov iv u:Value) (Q:Hp->Prop),Inv X pins σ H s->RelV o ov->RelV i iv->RelV v u->t o i v H Q →
    wpAny (model X.prog X.w) X.A (setItem ov iv u) (λ _ s'=>∃ H',Inv X pins σ H' s'/\Q H') X.xe s
section
variable {X:Cx} {pos:Pos}
def f2q (i:Nat):TG:=λ v σ H Q=>Q (σ.set i (some v)) H
theorem i9q {i:Nat} {x:Str} (hN:X.N.Nodup) (hi:X.N[i]?=some x) (hx:Loc X.env.scope x) (hf:X.fn x=true\/X.env.scope.names.lookup x=some .local:=by first | exact .inl rfl | exact .inr rfl | assumption):PG X (.Name x pos) (f2q i):=by
  intro pins s σ H v u Q I r h
  exact wpAny_assign_Name (eNq I hN hi hx r (λ s' I'=>⟨_,H,I',h⟩) hf)
def nMq (to ti:TE) (t:kSq):TG:=λ v σ H Q=>to σ H λ o H1=>ti σ H1 λ i H2=>t o i v H2 λ H3=>Q σ H3
theorem jLq {o i:Expr} {to ti:TE} {t:kSq} (ho:PE X o to) (hi:PE X i ti) (hs:mFq X t)
    (ha:∀ v,assign (.Subscript o i pos) X.env v=(do
      let ov ← holding [v] (eval o X.env)
      let iv ← holding [v,ov] (eval i X.env)
      standAt pos
      holding [v,ov,iv] (setItem ov iv v)
      release [v,ov,iv] []):=by intro _;rfl):PG X (.Subscript o i pos) (nMq to ti t):=by
  intro pins s σ H v u Q I r h
  rw [ha]
  refine wpAny_bind (wpAny_holding (thn (ho pins s σ H _ I h) λ ov s1 ⟨x,H1,I1,r1,q1⟩=>?_))
  refine wpAny_bind (wpAny_holding (thn (hi pins s1 σ H1 _ I1 q1) λ iv s2 ⟨y,H2,I2,r2,q2⟩=>?_))
  refine wpAny_bind (wpAny_standAt (wpAny_bind (wpAny_holding (thn (hs pins s2 σ H2 x y v ov iv u _ I2 r1 r2 r q2) λ _ s3 ⟨H3,I3,q3⟩=>?_))))
  exact wpAny_release ⟨σ,H3,I3,q3⟩
def iKq (te:TE) (g:TG):TS:=λ D σ H=>te σ H λ x H1=>g x σ H1 D.nx
theorem k3q {tg e:Expr} {te:TE} {g:TG} (he:PE X e te) (hg:PG X tg g) (hs:swapsWithSole [tg] e pos.line X.env=pure false:=by rfl) (hw:swappedStores [tg] e X.env=pure none:=by rfl)
    (h1:(assignEach [tg] X.env).map (·.2)=[assign tg X.env]:=by rfl):PS X (.Assign [tg] e pos) (iKq te g):=by
  intro pins s σ H D I h
  refine wpAny_Assign_stores (thn (he pins s σ H _ I h) λ v s1 ⟨x,H1,I1,r1,q1⟩=>?_) hs hw
  rw [h1]
  exact thn (hg pins s1 σ H1 x v _ I1 r1 q1) λ _ s2 q=>q
theorem jSq {i:Nat} {x:Str} {e:Expr} {te:TE} {pos':Pos} (hN:X.N.Nodup) (hi:X.N[i]?=some x) (hx:Loc X.env.scope x) (he:PE X e te) (hs:swapsWith e (some (.Name x pos')) pos.line X.env=pure false:=by rfl) (hf:X.fn x=true\/X.env.scope.names.lookup x=some .local:=by first | exact .inl rfl | exact .inr rfl | assumption) :
    PS X (.Assign [.Name x pos'] e pos) (iKq te (f2q i)):=by
  intro pins s σ H D I h
  refine wpAny_Assign_Name (thn (he pins s σ H _ I h) λ v s1 ⟨y,H1,I1,r1,q1⟩=>?_) hs
  exact eNq I1 hN hi hx r1 (λ s2 I2=>⟨_,H1,I2,q1⟩) hf
end
section
variable {X:Cx} {pos:Pos}
end
structure It where
  go:Nat->Hp->Prop
  yld:Nat->Hp->V->Hp->Prop
  stop:Nat->Hp->Prop
def eIq (X:Cx) (pins:List (Addr × Obj)) (H:Hp) (b:Addr):Prop:=
  H b=none/\b≠X.env.locals/\b ∉ X.fs/\(b∈X.ex\/X.s₀.heap.objs.size<=b)/\(∀ x c,X.env.cells.lookup x=some c->c≠b)/\∀ p∈X.pn++pins,p.1≠b
theorem Inv.fpOk {X:Cx} {pins:List (Addr × Obj)} {σ:St} {H H':Hp} {s:Shared} {b:Addr} (I:Inv X pins σ H s) (hb:s.heap.objs.size<=b) (hn:H' b=none):eIq X pins H' b:=by
  refine ⟨hn,Nat.ne_of_gt (Nat.lt_of_lt_of_le I.lt hb),I.nofs hb,.inr (Nat.le_trans I.sz hb),λ x c e z=>?_,λ p hp z=>?_⟩
  . obtain ⟨v,q⟩:=I.cell x c e
    exact absurd (Nat.lt_of_lt_of_le q.lt (by rw [z];exact hb)) (Nat.lt_irrefl _)
  . exact absurd (Nat.lt_of_lt_of_le (Heap.lt_size (I.pin p hp).1) (by rw [z];exact hb)) (Nat.lt_irrefl _)
structure Turn (P:Program) (w:World) (K:PySem.W.Frag) (tg:Expr) (J:It) (fp:List Addr) (it:Addr) (tn:Nat->Heap->Prop):Prop where
  mem:it∈fp
  obj:∀ i h,tn i h->∀ b∈fp,∃ o,h.get? b=some o/\∀ v,o.data≠.cell v
  keep:∀ i h h',tn i h->(∀ b∈fp,∀ o,h.get? b=some o->h'.get? b=some o)->tn i h'
  item:∀ (X:Cx),X.prog=P->X.w=w->X.K=K->X.calm=true->∀ (i:Nat) (pins:List (Addr × Obj)) (s:Shared) (σ:St) (H:Hp) (E:Value->Shared->Prop),Inv X pins σ H s->(∀ b∈fp,eIq X pins H b)->tn i s.heap->J.go i H →
    wpAny (model P w) X.A (pyNext (.ref it)) (λ r s1=>∃ u,r=some u ∧
      wpAny (model P w) X.A (letOwnedTupleGo tg (.ref it) u) (λ _ s2=>∃ x H',Inv X pins σ H' s2/\RelV x u/\J.yld i H x H'/\tn (i+1) s2.heap/\∀ b∈fp,H' b=none) E s1) E s
  done:∀ (X:Cx),X.prog=P->X.w=w->X.K=K->X.calm=true->∀ (i:Nat) (pins:List (Addr × Obj)) (s:Shared) (σ:St) (H:Hp) (E:Value->Shared->Prop),Inv X pins σ H s->(∀ b∈fp,eIq X pins H b)->tn i s.heap->J.stop i H →
    wpAny (model P w) X.A (pyNext (.ref it)) (λ r s1=>r=none/\Inv X pins σ H s1) E s
  self:∀ (A:Around) (i:Nat) (s:Shared) (Q:Value->Shared->Prop) (E:Value->Shared->Prop),tn i s.heap->Q (.ref it) s->wpAny (model P w) A (pyIter (.ref it)) Q E s
abbrev TI:=St->Hp->(It->Hp->Prop)->Prop
def PIE (X:Cx) (pins:List (Addr × Obj)) (σ:St) (tg:Expr) (R:It->Hp->Prop) (itv:Value) (s2:Shared):Prop:=
  ∃ (it:Addr) (fp:List Addr) (tn:Nat->Heap->Prop) (J:It) (H':Hp),itv=.ref it/\Inv X pins σ H' s2/\Turn X.prog X.w X.K tg J fp it tn/\tn 0 s2.heap/\(∀ b∈fp,eIq X pins H' b)/\R J H'
def PI (X:Cx) (tg iter:Expr) (wi:TI):Prop:=
  ∀ (pins:List (Addr × Obj)) (s:Shared) (σ:St) (H:Hp) (R:It->Hp->Prop),Inv X pins σ H s->wi σ H R →
    wpAny (model X.prog X.w) X.A (eval iter X.env) (λ v s1=>wpAny (model X.prog X.w) X.A (pyIter v) (PIE X pins σ tg R) X.xe s1) X.xe s
theorem i2q {M:Model} {A:Around} {E:Value->Shared->Prop} {s:Shared} {tg:Expr} {it:Addr} {u:Value} {o:Obj} {n:String} {vs:Array Value} {Q:Unit->Shared->Prop} (ho:s.heap.get? it=some o) (hc:o.cls=.type n) (hd:o.data=.fields vs)
    (hn:["enumerate", "zip", "dict_itemiterator", "dict_reverseitemiterator", "odict_iterator", "itertools.zip_longest", "itertools.pairwise"].contains n=false) (hQ:Q () s):wpAny M A (letOwnedTupleGo tg (.ref it) u) Q E s:=by
  unfold letOwnedTupleGo
  cases tg<;>first
    | exact wpAny_pure hQ
    | (cases u<;>first
        | exact wpAny_pure hQ
        | (refine wpAny_bind (wpAny_load ho ?_)
           rw [hc,hd]
           show wpAny M A (if (["enumerate", "zip", "dict_itemiterator", "dict_reverseitemiterator", "odict_iterator", "itertools.zip_longest", "itertools.pairwise"].contains n&&vs[0]?==some (rawInt _))=true then _ else _) Q E s
           rw [if_neg (by intro h;rw [hn,Bool.false_and] at h;cases h)]
           exact wpAny_pure hQ))
def Itl (K:PySem.W.Frag) (a:Addr):It:=
  ⟨λ i H=>∃ xs x,SqL K H a xs/\xs[i]?=some x,λ i H x H'=>H'=H/\∀ xs,SqL K H a xs->xs[i]?=some x,λ i H=>∃ xs,SqL K H a xs/\xs.length<=i⟩
def Itt (K:PySem.W.Frag) (a:Addr):It:=
  ⟨λ i H=>∃ xs x,SqT K H a xs/\xs[i]?=some x,λ i H x H'=>H'=H/\∀ xs,SqT K H a xs->xs[i]?=some x,λ i H=>∃ xs,SqT K H a xs/\xs.length<=i⟩
def Itr (lo:Int) (n:Nat):It:=⟨λ i _=>i < n,λ i H x H'=>H'=H/\x=.int (lo+i),λ i _=>n<=i⟩
theorem g0q {P:Program} {w:World} {K:PySem.W.Frag} {tg:Expr} (a it:Addr):Turn P w K tg (Itl K a) [it] it (λ i h=>h.IsListIter it a i) where
  mem:=by simp
  obj:=λ i h st b hb=>by
    have e:b=it:=by simpa using hb
    subst e
    obtain ⟨o,e,c,d⟩:=st
    exact ⟨o,e,λ v z=>by rw [d] at z;cases z⟩
  keep:=λ i h h' st k=>st.at λ o e=>k it (by simp) o e
  item:=by
    intro X hP hw hK hc i pins s σ H E I hf st hg
    subst hP hw hK
    obtain ⟨xs,x,hq,hx⟩:=hg
    obtain ⟨its,rv,p,hz⟩:=I.list hq
    obtain ⟨u,hu,ru⟩:=rv.get hx
    obtain ⟨f0,f1,f2,f3,f4,f5⟩:=hf it (by simp)
    refine wpAny_pyNext_list_item st p.isList (x:=u) (by simpa using hu) λ h' st' sb=>?_
    have I1:Inv X pins σ H { s with heap:=h' }:=I.turned (t':=s.toks) (λ b o hb e=>(sb.2 b hb).trans e) f0 f1 f3 f4 f5
    obtain ⟨o,e,c,d⟩:=id st'
    exact ⟨u,rfl,i2q (s:={ s with heap:=h' }) e c d (by decide) ⟨x,H,I1,ru,⟨rfl,λ ys hy=>by rw [I.list_inj hy hq];exact hx⟩,st',λ b hb=>(hf b hb).1⟩⟩
  done:=by
    intro X hP hw hK hc i pins s σ H E I hf st hg
    subst hP hw hK
    obtain ⟨xs,hq,hx⟩:=hg
    obtain ⟨its,rv,p,hz⟩:=I.list hq
    obtain ⟨f0,f1,f2,f3,f4,f5⟩:=hf it (by simp)
    have hl:=rv.length
    exact wpAny_pyNext_list_end (I.ok.hd hc) st p.isList (by simp;omega) λ h' eb=>⟨rfl,I.turned (t':=s.toks) (λ b o hb e=>eb b o hb e) f0 f1 f3 f4 f5⟩
  self:=λ _ _ _ _ _ st h=>wpAny_pyIter_listiter st h
theorem eTq {P:Program} {w:World} {K:PySem.W.Frag} {tg:Expr} (a it:Addr):Turn P w K tg (Itt K a) [it] it (λ i h=>h.IsTupleIter it a i) where
  mem:=by simp
  obj:=λ i h st b hb=>by
    have e:b=it:=by simpa using hb
    subst e
    obtain ⟨o,e,c,d⟩:=st
    exact ⟨o,e,λ v z=>by rw [d] at z;cases z⟩
  keep:=λ i h h' st k=>st.at λ o e=>k it (by simp) o e
  item:=by
    intro X hP hw hK hc i pins s σ H E I hf st hg
    subst hP hw hK
    obtain ⟨xs,x,hq,hx⟩:=hg
    obtain ⟨its,rv,p,hz⟩:=I.tuple hq
    obtain ⟨u,hu,ru⟩:=rv.get hx
    obtain ⟨f0,f1,f2,f3,f4,f5⟩:=hf it (by simp)
    refine wpAny_pyNext_tuple_item st (show s.heap.IsTuple a its.toArray from p) (x:=u) (by simpa using hu) λ h' st' sb=>?_
    have I1:Inv X pins σ H { s with heap:=h' }:=I.turned (t':=s.toks) (λ b o hb e=>(sb.2 b hb).trans e) f0 f1 f3 f4 f5
    obtain ⟨o,e,c,d⟩:=id st'
    exact ⟨u,rfl,i2q (s:={ s with heap:=h' }) e c d (by decide) ⟨x,H,I1,ru,⟨rfl,λ ys hy=>by rw [I.tuple_inj hy hq];exact hx⟩,st',λ b hb=>(hf b hb).1⟩⟩
  done:=by
    intro X hP hw hK hc i pins s σ H E I hf st hg
    subst hP hw hK
    obtain ⟨xs,hq,hx⟩:=hg
    obtain ⟨its,rv,p,hz⟩:=I.tuple hq
    obtain ⟨f0,f1,f2,f3,f4,f5⟩:=hf it (by simp)
    have hl:=rv.length
    exact wpAny_pyNext_tuple_end (I.ok.hd hc) st (show s.heap.IsTuple a its.toArray from p) (by simp;omega) λ h' eb=>⟨rfl,I.turned (t':=s.toks) (λ b o hb e=>eb b o hb e) f0 f1 f3 f4 f5⟩
  self:=λ _ _ _ _ _ st h=>wpAny_pyIter_tupleiter st h
theorem eVq {P:Program} {w:World} {K:PySem.W.Frag} {tg:Expr} (it:Addr) (lo:Int) (n:Nat):Turn P w K tg (Itr lo n) [it] it (λ i h=>IsRangeIter h it (lo+(i:Nat) * 1) ((n:Int) - (i:Nat)) 1) where
  mem:=by simp
  obj:=λ i h st b hb=>by
    have e:b=it:=by simpa using hb
    subst e
    exact ⟨_,st,λ v z=>by
      have z':Data.fields _=Data.cell v:=z
      cases z'⟩
  keep:=λ i h h' st k=>k it (by simp) _ st
  item:=by
    intro X hP hw hK hc i pins s σ H E I hf st hg
    subst hP hw hK
    obtain ⟨f0,f1,f2,f3,f4,f5⟩:=hf it (by simp)
    have W:=Walks.range (prog:=X.prog) (w:=X.w) (I.ok.hd hc) it lo 1 n
    refine W.item i s _ _ hg st λ v h' tk hv st' kk=>?_
    obtain ⟨t,rfl⟩:=hv
    have I1:Inv X pins σ H { s with heap:=h',toks:=tk }:=I.turned (λ b o hb e=>kk b o (by simpa using hb) e) f0 f1 f3 f4 f5
    refine ⟨_,rfl,i2q (s:={ s with heap:=h',toks:=tk }) (n:="range_iterator") st' rfl rfl (by decide) ⟨.int (lo+i),H,I1,⟨t,?_⟩,⟨rfl,rfl⟩,st',λ b hb=>(hf b hb).1⟩⟩
    rw [Int.mul_one]
  done:=by
    intro X hP hw hK hc i pins s σ H E I hf st hg
    subst hP hw hK
    obtain ⟨f0,f1,f2,f3,f4,f5⟩:=hf it (by simp)
    exact wpAny_pyNext_range_end (I.ok.hd hc) st (by have:n<=i:=hg;omega) λ h' eb=>⟨rfl,I.turned (t':=s.toks) (λ b o hb e=>eb b o hb e) f0 f1 f3 f4 f5⟩
  self:=λ _ _ _ _ _ st h=>wpAny_pyIter_rangeiter st h
section
variable {X:Cx} {tg:Expr}
theorem gSq {pins:List (Addr × Obj)} {σ:St} {H:Hp} {s:Shared} {R:It->Hp->Prop} {E:Value->Shared->Prop} {lo hi:Int} {t u v:Tok} {tk:Nat} (I:Inv X pins σ H s) (h1:-(2 ^ 62)<=lo) (h2:lo < 2 ^ 62) (h3:-(2 ^ 62)<=hi) (h4:hi < 2 ^ 62)
    (q:R (Itr lo (hi - lo).toNat) H):wpAny (model X.prog X.w) X.A (pyIter (.ref s.heap.objs.size)) (PIE X pins σ tg R) E { s with heap:=s.heap.push { cls:=.type "range", data:=.fields #[.int lo t,.int hi u,.int 1 v] },toks:=tk }:=by
  refine wpAny_pyIter_range (IsRange.new ..) (small_one h1 h2 h3 h4) ?_
  have I1:Inv X pins σ H { s with heap:=s.heap.push { cls:=.type "range", data:=.fields #[.int lo t,.int hi u,.int 1 v] },toks:=tk }:=I.kept λ b o e=>Heap.get?_push_of_some _ e
  refine ⟨(s.heap.push { cls:=.type "range", data:=.fields #[.int lo t,.int hi u,.int 1 v] }).objs.size,[(s.heap.push { cls:=.type "range", data:=.fields #[.int lo t,.int hi u,.int 1 v] }).objs.size],_,_,H,rfl,
    I1.kept (t':=tk) λ b o e=>Heap.get?_push_of_some _ e,eVq _ lo (hi - lo).toNat,?_,λ b hb=>?_,q⟩
  . have e1:lo+((0:Nat):Int) * 1=lo:=by simp
    have e2:(((hi - lo).toNat:Nat):Int) - ((0:Nat):Int)=Builtin.Range.rangeSize lo hi 1:=by rw [rangeSize_one];split<;>omega
    show IsRangeIter _ _ (lo+((0:Nat):Int) * 1) ((((hi - lo).toNat:Nat):Int) - ((0:Nat):Int)) 1
    rw [e1,e2]
    exact Heap.get?_push_size _ rfl
  . have e:b=(s.heap.push { cls:=.type "range", data:=.fields #[.int lo t,.int hi u,.int 1 v] }).objs.size:=by simpa using hb
    subst e
    exact I1.fpOk (Nat.le_refl _) (I1.hok.fresh (Nat.le_refl _))
def kTq (ta:TA):TI:=λ σ H R=>ta σ H λ vs H1=>∃ j:Int,vs=[.int j]/\-(2 ^ 62)<=j/\j < 2 ^ 62/\R (Itr 0 j.toNat) H1
theorem gGq {a:Expr} {ta:TA} {p pos:Pos} (hg:Gl X "range") (hm:X.mg "range" = none) (ha:PA X [a] ta) (hs:starEach [a] X.env=[(false,eval a X.env)]:=by rfl):PI X tg (.Call (.Name "range" p) [a] [] pos) (kTq ta):=by
  intro pins s σ H R I h
  refine Call_ (e4q I hg hm boot_range (PyProof.Rows.callWith_type1 (thn (ha pos pins s σ H _ I h) λ us s1 ⟨vs,H1,I1,r1,q1⟩=>?_) hs rfl))
  obtain ⟨j,e,q1,q2,q⟩:=q1
  subst e
  cases r1 with
  | cons r rr=>
    cases rr
    obtain ⟨t,rfl⟩:=r
    exact call_range_1 (gSq I1 (by omega) (by omega) q1 q2 (by simpa using q))
def nEq (wi:TI) (g:TG) (tb:TS):TS:=λ D σ H=>wi σ H λ J H1=>∃ W:Nat->Nat->St->Hp->Prop,(∃ m,W 0 m σ H1)/\∀ i m σ H,W i m σ H →
  (J.stop i H/\D.nx σ H)\/(J.go i H/\∃ N:St->Hp->Prop,(∀ σ' H',N σ' H'->∃ m',m' < m/\W (i+1) m' σ' H')/\∀ x H',J.yld i H x H'->g x σ H' λ σ2 H2=>tb { D with nx:=N,ct:=N,bk:=D.nx } σ2 H2)
def eAq (fp:List Addr) (h:Heap):List (Addr × Obj):=fp.filterMap λ b=>(h.get? b).map λ o=>(b,o)
theorem aEq {fp:List Addr} {h:Heap} {b:Addr} {o:Obj} (hb:b∈fp) (e:h.get? b=some o):(b,o)∈eAq fp h:=List.mem_filterMap.mpr ⟨b,hb,by rw [e];rfl⟩
theorem fGq {fp:List Addr} {h:Heap} {p:Addr × Obj} (hp:p∈eAq fp h):p.1∈fp/\h.get? p.1=some p.2:=by
  obtain ⟨b,hb,e⟩:=List.mem_filterMap.mp hp
  cases q:h.get? b with
  | none=>rw [q] at e;cases e
  | some o=>
    rw [q] at e
    have e':(b,o)=p:=Option.some.inj e
    subst e'
    exact ⟨hb,q⟩
theorem Inv.pinned {pins:List (Addr × Obj)} {σ:St} {H:Hp} {s:Shared} {fp:List Addr} (I:Inv X pins σ H s) (hf:∀ b∈fp,eIq X pins H b) (ho:∀ b∈fp,∃ o,s.heap.get? b=some o/\∀ v,o.data≠.cell v):Inv X (pins++eAq fp s.heap) σ H s:=
  I.pins_of λ p hp=>(List.mem_append.mp hp).elim (λ z=>I.pin p (List.mem_append_right _ z)) λ z=>by
    obtain ⟨hb,e⟩:=fGq z
    obtain ⟨f0,f1,f2,_⟩:=hf p.1 hb
    obtain ⟨o,e',d⟩:=ho p.1 hb
    rw [e] at e';cases e'
    exact ⟨e,f0,f1,f2,d⟩
theorem Inv.unpinned {pins pl:List (Addr × Obj)} {σ:St} {H:Hp} {s:Shared} (I:Inv X (pins++pl) σ H s):Inv X pins σ H s:=I.pins_of λ p hp=>I.pin p (List.mem_append_right _ (List.mem_append_left _ hp))
theorem kOq {iter:Expr} {body:List Stmt} {wi:TI} {g:TG} {tb:TS} {pos:Pos} (hp:PassesOwn (model X.prog X.w) X.A X.env X.xe) (hc:X.calm=true) (hi:PI X tg iter wi) (hg:PG X tg g) (hb:PSs X body tb)
    (hs:∀ x,foldedSetIterable iter X.env x=pure x:=by intro _;rfl):PS X (.For tg iter body [] pos) (nEq wi g tb):=by
  intro pins s σ H D I h
  refine wpAny_For (thn (hi pins s σ H _ I h) λ v s1 h1=>thn h1 λ itv s2 h2=>?_) hs
  obtain ⟨it,fp,tn,J,H2,e,I2,T,st2,f2,W,⟨m0,w0⟩,turn⟩:=h2
  subst e
  have stat:∀ {H':Hp},(∀ b∈fp,H' b=none)->∀ b∈fp,eIq X pins H' b:=λ hn b hb=>⟨hn b hb,(f2 b hb).2⟩
  refine codeAny_forLoop_any (λ n s'=>∃ i σ' H',Inv X pins σ' H' s'/\tn i s'.heap/\(∀ b∈fp,H' b=none)/\W i n σ' H') ?_ m0 ⟨0,σ,H2,I2,st2,λ b hb=>(f2 b hb).1,w0⟩
  rintro n s3 ⟨i,σ3,H3,I3,st3,fr3,w3⟩
  rcases turn i n σ3 H3 w3 with ⟨stop,qn⟩ | ⟨go,N,hN,step⟩
  . refine wpAny_passesOwn hp (thn (T.done X rfl rfl rfl hc i pins s3 σ3 H3 X.xe I3 (stat fr3) st3 stop) λ r s4 ⟨hr,I4⟩=>?_)
    subst hr
    exact wpAny_execs_nil ⟨σ3,H3,I4,qn⟩
  . refine wpAny_passesOwn hp (thn (T.item X rfl rfl rfl hc i pins s3 σ3 H3 X.xe I3 (stat fr3) st3 go) λ r s4 ⟨u,hr,h4⟩=>?_)
    subst hr
    refine wpAny_passesOwn hp (thn h4 λ _ s5 ⟨x,H5,I5,r5,y5,st5,fr5⟩=>?_)
    have I5':=I5.pinned (stat fr5) (T.obj _ _ st5)
    refine wpAny_passesOwn hp (thn (hg _ s5 σ3 H5 x u _ I5' r5 (step x H5 y5)) λ _ s6 ⟨σ6,H6,I6,q6⟩=>?_)
    refine wpAny_passesOwn hp (thn (hb _ s6 σ6 H6 _ I6 q6) λ f s7 q7=>?_)
    have again:∀ {σ7:St} {H7:Hp},Inv X (pins++eAq fp s5.heap) σ7 H7 s7->N σ7 H7->∃ m,m < n/\∃ i σ' H',Inv X pins σ' H' s7/\tn i s7.heap/\(∀ b∈fp,H' b=none)/\W i m σ' H':=λ{σ7 H7} I7 n7=>by
      obtain ⟨m',hm,w7⟩:=hN σ7 H7 n7
      refine ⟨m',hm,i+1,σ7,H7,I7.unpinned,T.keep _ _ _ st5 λ b hb o e=>(I7.pin (b,o) (List.mem_append_right _ (List.mem_append_right _ (aEq hb e)))).1,λ b hb=>?_,w7⟩
      obtain ⟨o,e,d⟩:=T.obj _ _ st5 b hb
      exact (I7.pin (b,o) (List.mem_append_right _ (List.mem_append_right _ (aEq hb e)))).2.1
    cases f with
    | next=>obtain ⟨σ7,H7,I7,n7⟩:=q7;exact again I7 n7
    | cont=>obtain ⟨σ7,H7,I7,n7⟩:=q7;exact again I7 n7
    | brk=>obtain ⟨σ7,H7,I7,q7⟩:=q7;exact ⟨σ7,H7,I7.unpinned,q7⟩
    | ret v=>obtain ⟨x7,σ7,H7,I7,r7,q7⟩:=q7;exact ⟨x7,σ7,H7,I7.unpinned,r7,q7⟩
end
abbrev R2:=V->V->Hp->VK->Prop
def OpR (X:Cx) (f:Value->Value->Sem Value) (r:R2):Prop:=
  ∀ (pins:List (Addr × Obj)) (s:Shared) (σ:St) (H:Hp) (x y:V) (v u:Value) (Q:VK),Inv X pins σ H s->RelV x v->RelV y u->r x y H Q →
    wpAny (model X.prog X.w) X.A (f v u) (EP X pins σ Q) X.xe s
def CallR (X:Cx) (f:Value) (r:List V->Hp->VK->Prop):Prop:=
  ∀ (pins:List (Addr × Obj)) (s:Shared) (σ:St) (H:Hp) (xs:List V) (us:List Value) (Q:VK),Inv X pins σ H s->Vals xs us->r xs H Q →
    wpAny (model X.prog X.w) X.A (call f us) (EP X pins σ Q) X.xe s
def o9q (X:Cx) (r:V->Hp->(Bool->Hp->Prop)->Prop):Prop:=
  ∀ (pins:List (Addr × Obj)) (s:Shared) (σ:St) (H:Hp) (x:V) (v:Value) (Q:Bool->Hp->Prop),Inv X pins σ H s->RelV x v->r x H Q →
    wpAny (model X.prog X.w) X.A (truthy v) (TP X pins σ Q) X.xe s
def tOp (r:R2) (ta tb:TE):TE:=λ σ H Q=>ta σ H λ x H1=>tb σ H1 λ y H2=>r x y H2 Q
def rI (C:Int->Int->Prop) (g:Int->Int->V):R2:=λ x y H Q=>∃ i j,x=.int i/\y=.int j/\C i j/\Q (g i j) H
def rI0 (g:Int->Int->V):R2:=λ x y H Q=>∃ i j,x=.int i/\y=.int j/\Q (g i j) H
section
variable {X:Cx} {a b c:Expr} {ta tb tc:TE} {pos:Pos}
theorem lSq (ha:PE X a ta) (hb:PE X b tb) {pins:List (Addr × Obj)} {s:Shared} {σ:St} {H:Hp} {R:V->V->Hp->Prop} (I:Inv X pins σ H s)
    (h:ta σ H λ x H1=>tb σ H1 λ y H2=>R x y H2) {Q:Value->Shared->Prop} {f:Value->Value->Sem Value}
    (hf:∀ v u s2 x y H2,Inv X pins σ H2 s2->RelV x v->RelV y u->R x y H2->wpAny (model X.prog X.w) X.A (f v u) Q X.xe s2) :
    wpAny (model X.prog X.w) X.A (eval a X.env) (λ v s₁=>wpAny (model X.prog X.w) X.A (eval b X.env) (λ u s₂=>wpAny (model X.prog X.w) X.A (f v u) Q X.xe s₂) X.xe s₁) X.xe s:=by
  refine thn (ha pins s σ H _ I h) λ v s1 ⟨x,H1,I1,r1,q1⟩=>?_
  refine thn (hb pins s1 σ H1 _ I1 q1) λ u s2 ⟨y,H2,I2,r2,q2⟩=>?_
  exact hf v u s2 x y H2 I2 r1 r2 q2
theorem lYq {op:Operator} {r:R2} (ho:OpR X (binaryOp op) r) (ha:PE X a ta) (hb:PE X b tb):PE X (.BinOp a op b pos) (tOp r ta tb):=by
  intro pins s σ H Q I h
  exact wpAny_BinOp (lSq ha hb I h λ v u s2 x y H2 I2 rx ry q=>ho pins s2 σ H2 x y v u Q I2 rx ry q)
theorem opI {f:Value->Value->Sem Value} {C:Int->Int->Prop} {g:Int->Int->Int}
    (rule:∀ (i j:Int) (t u:Tok) (s:Shared) (Q:Value->Shared->Prop) (E:Value->Shared->Prop),C i j->Q (.int (g i j) s.toks) { s with toks:=s.toks+1 }->wpAny (model X.prog X.w) X.A (f (.int i t) (.int j u)) Q E s) :
    OpR X f (rI C λ i j=>.int (g i j)):=by
  intro pins s σ H x y v u Q I rx ry h
  obtain ⟨i,j,rfl,rfl,hc,q⟩:=h
  obtain ⟨t,rfl⟩:=rx
  obtain ⟨t',rfl⟩:=ry
  exact rule i j t t' s _ _ hc ⟨.int (g i j),H,I.tok _,⟨_,rfl⟩,q⟩
theorem oJq {f:Value->Value->Sem Value} {g:Int->Int->Int}
    (rule:∀ (i j:Int) (t u:Tok) (s:Shared) (Q:Value->Shared->Prop) (E:Value->Shared->Prop),Q (.int (g i j) s.toks) { s with toks:=s.toks+1 }->wpAny (model X.prog X.w) X.A (f (.int i t) (.int j u)) Q E s) :
    OpR X f (rI0 λ i j=>.int (g i j)):=by
  intro pins s σ H x y v u Q I rx ry h
  obtain ⟨i,j,rfl,rfl,q⟩:=h
  obtain ⟨t,rfl⟩:=rx
  obtain ⟨t',rfl⟩:=ry
  exact rule i j t t' s _ _ ⟨.int (g i j),H,I.tok _,⟨_,rfl⟩,q⟩
theorem n4q {f:Value->Value->Sem Value} {g:Int->Int->Bool}
    (rule:∀ (i j:Int) (t u:Tok) (s:Shared) (Q:Value->Shared->Prop) (E:Value->Shared->Prop),Q (.bool (g i j)) s->wpAny (model X.prog X.w) X.A (f (.int i t) (.int j u)) Q E s) :
    OpR X f (rI0 λ i j=>.bl (g i j)):=by
  intro pins s σ H x y v u Q I rx ry h
  obtain ⟨i,j,rfl,rfl,q⟩:=h
  obtain ⟨t,rfl⟩:=rx
  obtain ⟨t',rfl⟩:=ry
  exact rule i j t t' s _ _ ⟨.bl (g i j),H,I,rfl,q⟩
def nHq (i j:Int):Prop:=0<=j/\j<=1000000/\i.natAbs < 2 ^ 64
def CMul (i j:Int):Prop:=(-(2 ^ 64) < i/\i < 2 ^ 64)\/(-(2 ^ 64) < j/\j < 2 ^ 64)
theorem CMul.ok {i j:Int} (h:CMul i j):IntMulOk i j:=by
  rcases h with ⟨h1,h2⟩ | ⟨h1,h2⟩
  . exact .of_left (intBits_le_64 h1 h2)
  . exact .of_right (intBits_le_64 h1 h2)
theorem op_add:OpR X (binaryOp .Add) (rI0 λ i j=>.int (i+j)):=oJq λ _ _ _ _ _ _ _ q=>add_int q
theorem l6q:OpR X (binaryOp .Mult) (rI CMul λ i j=>.int (i * j)):=opI λ _ _ _ _ _ _ _ hc q=>mul_int q hc.ok
theorem l8q:OpR X (binaryOp .Mod) (rI (λ _ j=>0 < j) λ i j=>.int (i % j)):=opI λ i j _ _ _ _ _ hc q=>by
  have h1:(0:Int) < j:=hc
  exact mod_int' (by omega) (by rw [Int.fmod_eq_emod_of_nonneg i (by omega)];exact q)
theorem kEq:OpR X (binaryOp .Pow) (rI nHq λ i j=>.int (i ^ j.toNat)):=opI λ _ _ _ _ _ _ _ hc q=>pow_int_small hc.1 hc.2.1 hc.2.2 q
end
section
variable {X:Cx} {a b c:Expr} {ta tb tc:TE} {pos:Pos}
theorem m7q:OpR X (compareOp .Lt) (rI0 λ i j=>.bl (decide (i < j))):=n4q λ _ _ _ _ _ _ _ q=>lt_int q
theorem mSq:OpR X (compareOp .Gt) (rI0 λ i j=>.bl (decide (j < i))):=n4q λ _ _ _ _ _ _ _ q=>gt_int q
theorem m5q:OpR X (compareOp .GtE) (rI0 λ i j=>.bl (decide (j<=i))):=n4q λ _ _ _ _ _ _ _ q=>ge_int q
theorem OpR.or {f:Value->Value->Sem Value} {r r':R2} (h:OpR X f r) (h':OpR X f r'):OpR X f (λ x y H Q=>r x y H Q\/r' x y H Q):=by
  intro pins s σ H x y v u Q I rx ry q
  rcases q with q | q
  . exact h pins s σ H x y v u Q I rx ry q
  . exact h' pins s σ H x y v u Q I rx ry q
theorem b6q (b:Expr) {op:CmpOp} (h:op≠.In:=by decide) (h2:op≠.NotIn:=by decide):behindInMarks op b=false:=by
  have e1:(op==CmpOp.In)=false:=by cases op<;>first | rfl | exact absurd rfl h
  have e2:(op==CmpOp.NotIn)=false:=by cases op<;>first | rfl | exact absurd rfl h2
  cases b<;>simp [behindInMarks,e1,e2]
theorem i5q {op:CmpOp} {r:R2} (ho:OpR X (compareOp op) r) (ha:PE X a ta) (hb:PE X b tb) (hm:behindInMarks op b=false):PE X (.Compare a [op] [b] pos) (tOp r ta tb):=by
  intro pins s σ H Q I h
  exact wpAny_Compare1 (lSq ha hb I h λ v u s2 x y H2 I2 rx ry q=>ho pins s2 σ H2 x y v u Q I2 rx ry q) hm
def jTq (t:TE):TT:=λ σ H Q=>t σ H λ x H'=>∃ k,x=.bl k/\Q k H'
theorem j6q {op:CmpOp} {r:R2} (ho:OpR X (compareOp op) r) (ha:PE X a ta) (hb:PE X b tb) (hm:behindInMarks op b=false):PT X (.Compare a [op] [b] pos) (jTq (tOp r ta tb)):=by
  intro pins s σ H Q I h
  refine wpAny_isTrue_Compare1 (thn (ha pins s σ H _ I h) λ v s1 ⟨x,H1,I1,r1,q1⟩=>thn (hb pins s1 σ H1 _ I1 q1) λ u s2 ⟨y,H2,I2,r2,q2⟩=>
    thn (ho pins s2 σ H2 x y v u _ I2 r1 r2 q2) λ c s3 ⟨z,H3,I3,r3,k,e,q3⟩=>?_) hm
  subst e
  cases r3
  exact wpAny_truthy_bool ⟨H3,I3,q3⟩
def mBq (K:PySem.W.Frag) (x:V) (H:Hp) (k:Bool):Prop:=
  match x with
  | .non=>k=false
  | .bl b=>k=b
  | .int i=>k=(i !=0)
  | .str y=>y.length<=sizeLine/\k=((y.length:Int) !=0)
  | .byt y=>y.size<=sizeLine/\k=((y.size:Int) !=0)
  | .ref p=>(∃ xs,SqL K H p xs/\k=!xs.isEmpty)\/(∃ xs,SqT K H p xs/\k=!xs.isEmpty)\/∃ kvs,H p=some (.dK kvs)/\k=!kvs.isEmpty
  | _=>False
theorem eRq {κ:Type} {kvs:List (κ × V)} {vs:List (κ × Value)} (r:KV kvs vs):(!vs.isEmpty)=!kvs.isEmpty:=by
  cases r<;>rfl
theorem c7q {xs:List V} {its:List Value} (r:Vals xs its):(!its.toArray.isEmpty)=!xs.isEmpty:=by
  cases r<;>simp
theorem bZq:(sizeLine:Nat) < 2 ^ 63:=by rw [sizeLine_eq];decide
theorem jUq:o9q X (λ x H Q=>∃ k,mBq X.K x H k/\Q k H):=by
  intro pins s σ H x v Q I rx h
  obtain ⟨k,e,q⟩:=h
  have hl:=bZq
  have hs:sizeLine=16777216:=sizeLine_eq
  cases x with
  | non=>
    cases rx
    have e':k=false:=e
    subst e'
    exact truthy_none ⟨H,I,q⟩
  | bl b=>
    cases rx
    have e':k=b:=e
    subst e'
    exact wpAny_truthy_bool ⟨H,I,q⟩
  | int i=>
    obtain ⟨t,rfl⟩:=rx
    have e':k=(i !=0):=e
    subst e'
    exact PySem.P.truthy_int ⟨H,I,q⟩
  | str y=>
    obtain ⟨t,rfl⟩:=rx
    obtain ⟨hy,e'⟩:y.length<=sizeLine/\k=((y.length:Int) !=0):=e
    subst e'
    exact PySem.P.truthy_str (by omega) ⟨H,I.tok _,q⟩
  | byt y=>
    obtain ⟨t,rfl⟩:=rx
    obtain ⟨hy,e'⟩:y.size<=sizeLine/\k=((y.size:Int) !=0):=e
    subst e'
    exact PySem.W.truthy_bytes (by omega) ⟨H,I.tok _,q⟩
  | ref p=>
    cases rx
    have e':(∃ xs,SqL X.K H p xs/\k=!xs.isEmpty)\/(∃ xs,SqT X.K H p xs/\k=!xs.isEmpty)\/∃ kvs,H p=some (.dK kvs)/\k=!kvs.isEmpty:=e
    rcases e' with ⟨xs,hx,e'⟩ | ⟨xs,hx,e'⟩ | ⟨kvs,hx,e'⟩
    . subst e'
      obtain ⟨its,r,pl,hz⟩:=I.list hx
      have hlen:=r.length
      exact wpAny_truthy_list pl.isList (by simp only [List.size_toArray];omega) ⟨H,I.tok _,by rw [c7q r];exact q⟩
    . subst e'
      obtain ⟨its,r,pl,hz⟩:=I.tuple hx
      have hlen:=r.length
      exact truthy_tuple pl (by simp only [List.size_toArray];omega) ⟨H,I.tok _,by rw [c7q r];exact q⟩
    . subst e'
      obtain ⟨hz,hS,vs,r,m⟩:kvs.length<=sizeLine/\(p==sysModules)=false/\∃ vs,KV kvs vs/\s.heap.DictOf (e0q X.prog X.w) p vs:=I.hok p _ hx
      have hlen:kvs.length=vs.length:=Paired.length r
      exact wpAny_truthy_dict hS m (by omega) ⟨H,I.tok _,by rw [eRq r];exact q⟩
  | _=>exact (show False from e).elim
theorem gNq (ha:PE X a ta) (he:∀ whole,isTrue a X.env whole=(do let v ← whole;standAt a.pos;holding [v] (truthy v))) :
    PT X a (λ σ H Q=>ta σ H λ x H'=>∃ k,mBq X.K x H' k/\Q k H'):=by
  intro pins s σ H Q I h
  exact isTrue_plain (thn (ha pins s σ H _ I h) λ v s1 ⟨x,H1,I1,r1,q1⟩=>jUq pins s1 σ H1 x v Q I1 r1 q1) (he _)
theorem op_add_str:OpR X (binaryOp .Add) (λ x y H Q=>∃ i j,x=.str i/\y=.str j/\i.length+j.length<=sizeLine/\Q (.str (i++j)) H):=by
  intro pins s σ H x y v u Q I rx ry h
  obtain ⟨i,j,rfl,rfl,hz,q⟩:=h
  obtain ⟨t,rfl⟩:=rx
  obtain ⟨t',rfl⟩:=ry
  exact add_str (λ t' tk=>⟨.str (i++j),H,I.tok _,⟨_,rfl⟩,q⟩) hz
theorem gPq {x:V} {us:List Value} (r:Vals [x] us):∃ u,us=[u]/\RelV x u:=by
  cases r with
  | cons r1 r2=>cases r2;exact ⟨_,rfl,r1⟩
theorem mEq {x y:V} {us:List Value} (r:Vals [x,y] us):∃ u w',us=[u,w']/\RelV x u/\RelV y w':=by
  cases r with
  | cons r1 r2=>
    cases r2 with
    | cons r3 r4=>cases r4;exact ⟨_,_,rfl,r1,r3⟩
theorem gEq (hc:X.calm=true):CallR X (.builtin "max") (λ xs H Q=>∃ i j,xs=[.int i,.int j]/\Q (.int (if j > i then j else i)) H):=by
  intro pins s σ H xs us Q I r h
  obtain ⟨i,j,rfl,q⟩:=h
  obtain ⟨u,w',rfl,⟨t,rfl⟩,⟨t',rfl⟩⟩:=mEq r
  refine max_two_ints (I.ok.hd hc) λ h' tk k=>⟨_,H,I.kept k,?_,q⟩
  by_cases hj:j > i
  . rw [if_pos hj,if_pos hj];exact ⟨_,rfl⟩
  . rw [if_neg hj,if_neg hj];exact ⟨_,rfl⟩
theorem g8q:CallR X (.type "int") (λ xs H Q=>(∃ i,xs=[.int i]/\Q (.int i) H)\/∃ k,xs=[.bl k]/\Q (.int (if k then 1 else 0)) H):=by
  intro pins s σ H xs us Q I r h
  rcases h with ⟨i,rfl,q⟩ | ⟨k,rfl,q⟩
  . obtain ⟨u,rfl,t,rfl⟩:=gPq r
    exact call_int_int ⟨.int i,H,I,⟨_,rfl⟩,q⟩
  . obtain ⟨u,rfl,r1⟩:=gPq r
    cases r1
    exact call_int_bool ⟨.int (if k then 1 else 0),H,I.tok _,⟨_,rfl⟩,q⟩
end
structure ObjM (h:Heap) (x dx C:Addr) (mA:Str->Option Value):Prop where
  obj:h.get? x=some (PySem.W.instObj C dx)
  ns:h.Ns1 dx mA
  ne:dx≠x
theorem gDq {h:Heap} {dx:Addr} {mA:Str->Option Value} (n:h.Ns1 dx mA):∃ od,h.get? dx=some od/\∀ name,PySem.W.lookIn name od=some (mA name):=by
  obtain ⟨o,es,ep,ho,hd,hk,_,hm⟩:=n
  refine ⟨o,ho,λ name=>?_⟩
  have e:=hm name
  unfold nsFind findBy at e
  rw [<- Array.find?_toList] at e
  unfold PySem.W.lookIn
  rw [hd]
  dsimp only
  split
  . rename_i y q
    rw [q] at e
    exact congrArg some e
  . rename_i q
    rw [q] at e
    have a:es.toList.any (·.refKey)=false:=by
      rw [List.any_eq_false]
      intro y hy
      obtain ⟨z,t,hkey⟩:=hk y (Array.mem_toList_iff.mp hy)
      simp [DictEntry.refKey,hkey]
    have a':¬ es.toList.any (·.refKey)=true:=by rw [a];exact Bool.false_ne_true
    rw [if_neg a']
    exact congrArg some e
theorem ObjM.look {h:Heap} {x dx C:Addr} {mA:Str->Option Value} (I:ObjM h x dx C mA):∃ od,PySem.W.InstAt h x (PySem.W.instObj C dx) C (some od)/\∀ name,PySem.W.lookIn name od=some (mA name):=
  let ⟨od,ho,hl⟩:=gDq I.ns
  ⟨od,⟨I.obj,rfl,rfl,ho⟩,hl⟩
section
variable {prog:Program} {w:World} {A:Around} {E:Value->Shared->Prop} {s:Shared} {K:PySem.W.Frag} {x dx C f:Addr} {mA:Str->Option Value} {name:Str} {v:Value}
end
section
variable {P:Program} {w:World} {H H':Hp} {h h':Heap} {a C dx:Addr} {fs fs':List (Str × V)}
theorem hXq (hok:HOk P w H h) (e:H a=some (.ins C dx fs)):∃ mA,ObjM h a dx C mA/\(∀ f,mQq (fs.lookup f) (mA f))/\PySem.Within mA (fs.map (·.1))/\fs.length<=1000/\H dx=some (.own a):=by
  obtain ⟨d,z,ne,ob,mA,n,r,q⟩:=(show ObjOk P w H h a (.ins C dx fs) from hok a _ e)
  exact ⟨mA,⟨ob,n,ne⟩,r,q,z,d⟩
end
structure Cls (K:PySem.W.Frag) (C:Addr):Prop where
  pg:PySem.W.plainGet K C Str.empty=true
  hd:PySem.W.hasDictIn K C=true
  po:PySem.W.plainOver K C=true
  sa:PySem.W.findIn K (.ref C) "__setattr__" = some (some (.builtin "object.__setattr__"))
theorem Cls.get {K:PySem.W.Frag} {C:Addr} (c:Cls K C) (f:Str):PySem.W.plainGet K C f=true:=c.pg
section
variable {X:Cx} {pins:List (Addr × Obj)} {σ:St} {H:Hp} {s:Shared} {a C dx:Addr} {fs:List (Str × V)} {f:Str} {v:V} {A:Around} {E:Value->Shared->Prop}
end
section
variable {X:Cx} {o e value:Expr} {f:Str} {pos pos' tpos:Pos} {ta tv:TE}
end
section
variable {X:Cx} {pins:List (Addr × Obj)} {σ:St} {H:Hp} {s:Shared} {A:Around} {E:Value->Shared->Prop} {Q:Value->Shared->Prop} {c:Value} {b:Bool}
inductive TyOf (K:PySem.W.Frag) (H:Hp):V->Value->Prop where
  | non:TyOf K H .non (.type "NoneType")
  | bl (x:Bool):TyOf K H (.bl x) (.type "bool")
  | int (i:Int):TyOf K H (.int i) (.type "int")
  | str (x:Str):TyOf K H (.str x) (.type "str")
  | flt (x:UInt64):TyOf K H (.flt x) (.type "float")
  | lst {a:Addr} {xs:List V} (e:H a=some (.lst xs)):TyOf K H (.ref a) (.type "list")
  | frz {a:Addr} {o:Obj} {xs:List V} (e:H a=some (.frz o (.lst xs))):TyOf K H (.ref a) (.type "list")
  | tup {a:Addr} {xs:List V} (e:H a=some (.tup xs)):TyOf K H (.ref a) (.type "tuple")
  | dK {a:Addr} {kvs:List (Key × V)} (e:H a=some (.dK kvs)):TyOf K H (.ref a) (.type "dict")
  | dT {a:Addr} {kvs:List (List Key × V)} (e:H a=some (.dT kvs)):TyOf K H (.ref a) (.type "dict")
  | ins {a C dx:Addr} {fs:List (Str × V)} (e:H a=some (.ins C dx fs)) (cl:Cls K C) (ha:PySem.W.findIn K (.ref C) "__class__" = some (some (.builtin "object.__class__")))
      (hn:PySem.W.specialIn K (.builtin "object.__class__") "__get__" = some (some (.builtin "getset_descriptor.__get__"))) (htk:PySem.W.takesIn K (.builtin "object.__class__")=some true)
      (hm:PySem.W.mroIn K C (.type "object")=some true):TyOf K H (.ref a) (.ref C)
theorem g9q {x:V} {u t:Value} (I:Inv X pins σ H s) (rx:RelV x u) (ty:TyOf X.K H x t) (e:PySem.W.kitOne X.K t c=some b) (h:∀ tk,Q (.bool b) { s with toks:=tk }) :
    wpAny (model X.prog X.w) A (call (.builtin "isinstance") [u,c]) Q E s:=by
  cases ty with
  | non=>cases (show u=Value.none from rx);exact PySem.W.kia_one PySem.W.kitx_none I.kIn True.intro e (λ z=>nomatch z) h
  | bl y=>cases (show u=Value.bool y from rx);exact PySem.W.kia_one PySem.W.kitx_bool I.kIn True.intro e (λ z=>nomatch z) h
  | int i=>obtain ⟨t,q⟩:=(show ∃ t,u=Value.int i t from rx);cases q;exact PySem.W.kia_one PySem.W.kitx_int I.kIn True.intro e (λ z=>nomatch z) h
  | str y=>obtain ⟨t,q⟩:=(show ∃ t,u=Value.str y t from rx);cases q;exact PySem.W.kia_one PySem.W.kitx_str I.kIn True.intro e (λ z=>nomatch z) h
  | flt y=>obtain ⟨t,q⟩:=(show ∃ t,u=Value.float y t from rx);cases q;exact PySem.W.kia_one PySem.W.kitx_float I.kIn True.intro e (λ z=>nomatch z) h
  | @lst a xs ea=>
    cases (show u=Value.ref a from rx)
    obtain ⟨_,_,n,_,h1⟩:=(show ObjOk X.prog X.w H s.heap a (.lst xs) from I.hok a _ ea)
    exact PySem.W.kia_one PySem.W.kitx_list I.kIn ⟨_,h1,rfl⟩ e (λ z=>nomatch z) h
  | @frz a ob xs ea=>
    cases (show u=Value.ref a from rx)
    obtain ⟨_,_,_,n,_,h1⟩:=(show ObjOk X.prog X.w H s.heap a (.frz ob (.lst xs)) from I.hok a _ ea)
    exact PySem.W.kia_one PySem.W.kitx_list I.kIn ⟨_,h1,rfl⟩ e (λ z=>nomatch z) h
  | @tup a xs ea=>
    cases (show u=Value.ref a from rx)
    obtain ⟨_,_,_,p⟩:=(show ObjOk X.prog X.w H s.heap a (.tup xs) from I.hok a _ ea)
    obtain ⟨o,h1,h2,_⟩:=p
    exact PySem.W.kia_one PySem.W.kitx_tuple I.kIn ⟨o,h1,h2⟩ e (λ z=>nomatch z) h
  | @dK a kvs ea=>
    cases (show u=Value.ref a from rx)
    obtain ⟨_,_,vs,_,p⟩:=(show ObjOk X.prog X.w H s.heap a (.dK kvs) from I.hok a _ ea)
    obtain ⟨o,es,ep,h1,h2,_⟩:=p
    exact PySem.W.kia_one PySem.W.kitx_dict I.kIn ⟨o,h1,h2.1⟩ e (λ z=>nomatch z) h
  | @dT a kvs ea=>
    cases (show u=Value.ref a from rx)
    obtain ⟨_,_,xs,_,o,es,ep,h1,h2,_⟩:=(show ObjOk X.prog X.w H s.heap a (.dT kvs) from I.hok a _ ea)
    exact PySem.W.kia_one PySem.W.kitx_dict I.kIn ⟨o,h1,h2.1⟩ e (λ z=>nomatch z) h
  | @ins a C dx fs ea cl ha hn htk hm=>
    cases (show u=Value.ref a from rx)
    obtain ⟨mA,O,_⟩:=hXq I.hok ea
    obtain ⟨od,J,_⟩:=O.look
    exact PySem.W.kia_one (PySem.W.kitx_own (cl.get _) cl.hd ha hn htk hm) I.kIn J e (λ z=>nomatch z) h
end
structure Room (k:Nat) (A:Around):Prop where
  hd:A.handled=none
  dp:A.depth+3 * k+5 < recursionLimit
  un:A.units+16 * k+200 < cLine
theorem Room.mono {j k:Nat} {A:Around} (r:Room k A) (h:j<=k):Room j A:=⟨r.hd,by have:=r.dp;omega,by have:=r.un;omega⟩
theorem Room.deeper {k:Nat} {A:Around} (r:Room (k+1) A) (env:Env):Room k (A.deeper env):=
  ⟨r.hd,by have:=r.dp;show A.depth+1+3 * k+5 < _;omega,by have:=r.un;show A.units+3+16 * k+200 < _;omega⟩
theorem Room.depth {k:Nat} {A:Around} (r:Room k A):A.depth < recursionLimit:=by have:=r.dp;omega
def nGq:TA:=λ _ H Q=>Q [] H
def jHq (ta:TE) (tr:TA):TA:=λ σ H Q=>ta σ H λ x H1=>tr σ H1 λ xs H2=>Q (x::xs) H2
section
variable {X:Cx} {e:Expr} {es:List Expr} {te:TE} {t:TA} {pos:Pos}
theorem jBq:PA X [] nGq:=λ _ _ _ _ H Q I h=>Calls.spliced_nil ⟨[],H,I,.nil,h⟩
theorem i8q (ha:PE X e te) (hr:PA X es t) (hs:starEach (e::es) X.env=(false,eval e X.env)::starEach es X.env:=by rfl):PA X (e::es) (jHq te t):=by
  intro pos pins s σ H Q I h
  rw [hs]
  show wpAny _ _ (spliced ((false,eval e X.env)::backTo pos (starEach es X.env))) _ _ s
  refine Calls.spliced_cons (thn (ha pins s σ H _ I h) λ u s1 ⟨x,H1,I1,r1,q1⟩=>?_)
  exact thn (hr pos pins s1 σ H1 _ I1 q1) λ us s2 ⟨xs,H2,I2,r2,q2⟩=>⟨x::xs,H2,I2,.cons r1 r2,q2⟩
def n9q (t:TA):TE:=λ σ H Q=>t σ H λ xs H1=>xs.length<=sizeLine/\∀ p,H1 p=none->Q (.ref p) (upd H1 p (.tup xs))
def nAq (t:TA):TE:=λ σ H Q=>t σ H λ xs H1=>xs.length<=sizeLine/\∀ p,H1 p=none->Q (.ref p) (upd H1 p (.lst xs))
theorem jIq {x1} (h:PA X es t):PE X (.Tuple es x1 pos) (n9q t):=by
  intro pins s σ H Q I hq
  refine wpAny_Tuple_spliced (thn (h pos pins s σ H _ I hq) λ us s1 ⟨xs,H1,I1,r,z,q⟩=>⟨by rw [<- r.length];exact z,?_⟩)
  have hf:H1 s1.heap.objs.size=none:=I1.hok.fresh (Nat.le_refl _)
  refine ⟨.ref s1.heap.objs.size,upd H1 s1.heap.objs.size (.tup xs),I1.laid (t':=s1.toks) (λ b u e=>Heap.get?_push_of_some _ e) (Nat.le_refl _) ?_,rfl,q _ hf⟩
  exact ⟨z,us,r,⟨_,Heap.get?_push_size _ rfl,rfl,_,rfl⟩⟩
theorem kJq (h:PA X es t):PE X (.List es pos) (nAq t):=by
  intro pins s σ H Q I hq
  refine wpAny_List_spliced (thn (h pos pins s σ H _ I hq) λ us s1 ⟨xs,H1,I1,r,z,q⟩=>⟨by rw [<- r.length];exact z,?_⟩)
  have hf:H1 s1.heap.objs.size=none:=I1.hok.fresh (Nat.le_refl _)
  refine ⟨.ref s1.heap.objs.size,upd H1 s1.heap.objs.size (.lst xs),I1.laid (t':=s1.toks) (λ b u e=>Heap.get?_push_of_some _ e) (Nat.le_refl _) ?_,rfl,q _ hf⟩
  exact ⟨z,us,0,r,Heap.get?_push_size _ rfl⟩
end
abbrev Sp:=List V->Hp->VK->XK->Prop
abbrev CXT:=List Env->Hp->Shared->XK->Value->Shared->Prop
structure Env0 (P:Program) (w:World) (K:PySem.W.Frag) (mg:Str->Option Value) (base:Heap) (A:Around) (outer:List Env) (s:Shared) (H:Hp):Prop where
  frames:A.frames=some outer
  mod:Mod K mg base
  bs:∀ b o,base.get? b=some o->s.heap.get? b=some o/\H b=none
  bsz:base.objs.size<=s.heap.objs.size
  funs:s.heap.FunFrames base outer
  frf:∀ b∈frs outer,H b=none
  hok:HOk P w H s.heap
  bare:AllBare s.gens
def CE (outer:List Env) (P:Program) (w:World) (H:Hp) (s:Shared) (Q:VK) (u:Value) (s':Shared):Prop:=
  ∃ v H',s'.os=s.os/\AllBare s'.gens/\Un (frs outer) [] H H' s.heap s'.heap/\HOk P w H' s'.heap/\RelV v u/\Q v H'
def CR (CX:CXT) (outer:List Env) (P:Program) (w:World) (H:Hp) (s:Shared) (Q:VK) (E:XK) (r:Result) (s':Shared):Prop:=
  match r with
  | .ok (.ret u)=>CE outer P w H s Q u s'
  | .ok _=>False
  | .error e=>CX outer H s E e s'
structure FnOk (P:Program) (w:World) (K:PySem.W.Frag) (mg:Str->Option Value) (base:Heap) (CX:CXT) (k:Nat) (f:Addr) (fd:FuncData) (ps:List Str) (sp:Sp):Prop where
  len:∀ vs H Q E,sp vs H Q E->vs.length=ps.length
  run:∀ (A:Around) (outer:List Env) (s:Shared) (H:Hp) (args:Args) (us:List Value) (vs:List V) (Q:VK) (E:XK),Room k A->Env0 P w K mg base A outer s H->BindsTo s fd args (ps.zip us)->Vals vs us->sp vs H Q E →
    codeAny (model P w) A (.call (.ref f) args) (CR CX outer P w H s Q E) s
section
variable {X:Cx} {pins:List (Addr × Obj)} {σ:St} {H:Hp} {s s':Shared}
theorem Inv.env0 (I:Inv X pins σ H s):Env0 X.prog X.w X.K X.mg X.base X.A X.stack s H:=
  ⟨I.ok.frames,I.ok.mod,I.bs,Nat.le_trans I.ok.bsz I.sz,I.stack,I.stkFree,I.hok,I.bare⟩
theorem Inv.after {Q:VK} {u:Value} (I:Inv X pins σ H s) (h:CE X.stack X.prog X.w H s Q u s'):EP X pins σ Q u s':=by
  obtain ⟨v,H',os,bare,un,hok,r,q⟩:=h
  obtain ⟨hh,g,d,t,os'⟩:=s'
  obtain rfl:os'=s.os:=os
  exact ⟨v,H',I.call (h':=hh) (g':=g) (d':=d) (t':=t) (ch:=[]) un hok bare (λ b z=>absurd z (by simp)),r,q⟩
end
def i1q (sp:Sp) (dvs:List V) (E:XK) (t:TA):TE:=λ σ H Q=>t σ H λ vs H1=>sp (vs++dvs) H1 Q E
def Binds (K:PySem.W.Frag) (fd:FuncData) (ps:List Str) (ds:List Value):Prop:=
  ∀ (s:Shared) (us:List Value),K.In s.heap->(us++ds).length=ps.length->BindsTo s fd ⟨us,[]⟩ (ps.zip (us++ds))
theorem Binds.all {K:PySem.W.Frag} {fd:FuncData} {ps:List Str} (h:∀ us:List Value,us.length=ps.length->bindArgs fd ⟨us,[]⟩=pure (ps.zip us)):Binds K fd ps []:=λ s us _ hl=>by
  rw [List.append_nil] at hl ⊢
  exact .of_eq (h us hl)
def fMq (CX:CXT) (X:Cx) (E:XK):Prop:=∀ (pins:List (Addr × Obj)) (σ:St) (H:Hp) (s:Shared) (e:Value) (s':Shared),Inv X pins σ H s->CX X.stack H s E e s'->X.xe e s'
section
variable {X:Cx} {CX:CXT} {k:Nat} {f C:Addr} {fd:FuncData} {ps:List Str} {sp:Sp} {dvs:List V} {ds:List Value} {E:XK} {x m:Str} {p pos apos:Pos} {e o:Expr} {es:List Expr} {ta:TE} {t:TA}
theorem k6q {pins:List (Addr × Obj)} {σ:St} {H:Hp} {s:Shared} {Q:VK} {us:List Value} {vs:List V} (F:FnOk X.prog X.w X.K X.mg X.base CX k f fd ps sp) (hr:Room k X.A) (hb:Binds X.K fd ps ds) (hd:Vals dvs ds) (hx:fMq CX X E)
    (I:Inv X pins σ H s) (r:Vals vs us) (h:sp (vs++dvs) H Q E):wpAny (model X.prog X.w) X.A (call (.ref f) us) (EP X pins σ Q) X.xe s:=by
  have r2:Vals (vs++dvs) (us++ds):=r.append hd
  have hl:(us++ds).length=ps.length:=by rw [<- r2.length];exact F.len _ _ _ _ h
  refine wpAny_call (codeAny_mono (F.run X.A X.stack s H ⟨us,[]⟩ (us++ds) (vs++dvs) Q E hr I.env0 (hb s us I.kIn hl) r2 h) λ r s' hq=>?_)
  cases r with
  | error e=>exact hx pins σ H s e s' I hq
  | ok fl=>
    cases fl with
    | ret u=>exact I.after hq
    | next=>exact False.elim hq
    | brk=>exact False.elim hq
    | cont=>exact False.elim hq
theorem j0q (F:FnOk X.prog X.w X.K X.mg X.base CX k f fd ps sp) (hr:Room k X.A) (hg:Gl X x) (hm:X.mg x=some (.ref f)) (hk:PySem.W.keepIn X.K (.ref f)=true) (hb:Binds X.K fd ps ds) (hd:Vals dvs ds) (hx:fMq CX X E)
    (ha:PA X (e::es) t) (hdb:(x==("__debug__" : Str))=false:=by decide) (he:starEach (e::es) X.env=(false,eval e X.env)::starEach es X.env:=by rfl) (hpl:(backTo pos (starEach es X.env)).any (·.1)=false:=by rfl) :
    PE X (.Call (.Name x p) (e::es) [] pos) (i1q sp dvs E t):=by
  intro pins s σ H Q I h
  refine wpAny_Call_Name_kw (hWq I hg hm ?_ hdb)
  refine PySem.W.callWith_K (h₀:=X.base) I.ok.mod.kin hk (thn (ha pos pins s σ H _ I h) λ us s1 ⟨vs,H1,I1,r,q⟩=>⟨I1.kIn,?_⟩) he hpl
  exact k6q F hr hb hd hx I1 r q
end
section
variable {X:Cx} {CX:CXT} {k:Nat} {f C:Addr} {fd:FuncData} {ps ks:List Str} {sp:Sp} {E:XK} {x m:Str} {p pos apos kpos:Pos} {e o:Expr} {es:List Expr} {kws:List Keyword} {te ta:TE} {t tk:TA} {nm:Option Str}
variable {g:List Value->List Value->List Value} {gV:List V->List V->List V}
end
structure FnScope (N P:List Str) (sc:Scope):Prop where
  kind:sc.kind=.function
  co:sc.isCoroutine=false
  gen:sc.isGenerator=false
  nd:N.Nodup
  pre:N.take P.length=P
  par:∀ x∈P,sc.names.lookup x=some .local\/sc.names.lookup x=some .cell
  nofree:∀ y∈sc.names,y.2≠.free
theorem d6q {kindOf:Str->Option NameKind} {x:Str}:∀ {binds:List (Str × Value)} {m:Str->Option Value},(∀ v,(x,v) ∉ binds)->bindL kindOf binds m x=m x
  | [],_,_=>rfl
  | (n,v)::r,m,h=>by
    unfold bindL
    rw [d6q λ w hw=>h w (List.mem_cons_of_mem _ hw)]
    split
    . have:x≠n:=by rintro rfl;exact h v List.mem_cons_self
      simp [this]
    . rfl
theorem dCq {kindOf:Str->Option NameKind} {x:Str}:∀ {binds:List (Str × Value)} {m:Str->Option Value},(∀ v,(x,v) ∉ binds)->bindC kindOf binds m x=m x
  | [],_,_=>rfl
  | (n,v)::r,m,h=>by
    unfold bindC
    rw [dCq λ w hw=>h w (List.mem_cons_of_mem _ hw)]
    split
    . rfl
    . have:x≠n:=by rintro rfl;exact h v List.mem_cons_self
      simp [this]
theorem d4q {kindOf:Str->Option NameKind} {x:Str} {v:Value}:∀ {P:List Str} {vs:List Value} {i:Nat} {m:Str->Option Value},P.Nodup->P[i]?=some x->vs[i]?=some v->kindOf x=some .local →
    bindL kindOf (P.zip vs) m x=some v
  | [],_,_,_,_,h,_,_=>by simp at h
  | _::_,[],_,_,_,_,h,_=>by simp at h
  | p::P,w::vs,0,m,nd,h1,h2,hk=>by
    simp at h1 h2;subst h1;subst h2
    show bindL kindOf ((p,w)::P.zip vs) m p=_
    unfold bindL
    rw [d6q λ v hv=>(List.nodup_cons.mp nd).1 (List.of_mem_zip hv).1,if_pos hk]
    simp
  | p::P,w::vs,i+1,m,nd,h1,h2,hk=>by
    show bindL kindOf ((p,w)::P.zip vs) m x=_
    unfold bindL
    exact d4q (i:=i) (List.nodup_cons.mp nd).2 (by simpa using h1) (by simpa using h2) hk
theorem d0q {kindOf:Str->Option NameKind} {x:Str} {v:Value}:∀ {P:List Str} {vs:List Value} {i:Nat} {m:Str->Option Value},P.Nodup->P[i]?=some x->vs[i]?=some v->kindOf x≠some .local →
    bindC kindOf (P.zip vs) m x=some v
  | [],_,_,_,_,h,_,_=>by simp at h
  | _::_,[],_,_,_,_,h,_=>by simp at h
  | p::P,w::vs,0,m,nd,h1,h2,hk=>by
    simp at h1 h2;subst h1;subst h2
    show bindC kindOf ((p,w)::P.zip vs) m p=_
    unfold bindC
    rw [dCq λ v hv=>(List.nodup_cons.mp nd).1 (List.of_mem_zip hv).1,if_neg hk]
    simp
  | p::P,w::vs,i+1,m,nd,h1,h2,hk=>by
    show bindC kindOf ((p,w)::P.zip vs) m x=_
    unfold bindC
    exact d0q (i:=i) (List.nodup_cons.mp nd).2 (by simpa using h1) (by simpa using h2) hk
def b3q (N:List Str) (vs:List V):St:=vs.map some++List.replicate (N.length - vs.length) none
def f3q (CX:CXT) (P:Program) (w:World) (K:PySem.W.Frag) (mg:Str->Option Value) (base:Heap) (N:List Str) (qual:Str) (scope:Scope) (f:Addr) (cd:Value) (A:Around) (outer:List Env) (s:Shared) (H:Hp) (E:XK):Cx where
  prog:=P
  w:=w
  K:=K
  mg:=mg
  base:=base
  A:=A.deeper (envOfC qual scope s.heap.objs.size f cd)
  N:=N
  s₀:=s
  H₀:=H
  env:=envOfC qual scope s.heap.objs.size f cd
  outer:=outer
  stack:=envOfC qual scope s.heap.objs.size f cd::outer
  ex:=[]
  calm:=true
  fn:=λ _=>true
  pn:=[]
  xe:=λ e s'=>wpAny (model P w) (A.deeper (envOfC qual scope s.heap.objs.size f cd)) (leaving (envOfC qual scope s.heap.objs.size f cd) e) (λ _ s''=>CX outer H s E e s'') (λ e' s''=>CX outer H s E e' s'') s'
theorem eBq {sc:Scope} {n:Nat} {x:Str} (h:sc.names.lookup x=some .cell):∃ c,(cellsFrom n sc.names []).lookup x=some c:=by
  have q:=PySem.W.cellsFrom_some sc.names n [] (.inl h)
  exact Option.isSome_iff_exists.mp q
theorem dBq {CX:CXT} {P:Program} {w:World} {K:PySem.W.Frag} {mg:Str->Option Value} {base:Heap} {N ps:List Str} {qual:Str} {scope:Scope} {f:Addr} {cd:Value} {A:Around} {outer:List Env} {s s1:Shared} {H:Hp} {E:XK} {us:List Value} {vs:List V}
    (S:FnScope N ps scope) (hd:A.handled=none) (e0:Env0 P w K mg base A outer s H) (hl:vs.length=ps.length) (r:Vals vs us)
    (x:InCallC s s.heap.objs.size (bindL (envOfC qual scope s.heap.objs.size f cd).kindOf (ps.zip us) λ _=>none) (cellsFrom (s.heap.objs.size+1) scope.names []) (bindC (envOfC qual scope s.heap.objs.size f cd).kindOf (ps.zip us) λ _=>none) s1) :
    Inv (f3q CX P w K mg base N qual scope f cd A outer s H E) [] (b3q N vs) H s1:=by
  have hpl:ps.length<=N.length:=by have:=congrArg List.length S.pre;rw [List.length_take] at this;omega
  obtain ⟨h1,tk,rfl,hk⟩:=x.done
  have noA:∀ b:Addr,b ∉ (f3q CX P w K mg base N qual scope f cd A outer s H E).ex:=λ b z=>absurd (show b∈([]:List Addr) from z) (by simp)
  refine ⟨⟨e0.mod,S.kind,rfl,rfl,Nat.le_refl _,λ y z c h1 h2=>?_,λ y hy=>?_,λ y c _ h=>?_,λ _=>hd,Around.frames_deeper e0.frames,.inr ⟨rfl,rfl⟩,λ b z=>absurd z (noA b),e0.bs,e0.bsz,λ b _ _=>noA b,λ b z=>absurd z (noA b),e0.funs,e0.frf⟩,
    rfl,e0.bare,Un.kept hk,⟨_,x.toInCall.ns,λ i y v h1 h2 h3=>?_⟩,λ y c h=>⟨_,x.cell y c h⟩,e0.hok.fresh (Nat.le_refl _),λ y c h=>?_,λ p hp=>absurd (show p∈([]:List (Addr × Obj)) from hp) (by simp),e0.hok.kept hk,?_⟩
  . exact name_of_addr x.apart (PySem.mem_of_lookup h1) (PySem.mem_of_lookup h2)
  . have hy:scope.names.lookup y=some .cell\/scope.names.lookup y=some .free:=hy
    rcases hy with hy | hy
    . exact eBq hy
    . exact absurd rfl (S.nofree _ (PySem.mem_of_lookup hy))
  . exact Nat.le_of_lt (x.above y c (PySem.mem_of_lookup h))
  . have hi:i < vs.length:=by
      unfold b3q at h2
      by_cases hi:i < vs.length
      . exact hi
      . rw [List.getElem?_append_right (by simpa using hi)] at h2
        rw [List.getElem?_replicate] at h2
        split at h2<;>cases h2
    have ha:vs[i]?=some v:=by
      unfold b3q at h2
      rw [List.getElem?_append_left (by simpa using hi),List.getElem?_map] at h2
      cases e:vs[i]? with
      | none=>rw [e] at h2;cases h2
      | some a=>rw [e] at h2;cases h2;rfl
    obtain ⟨u,hu,rv⟩:=r.get ha
    have hp:ps[i]?=some y:=by
      rw [<- S.pre,List.getElem?_take_of_lt (by omega)];exact h1
    have ndP:ps.Nodup:=by rw [<- S.pre];exact S.nd.sublist (List.take_sublist _ _)
    refine ⟨u,rv,?_⟩
    rcases S.par y (List.mem_of_getElem? hp) with k | k
    . exact .inl ⟨k,d4q ndP hp hu k⟩
    . obtain ⟨c,e⟩:=eBq (n:=s.heap.objs.size+1) k
      refine .inr ⟨.inl k,c,e,?_⟩
      have q:=x.cell y c e
      rw [d0q ndP hp hu (by show scope.names.lookup y≠_;rw [k];decide)] at q
      exact q
  . exact e0.hok.fresh (Nat.le_of_lt (x.above y c (PySem.mem_of_lookup h)))
  . unfold b3q
    show _=N.length
    rw [List.length_append,List.length_map,List.length_replicate]
    omega
theorem m3q {CX:CXT} {P:Program} {w:World} {K:PySem.W.Frag} {mg:Str->Option Value} {base:Heap} {k:Nat} {f:Addr} {name qual:Str} {params:Arguments} {body:List Stmt} {scope:Scope} {dV kV doc pm cdv ct oc:Value} {an od:Option Addr}
    {osl:Array (Option Value)} {N ps:List Str} {sp:Sp} (lk:K.lookup f=some ⟨oc,od,.func (PySem.W.fnOf name qual params body scope dV kV doc pm an cdv ct),osl⟩) (hcd:PySem.W.codeIn K cdv qual=true) (S:FnScope N ps scope)
    (len:∀ vs H Q E,sp vs H Q E->vs.length=ps.length)
    (hbody:∀ (A:Around) (outer:List Env) (s:Shared) (H:Hp) (vs:List V) (Q:VK) (E:XK),Room k (A.deeper (envOfC qual scope s.heap.objs.size f cdv))->sp vs H Q E →
      ∃ t,PSs (f3q CX P w K mg base N qual scope f cdv A outer s H E) body t/\t { nx:=λ _ H'=>Q .non H',rt:=Q } (b3q N vs) H) :
    FnOk P w K mg base CX (k+1) f (PySem.W.fnOf name qual params body scope dV kV doc pm an cdv ct) ps sp:=by
  refine ⟨len,λ A outer s H args us vs Q E hr e0 hb r hsp=>?_⟩
  have hl:=len _ _ _ _ hsp
  have KX:K.In s.heap:=e0.mod.kin.keeps λ b o e=>(e0.bs b o e).1
  have lim:s.heap.NoLimit:=e0.mod.nolimit.keeps λ b o e=>(e0.bs b o e).1
  have hkind:∀ y∈ps.zip us,scope.names.lookup y.1=some .local\/(scope.names.lookup y.1=some .cell/\((cellsFrom (s.heap.objs.size+1) scope.names []).lookup y.1).isSome=true):=λ⟨n,v⟩ hy=>by
    rcases S.par n (List.of_mem_zip hy).1 with q | q
    . exact .inl q
    . exact .inr ⟨q,PySem.W.cellsFrom_some _ _ _ (.inl q)⟩
  refine codeAny_call_function hr.depth (KX _ _ lk) rfl S.co S.gen rfl (PySem.W.codeRec_of KX hcd) (hb _ _ _ _ ?_)
  refine wpAny_newFunctionEnv_cells S.kind hkind λ env he s1 x=>?_
  subst he
  refine ⟨lim.keeps x.toInCall.keep,codeAny_func ?_⟩
  obtain ⟨t,ht,hq⟩:=hbody A outer s H vs Q E (hr.deeper _) hsp
  have I:Inv (f3q CX P w K mg base N qual scope f cdv A outer s H E) [] (b3q N vs) H s1:=dBq S hr.hd e0 hl r x
  refine wpAny_mono (ht [] s1 (b3q N vs) H _ I hq) (λ fl s' hs=>?_) λ e s' hs=>hs
  have fin:∀ {σ':St} {H':Hp} {v:V} {u:Value},Inv (f3q CX P w K mg base N qual scope f cdv A outer s H E) [] σ' H' s'->RelV v u->Q v H'->CE outer P w H s Q u s':=
    λ{σ' H' v u} J rv q=>⟨v,H',J.os,J.bare,J.base,J.hok,rv,q⟩
  cases fl with
  | ret u=>
    obtain ⟨v,σ',H',J,rv,q⟩:=hs
    exact fin J rv q
  | next=>
    obtain ⟨σ',H',J,q⟩:=hs
    exact fin (v:=V.non) (u:=Value.none) J rfl q
  | brk=>
    obtain ⟨_,_,_,q⟩:=hs
    exact False.elim q
  | cont=>
    obtain ⟨_,_,_,q⟩:=hs
    exact False.elim q
section
variable {X:Cx} {x:Str} {p pos:Pos} {e:Expr} {es:List Expr} {t:TA} {id T:String} {r:List V->Hp->VK->Prop}
def tCB (r:List V->Hp->VK->Prop) (t:TA):TE:=λ σ H Q=>t σ H λ vs H1=>r vs H1 Q
theorem gQq (hc:CallR X (.builtin id) r) (hg:Gl X x) (hm:X.mg x=none) (hv:bootBuiltins x=some (.builtin id)) (ha:PA X (e::es) t) (hn:x≠"__name__":=by decide) (hdb:(x==("__debug__" : Str))=false:=by decide)
    (he:starEach (e::es) X.env=(false,eval e X.env)::starEach es X.env:=by rfl) (hpl:(backTo pos (starEach es X.env)).any (·.1)=false:=by rfl):PE X (.Call (.Name x p) (e::es) [] pos) (tCB r t):=by
  intro pins s σ H Q I h
  refine wpAny_Call_Name_kw (e4q I hg hm hv ?_ hn hdb)
  exact PyProof.Rows.callWith_builtin1 (thn (ha pos pins s σ H _ I h) λ us s1 ⟨vs,H1,I1,r1,q1⟩=>hc pins s1 σ H1 vs us Q I1 r1 q1) he hpl
theorem gAq (hc:CallR X (.type T) r) (hg:Gl X x) (hm:X.mg x=none) (hv:bootBuiltins x=some (.type T)) (ha:PA X (e::es) t) (hn:x≠"__name__":=by decide) (hdb:(x==("__debug__" : Str))=false:=by decide)
    (he:starEach (e::es) X.env=(false,eval e X.env)::starEach es X.env:=by rfl) (hpl:(backTo pos (starEach es X.env)).any (·.1)=false:=by rfl):PE X (.Call (.Name x p) (e::es) [] pos) (tCB r t):=by
  intro pins s σ H Q I h
  refine wpAny_Call_Name_kw (e4q I hg hm hv ?_ hn hdb)
  exact PyProof.Rows.callWith_type1 (thn (ha pos pins s σ H _ I h) λ us s1 ⟨vs,H1,I1,r1,q1⟩=>hc pins s1 σ H1 vs us Q I1 r1 q1) he hpl
end
end L2
namespace HT
open PySem PyProof.Rows
section
open PySem.SeqAt
open PySem.AutoSeq1 (wpAny_loadPart')
open PySem.MeetsSeq PySem.MeetsSeq2 PySem.MeetsSeq3
end
section
variable {prog:Program} {w:World} {A:Around} {E:Value->Shared->Prop} {s:Shared}
theorem cat_tup {t b:Addr} {vs ws:List Value} {Q:Value->Shared->Prop} (ht:IsTup s.heap t vs.toArray) (hb:IsTup s.heap b ws.toArray) (hv:vs≠[])
    (h1:ws=[]->Q (.ref t) s) (h2:ws≠[]->Q (.ref s.heap.objs.size) { s with heap:=s.heap.push { cls:=.type "tuple", data:=.seq (vs++ws).toArray } })
    (hsz:vs.length+ws.length<=sizeLine):wpAny (model prog w) A (binaryOp .Add (.ref t) (.ref b)) Q E s:=by
  obtain ⟨⟨cls,dd,data,sl⟩,ho,hc,n,hd⟩:=id ht
  obtain ⟨⟨cls2,dd2,data2,sl2⟩,ho2,hc2,n2,hd2⟩:=id hb
  simp only at hc hd hc2 hd2
  subst hc hd hc2 hd2
  have e:vs.toArray++ws.toArray=(vs++ws).toArray:=by simp
  by_cases hw:ws=[]
  . exact concat_meets ⟨_,ho,rfl⟩ ⟨_,ho2,rfl⟩ noFill_tuple_add seq_tuple_add PySem.F.slot_tuple_add PySem.F.entry_tuple_add (PySem.F.args_tuple_add_2 _ _)
      (tuple_addW1 t b vs.toArray ws.toArray n n2 dd dd2 sl sl2 (by simpa using hv) (by simp [hw])) ⟨ho,ho2,h1 hw⟩
  . refine concat_meets ⟨_,ho,rfl⟩ ⟨_,ho2,rfl⟩ noFill_tuple_add seq_tuple_add PySem.F.slot_tuple_add PySem.F.entry_tuple_add (PySem.F.args_tuple_add_2 _ _)
      (tuple_addW2 t b vs.toArray ws.toArray n n2 dd dd2 sl sl2 (by simpa using hv) (by simpa using hw) (by rw [List.size_toArray,List.size_toArray];exact hsz)) ⟨ho,ho2,?_⟩
    rw [e]
    exact h2 hw
end
end HT
namespace L2
open PySem PySem.Spec PyProof.Rows
section
variable {X:Cx} {e:Expr} {te:TE} {lo hi:Option Expr} {tl th:TO} {pos p2:Pos}
def mPq (K:PySem.W.Frag):R2:=λ x y H Q=>∃ a b xs ys,x=.ref a/\y=.ref b/\SqT K H a xs/\SqT K H b ys/\xs≠[]/\xs.length+ys.length<=sizeLine ∧
  (ys=[]->Q (.ref a) H)/\(ys≠[]->∀ p,H p=none->Q (.ref p) (upd H p (.tup (xs++ys))))
theorem Vals.nil_iff {xs:List V} {us:List Value} (r:Vals xs us):us=[] ↔ xs=[]:=by
  cases r with
  | nil=>simp
  | cons _ _=>simp
theorem iMq:OpR X (binaryOp .Add) (mPq X.K):=by
  intro pins s σ H x y v u Q I rx ry h
  obtain ⟨a,b,xs,ys,rfl,rfl,ha,hb,hx,hz,q1,q2⟩:=h
  cases rx
  cases ry
  obtain ⟨its,r1,p1,_⟩:=I.tuple ha
  obtain ⟨its2,r2,p2,_⟩:=I.tuple hb
  refine HT.cat_tup p1 p2 (λ z=>hx (r1.nil_iff.mp z)) (λ z=>⟨.ref a,H,I,rfl,q1 (r2.nil_iff.mp z)⟩) (λ z=>?_) (by rw [<- r1.length,<- r2.length];exact hz)
  refine ⟨.ref s.heap.objs.size,_,I.laid (t':=s.toks) (o:=.tup (xs++ys)) (λ b ob q=>Heap.get?_push_of_some _ q) (Nat.le_refl _) ?_,rfl,q2 (λ w=>z (r2.nil_iff.mpr w)) _ (I.hok.fresh (Nat.le_refl _))⟩
  exact ⟨by rw [List.length_append];exact hz,_,r1.append r2,IsTup.new _ _⟩
end
def ixN (n:Nat) (i:Int):Option Nat:=if 0<=i then (if i < n then some i.toNat else none) else if -(n:Int)<=i then some (i+n).toNat else none
def atI {α:Type} (xs:List α) (i:Int):Option α:=(ixN xs.length i).bind λ j=>xs[j]?
theorem f5q {n:Nat} {i:Int} {j:Nat} (h:ixN n i=some j):seqIndex? i n=some j/\j < n/\-(n:Int)<=i/\i < n:=by
  unfold ixN at h
  by_cases h0:0<=i
  . rw [if_pos h0] at h
    by_cases h1:i < n
    . rw [if_pos h1] at h
      have e:i.toNat=j:=Option.some.inj h
      exact ⟨by rw [seqIndex_of h0 h1,e],by omega,by omega,h1⟩
    . rw [if_neg h1] at h;cases h
  . rw [if_neg h0] at h
    by_cases h1:-(n:Int)<=i
    . rw [if_pos h1] at h
      have e:(i+n).toNat=j:=Option.some.inj h
      exact ⟨by rw [seqIndex_neg (by omega) h1,e],by omega,h1,by omega⟩
    . rw [if_neg h1] at h;cases h
theorem dZq {α:Type} {xs:List α} {i:Int} {v:α} (h:atI xs i=some v):∃ j,seqIndex? i xs.length=some j/\xs[j]?=some v/\j < xs.length/\-(xs.length:Int)<=i/\i < xs.length:=by
  unfold atI at h
  cases e:ixN xs.length i with
  | none=>rw [e] at h;cases h
  | some j=>
    rw [e] at h
    obtain ⟨h1,h2,h3,h4⟩:=f5q e
    exact ⟨j,h1,h,h2,h3,h4⟩
theorem dQq {α:Type} {xs:List α} {j:Nat} {v:α} (h:xs[j]?=some v):atI xs (j:Int)=some v:=by
  have hj:j < xs.length:=(List.getElem?_eq_some_iff.mp h).1
  have e:ixN xs.length (j:Int)=some j:=by
    unfold ixN
    rw [if_pos (by omega),if_pos (by omega)];simp
  unfold atI;rw [e];exact h
def dNq (b:Expr):Prop:=∀ o i,subscripted b false o i=operate [o,i] (getItem o i)
def IxR (X:Cx) (r:R2):Prop:=
  ∀ (value slice:Expr) (pins:List (Addr × Obj)) (s:Shared) (σ:St) (H:Hp) (x y:V) (v u:Value) (Q:VK),Inv X pins σ H s->RelV x v->RelV y u->r x y H Q →
    subscripted slice false v u=operate [v,u] (getItem v u)->wpAny (model X.prog X.w) X.A (subscriptTail value slice v u) (EP X pins σ Q) X.xe s
def MtR (X:Cx) (id:String) (r:V->List V->Hp->VK->Prop):Prop:=
  ∀ (pins:List (Addr × Obj)) (s:Shared) (σ:St) (H:Hp) (x:V) (xs:List V) (v:Value) (us:List Value) (Q:VK),Inv X pins σ H s->RelV x v->Vals xs us->r x xs H Q →
    wpAny (model X.prog X.w) X.A (call (.builtin id) (v::us)) (EP X pins σ Q) X.xe s
section
variable {X:Cx} {a b:Expr} {ta tb:TE} {pos:Pos}
theorem IxR.or {r r':R2} (h:IxR X r) (h':IxR X r'):IxR X (λ x y H Q=>r x y H Q\/r' x y H Q):=by
  intro value slice pins s σ H x y v u Q I rx ry q hs
  rcases q with q | q
  . exact h value slice pins s σ H x y v u Q I rx ry q hs
  . exact h' value slice pins s σ H x y v u Q I rx ry q hs
theorem lXq {r:R2} (hr:IxR X r) (ha:PE X a ta) (hb:PE X b tb) (hs:dNq b):PE X (.Subscript a b pos) (tOp r ta tb):=by
  intro pins s σ H Q I h
  exact Subscript_ (lSq ha hb I h λ v u s2 x y H2 I2 rx ry q=>hr a b pins s2 σ H2 x y v u Q I2 rx ry q (hs _ _))
def nNq (K:PySem.W.Frag):R2:=λ x y H Q=>∃ p xs i v,x=.ref p/\y=.int i/\SqL K H p xs/\atI xs i=some v/\Q v H
def nOq (K:PySem.W.Frag):R2:=λ x y H Q=>∃ p xs i v,x=.ref p/\y=.int i/\SqT K H p xs/\atI xs i=some v/\Q v H
def nKq:R2:=λ x y H Q=>∃ z i c,x=.str z/\y=.int i/\z.length<=sizeLine/\atI z.cps.toList i=some c/\Q (.str ⟨#[c]⟩) H
theorem ix_list:IxR X (nNq X.K):=by
  intro value slice pins s σ H x y v u Q I rx ry h hs
  obtain ⟨p,xs,i,z,rfl,rfl,hq,he,q⟩:=h
  cases rx
  obtain ⟨t,rfl⟩:=ry
  obtain ⟨its,r,pl,hz⟩:=I.list hq
  obtain ⟨j,h1,h2,h3,h4,h5⟩:=dZq he
  obtain ⟨w,ew,rw'⟩:=r.get h2
  have hl:=r.length
  have hn:=bZq
  have fin:EP X pins σ Q w s:=⟨z,H,I,rw',q⟩
  by_cases h0:0<=i
  . have hj:i.toNat=j:=by
      rw [seqIndex_of h0 h5] at h1
      exact Option.some.inj h1
    exact item_listR pl.isList h0 (by omega) (by rw [hj];simpa using ew) fin hs
  . have hj:(i+(its.toArray.size:Int)).toNat=j:=by
      rw [seqIndex_neg (by omega) h4] at h1
      rw [List.size_toArray,<- hl]
      exact Option.some.inj h1
    exact subscriptTail_builtinR (x:=w) pl.isList.typeIs slot_list_getitem.lookup
      (wpAny_getItem_list_neg (Q:=λ r s'=>r=w/\EP X pins σ Q r s') pl.isList (by omega) (by rw [List.size_toArray]<;>omega) (by omega) (by rw [hj];simpa using ew) ⟨rfl,fin⟩) hs
theorem ix_tup:IxR X (nOq X.K):=by
  intro value slice pins s σ H x y v u Q I rx ry h hs
  obtain ⟨p,xs,i,z,rfl,rfl,hq,he,q⟩:=h
  cases rx
  obtain ⟨t,rfl⟩:=ry
  obtain ⟨its,r,pl,hz⟩:=I.tuple hq
  obtain ⟨j,h1,h2,h3,h4,h5⟩:=dZq he
  obtain ⟨w,ew,rw'⟩:=r.get h2
  have hl:=r.length
  have hn:=bZq
  have fin:EP X pins σ Q w s:=⟨z,H,I,rw',q⟩
  exact subscriptTail_builtinR (x:=w) pl.typeIs slot_tuple_getitem.lookup
    (getItem_tuple (j:=j) (Q:=λ r s'=>r=w/\EP X pins σ Q r s') pl (by omega) (by omega) (by rw [List.size_toArray,<- hl];exact h1) (by simpa using ew) ⟨rfl,fin⟩) hs
theorem l1q:IxR X nKq:=by
  intro value slice pins s σ H x y v u Q I rx ry h hs
  obtain ⟨z,i,c,rfl,rfl,hz,he,q⟩:=h
  obtain ⟨t,rfl⟩:=rx
  obtain ⟨t',rfl⟩:=ry
  obtain ⟨j,h1,h2,h3,h4,h5⟩:=dZq he
  have hl:z.cps.toList.length=z.length:=by simp [Str.length]
  rw [hl] at h1 h4 h5
  have hn:=bZq
  exact tail_any (typeIs_str s z t) slot_str_getitem.lookup (getItem_str (c:=c) (by
    have e1:decide (i < -(2 ^ 63:Int))=false:=decide_eq_false (by omega)
    have e2:decide (i ≥ 2 ^ 63)=false:=decide_eq_false (by omega)
    rw [e1,e2,Bool.or_false]) (by rw [h1];simpa using h2) ⟨.str ⟨#[c]⟩,H,I.tok _,⟨_,rfl⟩,q⟩) hs
def rIx (K:PySem.W.Frag):R2:=λ x y H Q=>nNq K x y H Q\/nOq K x y H Q\/nKq x y H Q
theorem lBq:IxR X (rIx X.K):=ix_list.or (ix_tup.or l1q)
theorem eQq (its:List Value) (n j:Nat) (u:Value):Obj.mapSeq (·.setIfInBounds j u) { cls:=.type "list", data:=.seq its.toArray n }={ cls:=.type "list", data:=.seq (its.set j u).toArray n }:=by
  simp [Obj.mapSeq]
theorem Inv.lst {pins:List (Addr × Obj)} {σ:St} {H:Hp} {s:Shared} {p:Addr} {xs:List V} (I:Inv X pins σ H s) (h:H p=some (.lst xs)) :
    ∃ (its:List Value) (n:Nat),Vals xs its/\s.heap.get? p=some { cls:=.type "list", data:=.seq its.toArray n }/\xs.length<=sizeLine:=by
  obtain ⟨z,its,n,r,e⟩:=I.hok p _ h
  exact ⟨its,n,r,e,z⟩
theorem Inv.lstUpd {pins:List (Addr × Obj)} {σ:St} {H:Hp} {s:Shared} {p:Addr} {xs ys:List V} {its its':List Value} {n n':Nat} {f:Obj->Obj} (I:Inv X pins σ H s) (h:H p=some (.lst xs))
    (ho:s.heap.get? p=some { cls:=.type "list", data:=.seq its.toArray n }) (hf:f { cls:=.type "list", data:=.seq its.toArray n }={ cls:=.type "list", data:=.seq its'.toArray n' }) (r:Vals ys its') (hz:ys.length<=sizeLine) (t:Nat) :
    Inv X pins σ (upd H p (.lst ys)) { s with heap:=s.heap.update p f,toks:=t }:=by
  have e:(s.heap.update p f).get? p=some { cls:=.type "list", data:=.seq its'.toArray n' }:=by
    rw [Heap.get?_update_self f ho (by rw [hf]<;>rfl),hf]
  refine I.write (x:=p) (e:=p) (by rw [h];trivial) (.inl rfl) (λ b u hb q=>(Heap.get?_update_other _ _ (Ne.symm hb)).trans q) ⟨_,e⟩ ?_
  exact ⟨hz,its',n',r,e⟩
def m2q:V->V->V->Hp->(Hp->Prop)->Prop:=λ o i v H Q=>∃ p xs k j,o=.ref p/\i=.int k/\H p=some (.lst xs)/\ixN xs.length k=some j/\Q (upd H p (.lst (xs.set j v)))
theorem h4q:mFq X m2q:=by
  intro pins s σ H o i v ov iv u Q I ro ri rv h
  obtain ⟨p,xs,k,j,rfl,rfl,hp,hj,q⟩:=h
  cases ro
  obtain ⟨t,rfl⟩:=ri
  obtain ⟨its,n,r,ho,hz⟩:=I.lst hp
  obtain ⟨h1,h2,h3,h4⟩:=f5q hj
  have hl:=r.length
  have hn:=bZq
  have I':Inv X pins σ (upd H p (.lst (xs.set j v))) { s with heap:=s.heap.update p (Obj.mapSeq (·.setIfInBounds j u)) }:=
    I.lstUpd hp ho (eQq its n j u) (r.set rv j) (by rw [List.length_set];exact hz) s.toks
  by_cases h0:0<=k
  . have hk:k.toNat=j:=by
      rw [seqIndex_of h0 h4] at h1
      exact Option.some.inj h1
    exact PySem.W.ki_setAt ho h0 (by omega) (by rw [List.size_toArray,<- hl];exact h4) (by rw [hk];exact ⟨_,I',q⟩)
  . have hk:(k+(its.toArray.size:Int)).toNat=j:=by
      rw [seqIndex_neg (by omega) h3] at h1
      rw [List.size_toArray,<- hl]
      exact Option.some.inj h1
    exact PySem.W.ki_setBack ho (by omega) (by rw [List.size_toArray,<- hl];exact h3) (by omega) (by rw [hk];exact ⟨_,I',q⟩)
def c6q:V->Bool
  | .non=>true
  | .bl _=>true
  | .int _=>true
  | .str _=>true
  | _=>false
def eqV:V->V->Bool
  | .non,.non=>true
  | .bl a,.bl b=>a==b
  | .bl a,.int b=>(if a then 1 else 0)==b
  | .int a,.bl b=>a==(if b then 1 else 0)
  | .int a,.int b=>a==b
  | .str a,.str b=>a==b
  | _,_=>false
theorem l9q {A:Around} {s:Shared} {y x:V} {u v:Value} (ry:RelV y u) (rx:RelV x v) (fy:c6q y=true) (fx:c6q x=true):SeqAt.EqAt A s u v (eqV y x):=by
  cases y with
  | non=>
    cases ry
    cases x with
    | non=>cases rx;exact SeqAt.EqAt.same _
    | bl b=>cases rx;exact SeqAt.EqAt.none_bool b
    | int b=>obtain ⟨t,rfl⟩:=rx;exact SeqAt.EqAt.none_int b t
    | str b=>obtain ⟨t,rfl⟩:=rx;exact SeqAt.EqAt.none_str b t
    | _=>exact absurd (show false=true from fx) Bool.false_ne_true
  | bl a=>
    cases ry
    cases x with
    | non=>cases rx;exact SeqAt.EqAt.bool_none a
    | bl b=>cases rx;exact SeqAt.EqAt.bool_bool a b
    | int b=>obtain ⟨t,rfl⟩:=rx;exact SeqAt.EqAt.bool_int a b t
    | str b=>obtain ⟨t,rfl⟩:=rx;exact SeqAt.EqAt.bool_str a b t
    | _=>exact absurd (show false=true from fx) Bool.false_ne_true
  | int a=>
    obtain ⟨t',rfl⟩:=ry
    cases x with
    | non=>cases rx;exact SeqAt.EqAt.int_none a t'
    | bl b=>cases rx;exact SeqAt.EqAt.int_bool a t' b
    | int b=>obtain ⟨t,rfl⟩:=rx;exact SeqAt.EqAt.int_int a t' b t
    | str b=>obtain ⟨t,rfl⟩:=rx;exact SeqAt.EqAt.int_str a t' b t
    | _=>exact absurd (show false=true from fx) Bool.false_ne_true
  | str a=>
    obtain ⟨t',rfl⟩:=ry
    cases x with
    | non=>cases rx;exact SeqAt.EqAt.str_none a t'
    | bl b=>cases rx;exact SeqAt.EqAt.str_bool a t' b
    | int b=>obtain ⟨t,rfl⟩:=rx;exact SeqAt.EqAt.str_int a t' b t
    | str b=>obtain ⟨t,rfl⟩:=rx;exact SeqAt.EqAt.str_str a t' b t
    | _=>exact absurd (show false=true from fx) Bool.false_ne_true
  | _=>exact absurd (show false=true from fy) Bool.false_ne_true
def eqU (x:V) (u:Value):Bool:=match u with
  | .none=>eqV .non x
  | .bool b=>eqV (.bl b) x
  | .int i _=>eqV (.int i) x
  | .str z _=>eqV (.str z) x
  | _=>false
theorem hNq {x y:V} {u:Value} (r:RelV y u) (f:c6q y=true):eqU x u=eqV y x:=by
  cases y with
  | non=>cases r;rfl
  | bl b=>cases r;rfl
  | int i=>obtain ⟨t,rfl⟩:=r;rfl
  | str z=>obtain ⟨t,rfl⟩:=r;rfl
  | _=>exact absurd (show false=true from f) Bool.false_ne_true
theorem e2q {x:V}:∀ {xs:List V} {us:List Value},Vals xs us->xs.all c6q=true->us.any (eqU x)=xs.any λ y=>eqV y x
  | _,_,.nil,_=>rfl
  | y::xs,u::us,.cons r t,f=>by
    rw [List.all_cons,Bool.and_eq_true] at f
    rw [List.any_cons,List.any_cons,hNq r f.1,e2q t f.2]
theorem cPq {A:Around} {s:Shared} {x:V} {v:Value} (rx:RelV x v) (fx:c6q x=true):∀ {xs:List V} {us:List Value},Vals xs us->xs.all c6q=true->∀ u∈us,SeqAt.EqAt A s u v (eqU x u)
  | _,_,.nil,_=>λ u hu=>by cases hu
  | y::xs,u::us,.cons r t,f=>λ u' hu=>by
    rw [List.all_cons,Bool.and_eq_true] at f
    rcases List.mem_cons.mp hu with rfl | hu
    . rw [hNq r f.1];exact l9q r rx f.1 fx
    . exact cPq rx fx t f.2 u' hu
def inV (x:V) (xs:List V):Bool:=xs.any λ y=>eqV y x
def rIn (K:PySem.W.Frag) (neg:Bool):R2:=λ x y H Q=>∃ p xs,y=.ref p/\(SqL K H p xs\/SqT K H p xs)/\c6q x=true/\xs.all c6q=true/\Q (.bl (if neg then !inV x xs else inV x xs)) H
theorem op_notIn_seq:OpR X (compareOp .NotIn) (rIn X.K true):=by
  intro pins s σ H x y v u Q I rx ry h
  obtain ⟨p,xs,rfl,hq,fx,fs,q⟩:=h
  cases ry
  rcases hq with hq | hq
  . obtain ⟨its,r,pl,hz⟩:=I.list hq
    refine SeqAt.notIn_listAt (eqU x) pl.isList (λ w hw=>cPq rx fx r fs w (by simpa using hw)) ⟨.bl _,H,I,rfl,?_⟩
    rw [show its.toArray.any (eqU x)=its.any (eqU x) by simp,e2q r fs]
    exact q
  . obtain ⟨its,r,pl,hz⟩:=I.tuple hq
    refine SeqAt.notIn_tupleAt (eqU x) pl (λ w hw=>cPq rx fx r fs w (by simpa using hw)) ⟨.bl _,H,I,rfl,?_⟩
    rw [show its.toArray.any (eqU x)=its.any (eqU x) by simp,e2q r fs]
    exact q
theorem cWq:OpR X (compareOp .NotIn) (λ x y H Q=>∃ i j,x=.str i/\y=.str j/\Q (.bl (!(!(Builtin.Str.occurrences j i 0 j.length 1).isEmpty))) H):=by
  intro pins s σ H x y v u Q I rx ry h
  obtain ⟨i,j,rfl,rfl,q⟩:=h
  obtain ⟨t,rfl⟩:=rx
  obtain ⟨t',rfl⟩:=ry
  exact notIn_str ⟨.bl _,H,I,rfl,q⟩
theorem call_len_seq:CallR X (.builtin "len") (λ xs H Q=>∃ p ys,xs=[.ref p]/\(SqL X.K H p ys\/SqT X.K H p ys)/\Q (.int ys.length) H):=by
  intro pins s σ H xs us Q I r h
  obtain ⟨p,ys,rfl,hq,q⟩:=h
  obtain ⟨u,rfl,rx⟩:=gPq r
  cases rx
  have hn:=bZq
  rcases hq with hq | hq
  . obtain ⟨its,r',pl,hz⟩:=I.list hq
    have hlen:=r'.length
    exact Calls.call_len_list pl.isList (by simp only [List.size_toArray]<;>omega) ⟨.int ys.length,H,I.tok _,⟨s.toks+1,by rw [List.size_toArray,hlen]⟩,q⟩
  . obtain ⟨its,r',pl,hz⟩:=I.tuple hq
    have hlen:=r'.length
    exact len_tuple pl (by simp only [List.size_toArray]<;>omega) ⟨.int ys.length,H,I.tok _,⟨s.toks+1,by rw [List.size_toArray,hlen]⟩,q⟩
theorem d2q:CallR X (.builtin "len") (λ xs H Q=>∃ z,xs=[.str z]/\z.length<=sizeLine/\Q (.int z.length) H):=by
  intro pins s σ H xs us Q I r h
  obtain ⟨z,rfl,hz,q⟩:=h
  obtain ⟨u,rfl,t,rfl⟩:=gPq r
  have hn:=bZq
  exact len_str (by omega) ⟨.int z.length,H,I.tok _,⟨_,rfl⟩,q⟩
theorem CallR.or {f:Value} {r r':List V->Hp->VK->Prop} (h:CallR X f r) (h':CallR X f r'):CallR X f (λ xs H Q=>r xs H Q\/r' xs H Q):=by
  intro pins s σ H xs us Q I rs q
  rcases q with q | q
  . exact h pins s σ H xs us Q I rs q
  . exact h' pins s σ H xs us Q I rs q
def tyV (K:PySem.W.Frag) (T:String) (x:V) (H:Hp):Prop:=match x with
  | .str _=>T = "str"
  | .int _=>T = "int"
  | .ref p=>(T = "list"/\∃ xs,SqL K H p xs)\/(T = "tuple"/\∃ o,K.lookup p=some o/\o.cls=.type "tuple"/\o.dict=none) ∨
      (T = "dict"/\((∃ kvs,H p=some (.dK kvs))\/∃ kvs,H p=some (.dT kvs)))\/(T = "set"/\∃ S n,H p=some (.set S n))
  | _=>False
theorem hAq {pins:List (Addr × Obj)} {σ:St} {H:Hp} {s:Shared} {T:String} {x:V} {v:Value} (I:Inv X pins σ H s) (r:RelV x v) (ty:tyV X.K T x H) :
    s.TypeIs v T/\∀ a,v=.ref a->∃ ob,s.heap.get? a=some ob/\ob.dict=none:=by
  cases x with
  | str z=>
    obtain ⟨t,rfl⟩:=r
    cases (show T = "str" from ty)
    exact ⟨typeIs_str s z t,λ _ e=>nomatch e⟩
  | int i=>
    obtain ⟨t,rfl⟩:=r
    cases (show T = "int" from ty)
    exact ⟨typeIs_int s i t,λ _ e=>nomatch e⟩
  | ref p=>
    cases r
    rcases ty with ⟨rfl,xs,hq⟩ | ⟨rfl,o,hk,hc,hd⟩ | ⟨rfl,hk⟩ | ⟨rfl,S,n,hk⟩
    . obtain ⟨its,_,pl,_⟩:=I.list hq
      refine ⟨pl.isList.typeIs,λ a e=>?_⟩
      cases e
      obtain ⟨o,n,e,c,hd,_⟩:=pl
      exact ⟨o,e,hd⟩
    . refine ⟨⟨o,I.kIn p o hk,hc⟩,λ a e=>?_⟩
      cases e
      exact ⟨o,I.kIn _ o hk,hd⟩
    . have z:∃ o,s.heap.get? p=some o/\o.ExactDict:=by
        rcases hk with ⟨kvs,hk⟩ | ⟨kvs,hk⟩
        . obtain ⟨_,_,_,_,o,_,_,e,ex,_⟩:=I.hok p _ hk
          exact ⟨o,e,ex⟩
        . obtain ⟨_,_,_,_,o,_,_,e,ex,_⟩:=I.hok p _ hk
          exact ⟨o,e,ex⟩
      obtain ⟨o,e,ex⟩:=z
      refine ⟨⟨o,e,ex.1⟩,λ a e2=>?_⟩
      cases e2
      exact ⟨o,e,ex.2.1⟩
    . obtain ⟨o,_,_,_,e,ex,_⟩:=I.hok p _ hk
      refine ⟨⟨o,e,ex.1⟩,λ a e2=>?_⟩
      cases e2
      exact ⟨o,e,ex.2.1⟩
  | _=>exact False.elim ty
def tBM (K:PySem.W.Frag) (T:String) (r:V->List V->Hp->VK->Prop) (to:TE) (t:TA):TE:=λ σ H Q=>to σ H λ x H1=>tyV K T x H1/\t σ H1 λ xs H2=>r x xs H2 Q
variable {o e:Expr} {es:List Expr} {to:TE} {t:TA} {name:Str} {apos cpos:Pos} {T id:String} {r:V->List V->Hp->VK->Prop}
theorem mHq (pa:PlainAttrs T) (slot:Slot T name id) (hty:typeOf (.builtin id)=pure (.type "method_descriptor")) (hm:MtR X id r) (ho:PE X o to) (ha:PA X (e::es) t)
    (hbase:attributeBase o name X.env (eval o X.env)=eval o X.env:=by rfl)
    (hfew:((backTo cpos (starEach (e::es) X.env)).all (λ x=>!x.1)&&(backToKw cpos (keywordEach [] X.env)).all (λ x=>x.1.isSome)
     &&decide ((e::es).length+([]:List Keyword).length+(if ([]:List Keyword).isEmpty then 0 else 1) < 30))=true:=by rfl)
    (hline:(apos.endLine==cpos.line)=true:=by rfl) (hs:starEach (e::es) X.env=(false,eval e X.env)::starEach es X.env:=by rfl) (hplain:(backTo cpos (starEach es X.env)).any (·.1)=false:=by rfl) :
    PE X (.Call (.Attribute o name apos) (e::es) [] cpos) (tBM X.K T r to t):=by
  intro pins s σ H Q I h
  refine wpAny_Call_method_late hbase hfew hline rfl (thn (ho pins s σ H _ I h) λ v s1 ⟨x,H1,I1,r1,ty,q1⟩=>?_)
  obtain ⟨h1,h2⟩:=hAq I1 r1 ty
  refine ⟨T,id,pa,slot,hty,h1,h2,?_⟩
  have hA:=ha cpos pins s1 σ H1 _ I1 q1
  rw [hs] at hA ⊢
  refine Calls.callWith_builtin (by show (false||(backTo cpos (starEach es X.env)).any (·.1))=false;rw [hplain]<;>rfl) (Calls.evalArgs_plain ?_)
  exact thn hA λ us s2 ⟨vs,H2,I2,r2,q2⟩=>hm pins s2 σ H2 x vs v us Q I2 r1 r2 q2
end
def MtM (X:Cx) (id:String) (r:V->List V->Hp->VK->Prop):Prop:=
  ∀ (pins:List (Addr × Obj)) (s:Shared) (σ:St) (H:Hp) (x:V) (xs:List V) (v:Value) (us:List Value) (Q:VK),Inv X pins σ H s->RelV x v->Vals xs us->r x xs H Q →
    wpAny (model X.prog X.w) X.A (call (.builtin id) (v::us)) (EP X pins σ Q) X.xe s
theorem Vals.one:∀ {x:V} {us:List Value},Vals [x] us->∃ u,us=[u]/\RelV x u
  | _,_,.cons r .nil=>⟨_,rfl,r⟩
theorem Vals.two:∀ {x y:V} {us:List Value},Vals [x,y] us->∃ u v,us=[u,v]/\RelV x u/\RelV y v
  | _,_,_,.cons r (.cons q .nil)=>⟨_,_,rfl,r,q⟩
section
variable {X:Cx} {pins:List (Addr × Obj)} {σ:St} {H:Hp} {s:Shared} {l b:Addr} {xs ys zs:List V}
theorem Inv.lset {its its':List Value} {n:Nat} {f:Array Value->Array Value} {t':Nat} (I:Inv X pins σ H s) (hH:H l=some (.lst xs))
    (e:s.heap.get? l=some { cls:=.type "list", data:=.seq its.toArray n }) (hf:f its.toArray=its'.toArray) (hv:Vals ys its') (hz:ys.length<=sizeLine) :
    Inv X pins σ (upd H l (.lst ys)) { s with heap:=s.heap.update l (Obj.mapSeq f),toks:=t' }:=by
  have q:=PySem.IsL.update e f
  rw [hf] at q
  refine I.write (x:=l) (e:=l) (by rw [hH];exact trivial) (.inl rfl) (λ b' u hb hu=>(Heap.get?_update_other s.heap (Obj.mapSeq f) (Ne.symm hb)).trans hu) ⟨_,q⟩ ?_
  exact ⟨hz,its',_,hv,q⟩
theorem Inv.lnew {its:List Value} {t':Nat} (I:Inv X pins σ H s) (hv:Vals ys its) (hz:ys.length<=sizeLine) :
    Inv X pins σ (upd H s.heap.objs.size (.lst ys)) { s with heap:=s.heap.push { cls:=.type "list", data:=.seq its.toArray },toks:=t' }:=
  I.laid (λ _ _ q=>Heap.get?_push_of_some _ q) (Nat.le_refl _) ⟨hz,its,0,hv,Heap.get?_push_size _ rfl⟩
theorem Inv.fresh (I:Inv X pins σ H s):H s.heap.objs.size=none:=I.hok.fresh (Nat.le_refl _)
theorem Inv.lstM (I:Inv X pins σ H s) (hH:H l=some (.lst xs)):xs.length<=sizeLine/\∃ (its:List Value) (n:Nat),Vals xs its/\xs.length=its.length/\s.heap.get? l=some { cls:=.type "list", data:=.seq its.toArray n }:=by
  obtain ⟨z,its,n,r,e⟩:=I.hok l _ hH
  exact ⟨z,its,n,r,r.length,e⟩
theorem h1q {n:Nat} (h:n<=sizeLine):Builtin.List.listTooLong n=false:=by
  unfold Builtin.List.listTooLong
  exact decide_eq_false (by omega)
end
section
variable {X:Cx}
def iJq:V->List V->Hp->VK->Prop:=λ x vs H Q=>∃ l xs y,x=.ref l/\vs=[y]/\H l=some (.lst xs)/\xs.length < sizeLine/\Q .non (upd H l (.lst (xs++[y])))
theorem bCq:MtM X "list.append" iJq:=by
  intro pins s σ H x vs v us Q I rx rv h
  obtain ⟨l,xs,y,rfl,rfl,hH,hz,q⟩:=h
  cases rx
  obtain ⟨u,rfl,ru⟩:=rv.one
  obtain ⟨z,its,n,r,hl,e⟩:=I.lstM hH
  refine call_meets F.slot_list_append ⟨_,e,rfl⟩ F.entry_list_append (F.args_list_append_2 _ _) (PySem.list_append l its.toArray n u (by rw [List.size_toArray];omega)) ⟨e,?_⟩
  refine ⟨.non,_,I.lset (its':=its++[u]) hH e (by simp) (r.append (.cons ru .nil)) ?_,rfl,q⟩
  rw [List.length_append,List.length_singleton]
  omega
def j9q:V->List V->Hp->VK->Prop:=λ x vs H Q=>∃ l b xs zs,x=.ref l/\vs=[.ref b]/\H l=some (.lst xs)/\H b=some (.lst zs)/\xs.length+zs.length<=sizeLine/\Q .non (upd H l (.lst (xs++zs)))
theorem kUq:MtM X "list.extend" j9q:=by
  intro pins s σ H x vs v us Q I rx rv h
  obtain ⟨l,b,xs,zs,rfl,rfl,hH,hB,hz,q⟩:=h
  cases rx
  obtain ⟨u,rfl,ru⟩:=rv.one
  cases ru
  obtain ⟨z,its,n,r,hl,e⟩:=I.lstM hH
  obtain ⟨z2,its2,n2,r2,hl2,e2⟩:=I.lstM hB
  have hsz:its.toArray.size+its2.toArray.size<=sizeLine:=by rw [List.size_toArray,List.size_toArray];omega
  have hlong:¬ (!its.toArray.isEmpty&&Builtin.List.listTooLong (its.toArray.size+its2.toArray.size))=true:=by
    rw [h1q hsz,Bool.and_false]
    exact Bool.false_ne_true
  refine call_meets F.slot_list_extend ⟨_,e,rfl⟩ F.entry_list_extend (F.args_list_extend_2 _ _)
    (AutoSeq1.list_extend_list_list_0 l its.toArray n b its2.toArray n2 hlong (by rw [List.size_toArray];omega) (by omega)) ⟨e,e2,?_⟩
  refine ⟨.non,_,I.lset (its':=its++its2) hH e (by simp) (r.append r2) ?_,rfl,q⟩
  rw [List.length_append]
  omega
def o2q:R2:=λ x y H Q=>∃ l b xs zs,x=.ref l/\y=.ref b/\H l=some (.lst xs)/\H b=some (.lst zs)/\xs.length+zs.length<=sizeLine/\∀ p,H p=none->Q (.ref p) (upd H p (.lst (xs++zs)))
theorem kLq:OpR X (binaryOp .Add) o2q:=by
  intro pins s σ H x y v u Q I rx ry h
  obtain ⟨l,b,xs,zs,rfl,rfl,hH,hB,hz,q⟩:=h
  cases rx
  cases ry
  obtain ⟨z,its,n,r,hl,e⟩:=I.lstM hH
  obtain ⟨z2,its2,n2,r2,hl2,e2⟩:=I.lstM hB
  refine PySem.P.add_list e e2 ?_ (by rw [List.size_toArray,List.size_toArray];omega)
  have ea:its.toArray++its2.toArray=(its++its2).toArray:=by simp
  rw [ea]
  exact ⟨.ref _,_,I.lnew (t':=s.toks) (r.append r2) (by rw [List.length_append];omega),rfl,q _ I.fresh⟩
end
section
variable {prog:Program} {w:World} {A:Around} {E:Value->Shared->Prop} {s:Shared}
end
section
variable {X:Cx}
end
end L2
namespace Att
open PySem PySem.W PySem.Calls PyProof.Rows
theorem bRq {P:Params} {h:Heap}:∀ (ns:List Int) (vs:List Value),WellAll P h vs (ns.map WData.int)->IntsAre vs ns:=by
  intro ns
  induction ns with
  | nil=>
    intro vs w
    rw [List.map_nil] at w
    cases w
    exact .nil
  | cons n ns ih=>
    intro vs w
    rw [List.map_cons] at w
    cases w with
    | cons a b=>
      cases a
      exact .cons _ _ (ih _ b)
theorem fBq {l:OpenLaw} {n:Nat} (hn:l.most=some n) {P:Params} {h:Heap} {args:List WData} {vals:List Value}
    (hpre:l.row.toRowW.claim.pre args=true) (hwl:WellAll P h vals args) :
    ∃ a vs ns,vals=[Value.ref a]/\args=[WData.list (ns.map WData.int)]/\h.get? a=some { cls:=.type "list", data:=.seq vs.toArray }/\IntsAre vs ns/\ns.length<=n:=by
  have hsh:WShape.hasAll [] args [.list .int]=true:=(pre_splitW hpre).1
  have hc:l.pre.holds [] { args:=args }=true:=(pre_splitW hpre).2
  obtain ⟨d,r,rfl,h1,h2⟩:=hasAllW_cons hsh
  obtain rfl:=hasAllW_nil h2
  obtain ⟨xs,rfl,h3⟩:=hasW_list h1
  obtain ⟨ns,rfl⟩:=items_int h3
  have hlen:ns.length<=n:=by
    unfold OpenLaw.pre at hc
    have h4:(WTm.not (.lt (.lit (.int (n:Int))) (.len (.arg 0)))).holds [] { args:=[.list (ns.map .int)] }=true:=by
      have h4:=(holds_andW hc).1
      rw [hn] at h4
      exact h4
    have h5:=condW_of h4 (w_not (w_lt w_lit (w_len_list (w_arg rfl))))
    rw [List.length_map] at h5
    refine Nat.le_of_not_lt λ q=>?_
    have q':(n:Int) < ((ns.length:Nat):Int):=by omega
    first
      | (rw [decide_eq_true q'] at h5;exact absurd h5 (by decide))
      | (simp at h5;omega)
  cases hwl with
  | cons w1 w2=>
    cases w2
    cases w1 with
    | list ho hall=>exact ⟨_,_,ns,rfl,rfl,ho,bRq ns _ hall,hlen⟩
theorem fQq (l:OpenLaw) (args:List WData):l.row.toRowW.claim.post args (.bool true) args=true:=
  postW_of (r:=l.row.toRowW) (X:=(true==true))
    (show WShape.has [] (.bool true) .bool=true by first | rfl | decide | simp [WShape.has,WShape.arms,WShape.armsAll])
    (show (WTm.eq .res (.lit (.bool true))).value [] { args:=args,res:=some (.bool true),after:=args }=some (.bool (true==true)) from w_eq_bool (w_res rfl) w_lit) rfl
theorem attach_call {l:OpenLaw} {n:Nat} {q:Program} {loose:List Str} {XP:(Str->Option Value)->Heap->Prop} {YP:World->Heap->Prop} {d:DefRec}
    (hn:l.most=some n) (hdf:d.params.defaults=[])
    (call:∀ (w:World) (s₀ s₁:Shared) (mg mb:Str->Option Value) (fa:Addr) (o:Obj) (pm cd doc:Value) (a:Addr) (vs:List Value) (ns:List Int),
      Ground q loose [] XP w s₀ mg mb s₁.heap->YP w s₁.heap →
      s₁.heap.get? fa=some o->o.data=.func (docDef d.name d.params d.body d.scope pm cd doc)->s₁.heap.CodeRec cd d.name->mg d.name=some (.ref fa) →
      s₁.heap.get? a=some { cls:=.type "list", data:=.seq vs.toArray }->IntsAre vs ns->ns.length<=n->s₁.gens=#[] →
      codeAny (model l.prog w) callerA (.call (.ref fa) ⟨[.ref a],[]⟩) (λ r s'=>r=.ok (.ret (.bool true))/\OldK s₁.heap s'.heap/\s'.os=s₁.os/\AllBare s'.gens) s₁) :
    WalkO q loose XP YP l.row.toRowW d [] (λ f vs=>PySem.call f vs):=by
  intro w s₀ s₁ mg mb G Y fa o pm cd doc dV kV ho hd hcd hD hmg hg args vals as hpre hlay hrd hwl hlo
  obtain rfl:dV=.none:=Dflts.none hD hdf
  obtain rfl:kV=.none:=Dflts.noKw hD
  obtain ⟨a,vs,ns,rfl,rfl,hobj,hints,hlen⟩:=fBq hn hpre hwl
  refine enter_call (codeAny_mono (call w s₀ s₁ mg mb fa o pm cd doc a vs ns G Y ho (fd_plain hd) hcd hmg hobj hints hlen hg) λ r s' hq=>?_)
  obtain ⟨rfl,h2,h3,h4⟩:=hq
  exact ⟨.inl ⟨.bool true,.bool true,[],rfl,λ _=>rfl,.bool true,fQq l _,λ _=>⟨List.Pairwise.nil,λ _ hm=>(nomatch hm)⟩⟩,h2,h3,h4⟩
section
variable {prog:Program} {w:World} {A:Around} {E:Value->Shared->Prop} {s:Shared} {K:Frag}
end
end Att
namespace L2
open PySem PySem.Spec PyProof.Rows
theorem dIq:∀ {vs:List Value} {ns:List Int},IntsAre vs ns->Vals (ns.map V.int) vs
  | _,_,.nil=>.nil
  | _,_,.cons n t h=>.cons ⟨t,rfl⟩ (dIq h)
def lMq (H:Hp):Prop:=∀ b,H b=none\/∃ o xs,H b=some (.frz o (.lst xs))
theorem h2q {P:Program} {w:World} {K:PySem.W.Frag} {mg mb:Str->Option Value} {CX:CXT} {k:Nat} {fa a:Addr} {fd:FuncData} {x:Str} {sp:Sp} {s₁:Shared} {vs:List Value} {ns:List Int}
    (KX:K.In s₁.heap) (hns:s₁.heap.Ns mainGlobals mg) (hb:s₁.heap.Ns builtinsNs mb) (hbb:∀ x:Str,x≠"__name__"->mb x=bootBuiltins x) (hlim:s₁.heap.NoLimit) (hg:s₁.gens=#[])
    (ha:s₁.heap.get? a=some { cls:=.type "list", data:=.seq vs.toArray }) (hi:IntsAre vs ns) (hl:ns.length<=sizeLine) (hr:Room k callerA)
    (F:∀ base:Heap,K.In base->base.Ns mainGlobals mg->FnOk P w K mg base CX k fa fd [x] sp) (hbind:∀ (s:Shared) (u:Value),BindsTo s fd ⟨[u],[]⟩ [(x,u)])
    (hsp:∀ H:Hp,lMq H->SqL K H a (ns.map V.int)->sp [.ref a] H (λ v _=>v=.bl true) λ _ _ _=>False)
    (hCX:∀ H e s',CX [] H s₁ (λ _ _ _=>False) e s'->False) :
    codeAny (model P w) callerA (.call (.ref fa) ⟨[.ref a],[]⟩) (λ r s'=>r=.ok (.ret (.bool true))/\OldK s₁.heap s'.heap/\s'.os=s₁.os/\AllBare s'.gens) s₁:=by
  have rv:=dIq hi
  have lenV:=hi.length
  have core:∀ H:Hp,lMq H->SqL K H a (ns.map V.int)->HOk P w H s₁.heap->(∀ b,H b≠none->b=a)->(H a≠none->K.lookup a=none) →
      codeAny (model P w) callerA (.call (.ref fa) ⟨[.ref a],[]⟩) (λ r s'=>r=.ok (.ret (.bool true))/\OldK s₁.heap s'.heap/\s'.os=s₁.os/\AllBare s'.gens) s₁:=by
    intro H hO hS hok hA hK
    have base_of:∀ {b:Addr} {o:Obj},s₁.heap.get? b=some o->H b=none->(gXq s₁.heap H).get? b=some o:=λ e n=>h3q e n
    have noA:∀ {b:Addr} {o:Obj} {es:Array DictEntry} {ep:Nat},s₁.heap.get? b=some o->o.data=.dict es ep->H b=none:=λ{b o es ep} e d=>by
      cases q:H b with
      | none=>rfl
      | some u=>
        have e':b=a:=hA b (by rw [q];simp)
        subst e'
        rw [ha] at e;cases e
        have d':Data.seq vs.toArray _=Data.dict es ep:=d
        cases d'
    have nsK:∀ {b:Addr} {m:Str->Option Value},s₁.heap.Ns b m->(gXq s₁.heap H).Ns b m:=λ{b m} ⟨o,es,ep,e,d,r⟩=>⟨o,es,ep,base_of e (noA e d),d,r⟩
    have hKb:K.In (gXq s₁.heap H):=λ b o e=>base_of (KX b o e) (by
      cases q:H b with
      | none=>rfl
      | some u=>
        have e':b=a:=hA b (by rw [q];simp)
        subst e'
        rw [hK (by rw [q];simp)] at e;cases e)
    have hM:Mod K mg (gXq s₁.heap H):=⟨hKb,nsK hns,⟨mb,nsK hb,hbb⟩,let ⟨mc,h1,h2⟩:=hlim;⟨mc,nsK h1,h2⟩⟩
    have e0:Env0 P w K mg (gXq s₁.heap H) callerA [] s₁ H:=⟨rfl,hM,λ b o e=>i4q e,Nat.le_of_eq (gBq _ _),trivial,λ b hb=>absurd (show b∈([]:List Addr) from hb) (by simp),hok,.of_eq hg⟩
    refine codeAny_mono ((F _ hKb (nsK hns)).run callerA [] s₁ H ⟨[.ref a],[]⟩ [.ref a] [.ref a] _ _ hr e0 (hbind s₁ (.ref a)) (.cons rfl .nil) (hsp H hO hS)) λ r s' h=>?_
    cases r with
    | error e=>exact (hCX H e s' h).elim
    | ok fl=>
      cases fl with
      | next=>exact False.elim h
      | brk=>exact False.elim h
      | cont=>exact False.elim h
      | ret u=>
        obtain ⟨v,H',os,bare,un,hok',r',q⟩:=h
        have q':v=.bl true:=q
        subst q'
        obtain rfl:u=Value.bool true:=r'
        refine ⟨rfl,OldK.of_keep λ b o e=>?_,os,bare⟩
        cases q:H b with
        | none=>exact un.keep b o e q (by intro z;exact absurd (show b∈([]:List Addr) from z) (by simp)) (by simp)
        | some u=>
          rcases hO b with z | ⟨ob,xs,z⟩
          . rw [q] at z;cases z
          . have z2:=un.frzs b ob _ z
            obtain ⟨e1,_⟩:=hok b _ z
            obtain ⟨e2,_⟩:=hok' b _ z2
            rw [e] at e1;cases e1
            exact e2
  cases hk:K.lookup a with
  | some o=>
    have e:=KX a o hk
    rw [ha] at e
    cases e
    refine core (λ _=>none) (λ _=>.inl rfl) (.inr ⟨_,vs.toArray,_,hk,rfl,rfl,rfl,by rw [List.size_toArray,lenV];exact hl,by simpa using rv⟩) (λ b u z=>by have z':(none:Option HO)=some u:=z;cases z') (λ b z=>absurd rfl z) λ z=>absurd rfl z
  | none=>
    refine core (λ b=>if b=a then some (.frz { cls:=.type "list", data:=.seq vs.toArray } (.lst (ns.map V.int))) else none) (λ b=>?_) (.inl (.inr ⟨{ cls:=.type "list", data:=.seq vs.toArray },if_pos rfl⟩)) (λ b u z=>?_) (λ b z=>?_) λ _=>hk
    . by_cases hb:b=a
      . exact .inr ⟨_,_,if_pos hb⟩
      . exact .inl (if_neg hb)
    . by_cases hb:b=a
      . have z':=(if_pos hb).symm.trans z
        cases z'
        subst hb
        exact ⟨ha,by rw [List.length_map];exact hl,vs,_,rv,ha⟩
      . have z':=(if_neg hb).symm.trans z
        cases z'
    . by_cases hb:b=a
      . exact hb
      . exact absurd (if_neg hb) z
theorem iTq {l:PySem.W.OpenLaw} {n k:Nat} {q:Program} {loose:List Str} {XP:(Str->Option Value)->Heap->Prop} {YP:World->Heap->Prop} {d:DefRec} {K:Params->PySem.W.Frag} {CX:World->CXT} {sp:World->Sp} {x:Str}
    (hn:l.most=some n) (hn2:n<=sizeLine) (hdf:d.params.defaults=[]) (hr:Room k callerA)
    (hY:∀ (w:World) (h:Heap),YP w h->(K w.params).In h)
    (F:∀ (w:World) (mg:Str->Option Value) (fa:Addr) (h:Heap),(K w.params).In h->h.Ns mainGlobals mg->mg d.name=some (.ref fa) →
      ∃ fd:FuncData,(∀ (s:Shared) (u:Value),BindsTo s fd ⟨[u],[]⟩ [(x,u)]) ∧
        ∀ base:Heap,(K w.params).In base->base.Ns mainGlobals mg->FnOk l.prog w (K w.params) mg base (CX w) k fa fd [x] (sp w))
    (hsp:∀ (w:World) (H:Hp) (a:Addr) (ns:List Int),ns.length<=n->lMq H->SqL (K w.params) H a (ns.map V.int)->sp w [.ref a] H (λ v _=>v=.bl true) λ _ _ _=>False)
    (hCX:∀ (w:World) (H:Hp) (s:Shared) (e:Value) (s':Shared),CX w [] H s (λ _ _ _=>False) e s'->False) :
    PySem.W.WalkO q loose XP YP l.row.toRowW d [] (λ f vs=>PySem.call f vs):=by
  refine Att.attach_call hn hdf λ w s₀ s₁ mg mb fa o pm cd doc a vs ns G Y ho hd hcd hmg hobj hints hlen hg=>?_
  have KX:=hY w _ Y
  obtain ⟨fd,hb,hF⟩:=F w mg fa _ KX G.T.g hmg
  exact h2q KX G.T.g G.T.b G.T.builtins G.T.nolimit hg hobj hints (Nat.le_trans hlen hn2) hr hF hb (λ H hO hS=>hsp w H a ns hlen hO hS) λ H e s'=>hCX w H s₁ e s'
def aYq (s:Stmt):Arguments:=match s with
  | .FunctionDef _ a _ _ _ _ _ _ _ _=>a
  | _=>{ posonlyargs:=[],args:=[],vararg:=none,kwonlyargs:=[],kw_defaults:=[],kwarg:=none,defaults:=[] }
def aJq (s:Stmt):List Stmt:=match s with
  | .FunctionDef _ _ b _ _ _ _ _ _ _=>b
  | _=>[]
def a2q (s:Stmt):Scope:=match s with
  | .FunctionDef _ _ _ _ _ _ sc _ _ _=>sc
  | _=>{ kind:=.function,names:=[],isGenerator:=false,isCoroutine:=false }
abbrev CX0:CXT:=λ _ _ _ _ _ _=>False
abbrev E0:XK:=λ _ _ _=>False
theorem mNq {X:Cx}:fMq CX0 X E0:=λ _ _ _ _ _ _ _ h=>h.elim
structure Fun (K:PySem.W.Frag) (x qual:Str) (st:Stmt) (f:Addr) (fd:FuncData):Prop where
  ex:∃ (oc:Value) (od:Option Addr) (kV doc pm:Value) (an:Option Addr) (cdv ct:Value) (osl:Array (Option Value)),
    fd=PySem.W.fnOf x qual (aYq st) (aJq st) (a2q st) .none kV doc pm an cdv ct/\K.lookup f=some ⟨oc,od,.func fd,osl⟩/\PySem.W.codeIn K cdv qual=true
  kp:PySem.W.keepIn K (.ref f)=true
section
variable {P:Program} {w:World} {K:PySem.W.Frag} {mg:Str->Option Value} {base:Heap}
theorem Fun.ok {x qual:Str} {st:Stmt} {f:Addr} {fd:FuncData} {N ps:List Str} {k:Nat} {sp:Sp} (F:Fun K x qual st f fd) (S:FnScope N ps (a2q st)) (len:∀ vs H Q E,sp vs H Q E->vs.length=ps.length)
    (hbody:∀ (cdv:Value) (A:Around) (outer:List Env) (s:Shared) (H:Hp) (vs:List V) (Q:VK) (E:XK),Room k (A.deeper (envOfC qual (a2q st) s.heap.objs.size f cdv))->sp vs H Q E →
      ∃ t,PSs (f3q CX0 P w K mg base N qual (a2q st) f cdv A outer s H E).nox (aJq st) t/\t { nx:=λ _ H'=>Q .non H',rt:=Q } (b3q N vs) H):FnOk P w K mg base CX0 (k+1) f fd ps sp:=by
  obtain ⟨oc,od,kV,doc,pm,an,cdv,ct,osl,rfl,lk,hcd⟩:=F.ex
  refine m3q lk hcd S len λ A outer s H vs Q E hr hsp=>?_
  obtain ⟨t,h,q⟩:=hbody cdv A outer s H vs Q E hr hsp
  exact ⟨t,h.nox,q⟩
theorem Fun.binds {x qual:Str} {st:Stmt} {f:Addr} {fd:FuncData} {ps:List Str} (F:Fun K x qual st f fd)
    (h:∀ (kV doc pm:Value) (an:Option Addr) (cdv ct:Value) (us:List Value),us.length=ps.length->bindArgs (PySem.W.fnOf x qual (aYq st) (aJq st) (a2q st) .none kV doc pm an cdv ct) ⟨us,[]⟩=pure (ps.zip us)):Binds K fd ps []:=by
  obtain ⟨oc,od,kV,doc,pm,an,cdv,ct,osl,rfl,lk,hcd⟩:=F.ex
  exact .all (h kV doc pm an cdv ct)
theorem k1q {x qual:Str} {st:Stmt} {f:Addr} {oc:Value} {od an:Option Addr} {osl:Array (Option Value)} {kV doc pm cdv ct:Value} (l:K.lookup f=some ⟨oc,od,.func (PySem.W.fnOf x qual (aYq st) (aJq st) (a2q st) .none kV doc pm an cdv ct),osl⟩)
 (c:PySem.W.codeIn K cdv qual=true) (k:PySem.W.keepIn K (.ref f)=true):Fun K x qual st f (PySem.W.fnOf x qual (aYq st) (aJq st) (a2q st) .none kV doc pm an cdv ct):=⟨⟨oc,od,kV,doc,pm,an,cdv,ct,osl,rfl,l,c⟩,k⟩
end
section
variable {X:Cx}
end
def aQq (cells:List (Str × Addr)):List (Str × NameKind)->List (Str × Addr)->List (Str × Addr)
  | [],acc=>acc
  | (n,k)::r,acc=>aQq cells r (if k=.free then (n,(cells.lookup n).getD 0)::acc else acc)
theorem c8q {α β:Type} {f:α->β->Sem (ForInStep β)} (g:β->α->β):∀ (l:List α) (c:β),(∀ x∈l,∀ c,f x c=pure (.yield (g c x)))->forIn l c f=pure (l.foldl g c)
  | [],_,_=>rfl
  | x::l,c,h=>by
    rw [List.forIn_cons,h x List.mem_cons_self,pure_bind]
    exact c8q g l _ λ y hy=>h y (List.mem_cons_of_mem _ hy)
theorem c9q (cells:List (Str × Addr)):∀ (names:List (Str × NameKind)) (acc:List (Str × Addr)),
    names.foldl (λ c y=>if y.2=.free then (y.1,(cells.lookup y.1).getD 0)::c else c) acc=aQq cells names acc
  | [],_=>rfl
  | (n,k)::r,acc=>by
    rw [List.foldl_cons,aQq]
    exact c9q cells r _
theorem dWq {scope:Scope} {env:Env} (h:∀ y∈scope.names,y.2=.free->∃ c,env.cells.lookup y.1=some c):closureFor scope env=pure (aQq env.cells scope.names []):=by
  rw [<- c9q]
  simp only [closureFor]
  rw [c8q (λ c y=>if y.2=.free then (y.1,(env.cells.lookup y.1).getD 0)::c else c) scope.names [] λ x hx c=>?_]
  . rfl
  . obtain ⟨n,k⟩:=x
    by_cases hk:k=.free
    . subst hk
      obtain ⟨a,e⟩:=h _ hx rfl
      have e':env.cells.lookup n=some a:=e
      simp [cellOf,e']
    . have hb:(k==NameKind.free)=false:=by simpa using hk
      simp [hb,hk]
theorem e3q {cells:List (Str × Addr)}:∀ (names:List (Str × NameKind)) (acc:List (Str × Addr)),(∀ y∈names,y.2=.free->∃ c,cells.lookup y.1=some c)->(∀ x c,acc.lookup x=some c->cells.lookup x=some c) →
    ∀ x c,(aQq cells names acc).lookup x=some c->cells.lookup x=some c
  | [],_,_,ha=>ha
  | (n,k)::r,acc,h,ha=>by
    rw [aQq]
    refine e3q r _ (λ y hy=>h y (List.mem_cons_of_mem _ hy)) λ x c e=>?_
    by_cases hk:k=.free
    . rw [if_pos hk] at e
      obtain ⟨a,ea⟩:=h (n,k) List.mem_cons_self hk
      have ea':cells.lookup n=some a:=ea
      rw [List.lookup_cons] at e
      cases hx:x==n with
      | true=>
        rw [hx] at e
        have e2:some ((cells.lookup n).getD 0)=some c:=e
        rw [ea'] at e2
        have e3:a=c:=Option.some.inj e2
        rw [eq_of_beq hx,ea',e3]
      | false=>
        rw [hx] at e
        exact ha x c e
    . rw [if_neg hk] at e
      exact ha x c e
theorem cYq {cells:List (Str × Addr)} {x:Str}:∀ (names:List (Str × NameKind)) (acc:List (Str × Addr)),(acc.lookup x).isSome=true->((aQq cells names acc).lookup x).isSome=true
  | [],_,h=>h
  | (n,k)::r,acc,h=>by
    rw [aQq]
    refine cYq r _ ?_
    by_cases hk:k=.free
    . rw [if_pos hk,List.lookup_cons]
      cases hx:x==n with
      | true=>rfl
      | false=>exact h
    . rw [if_neg hk];exact h
theorem c2q {cells:List (Str × Addr)} {x:Str}:∀ (names:List (Str × NameKind)) (acc:List (Str × Addr)),(x,NameKind.free)∈names->((aQq cells names acc).lookup x).isSome=true
  | [],_,h=>nomatch h
  | (n,k)::r,acc,h=>by
    rw [aQq]
    rcases List.mem_cons.mp h with e | h
    . cases e
      refine cYq r _ ?_
      rw [if_pos rfl,List.lookup_cons,beq_self_eq_true];rfl
    . exact c2q r _ h
theorem cFq {g:Str->NameKind->NameKind} {x:Str}:∀ names:List (Str × NameKind),(names.map λ y=>(y.1,g y.1 y.2)).lookup x=(names.lookup x).map (g x)
  | []=>rfl
  | (n,k)::r=>by
    rw [List.map_cons,List.lookup_cons,List.lookup_cons]
    cases hx:x==n with
    | true=>
      have e:=eq_of_beq hx
      subst e;rfl
    | false=>exact cFq r
theorem cLq (scope:Scope) (env:Env):(relabel scope env).names=scope.names.map λ y=>(y.1,if (y.2==.free&&env.scope.kind==.function&&env.kindOf y.1==some .cell)=true then NameKind.cell else y.2):=by
  unfold relabel
  refine List.map_congr_left λ y _=>?_
  obtain ⟨n,k⟩:=y
  show (if (k==.free&&env.scope.kind==.function&&env.kindOf n==some .cell)=true then (n,NameKind.cell) else (n,k))=_
  split<;>simp_all
theorem bIq (scope:Scope) (env:Env) (x:Str):(relabel scope env).names.lookup x=(scope.names.lookup x).map λ k=>if (k==.free&&env.scope.kind==.function&&env.kindOf x==some .cell)=true then NameKind.cell else k:=by
  rw [cLq]
  exact cFq (g:=λ n k=>if (k==.free&&env.scope.kind==.function&&env.kindOf n==some .cell)=true then NameKind.cell else k) scope.names
def a3q (X:Cx) (scope:Scope) (N':List Str) (C:Addr) (ex:List Addr) (s:Shared) (H:Hp):Cx:=
  { X with N:=N',s₀:=s,H₀:=H,env:=compEnvC scope (aQq X.env.cells scope.names []) C X.env,outer:=X.stack,stack:=X.stack,ex:=ex,fn:=λ _=>false,pn:=[],xe:=λ _ _=>False }
def b7q (nt:Nat) (cap:List Nat) (σ:St):St:=List.replicate nt none++cap.map λ i=>(σ[i]?).join
structure CompOk (X:Cx) (scope:Scope) (N':List Str) (nt:Nat) (cap:List Nat):Prop where
  kind:scope.kind=.function
  nocell:∀ y∈scope.names,y.2≠.cell
  locs:∀ y∈scope.names,y.2=.local->scope.names.lookup y.1=some .local
  frees:∀ y∈scope.names,y.2=.free->X.env.scope.names.lookup y.1=some .cell\/X.env.scope.names.lookup y.1=some .free
  len:N'.length=nt+cap.length
  caps:∀ (j i:Nat) (x:Str),cap[j]?=some i->N'[nt+j]?=some x->X.N[i]?=some x/\scope.names.lookup x=some .free
section
variable {X:Cx} {scope:Scope} {N':List Str} {nt:Nat} {cap:List Nat} {pins:List (Addr × Obj)} {σ:St} {H:Hp} {s:Shared}
theorem CompOk.has (c:CompOk X scope N' nt cap) (ok:X.Ok):∀ y∈scope.names,y.2=.free->∃ a,X.env.cells.lookup y.1=some a:=λ y hy hk=>ok.has y.1 (c.frees y hy hk)
theorem CompOk.cells (c:CompOk X scope N' nt cap) (ok:X.Ok) {x:Str} {a:Addr} (e:(aQq X.env.cells scope.names []).lookup x=some a):X.env.cells.lookup x=some a:=
  e3q scope.names [] (c.has ok) (λ _ _ z=>by simp at z) x a e
theorem CompOk.free_of (c:CompOk X scope N' nt cap) {x:Str} (h:(relabel scope X.env).names.lookup x=some .cell\/(relabel scope X.env).names.lookup x=some .free):(x,NameKind.free)∈scope.names:=by
  rw [bIq] at h
  cases q:scope.names.lookup x with
  | none=>rw [q] at h;simp at h
  | some k=>
    have hm:=PySem.mem_of_lookup q
    have nc:k≠.cell:=c.nocell _ hm
    rw [q] at h
    by_cases hk:k=.free
    . subst hk;exact hm
    . have hb:(k==NameKind.free)=false:=by simpa using hk
      simp only [Option.map_some,hb,Bool.false_and,Bool.false_eq_true,if_false,Option.some.injEq] at h
      rcases h with h | h
      . exact absurd h nc
      . exact absurd h hk
theorem Inv.comp (I:Inv X pins σ H s) (c:CompOk X scope N' nt cap) {fp:List Addr} (hf:∀ b∈fp,eIq X pins H b) (hfs:∀ b∈fp,b < s.heap.objs.size) {h':Heap} {m:Str->Option Value} {t':Nat}
    (hk:∀ b o,s.heap.get? b=some o->h'.get? b=some o) (hn:h'.Ns s.heap.objs.size m) :
    Inv (a3q X scope N' s.heap.objs.size fp s H) [] (b7q nt cap σ) H { s with heap:=h',toks:=t' }:=by
  have cl:=λ{x:Str} {a:Addr} (e:(aQq X.env.cells scope.names []).lookup x=some a)=>c.cells I.ok e
  have cellLt:∀ x a,X.env.cells.lookup x=some a->a < s.heap.objs.size:=λ x a e=>by
    obtain ⟨v,q⟩:=I.cell x a e
    exact q.lt
  refine ⟨⟨I.ok.mod,c.kind,I.ok.glob,I.ok.blt,Nat.le_refl _,λ x y a e1 e2=>I.ok.inj x y a (cl e1) (cl e2),λ x hx=>?_,λ x a hx=>absurd hx Bool.false_ne_true,I.ok.hd,I.ok.frames,.inl rfl,λ b hb=>⟨?_,λ x a e=>?_⟩,
      λ b o e=>I.bs b o e,Nat.le_trans I.ok.bsz I.sz,λ b o e hb=>?_,λ b hb hbf=>?_,I.stack,λ b hb=>I.stkFree b hb⟩,
    rfl,I.bare,Un.kept hk,⟨m,hn,λ i x v e1 e2 e3=>?_⟩,λ x a e=>?_,I.hok.fresh (Nat.le_refl _),λ x a e=>I.freeC x a (cl e),λ p hp=>absurd (show p∈([]:List (Addr × Obj)) from hp) (by simp),I.hok.kept hk,?_⟩
  . exact Option.isSome_iff_exists.mp (c2q scope.names [] (c.free_of hx))
  . exact Nat.ne_of_lt (hfs b hb)
  . exact (hf b hb).2.2.2.2.1 x a (cl e)
  . obtain ⟨f0,f1,f2,f3,_⟩:=hf b hb
    rcases f3 with z | z
    . exact I.ok.noex b o e z
    . exact absurd (Nat.lt_of_lt_of_le (Heap.lt_size e) (Nat.le_trans I.ok.bsz z)) (Nat.lt_irrefl _)
  . obtain ⟨f0,f1,f2,_⟩:=hf b hb
    rcases List.mem_cons.mp (I.stkSub b hbf) with z | z
    . exact f1 z
    . exact f2 z
  .
    have e1':N'[i]?=some x:=e1
    have hi:nt<=i:=by
      refine Nat.le_of_not_lt λ q=>?_
      unfold b7q at e2
      rw [List.getElem?_append_left (by simpa using q),List.getElem?_replicate,if_pos q] at e2
      cases e2
    obtain ⟨j,rfl⟩:=Nat.exists_eq_add_of_le hi
    unfold b7q at e2
    rw [List.getElem?_append_right (by simp),List.length_replicate,Nat.add_sub_cancel_left,List.getElem?_map] at e2
    cases q:cap[j]? with
    | none=>rw [q] at e2;cases e2
    | some k=>
      rw [q] at e2
      have e2':(σ[k]?).join=some v:=Option.some.inj e2
      have e4:σ[k]?=some (some v):=by
        cases z:σ[k]? with
        | none=>rw [z] at e2';cases e2'
        | some w'=>rw [z] at e2';exact congrArg some e2'
      obtain ⟨n1,n2⟩:=c.caps j k x q e1'
      have hmem:=PySem.mem_of_lookup n2
      have hkind:=c.frees _ hmem rfl
      obtain ⟨m0,_,hl⟩:=I.loc
      obtain ⟨u,r,lk⟩:=hl k x v n1 e4 (.inr hkind)
      refine ⟨u,r,.inr ⟨?_,?_⟩⟩
      . show (relabel scope X.env).names.lookup x=some .cell\/(relabel scope X.env).names.lookup x=some .free
        rw [bIq,n2]
        by_cases z:((NameKind.free==.free&&X.env.scope.kind==.function&&X.env.kindOf x==some .cell)=true)
        . exact .inl (by rw [Option.map_some,if_pos z])
        . exact .inr (by rw [Option.map_some,if_neg z])
      . rcases lk with ⟨k1,_⟩ | ⟨_,a,e,z⟩
        . have k1':X.env.scope.names.lookup x=some .local:=k1
          rcases hkind with y | y<;>(rw [k1'] at y;cases y)
        . obtain ⟨a',ea⟩:=Option.isSome_iff_exists.mp (c2q (cells:=X.env.cells) scope.names [] hmem)
          have e':=cl ea
          rw [e] at e';cases e'
          obtain ⟨o,ho,hd⟩:=z
          exact ⟨a,ea,o,hk _ _ ho,hd⟩
  . obtain ⟨v,o,ho,hd⟩:=I.cell x a (cl e)
    exact ⟨v,o,hk _ _ ho,hd⟩
  . show (b7q nt cap σ).length=N'.length
    unfold b7q
    rw [List.length_append,List.length_replicate,List.length_map,c.len]
theorem Inv.uncomp {C:Addr} {fp:List Addr} {σ':St} {H':Hp} {s':Shared} (I:Inv X pins σ H s) (hC:C=s.heap.objs.size) (hf:∀ b∈fp,eIq X pins H b) {N':List Str} (J:Inv (a3q X scope N' C fp s H) [] σ' H' s') :
    ∃ m,s'.heap.Ns C m/\∀ h',Heap.SameBut C s'.heap h'->Inv X pins σ H' { s' with heap:=h' }:=by
  subst hC
  obtain ⟨m,hn,_⟩:=J.loc
  refine ⟨m,hn,λ h' hs=>?_⟩
  have ne:∀ b o,s.heap.get? b=some o->b≠s.heap.objs.size:=λ b o e=>Nat.ne_of_lt (Heap.lt_size e)
  have B:=J.base
  refine I.call' (ch:=fp) J.os ⟨λ b o e n hb hx=>?_,λ b o e n hb hx=>?_,B.free,λ b o e hx=>?_,B.tups,B.frzs,B.tbls⟩ (λ b u e=>?_) J.bare λ b hb=>?_
  . exact (hs.2 b (ne b o e)).trans (B.keep b o e n hb hx)
  . obtain ⟨sl,q⟩:=B.slot b o e n hb hx
    exact ⟨sl,(hs.2 b (ne b o e)).trans q⟩
  . obtain ⟨o',q⟩:=B.there b o e hx
    exact ⟨o',(hs.2 b (ne b o e)).trans q⟩
  . have hCn:H' s.heap.objs.size=none:=J.free
    refine (J.hok b u e).stay (λ d w' hd q=>(hs.2 d ?_).trans q) (λ _ q=>q) λ _ _ q=>q
    intro z
    subst z
    rcases hd with z | z
    . rw [<- z,hCn] at e;cases e
    . rw [hCn] at z;cases z
  . obtain ⟨f0,f1,f2,f3,f4,f5⟩:=hf b hb
    exact ⟨f3,f1,f4,f5⟩
end
def g6q (wi:TI) (g:TG) (te:TE) (nt:Nat) (cap:List Nat):TE:=λ σ H Q=>wi σ H λ J H1=>∀ acc,H1 acc=none →
  ∃ W:Nat->Nat->List V->St->Hp->Prop,(∃ m,W 0 m [] (b7q nt cap σ) (upd H1 acc (.lst [])))/\∀ i m ys σ' H',W i m ys σ' H' →
    (J.stop i H'/\Q (.ref acc) H')\/(J.go i H'/\∀ x H2,J.yld i H' x H2->g x σ' H2 λ σ3 H3=>te σ3 H3 λ y H4=>
      H4 acc=some (.lst ys)/\ys.length < sizeLine/\∃ m',m' < m/\W (i+1) m' (ys++[y]) σ3 (upd H4 acc (.lst (ys++[y]))))
def dTq (wi:TI) (g:TG) (tc:TT) (te:TE) (nt:Nat) (cap:List Nat):TE:=λ σ H Q=>wi σ H λ J H1=>∀ acc,H1 acc=none →
  ∃ W:Nat->Nat->List V->St->Hp->Prop,(∃ m,W 0 m [] (b7q nt cap σ) (upd H1 acc (.lst [])))/\∀ i m ys σ' H',W i m ys σ' H' →
    (J.stop i H'/\Q (.ref acc) H')\/(J.go i H'/\∀ x H2,J.yld i H' x H2->g x σ' H2 λ σ3 H3=>tc σ3 H3 λ b H5=>if b=true then te σ3 H5 λ y H4=>
      H4 acc=some (.lst ys)/\ys.length < sizeLine/\∃ m',m' < m/\W (i+1) m' (ys++[y]) σ3 (upd H4 acc (.lst (ys++[y])))
      else ∃ m',m' < m/\W (i+1) m' ys σ3 H5)
theorem dEq (elt target iter c:Expr) (scope:Scope) (pos:Pos) (it acc:Value) (env:Env) :
    compTurn (.ListComp elt [⟨target,iter,[c],0⟩] scope pos) 0 it acc env=(standAt iter.pos >>= λ _=>pyNext it >>= λ r=>match r with
      | none=>pure (.done .next)
      | some v=>letOwnedTupleGo target it v >>= λ _=>assign target env v >>= λ _=>(forIn [c] true λ c r=>if r=true then do let ok ← isTrue c env (eval c env);pure (ForInStep.yield ok) else pure (ForInStep.yield r)) >>= λ ok=>
        if ok=true then (eval elt env >>= λ x=>call (.builtin "list.append") [acc,x] >>= λ _=>pure ()) >>= λ _=>again (.compLoop (.ListComp elt [⟨target,iter,[c],0⟩] scope pos) 0 it acc env)
        else again (.compLoop (.ListComp elt [⟨target,iter,[c],0⟩] scope pos) 0 it acc env)):=by
  rfl
theorem fXq (c:Expr) (env:Env):(forIn [c] true λ c r=>if r=true then do let ok ← isTrue c env (eval c env);pure (ForInStep.yield ok) else pure (ForInStep.yield r))=isTrue c env (eval c env):=by
  rw [List.forIn_cons,if_pos rfl]
  simp only [bind_assoc,pure_bind,List.forIn_nil,bind_pure]
theorem d3q (elt target iter c:Expr) (scope:Scope) (pos:Pos) (it acc:Value) (env:Env) :
    compTurn (.ListComp elt [⟨target,iter,[c],0⟩] scope pos) 0 it acc env=(standAt iter.pos >>= λ _=>pyNext it >>= λ r=>match r with
      | none=>pure (.done .next)
      | some v=>letOwnedTupleGo target it v >>= λ _=>assign target env v >>= λ _=>isTrue c env (eval c env) >>= λ ok=>
        if ok=true then (eval elt env >>= λ x=>call (.builtin "list.append") [acc,x] >>= λ _=>pure ()) >>= λ _=>again (.compLoop (.ListComp elt [⟨target,iter,[c],0⟩] scope pos) 0 it acc env)
        else again (.compLoop (.ListComp elt [⟨target,iter,[c],0⟩] scope pos) 0 it acc env)):=by
  rw [dEq,fXq]
section
variable {X:Cx} {scope:Scope} {N':List Str} {nt:Nat} {cap:List Nat} {elt iter tg:Expr} {pos:Pos} {wi:TI} {g:TG} {te:TE}
theorem iBq (hc:X.calm=true) (c:CompOk X scope N' nt cap) (hi:PI X tg iter wi) (hg:∀ C ex s H,PG (a3q X scope N' C ex s H) tg g) (he:∀ C ex s H,PE (a3q X scope N' C ex s H) elt te)
    (hs:∀ x,foldedSetIterable iter X.env x=pure x:=by intro _;rfl):PE X (.ListComp elt [⟨tg,iter,[],0⟩] scope pos) (g6q wi g te nt cap):=by
  intro pins s σ H Q I h
  rw [eval_ListComp]
  refine wpAny_comprehension_free (use:=none) rfl hs (dWq (c.has I.ok)) c.kind c.locs (thn (hi pins s σ H _ I h) λ v s1 h1=>thn h1 λ itv s2 h2=>?_)
  obtain ⟨it,fp,tn,J,H2,rfl,I2,T,st2,f2,R⟩:=h2
  have hD:H2 s2.heap.objs.size=none:=I2.hok.fresh (Nat.le_refl _)
  obtain ⟨W,⟨m0,w0⟩,turn⟩:=R _ hD
  have I3:Inv X pins σ (upd H2 s2.heap.objs.size (.lst [])) { s2 with heap:=s2.heap.push { cls:=.type "list", dict:=none,data:=.seq ([]:List Value).toArray } }:=
    I2.laid (t':=s2.toks) (λ b u e=>Heap.get?_push_of_some _ e) (Nat.le_refl _) ⟨Nat.zero_le _,[],0,.nil,Heap.get?_push_size _ rfl⟩
  have fpLt:∀ b∈fp,b < s2.heap.objs.size:=λ b hb=>by
    obtain ⟨o,e,_⟩:=T.obj _ _ st2 b hb
    exact Heap.lt_size e
  have f3:∀ b∈fp,eIq X pins (upd H2 s2.heap.objs.size (.lst [])) b:=λ b hb=>⟨by rw [a9q (Nat.ne_of_lt (fpLt b hb))];exact (f2 b hb).1,(f2 b hb).2⟩
  have st3:tn 0 (s2.heap.push { cls:=.type "list", dict:=none,data:=.seq ([]:List Value).toArray }):=T.keep _ _ _ st2 λ b _ o e=>Heap.get?_push_of_some _ e
  generalize hh3:s2.heap.push { cls:=.type "list", dict:=none,data:=.seq ([]:List Value).toArray }=h3 at I3 st3
  have sz3:s2.heap.objs.size < h3.objs.size:=by rw [<- hh3,Heap.size_push];exact Nat.lt_succ_self _
  generalize hDD:s2.heap.objs.size=D at I3 f3 hD w0 turn sz3 fpLt
  refine wpAny_newObj_type ?_
  rw [hDD,hh3]
  refine wpAny_newFunctionEnv c.nocell (by intro y hy;simp at hy) (λ h4 hns4 hsb4=>?_) c.kind
  dsimp only at hns4 hsb4 ⊢
  have keep4:∀ b o,h3.get? b=some o->h4.get? b=some o:=λ b o e=>(hsb4.2 b (Nat.ne_of_lt (Heap.lt_size e))).trans (Heap.get?_push_of_some _ e)
  have I4:=I3.comp (t':=s2.toks+([]:List (Str × Value)).length) c f3 (λ b hb=>Nat.lt_trans (fpLt b hb) sz3) keep4 hns4
  have st4:tn 0 h4:=T.keep _ _ _ st3 λ b _ o e=>keep4 b o e
  dsimp only at I4
  have fin:∀ {σ':St} {H':Hp} {s':Shared},Inv (a3q X scope N' h3.objs.size fp { s2 with heap:=h3 } (upd H2 D (.lst []))) [] σ' H' s'->Q (.ref D) H' →
      compPost (model X.prog X.w) X.A X.xe none (EP X pins σ Q) (.ref D) h3.objs.size (.ok .next) s':=λ{σ' H' s'} J' q=>by
    obtain ⟨m,hn,hh⟩:=I3.uncomp rfl f3 J'
    exact ⟨m,hn,λ h' hs'=>⟨.ref D,H',hh h' hs',rfl,q⟩⟩
  have stat:∀ {H':Hp},(∀ b∈fp,H' b=none)->∀ b∈fp,eIq (a3q X scope N' h3.objs.size fp { s2 with heap:=h3 } (upd H2 D (.lst []))) [] H' b:=λ{H'} hn b hb=>by
    refine ⟨hn b hb,Nat.ne_of_lt (Nat.lt_trans (fpLt b hb) sz3),λ z=>?_,.inl hb,λ x a e=>(f3 b hb).2.2.2.2.1 x a (c.cells I.ok e),λ p hp=>absurd (show p∈([]:List (Addr × Obj)) from hp) (by simp)⟩
    rcases List.mem_cons.mp (I.stkSub b z) with y | y
    . exact (f3 b hb).2.1 y
    . exact (f3 b hb).2.2.1 y
  have loop:codeAny (model X.prog X.w) X.A (.compLoop (.ListComp elt [⟨tg,iter,[],0⟩] scope pos) 0 (.ref it) (.ref D) (compEnvC scope (aQq X.env.cells scope.names []) h3.objs.size X.env))
      (compPost (model X.prog X.w) X.A X.xe none (EP X pins σ Q) (.ref D) h3.objs.size) { s2 with heap:=h4,toks:=s2.toks+([]:List (Str × Value)).length }:=by
    refine codeAny_loop rfl (λ n s'=>∃ i ys σ' H',Inv (a3q X scope N' h3.objs.size fp { s2 with heap:=h3 } (upd H2 D (.lst []))) [] σ' H' s'/\tn i s'.heap/\(∀ b∈fp,H' b=none)/\W i n ys σ' H') (λ n s5 hI=>?_) m0 ⟨0,[],_,_,I4,st4,λ b hb=>(f3 b hb).1,w0⟩
    obtain ⟨i,ys,σ5,H5,I5,st5,fr5,w5⟩:=hI
    show wpAny _ X.A ((compTurn (.ListComp elt [⟨tg,iter,[],0⟩] scope pos) 0 (.ref it) (.ref D) (compEnvC scope (aQq X.env.cells scope.names []) h3.objs.size X.env)).onRaise (λ x=>do noteFrame x (compEnvC scope (aQq X.env.cells scope.names []) h3.objs.size X.env);theTreesLotGoes x)) _ _ s5
    refine wpAny_noted ?_
    rw [compTurn_list1]
    rcases turn i n ys σ5 H5 w5 with ⟨stop,qn⟩ | ⟨go,step⟩
    . refine wpAny_bind (wpAny_standAt (wpAny_bind (wpAny_mono (T.done (a3q X scope N' h3.objs.size fp { s2 with heap:=h3 } (upd H2 D (.lst []))) rfl rfl rfl hc i [] s5 σ5 H5 (λ _ _=>False) I5 (stat fr5) st5 stop) (λ r s6 ⟨hr,I6⟩=>?_) λ _ _ z=>z.elim)))
      subst hr
      exact wpAny_pure (fin I6 qn)
    . refine wpAny_bind (wpAny_standAt (wpAny_bind (wpAny_mono (T.item (a3q X scope N' h3.objs.size fp { s2 with heap:=h3 } (upd H2 D (.lst []))) rfl rfl rfl hc i [] s5 σ5 H5 (λ _ _=>False) I5 (stat fr5) st5 go) (λ r s6 ⟨u,hr,h6⟩=>?_) λ _ _ z=>z.elim)))
      subst hr
      refine wpAny_bind (wpAny_mono h6 (λ _ s7 ⟨x,H7,I7,r7,y7,st7,fr7⟩=>?_) λ _ _ z=>z.elim)
      have I7':=I7.pinned (stat fr7) (T.obj _ _ st7)
      refine wpAny_bind (wpAny_mono (hg _ _ _ _ _ s7 σ5 H7 x u _ I7' r7 (step x H7 y7)) (λ _ s8 ⟨σ8,H8,I8,q8⟩=>?_) λ _ _ z=>z.elim)
      refine wpAny_bind (wpAny_bind (wpAny_mono (he _ _ _ _ _ s8 σ8 H8 _ I8 q8) (λ yv s9 ⟨y,H9,I9,r9,e9,z9,m',hm',w9⟩=>?_) λ _ _ z=>z.elim))
      refine wpAny_bind (wpAny_mono (bCq (X:=a3q X scope N' h3.objs.size fp { s2 with heap:=h3 } (upd H2 D (.lst []))) _ s9 σ8 H9 (.ref D) [y] (.ref D) [yv] (λ v H10=>v=.non/\H10=upd H9 D (.lst (ys++[y]))) I9 rfl (.cons r9 .nil) ⟨D,ys,y,rfl,rfl,e9,z9,rfl,rfl⟩)
        (λ _ s10 ⟨v10,H10,I10,_,_,e10⟩=>?_) λ _ _ z=>z.elim)
      subst e10
      refine wpAny_pure (wpAny_pure ⟨rfl,m',hm',i+1,ys++[y],σ8,_,I10.unpinned,?_,λ b hb=>?_,w9⟩)
      . exact T.keep _ _ _ st7 λ b hb o e=>(I10.pin (b,o) (List.mem_append_right _ (List.mem_append_right _ (aEq hb e)))).1
      . obtain ⟨o,e,d⟩:=T.obj _ _ st7 b hb
        exact (I10.pin (b,o) (List.mem_append_right _ (List.mem_append_right _ (aEq hb e)))).2.1
  exact codeAny_compStart_list loop (T.self _ 0 _ _ _ st4 loop)
end
structure Got (P:Program) (w:World) (K:PySem.W.Frag) (mg:Str->Option Value) (base:Heap) (k:Nat) (x:Str) (ps:List Str) (sp:Sp):Prop where
  ex:∃ (f:Addr) (fd:FuncData),FnOk P w K mg base CX0 k f fd ps sp/\mg x=some (.ref f)/\PySem.W.keepIn K (.ref f)=true/\Binds K fd ps []
section
variable {X:Cx} {k j:Nat} {x:Str} {ps:List Str} {sp:Sp} {p pos:Pos} {e:Expr} {es:List Expr} {t:TA}
theorem lTq (G:Got X.prog X.w X.K X.mg X.base k x ps sp) (hr:Room j X.A) (hk:k<=j) (hg:Gl X x) (ha:PA X (e::es) t) (hdb:(x==("__debug__" : Str))=false:=by decide)
    (he:starEach (e::es) X.env=(false,eval e X.env)::starEach es X.env:=by rfl) (hpl:(backTo pos (starEach es X.env)).any (·.1)=false:=by rfl) :
    PE X (.Call (.Name x p) (e::es) [] pos) (i1q sp [] E0 t):=by
  obtain ⟨f,fd,F,hm,kp,b⟩:=G.ex
  exact j0q F (hr.mono hk) hg hm kp b .nil mNq ha hdb he hpl
end
section
variable {X:Cx}
theorem gOq:OpR X (binaryOp .FloorDiv) (rI (λ _ j=>0 < j/\j < 2 ^ 64) λ i j=>.int (i / j)):=opI λ i j t u s E Q hc q=>by
  have h0:j≠0:=by omega
  have h1:j.natAbs.log2 < 9000:=by
    have e1:j.natAbs < 2 ^ 64:=by omega
    exact Nat.lt_trans ((Nat.log2_lt (by omega)).mpr e1) (by decide)
  have e:i.fdiv j=i / j:=Int.fdiv_eq_ediv_of_nonneg i (by omega)
  exact floordiv_int h0 (by rw [e];exact q) (.inl (PyProof.noPylong_of_log2 h1))
end
section
variable {X:Cx} {scope:Scope} {N':List Str} {nt:Nat} {cap:List Nat} {elt iter tg:Expr} {pos:Pos} {wi:TI} {g:TG} {te:TE}
theorem fAq {ct:Expr} {tc:TT} (hc:X.calm=true) (c:CompOk X scope N' nt cap) (hi:PI X tg iter wi) (hg:∀ C ex s H,PG (a3q X scope N' C ex s H) tg g) (ht:∀ C ex s H,PT (a3q X scope N' C ex s H) ct tc) (he:∀ C ex s H,PE (a3q X scope N' C ex s H) elt te)
    (hs:∀ x,foldedSetIterable iter X.env x=pure x:=by intro _;rfl):PE X (.ListComp elt [⟨tg,iter,[ct],0⟩] scope pos) (dTq wi g tc te nt cap):=by
  intro pins s σ H Q I h
  rw [eval_ListComp]
  refine wpAny_comprehension_free (use:=none) rfl hs (dWq (c.has I.ok)) c.kind c.locs (thn (hi pins s σ H _ I h) λ v s1 h1=>thn h1 λ itv s2 h2=>?_)
  obtain ⟨it,fp,tn,J,H2,rfl,I2,T,st2,f2,R⟩:=h2
  have hD:H2 s2.heap.objs.size=none:=I2.hok.fresh (Nat.le_refl _)
  obtain ⟨W,⟨m0,w0⟩,turn⟩:=R _ hD
  have I3:Inv X pins σ (upd H2 s2.heap.objs.size (.lst [])) { s2 with heap:=s2.heap.push { cls:=.type "list", dict:=none,data:=.seq ([]:List Value).toArray } }:=
    I2.laid (t':=s2.toks) (λ b u e=>Heap.get?_push_of_some _ e) (Nat.le_refl _) ⟨Nat.zero_le _,[],0,.nil,Heap.get?_push_size _ rfl⟩
  have fpLt:∀ b∈fp,b < s2.heap.objs.size:=λ b hb=>by
    obtain ⟨o,e,_⟩:=T.obj _ _ st2 b hb
    exact Heap.lt_size e
  have f3:∀ b∈fp,eIq X pins (upd H2 s2.heap.objs.size (.lst [])) b:=λ b hb=>⟨by rw [a9q (Nat.ne_of_lt (fpLt b hb))];exact (f2 b hb).1,(f2 b hb).2⟩
  have st3:tn 0 (s2.heap.push { cls:=.type "list", dict:=none,data:=.seq ([]:List Value).toArray }):=T.keep _ _ _ st2 λ b _ o e=>Heap.get?_push_of_some _ e
  generalize hh3:s2.heap.push { cls:=.type "list", dict:=none,data:=.seq ([]:List Value).toArray }=h3 at I3 st3
  have sz3:s2.heap.objs.size < h3.objs.size:=by rw [<- hh3,Heap.size_push];exact Nat.lt_succ_self _
  generalize hDD:s2.heap.objs.size=D at I3 f3 hD w0 turn sz3 fpLt
  refine wpAny_newObj_type ?_
  rw [hDD,hh3]
  refine wpAny_newFunctionEnv c.nocell (by intro y hy;simp at hy) (λ h4 hns4 hsb4=>?_) c.kind
  dsimp only at hns4 hsb4 ⊢
  have keep4:∀ b o,h3.get? b=some o->h4.get? b=some o:=λ b o e=>(hsb4.2 b (Nat.ne_of_lt (Heap.lt_size e))).trans (Heap.get?_push_of_some _ e)
  have I4:=I3.comp (t':=s2.toks+([]:List (Str × Value)).length) c f3 (λ b hb=>Nat.lt_trans (fpLt b hb) sz3) keep4 hns4
  have st4:tn 0 h4:=T.keep _ _ _ st3 λ b _ o e=>keep4 b o e
  dsimp only at I4
  have fin:∀ {σ':St} {H':Hp} {s':Shared},Inv (a3q X scope N' h3.objs.size fp { s2 with heap:=h3 } (upd H2 D (.lst []))) [] σ' H' s'->Q (.ref D) H' →
      compPost (model X.prog X.w) X.A X.xe none (EP X pins σ Q) (.ref D) h3.objs.size (.ok .next) s':=λ{σ' H' s'} J' q=>by
    obtain ⟨m,hn,hh⟩:=I3.uncomp rfl f3 J'
    exact ⟨m,hn,λ h' hs'=>⟨.ref D,H',hh h' hs',rfl,q⟩⟩
  have stat:∀ {H':Hp},(∀ b∈fp,H' b=none)->∀ b∈fp,eIq (a3q X scope N' h3.objs.size fp { s2 with heap:=h3 } (upd H2 D (.lst []))) [] H' b:=λ{H'} hn b hb=>by
    refine ⟨hn b hb,Nat.ne_of_lt (Nat.lt_trans (fpLt b hb) sz3),λ z=>?_,.inl hb,λ x a e=>(f3 b hb).2.2.2.2.1 x a (c.cells I.ok e),λ p hp=>absurd (show p∈([]:List (Addr × Obj)) from hp) (by simp)⟩
    rcases List.mem_cons.mp (I.stkSub b z) with y | y
    . exact (f3 b hb).2.1 y
    . exact (f3 b hb).2.2.1 y
  have loop:codeAny (model X.prog X.w) X.A (.compLoop (.ListComp elt [⟨tg,iter,[ct],0⟩] scope pos) 0 (.ref it) (.ref D) (compEnvC scope (aQq X.env.cells scope.names []) h3.objs.size X.env))
      (compPost (model X.prog X.w) X.A X.xe none (EP X pins σ Q) (.ref D) h3.objs.size) { s2 with heap:=h4,toks:=s2.toks+([]:List (Str × Value)).length }:=by
    refine codeAny_loop rfl (λ n s'=>∃ i ys σ' H',Inv (a3q X scope N' h3.objs.size fp { s2 with heap:=h3 } (upd H2 D (.lst []))) [] σ' H' s'/\tn i s'.heap/\(∀ b∈fp,H' b=none)/\W i n ys σ' H') (λ n s5 hI=>?_) m0 ⟨0,[],_,_,I4,st4,λ b hb=>(f3 b hb).1,w0⟩
    obtain ⟨i,ys,σ5,H5,I5,st5,fr5,w5⟩:=hI
    show wpAny _ X.A ((compTurn (.ListComp elt [⟨tg,iter,[ct],0⟩] scope pos) 0 (.ref it) (.ref D) (compEnvC scope (aQq X.env.cells scope.names []) h3.objs.size X.env)).onRaise (λ x=>do noteFrame x (compEnvC scope (aQq X.env.cells scope.names []) h3.objs.size X.env);theTreesLotGoes x)) _ _ s5
    refine wpAny_noted ?_
    rw [d3q]
    rcases turn i n ys σ5 H5 w5 with ⟨stop,qn⟩ | ⟨go,step⟩
    . refine wpAny_bind (wpAny_standAt (wpAny_bind (wpAny_mono (T.done (a3q X scope N' h3.objs.size fp { s2 with heap:=h3 } (upd H2 D (.lst []))) rfl rfl rfl hc i [] s5 σ5 H5 (λ _ _=>False) I5 (stat fr5) st5 stop) (λ r s6 ⟨hr,I6⟩=>?_) λ _ _ z=>z.elim)))
      subst hr
      exact wpAny_pure (fin I6 qn)
    . refine wpAny_bind (wpAny_standAt (wpAny_bind (wpAny_mono (T.item (a3q X scope N' h3.objs.size fp { s2 with heap:=h3 } (upd H2 D (.lst []))) rfl rfl rfl hc i [] s5 σ5 H5 (λ _ _=>False) I5 (stat fr5) st5 go) (λ r s6 ⟨u,hr,h6⟩=>?_) λ _ _ z=>z.elim)))
      subst hr
      refine wpAny_bind (wpAny_mono h6 (λ _ s7 ⟨x,H7,I7,r7,y7,st7,fr7⟩=>?_) λ _ _ z=>z.elim)
      have I7':=I7.pinned (stat fr7) (T.obj _ _ st7)
      refine wpAny_bind (wpAny_mono (hg _ _ _ _ _ s7 σ5 H7 x u _ I7' r7 (step x H7 y7)) (λ _ s8 ⟨σ8,H8,I8,q8⟩=>?_) λ _ _ z=>z.elim)
      refine wpAny_bind (wpAny_mono (ht _ _ _ _ _ s8 σ8 H8 _ I8 q8) (λ bb s9 ⟨H9,I9,q9⟩=>?_) λ _ _ z=>z.elim)
      cases bb with
      | true=>
        rw [if_pos rfl]
        rw [if_pos rfl] at q9
        refine wpAny_bind (wpAny_bind (wpAny_mono (he _ _ _ _ _ s9 σ8 H9 _ I9 q9) (λ yv sA ⟨y,HA,IA,rA,eA,zA,m',hm',wA⟩=>?_) λ _ _ z=>z.elim))
        refine wpAny_bind (wpAny_mono (bCq (X:=a3q X scope N' h3.objs.size fp { s2 with heap:=h3 } (upd H2 D (.lst []))) _ sA σ8 HA (.ref D) [y] (.ref D) [yv] (λ v H10=>v=.non/\H10=upd HA D (.lst (ys++[y]))) IA rfl (.cons rA .nil) ⟨D,ys,y,rfl,rfl,eA,zA,rfl,rfl⟩)
          (λ _ s10 ⟨v10,H10,I10,_,_,e10⟩=>?_) λ _ _ z=>z.elim)
        subst e10
        refine wpAny_pure (wpAny_pure ⟨rfl,m',hm',i+1,ys++[y],σ8,_,I10.unpinned,?_,λ b hb=>?_,wA⟩)
        . exact T.keep _ _ _ st7 λ b hb o e=>(I10.pin (b,o) (List.mem_append_right _ (List.mem_append_right _ (aEq hb e)))).1
        . obtain ⟨o,e,d⟩:=T.obj _ _ st7 b hb
          exact (I10.pin (b,o) (List.mem_append_right _ (List.mem_append_right _ (aEq hb e)))).2.1
      | false=>
        rw [if_neg Bool.false_ne_true]
        rw [if_neg Bool.false_ne_true] at q9
        obtain ⟨m',hm',w9⟩:=q9
        refine wpAny_pure ⟨rfl,m',hm',i+1,ys,σ8,_,I9.unpinned,?_,λ b hb=>?_,w9⟩
        . exact T.keep _ _ _ st7 λ b hb o e=>(I9.pin (b,o) (List.mem_append_right _ (List.mem_append_right _ (aEq hb e)))).1
        . obtain ⟨o,e,d⟩:=T.obj _ _ st7 b hb
          exact (I9.pin (b,o) (List.mem_append_right _ (List.mem_append_right _ (aEq hb e)))).2.1
  exact codeAny_compStart_list loop (T.self _ 0 _ _ _ st4 loop)
end
def aSq:Expr->Bool
  | .Starred ..=>false
  | _=>true
theorem aBq {e:Expr} {es:List Expr} {env:Env} (h:aSq e=true):starEach (e::es) env=(false,eval e env)::starEach es env:=by
  cases e<;>first | rfl | cases h
section
variable {κ:Type} [DecidableEq κ]
end
section
variable {P:Program} {w:World} {H:Hp} {h:Heap} {a:Addr}
end
section
variable {X:Cx} {pins:List (Addr × Obj)} {σ:St} {H:Hp} {s:Shared} {a:Addr} {y v:V} {u r:Value} {o:Option V} {A:Around} {E:Value->Shared->Prop}
end
section
variable {X:Cx} {pins:List (Addr × Obj)} {σ:St} {H:Hp} {s:Shared} {a:Addr} {kvs:List (Key × V)} {k:Key} {u:Value} {A:Around} {E:Value->Shared->Prop}
end
section
variable {X:Cx} {o i e value:Expr} {pos pos' tpos:Pos} {td ty tv:TE}
end
section
variable {X:Cx} {pos:Pos}
end
section
variable {X:Cx} {pins:List (Addr × Obj)} {σ:St} {H:Hp} {s:Shared} {a:Addr} {y d:V} {u r:Value} {o:Option V} {A:Around} {E:Value->Shared->Prop}
end
section
variable {X:Cx} {o e f:Expr} {apos cpos:Pos} {td ty tx:TE}
end
section
variable {X:Cx} {pins:List (Addr × Obj)} {σ:St} {H:Hp} {s:Shared} {a:Addr} {kvs:List (Key × V)} {A:Around} {E:Value->Shared->Prop}
end
section
variable {X:Cx} {pins:List (Addr × Obj)} {σ:St} {H:Hp} {s:Shared} {a:Addr} {y:V} {u:Value} {A:Around} {E:Value->Shared->Prop}
end
section
variable {κ:Type} [DecidableEq κ]
end
section
variable {prog:Program} {w:World} {A:Around} {E:Value->Shared->Prop} {s:Shared}
end
section
variable {X:Cx}
def mCq (K:PySem.W.Frag):R2:=λ x y H Q=>∃ a b xs ys,x=.ref a/\y=.ref b/\SqT K H a xs/\SqT K H b ys/\xs.length+ys.length<=sizeLine ∧
  (xs=[]->Q (.ref b) H)/\(xs≠[]->ys=[]->Q (.ref a) H)/\(xs≠[]->ys≠[]->∀ p,H p=none->Q (.ref p) (upd H p (.tup (xs++ys))))
theorem op_catW:OpR X (binaryOp .Add) (mCq X.K):=by
  intro pins s σ H x y v u Q I rx ry h
  obtain ⟨a,b,xs,ys,rfl,rfl,ha,hb,hz,q0,q1,q2⟩:=h
  by_cases hx:xs=[]
  . cases rx;cases ry
    obtain ⟨its,r,ht,_⟩:=I.tuple ha
    obtain ⟨its2,r2,ht2,_⟩:=I.tuple hb
    subst hx
    cases r
    obtain ⟨⟨cls,dd,data,sl⟩,ho,hc,n,hd⟩:=id ht
    obtain ⟨⟨cls2,dd2,data2,sl2⟩,ho2,hc2,n2,hd2⟩:=id ht2
    simp only at hc hd hc2 hd2
    subst hc hd hc2 hd2
    refine concat_meets ⟨_,ho,rfl⟩ ⟨_,ho2,rfl⟩ noFill_tuple_add seq_tuple_add PySem.F.slot_tuple_add PySem.F.entry_tuple_add (PySem.F.args_tuple_add_2 _ _) (tuple_addW0 a b _ its2.toArray n n2 dd dd2 sl sl2 (by simp)) ⟨ho,ho2,?_⟩
    exact ⟨.ref b,H,I,rfl,q0 rfl⟩
  . exact iMq pins s σ H _ _ v u Q I rx ry ⟨a,b,xs,ys,rfl,rfl,ha,hb,hx,hz,q1 hx,q2 hx⟩
end
section
variable {X:Cx}
end
structure JE (X:Cx) (e:Expr) (t:TE):Prop where
  run:PE X e t
structure JT (X:Cx) (e:Expr) (t:TT):Prop where
  run:PT X e t
structure JW (X:Cx) (e:Expr) (t:TT):Prop where
  run:PW X e t
structure JA (X:Cx) (es:List Expr) (t:TA):Prop where
  run:PA X es t
structure JS (X:Cx) (st:Stmt) (t:TS):Prop where
  run:PS X st t
structure JB (X:Cx) (st:List Stmt) (t:TS):Prop where
  run:PSs X st t
structure JG (X:Cx) (e:Expr) (t:TG):Prop where
  run:PG X e t
structure JI (X:Cx) (tg iter:Expr) (wi:TI):Prop where
  run:PI X tg iter wi
structure JOp (X:Cx) (f:Value->Value->Sem Value) (r:R2):Prop where
  run:OpR X f r
structure JCall (X:Cx) (f:Value) (r:List V->Hp->VK->Prop):Prop where
  run:CallR X f r
structure JIx (X:Cx) (r:R2):Prop where
  run:IxR X r
structure JMt (X:Cx) (id:String) (r:V->List V->Hp->VK->Prop):Prop where
  run:MtR X id r
structure JSet (X:Cx) (t:kSq):Prop where
  run:mFq X t
section
variable {X:Cx} {a b c e o i:Expr} {es:List Expr} {ta tb te to ti:TE} {t tr:TA} {pos p apos cpos:Pos}
theorem jJq {n:Int} {j}:JE X (.Constant (.int n) j pos) (tC (.int n)):=⟨k9q⟩
theorem mMq {n:Bool} {j}:JE X (.Constant (.bool n) j pos) (tC (.bl n)):=⟨mYq⟩
theorem jDq {x:Str} {j}:JE X (.Constant (.str x) j pos) (tC (.str x)):=⟨k7q⟩
theorem jv (k:Nat) {x:Str} (hN:X.N[k]?=some x:=by rfl) (hv:Vis X.env.scope x:=by first | exact Or.inl rfl | exact Or.inr (Or.inl rfl) | exact Or.inr (Or.inr rfl)) (hd:(x==("__debug__" : Str))=false:=by decide)
    (hcd:(x==("__classdict__" : Str))=false:=by decide):JE X (.Name x pos) (nBq k):=⟨k2q hN hv hd hcd⟩
theorem iCq {x:Str} {v:V} {u:Value} (hg:Gl X x) (hm:X.mg x=none) (hv:bootBuiltins x=some u) (r:RelV v u) (hn:x≠"__name__":=by decide) (hd:(x==("__debug__" : Str))=false:=by decide):JE X (.Name x pos) (tC v):=⟨iXq hg hm hv r hn hd⟩
theorem kFq:JA X [] nGq:=⟨jBq⟩
theorem iUq (ha:JE X e te) (hr:JA X es t) (hs:aSq e=true:=by rfl):JA X (e::es) (jHq te t):=⟨i8q ha.run hr.run (aBq hs)⟩
theorem l5q {x1} (h:JA X es t):JE X (.Tuple es x1 pos) (n9q t):=⟨jIq h.run⟩
theorem jGq (h:JA X es t):JE X (.List es pos) (nAq t):=⟨kJq h.run⟩
theorem mKq {op:Operator} {r:R2} (ho:JOp X (binaryOp op) r) (ha:JE X a ta) (hb:JE X b tb):JE X (.BinOp a op b pos) (tOp r ta tb):=⟨lYq ho.run ha.run hb.run⟩
theorem iZq {op:CmpOp} {r:R2} (ho:JOp X (compareOp op) r) (ha:JE X a ta) (hb:JE X b tb) (hm:behindInMarks op b=false):JE X (.Compare a [op] [b] pos) (tOp r ta tb):=⟨i5q ho.run ha.run hb.run hm⟩
theorem kVq {op} (h:JE X a ta):JE X (.BoolOp op [a] pos) ta:=⟨jVq h.run⟩
theorem kQq {rest:List Expr} (ha:JE X a ta) (hb:JE X (.BoolOp .And (b::rest) pos) tb):JE X (.BoolOp .And (a::b::rest) pos) (kMq ta tb):=⟨jCq ha.run hb.run⟩
theorem lUq {r:R2} (hr:JIx X r) (ha:JE X a ta) (hb:JE X b tb) (hs:dNq b):JE X (.Subscript a b pos) (tOp r ta tb):=⟨lXq hr.run ha.run hb.run hs⟩
theorem b2q {es:List Expr} {env:Env} (h:es.all aSq=true):(backTo pos (starEach es env)).any (·.1)=false:=by
  induction es with
  | nil=>rfl
  | cons x r ih=>
    rw [List.all_cons,Bool.and_eq_true] at h
    rw [aBq h.1]
    exact ih h.2
theorem m4q {k j:Nat} {x:Str} {ps:List Str} {sp:Sp} (G:Got X.prog X.w X.K X.mg X.base k x ps sp) (hr:Room j X.A) (hk:k<=j) (hg:Gl X x) (ha:JA X (e::es) t) (hdb:(x==("__debug__" : Str))=false:=by decide)
    (hs:(e::es).all aSq=true:=by rfl):JE X (.Call (.Name x p) (e::es) [] pos) (i1q sp [] E0 t):=by
  have h:=hs
  rw [List.all_cons,Bool.and_eq_true] at h
  exact ⟨lTq G hr hk hg ha.run hdb (aBq h.1) (b2q h.2)⟩
theorem gJq {x:Str} {id:String} {r:List V->Hp->VK->Prop} (hc:JCall X (.builtin id) r) (hg:Gl X x) (hm:X.mg x=none) (hv:bootBuiltins x=some (.builtin id)) (ha:JA X (e::es) t) (hn:x≠"__name__":=by decide) (hdb:(x==("__debug__" : Str))=false:=by decide)
    (hs:(e::es).all aSq=true:=by rfl):JE X (.Call (.Name x p) (e::es) [] pos) (tCB r t):=by
  have h:=hs
  rw [List.all_cons,Bool.and_eq_true] at h
  exact ⟨gQq hc.run hg hm hv ha.run hn hdb (aBq h.1) (b2q h.2)⟩
theorem gFq {x:Str} {T:String} {r:List V->Hp->VK->Prop} (hc:JCall X (.type T) r) (hg:Gl X x) (hm:X.mg x=none) (hv:bootBuiltins x=some (.type T)) (ha:JA X (e::es) t) (hn:x≠"__name__":=by decide) (hdb:(x==("__debug__" : Str))=false:=by decide)
    (hs:(e::es).all aSq=true:=by rfl):JE X (.Call (.Name x p) (e::es) [] pos) (tCB r t):=by
  have h:=hs
  rw [List.all_cons,Bool.and_eq_true] at h
  exact ⟨gAq hc.run hg hm hv ha.run hn hdb (aBq h.1) (b2q h.2)⟩
theorem m1q {name:Str} {T id:String} {r:V->List V->Hp->VK->Prop} (pa:PlainAttrs T) (slot:Slot T name id) (hty:typeOf (.builtin id)=pure (.type "method_descriptor")) (hm:JMt X id r) (ho:JE X o to) (ha:JA X [e] t)
    (hbase:attributeBase o name X.env (eval o X.env)=eval o X.env:=by rfl) (hline:(apos.endLine==cpos.line)=true:=by rfl) (hs:aSq e=true:=by rfl):JE X (.Call (.Attribute o name apos) [e] [] cpos) (tBM X.K T r to t):=
  ⟨mHq pa slot hty hm.run ho.run ha.run hbase (by rw [aBq hs];rfl) hline (aBq hs) rfl⟩
theorem iNq {op:CmpOp} {r:R2} (ho:JOp X (compareOp op) r) (ha:JE X a ta) (hb:JE X b tb) (hm:behindInMarks op b=false):JT X (.Compare a [op] [b] pos) (jTq (tOp r ta tb)):=⟨j6q ho.run ha.run hb.run hm⟩
theorem kBq {tc:TT} (ha:JT X a tc):JT X (.UnaryOp .Not a pos) (n7q tc):=⟨jNq ha.run⟩
theorem gYq (ha:JE X a ta) (he:∀ whole,isTrue a X.env whole=(do let v ← whole;standAt a.pos;holding [v] (truthy v))):JT X a (λ σ H Q=>ta σ H λ x H'=>∃ k,mBq X.K x H' k/\Q k H'):=⟨gNq ha.run he⟩
theorem kXq {tA:TT} (ha:JT X a tA):JW X (.BoolOp .Or [a] pos) tA:=⟨jZq ha.run⟩
theorem mWq {tA tB':TT} {rest:List Expr} (ha:JT X a tA) (hb:JW X (.BoolOp .Or (b::rest) pos) tB'):JW X (.BoolOp .Or (a::b::rest) pos) (tOr tA tB'):=⟨mRq ha.run hb.run⟩
theorem JW.pt {tA:TT} (h:JW X e tA):JT X e tA:=⟨PW.pt h.run⟩
theorem iVq {k:Nat} {x:Str} (hN:X.N.Nodup) (hi:X.N[k]?=some x) (hx:Loc X.env.scope x) (hf:X.fn x=true\/X.env.scope.names.lookup x=some .local:=by first | exact .inl rfl | exact .inr rfl | assumption):JG X (.Name x pos) (f2q k):=⟨i9q hN hi hx hf⟩
theorem jRq {tset:kSq} (ho:JE X o to) (hi:JE X i ti) (hs:JSet X tset) (ha:∀ v,assign (.Subscript o i pos) X.env v=(do
      let ov ← holding [v] (eval o X.env)
      let iv ← holding [v,ov] (eval i X.env)
      standAt pos
      holding [v,ov,iv] (setItem ov iv v)
      release [v,ov,iv] []):=by intro _;rfl):JG X (.Subscript o i pos) (nMq to ti tset):=⟨jLq ho.run hi.run hs.run ha⟩
theorem fHq {tg:Expr} (hg:Gl X "range") (hm:X.mg "range" = none) (ha:JA X [a] t) (hs:aSq a=true:=by rfl):JI X tg (.Call (.Name "range" p) [a] [] pos) (kTq t):=⟨gGq hg hm ha.run (aBq hs)⟩
theorem kCq:JB X [] k0q:=⟨iFq⟩
theorem hUq {st:Stmt} {rest:List Stmt} {ts us:TS} (h1:JS X st ts) (h2:JB X rest us):JB X (st::rest) (m6q ts us):=⟨h5q h1.run h2.run⟩
theorem kAq {st:Stmt} {ts:TS} (h1:JS X st ts):JB X [st] ts:=⟨j8q h1.run⟩
theorem iDq (he:JE X e te) (hs:swapsWith e none pos.line X.env=pure false:=by rfl):JS X (.Expr e pos) (jYq te):=⟨i7q he.run hs⟩
theorem jXq (he:JE X e te):JS X (.Return (some e) pos) (nDq te):=⟨jMq he.run⟩
theorem n1q {ss us:List Stmt} {tc:TT} {ts tu:TS} (hc:JT X c tc) (ha:JB X ss ts) (hb:JB X us tu):JS X (.If c ss us pos) (nPq tc ts tu):=⟨n5q hc.run ha.run hb.run⟩
theorem l7q {k:Nat} {x:Str} {pos':Pos} (hN:X.N.Nodup) (hi:X.N[k]?=some x) (hx:Loc X.env.scope x) (he:JE X e te) (hs:swapsWith e (some (.Name x pos')) pos.line X.env=pure false:=by rfl) (hf:X.fn x=true\/X.env.scope.names.lookup x=some .local:=by first | exact .inl rfl | exact .inr rfl | assumption) :
    JS X (.Assign [.Name x pos'] e pos) (iKq te (f2q k)):=⟨jSq hN hi hx he.run hs hf⟩
theorem jEq {tg:Expr} {g:TG} (he:JE X e te) (hg:JG X tg g) (hs:swapsWithSole [tg] e pos.line X.env=pure false:=by rfl) (hw:swappedStores [tg] e X.env=pure none:=by rfl) (h1:(assignEach [tg] X.env).map (·.2)=[assign tg X.env]:=by rfl):JS X (.Assign [tg] e pos) (iKq te g):=⟨k3q he.run hg.run hs hw h1⟩
theorem lHq {tg iter:Expr} {body:List Stmt} {wi:TI} {g:TG} {tb':TS} (hp:PassesOwn (model X.prog X.w) X.A X.env X.xe) (hc:X.calm=true) (hi:JI X tg iter wi) (hg:JG X tg g) (hb:JB X body tb') (hs:∀ x,foldedSetIterable iter X.env x=pure x:=by intro _;rfl) :
    JS X (.For tg iter body [] pos) (nEq wi g tb'):=⟨kOq hp hc hi.run hg.run hb.run hs⟩
theorem j4q {scope:Scope} {N':List Str} {nt:Nat} {cap:List Nat} {elt iter tg:Expr} {wi:TI} {g:TG} (hc:X.calm=true) (ok:CompOk X scope N' nt cap) (hi:JI X tg iter wi) (hg:∀ C ex s H,JG (a3q X scope N' C ex s H) tg g) (he:∀ C ex s H,JE (a3q X scope N' C ex s H) elt te)
    (hs:∀ x,foldedSetIterable iter X.env x=pure x:=by intro _;rfl):JE X (.ListComp elt [⟨tg,iter,[],0⟩] scope pos) (g6q wi g te nt cap):=⟨iBq hc ok hi.run (λ C ex s H=>(hg C ex s H).run) (λ C ex s H=>(he C ex s H).run) hs⟩
theorem g4q {ct:Expr} {tc:TT} {scope:Scope} {N':List Str} {nt:Nat} {cap:List Nat} {elt iter tg:Expr} {wi:TI} {g:TG} (hc:X.calm=true) (ok:CompOk X scope N' nt cap) (hi:JI X tg iter wi) (hg:∀ C ex s H,JG (a3q X scope N' C ex s H) tg g)
    (ht:∀ C ex s H,JT (a3q X scope N' C ex s H) ct tc) (he:∀ C ex s H,JE (a3q X scope N' C ex s H) elt te) (hs:∀ x,foldedSetIterable iter X.env x=pure x:=by intro _;rfl):JE X (.ListComp elt [⟨tg,iter,[ct],0⟩] scope pos) (dTq wi g tc te nt cap):=
  ⟨fAq hc ok hi.run (λ C ex s H=>(hg C ex s H).run) (λ C ex s H=>(ht C ex s H).run) (λ C ex s H=>(he C ex s H).run) hs⟩
end
theorem Fun.okJ {P:Program} {w:World} {K:PySem.W.Frag} {mg:Str->Option Value} {base:Heap} {x qual:Str} {st:Stmt} {f:Addr} {fd:FuncData} {N ps:List Str} {k:Nat} {sp:Sp} (F:Fun K x qual st f fd) (S:FnScope N ps (a2q st)) (len:∀ vs H Q E,sp vs H Q E->vs.length=ps.length)
    (hbody:∀ (cdv:Value) (A:Around) (outer:List Env) (s:Shared) (H:Hp) (vs:List V) (Q:VK) (E:XK),Room k (A.deeper (envOfC qual (a2q st) s.heap.objs.size f cdv))->sp vs H Q E →
      ∃ t,JB (f3q CX0 P w K mg base N qual (a2q st) f cdv A outer s H E).nox (aJq st) t/\t { nx:=λ _ H'=>Q .non H',rt:=Q } (b3q N vs) H):FnOk P w K mg base CX0 (k+1) f fd ps sp:=
  F.ok S len λ cdv A outer s H vs Q E hr h=>let ⟨t,j,q⟩:=hbody cdv A outer s H vs Q E hr h;⟨t,j.run,q⟩
section
variable {X:Cx} {scope:Scope} {N':List Str} {nt:Nat} {cap:List Nat} {elt iter tg:Expr} {pos:Pos} {wi:TI} {g:TG} {te:TE}
theorem eSq {y:Str} {py spos:Pos} {k:Nat} (hc:X.calm=true) (hN:X.N.Nodup) (hk:X.N[k]?=some y) (hy:Loc X.env.scope y) (c:CompOk X scope N' nt cap) (hi:PI X tg iter wi) (hg:∀ C ex s H,PG (a3q X scope N' C ex s H) tg g) (he:∀ C ex s H,PE (a3q X scope N' C ex s H) elt te)
    (hs:∀ x,foldedSetIterable iter X.env x=pure x:=by intro _;rfl) (hsw:swapsWith (.ListComp elt [⟨tg,iter,[],0⟩] scope pos) (some (.Name y py)) spos.line X.env=pure true:=by rfl) (hf:X.fn y=true\/X.env.scope.names.lookup y=some .local:=by first | exact .inl rfl | exact .inr rfl | assumption) :
    PS X (.Assign [.Name y py] (.ListComp elt [⟨tg,iter,[],0⟩] scope pos) spos) (iKq (g6q wi g te nt cap) (f2q k)):=by
  intro pins s σ H D0 I h
  rw [exec_Assign_Name_used _ _ _ _ hsw]
  refine wpAny_bind (wpAny_standAt (wpAny_bind ?_))
  show wpAny _ X.A (do let _ ← comprehension (.ListComp elt [⟨tg,iter,[],0⟩] scope pos) scope X.env _ (newList []) false (eval iter X.env) (some (assign (.Name y py) X.env))) _ _ s
  refine wpAny_bind (wpAny_mono (wpAny_comprehension_free (use:=some (assign (.Name y py) X.env)) (Q:=λ _ s'=>SP X pins D0 .next s') rfl hs (dWq (c.has I.ok)) c.kind c.locs (thn (hi pins s σ H _ I h) λ v s1 h1=>thn h1 λ itv s2 h2=>?_)) (λ _ s' hq=>wpAny_pure (wpAny_pure hq)) λ _ _ e=>e)
  obtain ⟨it,fp,tn,J,H2,rfl,I2,T,st2,f2,R⟩:=h2
  have hD:H2 s2.heap.objs.size=none:=I2.hok.fresh (Nat.le_refl _)
  obtain ⟨W,⟨m0,w0⟩,turn⟩:=R _ hD
  have I3:Inv X pins σ (upd H2 s2.heap.objs.size (.lst [])) { s2 with heap:=s2.heap.push { cls:=.type "list", dict:=none,data:=.seq ([]:List Value).toArray } }:=
    I2.laid (t':=s2.toks) (λ b u e=>Heap.get?_push_of_some _ e) (Nat.le_refl _) ⟨Nat.zero_le _,[],0,.nil,Heap.get?_push_size _ rfl⟩
  have fpLt:∀ b∈fp,b < s2.heap.objs.size:=λ b hb=>by
    obtain ⟨o,e,_⟩:=T.obj _ _ st2 b hb
    exact Heap.lt_size e
  have f3:∀ b∈fp,eIq X pins (upd H2 s2.heap.objs.size (.lst [])) b:=λ b hb=>⟨by rw [a9q (Nat.ne_of_lt (fpLt b hb))];exact (f2 b hb).1,(f2 b hb).2⟩
  have st3:tn 0 (s2.heap.push { cls:=.type "list", dict:=none,data:=.seq ([]:List Value).toArray }):=T.keep _ _ _ st2 λ b _ o e=>Heap.get?_push_of_some _ e
  generalize hh3:s2.heap.push { cls:=.type "list", dict:=none,data:=.seq ([]:List Value).toArray }=h3 at I3 st3
  have sz3:s2.heap.objs.size < h3.objs.size:=by rw [<- hh3,Heap.size_push];exact Nat.lt_succ_self _
  generalize hDD:s2.heap.objs.size=D at I3 f3 hD w0 turn sz3 fpLt
  refine wpAny_newObj_type ?_
  rw [hDD,hh3]
  refine wpAny_newFunctionEnv c.nocell (by intro y hy;simp at hy) (λ h4 hns4 hsb4=>?_) c.kind
  dsimp only at hns4 hsb4 ⊢
  have keep4:∀ b o,h3.get? b=some o->h4.get? b=some o:=λ b o e=>(hsb4.2 b (Nat.ne_of_lt (Heap.lt_size e))).trans (Heap.get?_push_of_some _ e)
  have I4:=I3.comp (t':=s2.toks+([]:List (Str × Value)).length) c f3 (λ b hb=>Nat.lt_trans (fpLt b hb) sz3) keep4 hns4
  have st4:tn 0 h4:=T.keep _ _ _ st3 λ b _ o e=>keep4 b o e
  dsimp only at I4
  have fin:∀ {σ':St} {H':Hp} {s':Shared},Inv (a3q X scope N' h3.objs.size fp { s2 with heap:=h3 } (upd H2 D (.lst []))) [] σ' H' s'->D0.nx (σ.set k (some (.ref D))) H' →
      compPost (model X.prog X.w) X.A X.xe (some (assign (.Name y py) X.env)) (λ _ s'=>SP X pins D0 .next s') (.ref D) h3.objs.size (.ok .next) s':=λ{σ' H' s'} J' q=>by
    obtain ⟨m,hn,hh⟩:=I3.uncomp rfl f3 J'
    have IX:Inv X pins σ H' s':=hh s'.heap (Heap.SameBut.refl ..)
    have hCL:h3.objs.size≠X.env.locals:=Nat.ne_of_gt I3.lt
    have hCc:∀ x a,X.env.cells.lookup x=some a->a≠h3.objs.size:=λ x a e=>by
      obtain ⟨v,z⟩:=I3.cell x a e
      exact Nat.ne_of_lt z.lt
    show wpAny _ X.A (assign (.Name y py) X.env (.ref D)) _ _ s'
    refine wpAny_assign_Name (dDq IX hN hk hy (v:=.ref D) rfl (λ s'' I'' hch=>?_) hf)
    obtain ⟨a,sb,ha⟩:=hch
    have hCa:h3.objs.size≠a:=by
      rcases ha with z | z
      . rw [z];exact hCL
      . exact (hCc _ _ z).symm
    refine ⟨m,hn.sameBut sb hCa,λ h' hs'=>⟨_,H',?_,q⟩⟩
    exact I''.turned (t':=s''.toks) (λ b o hb e=>(hs'.2 b hb).trans e) J'.free hCL (.inr I3.sz) hCc λ p hp z=>by
      have e:=(I3.pin p hp).1
      rw [z] at e
      exact absurd (Heap.lt_size e) (Nat.lt_irrefl _)
  have stat:∀ {H':Hp},(∀ b∈fp,H' b=none)->∀ b∈fp,eIq (a3q X scope N' h3.objs.size fp { s2 with heap:=h3 } (upd H2 D (.lst []))) [] H' b:=λ{H'} hn b hb=>by
    refine ⟨hn b hb,Nat.ne_of_lt (Nat.lt_trans (fpLt b hb) sz3),λ z=>?_,.inl hb,λ x a e=>(f3 b hb).2.2.2.2.1 x a (c.cells I.ok e),λ p hp=>absurd (show p∈([]:List (Addr × Obj)) from hp) (by simp)⟩
    rcases List.mem_cons.mp (I.stkSub b z) with y | y
    . exact (f3 b hb).2.1 y
    . exact (f3 b hb).2.2.1 y
  have loop:codeAny (model X.prog X.w) X.A (.compLoop (.ListComp elt [⟨tg,iter,[],0⟩] scope pos) 0 (.ref it) (.ref D) (compEnvC scope (aQq X.env.cells scope.names []) h3.objs.size X.env))
      (compPost (model X.prog X.w) X.A X.xe (some (assign (.Name y py) X.env)) (λ _ s'=>SP X pins D0 .next s') (.ref D) h3.objs.size) { s2 with heap:=h4,toks:=s2.toks+([]:List (Str × Value)).length }:=by
    refine codeAny_loop rfl (λ n s'=>∃ i ys σ' H',Inv (a3q X scope N' h3.objs.size fp { s2 with heap:=h3 } (upd H2 D (.lst []))) [] σ' H' s'/\tn i s'.heap/\(∀ b∈fp,H' b=none)/\W i n ys σ' H') (λ n s5 hI=>?_) m0 ⟨0,[],_,_,I4,st4,λ b hb=>(f3 b hb).1,w0⟩
    obtain ⟨i,ys,σ5,H5,I5,st5,fr5,w5⟩:=hI
    show wpAny _ X.A ((compTurn (.ListComp elt [⟨tg,iter,[],0⟩] scope pos) 0 (.ref it) (.ref D) (compEnvC scope (aQq X.env.cells scope.names []) h3.objs.size X.env)).onRaise (λ x=>do noteFrame x (compEnvC scope (aQq X.env.cells scope.names []) h3.objs.size X.env);theTreesLotGoes x)) _ _ s5
    refine wpAny_noted ?_
    rw [compTurn_list1]
    rcases turn i n ys σ5 H5 w5 with ⟨stop,qn⟩ | ⟨go,step⟩
    . refine wpAny_bind (wpAny_standAt (wpAny_bind (wpAny_mono (T.done (a3q X scope N' h3.objs.size fp { s2 with heap:=h3 } (upd H2 D (.lst []))) rfl rfl rfl hc i [] s5 σ5 H5 (λ _ _=>False) I5 (stat fr5) st5 stop) (λ r s6 ⟨hr,I6⟩=>?_) λ _ _ z=>z.elim)))
      subst hr
      exact wpAny_pure (fin I6 qn)
    . refine wpAny_bind (wpAny_standAt (wpAny_bind (wpAny_mono (T.item (a3q X scope N' h3.objs.size fp { s2 with heap:=h3 } (upd H2 D (.lst []))) rfl rfl rfl hc i [] s5 σ5 H5 (λ _ _=>False) I5 (stat fr5) st5 go) (λ r s6 ⟨u,hr,h6⟩=>?_) λ _ _ z=>z.elim)))
      subst hr
      refine wpAny_bind (wpAny_mono h6 (λ _ s7 ⟨x,H7,I7,r7,y7,st7,fr7⟩=>?_) λ _ _ z=>z.elim)
      have I7':=I7.pinned (stat fr7) (T.obj _ _ st7)
      refine wpAny_bind (wpAny_mono (hg _ _ _ _ _ s7 σ5 H7 x u _ I7' r7 (step x H7 y7)) (λ _ s8 ⟨σ8,H8,I8,q8⟩=>?_) λ _ _ z=>z.elim)
      refine wpAny_bind (wpAny_bind (wpAny_mono (he _ _ _ _ _ s8 σ8 H8 _ I8 q8) (λ yv s9 ⟨y,H9,I9,r9,e9,z9,m',hm',w9⟩=>?_) λ _ _ z=>z.elim))
      refine wpAny_bind (wpAny_mono (bCq (X:=a3q X scope N' h3.objs.size fp { s2 with heap:=h3 } (upd H2 D (.lst []))) _ s9 σ8 H9 (.ref D) [y] (.ref D) [yv] (λ v H10=>v=.non/\H10=upd H9 D (.lst (ys++[y]))) I9 rfl (.cons r9 .nil) ⟨D,ys,y,rfl,rfl,e9,z9,rfl,rfl⟩)
        (λ _ s10 ⟨v10,H10,I10,_,_,e10⟩=>?_) λ _ _ z=>z.elim)
      subst e10
      refine wpAny_pure (wpAny_pure ⟨rfl,m',hm',i+1,ys++[y],σ8,_,I10.unpinned,?_,λ b hb=>?_,w9⟩)
      . exact T.keep _ _ _ st7 λ b hb o e=>(I10.pin (b,o) (List.mem_append_right _ (List.mem_append_right _ (aEq hb e)))).1
      . obtain ⟨o,e,d⟩:=T.obj _ _ st7 b hb
        exact (I10.pin (b,o) (List.mem_append_right _ (List.mem_append_right _ (aEq hb e)))).2.1
  exact codeAny_compStart_list loop (T.self _ 0 _ _ _ st4 loop)
end
section
variable {X:Cx} {tg:Expr}
end
end L2
namespace L2
open PySem PySem.Spec PyProof.Rows Builtin
section
variable {X:Cx}
end
section
variable {X:Cx} {a b c e:Expr} {t:TA} {te:TE} {pos p:Pos}
variable {scope:Scope} {N':List Str} {nt:Nat} {cap:List Nat} {elt iter tg:Expr} {wi:TI} {g:TG}
theorem ePq {y:Str} {py spos:Pos} {k:Nat} (hc:X.calm=true) (hN:X.N.Nodup) (hk:X.N[k]?=some y) (hy:Loc X.env.scope y) (ok:CompOk X scope N' nt cap) (hi:JI X tg iter wi) (hg:∀ C ex s H,JG (a3q X scope N' C ex s H) tg g) (he:∀ C ex s H,JE (a3q X scope N' C ex s H) elt te)
    (hs:∀ x,foldedSetIterable iter X.env x=pure x:=by intro _;rfl) (hsw:swapsWith (.ListComp elt [⟨tg,iter,[],0⟩] scope pos) (some (.Name y py)) spos.line X.env=pure true:=by rfl) (hf:X.fn y=true\/X.env.scope.names.lookup y=some .local:=by first | exact .inl rfl | exact .inr rfl | assumption) :
    JS X (.Assign [.Name y py] (.ListComp elt [⟨tg,iter,[],0⟩] scope pos) spos) (iKq (g6q wi g te nt cap) (f2q k)):=⟨eSq hc hN hk hy ok hi.run (λ C ex s H=>(hg C ex s H).run) (λ C ex s H=>(he C ex s H).run) hs hsw hf⟩
end
section
variable {X:Cx} {k j:Nat} {f:Addr} {x:Str} {sp:Sp} {p pos:Pos} {e:Expr} {es:List Expr} {t:TA}
end
end L2
namespace KRv
open PySem PyProof.Rows
section
variable {prog:Program} {w:World} {A:Around} {E:Value->Shared->Prop} {s:Shared} {it t:Addr}
end
section
variable {prog:Program} {w:World} {A:Around} {E:Value->Shared->Prop} {s:Shared} {R:Result->Shared->Prop} {I S:Addr} {fp wr:List Addr} {n:Nat} {P:Nat->Value->Prop} {St:Nat->Shared->Prop}
end
end KRv
namespace L2
open PySem PySem.Spec PyProof.Rows
section
variable {X:Cx} {e:Expr} {te:TE} {p p2 pos pos2:Pos}
end
section
variable {X:Cx} {e:Expr} {te:TE} {p p2 pos pos2:Pos}
end
end L2
namespace KZp
open PySem PyProof.Rows
section
variable {prog:Program} {w:World} {A:Around} {E:Value->Shared->Prop} {s:Shared}
variable {z TI TO i1 i2 l1 l2:Addr} {i:Nat} {xs ys:Array Value}
end
end KZp
namespace L2
open PySem PySem.Spec PyProof.Rows
section
variable {X:Cx}
end
def fzn (o:Obj):HO:=.frz o (.ext λ _=>True)
section
variable {P:Program} {w:World} {H H':Hp} {h h':Heap} {as:List Addr}
end
structure CloAt (H:Hp) (f:Addr) (name qual:Str) (st:Stmt) (cl:List (Str × Addr)) (fvs:List V):Prop where
  fn:∃ (oc:Value) (od:Option Addr) (doc pm cdv ct:Value) (sl:Array (Option Value)),H f=some (fzn ⟨oc,od,.func (PySem.W.fnX name qual (aYq st) (aJq st) (a2q st) cl .none .none doc pm none cdv ct),sl⟩) ∧
    ∃ c o vs t,cdv=.ref c/\H c=some (fzn o)/\o.data=.fields vs/\vs[1]?=some (.str qual t)
  cells:∀ (i:Nat) (x:Str) (c:Addr),cl[i]?=some (x,c)->∃ v u o,fvs[i]?=some v/\RelV v u/\H c=some (fzn o)/\o.data=.cell (some u)
  len:cl.length=fvs.length
  nda:(cl.map (·.2)).Nodup
section
variable {P:Program} {w:World} {K:PySem.W.Frag} {mg:Str->Option Value} {base:Heap} {k:Nat} {name qual:Str} {st:Stmt} {fr:List Str} {fvs:List V} {N ps:List Str} {sp:Sp}
end
section
variable {X:Cx} {k j:Nat} {name qual:Str} {st:Stmt} {fr:List Str} {fvs:List V} {ps:List Str} {x:Str} {sp:Sp} {p pos:Pos} {e:Expr} {es:List Expr} {t:TA}
end
def oAq (env:Env) (fr:List Str):List (Str × Addr):=fr.map λ x=>(x,(env.cells.lookup x).getD 0)
structure MadeAt (env:Env) (H:Hp) (f:Addr) (name qual:Str) (st:Stmt) (fr:List Str):Prop where
  fn:∃ (oc:Value) (od:Option Addr) (doc pm cdv ct:Value) (sl:Array (Option Value)),H f=some (fzn ⟨oc,od,.func (PySem.W.fnX name qual (aYq st) (aJq st) (a2q st) (oAq env fr) .none .none doc pm none cdv ct),sl⟩) ∧
    ∃ c o vs t,cdv=.ref c/\H c=some (fzn o)/\o.data=.fields vs/\vs[1]?=some (.str qual t)
section
variable {X:Cx} {pins:List (Addr × Obj)} {σ:St} {H H2:Hp} {s s':Shared} {as:List Addr}
end
section
variable {X:Cx} {k j:Nat} {g:Addr} {fd:FuncData} {name qual:Str} {st:Stmt} {fr:List Str} {ix:List Nat} {ps:List Str} {x:Str} {sp:Sp} {p pos:Pos} {e:Expr} {es:List Expr} {t:TA}
end
def Tab (H:Hp) (T:Addr) (pos:Pos) (qual:Str):Prop:=∃ ps,H T=some (.tbl ps)/\TriplesOk ps.toList/\(codeAmong pos ps.toList=none\/∃ c o vs t,codeAmong pos ps.toList=some (.ref c)/\H c=some (fzn o)/\o.data=.fields vs/\vs[1]?=some (.str qual t))
section
variable {P:Program} {w:World} {H:Hp} {h h':Heap} {T c:Addr} {ps mo:Array Value} {oc:Obj} {fs ex:List Addr}
end
section
variable {X:Cx} {i:Nat} {T c:Addr} {name:Str} {params:Arguments} {body:List Stmt} {scope:Scope} {pos:Pos} {fr:List Str}
end
section
variable {P:Program} {w:World} {K:PySem.W.Frag} {mg mb:Str->Option Value} {k:Nat} {fa a:Addr} {fd:FuncData} {x:Str} {sp:Sp} {s₁:Shared} {vs:List Value} {ns:List Int} {tabs:List (Addr × Addr)}
end
end L2
namespace L3
open PySem PySem.Spec L2
inductive D where
  | non | bl (b:Bool) | int (i:Int) | str (x:Str) | ref (a:Addr) | ty (n:String) | tup (ds:List D) | frl (ds:List D)
def FrL (K:PySem.W.Frag) (H:Hp) (a:Addr) (xs:List V):Prop:=
  (∃ o,H a=some (.frz o (.lst xs)))\/∃ (o:Obj) (its:Array Value) (n:Nat),K.lookup a=some o/\o.cls=.type "list"/\o.dict=none/\o.data=.seq its n/\its.size<=sizeLine/\Vals xs its.toList
theorem FrL.sq {K:PySem.W.Frag} {H:Hp} {a:Addr} {xs:List V} (h:FrL K H a xs):SqL K H a xs:=by
  rcases h with h | h
  . exact .inl (.inr h)
  . exact .inr h
mutual
def Abs (K:PySem.W.Frag) (H:Hp):D->V->Prop
  | .non,v=>v=.non
  | .bl b,v=>v=.bl b
  | .int i,v=>v=.int i
  | .str x,v=>v=.str x
  | .ref a,v=>v=.ref a
  | .ty n,v=>v=.ty n
  | .tup ds,v=>∃ a vs,v=.ref a/\SqT K H a vs/\AbsL K H ds vs
  | .frl ds,v=>∃ a vs,v=.ref a/\FrL K H a vs/\AbsL K H ds vs
def AbsL (K:PySem.W.Frag) (H:Hp):List D->List V->Prop
  | [],vs=>vs=[]
  | d::ds,vs=>∃ v r,vs=v::r/\Abs K H d v/\AbsL K H ds r
end
structure Mono (K:PySem.W.Frag) (H H':Hp):Prop where
  tp:∀ a xs,SqT K H a xs->SqT K H' a xs
  fr:∀ a xs,FrL K H a xs->FrL K H' a xs
  fz:∀ a o,H a=some (fzn o)->H' a=some (fzn o)
section
variable {K:PySem.W.Frag} {H H':Hp}
mutual
theorem Abs.mono (h:Mono K H H'):∀ {d:D} {v:V},Abs K H d v->Abs K H' d v
  | .non,_,r=>r
  | .bl _,_,r=>r
  | .int _,_,r=>r
  | .str _,_,r=>r
  | .ref _,_,r=>r
  | .ty _,_,r=>r
  | .tup _,_,⟨a,vs,e,q,l⟩=>⟨a,vs,e,h.tp a vs q,AbsL.mono h l⟩
  | .frl _,_,⟨a,vs,e,q,l⟩=>⟨a,vs,e,h.fr a vs q,AbsL.mono h l⟩
theorem AbsL.mono (h:Mono K H H'):∀ {ds:List D} {vs:List V},AbsL K H ds vs->AbsL K H' ds vs
  | [],_,r=>r
  | _::_,_,⟨v,r,e,q,l⟩=>⟨v,r,e,Abs.mono h q,AbsL.mono h l⟩
end
theorem AbsL.len:∀ {ds:List D} {vs:List V},AbsL K H ds vs->vs.length=ds.length
  | [],_,r=>by cases r;rfl
  | _::_,_,⟨v,r,e,_,l⟩=>by subst e;simp [l.len]
theorem AbsL.append:∀ {ds es:List D} {vs us:List V},AbsL K H ds vs->AbsL K H es us->AbsL K H (ds++es) (vs++us)
  | [],_,_,_,r,s=>by cases r;exact s
  | _::_,_,_,_,⟨v,r,e,q,l⟩,s=>by subst e;exact ⟨v,_,rfl,q,l.append s⟩
theorem AbsL.one {d:D} {v:V} (h:Abs K H d v):AbsL K H [d] [v]:=⟨v,[],rfl,h,rfl⟩
theorem AbsL.get:∀ {ds:List D} {vs:List V} {i:Nat} {d:D},AbsL K H ds vs->ds[i]?=some d->∃ v,vs[i]?=some v/\Abs K H d v
  | [],_,_,_,_,e=>by simp at e
  | _::_,_,0,_,⟨v,r,e',q,l⟩,e=>by simp at e;subst e e';exact ⟨v,rfl,q⟩
  | _::_,_,i+1,d,⟨v,r,e',q,l⟩,e=>by
    subst e'
    obtain ⟨u,h1,h2⟩:=AbsL.get (i:=i) (d:=d) l (by simpa using e)
    exact ⟨u,by simpa using h1,h2⟩
theorem AbsL.set {d:D} {v:V} (h:Abs K H d v):∀ {ds:List D} {vs:List V} (i:Nat),AbsL K H ds vs->AbsL K H (ds.set i d) (vs.set i v)
  | [],_,_,r=>by cases r;simp [AbsL]
  | _::_,_,0,⟨u,r,e,q,l⟩=>by subst e;exact ⟨v,r,rfl,h,l⟩
  | _::_,_,i+1,⟨u,r,e,q,l⟩=>by subst e;exact ⟨u,_,rfl,q,l.set h i⟩
theorem AbsL.of_ints:∀ (ns:List Int),AbsL K H (ns.map D.int) (ns.map V.int)
  | []=>rfl
  | n::ns=>⟨_,_,rfl,rfl,AbsL.of_ints ns⟩
end
inductive DO where
  | lst (ds:List D)
  | ins (C:Addr) (fs:List (Str × D))
  | dK (kvs:List (Key × D))
  | dT (kvs:List (List Key × D))
  | frT (kvs:List (List Key × D))
  | tab (pos:Pos) (qual:Str) | made (env:Env) (name qual:Str) (st:Stmt) (fr:List Str) | clo (name qual:Str) (st:Stmt) (fr:List Str) (vals:List D)
abbrev DV:=Addr->Option DO
abbrev DSt:=List (Option D)
def up (G:DV) (a:Addr) (o:DO):DV:=λ b=>if b=a then some o else G b
theorem a7q {G:DV} {a:Addr} {o:DO}:up G a o a=some o:=by unfold up;rw [if_pos rfl]
theorem aOq {G:DV} {a b:Addr} {o:DO} (h:b≠a):up G a o b=G b:=by unfold up;rw [if_neg h]
theorem kZq {G:DV} {a:Addr} {o u:DO}:up (up G a o) a u=up G a u:=by funext b;unfold up;split<;>rfl
theorem iOq {G:DV} {a b:Addr} {o u:DO} (h:a≠b):up (up G a o) b u=up (up G b u) a o:=by
  funext c;unfold up;split<;>split<;>simp_all
theorem iPq {G:DV} {a:Addr} {o:DO} (h:G a=some o):up G a o=G:=by
  funext b;unfold up;split
  . next e=>rw [e,h]
  . rfl
def lOq {κ:Type} (K:PySem.W.Frag) (H:Hp) (fs:List (κ × D)) (gs:List (κ × V)):Prop:=fs.map (·.1)=gs.map (·.1)/\AbsL K H (fs.map (·.2)) (gs.map (·.2))
def BearO (K:PySem.W.Frag) (H:Hp) (a:Addr):DO->Prop
  | .lst ds=>∃ vs,H a=some (.lst vs)/\AbsL K H ds vs
  | .ins C fs=>∃ dx gs,H a=some (.ins C dx gs)/\lOq K H fs gs
  | .dK kvs=>∃ gs,H a=some (.dK gs)/\lOq K H kvs gs
  | .dT kvs=>∃ gs,H a=some (.dT gs)/\lOq K H kvs gs
  | .frT kvs=>∃ o gs,H a=some (.frz o (.dT gs))/\lOq K H kvs gs
  | .tab pos qual=>Tab H a pos qual
  | .made env name qual st fr=>MadeAt env H a name qual st fr
  | .clo name qual st fr vals=>∃ cl fvs,CloAt H a name qual st cl fvs/\cl.map (·.1)=fr/\AbsL K H vals fvs
def Vw (K:PySem.W.Frag) (G:DV) (H:Hp):Prop:=∀ a o,G a=some o->BearO K H a o
theorem BearO.some {K:PySem.W.Frag} {H:Hp} {a:Addr} {o:DO} (h:BearO K H a o):∃ u,H a=.some u:=by
  cases o with
  | lst ds=>obtain ⟨_,e,_⟩:=h;exact ⟨_,e⟩
  | ins C fs=>obtain ⟨_,_,e,_⟩:=h;exact ⟨_,e⟩
  | dK kvs=>obtain ⟨_,e,_⟩:=h;exact ⟨_,e⟩
  | dT kvs=>obtain ⟨_,e,_⟩:=h;exact ⟨_,e⟩
  | frT kvs=>obtain ⟨_,_,e,_⟩:=h;exact ⟨_,e⟩
  | tab pos qual=>obtain ⟨_,e,_⟩:=h;exact ⟨_,e⟩
  | made env name qual st fr=>obtain ⟨_,_,_,_,_,_,_,e,_⟩:=h.fn;exact ⟨_,e⟩
  | clo name qual st fr vals=>obtain ⟨_,_,h,_⟩:=h;obtain ⟨_,_,_,_,_,_,_,e,_⟩:=h.fn;exact ⟨_,e⟩
theorem Vw.none {K:PySem.W.Frag} {G:DV} {H:Hp} (h:Vw K G H) {a:Addr} (e:H a=.none):G a=.none:=by
  cases q:G a with
  | none=>rfl
  | some o=>obtain ⟨u,z⟩:=(h a o q).some;rw [e] at z;cases z
theorem BearO.mono {K:PySem.W.Frag} {H H':Hp} {a:Addr} {o:DO} (ht:Mono K H H') (e:H' a=H a) (h:BearO K H a o):BearO K H' a o:=by
  cases o with
  | lst ds=>obtain ⟨vs,q,l⟩:=h;exact ⟨vs,by rw [e];exact q,l.mono ht⟩
  | ins C fs=>obtain ⟨dx,gs,q,l⟩:=h;exact ⟨dx,gs,by rw [e];exact q,l.1,l.2.mono ht⟩
  | dK kvs=>obtain ⟨gs,q,l⟩:=h;exact ⟨gs,by rw [e];exact q,l.1,l.2.mono ht⟩
  | dT kvs=>obtain ⟨gs,q,l⟩:=h;exact ⟨gs,by rw [e];exact q,l.1,l.2.mono ht⟩
  | frT kvs=>obtain ⟨o,gs,q,l⟩:=h;exact ⟨o,gs,by rw [e];exact q,l.1,l.2.mono ht⟩
  | tab pos qual=>
    obtain ⟨ps,h1,h2,h3⟩:=h
    refine ⟨ps,by rw [e];exact h1,h2,?_⟩
    rcases h3 with h3 | ⟨c,o,vs,t,h3,h4,h5⟩
    . exact .inl h3
    . exact .inr ⟨c,o,vs,t,h3,ht.fz _ _ h4,h5⟩
  | made env name qual st fr=>
    obtain ⟨oc,od,doc,pm,cdv,ct,sl,h1,c,o,vs,t,h2,h3,h4⟩:=h.fn
    exact ⟨oc,od,doc,pm,cdv,ct,sl,ht.fz _ _ h1,c,o,vs,t,h2,ht.fz _ _ h3,h4⟩
  | clo name qual st fr vals=>
    obtain ⟨cl,fvs,C,h1,h2⟩:=h
    obtain ⟨oc,od,doc,pm,cdv,ct,sl,h3,c,o,vs,t,h4,h5,h6⟩:=C.fn
    exact ⟨cl,fvs,⟨⟨oc,od,doc,pm,cdv,ct,sl,ht.fz _ _ h3,c,o,vs,t,h4,ht.fz _ _ h5,h6⟩,λ i x c hi=>let ⟨v,u,o,z1,z2,z3,z4⟩:=C.cells i x c hi;⟨v,u,o,z1,z2,ht.fz _ _ z3,z4⟩,C.len,C.nda⟩,h1,h2.mono ht⟩
structure Go (K:PySem.W.Frag) (G:DV) (H:Hp) (G':DV) (H':Hp):Prop where
  tup:Mono K H H'
  dom:∀ a o,H a=some o->∃ o',H' a=some o'
  same:∀ a o,H a=some o->G a=none->H' a=some o
  new:∀ a o,H a=some o->G a=none->G' a=none
  vw:Vw K G' H'
section
variable {K:PySem.W.Frag} {G G1 G2 G':DV} {H H1 H2 H':Hp}
theorem Go.refl (v:Vw K G H):Go K G H G H:=⟨⟨λ _ _ h=>h,λ _ _ h=>h,λ _ _ h=>h⟩,λ _ o e=>⟨o,e⟩,λ _ _ e _=>e,λ _ _ _ e=>e,v⟩
theorem Go.trans (a:Go K G H G1 H1) (b:Go K G1 H1 G2 H2):Go K G H G2 H2:=
  ⟨⟨λ x xs h=>b.tup.tp x xs (a.tup.tp x xs h),λ x xs h=>b.tup.fr x xs (a.tup.fr x xs h),λ x o h=>b.tup.fz x o (a.tup.fz x o h)⟩,λ x o e=>let ⟨o',e'⟩:=a.dom x o e;b.dom x o' e',λ x o e n=>b.same x o (a.same x o e n) (a.new x o e n),
   λ x o e n=>b.new x o (a.same x o e n) (a.new x o e n),b.vw⟩
def Sub (G G':DV):Prop:=∀ a o,G a=some o->G' a=some o
theorem Sub.refl (G:DV):Sub G G:=λ _ _ e=>e
theorem Sub.none {G G':DV} (h:Sub G G') {a:Addr} (e:G' a=.none):G a=.none:=by
  cases q:G a with
  | none=>rfl
  | some o=>rw [h a o q] at e;cases e
theorem Vw.sub (v:Vw K G' H) (h:Sub G G'):Vw K G H:=λ a o e=>v a o (h a o e)
theorem Go.sub (g:Go K G H G1 H1) (h:Sub G2 G1):Go K G H G2 H1:=⟨g.tup,g.dom,g.same,λ x o e n=>h.none (g.new x o e n),g.vw.sub h⟩
theorem iIq {a p:Addr} {o:HO} {xs:List V} (hp:∀ ys,¬ Rd H p (.tup ys)) (h:SqT K H a xs):SqT K (upd H p o) a xs:=by
  rcases h with h | h
  . have ne:a≠p:=by rintro rfl;exact hp _ h
    refine .inl ?_
    unfold Rd at h ⊢
    rw [a9q ne];exact h
  . exact .inr h
theorem iRq {p:Addr} {ys:List V} (h:H p=none):¬ Rd H p (.tup ys):=by
  rintro (e | ⟨o,e⟩)<;>rw [h] at e<;>cases e
theorem lGq {p:Addr} {xs ys:List V} (h:H p=some (.lst xs)):¬ Rd H p (.tup ys):=by
  rintro (e | ⟨o,e⟩)<;>rw [h] at e<;>cases e
theorem eGq {p:Addr} {o:HO} (hp:∀ ys,¬ Rd H p (.tup ys)) (hl:∀ o ys,H p≠some (.frz o ys)):Mono K H (upd H p o) where
  tp:=λ _ _ q=>iIq hp q
  fr:=λ a xs q=>by
    rcases q with ⟨z,q⟩ | q
    . exact .inl ⟨z,by rw [a9q (by rintro rfl;exact hl _ _ q)];exact q⟩
    . exact .inr q
  fz:=λ a u q=>by rw [a9q (by rintro rfl;exact hl _ _ q)];exact q
theorem bBq {p:Addr} {o:HO} (h:H p=none):Mono K H (upd H p o):=eGq (λ _=>iRq h) λ _ _ e=>by rw [h] at e;cases e
theorem aLq {p:Addr} {o:HO} {xs:List V} (h:H p=some (.lst xs)):Mono K H (upd H p o):=eGq (λ _=>lGq h) λ _ _ e=>by rw [h] at e;cases e
theorem Go.newT (v:Vw K G H) {p:Addr} {o:HO} (h:H p=none):Go K G H G (upd H p o) where
  tup:=bBq h
  dom:=λ a u e=>⟨u,by rw [a9q (aAq e h)];exact e⟩
  same:=λ a u e _=>by rw [a9q (aAq e h)];exact e
  new:=λ _ _ _ e=>e
  vw:=λ a u e=>(v a u e).mono (bBq h) (a9q (by rintro rfl;obtain ⟨z,q⟩:=(v _ _ e).some;rw [h] at q;cases q))
theorem Go.newL (v:Vw K G H) {p:Addr} {ds:List D} {vs:List V} (h:H p=none) (r:AbsL K H ds vs):Go K G H (up G p (.lst ds)) (upd H p (.lst vs)) where
  tup:=bBq h
  dom:=λ a u e=>⟨u,by rw [a9q (aAq e h)];exact e⟩
  same:=λ a u e _=>by rw [a9q (aAq e h)];exact e
  new:=λ a u e n=>by rw [aOq (aAq e h)];exact n
  vw:=λ a u e=>by
    by_cases c:a=p
    . subst c;rw [a7q] at e;cases e
      exact ⟨vs,aIq,r.mono (bBq h)⟩
    . rw [aOq c] at e
      exact (v a u e).mono (bBq h) (a9q c)
theorem Go.setL (v:Vw K G H) {p:Addr} {ds0 ds:List D} {vs:List V} (h:G p=some (.lst ds0)) (r:AbsL K H ds vs):Go K G H (up G p (.lst ds)) (upd H p (.lst vs)):=by
  obtain ⟨us,hp,_⟩:=v p _ h
  exact {
    tup:=aLq hp
    dom:=λ a u e=>by
      by_cases c:a=p
      . subst c;exact ⟨_,aIq⟩
      . exact ⟨u,by rw [a9q c];exact e⟩
    same:=λ a u e n=>by
      have c:a≠p:=by rintro rfl;rw [h] at n;cases n
      rw [a9q c];exact e
    new:=λ a u e n=>by
      have c:a≠p:=by rintro rfl;rw [h] at n;cases n
      rw [aOq c];exact n
    vw:=λ a u e=>by
      by_cases c:a=p
      . subst c;rw [a7q] at e;cases e
        exact ⟨vs,aIq,r.mono (aLq hp)⟩
      . rw [aOq c] at e
        exact (v a u e).mono (aLq hp) (a9q c) }
end
structure Bears (K:PySem.W.Frag) (ρ:DSt) (G:DV) (σ:St) (H:Hp):Prop where
  len:ρ.length=σ.length
  st:∀ (i:Nat) (d:D),ρ[i]?=some (some d)->∃ v,σ[i]?=some (some v)/\Abs K H d v
  vw:Vw K G H
theorem Bears.go {K:PySem.W.Frag} {ρ:DSt} {G G':DV} {σ:St} {H H':Hp} (b:Bears K ρ G σ H) (g:Go K G H G' H'):Bears K ρ G' σ H':=
  ⟨b.len,λ i d e=>let ⟨v,h1,h2⟩:=b.st i d e;⟨v,h1,h2.mono g.tup⟩,g.vw⟩
theorem Bears.set {K:PySem.W.Frag} {ρ:DSt} {G:DV} {σ:St} {H:Hp} {d:D} {v:V} (b:Bears K ρ G σ H) (h:Abs K H d v) (i:Nat):Bears K (ρ.set i (some d)) G (σ.set i (some v)) H where
  len:=by simp [b.len]
  vw:=b.vw
  st:=λ j e he=>by
    by_cases c:j=i
    . subst c
      rw [List.getElem?_set] at he ⊢
      have l:=b.len
      simp only [if_true] at he ⊢
      split at he
      . next q=>rw [if_pos (by omega)];simp at he;subst he;exact ⟨v,rfl,h⟩
      . cases he
    . rw [List.getElem?_set_ne (by omega)] at he ⊢
      exact b.st j e he
def StSub (ρ ρ':DSt):Prop:=ρ.length=ρ'.length/\∀ (i:Nat) (d:D),ρ[i]?=some (some d)->ρ'[i]?=some (some d)
theorem StSub.refl (ρ:DSt):StSub ρ ρ:=⟨rfl,λ _ _ e=>e⟩
theorem Bears.weak {K:PySem.W.Frag} {ρ ρ':DSt} {G G':DV} {σ:St} {H:Hp} (b:Bears K ρ' G' σ H) (s:StSub ρ ρ') (g:Sub G G'):Bears K ρ G σ H:=
  ⟨s.1.trans b.len,λ i d e=>b.st i d (s.2 i d e),b.vw.sub g⟩
abbrev DK:=D->DV->Prop
abbrev DTE:=DSt->DV->DK->Prop
abbrev DTT:=DSt->DV->(Bool->DV->Prop)->Prop
abbrev DTA:=DSt->DV->(List D->DV->Prop)->Prop
structure DEnds where
  nx:DSt->DV->Prop
  rt:DK
  bk:DSt->DV->Prop:=λ _ _=>False
  ct:DSt->DV->Prop:=λ _ _=>False
abbrev DTS:=DEnds->DSt->DV->Prop
abbrev Fin (K:PySem.W.Frag) (G:DV) (H:Hp) (DQ:DK) (Q:VK):Prop:=∀ d G' v H',Go K G H G' H'->Abs K H' d v->DQ d G'->Q v H'
abbrev mLq (K:PySem.W.Frag) (G:DV) (H:Hp) (DQ:Bool->DV->Prop) (Q:Bool->Hp->Prop):Prop:=∀ b G' H',Go K G H G' H'->DQ b G'->Q b H'
abbrev oFq (K:PySem.W.Frag) (n:Nat) (G:DV) (H:Hp) (DQ:List D->DV->Prop) (Q:List V->Hp->Prop):Prop:=∀ ds G' vs H',Go K G H G' H'->AbsL K H' ds vs->ds.length=n->DQ ds G'->Q vs H'
structure AE (X:Cx) (e:Expr) (t:DTE):Prop where
  run:∃ tc:TE,JE X e tc/\∀ ρ G DQ σ H Q,Bears X.K ρ G σ H->t ρ G DQ->Fin X.K G H DQ Q->tc σ H Q
structure AT (X:Cx) (e:Expr) (t:DTT):Prop where
  run:∃ tc:TT,JT X e tc/\∀ ρ G DQ σ H Q,Bears X.K ρ G σ H->t ρ G DQ->mLq X.K G H DQ Q->tc σ H Q
structure AW (X:Cx) (e:Expr) (t:DTT):Prop where
  run:∃ tc:TT,JW X e tc/\∀ ρ G DQ σ H Q,Bears X.K ρ G σ H->t ρ G DQ->mLq X.K G H DQ Q->tc σ H Q
structure AA (X:Cx) (es:List Expr) (t:DTA):Prop where
  run:∃ tc:TA,JA X es tc/\∀ ρ G DQ σ H Q,Bears X.K ρ G σ H->t ρ G DQ->oFq X.K es.length G H DQ Q->tc σ H Q
structure EndsOk (K:PySem.W.Frag) (G:DV) (H:Hp) (DD:DEnds) (Dc:Ends):Prop where
  nx:∀ ρ G' σ H',Go K G H G' H'->Bears K ρ G' σ H'->DD.nx ρ G'->Dc.nx σ H'
  rt:Fin K G H DD.rt Dc.rt
  bk:∀ ρ G' σ H',Go K G H G' H'->Bears K ρ G' σ H'->DD.bk ρ G'->Dc.bk σ H'
  ct:∀ ρ G' σ H',Go K G H G' H'->Bears K ρ G' σ H'->DD.ct ρ G'->Dc.ct σ H'
structure AS (X:Cx) (st:Stmt) (t:DTS):Prop where
  run:∃ tc:TS,JS X st tc/\∀ DD Dc ρ G σ H,Bears X.K ρ G σ H->t DD ρ G->EndsOk X.K G H DD Dc->tc Dc σ H
structure AB (X:Cx) (st:List Stmt) (t:DTS):Prop where
  run:∃ tc:TS,JB X st tc/\∀ DD Dc ρ G σ H,Bears X.K ρ G σ H->t DD ρ G->EndsOk X.K G H DD Dc->tc Dc σ H
abbrev DTG:=D->DSt->DV->(DSt->DV->Prop)->Prop
abbrev nJq (K:PySem.W.Frag) (G:DV) (H:Hp) (DQ:DSt->DV->Prop) (Q:St->Hp->Prop):Prop:=∀ ρ G' σ H',Go K G H G' H'->Bears K ρ G' σ H'->DQ ρ G'->Q σ H'
structure AG (X:Cx) (tg:Expr) (t:DTG):Prop where
  run:∃ tc:TG,JG X tg tc/\∀ d v ρ G DQ σ H Q,Bears X.K ρ G σ H->Abs X.K H d v->t d ρ G DQ->nJq X.K G H DQ Q->tc v σ H Q
abbrev DR2:=D->D->DV->DK->Prop
abbrev DRL:=List D->DV->DK->Prop
structure AOp (X:Cx) (f:Value->Value->Sem Value) (r:DR2):Prop where
  run:∃ rc:R2,JOp X f rc/\∀ x y vx vy G H DQ Q,Vw X.K G H->Abs X.K H x vx->Abs X.K H y vy->r x y G DQ->Fin X.K G H DQ Q->rc vx vy H Q
structure ACall (X:Cx) (f:Value) (r:DRL):Prop where
  run:∃ rc:List V->Hp->VK->Prop,JCall X f rc/\∀ xs vs G H DQ Q,Vw X.K G H->AbsL X.K H xs vs->r xs G DQ->Fin X.K G H DQ Q->rc vs H Q
structure AIx (X:Cx) (r:DR2):Prop where
  run:∃ rc:R2,JIx X rc/\∀ x y vx vy G H DQ Q,Vw X.K G H->Abs X.K H x vx->Abs X.K H y vy->r x y G DQ->Fin X.K G H DQ Q->rc vx vy H Q
theorem Fin.after {K:PySem.W.Frag} {G G1:DV} {H H1:Hp} {DQ:DK} {Q:VK} (F:Fin K G H DQ Q) (g:Go K G H G1 H1):Fin K G1 H1 DQ Q:=λ d G' v H' g' a q=>F d G' v H' (g.trans g') a q
theorem EndsOk.after {K:PySem.W.Frag} {G G1:DV} {H H1:Hp} {DD:DEnds} {Dc:Ends} (F:EndsOk K G H DD Dc) (g:Go K G H G1 H1):EndsOk K G1 H1 DD Dc:=
  ⟨λ ρ G' σ H' g' b q=>F.nx ρ G' σ H' (g.trans g') b q,λ d G' v H' g' a q=>F.rt d G' v H' (g.trans g') a q,λ ρ G' σ H' g' b q=>F.bk ρ G' σ H' (g.trans g') b q,λ ρ G' σ H' g' b q=>F.ct ρ G' σ H' (g.trans g') b q⟩
end L3
namespace L3
open PySem PySem.Spec L2
section
variable {X:Cx} {a b c e o i:Expr} {es:List Expr} {ta tb te to ti:DTE} {t:DTA} {pos p apos cpos:Pos}
abbrev dC (d:D):DTE:=λ _ G Q=>Q d G
abbrev nCq (k:Nat):DTE:=λ ρ G Q=>match ρ[k]? with
  | some (some d)=>Q d G
  | _=>False
theorem lKq {v:V} {d:D} (h:JE X e (tC v)) (r:∀ H,Abs X.K H d v):AE X e (dC d):=⟨_,h,λ ρ G DQ σ H Q B q F=>F d G v H (.refl B.vw) (r H) q⟩
theorem a5q {n:Int} {j}:AE X (.Constant (.int n) j pos) (dC (.int n)):=lKq jJq λ _=>rfl
theorem hTq {n:Bool} {j}:AE X (.Constant (.bool n) j pos) (dC (.bl n)):=lKq mMq λ _=>rfl
theorem aNq {x:Str} {j}:AE X (.Constant (.str x) j pos) (dC (.str x)):=lKq jDq λ _=>rfl
theorem a1q (k:Nat) {x:Str} (hN:X.N[k]?=some x:=by rfl) (hv:Vis X.env.scope x:=by first | exact Or.inl rfl | exact Or.inr (Or.inl rfl) | exact Or.inr (Or.inr rfl)) (hd:(x==("__debug__" : Str))=false:=by decide)
    (hcd:(x==("__classdict__" : Str))=false:=by decide):AE X (.Name x pos) (nCq k):=⟨_,jv k hN hv hd hcd,λ ρ G DQ σ H Q B q F=>by
  unfold nCq at q
  split at q
  . next d h=>
    obtain ⟨v,h1,h2⟩:=B.st k d h
    exact ⟨v,h1,F d G v H (.refl B.vw) h2 q⟩
  . exact q.elim⟩
theorem g1q {x:Str} {n:String} (hg:Gl X x) (hm:X.mg x=none) (hv:bootBuiltins x=some (.type n)) (hn:x≠"__name__":=by decide) (hd:(x==("__debug__" : Str))=false:=by decide):AE X (.Name x pos) (dC (.ty n)):=
  lKq (iCq (v:=.ty n) hg hm hv rfl hn hd) λ _=>rfl
abbrev oIq:DTA:=λ _ G Q=>Q [] G
abbrev m0q (ta:DTE) (tr:DTA):DTA:=λ ρ G Q=>ta ρ G λ x G1=>tr ρ G1 λ xs G2=>Q (x::xs) G2
theorem a4q:AA X [] oIq:=⟨_,kFq,λ ρ G DQ σ H Q B q F=>F [] G [] H (.refl B.vw) rfl rfl q⟩
theorem a0q (ha:AE X e te) (hr:AA X es t) (hs:aSq e=true:=by rfl):AA X (e::es) (m0q te t):=by
  obtain ⟨ca,ja,ra⟩:=ha.run
  obtain ⟨cr,jr,rr⟩:=hr.run
  refine ⟨_,iUq ja jr hs,λ ρ G DQ σ H Q B q F=>?_⟩
  refine ra ρ G _ σ H _ B q λ x G1 v H1 g1 ax q1=>rr ρ G1 _ σ H1 _ (B.go g1) q1 λ xs G2 vs H2 g2 axs hl q2=>?_
  exact F (x::xs) G2 (v::vs) H2 (g1.trans g2) ⟨v,vs,rfl,ax.mono g2.tup,axs⟩ (by simp [hl]) q2
abbrev o8q (t:DTA):DTE:=λ ρ G Q=>t ρ G λ ds G1=>Q (.tup ds) G1
abbrev nYq (t:DTA):DTE:=λ ρ G Q=>t ρ G λ ds G1=>∀ p,G1 p=none->Q (.ref p) (up G1 p (.lst ds))
theorem fJq {n:Nat} (h:Nat.ble n 1000=true):n<=sizeLine:=by
  have:=Nat.le_of_ble_eq_true h
  rw [sizeLine_eq];omega
theorem hLq {x1} (h:AA X es t) (hl:Nat.ble es.length 1000=true:=by rfl):AE X (.Tuple es x1 pos) (o8q t):=by
  obtain ⟨ca,ja,ra⟩:=h.run
  refine ⟨_,l5q ja,λ ρ G DQ σ H Q B q F=>ra ρ G _ σ H _ B q λ ds G1 vs H1 g1 al hn q1=>⟨by rw [al.len,hn];exact fJq hl,λ p hp=>?_⟩⟩
  have g2:=Go.newT (o:=.tup vs) g1.vw hp
  exact F (.tup ds) G1 _ _ (g1.trans g2) ⟨p,vs,rfl,.of aIq,al.mono g2.tup⟩ q1
theorem lDq (h:AA X es t) (hl:Nat.ble es.length 1000=true:=by rfl):AE X (.List es pos) (nYq t):=by
  obtain ⟨ca,ja,ra⟩:=h.run
  refine ⟨_,jGq ja,λ ρ G DQ σ H Q B q F=>ra ρ G _ σ H _ B q λ ds G1 vs H1 g1 al hn q1=>⟨by rw [al.len,hn];exact fJq hl,λ p hp=>?_⟩⟩
  exact F (.ref p) _ _ _ (g1.trans (Go.newL g1.vw hp al)) rfl (q1 p (g1.vw.none hp))
def atN (ds:List D):Int->Option D
  | .ofNat k=>ds[k]?
  | .negSucc k=>atI ds (.negSucc k)
theorem hMq (ds:List D) (i:Int):atN ds i=atI ds i:=by
  cases i with
  | negSucc k=>rfl
  | ofNat k=>
    show ds[k]?=atI ds (k:Int)
    by_cases h:k < ds.length
    . rw [List.getElem?_eq_getElem h]
      exact (dQq (List.getElem?_eq_getElem h)).symm
    . rw [List.getElem?_eq_none (by omega)]
      unfold atI ixN
      rw [if_pos (by omega),if_neg (by omega)];rfl
def atD (ds:List D) (i:Int) (G:DV) (Q:DK):Prop:=match atN ds i with
  | some d=>Q d G
  | none=>False
theorem l2q {ds:List D} {i:Int} {G:DV} {Q:DK} {d:D} (h:atI ds i=some d) (q:Q d G):atD ds i G Q:=by unfold atD;rw [hMq,h];exact q
@[irreducible] def onL (G:DV) (l:Addr) (k:List D->Prop):Prop:=match G l with
  | some (.lst ds)=>k ds
  | _=>False
@[irreducible] def onM (G:DV) (l:Addr) (k:List D->Prop):Prop:=match G l with
  | some (.lst ds)=>k ds
  | _=>False
theorem aRq {G:DV} {l:Addr} {k:List D->Prop} {ds:List D} (h:G l=some (.lst ds)) (q:k ds):onL G l k:=by unfold onL;rw [h];exact q
theorem e8q {G:DV} {l:Addr} {k:List D->Prop} {ds:List D} (h:G l=some (.lst ds)) (q:k ds):onM G l k:=by unfold onM;rw [h];exact q
theorem aXq {K:PySem.W.Frag} {G:DV} {H:Hp} {l:Addr} {k:List D->Prop} (v:Vw K G H) (h:onL G l k):∃ ds vs,k ds/\SqL K H l vs/\AbsL K H ds vs:=by
  unfold onL at h
  split at h
  . next ds e=>obtain ⟨vs,z,r⟩:=v _ _ e;exact ⟨ds,vs,h,.of z,r⟩
  . exact h.elim
theorem cKq {K:PySem.W.Frag} {G:DV} {H:Hp} {l:Addr} {k:List D->Prop} (v:Vw K G H) (h:onM G l k):∃ ds vs,k ds/\G l=some (.lst ds)/\H l=some (.lst vs)/\AbsL K H ds vs:=by
  unfold onM at h
  split at h
  . next ds e=>obtain ⟨vs,z,r⟩:=v _ _ e;exact ⟨ds,vs,h,e,z,r⟩
  . exact h.elim
abbrev dOp (r:DR2) (ta tb:DTE):DTE:=λ ρ G Q=>ta ρ G λ x G1=>tb ρ G1 λ y G2=>r x y G2 Q
theorem aGq {op:Operator} {r:DR2} (ho:AOp X (binaryOp op) r) (ha:AE X a ta) (hb:AE X b tb):AE X (.BinOp a op b pos) (dOp r ta tb):=by
  obtain ⟨ca,ja,ra⟩:=ha.run
  obtain ⟨cb,jb,rb⟩:=hb.run
  obtain ⟨co,jo,ro⟩:=ho.run
  refine ⟨_,mKq jo ja jb,λ ρ G DQ σ H Q B q F=>?_⟩
  exact ra ρ G _ σ H _ B q λ x G1 v H1 g1 ax q1=>rb ρ G1 _ σ H1 _ (B.go g1) q1 λ y G2 u H2 g2 ay q2=>ro x y v u G2 H2 DQ Q g2.vw (ax.mono g2.tup) ay q2 (F.after (g1.trans g2))
theorem eKq {op:CmpOp} {r:DR2} (ho:AOp X (compareOp op) r) (ha:AE X a ta) (hb:AE X b tb) (hm:behindInMarks op b=false):AE X (.Compare a [op] [b] pos) (dOp r ta tb):=by
  obtain ⟨ca,ja,ra⟩:=ha.run
  obtain ⟨cb,jb,rb⟩:=hb.run
  obtain ⟨co,jo,ro⟩:=ho.run
  refine ⟨_,iZq jo ja jb hm,λ ρ G DQ σ H Q B q F=>?_⟩
  exact ra ρ G _ σ H _ B q λ x G1 v H1 g1 ax q1=>rb ρ G1 _ σ H1 _ (B.go g1) q1 λ y G2 u H2 g2 ay q2=>ro x y v u G2 H2 DQ Q g2.vw (ax.mono g2.tup) ay q2 (F.after (g1.trans g2))
theorem c5q {r:DR2} (hr:AIx X r) (ha:AE X a ta) (hb:AE X b tb) (hs:dNq b):AE X (.Subscript a b pos) (dOp r ta tb):=by
  obtain ⟨ca,ja,ra⟩:=ha.run
  obtain ⟨cb,jb,rb⟩:=hb.run
  obtain ⟨co,jo,ro⟩:=hr.run
  refine ⟨_,lUq jo ja jb hs,λ ρ G DQ σ H Q B q F=>?_⟩
  exact ra ρ G _ σ H _ B q λ x G1 v H1 g1 ax q1=>rb ρ G1 _ σ H1 _ (B.go g1) q1 λ y G2 u H2 g2 ay q2=>ro x y v u G2 H2 DQ Q g2.vw (ax.mono g2.tup) ay q2 (F.after (g1.trans g2))
def Br (c:Bool) (A B:Prop):Prop:=(c=true->A)/\(c=false->B)
abbrev blD (x:D) (k:Bool->Prop):Prop:=match x with
  | .bl c=>k c
  | _=>False
theorem f6q {K:PySem.W.Frag} {H:Hp} {x:D} {v:V} {k:Bool->Prop} (h:blD x k) (r:Abs K H x v):∃ c,v=.bl c/\x=.bl c/\k c:=by
  unfold blD at h
  split at h
  . exact ⟨_,r,rfl,h⟩
  . exact h.elim
abbrev n6q (ta tb:DTE):DTE:=λ ρ G Q=>ta ρ G λ x G1=>blD x λ c=>Br c (tb ρ G1 Q) (Q (.bl false) G1)
theorem hIq {op} (h:AE X a ta):AE X (.BoolOp op [a] pos) ta:=by
  obtain ⟨ca,ja,ra⟩:=h.run
  exact ⟨_,kVq ja,ra⟩
theorem h9q {rest:List Expr} (ha:AE X a ta) (hb:AE X (.BoolOp .And (b::rest) pos) tb):AE X (.BoolOp .And (a::b::rest) pos) (n6q ta tb):=by
  obtain ⟨ca,ja,ra⟩:=ha.run
  obtain ⟨cb,jb,rb⟩:=hb.run
  refine ⟨_,kQq ja jb,λ ρ G DQ σ H Q B q F=>ra ρ G _ σ H _ B q λ x G1 v H1 g1 ax q1=>?_⟩
  obtain ⟨c,e1,e2,q2⟩:=f6q q1 ax
  refine ⟨c,e1,?_⟩
  cases c with
  | true=>exact rb ρ G1 _ σ H1 _ (B.go g1) (q2.1 rfl) (F.after g1)
  | false=>exact F (.bl false) _ _ _ g1 rfl (q2.2 rfl)
abbrev mZq (t:DTE):DTT:=λ ρ G Q=>t ρ G λ x G1=>blD x λ c=>Q c G1
theorem bLq {op:CmpOp} {r:DR2} (ho:AOp X (compareOp op) r) (ha:AE X a ta) (hb:AE X b tb) (hm:behindInMarks op b=false):AT X (.Compare a [op] [b] pos) (mZq (dOp r ta tb)):=by
  obtain ⟨ca,ja,ra⟩:=ha.run
  obtain ⟨cb,jb,rb⟩:=hb.run
  obtain ⟨co,jo,ro⟩:=ho.run
  refine ⟨_,iNq jo ja jb hm,λ ρ G DQ σ H Q B q F=>?_⟩
  refine ra ρ G _ σ H _ B q λ x G1 v H1 g1 ax q1=>rb ρ G1 _ σ H1 _ (B.go g1) q1 λ y G2 u H2 g2 ay q2=>ro x y v u G2 H2 _ _ g2.vw (ax.mono g2.tup) ay q2 λ z G3 w H3 g3 az q3=>?_
  obtain ⟨c,e1,e2,q4⟩:=f6q q3 az
  exact ⟨c,e1,F c G3 H3 ((g1.trans g2).trans g3) q4⟩
abbrev o3q (tc:DTT):DTT:=λ ρ G Q=>tc ρ G λ c G1=>Q (!c) G1
abbrev dOr (tc td:DTT):DTT:=λ ρ G Q=>tc ρ G λ c G1=>Br c (Q true G1) (td ρ G1 Q)
theorem eDq {tc:DTT} (ha:AT X a tc):AT X (.UnaryOp .Not a pos) (o3q tc):=by
  obtain ⟨ca,ja,ra⟩:=ha.run
  exact ⟨_,kBq ja,λ ρ G DQ σ H Q B q F=>ra ρ G _ σ H _ B q λ c G1 H1 g1 q1=>F _ _ _ g1 q1⟩
theorem hEq {tc:DTT} (ha:AT X a tc):AW X (.BoolOp .Or [a] pos) tc:=by
  obtain ⟨ca,ja,ra⟩:=ha.run
  exact ⟨_,kXq ja,ra⟩
theorem lFq {tc td:DTT} {rest:List Expr} (ha:AT X a tc) (hb:AW X (.BoolOp .Or (b::rest) pos) td):AW X (.BoolOp .Or (a::b::rest) pos) (dOr tc td):=by
  obtain ⟨ca,ja,ra⟩:=ha.run
  obtain ⟨cb,jb,rb⟩:=hb.run
  refine ⟨_,mWq ja jb,λ ρ G DQ σ H Q B q F=>ra ρ G _ σ H _ B q λ c G1 H1 g1 q1=>?_⟩
  cases c with
  | false=>exact rb ρ G1 _ σ H1 _ (B.go g1) (q1.2 rfl) λ c G' H' g'=>F c G' H' (g1.trans g')
  | true=>exact F _ _ _ g1 (q1.1 rfl)
theorem AW.at {tc:DTT} (h:AW X e tc):AT X e tc:=by
  obtain ⟨ca,ja,ra⟩:=h.run
  exact ⟨_,ja.pt,ra⟩
def oHq (x:D) (G:DV) (k:Bool->Prop):Prop:=match x with
  | .non=>k false
  | .bl b=>k b
  | .int i=>k (i !=0)
  | .str y=>y.length<=sizeLine/\k ((y.length:Int) !=0)
  | .tup ds=>k (!ds.isEmpty)
  | .ref p=>onL G p λ ds=>k (!ds.isEmpty)
  | _=>False
theorem AbsL.isEmpty {K:PySem.W.Frag} {H:Hp} {ds:List D} {vs:List V} (h:AbsL K H ds vs):vs.isEmpty=ds.isEmpty:=by
  have:=h.len
  cases ds<;>cases vs<;>simp_all
abbrev k8q (t:DTE):DTT:=λ ρ G Q=>t ρ G λ x G1=>oHq x G1 λ c=>Q c G1
theorem bNq (ha:AE X a ta) (he:∀ whole,isTrue a X.env whole=(do let v ← whole;standAt a.pos;holding [v] (truthy v)):=by intro _;rfl):AT X a (k8q ta):=by
  obtain ⟨ca,ja,ra⟩:=ha.run
  refine ⟨_,gYq ja he,λ ρ G DQ σ H Q B q F=>ra ρ G _ σ H _ B q λ x G1 v H1 g1 ax q1=>?_⟩
  cases x with
  | non=>cases ax;exact ⟨_,rfl,F _ _ _ g1 q1⟩
  | bl b=>cases ax;exact ⟨_,rfl,F _ _ _ g1 q1⟩
  | int i=>cases ax;exact ⟨_,rfl,F _ _ _ g1 q1⟩
  | str y=>cases ax;exact ⟨_,⟨q1.1,rfl⟩,F _ _ _ g1 q1.2⟩
  | ref l=>
    cases ax
    obtain ⟨ds,vs,k,s,r⟩:=aXq g1.vw q1
    exact ⟨_,.inl ⟨vs,s,rfl⟩,by rw [r.isEmpty];exact F _ _ _ g1 k⟩
  | tup ds=>
    obtain ⟨l,vs,rfl,s,r⟩:=ax
    exact ⟨_,.inr (.inl ⟨vs,s,rfl⟩),by rw [r.isEmpty];exact F _ _ _ g1 q1⟩
  | ty n=>exact (show False from q1).elim
  | frl ds=>exact (show False from q1).elim
abbrev mVq:DTS:=λ D ρ G=>D.nx ρ G
abbrev nIq (t u:DTS):DTS:=λ D ρ G=>t { D with nx:=u D } ρ G
abbrev mIq (te:DTE):DTS:=λ D ρ G=>te ρ G λ _ G1=>D.nx ρ G1
abbrev nUq (te:DTE):DTS:=λ D ρ G=>te ρ G D.rt
abbrev oEq (c:DTT) (t u:DTS):DTS:=λ D ρ G=>c ρ G λ b G1=>Br b (t D ρ G1) (u D ρ G1)
theorem bJq:AB X [] mVq:=⟨_,kCq,λ DD Dc ρ G σ H B q F=>F.nx ρ G σ H (.refl B.vw) B q⟩
theorem a6q {st:Stmt} {rest:List Stmt} {ts us:DTS} (h1:AS X st ts) (h2:AB X rest us):AB X (st::rest) (nIq ts us):=by
  obtain ⟨c1,j1,r1⟩:=h1.run
  obtain ⟨c2,j2,r2⟩:=h2.run
  refine ⟨_,hUq j1 j2,λ DD Dc ρ G σ H B q F=>r1 _ _ ρ G σ H B q ⟨λ ρ' G' σ' H' g b q=>r2 DD Dc ρ' G' σ' H' b q (F.after g),F.rt,F.bk,F.ct⟩⟩
theorem aHq {st:Stmt} {ts:DTS} (h1:AS X st ts):AB X [st] ts:=by
  obtain ⟨c1,j1,r1⟩:=h1.run
  exact ⟨_,kAq j1,r1⟩
theorem iQq (he:AE X e te) (hs:swapsWith e none pos.line X.env=pure false:=by rfl):AS X (.Expr e pos) (mIq te):=by
  obtain ⟨c1,j1,r1⟩:=he.run
  exact ⟨_,iDq j1 hs,λ DD Dc ρ G σ H B q F=>r1 ρ G _ σ H _ B q λ d G' v H' g _ q=>F.nx ρ G' σ H' g (B.go g) q⟩
theorem aUq (he:AE X e te):AS X (.Return (some e) pos) (nUq te):=by
  obtain ⟨c1,j1,r1⟩:=he.run
  exact ⟨_,jXq j1,λ DD Dc ρ G σ H B q F=>r1 ρ G _ σ H _ B q F.rt⟩
theorem cQq {ss us:List Stmt} {tc:DTT} {ts tu:DTS} (hc:AT X c tc) (ha:AB X ss ts) (hb:AB X us tu):AS X (.If c ss us pos) (oEq tc ts tu):=by
  obtain ⟨cc,jc,rc⟩:=hc.run
  obtain ⟨ca,ja,ra⟩:=ha.run
  obtain ⟨cb,jb,rb⟩:=hb.run
  refine ⟨_,n1q jc ja jb,λ DD Dc ρ G σ H B q F=>rc ρ G _ σ H _ B q λ c G1 H1 g1 q1=>?_⟩
  cases c with
  | true=>exact ra DD Dc ρ G1 σ H1 (B.go g1) (q1.1 rfl) (F.after g1)
  | false=>exact rb DD Dc ρ G1 σ H1 (B.go g1) (q1.2 rfl) (F.after g1)
abbrev eHq (k:Nat):DTG:=λ d ρ G Q=>Q (ρ.set k (some d)) G
theorem b0q {k:Nat} {x:Str} (hN:X.N.Nodup) (hi:X.N[k]?=some x) (hx:Loc X.env.scope x) (hf:X.fn x=true\/X.env.scope.names.lookup x=some .local:=by first | exact .inl rfl | exact .inr rfl | assumption):AG X (.Name x pos) (eHq k):=
  ⟨_,iVq hN hi hx hf,λ d v ρ G DQ σ H Q B a q F=>F _ G _ H (.refl B.vw) (B.set a k) q⟩
abbrev lLq (te:DTE) (g:DTG):DTS:=λ D ρ G=>te ρ G λ x G1=>g x ρ G1 D.nx
theorem fPq {tg:Expr} {g:DTG} (he:AE X e te) (hg:AG X tg g) (hs:swapsWithSole [tg] e pos.line X.env=pure false:=by rfl) (hw:swappedStores [tg] e X.env=pure none:=by rfl) (h1:(assignEach [tg] X.env).map (·.2)=[assign tg X.env]:=by rfl):AS X (.Assign [tg] e pos) (lLq te g):=by
  obtain ⟨c1,j1,r1⟩:=he.run
  obtain ⟨c2,j2,r2⟩:=hg.run
  exact ⟨_,jEq j1 j2 hs hw h1,λ DD Dc ρ G σ H B q F=>r1 ρ G _ σ H _ B q λ d G1 v H1 g1 a q1=>r2 d v ρ G1 _ σ H1 _ (B.go g1) a q1 λ ρ' G' σ' H' g' b q'=>F.nx ρ' G' σ' H' (g1.trans g') b q'⟩
theorem aFq {k:Nat} {x:Str} {pos':Pos} (hN:X.N.Nodup) (hi:X.N[k]?=some x) (hx:Loc X.env.scope x) (he:AE X e te) (hs:swapsWith e (some (.Name x pos')) pos.line X.env=pure false:=by rfl) (hf:X.fn x=true\/X.env.scope.names.lookup x=some .local:=by first | exact .inl rfl | exact .inr rfl | assumption) :
    AS X (.Assign [.Name x pos'] e pos) (lLq te (eHq k)):=by
  obtain ⟨c1,j1,r1⟩:=he.run
  exact ⟨_,l7q hN hi hx j1 hs hf,λ DD Dc ρ G σ H B q F=>r1 ρ G _ σ H _ B q λ d G1 v H1 g1 a q1=>F.nx _ G1 _ H1 g1 ((B.go g1).set a k) q1⟩
end
end L3
namespace L3
open PySem PySem.Spec L2
section
variable {X:Cx}
def nVq:DR2:=λ x y G Q=>match x,y with
  | .int i,.int j=>Q (.int (i+j)) G
  | .str i,.str j=>i.length+j.length<=sizeLine/\Q (.str (i++j)) G
  | .tup xs,.tup ys=>xs.length+ys.length<=sizeLine/\Q (.tup (xs++ys)) G
  | .ref l,.ref m=>onM G l λ xs=>onM G m λ ys=>xs.length+ys.length<=sizeLine/\∀ p,G p=none->Q (.ref p) (up G p (.lst (xs++ys)))
  | _,_=>False
theorem aKq:AOp X (binaryOp .Add) nVq:=by
  refine ⟨_,⟨op_add.or (op_add_str.or (op_catW.or kLq))⟩,λ x y vx vy G H DQ Q v ax ay r F=>?_⟩
  cases x with
  | int i=>
    cases y with
    | int j=>cases ax;cases ay;exact .inl ⟨i,j,rfl,rfl,F (.int (i+j)) G _ H (.refl v) rfl r⟩
    | _=>exact (show False from r).elim
  | str i=>
    cases y with
    | str j=>cases ax;cases ay;exact .inr (.inl ⟨i,j,rfl,rfl,r.1,F (.str (i++j)) G _ H (.refl v) rfl r.2⟩)
    | _=>exact (show False from r).elim
  | tup xs=>
    cases y with
    | tup ys=>
      obtain ⟨l,vs,rfl,s1,r1⟩:=ax
      obtain ⟨m,us,rfl,s2,r2⟩:=ay
      have l1:=r1.len
      have l2:=r2.len
      refine .inr (.inr (.inl ⟨l,m,vs,us,rfl,rfl,s1,s2,by rw [l1,l2];exact r.1,λ e=>?_,λ e e2=>?_,λ e e2 p hp=>?_⟩))
      . subst e
        have e':xs=[]:=by cases xs<;>simp_all
        subst e'
        exact F (.tup ys) G _ H (.refl v) ⟨m,us,rfl,s2,r2⟩ (by simpa using r.2)
      . subst e2
        have e':ys=[]:=by cases ys<;>simp_all
        subst e'
        exact F (.tup xs) G _ H (.refl v) ⟨l,vs,rfl,s1,r1⟩ (by simpa using r.2)
      . have g:=Go.newT (o:=.tup (vs++us)) v hp
        exact F (.tup (xs++ys)) G _ _ g ⟨p,_,rfl,.of aIq,(r1.append r2).mono g.tup⟩ r.2
    | _=>exact (show False from r).elim
  | ref l=>
    cases y with
    | ref m=>
      cases ax;cases ay
      obtain ⟨xs,vs,k1,e1,h1,r1⟩:=cKq v r
      obtain ⟨ys,us,k2,e2,h2,r2⟩:=cKq v k1
      have l1:=r1.len
      have l2:=r2.len
      exact .inr (.inr (.inr ⟨l,m,vs,us,rfl,rfl,h1,h2,by rw [l1,l2];exact k2.1,λ p hp=>F (.ref p) _ _ _ (Go.newL v hp (r1.append r2)) rfl (k2.2 p (v.none hp))⟩))
    | _=>exact (show False from r).elim
  | _=>exact (show False from r).elim
def kKq (C:Int->Int->Prop) (g:Int->Int->D):DR2:=λ x y G Q=>match x,y with
  | .int i,.int j=>C i j/\Q (g i j) G
  | _,_=>False
def h6q (g:Int->Int->D):DR2:=λ x y G Q=>match x,y with
  | .int i,.int j=>Q (g i j) G
  | _,_=>False
theorem gLq {f:Value->Value->Sem Value} {C:Int->Int->Prop} {g:Int->Int->Int} (h:OpR X f (rI C λ i j=>.int (g i j))):AOp X f (kKq C λ i j=>.int (g i j)):=by
  refine ⟨_,⟨h⟩,λ x y vx vy G H DQ Q v ax ay r F=>?_⟩
  cases x with
  | int i=>
    cases y with
    | int j=>cases ax;cases ay;exact ⟨i,j,rfl,rfl,r.1,F (.int (g i j)) G _ H (.refl v) rfl r.2⟩
    | _=>exact (show False from r).elim
  | _=>exact (show False from r).elim
theorem f8q {f:Value->Value->Sem Value} {g:Int->Int->Bool} (h:OpR X f (rI0 λ i j=>.bl (g i j))):AOp X f (h6q λ i j=>.bl (g i j)):=by
  refine ⟨_,⟨h⟩,λ x y vx vy G H DQ Q v ax ay r F=>?_⟩
  cases x with
  | int i=>
    cases y with
    | int j=>cases ax;cases ay;exact ⟨i,j,rfl,rfl,F (.bl (g i j)) G _ H (.refl v) rfl r⟩
    | _=>exact (show False from r).elim
  | _=>exact (show False from r).elim
theorem aZq:AOp X (binaryOp .Mult) (kKq CMul λ i j=>.int (i * j)):=gLq l6q
theorem e7q:AOp X (binaryOp .FloorDiv) (kKq (λ _ j=>0 < j/\j < 2 ^ 64) λ i j=>.int (i / j)):=gLq gOq
theorem b1q:AOp X (binaryOp .Mod) (kKq (λ _ j=>0 < j) λ i j=>.int (i % j)):=gLq l8q
theorem j2q:AOp X (binaryOp .Pow) (kKq nHq λ i j=>.int (i ^ j.toNat)):=gLq kEq
theorem hHq:AOp X (compareOp .Lt) (h6q λ i j=>.bl (decide (i < j))):=f8q m7q
theorem fVq:AOp X (compareOp .Gt) (h6q λ i j=>.bl (decide (j < i))):=f8q mSq
theorem kNq:AOp X (compareOp .GtE) (h6q λ i j=>.bl (decide (j<=i))):=f8q m5q
def nRq:D->Bool
  | .non=>true
  | _=>false
theorem dUq {K:PySem.W.Frag} {H:Hp} {ds:List D} {vs:List V} {i:Int} {d:D} (r:AbsL K H ds vs) (h:atI ds i=some d):∃ v,atI vs i=some v/\Abs K H d v:=by
  unfold atI at h ⊢
  rw [r.len]
  cases e:ixN ds.length i with
  | none=>rw [e] at h;cases h
  | some j=>
    rw [e] at h
    exact r.get h
theorem dXq {ds:List D} {i:Int} {G:DV} {Q:DK} (h:atD ds i G Q):∃ d,atI ds i=some d/\Q d G:=by
  unfold atD at h
  rw [hMq] at h
  split at h
  . next d e=>exact ⟨d,e,h⟩
  . exact h.elim
def ixD:DR2:=λ x y G Q=>match x,y with
  | .tup ds,.int i=>atD ds i G Q
  | .ref l,.int i=>onL G l λ ds=>atD ds i G Q
  | .frl ds,.int i=>atD ds i G Q
  | .str z,.int i=>z.length<=sizeLine/\∃ c,atI z.cps.toList i=some c/\Q (.str ⟨#[c]⟩) G
  | _,_=>False
theorem hFq {ds:List D} {i:Int} {G:DV} {Q:DK} {d:D} (h:atI ds i=some d) (q:Q d G):ixD (.frl ds) (.int i) G Q:=l2q h q
theorem aix:AIx X ixD:=by
  refine ⟨_,⟨lBq⟩,λ x y vx vy G H DQ Q v ax ay r F=>?_⟩
  cases x with
  | tup ds=>
    cases y with
    | int i=>
      cases ay
      obtain ⟨l,vs,rfl,s,rl⟩:=ax
      obtain ⟨d,hd,q⟩:=dXq r
      obtain ⟨u,hu,ad⟩:=dUq rl hd
      exact .inr (.inl ⟨l,vs,i,u,rfl,rfl,s,hu,F d G u H (.refl v) ad q⟩)
    | _=>exact (show False from r).elim
  | ref l=>
    cases y with
    | int i=>
      cases ax;cases ay
      obtain ⟨ds,vs,k,s,rl⟩:=aXq v r
      obtain ⟨d,hd,q⟩:=dXq k
      obtain ⟨u,hu,ad⟩:=dUq rl hd
      exact .inl ⟨l,vs,i,u,rfl,rfl,s,hu,F d G u H (.refl v) ad q⟩
    | _=>exact (show False from r).elim
  | frl ds=>
    cases y with
    | int i=>
      cases ay
      obtain ⟨l,vs,rfl,s,rl⟩:=ax
      obtain ⟨d,hd,q⟩:=dXq r
      obtain ⟨u,hu,ad⟩:=dUq rl hd
      exact .inl ⟨l,vs,i,u,rfl,rfl,s.sq,hu,F d G u H (.refl v) ad q⟩
    | _=>exact (show False from r).elim
  | str z=>
    cases y with
    | int i=>
      cases ax;cases ay
      obtain ⟨hz,c,hc,q⟩:=r
      exact .inr (.inr ⟨z,i,c,rfl,rfl,hz,hc,F (.str ⟨#[c]⟩) G _ H (.refl v) rfl q⟩)
    | _=>exact (show False from r).elim
  | _=>exact (show False from r).elim
def bEq:D->Bool
  | .non=>true
  | .bl _=>true
  | .int _=>true
  | .str _=>true
  | _=>false
def toV:D->V
  | .non=>.non
  | .bl b=>.bl b
  | .int i=>.int i
  | .str x=>.str x
  | _=>.non
theorem fIq {K:PySem.W.Frag} {H:Hp} {d:D} {v:V} (a:Abs K H d v) (h:bEq d=true):v=toV d/\c6q v=true:=by
  cases d with
  | non=>cases a;exact ⟨rfl,rfl⟩
  | bl b=>cases a;exact ⟨rfl,rfl⟩
  | int b=>cases a;exact ⟨rfl,rfl⟩
  | str b=>cases a;exact ⟨rfl,rfl⟩
  | _=>exact absurd h (by simp [bEq])
theorem mOq {K:PySem.W.Frag} {H:Hp}:∀ {ds:List D} {vs:List V},AbsL K H ds vs->ds.all bEq=true->vs=ds.map toV/\vs.all c6q=true
  | [],_,r,_=>by cases r;exact ⟨rfl,rfl⟩
  | _::_,_,⟨v,r,e,q,l⟩,h=>by
    subst e
    rw [List.all_cons,Bool.and_eq_true] at h
    obtain ⟨h1,h2⟩:=fIq q h.1
    obtain ⟨h3,h4⟩:=mOq l h.2
    exact ⟨by rw [List.map_cons,<- h1,<- h3],by rw [List.all_cons,h2,h4];rfl⟩
def eqF:D->D->Bool
  | .non,.non=>true
  | .bl a,.bl b=>a==b
  | .bl a,.int b=>(if a then 1 else 0)==b
  | .int a,.bl b=>a==(if b then 1 else 0)
  | .int a,.int b=>a==b
  | .str a,.str b=>a==b
  | _,_=>false
theorem n0q {x y:D} (hx:bEq x=true) (hy:bEq y=true):eqV (toV x) (toV y)=eqF x y:=by
  cases x<;>cases y<;>first | rfl | (simp [bEq] at hx;done) | (simp [bEq] at hy;done)
def inL (x:D) (ds:List D):Bool:=ds.any λ y=>eqF y x
theorem iWq {x:D} (hx:bEq x=true):∀ {ds:List D},ds.all bEq=true->inV (toV x) (ds.map toV)=inL x ds
  | [],_=>rfl
  | d::ds,h=>by
    rw [List.all_cons,Bool.and_eq_true] at h
    have ih:=iWq hx h.2
    unfold inV inL at *
    rw [List.map_cons,List.any_cons,List.any_cons,ih,n0q h.1 hx]
def inD (neg:Bool):DR2:=λ x y G Q=>match y with
  | .tup ds=>bEq x=true/\ds.all bEq=true/\Q (.bl (neg ^^ inL x ds)) G
  | .ref l=>onL G l λ ds=>bEq x=true/\ds.all bEq=true/\Q (.bl (neg ^^ inL x ds)) G
  | .str j=>(match x with
      | .str i=>Q (.bl (neg ^^ !(Builtin.Str.occurrences j i 0 j.length 1).isEmpty)) G
      | _=>False)
  | _=>False
theorem d9q:AOp X (compareOp .NotIn) (inD true):=by
  refine ⟨_,⟨op_notIn_seq.or cWq⟩,λ x y vx vy G H DQ Q v ax ay r F=>?_⟩
  cases y with
  | tup ds=>
    obtain ⟨h1,h2,q⟩:=r
    obtain ⟨l,vs,rfl,s,rl⟩:=ay
    obtain ⟨e1,f1⟩:=fIq ax h1
    obtain ⟨e2,f2⟩:=mOq rl h2
    refine .inl ⟨l,vs,rfl,.inr s,f1,f2,?_⟩
    rw [e1,e2,iWq h1 h2]
    exact F (.bl _) G _ H (.refl v) rfl (by simpa using q)
  | ref l=>
    cases ay
    obtain ⟨ds,vs,⟨h1,h2,q⟩,s,rl⟩:=aXq v r
    obtain ⟨e1,f1⟩:=fIq ax h1
    obtain ⟨e2,f2⟩:=mOq rl h2
    refine .inl ⟨l,vs,rfl,.inl s,f1,f2,?_⟩
    rw [e1,e2,iWq h1 h2]
    exact F (.bl _) G _ H (.refl v) rfl (by simpa using q)
  | str j=>
    cases x with
    | str i=>cases ax;cases ay;exact .inr ⟨i,j,rfl,rfl,F (.bl _) G _ H (.refl v) rfl (by simpa [inD] using r)⟩
    | _=>exact (show False from r).elim
  | _=>exact (show False from r).elim
variable {e o:Expr} {es:List Expr} {te to:DTE} {t:DTA} {pos p apos cpos:Pos}
abbrev dCB (r:DRL) (t:DTA):DTE:=λ ρ G Q=>t ρ G λ ds G1=>r ds G1 Q
theorem aPq {x:Str} {id:String} {r:DRL} (hc:ACall X (.builtin id) r) (hg:Gl X x) (hm:X.mg x=none) (hv:bootBuiltins x=some (.builtin id)) (ha:AA X (e::es) t) (hn:x≠"__name__":=by decide) (hdb:(x==("__debug__" : Str))=false:=by decide)
    (hs:(e::es).all aSq=true:=by rfl):AE X (.Call (.Name x p) (e::es) [] pos) (dCB r t):=by
  obtain ⟨ca,ja,ra⟩:=ha.run
  obtain ⟨cc,jc,rc⟩:=hc.run
  exact ⟨_,gJq jc hg hm hv ja hn hdb hs,λ ρ G DQ σ H Q B q F=>ra ρ G _ σ H _ B q λ ds G1 vs H1 g1 al _ q1=>rc ds vs G1 H1 DQ Q g1.vw al q1 (F.after g1)⟩
theorem d5q {x:Str} {T:String} {r:DRL} (hc:ACall X (.type T) r) (hg:Gl X x) (hm:X.mg x=none) (hv:bootBuiltins x=some (.type T)) (ha:AA X (e::es) t) (hn:x≠"__name__":=by decide) (hdb:(x==("__debug__" : Str))=false:=by decide)
    (hs:(e::es).all aSq=true:=by rfl):AE X (.Call (.Name x p) (e::es) [] pos) (dCB r t):=by
  obtain ⟨ca,ja,ra⟩:=ha.run
  obtain ⟨cc,jc,rc⟩:=hc.run
  exact ⟨_,gFq jc hg hm hv ja hn hdb hs,λ ρ G DQ σ H Q B q F=>ra ρ G _ σ H _ B q λ ds G1 vs H1 g1 al _ q1=>rc ds vs G1 H1 DQ Q g1.vw al q1 (F.after g1)⟩
abbrev lQq (r:D->DV->DK->Prop):DRL:=λ xs G Q=>match xs with
  | [x]=>r x G Q
  | _=>False
abbrev lNq (r:D->D->DV->DK->Prop):DRL:=λ xs G Q=>match xs with
  | [x,y]=>r x y G Q
  | _=>False
theorem eFq {K:PySem.W.Frag} {H:Hp} {r:D->DV->DK->Prop} {xs:List D} {vs:List V} {G:DV} {Q:DK} (h:lQq r xs G Q) (a:AbsL K H xs vs):∃ x v,xs=[x]/\vs=[v]/\Abs K H x v/\r x G Q:=by
  unfold lQq at h
  split at h
  . obtain ⟨v,r,rfl,q,l⟩:=a;cases l;exact ⟨_,v,rfl,rfl,q,h⟩
  . exact h.elim
theorem e5q {K:PySem.W.Frag} {H:Hp} {r:D->D->DV->DK->Prop} {xs:List D} {vs:List V} {G:DV} {Q:DK} (h:lNq r xs G Q) (a:AbsL K H xs vs):∃ x y v u,xs=[x,y]/\vs=[v,u]/\Abs K H x v/\Abs K H y u/\r x y G Q:=by
  unfold lNq at h
  split at h
  . obtain ⟨v,r,rfl,q,u,r2,rfl,q2,l⟩:=a;cases l;exact ⟨_,_,v,u,rfl,rfl,q,q2,h⟩
  . exact h.elim
def nQq:D->DV->DK->Prop:=λ x G Q=>match x with
  | .tup ds=>Q (.int ds.length) G
  | .ref l=>onL G l λ ds=>Q (.int ds.length) G
  | .frl ds=>Q (.int ds.length) G
  | .str z=>z.length<=sizeLine/\Q (.int z.length) G
  | _=>False
theorem aVq:ACall X (.builtin "len") (lQq nQq):=by
  refine ⟨_,⟨call_len_seq.or d2q⟩,λ xs vs G H DQ Q v a r F=>?_⟩
  obtain ⟨x,u,rfl,rfl,ax,r⟩:=eFq r a
  cases x with
  | tup ds=>
    obtain ⟨l,ws,rfl,s,rl⟩:=ax
    exact .inl ⟨l,ws,rfl,.inr s,by rw [rl.len];exact F (.int ds.length) G _ H (.refl v) rfl r⟩
  | ref l=>
    cases ax
    obtain ⟨ds,ws,k,s,rl⟩:=aXq v r
    exact .inl ⟨l,ws,rfl,.inl s,by rw [rl.len];exact F (.int ds.length) G _ H (.refl v) rfl k⟩
  | frl ds=>
    obtain ⟨l,ws,rfl,s,rl⟩:=ax
    exact .inl ⟨l,ws,rfl,.inl s.sq,by rw [rl.len];exact F (.int ds.length) G _ H (.refl v) rfl r⟩
  | str z=>cases ax;exact .inr ⟨z,rfl,r.1,F (.int z.length) G _ H (.refl v) rfl r.2⟩
  | _=>exact (show False from r).elim
def oCq:D->DV->DK->Prop:=λ x G Q=>match x with
  | .int i=>Q (.int i) G
  | .bl k=>Q (.int (if k then 1 else 0)) G
  | _=>False
theorem cZq:ACall X (.type "int") (lQq oCq):=by
  refine ⟨_,⟨g8q⟩,λ xs vs G H DQ Q v a r F=>?_⟩
  obtain ⟨x,u,rfl,rfl,ax,r⟩:=eFq r a
  cases x with
  | int i=>cases ax;exact .inl ⟨i,rfl,F (.int i) G _ H (.refl v) rfl r⟩
  | bl k=>cases ax;exact .inr ⟨k,rfl,F (.int (if k then 1 else 0)) G _ H (.refl v) rfl r⟩
  | _=>exact (show False from r).elim
def mXq (g:Int->Int->Int):D->D->DV->DK->Prop:=λ x y G Q=>match x,y with
  | .int i,.int j=>Q (.int (g i j)) G
  | _,_=>False
theorem f9q (hc:X.calm=true):ACall X (.builtin "max") (lNq (mXq λ i j=>if j > i then j else i)):=by
  refine ⟨_,⟨gEq hc⟩,λ xs vs G H DQ Q v a r F=>?_⟩
  obtain ⟨x,y,u,w,rfl,rfl,ax,ay,r⟩:=e5q r a
  cases x with
  | int i=>
    cases y with
    | int j=>cases ax;cases ay;exact ⟨i,j,rfl,F (.int (if j > i then j else i)) G _ H (.refl v) rfl r⟩
    | _=>exact (show False from r).elim
  | _=>exact (show False from r).elim
end
end L3
namespace L2
open PySem PySem.Spec PyProof.Rows
def n8q (K:PySem.W.Frag) (tl:TE):TI:=λ σ H R=>tl σ H λ x H1=>∃ a,x=.ref a/\(((∃ xs,SqL K H1 a xs)/\R (Itl K a) H1)\/((∃ xs,SqT K H1 a xs)/\R (Itt K a) H1))
theorem jWq {X:Cx} {tg l:Expr} {tl:TE} (hl:PE X l tl):PI X tg l (n8q X.K tl):=by
  intro pins s σ H R I h
  refine thn (hl pins s σ H _ I h) λ v s1 ⟨x,H1,I1,r1,q1⟩=>?_
  obtain ⟨a,e,q1⟩:=q1
  subst e
  cases r1
  rcases q1 with ⟨⟨xs,hq⟩,q⟩ | ⟨⟨xs,hq⟩,q⟩
  . obtain ⟨its,rv,p,hz⟩:=I1.list hq
    refine wpAny_pyIter_list p.isList ?_
    refine ⟨s1.heap.objs.size,[s1.heap.objs.size],_,_,H1,rfl,I1.kept (t':=s1.toks) λ b o e=>Heap.get?_push_of_some _ e,g0q a _,⟨_,Heap.get?_push_size _ rfl,rfl,rfl⟩,λ b hb=>?_,q⟩
    have e:b=s1.heap.objs.size:=by simpa using hb
    subst e
    exact I1.fpOk (Nat.le_refl _) (I1.hok.fresh (Nat.le_refl _))
  . obtain ⟨its,rv,p,hz⟩:=I1.tuple hq
    refine wpAny_pyIter_tuple (show s1.heap.IsTuple a its.toArray from p) ?_
    refine ⟨s1.heap.objs.size,[s1.heap.objs.size],_,_,H1,rfl,I1.kept (t':=s1.toks) λ b o e=>Heap.get?_push_of_some _ e,eTq a _,⟨_,Heap.get?_push_size _ rfl,rfl,rfl⟩,λ b hb=>?_,q⟩
    have e:b=s1.heap.objs.size:=by simpa using hb
    subst e
    exact I1.fpOk (Nat.le_refl _) (I1.hok.fresh (Nat.le_refl _))
end L2
namespace L3
open PySem PySem.Spec L2
section
variable {X:Cx} {a b c e o i tg iter:Expr} {es:List Expr} {ta tb te to ti:DTE} {t:DTA} {pos p apos cpos:Pos}
structure DIt where
  items:List D
  held:DV->Prop
abbrev DTI:=DSt->DV->(DIt->DV->Prop)->Prop
def lVq (K:PySem.W.Frag) (J:DIt) (Jc:It) (G:DV) (H:Hp):Prop:=∀ G1 H1,Go K G H G1 H1->J.held G1 →
  (∀ (i:Nat) (d:D),J.items[i]?=some d->Jc.go i H1/\∀ x H',Jc.yld i H1 x H'->Go K G1 H1 G1 H'/\Abs K H' d x)/\∀ i,J.items.length<=i->Jc.stop i H1
structure AI (X:Cx) (tg iter:Expr) (wi:DTI):Prop where
  run:∃ wc:TI,JI X tg iter wc/\∀ ρ G DR σ H R,Bears X.K ρ G σ H->wi ρ G DR->(∀ J Jc G' H',Go X.K G H G' H'->lVq X.K J Jc G' H'->DR J G'->R Jc H')->wc σ H R
@[irreducible] def kDq (G:DV) (l:Addr) (k:DIt->Prop):Prop:=match G l with
  | some (.lst ds)=>k ⟨ds,λ G=>G l=some (.lst ds)⟩
  | _=>False
abbrev lWq (ta:DTE):DTI:=λ ρ G R=>ta ρ G λ x G1=>match x with
  | .tup ds=>R ⟨ds,λ _=>True⟩ G1
  | .ref l=>kDq G1 l λ J=>R J G1
  | .frl ds=>R ⟨ds,λ _=>True⟩ G1
  | _=>False
theorem dLq {G:DV} {l:Addr} {k:DIt->Prop} {ds:List D} (h:G l=some (.lst ds)) (q:k ⟨ds,λ G=>G l=some (.lst ds)⟩):kDq G l k:=by unfold kDq;rw [h];exact q
theorem lCq {K:PySem.W.Frag} {ds:List D} {vs:List V} {l:Addr} {G1:DV} {H1:Hp} (v:Vw K G1 H1) (s:SqT K H1 l vs) (r:AbsL K H1 ds vs) :
    (∀ (i:Nat) (d:D),ds[i]?=some d->(Itt K l).go i H1/\∀ x H',(Itt K l).yld i H1 x H'->Go K G1 H1 G1 H'/\Abs K H' d x)/\∀ i,ds.length<=i->(Itt K l).stop i H1:=by
  refine ⟨λ i d hd=>?_,λ i hi=>⟨vs,s,by rw [r.len];exact hi⟩⟩
  obtain ⟨w,hw,aw⟩:=r.get hd
  refine ⟨⟨vs,w,s,hw⟩,λ x H' y=>?_⟩
  obtain ⟨rfl,y⟩:=y
  have z:=y vs s
  rw [hw] at z
  cases z
  exact ⟨.refl v,aw⟩
theorem g2q {K:PySem.W.Frag} {ds:List D} {vs:List V} {l:Addr} {G1:DV} {H1:Hp} (v:Vw K G1 H1) (s:SqL K H1 l vs) (r:AbsL K H1 ds vs) :
    (∀ (i:Nat) (d:D),ds[i]?=some d->(Itl K l).go i H1/\∀ x H',(Itl K l).yld i H1 x H'->Go K G1 H1 G1 H'/\Abs K H' d x)/\∀ i,ds.length<=i->(Itl K l).stop i H1:=by
  refine ⟨λ i d hd=>?_,λ i hi=>⟨vs,s,by rw [r.len];exact hi⟩⟩
  obtain ⟨w,hw,aw⟩:=r.get hd
  refine ⟨⟨vs,w,s,hw⟩,λ x H' y=>?_⟩
  obtain ⟨rfl,y⟩:=y
  have z:=y vs s
  rw [hw] at z
  cases z
  exact ⟨.refl v,aw⟩
theorem jOq {tc:TE} (hl:JE X a tc):JI X tg a (n8q X.K tc):=⟨jWq hl.run⟩
theorem gCq (ha:AE X a ta):AI X tg a (lWq ta):=by
  obtain ⟨ca,ja,ra⟩:=ha.run
  refine ⟨_,jOq ja,λ ρ G DR σ H R B q F=>ra ρ G _ σ H _ B q λ x G1 v H1 g1 ax q1=>?_⟩
  cases x with
  | tup ds=>
    obtain ⟨l,vs,rfl,s,r⟩:=ax
    exact ⟨l,rfl,.inr ⟨⟨vs,s⟩,F ⟨ds,λ _=>True⟩ _ G1 H1 g1 (λ G2 H2 g2 _=>lCq g2.vw (g2.tup.tp _ _ s) (r.mono g2.tup)) q1⟩⟩
  | ref l=>
    cases ax
    refine ⟨l,rfl,.inl ?_⟩
    replace q1:kDq G1 l λ J=>DR J G1:=q1
    unfold kDq at q1
    split at q1
    . next ds hd=>
      obtain ⟨vs,z,r⟩:=g1.vw _ _ hd
      refine ⟨⟨vs,.of z⟩,F ⟨ds,λ G=>G l=some (.lst ds)⟩ _ G1 H1 g1 (λ G2 H2 g2 h2=>?_) q1⟩
      obtain ⟨us,z2,r2⟩:=g2.vw _ _ h2
      exact g2q g2.vw (.of z2) r2
    . exact q1.elim
  | frl ds=>
    obtain ⟨l,vs,rfl,s,r⟩:=ax
    exact ⟨l,rfl,.inl ⟨⟨vs,s.sq⟩,F ⟨ds,λ _=>True⟩ _ G1 H1 g1 (λ G2 H2 g2 _=>g2q g2.vw (g2.tup.fr _ _ s).sq (r.mono g2.tup)) q1⟩⟩
  | _=>exact (show False from q1).elim
def aMq (lo:Int) (n:Nat):List D:=(List.range n).map λ(i:Nat)=>D.int (lo+(i:Int))
theorem f0q {lo:Int} {n i:Nat} {d:D} (h:(aMq lo n)[i]?=some d):i < n/\d=.int (lo+i):=by
  unfold aMq at h
  rw [List.getElem?_map] at h
  by_cases c:i < n
  . rw [List.getElem?_range c] at h
    simp at h
    exact ⟨c,h.symm⟩
  . rw [List.getElem?_eq_none (by simpa using c)] at h
    cases h
theorem aDq {lo:Int} {n:Nat}:(aMq lo n).length=n:=by simp [aMq]
@[irreducible] def onR (r:List D->Option (Int × Nat)) (ds:List D) (k:Int->Nat->Prop):Prop:=match r ds with
  | some (lo,n)=>k lo n
  | none=>False
abbrev iEq (r:List D->Option (Int × Nat)) (t:DTA):DTI:=λ ρ G R=>t ρ G λ ds G1=>onR r ds λ lo n=>R ⟨aMq lo n,λ _=>True⟩ G1
def dMq (i:Int):Bool:=decide (-(2 ^ 62)<=i)&&decide (i < 2 ^ 62)
def l4q:List D->Option (Int × Nat)
  | [.int j]=>if dMq j=true then some (0,j.toNat) else none
  | _=>none
theorem small62_iff {i:Int}:dMq i=true ↔ -(2 ^ 62)<=i/\i < 2 ^ 62:=by unfold dMq;simp
theorem jFq {K:PySem.W.Frag} {lo:Int} {n:Nat} {G1:DV} {H1:Hp} (v:Vw K G1 H1) :
    (∀ (i:Nat) (d:D),(aMq lo n)[i]?=some d->(Itr lo n).go i H1/\∀ x H',(Itr lo n).yld i H1 x H'->Go K G1 H1 G1 H'/\Abs K H' d x)/\∀ i,(aMq lo n).length<=i->(Itr lo n).stop i H1:=by
  refine ⟨λ i d hd=>?_,λ i hi=>by rw [aDq] at hi;exact hi⟩
  obtain ⟨h1,rfl⟩:=f0q hd
  refine ⟨h1,λ x H' y=>?_⟩
  obtain ⟨rfl,rfl⟩:=y
  exact ⟨.refl v,rfl⟩
theorem h0q {ds:List D} {lo:Int} {n:Nat} (h:l4q ds=some (lo,n)):∃ j,ds=[.int j]/\(-(2 ^ 62)<=j/\j < 2 ^ 62)/\lo=0/\n=j.toNat:=by
  unfold l4q at h
  split at h
  . next j=>
    split at h
    . next c=>cases h;exact ⟨j,rfl,small62_iff.mp c,rfl,rfl⟩
    . cases h
  . cases h
theorem c1q {j:Int} {k:Int->Nat->Prop} (h:-(2 ^ 62)<=j/\j < 2 ^ 62) (q:k 0 j.toNat):onR l4q [.int j] k:=by
  have e:l4q [.int j]=some (0,j.toNat):=if_pos (small62_iff.mpr h)
  unfold onR;rw [e];exact q
theorem dVq {r:List D->Option (Int × Nat)} {ds:List D} {R:DIt->DV->Prop} {G:DV} (h:onR r ds λ lo n=>R ⟨aMq lo n,λ _=>True⟩ G):∃ lo n,r ds=some (lo,n)/\R ⟨aMq lo n,λ _=>True⟩ G:=by
  unfold onR at h
  split at h
  . next lo n e=>exact ⟨lo,n,e,h⟩
  . exact h.elim
theorem bAq (hg:Gl X "range") (hm:X.mg "range" = none) (ha:AA X [a] t) (hs:aSq a=true:=by rfl):AI X tg (.Call (.Name "range" p) [a] [] pos) (iEq l4q t):=by
  obtain ⟨ca,ja,ra⟩:=ha.run
  refine ⟨_,fHq hg hm ja hs,λ ρ G DR σ H R B q F=>ra ρ G _ σ H _ B q λ ds G1 vs H1 g1 al hl q1=>?_⟩
  obtain ⟨lo,n,e,q2⟩:=dVq q1
  obtain ⟨j,rfl,c,rfl,rfl⟩:=h0q e
  obtain ⟨v,r,rfl,av,l⟩:=al
  cases l;cases av
  exact ⟨j,rfl,c.1,c.2,F _ _ G1 H1 g1 (λ G2 H2 g2 _=>jFq g2.vw) q2⟩
def Wk (P:DSt->DV->Prop):DSt->DV->Prop:=λ ρ G=>∃ ρ' G',StSub ρ' ρ/\Sub G' G/\P ρ' G'
theorem Wk.of {P:DSt->DV->Prop} {ρ:DSt} {G:DV} (h:P ρ G):Wk P ρ G:=⟨ρ,G,.refl _,.refl _,h⟩
abbrev nXq (wi:DTI) (g:DTG) (tb:DTS):DTS:=λ DD ρ G=>wi ρ G λ J G1=>∃ P:Nat->DSt->DV->Prop,P 0 ρ G1/\(∀ i ρ G,i<=J.items.length->P i ρ G->J.held G) ∧
  (∀ (i:Nat) (d:D) (ρ:DSt) (G:DV),J.items[i]?=some d->P i ρ G->g d ρ G λ ρ' G'=>tb { DD with nx:=Wk (P (i+1)),ct:=Wk (P (i+1)),bk:=DD.nx } ρ' G')/\∀ ρ G,P J.items.length ρ G->DD.nx ρ G
theorem hDq {body:List Stmt} {wi:DTI} {g:DTG} {tb:DTS} (hp:PassesOwn (model X.prog X.w) X.A X.env X.xe) (hc:X.calm=true) (hi:AI X tg iter wi) (hg:AG X tg g) (hb:AB X body tb) (hs:∀ x,foldedSetIterable iter X.env x=pure x:=by intro _;rfl) :
    AS X (.For tg iter body [] pos) (nXq wi g tb):=by
  obtain ⟨ci,ji,ri⟩:=hi.run
  obtain ⟨cg,jg,rg⟩:=hg.run
  obtain ⟨cb,jb,rb⟩:=hb.run
  refine ⟨_,lHq hp hc ji jg jb hs,λ DD Dc ρ G σ H B q F=>ri ρ G _ σ H _ B q λ J Jc G1 H1 g1 ok q1=>?_⟩
  obtain ⟨P,p0,held,turn,done⟩:=q1
  refine ⟨λ i m σ' H'=>m=J.items.length - i/\i<=J.items.length/\∃ ρ' G',P i ρ' G'/\Bears X.K ρ' G' σ' H'/\Go X.K G1 H1 G' H',⟨_,rfl,Nat.zero_le _,ρ,G1,p0,B.go g1,.refl g1.vw⟩,?_⟩
  rintro i m σ2 H2 ⟨rfl,hi,ρ2,G2,p2,b2,g2⟩
  have k2:=ok G2 H2 g2 (held i ρ2 G2 hi p2)
  by_cases hlt:i < J.items.length
  . have hd:J.items[i]?=some J.items[i]:=by simp [hlt]
    obtain ⟨go,yl⟩:=k2.1 i _ hd
    refine .inr ⟨go,λ σ' H'=>∃ ρ' G',P (i+1) ρ' G'/\Bears X.K ρ' G' σ' H'/\Go X.K G1 H1 G' H',λ σ' H' ⟨ρ',G',z1,z2,z3⟩=>⟨J.items.length - (i+1),by omega,rfl,hlt,ρ',G',z1,z2,z3⟩,λ x H' y=>?_⟩
    obtain ⟨g3,ax⟩:=yl x H' y
    refine rg _ x ρ2 G2 _ σ2 H' _ (b2.go g3) ax (turn i _ ρ2 G2 hd p2) λ ρ4 G4 σ4 H4 g4 b4 q4=>?_
    have gg:=(g2.trans g3).trans g4
    have again:∀ ρ' G' σ' H',Go X.K G4 H4 G' H'->Bears X.K ρ' G' σ' H'->Wk (P (i+1)) ρ' G'->∃ ρ' G',P (i+1) ρ' G'/\Bears X.K ρ' G' σ' H'/\Go X.K G1 H1 G' H':=λ ρ' G' σ' H' g' b' ⟨ρ5,G5,s1,s2,w⟩=>
      ⟨ρ5,G5,w,b'.weak s1 s2,(gg.trans g').sub s2⟩
    exact rb _ _ ρ4 G4 σ4 H4 b4 q4 ⟨λ ρ' G' σ' H' g' b' w=>again ρ' G' σ' H' g' b' w,(F.after ((g1.trans gg))).rt,λ ρ' G' σ' H' g' b' w=>F.nx ρ' G' σ' H' ((g1.trans gg).trans g') b' w,λ ρ' G' σ' H' g' b' w=>again ρ' G' σ' H' g' b' w⟩
  . have e:i=J.items.length:=by omega
    subst e
    exact .inl ⟨k2.2 _ (Nat.le_refl _),F.nx ρ2 G2 σ2 H2 (g1.trans g2) b2 (done ρ2 G2 p2)⟩
end
end L3
namespace L2
open PySem PySem.Spec PyProof.Rows
theorem JE.imp {X:Cx} {e:Expr} {t t':TE} (h:JE X e t) (i:∀ σ H Q,t' σ H Q->t σ H Q):JE X e t':=⟨λ pins s σ H Q I q=>h.run pins s σ H Q I (i σ H Q q)⟩
theorem JT.imp {X:Cx} {e:Expr} {t t':TT} (h:JT X e t) (i:∀ σ H Q,t' σ H Q->t σ H Q):JT X e t':=⟨λ pins s σ H Q I q=>h.run pins s σ H Q I (i σ H Q q)⟩
theorem JG.imp {X:Cx} {e:Expr} {t t':TG} (h:JG X e t) (i:∀ v σ H Q,t' v σ H Q->t v σ H Q):JG X e t':=⟨λ pins s σ H x v Q I r q=>h.run pins s σ H x v Q I r (i _ _ _ _ q)⟩
end L2
namespace L3
open PySem PySem.Spec L2
section
variable {X:Cx} {a b c e o i tg iter elt ct:Expr} {es:List Expr} {ta tb te to ti:DTE} {t:DTA} {pos p apos cpos:Pos}
abbrev jAq (K:PySem.W.Frag) (tc:TE) (t:DTE):Prop:=∀ ρ G DQ σ H Q,Bears K ρ G σ H->t ρ G DQ->Fin K G H DQ Q->tc σ H Q
abbrev mGq (K:PySem.W.Frag) (tc:TT) (t:DTT):Prop:=∀ ρ G DQ σ H Q,Bears K ρ G σ H->t ρ G DQ->mLq K G H DQ Q->tc σ H Q
abbrev lPq (K:PySem.W.Frag) (tc:TG) (t:DTG):Prop:=∀ d v ρ G DQ σ H Q,Bears K ρ G σ H->Abs K H d v->t d ρ G DQ->nJq K G H DQ Q->tc v σ H Q
theorem AE.uni {ι:Type} {cx:ι->Cx} {K:PySem.W.Frag} (hK:∀ z,(cx z).K=K) (h:∀ z,AE (cx z) e te):∃ tc:TE,(∀ z,JE (cx z) e tc)/\jAq K tc te:=by
  have h':∀ z,∃ tc,JE (cx z) e tc/\jAq K tc te:=λ z=>by
    have q:=(h z).run
    rw [hK z] at q
    exact q
  exact ⟨λ σ H Q=>∀ z,Classical.choose (h' z) σ H Q,λ z=>(Classical.choose_spec (h' z)).1.imp λ σ H Q q=>q z,λ ρ G DQ σ H Q B q F z=>(Classical.choose_spec (h' z)).2 ρ G DQ σ H Q B q F⟩
theorem AT.uni {ι:Type} {cx:ι->Cx} {K:PySem.W.Frag} {te:DTT} (hK:∀ z,(cx z).K=K) (h:∀ z,AT (cx z) e te):∃ tc:TT,(∀ z,JT (cx z) e tc)/\mGq K tc te:=by
  have h':∀ z,∃ tc,JT (cx z) e tc/\mGq K tc te:=λ z=>by
    have q:=(h z).run
    rw [hK z] at q
    exact q
  exact ⟨λ σ H Q=>∀ z,Classical.choose (h' z) σ H Q,λ z=>(Classical.choose_spec (h' z)).1.imp λ σ H Q q=>q z,λ ρ G DQ σ H Q B q F z=>(Classical.choose_spec (h' z)).2 ρ G DQ σ H Q B q F⟩
theorem AG.uni {ι:Type} {cx:ι->Cx} {K:PySem.W.Frag} {te:DTG} (hK:∀ z,(cx z).K=K) (h:∀ z,AG (cx z) e te):∃ tc:TG,(∀ z,JG (cx z) e tc)/\lPq K tc te:=by
  have h':∀ z,∃ tc,JG (cx z) e tc/\lPq K tc te:=λ z=>by
    have q:=(h z).run
    rw [hK z] at q
    exact q
  exact ⟨λ v σ H Q=>∀ z,Classical.choose (h' z) v σ H Q,λ z=>(Classical.choose_spec (h' z)).1.imp λ v σ H Q q=>q z,λ d v ρ G DQ σ H Q B ad q F z=>(Classical.choose_spec (h' z)).2 d v ρ G DQ σ H Q B ad q F⟩
def b8q (nt:Nat) (cap:List Nat) (ρ:DSt):DSt:=List.replicate nt none++cap.map λ i=>(ρ[i]?).join
theorem b9q {nt:Nat} {cap:List Nat} {ρ:DSt} {i:Nat} {d:D} (h:(b8q nt cap ρ)[i]?=some (some d)):nt<=i:=by
  by_cases c:nt<=i
  . exact c
  . unfold b8q at h
    rw [List.getElem?_append_left (by simpa using c),List.getElem?_replicate] at h
    rw [if_pos (by omega)] at h
    cases h
theorem Bears.comp {K:PySem.W.Frag} {ρ:DSt} {G:DV} {σ:St} {H:Hp} (B:Bears K ρ G σ H) (nt:Nat) (cap:List Nat):Bears K (b8q nt cap ρ) G (b7q nt cap σ) H:=by
  refine ⟨by simp [b8q,b7q],λ i d h=>?_,B.vw⟩
  have hi:=b9q h
  unfold b8q at h
  unfold b7q
  rw [List.getElem?_append_right (by simpa using hi)] at h ⊢
  rw [List.length_replicate,List.getElem?_map] at h ⊢
  cases e:cap[i - nt]? with
  | none=>rw [e] at h;cases h
  | some k=>
    rw [e] at h
    have h':(ρ[k]?).join=some d:=by simpa using h
    have h2:ρ[k]?=some (some d):=by
      cases q:ρ[k]? with
      | none=>rw [q] at h';cases h'
      | some z=>rw [q] at h';cases z with
        | none=>cases h'
        | some y=>simp at h';rw [h']
    obtain ⟨v,h3,h4⟩:=B.st k d h2
    exact ⟨v,by simp [h3],h4⟩
def eZq (nt:Nat) (g:DTG):Prop:=∀ d ρ G Q,g d ρ G Q->g d ρ G λ ρ' G'=>Q ρ' G'/\ρ'.length=ρ.length/\∀ i,nt<=i->ρ'[i]?=ρ[i]?
theorem aTq {nt k:Nat} (h:k < nt):eZq nt (eHq k):=λ d ρ G Q q=>⟨q,by simp,λ i hi=>List.getElem?_set_ne (by omega)⟩
def WkV (P:DV->Prop):DV->Prop:=λ G=>∃ G',Sub G' G/\P G'
theorem WkV.of {P:DV->Prop} {G:DV} (h:P G):WkV P G:=⟨G,.refl _,h⟩
@[irreducible] def fDq (g:DTG) (te:DTE) (nt:Nat) (cap:List Nat) (ρ:DSt) (Q:DK) (J:DIt) (G1:DV):Prop:=J.items.length < sizeLine/\∃ P:Nat->List D->DV->Prop,P 0 [] G1/\(∀ i ds G,i<=J.items.length->P i ds G->J.held G) ∧
  (∀ (i:Nat) (d:D) (ds:List D) (G:DV),J.items[i]?=some d->P i ds G->g d (b8q nt cap ρ) G λ ρ3 G3=>te ρ3 G3 λ y G4=>WkV (P (i+1) (ds++[y])) G4)/\∀ ds G,P J.items.length ds G->∀ p,G p=none->Q (.ref p) (up G p (.lst ds))
@[irreducible] def cOq (g:DTG) (tc:DTT) (te:DTE) (nt:Nat) (cap:List Nat) (ρ:DSt) (Q:DK) (J:DIt) (G1:DV):Prop:=J.items.length < sizeLine/\∃ P:Nat->List D->DV->Prop,P 0 [] G1/\(∀ i ds G,i<=J.items.length->P i ds G->J.held G) ∧
  (∀ (i:Nat) (d:D) (ds:List D) (G:DV),J.items[i]?=some d->P i ds G->g d (b8q nt cap ρ) G λ ρ3 G3=>tc ρ3 G3 λ b G5=>Br b (te ρ3 G5 λ y G4=>WkV (P (i+1) (ds++[y])) G4) (WkV (P (i+1) ds) G5))/\∀ ds G,P J.items.length ds G->∀ p,G p=none->Q (.ref p) (up G p (.lst ds))
abbrev iYq (wi:DTI) (g:DTG) (te:DTE) (nt:Nat) (cap:List Nat):DTE:=λ ρ G Q=>wi ρ G (fDq g te nt cap ρ Q)
abbrev gHq (wi:DTI) (g:DTG) (tc:DTT) (te:DTE) (nt:Nat) (cap:List Nat):DTE:=λ ρ G Q=>wi ρ G (cOq g tc te nt cap ρ Q)
theorem bPq {g:DTG} {te:DTE} {nt:Nat} {cap:List Nat} {ρ:DSt} {Q:DK} {J:DIt} {G1:DV} (P:Nat->List D->DV->Prop) (hz:J.items.length < sizeLine) (h0:P 0 [] G1) (held:∀ i ds G,i<=J.items.length->P i ds G->J.held G)
    (turn:∀ (i:Nat) (d:D) (ds:List D) (G:DV),J.items[i]?=some d->P i ds G->g d (b8q nt cap ρ) G λ ρ3 G3=>te ρ3 G3 λ y G4=>WkV (P (i+1) (ds++[y])) G4) (done:∀ ds G,P J.items.length ds G->∀ p,G p=none->Q (.ref p) (up G p (.lst ds))):fDq g te nt cap ρ Q J G1:=by
  unfold fDq;exact ⟨hz,P,h0,held,turn,done⟩
theorem eWq {α:Type} {J:DIt} {G1:DV} {g:DTG} {tc:DTT} {te:DTE} {nt:Nat} {cap:List Nat} {ρ:DSt} {Q:DK} (xs:List α) (en:α->D) (fn:α->Option D) (he:J.items=xs.map en) (hz:xs.length < sizeLine) (held:J.held G1)
    (turn:∀ x∈xs,∀ (R:DK) (S:DV->Prop),(∀ y,fn x=some y->R y G1)->(fn x=none->S G1)->g (en x) (b8q nt cap ρ) G1 λ ρ3 G3=>tc ρ3 G3 λ b G5=>Br b (te ρ3 G5 R) (S G5)) (q:∀ p,G1 p=none->Q (.ref p) (up G1 p (.lst (xs.filterMap fn)))) :
    cOq g tc te nt cap ρ Q J G1:=by
  unfold cOq
  refine ⟨by rw [he,List.length_map];exact hz,λ i ds G=>G=G1/\ds=(xs.take i).filterMap fn,⟨rfl,rfl⟩,λ i ds G _ h=>h.1 ▸ held,?_,?_⟩
  . rintro i d ds G hd ⟨rfl,rfl⟩
    rw [he,List.getElem?_map] at hd
    cases e:xs[i]? with
    | none=>rw [e] at hd;cases hd
    | some x=>
      rw [e] at hd
      cases hd
      refine turn x (List.mem_of_getElem? e) _ _ (λ y hy=>WkV.of ⟨rfl,?_⟩) (λ hy=>WkV.of ⟨rfl,?_⟩)
      . rw [List.take_add_one,e,List.filterMap_append];simp [hy]
      . rw [List.take_add_one,e,List.filterMap_append];simp [hy]
  . rintro ds G ⟨rfl,rfl⟩ p hp
    rw [he,List.length_map,List.take_length]
    exact q p hp
theorem Vw.priv {K:PySem.W.Frag} {G:DV} {H:Hp} {acc:Addr} {ys zs:List V} (v:Vw K G H) (h:H acc=some (.lst ys)) (n:G acc=Option.none):Vw K G (upd H acc (.lst zs)):=λ a o e=>
  (v a o e).mono (aLq h) (a9q (by rintro rfl;rw [n] at e;cases e))
theorem Go.priv {K:PySem.W.Frag} {G G':DV} {H H':Hp} {acc:Addr} {ys zs:List V} (g:Go K G H G' H') (h0:H acc=none) (h:H' acc=some (.lst ys)) (n:G' acc=none):Go K G H G' (upd H' acc (.lst zs)) where
  tup:=⟨λ a xs q=>(aLq h).tp a xs (g.tup.tp a xs q),λ a xs q=>(aLq h).fr a xs (g.tup.fr a xs q),λ a o q=>(aLq (K:=K) h).fz a o (g.tup.fz a o q)⟩
  dom:=λ a o e=>by
    obtain ⟨o',e'⟩:=g.dom a o e
    exact ⟨o',by rw [a9q (aAq e h0)];exact e'⟩
  same:=λ a o e z=>by rw [a9q (aAq e h0)];exact g.same a o e z
  new:=g.new
  vw:=g.vw.priv h n
theorem Bears.priv {K:PySem.W.Frag} {ρ:DSt} {G:DV} {σ:St} {H:Hp} {acc:Addr} {ys zs:List V} (B:Bears K ρ G σ H) (h:H acc=some (.lst ys)) (n:G acc=none):Bears K ρ G σ (upd H acc (.lst zs)):=
  ⟨B.len,λ i d e=>let ⟨v,h1,h2⟩:=B.st i d e;⟨v,h1,h2.mono (aLq h)⟩,B.vw.priv h n⟩
theorem Go.held {K:PySem.W.Frag} {G G':DV} {H H':Hp} {acc:Addr} {ds:List D} {ys:List V} (g:Go K G H G' H') (h0:H acc=none) (h:H' acc=some (.lst ys)) (r:AbsL K H' ds ys):Go K G H (up G' acc (.lst ds)) H' where
  tup:=g.tup
  dom:=g.dom
  same:=g.same
  new:=λ a o e z=>by rw [aOq (aAq e h0)];exact g.new a o e z
  vw:=λ a o e=>by
    by_cases c:a=acc
    . subst c;rw [a7q] at e;cases e;exact ⟨ys,h,r⟩
    . rw [aOq c] at e;exact g.vw a o e
theorem d7q {K:PySem.W.Frag} {ci:TI} {cg:TG} {ce:TE} {wi:DTI} {g:DTG} {te:DTE} {nt:Nat} {cap:List Nat} (hk:eZq nt g)
    (ri:∀ ρ G DR σ H R,Bears K ρ G σ H->wi ρ G DR->(∀ J Jc G' H',Go K G H G' H'->lVq K J Jc G' H'->DR J G'->R Jc H')->ci σ H R) (rg:lPq K cg g) (re:jAq K ce te):jAq K (g6q ci cg ce nt cap) (iYq wi g te nt cap):=by
  intro ρ G DQ σ H Q B q F
  refine ri ρ G _ σ H _ B q λ J Jc G1 H1 g1 ok q1=>?_
  unfold fDq at q1
  obtain ⟨hsz,P,p0,held,turn,done⟩:=q1
  intro acc hacc
  have n1:=g1.vw.none hacc
  have gN:=Go.newT (o:=.lst []) g1.vw hacc
  refine ⟨λ i m ys σ' H'=>m=J.items.length - i/\i<=J.items.length/\∃ ds G',P i ds G'/\AbsL K H' ds ys/\ds.length<=i/\Bears K (b8q nt cap ρ) G' σ' H'/\Go K G1 H1 G' H'/\G' acc=none/\H' acc=some (.lst ys),
    ⟨_,rfl,Nat.zero_le _,[],G1,p0,rfl,Nat.le_refl _,((B.go g1).comp nt cap).go gN,gN,n1,aIq⟩,?_⟩
  rintro i m ys σ2 H2 ⟨rfl,hi,ds,G2,p2,r2,l2,b2,g2,n2,h2⟩
  have k2:=ok G2 H2 g2 (held i ds G2 hi p2)
  by_cases hlt:i < J.items.length
  . have hd:J.items[i]?=some J.items[i]:=by simp [hlt]
    obtain ⟨go,yl⟩:=k2.1 i _ hd
    refine .inr ⟨go,λ x H' y=>?_⟩
    obtain ⟨g3,ax⟩:=yl x H' y
    refine rg _ x _ G2 _ σ2 H' _ (b2.go g3) ax (hk _ _ _ _ (turn i _ ds G2 hd p2)) λ ρ4 G4 σ4 H4 g4 b4 ⟨q4,hl4,hs4⟩=>?_
    refine re ρ4 G4 _ σ4 H4 _ b4 q4 λ z G5 u H5 g5 az q5=>?_
    obtain ⟨G6,s6,p6⟩:=q5
    have gg:=(g3.trans g4).trans g5
    have h5:=gg.same acc _ h2 n2
    have n5:=gg.new acc _ h2 n2
    have n6:=s6.none n5
    have b5:Bears K (b8q nt cap ρ) G6 σ4 H5:=(b4.go g5).weak ⟨hl4.symm,λ j d e=>by rw [hs4 j (b9q e)];exact e⟩ s6
    refine ⟨h5,by rw [r2.len];omega,J.items.length - (i+1),by omega,rfl,hlt,ds++[z],G6,p6,((r2.mono gg.tup).append (.one az)).mono (aLq h5),by simp;omega,b5.priv h5 n6,(((g2.trans gg).sub s6)).priv hacc h5 n6,n6,aIq⟩
  . have e:i=J.items.length:=by omega
    subst e
    refine .inl ⟨k2.2 _ (Nat.le_refl _),F (.ref acc) (up G2 acc (.lst ds)) _ _ ((g1.trans g2).held ?_ h2 r2) rfl (done ds G2 p2 acc n2)⟩
    cases z:H acc with
    | none=>rfl
    | some o=>obtain ⟨o',e'⟩:=g1.dom acc o z;rw [hacc] at e';cases e'
theorem dYq {K:PySem.W.Frag} {ci:TI} {cg:TG} {cc:TT} {ce:TE} {wi:DTI} {g:DTG} {tc:DTT} {te:DTE} {nt:Nat} {cap:List Nat} (hk:eZq nt g)
    (ri:∀ ρ G DR σ H R,Bears K ρ G σ H->wi ρ G DR->(∀ J Jc G' H',Go K G H G' H'->lVq K J Jc G' H'->DR J G'->R Jc H')->ci σ H R) (rg:lPq K cg g) (rt:mGq K cc tc) (re:jAq K ce te):jAq K (dTq ci cg cc ce nt cap) (gHq wi g tc te nt cap):=by
  intro ρ G DQ σ H Q B q F
  refine ri ρ G _ σ H _ B q λ J Jc G1 H1 g1 ok q1=>?_
  unfold cOq at q1
  obtain ⟨hsz,P,p0,held,turn,done⟩:=q1
  intro acc hacc
  have n1:=g1.vw.none hacc
  have gN:=Go.newT (o:=.lst []) g1.vw hacc
  refine ⟨λ i m ys σ' H'=>m=J.items.length - i/\i<=J.items.length/\∃ ds G',P i ds G'/\AbsL K H' ds ys/\ds.length<=i/\Bears K (b8q nt cap ρ) G' σ' H'/\Go K G1 H1 G' H'/\G' acc=none/\H' acc=some (.lst ys),
    ⟨_,rfl,Nat.zero_le _,[],G1,p0,rfl,Nat.le_refl _,((B.go g1).comp nt cap).go gN,gN,n1,aIq⟩,?_⟩
  rintro i m ys σ2 H2 ⟨rfl,hi,ds,G2,p2,r2,l2,b2,g2,n2,h2⟩
  have k2:=ok G2 H2 g2 (held i ds G2 hi p2)
  by_cases hlt:i < J.items.length
  . have hd:J.items[i]?=some J.items[i]:=by simp [hlt]
    obtain ⟨go,yl⟩:=k2.1 i _ hd
    refine .inr ⟨go,λ x H' y=>?_⟩
    obtain ⟨g3,ax⟩:=yl x H' y
    refine rg _ x _ G2 _ σ2 H' _ (b2.go g3) ax (hk _ _ _ _ (turn i _ ds G2 hd p2)) λ ρ4 G4 σ4 H4 g4 b4 ⟨q4,hl4,hs4⟩=>?_
    refine rt ρ4 G4 _ σ4 H4 _ b4 q4 λ bb G7 H7 g7 q7=>?_
    cases bb with
    | true=>
      refine re ρ4 G7 _ σ4 H7 _ (b4.go g7) (q7.1 rfl) λ z G5 u H5 g5 az q5=>?_
      obtain ⟨G6,s6,p6⟩:=q5
      have gg:=((g3.trans g4).trans g7).trans g5
      have h5:=gg.same acc _ h2 n2
      have n5:=gg.new acc _ h2 n2
      have n6:=s6.none n5
      have b5:Bears K (b8q nt cap ρ) G6 σ4 H5:=((b4.go g7).go g5).weak ⟨hl4.symm,λ j d e=>by rw [hs4 j (b9q e)];exact e⟩ s6
      exact ⟨h5,by rw [r2.len];omega,J.items.length - (i+1),by omega,rfl,hlt,ds++[z],G6,p6,((r2.mono gg.tup).append (.one az)).mono (aLq h5),by simp;omega,b5.priv h5 n6,(((g2.trans gg).sub s6)).priv hacc h5 n6,n6,aIq⟩
    | false=>
      obtain ⟨G6,s6,p6⟩:=q7.2 rfl
      have gg:=(g3.trans g4).trans g7
      have h5:=gg.same acc _ h2 n2
      have n5:=gg.new acc _ h2 n2
      have n6:=s6.none n5
      have b5:Bears K (b8q nt cap ρ) G6 σ4 H7:=(b4.go g7).weak ⟨hl4.symm,λ j d e=>by rw [hs4 j (b9q e)];exact e⟩ s6
      exact ⟨J.items.length - (i+1),by omega,rfl,hlt,ds,G6,p6,r2.mono gg.tup,by omega,b5,(g2.trans gg).sub s6,n6,h5⟩
  . have e:i=J.items.length:=by omega
    subst e
    refine .inl ⟨k2.2 _ (Nat.le_refl _),F (.ref acc) (up G2 acc (.lst ds)) _ _ ((g1.trans g2).held ?_ h2 r2) rfl (done ds G2 p2 acc n2)⟩
    cases z:H acc with
    | none=>rfl
    | some o=>obtain ⟨o',e'⟩:=g1.dom acc o z;rw [hacc] at e';cases e'
theorem fUq {scope:Scope} {N':List Str} {nt:Nat} {cap:List Nat} {wi:DTI} {g:DTG} (hc:X.calm=true) (ok:CompOk X scope N' nt cap) (hk:eZq nt g) (hi:AI X tg iter wi) (hg:∀ C ex s H,AG (a3q X scope N' C ex s H) tg g) (he:∀ C ex s H,AE (a3q X scope N' C ex s H) elt te)
    (hs:∀ x,foldedSetIterable iter X.env x=pure x:=by intro _;rfl):AE X (.ListComp elt [⟨tg,iter,[],0⟩] scope pos) (iYq wi g te nt cap):=by
  obtain ⟨ci,ji,ri⟩:=hi.run
  obtain ⟨cg,jg,rg⟩:=AG.uni (ι:=Addr × List Addr × Shared × Hp) (cx:=λ z=>a3q X scope N' z.1 z.2.1 z.2.2.1 z.2.2.2) (K:=X.K) (λ _=>rfl) λ z=>hg _ _ _ _
  obtain ⟨ce,je,re⟩:=AE.uni (ι:=Addr × List Addr × Shared × Hp) (cx:=λ z=>a3q X scope N' z.1 z.2.1 z.2.2.1 z.2.2.2) (K:=X.K) (λ _=>rfl) λ z=>he _ _ _ _
  exact ⟨_,j4q hc ok ji (λ C ex s H=>jg (C,ex,s,H)) (λ C ex s H=>je (C,ex,s,H)) hs,d7q hk ri rg re⟩
theorem fRq {scope:Scope} {N':List Str} {nt:Nat} {cap:List Nat} {wi:DTI} {g:DTG} {tc:DTT} (hc:X.calm=true) (ok:CompOk X scope N' nt cap) (hk:eZq nt g) (hi:AI X tg iter wi) (hg:∀ C ex s H,AG (a3q X scope N' C ex s H) tg g) (ht:∀ C ex s H,AT (a3q X scope N' C ex s H) ct tc) (he:∀ C ex s H,AE (a3q X scope N' C ex s H) elt te)
    (hs:∀ x,foldedSetIterable iter X.env x=pure x:=by intro _;rfl):AE X (.ListComp elt [⟨tg,iter,[ct],0⟩] scope pos) (gHq wi g tc te nt cap):=by
  obtain ⟨ci,ji,ri⟩:=hi.run
  obtain ⟨cg,jg,rg⟩:=AG.uni (ι:=Addr × List Addr × Shared × Hp) (cx:=λ z=>a3q X scope N' z.1 z.2.1 z.2.2.1 z.2.2.2) (K:=X.K) (λ _=>rfl) λ z=>hg _ _ _ _
  obtain ⟨cc,jt,rt⟩:=AT.uni (ι:=Addr × List Addr × Shared × Hp) (cx:=λ z=>a3q X scope N' z.1 z.2.1 z.2.2.1 z.2.2.2) (K:=X.K) (λ _=>rfl) λ z=>ht _ _ _ _
  obtain ⟨ce,je,re⟩:=AE.uni (ι:=Addr × List Addr × Shared × Hp) (cx:=λ z=>a3q X scope N' z.1 z.2.1 z.2.2.1 z.2.2.2) (K:=X.K) (λ _=>rfl) λ z=>he _ _ _ _
  exact ⟨_,g4q hc ok ji (λ C ex s H=>jg (C,ex,s,H)) (λ C ex s H=>jt (C,ex,s,H)) (λ C ex s H=>je (C,ex,s,H)) hs,dYq hk ri rg rt re⟩
theorem cGq {scope:Scope} {N':List Str} {nt:Nat} {cap:List Nat} {wi:DTI} {g:DTG} {y:Str} {py spos:Pos} {k:Nat} (hc:X.calm=true) (hN:X.N.Nodup) (hy:X.N[k]?=some y) (hl:Loc X.env.scope y) (ok:CompOk X scope N' nt cap) (hk:eZq nt g) (hi:AI X tg iter wi) (hg:∀ C ex s H,AG (a3q X scope N' C ex s H) tg g) (he:∀ C ex s H,AE (a3q X scope N' C ex s H) elt te)
    (hs:∀ x,foldedSetIterable iter X.env x=pure x:=by intro _;rfl) (hsw:swapsWith (.ListComp elt [⟨tg,iter,[],0⟩] scope pos) (some (.Name y py)) spos.line X.env=pure true:=by rfl) (hf:X.fn y=true\/X.env.scope.names.lookup y=some .local:=by first | exact .inl rfl | exact .inr rfl | assumption) :
    AS X (.Assign [.Name y py] (.ListComp elt [⟨tg,iter,[],0⟩] scope pos) spos) (lLq (iYq wi g te nt cap) (eHq k)):=by
  obtain ⟨ci,ji,ri⟩:=hi.run
  obtain ⟨cg,jg,rg⟩:=AG.uni (ι:=Addr × List Addr × Shared × Hp) (cx:=λ z=>a3q X scope N' z.1 z.2.1 z.2.2.1 z.2.2.2) (K:=X.K) (λ _=>rfl) λ z=>hg _ _ _ _
  obtain ⟨ce,je,re⟩:=AE.uni (ι:=Addr × List Addr × Shared × Hp) (cx:=λ z=>a3q X scope N' z.1 z.2.1 z.2.2.1 z.2.2.2) (K:=X.K) (λ _=>rfl) λ z=>he _ _ _ _
  exact ⟨_,ePq hc hN hy hl ok ji (λ C ex s H=>jg (C,ex,s,H)) (λ C ex s H=>je (C,ex,s,H)) hs hsw hf,λ DD Dc ρ G σ H B q F=>d7q hk ri rg re ρ G _ σ H _ B q λ d G1 v H1 g1 a q1=>F.nx _ G1 _ H1 g1 ((B.go g1).set a k) q1⟩
structure AMt (X:Cx) (T id:String) (ty:D->DV->Prop) (r:D->List D->DV->DK->Prop):Prop where
  run:∃ rc:V->List V->Hp->VK->Prop,JMt X id rc/\(∀ x v G H,Vw X.K G H->Abs X.K H x v->ty x G->tyV X.K T v H) ∧
    ∀ x xs vx vs G H DQ Q,Vw X.K G H->Abs X.K H x vx->AbsL X.K H xs vs->r x xs G DQ->Fin X.K G H DQ Q->rc vx vs H Q
abbrev dBM (ty:D->DV->Prop) (r:D->List D->DV->DK->Prop) (to:DTE) (t:DTA):DTE:=λ ρ G Q=>to ρ G λ x G1=>ty x G1/\t ρ G1 λ xs G2=>r x xs G2 Q
theorem gIq {name:Str} {T id:String} {ty:D->DV->Prop} {r:D->List D->DV->DK->Prop} (pa:PlainAttrs T) (slot:Slot T name id) (hty:typeOf (.builtin id)=pure (.type "method_descriptor")) (hm:AMt X T id ty r) (ho:AE X o to) (ha:AA X [e] t)
    (hbase:attributeBase o name X.env (eval o X.env)=eval o X.env:=by rfl) (hline:(apos.endLine==cpos.line)=true:=by rfl) (hs:aSq e=true:=by rfl):AE X (.Call (.Attribute o name apos) [e] [] cpos) (dBM ty r to t):=by
  obtain ⟨co,jo,ro⟩:=ho.run
  obtain ⟨ca,ja,ra⟩:=ha.run
  obtain ⟨cm,jm,hy,rm⟩:=hm.run
  refine ⟨_,m1q pa slot hty jm jo ja hbase hline hs,λ ρ G DQ σ H Q B q F=>ro ρ G _ σ H _ B q λ x G1 v H1 g1 ax ⟨h1,q1⟩=>⟨hy x v G1 H1 g1.vw ax h1,?_⟩⟩
  exact ra ρ G1 _ σ H1 _ (B.go g1) q1 λ xs G2 vs H2 g2 al _ q2=>rm x xs v vs G2 H2 DQ Q g2.vw (ax.mono g2.tup) al q2 (F.after (g1.trans g2))
def lJq:D->DV->Prop:=λ x G=>match x with
  | .ref l=>onL G l λ _=>True
  | _=>False
theorem gKq {K:PySem.W.Frag} {x:D} {v:V} {G:DV} {H:Hp} (w:Vw K G H) (ax:Abs K H x v) (h:lJq x G):tyV K "list" v H:=by
  cases x with
  | ref l=>cases ax;obtain ⟨ds,vs,_,s,_⟩:=aXq w h;exact .inl ⟨rfl,vs,s⟩
  | _=>exact (show False from h).elim
def nLq:D->List D->DV->DK->Prop:=λ x xs G Q=>match x,xs with
  | .ref l,[y]=>onM G l λ ds=>ds.length < sizeLine/\Q .non (up G l (.lst (ds++[y])))
  | _,_=>False
theorem eXq:AMt X "list" "list.append" lJq nLq:=by
  refine ⟨_,⟨bCq⟩,λ x v G H w ax h=>gKq w ax h,λ x xs vx vs G H DQ Q v ax al r F=>?_⟩
  unfold nLq at r
  split at r
  . next l y=>
    cases ax
    obtain ⟨u,us,rfl,au,z⟩:=al
    cases z
    obtain ⟨ds,ws,k,e1,h1,r1⟩:=cKq v r
    exact ⟨l,ws,u,rfl,rfl,h1,by rw [r1.len];exact k.1,F .non _ _ _ (Go.setL v e1 (r1.append (.one au))) rfl k.2⟩
  . exact r.elim
abbrev DSp:=List D->DV->DK->Prop
def bDq (K:PySem.W.Frag) (dsp:DSp):Sp:=λ vs H Q _=>∃ ds G DQ,AbsL K H ds vs/\Vw K G H/\dsp ds G DQ/\Fin K G H DQ Q
abbrev mUq (dsp:DSp) (t:DTA):DTE:=λ ρ G Q=>t ρ G λ ds G1=>dsp ds G1 Q
theorem a8q {k j:Nat} {x:Str} {ps:List Str} {dsp:DSp} (Gt:Got X.prog X.w X.K X.mg X.base k x ps (bDq X.K dsp)) (hr:Room j X.A) (hk:k<=j) (hg:Gl X x) (ha:AA X (e::es) t) (hdb:(x==("__debug__" : Str))=false:=by decide)
    (hs:(e::es).all aSq=true:=by rfl):AE X (.Call (.Name x p) (e::es) [] pos) (mUq dsp t):=by
  obtain ⟨ca,ja,ra⟩:=ha.run
  exact ⟨_,m4q Gt hr hk hg ja hdb hs,λ ρ G DQ σ H Q B q F=>ra ρ G _ σ H _ B q λ ds G1 vs H1 g1 al _ q1=>⟨ds,G1,DQ,by rw [List.append_nil];exact al,g1.vw,q1,F.after g1⟩⟩
def Dr (DQ:DK):DK:=λ d G=>∃ G',Sub G' G/\DQ d G'
theorem Dr.of {DQ:DK} {d:D} {G:DV} (h:DQ d G):Dr DQ d G:=⟨G,.refl _,h⟩
def bQq (N:List Str) (ds:List D):DSt:=ds.map some++List.replicate (N.length - ds.length) none
theorem bTq {K:PySem.W.Frag} {N:List Str} {ds:List D} {vs:List V} {G:DV} {H:Hp} (r:AbsL K H ds vs) (v:Vw K G H):Bears K (bQq N ds) G (L2.b3q N vs) H:=by
  have hl:=r.len
  refine ⟨by simp [bQq,L2.b3q,hl],λ i d h=>?_,v⟩
  unfold bQq at h
  unfold L2.b3q
  by_cases c:i < ds.length
  . rw [List.getElem?_append_left (by simpa using c),List.getElem?_map] at h
    rw [List.getElem?_append_left (by simpa [hl] using c),List.getElem?_map]
    cases e:ds[i]? with
    | none=>rw [e] at h;cases h
    | some z=>
      rw [e] at h
      simp at h
      subst h
      obtain ⟨u,h1,h2⟩:=r.get e
      exact ⟨u,by rw [h1];rfl,h2⟩
  . rw [List.getElem?_append_right (by simpa using c),List.getElem?_replicate] at h
    split at h<;>cases h
theorem okD {P:Program} {w:World} {K:PySem.W.Frag} {mg:Str->Option Value} {base:Heap} {x qual:Str} {st:Stmt} {f:Addr} {fd:FuncData} {N ps:List Str} {k:Nat} {dsp:DSp} (F:Fun K x qual st f fd) (S:FnScope N ps (a2q st)) (len:∀ ds G DQ,dsp ds G DQ->ds.length=ps.length)
    (hbody:∀ (cdv:Value) (A:Around) (outer:List Env) (s:Shared) (H:Hp) (E:XK),Room k (A.deeper (PyProof.Rows.envOfC qual (a2q st) s.heap.objs.size f cdv))->∀ (ds:List D) (G:DV) (DQ:DK),dsp ds G DQ →
      ∃ t,AB (f3q CX0 P w K mg base N qual (a2q st) f cdv A outer s H E).nox (aJq st) t/\t { nx:=λ _ G'=>Dr DQ .non G',rt:=Dr DQ } (bQq N ds) G):FnOk P w K mg base CX0 (k+1) f fd ps (bDq K dsp):=by
  refine F.okJ S (λ vs H Q E h=>?_) (λ cdv A outer s H vs Q E hr h=>?_)
  . obtain ⟨ds,G,DQ,r,_,h,_⟩:=h
    rw [r.len];exact len ds G DQ h
  . obtain ⟨ds,G,DQ,r,v,h,Fn⟩:=h
    obtain ⟨t,⟨tc,j,imp⟩,q⟩:=hbody cdv A outer s H E hr ds G DQ h
    refine ⟨tc,j,imp _ _ (bQq N ds) G (L2.b3q N vs) H (bTq r v) q ⟨λ ρ' G' σ' H' g b ⟨G2,s2,q2⟩=>Fn .non G2 .non H' (g.sub s2) rfl q2,λ d G' v H' g a ⟨G2,s2,q2⟩=>Fn d G2 v H' (g.sub s2) a q2,λ _ _ _ _ _ _ z=>z.elim,λ _ _ _ _ _ _ z=>z.elim⟩⟩
end
end L3
namespace L3
open PySem PySem.Spec L2
mutual
def eqD:D->D->Bool
  | .non,.non=>true
  | .bl a,.bl b=>a==b
  | .bl a,.int b=>(if a then 1 else 0)==b
  | .int a,.bl b=>a==(if b then 1 else 0)
  | .int a,.int b=>a==b
  | .str a,.str b=>a==b
  | .tup xs,.tup ys=>dKq xs ys
  | _,_=>false
def dKq:List D->List D->Bool
  | [],[]=>true
  | x::xs,y::ys=>eqD x y&&dKq xs ys
  | _,_=>false
end
mutual
def D.data:D->Bool
  | .ref _=>false
  | .ty _=>false
  | .frl _=>false
  | .tup ds=>b4q ds
  | _=>true
def b4q:List D->Bool
  | []=>true
  | d::ds=>d.data&&b4q ds
end
mutual
def D.dp:D->Nat
  | .tup ds=>1+dRq ds
  | _=>0
def dRq:List D->Nat
  | []=>0
  | d::ds=>max d.dp (dRq ds)
end
def eqJ (ds es:List D) (j:Nat):Bool:=match ds[j]?,es[j]? with
  | some d,some e=>eqD d e
  | _,_=>false
theorem aWq:∀ (ds es:List D),((List.range (min ds.length es.length)).all (eqJ ds es)&&ds.length==es.length)=dKq ds es
  | [],[]=>by simp [dKq]
  | [],e::es=>by simp [dKq]
  | d::ds,[]=>by simp [dKq]
  | d::ds,e::es=>by
    rw [dKq,<- aWq ds es,List.length_cons,List.length_cons,Nat.succ_min_succ,List.range_succ_eq_map,List.all_cons,List.all_map]
    have h1:eqJ (d::ds) (e::es) 0=eqD d e:=rfl
    have h2:(eqJ (d::ds) (e::es) ∘ Nat.succ)=eqJ ds es:=by funext j;simp [eqJ]
    rw [h1,h2,Bool.and_assoc]
    congr 2
    rw [Bool.eq_iff_iff];simp
section
variable {X:Cx} {pins:List (Addr × Obj)} {σ:L2.St} {H:Hp} {s:Shared}
mutual
theorem j7q (I:Inv X pins σ H s):∀ {d e:D} {v:V},d.data=true->e.data=true->Abs X.K H d v->Abs X.K H e v->d=e
  | .non,e,v,_,h,a,b=>by
    cases a
    cases e<;>first | rfl | (cases b;done) | (obtain ⟨_,_,z,_⟩:=b;cases z)
  | .bl _,e,v,_,h,a,b=>by
    cases a
    cases e<;>first | (cases b;rfl) | (cases b;done) | (obtain ⟨_,_,z,_⟩:=b;cases z)
  | .int _,e,v,_,h,a,b=>by
    cases a
    cases e<;>first | (cases b;rfl) | (cases b;done) | (obtain ⟨_,_,z,_⟩:=b;cases z)
  | .str _,e,v,_,h,a,b=>by
    cases a
    cases e<;>first | (cases b;rfl) | (cases b;done) | (obtain ⟨_,_,z,_⟩:=b;cases z)
  | .ref _,_,_,h,_,_,_=>by simp [D.data] at h
  | .ty _,_,_,h,_,_,_=>by simp [D.data] at h
  | .frl _,_,_,h,_,_,_=>by simp [D.data] at h
  | .tup ds,e,v,h0,h,a,b=>by
    obtain ⟨l,vs,rfl,s1,r1⟩:=a
    cases e with
    | tup es=>
      obtain ⟨m,us,z,s2,r2⟩:=b
      cases z
      have e:=I.tuple_inj s1 s2
      subst e
      rw [cNq I (by simpa [D.data] using h0) (by simpa [D.data] using h) r1 r2]
    | ref m=>simp [D.data] at h
    | frl m=>simp [D.data] at h
    | _=>cases b
theorem cNq (I:Inv X pins σ H s):∀ {ds es:List D} {vs:List V},b4q ds=true->b4q es=true->AbsL X.K H ds vs->AbsL X.K H es vs->ds=es
  | [],[],_,_,_,_,_=>rfl
  | [],e::es,_,_,_,a,b=>by cases a;obtain ⟨_,_,z,_⟩:=b;cases z
  | d::ds,[],_,_,_,a,b=>by cases b;obtain ⟨_,_,z,_⟩:=a;cases z
  | d::ds,e::es,vs,h1,h2,⟨v,r,e1,a1,l1⟩,⟨u,q,e2,a2,l2⟩=>by
    subst e1
    cases e2
    simp only [b4q,Bool.and_eq_true] at h1 h2
    rw [j7q I h1.1 h2.1 a1 a2,cNq I h1.2 h2.2 l1 l2]
end
mutual
theorem eLq:∀ {d:D},d.data=true->eqD d d=true
  | .non,_=>rfl
  | .bl _,_=>by simp [eqD]
  | .int _,_=>by simp [eqD]
  | .str _,_=>by simp [eqD]
  | .ref _,h=>by simp [D.data] at h
  | .ty _,h=>by simp [D.data] at h
  | .frl _,h=>by simp [D.data] at h
  | .tup ds,h=>by rw [eqD];exact c0q (by simpa [D.data] using h)
theorem c0q:∀ {ds:List D},b4q ds=true->dKq ds ds=true
  | [],_=>rfl
  | d::ds,h=>by
    simp only [b4q,Bool.and_eq_true] at h
    rw [dKq,eLq h.1,c0q h.2];rfl
end
mutual
theorem mJq (I:Inv X pins σ H s):∀ (d e:D) (A:Around) (x y:V) (u v:Value),d.data=true->e.data=true->Abs X.K H d x->Abs X.K H e y->RelV x u->RelV y v->A.units+d.dp < cLine->SeqAt.EqAt A s u v (eqD d e)
  | .tup ds,e,A,x,y,u,v,hd,he,ax,ay,ru,rv,hu=>by
    obtain ⟨a,vs,rfl,s1,r1⟩:=ax
    cases ru
    obtain ⟨its,rr,t1,_⟩:=I.tuple s1
    have hu0:A.units < cLine:=by omega
    cases e with
    | non=>cases ay;cases rv;exact SeqAt.EqAt.tuple_none t1 hu0
    | bl b=>cases ay;cases rv;exact SeqAt.EqAt.tuple_bool b t1 hu0
    | int b=>cases ay;obtain ⟨t,rfl⟩:=rv;exact SeqAt.EqAt.tuple_int b t t1 hu0
    | str b=>cases ay;obtain ⟨t,rfl⟩:=rv;exact SeqAt.EqAt.tuple_str b t t1 hu0
    | ref b=>simp [D.data] at he
    | ty b=>simp [D.data] at he
    | frl b=>simp [D.data] at he
    | tup es=>
      obtain ⟨b,us,rfl,s2,r2⟩:=ay
      cases rv
      by_cases hab:a=b
      . subst hab
        have e1:=I.tuple_inj s1 s2
        subst e1
        have e2:=cNq I (by simpa [D.data] using hd) (by simpa [D.data] using he) r1 r2
        subst e2
        rw [eLq hd]
        exact SeqAt.EqAt.same _
      . obtain ⟨its2,rr2,t2,_⟩:=I.tuple s2
        have l1:=rr.length
        have l2:=rr2.length
        have l3:=r1.len
        have l4:=r2.len
        simp only [D.dp] at hu
        have z:=SeqAt.RcAt.tuples (A:=A) (e:=eqJ ds es) t1 t2 hu0 (λ j h1 h2=>by
          have q:=cAq I ds es A.in1 vs us its its2 (by simpa [D.data] using hd) (by simpa [D.data] using he) r1 r2 rr rr2 (by show A.units+1+dRq ds < cLine;omega) j (by simpa using h1) (by simpa using h2)
          simpa using q)
        have ez:((List.range (min its.toArray.size its2.toArray.size)).all (eqJ ds es)&&its.toArray.size==its2.toArray.size)=eqD (.tup ds) (.tup es):=by
          rw [List.size_toArray,List.size_toArray,<- l1,<- l2,l3,l4,aWq];rfl
        rw [ez] at z
        exact SeqAt.EqAt.of_refs hab z
  | .ref _,_,_,_,_,_,_,hd,_,_,_,_,_,_=>by simp [D.data] at hd
  | .ty _,_,_,_,_,_,_,hd,_,_,_,_,_,_=>by simp [D.data] at hd
  | .frl _,_,_,_,_,_,_,hd,_,_,_,_,_,_=>by simp [D.data] at hd
  | .non,e,A,x,y,u,v,hd,he,ax,ay,ru,rv,hu=>by
    cases ax;cases ru
    have hu0:A.units < cLine:=by omega
    cases e with
    | non=>cases ay;cases rv;exact SeqAt.EqAt.same _
    | bl b=>cases ay;cases rv;exact SeqAt.EqAt.none_bool b
    | int b=>cases ay;obtain ⟨t,rfl⟩:=rv;exact SeqAt.EqAt.none_int b t
    | str b=>cases ay;obtain ⟨t,rfl⟩:=rv;exact SeqAt.EqAt.none_str b t
    | ref b=>simp [D.data] at he
    | ty b=>simp [D.data] at he
    | frl b=>simp [D.data] at he
    | tup es=>obtain ⟨b,us,rfl,s2,r2⟩:=ay;cases rv;obtain ⟨its2,rr2,t2,_⟩:=I.tuple s2;exact SeqAt.EqAt.none_tuple t2 hu0
  | .bl a,e,A,x,y,u,v,hd,he,ax,ay,ru,rv,hu=>by
    cases ax;cases ru
    have hu0:A.units < cLine:=by omega
    cases e with
    | non=>cases ay;cases rv;exact SeqAt.EqAt.bool_none a
    | bl b=>cases ay;cases rv;exact SeqAt.EqAt.bool_bool a b
    | int b=>cases ay;obtain ⟨t,rfl⟩:=rv;exact SeqAt.EqAt.bool_int a b t
    | str b=>cases ay;obtain ⟨t,rfl⟩:=rv;exact SeqAt.EqAt.bool_str a b t
    | ref b=>simp [D.data] at he
    | ty b=>simp [D.data] at he
    | frl b=>simp [D.data] at he
    | tup es=>obtain ⟨b,us,rfl,s2,r2⟩:=ay;cases rv;obtain ⟨its2,rr2,t2,_⟩:=I.tuple s2;exact SeqAt.EqAt.bool_tuple a t2 hu0
  | .int a,e,A,x,y,u,v,hd,he,ax,ay,ru,rv,hu=>by
    cases ax;obtain ⟨t',rfl⟩:=ru
    have hu0:A.units < cLine:=by omega
    cases e with
    | non=>cases ay;cases rv;exact SeqAt.EqAt.int_none a t'
    | bl b=>cases ay;cases rv;exact SeqAt.EqAt.int_bool a t' b
    | int b=>cases ay;obtain ⟨t,rfl⟩:=rv;exact SeqAt.EqAt.int_int a t' b t
    | str b=>cases ay;obtain ⟨t,rfl⟩:=rv;exact SeqAt.EqAt.int_str a t' b t
    | ref b=>simp [D.data] at he
    | ty b=>simp [D.data] at he
    | frl b=>simp [D.data] at he
    | tup es=>obtain ⟨b,us,rfl,s2,r2⟩:=ay;cases rv;obtain ⟨its2,rr2,t2,_⟩:=I.tuple s2;exact SeqAt.EqAt.int_tuple a t' t2 hu0
  | .str a,e,A,x,y,u,v,hd,he,ax,ay,ru,rv,hu=>by
    cases ax;obtain ⟨t',rfl⟩:=ru
    have hu0:A.units < cLine:=by omega
    cases e with
    | non=>cases ay;cases rv;exact SeqAt.EqAt.str_none a t'
    | bl b=>cases ay;cases rv;exact SeqAt.EqAt.str_bool a t' b
    | int b=>cases ay;obtain ⟨t,rfl⟩:=rv;exact SeqAt.EqAt.str_int a t' b t
    | str b=>cases ay;obtain ⟨t,rfl⟩:=rv;exact SeqAt.EqAt.str_str a t' b t
    | ref b=>simp [D.data] at he
    | ty b=>simp [D.data] at he
    | frl b=>simp [D.data] at he
    | tup es=>obtain ⟨b,us,rfl,s2,r2⟩:=ay;cases rv;obtain ⟨its2,rr2,t2,_⟩:=I.tuple s2;exact SeqAt.EqAt.str_tuple a t' t2 hu0
theorem cAq (I:Inv X pins σ H s):∀ (ds es:List D) (A:Around) (vs us:List V) (its its2:List Value),b4q ds=true->b4q es=true->AbsL X.K H ds vs->AbsL X.K H es us->Vals vs its->Vals us its2->A.units+dRq ds < cLine →
    ∀ j (h1:j < its.length) (h2:j < its2.length),SeqAt.EqAt A s its[j] its2[j] (eqJ ds es j)
  | [],es,A,vs,us,its,its2,_,_,e,e',rr,rr2,_,j,h1,h2=>by
    rw [show vs=[] from e] at rr
    cases rr
    exact absurd h1 (by simp)
  | d::ds,[],A,vs,us,its,its2,_,_,e,e',rr,rr2,_,j,h1,h2=>by
    rw [show us=[] from e'] at rr2
    cases rr2
    exact absurd h2 (by simp)
  | d::ds,e0::es,A,vs,us,its,its2,hd,he,⟨v,r,e,q,t⟩,⟨v',r',e',q',t'⟩,rr,rr2,hu,j,h1,h2=>by
    subst e e'
    cases rr with
    | cons r1 rt=>
      cases rr2 with
      | cons r2 rt2=>
        simp only [dRq] at hu
        simp only [b4q,Bool.and_eq_true] at hd he
        cases j with
        | zero=>exact mJq I d e0 A _ _ _ _ hd.1 he.1 q q' r1 r2 (by omega)
        | succ j=>
          have z:=cAq I ds es A _ _ _ _ hd.2 he.2 t t' rt rt2 (by omega) j (by simpa using h1) (by simpa using h2)
          simpa [eqJ] using z
end
theorem m9q (I:Inv X pins σ H s) (d e:D) (A:Around) (x y:V) (u v:Value) (hd:d.data=true) (he:e.data=true) (ax:Abs X.K H d x) (ay:Abs X.K H e y) (ru:RelV x u) (rv:RelV y v) (hu:A.units+d.dp < cLine):SeqAt.RcAt A s u v (eqD d e):=by
  have hu0:A.units < cLine:=by omega
  cases d with
  | tup ds=>
    obtain ⟨a,vs,rfl,s1,r1⟩:=ax
    cases ru
    obtain ⟨its,rr,t1,_⟩:=I.tuple s1
    cases e with
    | non=>cases ay;cases rv;exact SeqAt.RcAt.tuple_none t1 hu0
    | bl b=>cases ay;cases rv;exact SeqAt.RcAt.tuple_bool b t1 hu0
    | int b=>cases ay;obtain ⟨t,rfl⟩:=rv;exact SeqAt.RcAt.tuple_int b t t1 hu0
    | str b=>cases ay;obtain ⟨t,rfl⟩:=rv;exact SeqAt.RcAt.tuple_str b t t1 hu0
    | ref b=>simp [D.data] at he
    | ty b=>simp [D.data] at he
    | frl b=>simp [D.data] at he
    | tup es=>
      obtain ⟨b,us,rfl,s2,r2⟩:=ay
      cases rv
      obtain ⟨its2,rr2,t2,_⟩:=I.tuple s2
      have l1:=rr.length
      have l2:=rr2.length
      have l3:=r1.len
      have l4:=r2.len
      simp only [D.dp] at hu
      have z:=SeqAt.RcAt.tuples (A:=A) (e:=eqJ ds es) t1 t2 hu0 (λ j h1 h2=>by
        have q:=cAq I ds es A.in1 vs us its its2 (by simpa [D.data] using hd) (by simpa [D.data] using he) r1 r2 rr rr2 (by show A.units+1+dRq ds < cLine;omega) j (by simpa using h1) (by simpa using h2)
        simpa using q)
      have ez:((List.range (min its.toArray.size its2.toArray.size)).all (eqJ ds es)&&its.toArray.size==its2.toArray.size)=eqD (.tup ds) (.tup es):=by
        rw [List.size_toArray,List.size_toArray,<- l1,<- l2,l3,l4,aWq];rfl
      rw [ez] at z
      exact z
  | ref a=>simp [D.data] at hd
  | ty a=>simp [D.data] at hd
  | frl a=>simp [D.data] at hd
  | non=>
    cases ax;cases ru
    cases e with
    | non=>cases ay;cases rv;exact SeqAt.RcAt.none_none
    | bl b=>cases ay;cases rv;exact SeqAt.RcAt.none_bool b
    | int b=>cases ay;obtain ⟨t,rfl⟩:=rv;exact SeqAt.RcAt.none_int b t
    | str b=>cases ay;obtain ⟨t,rfl⟩:=rv;exact SeqAt.RcAt.none_str b t
    | ref b=>simp [D.data] at he
    | ty b=>simp [D.data] at he
    | frl b=>simp [D.data] at he
    | tup es=>obtain ⟨b,us,rfl,s2,r2⟩:=ay;cases rv;obtain ⟨its2,rr2,t2,_⟩:=I.tuple s2;exact SeqAt.RcAt.none_tuple t2 hu0
  | bl a=>
    cases ax;cases ru
    cases e with
    | non=>cases ay;cases rv;exact SeqAt.RcAt.bool_none a
    | bl b=>cases ay;cases rv;exact SeqAt.RcAt.bool_bool a b
    | int b=>cases ay;obtain ⟨t,rfl⟩:=rv;exact SeqAt.RcAt.bool_int a b t
    | str b=>cases ay;obtain ⟨t,rfl⟩:=rv;exact SeqAt.RcAt.bool_str a b t
    | ref b=>simp [D.data] at he
    | ty b=>simp [D.data] at he
    | frl b=>simp [D.data] at he
    | tup es=>obtain ⟨b,us,rfl,s2,r2⟩:=ay;cases rv;obtain ⟨its2,rr2,t2,_⟩:=I.tuple s2;exact SeqAt.RcAt.bool_tuple a t2 hu0
  | int a=>
    cases ax;obtain ⟨t',rfl⟩:=ru
    cases e with
    | non=>cases ay;cases rv;exact SeqAt.RcAt.int_none a t'
    | bl b=>cases ay;cases rv;exact SeqAt.RcAt.int_bool a t' b
    | int b=>cases ay;obtain ⟨t,rfl⟩:=rv;exact SeqAt.RcAt.int_int a t' b t
    | str b=>cases ay;obtain ⟨t,rfl⟩:=rv;exact SeqAt.RcAt.int_str a t' b t
    | ref b=>simp [D.data] at he
    | ty b=>simp [D.data] at he
    | frl b=>simp [D.data] at he
    | tup es=>obtain ⟨b,us,rfl,s2,r2⟩:=ay;cases rv;obtain ⟨its2,rr2,t2,_⟩:=I.tuple s2;exact SeqAt.RcAt.int_tuple a t' t2 hu0
  | str a=>
    cases ax;obtain ⟨t',rfl⟩:=ru
    cases e with
    | non=>cases ay;cases rv;exact SeqAt.RcAt.str_none a t'
    | bl b=>cases ay;cases rv;exact SeqAt.RcAt.str_bool a t' b
    | int b=>cases ay;obtain ⟨t,rfl⟩:=rv;exact SeqAt.RcAt.str_int a t' b t
    | str b=>cases ay;obtain ⟨t,rfl⟩:=rv;exact SeqAt.RcAt.str_str a t' b t
    | ref b=>simp [D.data] at he
    | ty b=>simp [D.data] at he
    | frl b=>simp [D.data] at he
    | tup es=>obtain ⟨b,us,rfl,s2,r2⟩:=ay;cases rv;obtain ⟨its2,rr2,t2,_⟩:=I.tuple s2;exact SeqAt.RcAt.str_tuple a t' t2 hu0
end
end L3
namespace L3
open PySem PySem.Spec L2
section
variable {X:Cx} {pins:List (Addr × Obj)} {σ:L2.St} {H:Hp} {s:Shared}
theorem mDq (I:Inv X pins σ H s) (d e:D) (A:Around) (x y:V) (u v:Value) (hd:d.data=true) (he:e.data=true) (ax:Abs X.K H d x) (ay:Abs X.K H e y) (ru:RelV x u) (rv:RelV y v) (hu:A.units+d.dp < cLine):SeqAt.RcNeAt A s u v (!eqD d e):=by
  have hu0:A.units < cLine:=by omega
  cases d with
  | tup ds=>
    obtain ⟨a,vs,rfl,s1,r1⟩:=ax
    cases ru
    obtain ⟨its,rr,t1,_⟩:=I.tuple s1
    cases e with
    | non=>cases ay;cases rv;exact SeqAt.RcNeAt.tuple_none t1 hu0
    | bl b=>cases ay;cases rv;exact SeqAt.RcNeAt.tuple_bool b t1 hu0
    | int b=>cases ay;obtain ⟨t,rfl⟩:=rv;exact SeqAt.RcNeAt.tuple_int b t t1 hu0
    | str b=>cases ay;obtain ⟨t,rfl⟩:=rv;exact SeqAt.RcNeAt.tuple_str b t t1 hu0
    | ref b=>simp [D.data] at he
    | ty b=>simp [D.data] at he
    | frl b=>simp [D.data] at he
    | tup es=>
      obtain ⟨b,us,rfl,s2,r2⟩:=ay
      cases rv
      obtain ⟨its2,rr2,t2,_⟩:=I.tuple s2
      have l1:=rr.length
      have l2:=rr2.length
      have l3:=r1.len
      have l4:=r2.len
      simp only [D.dp] at hu
      have z:=SeqAt.RcNeAt.tuples (A:=A) (e:=eqJ ds es) t1 t2 hu0 (λ j h1 h2=>by
        have q:=cAq I ds es A.in1 vs us its its2 (by simpa [D.data] using hd) (by simpa [D.data] using he) r1 r2 rr rr2 (by show A.units+1+dRq ds < cLine;omega) j (by simpa using h1) (by simpa using h2)
        simpa using q)
      have ez:((List.range (min its.toArray.size its2.toArray.size)).all (eqJ ds es)&&its.toArray.size==its2.toArray.size)=eqD (.tup ds) (.tup es):=by
        rw [List.size_toArray,List.size_toArray,<- l1,<- l2,l3,l4,aWq];rfl
      rw [ez] at z
      exact z
  | ref a=>simp [D.data] at hd
  | ty a=>simp [D.data] at hd
  | frl a=>simp [D.data] at hd
  | non=>
    cases ax;cases ru
    cases e with
    | non=>cases ay;cases rv;exact SeqAt.RcNeAt.none_none
    | bl b=>cases ay;cases rv;exact SeqAt.RcNeAt.none_bool b
    | int b=>cases ay;obtain ⟨t,rfl⟩:=rv;exact SeqAt.RcNeAt.none_int b t
    | str b=>cases ay;obtain ⟨t,rfl⟩:=rv;exact SeqAt.RcNeAt.none_str b t
    | ref b=>simp [D.data] at he
    | ty b=>simp [D.data] at he
    | frl b=>simp [D.data] at he
    | tup es=>obtain ⟨b,us,rfl,s2,r2⟩:=ay;cases rv;obtain ⟨its2,rr2,t2,_⟩:=I.tuple s2;exact SeqAt.RcNeAt.none_tuple t2 hu0
  | bl a=>
    cases ax;cases ru
    cases e with
    | non=>cases ay;cases rv;exact SeqAt.RcNeAt.bool_none a
    | bl b=>cases ay;cases rv;exact SeqAt.RcNeAt.bool_bool a b
    | int b=>cases ay;obtain ⟨t,rfl⟩:=rv;exact SeqAt.RcNeAt.bool_int a b t
    | str b=>cases ay;obtain ⟨t,rfl⟩:=rv;exact SeqAt.RcNeAt.bool_str a b t
    | ref b=>simp [D.data] at he
    | ty b=>simp [D.data] at he
    | frl b=>simp [D.data] at he
    | tup es=>obtain ⟨b,us,rfl,s2,r2⟩:=ay;cases rv;obtain ⟨its2,rr2,t2,_⟩:=I.tuple s2;exact SeqAt.RcNeAt.bool_tuple a t2 hu0
  | int a=>
    cases ax;obtain ⟨t',rfl⟩:=ru
    cases e with
    | non=>cases ay;cases rv;exact SeqAt.RcNeAt.int_none a t'
    | bl b=>cases ay;cases rv;exact SeqAt.RcNeAt.int_bool a t' b
    | int b=>cases ay;obtain ⟨t,rfl⟩:=rv;exact SeqAt.RcNeAt.int_int a t' b t
    | str b=>cases ay;obtain ⟨t,rfl⟩:=rv;exact SeqAt.RcNeAt.int_str a t' b t
    | ref b=>simp [D.data] at he
    | ty b=>simp [D.data] at he
    | frl b=>simp [D.data] at he
    | tup es=>obtain ⟨b,us,rfl,s2,r2⟩:=ay;cases rv;obtain ⟨its2,rr2,t2,_⟩:=I.tuple s2;exact SeqAt.RcNeAt.int_tuple a t' t2 hu0
  | str a=>
    cases ax;obtain ⟨t',rfl⟩:=ru
    cases e with
    | non=>cases ay;cases rv;exact SeqAt.RcNeAt.str_none a t'
    | bl b=>cases ay;cases rv;exact SeqAt.RcNeAt.str_bool a t' b
    | int b=>cases ay;obtain ⟨t,rfl⟩:=rv;exact SeqAt.RcNeAt.str_int a t' b t
    | str b=>cases ay;obtain ⟨t,rfl⟩:=rv;exact SeqAt.RcNeAt.str_str a t' b t
    | ref b=>simp [D.data] at he
    | ty b=>simp [D.data] at he
    | frl b=>simp [D.data] at he
    | tup es=>obtain ⟨b,us,rfl,s2,r2⟩:=ay;cases rv;obtain ⟨its2,rr2,t2,_⟩:=I.tuple s2;exact SeqAt.RcNeAt.str_tuple a t' t2 hu0
end
end L3
namespace L3
open PySem PySem.Spec L2
section
variable {X:Cx} {a b c e o i tg iter:Expr} {es:List Expr} {ta tb te to ti tc:DTE} {t:DTA} {pos p apos cpos:Pos}
theorem gMq {A:Around} {k:Nat} (hr:Room k A):A.units+200 < cLine:=by have:=hr.un;omega
def lRq (K:PySem.W.Frag) (f:Bool->Bool):R2:=λ x y H Q=>∃ d e,Abs K H d x/\Abs K H e y/\d.data=true/\e.data=true/\d.dp<=150/\Q (.bl (f (eqD d e))) H
def i3q (K:PySem.W.Frag) (f:Bool->Bool):R2:=λ x y H Q=>∃ l m vs us ds es,x=.ref l/\y=.ref m/\SqL K H l vs/\SqL K H m us/\AbsL K H ds vs/\AbsL K H es us/\b4q ds=true/\b4q es=true/\dRq ds<=150/\Q (.bl (f (dKq ds es))) H
theorem k4q (hu:X.A.units+200 < cLine):OpR X (compareOp .Eq) (lRq X.K id):=by
  intro pins s σ H x y v u Q I rx ry h
  obtain ⟨d,e,ax,ay,hd,he,hz,q⟩:=h
  exact m9q I d e X.A x y v u hd he ax ay rx ry (by omega) X.prog X.w X.xe _ ⟨.bl _,H,I,rfl,q⟩
theorem kPq (hu:X.A.units+200 < cLine):OpR X (compareOp .NotEq) (lRq X.K (!·)):=by
  intro pins s σ H x y v u Q I rx ry h
  obtain ⟨d,e,ax,ay,hd,he,hz,q⟩:=h
  exact mDq I d e X.A x y v u hd he ax ay rx ry (by omega) X.prog X.w X.xe _ ⟨.bl _,H,I,rfl,q⟩
theorem cVq:∀ {ds es:List D},ds.length≠es.length->dKq ds es=false
  | [],[],h=>absurd rfl h
  | [],_::_,_=>rfl
  | _::_,[],_=>rfl
  | d::ds,e::es,h=>by rw [dKq,cVq (by simpa using h),Bool.and_false]
theorem eOq {ds es:List D} (h:ds.length=es.length):(List.range ds.length).all (eqJ ds es)=dKq ds es:=by
  rw [<- aWq,<- h,Nat.min_self];simp
theorem j3q (hu:X.A.units+200 < cLine):OpR X (compareOp .Eq) (i3q X.K id):=by
  intro pins s σ H x y v u Q I rx ry h
  obtain ⟨l,m,vs,us,ds,es,rfl,rfl,s1,s2,r1,r2,hd,he,hz,q⟩:=h
  cases rx;cases ry
  obtain ⟨its,rr,t1,_⟩:=I.list s1
  obtain ⟨its2,rr2,t2,_⟩:=I.list s2
  have l1:=rr.length
  have l2:=rr2.length
  have l3:=r1.len
  have l4:=r2.len
  by_cases hl:ds.length=es.length
  . refine SeqAt.RcAt.lists (e:=eqJ ds es) t1.isList t2.isList (by rw [List.size_toArray,List.size_toArray];omega) (by omega) (λ j h1 h2=>?_) X.prog X.w X.xe _ ⟨.bl _,H,I,?_,q⟩
    . have q:=cAq I ds es X.A.in1 vs us its its2 hd he r1 r2 rr rr2 (by show X.A.units+1+dRq ds < cLine;omega) j (by simpa using h1) (by simpa using h2)
      simpa using q
    . show Value.bool _=Value.bool _
      rw [List.size_toArray,<- l1,l3,eOq hl];rfl
  . refine SeqAt.RcAt.lists_lengths t1.isList t2.isList (by rw [List.size_toArray,List.size_toArray];simp;omega) (by omega) X.prog X.w X.xe _ ⟨.bl _,H,I,?_,q⟩
    rw [cVq hl];rfl
theorem j5q (hu:X.A.units+200 < cLine):OpR X (compareOp .NotEq) (i3q X.K (!·)):=by
  intro pins s σ H x y v u Q I rx ry h
  obtain ⟨l,m,vs,us,ds,es,rfl,rfl,s1,s2,r1,r2,hd,he,hz,q⟩:=h
  cases rx;cases ry
  obtain ⟨its,rr,t1,_⟩:=I.list s1
  obtain ⟨its2,rr2,t2,_⟩:=I.list s2
  have l1:=rr.length
  have l2:=rr2.length
  have l3:=r1.len
  have l4:=r2.len
  by_cases hl:ds.length=es.length
  . refine SeqAt.RcNeAt.lists (e:=eqJ ds es) t1.isList t2.isList (by rw [List.size_toArray,List.size_toArray];omega) (by omega) (λ j h1 h2=>?_) X.prog X.w X.xe _ ⟨.bl _,H,I,?_,q⟩
    . have q:=cAq I ds es X.A.in1 vs us its its2 hd he r1 r2 rr rr2 (by show X.A.units+1+dRq ds < cLine;omega) j (by simpa using h1) (by simpa using h2)
      simpa using q
    . show Value.bool _=Value.bool _
      rw [List.size_toArray,<- l1,l3,eOq hl]
  . refine SeqAt.RcNeAt.lists_lengths t1.isList t2.isList (by rw [List.size_toArray,List.size_toArray];simp;omega) (by omega) X.prog X.w X.xe _ ⟨.bl _,H,I,?_,q⟩
    rw [cVq hl];rfl
def eqR (f:Bool->Bool):DR2:=λ x y G Q=>match x,y with
  | .int i,.int j=>Q (.bl (f (i==j))) G
  | .str i,.str j=>Q (.bl (f (i==j))) G
  | .tup _,.str _=>Q (.bl (f false)) G
  | .str _,.tup _=>Q (.bl (f false)) G
  | .ref l,.ref m=>onL G l λ ds=>onL G m λ es=>b4q ds=true/\b4q es=true/\dRq ds<=150/\Q (.bl (f (dKq ds es))) G
  | x,y=>x.data=true/\y.data=true/\x.dp<=150/\Q (.bl (f (eqD x y))) G
theorem hJq {f:Bool->Bool} {x y:D} {G:DV} {Q:DK} (hx:x.data=true) (hy:y.data=true) (hd:x.dp<=150) (q:Q (.bl (f (eqD x y))) G):eqR f x y G Q:=by
  cases x<;>cases y<;>first | exact q | exact ⟨hx,hy,hd,q⟩ | (simp [D.data] at hx;done) | (simp [D.data] at hy;done)
def rTS (K:PySem.W.Frag) (f:Bool->Bool):R2:=λ x y H Q=>(∃ a vs z,x=.ref a/\SqT K H a vs/\y=.str z/\Q (.bl (f false)) H)\/∃ a vs z,y=.ref a/\SqT K H a vs/\x=.str z/\Q (.bl (f false)) H
theorem i6q (hu:X.A.units+200 < cLine):OpR X (compareOp .Eq) (rTS X.K id):=by
  intro pins s σ H x y v u Q I rx ry h
  rcases h with ⟨a,vs,z,rfl,sq,rfl,q⟩ | ⟨a,vs,z,rfl,sq,rfl,q⟩
  . cases rx;obtain ⟨t,rfl⟩:=ry
    obtain ⟨its,rr,t1,_⟩:=I.tuple sq
    exact SeqAt.RcAt.tuple_str z t t1 (by omega) X.prog X.w X.xe _ ⟨.bl false,H,I,rfl,q⟩
  . cases ry;obtain ⟨t,rfl⟩:=rx
    obtain ⟨its,rr,t1,_⟩:=I.tuple sq
    exact SeqAt.RcAt.str_tuple z t t1 (by omega) X.prog X.w X.xe _ ⟨.bl false,H,I,rfl,q⟩
theorem i0q (hu:X.A.units+200 < cLine):OpR X (compareOp .NotEq) (rTS X.K (!·)):=by
  intro pins s σ H x y v u Q I rx ry h
  rcases h with ⟨a,vs,z,rfl,sq,rfl,q⟩ | ⟨a,vs,z,rfl,sq,rfl,q⟩
  . cases rx;obtain ⟨t,rfl⟩:=ry
    obtain ⟨its,rr,t1,_⟩:=I.tuple sq
    exact SeqAt.RcNeAt.tuple_str z t t1 (by omega) X.prog X.w X.xe _ ⟨.bl true,H,I,rfl,q⟩
  . cases ry;obtain ⟨t,rfl⟩:=rx
    obtain ⟨its,rr,t1,_⟩:=I.tuple sq
    exact SeqAt.RcNeAt.str_tuple z t t1 (by omega) X.prog X.w X.xe _ ⟨.bl true,H,I,rfl,q⟩
theorem hKq {f:Bool->Bool} {op:CmpOp} (h1:OpR X (compareOp op) (lRq X.K f)) (h2:OpR X (compareOp op) (i3q X.K f)) (h3:OpR X (compareOp op) (rTS X.K f)):AOp X (compareOp op) (eqR f):=by
  refine ⟨_,⟨h1.or (h2.or h3)⟩,λ x y vx vy G H DQ Q v ax ay r F=>?_⟩
  have fin:∀ b:Bool,DQ (.bl b) G->Q (.bl b) H:=λ b q=>F (.bl b) G _ H (.refl v) rfl q
  have gen:x.data=true/\y.data=true/\x.dp<=150/\DQ (.bl (f (eqD x y))) G->lRq X.K f vx vy H Q:=λ⟨z1,z2,z3,z4⟩=>⟨x,y,ax,ay,z1,z2,z3,fin _ z4⟩
  unfold eqR at r
  split at r
  . exact .inl (gen ⟨rfl,rfl,Nat.zero_le _,r⟩)
  . exact .inl (gen ⟨rfl,rfl,Nat.zero_le _,r⟩)
  . obtain ⟨l,vs,rfl,s1,_⟩:=ax
    cases ay
    exact .inr (.inr (.inl ⟨l,vs,_,rfl,s1,rfl,fin _ r⟩))
  . obtain ⟨l,vs,rfl,s1,_⟩:=ay
    cases ax
    exact .inr (.inr (.inr ⟨l,vs,_,rfl,s1,rfl,fin _ r⟩))
  . cases ax;cases ay
    obtain ⟨ds,vs,k1,s1,r1⟩:=aXq v r
    obtain ⟨es,us,⟨z1,z2,z3,k2⟩,s2,r2⟩:=aXq v k1
    exact .inr (.inl ⟨_,_,vs,us,ds,es,rfl,rfl,s1,s2,r1,r2,z1,z2,z3,fin _ k2⟩)
  . exact .inl (gen r)
theorem hRq (hu:X.A.units+200 < cLine):AOp X (compareOp .Eq) (eqR id):=hKq (k4q hu) (j3q hu) (i6q hu)
theorem hBq (hu:X.A.units+200 < cLine):AOp X (compareOp .NotEq) (eqR (!·)):=hKq (kPq hu) (j5q hu) (i0q hu)
def g5q (sc:Scope) (N:List Str) (scope:Scope) (N':List Str) (nt:Nat) (cap:List Nat):Bool:=
  scope.names.all (λ y=>y.2 !=.cell)&&scope.names.all (λ y=>y.2 !=.local||scope.names.lookup y.1==some .local) &&
  scope.names.all (λ y=>y.2 !=.free||(sc.names.lookup y.1==some .cell||sc.names.lookup y.1==some .free))&&N'.length==nt+cap.length &&
  (List.range cap.length).all λ j=>match cap[j]?,N'[nt+j]? with
    | some i,some x=>N[i]?==some x&&scope.names.lookup x==some .free
    | _,_=>true
theorem CompOk.of {scope:Scope} {N':List Str} {nt:Nat} {cap:List Nat} (hk:scope.kind=.function) (h:g5q X.env.scope X.N scope N' nt cap=true):CompOk X scope N' nt cap:=by
  unfold g5q at h
  simp only [Bool.and_eq_true,List.all_eq_true] at h
  obtain ⟨⟨⟨⟨h1,h2⟩,h3⟩,h4⟩,h5⟩:=h
  refine ⟨hk,λ y hy=>by simpa using h1 y hy,λ y hy e=>?_,λ y hy e=>?_,by simpa using h4,λ j i x hj hx=>?_⟩
  . have z:=h2 y hy
    rw [e] at z
    simpa using z
  . have z:=h3 y hy
    rw [e] at z
    simpa using z
  . have lt:j < cap.length:=by
      rcases Nat.lt_or_ge j cap.length with z | z
      . exact z
      . rw [List.getElem?_eq_none z] at hj;cases hj
    have z:=h5 j (List.mem_range.mpr lt)
    rw [hj,hx] at z
    simpa using z
abbrev mAq (to ti:DTE):DTG:=λ d ρ G Q=>to ρ G λ x G1=>ti ρ G1 λ y G2=>match x,y with
  | .ref l,.int k=>onM G2 l λ ds=>∃ j,ixN ds.length k=some j/\Q ρ (up G2 l (.lst (ds.set j d)))
  | _,_=>False
theorem g7q (ho:AE X o to) (hi:AE X i ti) (ha:∀ v,assign (.Subscript o i pos) X.env v=(do
      let ov ← holding [v] (eval o X.env)
      let iv ← holding [v,ov] (eval i X.env)
      standAt pos
      holding [v,ov,iv] (setItem ov iv v)
      release [v,ov,iv] []):=by intro _;rfl):AG X (.Subscript o i pos) (mAq to ti):=by
  obtain ⟨co,jo,ro⟩:=ho.run
  obtain ⟨ci,ji,ri⟩:=hi.run
  refine ⟨_,jRq jo ji ⟨h4q⟩ ha,λ d v ρ G DQ σ H Q B ad q F=>ro ρ G _ σ H _ B q λ x G1 vx H1 g1 ax q1=>ri ρ G1 _ σ H1 _ (B.go g1) q1 λ y G2 vy H2 g2 ay q2=>?_⟩
  split at q2
  . next l k=>
    cases ax;cases ay
    obtain ⟨ds,vs,⟨j,hj,q3⟩,e1,h1,r1⟩:=cKq g2.vw q2
    have ad2:=(ad.mono g1.tup).mono g2.tup
    have g3:=Go.setL g2.vw e1 (r1.set ad2 j)
    have gg:=(g1.trans g2).trans g3
    exact ⟨l,vs,k,j,rfl,rfl,h1,by rw [r1.len];exact hj,F ρ _ σ _ gg (B.go gg) q3⟩
  . exact q2.elim
def tyN (x:D) (G:DV) (k:String->Prop):Prop:=match x with
  | .non=>k "NoneType"
  | .bl _=>k "bool"
  | .int _=>k "int"
  | .str _=>k "str"
  | .tup _=>k "tuple"
  | .ref l=>onL G l λ _=>k "list"
  | _=>False
def n2q (t T:String):Option Bool:=
  if (t = "NoneType"\/t = "bool"\/t = "int"\/t = "str"\/t = "tuple"\/t = "list")/\(T = "bool"\/T = "int"\/T = "str"\/T = "tuple"\/T = "list") then some (decide (t=T)||(decide (t = "bool")&&decide (T = "int"))) else none
theorem b5q {K:PySem.W.Frag} {t T:String} {b:Bool} (h:n2q t T=some b):PySem.W.kitOne K (.type t) (.type T)=some b:=by
  unfold n2q at h
  split at h
  . next c=>
    obtain ⟨c1,c2⟩:=c
    rcases c1 with rfl | rfl | rfl | rfl | rfl | rfl<;>rcases c2 with rfl | rfl | rfl | rfl | rfl<;>(simp at h;subst h;first | rfl | exact kit_other rfl (by decide))
  . cases h
def o6q (K:PySem.W.Frag):List V->Hp->VK->Prop:=λ xs H Q=>∃ x T t b,xs=[x,.ty T]/\((TyOf K H x (.type t))\/(t = "tuple"/\∃ a vs,x=.ref a/\SqT K H a vs)\/(t = "list"/\∃ a vs,x=.ref a/\SqL K H a vs))/\PySem.W.kitOne K (.type t) (.type T)=some b/\Q (.bl b) H
theorem fEq:CallR X (.builtin "isinstance") (o6q X.K):=by
  intro pins s σ H xs us Q I r h
  obtain ⟨x,T,t,b,rfl,ty,hk,hQ⟩:=h
  obtain ⟨u,v,rfl,ru,rv⟩:=Vals.two r
  cases rv
  rcases ty with ty | ⟨rfl,a,vs,rfl,sq⟩ | ⟨rfl,a,vs,rfl,sq⟩
  . exact g9q I ru ty hk λ tk=>⟨.bl b,H,I.tok tk,rfl,hQ⟩
  . cases ru
    obtain ⟨its,_,⟨o,h1,h2,_⟩,_⟩:=I.tuple sq
    exact PySem.W.kia_one PySem.W.kitx_tuple I.kIn ⟨o,h1,h2⟩ hk (λ z=>nomatch z) λ tk=>⟨.bl b,H,I.tok tk,rfl,hQ⟩
  . cases ru
    obtain ⟨its,_,⟨o,n,h1,h2,_⟩,_⟩:=I.list sq
    exact PySem.W.kia_one PySem.W.kitx_list I.kIn ⟨o,h1,h2⟩ hk (λ z=>nomatch z) λ tk=>⟨.bl b,H,I.tok tk,rfl,hQ⟩
def o4q:D->D->DV->DK->Prop:=λ x y G Q=>match y with
  | .ty T=>tyN x G λ t=>∃ b,n2q t T=some b/\Q (.bl b) G
  | _=>False
theorem dGq:ACall X (.builtin "isinstance") (lNq o4q):=by
  refine ⟨_,⟨fEq⟩,λ xs vs G H DQ Q v a r F=>?_⟩
  obtain ⟨x,y,u,w,rfl,rfl,ax,ay,r⟩:=e5q r a
  cases y with
  | ty T=>
    cases ay
    cases x with
    | non=>cases ax;obtain ⟨b,hb,q⟩:=r;exact ⟨_,T,_,b,rfl,.inl .non,b5q hb,F (.bl b) G _ H (.refl v) rfl q⟩
    | bl z=>cases ax;obtain ⟨b,hb,q⟩:=r;exact ⟨_,T,_,b,rfl,.inl (.bl z),b5q hb,F (.bl b) G _ H (.refl v) rfl q⟩
    | int z=>cases ax;obtain ⟨b,hb,q⟩:=r;exact ⟨_,T,_,b,rfl,.inl (.int z),b5q hb,F (.bl b) G _ H (.refl v) rfl q⟩
    | str z=>cases ax;obtain ⟨b,hb,q⟩:=r;exact ⟨_,T,_,b,rfl,.inl (.str z),b5q hb,F (.bl b) G _ H (.refl v) rfl q⟩
    | tup ds=>obtain ⟨l,ws,rfl,s,_⟩:=ax;obtain ⟨b,hb,q⟩:=r;exact ⟨_,T,"tuple", b,rfl,.inr (.inl ⟨rfl,l,ws,rfl,s⟩),b5q hb,F (.bl b) G _ H (.refl v) rfl q⟩
    | ref l=>
      cases ax
      obtain ⟨ds,ws,⟨b,hb,q⟩,s,_⟩:=aXq v r
      exact ⟨_,T,"list", b,rfl,.inr (.inr ⟨rfl,l,ws,rfl,s⟩),b5q hb,F (.bl b) G _ H (.refl v) rfl q⟩
    | ty z=>exact (show False from r).elim
    | frl z=>exact (show False from r).elim
  | _=>exact (show False from r).elim
end
end L3
namespace L3
open PySem PyProof L2
open PySem.MeetsSeq
theorem cXq {K:PySem.W.Frag} {H:Hp}:∀ ws:List Str,AbsL K H (ws.map D.str) (ws.map V.str)
  | []=>rfl
  | w::ws=>⟨_,_,rfl,rfl,cXq ws⟩
section
variable {X:Cx}
variable {e:Expr} {t:DTA} {pos apos cpos:Pos}
end
abbrev fed (x y:Int):DO:=.lst [.int x,.int y]
def Fd (G:DV) (a:Addr):Prop:=∃ x y,G a=some (fed x y)
theorem Fd.up {G:DV} {a:Addr} {x y:Int}:Fd (up G a (fed x y)) a:=⟨x,y,a7q⟩
theorem Fd.new {G:DV} {a l:Addr} {o:DO} (h:Fd G a) (n:G l=none):Fd (L3.up G l o) a:=by
  obtain ⟨x,y,e⟩:=h
  exact ⟨x,y,by rw [aOq (by rintro rfl;rw [n] at e;cases e)];exact e⟩
theorem Fd.ne {G:DV} {a l:Addr} (h:Fd G a) (n:G l=none):l≠a:=by
  obtain ⟨x,y,e⟩:=h
  rintro rfl
  rw [n] at e;cases e
theorem k5q {G:DV} {a l:Addr} {f o:DO} (n:up G a f l=none):up (up G a f) l o=up (up G l o) a f/\G l=none/\l≠a:=by
  have ne:l≠a:=by rintro rfl;rw [a7q] at n;cases n
  exact ⟨iOq (Ne.symm ne),by rw [aOq ne] at n;exact n,ne⟩
theorem Sub.new {G G1:DV} {p:Addr} {o:DO} (h:Sub G G1) (n:G p=Option.none):Sub G (up G1 p o):=λ b u e=>by
  rw [aOq (by rintro rfl;rw [n] at e;cases e)];exact h b u e
theorem Sub.put {G G1:DV} {a:Addr} {o:DO} (h:Sub G G1):Sub (up G a o) (up G1 a o):=λ b u e=>by
  by_cases c:b=a
  . subst c;rw [a7q] at e ⊢;exact e
  . rw [aOq c] at e ⊢;exact h b u e
def Fx (a:Addr) (G G':DV):Prop:=∃ x y,G'=up G a (fed x y)
theorem Fx.mk {a:Addr} {G:DV} {x y:Int}:Fx a G (up G a (fed x y)):=⟨x,y,rfl⟩
theorem Fx.trans {a:Addr} {G G1 G2:DV} (h:Fx a G G1) (k:Fx a G1 G2):Fx a G G2:=by
  obtain ⟨x,y,rfl⟩:=h
  obtain ⟨z,u,rfl⟩:=k
  exact ⟨z,u,kZq⟩
theorem Fx.fd {a:Addr} {G G':DV} (h:Fx a G G'):Fd G' a:=by obtain ⟨x,y,rfl⟩:=h;exact .up
theorem Fx.refl {a:Addr} {G:DV} (h:Fd G a):Fx a G G:=by obtain ⟨x,y,e⟩:=h;exact ⟨x,y,(iPq e).symm⟩
theorem Fx.other {a l:Addr} {G G':DV} (h:Fx a G G') (n:l≠a):G' l=G l:=by obtain ⟨x,y,rfl⟩:=h;exact aOq n
def c3q:DSp:=λ ds G Q=>match ds with
  | [.ref a,.int m]=>Fd G a/\0 < m/\m < 2 ^ 62/\∀ d G',Fx a G G'->0<=d->d < m->Q (.int d) G'
  | _=>False
def d1q:DSp:=λ ds G Q=>match ds with
  | [.frl ss,.int k]=>∃ ns:List Int,ss=ns.map D.int/\ns.length<=63/\0<=k/\k < 2 ^ 32/\∀ r x y,G r=none->Q (.ref r) (up G r (fed x y))
  | _=>False
def hOq:DSp:=λ ds _ Q=>∃ ns:List Int,ds=[.frl (ns.map D.int)]/\ns.length<=63/\∀ G',Q (.bl true) G'
abbrev eEq (K:PySem.W.Frag):Sp:=bDq K hOq
theorem lEq {K:PySem.W.Frag} {H:Hp} {a:Addr} {ns:List Int} (hl:ns.length<=63) (o:lMq H) (h:SqL K H a (ns.map V.int)):eEq K [.ref a] H (λ v _=>v=.bl true) λ _ _ _=>False:=by
  have f:FrL K H a (ns.map V.int):=by
    rcases h with (h | h) | h
    . rcases o a with z | ⟨_,_,z⟩<;>(rw [h] at z;cases z)
    . exact .inl h
    . exact .inr h
  refine ⟨[.frl (ns.map D.int)],λ _=>none,λ d _=>d=.bl true,⟨.ref a,[],rfl,⟨a,_,rfl,f,AbsL.of_ints ns⟩,rfl⟩,(λ _ _ e=>by cases e),⟨ns,rfl,hl,λ _=>rfl⟩,λ d G' v H' g ad e=>?_⟩
  subst e
  exact ad
section
variable {α:Type} {all:α->List (List Int × α)} {inn:α->List α}
theorem bSq {n:Nat} (h:n<=200000):n<=sizeLine:=by rw [sizeLine_eq];omega
theorem bWq {n:Nat} (h:n<=200000):n < sizeLine:=by rw [sizeLine_eq];omega
end
end L3
namespace L3
open PySem PyProof L2
section
variable {X:Cx}
variable {i:Nat} {T c:Addr} {name:Str} {params:Arguments} {body:List Stmt} {scope:Scope} {pos:Pos} {fr:List Str}
end
end L3
namespace L2
open PySem PySem.Spec PyProof.Rows
end L2
namespace L3
open PySem PyProof L2
section
variable {X:Cx} {k j:Nat} {name qual:Str} {st:Stmt} {fr:List Str} {vals:List D} {ps:List Str} {x:Str} {dsp:DSp} {p pos:Pos} {e:Expr} {es:List Expr} {t:DTA}
end
end L3
namespace L3
open PySem PyProof L2
section
variable {K:PySem.W.Frag} {H H':Hp}
end
section
variable {X:Cx} {e:Expr} {es:List Expr} {t:DTA} {p pos:Pos}
end
def nSq (K:PySem.W.Frag) (x q:Str) (st:Stmt) (f:Addr) (cd:Value):Prop:=∃ (oc:Value) (od:Option Addr) (kV doc pm:Value) (an:Option Addr) (ct:Value) (osl:Array (Option Value)),
  K.lookup f=some ⟨oc,od,.func (PySem.W.fnOf x q (aYq st) (aJq st) (a2q st) .none kV doc pm an cd ct),osl⟩/\PySem.W.codeIn K cd q=true/\PySem.W.keepIn K (.ref f)=true
def DT (K:PySem.W.Frag) (x:Str) (st:Stmt):Prop:=∃ (f:Addr) (cd:Value),PySem.W.nsIn K mainGlobals x=some (some (.ref f))/\nSq K x x st f cd
section
variable {K:PySem.W.Frag} {x m q:Str} {st:Stmt} {C c:Addr}
theorem DT.mk {f:Addr} {cd oc kV doc pm ct:Value} {od an:Option Addr} {osl:Array (Option Value)} (a:PySem.W.nsIn K mainGlobals x=some (some (.ref f))) (l:K.lookup f=some ⟨oc,od,.func (PySem.W.fnOf x x (aYq st) (aJq st) (a2q st) .none kV doc pm an cd ct),osl⟩) (k:PySem.W.codeIn K cd x=true) (p:PySem.W.keepIn K (.ref f)=true):DT K x st:=⟨f,cd,a,_,_,_,_,_,_,_,_,l,k,p⟩
theorem DT.ok (h:DT K x st):∃ (f:Addr) (fd:FuncData),PySem.W.nsIn K mainGlobals x=some (some (.ref f))/\Fun K x x st f fd:=
  let ⟨f,_,a,_,_,_,_,_,_,_,_,l,k,p⟩:=h;⟨f,_,a,k1q l k p⟩
end
end L3
namespace L3
open PySem PyProof L2
section
variable {K:PySem.W.Frag} {H:Hp}
end
section
variable {K:PySem.W.Frag} {G:DV} {H:Hp}
end
section
variable {X:Cx} {o e value:Expr} {es:List Expr} {f m:Str} {C:Addr} {pos pos' tpos apos p:Pos} {ta tv:DTE} {t:DTA}
end
end L3
namespace L2
open PySem PySem.Spec PyProof.Rows
section
variable {X:Cx} {e:Expr} {ta:TA} {p p2 pos pos2:Pos}
end
end L2
namespace L3
open PySem PyProof L2
section
variable {X:Cx} {e:Expr} {t:DTA} {p p2 pos pos2:Pos}
end
end L3
namespace L2
open PySem PySem.Spec PyProof.Rows
end L2
namespace L3
open PySem PyProof L2
end L3
namespace KSs
open PySem PyProof.Rows
end KSs
namespace KSs
open PySem PyProof.Rows
section
variable {prog:Program} {w:World} {A:Around} {E:Value->Shared->Prop} {s:Shared} {a:Addr} {es:Array (Int × Value)} {ep:Nat} {t:SetTable}
end
end KSs
namespace KSs
open PySem PyProof.Rows
section
variable {prog:Program} {w:World} {A:Around} {E:Value->Shared->Prop} {s:Shared}
end
end KSs
namespace KSs
open PySem PyProof.Rows
end KSs
namespace KSs
open PySem PyProof.Rows
section
variable {prog:Program} {w:World} {A:Around} {E:Value->Shared->Prop} {s:Shared} {a I T:Addr} {es:Array (Int × Value)} {ep:Nat} {t:SetTable}
end
end KSs
namespace KSs
open PySem PyProof.Rows
section
variable {prog:Program} {w:World} {A:Around} {E:Value->Shared->Prop} {s:Shared} {a I T:Addr} {es:Array (Int × Value)} {ep:Nat} {t:SetTable}
end
end KSs
namespace KSs
open PySem PyProof.Rows
section
variable {prog:Program} {w:World} {A:Around} {E:Value->Shared->Prop} {s:Shared} {a I T:Addr} {es:Array (Int × Value)} {ep:Nat} {t:SetTable}
end
end KSs
namespace KSs
open PySem PyProof.Rows
section
variable {prog:Program} {w:World} {A:Around} {E:Value->Shared->Prop} {s:Shared} {a:Addr} {es:Array (Int × Value)} {ep:Nat} {t:SetTable}
end
end KSs
namespace KSs
open PySem PyProof.Rows
section
variable {prog:Program} {w:World} {A:Around} {E:Value->Shared->Prop} {s:Shared} {a:Addr} {es:Array (Int × Value)} {ep:Nat} {t:SetTable}
end
end KSs
namespace L2
open PySem PySem.Spec PyProof.Rows
section
variable {X:Cx} {e:Expr} {te:TE} {p p2 pos pos2:Pos}
end
end L2
namespace L3
open PySem PyProof L2
section
variable {X:Cx} {e:Expr} {te:DTE} {p p2 pos pos2:Pos}
end
end L3
namespace L2
open PySem PySem.Spec PyProof.Rows
section
variable {X:Cx}
end
end L2
namespace L3
open PySem PyProof L2
section
variable {X:Cx}
end
end L3
namespace KSs
open PySem PyProof.Rows
section
variable {prog:Program} {w:World} {A:Around} {E:Value->Shared->Prop} {s:Shared} {a:Addr} {es:Array (Int × Value)} {ep:Nat} {t:SetTable}
end
end KSs
namespace KSs
open PySem PyProof.Rows
end KSs
namespace KSs
open PySem PyProof.Rows
section
variable {prog:Program} {w:World} {A:Around} {E:Value->Shared->Prop} {s:Shared} {a:Addr} {es:Array (Int × Value)} {ep:Nat} {t:SetTable}
end
end KSs
namespace KSs
open PySem PyProof.Rows
section
variable {prog:Program} {w:World} {A:Around} {E:Value->Shared->Prop} {s:Shared} {a o:Addr} {es eo:Array (Int × Value)} {ep po:Nat} {t to:SetTable}
end
end KSs
namespace KSs
open PySem PyProof.Rows
section
variable {prog:Program} {w:World} {A:Around} {E:Value->Shared->Prop} {s:Shared} {a o:Addr} {es eo:Array (Int × Value)} {ep po:Nat} {t to:SetTable}
end
end KSs
namespace L2
open PySem PySem.Spec PyProof.Rows
section
variable {X:Cx} {e e2:Expr} {te te2:TE} {p p2 p3 pos pos2 pos3 bpos:Pos}
end
end L2
namespace L3
open PySem PyProof L2
section
variable {X:Cx} {e e2:Expr} {te te2:DTE} {p p2 p3 pos pos2 pos3 bpos:Pos}
end
end L3
namespace L3
open PySem PyProof L2
section
variable {K:PySem.W.Frag} {H:Hp} {G:DV}
end
section
variable {X:Cx} {o i e value:Expr} {pos pos' tpos:Pos} {td ti tv:DTE}
end
end L3
namespace L2
open PySem PySem.Spec PyProof.Rows
section
variable {X:Cx}
end
end L2
namespace L3
open PySem PySem.Spec L2
section
variable {X:Cx} {a b c e f o i tg iter value:Expr} {x:Str} {ad C:Addr} {tab:Str->Option D} {ta tv te tf to ti:DTE} {pos pos' tpos p apos cpos:Pos}
end
end L3
namespace L2
open PySem PySem.Spec PyProof.Rows
end L2
namespace L3
open PySem PySem.Spec L2
end L3
namespace L2
open PySem PySem.Spec PyProof.Rows
section
variable {X:Cx} {e st:Expr} {te:TE} {tk:TO} {pos p2:Pos}
end
end L2
namespace L3
open PySem PySem.Spec L2
section
variable {X:Cx} {e st:Expr} {te:DTE} {tk:DTO} {pos p2:Pos}
end
end L3
namespace L2
open PySem PySem.Spec PyProof.Rows
section
variable {X:Cx}
def o7q (i:Str) (n:Nat):Str:=⟨(List.replicate n i.cps.toList).flatten.toArray⟩
end
end L2
namespace L3
open PySem PySem.Spec L2
section
variable {X:Cx}
def nWq:DR2:=λ x y G Q=>match x,y with
  | .str z,.int n=>0<=n/\n<=1000/\z.length<=1000/\Q (.str (o7q z n.toNat)) G
  | _,_=>False
def oKq:D->Option Int->Option Int->DV->DK->Prop:=λ x lo hi G Q=>match x with
  | .str z=>z.length<=sizeLine/\Q (.str (Txt.slice z lo hi)) G
  | _=>False
def iAq:D->DV->Prop:=λ x _=>match x with
  | .str _=>True
  | _=>False
theorem eCq {K:PySem.W.Frag} {x:D} {v:V} {G:DV} {H:Hp} (ax:Abs K H x v) (h:iAq x G):tyV K "str" v H:=by
  cases x with
  | str z=>cases ax;exact rfl
  | _=>exact (show False from h).elim
end
end L3
namespace L2
open PySem PySem.Spec PyProof.Rows
section
variable {X:Cx} {tg:Expr}
theorem dFq:∀ {ys:List Str} {us:List Value},Vals (ys.map V.str) us->StrsAre us ys
  | [],_,h=>by cases h;exact .nil
  | y::ys,_,h=>by
    cases h with
    | cons r rr=>
      obtain ⟨t,rfl⟩:=r
      exact .cons _ _ (dFq rr)
theorem hVq (K:PySem.W.Frag) (hK:K=X.K):MtR X "str.join" (λ x xs H Q=>∃ (z:Str) (l:Addr) (ys:List Str),x=.str z/\xs=[.ref l]/\SqL K H l (ys.map V.str)/\z.length<=16/\(ys.map (·.length)).sum+ys.length<=1048576/\Q (.str (Txt.join z ys)) H):=by
  subst hK
  intro pins s σ H x xs v us Q I rx rv h
  obtain ⟨z,l,ys,rfl,rfl,hl,hz,hw,q⟩:=h
  obtain ⟨t,rfl⟩:=rx
  obtain ⟨u,rfl,ru⟩:=rv.one
  cases ru
  obtain ⟨its,r,p,_⟩:=I.list hl
  exact PyProof.Rows.join_listW p.isList (by simpa using dFq r) hz hw λ t' k=>⟨.str _,H,I.tok _,⟨_,rfl⟩,q⟩
end
section
variable {X:Cx} {tg:Expr}
end
section
variable {X:Cx}
end
end L2
namespace L3
open PySem PySem.Spec L2
section
variable {X:Cx} {tg a b c:Expr} {ta tb tc:DTE} {pos p:Pos}
abbrev nFq (ad:Addr) (tab:Str->Option D):DR2:=λ x y G Q=>match x with
  | .str z=>y=.ref ad/\Q (.bl (!(tab z).isSome)) G
  | _=>False
def lZq:D->List D->DV->DK->Prop:=λ x xs G Q=>match x,xs with
  | .str z,[.str y]=>Q (.bl (Txt.startswith z y)) G
  | _,_=>False
theorem AbsL.strs {K:PySem.W.Frag} {H:Hp} {ys:List Str}:∀ {vs:List V},AbsL K H (ys.map D.str) vs->vs=ys.map V.str:=by
  induction ys with
  | nil=>intro vs h;exact h
  | cons n ns ih=>rintro vs ⟨v,r,e,q,l⟩;subst e;rw [ih l,show v=V.str n from q];rfl
def kGq:D->List D->DV->DK->Prop:=λ x xs G Q=>match x,xs with
  | .str z,[.ref l]=>onL G l λ ds=>∃ ys:List Str,ds=ys.map D.str/\z.length<=16/\(ys.map (·.length)).sum+ys.length<=1048576/\Q (.str (Txt.join z ys)) G
  | _,_=>False
theorem eMq:AMt X "str" "str.join" iAq kGq:=by
  refine ⟨_,⟨hVq X.K rfl⟩,λ x v G H _ ax h=>eCq ax h,λ x xs vx vs G H DQ Q v ax al r F=>?_⟩
  unfold kGq at r
  split at r
  . next z l=>
    cases ax
    obtain ⟨u,r',e,a,e2⟩:=al
    subst e
    cases a
    cases (show r'=[] from e2)
    obtain ⟨ds,ws,⟨ys,rfl,h1,h2,q⟩,s,rl⟩:=aXq v r
    rw [rl.strs] at s
    exact ⟨z,l,ys,rfl,rfl,s,h1,h2,F (.str _) G _ H (.refl v) rfl q⟩
  . exact r.elim
end
end L3
namespace L2
open PySem PySem.Spec PyProof.Rows
end L2
namespace L3
open PySem L2
section
variable {C T:Addr} {tp:Pos} {G G':DV} {lp ld:Addr} {as:List Addr} {us:List Tm} {S:Sls} {rk:Addr->Nat} {told:Addr->Bool}
end
theorem Fx.kp {a b:Addr} {G G':DV} {u:DO} (h:Fx a G G') (n:b≠a) (e:G b=some u):G' b=some u:=by rw [h.other n];exact e
section
variable {c:Cf} {p q s a b:Tm} {i j:Int} {st:List Mk} {u v:Addr}
end
theorem fKq {z:Str} {i:Int} (h0:0<=i) (h1:i < z.length):∃ c,atI z.cps.toList i=some c:=by
  obtain ⟨n,rfl⟩:∃ n:Nat,i=n:=⟨i.toNat,by omega⟩
  have e:z.cps.toList.length=z.length:=rfl
  have h:n < z.cps.toList.length:=by omega
  exact ⟨_,dQq (List.getElem?_eq_getElem h)⟩
theorem bYq (x y:Str):(x++y).length=x.length+y.length:=by
  show (x.cps++y.cps).size=_
  rw [Array.size_append];rfl
end L3
namespace L3
open PySem PySem.Spec L2 PySem.SeqAt
open AutoSeq1 (wpAny_loadPart') in
section
variable {X:Cx} {pins:List (Addr × Obj)} {σ:L2.St} {H:Hp} {s:Shared}
end
end L3
namespace L2
open PySem PySem.W PyProof.Rows
section
variable {n:Nat} (hn:0 < n)
include hn
end
section
variable {prog:Program} {w:World} {A:Around} {E:Value->Shared->Prop} {s:Shared}
end
section
variable {prog:Program} {w:World} {A:Around} {E:Value->Shared->Prop} {s:Shared}
end
end L2
namespace L3
open PySem PySem.Spec PySem.W PyProof.Rows L2
section
variable {X:Cx} {pins:List (Addr × Obj)} {σ:L2.St} {H:Hp} {s:Shared}
end
section
variable {X:Cx} {pins:List (Addr × Obj)} {σ:L2.St} {H:Hp} {s:Shared}
end
section
variable {X:Cx}
end
namespace Kn
end Kn
theorem e6q:∀ {ds:List D},(∀ d∈ds,d.data=true)->b4q ds=true
  | [],_=>rfl
  | d::ds,h=>by rw [b4q,h d (List.mem_cons_self ..),e6q λ e he=>h e (List.mem_cons_of_mem _ he)];rfl
theorem cBq {α:Type} (a:Addr) (en:α->D) (P:α->Prop) {J:DIt} {G1:DV} {g:DTG} {te:DTE} {nt:Nat} {cap:List Nat} {ρ:DSt} {Q:DK} (hz:J.items.length<=1000) (held:∀ G,J.held G) (hF:Fd G1 a)
    (turn:∀ d G (R:DK),Fd G a->(∀ x G',(∃ G0,Fx a G G0/\Sub G0 G')->P x->R (en x) G')->g d (b8q nt cap ρ) G λ ρ3 G3=>te ρ3 G3 R)
    (q:∀ (xs:List α) G',xs.length=J.items.length->(∀ x∈xs,P x)->Fx a G1 G'->∀ p,G' p=none->Q (.ref p) (up G' p (.lst (xs.map en)))):fDq g te nt cap ρ Q J G1:=by
  refine bPq (λ i ds G'=>∃ xs:List α,ds=xs.map en/\xs.length=i/\(∀ x∈xs,P x)/\Fx a G1 G') (bWq (by omega)) ⟨[],rfl,rfl,by simp,.refl hF⟩ (λ _ _ _ _ _=>held _) ?_ ?_
  . rintro i d ds G' hd ⟨xs,rfl,hxl,hx,u⟩
    refine turn d G' _ u.fd λ x G2 ⟨G0,u2,s2⟩ hp=>⟨G0,s2,xs++[x],by simp,by simp [hxl],λ y hy=>?_,u.trans u2⟩
    rcases List.mem_append.mp hy with hy | hy
    . exact hx y hy
    . simp at hy;subst hy;exact hp
  . rintro ds G' ⟨xs,rfl,hxl,hx,u⟩ p hp
    exact q xs G' hxl hx u p hp
theorem fTq {n:Nat}:∀ {ds:List D},(∀ d∈ds,d.dp<=n)->dRq ds<=n
  | [],_=>Nat.zero_le _
  | d::ds,h=>by
    have h1:=h d (List.mem_cons_self ..)
    have h2:=fTq λ e he=>h e (List.mem_cons_of_mem _ he)
    rw [dRq];omega
theorem m8q {a:Addr} {G G1 G0 G9:DV} (h:∀ b o,b≠a->G b=some o->G1 b=some o) (u:Fx a G1 G0) (s:Sub G0 G9):∃ G0,Fx a G G0/\Sub G0 G9:=by
  obtain ⟨x,y,rfl⟩:=u
  refine ⟨_,.mk (x:=x) (y:=y),λ b o e=>?_⟩
  by_cases c:b=a
  . subst c;rw [a7q] at e;exact s _ _ (by rw [a7q];exact e)
  . rw [aOq c] at e;exact s _ _ (by rw [aOq c];exact h b o c e)
end L3
namespace L2
open PySem PySem.Spec PyProof.Rows
section
variable {X:Cx}
end
end L2
namespace L3
open PySem PySem.Spec L2
section
variable {X:Cx} {tg a:Expr} {ta:DTE} {p pos:Pos}
end
def Dw (a:Addr) (G G':DV):Prop:=∃ G0,Fx a G G0/\Sub G0 G'
theorem Dw.of {a:Addr} {G G':DV} (h:Fx a G G'):Dw a G G':=⟨G',h,.refl _⟩
theorem Dw.kp {a:Addr} {G G':DV} (h:Dw a G G') {b:Addr} {o:DO} (hb:b≠a) (e:G b=some o):G' b=some o:=by
  obtain ⟨G0,u,s⟩:=h
  exact s _ _ (u.kp hb e)
theorem Dw.fd {a:Addr} {G G':DV} (h:Dw a G G'):Fd G' a:=by
  obtain ⟨G0,u,s⟩:=h
  obtain ⟨x,y,e⟩:=u.fd
  exact ⟨x,y,s _ _ e⟩
theorem Dw.trans {a:Addr} {G G1 G2:DV} (h:Dw a G G1) (g:Dw a G1 G2):Dw a G G2:=by
  obtain ⟨G0,u,s⟩:=g
  exact m8q (λ b o nb e=>h.kp nb e) u s
end L3
namespace L2
open PySem PySem.Spec PyProof.Rows
section
variable {prog:Program} {w:World} {A:Around} {E:Value->Shared->Prop} {s:Shared} {e it:Addr} {i:Nat} {old:Value}
end
section
variable {X:Cx}
end
end L2
namespace L3
open PySem PySem.Spec L2
section
variable {X:Cx} {es:List Expr} {a:Expr} {t:DTA} {p pos:Pos}
end
end L3
namespace L2
open PySem PySem.Spec PyProof.Rows
section
variable {X:Cx}
variable {e lo st:Expr} {te:TE} {tl tk:TO} {pos p2:Pos}
end
end L2
namespace L3
open PySem PySem.Spec L2
section
variable {X:Cx} {e lo st:Expr} {te:DTE} {tl tk:DTO} {pos p2:Pos}
end
end L3
namespace L2
open PySem PySem.Spec PyProof.Rows
section
variable {X:Cx}
end
end L2
namespace L3
open PySem PySem.Spec L2
section
variable {X:Cx}
end
end L3
namespace L2
open PySem PySem.Spec PyProof.Rows
section
variable {X:Cx}
end
end L2
namespace L3
open PySem PySem.Spec L2
section
variable {X:Cx}
end
end L3
namespace L3
open PySem L2 PySem.NumText PyProof.Rows PySem.W PySem.W.KIN
end L3
namespace L2
open PySem PySem.Spec PyProof.Rows
section
variable {X:Cx}
def PET (X:Cx) (e:Expr) (t:TE):Prop:=
  ∀ (pins:List (Addr × Obj)) (s:Shared) (σ:St) (H:Hp) (Q:VK),Inv X pins σ H s->1<=s.toks->t σ H Q->wpAny (model X.prog X.w) X.A (eval e X.env) (λ u s'=>1<=s'.toks/\EP X pins σ Q u s') X.xe s
def PSsT (X:Cx) (st:List Stmt) (t:TS):Prop:=
  ∀ (pins:List (Addr × Obj)) (s:Shared) (σ:St) (H:Hp) (D:Ends),Inv X pins σ H s->1<=s.toks->t D σ H->wpAny (model X.prog X.w) X.A (execs st X.env) (SP X pins D) X.xe s
theorem lIq {e:Expr} {t:TE} (h:PE X e t):PET X e t:=λ pins s σ H Q I ht q=>
  wpAny_mono (wpAny_toks_of ht (h pins s σ H Q I q)) (λ _ _ z=>z) λ _ _ z=>z.2
def mTq (a b:Str) (to:TE):TE:=λ σ H Q=>to σ H λ x H1=>∃ z:Str,x=.str z/\z.length+(z.length+1) * b.length<=1000000/\Q (.str (Txt.replace z a b)) H1
theorem h8q {o:Expr} {to:TE} {a b:Str} {k1 k2:Nat} {p1 p2 apos cpos:Pos} (ho:PET X o to) (hab:(a==b)=false) (hbase:attributeBase o "replace" X.env (eval o X.env)=eval o X.env:=by rfl) (hline:(apos.endLine==cpos.line)=true:=by rfl) :
    PET X (.Call (.Attribute o "replace" apos) [.Constant (.str a) k1 p1,.Constant (.str b) k2 p2] [] cpos) (mTq a b to):=by
  intro pins s σ H Q I ht h
  refine wpAny_mono (wpAny_toks_of (Q:=EP X pins σ Q) (E:=X.xe) ht ?_) (λ _ _ z=>z) λ _ _ z=>z.2
  refine wpAny_Call_method_late hbase rfl hline rfl (thn (ho pins s σ H _ I ht h) λ v s1 ⟨ht1,x,H1,I1,r1,z,ez,hz,q1⟩=>?_)
  subst ez
  obtain ⟨h1,h2⟩:=hAq (T:="str") I1 r1 rfl
  obtain ⟨t,rfl⟩:=r1
  refine ⟨"str", "str.replace", PySem.F.plainAttrs_str,PySem.F.slot_str_replace,PySem.F.type_str_replace,h1,h2,?_⟩
  refine Calls.callWith_builtin rfl (Calls.evalArgs_plain ?_)
  refine Calls.spliced_cons (Calls.Constant_str (k:=k1) (pos:=p1) ?_)
  refine Calls.spliced_cons (Calls.Constant_str (k:=k2) (pos:=p2) ?_)
  refine Calls.spliced_nil ?_
  refine PySem.call_gives PySem.F.slot_str_replace (typeIs_str _ z t) PySem.F.entry_str_replace (PySem.F.args_str_replace_3 _ _ _) (gives_str_replace z a b t s1.toks (s1.toks+1) λ _=>⟨?_,?_,hab,?_⟩) ?_
  . rw [Bool.or_eq_false_iff]
    exact ⟨beq_eq_false_iff_ne.mpr (Nat.ne_of_gt ht1),beq_eq_false_iff_ne.mpr (Nat.succ_ne_zero _)⟩
  . exact beq_eq_false_iff_ne.mpr (Nat.ne_of_lt (Nat.lt_succ_self _))
  . unfold Builtin.Str.tooLong
    refine decide_eq_false ?_
    have h3:=StrLaws.occ_length_le z a 0 z.length (z.length+1)
    have h4:=Nat.mul_le_mul_right b.length h3
    rw [sizeLine_eq];omega
  . have e:Txt.replace z a b=if ((Builtin.Str.occurrences z a 0 z.length (z.length+1)).isEmpty||a.length==0&&b.length==0)=true then z else Builtin.Str.glued b (Builtin.Str.partsBetween z (Builtin.Str.occurrences z a 0 z.length (z.length+1)) a.length):=rfl
    rw [e] at q1
    split
    . next c=>rw [if_pos c] at q1;exact ⟨.str z,H1,I1.tok _,⟨_,rfl⟩,q1⟩
    . next c=>rw [if_neg c] at q1;exact ⟨fits_replaced a (by omega),.str _,H1,I1.tok _,⟨_,rfl⟩,q1⟩
theorem gRq {tg e:Expr} {te:TE} {g:TG} {rest:List Stmt} {u:TS} {pos:Pos} (he:PET X e te) (hg:PG X tg g) (hr:PSs X rest u) (hs:swapsWithSole [tg] e pos.line X.env=pure false:=by rfl) (hw:swappedStores [tg] e X.env=pure none:=by rfl)
    (h1:(assignEach [tg] X.env).map (·.2)=[assign tg X.env]:=by rfl):PSsT X (.Assign [tg] e pos::rest) (m6q (iKq te g) u):=by
  intro pins s σ H D I ht h
  have key:wpAny (model X.prog X.w) X.A (exec (.Assign [tg] e pos) X.env) (SP X pins { D with nx:=u D }) X.xe s:=by
    refine wpAny_Assign_stores (thn (he pins s σ H _ I ht h) λ v s1 ⟨_,x,H1,I1,r1,q1⟩=>?_) hs hw
    rw [h1]
    exact thn (hg pins s1 σ H1 x v _ I1 r1 q1) λ _ s2 q=>q
  refine wpAny_execs_cons (thn key λ f s1 q=>?_)
  cases f with
  | next=>
    obtain ⟨σ',H',I',q⟩:=q
    exact hr pins s1 σ' H' D I' q
  | ret v=>exact q
  | brk=>exact q
  | cont=>exact q
theorem PSsT.nox {st:List Stmt} {t:TS} (h:PSsT X.nox st t):PSsT X st t:=λ pins s σ H D I ht hw=>
  wpAny_mono (h pins s σ H D (I.wish _) ht hw) (λ _ _ q=>q.unwish) λ _ _ z=>False.elim z
end
theorem eYq {M:Model} {A:Around} {E:Value->Shared->Prop} {s:Shared} {scope:Scope} {globals:Addr} {n:Str} {v:Value} {qual:Str} {func:Option Addr} {code:Value} {builtins:Addr} {Q:Env->Shared->Prop} (hk:scope.kind=.function) (hnc:∀ x∈scope.names,x.2≠.cell)
    (hcf:∀ k,cellsFrom k scope.names []=[]) (hl:scope.names.lookup n=some .local)
    (h:∀ env,env=newEnv scope s.heap.objs.size globals (cellsFrom (s.heap.objs.size+1) scope.names []) qual func code none builtins->∀ s',InCallC s env.locals (bindL env.kindOf [(n,v)] λ _=>none) env.cells (bindC env.kindOf [(n,v)] λ _=>none) s'->1<=s'.toks->Q env s') :
    wpAny M A (newFunctionEnv scope globals [] [(n,v)] qual func code none builtins) Q E s:=by
  refine wpAny_newFunctionEnv hnc (λ x hx=>by simp at hx;subst hx;exact hl) (λ h' hn hs=>?_) hk
  refine h _ (by rw [hcf]) _ ⟨⟨⟨h',_,rfl⟩,?_,λ b o e=>?_,Nat.le_refl _⟩,λ y c e=>?_,?_,λ y c e=>?_⟩ (by show 1<=s.toks+1;omega)
  . have e:(bindL (newEnv scope s.heap.objs.size globals [] qual func code none builtins).kindOf [(n,v)] λ _=>none)=λ x=>List.lookup x [(n,v)].reverse:=by
      have hk2:(newEnv scope s.heap.objs.size globals [] qual func code none builtins).kindOf n=some .local:=hl
      funext x
      by_cases c:x=n
      . subst c
        simp [bindL,hk2,List.lookup]
      . have c2:(x==n)=false:=beq_eq_false_iff_ne.mpr c
        simp [bindL,hk2,List.lookup,c,c2]
    show h'.Ns s.heap.objs.size _
    rw [e];exact hn
  . have hb:b≠s.heap.objs.size:=by
      rintro rfl
      exact Nat.lt_irrefl _ (Heap.lt_size e)
    rw [hs.2 b hb]
    exact Heap.get?_push_of_some _ e
  . cases e
  . exact List.Pairwise.nil
  . cases e
section
variable {P:Program} {w:World} {K:PySem.W.Frag} {mg:Str->Option Value} {base:Heap}
theorem Fun.okT {x qual p:Str} {st:Stmt} {f:Addr} {fd:FuncData} {N:List Str} {k:Nat} {sp:Sp} (F:Fun K x qual st f fd) (S:FnScope N [p] (a2q st)) (hnc:∀ x∈(a2q st).names,x.2≠.cell) (hcf:∀ k,cellsFrom k (a2q st).names []=[]) (hlo:(a2q st).names.lookup p=some .local)
    (len:∀ vs H Q E,sp vs H Q E->vs.length=[p].length)
    (hbody:∀ (cdv:Value) (A:Around) (outer:List Env) (s:Shared) (H:Hp) (vs:List V) (Q:VK) (E:XK),Room k (A.deeper (envOfC qual (a2q st) s.heap.objs.size f cdv))->sp vs H Q E →
      ∃ t,PSsT (f3q CX0 P w K mg base N qual (a2q st) f cdv A outer s H E).nox (aJq st) t/\t { nx:=λ _ H'=>Q .non H',rt:=Q } (b3q N vs) H):FnOk P w K mg base CX0 (k+1) f fd [p] sp:=by
  obtain ⟨oc,od,kV,doc,pm,an,cdv,ct,osl,rfl,lk,hcd⟩:=F.ex
  refine ⟨len,λ A outer s H args us vs Q E hr e0 hb r hsp=>?_⟩
  have hl:=len _ _ _ _ hsp
  have hul:us.length=1:=by rw [<- r.length,hl];rfl
  obtain ⟨u,rfl⟩:∃ u,us=[u]:=List.length_eq_one_iff.mp hul
  have KX:K.In s.heap:=e0.mod.kin.keeps λ b o e=>(e0.bs b o e).1
  have lim:s.heap.NoLimit:=e0.mod.nolimit.keeps λ b o e=>(e0.bs b o e).1
  refine codeAny_call_function hr.depth (KX _ _ lk) rfl S.co S.gen rfl (PySem.W.codeRec_of KX hcd) (hb _ _ _ _ ?_)
  refine eYq S.kind hnc hcf hlo λ env he s1 x ht=>?_
  subst he
  refine ⟨lim.keeps x.toInCall.keep,codeAny_func ?_⟩
  obtain ⟨t,ht2,hq⟩:=hbody cdv A outer s H vs Q E (hr.deeper _) hsp
  have I:Inv (f3q CX0 P w K mg base N qual (a2q st) f cdv A outer s H E) [] (b3q N vs) H s1:=dBq S hr.hd e0 hl r x
  refine wpAny_mono (ht2.nox [] s1 (b3q N vs) H _ I ht hq) (λ fl s' hs=>?_) λ e s' hs=>hs
  have fin:∀ {σ':St} {H':Hp} {v:V} {u:Value},Inv (f3q CX0 P w K mg base N qual (a2q st) f cdv A outer s H E) [] σ' H' s'->RelV v u->Q v H'->CE outer P w H s Q u s':=
    λ{σ' H' v u} J rv q=>⟨v,H',J.os,J.bare,J.base,J.hok,rv,q⟩
  cases fl with
  | ret u=>
    obtain ⟨v,σ',H',J,rv,q⟩:=hs
    exact fin J rv q
  | next=>
    obtain ⟨σ',H',J,q⟩:=hs
    exact fin (v:=V.non) (u:=Value.none) J rfl q
  | brk=>
    obtain ⟨_,_,_,q⟩:=hs
    exact False.elim q
  | cont=>
    obtain ⟨_,_,_,q⟩:=hs
    exact False.elim q
end
section
variable {X:Cx}
theorem dAq:∀ (ys:List Str) (n:Nat),Vals (ys.map V.str) (strsFrom n ys)
  | [],_=>.nil
  | y::ys,n=>.cons ⟨_,rfl⟩ (dAq ys _)
theorem h7q:MtR X "str.split" (λ x xs H Q=>∃ z y:Str,x=.str z/\xs=[.str y]/\(y.length==0)=false/\z.length<=1000000/\∀ p,H p=none->Q (.ref p) (upd H p (.lst ((Txt.split z y).map V.str)))):=by
  intro pins s σ H x xs v us Q I rx rv h
  obtain ⟨z,y,rfl,rfl,hy,hz,q⟩:=h
  obtain ⟨t,rfl⟩:=rx
  obtain ⟨u,rfl,ru⟩:=rv.one
  obtain ⟨t',rfl⟩:=ru
  have hf:H s.heap.objs.size=none:=I.hok.fresh (Nat.le_refl _)
  have hl:(Txt.split z y).length<=sizeLine:=by
    have:=(PyProof.Rows.fact_split z y).2
    rw [sizeLine_eq];omega
  have laid:∀ (its:List Value) (tk:Nat),Vals ((Txt.split z y).map V.str) its->EP X pins σ Q (.ref s.heap.objs.size) { s with heap:=s.heap.push { cls:=.type "list", data:=.seq its.toArray },toks:=tk }:=λ its tk hv=>by
    refine ⟨.ref s.heap.objs.size,_,I.laid (t':=tk) (λ b u e=>Heap.get?_push_of_some _ e) (Nat.le_refl _) (show ObjOk X.prog X.w _ _ _ (.lst ((Txt.split z y).map V.str)) from ⟨by rw [List.length_map];exact hl,its,0,hv,Heap.get?_push_size _ rfl⟩),rfl,q _ hf⟩
  have slot:=PySem.F.slot_str_split
  by_cases c1:(decide (z.length < y.length)||decide (Builtin.Str.strKind z < Builtin.Str.strKind y))=true
  . have e:Txt.split z y=[z]:=by unfold Txt.split;rw [if_pos c1]
    refine PySem.call_meets slot (typeIs_str _ z t) PySem.F.entry_str_split (PySem.F.args_str_split_2 _ _) (meets_str_split_cannot_occur z y t t' c1) ?_
    exact laid [.str z t] s.toks (by rw [e];exact .cons ⟨_,rfl⟩ .nil)
  . have c1':=Bool.eq_false_iff.mpr c1
    by_cases c2:(Builtin.Str.occurrences z y 0 z.length (z.length+1)).isEmpty=true
    . have e:Txt.split z y=[z]:=by unfold Txt.split;rw [if_neg c1,if_pos c2]
      refine PySem.call_meets slot (typeIs_str _ z t) PySem.F.entry_str_split (PySem.F.args_str_split_2 _ _) (meets_str_split_not_found z y t t' c1' hy c2) ?_
      exact laid [.str z t] s.toks (by rw [e];exact .cons ⟨_,rfl⟩ .nil)
    . have e:Txt.split z y=Builtin.Str.partsBetween z (Builtin.Str.occurrences z y 0 z.length (z.length+1)) y.length:=by unfold Txt.split;rw [if_neg c1,if_neg c2]
      rw [e] at hl
      refine PySem.call_meets slot (typeIs_str _ z t) PySem.F.entry_str_split (PySem.F.args_str_split_2 _ _) (meets_str_split_sep z y t t' c1' hy (Bool.eq_false_iff.mpr c2) (by rw [sizeLine_eq];omega) hl) ?_
      refine laid _ _ ?_
      rw [e];exact dAq _ _
end
end L2
namespace L3
open PySem PySem.Spec PyProof.Rows L2
section
variable {X:Cx}
structure AET (X:Cx) (e:Expr) (t:DTE):Prop where
  run:∃ tc:TE,PET X e tc/\∀ ρ G DQ σ H Q,Bears X.K ρ G σ H->t ρ G DQ->Fin X.K G H DQ Q->tc σ H Q
structure ABT (X:Cx) (st:List Stmt) (t:DTS):Prop where
  run:∃ tc:TS,PSsT X st tc/\∀ DD Dc ρ G σ H,Bears X.K ρ G σ H->t DD ρ G->EndsOk X.K G H DD Dc->tc Dc σ H
theorem kYq {e:Expr} {t:DTE} (h:AE X e t):AET X e t:=by
  obtain ⟨c,j,r⟩:=h.run
  exact ⟨c,lIq j.run,r⟩
abbrev n3q (a b:Str) (to:DTE):DTE:=λ ρ G Q=>to ρ G λ x G1=>match x with
  | .str z=>z.length+(z.length+1) * b.length<=1000000/\Q (.str (Txt.replace z a b)) G1
  | _=>False
theorem cTq {o:Expr} {to:DTE} {a b:Str} {k1 k2:Nat} {p1 p2 apos cpos:Pos} (ho:AET X o to) (hab:(a==b)=false:=by decide) (hbase:attributeBase o "replace" X.env (eval o X.env)=eval o X.env:=by rfl) (hline:(apos.endLine==cpos.line)=true:=by rfl) :
    AET X (.Call (.Attribute o "replace" apos) [.Constant (.str a) k1 p1,.Constant (.str b) k2 p2] [] cpos) (n3q a b to):=by
  obtain ⟨c,j,r⟩:=ho.run
  refine ⟨_,h8q j hab hbase hline,λ ρ G DQ σ H Q B q F=>r ρ G _ σ H _ B q λ x G1 v H1 g1 ax q1=>?_⟩
  cases x with
  | str z=>
    cases (show v=.str z from ax)
    exact ⟨z,rfl,q1.1,F (.str (Txt.replace z a b)) _ _ _ g1 rfl q1.2⟩
  | _=>exact (show False from q1).elim
theorem j1q {tg e:Expr} {te:DTE} {g:DTG} {rest:List Stmt} {u:DTS} {pos:Pos} (he:AET X e te) (hg:AG X tg g) (hr:AB X rest u) (hs:swapsWithSole [tg] e pos.line X.env=pure false:=by rfl) (hw:swappedStores [tg] e X.env=pure none:=by rfl)
    (h1:(assignEach [tg] X.env).map (·.2)=[assign tg X.env]:=by rfl):ABT X (.Assign [tg] e pos::rest) (nIq (lLq te g) u):=by
  obtain ⟨c1,j1,r1⟩:=he.run
  obtain ⟨c2,j2,r2⟩:=hg.run
  obtain ⟨c3,j3,r3⟩:=hr.run
  exact ⟨_,gRq j1 j2.run j3.run hs hw h1,λ DD Dc ρ G σ H B q F=>r1 ρ G _ σ H _ B q λ d G1 v H1 g1 a q1=>r2 d v ρ G1 _ σ H1 _ (B.go g1) a q1 λ ρ' G' σ' H' g' b q'=>r3 DD Dc ρ' G' σ' H' b q' (F.after (g1.trans g'))⟩
def jPq:D->List D->DV->DK->Prop:=λ x xs G Q=>match x,xs with
  | .str z,[.str y]=>(y.length==0)=false/\z.length<=1000000/\∀ p,G p=none->Q (.ref p) (up G p (.lst ((Txt.split z y).map D.str)))
  | _,_=>False
theorem f7q:AMt X "str" "str.split" iAq jPq:=by
  refine ⟨_,⟨h7q⟩,λ x v G H _ ax h=>eCq ax h,λ x xs vx vs G H DQ Q v ax al r F=>?_⟩
  cases x with
  | str z=>
    cases ax
    rcases xs with _ | ⟨y,_ | ⟨_,_⟩⟩
    . exact (show False from r).elim
    . cases y with
      | str y=>
        obtain ⟨u,r',e,a,l⟩:=al
        subst e
        cases a
        cases (show r'=[] from l)
        obtain ⟨r1,r2,r3⟩:=r
        exact ⟨z,y,rfl,rfl,r1,r2,λ p hp=>F (.ref p) _ _ _ (Go.newL v hp (cXq _)) rfl (r3 p (v.none hp))⟩
      | _=>exact (show False from r).elim
    . exact (show False from by cases y<;>exact r).elim
  | _=>exact (show False from r).elim
end
theorem o5q {P:Program} {w:World} {K:PySem.W.Frag} {mg:Str->Option Value} {base:Heap} {x qual p:Str} {st:Stmt} {f:Addr} {fd:FuncData} {N:List Str} {k:Nat} {dsp:DSp} (F:Fun K x qual st f fd) (S:FnScope N [p] (a2q st)) (hnc:∀ x∈(a2q st).names,x.2≠.cell) (hcf:∀ k,cellsFrom k (a2q st).names []=[]) (hlo:(a2q st).names.lookup p=some .local)
    (len:∀ ds G DQ,dsp ds G DQ->ds.length=[p].length)
    (hbody:∀ (cdv:Value) (A:Around) (outer:List Env) (s:Shared) (H:Hp) (E:XK),Room k (A.deeper (PyProof.Rows.envOfC qual (a2q st) s.heap.objs.size f cdv))->∀ (ds:List D) (G:DV) (DQ:DK),dsp ds G DQ →
      ∃ t,ABT (f3q CX0 P w K mg base N qual (a2q st) f cdv A outer s H E).nox (aJq st) t/\t { nx:=λ _ G'=>Dr DQ .non G',rt:=Dr DQ } (bQq N ds) G):FnOk P w K mg base CX0 (k+1) f fd [p] (bDq K dsp):=by
  refine F.okT S hnc hcf hlo (λ vs H Q E h=>?_) (λ cdv A outer s H vs Q E hr h=>?_)
  . obtain ⟨ds,G,DQ,r,_,h,_⟩:=h
    rw [r.len];exact len ds G DQ h
  . obtain ⟨ds,G,DQ,r,v,h,Fn⟩:=h
    obtain ⟨t,⟨tc,j,imp⟩,q⟩:=hbody cdv A outer s H E hr ds G DQ h
    refine ⟨tc,j,imp _ _ (bQq N ds) G (L2.b3q N vs) H (bTq r v) q ⟨λ ρ' G' σ' H' g b ⟨G2,s2,q2⟩=>Fn .non G2 .non H' (g.sub s2) rfl q2,λ d G' v H' g a ⟨G2,s2,q2⟩=>Fn d G2 v H' (g.sub s2) a q2,λ _ _ _ _ _ _ z=>z.elim,λ _ _ _ _ _ _ z=>z.elim⟩⟩
end L3
namespace L3
open PySem PySem.Spec PyProof.Rows L2
def spl (c:Nat):List Nat->List Nat->List (List Nat)
  | cur,[]=>[cur]
  | cur,x::l=>if x=c then cur::spl c [] l else spl c (cur++[x]) l
def rep (c:Nat) (r:List Nat) (l:List Nat):List Nat:=l.flatMap λ x=>if x=c then r else [x]
def jn (r:List Nat):List (List Nat)->List Nat
  | []=>[]
  | [p]=>p
  | p::q::ps=>p++(r++jn r (q::ps))
theorem hCq (c:Nat):∀ l cur,spl c cur l≠[]
  | [],_=>by simp [spl]
  | x::l,cur=>by
    rw [spl];split
    . simp
    . exact hCq c l _
theorem fWq (r p:List Nat) {ps:List (List Nat)} (h:ps≠[]):jn r (p::ps)=p++(r++jn r ps):=by
  cases ps with
  | nil=>exact absurd rfl h
  | cons q ps=>rfl
theorem fFq (c:Nat) (r:List Nat):∀ l cur,jn r (spl c cur l)=cur++rep c r l
  | [],cur=>by simp [spl,jn,rep]
  | x::l,cur=>by
    rw [spl]
    split
    . next h=>rw [fWq _ _ (hCq c l _),fFq c r l []];simp [rep,h]
    . next h=>rw [fFq c r l];simp [rep,h]
theorem e9q (c:Nat):∀ (p cur:List Nat),c ∉ p->∀ l,spl c cur (p++c::l)=(cur++p)::spl c [] l
  | [],cur,_,l=>by rw [List.nil_append,spl,if_pos rfl,List.append_nil]
  | x::p,cur,h,l=>by
    have hx:x≠c:=λ e=>h (by simp [e])
    rw [List.cons_append,spl,if_neg hx,e9q c p _ (λ e=>h (List.mem_cons_of_mem _ e)) l]
    simp
theorem fLq (c:Nat):∀ (p cur:List Nat),c ∉ p->spl c cur p=[cur++p]
  | [],cur,_=>by simp [spl]
  | x::p,cur,h=>by
    have hx:x≠c:=λ e=>h (by simp [e])
    rw [spl,if_neg hx,fLq c p _ (λ e=>h (List.mem_cons_of_mem _ e))]
    simp
theorem hQq (c:Nat):∀ {ps:List (List Nat)},ps≠[]->(∀ p∈ps,c ∉ p)->spl c [] (jn [c] ps)=ps
  | [],h,_=>absurd rfl h
  | [p],_,h=>by rw [jn,fLq c p [] (h p (by simp))];rfl
  | p::q::ps,_,h=>by
    have:=hQq c (ps:=q::ps) (by simp) λ z hz=>h z (List.mem_cons_of_mem _ hz)
    rw [jn]
    show spl c [] (p++c::jn [c] (q::ps))=_
    rw [e9q c p [] (h p (by simp)),this];rfl
theorem cUq (y:Str):∀ ps:List Str,(y.join ps).cps.toList=jn y.cps.toList (ps.map λ p=>p.cps.toList)
  | []=>rfl
  | [p]=>rfl
  | p::q::ps=>by
    have ih:=cUq y (q::ps)
    show (p++y++y.join (q::ps)).cps.toList=_
    rw [PySem.W.KT.app_list,PySem.W.KT.app_list,ih]
    simp [jn]
theorem d8q (x:Str) (c:Nat):(Txt.split x ⟨#[c]⟩).map (λ p=>p.cps.toList)=spl c [] x.cps.toList:=by
  have h1:=StrLaws.join_split x ⟨#[c]⟩
  have h2:=cUq ⟨#[c]⟩ (Txt.split x ⟨#[c]⟩)
  rw [h1] at h2
  rw [h2]
  refine (hQq c (λ e=>?_) λ p hp=>?_).symm
  . have:=(fact_split x ⟨#[c]⟩).1
    rw [List.map_eq_nil_iff] at e
    rw [e] at this;simp at this
  . obtain ⟨q,hq,rfl⟩:=List.mem_map.mp hp
    exact StrLaws.split_free x c q hq
theorem bOq (x z:Str) (c:Nat):(Txt.replace x ⟨#[c]⟩ z).cps.toList=rep c z.cps.toList x.cps.toList:=by
  rw [StrLaws.replace_one,cUq,d8q,fFq];rfl
def wds:List Nat->List Nat->List (List Nat)
  | cur,[]=>if cur=[] then [] else [cur]
  | cur,c::l=>if c=40\/c=41 then (if cur=[] then [] else [cur])++[c]::wds [] l else if c=32\/c=10 then (if cur=[] then [] else [cur])++wds [] l else wds (cur++[c]) l
def sp3 (l:List Nat):List Nat:=rep 10 [32] (rep 41 [32,41,32] (rep 40 [32,40,32] l))
theorem bMq (c:Nat) (r:List Nat) (x:Nat) (l:List Nat):rep c r (x::l)=(if x=c then r else [x])++rep c r l:=rfl
theorem gWq (x:Nat) (l:List Nat):sp3 (x::l)=(if x=40 then [32,40,32] else if x=41 then [32,41,32] else if x=10 then [32] else [x])++sp3 l:=by
  unfold sp3
  rw [bMq]
  by_cases h1:x=40
  . subst h1;rfl
  . rw [if_neg h1,if_neg h1,List.singleton_append,bMq]
    by_cases h2:x=41
    . subst h2;rfl
    . rw [if_neg h2,if_neg h2,List.singleton_append,bMq]
theorem bGq:∀ l cur,(spl 32 cur (sp3 l)).filter (λ w=>!w.isEmpty)=wds cur l
  | [],cur=>by
    show (spl 32 cur []).filter _=_
    rw [spl,wds]
    cases cur<;>simp
  | x::l,cur=>by
    have hc:∀ (t:List (List Nat)),(cur::t).filter (λ w=>!w.isEmpty)=(if cur=[] then [] else [cur])++t.filter (λ w=>!w.isEmpty):=λ t=>by cases cur<;>simp
    rw [gWq,wds]
    by_cases h1:x=40
    . subst h1
      have:=bGq l []
      simp [spl,hc,this]
    . by_cases h2:x=41
      . subst h2
        have:=bGq l []
        simp [spl,hc,this]
      . by_cases h3:x=10
        . subst h3
          have:=bGq l []
          simp [spl,hc,this]
        . by_cases h4:x=32
          . subst h4
            have:=bGq l []
            simp [spl,hc,this]
          . have:=bGq l (cur++[x])
            simp [spl,h1,h2,h3,h4,this]
def Wd (w:List Nat):Prop:=w=[40]\/w=[41]\/(w≠[]/\∀ c∈w,c≠40/\c≠41/\c≠32/\c≠10)
def Brk (w:List Nat):Prop:=w=[40]\/w=[41]
def Bls (g:List Nat):Prop:=∀ c∈g,c=32\/c=10
def Hd4 (r:List Nat):Prop:=r=[]\/∃ c t,r=c::t/\(c=40\/c=41\/c=32\/c=10)
theorem bUq:∀ {g:List Nat} (r:List Nat),Bls g->wds [] (g++r)=wds [] r
  | [],r,_=>rfl
  | c::g,r,h=>by
    have hc:=h c (by simp)
    rw [List.cons_append,wds,if_neg (by omega),if_pos (by omega)]
    simpa using bUq r λ d hd=>h d (List.mem_cons_of_mem _ hd)
theorem fYq:∀ (w cur r:List Nat),(∀ c∈w,c≠40/\c≠41/\c≠32/\c≠10)->wds cur (w++r)=wds (cur++w) r
  | [],cur,r,_=>by simp
  | c::w,cur,r,h=>by
    have hc:=h c (by simp)
    rw [List.cons_append,wds,if_neg (by omega),if_neg (by omega),fYq w _ r λ d hd=>h d (List.mem_cons_of_mem _ hd)]
    simp
theorem l3q {w r:List Nat} (hw:w≠[]) (hr:Hd4 r):wds w r=w::wds [] r:=by
  rcases hr with rfl | ⟨c,t,rfl,hc⟩
  . simp [wds,hw]
  . rw [wds,wds]
    by_cases h1:c=40\/c=41
    . rw [if_pos h1,if_pos h1,if_neg hw];simp
    . have h2:c=32\/c=10:=by omega
      rw [if_neg h1,if_neg h1,if_pos h2,if_pos h2,if_neg hw];simp
theorem gUq {w r:List Nat} (h:Wd w) (hr:Hd4 r\/Brk w):wds [] (w++r)=w::wds [] r:=by
  rcases h with rfl | rfl | ⟨h1,h2⟩
  . rfl
  . rfl
  . rw [fYq w [] r h2,List.nil_append]
    refine l3q h1 ?_
    rcases hr with hr | hr | hr
    . exact hr
    . subst hr;have:=h2 40 (by simp);omega
    . subst hr;have:=h2 41 (by simp);omega
def eUq (t:List Nat) (ws:List (List Nat)) (last:List Nat):Prop:=∀ r,Hd4 r\/Brk last->wds [] (t++r)=ws++wds [] r
theorem f1q {t g w last:List Nat} {ws:List (List Nat)} (h:eUq t ws last) (hg:Bls g) (hw:Wd w) (hgl:g=[]->Brk last\/Brk w):eUq (t++g++w) (ws++[w]) w:=by
  intro r hr
  have e1:t++g++w++r=t++(g++(w++r)):=by simp
  have h1:Hd4 (g++(w++r))\/Brk last:=by
    cases g with
    | nil=>
      rcases hgl rfl with z | z
      . exact .inr z
      . rcases z with rfl | rfl
        . exact .inl (.inr ⟨40,r,rfl,by simp⟩)
        . exact .inl (.inr ⟨41,r,rfl,by simp⟩)
    | cons c g=>have:=hg c (by simp);exact .inl (.inr ⟨c,_,rfl,by omega⟩)
  rw [e1,h _ h1,bUq _ hg,gUq hw hr]
  simp
theorem fOq {t g last:List Nat} {ws:List (List Nat)} (h:eUq t ws last) (hg:Bls g):wds [] (t++g)=ws:=by
  have h1:Hd4 g:=by
    cases g with
    | nil=>exact .inl rfl
    | cons c g=>have:=hg c (by simp);exact .inr ⟨c,_,rfl,by omega⟩
  have h2:=bUq [] hg
  rw [List.append_nil] at h2
  rw [h g (.inl h1),h2,wds];simp
theorem iGq {g:List Nat} (hg:Bls g):eUq g [] [40]:=λ r _=>by rw [bUq r hg];rfl
def wS (w:List Nat):Str:=⟨w.toArray⟩
def wD (w:List Nat):D:=.str (wS w)
theorem bKq (w:List Nat):(wS w).cps.toList=w:=by simp [wS]
theorem bHq (w:List Nat):(wS w).length=w.length:=by simp [wS,Str.length]
def cSq:DSp:=λ ds G Q=>∃ z:Str,ds=[.str z]/\z.length<=20000/\∀ l,G l=none->Q (.ref l) (up G l (.lst ((wds [] z.cps.toList).map wD)))
def cMq:DSp:=λ ds G Q=>∃ a,ds=[.ref a]/\Fd G a/\∀ (w:List Nat) G',Dw a G G'->Wd w->w.length<=9->Q (wD w) G'
def hSq:DSp:=λ ds G Q=>∃ (a:Addr) (n:Int),ds=[.ref a,.int n]/\Fd G a/\0<=n/\n<=1/\∀ (g:List Nat) G',Dw a G G'->Bls g->n<=g.length->g.length<=3->Q (wD g) G'
def dSq:DSp:=λ ds G Q=>∃ (a l:Addr) (ws:List (List Nat)),ds=[.ref a,.ref l]/\Fd G a/\l≠a/\G l=some (.lst (ws.map wD))/\(∀ w∈ws,Wd w/\w.length<=9)/\ws.length<=44/\∀ (z:Str) G',Dw a G G'->wds [] z.cps.toList=ws->z.length<=1000->Q (.str z) G'
def c4q:DSp:=λ ds G Q=>∃ (l l':Addr) (ws:List (List Nat)),ds=[.ref l,.ref l']/\G l=some (.lst (ws.map wD))/\G l'=some (.lst (ws.map wD))/\ws.length<=1000/\Q (.bl true) G
theorem fNq {c:Nat} {r:List Nat} (hr:r.length<=3):∀ l:List Nat,(rep c r l).length<=3 * l.length
  | []=>by simp [rep]
  | x::l=>by
    have:=fNq (c:=c) hr l
    rw [bMq,List.length_append,List.length_cons]
    split
    . omega
    . simp;omega
theorem s40:(("(" : String):Str)=⟨#[40]⟩:=by decide +kernel
theorem s41:((")" : String):Str)=⟨#[41]⟩:=by decide +kernel
theorem s10:(("\n" : String):Str)=⟨#[10]⟩:=by decide +kernel
theorem s32:((" " : String):Str)=⟨#[32]⟩:=by decide +kernel
theorem oBq:((" ( " : String):Str)=⟨#[32,40,32]⟩:=by decide +kernel
theorem nZq:((" ) " : String):Str)=⟨#[32,41,32]⟩:=by decide +kernel
theorem o0q (z:Str):(Txt.replace (Txt.replace (Txt.replace z "(" " ( ") ")" " ) ") "\n" " ").cps.toList=sp3 z.cps.toList:=by
  rw [s40,oBq,s41,nZq,s10,s32,bOq,bOq,bOq];rfl
theorem g3q (z y:Str) (c:Nat) (hy:y.length<=3):(Txt.replace z ⟨#[c]⟩ y).length<=3 * z.length:=by
  have e:∀ x:Str,x.cps.toList.length=x.length:=λ x=>Array.length_toList
  rw [<- e,bOq,<- e z]
  exact fNq (by rw [e];exact hy) _
theorem gVq {x:Str} {l:List Nat} (h:x.cps.toList=sp3 l):(Txt.split x " ").filterMap (λ s:Str=>if s=="" then none else some (D.str s))=(wds [] l).map wD:=by
  have e:Txt.split x " " = (spl 32 [] (sp3 l)).map wS:=by
    rw [s32,<- h,<- d8q,List.map_map]
    exact (List.map_id _).symm
  rw [e,<- bGq]
  induction spl 32 [] (sp3 l) with
  | nil=>rfl
  | cons p ps ih=>
    rw [List.map_cons,List.filterMap_cons,ih]
    cases p with
    | nil=>rfl
    | cons c p=>
      have:(wS (c::p)==("" : Str))=false:=by
        rw [beq_eq_false_iff_ne]
        intro e
        have:=congrArg Str.length e
        have h0:(("" : String):Str).length=0:=by decide
        rw [bHq,h0] at this
        simp at this
      rw [this];rfl
theorem fSq {α:Type} {xs:List α} {i:Int} {c:α} (h:atI xs i=some c):c∈xs:=by
  unfold atI at h
  cases e:ixN xs.length i with
  | none=>rw [e] at h;cases h
  | some j=>rw [e] at h;exact List.mem_of_getElem? h
def Pln (c:Nat):Prop:=c≠40/\c≠41/\c≠32/\c≠10
instance (c:Nat):Decidable (Pln c):=by unfold Pln;infer_instance
def sg1:Str:="abcdefghijklmnopqrstuvwxyz0123456789-"
def sg2:Str:="ABCDEFGHIJKLMNOPQRSTUVWXYZ!\"#$&'*+,./:;<=>?\x40[\\]^_`{|}~"
theorem fZq:(∀ c∈sg1.cps.toList,Pln c)/\sg1.length=37:=by decide +kernel
theorem hGq:(∀ c∈sg2.cps.toList,Pln c)/\sg2.length<=100:=by decide +kernel
theorem hYq:(∀ c∈(sg1++sg2).cps.toList,Pln c)/\0 < (sg1++sg2).length/\(sg1++sg2).length<=137:=by
  have h1:=fZq
  have h2:=hGq
  refine ⟨λ c hc=>?_,?_,?_⟩
  . rw [PySem.W.KT.app_list] at hc
    rcases List.mem_append.mp hc with hc | hc
    . exact h1.1 c hc
    . exact h2.1 c hc
  . rw [bYq];omega
  . rw [bYq];omega
theorem bFq:∀ cs:List Nat,Txt.join ("" : Str) (cs.map λ c=>(⟨#[c]⟩:Str))=wS cs:=by
  intro cs
  have h:=cUq ("" : Str) (cs.map λ c=>(⟨#[c]⟩:Str))
  have e:∀ x y:Str,x.cps.toList=y.cps.toList->x=y:=λ x y h=>by
    cases x;cases y;simp at h;rw [h]
  apply e
  rw [bKq,eq_of_beq (PyProof.Rows.join_plain_closes "" _),h]
  have e0:(("" : String):Str).cps.toList=[]:=by decide
  rw [e0,List.map_map]
  clear h
  induction cs with
  | nil=>rfl
  | cons c cs ih=>
    cases cs with
    | nil=>rfl
    | cons d ds=>
      rw [List.map_cons,fWq _ _ (by simp),ih];rfl
theorem hPq (a b:List Nat):wS a++wS b=wS (a++b):=by
  have e:∀ x y:Str,x.cps.toList=y.cps.toList->x=y:=λ x y h=>by
    cases x;cases y;simp at h;rw [h]
  apply e
  rw [PySem.W.KT.app_list,bKq,bKq,bKq]
theorem fCq (w:List Nat):(true ^^ inL (wD w) [.str "(", .str ")"])=false->Brk w:=by
  intro h
  have h1:inL (wD w) [.str "(", .str ")"]=true:=by simpa using h
  simp only [inL,wD,List.any_cons,List.any_nil,eqF,Bool.or_false,Bool.or_eq_true,beq_iff_eq] at h1
  rcases h1 with h1 | h1
  . have:=congrArg (λ x:Str=>x.cps.toList) h1
    simp only [bKq] at this
    exact .inl (by rw [<- this];decide +kernel)
  . have:=congrArg (λ x:Str=>x.cps.toList) h1
    simp only [bKq] at this
    exact .inr (by rw [<- this];decide +kernel)
end L3
namespace KB
open PySem L2
def top (i:Nat):Stmt:=PySem.Challenge.pw_kindbags_k12_words_of_texts.main.body.getD i (.Pass ⟨0,0,0,0⟩)
structure Blt (mg:Str->Option Value):Prop where
  len:mg "len" = none
  isinstance:mg "isinstance" = none
  range:mg "range" = none
  int:mg "int" = none
  bool:mg "bool" = none
  str:mg "str" = none
  tuple:mg "tuple" = none
  list:mg "list" = none
  sorted:mg "sorted" = none
  all:mg "all" = none
  max:mg "max" = none
end KB
namespace KB
open PySem
abbrev bXq:List Str:=["text"]
abbrev cEq:List Str:=["_law_script", "_law_k"]
abbrev cCq:List Str:=["_law_feed_here", "_law_many"]
abbrev cDq:List Str:=["_law_feed_here"]
abbrev dHq:List Str:=["_law_feed_here", "_law_least"]
abbrev cHq:List Str:=["_law_feed_here", "_law_words"]
abbrev bVq:List Str:=["_law_found", "_law_due"]
end KB
namespace KB
open PySem L2 L3
section
variable {P:Program} {w:World} {K:PySem.W.Frag} {mg:Str->Option Value} {base:Heap} {f:Addr} {fd:FuncData}
set_option maxHeartbeats 4000000
abbrev dJq:Stmt:=top 4
theorem sc_take:FnScope ["_law_feed_here", "_law_many", "_law_digit", "_law_one"] ["_law_feed_here", "_law_many"] (a2q dJq):=⟨rfl,rfl,rfl,by decide +kernel,rfl,by decide +kernel,by decide +kernel⟩
theorem iLq (F:Fun K "_law_take" "_law_take" dJq f fd):FnOk P w K mg base CX0 1 f fd ["_law_feed_here", "_law_many"] (bDq K c3q):=by
  refine okD (k:=0) F sc_take (λ ds G DQ h=>?_) (λ cdv A outer s H E hr ds G DQ h=>?_)
  . unfold c3q at h;split at h
    . rfl
    . exact h.elim
  unfold c3q at h;split at h
  case h_2=>exact h.elim
  next a m=>
  obtain ⟨⟨x,y,hF⟩,h0,h1,q⟩:=h
  refine ⟨_,(a6q (cQq (bLq fVq (c5q aix (a1q 0) a5q (λ _ _=>rfl)) a5q (b6q _)) (a6q (aFq (k:=2) sc_take.nd rfl (Or.inl rfl) (aGq b1q (c5q aix (a1q 0) a5q (λ _ _=>rfl)) (a1q 1)))
      (a6q (fPq (aGq e7q (c5q aix (a1q 0) a5q (λ _ _=>rfl)) (a1q 1)) (g7q (a1q 0) a5q))
      (aHq (aUq (a1q 2))))) bJq)
      (a6q (aFq (k:=3) sc_take.nd rfl (Or.inl rfl) (aGq b1q (aGq aZq (c5q aix (a1q 0) a5q (λ _ _=>rfl)) a5q) a5q))
      (a6q (fPq (aGq aKq (aGq b1q (aGq aKq (aGq aZq (a1q 3) a5q) a5q) a5q) a5q) (g7q (a1q 0) a5q))
      (aHq (aUq (aGq b1q (aGq e7q (aGq aKq (aGq aZq (a1q 3) a5q) (c5q aix (a1q 0) a5q (λ _ _=>rfl))) a5q) (a1q 1))))))),?_⟩
  refine aRq hF ⟨λ c=>?_,λ c=>?_⟩
  . refine aRq hF ⟨h0,aRq hF ⟨⟨h0,by omega⟩,e8q hF ⟨0,rfl,Dr.of (q _ _ .mk (Int.emod_nonneg _ (by omega)) (Int.emod_lt_of_pos _ h0))⟩⟩⟩
  . refine aRq hF ⟨.inr ⟨by decide,by decide⟩,by simp,.inr ⟨by decide,by decide⟩,by simp,e8q hF ⟨1,rfl,.inr ⟨by decide,by decide⟩,aRq a7q ⟨⟨by decide,by decide⟩,h0,Dr.of (q _ _ .mk (Int.emod_nonneg _ (by omega)) (Int.emod_lt_of_pos _ h0))⟩⟩⟩
abbrev dPq:Stmt:=top 3
theorem sc_feed:FnScope ["_law_script", "_law_k", "_law_cell", "_law_own"] ["_law_script", "_law_k"] (a2q dPq):=⟨rfl,rfl,rfl,by decide +kernel,rfl,by decide +kernel,by decide +kernel⟩
theorem hZq (B:Blt mg) (F:Fun K "_law_feed" "_law_feed" dPq f fd):FnOk P w K mg base CX0 1 f fd ["_law_script", "_law_k"] (bDq K d1q):=by
  refine okD (k:=0) F sc_feed (λ ds G DQ h=>?_) (λ cdv A outer s H E hr ds G DQ h=>?_)
  . unfold d1q at h;split at h
    . rfl
    . exact h.elim
  unfold d1q at h;split at h
  case h_2=>exact h.elim
  next ss k=>
  obtain ⟨ns,rfl,hl,h0,h1,q⟩:=h
  have fin:∀ x y:Int,∀ p,G p=none->Dr DQ (.ref p) (up G p (fed x y)):=λ x y p hp=>Dr.of (q p x y hp)
  have at_ok:∀ j:Int,0<=j->j < ns.length->∃ v,atI (ns.map D.int) j=some (.int v):=λ j j0 j1=>by
    refine ⟨ns[j.toNat],?_⟩
    have e:=dQq (xs:=ns.map D.int) (j:=j.toNat) (v:=D.int ns[j.toNat]) (by simp [show j.toNat < ns.length by omega])
    rwa [show ((j.toNat:Nat):Int)=j by omega] at e
  refine ⟨_,(a6q (aFq (k:=2) sc_feed.nd rfl (Or.inl rfl) (aGq aKq (aGq aZq a5q (a1q 1)) a5q))
      (a6q (cQq (bLq hHq (a1q 1) (aPq aVq rfl B.len PySem.boot_len (a0q (a1q 0) a4q)) (b6q _)) (aHq (aFq (k:=2) sc_feed.nd rfl (Or.inl rfl) (c5q aix (a1q 0) (a1q 1) (λ _ _=>rfl)))) (aHq (cQq (bLq fVq (aPq aVq rfl B.len PySem.boot_len (a0q (a1q 0) a4q)) a5q (b6q _)) (aHq (aFq (k:=2) sc_feed.nd rfl (Or.inl rfl) (aGq aKq (aGq aZq (aGq b1q (c5q aix (a1q 0) (aGq b1q (a1q 1) (aPq aVq rfl B.len PySem.boot_len (a0q (a1q 0) a4q))) (λ _ _=>rfl)) a5q) a5q) (aGq aZq a5q (a1q 1))))) bJq)))
      (a6q (aFq (k:=3) sc_feed.nd rfl (Or.inl rfl) a5q)
      (a6q (cQq (bLq kNq (a1q 2) (aGq j2q a5q a5q) (b6q _)) (aHq (aFq (k:=3) sc_feed.nd rfl (Or.inl rfl) (a1q 2))) bJq)
      (aHq (aUq (lDq (a0q (a1q 3) (a0q (aGq aKq (aGq b1q (aGq aKq (aGq aZq (aGq b1q (a1q 2) a5q) a5q) (aGq aZq a5q (a1q 1))) a5q) a5q) a4q))))))))),?_⟩
  refine ⟨.inl ⟨by decide,by decide⟩,⟨λ c=>?_,λ c=>?_⟩⟩
  . have c':k < ns.length:=by simpa using c
    obtain ⟨v,hv⟩:=at_ok k h0 c'
    refine (hFq hv ⟨⟨by decide,by decide,by decide⟩,λ c=>?_,λ c=>?_⟩)
    . exact ⟨by simp,.inr ⟨by decide,by decide⟩,.inl ⟨by decide,by decide⟩,by simp,λ p hp=>fin _ _ p hp⟩
    . exact ⟨by simp,.inr ⟨by decide,by decide⟩,.inl ⟨by decide,by decide⟩,by simp,λ p hp=>fin _ _ p hp⟩
  . refine ⟨λ c=>?_,λ c=>?_⟩
    . have c':0 < ns.length:=by
        have:(0:Int) < (ns.map D.int).length:=by simpa using c
        simpa using this
      obtain ⟨v,hv⟩:=at_ok (k % (ns.map D.int).length) (Int.emod_nonneg _ (show ((ns.map D.int).length:Int)≠0 by rw [List.length_map];omega)) (by have:=Int.emod_lt_of_pos k (show (0:Int) < (ns.map D.int).length by simpa using c');simpa using this)
      refine ⟨by simpa using c',?_⟩
      refine (hFq hv ⟨by simp,.inr ⟨by decide,by decide⟩,.inl ⟨by decide,by decide⟩,⟨by decide,by decide,by decide⟩,λ c=>?_,λ c=>?_⟩)
      . exact ⟨by simp,.inr ⟨by decide,by decide⟩,.inl ⟨by decide,by decide⟩,by simp,λ p hp=>fin _ _ p hp⟩
      . exact ⟨by simp,.inr ⟨by decide,by decide⟩,.inl ⟨by decide,by decide⟩,by simp,λ p hp=>fin _ _ p hp⟩
    . refine ⟨⟨by decide,by decide,by decide⟩,λ c=>?_,λ c=>?_⟩
      . exact ⟨by simp,.inr ⟨by decide,by decide⟩,.inl ⟨by decide,by decide⟩,by simp,λ p hp=>fin _ _ p hp⟩
      . exact ⟨by simp,.inr ⟨by decide,by decide⟩,.inl ⟨by decide,by decide⟩,by simp,λ p hp=>fin _ _ p hp⟩
abbrev cRq:Stmt:=top 1
theorem sc_words:FnScope ["text", "spaced"] ["text"] (a2q cRq):=⟨rfl,rfl,rfl,by decide +kernel,rfl,by decide +kernel,by decide +kernel⟩
theorem gZq (B:Blt mg) (F:Fun K "words_of" "words_of" cRq f fd):FnOk P w K mg base CX0 1 f fd ["text"] (bDq K cSq):=by
  refine o5q (k:=0) F sc_words (by decide +kernel) (λ _=>rfl) rfl (λ ds G DQ h=>?_) (λ cdv A outer s H E hr ds G DQ h=>?_)
  . obtain ⟨_,rfl,_⟩:=h;rfl
  obtain ⟨z,rfl,hz,q⟩:=h
  refine ⟨_,(j1q (cTq (cTq (cTq (kYq (a1q 0))))) (b0q (k:=1) sc_words.nd rfl (Or.inl rfl))
      (aHq (aUq (fRq rfl (CompOk.of (N':=["word"]) (nt:=1) (cap:=[]) rfl (by kernel_rfl)) (aTq (k:=0) (by decide)) (gCq (gIq PySem.F.plainAttrs_str PySem.F.slot_str_split PySem.F.type_str_split f7q (a1q 1) (a0q aNq a4q))) (λ _ _ _ _=>(b0q (k:=0) (show List.Nodup (["word"]:List Str) by decide +kernel) rfl (Or.inl rfl))) (λ _ _ _ _=>(bLq (hBq (gMq hr)) (a1q 0) aNq (b6q _))) (λ _ _ _ _=>(a1q 0)))))),?_⟩
  have l1:((" ( " : String):Str).length=3:=by decide
  have l2:((" ) " : String):Str).length=3:=by decide
  have l3:((" " : String):Str).length=1:=by decide
  have r1:=g3q z " ( " 40 (by decide)
  rw [<- s40] at r1
  have r2:=g3q (Txt.replace z "(" " ( ") " ) " 41 (by decide)
  rw [<- s41] at r2
  have r3:=g3q (Txt.replace (Txt.replace z "(" " ( ") ")" " ) ") " " 10 (by decide)
  rw [<- s10] at r3
  refine ⟨by rw [l1];omega,by rw [l2];omega,by rw [l3];omega,trivial,by decide,by omega,λ p hp=>?_⟩
  refine dLq a7q ?_
  refine eWq (Txt.split (Txt.replace (Txt.replace (Txt.replace z "(" " ( ") ")" " ) ") "\n" " ") " ") D.str (λ s:Str=>if s=="" then none else some (D.str s)) rfl ?_ a7q (λ x hx R S h1 h2=>?_) λ l hl=>?_
  . have:=(PyProof.Rows.fact_split (Txt.replace (Txt.replace (Txt.replace z "(" " ( ") ")" " ) ") "\n" " ") " ").2
    rw [sizeLine_eq];omega
  . refine hJq rfl rfl (show 0<=150 by decide) ⟨λ c=>h1 _ ?_,λ c=>h2 ?_⟩
    . have c':(!(x==""))=true:=c
      rw [if_neg (by rw [Bool.not_eq_true'] at c';rw [c'];decide)]
    . have c':(!(x==""))=false:=c
      rw [if_pos (by simpa using c')]
  . obtain ⟨-,g0,n0⟩:=k5q (o:=.lst []) hl
    refine ⟨up G l (.lst ((wds [] z.cps.toList).map wD)),?_,q l g0⟩
    rw [gVq (o0q z)]
    exact Sub.put (Sub.new (Sub.refl _) hp)
abbrev dOq:Stmt:=top 5
theorem sc_word:FnScope ["_law_feed_here", "_law_form", "_law_signs"] ["_law_feed_here"] (a2q dOq):=⟨rfl,rfl,rfl,by decide +kernel,rfl,by decide +kernel,by decide +kernel⟩
theorem iSq (B:Blt mg) (g_take:Got P w K mg base 1 "_law_take" ["_law_feed_here", "_law_many"] (bDq K c3q)) (F:Fun K "_law_word" "_law_word" dOq f fd):FnOk P w K mg base CX0 2 f fd ["_law_feed_here"] (bDq K cMq):=by
  refine okD (k:=1) F sc_word (λ ds G DQ h=>?_) (λ cdv A outer s H E hr ds G DQ h=>?_)
  . obtain ⟨_,rfl,_⟩:=h;rfl
  obtain ⟨a,rfl,hF,q⟩:=h
  refine ⟨_,(a6q (aFq (k:=1) sc_word.nd rfl (Or.inl rfl) (a8q g_take hr (by omega) rfl (a0q (a1q 0) (a0q a5q a4q))))
      (a6q (cQq (bLq hHq (a1q 1) a5q (b6q _)) (aHq (aUq (c5q aix aNq (a1q 1) (λ _ _=>rfl)))) bJq)
      (a6q (aFq (k:=2) sc_word.nd rfl (Or.inr rfl) aNq)
      (a6q (cQq (bLq fVq (a1q 1) a5q (b6q _)) (aHq (aFq (k:=2) sc_word.nd rfl (Or.inr rfl) (aGq aKq (a1q 2) aNq))) bJq)
      (aHq (aUq (gIq PySem.F.plainAttrs_str PySem.F.slot_str_join PySem.F.type_str_join eMq aNq (a0q (fUq rfl (CompOk.of (N':=["_law_k", "_law_signs", "_law_feed_here"]) (nt:=1) (cap:=[2,0]) rfl (by kernel_rfl)) (aTq (k:=0) (by decide)) (bAq rfl B.range (a0q (aGq aKq a5q (a8q g_take hr (by omega) rfl (a0q (a1q 0) (a0q a5q a4q)))) a4q)) (λ _ _ _ _=>(b0q (k:=0) (show List.Nodup (["_law_k", "_law_signs", "_law_feed_here"]:List Str) by decide +kernel) rfl (Or.inl rfl))) (λ _ _ _ _=>(c5q aix (a1q 1) (a8q g_take hr (by omega) rfl (a0q (a1q 2) (a0q (aPq aVq rfl B.len PySem.boot_len (a0q (a1q 1) a4q)) a4q))) (λ _ _=>rfl)))) a4q)))))))),?_⟩
  refine ⟨hF,by decide,by decide,λ fm G1 u1 f0 f1=>⟨λ c=>?_,λ c=>⟨λ c=>?_,λ c=>?_⟩⟩⟩
  . have hl:(("()" : String):Str).length=2:=by decide +kernel
    obtain ⟨ch,hch⟩:=fKq (z:="()") f0 (by rw [hl];have:=of_decide_eq_true c;omega)
    refine ⟨by decide +kernel,ch,hch,Dr.of (q [ch] _ (.of u1) ?_ (by simp))⟩
    have hm:=fSq hch
    have:∀ c∈(("()" : String):Str).cps.toList,c=40\/c=41:=by decide +kernel
    rcases this ch hm with rfl | rfl
    . exact .inl rfl
    . exact .inr (.inl rfl)
  . skip
    have s2:=hYq
    refine ⟨bSq (show sg1.length+sg2.length<=200000 by rw [fZq.2];have:=hGq.2;omega),?_⟩
    refine ⟨trivial,⟨u1.fd,by decide,by decide,λ m G2 u2 m0 m1=>c1q (by omega) ?_⟩⟩
    refine bPq (λ i ds G'=>∃ cs:List Nat,ds=cs.map (λ c=>D.str ⟨#[c]⟩)/\cs.length=i/\(∀ c∈cs,Pln c)/\Fx a G G') ?_ ⟨[],rfl,rfl,by simp,u1.trans u2⟩ (λ _ _ _ _ _=>trivial) ?_ ?_
    . show (aMq 0 (1+m:Int).toNat).length < sizeLine
      rw [aDq];exact bWq (by omega)
    . rintro i d ds G' hd ⟨cs,rfl,hcl,hc1,u⟩
      refine ⟨bSq (show (sg1++sg2).length<=200000 by omega),u.fd,(by show (0:Int) < ((sg1++sg2).length:Nat);omega),(by show (((sg1++sg2).length:Nat):Int) < 2 ^ 62;omega),λ k G4 u4 k0 k1=>?_⟩
      obtain ⟨c,hc⟩:=fKq k0 k1
      refine ⟨bSq (show (sg1++sg2).length<=200000 by omega),c,hc,WkV.of ⟨cs++[c],by simp,by simp [hcl],λ y hy=>?_,u.trans u4⟩⟩
      rcases List.mem_append.mp hy with hy | hy
      . exact hc1 y hy
      . simp at hy;subst hy;exact s2.1 _ (fSq hc)
    . rintro ds G3 ⟨cs,rfl,hcl,hc1,u3⟩ p hp
      have hcl':cs.length=(1+m:Int).toNat:=by rw [hcl];exact aDq
      have hsum:((cs.map λ c=>(⟨#[c]⟩:Str)).map (·.length)).sum=cs.length:=by
        clear hcl hcl' hc1
        induction cs with
        | nil=>rfl
        | cons c cs ih=>simp only [List.map_cons,List.sum_cons,List.length_cons] at *;rw [ih];show 1+_=_;omega
      refine aRq a7q ⟨cs.map λ c=>(⟨#[c]⟩:Str),by simp,by decide +kernel,by rw [hsum,List.length_map];omega,Dr.of ?_⟩
      rw [bFq]
      exact q cs _ ⟨G3,u3,Sub.new (Sub.refl _) hp⟩ (.inr (.inr ⟨by intro e;rw [e] at hcl';simp at hcl';omega,hc1⟩)) (by omega)
  . skip
    have s2:=fZq
    refine ⟨trivial,⟨u1.fd,by decide,by decide,λ m G2 u2 m0 m1=>c1q (by omega) ?_⟩⟩
    refine bPq (λ i ds G'=>∃ cs:List Nat,ds=cs.map (λ c=>D.str ⟨#[c]⟩)/\cs.length=i/\(∀ c∈cs,Pln c)/\Fx a G G') ?_ ⟨[],rfl,rfl,by simp,u1.trans u2⟩ (λ _ _ _ _ _=>trivial) ?_ ?_
    . show (aMq 0 (1+m:Int).toNat).length < sizeLine
      rw [aDq];exact bWq (by omega)
    . rintro i d ds G' hd ⟨cs,rfl,hcl,hc1,u⟩
      refine ⟨by decide +kernel,u.fd,by decide +kernel,by decide +kernel,λ k G4 u4 k0 k1=>?_⟩
      obtain ⟨c,hc⟩:=fKq k0 k1
      refine ⟨by decide +kernel,c,hc,WkV.of ⟨cs++[c],by simp,by simp [hcl],λ y hy=>?_,u.trans u4⟩⟩
      rcases List.mem_append.mp hy with hy | hy
      . exact hc1 y hy
      . simp at hy;subst hy;exact s2.1 _ (fSq hc)
    . rintro ds G3 ⟨cs,rfl,hcl,hc1,u3⟩ p hp
      have hcl':cs.length=(1+m:Int).toNat:=by rw [hcl];exact aDq
      have hsum:((cs.map λ c=>(⟨#[c]⟩:Str)).map (·.length)).sum=cs.length:=by
        clear hcl hcl' hc1
        induction cs with
        | nil=>rfl
        | cons c cs ih=>simp only [List.map_cons,List.sum_cons,List.length_cons] at *;rw [ih];show 1+_=_;omega
      refine aRq a7q ⟨cs.map λ c=>(⟨#[c]⟩:Str),by simp,by decide +kernel,by rw [hsum,List.length_map];omega,Dr.of ?_⟩
      rw [bFq]
      exact q cs _ ⟨G3,u3,Sub.new (Sub.refl _) hp⟩ (.inr (.inr ⟨by intro e;rw [e] at hcl';simp at hcl';omega,hc1⟩)) (by omega)
abbrev f4q:Stmt:=top 6
theorem sc_gap:FnScope ["_law_feed_here", "_law_least", "_law_many"] ["_law_feed_here", "_law_least"] (a2q f4q):=⟨rfl,rfl,rfl,by decide +kernel,rfl,by decide +kernel,by decide +kernel⟩
theorem lAq (B:Blt mg) (g_take:Got P w K mg base 1 "_law_take" ["_law_feed_here", "_law_many"] (bDq K c3q)) (F:Fun K "_law_gap" "_law_gap" f4q f fd):FnOk P w K mg base CX0 2 f fd ["_law_feed_here", "_law_least"] (bDq K hSq):=by
  refine okD (k:=1) F sc_gap (λ ds G DQ h=>?_) (λ cdv A outer s H E hr ds G DQ h=>?_)
  . obtain ⟨_,_,rfl,_⟩:=h;rfl
  obtain ⟨a,n,rfl,hF,n0,n1,q⟩:=h
  refine ⟨_,(a6q (aFq (k:=2) sc_gap.nd rfl (Or.inl rfl) (aPq (f9q rfl) rfl B.max PyProof.Rows.boot_max (a0q (a1q 1) (a0q (a8q g_take hr (by omega) rfl (a0q (a1q 0) (a0q a5q a4q))) a4q))))
      (aHq (aUq (gIq PySem.F.plainAttrs_str PySem.F.slot_str_join PySem.F.type_str_join eMq aNq (a0q (fUq rfl (CompOk.of (N':=["_law_k", "_law_feed_here"]) (nt:=1) (cap:=[0]) rfl (by kernel_rfl)) (aTq (k:=0) (by decide)) (bAq rfl B.range (a0q (a1q 2) a4q)) (λ _ _ _ _=>(b0q (k:=0) (show List.Nodup (["_law_k", "_law_feed_here"]:List Str) by decide +kernel) rfl (Or.inl rfl))) (λ _ _ _ _=>(c5q aix aNq (d5q cZq rfl B.int PyProof.Rows.boot_int (a0q (eKq (hRq (gMq hr)) (a8q g_take hr (by omega) rfl (a0q (a1q 1) (a0q a5q a4q))) a5q (b6q _)) a4q)) (λ _ _=>rfl)))) a4q))))),?_⟩
  refine ⟨hF,by decide,by decide,λ m G1 u1 m0 m1=>⟨trivial,?_⟩⟩
  obtain ⟨mx,hmx⟩:∃ mx:Int,(if m > n then m else n)=mx:=⟨_,rfl⟩
  have hx:n<=mx/\0<=mx/\mx<=3:=by rw [<- hmx];split<;>omega
  refine c1q (show -(2 ^ 62)<=(if m > n then m else n)/\(if m > n then m else n) < 2 ^ 62 by rw [hmx];omega) ?_
  have hlen:(aMq 0 (if m > n then m else n).toNat).length=mx.toNat:=by rw [aDq,hmx]
  refine bPq (λ i ds G'=>∃ cs:List Nat,ds=cs.map (λ c=>D.str ⟨#[c]⟩)/\cs.length=i/\Bls cs/\Fx a G G') ?_ ⟨[],rfl,rfl,by simp [Bls],u1⟩ (λ _ _ _ _ _=>trivial) ?_ ?_
  . show (aMq 0 (if m > n then m else n).toNat).length < sizeLine
    rw [hlen];exact bWq (by omega)
  . rintro i d ds G' hd ⟨cs,rfl,hcl,hc1,u⟩
    refine ⟨u.fd,by decide,by decide,λ k G4 u4 k0 k1=>hJq rfl rfl (show 0<=150 by decide) ?_⟩
    have fin:∀ c,c=32\/c=10->WkV (λ G'=>∃ cs':List Nat,cs.map (λ c=>D.str ⟨#[c]⟩)++[D.str ⟨#[c]⟩]=cs'.map (λ c=>D.str ⟨#[c]⟩)/\cs'.length=i+1/\Bls cs'/\Fx a G G') G4:=λ c hc=>WkV.of ⟨cs++[c],by simp,by simp [hcl],λ y hy=>by
      rcases List.mem_append.mp hy with hy | hy
      . exact hc1 y hy
      . simp at hy;subst hy;exact hc,u.trans u4⟩
    cases hb:id (eqD (.int k) (.int 2)) with
    | false=>exact ⟨by decide +kernel,32,by decide +kernel,fin 32 (.inl rfl)⟩
    | true=>exact ⟨by decide +kernel,10,by decide +kernel,fin 10 (.inr rfl)⟩
  . rintro ds G3 ⟨cs,rfl,hcl,hc1,u3⟩ p hp
    have hcl':cs.length=mx.toNat:=by rw [hcl];exact hlen
    have hsum:((cs.map λ c=>(⟨#[c]⟩:Str)).map (·.length)).sum=cs.length:=by
      clear hcl hcl' hc1
      induction cs with
      | nil=>rfl
      | cons c cs ih=>simp only [List.map_cons,List.sum_cons,List.length_cons] at *;rw [ih];show 1+_=_;omega
    refine aRq a7q ⟨cs.map λ c=>(⟨#[c]⟩:Str),by simp,by decide +kernel,by rw [hsum,List.length_map];omega,Dr.of ?_⟩
    rw [bFq]
    exact q cs _ ⟨G3,u3,Sub.new (Sub.refl _) hp⟩ hc1 (by omega) (by omega)
abbrev e1q:Stmt:=top 7
theorem sc_text:FnScope ["_law_feed_here", "_law_words", "_law_text_here", "_law_last", "_law_word_here", "_law_least"] ["_law_feed_here", "_law_words"] (a2q e1q):=⟨rfl,rfl,rfl,by decide +kernel,rfl,by decide +kernel,by decide +kernel⟩
theorem iHq (B:Blt mg) (g_gap:Got P w K mg base 2 "_law_gap" ["_law_feed_here", "_law_least"] (bDq K hSq)) (F:Fun K "_law_text" "_law_text" e1q f fd):FnOk P w K mg base CX0 3 f fd ["_law_feed_here", "_law_words"] (bDq K dSq):=by
  refine okD (k:=2) F sc_text (λ ds G DQ h=>?_) (λ cdv A outer s H E hr ds G DQ h=>?_)
  . obtain ⟨_,_,_,rfl,_⟩:=h;rfl
  obtain ⟨a,l,ws,rfl,hF,hla,hl,hw,hn,q⟩:=h
  refine ⟨_,(a6q (aFq (k:=2) sc_text.nd rfl (Or.inl rfl) (a8q g_gap hr (by omega) rfl (a0q (a1q 0) (a0q a5q a4q))))
      (a6q (aFq (k:=3) sc_text.nd rfl (Or.inl rfl) aNq)
      (a6q (hDq PassesOwn.never rfl (gCq (a1q 1)) (b0q (k:=4) sc_text.nd rfl (Or.inl rfl)) (a6q (aFq (k:=5) sc_text.nd rfl (Or.inl rfl) (d5q cZq rfl B.int PyProof.Rows.boot_int (a0q (h9q (eKq d9q (a1q 3) (hLq (a0q aNq (a0q aNq a4q))) (by with_unfolding_all rfl)) (hIq (eKq d9q (a1q 4) (hLq (a0q aNq (a0q aNq a4q))) (by with_unfolding_all rfl)))) a4q)))
      (a6q (aFq (k:=2) sc_text.nd rfl (Or.inl rfl) (aGq aKq (aGq aKq (a1q 2) (a8q g_gap hr (by omega) rfl (a0q (a1q 0) (a0q (a1q 5) a4q)))) (a1q 4)))
      (aHq (aFq (k:=3) sc_text.nd rfl (Or.inl rfl) (a1q 4))))))
      (aHq (aUq (aGq aKq (a1q 2) (a8q g_gap hr (by omega) rfl (a0q (a1q 0) (a0q a5q a4q))))))))),?_⟩
  refine ⟨a,0,rfl,hF,by omega,by omega,λ g0 G1 w1 hg0 _ gl0=>?_⟩
  have hlen:(⟨ws.map wD,λ G=>G l=some (.lst (ws.map wD))⟩:DIt).items.length=ws.length:=by show (ws.map wD).length=_;simp
  refine dLq (w1.kp hla hl) ?_
  refine ⟨λ i ρ G'=>∃ (t last:List Nat) (o4 o5:Option D),ρ=[some (.ref a),some (.ref l),some (wD t),some (wD last),o4,o5]/\Dw a G G'/\eUq t (ws.take i) last/\t.length<=3+12 * i/\i<=ws.length,⟨g0,[40],_,_,rfl,w1,by rw [List.take_zero];exact iGq hg0,by omega,Nat.zero_le _⟩,λ i ρ G' _ h=>by obtain ⟨_,_,_,_,_,w,_⟩:=h;exact w.kp hla hl,?_,?_⟩
  . rintro i d ρ G' hd ⟨t,last,o4,o5,rfl,wi,hs,htl,hil⟩
    have hd':(ws.map wD)[i]?=some d:=hd
    rw [List.getElem?_map] at hd'
    cases hwi:ws[i]? with
    | none=>rw [hwi] at hd';cases hd'
    | some wd=>
      rw [hwi] at hd'
      cases hd'
      have hwd:=hw wd (List.mem_of_getElem? hwi)
      have hil':=(List.getElem?_eq_some_iff.mp hwi).1
      have tk:ws.take (i+1)=ws.take i++[wd]:=by rw [List.take_add_one,hwi,Option.toList_some]
      have step:∀ (n:Int) (g:List Nat) (G2:DV),Dw a G' G2->Bls g->(g=[]->Brk last\/Brk wd)->g.length<=3->Wk (λ ρ G'=>∃ (t last:List Nat) (o4 o5:Option D),ρ=[some (.ref a),some (.ref l),some (wD t),some (wD last),o4,o5]/\Dw a G G'/\eUq t (ws.take (i+1)) last/\t.length<=3+12 * (i+1)/\i+1<=ws.length) [some (.ref a),some (.ref l),some (.str (wS t++wS g++wS wd)),some (wD wd),some (wD wd),some (.int n)] G2:=λ n g G2 w2 hg hgl gl=>by
        rw [hPq,hPq]
        exact Wk.of ⟨t++g++wd,wd,_,_,rfl,wi.trans w2,by rw [tk];exact f1q hs hg hwd.1 hgl,by simp only [List.length_append];omega,hil'⟩
      have lt:∀ g:List Nat,g.length<=3->(wS t).length+(wS g).length<=100000/\(wS t++wS g).length+(wS wd).length<=100000:=λ g gl=>by
        have:=hwd.2
        rw [bYq,bHq,bHq,bHq];omega
      refine ⟨rfl,rfl,⟨λ c1=>⟨rfl,rfl,?_⟩,λ c1=>?_⟩⟩
      . cases hb:(true ^^ inL (wD wd) [.str "(", .str ")"]) with
        | true=>exact ⟨a,1,rfl,wi.fd,by omega,by omega,λ g G2 w2 hg gn gl=>⟨bSq (by have:=(lt g gl).1;omega),bSq (by have:=(lt g gl).2;omega),step _ g G2 w2 hg (λ e=>by subst e;simp at gn) gl⟩⟩
        | false=>exact ⟨a,0,rfl,wi.fd,by omega,by omega,λ g G2 w2 hg gn gl=>⟨bSq (by have:=(lt g gl).1;omega),bSq (by have:=(lt g gl).2;omega),step _ g G2 w2 hg (λ _=>.inr (fCq wd hb)) gl⟩⟩
      . exact ⟨a,0,rfl,wi.fd,by omega,by omega,λ g G2 w2 hg gn gl=>⟨bSq (by have:=(lt g gl).1;omega),bSq (by have:=(lt g gl).2;omega),step _ g G2 w2 hg (λ _=>.inl (fCq last c1)) gl⟩⟩
  . rintro ρ G' ⟨t,last,o4,o5,rfl,wi,hs,htl,hil⟩
    rw [hlen,List.take_length] at hs
    rw [hlen] at htl
    refine ⟨a,0,rfl,wi.fd,by omega,by omega,λ g G2 w2 hg _ gl=>⟨bSq (by rw [bHq,bHq];omega),Dr.of (q _ _ (wi.trans w2) ?_ ?_)⟩⟩
    . rw [PySem.W.KT.app_list,bKq,bKq];exact fOq hs hg
    . rw [bYq,bHq,bHq];omega
abbrev cJq:Stmt:=top 8
theorem sc_right:FnScope ["_law_found", "_law_due", "_law_word_here"] ["_law_found", "_law_due"] (a2q cJq):=⟨rfl,rfl,rfl,by decide +kernel,rfl,by decide +kernel,by decide +kernel⟩
theorem gTq (B:Blt mg) (F:Fun K "_law_right" "_law_right" cJq f fd):FnOk P w K mg base CX0 1 f fd ["_law_found", "_law_due"] (bDq K c4q):=by
  refine okD (k:=0) F sc_right (λ ds G DQ h=>?_) (λ cdv A outer s H E hr ds G DQ h=>?_)
  . obtain ⟨_,_,_,rfl,_⟩:=h;rfl
  obtain ⟨l,l',ws,rfl,hl,hl',hn,q⟩:=h
  refine ⟨_,(a6q (cQq (AW.at (lFq (eDq (bNq (aPq dGq rfl B.isinstance PyProof.Rows.boot_isinstance (a0q (a1q 0) (a0q (g1q rfl B.list PyProof.Rows.boot_list) a4q))))) (hEq (bLq (hBq (gMq hr)) (aPq aVq rfl B.len PySem.boot_len (a0q (a1q 0) a4q)) (aPq aVq rfl B.len PySem.boot_len (a0q (a1q 1) a4q)) (b6q _))))) (aHq (aUq hTq)) bJq)
      (a6q (hDq PassesOwn.never rfl (gCq (a1q 0)) (b0q (k:=2) sc_right.nd rfl (Or.inl rfl)) (aHq (cQq (eDq (bNq (aPq dGq rfl B.isinstance PyProof.Rows.boot_isinstance (a0q (a1q 2) (a0q (g1q rfl B.str PyProof.Rows.boot_str) a4q))))) (aHq (aUq hTq)) bJq)))
      (aHq (aUq (eKq (hRq (gMq hr)) (a1q 0) (a1q 1) (b6q _)))))),?_⟩
  have hda:b4q (ws.map wD)=true:=e6q λ d hd=>by obtain ⟨w,_,rfl⟩:=List.mem_map.mp hd;rfl
  have hdp:dRq (ws.map wD)<=150:=by
    have:dRq (ws.map wD)<=0:=fTq λ d hd=>by obtain ⟨w,_,rfl⟩:=List.mem_map.mp hd;exact Nat.le_refl _
    omega
  have here:dKq (ws.map wD) (ws.map wD)=true:=c0q hda
  refine aRq hl ⟨true,rfl,⟨nofun,λ _=>aRq hl (aRq hl' ?_)⟩⟩
  refine ⟨λ c=>?_,λ _=>?_⟩
  . have c':(!((ws.map wD).length==(ws.map wD).length:Bool))=true:=by simpa using c
    simp at c'
  refine dLq hl ?_
  refine ⟨λ i ρ G'=>∃ o2:Option D,ρ=[some (.ref l),some (.ref l'),o2]/\G=G',⟨_,rfl,rfl⟩,λ i ρ G' _ h=>by obtain ⟨_,_,rfl⟩:=h;exact hl,?_,?_⟩
  . rintro i d ρ G' hd ⟨o2,rfl,rfl⟩
    have hd':(ws.map wD)[i]?=some d:=hd
    obtain ⟨w,_,rfl⟩:=List.mem_map.mp (List.mem_of_getElem? hd')
    exact ⟨true,rfl,⟨nofun,λ _=>Wk.of ⟨_,rfl,rfl⟩⟩⟩
  . rintro ρ G' ⟨o2,rfl,rfl⟩
    refine aRq hl (aRq hl' ⟨hda,hda,hdp,Dr.of ?_⟩)
    rw [here];exact q
abbrev cIq:Stmt:=top 9
theorem sc_law:FnScope ["_law_script", "_law_feed_here", "_law_words", "_law_text_here", "_law_others", "_law_other", "_law_found"] ["_law_script"] (a2q cIq):=⟨rfl,rfl,rfl,by decide +kernel,rfl,by decide +kernel,by decide +kernel⟩
theorem jQq (B:Blt mg) (g_feed:Got P w K mg base 1 "_law_feed" ["_law_script", "_law_k"] (bDq K d1q)) (g_take:Got P w K mg base 1 "_law_take" ["_law_feed_here", "_law_many"] (bDq K c3q)) (g_word:Got P w K mg base 2 "_law_word" ["_law_feed_here"] (bDq K cMq)) (g_text:Got P w K mg base 3 "_law_text" ["_law_feed_here", "_law_words"] (bDq K dSq)) (g_words:Got P w K mg base 1 "words_of" ["text"] (bDq K cSq)) (g_right:Got P w K mg base 1 "_law_right" ["_law_found", "_law_due"] (bDq K c4q)) (F:Fun K "law" "law" cIq f fd):FnOk P w K mg base CX0 20 f fd ["_law_script"] (bDq K hOq):=by
  refine okD (k:=19) F sc_law (λ ds G DQ h=>?_) (λ cdv A outer s H E hr ds G DQ h=>?_)
  . obtain ⟨_,rfl,_⟩:=h;rfl
  obtain ⟨ns,rfl,hl,q⟩:=h
  refine ⟨_,(a6q (aFq (k:=1) sc_law.nd rfl (Or.inr rfl) (a8q g_feed hr (by omega) rfl (a0q (a1q 0) (a0q a5q a4q))))
      (a6q (cGq (k:=2) rfl sc_law.nd rfl (Or.inl rfl) (CompOk.of (N':=["_law_k", "_law_feed_here"]) (nt:=1) (cap:=[1]) rfl (by kernel_rfl)) (aTq (k:=0) (by decide)) (bAq rfl B.range (a0q (a8q g_take hr (by omega) rfl (a0q (a1q 1) (a0q a5q a4q))) a4q)) (λ _ _ _ _=>(b0q (k:=0) (show List.Nodup (["_law_k", "_law_feed_here"]:List Str) by decide +kernel) rfl (Or.inl rfl)))  (λ _ _ _ _=>(a8q g_word hr (by omega) rfl (a0q (a1q 1) a4q))))
      (a6q (aFq (k:=3) sc_law.nd rfl (Or.inl rfl) (a8q g_text hr (by omega) rfl (a0q (a1q 1) (a0q (a1q 2) a4q))))
      (a6q (aFq (k:=1) sc_law.nd rfl (Or.inr rfl) (a8q g_feed hr (by omega) rfl (a0q (a1q 0) (a0q a5q a4q))))
      (a6q (cGq (k:=4) rfl sc_law.nd rfl (Or.inl rfl) (CompOk.of (N':=["_law_k", "_law_feed_here"]) (nt:=1) (cap:=[1]) rfl (by kernel_rfl)) (aTq (k:=0) (by decide)) (bAq rfl B.range (a0q (a8q g_take hr (by omega) rfl (a0q (a1q 1) (a0q a5q a4q))) a4q)) (λ _ _ _ _=>(b0q (k:=0) (show List.Nodup (["_law_k", "_law_feed_here"]:List Str) by decide +kernel) rfl (Or.inl rfl)))  (λ _ _ _ _=>(a8q g_word hr (by omega) rfl (a0q (a1q 1) a4q))))
      (a6q (aFq (k:=5) sc_law.nd rfl (Or.inl rfl) (a8q g_text hr (by omega) rfl (a0q (a1q 1) (a0q (a1q 4) a4q))))
      (a6q (aFq (k:=6) sc_law.nd rfl (Or.inl rfl) (a8q g_words hr (by omega) rfl (a0q (a1q 3) a4q)))
      (a6q (cQq (AW.at (lFq (eDq (bNq (a8q g_right hr (by omega) rfl (a0q (a1q 6) (a0q (a1q 2) a4q))))) (hEq (eDq (bNq (a8q g_right hr (by omega) rfl (a0q (a8q g_words hr (by omega) rfl (a0q (a1q 5) a4q)) (a0q (a1q 4) a4q)))))))) (aHq (aUq hTq)) bJq)
      (a6q (iQq (gIq PySem.F.plainAttrs_list PySem.F.slot_list_append PySem.F.type_list_append eXq (a1q 6) (a0q aNq a4q)))
      (a6q (fPq aNq (g7q (a1q 6) a5q))
      (aHq (aUq (h9q (a8q g_right hr (by omega) rfl (a0q (a8q g_words hr (by omega) rfl (a0q (a1q 3) a4q)) (a0q (a1q 2) a4q))) (hIq (a8q g_right hr (by omega) rfl (a0q (a8q g_words hr (by omega) rfl (a0q (aGq aKq aNq (a1q 3)) a4q)) (a0q (a1q 2) a4q))))))))))))))))),?_⟩
  refine ⟨ns,rfl,hl,by omega,by omega,λ a xa ya ha=>⟨.up,by decide,by decide,λ m G1 u1 m0 m1=>c1q (by omega) ?_⟩⟩
  refine cBq a wD (λ w=>Wd w/\w.length<=9) ?_ (λ _=>trivial) u1.fd (λ d G R hf hR=>⟨a,rfl,hf,λ w G' wd hw hwl=>hR w G' wd ⟨hw,hwl⟩⟩) λ ws G2 hwl hws u2 p hp=>?_
  . show (aMq 0 (m:Int).toNat).length<=1000
    rw [aDq];omega
  have hwl':ws.length=m.toNat:=by
    have e:ws.length=(aMq 0 (m:Int).toNat).length:=hwl
    rw [aDq] at e;exact e
  refine ⟨a,p,ws,rfl,u2.fd.new hp,u2.fd.ne hp,a7q,hws,by omega,λ z1 G3 w3 hz1 zl1=>?_⟩
  have hp3:G3 p=some (.lst (ws.map wD)):=w3.kp (u2.fd.ne hp) a7q
  refine ⟨ns,rfl,hl,by omega,by omega,λ a' xa' ya' ha'=>⟨.up,by decide,by decide,λ m' G4 u4 m0' m1'=>c1q (by omega) ?_⟩⟩
  have npa:p≠a':=by rintro rfl;rw [hp3] at ha';cases ha'
  have hp4:G4 p=some (.lst (ws.map wD)):=u4.kp npa (by rw [aOq npa];exact hp3)
  refine cBq a' wD (λ w=>Wd w/\w.length<=9) ?_ (λ _=>trivial) u4.fd (λ d G R hf hR=>⟨a',rfl,hf,λ w G' wd hw hwl=>hR w G' wd ⟨hw,hwl⟩⟩) λ ws' G5 hwl2 hws2 u5 p' hp'=>?_
  . show (aMq 0 (m':Int).toNat).length<=1000
    rw [aDq];omega
  have hwl2':ws'.length=m'.toNat:=by
    have e:ws'.length=(aMq 0 (m':Int).toNat).length:=hwl2
    rw [aDq] at e;exact e
  have hp5:G5 p=some (.lst (ws.map wD)):=u5.kp npa hp4
  have npp:p≠p':=by rintro rfl;rw [hp5] at hp';cases hp'
  refine ⟨a',p',ws',rfl,u5.fd.new hp',u5.fd.ne hp',a7q,hws2,by omega,λ z2 G6 w6 hz2 zl2=>?_⟩
  have hp6:G6 p=some (.lst (ws.map wD)):=w6.kp npa (by rw [aOq npp];exact hp5)
  have hq6:G6 p'=some (.lst (ws'.map wD)):=w6.kp (u5.fd.ne hp') a7q
  refine ⟨z1,rfl,by omega,λ l1 hl1=>?_⟩
  rw [hz1]
  have n1:∀ {b:Addr} {o:DO},G6 b=some o->b≠l1:=λ{b o} e=>by rintro rfl;rw [hl1] at e;cases e
  refine ⟨l1,p,ws,rfl,a7q,by rw [aOq (n1 hp6)];exact hp6,by omega,⟨nofun,λ _=>?_⟩⟩
  refine ⟨z2,rfl,by omega,λ l2 hl2=>?_⟩
  rw [hz2]
  have n2:∀ {b:Addr} {o:DO},up G6 l1 (.lst (ws.map wD)) b=some o->b≠l2:=λ{b o} e=>by rintro rfl;rw [hl2] at e;cases e
  have k1:∀ {b:Addr} {o:DO},G6 b=some o->up G6 l1 (.lst (ws.map wD)) b=some o:=λ{b o} e=>by rw [aOq (n1 e)];exact e
  have k2:∀ {b:Addr} {o:DO},G6 b=some o->up (up G6 l1 (.lst (ws.map wD))) l2 (.lst (ws'.map wD)) b=some o:=λ{b o} e=>by rw [aOq (n2 (k1 e))];exact k1 e
  have e1:up (up G6 l1 (.lst (ws.map wD))) l2 (.lst (ws'.map wD)) l1=some (.lst (ws.map wD)):=by rw [aOq (n2 a7q)];exact a7q
  refine ⟨l2,p',ws',rfl,a7q,k2 hq6,by omega,⟨nofun,λ _=>?_⟩⟩
  refine ⟨aRq e1 trivial,e8q e1 ⟨bWq (by rw [List.length_map];omega),?_⟩⟩
  generalize hV:up (up G6 l1 (.lst (ws.map wD))) l2 (.lst (ws'.map wD))=V at e1 k2
  refine e8q a7q ⟨0,by unfold ixN;rw [if_pos (by decide),if_pos (by simp only [List.length_append,List.length_cons];omega)];rfl,?_⟩
  rw [kZq]
  have k3:∀ {b:Addr} {o u:DO},G6 b=some o->up V l1 u b=some o:=λ{b o u} e=>by rw [aOq (n1 e)];exact k2 e
  refine ⟨z1,rfl,by omega,λ l3 hl3=>?_⟩
  rw [hz1]
  have n3:∀ {b:Addr} {o:DO},G6 b=some o->b≠l3:=λ{b o} e=>by rintro rfl;rw [k3 e] at hl3;cases hl3
  refine ⟨l3,p,ws,rfl,a7q,by rw [aOq (n3 hp6)];exact k3 hp6,by omega,⟨λ _=>?_,nofun⟩⟩
  have lb:((" \n" : String):Str).length=2:=by decide +kernel
  have e32:((" \n" : String):Str).cps.toList=[32,10]:=by decide +kernel
  refine ⟨bSq (by rw [lb];omega)," \n"++z1,rfl,by rw [bYq,lb];omega,λ l4 hl4=>?_⟩
  rw [show wds [] ((((" \n" : String):Str)++z1).cps.toList)=ws by rw [PySem.W.KT.app_list,e32,bUq (g:=[32,10]) _ (by intro c hc;simp at hc;omega)];exact hz1]
  have n4:p≠l4:=by
    rintro rfl
    rw [aOq (n3 hp6),k3 hp6] at hl4;cases hl4
  exact ⟨l4,p,ws,rfl,a7q,by rw [aOq n4,aOq (n3 hp6)];exact k3 hp6,by omega,Dr.of (q _)⟩
end
end KB
namespace KB
open PySem L2 L3
set_option maxHeartbeats 4000000
theorem kHq {l:PySem.W.OpenLaw} {w:World} {K:PySem.W.Frag} {h:Heap} {mg:Str->Option Value} {fa  : Addr} (X:K.In h) (G:h.Ns mainGlobals mg) (hfa:mg "law" = some (.ref fa))
    (d0:DT K "words_of" cRq) (d1:DT K "_law_feed" dPq) (d2:DT K "_law_take" dJq) (d3:DT K "_law_word" dOq) (d4:DT K "_law_gap" f4q) (d5:DT K "_law_text" e1q) (d6:DT K "_law_right" cJq) (d7:DT K "law" cIq) (z0:PySem.W.nsIn K mainGlobals "len" = some none) (z1:PySem.W.nsIn K mainGlobals "isinstance" = some none) (z2:PySem.W.nsIn K mainGlobals "range" = some none) (z3:PySem.W.nsIn K mainGlobals "int" = some none) (z4:PySem.W.nsIn K mainGlobals "bool" = some none) (z5:PySem.W.nsIn K mainGlobals "str" = some none) (z6:PySem.W.nsIn K mainGlobals "tuple" = some none) (z7:PySem.W.nsIn K mainGlobals "list" = some none) (z8:PySem.W.nsIn K mainGlobals "sorted" = some none) (z9:PySem.W.nsIn K mainGlobals "all" = some none) (z10:PySem.W.nsIn K mainGlobals "max" = some none)
    : ∃ fd:FuncData,(∀ (s:Shared) (v:Value),BindsTo s fd ⟨[v],[]⟩ [("_law_script", v)])/\∀ base:Heap,K.In base->base.Ns mainGlobals mg->FnOk l.prog w K mg base CX0 20 fa fd ["_law_script"] (eEq K):=by
  obtain ⟨f0,_,a_words,F_words⟩:=d0.ok
  have b_words:=F_words.binds (ps:=bXq) λ _ _ _ _ _ _ us hl=>match us,hl with | [_],_=>rfl
  have m_words:=PySem.W.mg_of X G a_words
  have kp_words:=F_words.kp
  obtain ⟨f1,_,a_feed,F_feed⟩:=d1.ok
  have b_feed:=F_feed.binds (ps:=cEq) λ _ _ _ _ _ _ us hl=>match us,hl with | [_,_],_=>rfl
  have m_feed:=PySem.W.mg_of X G a_feed
  have kp_feed:=F_feed.kp
  obtain ⟨f2,_,a_take,F_take⟩:=d2.ok
  have b_take:=F_take.binds (ps:=cCq) λ _ _ _ _ _ _ us hl=>match us,hl with | [_,_],_=>rfl
  have m_take:=PySem.W.mg_of X G a_take
  have kp_take:=F_take.kp
  obtain ⟨f3,_,a_word,F_word⟩:=d3.ok
  have b_word:=F_word.binds (ps:=cDq) λ _ _ _ _ _ _ us hl=>match us,hl with | [_],_=>rfl
  have m_word:=PySem.W.mg_of X G a_word
  have kp_word:=F_word.kp
  obtain ⟨f4,_,a_gap,F_gap⟩:=d4.ok
  have b_gap:=F_gap.binds (ps:=dHq) λ _ _ _ _ _ _ us hl=>match us,hl with | [_,_],_=>rfl
  have m_gap:=PySem.W.mg_of X G a_gap
  have kp_gap:=F_gap.kp
  obtain ⟨f5,_,a_text,F_text⟩:=d5.ok
  have b_text:=F_text.binds (ps:=cHq) λ _ _ _ _ _ _ us hl=>match us,hl with | [_,_],_=>rfl
  have m_text:=PySem.W.mg_of X G a_text
  have kp_text:=F_text.kp
  obtain ⟨f6,_,a_right,F_right⟩:=d6.ok
  have b_right:=F_right.binds (ps:=bVq) λ _ _ _ _ _ _ us hl=>match us,hl with | [_,_],_=>rfl
  have m_right:=PySem.W.mg_of X G a_right
  have kp_right:=F_right.kp
  have B:Blt mg:=⟨PySem.W.mg_none_of X G z0,PySem.W.mg_none_of X G z1,PySem.W.mg_none_of X G z2,PySem.W.mg_none_of X G z3,PySem.W.mg_none_of X G z4,PySem.W.mg_none_of X G z5,PySem.W.mg_none_of X G z6,PySem.W.mg_none_of X G z7,PySem.W.mg_none_of X G z8,PySem.W.mg_none_of X G z9,PySem.W.mg_none_of X G z10⟩
  obtain ⟨f7,_,a_law,F_law⟩:=d7.ok
  cases hfa.symm.trans (PySem.W.mg_of X G a_law)
  obtain ⟨_,_,kV,dc,pm,an,cd,ct,_,rfl,l9,c9⟩:=F_law.ex
  refine ⟨PySem.W.fnOf "law" "law" (aYq cIq) (aJq cIq) (a2q cIq) .none kV dc pm an cd ct,λ s v=>.of_eq rfl,λ base _ _ =>?_⟩
  have g_words:Got l.prog w K mg base 1 "words_of" bXq (bDq K cSq):=⟨_,_,gZq B F_words,m_words,kp_words,b_words⟩
  have g_feed:Got l.prog w K mg base 1 "_law_feed" cEq (bDq K d1q):=⟨_,_,hZq B F_feed,m_feed,kp_feed,b_feed⟩
  have g_take:Got l.prog w K mg base 1 "_law_take" cCq (bDq K c3q):=⟨_,_,iLq F_take,m_take,kp_take,b_take⟩
  have g_word:Got l.prog w K mg base 2 "_law_word" cDq (bDq K cMq):=⟨_,_,iSq B g_take F_word,m_word,kp_word,b_word⟩
  have g_gap:Got l.prog w K mg base 2 "_law_gap" dHq (bDq K hSq):=⟨_,_,lAq B g_take F_gap,m_gap,kp_gap,b_gap⟩
  have g_text:Got l.prog w K mg base 3 "_law_text" cHq (bDq K dSq):=⟨_,_,iHq B g_gap F_text,m_text,kp_text,b_text⟩
  have g_right:Got l.prog w K mg base 1 "_law_right" bVq (bDq K c4q):=⟨_,_,gTq B F_right,m_right,kp_right,b_right⟩
  exact jQq B g_feed g_take g_word g_text g_words g_right F_law
theorem o1q {l:PySem.W.OpenLaw} {q:Program} {loose:List Str} {XP:(Str->Option Value)->Heap->Prop} {YP:World->Heap->Prop} {d:DefRec} {K:Params->PySem.W.Frag} (hn:l.most=some 63) (hdf:d.params.defaults=[])
    (hY:∀ (w:World) (h:Heap),YP w h->(K w.params).In h)
    (F:∀ (w:World) (mg:Str->Option Value) (fa:Addr) (h:Heap),(K w.params).In h->h.Ns mainGlobals mg->mg d.name=some (.ref fa) →
      ∃ fd:FuncData,(∀ (s:Shared) (u:Value),BindsTo s fd ⟨[u],[]⟩ [("_law_script", u)])/\∀ base:Heap,(K w.params).In base->base.Ns mainGlobals mg->FnOk l.prog w (K w.params) mg base CX0 20 fa fd ["_law_script"] (eEq (K w.params))) :
    PySem.W.WalkO q loose XP YP l.row.toRowW d [] (λ f vs=>PySem.call f vs):=
  L2.iTq (n:=63) (k:=20) (x:="_law_script") (CX:=λ _=>CX0) (sp:=λ w=>eEq (K w.params)) hn (by decide) hdf ⟨rfl,by decide,by decide⟩ hY F (λ _ _ a ns hl o hS=>lEq hl o hS) λ _ _ _ _ _ z=>z
end KB
def PySem.W.Fast.tw7515387560348242368:=0
def PySem.W.Fast.tw15231095459671267189:=0
def PySem.W.Fast.tw18256494844719130181:=0
def PySem.W.Fast.tw240817947597759145:=0
def PySem.W.Fast.tw17700593694186569189:=0
def PySem.W.Fast.tw5161271576978453620:=0
def PySem.W.Fast.tw14510457161152982993:=0
def PySem.W.Fast.tw12451687712818510226:=0
def PySem.W.Fast.tw3692203658251140013:=0
def PySem.W.Fast.tw12238501391546079239:=0
def PySem.W.Fast.tw7820037121165022947:=0
def PySem.W.Fast.tw16766772231727024724:=0
def PySem.W.Fast.tw4154717471459175790:=0
def PySem.W.Fast.tw4915641444349036072:=0
def PySem.W.Fast.tw1710927111225719720:=0
def PySem.W.Fast.tw15888134954166788068:=0
def PySem.W.Fast.tw4117768345350657172:=0
def PySem.W.Fast.tw9312834728490696434:=0
def PySem.W.Fast.tw6749341809087975059:=0
def PySem.W.Fast.tw6087258940825645940:=0
def PySem.W.Fast.tw3988866828434441462:=0
def PySem.W.Fast.tw4072104525201261308:=0
def PySem.W.Fast.tw4772226832710377460:=0
def PySem.W.Fast.tw7102353682471500403:=0
def PySem.W.Fast.tw10212885295115629537:=0
def PySem.W.Fast.tw14504781359517237312:=0
def PySem.W.Fast.tw1045123312099793182:=0
def PySem.W.Fast.tw4879160037227199232:=0
def PySem.W.Fast.tw12627481894095333734:=0
def PySem.W.Fast.tw15013134691684580601:=0
def PySem.W.Fast.tw7136719189067128163:=0
def PySem.W.Fast.tw8756617146767432018:=0
def PySem.W.Fast.tw11007976131126168896:=0
def PySem.W.Fast.tw4137683280525445271:=0
def PySem.W.Fast.tw14198279112551703053:=0
def PySem.W.Fast.tw13354685725730801571:=0
def PySem.W.Fast.tw783779628832298104:=0
def PySem.W.Fast.tw1018892275730917199:=0
def PySem.W.Fast.tw10305156792801752000:=0
def PySem.W.Fast.tw4931358635650911178:=0
open PySem PySem.W PyProof.Rows
set_option maxRecDepth 100000 in
set_option maxHeartbeats 0 in
theorem PySem.Challenge.cw_kindbags_k12_words_of_texts_holds : PySem.Challenge.rw_kindbags_k12_words_of_texts.Holds := by
  w_on; o_law; k_head; (case hw => w_witness2)
  k_fill
  refine KB.o1q (l := PySem.Challenge.rw_kindbags_k12_words_of_texts) rfl rfl (fun w h Y => PySem.W.kIn_of Y) ?F
  case F =>
    intro w mg fa h KX G hmg
    refine' KB.kHq KX G hmg ?_ ?_ ?_ ?_ ?_ ?_ ?_ ?_ ?_ ?_ ?_ ?_ ?_ ?_ ?_ ?_ ?_ ?_ ?_
    all_goals first | k_is | (refine' L3.DT.mk ?_ ?_ ?_ ?_ <;> try k_is) | (refine' L3.DM.mk ?_ ?_ ?_ ?_ ?_ <;> try k_is) | (refine' L3.DTc.mk ?_ ?_ ?_ ?_ <;> try k_is) | (refine' L3.DMc.mk ?_ ?_ ?_ ?_ ?_ <;> try k_is) | skip
