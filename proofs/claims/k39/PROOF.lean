import PyProof.Rows.All
import Wide.All
import OpenK.AllK
import Wide.FinOn
import Lean
import PyProof.EqAt
import PyProof.EqKinds
import PyProof.TupleCall
import PySem.Challenge.RW_kindbags_k39_papers_in_order
open List renaming mem_cons_self->Ya,length_cons->Yb,mem_cons_of_mem->Yc,mem_cons->Yd,size_toArray->Ye,length_map->Yf,length_append->Yg,map_cons->Yh,getElem?_eq_getElem->Yi,length_nil->Yj,mem_append_right->Yk,mem_map->Yl,length_reverse->Ym,not_mem_nil->Yn,append_assoc->Yo,replicate->Yp,mem_append->Yq,getD_eq_getElem?_getD->Yr,range->Ys,append_nil->Yt,getElem?_eq_some_iff->Yu,cons_append->Yv,getElem?_map->Yw,getElem_mem->Yx,map_map->Yy,length_drop->Yz,Nodup->YA,all_cons->YB,flatMap_cons->YC,mem_map_of_mem->YD,mem_range->YE,map_nil->YF,mem_append_left->YG,reverse_cons->YH,drop_zero->YI,length->YJ,length_take->YK,mem_of_getElem?->YL,nil_append->YM,Pairwise->YN,replicate_succ->YO,map_append->YQ,length_eq_zero_iff->YR,nodup_cons->YS,getElem?_append_left->YT,any_cons->YU,length_singleton->YV,take_length->YW,getElem?_eq_none->YX,take_add_one->YY,drop_eq_getElem_cons->YZ,getElem_map->Y0,flatMap_append->Y1,getElem?_append_right->Y2,flatten_cons->Y3,all_eq_true->Y4,toArray->Y5,ext_getElem->Y6,pairwise_cons->Y7,sum_cons->Y8,lookup_cons->Y9,find?_cons->Za,length_range->Zb,length_pos_iff->Zc,getElem?_set_ne->Zd,getElem?_replicate->Ze,length_replicate->Zf,getElem?_reverse->Zg,perm_nil->Zh,take_of_length_le->Zi,drop_eq_nil_of_le->Zj,drop_succ_cons->Zk,drop_length->Zl,map_id->Zm,mem_reverse->Zn
set_option Elab.async false
set_option linter.all false
set_option maxRecDepth 100000
namespace L2
open PySem PySem.Spec PyProof.Rows
abbrev Key:=Sum Int Str
def aF6q:Key->Value->Bool
  | .inl k,v=>Value.isInt k v
  | .inr x,v=>Value.isStrOf x v
def keyH (w:World):Key->Int
  | .inl k=>hashInt k
  | .inr x=>hashStr w x
theorem bIq:∀ {k:Key} {v:Value},aF6q k v=true->(∃ i t,k=Sum.inl i/\v=Value.int i t)\/(∃ x t,k=Sum.inr x/\v=Value.str x t)
  | .inl i,v,h=>by
    obtain ⟨t,e⟩:=Value.isInt_shape (k:=i) (v:=v) h
    exact .inl ⟨i,t,rfl,e⟩
  | .inr x,v,h=>by
    obtain ⟨t,e⟩:=Value.isStrOf_shape (x:=x) (v:=v) h
    exact .inr ⟨x,t,rfl,e⟩
theorem zYq (a b:Int):decide ((Sum.inl a:Key)=Sum.inl b)=(a==b):=by
  by_cases e:a=b
  . subst e;simp
  . have h:¬ (Sum.inl a:Key)=Sum.inl b:=λ q=>e (Sum.inl.inj q)
    rw [decide_eq_false h]
    exact (beq_eq_false_iff_ne.mpr e).symm
theorem zEq (a b:Str):decide ((Sum.inr a:Key)=Sum.inr b)=decide (a=b):=by
  by_cases e:a=b
  . subst e;simp
  . have h:¬ (Sum.inr a:Key)=Sum.inr b:=λ q=>e (Sum.inr.inj q)
    rw [decide_eq_false h,decide_eq_false e]
theorem aC8q (a:Int) (b:Str):decide ((Sum.inl a:Key)=Sum.inr b)=false:=decide_eq_false (λ q=>nomatch q)
theorem aJ5q (a:Str) (b:Int):decide ((Sum.inr a:Key)=Sum.inl b)=false:=decide_eq_false (λ q=>nomatch q)
def kOq (prog:Program) (w:World):PySem.KeyKind prog w Key where
  is:=aF6q
  hash:=keyH w
  inj:=λ v a b ha hb=>by
    rcases bIq ha with ⟨i,t,rfl,rfl⟩ | ⟨x,t,rfl,rfl⟩
    . rcases bIq hb with ⟨j,u,rfl,e⟩ | ⟨y,u,rfl,e⟩
      . injection e with e1 _;rw [e1]
      . exact nomatch e
    . rcases bIq hb with ⟨j,u,rfl,e⟩ | ⟨y,u,rfl,e⟩
      . exact nomatch e
      . injection e with e1 _;rw [e1]
  byValue:=λ k v h=>by
    rcases bIq h with ⟨i,t,rfl,rfl⟩ | ⟨x,t,rfl,rfl⟩<;>rfl
  pyHash:=λ hv h=>by
    rcases bIq hv with ⟨i,t,rfl,rfl⟩ | ⟨x,t,rfl,rfl⟩
    . exact wpAny_pyHash_int h
    . exact wpAny_pyHash_str h
  eqBool:=λ hu hv h=>by
    rcases bIq hu with ⟨i,t,rfl,rfl⟩ | ⟨x,t,rfl,rfl⟩
    . rcases bIq hv with ⟨j,u,rfl,rfl⟩ | ⟨y,u,rfl,rfl⟩
      . rw [zYq] at h;exact wpAny_eqBool_int h
      . rw [aC8q] at h;exact SeqAt.EqAt.int_str i t y u _ _ _ _ h
    . rcases bIq hv with ⟨j,u,rfl,rfl⟩ | ⟨y,u,rfl,rfl⟩
      . rw [aJ5q] at h;exact SeqAt.EqAt.str_int x t j u _ _ _ _ h
      . rw [zEq] at h;exact wpAny_eqBool_str h
  «strs»:=λ k x t v h=>by
    rcases bIq h with ⟨i,u,rfl,e⟩ | ⟨y,u,rfl,e⟩
    . exact nomatch e
    . injection e with e1 _
      subst e1
      cases v<;>rfl
inductive V where
  | non | bl (b:Bool) | int (i:Int) | str (x:Str) | byt (b:Array UInt8) | flt (b:UInt64) | ref (a:Addr) | ty (n:String)
  deriving DecidableEq
def RelV:V->Value->Prop
  | .non,u=>u=Value.none
  | .bl b,u=>u=Value.bool b
  | .int i,u=>∃ t,u=Value.int i t
  | .str x,u=>∃ t,u=Value.str x t
  | .byt b,u=>∃ t,u=Value.bytes b t
  | .flt b,u=>∃ t,u=Value.float b t
  | .ref a,u=>u=Value.ref a
  | .ty n,u=>u=Value.type n
abbrev Vals:List V->List Value->Prop:=Paired RelV
theorem Vals.length {xs:List V} {us:List Value} (r:Vals xs us):xs.length=us.length:=Paired.length r
theorem Vals.get:∀ {xs:List V} {us:List Value} {i:Nat} {x:V},Vals xs us->xs[i]?=some x->∃ u,us[i]?=some u/\RelV x u
  | _,_,_,_,.nil,e=>by simp at e
  | _,_,0,_,.cons r _,e=>by simp at e;subst e;exact ⟨_,rfl,r⟩
  | _,_,i+1,x,.cons _ t,e=>by
    obtain ⟨u,h1,h2⟩:=Vals.get (i:=i) (x:=x) t (by simpa using e)
    exact ⟨u,by simpa using h1,h2⟩
theorem Vals.set {x:V} {u:Value} (r:RelV x u):∀ {xs:List V} {us:List Value} (i:Nat),Vals xs us->Vals (xs.set i x) (us.set i u)
  | _,_,_,.nil=>.nil
  | _,_,0,.cons _ t=>.cons r t
  | _,_,i+1,.cons q t=>.cons q (Vals.set r i t)
theorem Vals.append:∀ {xs ys:List V} {us ws:List Value},Vals xs us->Vals ys ws->Vals (xs++ys) (us++ws)
  | _,_,_,_,.nil,s=>s
  | _,_,_,_,.cons r t,s=>.cons r (Vals.append t s)
theorem Vals.take:∀ {xs:List V} {us:List Value} (n:Nat),Vals xs us->Vals (xs.take n) (us.take n)
  | _,_,0,_=>.nil
  | _,_,_+1,.nil=>.nil
  | _,_,n+1,.cons r t=>.cons r (Vals.take n t)
theorem Vals.drop:∀ {xs:List V} {us:List Value} (n:Nat),Vals xs us->Vals (xs.drop n) (us.drop n)
  | _,_,0,r=>r
  | _,_,_+1,.nil=>.nil
  | _,_,n+1,.cons _ t=>Vals.drop n t
def RelO:Option V->Option Value->Prop
  | some v,some u=>RelV v u
  | none,none=>True
  | _,_=>False
def KV {κ:Type}:List (κ × V)->List (κ × Value)->Prop:=Paired λ(p:κ × V) (q:κ × Value)=>p.1=q.1/\RelV p.2 q.2
def kV:Key->V
  | .inl i=>.int i
  | .inr x=>.str x
inductive HO where
  | lst (xs:List V)
  | tup (xs:List V)
  | dK (kvs:List (Key × V)) | dT (kvs:List (List Key × V))
  | set (S:Int->Bool) (n:Nat)
  | ins (C dx:Addr) (fs:List (Str × V))
  | own (x:Addr)
  | xd (fs:List (Str × V))
  | met (f x:Addr)
  | rng (lo hi:Int)
  | frz (o:Obj) (u:HO)
  | tbl (ps:Array Value)
  | ext (φ:Heap->Prop)
abbrev Hp:=Addr->Option HO
def upd (H:Hp) (a:Addr) (o:HO):Hp:=λ b=>if b=a then some o else H b
theorem bKq {H:Hp} {a:Addr} {o:HO}:upd H a o a=some o:=by unfold upd;rw [if_pos rfl]
theorem aUq {H:Hp} {a b:Addr} {o:HO} (h:b≠a):upd H a o b=H b:=by unfold upd;rw [if_neg h]
theorem b0q {H:Hp} {a b:Addr} {o:HO} (h:H a=some o) (h':H b=none):a≠b:=by
  intro e;subst e;rw [h] at h';cases h'
section
variable (P:Program) (w:World)
def ObjOk (H:Hp) (h:Heap) (a:Addr):HO->Prop
  | .lst xs=>xs.length<=sizeLine/\∃ (its:List Value) (n:Nat),Vals xs its/\h.get? a=some { cls:=.type "list", data:=.seq its.toArray n }
  | .tup xs=>xs.length<=sizeLine/\∃ its:List Value,Vals xs its/\IsTup h a its.toArray
  | .dK kvs=>kvs.length<=sizeLine/\(a==sysModules)=false/\∃ vs,KV kvs vs/\h.DictOf (kOq P w) a vs
  | .dT kvs=>kvs.length<=sizeLine/\(a==sysModules)=false/\∃ xs:List (List Key × Addr × Value),
      Paired (λ(p:List Key × V) (q:List Key × Addr × Value)=>p.1=q.1/\H q.2.1=some (.tup (p.1.map kV))/\RelV p.2 q.2.2) kvs xs ∧
      ∃ o es ep,h.get? a=some o/\o.ExactDict/\o.data=.dict es ep/\es.toList=xs.map (entryOfKey (tupleKind (kOq P w)))/\(xs.map (·.1)).Nodup
  | .set S n=>h.SetOf (intKind P w) a S n
  | .ins C dx fs=>H dx=some (.own a)/\fs.length<=1000/\dx≠a/\h.get? a=some (PySem.W.instObj C dx) ∧
      ∃ mA,h.Ns1 dx mA/\(∀ f,RelO (fs.lookup f) (mA f))/\PySem.Within mA (fs.map (·.1))
  | .own _=>∃ o,h.get? a=some o
  | .xd fs=>∃ mA,h.Ns1 a mA/\∀ f,RelO (fs.lookup f) (mA f)
  | .rng lo hi=>∃ t u v,h.get? a=some { cls:=.type "range", data:=.fields #[.int lo t,.int hi u,.int 1 v] }
  | .frz o u=>h.get? a=some o/\ObjOk H h a u
  | .tbl ps=>h.get? a=some { cls:=.none,data:=.fields ps }
  | .met f x=>h.get? a=some (PySem.W.methodObj (.ref f) (.ref x))
  | .ext φ=>φ h/\(∃ o,h.get? a=some o)/\∀ h1 h2:Heap,φ h1->(∀ o,h1.get? a=some o->h2.get? a=some o)->φ h2
def HOk (H:Hp) (h:Heap):Prop:=∀ a o,H a=some o->ObjOk P w H h a o
end
section
variable {P:Program} {w:World} {H H':Hp} {h h':Heap} {a:Addr} {o:HO}
theorem ObjOk.lt (x:ObjOk P w H h a o):a < h.objs.size:=by
  cases o with
  | lst xs=>obtain ⟨_,_,_,_,e⟩:=x;exact Heap.lt_size e
  | tup xs=>obtain ⟨_,_,_,p⟩:=x;exact p.lt
  | dK kvs=>obtain ⟨_,_,_,_,o,_,_,e,_⟩:=x;exact Heap.lt_size e
  | dT kvs=>obtain ⟨_,_,_,_,o,_,_,e,_⟩:=x;exact Heap.lt_size e
  | set S n=>obtain ⟨o,_,_,_,e,_⟩:=x;exact Heap.lt_size e
  | ins C dx fs=>obtain ⟨_,_,_,e,_⟩:=x;exact Heap.lt_size e
  | own y=>obtain ⟨_,e⟩:=x;exact Heap.lt_size e
  | xd fs=>obtain ⟨_,⟨_,_,_,e,_⟩,_⟩:=x;exact Heap.lt_size e
  | rng lo hi=>obtain ⟨_,_,_,e⟩:=x;exact Heap.lt_size e
  | frz ob u=>obtain ⟨e,_⟩:=x;exact Heap.lt_size e
  | tbl ps=>exact Heap.lt_size (show h.get? a=some _ from x)
  | met f y=>exact Heap.lt_size (show h.get? a=some _ from x)
  | ext φ=>obtain ⟨_,⟨_,e⟩,_⟩:=x;exact Heap.lt_size e
theorem Paired.mapP {α β:Type} {F G:α->β->Prop}:∀ {l₁:List α} {l₂:List β},Paired F l₁ l₂->(∀ a b,F a b->G a b)->Paired G l₁ l₂
  | _,_,.nil,_=>.nil
  | _,_,.cons r t,f=>.cons (f _ _ r) (Paired.mapP t f)
theorem ObjOk.stay (x:ObjOk P w H h a o) (k:∀ b u,(b=a\/H b=some (.own a))->h.get? b=some u->h'.get? b=some u)
    (ho:∀ b,H b=some (.own a)->H' b=some (.own a)) (ht:∀ b xs,H b=some (.tup xs)->H' b=some (.tup xs)):ObjOk P w H' h' a o:=by
  induction o with
  | lst xs=>obtain ⟨z,its,n,r,e⟩:=x;exact ⟨z,its,n,r,k _ _ (.inl rfl) e⟩
  | tup xs=>obtain ⟨z,its,r,ob,e,c⟩:=x;exact ⟨z,its,r,ob,k _ _ (.inl rfl) e,c⟩
  | dK kvs=>obtain ⟨z,y,vs,r,ob,es,ep,e,c⟩:=x;exact ⟨z,y,vs,r,ob,es,ep,k _ _ (.inl rfl) e,c⟩
  | dT kvs=>
    obtain ⟨z,y,xs,r,ob,es,ep,e,c⟩:=x
    exact ⟨z,y,xs,Paired.mapP r λ p q z=>⟨z.1,ht _ _ z.2.1,z.2.2⟩,ob,es,ep,k _ _ (.inl rfl) e,c⟩
  | set S n=>obtain ⟨ob,es,ep,t,e,c⟩:=x;exact ⟨ob,es,ep,t,k _ _ (.inl rfl) e,c⟩
  | ins C dx fs=>
    obtain ⟨d,z,ne,e,mA,⟨od,es,ep,e2,c⟩,r⟩:=x
    exact ⟨ho _ d,z,ne,k _ _ (.inl rfl) e,mA,⟨od,es,ep,k _ _ (.inr d) e2,c⟩,r⟩
  | own y=>obtain ⟨ob,e⟩:=x;exact ⟨ob,k _ _ (.inl rfl) e⟩
  | xd fs=>obtain ⟨mA,⟨od,es,ep,e,c⟩,r⟩:=x;exact ⟨mA,⟨od,es,ep,k _ _ (.inl rfl) e,c⟩,r⟩
  | rng lo hi=>obtain ⟨t,u,v,e⟩:=x;exact ⟨t,u,v,k _ _ (.inl rfl) e⟩
  | frz ob u ih=>obtain ⟨e,q⟩:=x;exact ⟨k _ _ (.inl rfl) e,ih q⟩
  | tbl ps=>
    have e:h.get? a=some { cls:=.none,data:=.fields ps }:=x
    show h'.get? a=some { cls:=.none,data:=.fields ps }
    exact k a _ (.inl rfl) e
  | met f y=>
    have e:h.get? a=some (PySem.W.methodObj (.ref f) (.ref y)):=x
    show h'.get? a=some (PySem.W.methodObj (.ref f) (.ref y))
    exact k a _ (.inl rfl) e
  | ext φ=>obtain ⟨p,⟨o,e⟩,st⟩:=x;exact ⟨st _ _ p λ o q=>k _ _ (.inl rfl) q,⟨o,k _ _ (.inl rfl) e⟩,st⟩
theorem HOk.lt (x:HOk P w H h) (e:H a=some o):a < h.objs.size:=(x a o e).lt
theorem HOk.fresh (x:HOk P w H h) (e:h.objs.size<=a):H a=none:=by
  cases q:H a with
  | none=>rfl
  | some u=>exact absurd (Nat.lt_of_lt_of_le (x.lt q) e) (Nat.lt_irrefl _)
theorem HOk.kept (x:HOk P w H h) (k:∀ b u,h.get? b=some u->h'.get? b=some u):HOk P w H h':=λ a o e=>
  (x a o e).stay (λ b u _ q=>k b u q) (λ _ q=>q) λ _ _ q=>q
theorem HOk.laid (x:HOk P w H h) (k:∀ b u,h.get? b=some u->h'.get? b=some u) (hp:h.objs.size<=a) (new:ObjOk P w (upd H a o) h' a o):HOk P w (upd H a o) h':=λ b u e=>by
  have hn:=x.fresh hp
  by_cases hb:b=a
  . subst hb;rw [bKq] at e;cases e;exact new
  . rw [aUq hb] at e
    exact (x b u e).stay (λ c v _ q=>k c v q) (λ c q=>by rw [aUq (b0q q hn)];exact q) λ c xs q=>by rw [aUq (b0q q hn)];exact q
end
def Rd (H:Hp) (a:Addr) (u:HO):Prop:=H a=some u\/∃ o,H a=some (.frz o u)
theorem Rd.ok {P:Program} {w:World} {H:Hp} {h:Heap} {a:Addr} {u:HO} (r:Rd H a u) (x:HOk P w H h):ObjOk P w H h a u:=by
  rcases r with r | ⟨o,r⟩
  . exact x a u r
  . obtain ⟨_,q⟩:=x a _ r
    exact q
def Mut:Option HO->Prop
  | some (.lst _)=>True
  | some (.dK _)=>True
  | some (.dT _)=>True
  | some (.set _ _)=>True
  | some (.ins _ _ _)=>True
  | some (.ext _)=>True
  | _=>False
section
variable {P:Program} {w:World} {H:Hp} {h h':Heap} {x e:Addr} {o':HO}
theorem HOk.write (ok:HOk P w H h) (mu:Mut (H x)) (he:e=x\/H e=some (.own x)) (k:∀ b u,b≠e->h.get? b=some u->h'.get? b=some u) (heo:∃ u,h'.get? e=some u)
    (new:ObjOk P w (upd H x o') h' x o'):HOk P w (upd H x o') h':=λ b u q=>by
  have nown:∀ c y,H c=some (.own y)->c≠x:=λ c y r z=>by subst z;rw [r] at mu;exact mu
  have ntup:∀ c xs,H c=some (.tup xs)->c≠x:=λ c xs r z=>by subst z;rw [r] at mu;exact mu
  by_cases hb:b=x
  . subst hb;rw [bKq] at q;cases q;exact new
  . rw [aUq hb] at q
    by_cases hbe:b=e
    . have q':H b=some (.own x):=by
        rcases he with z | z
        . exact absurd (hbe.trans z) hb
        . rw [hbe];exact z
      rw [q] at q';cases q'
      obtain ⟨v,hv⟩:=heo
      exact ⟨v,by rw [hbe];exact hv⟩
    . refine (ok b u q).stay (λ c v hc r=>k c v ?_ r) (λ c r=>by rw [aUq (nown c b r)];exact r) λ c xs r=>by rw [aUq (ntup c xs r)];exact r
      rcases hc with rfl | hc
      . exact hbe
      . rintro rfl
        rcases he with z | z
        . exact nown c b hc z
        . rw [hc] at z;cases z;exact hb rfl
end
structure Un (fs ex:List Addr) (H H':Hp) (h h':Heap):Prop where
  keep:∀ b o,h.get? b=some o->H b=none->b ∉ fs->b ∉ ex->h'.get? b=some o
  slot:∀ b o,h.get? b=some o->H b=none->b∈fs->b ∉ ex->∃ sl,h'.get? b=some { o with slots:=sl }
  free:∀ b o,h.get? b=some o->H b=none->b ∉ ex->H' b=none
  there:∀ b o,h.get? b=some o->b ∉ ex->∃ o',h'.get? b=some o'
  tups:∀ b xs,H b=some (.tup xs)->H' b=some (.tup xs)
  frzs:∀ b o u,H b=some (.frz o u)->H' b=some (.frz o u)
  tbls:∀ b ps,H b=some (.tbl ps)->∃ more,H' b=some (.tbl (ps++more))
section
variable {fs fs' ex ex':List Addr} {H H1 H2:Hp} {h h1 h2 h':Heap} {a x e:Addr} {o:HO}
theorem Un.any (u:Un fs ex H H1 h h1) {b:Addr} {ob:Obj} (q:h.get? b=some ob) (n:H b=none) (hx:b ∉ ex):∃ sl,h1.get? b=some { ob with slots:=sl }:=by
  by_cases hb:b∈fs
  . exact u.slot b ob q n hb hx
  . exact ⟨ob.slots,u.keep b ob q n hb hx⟩
theorem Un.kept (k:∀ b u,h.get? b=some u->h'.get? b=some u):Un fs ex H H h h':=
  ⟨λ b ob q _ _ _=>k b ob q,λ b ob q _ _ _=>⟨ob.slots,k b ob q⟩,λ _ _ _ n _=>n,λ b ob q _=>⟨ob,k b ob q⟩,λ _ _ q=>q,λ _ _ _ q=>q,λ _ ps q=>⟨#[],by rw [q];simp⟩⟩
theorem Un.refl:Un fs ex H H h h:=Un.kept λ _ _ q=>q
theorem Un.laid (k:∀ b u,h.get? b=some u->h'.get? b=some u) (hp:h.objs.size<=a) (hn:H a=none):Un fs ex H (upd H a o) h h' where
  keep:=λ b u q _ _ _=>k b u q
  slot:=λ b u q _ _ _=>⟨u.slots,k b u q⟩
  free:=λ b u q n _=>by rw [aUq (Nat.ne_of_lt (Nat.lt_of_lt_of_le (Heap.lt_size q) hp))];exact n
  there:=λ b u q _=>⟨u,k b u q⟩
  tups:=λ b xs q=>by rw [aUq (b0q q hn)];exact q
  frzs:=λ b u xs q=>by rw [aUq (b0q q hn)];exact q
  tbls:=λ b ps q=>⟨#[],by rw [aUq (b0q q hn),q];simp⟩
theorem Un.write (mu:Mut (H x)) (he:e=x\/H e=some (.own x)) (k:∀ b u,b≠e->h.get? b=some u->h'.get? b=some u) (heo:∃ u,h'.get? e=some u):Un fs ex H (upd H x o) h h':=by
  have hx:∀ b,H b=none->b≠x:=λ b n z=>by subst z;rw [n] at mu;exact mu
  have hb:∀ b,H b=none->b≠e:=λ b n z=>by
    subst z
    rcases he with r | r
    . exact hx b n r
    . rw [n] at r;cases r
  have hm:∀ b u,H b=some u->¬ Mut (some u)->b≠x:=λ b u q nm z=>by subst z;rw [q] at mu;exact nm mu
  refine ⟨λ b u q n _ _=>k b u (hb b n) q,λ b u q n _ _=>⟨u.slots,k b u (hb b n) q⟩,λ b u q n _=>by rw [aUq (hx b n)];exact n,λ b u q _=>?_,
    λ b xs q=>by rw [aUq (hm b _ q λ z=>z)];exact q,λ b u xs q=>by rw [aUq (hm b _ q λ z=>z)];exact q,λ b ps q=>⟨#[],by rw [aUq (hm b _ q λ z=>z),q];simp⟩⟩
  by_cases hbe:b=e
  . subst hbe;exact heo
  . exact ⟨u,k b u hbe q⟩
end
def trk (h:Heap) (H:Hp):List Addr:=(Ys h.objs.size).filter λ a=>(H a).isSome
def sHq (h:Heap) (H:Hp):Heap:=PySem.W.hideAll h (trk h H)
theorem pHq (h:Heap) (H:Hp):(sHq h H).objs.size=h.objs.size:=PySem.W.hideAll_size _ _
theorem t9q {h:Heap} {H:Hp} {b:Addr} {o:Obj} (e:h.get? b=some o) (n:H b=none):(sHq h H).get? b=some o:=
  PySem.W.hideAll_get _ e λ hm=>by
    have q:(H b).isSome=true:=(List.mem_filter.mp hm).2
    rw [n] at q;simp at q
theorem xKq {h:Heap} {H:Hp} {b:Addr} {o:Obj} (e:(sHq h H).get? b=some o):h.get? b=some o/\H b=none:=by
  have e':h.get? b=some o:=PySem.W.of_hideAll (trk h H) e
  refine ⟨e',?_⟩
  cases q:H b with
  | none=>rfl
  | some x=>
    have hm:b∈trk h H:=List.mem_filter.mpr ⟨YE.mpr (Heap.lt_size e'),by simp [q]⟩
    have z:(sHq h H).get? b=none:=PySem.W.hideAll_none (trk h H) hm
    rw [z] at e;cases e
structure Mod (K:PySem.W.Frag) (mg:Str->Option Value) (base:Heap):Prop where
  kin:K.In base
  glob:base.Ns mainGlobals mg
  blt:∃ mb,base.Ns builtinsNs mb/\∀ x:Str,x≠"__name__"->mb x=bootBuiltins x
  nolimit:base.NoLimit
structure Cx where
  prog:Program
  w:World
  K:PySem.W.Frag
  mg:Str->Option Value
  base:Heap
  A:Around
  N:List Str
  s₀:Shared
  H₀:Hp
  env:Env
  outer:List Env
  stack:List Env
  ex:List Addr
  fn:Str->Bool
  calm:Bool
  pn:List (Addr × Obj)
  xe:Value->Shared->Prop
def frs (l:List Env):List Addr:=l.filterMap (·.frame)
abbrev Cx.fs (X:Cx):List Addr:=frs X.outer
def Vis (sc:Scope) (x:Str):Prop:=sc.names.lookup x=some .local\/sc.names.lookup x=some .cell\/sc.names.lookup x=some .free
def Loc (sc:Scope) (x:Str):Prop:=sc.names.lookup x=some .local\/sc.names.lookup x=some .cell
def Look (env:Env) (h:Heap) (m:Str->Option Value) (x:Str) (u:Value):Prop:=
  (env.kindOf x=some .local/\m x=some u)\/((env.kindOf x=some .cell\/env.kindOf x=some .free)/\∃ c,env.cells.lookup x=some c/\h.IsCell c (some u))
structure Cx.Ok (X:Cx):Prop where
  mod:Mod X.K X.mg X.base
  kind:X.env.scope.kind=.function
  glob:X.env.globals=mainGlobals
  blt:X.env.builtins=builtinsNs
  above:X.s₀.heap.objs.size<=X.env.locals
  inj:∀ x y c,X.env.cells.lookup x=some c->X.env.cells.lookup y=some c->x=y
  has:∀ x,(X.env.kindOf x=some .cell\/X.env.kindOf x=some .free)->∃ c,X.env.cells.lookup x=some c
  cab:∀ x c,X.fn x=true->X.env.cells.lookup x=some c->X.s₀.heap.objs.size<=c
  hd:X.calm=true->X.A.handled=none
  frames:X.A.frames=some X.stack
  stk:X.stack=X.outer\/(X.stack=X.env::X.outer/\X.env.frame=some X.env.locals)
  exf:∀ b∈X.ex,b≠X.env.locals/\∀ x c,X.env.cells.lookup x=some c->c≠b
  bs:∀ b o,X.base.get? b=some o->X.s₀.heap.get? b=some o/\X.H₀ b=none
  bsz:X.base.objs.size<=X.s₀.heap.objs.size
  noex:∀ b o,X.base.get? b=some o->b ∉ X.ex
  exfs:∀ b∈X.ex,b ∉ X.fs
  funs:X.s₀.heap.FunFrames X.base X.outer
  frf:∀ b∈X.fs,X.H₀ b=none
structure Inv (X:Cx) (pins:List (Addr × Obj)) (σ:List (Option V)) (H:Hp) (s:Shared):Prop where
  ok:X.Ok
  os:s.os=X.s₀.os
  bare:AllBare s.gens
  base:Un X.fs X.ex X.H₀ H X.s₀.heap s.heap
  loc:∃ m,s.heap.Ns X.env.locals m/\∀ (i:Nat) (x:Str) (v:V),X.N[i]?=some x->σ[i]?=some (some v)->Vis X.env.scope x->∃ u,RelV v u/\Look X.env s.heap m x u
  cell:∀ x c,X.env.cells.lookup x=some c->∃ v,s.heap.IsCell c v
  free:H X.env.locals=none
  freeC:∀ x c,X.env.cells.lookup x=some c->H c=none
  pin:∀ p∈X.pn++pins,s.heap.get? p.1=some p.2/\H p.1=none/\p.1≠X.env.locals/\p.1 ∉ X.fs/\∀ v,p.2.data≠.cell v
  hok:HOk X.prog X.w H s.heap
  len:σ.length=X.N.length
section
variable {X:Cx} {pins:List (Addr × Obj)} {σ:List (Option V)} {H H':Hp} {s:Shared} {h':Heap}
theorem Cx.Ok.nofr (ok:X.Ok) {b:Addr} {o:Obj} (e:X.base.get? b=some o):b ∉ X.fs:=λ hb=>by
  have:=(ok.funs.mem hb).1
  rw [e] at this;cases this
theorem Inv.bs (I:Inv X pins σ H s):∀ b o,X.base.get? b=some o->s.heap.get? b=some o/\H b=none:=λ b o e=>
  ⟨I.base.keep b o (I.ok.bs b o e).1 (I.ok.bs b o e).2 (I.ok.nofr e) (I.ok.noex b o e),I.base.free b o (I.ok.bs b o e).1 (I.ok.bs b o e).2 (I.ok.noex b o e)⟩
theorem Inv.bk (I:Inv X pins σ H s):∀ b o,X.base.get? b=some o->s.heap.get? b=some o:=λ b o e=>(I.bs b o e).1
theorem Inv.mod (I:Inv X pins σ H s):Mod X.K X.mg X.base:=I.ok.mod
theorem Inv.kIn (I:Inv X pins σ H s):X.K.In s.heap:=I.ok.mod.kin.keeps I.bk
theorem Inv.lt (I:Inv X pins σ H s):X.env.locals < s.heap.objs.size:=let ⟨_,hn,_⟩:=I.loc;hn.lt
theorem Inv.sz (I:Inv X pins σ H s):X.s₀.heap.objs.size<=s.heap.objs.size:=Nat.le_trans I.ok.above (Nat.le_of_lt I.lt)
theorem Inv.nofs (I:Inv X pins σ H s) {a:Addr} (h:s.heap.objs.size<=a):a ∉ X.fs:=λ hb=>by
  obtain ⟨_,o,ho,_⟩:=I.ok.funs.mem hb
  exact absurd (Nat.lt_of_lt_of_le (Heap.lt_size ho) (Nat.le_trans I.sz h)) (Nat.lt_irrefl _)
theorem Inv.cne (I:Inv X pins σ H s):∀ x c,X.env.cells.lookup x=some c->c≠X.env.locals:=λ x c e z=>by
  obtain ⟨v,o,ho,hd⟩:=I.cell x c e
  obtain ⟨m,⟨o',es,ep,ho',hd',_⟩,_⟩:=I.loc
  rw [z,ho'] at ho;cases ho;rw [hd'] at hd;cases hd
theorem Inv.funs (I:Inv X pins σ H s):s.heap.FunFrames X.base X.outer:=by
  have all:∀ (l:List Env),(∀ b∈frs l,b∈X.fs)->X.s₀.heap.FunFrames X.base l->s.heap.FunFrames X.base l:=by
    intro l
    induction l with
    | nil=>intro _ _;trivial
    | cons env r ih=>
      intro hs hl
      obtain ⟨hk,⟨L,o,hf,hn,ho,hd⟩,hr⟩:=hl
      have hL:L∈X.fs:=hs L (by unfold frs;rw [List.filterMap_cons,hf];exact Ya)
      obtain ⟨sl,e⟩:=I.base.slot L o ho (I.ok.frf L hL) hL λ z=>I.ok.exfs L z hL
      exact ⟨hk,⟨L,_,hf,hn,e,hd⟩,ih (λ b hb=>hs b (by unfold frs;rw [List.filterMap_cons,hf];exact Yc _ hb)) hr⟩
  exact all X.outer (λ _ hb=>hb) I.ok.funs
theorem Inv.stack (I:Inv X pins σ H s):s.heap.FunFrames X.base X.stack:=by
  rcases I.ok.stk with e | ⟨e,hf⟩
  . rw [e];exact I.funs
  . rw [e]
    obtain ⟨m,hn,_⟩:=I.loc
    refine .cons (by rw [I.ok.kind];decide) hf hn ?_ I.funs
    exact Heap.get?_none_of_le (Nat.le_trans I.ok.bsz I.ok.above)
theorem Inv.stkSub (I:Inv X pins σ H s):∀ b∈frs X.stack,b∈X.env.locals::X.fs:=λ b hb=>by
  rcases I.ok.stk with e | ⟨e,hf⟩
  . rw [e] at hb;exact Yc _ hb
  . rw [e] at hb
    unfold frs at hb
    rw [List.filterMap_cons,hf] at hb
    exact hb
theorem Inv.stkFree (I:Inv X pins σ H s):∀ b∈frs X.stack,H b=none:=λ b hb=>by
  rcases Yd.mp (I.stkSub b hb) with e | hb
  . rw [e];exact I.free
  . obtain ⟨_,o,ho,_⟩:=I.ok.funs.mem hb
    exact I.base.free b o ho (I.ok.frf b hb) λ z=>I.ok.exfs b z hb
theorem Inv.step {g':Array GenState} {t':Nat} {d':Drawn} {ch:List Addr} (I:Inv X pins σ H s)
    (hch:∀ b∈ch,(b∈X.ex\/X.s₀.heap.objs.size<=b)/\b≠X.env.locals/\(∀ x c,X.env.cells.lookup x=some c->c≠b)/\∀ p∈X.pn++pins,p.1≠b)
    (keep:∀ b o,b≠X.env.locals->b ∉ X.fs->b ∉ ch->s.heap.get? b=some o->H b=none->h'.get? b=some o)
    (slot:∀ b o,b≠X.env.locals->b∈X.fs->b ∉ ch->s.heap.get? b=some o->H b=none->∃ sl,h'.get? b=some { o with slots:=sl }) (free:∀ b o,b ∉ ch->s.heap.get? b=some o->H b=none->H' b=none)
    (there:∀ b o,b ∉ ch->s.heap.get? b=some o->∃ o',h'.get? b=some o')
    (tups:∀ b xs,H b=some (.tup xs)->H' b=some (.tup xs)) (frzs:∀ b o u,H b=some (.frz o u)->H' b=some (.frz o u)) (tbls:∀ b ps,H b=some (.tbl ps)->∃ more,H' b=some (.tbl (ps++more)))
    (ns:∀ m,s.heap.Ns X.env.locals m->h'.Ns X.env.locals m) (hok:HOk X.prog X.w H' h') (hg:AllBare g') :
    Inv X pins σ H' { s with heap:=h',gens:=g',drawn:=d',toks:=t' }:=by
  have neL:∀ b o,X.s₀.heap.get? b=some o->b≠X.env.locals:=λ b o e=>Nat.ne_of_lt (Nat.lt_of_lt_of_le (Heap.lt_size e) I.ok.above)
  have neC:∀ b o,X.s₀.heap.get? b=some o->b ∉ X.ex->b ∉ ch:=λ b o e hx hb=>by
    rcases (hch b hb).1 with z | z
    . exact hx z
    . exact absurd (Nat.lt_of_lt_of_le (Heap.lt_size e) z) (Nat.lt_irrefl _)
  have cellK:∀ x c,X.env.cells.lookup x=some c->∀ v,s.heap.IsCell c v->h'.IsCell c v:=λ x c e v ⟨o,ho,hd⟩=>by
    have nch:c ∉ ch:=λ z=>(hch c z).2.2.1 x c e rfl
    by_cases hc:c∈X.fs
    . obtain ⟨sl,q⟩:=slot c o (I.cne x c e) hc nch ho (I.freeC x c e)
      exact ⟨_,q,hd⟩
    . exact ⟨o,keep c o (I.cne x c e) hc nch ho (I.freeC x c e),hd⟩
  refine ⟨I.ok,I.os,hg,⟨λ b o e n hb hx=>?_,λ b o e n hb hx=>?_,λ b o e n hx=>?_,λ b o e hx=>?_,λ b xs e=>tups b xs (I.base.tups b xs e),λ b o xs e=>frzs b o xs (I.base.frzs b o xs e),λ b ps e=>?_⟩,?_,λ x c e=>?_,?_,λ x c e=>?_,λ p hp=>?_,hok,I.len⟩
  . exact keep b o (neL b o e) hb (neC b o e hx) (I.base.keep b o e n hb hx) (I.base.free b o e n hx)
  . obtain ⟨sl,e1⟩:=I.base.slot b o e n hb hx
    obtain ⟨sl',e2⟩:=slot b _ (neL b o e) hb (neC b o e hx) e1 (I.base.free b o e n hx)
    exact ⟨sl',e2⟩
  . obtain ⟨o',e1⟩:=I.base.there b o e hx
    exact free b o' (neC b o e hx) e1 (I.base.free b o e n hx)
  . obtain ⟨o',e1⟩:=I.base.there b o e hx
    exact there b o' (neC b o e hx) e1
  . obtain ⟨m1,e1⟩:=I.base.tbls b ps e
    obtain ⟨m2,e2⟩:=tbls b _ e1
    exact ⟨m1++m2,by rw [e2,Array.append_assoc]⟩
  . obtain ⟨m,hn,hl⟩:=I.loc
    refine ⟨m,ns m hn,λ i x v e1 e2 e3=>?_⟩
    obtain ⟨u,r,l⟩:=hl i x v e1 e2 e3
    refine ⟨u,r,?_⟩
    rcases l with l | ⟨k,c,e,z⟩
    . exact .inl l
    . exact .inr ⟨k,c,e,cellK x c e _ z⟩
  . obtain ⟨v,z⟩:=I.cell x c e
    exact ⟨v,cellK x c e v z⟩
  . obtain ⟨m,⟨o,_,_,ho,_⟩,_⟩:=I.loc
    exact free _ o (λ z=>(hch _ z).2.1 rfl) ho I.free
  . obtain ⟨v,o,ho,hd⟩:=I.cell x c e
    exact free c o (λ z=>(hch c z).2.2.1 x c e rfl) ho (I.freeC x c e)
  . obtain ⟨e,n,ne,nf,d⟩:=I.pin p hp
    have nch:p.1 ∉ ch:=λ z=>(hch p.1 z).2.2.2 p hp rfl
    exact ⟨keep p.1 p.2 ne nf nch e n,free p.1 p.2 nch e n,ne,nf,d⟩
theorem Inv.un {t':Nat} (I:Inv X pins σ H s) (u:Un X.fs [] H H' s.heap h') (hok:HOk X.prog X.w H' h'):Inv X pins σ H' { s with heap:=h',toks:=t' }:=by
  obtain ⟨m,⟨o,es,ep,ho,r⟩,_⟩:=id I.loc
  obtain ⟨sl,hL⟩:=u.any ho I.free (by simp)
  exact I.step (g':=s.gens) (d':=s.drawn) (ch:=[]) (λ _ z=>nomatch z) (λ b o _ hb _ e n=>u.keep b o e n hb (by simp)) (λ b o _ hb _ e n=>u.slot b o e n hb (by simp)) (λ b o _ e n=>u.free b o e n (by simp)) (λ b o _ e=>u.there b o e (by simp)) u.tups u.frzs u.tbls (λ m' hm=>by
    obtain ⟨o',es',ep',ho',r'⟩:=hm
    rw [ho] at ho';cases ho'
    exact ⟨_,es',ep',hL,r'⟩) hok I.bare
theorem Inv.call {g':Array GenState} {t':Nat} {d':Drawn} {ch:List Addr} (I:Inv X pins σ H s) (u:Un (frs X.stack) ch H H' s.heap h') (hok:HOk X.prog X.w H' h') (hg:AllBare g')
    (hch:∀ b∈ch,(b∈X.ex\/X.s₀.heap.objs.size<=b)/\b≠X.env.locals/\(∀ x c,X.env.cells.lookup x=some c->c≠b)/\∀ p∈X.pn++pins,p.1≠b) :
    Inv X pins σ H' { s with heap:=h',gens:=g',drawn:=d',toks:=t' }:=by
  obtain ⟨m,⟨o,es,ep,ho,r⟩,_⟩:=id I.loc
  obtain ⟨sl,hL⟩:=u.any ho I.free λ z=>(hch _ z).2.1 rfl
  exact I.step (ch:=ch) hch (λ b o hL hb hc e n=>u.keep b o e n (λ z=>(Yd.mp (I.stkSub b z)).elim hL hb) hc) (λ b o _ _ hc e n=>u.any e n hc) (λ b o hc e n=>u.free b o e n hc) (λ b o hc e=>u.there b o e hc) u.tups u.frzs u.tbls (λ m' hm=>by
    obtain ⟨o',es',ep',ho',r'⟩:=hm
    rw [ho] at ho';cases ho'
    exact ⟨_,es',ep',hL,r'⟩) hok hg
theorem Inv.turned {t':Nat} {it:Addr} (I:Inv X pins σ H s) (k:∀ b o,b≠it->s.heap.get? b=some o->h'.get? b=some o) (hn:H it=none) (hL:it≠X.env.locals)
    (h1:it∈X.ex\/X.s₀.heap.objs.size<=it) (h2:∀ x c,X.env.cells.lookup x=some c->c≠it) (h3:∀ p∈X.pn++pins,p.1≠it):Inv X pins σ H { s with heap:=h',toks:=t' }:=by
  have nit:∀ b u,H b=some u->b≠it:=λ b u e z=>by rw [z,hn] at e;cases e
  refine I.step (g':=s.gens) (d':=s.drawn) (ch:=[it]) (λ b hb=>?_) (λ b o _ _ hc e _=>k b o (λ z=>hc (by simp [z])) e) (λ b o _ _ hc e _=>⟨o.slots,k b o (λ z=>hc (by simp [z])) e⟩) (λ _ _ _ _ n=>n)
    (λ b o hc e=>⟨o,k b o (λ z=>hc (by simp [z])) e⟩) (λ _ _ e=>e) (λ _ _ _ e=>e) (λ b ps e=>⟨#[],by rw [e];simp⟩) (λ m hm=>?_) (λ b u e=>?_) I.bare
  . have e:b=it:=by simpa using hb
    subst e
    exact ⟨h1,hL,h2,h3⟩
  . obtain ⟨o,es,ep,ho,r⟩:=hm
    exact ⟨o,es,ep,k _ o (Ne.symm hL) ho,r⟩
  . refine (I.hok b u e).stay (λ c v hc q=>k c v ?_ q) (λ _ q=>q) λ _ _ q=>q
    rcases hc with z | z
    . rw [z];exact nit b u e
    . exact nit c _ z
theorem Inv.tok (I:Inv X pins σ H s) (t:Nat):Inv X pins σ H { s with toks:=t }:=I.un (h':=s.heap) (t':=t) Un.refl I.hok
theorem Inv.kept {t':Nat} (I:Inv X pins σ H s) (k:∀ b u,s.heap.get? b=some u->h'.get? b=some u):Inv X pins σ H { s with heap:=h',toks:=t' }:=I.un (Un.kept k) (I.hok.kept k)
theorem Inv.laid {a:Addr} {o:HO} {t':Nat} (I:Inv X pins σ H s) (k:∀ b u,s.heap.get? b=some u->h'.get? b=some u) (hp:s.heap.objs.size<=a) (new:ObjOk X.prog X.w (upd H a o) h' a o) :
    Inv X pins σ (upd H a o) { s with heap:=h',toks:=t' }:=I.un (Un.laid k hp (I.hok.fresh hp)) (I.hok.laid k hp new)
theorem Inv.write {x e:Addr} {o:HO} {t':Nat} (I:Inv X pins σ H s) (mu:Mut (H x)) (he:e=x\/H e=some (.own x)) (k:∀ b u,b≠e->s.heap.get? b=some u->h'.get? b=some u) (heo:∃ u,h'.get? e=some u)
    (new:ObjOk X.prog X.w (upd H x o) h' x o):Inv X pins σ (upd H x o) { s with heap:=h',toks:=t' }:=I.un (Un.write mu he k heo) (I.hok.write mu he k heo new)
theorem Inv.pins_of {pins':List (Addr × Obj)} (I:Inv X pins σ H s) (h:∀ p∈pins',s.heap.get? p.1=some p.2/\H p.1=none/\p.1≠X.env.locals/\p.1 ∉ X.fs/\∀ v,p.2.data≠.cell v):Inv X pins' σ H s:=
  ⟨I.ok,I.os,I.bare,I.base,I.loc,I.cell,I.free,I.freeC,λ p hp=>(Yq.mp hp).elim (λ z=>I.pin p (YG _ z)) (h p),I.hok,I.len⟩
theorem mPq {N:List Str} (hN:N.Nodup) {i j:Nat} {x:Str} (a:N[i]?=some x) (b:N[j]?=some x):i=j:=by
  obtain ⟨h1,e1⟩:=Yu.mp a
  obtain ⟨h2,e2⟩:=Yu.mp b
  exact (List.getElem_inj hN).mp (e1.trans e2.symm)
theorem jLq {M:Model} {A:Around} {E:Value->Shared->Prop} {i:Nat} {x:Str} {v:V} {u:Value} {Q:Unit->Shared->Prop} (I:Inv X pins σ H s) (hN:X.N.Nodup) (hi:X.N[i]?=some x) (hx:Loc X.env.scope x) (r:RelV v u)
    (h:∀ s',Inv X pins (σ.set i (some v)) H s'->(∃ a,Heap.SameBut a s.heap s'.heap/\(a=X.env.locals\/X.env.cells.lookup x=some a))->Q () s') (hf:X.fn x=true\/X.env.scope.names.lookup x=some .local:=by first | exact .inl rfl | exact .inr rfl | assumption):wpAny M A (storeName X.env x u) Q E s:=by
  obtain ⟨m,hn,hl⟩:=id I.loc
  have hcls:(X.env.scope.kind==.class||(X.env.scope.kind==.module&&X.env.locals !=X.env.globals))=false:=by rw [I.ok.kind];rfl
  have hiσ:i < σ.length:=by rw [I.len];exact (Yu.mp hi).1
  have cne:=I.cne
  have tracked:∀ {a:Addr} {h':Heap},(∃ o,s.heap.get? a=some o/\H a=none)->Heap.SameBut a s.heap h'->HOk X.prog X.w H h':=λ{a h'} ha hs b ob e=>by
    obtain ⟨_,_,hfree⟩:=ha
    refine (I.hok b ob e).stay (λ c w' hc q=>(hs.2 c ?_).trans q) (λ _ q=>q) λ _ _ q=>q
    rintro rfl
    rcases hc with rfl | hc
    . rw [hfree] at e;cases e
    . rw [hfree] at hc;cases hc
  rcases hx with hk | hk
  . refine wpAny_storeName_local hk hn (λ h' hn' hs=>?_) hcls
    obtain ⟨oL,_,_,hoL,_⟩:=id hn
    refine h _ ⟨I.ok,I.os,I.bare,⟨λ b o e n hb hx=>?_,λ b o e n hb hx=>?_,I.base.free,λ b o e hx=>?_,I.base.tups,I.base.frzs,I.base.tbls⟩,⟨_,hn',λ j y v' e1 e2 e3=>?_⟩,λ y c e=>?_,I.free,I.freeC,λ p hp=>?_,tracked ⟨oL,hoL,I.free⟩ hs,by simpa using I.len⟩ ⟨_,hs,.inl rfl⟩
    . exact (hs.2 b (Nat.ne_of_lt (Nat.lt_of_lt_of_le (Heap.lt_size e) I.ok.above))).trans (I.base.keep b o e n hb hx)
    . obtain ⟨sl,e1⟩:=I.base.slot b o e n hb hx
      exact ⟨sl,(hs.2 b (Nat.ne_of_lt (Nat.lt_of_lt_of_le (Heap.lt_size e) I.ok.above))).trans e1⟩
    . obtain ⟨o',e1⟩:=I.base.there b o e hx
      exact ⟨o',(hs.2 b (Nat.ne_of_lt (Nat.lt_of_lt_of_le (Heap.lt_size e) I.ok.above))).trans e1⟩
    . by_cases hj:j=i
      . subst hj
        rw [hi] at e1;cases e1
        rw [List.getElem?_set_self hiσ] at e2
        cases e2
        exact ⟨u,r,.inl ⟨hk,by simp⟩⟩
      . rw [Zd (Ne.symm hj)] at e2
        obtain ⟨u',r',q⟩:=hl j y v' e1 e2 e3
        refine ⟨u',r',?_⟩
        rcases q with ⟨k,e⟩ | ⟨k,c,e,z⟩
        . refine .inl ⟨k,?_⟩
          have:y≠x:=λ e=>hj (mPq hN e1 (e ▸ hi))
          simp [this,e]
        . exact .inr ⟨k,c,e,z.sameBut hs (cne y c e)⟩
    . obtain ⟨w',z⟩:=I.cell y c e
      exact ⟨w',z.sameBut hs (cne y c e)⟩
    . obtain ⟨e,n,ne,nf,d⟩:=I.pin p hp
      exact ⟨(hs.2 p.1 ne).trans e,n,ne,nf,d⟩
  . have hfn:X.fn x=true:=by
      rcases hf with z | z
      . exact z
      . rw [z] at hk;cases hk
    obtain ⟨c,hc⟩:=I.ok.has x (.inl hk)
    obtain ⟨w',z⟩:=I.cell x c hc
    refine wpAny_storeName_cell I.ok.kind hk hc z (λ h' hc' hs=>?_)
    obtain ⟨oc,hoc,hocd⟩:=id z
    refine h { s with heap:=h' } ⟨I.ok,I.os,I.bare,⟨λ b o e n hb hx=>?_,λ b o e n hb hx=>?_,I.base.free,λ b o e hx=>?_,I.base.tups,I.base.frzs,I.base.tbls⟩,⟨m,hn.sameBut hs (Ne.symm (cne x c hc)),λ j y v' e1 e2 e3=>?_⟩,λ y c' e=>?_,I.free,I.freeC,λ p hp=>?_,tracked ⟨oc,hoc,I.freeC x c hc⟩ hs,by simpa using I.len⟩ ⟨c,hs,.inr hc⟩
    . exact (hs.2 b (Nat.ne_of_lt (Nat.lt_of_lt_of_le (Heap.lt_size e) (I.ok.cab x c hfn hc)))).trans (I.base.keep b o e n hb hx)
    . obtain ⟨sl,e1⟩:=I.base.slot b o e n hb hx
      exact ⟨sl,(hs.2 b (Nat.ne_of_lt (Nat.lt_of_lt_of_le (Heap.lt_size e) (I.ok.cab x c hfn hc)))).trans e1⟩
    . obtain ⟨o',e1⟩:=I.base.there b o e hx
      exact ⟨o',(hs.2 b (Nat.ne_of_lt (Nat.lt_of_lt_of_le (Heap.lt_size e) (I.ok.cab x c hfn hc)))).trans e1⟩
    . by_cases hj:j=i
      . subst hj
        rw [hi] at e1;cases e1
        rw [List.getElem?_set_self hiσ] at e2
        cases e2
        exact ⟨u,r,.inr ⟨.inl hk,c,hc,hc'⟩⟩
      . rw [Zd (Ne.symm hj)] at e2
        obtain ⟨u',r',q⟩:=hl j y v' e1 e2 e3
        refine ⟨u',r',?_⟩
        rcases q with q | ⟨k,c',e,z'⟩
        . exact .inl q
        . refine .inr ⟨k,c',e,z'.sameBut hs ?_⟩
          rintro rfl
          exact hj (mPq hN e1 (I.ok.inj _ _ _ e hc ▸ hi))
    . by_cases hcc:c'=c
      . subst hcc;exact ⟨_,hc'⟩
      . obtain ⟨w2,z2⟩:=I.cell y c' e
        exact ⟨w2,z2.sameBut hs hcc⟩
    . obtain ⟨e,n,ne,nf,d⟩:=I.pin p hp
      refine ⟨(hs.2 p.1 ?_).trans e,n,ne,nf,d⟩
      intro q
      rw [q,hoc] at e
      have q':oc=p.2:=Option.some.inj e
      exact d w' (by rw [<- q'];exact hocd)
theorem iEq {M:Model} {A:Around} {E:Value->Shared->Prop} {i:Nat} {x:Str} {v:V} {u:Value} {Q:Unit->Shared->Prop} (I:Inv X pins σ H s) (hN:X.N.Nodup) (hi:X.N[i]?=some x) (hx:Loc X.env.scope x) (r:RelV v u)
    (h:∀ s',Inv X pins (σ.set i (some v)) H s'->Q () s') (hf:X.fn x=true\/X.env.scope.names.lookup x=some .local:=by first | exact .inl rfl | exact .inr rfl | assumption):wpAny M A (storeName X.env x u) Q E s:=
  jLq I hN hi hx r (λ s' I' _=>h s' I') hf
theorem Inv.call' {s':Shared} {ch:List Addr} (I:Inv X pins σ H s) (ho:s'.os=s.os) (u:Un (frs X.stack) ch H H' s.heap s'.heap) (hok:HOk X.prog X.w H' s'.heap) (hg:AllBare s'.gens)
    (hch:∀ b∈ch,(b∈X.ex\/X.s₀.heap.objs.size<=b)/\b≠X.env.locals/\(∀ x c,X.env.cells.lookup x=some c->c≠b)/\∀ p∈X.pn++pins,p.1≠b):Inv X pins σ H' s':=by
  obtain ⟨h',g',d',t',o'⟩:=s'
  have e:o'=s.os:=ho
  subst e
  exact I.call (g':=g') (t':=t') (d':=d') u hok hg hch
end
abbrev XK:=Value->Option Addr->Hp->Prop
abbrev St:=List (Option V)
abbrev VK:=V->Hp->Prop
abbrev TE:=St->Hp->VK->Prop
abbrev TT:=St->Hp->(Bool->Hp->Prop)->Prop
abbrev TA:=St->Hp->(List V->Hp->Prop)->Prop
structure Ends where
  nx:St->Hp->Prop
  rt:VK
  bk:St->Hp->Prop:=λ _ _=>False
  ct:St->Hp->Prop:=λ _ _=>False
abbrev TS:=Ends->St->Hp->Prop
def EP (X:Cx) (pins:List (Addr × Obj)) (σ:St) (Q:VK) (u:Value) (s':Shared):Prop:=∃ v H',Inv X pins σ H' s'/\RelV v u/\Q v H'
def TP (X:Cx) (pins:List (Addr × Obj)) (σ:St) (Q:Bool->Hp->Prop) (b:Bool) (s':Shared):Prop:=∃ H',Inv X pins σ H' s'/\Q b H'
def AP (X:Cx) (pins:List (Addr × Obj)) (σ:St) (Q:List V->Hp->Prop) (us:List Value) (s':Shared):Prop:=∃ vs H',Inv X pins σ H' s'/\Vals vs us/\Q vs H'
def SP (X:Cx) (pins:List (Addr × Obj)) (D:Ends) (f:Flow) (s':Shared):Prop:=
  match f with
  | .next=>∃ σ' H',Inv X pins σ' H' s'/\D.nx σ' H'
  | .brk=>∃ σ' H',Inv X pins σ' H' s'/\D.bk σ' H'
  | .cont=>∃ σ' H',Inv X pins σ' H' s'/\D.ct σ' H'
  | .ret u=>∃ v σ' H',Inv X pins σ' H' s'/\RelV v u/\D.rt v H'
def PE (X:Cx) (e:Expr) (t:TE):Prop:=
  ∀ (pins:List (Addr × Obj)) (s:Shared) (σ:St) (H:Hp) (Q:VK),Inv X pins σ H s->t σ H Q->wpAny (model X.prog X.w) X.A (eval e X.env) (EP X pins σ Q) X.xe s
def PT (X:Cx) (e:Expr) (t:TT):Prop:=
  ∀ (pins:List (Addr × Obj)) (s:Shared) (σ:St) (H:Hp) (Q:Bool->Hp->Prop),Inv X pins σ H s->t σ H Q->wpAny (model X.prog X.w) X.A (isTrue e X.env (eval e X.env)) (TP X pins σ Q) X.xe s
def PW (X:Cx) (e:Expr) (t:TT):Prop:=
  ∀ (whole:Sem Value) (pins:List (Addr × Obj)) (s:Shared) (σ:St) (H:Hp) (Q:Bool->Hp->Prop),Inv X pins σ H s->t σ H Q->wpAny (model X.prog X.w) X.A (isTrue e X.env whole) (TP X pins σ Q) X.xe s
theorem PW.pt {X:Cx} {e:Expr} {t:TT} (h:PW X e t):PT X e t:=h _
def PA (X:Cx) (es:List Expr) (t:TA):Prop:=
  ∀ (pos:Pos) (pins:List (Addr × Obj)) (s:Shared) (σ:St) (H:Hp) (Q:List V->Hp->Prop),Inv X pins σ H s->t σ H Q->wpAny (model X.prog X.w) X.A (spliced (backTo pos (starEach es X.env))) (AP X pins σ Q) X.xe s
def PS (X:Cx) (st:Stmt) (t:TS):Prop:=
  ∀ (pins:List (Addr × Obj)) (s:Shared) (σ:St) (H:Hp) (D:Ends),Inv X pins σ H s->t D σ H->wpAny (model X.prog X.w) X.A (exec st X.env) (SP X pins D) X.xe s
def PSs (X:Cx) (st:List Stmt) (t:TS):Prop:=
  ∀ (pins:List (Addr × Obj)) (s:Shared) (σ:St) (H:Hp) (D:Ends),Inv X pins σ H s->t D σ H->wpAny (model X.prog X.w) X.A (execs st X.env) (SP X pins D) X.xe s
theorem thn {α:Type} {t:Sem α} {Q Q':α->Shared->Prop} {M:Model} {A:Around} {E:Value->Shared->Prop} {s:Shared} (h:wpAny M A t Q E s) (hQ:∀ a s,Q a s->Q' a s):wpAny M A t Q' E s:=wpAny_mono h hQ λ _ _ x=>x
section
variable {X:Cx}
theorem bin {a b:Expr} {ta tb:TE} (ha:PE X a ta) (hb:PE X b tb) {pins:List (Addr × Obj)} {s:Shared} {σ:St} {H:Hp} {R:V->V->Hp->Prop} (I:Inv X pins σ H s) (h:ta σ H λ x H1=>tb σ H1 λ y H2=>R x y H2)
    {α:Type} {Q:α->Shared->Prop} {f:Value->Value->Sem α}
    (hf:∀ v u s2 x y H2,Inv X pins σ H2 s2->RelV x v->RelV y u->R x y H2->wpAny (model X.prog X.w) X.A (f v u) Q X.xe s2) :
    wpAny (model X.prog X.w) X.A (eval a X.env) (λ v s₁=>wpAny (model X.prog X.w) X.A (eval b X.env) (λ u s₂=>wpAny (model X.prog X.w) X.A (f v u) Q X.xe s₂) X.xe s₁) X.xe s:=by
  refine thn (ha pins s σ H _ I h) λ v s1 ⟨x,H1,I1,r1,q1⟩=>?_
  refine thn (hb pins s1 σ H1 _ I1 q1) λ u s2 ⟨y,H2,I2,r2,q2⟩=>?_
  exact hf v u s2 x y H2 I2 r1 r2 q2
def tVar (i:Nat):TE:=λ σ H Q=>∃ v,σ[i]?=some (some v)/\Q v H
def tC (v:V):TE:=λ _ H Q=>Q v H
theorem tZq {i:Nat} {x:Str} {pos:Pos} (hN:X.N[i]?=some x) (hv:Vis X.env.scope x) (hd:(x==("__debug__" : Str))=false:=by decide) (hcd:(x==("__classdict__" : Str))=false:=by decide):PE X (.Name x pos) (tVar i):=by
  intro pins s σ H Q I h
  obtain ⟨v,e,h⟩:=h
  obtain ⟨m,hn,hl⟩:=I.loc
  obtain ⟨u,r,l⟩:=hl i x v hN e hv
  have fin:EP X pins σ Q u s:=⟨v,H,I,r,h⟩
  rcases l with ⟨hk,hm⟩ | ⟨hk,c,hc,hcell⟩
  . exact wpAny_Name (wpAny_loadName_local I.ok.kind hk hn hm fin) hd
  . rcases hk with hk | hk
    . exact wpAny_Name (wpAny_loadName_cell I.ok.kind hk hc hcell fin) hd
    . exact wpAny_Name (wpAny_loadName_free I.ok.kind hk hc hcell fin hcd) hd
theorem aI7q {i j pos}:PE X (.Constant (.int i) j pos) (tC (.int i)):=λ _ _ _ H _ I h=>wpAny_Constant_int ⟨.int i,H,I.tok _,⟨_,rfl⟩,h⟩
theorem aV2q {b j pos}:PE X (.Constant (.bool b) j pos) (tC (.bl b)):=λ _ _ _ H _ I h=>Constant_bool ⟨.bl b,H,I,rfl,h⟩
theorem aH3q {x j pos}:PE X (.Constant (.str x) j pos) (tC (.str x)):=λ _ _ _ H _ I h=>Calls.Constant_str ⟨.str x,H,I.tok _,⟨_,rfl⟩,h⟩
def Gl (X:Cx) (x:Str):Prop:=X.env.kindOf x=some .globalImplicit
theorem kYq {E:Value->Shared->Prop} {pins:List (Addr × Obj)} {s:Shared} {σ:St} {H:Hp} {x:Str} {u:Value} {pos:Pos} {Q:Value->Shared->Prop} (I:Inv X pins σ H s) (hg:Gl X x) (hm:X.mg x=some u) (h:Q u s)
    (hd:(x==("__debug__" : Str))=false:=by decide):wpAny (model X.prog X.w) X.A (eval (.Name x pos) X.env) Q E s:=
  Calls.Name_function_global I.ok.kind hg (Calls.loadGlobal_global (by rw [I.ok.glob];exact I.mod.glob.keeps I.bk) hm h) hd
theorem e3q {E:Value->Shared->Prop} {pins:List (Addr × Obj)} {s:Shared} {σ:St} {H:Hp} {x:Str} {u:Value} {pos:Pos} {Q:Value->Shared->Prop} (I:Inv X pins σ H s) (hg:Gl X x) (hm:X.mg x=none) (hv:bootBuiltins x=some u) (h:Q u s)
    (hn:x≠"__name__":=by decide) (hd:(x==("__debug__" : Str))=false:=by decide):wpAny (model X.prog X.w) X.A (eval (.Name x pos) X.env) Q E s:=by
  obtain ⟨mb,h1,h2⟩:=I.mod.blt
  exact Calls.Name_function_global I.ok.kind hg (Calls.loadGlobal_builtin (by rw [I.ok.glob];exact I.mod.glob.keeps I.bk) hm (by rw [I.ok.blt];exact h1.keeps I.bk) ((h2 x hn).trans hv) h) hd
theorem lLq {x:Str} {v:V} {u:Value} {pos:Pos} (hg:Gl X x) (hm:X.mg x=some u) (r:RelV v u) (hd:(x==("__debug__" : Str))=false:=by decide):PE X (.Name x pos) (tC v):=
  λ _ _ _ H _ I h=>kYq I hg hm ⟨v,H,I,r,h⟩ hd
theorem x2q {x:Str} {v:V} {u:Value} {pos:Pos} (hg:Gl X x) (hm:X.mg x=none) (hv:bootBuiltins x=some u) (r:RelV v u) (hn:x≠"__name__":=by decide) (hd:(x==("__debug__" : Str))=false:=by decide):PE X (.Name x pos) (tC v):=
  λ _ _ _ H _ I h=>e3q I hg hm hv ⟨v,H,I,r,h⟩ hn hd
variable {a b:Expr} {ta tb:TE} {pos:Pos}
variable {tA tB':TT} {rest:List Expr}
def tAnd (t u:TT):TT:=λ σ H Q=>t σ H λ c H1=>if c=true then u σ H1 Q else Q false H1
def tOr (t u:TT):TT:=λ σ H Q=>t σ H λ c H1=>if c=true then Q true H1 else u σ H1 Q
def tNot (t:TT):TT:=λ σ H Q=>t σ H λ c H1=>Q (!c) H1
theorem wGq (ha:PT X a tA):PW X (.BoolOp .And [a] pos) tA:=by
  intro wh pins s σ H Q I h
  refine isTrue_and (thn (ha pins s σ H Q I h) λ c s1 e=>?_)
  cases c with
  | true=>exact isTrue_and_nil e
  | false=>exact e
theorem aB6q (ha:PT X a tA):PW X (.BoolOp .Or [a] pos) tA:=by
  intro wh pins s σ H Q I h
  refine isTrue_or (thn (ha pins s σ H Q I h) λ c s1 e=>?_)
  cases c with
  | false=>exact isTrue_or_nil e
  | true=>exact e
theorem aF8q (ha:PT X a tA) (hb:PW X (.BoolOp .And (b::rest) pos) tB'):PW X (.BoolOp .And (a::b::rest) pos) (tAnd tA tB'):=by
  intro wh pins s σ H Q I h
  refine isTrue_and (thn (ha pins s σ H _ I h) λ c s1 ⟨H1,I1,q1⟩=>?_)
  cases c with
  | true=>exact hb wh pins s1 σ H1 Q I1 q1
  | false=>exact ⟨H1,I1,q1⟩
theorem aN3q (ha:PT X a tA) (hb:PW X (.BoolOp .Or (b::rest) pos) tB'):PW X (.BoolOp .Or (a::b::rest) pos) (tOr tA tB'):=by
  intro wh pins s σ H Q I h
  refine isTrue_or (thn (ha pins s σ H _ I h) λ c s1 ⟨H1,I1,q1⟩=>?_)
  cases c with
  | true=>exact ⟨H1,I1,q1⟩
  | false=>exact hb wh pins s1 σ H1 Q I1 q1
theorem aH2q (ha:PT X a tA):PT X (.UnaryOp .Not a pos) (tNot tA):=by
  intro pins s σ H Q I h
  exact isTrue_not (ha pins s σ H (λ c H1=>Q (!c) H1) I h)
def z1q (ta tb:TE):TE:=λ σ H Q=>ta σ H λ x H1=>∃ c,x=.bl c/\if c=true then tb σ H1 Q else Q (.bl false) H1
def tOrV (ta tb:TE):TE:=λ σ H Q=>ta σ H λ x H1=>∃ c,x=.bl c/\if c=true then Q (.bl true) H1 else tb σ H1 Q
def aG8q (ta:TE):TE:=λ σ H Q=>ta σ H λ x H1=>∃ c,x=.bl c/\Q (.bl (!c)) H1
theorem z6q {op} {t:TE} (h:PE X a t):PE X (.BoolOp op [a] pos) t:=λ pins s σ H Q I hw=>BoolOp_one (h pins s σ H Q I hw)
theorem zNq (ha:PE X a ta) (hb:PE X (.BoolOp .And (b::rest) pos) tb):PE X (.BoolOp .And (a::b::rest) pos) (z1q ta tb):=by
  intro pins s σ H Q I h
  refine BoolOp_and (thn (ha pins s σ H _ I h) λ v s1 ⟨x,H1,I1,r1,q1⟩=>?_)
  obtain ⟨c,rfl,q1⟩:=q1
  cases r1
  refine wpAny_truthy_bool ?_
  cases c with
  | true=>exact hb pins s1 σ H1 Q I1 q1
  | false=>exact ⟨.bl false,H1,I1,rfl,q1⟩
theorem aP5q (ha:PE X a ta) (hb:PE X (.BoolOp .Or (b::rest) pos) tb):PE X (.BoolOp .Or (a::b::rest) pos) (tOrV ta tb):=by
  intro pins s σ H Q I h
  refine BoolOp_or (thn (ha pins s σ H _ I h) λ v s1 ⟨x,H1,I1,r1,q1⟩=>?_)
  obtain ⟨c,rfl,q1⟩:=q1
  cases r1
  refine wpAny_truthy_bool ?_
  cases c with
  | false=>exact hb pins s1 σ H1 Q I1 q1
  | true=>exact ⟨.bl true,H1,I1,rfl,q1⟩
theorem aH4q (ha:PE X a ta):PE X (.UnaryOp .Not a pos) (aG8q ta):=by
  intro pins s σ H Q I h
  refine UnaryOp_ (thn (ha pins s σ H _ I h) λ v s1 ⟨x,H1,I1,r1,q1⟩=>?_)
  obtain ⟨c,rfl,q1⟩:=q1
  cases r1
  exact not_of (wpAny_truthy_bool ⟨.bl (!c),H1,I1,rfl,q1⟩)
def tIf (t:TT) (ta tb:TE):TE:=λ σ H Q=>t σ H λ c H1=>if c=true then ta σ H1 Q else tb σ H1 Q
theorem rXq {c:Expr} (hc:PT X c tA) (ha:PE X a ta) (hb:PE X b tb):PE X (.IfExp c a b pos) (tIf tA ta tb):=by
  intro pins s σ H Q I h
  refine wpAny_IfExp (thn (hc pins s σ H _ I h) λ d s1 ⟨H1,I1,q1⟩=>?_)
  cases d with
  | true=>exact ha pins s1 σ H1 Q I1 q1
  | false=>exact hb pins s1 σ H1 Q I1 q1
end
def SqL (K:PySem.W.Frag) (H:Hp) (a:Addr) (xs:List V):Prop:=
  Rd H a (.lst xs) ∨
    ∃ (o:Obj) (its:Array Value) (n:Nat),K.lookup a=some o/\o.cls=.type "list"/\o.dict=none/\o.data=.seq its n/\its.size<=sizeLine/\Vals xs its.toList
def SqT (K:PySem.W.Frag) (H:Hp) (a:Addr) (xs:List V):Prop:=
  Rd H a (.tup xs) ∨
    ∃ (o:Obj) (its:Array Value) (n:Nat),K.lookup a=some o/\o.cls=.type "tuple"/\o.data=.seq its n/\its.size<=sizeLine/\Vals xs its.toList
def absV:Value->Option V
  | .none=>some .non
  | .bool b=>some (.bl b)
  | .int i _=>some (.int i)
  | .str x _=>some (.str x)
  | .bytes b _=>some (.byt b)
  | .float b _=>some (.flt b)
  | .ref a=>some (.ref a)
  | .type n=>some (.ty n)
  | _=>none
theorem RelV.abs {x:V} {u:Value} (r:RelV x u):absV u=some x:=by
  cases x with
  | non=>cases r;rfl
  | bl _=>cases r;rfl
  | int _=>obtain ⟨t,rfl⟩:=r;rfl
  | str _=>obtain ⟨t,rfl⟩:=r;rfl
  | byt _=>obtain ⟨t,rfl⟩:=r;rfl
  | flt _=>obtain ⟨t,rfl⟩:=r;rfl
  | ref _=>cases r;rfl
  | ty _=>cases r;rfl
theorem RelV.inj {x y:V} {u:Value} (r:RelV x u) (q:RelV y u):x=y:=Option.some.inj (r.abs.symm.trans q.abs)
theorem Vals.inj:∀ {xs ys:List V} {us:List Value},Vals xs us->Vals ys us->xs=ys
  | _,_,_,.nil,.nil=>rfl
  | _,_,_,.cons r t,.cons r' t'=>by rw [r.inj r',Vals.inj t t']
section
variable {X:Cx} {pins:List (Addr × Obj)} {σ:St} {H:Hp} {s:Shared} {a:Addr} {xs ys:List V}
theorem SqL.of {K:PySem.W.Frag} (h:H a=some (.lst xs)):SqL K H a xs:=.inl (.inl h)
theorem SqT.of {K:PySem.W.Frag} (h:H a=some (.tup xs)):SqT K H a xs:=.inl (.inl h)
theorem Inv.list (I:Inv X pins σ H s) (h:SqL X.K H a xs):∃ its:List Value,Vals xs its/\PlainL s.heap a its.toArray/\xs.length<=sizeLine:=by
  rcases h with h | ⟨o,its,n,hk,hc,hd,hs,hz,r⟩
  . obtain ⟨z,its,n,r,e⟩:=h.ok I.hok
    exact ⟨its,r,⟨_,n,e,rfl,rfl,rfl⟩,z⟩
  . refine ⟨its.toList,r,⟨o,n,I.kIn a o hk,hc,hd,by simpa using hs⟩,?_⟩
    have e:=r.length
    simp only [Array.length_toList] at e
    omega
theorem Inv.tuple (I:Inv X pins σ H s) (h:SqT X.K H a xs):∃ its:List Value,Vals xs its/\IsTup s.heap a its.toArray/\xs.length<=sizeLine:=by
  rcases h with h | ⟨o,its,n,hk,hc,hs,hz,r⟩
  . obtain ⟨z,its,r,p⟩:=h.ok I.hok
    exact ⟨its,r,p,z⟩
  . refine ⟨its.toList,r,⟨o,I.kIn a o hk,hc,n,by simpa using hs⟩,?_⟩
    have e:=r.length
    simp only [Array.length_toList] at e
    omega
theorem Inv.list_inj (I:Inv X pins σ H s) (h:SqL X.K H a xs) (h':SqL X.K H a ys):xs=ys:=by
  obtain ⟨its,r,⟨o,n,e,_,_,d⟩,_⟩:=I.list h
  obtain ⟨its',r',⟨o',n',e',_,_,d'⟩,_⟩:=I.list h'
  rw [e] at e';cases e'
  rw [d] at d'
  injection d' with d1 _
  have:its=its':=by simpa using congrArg Array.toList d1
  subst this
  exact r.inj r'
theorem Inv.tuple_inj (I:Inv X pins σ H s) (h:SqT X.K H a xs) (h':SqT X.K H a ys):xs=ys:=by
  obtain ⟨its,r,⟨o,e,_,n,d⟩,_⟩:=I.tuple h
  obtain ⟨its',r',⟨o',e',_,n',d'⟩,_⟩:=I.tuple h'
  rw [e] at e';cases e'
  rw [d] at d'
  injection d' with d1 _
  have:its=its':=by simpa using congrArg Array.toList d1
  subst this
  exact r.inj r'
end
abbrev Cx.wish (X:Cx) (E:Value->Shared->Prop):Cx:={ X with xe:=E }
abbrev Cx.nox (X:Cx):Cx:=X.wish λ _ _=>False
theorem Cx.Ok.wish {X:Cx} (ok:X.Ok) (E:Value->Shared->Prop):(X.wish E).Ok:=
  ⟨ok.mod,ok.kind,ok.glob,ok.blt,ok.above,ok.inj,ok.has,ok.cab,ok.hd,ok.frames,ok.stk,ok.exf,ok.bs,ok.bsz,ok.noex,ok.exfs,ok.funs,ok.frf⟩
theorem Cx.Ok.unwish {X:Cx} {E:Value->Shared->Prop} (ok:(X.wish E).Ok):X.Ok:=
  ⟨ok.mod,ok.kind,ok.glob,ok.blt,ok.above,ok.inj,ok.has,ok.cab,ok.hd,ok.frames,ok.stk,ok.exf,ok.bs,ok.bsz,ok.noex,ok.exfs,ok.funs,ok.frf⟩
section
variable {X:Cx} {pins:List (Addr × Obj)} {σ:St} {H:Hp} {s:Shared} {E:Value->Shared->Prop}
theorem Inv.wish (I:Inv X pins σ H s) (E:Value->Shared->Prop):Inv (X.wish E) pins σ H s:=⟨I.ok.wish E,I.os,I.bare,I.base,I.loc,I.cell,I.free,I.freeC,I.pin,I.hok,I.len⟩
theorem Inv.unwish (I:Inv (X.wish E) pins σ H s):Inv X pins σ H s:=⟨I.ok.unwish,I.os,I.bare,I.base,I.loc,I.cell,I.free,I.freeC,I.pin,I.hok,I.len⟩
theorem SP.unwish {D:Ends} {f:Flow} {s':Shared} (h:SP (X.wish E) pins D f s'):SP X pins D f s':=by
  cases f with
  | next=>obtain ⟨σ',H',I,q⟩:=h;exact ⟨σ',H',I.unwish,q⟩
  | brk=>obtain ⟨σ',H',I,q⟩:=h;exact ⟨σ',H',I.unwish,q⟩
  | cont=>obtain ⟨σ',H',I,q⟩:=h;exact ⟨σ',H',I.unwish,q⟩
  | ret u=>obtain ⟨v,σ',H',I,r,q⟩:=h;exact ⟨v,σ',H',I.unwish,r,q⟩
theorem PSs.nox {st:List Stmt} {t:TS} (h:PSs X.nox st t):PSs X st t:=λ pins s σ H D I hw=>
  wpAny_mono (h pins s σ H D (I.wish _) hw) (λ _ _ q=>q.unwish) λ _ _ z=>False.elim z
end
section
variable {X:Cx} {st:Stmt} {rest:List Stmt} {t u:TS} {e:Expr} {te:TE} {pos:Pos}
def aK1q:TS:=λ D σ H=>D.nx σ H
def tSeq (t u:TS):TS:=λ D σ H=>t { D with nx:=u D } σ H
theorem xBq:PSs X [] aK1q:=λ _ _ σ H _ I h=>wpAny_execs_nil ⟨σ,H,I,h⟩
theorem tSq (h1:PS X st t) (h2:PSs X rest u):PSs X (st::rest) (tSeq t u):=by
  intro pins s σ H D I h
  refine wpAny_execs_cons (thn (h1 pins s σ H { D with nx:=u D } I h) λ f s1 q=>?_)
  cases f with
  | next=>
    obtain ⟨σ',H',I',q⟩:=q
    exact h2 pins s1 σ' H' D I' q
  | ret v=>exact q
  | brk=>exact q
  | cont=>exact q
theorem wXq (h1:PS X st t):PSs X [st] t:=by
  intro pins s σ H D I h
  refine wpAny_execs_cons (thn (h1 pins s σ H D I h) λ f s1 q=>?_)
  cases f with
  | next=>exact wpAny_execs_nil q
  | ret v=>exact q
  | brk=>exact q
  | cont=>exact q
theorem Inv.quiet {pins:List (Addr × Obj)} {σ:St} {H:Hp} {s:Shared} (I:Inv X pins σ H s):interactive X.env=false:=by simp [interactive,I.ok.kind]
def yAq (te:TE):TS:=λ D σ H=>te σ H λ _ H1=>D.nx σ H1
theorem wDq (he:PE X e te) (hs:swapsWith e none pos.line X.env=pure false:=by rfl):PS X (.Expr e pos) (yAq te):=by
  intro pins s σ H D I h
  exact wpAny_Expr_any (thn (he pins s σ H _ I h) λ v s1 ⟨x,H1,I1,r1,q1⟩=>⟨σ,H1,I1,q1⟩) I.quiet hs
def tRet (te:TE):TS:=λ D σ H=>te σ H D.rt
theorem aJ4q (he:PE X e te):PS X (.Return (some e) pos) (tRet te):=by
  intro pins s σ H D I h
  exact wpAny_Return_some (thn (he pins s σ H _ I h) λ v s1 ⟨x,H1,I1,r1,q1⟩=>⟨x,σ,H1,I1,r1,q1⟩)
def tIfS (c:TT) (t u:TS):TS:=λ D σ H=>c σ H λ b H1=>if b=true then t D σ H1 else u D σ H1
theorem aN0q {c:Expr} {a b:List Stmt} {tc:TT} (hc:PT X c tc) (ha:PSs X a t) (hb:PSs X b u):PS X (.If c a b pos) (tIfS tc t u):=by
  intro pins s σ H D I h
  refine wpAny_If (thn (hc pins s σ H _ I h) λ d s1 ⟨H1,I1,q1⟩=>?_)
  cases d with
  | true=>exact ha pins s1 σ H1 D I1 q1
  | false=>exact hb pins s1 σ H1 D I1 q1
end
abbrev TG:=V->St->Hp->(St->Hp->Prop)->Prop
abbrev TGs:=List V->St->Hp->(St->Hp->Prop)->Prop
def PG (X:Cx) (target:Expr) (t:TG):Prop:=
  ∀ (pins:List (Addr × Obj)) (s:Shared) (σ:St) (H:Hp) (v:V) (u:Value) (Q:St->Hp->Prop),Inv X pins σ H s->RelV v u->t v σ H Q →
    wpAny (model X.prog X.w) X.A (assign target X.env u) (λ _ s'=>∃ σ' H',Inv X pins σ' H' s'/\Q σ' H') X.xe s
def PGs (X:Cx) (ts:List Expr) (t:TGs):Prop:=
  ∀ (pins:List (Addr × Obj)) (s:Shared) (σ:St) (H:Hp) (vs:List V) (us:List Value) (Q:St->Hp->Prop),Inv X pins σ H s->Vals vs us->t vs σ H Q →
    wpAny (model X.prog X.w) X.A (assignInOrder ((assignEach ts X.env).map (·.2)) us) (λ _ s'=>∃ σ' H',Inv X pins σ' H' s'/\Q σ' H') X.xe s
abbrev yUq:=V->V->V->Hp->(Hp->Prop)->Prop
def PSet (X:Cx) (t:yUq):Prop:=
  ∀ (pins:List (Addr × Obj)) (s:Shared) (σ:St) (H:Hp) (o i v:V) (ov iv u:Value) (Q:Hp->Prop),Inv X pins σ H s->RelV o ov->RelV i iv->RelV v u->t o i v H Q →
    wpAny (model X.prog X.w) X.A (setItem ov iv u) (λ _ s'=>∃ H',Inv X pins σ H' s'/\Q H') X.xe s
abbrev TIp:=V->V->Hp->VK->Prop
def PIp (X:Cx) (op:Operator) (t:TIp):Prop:=
  ∀ (pins:List (Addr × Obj)) (s:Shared) (σ:St) (H:Hp) (x y:V) (v u:Value) (Q:VK),Inv X pins σ H s->RelV x v->RelV y u->t x y H Q →
    wpAny (model X.prog X.w) X.A (inplaceOp op v u) (EP X pins σ Q) X.xe s
section
variable {X:Cx} {pos:Pos}
def nDq (i:Nat):TG:=λ v σ H Q=>Q (σ.set i (some v)) H
theorem v8q {i:Nat} {x:Str} (hN:X.N.Nodup) (hi:X.N[i]?=some x) (hx:Loc X.env.scope x) (hf:X.fn x=true\/X.env.scope.names.lookup x=some .local:=by first | exact .inl rfl | exact .inr rfl | assumption):PG X (.Name x pos) (nDq i):=by
  intro pins s σ H v u Q I r h
  exact wpAny_assign_Name (iEq I hN hi hx r (λ s' I'=>⟨_,H,I',h⟩) hf)
def gNil:TGs:=λ vs σ H Q=>vs=[]/\Q σ H
def aB1q (t:TG) (u:TGs):TGs:=λ vs σ H Q=>∃ v r,vs=v::r/\t v σ H λ σ' H'=>u r σ' H' Q
theorem wCq:PGs X [] gNil:=by
  intro pins s σ H vs us Q I r h
  obtain ⟨e,h⟩:=h
  subst e
  cases r
  exact assignInOrder_nil ⟨σ,H,I,h⟩
theorem tRq {e:Expr} {es:List Expr} {t:TG} {u:TGs} (h1:PG X e t) (h2:PGs X es u)
    (hs:(assignEach (e::es) X.env).map (·.2)=assign e X.env::(assignEach es X.env).map (·.2):=by rfl):PGs X (e::es) (aB1q t u):=by
  intro pins s σ H vs us Q I r h
  obtain ⟨v,vr,e1,h⟩:=h
  subst e1
  cases r with
  | cons r rr=>
    rw [hs]
    refine assignInOrder_cons (thn (h1 pins s σ H _ _ _ I r h) λ _ s1 ⟨σ1,H1,I1,q1⟩=>?_)
    exact h2 pins s1 σ1 H1 _ _ Q I1 rr q1
def gTup (K:PySem.W.Frag) (n:Nat) (t:TGs):TG:=λ v σ H Q=>∃ a xs,v=.ref a/\SqT K H a xs/\xs.length=n/\t xs σ H Q
theorem aE0q {es:List Expr} {k:Nat} {t:TGs} {n:Nat} (hc:X.calm=true) (h:PGs X es t)
    (hn:(assignEach es X.env).length=n:=by rfl) (hst:(assignEach es X.env).findIdx? (·.1)=none:=by rfl):PG X (.Tuple es k pos) (gTup X.K n t):=by
  intro pins s σ H v u Q I r hw
  obtain ⟨a,xs,e1,hq,hl,hw⟩:=hw
  subst e1
  cases r
  obtain ⟨its,rv,ht,hz⟩:=I.tuple hq
  refine assign_Tuple_tuple (I.ok.hd hc) ht (by simp [hn,<- hl,rv.length]) hst λ h' hx=>?_
  have I1:Inv X pins σ H { s with heap:=h' }:=I.kept (t':=s.toks) λ b o e=>hx b o (Nat.ne_of_lt (Heap.lt_size e)) e
  exact h pins _ σ H xs _ Q I1 (by simpa using rv) hw
def gSub (to ti:TE) (t:yUq):TG:=λ v σ H Q=>to σ H λ o H1=>ti σ H1 λ i H2=>t o i v H2 λ H3=>Q σ H3
theorem aJ0q {o i:Expr} {to ti:TE} {t:yUq} (ho:PE X o to) (hi:PE X i ti) (hs:PSet X t)
    (ha:∀ v,assign (.Subscript o i pos) X.env v=(do
      let ov ← holding [v] (eval o X.env)
      let iv ← holding [v,ov] (eval i X.env)
      standAt pos
      holding [v,ov,iv] (setItem ov iv v)
      release [v,ov,iv] []):=by intro _;rfl):PG X (.Subscript o i pos) (gSub to ti t):=by
  intro pins s σ H v u Q I r h
  rw [ha]
  refine wpAny_bind (wpAny_holding (thn (ho pins s σ H _ I h) λ ov s1 ⟨x,H1,I1,r1,q1⟩=>?_))
  refine wpAny_bind (wpAny_holding (thn (hi pins s1 σ H1 _ I1 q1) λ iv s2 ⟨y,H2,I2,r2,q2⟩=>?_))
  refine wpAny_bind (wpAny_standAt (wpAny_bind (wpAny_holding (thn (hs pins s2 σ H2 x y v ov iv u _ I2 r1 r2 r q2) λ _ s3 ⟨H3,I3,q3⟩=>?_))))
  exact wpAny_release ⟨σ,H3,I3,q3⟩
def y9q (te:TE) (g:TG):TS:=λ D σ H=>te σ H λ x H1=>g x σ H1 D.nx
theorem aF9q {tg e:Expr} {te:TE} {g:TG} (he:PE X e te) (hg:PG X tg g) (hs:swapsWithSole [tg] e pos.line X.env=pure false:=by rfl) (hw:swappedStores [tg] e X.env=pure none:=by rfl)
    (h1:(assignEach [tg] X.env).map (·.2)=[assign tg X.env]:=by rfl):PS X (.Assign [tg] e pos) (y9q te g):=by
  intro pins s σ H D I h
  refine wpAny_Assign_stores (thn (he pins s σ H _ I h) λ v s1 ⟨x,H1,I1,r1,q1⟩=>?_) hs hw
  rw [h1]
  exact thn (hg pins s1 σ H1 x v _ I1 r1 q1) λ _ s2 q=>q
theorem ySq {i:Nat} {x:Str} {e:Expr} {te:TE} {pos':Pos} (hN:X.N.Nodup) (hi:X.N[i]?=some x) (hx:Loc X.env.scope x) (he:PE X e te) (hs:swapsWith e (some (.Name x pos')) pos.line X.env=pure false:=by rfl) (hf:X.fn x=true\/X.env.scope.names.lookup x=some .local:=by first | exact .inl rfl | exact .inr rfl | assumption) :
    PS X (.Assign [.Name x pos'] e pos) (y9q te (nDq i)):=by
  intro pins s σ H D I h
  refine wpAny_Assign_Name (thn (he pins s σ H _ I h) λ v s1 ⟨y,H1,I1,r1,q1⟩=>?_) hs
  exact iEq I1 hN hi hx r1 (λ s2 I2=>⟨_,H1,I2,q1⟩) hf
def tAug (i:Nat) (te:TE) (ti:TIp):TS:=λ D σ H=>∃ x,σ[i]?=some (some x)/\te σ H λ y H1=>ti x y H1 λ z H2=>D.nx (σ.set i (some z)) H2
theorem aC0q {i:Nat} {x:Str} {e:Expr} {te:TE} {op:Operator} {ti:TIp} {pos':Pos} (hN:X.N.Nodup) (hi:X.N[i]?=some x) (hx:Loc X.env.scope x) (he:PE X e te) (ho:PIp X op ti) (hf:X.fn x=true\/X.env.scope.names.lookup x=some .local:=by first | exact .inl rfl | exact .inr rfl | assumption) :
    PS X (.AugAssign (.Name x pos') op e pos) (tAug i te ti):=by
  intro pins s σ H D I h
  obtain ⟨v,e1,h⟩:=h
  obtain ⟨m,hn,hl⟩:=I.loc
  have vis:Vis X.env.scope x:=by rcases hx with k | k;exact .inl k;exact .inr (.inl k)
  obtain ⟨u,r,l⟩:=hl i x v hi e1 vis
  refine wpAny_AugAssign_Name ?_
  have go:wpAny (model X.prog X.w) X.A (eval e X.env) (λ w s₂=>wpAny (model X.prog X.w) X.A (inplaceOp op u w) (λ r s₃=>wpAny (model X.prog X.w) X.A (storeName X.env x r) (λ _=>SP X pins D .next) X.xe s₃) X.xe s₂) X.xe s:=by
    refine thn (he pins s σ H _ I h) λ w s1 ⟨y,H1,I1,r1,q1⟩=>?_
    refine thn (ho pins s1 σ H1 v y u w _ I1 r r1 q1) λ z s2 ⟨zv,H2,I2,r2,q2⟩=>?_
    exact iEq I2 hN hi hx r2 (λ s3 I3=>⟨_,H2,I3,q2⟩) hf
  rcases l with ⟨hk,hm⟩ | ⟨hk,c,hc,hcell⟩
  . exact wpAny_loadName_local I.ok.kind hk hn hm go
  . rcases hk with hk | hk
    . exact wpAny_loadName_cell I.ok.kind hk hc hcell go
    . rcases hx with k | k
      . have:X.env.scope.names.lookup x=some .free:=hk
        rw [k] at this;cases this
      . have:X.env.scope.names.lookup x=some .free:=hk
        rw [k] at this;cases this
def ipI (f:Int->Int->Int):TIp:=λ x y H Q=>∃ i j,x=.int i/\y=.int j/\Q (.int (f i j)) H
theorem aI3q:PIp X .Add (ipI λ i j=>i+j):=by
  intro pins s σ H x y v u Q I r1 r2 h
  obtain ⟨i,j,e1,e2,q⟩:=h
  subst e1;subst e2
  obtain ⟨t,rfl⟩:=r1
  obtain ⟨t',rfl⟩:=r2
  exact iadd_int ⟨.int _,H,I.tok _,⟨_,rfl⟩,q⟩
theorem aG7q:PIp X .Sub (ipI λ i j=>i - j):=by
  intro pins s σ H x y v u Q I r1 r2 h
  obtain ⟨i,j,e1,e2,q⟩:=h
  subst e1;subst e2
  obtain ⟨t,rfl⟩:=r1
  obtain ⟨t',rfl⟩:=r2
  exact isub_int ⟨.int _,H,I.tok _,⟨_,rfl⟩,q⟩
end
section
variable {X:Cx} {pos:Pos}
def uLq (c:TT) (tb:TS):TS:=λ D σ H=>∃ W:Nat->St->Hp->Prop,(∃ m,W m σ H)/\∀ m σ H,W m σ H →
  c σ H λ b H1=>if b=true then ∃ N:St->Hp->Prop,(∀ σ' H',N σ' H'->∃ m',m' < m/\W m' σ' H')/\tb { D with nx:=N,ct:=N,bk:=D.nx } σ H1 else D.nx σ H1
theorem t1q {c:Expr} {body:List Stmt} {tc:TT} {tb:TS} (hp:PassesOwn (model X.prog X.w) X.A X.env X.xe) (hc:PT X c tc) (hb:PSs X body tb):PS X (.While c body [] pos) (uLq tc tb):=by
  intro pins s σ H D I h
  obtain ⟨W,⟨m0,w0⟩,turn⟩:=h
  refine wpAny_While (codeAny_whileLoop (λ n s'=>∃ σ' H',Inv X pins σ' H' s'/\W n σ' H') ?_ m0 ⟨σ,H,I,w0⟩)
  rintro n s1 ⟨σ1,H1,I1,w1⟩
  refine wpAny_passesOwn hp (thn (hc pins s1 σ1 H1 _ I1 (turn n σ1 H1 w1)) λ b s2 ⟨H2,I2,q2⟩=>?_)
  cases b with
  | true=>
    obtain ⟨N,hN,q2⟩:=q2
    rw [if_pos rfl]
    refine wpAny_passesOwn hp (thn (hb pins s2 σ1 H2 _ I2 q2) λ f s3 q3=>?_)
    cases f with
    | next=>
      obtain ⟨σ3,H3,I3,n3⟩:=q3
      obtain ⟨m',hm,w3⟩:=hN σ3 H3 n3
      exact ⟨m',hm,σ3,H3,I3,w3⟩
    | cont=>
      obtain ⟨σ3,H3,I3,n3⟩:=q3
      obtain ⟨m',hm,w3⟩:=hN σ3 H3 n3
      exact ⟨m',hm,σ3,H3,I3,w3⟩
    | brk=>exact q3
    | ret v=>exact q3
  | false=>
    rw [if_neg Bool.false_ne_true]
    exact wpAny_execs_nil ⟨σ1,H2,I2,q2⟩
end
structure It where
  go:Nat->Hp->Prop
  yld:Nat->Hp->V->Hp->Prop
  stop:Nat->Hp->Prop
def kDq (X:Cx) (pins:List (Addr × Obj)) (H:Hp) (b:Addr):Prop:=
  H b=none/\b≠X.env.locals/\b ∉ X.fs/\(b∈X.ex\/X.s₀.heap.objs.size<=b)/\(∀ x c,X.env.cells.lookup x=some c->c≠b)/\∀ p∈X.pn++pins,p.1≠b
theorem Inv.fpOk {X:Cx} {pins:List (Addr × Obj)} {σ:St} {H H':Hp} {s:Shared} {b:Addr} (I:Inv X pins σ H s) (hb:s.heap.objs.size<=b) (hn:H' b=none):kDq X pins H' b:=by
  refine ⟨hn,Nat.ne_of_gt (Nat.lt_of_lt_of_le I.lt hb),I.nofs hb,.inr (Nat.le_trans I.sz hb),λ x c e z=>?_,λ p hp z=>?_⟩
  . obtain ⟨v,q⟩:=I.cell x c e
    exact absurd (Nat.lt_of_lt_of_le q.lt (by rw [z];exact hb)) (Nat.lt_irrefl _)
  . exact absurd (Nat.lt_of_lt_of_le (Heap.lt_size (I.pin p hp).1) (by rw [z];exact hb)) (Nat.lt_irrefl _)
structure Turn (P:Program) (w:World) (K:PySem.W.Frag) (tg:Expr) (J:It) (fp:List Addr) (it:Addr) (tn:Nat->Heap->Prop):Prop where
  mem:it∈fp
  obj:∀ i h,tn i h->∀ b∈fp,∃ o,h.get? b=some o/\∀ v,o.data≠.cell v
  keep:∀ i h h',tn i h->(∀ b∈fp,∀ o,h.get? b=some o->h'.get? b=some o)->tn i h'
  item:∀ (X:Cx),X.prog=P->X.w=w->X.K=K->X.calm=true->∀ (i:Nat) (pins:List (Addr × Obj)) (s:Shared) (σ:St) (H:Hp) (E:Value->Shared->Prop),Inv X pins σ H s->(∀ b∈fp,kDq X pins H b)->tn i s.heap->J.go i H →
    wpAny (model P w) X.A (pyNext (.ref it)) (λ r s1=>∃ u,r=some u ∧
      wpAny (model P w) X.A (letOwnedTupleGo tg (.ref it) u) (λ _ s2=>∃ x H',Inv X pins σ H' s2/\RelV x u/\J.yld i H x H'/\tn (i+1) s2.heap/\∀ b∈fp,H' b=none) E s1) E s
  done:∀ (X:Cx),X.prog=P->X.w=w->X.K=K->X.calm=true->∀ (i:Nat) (pins:List (Addr × Obj)) (s:Shared) (σ:St) (H:Hp) (E:Value->Shared->Prop),Inv X pins σ H s->(∀ b∈fp,kDq X pins H b)->tn i s.heap->J.stop i H →
    wpAny (model P w) X.A (pyNext (.ref it)) (λ r s1=>r=none/\Inv X pins σ H s1) E s
  self:∀ (A:Around) (i:Nat) (s:Shared) (Q:Value->Shared->Prop) (E:Value->Shared->Prop),tn i s.heap->Q (.ref it) s->wpAny (model P w) A (pyIter (.ref it)) Q E s
abbrev TI:=St->Hp->(It->Hp->Prop)->Prop
def PIE (X:Cx) (pins:List (Addr × Obj)) (σ:St) (tg:Expr) (R:It->Hp->Prop) (itv:Value) (s2:Shared):Prop:=
  ∃ (it:Addr) (fp:List Addr) (tn:Nat->Heap->Prop) (J:It) (H':Hp),itv=.ref it/\Inv X pins σ H' s2/\Turn X.prog X.w X.K tg J fp it tn/\tn 0 s2.heap/\(∀ b∈fp,kDq X pins H' b)/\R J H'
def PI (X:Cx) (tg iter:Expr) (wi:TI):Prop:=
  ∀ (pins:List (Addr × Obj)) (s:Shared) (σ:St) (H:Hp) (R:It->Hp->Prop),Inv X pins σ H s->wi σ H R →
    wpAny (model X.prog X.w) X.A (eval iter X.env) (λ v s1=>wpAny (model X.prog X.w) X.A (pyIter v) (PIE X pins σ tg R) X.xe s1) X.xe s
theorem nOq {M:Model} {A:Around} {E:Value->Shared->Prop} {s:Shared} {tg:Expr} {it:Addr} {u:Value} {o:Obj} {n:String} {vs:Array Value} {Q:Unit->Shared->Prop} (ho:s.heap.get? it=some o) (hc:o.cls=.type n) (hd:o.data=.fields vs)
    (hn:["enumerate", "zip", "dict_itemiterator", "dict_reverseitemiterator", "odict_iterator", "itertools.zip_longest", "itertools.pairwise"].contains n=false) (hQ:Q () s):wpAny M A (letOwnedTupleGo tg (.ref it) u) Q E s:=by
  unfold letOwnedTupleGo
  cases tg<;>first
    | exact wpAny_pure hQ
    | (cases u<;>first
        | exact wpAny_pure hQ
        | (refine wpAny_bind (wpAny_load ho ?_)
           rw [hc,hd]
           show wpAny M A (if (["enumerate", "zip", "dict_itemiterator", "dict_reverseitemiterator", "odict_iterator", "itertools.zip_longest", "itertools.pairwise"].contains n&&vs[0]?==some (rawInt _))=true then _ else _) Q E s
           rw [if_neg (by intro h;rw [hn,Bool.false_and] at h;cases h)]
           exact wpAny_pure hQ))
def Itl (K:PySem.W.Frag) (a:Addr):It:=
  ⟨λ i H=>∃ xs x,SqL K H a xs/\xs[i]?=some x,λ i H x H'=>H'=H/\∀ xs,SqL K H a xs->xs[i]?=some x,λ i H=>∃ xs,SqL K H a xs/\xs.length<=i⟩
def Itt (K:PySem.W.Frag) (a:Addr):It:=
  ⟨λ i H=>∃ xs x,SqT K H a xs/\xs[i]?=some x,λ i H x H'=>H'=H/\∀ xs,SqT K H a xs->xs[i]?=some x,λ i H=>∃ xs,SqT K H a xs/\xs.length<=i⟩
def Itr (lo:Int) (n:Nat):It:=⟨λ i _=>i < n,λ i H x H'=>H'=H/\x=.int (lo+i),λ i _=>n<=i⟩
theorem r3q {P:Program} {w:World} {K:PySem.W.Frag} {tg:Expr} (a it:Addr):Turn P w K tg (Itl K a) [it] it (λ i h=>h.IsListIter it a i) where
  mem:=by simp
  obj:=λ i h st b hb=>by
    have e:b=it:=by simpa using hb
    subst e
    obtain ⟨o,e,c,d⟩:=st
    exact ⟨o,e,λ v z=>by rw [d] at z;cases z⟩
  keep:=λ i h h' st k=>st.at λ o e=>k it (by simp) o e
  item:=by
    intro X hP hw hK hc i pins s σ H E I hf st hg
    subst hP hw hK
    obtain ⟨xs,x,hq,hx⟩:=hg
    obtain ⟨its,rv,p,hz⟩:=I.list hq
    obtain ⟨u,hu,ru⟩:=rv.get hx
    obtain ⟨f0,f1,f2,f3,f4,f5⟩:=hf it (by simp)
    refine wpAny_pyNext_list_item st p.isList (x:=u) (by simpa using hu) λ h' st' sb=>?_
    have I1:Inv X pins σ H { s with heap:=h' }:=I.turned (t':=s.toks) (λ b o hb e=>(sb.2 b hb).trans e) f0 f1 f3 f4 f5
    obtain ⟨o,e,c,d⟩:=id st'
    exact ⟨u,rfl,nOq (s:={ s with heap:=h' }) e c d (by decide) ⟨x,H,I1,ru,⟨rfl,λ ys hy=>by rw [I.list_inj hy hq];exact hx⟩,st',λ b hb=>(hf b hb).1⟩⟩
  done:=by
    intro X hP hw hK hc i pins s σ H E I hf st hg
    subst hP hw hK
    obtain ⟨xs,hq,hx⟩:=hg
    obtain ⟨its,rv,p,hz⟩:=I.list hq
    obtain ⟨f0,f1,f2,f3,f4,f5⟩:=hf it (by simp)
    have hl:=rv.length
    exact wpAny_pyNext_list_end (I.ok.hd hc) st p.isList (by simp;omega) λ h' eb=>⟨rfl,I.turned (t':=s.toks) (λ b o hb e=>eb b o hb e) f0 f1 f3 f4 f5⟩
  self:=λ _ _ _ _ _ st h=>wpAny_pyIter_listiter st h
theorem nLq {P:Program} {w:World} {K:PySem.W.Frag} {tg:Expr} (a it:Addr):Turn P w K tg (Itt K a) [it] it (λ i h=>h.IsTupleIter it a i) where
  mem:=by simp
  obj:=λ i h st b hb=>by
    have e:b=it:=by simpa using hb
    subst e
    obtain ⟨o,e,c,d⟩:=st
    exact ⟨o,e,λ v z=>by rw [d] at z;cases z⟩
  keep:=λ i h h' st k=>st.at λ o e=>k it (by simp) o e
  item:=by
    intro X hP hw hK hc i pins s σ H E I hf st hg
    subst hP hw hK
    obtain ⟨xs,x,hq,hx⟩:=hg
    obtain ⟨its,rv,p,hz⟩:=I.tuple hq
    obtain ⟨u,hu,ru⟩:=rv.get hx
    obtain ⟨f0,f1,f2,f3,f4,f5⟩:=hf it (by simp)
    refine wpAny_pyNext_tuple_item st (show s.heap.IsTuple a its.toArray from p) (x:=u) (by simpa using hu) λ h' st' sb=>?_
    have I1:Inv X pins σ H { s with heap:=h' }:=I.turned (t':=s.toks) (λ b o hb e=>(sb.2 b hb).trans e) f0 f1 f3 f4 f5
    obtain ⟨o,e,c,d⟩:=id st'
    exact ⟨u,rfl,nOq (s:={ s with heap:=h' }) e c d (by decide) ⟨x,H,I1,ru,⟨rfl,λ ys hy=>by rw [I.tuple_inj hy hq];exact hx⟩,st',λ b hb=>(hf b hb).1⟩⟩
  done:=by
    intro X hP hw hK hc i pins s σ H E I hf st hg
    subst hP hw hK
    obtain ⟨xs,hq,hx⟩:=hg
    obtain ⟨its,rv,p,hz⟩:=I.tuple hq
    obtain ⟨f0,f1,f2,f3,f4,f5⟩:=hf it (by simp)
    have hl:=rv.length
    exact wpAny_pyNext_tuple_end (I.ok.hd hc) st (show s.heap.IsTuple a its.toArray from p) (by simp;omega) λ h' eb=>⟨rfl,I.turned (t':=s.toks) (λ b o hb e=>eb b o hb e) f0 f1 f3 f4 f5⟩
  self:=λ _ _ _ _ _ st h=>wpAny_pyIter_tupleiter st h
theorem nEq {P:Program} {w:World} {K:PySem.W.Frag} {tg:Expr} (it:Addr) (lo:Int) (n:Nat):Turn P w K tg (Itr lo n) [it] it (λ i h=>IsRangeIter h it (lo+(i:Nat) * 1) ((n:Int) - (i:Nat)) 1) where
  mem:=by simp
  obj:=λ i h st b hb=>by
    have e:b=it:=by simpa using hb
    subst e
    exact ⟨_,st,λ v z=>by
      have z':Data.fields _=Data.cell v:=z
      cases z'⟩
  keep:=λ i h h' st k=>k it (by simp) _ st
  item:=by
    intro X hP hw hK hc i pins s σ H E I hf st hg
    subst hP hw hK
    obtain ⟨f0,f1,f2,f3,f4,f5⟩:=hf it (by simp)
    have W:=Walks.range (prog:=X.prog) (w:=X.w) (I.ok.hd hc) it lo 1 n
    refine W.item i s _ _ hg st λ v h' tk hv st' kk=>?_
    obtain ⟨t,rfl⟩:=hv
    have I1:Inv X pins σ H { s with heap:=h',toks:=tk }:=I.turned (λ b o hb e=>kk b o (by simpa using hb) e) f0 f1 f3 f4 f5
    refine ⟨_,rfl,nOq (s:={ s with heap:=h',toks:=tk }) (n:="range_iterator") st' rfl rfl (by decide) ⟨.int (lo+i),H,I1,⟨t,?_⟩,⟨rfl,rfl⟩,st',λ b hb=>(hf b hb).1⟩⟩
    rw [Int.mul_one]
  done:=by
    intro X hP hw hK hc i pins s σ H E I hf st hg
    subst hP hw hK
    obtain ⟨f0,f1,f2,f3,f4,f5⟩:=hf it (by simp)
    exact wpAny_pyNext_range_end (I.ok.hd hc) st (by have:n<=i:=hg;omega) λ h' eb=>⟨rfl,I.turned (t':=s.toks) (λ b o hb e=>eb b o hb e) f0 f1 f3 f4 f5⟩
  self:=λ _ _ _ _ _ st h=>wpAny_pyIter_rangeiter st h
section
variable {X:Cx} {tg:Expr}
theorem t7q {pins:List (Addr × Obj)} {σ:St} {H:Hp} {s:Shared} {R:It->Hp->Prop} {E:Value->Shared->Prop} {lo hi:Int} {t u v:Tok} {tk:Nat} (I:Inv X pins σ H s) (h1:-(2 ^ 62)<=lo) (h2:lo < 2 ^ 62) (h3:-(2 ^ 62)<=hi) (h4:hi < 2 ^ 62)
    (q:R (Itr lo (hi - lo).toNat) H):wpAny (model X.prog X.w) X.A (pyIter (.ref s.heap.objs.size)) (PIE X pins σ tg R) E { s with heap:=s.heap.push { cls:=.type "range", data:=.fields #[.int lo t,.int hi u,.int 1 v] },toks:=tk }:=by
  refine wpAny_pyIter_range (IsRange.new ..) (small_one h1 h2 h3 h4) ?_
  have I1:Inv X pins σ H { s with heap:=s.heap.push { cls:=.type "range", data:=.fields #[.int lo t,.int hi u,.int 1 v] },toks:=tk }:=I.kept λ b o e=>Heap.get?_push_of_some _ e
  refine ⟨(s.heap.push { cls:=.type "range", data:=.fields #[.int lo t,.int hi u,.int 1 v] }).objs.size,[(s.heap.push { cls:=.type "range", data:=.fields #[.int lo t,.int hi u,.int 1 v] }).objs.size],_,_,H,rfl,
    I1.kept (t':=tk) λ b o e=>Heap.get?_push_of_some _ e,nEq _ lo (hi - lo).toNat,?_,λ b hb=>?_,q⟩
  . have e1:lo+((0:Nat):Int) * 1=lo:=by simp
    have e2:(((hi - lo).toNat:Nat):Int) - ((0:Nat):Int)=Builtin.Range.rangeSize lo hi 1:=by rw [rangeSize_one];split<;>omega
    show IsRangeIter _ _ (lo+((0:Nat):Int) * 1) ((((hi - lo).toNat:Nat):Int) - ((0:Nat):Int)) 1
    rw [e1,e2]
    exact Heap.get?_push_size _ rfl
  . have e:b=(s.heap.push { cls:=.type "range", data:=.fields #[.int lo t,.int hi u,.int 1 v] }).objs.size:=by simpa using hb
    subst e
    exact I1.fpOk (Nat.le_refl _) (I1.hok.fresh (Nat.le_refl _))
def aD6q (ta:TA):TI:=λ σ H R=>ta σ H λ vs H1=>∃ j:Int,vs=[.int j]/\-(2 ^ 62)<=j/\j < 2 ^ 62/\R (Itr 0 j.toNat) H1
theorem qRq {a:Expr} {ta:TA} {p pos:Pos} (hg:Gl X "range") (hm:X.mg "range" = none) (ha:PA X [a] ta) (hs:starEach [a] X.env=[(false,eval a X.env)]:=by rfl):PI X tg (.Call (.Name "range" p) [a] [] pos) (aD6q ta):=by
  intro pins s σ H R I h
  refine Call_ (e3q I hg hm boot_range (PyProof.Rows.callWith_type1 (thn (ha pos pins s σ H _ I h) λ us s1 ⟨vs,H1,I1,r1,q1⟩=>?_) hs rfl))
  obtain ⟨j,e,q1,q2,q⟩:=q1
  subst e
  cases r1 with
  | cons r rr=>
    cases rr
    obtain ⟨t,rfl⟩:=r
    exact call_range_1 (t7q I1 (by omega) (by omega) q1 q2 (by simpa using q))
def tFor (wi:TI) (g:TG) (tb:TS):TS:=λ D σ H=>wi σ H λ J H1=>∃ W:Nat->Nat->St->Hp->Prop,(∃ m,W 0 m σ H1)/\∀ i m σ H,W i m σ H →
  (J.stop i H/\D.nx σ H)\/(J.go i H/\∃ N:St->Hp->Prop,(∀ σ' H',N σ' H'->∃ m',m' < m/\W (i+1) m' σ' H')/\∀ x H',J.yld i H x H'->g x σ H' λ σ2 H2=>tb { D with nx:=N,ct:=N,bk:=D.nx } σ2 H2)
def mCq (fp:List Addr) (h:Heap):List (Addr × Obj):=fp.filterMap λ b=>(h.get? b).map λ o=>(b,o)
theorem c7q {fp:List Addr} {h:Heap} {b:Addr} {o:Obj} (hb:b∈fp) (e:h.get? b=some o):(b,o)∈mCq fp h:=List.mem_filterMap.mpr ⟨b,hb,by rw [e];rfl⟩
theorem p2q {fp:List Addr} {h:Heap} {p:Addr × Obj} (hp:p∈mCq fp h):p.1∈fp/\h.get? p.1=some p.2:=by
  obtain ⟨b,hb,e⟩:=List.mem_filterMap.mp hp
  cases q:h.get? b with
  | none=>rw [q] at e;cases e
  | some o=>
    rw [q] at e
    have e':(b,o)=p:=Option.some.inj e
    subst e'
    exact ⟨hb,q⟩
theorem Inv.pinned {pins:List (Addr × Obj)} {σ:St} {H:Hp} {s:Shared} {fp:List Addr} (I:Inv X pins σ H s) (hf:∀ b∈fp,kDq X pins H b) (ho:∀ b∈fp,∃ o,s.heap.get? b=some o/\∀ v,o.data≠.cell v):Inv X (pins++mCq fp s.heap) σ H s:=
  I.pins_of λ p hp=>(Yq.mp hp).elim (λ z=>I.pin p (Yk _ z)) λ z=>by
    obtain ⟨hb,e⟩:=p2q z
    obtain ⟨f0,f1,f2,_⟩:=hf p.1 hb
    obtain ⟨o,e',d⟩:=ho p.1 hb
    rw [e] at e';cases e'
    exact ⟨e,f0,f1,f2,d⟩
theorem Inv.unpinned {pins pl:List (Addr × Obj)} {σ:St} {H:Hp} {s:Shared} (I:Inv X (pins++pl) σ H s):Inv X pins σ H s:=I.pins_of λ p hp=>I.pin p (Yk _ (YG _ hp))
theorem aJ6q {iter:Expr} {body:List Stmt} {wi:TI} {g:TG} {tb:TS} {pos:Pos} (hp:PassesOwn (model X.prog X.w) X.A X.env X.xe) (hc:X.calm=true) (hi:PI X tg iter wi) (hg:PG X tg g) (hb:PSs X body tb)
    (hs:∀ x,foldedSetIterable iter X.env x=pure x:=by intro _;rfl):PS X (.For tg iter body [] pos) (tFor wi g tb):=by
  intro pins s σ H D I h
  refine wpAny_For (thn (hi pins s σ H _ I h) λ v s1 h1=>thn h1 λ itv s2 h2=>?_) hs
  obtain ⟨it,fp,tn,J,H2,e,I2,T,st2,f2,W,⟨m0,w0⟩,turn⟩:=h2
  subst e
  have stat:∀ {H':Hp},(∀ b∈fp,H' b=none)->∀ b∈fp,kDq X pins H' b:=λ hn b hb=>⟨hn b hb,(f2 b hb).2⟩
  refine codeAny_forLoop_any (λ n s'=>∃ i σ' H',Inv X pins σ' H' s'/\tn i s'.heap/\(∀ b∈fp,H' b=none)/\W i n σ' H') ?_ m0 ⟨0,σ,H2,I2,st2,λ b hb=>(f2 b hb).1,w0⟩
  rintro n s3 ⟨i,σ3,H3,I3,st3,fr3,w3⟩
  rcases turn i n σ3 H3 w3 with ⟨stop,qn⟩ | ⟨go,N,hN,step⟩
  . refine wpAny_passesOwn hp (thn (T.done X rfl rfl rfl hc i pins s3 σ3 H3 X.xe I3 (stat fr3) st3 stop) λ r s4 ⟨hr,I4⟩=>?_)
    subst hr
    exact wpAny_execs_nil ⟨σ3,H3,I4,qn⟩
  . refine wpAny_passesOwn hp (thn (T.item X rfl rfl rfl hc i pins s3 σ3 H3 X.xe I3 (stat fr3) st3 go) λ r s4 ⟨u,hr,h4⟩=>?_)
    subst hr
    refine wpAny_passesOwn hp (thn h4 λ _ s5 ⟨x,H5,I5,r5,y5,st5,fr5⟩=>?_)
    have I5':=I5.pinned (stat fr5) (T.obj _ _ st5)
    refine wpAny_passesOwn hp (thn (hg _ s5 σ3 H5 x u _ I5' r5 (step x H5 y5)) λ _ s6 ⟨σ6,H6,I6,q6⟩=>?_)
    refine wpAny_passesOwn hp (thn (hb _ s6 σ6 H6 _ I6 q6) λ f s7 q7=>?_)
    have again:∀ {σ7:St} {H7:Hp},Inv X (pins++mCq fp s5.heap) σ7 H7 s7->N σ7 H7->∃ m,m < n/\∃ i σ' H',Inv X pins σ' H' s7/\tn i s7.heap/\(∀ b∈fp,H' b=none)/\W i m σ' H':=λ{σ7 H7} I7 n7=>by
      obtain ⟨m',hm,w7⟩:=hN σ7 H7 n7
      refine ⟨m',hm,i+1,σ7,H7,I7.unpinned,T.keep _ _ _ st5 λ b hb o e=>(I7.pin (b,o) (Yk _ (Yk _ (c7q hb e)))).1,λ b hb=>?_,w7⟩
      obtain ⟨o,e,d⟩:=T.obj _ _ st5 b hb
      exact (I7.pin (b,o) (Yk _ (Yk _ (c7q hb e)))).2.1
    cases f with
    | next=>obtain ⟨σ7,H7,I7,n7⟩:=q7;exact again I7 n7
    | cont=>obtain ⟨σ7,H7,I7,n7⟩:=q7;exact again I7 n7
    | brk=>obtain ⟨σ7,H7,I7,q7⟩:=q7;exact ⟨σ7,H7,I7.unpinned,q7⟩
    | ret v=>obtain ⟨x7,σ7,H7,I7,r7,q7⟩:=q7;exact ⟨x7,σ7,H7,I7.unpinned,r7,q7⟩
end
abbrev R2:=V->V->Hp->VK->Prop
def OpR (X:Cx) (f:Value->Value->Sem Value) (r:R2):Prop:=
  ∀ (pins:List (Addr × Obj)) (s:Shared) (σ:St) (H:Hp) (x y:V) (v u:Value) (Q:VK),Inv X pins σ H s->RelV x v->RelV y u->r x y H Q →
    wpAny (model X.prog X.w) X.A (f v u) (EP X pins σ Q) X.xe s
def UnR (X:Cx) (f:Value->Sem Value) (r:V->Hp->VK->Prop):Prop:=
  ∀ (pins:List (Addr × Obj)) (s:Shared) (σ:St) (H:Hp) (x:V) (v:Value) (Q:VK),Inv X pins σ H s->RelV x v->r x H Q →
    wpAny (model X.prog X.w) X.A (f v) (EP X pins σ Q) X.xe s
def CallR (X:Cx) (f:Value) (r:List V->Hp->VK->Prop):Prop:=
  ∀ (pins:List (Addr × Obj)) (s:Shared) (σ:St) (H:Hp) (xs:List V) (us:List Value) (Q:VK),Inv X pins σ H s->Vals xs us->r xs H Q →
    wpAny (model X.prog X.w) X.A (call f us) (EP X pins σ Q) X.xe s
def TruR (X:Cx) (r:V->Hp->(Bool->Hp->Prop)->Prop):Prop:=
  ∀ (pins:List (Addr × Obj)) (s:Shared) (σ:St) (H:Hp) (x:V) (v:Value) (Q:Bool->Hp->Prop),Inv X pins σ H s->RelV x v->r x H Q →
    wpAny (model X.prog X.w) X.A (truthy v) (TP X pins σ Q) X.xe s
def tOp (r:R2) (ta tb:TE):TE:=λ σ H Q=>ta σ H λ x H1=>tb σ H1 λ y H2=>r x y H2 Q
def tUn (r:V->Hp->VK->Prop) (ta:TE):TE:=λ σ H Q=>ta σ H λ x H1=>r x H1 Q
def rI (C:Int->Int->Prop) (g:Int->Int->V):R2:=λ x y H Q=>∃ i j,x=.int i/\y=.int j/\C i j/\Q (g i j) H
def rI0 (g:Int->Int->V):R2:=λ x y H Q=>∃ i j,x=.int i/\y=.int j/\Q (g i j) H
def rU (g:Int->V):V->Hp->VK->Prop:=λ x H Q=>∃ i,x=.int i/\Q (g i) H
section
variable {X:Cx} {a b c:Expr} {ta tb tc:TE} {pos:Pos}
theorem binT (ha:PE X a ta) (hb:PE X b tb) {pins:List (Addr × Obj)} {s:Shared} {σ:St} {H:Hp} {R:V->V->Hp->Prop} (I:Inv X pins σ H s)
    (h:ta σ H λ x H1=>tb σ H1 λ y H2=>R x y H2) {Q:Value->Shared->Prop} {f:Value->Value->Sem Value}
    (hf:∀ v u s2 x y H2,Inv X pins σ H2 s2->RelV x v->RelV y u->R x y H2->wpAny (model X.prog X.w) X.A (f v u) Q X.xe s2) :
    wpAny (model X.prog X.w) X.A (eval a X.env) (λ v s₁=>wpAny (model X.prog X.w) X.A (eval b X.env) (λ u s₂=>wpAny (model X.prog X.w) X.A (f v u) Q X.xe s₂) X.xe s₁) X.xe s:=by
  refine thn (ha pins s σ H _ I h) λ v s1 ⟨x,H1,I1,r1,q1⟩=>?_
  refine thn (hb pins s1 σ H1 _ I1 q1) λ u s2 ⟨y,H2,I2,r2,q2⟩=>?_
  exact hf v u s2 x y H2 I2 r1 r2 q2
theorem aR9q {op:Operator} {r:R2} (ho:OpR X (binaryOp op) r) (ha:PE X a ta) (hb:PE X b tb):PE X (.BinOp a op b pos) (tOp r ta tb):=by
  intro pins s σ H Q I h
  exact wpAny_BinOp (binT ha hb I h λ v u s2 x y H2 I2 rx ry q=>ho pins s2 σ H2 x y v u Q I2 rx ry q)
theorem aW3q {op:UnaryOp} {r:V->Hp->VK->Prop} (ho:UnR X (unaryOp op) r) (ha:PE X a ta):PE X (.UnaryOp op a pos) (tUn r ta):=by
  intro pins s σ H Q I h
  exact UnaryOp_ (thn (ha pins s σ H _ I h) λ v s1 ⟨x,H1,I1,r1,q1⟩=>ho pins s1 σ H1 x v Q I1 r1 q1)
theorem opI {f:Value->Value->Sem Value} {C:Int->Int->Prop} {g:Int->Int->Int}
    (rule:∀ (i j:Int) (t u:Tok) (s:Shared) (Q:Value->Shared->Prop) (E:Value->Shared->Prop),C i j->Q (.int (g i j) s.toks) { s with toks:=s.toks+1 }->wpAny (model X.prog X.w) X.A (f (.int i t) (.int j u)) Q E s) :
    OpR X f (rI C λ i j=>.int (g i j)):=by
  intro pins s σ H x y v u Q I rx ry h
  obtain ⟨i,j,rfl,rfl,hc,q⟩:=h
  obtain ⟨t,rfl⟩:=rx
  obtain ⟨t',rfl⟩:=ry
  exact rule i j t t' s _ _ hc ⟨.int (g i j),H,I.tok _,⟨_,rfl⟩,q⟩
theorem opI0 {f:Value->Value->Sem Value} {g:Int->Int->Int}
    (rule:∀ (i j:Int) (t u:Tok) (s:Shared) (Q:Value->Shared->Prop) (E:Value->Shared->Prop),Q (.int (g i j) s.toks) { s with toks:=s.toks+1 }->wpAny (model X.prog X.w) X.A (f (.int i t) (.int j u)) Q E s) :
    OpR X f (rI0 λ i j=>.int (g i j)):=by
  intro pins s σ H x y v u Q I rx ry h
  obtain ⟨i,j,rfl,rfl,q⟩:=h
  obtain ⟨t,rfl⟩:=rx
  obtain ⟨t',rfl⟩:=ry
  exact rule i j t t' s _ _ ⟨.int (g i j),H,I.tok _,⟨_,rfl⟩,q⟩
theorem opB0 {f:Value->Value->Sem Value} {g:Int->Int->Bool}
    (rule:∀ (i j:Int) (t u:Tok) (s:Shared) (Q:Value->Shared->Prop) (E:Value->Shared->Prop),Q (.bool (g i j)) s->wpAny (model X.prog X.w) X.A (f (.int i t) (.int j u)) Q E s) :
    OpR X f (rI0 λ i j=>.bl (g i j)):=by
  intro pins s σ H x y v u Q I rx ry h
  obtain ⟨i,j,rfl,rfl,q⟩:=h
  obtain ⟨t,rfl⟩:=rx
  obtain ⟨t',rfl⟩:=ry
  exact rule i j t t' s _ _ ⟨.bl (g i j),H,I,rfl,q⟩
def CPow (i j:Int):Prop:=0<=j/\j<=1000000/\i.natAbs < 2 ^ 64
def CMul (i j:Int):Prop:=(-(2 ^ 64) < i/\i < 2 ^ 64)\/(-(2 ^ 64) < j/\j < 2 ^ 64)
theorem CMul.ok {i j:Int} (h:CMul i j):IntMulOk i j:=by
  rcases h with ⟨h1,h2⟩ | ⟨h1,h2⟩
  . exact .of_left (intBits_le_64 h1 h2)
  . exact .of_right (intBits_le_64 h1 h2)
theorem op_add:OpR X (binaryOp .Add) (rI0 λ i j=>.int (i+j)):=opI0 λ _ _ _ _ _ _ _ q=>add_int q
theorem aG9q:OpR X (binaryOp .Sub) (rI0 λ i j=>.int (i - j)):=opI0 λ _ _ _ _ _ _ _ q=>sub_int q
theorem zCq:OpR X (binaryOp .Mult) (rI CMul λ i j=>.int (i * j)):=opI λ _ _ _ _ _ _ _ hc q=>mul_int q hc.ok
theorem z2q:OpR X (binaryOp .Mod) (rI (λ _ j=>0 < j) λ i j=>.int (i % j)):=opI λ i j _ _ _ _ _ hc q=>by
  have h1:(0:Int) < j:=hc
  exact mod_int' (by omega) (by rw [Int.fmod_eq_emod_of_nonneg i (by omega)];exact q)
theorem z0q:OpR X (binaryOp .Pow) (rI CPow λ i j=>.int (i ^ j.toNat)):=opI λ _ _ _ _ _ _ _ hc q=>pow_int_small hc.1 hc.2.1 hc.2.2 q
theorem unI {f:Value->Sem Value} {g:Int->Int}
    (rule:∀ (i:Int) (t:Tok) (s:Shared) (Q:Value->Shared->Prop) (E:Value->Shared->Prop),Q (.int (g i) s.toks) { s with toks:=s.toks+1 }->wpAny (model X.prog X.w) X.A (f (.int i t)) Q E s) :
    UnR X f (rU λ i=>.int (g i)):=by
  intro pins s σ H x v Q I rx h
  obtain ⟨i,rfl,q⟩:=h
  obtain ⟨t,rfl⟩:=rx
  exact rule i t s _ _ ⟨.int (g i),H,I.tok _,⟨_,rfl⟩,q⟩
theorem zBq:UnR X (unaryOp .USub) (rU λ i=>.int (-i)):=unI λ _ _ _ _ _ q=>neg_int q
end
section
variable {X:Cx} {a b c:Expr} {ta tb tc:TE} {pos:Pos}
theorem aJ7q {pins:List (Addr × Obj)} {σ:St} {H:Hp} {s:Shared} {Q:VK} {k k':Bool} (I:Inv X pins σ H s) (q:Q (.bl k) H) (e:k=k'):EP X pins σ Q (.bool k') s:=by
  subst e
  exact ⟨.bl k,H,I,rfl,q⟩
theorem aR1q:OpR X (compareOp .Lt) (rI0 λ i j=>.bl (decide (i < j))):=opB0 λ _ _ _ _ _ _ _ q=>lt_int q
theorem aM7q:OpR X (compareOp .LtE) (rI0 λ i j=>.bl (decide (i<=j))):=opB0 λ _ _ _ _ _ _ _ q=>le_int q
theorem aQ5q:OpR X (compareOp .Gt) (rI0 λ i j=>.bl (decide (j < i))):=opB0 λ _ _ _ _ _ _ _ q=>gt_int q
theorem aR2q:OpR X (compareOp .GtE) (rI0 λ i j=>.bl (decide (j<=i))):=opB0 λ _ _ _ _ _ _ _ q=>ge_int q
theorem pQq:OpR X (compareOp .In) (λ x y H Q=>∃ i j,x=.str i/\y=.str j/\Q (.bl (!(Builtin.Str.occurrences j i 0 j.length 1).isEmpty)) H):=by
  intro pins s σ H x y v u Q I rx ry h
  obtain ⟨i,j,rfl,rfl,q⟩:=h
  obtain ⟨t,rfl⟩:=rx
  obtain ⟨t',rfl⟩:=ry
  exact in_str (aJ7q I q rfl)
theorem OpR.or {f:Value->Value->Sem Value} {r r':R2} (h:OpR X f r) (h':OpR X f r'):OpR X f (λ x y H Q=>r x y H Q\/r' x y H Q):=by
  intro pins s σ H x y v u Q I rx ry q
  rcases q with q | q
  . exact h pins s σ H x y v u Q I rx ry q
  . exact h' pins s σ H x y v u Q I rx ry q
theorem aAq (b:Expr) {op:CmpOp} (h:op≠.In:=by decide) (h2:op≠.NotIn:=by decide):behindInMarks op b=false:=by
  have e1:(op==CmpOp.In)=false:=by cases op<;>first | rfl | exact absurd rfl h
  have e2:(op==CmpOp.NotIn)=false:=by cases op<;>first | rfl | exact absurd rfl h2
  cases b<;>simp [behindInMarks,e1,e2]
theorem vTq {op:CmpOp} {r:R2} (ho:OpR X (compareOp op) r) (ha:PE X a ta) (hb:PE X b tb) (hm:behindInMarks op b=false):PE X (.Compare a [op] [b] pos) (tOp r ta tb):=by
  intro pins s σ H Q I h
  exact wpAny_Compare1 (binT ha hb I h λ v u s2 x y H2 I2 rx ry q=>ho pins s2 σ H2 x y v u Q I2 rx ry q) hm
def x1q (t:TE):TT:=λ σ H Q=>t σ H λ x H'=>∃ k,x=.bl k/\Q k H'
theorem wIq {op:CmpOp} {r:R2} (ho:OpR X (compareOp op) r) (ha:PE X a ta) (hb:PE X b tb) (hm:behindInMarks op b=false):PT X (.Compare a [op] [b] pos) (x1q (tOp r ta tb)):=by
  intro pins s σ H Q I h
  refine wpAny_isTrue_Compare1 (thn (ha pins s σ H _ I h) λ v s1 ⟨x,H1,I1,r1,q1⟩=>thn (hb pins s1 σ H1 _ I1 q1) λ u s2 ⟨y,H2,I2,r2,q2⟩=>
    thn (ho pins s2 σ H2 x y v u _ I2 r1 r2 q2) λ c s3 ⟨z,H3,I3,r3,k,e,q3⟩=>?_) hm
  subst e
  cases r3
  exact wpAny_truthy_bool ⟨H3,I3,q3⟩
def zWq (r r':R2) (ta tb tc:TE):TE:=λ σ H Q=>ta σ H λ x H1=>tb σ H1 λ y H2=>r x y H2 λ z H3=>∃ k,z=.bl k ∧
  (if k=true then tc σ H3 λ w' H4=>r' y w' H4 Q else Q (.bl false) H3)
theorem s5q {op op':CmpOp} {r r':R2} (ho:OpR X (compareOp op) r) (ho':OpR X (compareOp op') r') (ha:PE X a ta) (hb:PE X b tb) (hc:PE X c tc)
    (hm:lastMarks [op,op'] [b,c]=false:=by with_unfolding_all rfl):PT X (.Compare a [op,op'] [b,c] pos) (x1q (zWq r r' ta tb tc)):=by
  intro pins s σ H Q I h
  refine isTrue_chain (thn (ha pins s σ H _ I h) λ v s1 ⟨x,H1,I1,r1,q1⟩=>test_link (thn (hb pins s1 σ H1 _ I1 q1) λ u s2 ⟨y,H2,I2,r2,q2⟩=>
    thn (ho pins s2 σ H2 x y v u _ I2 r1 r2 q2) λ d s3 ⟨z,H3,I3,r3,k,e,q3⟩=>?_)) hm
  subst e
  cases r3
  refine wpAny_truthy_bool ?_
  cases k with
  | false=>
    obtain ⟨k',e',q'⟩:=q3
    cases e'
    exact ite_ff ⟨H3,I3,q'⟩
  | true=>
    refine ite_tt (test_last (thn (hc pins s3 σ H3 _ I3 q3) λ w' s4 ⟨z',H4,I4,r4,q4⟩=>thn (ho' pins s4 σ H4 y z' u w' _ I4 r2 r4 q4) λ d' s5 ⟨z2,H5,I5,r5,k2,e2,q5⟩=>?_))
    subst e2
    cases r5
    exact wpAny_truthy_bool ⟨H5,I5,q5⟩
def TruV (K:PySem.W.Frag) (x:V) (H:Hp) (k:Bool):Prop:=
  match x with
  | .non=>k=false
  | .bl b=>k=b
  | .int i=>k=(i !=0)
  | .str y=>y.length<=sizeLine/\k=((y.length:Int) !=0)
  | .byt y=>y.size<=sizeLine/\k=((y.size:Int) !=0)
  | .ref p=>(∃ xs,SqL K H p xs/\k=!xs.isEmpty)\/(∃ xs,SqT K H p xs/\k=!xs.isEmpty)\/∃ kvs,H p=some (.dK kvs)/\k=!kvs.isEmpty
  | _=>False
theorem n7q {κ:Type} {kvs:List (κ × V)} {vs:List (κ × Value)} (r:KV kvs vs):(!vs.isEmpty)=!kvs.isEmpty:=by
  cases r<;>rfl
theorem hGq {xs:List V} {its:List Value} (r:Vals xs its):(!its.toArray.isEmpty)=!xs.isEmpty:=by
  cases r<;>simp
theorem dYq:(sizeLine:Nat) < 2 ^ 63:=by rw [sizeLine_eq];decide
theorem aB8q:TruR X (λ x H Q=>∃ k,TruV X.K x H k/\Q k H):=by
  intro pins s σ H x v Q I rx h
  obtain ⟨k,e,q⟩:=h
  have hl:=dYq
  have hs:sizeLine=16777216:=sizeLine_eq
  cases x with
  | non=>
    cases rx
    have e':k=false:=e
    subst e'
    exact truthy_none ⟨H,I,q⟩
  | bl b=>
    cases rx
    have e':k=b:=e
    subst e'
    exact wpAny_truthy_bool ⟨H,I,q⟩
  | int i=>
    obtain ⟨t,rfl⟩:=rx
    have e':k=(i !=0):=e
    subst e'
    exact PySem.P.truthy_int ⟨H,I,q⟩
  | str y=>
    obtain ⟨t,rfl⟩:=rx
    obtain ⟨hy,e'⟩:y.length<=sizeLine/\k=((y.length:Int) !=0):=e
    subst e'
    exact PySem.P.truthy_str (by omega) ⟨H,I.tok _,q⟩
  | byt y=>
    obtain ⟨t,rfl⟩:=rx
    obtain ⟨hy,e'⟩:y.size<=sizeLine/\k=((y.size:Int) !=0):=e
    subst e'
    exact PySem.W.truthy_bytes (by omega) ⟨H,I.tok _,q⟩
  | ref p=>
    cases rx
    have e':(∃ xs,SqL X.K H p xs/\k=!xs.isEmpty)\/(∃ xs,SqT X.K H p xs/\k=!xs.isEmpty)\/∃ kvs,H p=some (.dK kvs)/\k=!kvs.isEmpty:=e
    rcases e' with ⟨xs,hx,e'⟩ | ⟨xs,hx,e'⟩ | ⟨kvs,hx,e'⟩
    . subst e'
      obtain ⟨its,r,pl,hz⟩:=I.list hx
      have hlen:=r.length
      exact wpAny_truthy_list pl.isList (by simp only [Ye];omega) ⟨H,I.tok _,by rw [hGq r];exact q⟩
    . subst e'
      obtain ⟨its,r,pl,hz⟩:=I.tuple hx
      have hlen:=r.length
      exact truthy_tuple pl (by simp only [Ye];omega) ⟨H,I.tok _,by rw [hGq r];exact q⟩
    . subst e'
      obtain ⟨hz,hS,vs,r,m⟩:kvs.length<=sizeLine/\(p==sysModules)=false/\∃ vs,KV kvs vs/\s.heap.DictOf (kOq X.prog X.w) p vs:=I.hok p _ hx
      have hlen:kvs.length=vs.length:=Paired.length r
      exact wpAny_truthy_dict hS m (by omega) ⟨H,I.tok _,by rw [n7q r];exact q⟩
  | _=>exact (show False from e).elim
theorem rQq (ha:PE X a ta) (he:∀ whole,isTrue a X.env whole=(do let v ← whole;standAt a.pos;holding [v] (truthy v))) :
    PT X a (λ σ H Q=>ta σ H λ x H'=>∃ k,TruV X.K x H' k/\Q k H'):=by
  intro pins s σ H Q I h
  exact isTrue_plain (thn (ha pins s σ H _ I h) λ v s1 ⟨x,H1,I1,r1,q1⟩=>aB8q pins s1 σ H1 x v Q I1 r1 q1) (he _)
theorem op_add_str:OpR X (binaryOp .Add) (λ x y H Q=>∃ i j,x=.str i/\y=.str j/\i.length+j.length<=sizeLine/\Q (.str (i++j)) H):=by
  intro pins s σ H x y v u Q I rx ry h
  obtain ⟨i,j,rfl,rfl,hz,q⟩:=h
  obtain ⟨t,rfl⟩:=rx
  obtain ⟨t',rfl⟩:=ry
  exact add_str (λ t' tk=>⟨.str (i++j),H,I.tok _,⟨_,rfl⟩,q⟩) hz
theorem gQq {x:V} {us:List Value} (r:Vals [x] us):∃ u,us=[u]/\RelV x u:=by
  cases r with
  | cons r1 r2=>cases r2;exact ⟨_,rfl,r1⟩
theorem aE7q {x y:V} {us:List Value} (r:Vals [x,y] us):∃ u w',us=[u,w']/\RelV x u/\RelV y w':=by
  cases r with
  | cons r1 r2=>
    cases r2 with
    | cons r3 r4=>cases r4;exact ⟨_,_,rfl,r1,r3⟩
theorem oKq (hc:X.calm=true):CallR X (.builtin "max") (λ xs H Q=>∃ i j,xs=[.int i,.int j]/\Q (.int (if j > i then j else i)) H):=by
  intro pins s σ H xs us Q I r h
  obtain ⟨i,j,rfl,q⟩:=h
  obtain ⟨u,w',rfl,⟨t,rfl⟩,⟨t',rfl⟩⟩:=aE7q r
  refine max_two_ints (I.ok.hd hc) λ h' tk k=>⟨_,H,I.kept k,?_,q⟩
  by_cases hj:j > i
  . rw [if_pos hj,if_pos hj];exact ⟨_,rfl⟩
  . rw [if_neg hj,if_neg hj];exact ⟨_,rfl⟩
theorem pJq (hc:X.calm=true):CallR X (.builtin "min") (λ xs H Q=>∃ i j,xs=[.int i,.int j]/\Q (.int (if j < i then j else i)) H):=by
  intro pins s σ H xs us Q I r h
  obtain ⟨i,j,rfl,q⟩:=h
  obtain ⟨u,w',rfl,⟨t,rfl⟩,⟨t',rfl⟩⟩:=aE7q r
  refine min_two_ints (I.ok.hd hc) λ h' tk k=>⟨_,H,I.kept k,?_,q⟩
  by_cases hj:j < i
  . rw [if_pos hj,if_pos hj];exact ⟨_,rfl⟩
  . rw [if_neg hj,if_neg hj];exact ⟨_,rfl⟩
theorem oUq:CallR X (.type "int") (λ xs H Q=>(∃ i,xs=[.int i]/\Q (.int i) H)\/∃ k,xs=[.bl k]/\Q (.int (if k then 1 else 0)) H):=by
  intro pins s σ H xs us Q I r h
  rcases h with ⟨i,rfl,q⟩ | ⟨k,rfl,q⟩
  . obtain ⟨u,rfl,t,rfl⟩:=gQq r
    exact call_int_int ⟨.int i,H,I,⟨_,rfl⟩,q⟩
  . obtain ⟨u,rfl,r1⟩:=gQq r
    cases r1
    exact call_int_bool ⟨.int (if k then 1 else 0),H,I.tok _,⟨_,rfl⟩,q⟩
theorem jVq:CallR X (.type "str") (λ xs H Q=>∃ i,xs=[.int i]/\i.natAbs.log2 < 1920/\Q (.str (toString i)) H):=by
  intro pins s σ H xs us Q I r h
  obtain ⟨i,rfl,hz,q⟩:=h
  obtain ⟨u,rfl,t,rfl⟩:=gQq r
  exact PySem.P.str_of_int hz ⟨.str _,H,I.tok _,⟨_,rfl⟩,q⟩
end
structure ObjM (h:Heap) (x dx C:Addr) (mA:Str->Option Value):Prop where
  obj:h.get? x=some (PySem.W.instObj C dx)
  ns:h.Ns1 dx mA
  ne:dx≠x
theorem qUq {h:Heap} {dx:Addr} {mA:Str->Option Value} (n:h.Ns1 dx mA):∃ od,h.get? dx=some od/\∀ name,PySem.W.lookIn name od=some (mA name):=by
  obtain ⟨o,es,ep,ho,hd,hk,_,hm⟩:=n
  refine ⟨o,ho,λ name=>?_⟩
  have e:=hm name
  unfold nsFind findBy at e
  rw [<- Array.find?_toList] at e
  unfold PySem.W.lookIn
  rw [hd]
  dsimp only
  split
  . rename_i y q
    rw [q] at e
    exact congrArg some e
  . rename_i q
    rw [q] at e
    have a:es.toList.any (·.refKey)=false:=by
      rw [List.any_eq_false]
      intro y hy
      obtain ⟨z,t,hkey⟩:=hk y (Array.mem_toList_iff.mp hy)
      simp [DictEntry.refKey,hkey]
    have a':¬ es.toList.any (·.refKey)=true:=by rw [a];exact Bool.false_ne_true
    rw [if_neg a']
    exact congrArg some e
theorem ObjM.look {h:Heap} {x dx C:Addr} {mA:Str->Option Value} (I:ObjM h x dx C mA):∃ od,PySem.W.InstAt h x (PySem.W.instObj C dx) C (some od)/\∀ name,PySem.W.lookIn name od=some (mA name):=
  let ⟨od,ho,hl⟩:=qUq I.ns
  ⟨od,⟨I.obj,rfl,rfl,ho⟩,hl⟩
section
variable {prog:Program} {w:World} {A:Around} {E:Value->Shared->Prop} {s:Shared} {K:PySem.W.Frag} {x dx C f:Addr} {mA:Str->Option Value} {name:Str} {v:Value}
end
section
variable {P:Program} {w:World} {H H':Hp} {h h':Heap} {a C dx:Addr} {fs fs':List (Str × V)}
theorem uZq (hok:HOk P w H h) (e:H a=some (.ins C dx fs)):∃ mA,ObjM h a dx C mA/\(∀ f,RelO (fs.lookup f) (mA f))/\PySem.Within mA (fs.map (·.1))/\fs.length<=1000/\H dx=some (.own a):=by
  obtain ⟨d,z,ne,ob,mA,n,r,q⟩:=(show ObjOk P w H h a (.ins C dx fs) from hok a _ e)
  exact ⟨mA,⟨ob,n,ne⟩,r,q,z,d⟩
end
structure Cls (K:PySem.W.Frag) (C:Addr):Prop where
  pg:PySem.W.plainGet K C Str.empty=true
  hd:PySem.W.hasDictIn K C=true
  po:PySem.W.plainOver K C=true
  sa:PySem.W.findIn K (.ref C) "__setattr__" = some (some (.builtin "object.__setattr__"))
theorem Cls.get {K:PySem.W.Frag} {C:Addr} (c:Cls K C) (f:Str):PySem.W.plainGet K C f=true:=c.pg
section
variable {X:Cx} {pins:List (Addr × Obj)} {σ:St} {H:Hp} {s:Shared} {a C dx:Addr} {fs:List (Str × V)} {f:Str} {v:V} {A:Around} {E:Value->Shared->Prop}
end
section
variable {X:Cx} {o e value:Expr} {f:Str} {pos pos' tpos:Pos} {ta tv:TE}
end
section
variable {X:Cx} {pins:List (Addr × Obj)} {σ:St} {H:Hp} {s:Shared} {A:Around} {E:Value->Shared->Prop} {Q:Value->Shared->Prop} {c:Value} {b:Bool}
inductive TyOf (K:PySem.W.Frag) (H:Hp):V->Value->Prop where
  | non:TyOf K H .non (.type "NoneType")
  | bl (x:Bool):TyOf K H (.bl x) (.type "bool")
  | int (i:Int):TyOf K H (.int i) (.type "int")
  | str (x:Str):TyOf K H (.str x) (.type "str")
  | flt (x:UInt64):TyOf K H (.flt x) (.type "float")
  | lst {a:Addr} {xs:List V} (e:H a=some (.lst xs)):TyOf K H (.ref a) (.type "list")
  | frz {a:Addr} {o:Obj} {xs:List V} (e:H a=some (.frz o (.lst xs))):TyOf K H (.ref a) (.type "list")
  | tup {a:Addr} {xs:List V} (e:H a=some (.tup xs)):TyOf K H (.ref a) (.type "tuple")
  | dK {a:Addr} {kvs:List (Key × V)} (e:H a=some (.dK kvs)):TyOf K H (.ref a) (.type "dict")
  | dT {a:Addr} {kvs:List (List Key × V)} (e:H a=some (.dT kvs)):TyOf K H (.ref a) (.type "dict")
  | ins {a C dx:Addr} {fs:List (Str × V)} (e:H a=some (.ins C dx fs)) (cl:Cls K C) (ha:PySem.W.findIn K (.ref C) "__class__" = some (some (.builtin "object.__class__")))
      (hn:PySem.W.specialIn K (.builtin "object.__class__") "__get__" = some (some (.builtin "getset_descriptor.__get__"))) (htk:PySem.W.takesIn K (.builtin "object.__class__")=some true)
      (hm:PySem.W.mroIn K C (.type "object")=some true):TyOf K H (.ref a) (.ref C)
theorem p5q {x:V} {u t:Value} (I:Inv X pins σ H s) (rx:RelV x u) (ty:TyOf X.K H x t) (e:PySem.W.kitOne X.K t c=some b) (h:∀ tk,Q (.bool b) { s with toks:=tk }) :
    wpAny (model X.prog X.w) A (call (.builtin "isinstance") [u,c]) Q E s:=by
  cases ty with
  | non=>cases (show u=Value.none from rx);exact PySem.W.kia_one PySem.W.kitx_none I.kIn True.intro e (λ z=>nomatch z) h
  | bl y=>cases (show u=Value.bool y from rx);exact PySem.W.kia_one PySem.W.kitx_bool I.kIn True.intro e (λ z=>nomatch z) h
  | int i=>obtain ⟨t,q⟩:=(show ∃ t,u=Value.int i t from rx);cases q;exact PySem.W.kia_one PySem.W.kitx_int I.kIn True.intro e (λ z=>nomatch z) h
  | str y=>obtain ⟨t,q⟩:=(show ∃ t,u=Value.str y t from rx);cases q;exact PySem.W.kia_one PySem.W.kitx_str I.kIn True.intro e (λ z=>nomatch z) h
  | flt y=>obtain ⟨t,q⟩:=(show ∃ t,u=Value.float y t from rx);cases q;exact PySem.W.kia_one PySem.W.kitx_float I.kIn True.intro e (λ z=>nomatch z) h
  | @lst a xs ea=>
    cases (show u=Value.ref a from rx)
    obtain ⟨_,_,n,_,h1⟩:=(show ObjOk X.prog X.w H s.heap a (.lst xs) from I.hok a _ ea)
    exact PySem.W.kia_one PySem.W.kitx_list I.kIn ⟨_,h1,rfl⟩ e (λ z=>nomatch z) h
  | @frz a ob xs ea=>
    cases (show u=Value.ref a from rx)
    obtain ⟨_,_,_,n,_,h1⟩:=(show ObjOk X.prog X.w H s.heap a (.frz ob (.lst xs)) from I.hok a _ ea)
    exact PySem.W.kia_one PySem.W.kitx_list I.kIn ⟨_,h1,rfl⟩ e (λ z=>nomatch z) h
  | @tup a xs ea=>
    cases (show u=Value.ref a from rx)
    obtain ⟨_,_,_,p⟩:=(show ObjOk X.prog X.w H s.heap a (.tup xs) from I.hok a _ ea)
    obtain ⟨o,h1,h2,_⟩:=p
    exact PySem.W.kia_one PySem.W.kitx_tuple I.kIn ⟨o,h1,h2⟩ e (λ z=>nomatch z) h
  | @dK a kvs ea=>
    cases (show u=Value.ref a from rx)
    obtain ⟨_,_,vs,_,p⟩:=(show ObjOk X.prog X.w H s.heap a (.dK kvs) from I.hok a _ ea)
    obtain ⟨o,es,ep,h1,h2,_⟩:=p
    exact PySem.W.kia_one PySem.W.kitx_dict I.kIn ⟨o,h1,h2.1⟩ e (λ z=>nomatch z) h
  | @dT a kvs ea=>
    cases (show u=Value.ref a from rx)
    obtain ⟨_,_,xs,_,o,es,ep,h1,h2,_⟩:=(show ObjOk X.prog X.w H s.heap a (.dT kvs) from I.hok a _ ea)
    exact PySem.W.kia_one PySem.W.kitx_dict I.kIn ⟨o,h1,h2.1⟩ e (λ z=>nomatch z) h
  | @ins a C dx fs ea cl ha hn htk hm=>
    cases (show u=Value.ref a from rx)
    obtain ⟨mA,O,_⟩:=uZq I.hok ea
    obtain ⟨od,J,_⟩:=O.look
    exact PySem.W.kia_one (PySem.W.kitx_own (cl.get _) cl.hd ha hn htk hm) I.kIn J e (λ z=>nomatch z) h
end
structure Room (k:Nat) (A:Around):Prop where
  hd:A.handled=none
  dp:A.depth+3 * k+5 < recursionLimit
  un:A.units+16 * k+200 < cLine
theorem Room.mono {j k:Nat} {A:Around} (r:Room k A) (h:j<=k):Room j A:=⟨r.hd,by have:=r.dp;omega,by have:=r.un;omega⟩
theorem Room.deeper {k:Nat} {A:Around} (r:Room (k+1) A) (env:Env):Room k (A.deeper env):=
  ⟨r.hd,by have:=r.dp;show A.depth+1+3 * k+5 < _;omega,by have:=r.un;show A.units+3+16 * k+200 < _;omega⟩
theorem Room.depth {k:Nat} {A:Around} (r:Room k A):A.depth < recursionLimit:=by have:=r.dp;omega
def tNil:TA:=λ _ H Q=>Q [] H
def aD1q (ta:TE) (tr:TA):TA:=λ σ H Q=>ta σ H λ x H1=>tr σ H1 λ xs H2=>Q (x::xs) H2
section
variable {X:Cx} {e:Expr} {es:List Expr} {te:TE} {t:TA} {pos:Pos}
theorem aK2q:PA X [] tNil:=λ _ _ _ _ H Q I h=>Calls.spliced_nil ⟨[],H,I,.nil,h⟩
theorem wRq (ha:PE X e te) (hr:PA X es t) (hs:starEach (e::es) X.env=(false,eval e X.env)::starEach es X.env:=by rfl):PA X (e::es) (aD1q te t):=by
  intro pos pins s σ H Q I h
  rw [hs]
  show wpAny _ _ (spliced ((false,eval e X.env)::backTo pos (starEach es X.env))) _ _ s
  refine Calls.spliced_cons (thn (ha pins s σ H _ I h) λ u s1 ⟨x,H1,I1,r1,q1⟩=>?_)
  exact thn (hr pos pins s1 σ H1 _ I1 q1) λ us s2 ⟨xs,H2,I2,r2,q2⟩=>⟨x::xs,H2,I2,.cons r1 r2,q2⟩
def tTup (t:TA):TE:=λ σ H Q=>t σ H λ xs H1=>xs.length<=sizeLine/\∀ p,H1 p=none->Q (.ref p) (upd H1 p (.tup xs))
def tLst (t:TA):TE:=λ σ H Q=>t σ H λ xs H1=>xs.length<=sizeLine/\∀ p,H1 p=none->Q (.ref p) (upd H1 p (.lst xs))
theorem aD3q {x1} (h:PA X es t):PE X (.Tuple es x1 pos) (tTup t):=by
  intro pins s σ H Q I hq
  refine wpAny_Tuple_spliced (thn (h pos pins s σ H _ I hq) λ us s1 ⟨xs,H1,I1,r,z,q⟩=>⟨by rw [<- r.length];exact z,?_⟩)
  have hf:H1 s1.heap.objs.size=none:=I1.hok.fresh (Nat.le_refl _)
  refine ⟨.ref s1.heap.objs.size,upd H1 s1.heap.objs.size (.tup xs),I1.laid (t':=s1.toks) (λ b u e=>Heap.get?_push_of_some _ e) (Nat.le_refl _) ?_,rfl,q _ hf⟩
  exact ⟨z,us,r,⟨_,Heap.get?_push_size _ rfl,rfl,_,rfl⟩⟩
theorem aK6q (h:PA X es t):PE X (.List es pos) (tLst t):=by
  intro pins s σ H Q I hq
  refine wpAny_List_spliced (thn (h pos pins s σ H _ I hq) λ us s1 ⟨xs,H1,I1,r,z,q⟩=>⟨by rw [<- r.length];exact z,?_⟩)
  have hf:H1 s1.heap.objs.size=none:=I1.hok.fresh (Nat.le_refl _)
  refine ⟨.ref s1.heap.objs.size,upd H1 s1.heap.objs.size (.lst xs),I1.laid (t':=s1.toks) (λ b u e=>Heap.get?_push_of_some _ e) (Nat.le_refl _) ?_,rfl,q _ hf⟩
  exact ⟨z,us,0,r,Heap.get?_push_size _ rfl⟩
end
abbrev Sp:=List V->Hp->VK->XK->Prop
abbrev CXT:=List Env->Hp->Shared->XK->Value->Shared->Prop
structure Env0 (P:Program) (w:World) (K:PySem.W.Frag) (mg:Str->Option Value) (base:Heap) (A:Around) (outer:List Env) (s:Shared) (H:Hp):Prop where
  frames:A.frames=some outer
  mod:Mod K mg base
  bs:∀ b o,base.get? b=some o->s.heap.get? b=some o/\H b=none
  bsz:base.objs.size<=s.heap.objs.size
  funs:s.heap.FunFrames base outer
  frf:∀ b∈frs outer,H b=none
  hok:HOk P w H s.heap
  bare:AllBare s.gens
def CE (outer:List Env) (P:Program) (w:World) (H:Hp) (s:Shared) (Q:VK) (u:Value) (s':Shared):Prop:=
  ∃ v H',s'.os=s.os/\AllBare s'.gens/\Un (frs outer) [] H H' s.heap s'.heap/\HOk P w H' s'.heap/\RelV v u/\Q v H'
def CR (CX:CXT) (outer:List Env) (P:Program) (w:World) (H:Hp) (s:Shared) (Q:VK) (E:XK) (r:Result) (s':Shared):Prop:=
  match r with
  | .ok (.ret u)=>CE outer P w H s Q u s'
  | .ok _=>False
  | .error e=>CX outer H s E e s'
structure FnOk (P:Program) (w:World) (K:PySem.W.Frag) (mg:Str->Option Value) (base:Heap) (CX:CXT) (k:Nat) (f:Addr) (fd:FuncData) (ps:List Str) (sp:Sp):Prop where
  len:∀ vs H Q E,sp vs H Q E->vs.length=ps.length
  run:∀ (A:Around) (outer:List Env) (s:Shared) (H:Hp) (args:Args) (us:List Value) (vs:List V) (Q:VK) (E:XK),Room k A->Env0 P w K mg base A outer s H->BindsTo s fd args (ps.zip us)->Vals vs us->sp vs H Q E →
    codeAny (model P w) A (.call (.ref f) args) (CR CX outer P w H s Q E) s
theorem FnOk.imp {P:Program} {w:World} {K:PySem.W.Frag} {mg:Str->Option Value} {base:Heap} {CX:CXT} {k:Nat} {f:Addr} {fd:FuncData} {ps:List Str} {sp sp':Sp} (F:FnOk P w K mg base CX k f fd ps sp)
    (h:∀ vs H Q E,sp' vs H Q E->sp vs H Q E):FnOk P w K mg base CX k f fd ps sp':=
  ⟨λ vs H Q E q=>F.len vs H Q E (h _ _ _ _ q),λ A outer s H args us vs Q E hr he hb hv hs=>F.run A outer s H args us vs Q E hr he hb hv (h _ _ _ _ hs)⟩
theorem Env0.in1 {P:Program} {w:World} {K:PySem.W.Frag} {mg:Str->Option Value} {base:Heap} {A:Around} {outer:List Env} {s:Shared} {H:Hp} (e:Env0 P w K mg base A outer s H) :
    Env0 P w K mg base A.in1 outer s H:=⟨e.frames,e.mod,e.bs,e.bsz,e.funs,e.frf,e.hok,e.bare⟩
section
variable {X:Cx} {pins:List (Addr × Obj)} {σ:St} {H:Hp} {s s':Shared}
theorem Inv.env0 (I:Inv X pins σ H s):Env0 X.prog X.w X.K X.mg X.base X.A X.stack s H:=
  ⟨I.ok.frames,I.ok.mod,I.bs,Nat.le_trans I.ok.bsz I.sz,I.stack,I.stkFree,I.hok,I.bare⟩
theorem Inv.after {Q:VK} {u:Value} (I:Inv X pins σ H s) (h:CE X.stack X.prog X.w H s Q u s'):EP X pins σ Q u s':=by
  obtain ⟨v,H',os,bare,un,hok,r,q⟩:=h
  obtain ⟨hh,g,d,t,os'⟩:=s'
  obtain rfl:os'=s.os:=os
  exact ⟨v,H',I.call (h':=hh) (g':=g) (d':=d) (t':=t) (ch:=[]) un hok bare (λ b z=>absurd z (by simp)),r,q⟩
end
def tDq (sp:Sp) (dvs:List V) (E:XK) (t:TA):TE:=λ σ H Q=>t σ H λ vs H1=>sp (vs++dvs) H1 Q E
def Binds (K:PySem.W.Frag) (fd:FuncData) (ps:List Str) (ds:List Value):Prop:=
  ∀ (s:Shared) (us:List Value),K.In s.heap->(us++ds).length=ps.length->BindsTo s fd ⟨us,[]⟩ (ps.zip (us++ds))
theorem Binds.all {K:PySem.W.Frag} {fd:FuncData} {ps:List Str} (h:∀ us:List Value,us.length=ps.length->bindArgs fd ⟨us,[]⟩=pure (ps.zip us)):Binds K fd ps []:=λ s us _ hl=>by
  rw [Yt] at hl ⊢
  exact .of_eq (h us hl)
def qZq (CX:CXT) (X:Cx) (E:XK):Prop:=∀ (pins:List (Addr × Obj)) (σ:St) (H:Hp) (s:Shared) (e:Value) (s':Shared),Inv X pins σ H s->CX X.stack H s E e s'->X.xe e s'
section
variable {X:Cx} {CX:CXT} {k:Nat} {f C:Addr} {fd:FuncData} {ps:List Str} {sp:Sp} {dvs:List V} {ds:List Value} {E:XK} {x m:Str} {p pos apos:Pos} {e o:Expr} {es:List Expr} {ta:TE} {t:TA}
theorem uCq {pins:List (Addr × Obj)} {σ:St} {H:Hp} {s:Shared} {Q:VK} {us:List Value} {vs:List V} (F:FnOk X.prog X.w X.K X.mg X.base CX k f fd ps sp) (hr:Room k X.A) (hb:Binds X.K fd ps ds) (hd:Vals dvs ds) (hx:qZq CX X E)
    (I:Inv X pins σ H s) (r:Vals vs us) (h:sp (vs++dvs) H Q E):wpAny (model X.prog X.w) X.A (call (.ref f) us) (EP X pins σ Q) X.xe s:=by
  have r2:Vals (vs++dvs) (us++ds):=r.append hd
  have hl:(us++ds).length=ps.length:=by rw [<- r2.length];exact F.len _ _ _ _ h
  refine wpAny_call (codeAny_mono (F.run X.A X.stack s H ⟨us,[]⟩ (us++ds) (vs++dvs) Q E hr I.env0 (hb s us I.kIn hl) r2 h) λ r s' hq=>?_)
  cases r with
  | error e=>exact hx pins σ H s e s' I hq
  | ok fl=>
    cases fl with
    | ret u=>exact I.after hq
    | next=>exact False.elim hq
    | brk=>exact False.elim hq
    | cont=>exact False.elim hq
theorem wYq (F:FnOk X.prog X.w X.K X.mg X.base CX k f fd ps sp) (hr:Room k X.A) (hg:Gl X x) (hm:X.mg x=some (.ref f)) (hk:PySem.W.keepIn X.K (.ref f)=true) (hb:Binds X.K fd ps ds) (hd:Vals dvs ds) (hx:qZq CX X E)
    (ha:PA X (e::es) t) (hdb:(x==("__debug__" : Str))=false:=by decide) (he:starEach (e::es) X.env=(false,eval e X.env)::starEach es X.env:=by rfl) (hpl:(backTo pos (starEach es X.env)).any (·.1)=false:=by rfl) :
    PE X (.Call (.Name x p) (e::es) [] pos) (tDq sp dvs E t):=by
  intro pins s σ H Q I h
  refine wpAny_Call_Name_kw (kYq I hg hm ?_ hdb)
  refine PySem.W.callWith_K (h₀:=X.base) I.ok.mod.kin hk (thn (ha pos pins s σ H _ I h) λ us s1 ⟨vs,H1,I1,r,q⟩=>⟨I1.kIn,?_⟩) he hpl
  exact uCq F hr hb hd hx I1 r q
end
section
variable {X:Cx} {CX:CXT} {k:Nat} {f C:Addr} {fd:FuncData} {ps ks:List Str} {sp:Sp} {E:XK} {x m:Str} {p pos apos kpos:Pos} {e o:Expr} {es:List Expr} {kws:List Keyword} {te ta:TE} {t tk:TA} {nm:Option Str}
variable {g:List Value->List Value->List Value} {gV:List V->List V->List V}
end
structure FnScope (N P:List Str) (sc:Scope):Prop where
  kind:sc.kind=.function
  co:sc.isCoroutine=false
  gen:sc.isGenerator=false
  nd:N.Nodup
  pre:N.take P.length=P
  par:∀ x∈P,sc.names.lookup x=some .local\/sc.names.lookup x=some .cell
  nofree:∀ y∈sc.names,y.2≠.free
theorem jYq {kindOf:Str->Option NameKind} {x:Str}:∀ {binds:List (Str × Value)} {m:Str->Option Value},(∀ v,(x,v) ∉ binds)->bindL kindOf binds m x=m x
  | [],_,_=>rfl
  | (n,v)::r,m,h=>by
    unfold bindL
    rw [jYq λ w hw=>h w (Yc _ hw)]
    split
    . have:x≠n:=by rintro rfl;exact h v Ya
      simp [this]
    . rfl
theorem jZq {kindOf:Str->Option NameKind} {x:Str}:∀ {binds:List (Str × Value)} {m:Str->Option Value},(∀ v,(x,v) ∉ binds)->bindC kindOf binds m x=m x
  | [],_,_=>rfl
  | (n,v)::r,m,h=>by
    unfold bindC
    rw [jZq λ w hw=>h w (Yc _ hw)]
    split
    . rfl
    . have:x≠n:=by rintro rfl;exact h v Ya
      simp [this]
theorem jKq {kindOf:Str->Option NameKind} {x:Str} {v:Value}:∀ {P:List Str} {vs:List Value} {i:Nat} {m:Str->Option Value},P.Nodup->P[i]?=some x->vs[i]?=some v->kindOf x=some .local →
    bindL kindOf (P.zip vs) m x=some v
  | [],_,_,_,_,h,_,_=>by simp at h
  | _::_,[],_,_,_,_,h,_=>by simp at h
  | p::P,w::vs,0,m,nd,h1,h2,hk=>by
    simp at h1 h2;subst h1;subst h2
    show bindL kindOf ((p,w)::P.zip vs) m p=_
    unfold bindL
    rw [jYq λ v hv=>(YS.mp nd).1 (List.of_mem_zip hv).1,if_pos hk]
    simp
  | p::P,w::vs,i+1,m,nd,h1,h2,hk=>by
    show bindL kindOf ((p,w)::P.zip vs) m x=_
    unfold bindL
    exact jKq (i:=i) (YS.mp nd).2 (by simpa using h1) (by simpa using h2) hk
theorem k4q {kindOf:Str->Option NameKind} {x:Str} {v:Value}:∀ {P:List Str} {vs:List Value} {i:Nat} {m:Str->Option Value},P.Nodup->P[i]?=some x->vs[i]?=some v->kindOf x≠some .local →
    bindC kindOf (P.zip vs) m x=some v
  | [],_,_,_,_,h,_,_=>by simp at h
  | _::_,[],_,_,_,_,h,_=>by simp at h
  | p::P,w::vs,0,m,nd,h1,h2,hk=>by
    simp at h1 h2;subst h1;subst h2
    show bindC kindOf ((p,w)::P.zip vs) m p=_
    unfold bindC
    rw [jZq λ v hv=>(YS.mp nd).1 (List.of_mem_zip hv).1,if_neg hk]
    simp
  | p::P,w::vs,i+1,m,nd,h1,h2,hk=>by
    show bindC kindOf ((p,w)::P.zip vs) m x=_
    unfold bindC
    exact k4q (i:=i) (YS.mp nd).2 (by simpa using h1) (by simpa using h2) hk
def eVq (N:List Str) (vs:List V):St:=vs.map some++Yp (N.length - vs.length) none
def tVq (CX:CXT) (P:Program) (w:World) (K:PySem.W.Frag) (mg:Str->Option Value) (base:Heap) (N:List Str) (qual:Str) (scope:Scope) (f:Addr) (cd:Value) (A:Around) (outer:List Env) (s:Shared) (H:Hp) (E:XK):Cx where
  prog:=P
  w:=w
  K:=K
  mg:=mg
  base:=base
  A:=A.deeper (envOfC qual scope s.heap.objs.size f cd)
  N:=N
  s₀:=s
  H₀:=H
  env:=envOfC qual scope s.heap.objs.size f cd
  outer:=outer
  stack:=envOfC qual scope s.heap.objs.size f cd::outer
  ex:=[]
  calm:=true
  fn:=λ _=>true
  pn:=[]
  xe:=λ e s'=>wpAny (model P w) (A.deeper (envOfC qual scope s.heap.objs.size f cd)) (leaving (envOfC qual scope s.heap.objs.size f cd) e) (λ _ s''=>CX outer H s E e s'') (λ e' s''=>CX outer H s E e' s'') s'
theorem mAq {sc:Scope} {n:Nat} {x:Str} (h:sc.names.lookup x=some .cell):∃ c,(cellsFrom n sc.names []).lookup x=some c:=by
  have q:=PySem.W.cellsFrom_some sc.names n [] (.inl h)
  exact Option.isSome_iff_exists.mp q
theorem pGq {CX:CXT} {P:Program} {w:World} {K:PySem.W.Frag} {mg:Str->Option Value} {base:Heap} {N ps:List Str} {qual:Str} {scope:Scope} {f:Addr} {cd:Value} {A:Around} {outer:List Env} {s s1:Shared} {H:Hp} {E:XK} {us:List Value} {vs:List V}
    (S:FnScope N ps scope) (hd:A.handled=none) (e0:Env0 P w K mg base A outer s H) (hl:vs.length=ps.length) (r:Vals vs us)
    (x:InCallC s s.heap.objs.size (bindL (envOfC qual scope s.heap.objs.size f cd).kindOf (ps.zip us) λ _=>none) (cellsFrom (s.heap.objs.size+1) scope.names []) (bindC (envOfC qual scope s.heap.objs.size f cd).kindOf (ps.zip us) λ _=>none) s1) :
    Inv (tVq CX P w K mg base N qual scope f cd A outer s H E) [] (eVq N vs) H s1:=by
  have hpl:ps.length<=N.length:=by have:=congrArg YJ S.pre;rw [YK] at this;omega
  obtain ⟨h1,tk,rfl,hk⟩:=x.done
  have noA:∀ b:Addr,b ∉ (tVq CX P w K mg base N qual scope f cd A outer s H E).ex:=λ b z=>absurd (show b∈([]:List Addr) from z) (by simp)
  refine ⟨⟨e0.mod,S.kind,rfl,rfl,Nat.le_refl _,λ y z c h1 h2=>?_,λ y hy=>?_,λ y c _ h=>?_,λ _=>hd,Around.frames_deeper e0.frames,.inr ⟨rfl,rfl⟩,λ b z=>absurd z (noA b),e0.bs,e0.bsz,λ b _ _=>noA b,λ b z=>absurd z (noA b),e0.funs,e0.frf⟩,
    rfl,e0.bare,Un.kept hk,⟨_,x.toInCall.ns,λ i y v h1 h2 h3=>?_⟩,λ y c h=>⟨_,x.cell y c h⟩,e0.hok.fresh (Nat.le_refl _),λ y c h=>?_,λ p hp=>absurd (show p∈([]:List (Addr × Obj)) from hp) (by simp),e0.hok.kept hk,?_⟩
  . exact name_of_addr x.apart (PySem.mem_of_lookup h1) (PySem.mem_of_lookup h2)
  . have hy:scope.names.lookup y=some .cell\/scope.names.lookup y=some .free:=hy
    rcases hy with hy | hy
    . exact mAq hy
    . exact absurd rfl (S.nofree _ (PySem.mem_of_lookup hy))
  . exact Nat.le_of_lt (x.above y c (PySem.mem_of_lookup h))
  . have hi:i < vs.length:=by
      unfold eVq at h2
      by_cases hi:i < vs.length
      . exact hi
      . rw [Y2 (by simpa using hi)] at h2
        rw [Ze] at h2
        split at h2<;>cases h2
    have ha:vs[i]?=some v:=by
      unfold eVq at h2
      rw [YT (by simpa using hi),Yw] at h2
      cases e:vs[i]? with
      | none=>rw [e] at h2;cases h2
      | some a=>rw [e] at h2;cases h2;rfl
    obtain ⟨u,hu,rv⟩:=r.get ha
    have hp:ps[i]?=some y:=by
      rw [<- S.pre,List.getElem?_take_of_lt (by omega)];exact h1
    have ndP:ps.Nodup:=by rw [<- S.pre];exact S.nd.sublist (List.take_sublist _ _)
    refine ⟨u,rv,?_⟩
    rcases S.par y (YL hp) with k | k
    . exact .inl ⟨k,jKq ndP hp hu k⟩
    . obtain ⟨c,e⟩:=mAq (n:=s.heap.objs.size+1) k
      refine .inr ⟨.inl k,c,e,?_⟩
      have q:=x.cell y c e
      rw [k4q ndP hp hu (by show scope.names.lookup y≠_;rw [k];decide)] at q
      exact q
  . exact e0.hok.fresh (Nat.le_of_lt (x.above y c (PySem.mem_of_lookup h)))
  . unfold eVq
    show _=N.length
    rw [Yg,Yf,Zf]
    omega
theorem aW6q {CX:CXT} {P:Program} {w:World} {K:PySem.W.Frag} {mg:Str->Option Value} {base:Heap} {k:Nat} {f:Addr} {name qual:Str} {params:Arguments} {body:List Stmt} {scope:Scope} {dV kV doc pm cdv ct oc:Value} {an od:Option Addr}
    {osl:Array (Option Value)} {N ps:List Str} {sp:Sp} (lk:K.lookup f=some ⟨oc,od,.func (PySem.W.fnOf name qual params body scope dV kV doc pm an cdv ct),osl⟩) (hcd:PySem.W.codeIn K cdv qual=true) (S:FnScope N ps scope)
    (len:∀ vs H Q E,sp vs H Q E->vs.length=ps.length)
    (hbody:∀ (A:Around) (outer:List Env) (s:Shared) (H:Hp) (vs:List V) (Q:VK) (E:XK),Room k (A.deeper (envOfC qual scope s.heap.objs.size f cdv))->sp vs H Q E →
      ∃ t,PSs (tVq CX P w K mg base N qual scope f cdv A outer s H E) body t/\t { nx:=λ _ H'=>Q .non H',rt:=Q } (eVq N vs) H) :
    FnOk P w K mg base CX (k+1) f (PySem.W.fnOf name qual params body scope dV kV doc pm an cdv ct) ps sp:=by
  refine ⟨len,λ A outer s H args us vs Q E hr e0 hb r hsp=>?_⟩
  have hl:=len _ _ _ _ hsp
  have KX:K.In s.heap:=e0.mod.kin.keeps λ b o e=>(e0.bs b o e).1
  have lim:s.heap.NoLimit:=e0.mod.nolimit.keeps λ b o e=>(e0.bs b o e).1
  have hkind:∀ y∈ps.zip us,scope.names.lookup y.1=some .local\/(scope.names.lookup y.1=some .cell/\((cellsFrom (s.heap.objs.size+1) scope.names []).lookup y.1).isSome=true):=λ⟨n,v⟩ hy=>by
    rcases S.par n (List.of_mem_zip hy).1 with q | q
    . exact .inl q
    . exact .inr ⟨q,PySem.W.cellsFrom_some _ _ _ (.inl q)⟩
  refine codeAny_call_function hr.depth (KX _ _ lk) rfl S.co S.gen rfl (PySem.W.codeRec_of KX hcd) (hb _ _ _ _ ?_)
  refine wpAny_newFunctionEnv_cells S.kind hkind λ env he s1 x=>?_
  subst he
  refine ⟨lim.keeps x.toInCall.keep,codeAny_func ?_⟩
  obtain ⟨t,ht,hq⟩:=hbody A outer s H vs Q E (hr.deeper _) hsp
  have I:Inv (tVq CX P w K mg base N qual scope f cdv A outer s H E) [] (eVq N vs) H s1:=pGq S hr.hd e0 hl r x
  refine wpAny_mono (ht [] s1 (eVq N vs) H _ I hq) (λ fl s' hs=>?_) λ e s' hs=>hs
  have fin:∀ {σ':St} {H':Hp} {v:V} {u:Value},Inv (tVq CX P w K mg base N qual scope f cdv A outer s H E) [] σ' H' s'->RelV v u->Q v H'->CE outer P w H s Q u s':=
    λ{σ' H' v u} J rv q=>⟨v,H',J.os,J.bare,J.base,J.hok,rv,q⟩
  cases fl with
  | ret u=>
    obtain ⟨v,σ',H',J,rv,q⟩:=hs
    exact fin J rv q
  | next=>
    obtain ⟨σ',H',J,q⟩:=hs
    exact fin (v:=V.non) (u:=Value.none) J rfl q
  | brk=>
    obtain ⟨_,_,_,q⟩:=hs
    exact False.elim q
  | cont=>
    obtain ⟨_,_,_,q⟩:=hs
    exact False.elim q
section
variable {X:Cx} {x:Str} {p pos:Pos} {e:Expr} {es:List Expr} {t:TA} {id T:String} {r:List V->Hp->VK->Prop}
def tCB (r:List V->Hp->VK->Prop) (t:TA):TE:=λ σ H Q=>t σ H λ vs H1=>r vs H1 Q
theorem sBq (hc:CallR X (.builtin id) r) (hg:Gl X x) (hm:X.mg x=none) (hv:bootBuiltins x=some (.builtin id)) (ha:PA X (e::es) t) (hn:x≠"__name__":=by decide) (hdb:(x==("__debug__" : Str))=false:=by decide)
    (he:starEach (e::es) X.env=(false,eval e X.env)::starEach es X.env:=by rfl) (hpl:(backTo pos (starEach es X.env)).any (·.1)=false:=by rfl):PE X (.Call (.Name x p) (e::es) [] pos) (tCB r t):=by
  intro pins s σ H Q I h
  refine wpAny_Call_Name_kw (e3q I hg hm hv ?_ hn hdb)
  exact PyProof.Rows.callWith_builtin1 (thn (ha pos pins s σ H _ I h) λ us s1 ⟨vs,H1,I1,r1,q1⟩=>hc pins s1 σ H1 vs us Q I1 r1 q1) he hpl
theorem oFq (hc:CallR X (.type T) r) (hg:Gl X x) (hm:X.mg x=none) (hv:bootBuiltins x=some (.type T)) (ha:PA X (e::es) t) (hn:x≠"__name__":=by decide) (hdb:(x==("__debug__" : Str))=false:=by decide)
    (he:starEach (e::es) X.env=(false,eval e X.env)::starEach es X.env:=by rfl) (hpl:(backTo pos (starEach es X.env)).any (·.1)=false:=by rfl):PE X (.Call (.Name x p) (e::es) [] pos) (tCB r t):=by
  intro pins s σ H Q I h
  refine wpAny_Call_Name_kw (e3q I hg hm hv ?_ hn hdb)
  exact PyProof.Rows.callWith_type1 (thn (ha pos pins s σ H _ I h) λ us s1 ⟨vs,H1,I1,r1,q1⟩=>hc pins s1 σ H1 vs us Q I1 r1 q1) he hpl
end
end L2
namespace HT
open PySem PyProof.Rows
section
open PySem.SeqAt
open PySem.AutoSeq1 (wpAny_loadPart')
open PySem.MeetsSeq PySem.MeetsSeq2 PySem.MeetsSeq3
end
section
variable {prog:Program} {w:World} {A:Around} {E:Value->Shared->Prop} {s:Shared}
theorem cat_tup {t b:Addr} {vs ws:List Value} {Q:Value->Shared->Prop} (ht:IsTup s.heap t vs.toArray) (hb:IsTup s.heap b ws.toArray) (hv:vs≠[])
    (h1:ws=[]->Q (.ref t) s) (h2:ws≠[]->Q (.ref s.heap.objs.size) { s with heap:=s.heap.push { cls:=.type "tuple", data:=.seq (vs++ws).toArray } })
    (hsz:vs.length+ws.length<=sizeLine):wpAny (model prog w) A (binaryOp .Add (.ref t) (.ref b)) Q E s:=by
  obtain ⟨⟨cls,dd,data,sl⟩,ho,hc,n,hd⟩:=id ht
  obtain ⟨⟨cls2,dd2,data2,sl2⟩,ho2,hc2,n2,hd2⟩:=id hb
  simp only at hc hd hc2 hd2
  subst hc hd hc2 hd2
  have e:vs.toArray++ws.toArray=(vs++ws).toArray:=by simp
  by_cases hw:ws=[]
  . exact concat_meets ⟨_,ho,rfl⟩ ⟨_,ho2,rfl⟩ noFill_tuple_add seq_tuple_add PySem.F.slot_tuple_add PySem.F.entry_tuple_add (PySem.F.args_tuple_add_2 _ _)
      (tuple_addW1 t b vs.toArray ws.toArray n n2 dd dd2 sl sl2 (by simpa using hv) (by simp [hw])) ⟨ho,ho2,h1 hw⟩
  . refine concat_meets ⟨_,ho,rfl⟩ ⟨_,ho2,rfl⟩ noFill_tuple_add seq_tuple_add PySem.F.slot_tuple_add PySem.F.entry_tuple_add (PySem.F.args_tuple_add_2 _ _)
      (tuple_addW2 t b vs.toArray ws.toArray n n2 dd dd2 sl sl2 (by simpa using hv) (by simpa using hw) (by rw [Ye,Ye];exact hsz)) ⟨ho,ho2,?_⟩
    rw [e]
    exact h2 hw
def sIx (n d:Nat):Option Int->Nat
  | none=>d
  | some v=>if v < 0 then (v+(n:Int)).toNat else min v.toNat n
theorem aL1q (n d:Nat) (hd:d<=n) (o:Option Int):sIx n d o<=n:=by
  cases o with
  | none=>exact hd
  | some v=>
    show (if v < 0 then (v+(n:Int)).toNat else min v.toNat n)<=n
    by_cases hv:v < 0
    . rw [if_pos hv];omega
    . rw [if_neg hv];exact Nat.min_le_right _ _
theorem r0q (v:Int) (n d:Nat):(if v < 0 then max (v+(n:Int)) 0 else min v (n:Int))=((sIx n d (some v):Nat):Int):=by
  show (if v < 0 then max (v+(n:Int)) 0 else min v (n:Int))=(((if v < 0 then (v+(n:Int)).toNat else min v.toNat n):Nat):Int)
  by_cases hv:v < 0
  . simp only [if_pos hv];omega
  . simp only [if_neg hv];omega
theorem nCq (lo hi:Option Int) (n:Nat):Builtin.Slice.sliceAdjust lo hi 1 (n:Int)=(((sIx n 0 lo:Nat):Int),((sIx n n hi:Nat):Int)):=by
  have h1:¬ ((1:Int) < 0):=by omega
  unfold Builtin.Slice.sliceAdjust
  simp only [h1,if_false]
  refine Prod.ext ?_ ?_
  . cases lo with
    | none=>rfl
    | some v=>exact r0q v n 0
  . cases hi with
    | none=>rfl
    | some v=>exact r0q v n n
theorem nFq (i j:Nat):Builtin.Slice.slicePlaces (i:Int) (j:Int) 1=j - i:=by
  unfold Builtin.Slice.slicePlaces
  have h1:(1:Int) > 0:=by omega
  simp only [h1,if_true,Int.ediv_one]
  split<;>omega
theorem slicePart_ {v:Value} {o:Option Int} {Q:Option Int->Shared->Prop} (p:IsPart v o) (h:Q o s):wpAny (model prog w) A (Builtin.Slice.slicePartIndex v) Q E s:=by
  cases p with
  | none=>exact slicePart_none h
  | int i t=>exact slicePart_int h
theorem sliceApplied_gen {sl:Addr} {vl vu:Value} {lo hi:Option Int} {n:Nat} {Q:Int × Int × Nat->Shared->Prop} (hs:s.heap.IsSliceOf sl vl vu .none) (pl:IsPart vl lo) (pu:IsPart vu hi)
    (h:Q (((sIx n 0 lo:Nat):Int),1,sIx n n hi - sIx n 0 lo) s):wpAny (model prog w) A (Builtin.Slice.sliceApplied (.ref sl) (pure (n:Int))) Q E s:=by
  obtain ⟨os,hos,hcs,hds⟩:=id hs
  unfold Builtin.Slice.sliceApplied Builtin.Slice.sliceFields
  refine wpAny_bind (wpAny_bind (wpAny_field hos hds (x:=vl) rfl (wpAny_bind (wpAny_field hos hds (x:=vu) rfl (wpAny_bind (wpAny_field hos hds (x:=.none) rfl (wpAny_pure ?_)))))))
  refine wpAny_bind (slicePart_none ?_)
  show wpAny _ _ (if ((1:Int)==0)=true then _ else _) _ _ s
  rw [if_neg (by decide)]
  refine wpAny_bind (slicePart_ pl (wpAny_bind (slicePart_ pu (wpAny_bind (wpAny_pure ?_)))))
  show wpAny _ _ (match Builtin.Slice.sliceAdjust lo hi 1 (n:Int) with | (lo,hi)=>pure (lo,(1:Int),Builtin.Slice.slicePlaces lo hi 1)) _ _ s
  rw [nCq lo hi n]
  show wpAny _ _ (pure (((sIx n 0 lo:Nat):Int),(1:Int),Builtin.Slice.slicePlaces ((sIx n 0 lo:Nat):Int) ((sIx n n hi:Nat):Int) 1)) _ _ s
  rw [nFq]
  exact wpAny_pure h
theorem rRq (xs:Array Value) (i k:Nat):((Ys k).filterMap λ(m:Nat)=>xs[((i:Int)+(m:Int) * 1).toNat]?).toArray=((xs.toList.drop i).take k).toArray:=by
  have e:(λ(m:Nat)=>xs[((i:Int)+(m:Int) * 1).toNat]?)=λ m=>xs[i+m]?:=by
    funext m
    have:((i:Int)+(m:Int) * 1).toNat=i+m:=by omega
    rw [this]
  rw [e]
  have:=pick_run xs i k
  rw [List.filterMap_map] at this
  have e2:((λ x=>xs[x]?) ∘ λ x=>i+x)=λ m=>xs[i+m]?:=rfl
  rw [e2] at this
  rw [this]
theorem getItem_tuple_cut {t sl:Addr} {items:Array Value} {vl vu:Value} {lo hi:Option Int} {Q:Value->Shared->Prop} (ht:IsTup s.heap t items) (hs:s.heap.IsSliceOf sl vl vu .none) (pl:IsPart vl lo) (pu:IsPart vu hi)
    (hw:¬ (sIx items.size 0 lo=0/\sIx items.size items.size hi=items.size))
    (h:Q (.ref s.heap.objs.size) { s with heap:=s.heap.push { cls:=.type "tuple", data:=.seq ((items.toList.drop (sIx items.size 0 lo)).take (sIx items.size items.size hi - sIx items.size 0 lo)).toArray } })
    (hsz:items.size<=sizeLine):wpAny (model prog w) A (getItem (.ref t) (.ref sl)) Q E s:=by
  have htake:sizeOk (.seq ((items.toList.drop (sIx items.size 0 lo)).take (sIx items.size items.size hi - sIx items.size 0 lo)).toArray):=by
    show ((items.toList.drop (sIx items.size 0 lo)).take (sIx items.size items.size hi - sIx items.size 0 lo)).toArray.size<=sizeLine
    rw [Ye,YK,Yz,Array.length_toList]
    omega
  have hj:sIx items.size items.size hi<=items.size:=aL1q _ _ (Nat.le_refl _) hi
  obtain ⟨os,hos,hcs,hds⟩:=id hs
  have hTs:s.TypeIs (.ref sl) "slice":=⟨os,hos,hcs⟩
  unfold getItem
  try with_reducible refine wpAny_holding ?_
  first | refine wpAny_bind (wpAny_pure ?_) | skip
  refine wpAny_bind (wpAny_sequenceKey ht.typeIs (by decide) ?_)
  refine wpAny_bind (wpAny_callSpecial?_slot (name:=Str.ofString "__getitem__") ht.typeIs PyProof.Rows.slot_tuple_getitem
    (wpAny_call_entry PyProof.Rows.slot_tuple_getitem ht.typeIs entry_tuple_getitem ?_ (args_tuple_getitem _ _)))
  show wpAny _ _ (Builtin.Tuple.tupleItemsOf (.ref t) >>= _) _ _ s
  refine wpAny_bind (tupleItemsOf_ ht ?_)
  refine wpAny_bind (wpAny_typeOf hTs ?_)
  rw [if_pos (by decide)]
  refine wpAny_bind (sliceApplied_gen hs pl pu ?_)
  have hno:¬ ((((sIx items.size 0 lo:Nat):Int)==0&&(1:Int)==1&&(sIx items.size items.size hi - sIx items.size 0 lo)==items.size)=true):=by
    intro q
    rw [Bool.and_eq_true,Bool.and_eq_true] at q
    have q1:((sIx items.size 0 lo:Nat):Int)=0:=eq_of_beq q.1.1
    have q2:sIx items.size items.size hi - sIx items.size 0 lo=items.size:=eq_of_beq q.2
    exact hw ⟨by omega,by omega⟩
  show wpAny _ _ (if (((sIx items.size 0 lo:Nat):Int)==0&&(1:Int)==1&&(sIx items.size items.size hi - sIx items.size 0 lo)==items.size)=true then _ else _) _ _ s
  rw [if_neg hno,rRq]
  first
    | exact wpAny_bind (m:=Builtin.Tuple.tupleExact _) (wpAny_newObj_type (wpAny_pure ⟨_,rfl,wpAny_pure h⟩) htake)
    | exact wpAny_bind (m:=Builtin.Tuple.tupleExact _) (wpAny_newObj_type (wpAny_bind (wpAny_pure (wpAny_pure ⟨_,rfl,wpAny_pure h⟩))) htake)
    | exact wpAny_bind (wpAny_bind (m:=Builtin.Tuple.tupleExact _) (wpAny_newObj_type (wpAny_pure (wpAny_pure ⟨_,rfl,wpAny_pure h⟩)) htake))
    | exact wpAny_bind (wpAny_bind (m:=Builtin.Tuple.tupleExact _) (wpAny_newObj_type (wpAny_pure ⟨_,rfl,wpAny_pure h⟩) htake))
end
end HT
namespace L2
open PySem PySem.Spec PyProof.Rows
abbrev TO:=St->Hp->(Option Int->Hp->Prop)->Prop
def PO (X:Cx) (e:Option Expr) (t:TO):Prop:=
  ∀ (pins:List (Addr × Obj)) (s:Shared) (σ:St) (H:Hp) (Q:Option Int->Hp->Prop),Inv X pins σ H s->t σ H Q →
    wpAny (model X.prog X.w) X.A (evalPart e X.env) (λ u s'=>∃ o H',Inv X pins σ H' s'/\IsPart u o/\Q o H') X.xe s
def pCq:TO:=λ _ H Q=>Q none H
def aA2q (t:TE):TO:=λ σ H Q=>t σ H λ x H1=>∃ i,x=.int i/\Q (some i) H1
section
variable {X:Cx} {e:Expr} {te:TE} {lo hi:Option Expr} {tl th:TO} {pos p2:Pos}
theorem vHq:PO X none pCq:=by
  intro pins s σ H Q I h
  rw [evalPart_none]
  exact wpAny_pure ⟨none,H,I,.none,h⟩
theorem y4q (h:PE X e te):PO X (some e) (aA2q te):=by
  intro pins s σ H Q I hw
  rw [evalPart_some]
  refine thn (h pins s σ H _ I hw) λ u s1 ⟨x,H1,I1,r1,q1⟩=>?_
  obtain ⟨i,rfl,q⟩:=q1
  obtain ⟨t,rfl⟩:=r1
  exact ⟨some i,H1,I1,.int i t,q⟩
def SlR (X:Cx) (r:V->Option Int->Option Int->Hp->VK->Prop):Prop:=
  ∀ (pins:List (Addr × Obj)) (s:Shared) (σ:St) (H:Hp) (x:V) (v vl vu:Value) (lo hi:Option Int) (sl:Addr) (Q:VK),Inv X pins σ H s->RelV x v->s.heap.IsSliceOf sl vl vu .none->IsPart vl lo->IsPart vu hi->r x lo hi H Q →
    ∃ T id,typeLookup (.type T) "__getitem__" = pure (some (.builtin id))/\s.TypeIs v T/\wpAny (model X.prog X.w) X.A (getItem v (.ref sl)) (EP X pins σ Q) X.xe s
theorem SlR.or {r r':V->Option Int->Option Int->Hp->VK->Prop} (h:SlR X r) (h':SlR X r'):SlR X (λ x lo hi H Q=>r x lo hi H Q\/r' x lo hi H Q):=by
  intro pins s σ H x v vl vu lo hi sl Q I rx hs pl pu q
  rcases q with q | q
  . exact h pins s σ H x v vl vu lo hi sl Q I rx hs pl pu q
  . exact h' pins s σ H x v vl vu lo hi sl Q I rx hs pl pu q
def tSl (r:V->Option Int->Option Int->Hp->VK->Prop) (te:TE) (tl th:TO):TE:=λ σ H Q=>te σ H λ x H1=>tl σ H1 λ l H2=>th σ H2 λ u H3=>r x l u H3 Q
theorem t5q {r:V->Option Int->Option Int->Hp->VK->Prop} (hr:SlR X r) (he:PE X e te) (hl:PO X lo tl) (hu:PO X hi th):PE X (.Subscript e (.Slice lo hi none p2) pos) (tSl r te tl th):=by
  intro pins s σ H Q I h
  refine Subscript_ (thn (he pins s σ H _ I h) λ v s1 ⟨x,H1,I1,r1,q1⟩=>?_)
  refine wpAny_Slice (thn (hl pins s1 σ H1 _ I1 q1) λ vl s2 ⟨l,H2,I2,pl,q2⟩=>thn (hu pins s2 σ H2 _ I2 q2) λ vu s3 ⟨u,H3,I3,pu,q3⟩=>?_)
  rw [evalPart_none]
  refine wpAny_pure ?_
  have I4:Inv X pins σ H3 { s3 with heap:=s3.heap.push { cls:=.type "slice", data:=.fields #[vl,vu,.none] } }:=I3.kept (t':=s3.toks) λ b ob q=>Heap.get?_push_of_some _ q
  obtain ⟨T,id,hT,ht,hg⟩:=hr pins { s3 with heap:=s3.heap.push { cls:=.type "slice", data:=.fields #[vl,vu,.none] } } σ H3 x v vl vu l u s3.heap.objs.size Q I4 r1 (Heap.IsSliceOf.new ..) pl pu q3
  show wpAny (model X.prog X.w) X.A (subscriptTail e (.Slice lo hi none p2) v (.ref s3.heap.objs.size)) (EP X pins σ Q) X.xe { s3 with heap:=s3.heap.push { cls:=.type "slice", data:=.fields #[vl,vu,.none] } }
  exact tail_any (ops:=[.ref s3.heap.objs.size,v]) ht hT hg (by with_unfolding_all rfl)
def nTq (xs:List V) (lo hi:Option Int):List V:=(xs.drop (HT.sIx xs.length 0 lo)).take (HT.sIx xs.length xs.length hi - HT.sIx xs.length 0 lo)
theorem fUq (xs:List V) (lo hi:Option Int):(nTq xs lo hi).length<=xs.length:=by
  unfold nTq
  rw [YK,Yz]
  omega
def rSlT (K:PySem.W.Frag):V->Option Int->Option Int->Hp->VK->Prop:=λ x lo hi H Q=>∃ a xs,x=.ref a/\SqT K H a xs ∧
  ¬ (HT.sIx xs.length 0 lo=0/\HT.sIx xs.length xs.length hi=xs.length)/\∀ p,H p=none->Q (.ref p) (upd H p (.tup (nTq xs lo hi)))
theorem aF4q:SlR X (rSlT X.K):=by
  intro pins s σ H x v vl vu lo hi sl Q I rx hs pl pu h
  obtain ⟨a,xs,rfl,hx,hw,q⟩:=h
  cases rx
  obtain ⟨its,r,ht,hz⟩:=I.tuple hx
  have hlen:its.toArray.size=xs.length:=by rw [Ye];exact r.length.symm
  refine ⟨"tuple", _,PyProof.Rows.slot_tuple_getitem.lookup,ht.typeIs,?_⟩
  refine HT.getItem_tuple_cut ht hs pl pu (by rw [hlen];exact hw) ?_ (by rw [hlen];exact hz)
  rw [hlen]
  refine ⟨.ref s.heap.objs.size,_,I.laid (t':=s.toks) (o:=.tup (nTq xs lo hi)) (λ b ob q=>Heap.get?_push_of_some _ q) (Nat.le_refl _) ?_,rfl,q _ (I.hok.fresh (Nat.le_refl _))⟩
  exact ⟨Nat.le_trans (fUq xs lo hi) hz,_,(r.drop (HT.sIx xs.length 0 lo)).take (HT.sIx xs.length xs.length hi - HT.sIx xs.length 0 lo),IsTup.new _ _⟩
def aT8q (K:PySem.W.Frag):R2:=λ x y H Q=>∃ a b xs ys,x=.ref a/\y=.ref b/\SqT K H a xs/\SqT K H b ys/\xs≠[]/\xs.length+ys.length<=sizeLine ∧
  (ys=[]->Q (.ref a) H)/\(ys≠[]->∀ p,H p=none->Q (.ref p) (upd H p (.tup (xs++ys))))
theorem Vals.nil_iff {xs:List V} {us:List Value} (r:Vals xs us):us=[] ↔ xs=[]:=by
  cases r with
  | nil=>simp
  | cons _ _=>simp
theorem wHq:OpR X (binaryOp .Add) (aT8q X.K):=by
  intro pins s σ H x y v u Q I rx ry h
  obtain ⟨a,b,xs,ys,rfl,rfl,ha,hb,hx,hz,q1,q2⟩:=h
  cases rx
  cases ry
  obtain ⟨its,r1,p1,_⟩:=I.tuple ha
  obtain ⟨its2,r2,p2,_⟩:=I.tuple hb
  refine HT.cat_tup p1 p2 (λ z=>hx (r1.nil_iff.mp z)) (λ z=>⟨.ref a,H,I,rfl,q1 (r2.nil_iff.mp z)⟩) (λ z=>?_) (by rw [<- r1.length,<- r2.length];exact hz)
  refine ⟨.ref s.heap.objs.size,_,I.laid (t':=s.toks) (o:=.tup (xs++ys)) (λ b ob q=>Heap.get?_push_of_some _ q) (Nat.le_refl _) ?_,rfl,q2 (λ w=>z (r2.nil_iff.mpr w)) _ (I.hok.fresh (Nat.le_refl _))⟩
  exact ⟨by rw [Yg];exact hz,_,r1.append r2,IsTup.new _ _⟩
end
def ixN (n:Nat) (i:Int):Option Nat:=if 0<=i then (if i < n then some i.toNat else none) else if -(n:Int)<=i then some (i+n).toNat else none
def atI {α:Type} (xs:List α) (i:Int):Option α:=(ixN xs.length i).bind λ j=>xs[j]?
theorem q9q {n:Nat} {i:Int} {j:Nat} (h:ixN n i=some j):seqIndex? i n=some j/\j < n/\-(n:Int)<=i/\i < n:=by
  unfold ixN at h
  by_cases h0:0<=i
  . rw [if_pos h0] at h
    by_cases h1:i < n
    . rw [if_pos h1] at h
      have e:i.toNat=j:=Option.some.inj h
      exact ⟨by rw [seqIndex_of h0 h1,e],by omega,by omega,h1⟩
    . rw [if_neg h1] at h;cases h
  . rw [if_neg h0] at h
    by_cases h1:-(n:Int)<=i
    . rw [if_pos h1] at h
      have e:(i+n).toNat=j:=Option.some.inj h
      exact ⟨by rw [seqIndex_neg (by omega) h1,e],by omega,h1,by omega⟩
    . rw [if_neg h1] at h;cases h
theorem kMq {α:Type} {xs:List α} {i:Int} {v:α} (h:atI xs i=some v):∃ j,seqIndex? i xs.length=some j/\xs[j]?=some v/\j < xs.length/\-(xs.length:Int)<=i/\i < xs.length:=by
  unfold atI at h
  cases e:ixN xs.length i with
  | none=>rw [e] at h;cases h
  | some j=>
    rw [e] at h
    obtain ⟨h1,h2,h3,h4⟩:=q9q e
    exact ⟨j,h1,h,h2,h3,h4⟩
theorem bFq {α:Type} {xs:List α} {j:Nat} {v:α} (h:xs[j]?=some v):atI xs (j:Int)=some v:=by
  have hj:j < xs.length:=(Yu.mp h).1
  have e:ixN xs.length (j:Int)=some j:=by
    unfold ixN
    rw [if_pos (by omega),if_pos (by omega)];simp
  unfold atI;rw [e];exact h
def hUq (b:Expr):Prop:=∀ o i,subscripted b false o i=operate [o,i] (getItem o i)
def IxR (X:Cx) (r:R2):Prop:=
  ∀ (value slice:Expr) (pins:List (Addr × Obj)) (s:Shared) (σ:St) (H:Hp) (x y:V) (v u:Value) (Q:VK),Inv X pins σ H s->RelV x v->RelV y u->r x y H Q →
    subscripted slice false v u=operate [v,u] (getItem v u)->wpAny (model X.prog X.w) X.A (subscriptTail value slice v u) (EP X pins σ Q) X.xe s
def MtR (X:Cx) (id:String) (r:V->List V->Hp->VK->Prop):Prop:=
  ∀ (pins:List (Addr × Obj)) (s:Shared) (σ:St) (H:Hp) (x:V) (xs:List V) (v:Value) (us:List Value) (Q:VK),Inv X pins σ H s->RelV x v->Vals xs us->r x xs H Q →
    wpAny (model X.prog X.w) X.A (call (.builtin id) (v::us)) (EP X pins σ Q) X.xe s
section
variable {X:Cx} {a b:Expr} {ta tb:TE} {pos:Pos}
theorem IxR.or {r r':R2} (h:IxR X r) (h':IxR X r'):IxR X (λ x y H Q=>r x y H Q\/r' x y H Q):=by
  intro value slice pins s σ H x y v u Q I rx ry q hs
  rcases q with q | q
  . exact h value slice pins s σ H x y v u Q I rx ry q hs
  . exact h' value slice pins s σ H x y v u Q I rx ry q hs
theorem MtR.or {id:String} {r r':V->List V->Hp->VK->Prop} (h:MtR X id r) (h':MtR X id r'):MtR X id (λ x xs H Q=>r x xs H Q\/r' x xs H Q):=by
  intro pins s σ H x xs v us Q I rx rs q
  rcases q with q | q
  . exact h pins s σ H x xs v us Q I rx rs q
  . exact h' pins s σ H x xs v us Q I rx rs q
theorem aM6q {r:R2} (hr:IxR X r) (ha:PE X a ta) (hb:PE X b tb) (hs:hUq b):PE X (.Subscript a b pos) (tOp r ta tb):=by
  intro pins s σ H Q I h
  exact Subscript_ (binT ha hb I h λ v u s2 x y H2 I2 rx ry q=>hr a b pins s2 σ H2 x y v u Q I2 rx ry q (hs _ _))
def rIxL (K:PySem.W.Frag):R2:=λ x y H Q=>∃ p xs i v,x=.ref p/\y=.int i/\SqL K H p xs/\atI xs i=some v/\Q v H
def rIxT (K:PySem.W.Frag):R2:=λ x y H Q=>∃ p xs i v,x=.ref p/\y=.int i/\SqT K H p xs/\atI xs i=some v/\Q v H
def rIxS:R2:=λ x y H Q=>∃ z i c,x=.str z/\y=.int i/\z.length<=sizeLine/\atI z.cps.toList i=some c/\Q (.str ⟨#[c]⟩) H
theorem ix_list:IxR X (rIxL X.K):=by
  intro value slice pins s σ H x y v u Q I rx ry h hs
  obtain ⟨p,xs,i,z,rfl,rfl,hq,he,q⟩:=h
  cases rx
  obtain ⟨t,rfl⟩:=ry
  obtain ⟨its,r,pl,hz⟩:=I.list hq
  obtain ⟨j,h1,h2,h3,h4,h5⟩:=kMq he
  obtain ⟨w,ew,rw'⟩:=r.get h2
  have hl:=r.length
  have hn:=dYq
  have fin:EP X pins σ Q w s:=⟨z,H,I,rw',q⟩
  by_cases h0:0<=i
  . have hj:i.toNat=j:=by
      rw [seqIndex_of h0 h5] at h1
      exact Option.some.inj h1
    exact item_listR pl.isList h0 (by omega) (by rw [hj];simpa using ew) fin hs
  . have hj:(i+(its.toArray.size:Int)).toNat=j:=by
      rw [seqIndex_neg (by omega) h4] at h1
      rw [Ye,<- hl]
      exact Option.some.inj h1
    exact subscriptTail_builtinR (x:=w) pl.isList.typeIs slot_list_getitem.lookup
      (wpAny_getItem_list_neg (Q:=λ r s'=>r=w/\EP X pins σ Q r s') pl.isList (by omega) (by rw [Ye]<;>omega) (by omega) (by rw [hj];simpa using ew) ⟨rfl,fin⟩) hs
theorem ix_tup:IxR X (rIxT X.K):=by
  intro value slice pins s σ H x y v u Q I rx ry h hs
  obtain ⟨p,xs,i,z,rfl,rfl,hq,he,q⟩:=h
  cases rx
  obtain ⟨t,rfl⟩:=ry
  obtain ⟨its,r,pl,hz⟩:=I.tuple hq
  obtain ⟨j,h1,h2,h3,h4,h5⟩:=kMq he
  obtain ⟨w,ew,rw'⟩:=r.get h2
  have hl:=r.length
  have hn:=dYq
  have fin:EP X pins σ Q w s:=⟨z,H,I,rw',q⟩
  exact subscriptTail_builtinR (x:=w) pl.typeIs slot_tuple_getitem.lookup
    (getItem_tuple (j:=j) (Q:=λ r s'=>r=w/\EP X pins σ Q r s') pl (by omega) (by omega) (by rw [Ye,<- hl];exact h1) (by simpa using ew) ⟨rfl,fin⟩) hs
theorem aH0q:IxR X rIxS:=by
  intro value slice pins s σ H x y v u Q I rx ry h hs
  obtain ⟨z,i,c,rfl,rfl,hz,he,q⟩:=h
  obtain ⟨t,rfl⟩:=rx
  obtain ⟨t',rfl⟩:=ry
  obtain ⟨j,h1,h2,h3,h4,h5⟩:=kMq he
  have hl:z.cps.toList.length=z.length:=by simp [Str.length]
  rw [hl] at h1 h4 h5
  have hn:=dYq
  exact tail_any (typeIs_str s z t) slot_str_getitem.lookup (getItem_str (c:=c) (by
    have e1:decide (i < -(2 ^ 63:Int))=false:=decide_eq_false (by omega)
    have e2:decide (i ≥ 2 ^ 63)=false:=decide_eq_false (by omega)
    rw [e1,e2,Bool.or_false]) (by rw [h1];simpa using h2) ⟨.str ⟨#[c]⟩,H,I.tok _,⟨_,rfl⟩,q⟩) hs
def rIx (K:PySem.W.Frag):R2:=λ x y H Q=>rIxL K x y H Q\/rIxT K x y H Q\/rIxS x y H Q
theorem uKq:IxR X (rIx X.K):=ix_list.or (ix_tup.or aH0q)
theorem nGq (its:List Value) (n j:Nat) (u:Value):Obj.mapSeq (·.setIfInBounds j u) { cls:=.type "list", data:=.seq its.toArray n }={ cls:=.type "list", data:=.seq (its.set j u).toArray n }:=by
  simp [Obj.mapSeq]
theorem Inv.lst {pins:List (Addr × Obj)} {σ:St} {H:Hp} {s:Shared} {p:Addr} {xs:List V} (I:Inv X pins σ H s) (h:H p=some (.lst xs)) :
    ∃ (its:List Value) (n:Nat),Vals xs its/\s.heap.get? p=some { cls:=.type "list", data:=.seq its.toArray n }/\xs.length<=sizeLine:=by
  obtain ⟨z,its,n,r,e⟩:=I.hok p _ h
  exact ⟨its,n,r,e,z⟩
theorem Inv.lstUpd {pins:List (Addr × Obj)} {σ:St} {H:Hp} {s:Shared} {p:Addr} {xs ys:List V} {its its':List Value} {n n':Nat} {f:Obj->Obj} (I:Inv X pins σ H s) (h:H p=some (.lst xs))
    (ho:s.heap.get? p=some { cls:=.type "list", data:=.seq its.toArray n }) (hf:f { cls:=.type "list", data:=.seq its.toArray n }={ cls:=.type "list", data:=.seq its'.toArray n' }) (r:Vals ys its') (hz:ys.length<=sizeLine) (t:Nat) :
    Inv X pins σ (upd H p (.lst ys)) { s with heap:=s.heap.update p f,toks:=t }:=by
  have e:(s.heap.update p f).get? p=some { cls:=.type "list", data:=.seq its'.toArray n' }:=by
    rw [Heap.get?_update_self f ho (by rw [hf]<;>rfl),hf]
  refine I.write (x:=p) (e:=p) (by rw [h];trivial) (.inl rfl) (λ b u hb q=>(Heap.get?_update_other _ _ (Ne.symm hb)).trans q) ⟨_,e⟩ ?_
  exact ⟨hz,its',n',r,e⟩
def aP6q:V->V->V->Hp->(Hp->Prop)->Prop:=λ o i v H Q=>∃ p xs k j,o=.ref p/\i=.int k/\H p=some (.lst xs)/\ixN xs.length k=some j/\Q (upd H p (.lst (xs.set j v)))
theorem tMq:PSet X aP6q:=by
  intro pins s σ H o i v ov iv u Q I ro ri rv h
  obtain ⟨p,xs,k,j,rfl,rfl,hp,hj,q⟩:=h
  cases ro
  obtain ⟨t,rfl⟩:=ri
  obtain ⟨its,n,r,ho,hz⟩:=I.lst hp
  obtain ⟨h1,h2,h3,h4⟩:=q9q hj
  have hl:=r.length
  have hn:=dYq
  have I':Inv X pins σ (upd H p (.lst (xs.set j v))) { s with heap:=s.heap.update p (Obj.mapSeq (·.setIfInBounds j u)) }:=
    I.lstUpd hp ho (nGq its n j u) (r.set rv j) (by rw [List.length_set];exact hz) s.toks
  by_cases h0:0<=k
  . have hk:k.toNat=j:=by
      rw [seqIndex_of h0 h4] at h1
      exact Option.some.inj h1
    exact PySem.W.ki_setAt ho h0 (by omega) (by rw [Ye,<- hl];exact h4) (by rw [hk];exact ⟨_,I',q⟩)
  . have hk:(k+(its.toArray.size:Int)).toNat=j:=by
      rw [seqIndex_neg (by omega) h3] at h1
      rw [Ye,<- hl]
      exact Option.some.inj h1
    exact PySem.W.ki_setBack ho (by omega) (by rw [Ye,<- hl];exact h3) (by omega) (by rw [hk];exact ⟨_,I',q⟩)
theorem k3q (lo hi:Option Int) (n:Nat):(sliceBounds lo hi none n).1=((HT.sIx n 0 lo:Nat):Int)/\(sliceBounds lo hi none n).2.1=((HT.sIx n n hi:Nat):Int)/\(sliceBounds lo hi none n).2.2=1:=by
  refine ⟨?_,?_,rfl⟩
  . cases lo with
    | none=>simp [sliceBounds,HT.sIx]
    | some i=>
      simp only [sliceBounds,HT.sIx,Option.getD_none,show (1:Int) > 0 by decide,if_true]
      by_cases h:i < 0
      . simp only [h,if_true]<;>omega
      . simp only [h,if_false]<;>omega
  . cases hi with
    | none=>simp [sliceBounds,HT.sIx]
    | some i=>
      simp only [sliceBounds,HT.sIx,Option.getD_none,show (1:Int) > 0 by decide,if_true]
      by_cases h:i < 0
      . simp only [h,if_true]<;>omega
      . simp only [h,if_false]<;>omega
theorem hVq (its:List Value) (lo hi:Option Int):slicePick its.toArray lo hi none=((its.drop (HT.sIx its.length 0 lo)).take (HT.sIx its.length its.length hi - HT.sIx its.length 0 lo)).toArray:=by
  obtain ⟨h1,h2,h3⟩:=k3q lo hi its.toArray.size
  unfold slicePick
  rw [h1,h2,h3]
  simp only [sliceRange_one,pick_run,Ye]<;>rfl
def rSlL (K:PySem.W.Frag):V->Option Int->Option Int->Hp->VK->Prop:=λ x lo hi H Q=>∃ a xs,x=.ref a/\SqL K H a xs/\∀ p,H p=none->Q (.ref p) (upd H p (.lst (nTq xs lo hi)))
theorem w5q:SlR X (rSlL X.K):=by
  intro pins s σ H x v vl vu lo hi sl Q I rx hs pl pu h
  obtain ⟨a,xs,rfl,hx,q⟩:=h
  cases rx
  obtain ⟨its,r,ht,hz⟩:=I.list hx
  have hlen:=r.length
  refine ⟨"list", _,slot_list_getitem.lookup,ht.isList.typeIs,?_⟩
  refine wpAny_getItem_list_slice ht.isList hs pl pu .none (by simp) ?_ (by rw [Ye]<;>omega)
  rw [hVq,<- hlen]
  refine ⟨.ref s.heap.objs.size,_,I.laid (t':=s.toks) (o:=.lst (nTq xs lo hi)) (λ b ob q=>Heap.get?_push_of_some _ q) (Nat.le_refl _) ?_,rfl,q _ (I.hok.fresh (Nat.le_refl _))⟩
  exact ⟨Nat.le_trans (fUq xs lo hi) hz,_,0,(r.drop (HT.sIx xs.length 0 lo)).take (HT.sIx xs.length xs.length hi - HT.sIx xs.length 0 lo),Heap.get?_push_size _ rfl⟩
def gXq:V->Bool
  | .non=>true
  | .bl _=>true
  | .int _=>true
  | .str _=>true
  | _=>false
def eqV:V->V->Bool
  | .non,.non=>true
  | .bl a,.bl b=>a==b
  | .bl a,.int b=>(if a then 1 else 0)==b
  | .int a,.bl b=>a==(if b then 1 else 0)
  | .int a,.int b=>a==b
  | .str a,.str b=>a==b
  | _,_=>false
theorem aF1q {A:Around} {s:Shared} {y x:V} {u v:Value} (ry:RelV y u) (rx:RelV x v) (fy:gXq y=true) (fx:gXq x=true):SeqAt.EqAt A s u v (eqV y x):=by
  cases y with
  | non=>
    cases ry
    cases x with
    | non=>cases rx;exact SeqAt.EqAt.same _
    | bl b=>cases rx;exact SeqAt.EqAt.none_bool b
    | int b=>obtain ⟨t,rfl⟩:=rx;exact SeqAt.EqAt.none_int b t
    | str b=>obtain ⟨t,rfl⟩:=rx;exact SeqAt.EqAt.none_str b t
    | _=>exact absurd (show false=true from fx) Bool.false_ne_true
  | bl a=>
    cases ry
    cases x with
    | non=>cases rx;exact SeqAt.EqAt.bool_none a
    | bl b=>cases rx;exact SeqAt.EqAt.bool_bool a b
    | int b=>obtain ⟨t,rfl⟩:=rx;exact SeqAt.EqAt.bool_int a b t
    | str b=>obtain ⟨t,rfl⟩:=rx;exact SeqAt.EqAt.bool_str a b t
    | _=>exact absurd (show false=true from fx) Bool.false_ne_true
  | int a=>
    obtain ⟨t',rfl⟩:=ry
    cases x with
    | non=>cases rx;exact SeqAt.EqAt.int_none a t'
    | bl b=>cases rx;exact SeqAt.EqAt.int_bool a t' b
    | int b=>obtain ⟨t,rfl⟩:=rx;exact SeqAt.EqAt.int_int a t' b t
    | str b=>obtain ⟨t,rfl⟩:=rx;exact SeqAt.EqAt.int_str a t' b t
    | _=>exact absurd (show false=true from fx) Bool.false_ne_true
  | str a=>
    obtain ⟨t',rfl⟩:=ry
    cases x with
    | non=>cases rx;exact SeqAt.EqAt.str_none a t'
    | bl b=>cases rx;exact SeqAt.EqAt.str_bool a t' b
    | int b=>obtain ⟨t,rfl⟩:=rx;exact SeqAt.EqAt.str_int a t' b t
    | str b=>obtain ⟨t,rfl⟩:=rx;exact SeqAt.EqAt.str_str a t' b t
    | _=>exact absurd (show false=true from fx) Bool.false_ne_true
  | _=>exact absurd (show false=true from fy) Bool.false_ne_true
def eqU (x:V) (u:Value):Bool:=match u with
  | .none=>eqV .non x
  | .bool b=>eqV (.bl b) x
  | .int i _=>eqV (.int i) x
  | .str z _=>eqV (.str z) x
  | _=>false
theorem u4q {x y:V} {u:Value} (r:RelV y u) (f:gXq y=true):eqU x u=eqV y x:=by
  cases y with
  | non=>cases r;rfl
  | bl b=>cases r;rfl
  | int i=>obtain ⟨t,rfl⟩:=r;rfl
  | str z=>obtain ⟨t,rfl⟩:=r;rfl
  | _=>exact absurd (show false=true from f) Bool.false_ne_true
theorem gFq {x:V}:∀ {xs:List V} {us:List Value},Vals xs us->xs.all gXq=true->us.any (eqU x)=xs.any λ y=>eqV y x
  | _,_,.nil,_=>rfl
  | y::xs,u::us,.cons r t,f=>by
    rw [YB,Bool.and_eq_true] at f
    rw [YU,YU,u4q r f.1,gFq t f.2]
theorem dWq {A:Around} {s:Shared} {x:V} {v:Value} (rx:RelV x v) (fx:gXq x=true):∀ {xs:List V} {us:List Value},Vals xs us->xs.all gXq=true->∀ u∈us,SeqAt.EqAt A s u v (eqU x u)
  | _,_,.nil,_=>λ u hu=>by cases hu
  | y::xs,u::us,.cons r t,f=>λ u' hu=>by
    rw [YB,Bool.and_eq_true] at f
    rcases Yd.mp hu with rfl | hu
    . rw [u4q r f.1];exact aF1q r rx f.1 fx
    . exact dWq rx fx t f.2 u' hu
def inV (x:V) (xs:List V):Bool:=xs.any λ y=>eqV y x
def rIn (K:PySem.W.Frag) (neg:Bool):R2:=λ x y H Q=>∃ p xs,y=.ref p/\(SqL K H p xs\/SqT K H p xs)/\gXq x=true/\xs.all gXq=true/\Q (.bl (if neg then !inV x xs else inV x xs)) H
theorem op_in_seq:OpR X (compareOp .In) (rIn X.K false):=by
  intro pins s σ H x y v u Q I rx ry h
  obtain ⟨p,xs,rfl,hq,fx,fs,q⟩:=h
  cases ry
  rcases hq with hq | hq
  . obtain ⟨its,r,pl,hz⟩:=I.list hq
    refine SeqAt.in_listAt (eqU x) pl.isList (λ w hw=>dWq rx fx r fs w (by simpa using hw)) ⟨.bl _,H,I,rfl,?_⟩
    rw [show its.toArray.any (eqU x)=its.any (eqU x) by simp,gFq r fs]
    exact q
  . obtain ⟨its,r,pl,hz⟩:=I.tuple hq
    refine SeqAt.in_tupleAt (eqU x) pl (λ w hw=>dWq rx fx r fs w (by simpa using hw)) ⟨.bl _,H,I,rfl,?_⟩
    rw [show its.toArray.any (eqU x)=its.any (eqU x) by simp,gFq r fs]
    exact q
theorem op_notIn_seq:OpR X (compareOp .NotIn) (rIn X.K true):=by
  intro pins s σ H x y v u Q I rx ry h
  obtain ⟨p,xs,rfl,hq,fx,fs,q⟩:=h
  cases ry
  rcases hq with hq | hq
  . obtain ⟨its,r,pl,hz⟩:=I.list hq
    refine SeqAt.notIn_listAt (eqU x) pl.isList (λ w hw=>dWq rx fx r fs w (by simpa using hw)) ⟨.bl _,H,I,rfl,?_⟩
    rw [show its.toArray.any (eqU x)=its.any (eqU x) by simp,gFq r fs]
    exact q
  . obtain ⟨its,r,pl,hz⟩:=I.tuple hq
    refine SeqAt.notIn_tupleAt (eqU x) pl (λ w hw=>dWq rx fx r fs w (by simpa using hw)) ⟨.bl _,H,I,rfl,?_⟩
    rw [show its.toArray.any (eqU x)=its.any (eqU x) by simp,gFq r fs]
    exact q
theorem kAq:OpR X (compareOp .NotIn) (λ x y H Q=>∃ i j,x=.str i/\y=.str j/\Q (.bl (!(!(Builtin.Str.occurrences j i 0 j.length 1).isEmpty))) H):=by
  intro pins s σ H x y v u Q I rx ry h
  obtain ⟨i,j,rfl,rfl,q⟩:=h
  obtain ⟨t,rfl⟩:=rx
  obtain ⟨t',rfl⟩:=ry
  exact notIn_str ⟨.bl _,H,I,rfl,q⟩
theorem call_len_seq:CallR X (.builtin "len") (λ xs H Q=>∃ p ys,xs=[.ref p]/\(SqL X.K H p ys\/SqT X.K H p ys)/\Q (.int ys.length) H):=by
  intro pins s σ H xs us Q I r h
  obtain ⟨p,ys,rfl,hq,q⟩:=h
  obtain ⟨u,rfl,rx⟩:=gQq r
  cases rx
  have hn:=dYq
  rcases hq with hq | hq
  . obtain ⟨its,r',pl,hz⟩:=I.list hq
    have hlen:=r'.length
    exact Calls.call_len_list pl.isList (by simp only [Ye]<;>omega) ⟨.int ys.length,H,I.tok _,⟨s.toks+1,by rw [Ye,hlen]⟩,q⟩
  . obtain ⟨its,r',pl,hz⟩:=I.tuple hq
    have hlen:=r'.length
    exact len_tuple pl (by simp only [Ye]<;>omega) ⟨.int ys.length,H,I.tok _,⟨s.toks+1,by rw [Ye,hlen]⟩,q⟩
theorem kCq:CallR X (.builtin "len") (λ xs H Q=>∃ z,xs=[.str z]/\z.length<=sizeLine/\Q (.int z.length) H):=by
  intro pins s σ H xs us Q I r h
  obtain ⟨z,rfl,hz,q⟩:=h
  obtain ⟨u,rfl,t,rfl⟩:=gQq r
  have hn:=dYq
  exact len_str (by omega) ⟨.int z.length,H,I.tok _,⟨_,rfl⟩,q⟩
theorem CallR.or {f:Value} {r r':List V->Hp->VK->Prop} (h:CallR X f r) (h':CallR X f r'):CallR X f (λ xs H Q=>r xs H Q\/r' xs H Q):=by
  intro pins s σ H xs us Q I rs q
  rcases q with q | q
  . exact h pins s σ H xs us Q I rs q
  . exact h' pins s σ H xs us Q I rs q
theorem j5q:CallR X (.type "list") (λ xs H Q=>∃ p ys,xs=[.ref p]/\(SqL X.K H p ys\/SqT X.K H p ys)/\∀ l,H l=none->Q (.ref l) (upd H l (.lst ys))):=by
  intro pins s σ H xs us Q I r h
  obtain ⟨p,ys,rfl,hq,q⟩:=h
  obtain ⟨u,rfl,rx⟩:=gQq r
  cases rx
  have fin:∀ (its:List Value),Vals ys its->ys.length<=sizeLine->∀ (h':Heap) (c':Nat),(∀ b o',s.heap.get? b=some o'->h'.get? b=some o') →
      h'.get? s.heap.objs.size=some { cls:=.type "list", dict:=none,data:=.seq its.toArray c',slots:=#[] }->EP X pins σ Q (.ref s.heap.objs.size) { s with heap:=h' }:=λ its r' hz h' c' kp e=>
    ⟨.ref s.heap.objs.size,_,I.laid (t':=s.toks) kp (Nat.le_refl _) (show ObjOk X.prog X.w _ h' _ (.lst ys) from ⟨hz,its,c',r',e⟩),rfl,q _ (I.hok.fresh (Nat.le_refl _))⟩
  rcases hq with hq | hq
  . obtain ⟨its,r',pl,hz⟩:=I.list hq
    have hlen:=r'.length
    obtain ⟨o,ho,hc,n,hd⟩:=pl.isList
    exact call_list_seq p (.inl rfl) ho hc hd (λ h' c' kp e=>fin its r' hz h' c' kp e) (by simp only [Ye]<;>omega)
  . obtain ⟨its,r',pl,hz⟩:=I.tuple hq
    have hlen:=r'.length
    obtain ⟨o,ho,hc,n,hd⟩:=pl
    exact call_list_seq p (.inr rfl) ho hc hd (λ h' c' kp e=>fin its r' hz h' c' kp e) (by simp only [Ye]<;>omega)
theorem iHq:CallR X (.type "tuple") (λ xs H Q=>∃ p ys,xs=[.ref p]/\((SqL X.K H p ys/\∀ l,H l=none->Q (.ref l) (upd H l (.tup ys)))\/(SqT X.K H p ys/\Q (.ref p) H))):=by
  intro pins s σ H xs us Q I r h
  obtain ⟨p,ys,rfl,h⟩:=h
  obtain ⟨u,rfl,rx⟩:=gQq r
  cases rx
  rcases h with ⟨hq,q⟩ | ⟨hq,q⟩
  . obtain ⟨its,r',pl,hz⟩:=I.list hq
    have hlen:=r'.length
    refine call_tuple_list pl.isList (λ h' kp=>?_) (by simp only [Ye]<;>omega)
    have I1:Inv X pins σ H { s with heap:=h' }:=I.kept (t':=s.toks) kp
    have I2:Inv X pins σ (upd H h'.objs.size (.tup ys)) { s with heap:=h'.push { cls:=.type "tuple", data:=.seq its.toArray } }:=
      I1.laid (t':=s.toks) (λ b o e=>Heap.get?_push_of_some _ e) (Nat.le_refl _) (show ObjOk X.prog X.w _ _ _ (.tup ys) from ⟨hz,its,r',IsTup.new _ _⟩)
    exact ⟨.ref h'.objs.size,_,I2,rfl,q _ (I1.hok.fresh (Nat.le_refl _))⟩
  . obtain ⟨its,r',pl,hz⟩:=I.tuple hq
    exact call_tuple_same pl ⟨.ref p,H,I,rfl,q⟩
def tyV (K:PySem.W.Frag) (T:String) (x:V) (H:Hp):Prop:=match x with
  | .str _=>T = "str"
  | .int _=>T = "int"
  | .ref p=>(T = "list"/\∃ xs,SqL K H p xs)\/(T = "tuple"/\∃ o,K.lookup p=some o/\o.cls=.type "tuple"/\o.dict=none) ∨
      (T = "dict"/\((∃ kvs,H p=some (.dK kvs))\/∃ kvs,H p=some (.dT kvs)))\/(T = "set"/\∃ S n,H p=some (.set S n))
  | _=>False
theorem tYq {pins:List (Addr × Obj)} {σ:St} {H:Hp} {s:Shared} {T:String} {x:V} {v:Value} (I:Inv X pins σ H s) (r:RelV x v) (ty:tyV X.K T x H) :
    s.TypeIs v T/\∀ a,v=.ref a->∃ ob,s.heap.get? a=some ob/\ob.dict=none:=by
  cases x with
  | str z=>
    obtain ⟨t,rfl⟩:=r
    cases (show T = "str" from ty)
    exact ⟨typeIs_str s z t,λ _ e=>nomatch e⟩
  | int i=>
    obtain ⟨t,rfl⟩:=r
    cases (show T = "int" from ty)
    exact ⟨typeIs_int s i t,λ _ e=>nomatch e⟩
  | ref p=>
    cases r
    rcases ty with ⟨rfl,xs,hq⟩ | ⟨rfl,o,hk,hc,hd⟩ | ⟨rfl,hk⟩ | ⟨rfl,S,n,hk⟩
    . obtain ⟨its,_,pl,_⟩:=I.list hq
      refine ⟨pl.isList.typeIs,λ a e=>?_⟩
      cases e
      obtain ⟨o,n,e,c,hd,_⟩:=pl
      exact ⟨o,e,hd⟩
    . refine ⟨⟨o,I.kIn p o hk,hc⟩,λ a e=>?_⟩
      cases e
      exact ⟨o,I.kIn _ o hk,hd⟩
    . have z:∃ o,s.heap.get? p=some o/\o.ExactDict:=by
        rcases hk with ⟨kvs,hk⟩ | ⟨kvs,hk⟩
        . obtain ⟨_,_,_,_,o,_,_,e,ex,_⟩:=I.hok p _ hk
          exact ⟨o,e,ex⟩
        . obtain ⟨_,_,_,_,o,_,_,e,ex,_⟩:=I.hok p _ hk
          exact ⟨o,e,ex⟩
      obtain ⟨o,e,ex⟩:=z
      refine ⟨⟨o,e,ex.1⟩,λ a e2=>?_⟩
      cases e2
      exact ⟨o,e,ex.2.1⟩
    . obtain ⟨o,_,_,_,e,ex,_⟩:=I.hok p _ hk
      refine ⟨⟨o,e,ex.1⟩,λ a e2=>?_⟩
      cases e2
      exact ⟨o,e,ex.2.1⟩
  | _=>exact False.elim ty
def tBM0 (K:PySem.W.Frag) (T:String) (r:V->List V->Hp->VK->Prop) (to:TE):TE:=λ σ H Q=>to σ H λ x H1=>tyV K T x H1/\r x [] H1 Q
def tBM (K:PySem.W.Frag) (T:String) (r:V->List V->Hp->VK->Prop) (to:TE) (t:TA):TE:=λ σ H Q=>to σ H λ x H1=>tyV K T x H1/\t σ H1 λ xs H2=>r x xs H2 Q
variable {o e:Expr} {es:List Expr} {to:TE} {t:TA} {name:Str} {apos cpos:Pos} {T id:String} {r:V->List V->Hp->VK->Prop}
theorem aC7q (pa:PlainAttrs T) (slot:Slot T name id) (hty:typeOf (.builtin id)=pure (.type "method_descriptor")) (hm:MtR X id r) (ho:PE X o to)
    (hbase:attributeBase o name X.env (eval o X.env)=eval o X.env:=by rfl) (hline:(apos.endLine==cpos.line)=true:=by rfl):PE X (.Call (.Attribute o name apos) [] [] cpos) (tBM0 X.K T r to):=by
  intro pins s σ H Q I h
  refine wpAny_Call_method0_late hbase hline (thn (ho pins s σ H _ I h) λ v s1 ⟨x,H1,I1,r1,ty,q1⟩=>?_)
  obtain ⟨h1,h2⟩:=tYq I1 r1 ty
  exact ⟨T,id,pa,slot,hty,h1,h2,Calls.callWith_builtin rfl (PySem.evalArgs_none (hm pins s1 σ H1 x [] v [] Q I1 r1 .nil q1))⟩
theorem aR7q (pa:PlainAttrs T) (slot:Slot T name id) (hty:typeOf (.builtin id)=pure (.type "method_descriptor")) (hm:MtR X id r) (ho:PE X o to) (ha:PA X (e::es) t)
    (hbase:attributeBase o name X.env (eval o X.env)=eval o X.env:=by rfl)
    (hfew:((backTo cpos (starEach (e::es) X.env)).all (λ x=>!x.1)&&(backToKw cpos (keywordEach [] X.env)).all (λ x=>x.1.isSome)
     &&decide ((e::es).length+([]:List Keyword).length+(if ([]:List Keyword).isEmpty then 0 else 1) < 30))=true:=by rfl)
    (hline:(apos.endLine==cpos.line)=true:=by rfl) (hs:starEach (e::es) X.env=(false,eval e X.env)::starEach es X.env:=by rfl) (hplain:(backTo cpos (starEach es X.env)).any (·.1)=false:=by rfl) :
    PE X (.Call (.Attribute o name apos) (e::es) [] cpos) (tBM X.K T r to t):=by
  intro pins s σ H Q I h
  refine wpAny_Call_method_late hbase hfew hline rfl (thn (ho pins s σ H _ I h) λ v s1 ⟨x,H1,I1,r1,ty,q1⟩=>?_)
  obtain ⟨h1,h2⟩:=tYq I1 r1 ty
  refine ⟨T,id,pa,slot,hty,h1,h2,?_⟩
  have hA:=ha cpos pins s1 σ H1 _ I1 q1
  rw [hs] at hA ⊢
  refine Calls.callWith_builtin (by show (false||(backTo cpos (starEach es X.env)).any (·.1))=false;rw [hplain]<;>rfl) (Calls.evalArgs_plain ?_)
  exact thn hA λ us s2 ⟨vs,H2,I2,r2,q2⟩=>hm pins s2 σ H2 x vs v us Q I2 r1 r2 q2
end
def MtM (X:Cx) (id:String) (r:V->List V->Hp->VK->Prop):Prop:=
  ∀ (pins:List (Addr × Obj)) (s:Shared) (σ:St) (H:Hp) (x:V) (xs:List V) (v:Value) (us:List Value) (Q:VK),Inv X pins σ H s->RelV x v->Vals xs us->r x xs H Q →
    wpAny (model X.prog X.w) X.A (call (.builtin id) (v::us)) (EP X pins σ Q) X.xe s
theorem Vals.one:∀ {x:V} {us:List Value},Vals [x] us->∃ u,us=[u]/\RelV x u
  | _,_,.cons r .nil=>⟨_,rfl,r⟩
theorem Vals.two:∀ {x y:V} {us:List Value},Vals [x,y] us->∃ u v,us=[u,v]/\RelV x u/\RelV y v
  | _,_,_,.cons r (.cons q .nil)=>⟨_,_,rfl,r,q⟩
theorem Vals.zero:∀ {us:List Value},Vals [] us->us=[]
  | _,.nil=>rfl
theorem Vals.dropLast {xs:List V} {us:List Value} (h:Vals xs us):Vals xs.dropLast us.dropLast:=by
  induction h with
  | nil=>exact .nil
  | cons r t ih=>
    cases t with
    | nil=>exact .nil
    | cons q t'=>exact .cons r ih
theorem Vals.reverse {xs:List V} {us:List Value} (h:Vals xs us):Vals xs.reverse us.reverse:=by
  induction h with
  | nil=>exact .nil
  | cons r t ih=>rw [YH,YH];exact Vals.append ih (.cons r .nil)
theorem n4q {α:Type} (l:List α):l.eraseIdx (l.length - 1)=l.dropLast:=by
  induction l with
  | nil=>rfl
  | cons a r ih=>
    cases r with
    | nil=>rfl
    | cons b r=>
      have e:(a::b::r).length - 1=((b::r).length - 1)+1:=by
        have h1:(a::b::r).length=r.length+2:=rfl
        have h2:(b::r).length=r.length+1:=rfl
        omega
      rw [e,List.eraseIdx_cons_succ,ih]
      all_goals rfl
section
variable {X:Cx} {pins:List (Addr × Obj)} {σ:St} {H:Hp} {s:Shared} {l b:Addr} {xs ys zs:List V}
theorem Inv.lset {its its':List Value} {n:Nat} {f:Array Value->Array Value} {t':Nat} (I:Inv X pins σ H s) (hH:H l=some (.lst xs))
    (e:s.heap.get? l=some { cls:=.type "list", data:=.seq its.toArray n }) (hf:f its.toArray=its'.toArray) (hv:Vals ys its') (hz:ys.length<=sizeLine) :
    Inv X pins σ (upd H l (.lst ys)) { s with heap:=s.heap.update l (Obj.mapSeq f),toks:=t' }:=by
  have q:=PySem.IsL.update e f
  rw [hf] at q
  refine I.write (x:=l) (e:=l) (by rw [hH];exact trivial) (.inl rfl) (λ b' u hb hu=>(Heap.get?_update_other s.heap (Obj.mapSeq f) (Ne.symm hb)).trans hu) ⟨_,q⟩ ?_
  exact ⟨hz,its',_,hv,q⟩
theorem Inv.lnew {its:List Value} {t':Nat} (I:Inv X pins σ H s) (hv:Vals ys its) (hz:ys.length<=sizeLine) :
    Inv X pins σ (upd H s.heap.objs.size (.lst ys)) { s with heap:=s.heap.push { cls:=.type "list", data:=.seq its.toArray },toks:=t' }:=
  I.laid (λ _ _ q=>Heap.get?_push_of_some _ q) (Nat.le_refl _) ⟨hz,its,0,hv,Heap.get?_push_size _ rfl⟩
theorem Inv.fresh (I:Inv X pins σ H s):H s.heap.objs.size=none:=I.hok.fresh (Nat.le_refl _)
theorem Inv.lstM (I:Inv X pins σ H s) (hH:H l=some (.lst xs)):xs.length<=sizeLine/\∃ (its:List Value) (n:Nat),Vals xs its/\xs.length=its.length/\s.heap.get? l=some { cls:=.type "list", data:=.seq its.toArray n }:=by
  obtain ⟨z,its,n,r,e⟩:=I.hok l _ hH
  exact ⟨z,its,n,r,r.length,e⟩
theorem lRq {n:Nat} (h:n<=sizeLine):Builtin.List.listTooLong n=false:=by
  unfold Builtin.List.listTooLong
  exact decide_eq_false (by omega)
end
section
variable {X:Cx}
def x4q:V->List V->Hp->VK->Prop:=λ x vs H Q=>∃ l xs y,x=.ref l/\vs=[y]/\H l=some (.lst xs)/\xs.length < sizeLine/\Q .non (upd H l (.lst (xs++[y])))
theorem gKq:MtM X "list.append" x4q:=by
  intro pins s σ H x vs v us Q I rx rv h
  obtain ⟨l,xs,y,rfl,rfl,hH,hz,q⟩:=h
  cases rx
  obtain ⟨u,rfl,ru⟩:=rv.one
  obtain ⟨z,its,n,r,hl,e⟩:=I.lstM hH
  refine call_meets F.slot_list_append ⟨_,e,rfl⟩ F.entry_list_append (F.args_list_append_2 _ _) (PySem.list_append l its.toArray n u (by rw [Ye];omega)) ⟨e,?_⟩
  refine ⟨.non,_,I.lset (its':=its++[u]) hH e (by simp) (r.append (.cons ru .nil)) ?_,rfl,q⟩
  rw [Yg,YV]
  omega
def xOq:V->List V->Hp->VK->Prop:=λ x vs H Q=>∃ l b xs zs,x=.ref l/\vs=[.ref b]/\H l=some (.lst xs)/\H b=some (.lst zs)/\xs.length+zs.length<=sizeLine/\Q .non (upd H l (.lst (xs++zs)))
theorem oYq:MtM X "list.extend" xOq:=by
  intro pins s σ H x vs v us Q I rx rv h
  obtain ⟨l,b,xs,zs,rfl,rfl,hH,hB,hz,q⟩:=h
  cases rx
  obtain ⟨u,rfl,ru⟩:=rv.one
  cases ru
  obtain ⟨z,its,n,r,hl,e⟩:=I.lstM hH
  obtain ⟨z2,its2,n2,r2,hl2,e2⟩:=I.lstM hB
  have hsz:its.toArray.size+its2.toArray.size<=sizeLine:=by rw [Ye,Ye];omega
  have hlong:¬ (!its.toArray.isEmpty&&Builtin.List.listTooLong (its.toArray.size+its2.toArray.size))=true:=by
    rw [lRq hsz,Bool.and_false]
    exact Bool.false_ne_true
  refine call_meets F.slot_list_extend ⟨_,e,rfl⟩ F.entry_list_extend (F.args_list_extend_2 _ _)
    (AutoSeq1.list_extend_list_list_0 l its.toArray n b its2.toArray n2 hlong (by rw [Ye];omega) (by omega)) ⟨e,e2,?_⟩
  refine ⟨.non,_,I.lset (its':=its++its2) hH e (by simp) (r.append r2) ?_,rfl,q⟩
  rw [Yg]
  omega
def rPop:V->List V->Hp->VK->Prop:=λ x vs H Q=>∃ l xs y,x=.ref l/\vs=[]/\H l=some (.lst xs)/\xs[xs.length - 1]?=some y/\Q y (upd H l (.lst xs.dropLast))
theorem aH9q:MtM X "list.pop" rPop:=by
  intro pins s σ H x vs v us Q I rx rv h
  obtain ⟨l,xs,y,rfl,rfl,hH,hy,q⟩:=h
  cases rx
  have hus:=rv.zero
  subst hus
  obtain ⟨z,its,n,r,hl,e⟩:=I.lstM hH
  obtain ⟨u,hu,ru⟩:=r.get hy
  have hy':its.toArray[its.toArray.size - 1]?=some u:=by
    show its.toArray[its.length - 1]?=some u
    rw [<- Array.getElem?_toList,<- hl]
    exact hu
  refine call_meets F.slot_list_pop ⟨_,e,rfl⟩ F.entry_list_pop (F.args_list_pop_1 _) (MeetsSeq.list_pop_last l its.toArray n u hy' (by rw [Ye];omega)) ⟨e,?_⟩
  refine ⟨y,_,I.lset (its':=its.dropLast) hH e ?_ r.dropLast ?_,ru,q⟩
  . show its.toArray.eraseIdxIfInBounds (its.toArray.size - 1)=its.dropLast.toArray
    rw [Ye,List.eraseIdxIfInBounds_toArray,n4q]
  . rw [List.length_dropLast]
    omega
def rCat:R2:=λ x y H Q=>∃ l b xs zs,x=.ref l/\y=.ref b/\H l=some (.lst xs)/\H b=some (.lst zs)/\xs.length+zs.length<=sizeLine/\∀ p,H p=none->Q (.ref p) (upd H p (.lst (xs++zs)))
theorem aD9q:OpR X (binaryOp .Add) rCat:=by
  intro pins s σ H x y v u Q I rx ry h
  obtain ⟨l,b,xs,zs,rfl,rfl,hH,hB,hz,q⟩:=h
  cases rx
  cases ry
  obtain ⟨z,its,n,r,hl,e⟩:=I.lstM hH
  obtain ⟨z2,its2,n2,r2,hl2,e2⟩:=I.lstM hB
  refine PySem.P.add_list e e2 ?_ (by rw [Ye,Ye];omega)
  have ea:its.toArray++its2.toArray=(its++its2).toArray:=by simp
  rw [ea]
  exact ⟨.ref _,_,I.lnew (t':=s.toks) (r.append r2) (by rw [Yg];omega),rfl,q _ I.fresh⟩
end
section
variable {prog:Program} {w:World} {A:Around} {E:Value->Shared->Prop} {s:Shared}
end
section
variable {X:Cx}
end
end L2
namespace Att
open PySem PySem.W PySem.Calls PyProof.Rows
theorem gMq {P:Params} {h:Heap}:∀ (ns:List Int) (vs:List Value),WellAll P h vs (ns.map WData.int)->IntsAre vs ns:=by
  intro ns
  induction ns with
  | nil=>
    intro vs w
    rw [YF] at w
    cases w
    exact .nil
  | cons n ns ih=>
    intro vs w
    rw [Yh] at w
    cases w with
    | cons a b=>
      cases a
      exact .cons _ _ (ih _ b)
theorem qTq {l:OpenLaw} {n:Nat} (hn:l.most=some n) {P:Params} {h:Heap} {args:List WData} {vals:List Value}
    (hpre:l.row.toRowW.claim.pre args=true) (hwl:WellAll P h vals args) :
    ∃ a vs ns,vals=[Value.ref a]/\args=[WData.list (ns.map WData.int)]/\h.get? a=some { cls:=.type "list", data:=.seq vs.toArray }/\IntsAre vs ns/\ns.length<=n:=by
  have hsh:WShape.hasAll [] args [.list .int]=true:=(pre_splitW hpre).1
  have hc:l.pre.holds [] { args:=args }=true:=(pre_splitW hpre).2
  obtain ⟨d,r,rfl,h1,h2⟩:=hasAllW_cons hsh
  obtain rfl:=hasAllW_nil h2
  obtain ⟨xs,rfl,h3⟩:=hasW_list h1
  obtain ⟨ns,rfl⟩:=items_int h3
  have hlen:ns.length<=n:=by
    unfold OpenLaw.pre at hc
    have h4:(WTm.not (.lt (.lit (.int (n:Int))) (.len (.arg 0)))).holds [] { args:=[.list (ns.map .int)] }=true:=by
      have h4:=(holds_andW hc).1
      rw [hn] at h4
      exact h4
    have h5:=condW_of h4 (w_not (w_lt w_lit (w_len_list (w_arg rfl))))
    rw [Yf] at h5
    refine Nat.le_of_not_lt λ q=>?_
    have q':(n:Int) < ((ns.length:Nat):Int):=by omega
    first
      | (rw [decide_eq_true q'] at h5;exact absurd h5 (by decide))
      | (simp at h5;omega)
  cases hwl with
  | cons w1 w2=>
    cases w2
    cases w1 with
    | list ho hall=>exact ⟨_,_,ns,rfl,rfl,ho,gMq ns _ hall,hlen⟩
theorem qOq (l:OpenLaw) (args:List WData):l.row.toRowW.claim.post args (.bool true) args=true:=
  postW_of (r:=l.row.toRowW) (X:=(true==true))
    (show WShape.has [] (.bool true) .bool=true by first | rfl | decide | simp [WShape.has,WShape.arms,WShape.armsAll])
    (show (WTm.eq .res (.lit (.bool true))).value [] { args:=args,res:=some (.bool true),after:=args }=some (.bool (true==true)) from w_eq_bool (w_res rfl) w_lit) rfl
theorem attach_call {l:OpenLaw} {n:Nat} {q:Program} {loose:List Str} {XP:(Str->Option Value)->Heap->Prop} {YP:World->Heap->Prop} {d:DefRec}
    (hn:l.most=some n) (hdf:d.params.defaults=[])
    (call:∀ (w:World) (s₀ s₁:Shared) (mg mb:Str->Option Value) (fa:Addr) (o:Obj) (pm cd doc:Value) (a:Addr) (vs:List Value) (ns:List Int),
      Ground q loose [] XP w s₀ mg mb s₁.heap->YP w s₁.heap →
      s₁.heap.get? fa=some o->o.data=.func (docDef d.name d.params d.body d.scope pm cd doc)->s₁.heap.CodeRec cd d.name->mg d.name=some (.ref fa) →
      s₁.heap.get? a=some { cls:=.type "list", data:=.seq vs.toArray }->IntsAre vs ns->ns.length<=n->s₁.gens=#[] →
      codeAny (model l.prog w) callerA (.call (.ref fa) ⟨[.ref a],[]⟩) (λ r s'=>r=.ok (.ret (.bool true))/\OldK s₁.heap s'.heap/\s'.os=s₁.os/\AllBare s'.gens) s₁) :
    WalkO q loose XP YP l.row.toRowW d [] (λ f vs=>PySem.call f vs):=by
  intro w s₀ s₁ mg mb G Y fa o pm cd doc dV kV ho hd hcd hD hmg hg args vals as hpre hlay hrd hwl hlo
  obtain rfl:dV=.none:=Dflts.none hD hdf
  obtain rfl:kV=.none:=Dflts.noKw hD
  obtain ⟨a,vs,ns,rfl,rfl,hobj,hints,hlen⟩:=qTq hn hpre hwl
  refine enter_call (codeAny_mono (call w s₀ s₁ mg mb fa o pm cd doc a vs ns G Y ho (fd_plain hd) hcd hmg hobj hints hlen hg) λ r s' hq=>?_)
  obtain ⟨rfl,h2,h3,h4⟩:=hq
  exact ⟨.inl ⟨.bool true,.bool true,[],rfl,λ _=>rfl,.bool true,qOq l _,λ _=>⟨YN.nil,λ _ hm=>(nomatch hm)⟩⟩,h2,h3,h4⟩
section
variable {prog:Program} {w:World} {A:Around} {E:Value->Shared->Prop} {s:Shared} {K:Frag}
end
end Att
namespace L2
open PySem PySem.Spec PyProof.Rows
theorem k9q:∀ {vs:List Value} {ns:List Int},IntsAre vs ns->Vals (ns.map V.int) vs
  | _,_,.nil=>.nil
  | _,_,.cons n t h=>.cons ⟨t,rfl⟩ (k9q h)
def Only (H:Hp):Prop:=∀ b,H b=none\/∃ o xs,H b=some (.frz o (.lst xs))
theorem sTq {P:Program} {w:World} {K:PySem.W.Frag} {mg mb:Str->Option Value} {CX:CXT} {k:Nat} {fa a:Addr} {fd:FuncData} {x:Str} {sp:Sp} {s₁:Shared} {vs:List Value} {ns:List Int}
    (KX:K.In s₁.heap) (hns:s₁.heap.Ns mainGlobals mg) (hb:s₁.heap.Ns builtinsNs mb) (hbb:∀ x:Str,x≠"__name__"->mb x=bootBuiltins x) (hlim:s₁.heap.NoLimit) (hg:s₁.gens=#[])
    (ha:s₁.heap.get? a=some { cls:=.type "list", data:=.seq vs.toArray }) (hi:IntsAre vs ns) (hl:ns.length<=sizeLine) (hr:Room k callerA)
    (F:∀ base:Heap,K.In base->base.Ns mainGlobals mg->FnOk P w K mg base CX k fa fd [x] sp) (hbind:∀ (s:Shared) (u:Value),BindsTo s fd ⟨[u],[]⟩ [(x,u)])
    (hsp:∀ H:Hp,Only H->SqL K H a (ns.map V.int)->sp [.ref a] H (λ v _=>v=.bl true) λ _ _ _=>False)
    (hCX:∀ H e s',CX [] H s₁ (λ _ _ _=>False) e s'->False) :
    codeAny (model P w) callerA (.call (.ref fa) ⟨[.ref a],[]⟩) (λ r s'=>r=.ok (.ret (.bool true))/\OldK s₁.heap s'.heap/\s'.os=s₁.os/\AllBare s'.gens) s₁:=by
  have rv:=k9q hi
  have lenV:=hi.length
  have core:∀ H:Hp,Only H->SqL K H a (ns.map V.int)->HOk P w H s₁.heap->(∀ b,H b≠none->b=a)->(H a≠none->K.lookup a=none) →
      codeAny (model P w) callerA (.call (.ref fa) ⟨[.ref a],[]⟩) (λ r s'=>r=.ok (.ret (.bool true))/\OldK s₁.heap s'.heap/\s'.os=s₁.os/\AllBare s'.gens) s₁:=by
    intro H hO hS hok hA hK
    have base_of:∀ {b:Addr} {o:Obj},s₁.heap.get? b=some o->H b=none->(sHq s₁.heap H).get? b=some o:=λ e n=>t9q e n
    have noA:∀ {b:Addr} {o:Obj} {es:Array DictEntry} {ep:Nat},s₁.heap.get? b=some o->o.data=.dict es ep->H b=none:=λ{b o es ep} e d=>by
      cases q:H b with
      | none=>rfl
      | some u=>
        have e':b=a:=hA b (by rw [q];simp)
        subst e'
        rw [ha] at e;cases e
        have d':Data.seq vs.toArray _=Data.dict es ep:=d
        cases d'
    have nsK:∀ {b:Addr} {m:Str->Option Value},s₁.heap.Ns b m->(sHq s₁.heap H).Ns b m:=λ{b m} ⟨o,es,ep,e,d,r⟩=>⟨o,es,ep,base_of e (noA e d),d,r⟩
    have hKb:K.In (sHq s₁.heap H):=λ b o e=>base_of (KX b o e) (by
      cases q:H b with
      | none=>rfl
      | some u=>
        have e':b=a:=hA b (by rw [q];simp)
        subst e'
        rw [hK (by rw [q];simp)] at e;cases e)
    have hM:Mod K mg (sHq s₁.heap H):=⟨hKb,nsK hns,⟨mb,nsK hb,hbb⟩,let ⟨mc,h1,h2⟩:=hlim;⟨mc,nsK h1,h2⟩⟩
    have e0:Env0 P w K mg (sHq s₁.heap H) callerA [] s₁ H:=⟨rfl,hM,λ b o e=>xKq e,Nat.le_of_eq (pHq _ _),trivial,λ b hb=>absurd (show b∈([]:List Addr) from hb) (by simp),hok,.of_eq hg⟩
    refine codeAny_mono ((F _ hKb (nsK hns)).run callerA [] s₁ H ⟨[.ref a],[]⟩ [.ref a] [.ref a] _ _ hr e0 (hbind s₁ (.ref a)) (.cons rfl .nil) (hsp H hO hS)) λ r s' h=>?_
    cases r with
    | error e=>exact (hCX H e s' h).elim
    | ok fl=>
      cases fl with
      | next=>exact False.elim h
      | brk=>exact False.elim h
      | cont=>exact False.elim h
      | ret u=>
        obtain ⟨v,H',os,bare,un,hok',r',q⟩:=h
        have q':v=.bl true:=q
        subst q'
        obtain rfl:u=Value.bool true:=r'
        refine ⟨rfl,OldK.of_keep λ b o e=>?_,os,bare⟩
        cases q:H b with
        | none=>exact un.keep b o e q (by intro z;exact absurd (show b∈([]:List Addr) from z) (by simp)) (by simp)
        | some u=>
          rcases hO b with z | ⟨ob,xs,z⟩
          . rw [q] at z;cases z
          . have z2:=un.frzs b ob _ z
            obtain ⟨e1,_⟩:=hok b _ z
            obtain ⟨e2,_⟩:=hok' b _ z2
            rw [e] at e1;cases e1
            exact e2
  cases hk:K.lookup a with
  | some o=>
    have e:=KX a o hk
    rw [ha] at e
    cases e
    refine core (λ _=>none) (λ _=>.inl rfl) (.inr ⟨_,vs.toArray,_,hk,rfl,rfl,rfl,by rw [Ye,lenV];exact hl,by simpa using rv⟩) (λ b u z=>by have z':(none:Option HO)=some u:=z;cases z') (λ b z=>absurd rfl z) λ z=>absurd rfl z
  | none=>
    refine core (λ b=>if b=a then some (.frz { cls:=.type "list", data:=.seq vs.toArray } (.lst (ns.map V.int))) else none) (λ b=>?_) (.inl (.inr ⟨{ cls:=.type "list", data:=.seq vs.toArray },if_pos rfl⟩)) (λ b u z=>?_) (λ b z=>?_) λ _=>hk
    . by_cases hb:b=a
      . exact .inr ⟨_,_,if_pos hb⟩
      . exact .inl (if_neg hb)
    . by_cases hb:b=a
      . have z':=(if_pos hb).symm.trans z
        cases z'
        subst hb
        exact ⟨ha,by rw [Yf];exact hl,vs,_,rv,ha⟩
      . have z':=(if_neg hb).symm.trans z
        cases z'
    . by_cases hb:b=a
      . exact hb
      . exact absurd (if_neg hb) z
theorem xIq {l:PySem.W.OpenLaw} {n k:Nat} {q:Program} {loose:List Str} {XP:(Str->Option Value)->Heap->Prop} {YP:World->Heap->Prop} {d:DefRec} {K:Params->PySem.W.Frag} {CX:World->CXT} {sp:World->Sp} {x:Str}
    (hn:l.most=some n) (hn2:n<=sizeLine) (hdf:d.params.defaults=[]) (hr:Room k callerA)
    (hY:∀ (w:World) (h:Heap),YP w h->(K w.params).In h)
    (F:∀ (w:World) (mg:Str->Option Value) (fa:Addr) (h:Heap),(K w.params).In h->h.Ns mainGlobals mg->mg d.name=some (.ref fa) →
      ∃ fd:FuncData,(∀ (s:Shared) (u:Value),BindsTo s fd ⟨[u],[]⟩ [(x,u)]) ∧
        ∀ base:Heap,(K w.params).In base->base.Ns mainGlobals mg->FnOk l.prog w (K w.params) mg base (CX w) k fa fd [x] (sp w))
    (hsp:∀ (w:World) (H:Hp) (a:Addr) (ns:List Int),ns.length<=n->Only H->SqL (K w.params) H a (ns.map V.int)->sp w [.ref a] H (λ v _=>v=.bl true) λ _ _ _=>False)
    (hCX:∀ (w:World) (H:Hp) (s:Shared) (e:Value) (s':Shared),CX w [] H s (λ _ _ _=>False) e s'->False) :
    PySem.W.WalkO q loose XP YP l.row.toRowW d [] (λ f vs=>PySem.call f vs):=by
  refine Att.attach_call hn hdf λ w s₀ s₁ mg mb fa o pm cd doc a vs ns G Y ho hd hcd hmg hobj hints hlen hg=>?_
  have KX:=hY w _ Y
  obtain ⟨fd,hb,hF⟩:=F w mg fa _ KX G.T.g hmg
  exact sTq KX G.T.g G.T.b G.T.builtins G.T.nolimit hg hobj hints (Nat.le_trans hlen hn2) hr hF hb (λ H hO hS=>hsp w H a ns hlen hO hS) λ H e s'=>hCX w H s₁ e s'
def cUq (s:Stmt):Arguments:=match s with
  | .FunctionDef _ a _ _ _ _ _ _ _ _=>a
  | _=>{ posonlyargs:=[],args:=[],vararg:=none,kwonlyargs:=[],kw_defaults:=[],kwarg:=none,defaults:=[] }
def c2q (s:Stmt):List Stmt:=match s with
  | .FunctionDef _ _ b _ _ _ _ _ _ _=>b
  | _=>[]
def aDq (s:Stmt):Scope:=match s with
  | .FunctionDef _ _ _ _ _ _ sc _ _ _=>sc
  | _=>{ kind:=.function,names:=[],isGenerator:=false,isCoroutine:=false }
abbrev CX0:CXT:=λ _ _ _ _ _ _=>False
abbrev E0:XK:=λ _ _ _=>False
theorem zPq {X:Cx}:qZq CX0 X E0:=λ _ _ _ _ _ _ _ h=>h.elim
structure Fun (K:PySem.W.Frag) (x qual:Str) (st:Stmt) (f:Addr) (fd:FuncData):Prop where
  ex:∃ (oc:Value) (od:Option Addr) (kV doc pm:Value) (an:Option Addr) (cdv ct:Value) (osl:Array (Option Value)),
    fd=PySem.W.fnOf x qual (cUq st) (c2q st) (aDq st) .none kV doc pm an cdv ct/\K.lookup f=some ⟨oc,od,.func fd,osl⟩/\PySem.W.codeIn K cdv qual=true
  kp:PySem.W.keepIn K (.ref f)=true
section
variable {P:Program} {w:World} {K:PySem.W.Frag} {mg:Str->Option Value} {base:Heap}
theorem Fun.ok {x qual:Str} {st:Stmt} {f:Addr} {fd:FuncData} {N ps:List Str} {k:Nat} {sp:Sp} (F:Fun K x qual st f fd) (S:FnScope N ps (aDq st)) (len:∀ vs H Q E,sp vs H Q E->vs.length=ps.length)
    (hbody:∀ (cdv:Value) (A:Around) (outer:List Env) (s:Shared) (H:Hp) (vs:List V) (Q:VK) (E:XK),Room k (A.deeper (envOfC qual (aDq st) s.heap.objs.size f cdv))->sp vs H Q E →
      ∃ t,PSs (tVq CX0 P w K mg base N qual (aDq st) f cdv A outer s H E).nox (c2q st) t/\t { nx:=λ _ H'=>Q .non H',rt:=Q } (eVq N vs) H):FnOk P w K mg base CX0 (k+1) f fd ps sp:=by
  obtain ⟨oc,od,kV,doc,pm,an,cdv,ct,osl,rfl,lk,hcd⟩:=F.ex
  refine aW6q lk hcd S len λ A outer s H vs Q E hr hsp=>?_
  obtain ⟨t,h,q⟩:=hbody cdv A outer s H vs Q E hr hsp
  exact ⟨t,h.nox,q⟩
theorem Fun.binds {x qual:Str} {st:Stmt} {f:Addr} {fd:FuncData} {ps:List Str} (F:Fun K x qual st f fd)
    (h:∀ (kV doc pm:Value) (an:Option Addr) (cdv ct:Value) (us:List Value),us.length=ps.length->bindArgs (PySem.W.fnOf x qual (cUq st) (c2q st) (aDq st) .none kV doc pm an cdv ct) ⟨us,[]⟩=pure (ps.zip us)):Binds K fd ps []:=by
  obtain ⟨oc,od,kV,doc,pm,an,cdv,ct,osl,rfl,lk,hcd⟩:=F.ex
  exact .all (h kV doc pm an cdv ct)
theorem aA6q {x qual:Str} {st:Stmt} {f:Addr} {oc:Value} {od an:Option Addr} {osl:Array (Option Value)} {kV doc pm cdv ct:Value} (l:K.lookup f=some ⟨oc,od,.func (PySem.W.fnOf x qual (cUq st) (c2q st) (aDq st) .none kV doc pm an cdv ct),osl⟩)
 (c:PySem.W.codeIn K cdv qual=true) (k:PySem.W.keepIn K (.ref f)=true):Fun K x qual st f (PySem.W.fnOf x qual (cUq st) (c2q st) (aDq st) .none kV doc pm an cdv ct):=⟨⟨oc,od,kV,doc,pm,an,cdv,ct,osl,rfl,l,c⟩,k⟩
end
section
variable {X:Cx}
end
def Same (H H':Hp):Prop:=∀ b o,H b=some o->H' b=some o
theorem Same.refl (H:Hp):Same H H:=λ _ _ h=>h
def d0q (cells:List (Str × Addr)):List (Str × NameKind)->List (Str × Addr)->List (Str × Addr)
  | [],acc=>acc
  | (n,k)::r,acc=>d0q cells r (if k=.free then (n,(cells.lookup n).getD 0)::acc else acc)
theorem h5q {α β:Type} {f:α->β->Sem (ForInStep β)} (g:β->α->β):∀ (l:List α) (c:β),(∀ x∈l,∀ c,f x c=pure (.yield (g c x)))->forIn l c f=pure (l.foldl g c)
  | [],_,_=>rfl
  | x::l,c,h=>by
    rw [List.forIn_cons,h x Ya,pure_bind]
    exact h5q g l _ λ y hy=>h y (Yc _ hy)
theorem hJq (cells:List (Str × Addr)):∀ (names:List (Str × NameKind)) (acc:List (Str × Addr)),
    names.foldl (λ c y=>if y.2=.free then (y.1,(cells.lookup y.1).getD 0)::c else c) acc=d0q cells names acc
  | [],_=>rfl
  | (n,k)::r,acc=>by
    rw [List.foldl_cons,d0q]
    exact hJq cells r _
theorem oVq {scope:Scope} {env:Env} (h:∀ y∈scope.names,y.2=.free->∃ c,env.cells.lookup y.1=some c):closureFor scope env=pure (d0q env.cells scope.names []):=by
  rw [<- hJq]
  simp only [closureFor]
  rw [h5q (λ c y=>if y.2=.free then (y.1,(env.cells.lookup y.1).getD 0)::c else c) scope.names [] λ x hx c=>?_]
  . rfl
  . obtain ⟨n,k⟩:=x
    by_cases hk:k=.free
    . subst hk
      obtain ⟨a,e⟩:=h _ hx rfl
      have e':env.cells.lookup n=some a:=e
      simp [cellOf,e']
    . have hb:(k==NameKind.free)=false:=by simpa using hk
      simp [hb,hk]
theorem m3q {cells:List (Str × Addr)}:∀ (names:List (Str × NameKind)) (acc:List (Str × Addr)),(∀ y∈names,y.2=.free->∃ c,cells.lookup y.1=some c)->(∀ x c,acc.lookup x=some c->cells.lookup x=some c) →
    ∀ x c,(d0q cells names acc).lookup x=some c->cells.lookup x=some c
  | [],_,_,ha=>ha
  | (n,k)::r,acc,h,ha=>by
    rw [d0q]
    refine m3q r _ (λ y hy=>h y (Yc _ hy)) λ x c e=>?_
    by_cases hk:k=.free
    . rw [if_pos hk] at e
      obtain ⟨a,ea⟩:=h (n,k) Ya hk
      have ea':cells.lookup n=some a:=ea
      rw [Y9] at e
      cases hx:x==n with
      | true=>
        rw [hx] at e
        have e2:some ((cells.lookup n).getD 0)=some c:=e
        rw [ea'] at e2
        have e3:a=c:=Option.some.inj e2
        rw [eq_of_beq hx,ea',e3]
      | false=>
        rw [hx] at e
        exact ha x c e
    . rw [if_neg hk] at e
      exact ha x c e
theorem jMq {cells:List (Str × Addr)} {x:Str}:∀ (names:List (Str × NameKind)) (acc:List (Str × Addr)),(acc.lookup x).isSome=true->((d0q cells names acc).lookup x).isSome=true
  | [],_,h=>h
  | (n,k)::r,acc,h=>by
    rw [d0q]
    refine jMq r _ ?_
    by_cases hk:k=.free
    . rw [if_pos hk,Y9]
      cases hx:x==n with
      | true=>rfl
      | false=>exact h
    . rw [if_neg hk];exact h
theorem g5q {cells:List (Str × Addr)} {x:Str}:∀ (names:List (Str × NameKind)) (acc:List (Str × Addr)),(x,NameKind.free)∈names->((d0q cells names acc).lookup x).isSome=true
  | [],_,h=>nomatch h
  | (n,k)::r,acc,h=>by
    rw [d0q]
    rcases Yd.mp h with e | h
    . cases e
      refine jMq r _ ?_
      rw [if_pos rfl,Y9,beq_self_eq_true];rfl
    . exact g5q r _ h
theorem hFq {g:Str->NameKind->NameKind} {x:Str}:∀ names:List (Str × NameKind),(names.map λ y=>(y.1,g y.1 y.2)).lookup x=(names.lookup x).map (g x)
  | []=>rfl
  | (n,k)::r=>by
    rw [Yh,Y9,Y9]
    cases hx:x==n with
    | true=>
      have e:=eq_of_beq hx
      subst e;rfl
    | false=>exact hFq r
theorem hWq (scope:Scope) (env:Env):(relabel scope env).names=scope.names.map λ y=>(y.1,if (y.2==.free&&env.scope.kind==.function&&env.kindOf y.1==some .cell)=true then NameKind.cell else y.2):=by
  unfold relabel
  refine List.map_congr_left λ y _=>?_
  obtain ⟨n,k⟩:=y
  show (if (k==.free&&env.scope.kind==.function&&env.kindOf n==some .cell)=true then (n,NameKind.cell) else (n,k))=_
  split<;>simp_all
theorem f5q (scope:Scope) (env:Env) (x:Str):(relabel scope env).names.lookup x=(scope.names.lookup x).map λ k=>if (k==.free&&env.scope.kind==.function&&env.kindOf x==some .cell)=true then NameKind.cell else k:=by
  rw [hWq]
  exact hFq (g:=λ n k=>if (k==.free&&env.scope.kind==.function&&env.kindOf n==some .cell)=true then NameKind.cell else k) scope.names
def b9q (X:Cx) (scope:Scope) (N':List Str) (C:Addr) (ex:List Addr) (s:Shared) (H:Hp):Cx:=
  { X with N:=N',s₀:=s,H₀:=H,env:=compEnvC scope (d0q X.env.cells scope.names []) C X.env,outer:=X.stack,stack:=X.stack,ex:=ex,fn:=λ _=>false,pn:=[],xe:=λ _ _=>False }
def eLq (nt:Nat) (cap:List Nat) (σ:St):St:=Yp nt none++cap.map λ i=>(σ[i]?).join
structure CompOk (X:Cx) (scope:Scope) (N':List Str) (nt:Nat) (cap:List Nat):Prop where
  kind:scope.kind=.function
  nocell:∀ y∈scope.names,y.2≠.cell
  locs:∀ y∈scope.names,y.2=.local->scope.names.lookup y.1=some .local
  frees:∀ y∈scope.names,y.2=.free->X.env.scope.names.lookup y.1=some .cell\/X.env.scope.names.lookup y.1=some .free
  len:N'.length=nt+cap.length
  caps:∀ (j i:Nat) (x:Str),cap[j]?=some i->N'[nt+j]?=some x->X.N[i]?=some x/\scope.names.lookup x=some .free
section
variable {X:Cx} {scope:Scope} {N':List Str} {nt:Nat} {cap:List Nat} {pins:List (Addr × Obj)} {σ:St} {H:Hp} {s:Shared}
theorem CompOk.has (c:CompOk X scope N' nt cap) (ok:X.Ok):∀ y∈scope.names,y.2=.free->∃ a,X.env.cells.lookup y.1=some a:=λ y hy hk=>ok.has y.1 (c.frees y hy hk)
theorem CompOk.cells (c:CompOk X scope N' nt cap) (ok:X.Ok) {x:Str} {a:Addr} (e:(d0q X.env.cells scope.names []).lookup x=some a):X.env.cells.lookup x=some a:=
  m3q scope.names [] (c.has ok) (λ _ _ z=>by simp at z) x a e
theorem CompOk.free_of (c:CompOk X scope N' nt cap) {x:Str} (h:(relabel scope X.env).names.lookup x=some .cell\/(relabel scope X.env).names.lookup x=some .free):(x,NameKind.free)∈scope.names:=by
  rw [f5q] at h
  cases q:scope.names.lookup x with
  | none=>rw [q] at h;simp at h
  | some k=>
    have hm:=PySem.mem_of_lookup q
    have nc:k≠.cell:=c.nocell _ hm
    rw [q] at h
    by_cases hk:k=.free
    . subst hk;exact hm
    . have hb:(k==NameKind.free)=false:=by simpa using hk
      simp only [Option.map_some,hb,Bool.false_and,Bool.false_eq_true,if_false,Option.some.injEq] at h
      rcases h with h | h
      . exact absurd h nc
      . exact absurd h hk
theorem Inv.comp (I:Inv X pins σ H s) (c:CompOk X scope N' nt cap) {fp:List Addr} (hf:∀ b∈fp,kDq X pins H b) (hfs:∀ b∈fp,b < s.heap.objs.size) {h':Heap} {m:Str->Option Value} {t':Nat}
    (hk:∀ b o,s.heap.get? b=some o->h'.get? b=some o) (hn:h'.Ns s.heap.objs.size m) :
    Inv (b9q X scope N' s.heap.objs.size fp s H) [] (eLq nt cap σ) H { s with heap:=h',toks:=t' }:=by
  have cl:=λ{x:Str} {a:Addr} (e:(d0q X.env.cells scope.names []).lookup x=some a)=>c.cells I.ok e
  have cellLt:∀ x a,X.env.cells.lookup x=some a->a < s.heap.objs.size:=λ x a e=>by
    obtain ⟨v,q⟩:=I.cell x a e
    exact q.lt
  refine ⟨⟨I.ok.mod,c.kind,I.ok.glob,I.ok.blt,Nat.le_refl _,λ x y a e1 e2=>I.ok.inj x y a (cl e1) (cl e2),λ x hx=>?_,λ x a hx=>absurd hx Bool.false_ne_true,I.ok.hd,I.ok.frames,.inl rfl,λ b hb=>⟨?_,λ x a e=>?_⟩,
      λ b o e=>I.bs b o e,Nat.le_trans I.ok.bsz I.sz,λ b o e hb=>?_,λ b hb hbf=>?_,I.stack,λ b hb=>I.stkFree b hb⟩,
    rfl,I.bare,Un.kept hk,⟨m,hn,λ i x v e1 e2 e3=>?_⟩,λ x a e=>?_,I.hok.fresh (Nat.le_refl _),λ x a e=>I.freeC x a (cl e),λ p hp=>absurd (show p∈([]:List (Addr × Obj)) from hp) (by simp),I.hok.kept hk,?_⟩
  . exact Option.isSome_iff_exists.mp (g5q scope.names [] (c.free_of hx))
  . exact Nat.ne_of_lt (hfs b hb)
  . exact (hf b hb).2.2.2.2.1 x a (cl e)
  . obtain ⟨f0,f1,f2,f3,_⟩:=hf b hb
    rcases f3 with z | z
    . exact I.ok.noex b o e z
    . exact absurd (Nat.lt_of_lt_of_le (Heap.lt_size e) (Nat.le_trans I.ok.bsz z)) (Nat.lt_irrefl _)
  . obtain ⟨f0,f1,f2,_⟩:=hf b hb
    rcases Yd.mp (I.stkSub b hbf) with z | z
    . exact f1 z
    . exact f2 z
  .
    have e1':N'[i]?=some x:=e1
    have hi:nt<=i:=by
      refine Nat.le_of_not_lt λ q=>?_
      unfold eLq at e2
      rw [YT (by simpa using q),Ze,if_pos q] at e2
      cases e2
    obtain ⟨j,rfl⟩:=Nat.exists_eq_add_of_le hi
    unfold eLq at e2
    rw [Y2 (by simp),Zf,Nat.add_sub_cancel_left,Yw] at e2
    cases q:cap[j]? with
    | none=>rw [q] at e2;cases e2
    | some k=>
      rw [q] at e2
      have e2':(σ[k]?).join=some v:=Option.some.inj e2
      have e4:σ[k]?=some (some v):=by
        cases z:σ[k]? with
        | none=>rw [z] at e2';cases e2'
        | some w'=>rw [z] at e2';exact congrArg some e2'
      obtain ⟨n1,n2⟩:=c.caps j k x q e1'
      have hmem:=PySem.mem_of_lookup n2
      have hkind:=c.frees _ hmem rfl
      obtain ⟨m0,_,hl⟩:=I.loc
      obtain ⟨u,r,lk⟩:=hl k x v n1 e4 (.inr hkind)
      refine ⟨u,r,.inr ⟨?_,?_⟩⟩
      . show (relabel scope X.env).names.lookup x=some .cell\/(relabel scope X.env).names.lookup x=some .free
        rw [f5q,n2]
        by_cases z:((NameKind.free==.free&&X.env.scope.kind==.function&&X.env.kindOf x==some .cell)=true)
        . exact .inl (by rw [Option.map_some,if_pos z])
        . exact .inr (by rw [Option.map_some,if_neg z])
      . rcases lk with ⟨k1,_⟩ | ⟨_,a,e,z⟩
        . have k1':X.env.scope.names.lookup x=some .local:=k1
          rcases hkind with y | y<;>(rw [k1'] at y;cases y)
        . obtain ⟨a',ea⟩:=Option.isSome_iff_exists.mp (g5q (cells:=X.env.cells) scope.names [] hmem)
          have e':=cl ea
          rw [e] at e';cases e'
          obtain ⟨o,ho,hd⟩:=z
          exact ⟨a,ea,o,hk _ _ ho,hd⟩
  . obtain ⟨v,o,ho,hd⟩:=I.cell x a (cl e)
    exact ⟨v,o,hk _ _ ho,hd⟩
  . show (eLq nt cap σ).length=N'.length
    unfold eLq
    rw [Yg,Zf,Yf,c.len]
theorem Inv.uncomp {C:Addr} {fp:List Addr} {σ':St} {H':Hp} {s':Shared} (I:Inv X pins σ H s) (hC:C=s.heap.objs.size) (hf:∀ b∈fp,kDq X pins H b) {N':List Str} (J:Inv (b9q X scope N' C fp s H) [] σ' H' s') :
    ∃ m,s'.heap.Ns C m/\∀ h',Heap.SameBut C s'.heap h'->Inv X pins σ H' { s' with heap:=h' }:=by
  subst hC
  obtain ⟨m,hn,_⟩:=J.loc
  refine ⟨m,hn,λ h' hs=>?_⟩
  have ne:∀ b o,s.heap.get? b=some o->b≠s.heap.objs.size:=λ b o e=>Nat.ne_of_lt (Heap.lt_size e)
  have B:=J.base
  refine I.call' (ch:=fp) J.os ⟨λ b o e n hb hx=>?_,λ b o e n hb hx=>?_,B.free,λ b o e hx=>?_,B.tups,B.frzs,B.tbls⟩ (λ b u e=>?_) J.bare λ b hb=>?_
  . exact (hs.2 b (ne b o e)).trans (B.keep b o e n hb hx)
  . obtain ⟨sl,q⟩:=B.slot b o e n hb hx
    exact ⟨sl,(hs.2 b (ne b o e)).trans q⟩
  . obtain ⟨o',q⟩:=B.there b o e hx
    exact ⟨o',(hs.2 b (ne b o e)).trans q⟩
  . have hCn:H' s.heap.objs.size=none:=J.free
    refine (J.hok b u e).stay (λ d w' hd q=>(hs.2 d ?_).trans q) (λ _ q=>q) λ _ _ q=>q
    intro z
    subst z
    rcases hd with z | z
    . rw [<- z,hCn] at e;cases e
    . rw [hCn] at z;cases z
  . obtain ⟨f0,f1,f2,f3,f4,f5⟩:=hf b hb
    exact ⟨f3,f1,f4,f5⟩
end
def p9q (wi:TI) (g:TG) (te:TE) (nt:Nat) (cap:List Nat):TE:=λ σ H Q=>wi σ H λ J H1=>∀ acc,H1 acc=none →
  ∃ W:Nat->Nat->List V->St->Hp->Prop,(∃ m,W 0 m [] (eLq nt cap σ) (upd H1 acc (.lst [])))/\∀ i m ys σ' H',W i m ys σ' H' →
    (J.stop i H'/\Q (.ref acc) H')\/(J.go i H'/\∀ x H2,J.yld i H' x H2->g x σ' H2 λ σ3 H3=>te σ3 H3 λ y H4=>
      H4 acc=some (.lst ys)/\ys.length < sizeLine/\∃ m',m' < m/\W (i+1) m' (ys++[y]) σ3 (upd H4 acc (.lst (ys++[y]))))
section
variable {X:Cx} {scope:Scope} {N':List Str} {nt:Nat} {cap:List Nat} {elt iter tg:Expr} {pos:Pos} {wi:TI} {g:TG} {te:TE}
theorem xMq (hc:X.calm=true) (c:CompOk X scope N' nt cap) (hi:PI X tg iter wi) (hg:∀ C ex s H,PG (b9q X scope N' C ex s H) tg g) (he:∀ C ex s H,PE (b9q X scope N' C ex s H) elt te)
    (hs:∀ x,foldedSetIterable iter X.env x=pure x:=by intro _;rfl):PE X (.ListComp elt [⟨tg,iter,[],0⟩] scope pos) (p9q wi g te nt cap):=by
  intro pins s σ H Q I h
  rw [eval_ListComp]
  refine wpAny_comprehension_free (use:=none) rfl hs (oVq (c.has I.ok)) c.kind c.locs (thn (hi pins s σ H _ I h) λ v s1 h1=>thn h1 λ itv s2 h2=>?_)
  obtain ⟨it,fp,tn,J,H2,rfl,I2,T,st2,f2,R⟩:=h2
  have hD:H2 s2.heap.objs.size=none:=I2.hok.fresh (Nat.le_refl _)
  obtain ⟨W,⟨m0,w0⟩,turn⟩:=R _ hD
  have I3:Inv X pins σ (upd H2 s2.heap.objs.size (.lst [])) { s2 with heap:=s2.heap.push { cls:=.type "list", dict:=none,data:=.seq ([]:List Value).toArray } }:=
    I2.laid (t':=s2.toks) (λ b u e=>Heap.get?_push_of_some _ e) (Nat.le_refl _) ⟨Nat.zero_le _,[],0,.nil,Heap.get?_push_size _ rfl⟩
  have fpLt:∀ b∈fp,b < s2.heap.objs.size:=λ b hb=>by
    obtain ⟨o,e,_⟩:=T.obj _ _ st2 b hb
    exact Heap.lt_size e
  have f3:∀ b∈fp,kDq X pins (upd H2 s2.heap.objs.size (.lst [])) b:=λ b hb=>⟨by rw [aUq (Nat.ne_of_lt (fpLt b hb))];exact (f2 b hb).1,(f2 b hb).2⟩
  have st3:tn 0 (s2.heap.push { cls:=.type "list", dict:=none,data:=.seq ([]:List Value).toArray }):=T.keep _ _ _ st2 λ b _ o e=>Heap.get?_push_of_some _ e
  generalize hh3:s2.heap.push { cls:=.type "list", dict:=none,data:=.seq ([]:List Value).toArray }=h3 at I3 st3
  have sz3:s2.heap.objs.size < h3.objs.size:=by rw [<- hh3,Heap.size_push];exact Nat.lt_succ_self _
  generalize hDD:s2.heap.objs.size=D at I3 f3 hD w0 turn sz3 fpLt
  refine wpAny_newObj_type ?_
  rw [hDD,hh3]
  refine wpAny_newFunctionEnv c.nocell (by intro y hy;simp at hy) (λ h4 hns4 hsb4=>?_) c.kind
  dsimp only at hns4 hsb4 ⊢
  have keep4:∀ b o,h3.get? b=some o->h4.get? b=some o:=λ b o e=>(hsb4.2 b (Nat.ne_of_lt (Heap.lt_size e))).trans (Heap.get?_push_of_some _ e)
  have I4:=I3.comp (t':=s2.toks+([]:List (Str × Value)).length) c f3 (λ b hb=>Nat.lt_trans (fpLt b hb) sz3) keep4 hns4
  have st4:tn 0 h4:=T.keep _ _ _ st3 λ b _ o e=>keep4 b o e
  dsimp only at I4
  have fin:∀ {σ':St} {H':Hp} {s':Shared},Inv (b9q X scope N' h3.objs.size fp { s2 with heap:=h3 } (upd H2 D (.lst []))) [] σ' H' s'->Q (.ref D) H' →
      compPost (model X.prog X.w) X.A X.xe none (EP X pins σ Q) (.ref D) h3.objs.size (.ok .next) s':=λ{σ' H' s'} J' q=>by
    obtain ⟨m,hn,hh⟩:=I3.uncomp rfl f3 J'
    exact ⟨m,hn,λ h' hs'=>⟨.ref D,H',hh h' hs',rfl,q⟩⟩
  have stat:∀ {H':Hp},(∀ b∈fp,H' b=none)->∀ b∈fp,kDq (b9q X scope N' h3.objs.size fp { s2 with heap:=h3 } (upd H2 D (.lst []))) [] H' b:=λ{H'} hn b hb=>by
    refine ⟨hn b hb,Nat.ne_of_lt (Nat.lt_trans (fpLt b hb) sz3),λ z=>?_,.inl hb,λ x a e=>(f3 b hb).2.2.2.2.1 x a (c.cells I.ok e),λ p hp=>absurd (show p∈([]:List (Addr × Obj)) from hp) (by simp)⟩
    rcases Yd.mp (I.stkSub b z) with y | y
    . exact (f3 b hb).2.1 y
    . exact (f3 b hb).2.2.1 y
  have loop:codeAny (model X.prog X.w) X.A (.compLoop (.ListComp elt [⟨tg,iter,[],0⟩] scope pos) 0 (.ref it) (.ref D) (compEnvC scope (d0q X.env.cells scope.names []) h3.objs.size X.env))
      (compPost (model X.prog X.w) X.A X.xe none (EP X pins σ Q) (.ref D) h3.objs.size) { s2 with heap:=h4,toks:=s2.toks+([]:List (Str × Value)).length }:=by
    refine codeAny_loop rfl (λ n s'=>∃ i ys σ' H',Inv (b9q X scope N' h3.objs.size fp { s2 with heap:=h3 } (upd H2 D (.lst []))) [] σ' H' s'/\tn i s'.heap/\(∀ b∈fp,H' b=none)/\W i n ys σ' H') (λ n s5 hI=>?_) m0 ⟨0,[],_,_,I4,st4,λ b hb=>(f3 b hb).1,w0⟩
    obtain ⟨i,ys,σ5,H5,I5,st5,fr5,w5⟩:=hI
    show wpAny _ X.A ((compTurn (.ListComp elt [⟨tg,iter,[],0⟩] scope pos) 0 (.ref it) (.ref D) (compEnvC scope (d0q X.env.cells scope.names []) h3.objs.size X.env)).onRaise (λ x=>do noteFrame x (compEnvC scope (d0q X.env.cells scope.names []) h3.objs.size X.env);theTreesLotGoes x)) _ _ s5
    refine wpAny_noted ?_
    rw [compTurn_list1]
    rcases turn i n ys σ5 H5 w5 with ⟨stop,qn⟩ | ⟨go,step⟩
    . refine wpAny_bind (wpAny_standAt (wpAny_bind (wpAny_mono (T.done (b9q X scope N' h3.objs.size fp { s2 with heap:=h3 } (upd H2 D (.lst []))) rfl rfl rfl hc i [] s5 σ5 H5 (λ _ _=>False) I5 (stat fr5) st5 stop) (λ r s6 ⟨hr,I6⟩=>?_) λ _ _ z=>z.elim)))
      subst hr
      exact wpAny_pure (fin I6 qn)
    . refine wpAny_bind (wpAny_standAt (wpAny_bind (wpAny_mono (T.item (b9q X scope N' h3.objs.size fp { s2 with heap:=h3 } (upd H2 D (.lst []))) rfl rfl rfl hc i [] s5 σ5 H5 (λ _ _=>False) I5 (stat fr5) st5 go) (λ r s6 ⟨u,hr,h6⟩=>?_) λ _ _ z=>z.elim)))
      subst hr
      refine wpAny_bind (wpAny_mono h6 (λ _ s7 ⟨x,H7,I7,r7,y7,st7,fr7⟩=>?_) λ _ _ z=>z.elim)
      have I7':=I7.pinned (stat fr7) (T.obj _ _ st7)
      refine wpAny_bind (wpAny_mono (hg _ _ _ _ _ s7 σ5 H7 x u _ I7' r7 (step x H7 y7)) (λ _ s8 ⟨σ8,H8,I8,q8⟩=>?_) λ _ _ z=>z.elim)
      refine wpAny_bind (wpAny_bind (wpAny_mono (he _ _ _ _ _ s8 σ8 H8 _ I8 q8) (λ yv s9 ⟨y,H9,I9,r9,e9,z9,m',hm',w9⟩=>?_) λ _ _ z=>z.elim))
      refine wpAny_bind (wpAny_mono (gKq (X:=b9q X scope N' h3.objs.size fp { s2 with heap:=h3 } (upd H2 D (.lst []))) _ s9 σ8 H9 (.ref D) [y] (.ref D) [yv] (λ v H10=>v=.non/\H10=upd H9 D (.lst (ys++[y]))) I9 rfl (.cons r9 .nil) ⟨D,ys,y,rfl,rfl,e9,z9,rfl,rfl⟩)
        (λ _ s10 ⟨v10,H10,I10,_,_,e10⟩=>?_) λ _ _ z=>z.elim)
      subst e10
      refine wpAny_pure (wpAny_pure ⟨rfl,m',hm',i+1,ys++[y],σ8,_,I10.unpinned,?_,λ b hb=>?_,w9⟩)
      . exact T.keep _ _ _ st7 λ b hb o e=>(I10.pin (b,o) (Yk _ (Yk _ (c7q hb e)))).1
      . obtain ⟨o,e,d⟩:=T.obj _ _ st7 b hb
        exact (I10.pin (b,o) (Yk _ (Yk _ (c7q hb e)))).2.1
  exact codeAny_compStart_list loop (T.self _ 0 _ _ _ st4 loop)
end
structure Got (P:Program) (w:World) (K:PySem.W.Frag) (mg:Str->Option Value) (base:Heap) (k:Nat) (x:Str) (ps:List Str) (sp:Sp):Prop where
  ex:∃ (f:Addr) (fd:FuncData),FnOk P w K mg base CX0 k f fd ps sp/\mg x=some (.ref f)/\PySem.W.keepIn K (.ref f)=true/\Binds K fd ps []
section
variable {X:Cx} {k j:Nat} {x:Str} {ps:List Str} {sp:Sp} {p pos:Pos} {e:Expr} {es:List Expr} {t:TA}
theorem aS2q (G:Got X.prog X.w X.K X.mg X.base k x ps sp) (hr:Room j X.A) (hk:k<=j) (hg:Gl X x) (ha:PA X (e::es) t) (hdb:(x==("__debug__" : Str))=false:=by decide)
    (he:starEach (e::es) X.env=(false,eval e X.env)::starEach es X.env:=by rfl) (hpl:(backTo pos (starEach es X.env)).any (·.1)=false:=by rfl) :
    PE X (.Call (.Name x p) (e::es) [] pos) (tDq sp [] E0 t):=by
  obtain ⟨f,fd,F,hm,kp,b⟩:=G.ex
  exact wYq F (hr.mono hk) hg hm kp b .nil zPq ha hdb he hpl
end
section
variable {X:Cx}
theorem tNq:OpR X (binaryOp .FloorDiv) (rI (λ _ j=>0 < j/\j < 2 ^ 64) λ i j=>.int (i / j)):=opI λ i j t u s E Q hc q=>by
  have h0:j≠0:=by omega
  have h1:j.natAbs.log2 < 9000:=by
    have e1:j.natAbs < 2 ^ 64:=by omega
    exact Nat.lt_trans ((Nat.log2_lt (by omega)).mpr e1) (by decide)
  have e:i.fdiv j=i / j:=Int.fdiv_eq_ediv_of_nonneg i (by omega)
  exact floordiv_int h0 (by rw [e];exact q) (.inl (PyProof.noPylong_of_log2 h1))
theorem wKq (l b:Addr) (items items2:Array Value) (n n2:Nat) (dd2:Option Addr) (sl2:Array (Option Value)) (h0:¬(!items.isEmpty&&Builtin.List.listTooLong (items.size+items2.size))=true) (h1:items.size<=sizeLine) (h2:items.size+items2.size<=sizeLine+1) :
    Meets (Builtin.«list.extend» ⟨[.ref l,.ref b],[]⟩) (λ _ R s=>s.heap.get? l=some { cls:=.type "list", dict:=none,data:=.seq items n,slots:=#[] } ∧
      s.heap.get? b=some { cls:=.type "tuple", dict:=dd2,data:=.seq items2 n2,slots:=sl2 }/\R (.ok (.ret Value.none)) { s with heap:=s.heap.update l (Obj.mapSeq λ x=>x++items2),toks:=s.toks }):=
  .of_wp λ prog w A R s h=>by
    obtain ⟨hp,g,d,tk,os⟩:=s
    obtain ⟨hl,hb,h⟩:=h
    have f1:=AutoSeq1.idx_int
    have f2:=AutoSeq1.sub_tuple_tuple
    have f3:=AutoSeq1.sub_list_list
    have f4:=AutoSeq1.sub_tuple_list
    have f5:=AutoSeq1.sub_list_tuple
    have hz':(items++items2).size<=sizeLine+1:=by rw [Array.size_append];exact h2
    wp_walk using (wpAny_updateSeq hl rfl (hz:=h1) (_hz':=hz')),wpAny_loadPart' hl,wpAny_loadPart' hb
    exact ⟨_,rfl,h⟩
def aW1q (K:PySem.W.Frag):V->List V->Hp->VK->Prop:=λ x vs H Q=>∃ l b xs zs,x=.ref l/\vs=[.ref b]/\H l=some (.lst xs)/\SqT K H b zs/\xs.length+zs.length<=sizeLine/\Q .non (upd H l (.lst (xs++zs)))
theorem uXq:MtM X "list.extend" (aW1q X.K):=by
  intro pins s σ H x vs v us Q I rx rv h
  obtain ⟨l,b,xs,zs,rfl,rfl,hH,hB,hz,q⟩:=h
  cases rx
  obtain ⟨u,rfl,ru⟩:=rv.one
  cases ru
  obtain ⟨z,its,n,r,hl,e⟩:=I.lstM hH
  obtain ⟨its2,r2,⟨⟨c2,dd2,da2,sl2⟩,e2,hc2,n2,hd2⟩,hz2⟩:=I.tuple hB
  simp only at hc2 hd2
  subst hc2 hd2
  have hl2:=r2.length
  have hsz:its.toArray.size+its2.toArray.size<=sizeLine:=by rw [Ye,Ye];omega
  have hlong:¬ (!its.toArray.isEmpty&&Builtin.List.listTooLong (its.toArray.size+its2.toArray.size))=true:=by
    rw [lRq hsz,Bool.and_false]
    exact Bool.false_ne_true
  refine call_meets F.slot_list_extend ⟨_,e,rfl⟩ F.entry_list_extend (F.args_list_extend_2 _ _) (wKq l b its.toArray its2.toArray n n2 dd2 sl2 hlong (by rw [Ye];omega) (by omega)) ⟨e,e2,?_⟩
  refine ⟨.non,_,I.lset (its':=its++its2) hH e (by simp) (r.append r2) ?_,rfl,q⟩
  rw [Yg]
  omega
end
section
variable {X:Cx} {scope:Scope} {N':List Str} {nt:Nat} {cap:List Nat} {elt iter tg:Expr} {pos:Pos} {wi:TI} {g:TG} {te:TE}
end
def bAq:Expr->Bool
  | .Starred ..=>false
  | _=>true
theorem aMq {e:Expr} {es:List Expr} {env:Env} (h:bAq e=true):starEach (e::es) env=(false,eval e env)::starEach es env:=by
  cases e<;>first | rfl | cases h
section
variable {κ:Type} [DecidableEq κ]
theorem RelO.getD {o:Option V} {u:Option Value} {d:V} {d':Value} (r:RelO o u) (rd:RelV d d'):RelV (o.getD d) (u.getD d'):=by
  cases o with
  | none=>cases u with
    | none=>exact rd
    | some _=>exact (show False from r).elim
  | some _=>cases u with
    | none=>exact (show False from r).elim
    | some _=>exact r
end
section
variable {P:Program} {w:World} {H:Hp} {h:Heap} {a:Addr}
end
section
variable {X:Cx} {pins:List (Addr × Obj)} {σ:St} {H:Hp} {s:Shared} {a:Addr} {y v:V} {u r:Value} {o:Option V} {A:Around} {E:Value->Shared->Prop}
end
section
variable {X:Cx} {pins:List (Addr × Obj)} {σ:St} {H:Hp} {s:Shared} {a:Addr} {kvs:List (Key × V)} {k:Key} {u:Value} {A:Around} {E:Value->Shared->Prop}
end
section
variable {X:Cx} {o i e value:Expr} {pos pos' tpos:Pos} {td ty tv:TE}
end
section
variable {X:Cx} {pos:Pos}
end
structure M1 (X:Cx) (o:Expr) (m:Str) (apos:Pos) (e:Expr) (cpos:Pos):Prop where
  base:attributeBase o m X.env (eval o X.env)=eval o X.env
  few:((backTo cpos (starEach [e] X.env)).all (λ x=>!x.1)&&(backToKw cpos (keywordEach [] X.env)).all (λ x=>x.1.isSome)
   &&decide (([e]:List Expr).length+([]:List Keyword).length+(if ([]:List Keyword).isEmpty then 0 else 1) < 30))=true
  line:(apos.endLine==cpos.line)=true
  trees:backTo cpos (starEach [e] X.env)=[(false,eval e X.env)]
structure M2 (X:Cx) (o:Expr) (m:Str) (apos:Pos) (e f:Expr) (cpos:Pos):Prop where
  base:attributeBase o m X.env (eval o X.env)=eval o X.env
  few:((backTo cpos (starEach [e,f] X.env)).all (λ x=>!x.1)&&(backToKw cpos (keywordEach [] X.env)).all (λ x=>x.1.isSome)
   &&decide (([e,f]:List Expr).length+([]:List Keyword).length+(if ([]:List Keyword).isEmpty then 0 else 1) < 30))=true
  line:(apos.endLine==cpos.line)=true
  trees:backTo cpos (starEach [e,f] X.env)=[(false,eval e X.env),(false,eval f X.env)]
section
variable {X:Cx} {pins:List (Addr × Obj)} {σ:St} {H:Hp} {s:Shared} {a:Addr} {y d:V} {u r:Value} {o:Option V} {A:Around} {E:Value->Shared->Prop}
end
section
variable {X:Cx} {o e f:Expr} {apos cpos:Pos} {td ty tx:TE}
end
section
variable {X:Cx} {pins:List (Addr × Obj)} {σ:St} {H:Hp} {s:Shared} {a:Addr} {kvs:List (Key × V)} {A:Around} {E:Value->Shared->Prop}
end
section
variable {X:Cx} {pins:List (Addr × Obj)} {σ:St} {H:Hp} {s:Shared} {a:Addr} {y:V} {u:Value} {A:Around} {E:Value->Shared->Prop}
end
section
variable {κ:Type} [DecidableEq κ]
end
section
variable {prog:Program} {w:World} {A:Around} {E:Value->Shared->Prop} {s:Shared}
theorem eIq {t sl:Addr} {items:Array Value} {vl vu:Value} {lo hi:Option Int} {Q:Value->Shared->Prop} (ht:IsTup s.heap t items) (hs:s.heap.IsSliceOf sl vl vu .none) (pl:IsPart vl lo) (pu:IsPart vu hi)
    (hw:HT.sIx items.size 0 lo=0/\HT.sIx items.size items.size hi=items.size) (h:Q (.ref t) s):wpAny (model prog w) A (getItem (.ref t) (.ref sl)) Q E s:=by
  obtain ⟨os,hos,hcs,hds⟩:=id hs
  have hTs:s.TypeIs (.ref sl) "slice":=⟨os,hos,hcs⟩
  unfold getItem
  try with_reducible refine wpAny_holding ?_
  first | refine wpAny_bind (wpAny_pure ?_) | skip
  refine wpAny_bind (wpAny_sequenceKey ht.typeIs (by decide) ?_)
  refine wpAny_bind (wpAny_callSpecial?_slot (name:=Str.ofString "__getitem__") ht.typeIs PyProof.Rows.slot_tuple_getitem (wpAny_call_entry PyProof.Rows.slot_tuple_getitem ht.typeIs entry_tuple_getitem ?_ (args_tuple_getitem _ _)))
  show wpAny _ _ (Builtin.Tuple.tupleItemsOf (.ref t) >>= _) _ _ s
  refine wpAny_bind (tupleItemsOf_ ht ?_)
  refine wpAny_bind (wpAny_typeOf hTs ?_)
  rw [if_pos (by decide)]
  refine wpAny_bind (HT.sliceApplied_gen hs pl pu ?_)
  have hyes:(((HT.sIx items.size 0 lo:Nat):Int)==0&&(1:Int)==1&&(HT.sIx items.size items.size hi - HT.sIx items.size 0 lo)==items.size)=true:=by
    rw [hw.1,hw.2];simp
  show wpAny _ _ (if (((HT.sIx items.size 0 lo:Nat):Int)==0&&(1:Int)==1&&(HT.sIx items.size items.size hi - HT.sIx items.size 0 lo)==items.size)=true then _ else _) _ _ s
  rw [if_pos hyes]
  have ex:∀ {Q':Bool->Shared->Prop},Q' true s->wpAny (model prog w) A.in1 (Builtin.Tuple.tupleIsExact (.ref t)) Q' E s:=λ{Q'} q=>by
    unfold Builtin.Tuple.tupleIsExact
    refine wpAny_bind (wpAny_typeOf ht.typeIs (wpAny_pure ?_))
    have e:(Value.type "tuple"==Value.type "tuple")=true:=beq_self_eq_true _
    rw [e];exact q
  first
    | exact wpAny_bind (ex (wpAny_bind (wpAny_rule (wpAny_pure ⟨_,rfl,wpAny_pure h⟩))))
    | (unfold Builtin.Tuple.tupleIsExact
       refine wpAny_bind (wpAny_bind (wpAny_typeOf ht.typeIs (wpAny_pure ?_)))
       have e:(Value.type "tuple"==Value.type "tuple")=true:=beq_self_eq_true _
       rw [e,if_pos rfl]
       first
         | exact wpAny_bind (wpAny_rule (wpAny_pure ⟨_,rfl,wpAny_pure h⟩))
         | exact wpAny_bind (wpAny_rule (wpAny_bind (wpAny_pure (wpAny_pure ⟨_,rfl,wpAny_pure h⟩))))
         | exact wpAny_bind (wpAny_rule (wpAny_bind (wpAny_bind (wpAny_pure (wpAny_pure ⟨_,rfl,wpAny_pure h⟩))))))
end
section
variable {X:Cx}
def aV4q (K:PySem.W.Frag):V->Option Int->Option Int->Hp->VK->Prop:=λ x lo hi H Q=>∃ a xs,x=.ref a/\SqT K H a xs ∧
  ((HT.sIx xs.length 0 lo=0/\HT.sIx xs.length xs.length hi=xs.length)->Q (.ref a) H)/\(¬ (HT.sIx xs.length 0 lo=0/\HT.sIx xs.length xs.length hi=xs.length)->∀ p,H p=none->Q (.ref p) (upd H p (.tup (nTq xs lo hi))))
theorem xPq:SlR X (aV4q X.K):=by
  intro pins s σ H x v vl vu lo hi sl Q I rx hs pl pu h
  obtain ⟨a,xs,rfl,hx,q1,q2⟩:=h
  by_cases hw:HT.sIx xs.length 0 lo=0/\HT.sIx xs.length xs.length hi=xs.length
  . cases rx
    obtain ⟨its,r,ht,hz⟩:=I.tuple hx
    have hlen:its.toArray.size=xs.length:=by rw [Ye];exact r.length.symm
    refine ⟨"tuple", _,PyProof.Rows.slot_tuple_getitem.lookup,ht.typeIs,?_⟩
    exact eIq ht hs pl pu (by rw [hlen];exact hw) ⟨.ref a,H,I,rfl,q1 hw⟩
  . exact aF4q pins s σ H _ v vl vu lo hi sl Q I rx hs pl pu ⟨a,xs,rfl,hx,hw,q2 hw⟩
def aQ4q (K:PySem.W.Frag):R2:=λ x y H Q=>∃ a b xs ys,x=.ref a/\y=.ref b/\SqT K H a xs/\SqT K H b ys/\xs.length+ys.length<=sizeLine ∧
  (xs=[]->Q (.ref b) H)/\(xs≠[]->ys=[]->Q (.ref a) H)/\(xs≠[]->ys≠[]->∀ p,H p=none->Q (.ref p) (upd H p (.tup (xs++ys))))
theorem op_catW:OpR X (binaryOp .Add) (aQ4q X.K):=by
  intro pins s σ H x y v u Q I rx ry h
  obtain ⟨a,b,xs,ys,rfl,rfl,ha,hb,hz,q0,q1,q2⟩:=h
  by_cases hx:xs=[]
  . cases rx;cases ry
    obtain ⟨its,r,ht,_⟩:=I.tuple ha
    obtain ⟨its2,r2,ht2,_⟩:=I.tuple hb
    subst hx
    cases r
    obtain ⟨⟨cls,dd,data,sl⟩,ho,hc,n,hd⟩:=id ht
    obtain ⟨⟨cls2,dd2,data2,sl2⟩,ho2,hc2,n2,hd2⟩:=id ht2
    simp only at hc hd hc2 hd2
    subst hc hd hc2 hd2
    refine concat_meets ⟨_,ho,rfl⟩ ⟨_,ho2,rfl⟩ noFill_tuple_add seq_tuple_add PySem.F.slot_tuple_add PySem.F.entry_tuple_add (PySem.F.args_tuple_add_2 _ _) (tuple_addW0 a b _ its2.toArray n n2 dd dd2 sl sl2 (by simp)) ⟨ho,ho2,?_⟩
    exact ⟨.ref b,H,I,rfl,q0 rfl⟩
  . exact wHq pins s σ H _ _ v u Q I rx ry ⟨a,b,xs,ys,rfl,rfl,ha,hb,hx,hz,q1 hx,q2 hx⟩
structure KTab (K:PySem.W.Frag) (w:World) (ad:Addr) (tab:Str->Option V):Prop where
  ex:∃ (es:Array DictEntry) (n:Nat),K.lookup ad=some ⟨.type "dict", none,.dict es n,#[]⟩/\PySem.W.KeysLit w.params es.toList/\∀ x,RelO (tab x) (findBy Value.isStrOf es x)
  low:(ad==sysModules)=false
end
section
variable {X:Cx}
def aN2q (K:PySem.W.Frag):V->Option Int->Option Int->Hp->VK->Prop:=λ x lo hi H Q=>∃ a xs,x=.ref a/\SqT K H a xs/\∀ t H2,Same H H2->SqT K H2 t (nTq xs lo hi)->Q (.ref t) H2
theorem sMq {xs:List V} {lo hi:Option Int} (h:HT.sIx xs.length 0 lo=0/\HT.sIx xs.length xs.length hi=xs.length):nTq xs lo hi=xs:=by
  unfold nTq
  rw [h.1,h.2,YI,Nat.sub_zero,YW]
theorem sl_tupU:SlR X (aN2q X.K):=by
  intro pins s σ H x v vl vu lo hi sl Q I rx hs pl pu h
  obtain ⟨a,xs,rfl,hx,q⟩:=h
  refine xPq pins s σ H _ v vl vu lo hi sl Q I rx hs pl pu ⟨a,xs,rfl,hx,λ w=>q a H (Same.refl _) (by rw [sMq w];exact hx),λ _ p hp=>q p _ (λ b u e=>by rw [aUq (b0q e hp)];exact e) (SqT.of bKq)⟩
end
structure JE (X:Cx) (e:Expr) (t:TE):Prop where
  run:PE X e t
structure JT (X:Cx) (e:Expr) (t:TT):Prop where
  run:PT X e t
structure JW (X:Cx) (e:Expr) (t:TT):Prop where
  run:PW X e t
structure JA (X:Cx) (es:List Expr) (t:TA):Prop where
  run:PA X es t
structure JS (X:Cx) (st:Stmt) (t:TS):Prop where
  run:PS X st t
structure JB (X:Cx) (st:List Stmt) (t:TS):Prop where
  run:PSs X st t
structure JG (X:Cx) (e:Expr) (t:TG):Prop where
  run:PG X e t
structure JGs (X:Cx) (es:List Expr) (t:TGs):Prop where
  run:PGs X es t
structure JI (X:Cx) (tg iter:Expr) (wi:TI):Prop where
  run:PI X tg iter wi
structure JO (X:Cx) (e:Option Expr) (t:TO):Prop where
  run:PO X e t
structure JOp (X:Cx) (f:Value->Value->Sem Value) (r:R2):Prop where
  run:OpR X f r
structure JUn (X:Cx) (f:Value->Sem Value) (r:V->Hp->VK->Prop):Prop where
  run:UnR X f r
structure JCall (X:Cx) (f:Value) (r:List V->Hp->VK->Prop):Prop where
  run:CallR X f r
structure JIx (X:Cx) (r:R2):Prop where
  run:IxR X r
structure JSl (X:Cx) (r:V->Option Int->Option Int->Hp->VK->Prop):Prop where
  run:SlR X r
structure JMt (X:Cx) (id:String) (r:V->List V->Hp->VK->Prop):Prop where
  run:MtR X id r
structure JIp (X:Cx) (op:Operator) (t:TIp):Prop where
  run:PIp X op t
structure JSet (X:Cx) (t:yUq):Prop where
  run:PSet X t
section
variable {X:Cx} {a b c e o i:Expr} {es:List Expr} {ta tb te to ti:TE} {t tr:TA} {pos p apos cpos:Pos}
theorem yFq {n:Int} {j}:JE X (.Constant (.int n) j pos) (tC (.int n)):=⟨aI7q⟩
theorem aV0q {n:Bool} {j}:JE X (.Constant (.bool n) j pos) (tC (.bl n)):=⟨aV2q⟩
theorem zZq {x:Str} {j}:JE X (.Constant (.str x) j pos) (tC (.str x)):=⟨aH3q⟩
theorem jv (k:Nat) {x:Str} (hN:X.N[k]?=some x:=by rfl) (hv:Vis X.env.scope x:=by first | exact Or.inl rfl | exact Or.inr (Or.inl rfl) | exact Or.inr (Or.inr rfl)) (hd:(x==("__debug__" : Str))=false:=by decide)
    (hcd:(x==("__classdict__" : Str))=false:=by decide):JE X (.Name x pos) (tVar k):=⟨tZq hN hv hd hcd⟩
theorem x7q {x:Str} {v:V} {u:Value} (hg:Gl X x) (hm:X.mg x=none) (hv:bootBuiltins x=some u) (r:RelV v u) (hn:x≠"__name__":=by decide) (hd:(x==("__debug__" : Str))=false:=by decide):JE X (.Name x pos) (tC v):=⟨x2q hg hm hv r hn hd⟩
theorem vRq {x:Str} {v:V} {u:Value} (hg:Gl X x) (hm:X.mg x=some u) (r:RelV v u) (hd:(x==("__debug__" : Str))=false:=by decide):JE X (.Name x pos) (tC v):=⟨lLq hg hm r hd⟩
theorem aE3q:JA X [] tNil:=⟨aK2q⟩
theorem wMq (ha:JE X e te) (hr:JA X es t) (hs:bAq e=true:=by rfl):JA X (e::es) (aD1q te t):=⟨wRq ha.run hr.run (aMq hs)⟩
theorem aK5q {x1} (h:JA X es t):JE X (.Tuple es x1 pos) (tTup t):=⟨aD3q h.run⟩
theorem u7q (h:JA X es t):JE X (.List es pos) (tLst t):=⟨aK6q h.run⟩
theorem aQ1q {op:Operator} {r:R2} (ho:JOp X (binaryOp op) r) (ha:JE X a ta) (hb:JE X b tb):JE X (.BinOp a op b pos) (tOp r ta tb):=⟨aR9q ho.run ha.run hb.run⟩
theorem aN9q {op:UnaryOp} {r:V->Hp->VK->Prop} (ho:JUn X (unaryOp op) r) (ha:JE X a ta):JE X (.UnaryOp op a pos) (tUn r ta):=⟨aW3q ho.run ha.run⟩
theorem aC6q (ha:JE X a ta):JE X (.UnaryOp .Not a pos) (aG8q ta):=⟨aH4q ha.run⟩
theorem vCq {op:CmpOp} {r:R2} (ho:JOp X (compareOp op) r) (ha:JE X a ta) (hb:JE X b tb) (hm:behindInMarks op b=false):JE X (.Compare a [op] [b] pos) (tOp r ta tb):=⟨vTq ho.run ha.run hb.run hm⟩
theorem z3q {op} (h:JE X a ta):JE X (.BoolOp op [a] pos) ta:=⟨z6q h.run⟩
theorem yTq {rest:List Expr} (ha:JE X a ta) (hb:JE X (.BoolOp .And (b::rest) pos) tb):JE X (.BoolOp .And (a::b::rest) pos) (z1q ta tb):=⟨zNq ha.run hb.run⟩
theorem aO1q {rest:List Expr} (ha:JE X a ta) (hb:JE X (.BoolOp .Or (b::rest) pos) tb):JE X (.BoolOp .Or (a::b::rest) pos) (tOrV ta tb):=⟨aP5q ha.run hb.run⟩
theorem sWq {tc:TT} (hc:JT X c tc) (ha:JE X a ta) (hb:JE X b tb):JE X (.IfExp c a b pos) (tIf tc ta tb):=⟨rXq hc.run ha.run hb.run⟩
theorem w4q:JO X none pCq:=⟨vHq⟩
theorem uYq (h:JE X e te):JO X (some e) (aA2q te):=⟨y4q h.run⟩
theorem rMq {r:V->Option Int->Option Int->Hp->VK->Prop} {lo hi:Option Expr} {tl th:TO} {p2:Pos} (hr:JSl X r) (he:JE X e te) (hl:JO X lo tl) (hu:JO X hi th):JE X (.Subscript e (.Slice lo hi none p2) pos) (tSl r te tl th):=⟨t5q hr.run he.run hl.run hu.run⟩
theorem aG0q {r:R2} (hr:JIx X r) (ha:JE X a ta) (hb:JE X b tb) (hs:hUq b):JE X (.Subscript a b pos) (tOp r ta tb):=⟨aM6q hr.run ha.run hb.run hs⟩
theorem bYq {es:List Expr} {env:Env} (h:es.all bAq=true):(backTo pos (starEach es env)).any (·.1)=false:=by
  induction es with
  | nil=>rfl
  | cons x r ih=>
    rw [YB,Bool.and_eq_true] at h
    rw [aMq h.1]
    exact ih h.2
theorem aS8q {k j:Nat} {x:Str} {ps:List Str} {sp:Sp} (G:Got X.prog X.w X.K X.mg X.base k x ps sp) (hr:Room j X.A) (hk:k<=j) (hg:Gl X x) (ha:JA X (e::es) t) (hdb:(x==("__debug__" : Str))=false:=by decide)
    (hs:(e::es).all bAq=true:=by rfl):JE X (.Call (.Name x p) (e::es) [] pos) (tDq sp [] E0 t):=by
  have h:=hs
  rw [YB,Bool.and_eq_true] at h
  exact ⟨aS2q G hr hk hg ha.run hdb (aMq h.1) (bYq h.2)⟩
theorem s0q {x:Str} {id:String} {r:List V->Hp->VK->Prop} (hc:JCall X (.builtin id) r) (hg:Gl X x) (hm:X.mg x=none) (hv:bootBuiltins x=some (.builtin id)) (ha:JA X (e::es) t) (hn:x≠"__name__":=by decide) (hdb:(x==("__debug__" : Str))=false:=by decide)
    (hs:(e::es).all bAq=true:=by rfl):JE X (.Call (.Name x p) (e::es) [] pos) (tCB r t):=by
  have h:=hs
  rw [YB,Bool.and_eq_true] at h
  exact ⟨sBq hc.run hg hm hv ha.run hn hdb (aMq h.1) (bYq h.2)⟩
theorem oNq {x:Str} {T:String} {r:List V->Hp->VK->Prop} (hc:JCall X (.type T) r) (hg:Gl X x) (hm:X.mg x=none) (hv:bootBuiltins x=some (.type T)) (ha:JA X (e::es) t) (hn:x≠"__name__":=by decide) (hdb:(x==("__debug__" : Str))=false:=by decide)
    (hs:(e::es).all bAq=true:=by rfl):JE X (.Call (.Name x p) (e::es) [] pos) (tCB r t):=by
  have h:=hs
  rw [YB,Bool.and_eq_true] at h
  exact ⟨oFq hc.run hg hm hv ha.run hn hdb (aMq h.1) (bYq h.2)⟩
theorem aR0q {name:Str} {T id:String} {r:V->List V->Hp->VK->Prop} (pa:PlainAttrs T) (slot:Slot T name id) (hty:typeOf (.builtin id)=pure (.type "method_descriptor")) (hm:JMt X id r) (ho:JE X o to) (ha:JA X [e] t)
    (hbase:attributeBase o name X.env (eval o X.env)=eval o X.env:=by rfl) (hline:(apos.endLine==cpos.line)=true:=by rfl) (hs:bAq e=true:=by rfl):JE X (.Call (.Attribute o name apos) [e] [] cpos) (tBM X.K T r to t):=
  ⟨aR7q pa slot hty hm.run ho.run ha.run hbase (by rw [aMq hs];rfl) hline (aMq hs) rfl⟩
theorem aB7q {name:Str} {T id:String} {r:V->List V->Hp->VK->Prop} (pa:PlainAttrs T) (slot:Slot T name id) (hty:typeOf (.builtin id)=pure (.type "method_descriptor")) (hm:JMt X id r) (ho:JE X o to)
    (hbase:attributeBase o name X.env (eval o X.env)=eval o X.env:=by rfl) (hline:(apos.endLine==cpos.line)=true:=by rfl):JE X (.Call (.Attribute o name apos) [] [] cpos) (tBM0 X.K T r to):=⟨aC7q pa slot hty hm.run ho.run hbase hline⟩
theorem wEq {op:CmpOp} {r:R2} (ho:JOp X (compareOp op) r) (ha:JE X a ta) (hb:JE X b tb) (hm:behindInMarks op b=false):JT X (.Compare a [op] [b] pos) (x1q (tOp r ta tb)):=⟨wIq ho.run ha.run hb.run hm⟩
theorem zOq {tc:TT} (ha:JT X a tc):JT X (.UnaryOp .Not a pos) (tNot tc):=⟨aH2q ha.run⟩
theorem rPq (ha:JE X a ta) (he:∀ whole,isTrue a X.env whole=(do let v ← whole;standAt a.pos;holding [v] (truthy v))):JT X a (λ σ H Q=>ta σ H λ x H'=>∃ k,TruV X.K x H' k/\Q k H'):=⟨rQq ha.run he⟩
theorem v3q {tA:TT} (ha:JT X a tA):JW X (.BoolOp .And [a] pos) tA:=⟨wGq ha.run⟩
theorem aB3q {tA:TT} (ha:JT X a tA):JW X (.BoolOp .Or [a] pos) tA:=⟨aB6q ha.run⟩
theorem aD0q {tA tB':TT} {rest:List Expr} (ha:JT X a tA) (hb:JW X (.BoolOp .And (b::rest) pos) tB'):JW X (.BoolOp .And (a::b::rest) pos) (tAnd tA tB'):=⟨aF8q ha.run hb.run⟩
theorem aO2q {tA tB':TT} {rest:List Expr} (ha:JT X a tA) (hb:JW X (.BoolOp .Or (b::rest) pos) tB'):JW X (.BoolOp .Or (a::b::rest) pos) (tOr tA tB'):=⟨aN3q ha.run hb.run⟩
theorem JW.pt {tA:TT} (h:JW X e tA):JT X e tA:=⟨PW.pt h.run⟩
theorem vZq {k:Nat} {x:Str} (hN:X.N.Nodup) (hi:X.N[k]?=some x) (hx:Loc X.env.scope x) (hf:X.fn x=true\/X.env.scope.names.lookup x=some .local:=by first | exact .inl rfl | exact .inr rfl | assumption):JG X (.Name x pos) (nDq k):=⟨v8q hN hi hx hf⟩
theorem vGq:JGs X [] gNil:=⟨wCq⟩
theorem sEq {tg:TG} {u:TGs} (h1:JG X e tg) (h2:JGs X es u) (hs:(assignEach (e::es) X.env).map (·.2)=assign e X.env::(assignEach es X.env).map (·.2):=by rfl):JGs X (e::es) (aB1q tg u):=⟨tRq h1.run h2.run hs⟩
theorem aK9q {k n:Nat} {tg:TGs} (hc:X.calm=true) (h:JGs X es tg) (hn:(assignEach es X.env).length=n:=by rfl) (hst:(assignEach es X.env).findIdx? (·.1)=none:=by rfl):JG X (.Tuple es k pos) (gTup X.K n tg):=⟨aE0q hc h.run hn hst⟩
theorem aF0q {tset:yUq} (ho:JE X o to) (hi:JE X i ti) (hs:JSet X tset) (ha:∀ v,assign (.Subscript o i pos) X.env v=(do
      let ov ← holding [v] (eval o X.env)
      let iv ← holding [v,ov] (eval i X.env)
      standAt pos
      holding [v,ov,iv] (setItem ov iv v)
      release [v,ov,iv] []):=by intro _;rfl):JG X (.Subscript o i pos) (gSub to ti tset):=⟨aJ0q ho.run hi.run hs.run ha⟩
theorem oBq {tg:Expr} (hg:Gl X "range") (hm:X.mg "range" = none) (ha:JA X [a] t) (hs:bAq a=true:=by rfl):JI X tg (.Call (.Name "range" p) [a] [] pos) (aD6q t):=⟨qRq hg hm ha.run (aMq hs)⟩
theorem aG1q:JB X [] aK1q:=⟨xBq⟩
theorem xRq {st:Stmt} {rest:List Stmt} {ts us:TS} (h1:JS X st ts) (h2:JB X rest us):JB X (st::rest) (tSeq ts us):=⟨tSq h1.run h2.run⟩
theorem aD8q {st:Stmt} {ts:TS} (h1:JS X st ts):JB X [st] ts:=⟨wXq h1.run⟩
theorem vAq (he:JE X e te) (hs:swapsWith e none pos.line X.env=pure false:=by rfl):JS X (.Expr e pos) (yAq te):=⟨wDq he.run hs⟩
theorem yNq (he:JE X e te):JS X (.Return (some e) pos) (tRet te):=⟨aJ4q he.run⟩
theorem aP2q {ss us:List Stmt} {tc:TT} {ts tu:TS} (hc:JT X c tc) (ha:JB X ss ts) (hb:JB X us tu):JS X (.If c ss us pos) (tIfS tc ts tu):=⟨aN0q hc.run ha.run hb.run⟩
theorem aC9q {k:Nat} {x:Str} {pos':Pos} (hN:X.N.Nodup) (hi:X.N[k]?=some x) (hx:Loc X.env.scope x) (he:JE X e te) (hs:swapsWith e (some (.Name x pos')) pos.line X.env=pure false:=by rfl) (hf:X.fn x=true\/X.env.scope.names.lookup x=some .local:=by first | exact .inl rfl | exact .inr rfl | assumption) :
    JS X (.Assign [.Name x pos'] e pos) (y9q te (nDq k)):=⟨ySq hN hi hx he.run hs hf⟩
theorem aH1q {tg:Expr} {g:TG} (he:JE X e te) (hg:JG X tg g) (hs:swapsWithSole [tg] e pos.line X.env=pure false:=by rfl) (hw:swappedStores [tg] e X.env=pure none:=by rfl) (h1:(assignEach [tg] X.env).map (·.2)=[assign tg X.env]:=by rfl):JS X (.Assign [tg] e pos) (y9q te g):=⟨aF9q he.run hg.run hs hw h1⟩
theorem yIq {k:Nat} {x:Str} {op:Operator} {tip:TIp} {pos':Pos} (hN:X.N.Nodup) (hi:X.N[k]?=some x) (hx:Loc X.env.scope x) (he:JE X e te) (ho:JIp X op tip) (hf:X.fn x=true\/X.env.scope.names.lookup x=some .local:=by first | exact .inl rfl | exact .inr rfl | assumption) :
    JS X (.AugAssign (.Name x pos') op e pos) (tAug k te tip):=⟨aC0q hN hi hx he.run ho.run hf⟩
theorem rSq {body:List Stmt} {tc:TT} {tb':TS} (hp:PassesOwn (model X.prog X.w) X.A X.env X.xe) (hc:JT X c tc) (hb:JB X body tb'):JS X (.While c body [] pos) (uLq tc tb'):=⟨t1q hp hc.run hb.run⟩
theorem zVq {tg iter:Expr} {body:List Stmt} {wi:TI} {g:TG} {tb':TS} (hp:PassesOwn (model X.prog X.w) X.A X.env X.xe) (hc:X.calm=true) (hi:JI X tg iter wi) (hg:JG X tg g) (hb:JB X body tb') (hs:∀ x,foldedSetIterable iter X.env x=pure x:=by intro _;rfl) :
    JS X (.For tg iter body [] pos) (tFor wi g tb'):=⟨aJ6q hp hc hi.run hg.run hb.run hs⟩
theorem v4q {scope:Scope} {N':List Str} {nt:Nat} {cap:List Nat} {elt iter tg:Expr} {wi:TI} {g:TG} (hc:X.calm=true) (ok:CompOk X scope N' nt cap) (hi:JI X tg iter wi) (hg:∀ C ex s H,JG (b9q X scope N' C ex s H) tg g) (he:∀ C ex s H,JE (b9q X scope N' C ex s H) elt te)
    (hs:∀ x,foldedSetIterable iter X.env x=pure x:=by intro _;rfl):JE X (.ListComp elt [⟨tg,iter,[],0⟩] scope pos) (p9q wi g te nt cap):=⟨xMq hc ok hi.run (λ C ex s H=>(hg C ex s H).run) (λ C ex s H=>(he C ex s H).run) hs⟩
end
theorem Fun.okJ {P:Program} {w:World} {K:PySem.W.Frag} {mg:Str->Option Value} {base:Heap} {x qual:Str} {st:Stmt} {f:Addr} {fd:FuncData} {N ps:List Str} {k:Nat} {sp:Sp} (F:Fun K x qual st f fd) (S:FnScope N ps (aDq st)) (len:∀ vs H Q E,sp vs H Q E->vs.length=ps.length)
    (hbody:∀ (cdv:Value) (A:Around) (outer:List Env) (s:Shared) (H:Hp) (vs:List V) (Q:VK) (E:XK),Room k (A.deeper (envOfC qual (aDq st) s.heap.objs.size f cdv))->sp vs H Q E →
      ∃ t,JB (tVq CX0 P w K mg base N qual (aDq st) f cdv A outer s H E).nox (c2q st) t/\t { nx:=λ _ H'=>Q .non H',rt:=Q } (eVq N vs) H):FnOk P w K mg base CX0 (k+1) f fd ps sp:=
  F.ok S len λ cdv A outer s H vs Q E hr h=>let ⟨t,j,q⟩:=hbody cdv A outer s H vs Q E hr h;⟨t,j.run,q⟩
section
variable {X:Cx} {scope:Scope} {N':List Str} {nt:Nat} {cap:List Nat} {elt iter tg:Expr} {pos:Pos} {wi:TI} {g:TG} {te:TE}
theorem nKq {y:Str} {py spos:Pos} {k:Nat} (hc:X.calm=true) (hN:X.N.Nodup) (hk:X.N[k]?=some y) (hy:Loc X.env.scope y) (c:CompOk X scope N' nt cap) (hi:PI X tg iter wi) (hg:∀ C ex s H,PG (b9q X scope N' C ex s H) tg g) (he:∀ C ex s H,PE (b9q X scope N' C ex s H) elt te)
    (hs:∀ x,foldedSetIterable iter X.env x=pure x:=by intro _;rfl) (hsw:swapsWith (.ListComp elt [⟨tg,iter,[],0⟩] scope pos) (some (.Name y py)) spos.line X.env=pure true:=by rfl) (hf:X.fn y=true\/X.env.scope.names.lookup y=some .local:=by first | exact .inl rfl | exact .inr rfl | assumption) :
    PS X (.Assign [.Name y py] (.ListComp elt [⟨tg,iter,[],0⟩] scope pos) spos) (y9q (p9q wi g te nt cap) (nDq k)):=by
  intro pins s σ H D0 I h
  rw [exec_Assign_Name_used _ _ _ _ hsw]
  refine wpAny_bind (wpAny_standAt (wpAny_bind ?_))
  show wpAny _ X.A (do let _ ← comprehension (.ListComp elt [⟨tg,iter,[],0⟩] scope pos) scope X.env _ (newList []) false (eval iter X.env) (some (assign (.Name y py) X.env))) _ _ s
  refine wpAny_bind (wpAny_mono (wpAny_comprehension_free (use:=some (assign (.Name y py) X.env)) (Q:=λ _ s'=>SP X pins D0 .next s') rfl hs (oVq (c.has I.ok)) c.kind c.locs (thn (hi pins s σ H _ I h) λ v s1 h1=>thn h1 λ itv s2 h2=>?_)) (λ _ s' hq=>wpAny_pure (wpAny_pure hq)) λ _ _ e=>e)
  obtain ⟨it,fp,tn,J,H2,rfl,I2,T,st2,f2,R⟩:=h2
  have hD:H2 s2.heap.objs.size=none:=I2.hok.fresh (Nat.le_refl _)
  obtain ⟨W,⟨m0,w0⟩,turn⟩:=R _ hD
  have I3:Inv X pins σ (upd H2 s2.heap.objs.size (.lst [])) { s2 with heap:=s2.heap.push { cls:=.type "list", dict:=none,data:=.seq ([]:List Value).toArray } }:=
    I2.laid (t':=s2.toks) (λ b u e=>Heap.get?_push_of_some _ e) (Nat.le_refl _) ⟨Nat.zero_le _,[],0,.nil,Heap.get?_push_size _ rfl⟩
  have fpLt:∀ b∈fp,b < s2.heap.objs.size:=λ b hb=>by
    obtain ⟨o,e,_⟩:=T.obj _ _ st2 b hb
    exact Heap.lt_size e
  have f3:∀ b∈fp,kDq X pins (upd H2 s2.heap.objs.size (.lst [])) b:=λ b hb=>⟨by rw [aUq (Nat.ne_of_lt (fpLt b hb))];exact (f2 b hb).1,(f2 b hb).2⟩
  have st3:tn 0 (s2.heap.push { cls:=.type "list", dict:=none,data:=.seq ([]:List Value).toArray }):=T.keep _ _ _ st2 λ b _ o e=>Heap.get?_push_of_some _ e
  generalize hh3:s2.heap.push { cls:=.type "list", dict:=none,data:=.seq ([]:List Value).toArray }=h3 at I3 st3
  have sz3:s2.heap.objs.size < h3.objs.size:=by rw [<- hh3,Heap.size_push];exact Nat.lt_succ_self _
  generalize hDD:s2.heap.objs.size=D at I3 f3 hD w0 turn sz3 fpLt
  refine wpAny_newObj_type ?_
  rw [hDD,hh3]
  refine wpAny_newFunctionEnv c.nocell (by intro y hy;simp at hy) (λ h4 hns4 hsb4=>?_) c.kind
  dsimp only at hns4 hsb4 ⊢
  have keep4:∀ b o,h3.get? b=some o->h4.get? b=some o:=λ b o e=>(hsb4.2 b (Nat.ne_of_lt (Heap.lt_size e))).trans (Heap.get?_push_of_some _ e)
  have I4:=I3.comp (t':=s2.toks+([]:List (Str × Value)).length) c f3 (λ b hb=>Nat.lt_trans (fpLt b hb) sz3) keep4 hns4
  have st4:tn 0 h4:=T.keep _ _ _ st3 λ b _ o e=>keep4 b o e
  dsimp only at I4
  have fin:∀ {σ':St} {H':Hp} {s':Shared},Inv (b9q X scope N' h3.objs.size fp { s2 with heap:=h3 } (upd H2 D (.lst []))) [] σ' H' s'->D0.nx (σ.set k (some (.ref D))) H' →
      compPost (model X.prog X.w) X.A X.xe (some (assign (.Name y py) X.env)) (λ _ s'=>SP X pins D0 .next s') (.ref D) h3.objs.size (.ok .next) s':=λ{σ' H' s'} J' q=>by
    obtain ⟨m,hn,hh⟩:=I3.uncomp rfl f3 J'
    have IX:Inv X pins σ H' s':=hh s'.heap (Heap.SameBut.refl ..)
    have hCL:h3.objs.size≠X.env.locals:=Nat.ne_of_gt I3.lt
    have hCc:∀ x a,X.env.cells.lookup x=some a->a≠h3.objs.size:=λ x a e=>by
      obtain ⟨v,z⟩:=I3.cell x a e
      exact Nat.ne_of_lt z.lt
    show wpAny _ X.A (assign (.Name y py) X.env (.ref D)) _ _ s'
    refine wpAny_assign_Name (jLq IX hN hk hy (v:=.ref D) rfl (λ s'' I'' hch=>?_) hf)
    obtain ⟨a,sb,ha⟩:=hch
    have hCa:h3.objs.size≠a:=by
      rcases ha with z | z
      . rw [z];exact hCL
      . exact (hCc _ _ z).symm
    refine ⟨m,hn.sameBut sb hCa,λ h' hs'=>⟨_,H',?_,q⟩⟩
    exact I''.turned (t':=s''.toks) (λ b o hb e=>(hs'.2 b hb).trans e) J'.free hCL (.inr I3.sz) hCc λ p hp z=>by
      have e:=(I3.pin p hp).1
      rw [z] at e
      exact absurd (Heap.lt_size e) (Nat.lt_irrefl _)
  have stat:∀ {H':Hp},(∀ b∈fp,H' b=none)->∀ b∈fp,kDq (b9q X scope N' h3.objs.size fp { s2 with heap:=h3 } (upd H2 D (.lst []))) [] H' b:=λ{H'} hn b hb=>by
    refine ⟨hn b hb,Nat.ne_of_lt (Nat.lt_trans (fpLt b hb) sz3),λ z=>?_,.inl hb,λ x a e=>(f3 b hb).2.2.2.2.1 x a (c.cells I.ok e),λ p hp=>absurd (show p∈([]:List (Addr × Obj)) from hp) (by simp)⟩
    rcases Yd.mp (I.stkSub b z) with y | y
    . exact (f3 b hb).2.1 y
    . exact (f3 b hb).2.2.1 y
  have loop:codeAny (model X.prog X.w) X.A (.compLoop (.ListComp elt [⟨tg,iter,[],0⟩] scope pos) 0 (.ref it) (.ref D) (compEnvC scope (d0q X.env.cells scope.names []) h3.objs.size X.env))
      (compPost (model X.prog X.w) X.A X.xe (some (assign (.Name y py) X.env)) (λ _ s'=>SP X pins D0 .next s') (.ref D) h3.objs.size) { s2 with heap:=h4,toks:=s2.toks+([]:List (Str × Value)).length }:=by
    refine codeAny_loop rfl (λ n s'=>∃ i ys σ' H',Inv (b9q X scope N' h3.objs.size fp { s2 with heap:=h3 } (upd H2 D (.lst []))) [] σ' H' s'/\tn i s'.heap/\(∀ b∈fp,H' b=none)/\W i n ys σ' H') (λ n s5 hI=>?_) m0 ⟨0,[],_,_,I4,st4,λ b hb=>(f3 b hb).1,w0⟩
    obtain ⟨i,ys,σ5,H5,I5,st5,fr5,w5⟩:=hI
    show wpAny _ X.A ((compTurn (.ListComp elt [⟨tg,iter,[],0⟩] scope pos) 0 (.ref it) (.ref D) (compEnvC scope (d0q X.env.cells scope.names []) h3.objs.size X.env)).onRaise (λ x=>do noteFrame x (compEnvC scope (d0q X.env.cells scope.names []) h3.objs.size X.env);theTreesLotGoes x)) _ _ s5
    refine wpAny_noted ?_
    rw [compTurn_list1]
    rcases turn i n ys σ5 H5 w5 with ⟨stop,qn⟩ | ⟨go,step⟩
    . refine wpAny_bind (wpAny_standAt (wpAny_bind (wpAny_mono (T.done (b9q X scope N' h3.objs.size fp { s2 with heap:=h3 } (upd H2 D (.lst []))) rfl rfl rfl hc i [] s5 σ5 H5 (λ _ _=>False) I5 (stat fr5) st5 stop) (λ r s6 ⟨hr,I6⟩=>?_) λ _ _ z=>z.elim)))
      subst hr
      exact wpAny_pure (fin I6 qn)
    . refine wpAny_bind (wpAny_standAt (wpAny_bind (wpAny_mono (T.item (b9q X scope N' h3.objs.size fp { s2 with heap:=h3 } (upd H2 D (.lst []))) rfl rfl rfl hc i [] s5 σ5 H5 (λ _ _=>False) I5 (stat fr5) st5 go) (λ r s6 ⟨u,hr,h6⟩=>?_) λ _ _ z=>z.elim)))
      subst hr
      refine wpAny_bind (wpAny_mono h6 (λ _ s7 ⟨x,H7,I7,r7,y7,st7,fr7⟩=>?_) λ _ _ z=>z.elim)
      have I7':=I7.pinned (stat fr7) (T.obj _ _ st7)
      refine wpAny_bind (wpAny_mono (hg _ _ _ _ _ s7 σ5 H7 x u _ I7' r7 (step x H7 y7)) (λ _ s8 ⟨σ8,H8,I8,q8⟩=>?_) λ _ _ z=>z.elim)
      refine wpAny_bind (wpAny_bind (wpAny_mono (he _ _ _ _ _ s8 σ8 H8 _ I8 q8) (λ yv s9 ⟨y,H9,I9,r9,e9,z9,m',hm',w9⟩=>?_) λ _ _ z=>z.elim))
      refine wpAny_bind (wpAny_mono (gKq (X:=b9q X scope N' h3.objs.size fp { s2 with heap:=h3 } (upd H2 D (.lst []))) _ s9 σ8 H9 (.ref D) [y] (.ref D) [yv] (λ v H10=>v=.non/\H10=upd H9 D (.lst (ys++[y]))) I9 rfl (.cons r9 .nil) ⟨D,ys,y,rfl,rfl,e9,z9,rfl,rfl⟩)
        (λ _ s10 ⟨v10,H10,I10,_,_,e10⟩=>?_) λ _ _ z=>z.elim)
      subst e10
      refine wpAny_pure (wpAny_pure ⟨rfl,m',hm',i+1,ys++[y],σ8,_,I10.unpinned,?_,λ b hb=>?_,w9⟩)
      . exact T.keep _ _ _ st7 λ b hb o e=>(I10.pin (b,o) (Yk _ (Yk _ (c7q hb e)))).1
      . obtain ⟨o,e,d⟩:=T.obj _ _ st7 b hb
        exact (I10.pin (b,o) (Yk _ (Yk _ (c7q hb e)))).2.1
  exact codeAny_compStart_list loop (T.self _ 0 _ _ _ st4 loop)
end
section
variable {X:Cx} {tg:Expr}
end
end L2
namespace L2
open PySem PySem.Spec PyProof.Rows Builtin
section
variable {X:Cx}
theorem m7q {us:List Value} {xs:List V} (r:Vals xs us):∀ k:Nat,Vals (Yp k xs).flatten (Yp k us).flatten
  | 0=>.nil
  | k+1=>by
    rw [YO,YO,Y3,Y3]
    exact r.append (m7q r k)
end
section
variable {X:Cx} {a b c e:Expr} {t:TA} {te:TE} {pos p:Pos}
variable {scope:Scope} {N':List Str} {nt:Nat} {cap:List Nat} {elt iter tg:Expr} {wi:TI} {g:TG}
theorem nQq {y:Str} {py spos:Pos} {k:Nat} (hc:X.calm=true) (hN:X.N.Nodup) (hk:X.N[k]?=some y) (hy:Loc X.env.scope y) (ok:CompOk X scope N' nt cap) (hi:JI X tg iter wi) (hg:∀ C ex s H,JG (b9q X scope N' C ex s H) tg g) (he:∀ C ex s H,JE (b9q X scope N' C ex s H) elt te)
    (hs:∀ x,foldedSetIterable iter X.env x=pure x:=by intro _;rfl) (hsw:swapsWith (.ListComp elt [⟨tg,iter,[],0⟩] scope pos) (some (.Name y py)) spos.line X.env=pure true:=by rfl) (hf:X.fn y=true\/X.env.scope.names.lookup y=some .local:=by first | exact .inl rfl | exact .inr rfl | assumption) :
    JS X (.Assign [.Name y py] (.ListComp elt [⟨tg,iter,[],0⟩] scope pos) spos) (y9q (p9q wi g te nt cap) (nDq k)):=⟨nKq hc hN hk hy ok hi.run (λ C ex s H=>(hg C ex s H).run) (λ C ex s H=>(he C ex s H).run) hs hsw hf⟩
end
structure FnV (P:Program) (w:World) (K:PySem.W.Frag) (mg:Str->Option Value) (base:Heap) (k:Nat) (f:Addr) (sp:Sp):Prop where
  ex:∃ (fd:FuncData) (ps:List Str),FnOk P w K mg base CX0 k f fd ps sp/\PySem.W.keepIn K (.ref f)=true/\Binds K fd ps []
theorem Got.fnV {P:Program} {w:World} {K:PySem.W.Frag} {mg:Str->Option Value} {base:Heap} {k:Nat} {x:Str} {ps:List Str} {sp:Sp} (G:Got P w K mg base k x ps sp):∃ f,mg x=some (.ref f)/\FnV P w K mg base k f sp:=by
  obtain ⟨f,fd,F,hm,kp,b⟩:=G.ex
  exact ⟨f,hm,fd,ps,F,kp,b⟩
theorem FnV.imp {P:Program} {w:World} {K:PySem.W.Frag} {mg:Str->Option Value} {base:Heap} {k:Nat} {f:Addr} {sp sp':Sp} (G:FnV P w K mg base k f sp) (h:∀ vs H Q E,sp' vs H Q E->sp vs H Q E):FnV P w K mg base k f sp':=by
  obtain ⟨fd,ps,F,kp,b⟩:=G.ex
  exact ⟨fd,ps,F.imp h,kp,b⟩
def u5q (i:Nat) (f:Addr) (sp:Sp) (t:TA):TE:=λ σ H Q=>σ[i]?=some (some (.ref f))/\tDq sp [] E0 t σ H Q
section
variable {X:Cx} {k j:Nat} {f:Addr} {x:Str} {sp:Sp} {p pos:Pos} {e:Expr} {es:List Expr} {t:TA}
theorem aU3q {i:Nat} (G:FnV X.prog X.w X.K X.mg X.base k f sp) (hr:Room j X.A) (hk:k<=j) (hN:X.N[i]?=some x) (hv:Vis X.env.scope x) (ha:PA X (e::es) t) (hd:(x==("__debug__" : Str))=false) (hcd:(x==("__classdict__" : Str))=false)
    (he:starEach (e::es) X.env=(false,eval e X.env)::starEach es X.env) (hpl:(backTo pos (starEach es X.env)).any (·.1)=false) :
    PE X (.Call (.Name x p) (e::es) [] pos) (u5q i f sp t):=by
  intro pins s σ H Q I h
  obtain ⟨e1,h⟩:=h
  obtain ⟨fd,ps,F,kp,b⟩:=G.ex
  refine wpAny_Call_Name_kw (thn (tZq (pos:=p) hN hv hd hcd pins s σ H (λ v H1=>v=.ref f/\H1=H) I ⟨_,e1,rfl,rfl⟩) λ u s1 ⟨v,H1,I1,r1,ev,eH⟩=>?_)
  subst ev eH
  obtain rfl:u=Value.ref f:=r1
  refine PySem.W.callWith_K (h₀:=X.base) I.ok.mod.kin kp (thn (ha pos pins s1 σ H1 _ I1 h) λ us s2 ⟨vs,H2,I2,r,q⟩=>⟨I2.kIn,?_⟩) he hpl
  exact uCq F (hr.mono hk) b .nil zPq I2 r q
theorem aU5q (i:Nat) (G:FnV X.prog X.w X.K X.mg X.base k f sp) (hr:Room j X.A) (hk:k<=j) (ha:JA X (e::es) t) (hN:X.N[i]?=some x:=by rfl) (hv:Vis X.env.scope x:=by first | exact Or.inl rfl | exact Or.inr (Or.inl rfl) | exact Or.inr (Or.inr rfl))
    (hd:(x==("__debug__" : Str))=false:=by decide) (hcd:(x==("__classdict__" : Str))=false:=by decide) (hs:(e::es).all bAq=true:=by rfl):JE X (.Call (.Name x p) (e::es) [] pos) (u5q i f sp t):=by
  have h:=hs
  rw [YB,Bool.and_eq_true] at h
  exact ⟨aU3q G hr hk hN hv ha.run hd hcd (aMq h.1) (bYq h.2)⟩
end
end L2
namespace KRv
open PySem PyProof.Rows
theorem own:Manifest.owners.lookup (String.ofList ['d', 'e', 's', 'r', 'e', 'v', 'e', 'r'].reverse)=some Manifest.sig_reversed:=by kernel_rfl
theorem sNext:Slot "reversed" "__next__" "reversed.__next__":=.of (owner:="reversed") (n:="__next__") (by rw [typeLookup_type,builtinLookup_eq_fast];kernel_rfl) (by decide +kernel) (by decide +kernel) (by decide +kernel) (by first | exact .inl (by decide +kernel) | exact .inr (by decide +kernel)) (by rw [isSubtype_type];kernel_rfl)
theorem zDq:Slot "reversed" "__iter__" "reversed.__iter__":=.of (owner:="reversed") (n:="__iter__") (by rw [typeLookup_type,builtinLookup_eq_fast];kernel_rfl) (by decide +kernel) (by decide +kernel) (by decide +kernel) (by first | exact .inl (by decide +kernel) | exact .inr (by decide +kernel)) (by rw [isSubtype_type];kernel_rfl)
theorem sHint:Slot "reversed" "__length_hint__" "reversed.__length_hint__":=.of (owner:="reversed") (n:="__length_hint__") (by rw [typeLookup_type,builtinLookup_eq_fast];kernel_rfl) (by decide +kernel) (by decide +kernel) (by decide +kernel) (by first | exact .inl (by decide +kernel) | exact .inr (by decide +kernel)) (by rw [isSubtype_type];kernel_rfl)
theorem aV6q:Slot "reversed" "__init__" "object.__init__":=.of (owner:="object") (n:="__init__") (by rw [typeLookup_type,builtinLookup_eq_fast];kernel_rfl) (by decide +kernel) (by decide +kernel) (by decide +kernel) (by first | exact .inl (by decide +kernel) | exact .inr (by decide +kernel)) (by rw [isSubtype_type];kernel_rfl)
theorem aH7q:entryFor table "reversed.__next__" = some Builtin.«reversed.__next__»:=entryFor_of_tree (by kernel_rfl)
theorem aS6q:entryFor table "reversed.__length_hint__" = some Builtin.«reversed.__length_hint__»:=entryFor_of_tree (by kernel_rfl)
theorem aU8q:entryFor table "reversed.__iter__" = some Builtin.«dict_keyiterator.__iter__»:=entryFor_alias (id':="dict_keyiterator.__iter__") (by kernel_rfl) (by first | rfl | decide +kernel | (unfold String.splitOn;simp +decide [String.splitOnAux])) (by decide +kernel) (by kernel_rfl)
theorem aE8q (a:Value):argsOk "reversed.__next__" ⟨[a],[]⟩:=by unfold argsOk;rw [signature?_of (id:="reversed.__next__") (n:=['_', '_', 't', 'x', 'e', 'n', '_', '_']) (o:=['d', 'e', 's', 'r', 'e', 'v', 'e', 'r']) (by kernel_rfl) own];kernel_rfl
theorem aT6q (a:Value):argsOk "reversed.__iter__" ⟨[a],[]⟩:=by unfold argsOk;rw [signature?_of (id:="reversed.__iter__") (n:=['_', '_', 'r', 'e', 't', 'i', '_', '_']) (o:=['d', 'e', 's', 'r', 'e', 'v', 'e', 'r']) (by kernel_rfl) own];kernel_rfl
theorem aV9q (a:Value):argsOk "reversed.__length_hint__" ⟨[a],[]⟩:=by unfold argsOk;rw [signature?_of (id:="reversed.__length_hint__") (n:=['_', '_', 't', 'n', 'i', 'h', '_', 'h', 't', 'g', 'n', 'e', 'l', '_', '_']) (o:=['d', 'e', 's', 'r', 'e', 'v', 'e', 'r']) (by kernel_rfl) own];kernel_rfl
theorem aB2q:TypeCalled "reversed" "reversed.__new__" "object.__init__":=⟨by decide +kernel,by decide +kernel,⟨_,_,F.mro_reversed⟩,F.made_reversed,by decide +kernel,by rw [isSubtype_type];kernel_rfl,aV6q⟩
theorem aP7q:typeLookup (.type "reversed") "__len__" = pure none:=by rw [typeLookup_type,builtinLookup_eq_fast];kernel_rfl
theorem aQ8q:typeLookup (.type "tuple") "__reversed__" = pure none:=by rw [typeLookup_type,builtinLookup_eq_fast];kernel_rfl
theorem yGq:isSubtype (.type "tuple") (.type "dict")=pure false:=by rw [isSubtype_type];kernel_rfl
abbrev IsRev (h:Heap) (it t:Addr) (k:Int):Prop:=h.get? it=some { cls:=.type "reversed", dict:=none,data:=.fields #[.ref t,rawInt k],slots:=#[] }
section
variable {prog:Program} {w:World} {A:Around} {E:Value->Shared->Prop} {s:Shared} {it t:Addr}
theorem aT5q {α:Type} {Q:α->Shared->Prop} (hh:A.handled=none) (h:∀ h' e,(∀ b o,s.heap.get? b=some o->h'.get? b=some o)->Shared.TypeIs { s with heap:=h' } (.ref e) "StopIteration"->E (.ref e) { s with heap:=h' }):wpAny (model prog w) A (Builtin.SmallTypes.stopIteration:Sem α) Q E s:=by
  unfold Builtin.SmallTypes.stopIteration
  refine wpAny_bind ?_
  unfold newExc newTuple
  refine wpAny_bind (wpAny_newObj_type ?_ (by size_fits))
  rw [show firstArgMember (.type "StopIteration") []=pure Value.none from by unfold firstArgMember;rfl,pure_bind]
  refine wpAny_newObj_type ?_ (by size_fits)
  unfold raiseNew
  refine wpAny_bind (wpAny_handled ?_)
  rw [hh]
  exact wpAny_throw (h _ _ (λ b o e=>Heap.get?_push_of_some _ (Heap.get?_push_of_some _ e)) ⟨_,Heap.get?_push_size _ rfl,rfl⟩)
theorem iterT {k:Int} {Q:Value->Shared->Prop} (hit:IsRev s.heap it t k) (h:Q (.ref it) s):wpAny (model prog w) A (pyIter (.ref it)) Q E s:=
  have hT:s.TypeIs (.ref it) "reversed":=⟨_,hit,rfl⟩
  wpAny_pyIter_slot hT zDq (wpAny_call_entry zDq hT aU8q (wpAny_pure ⟨_,rfl,"reversed", _,hT,sNext.lookup,h⟩) (aT6q _))
theorem nextT {k:Nat} {items:Array Value} {x:Value} {Q:Option Value->Shared->Prop} (hit:IsRev s.heap it t k) (ht:IsTup s.heap t items) (hx:items[k]?=some x) (hk:(k:Int) < 2 ^ 63)
    (hQ:∀ h' tk,IsRev h' it t ((k:Int) - 1)->Heap.SameBut it s.heap h'->Q (some x) { s with heap:=h',toks:=tk }):wpAny (model prog w) A (pyNext (.ref it)) Q E s:=by
  have hT:s.TypeIs (.ref it) "reversed":=⟨_,hit,rfl⟩
  have hlt:k < items.size:=(Array.getElem?_eq_some_iff.mp hx).1
  unfold pyNext
  refine wpAny_bind (wpAny_attempt (wpAny_callSpecial?_slot hT sNext (wpAny_call_entry sNext hT aH7q ?_ (aE8q _))))
  refine (show wpAny (model prog w) A.in1 (field (.ref it) 0 >>= _) _ _ s from wpAny_bind (wpAny_field hit rfl (x:=.ref t) rfl ?_))
  refine (show wpAny (model prog w) A.in1 (field (.ref it) 1 >>= _) _ _ s from wpAny_bind (wpAny_field hit rfl (x:=rawInt k) rfl ?_))
  refine (show wpAny (model prog w) A.in1 (if (k:Int) < 0 then _ else _) _ _ s from ?_)
  rw [if_neg (by omega)]
  refine wpAny_bind (wpAny_specialOf ht.typeIs slot_tuple_getitem.lookup ?_)
  rw [if_neg (by simp)]
  refine (show wpAny (model prog w) A.in1 (mkInt k >>= _) _ _ s from wpAny_bind (wpAny_mkInt ?_))
  refine wpAny_bind (wpAny_attempt (getItem_tuple (j:=k) (x:=x) (s:={ s with toks:=s.toks+1 }) ht (by omega) hk (by simp [seqIndex?];omega) hx ?_))
  refine (show wpAny (model prog w) A.in1 (field (.ref it) 1 >>= _) _ _ _ from wpAny_bind (wpAny_field hit rfl (x:=rawInt k) rfl ?_))
  exact wpAny_bind (wpAny_setField hit rfl (by simp) (wpAny_pure ⟨x,rfl,wpAny_pure (hQ _ _ (Heap.get?_update_self _ hit rfl) (Heap.SameBut.update ..))⟩))
theorem endT {k:Int} {Q:Option Value->Shared->Prop} (hh:A.handled=none) (hit:IsRev s.heap it t k) (hk:k < 0) (hQ:∀ h',Heap.ExtBut it s.heap h'->Q none { s with heap:=h' }):wpAny (model prog w) A (pyNext (.ref it)) Q E s:=by
  have hT:s.TypeIs (.ref it) "reversed":=⟨_,hit,rfl⟩
  unfold pyNext
  refine wpAny_bind (wpAny_attempt (wpAny_callSpecial?_slot hT sNext (wpAny_call_entry sNext hT aH7q ?_ (aE8q _))))
  refine (show wpAny (model prog w) A.in1 (field (.ref it) 0 >>= _) _ _ s from wpAny_bind (wpAny_field hit rfl (x:=.ref t) rfl ?_))
  refine (show wpAny (model prog w) A.in1 (field (.ref it) 1 >>= _) _ _ s from wpAny_bind (wpAny_field hit rfl (x:=rawInt k) rfl ?_))
  refine (show wpAny (model prog w) A.in1 (if k < 0 then _ else _) _ _ s from ?_)
  rw [if_pos hk]
  refine wpAny_bind (wpAny_rule (wpAny_bind ?_))
  refine (show wpAny (model prog w) A.in1 (setField (.ref it) 1 (rawInt (-1)) >>= λ _=>setField (.ref it) 0 .none) _ _ s from wpAny_bind (wpAny_setField hit rfl (by simp) ?_))
  refine wpAny_setField (Heap.get?_update_self (Obj.mapFields (·.setIfInBounds 1 (rawInt (-1)))) hit rfl) rfl (by simp) ?_
  refine wpAny_bind (aT5q (A:=A.in1) hh λ h' e kk hs=>?_)
  refine wpAny_bind (wpAny_isInstance (T:="StopIteration") (b:=true) hs isSubtype_stop (wpAny_pure (hQ _ λ b o hb e=>kk b o ?_)))
  exact ((Heap.SameBut.update ..).trans (Heap.SameBut.update ..)).extBut b o hb e
theorem aU4q {k:Int} {items:Array Value} {Q:Value->Shared->Prop} (hit:IsRev s.heap it t k) (ht:IsTup s.heap t items) (hz:(items.size:Int) < 2 ^ 63) (hk:k+1=items.size)
    (h:∀ u tk,s.toks<=tk->Q (.int (items.size:Int) u) { s with toks:=tk }):wpAny (model prog w) A (call (.builtin "reversed.__length_hint__") [.ref it]) Q E s:=by
  have hT:s.TypeIs (.ref it) "reversed":=⟨_,hit,rfl⟩
  refine wpAny_call_entry sHint hT aS6q ?_ (aV9q _)
  refine (show wpAny (model prog w) A.in1 (field (.ref it) 0 >>= _) _ _ s from wpAny_bind (wpAny_field hit rfl (x:=.ref t) rfl ?_))
  refine (show wpAny (model prog w) A.in1 (if (Value.ref t==Value.none)=true then _ else _) _ _ s from ?_)
  rw [if_neg (show ¬ ((Value.ref t==Value.none)=true) from Bool.false_ne_true)]
  refine (show wpAny (model prog w) A.in1 (call (.builtin "len") [.ref t] >>= _) _ _ s from wpAny_bind (len_tuple ht hz ?_))
  refine wpAny_bind (m:=asInt? (.int (items.size:Int) _)) (wpAny_pure ?_)
  refine (show wpAny (model prog w) A.in1 (field (.ref it) 1 >>= _) _ _ _ from wpAny_bind (wpAny_field hit rfl (x:=rawInt k) rfl ?_))
  refine (show wpAny (model prog w) A.in1 (if (items.size:Int) < k+1 then _ else _) _ _ _ from ?_)
  rw [if_neg (by omega),hk]
  exact wpAny_bind (wpAny_mkInt (wpAny_pure ⟨_,rfl,h _ _ (by simp;omega)⟩))
end
theorem newT (t:Addr) (items:Array Value) (hz:(items.size:Int) < 2 ^ 63) :
    Meets (Builtin.«reversed.__new__» ⟨[.type "reversed", .ref t],[]⟩) (λ _ R s=>IsTup s.heap t items ∧
      ∀ tk,R (.ok (.ret (.ref s.heap.objs.size))) { s with heap:=s.heap.push { cls:=.type "reversed", data:=.fields #[.ref t,rawInt ((items.size:Int) - 1)] },toks:=tk }):=
  .of_wp λ prog w A R s ⟨ht,h⟩=>by
    unfold Builtin.«reversed.__new__»
    refine wpAny_bind (wpAny_of_eq (newClass_reversed _) (wpAny_bind (m:=Builtin.SmallTypes.refuseKeywords _ _ _) (wpAny_pure ?_)))
    refine wpAny_bind (wpAny_of_eq (a:=()) (by rfl) (wpAny_bind (wpAny_specialOf ht.typeIs aQ8q (wpAny_bind ?_))))
    refine (show wpAny (model prog w) A.in1 (isInstance (Value.ref t) (.type "dict") >>= _) _ _ s from wpAny_bind (wpAny_isInstance (T:="tuple") (b:=false) ht.typeIs yGq ?_))
    rw [if_neg (by decide)]
    refine wpAny_bind (wpAny_specialOf ht.typeIs slot_tuple_getitem.lookup ?_)
    refine (show wpAny (model prog w) A.in1 (if (["tuple.__getitem__", "str.__getitem__", "bytes.__getitem__", "bytearray.__getitem__", "memoryview.__getitem__", "numpy.ndarray.__getitem__", "sqlite3.Row.__getitem__"].contains "tuple.__getitem__")=true then _ else _) _ _ s from ?_)
    rw [if_pos (by decide)]
    refine wpAny_pure ?_
    rw [if_neg (by decide)]
    refine (show wpAny (model prog w) A.in1 (call (.builtin "len") [.ref t] >>= _) _ _ s from wpAny_bind (len_tuple ht hz ?_))
    refine wpAny_bind (m:=asInt? (.int (items.size:Int) _)) (wpAny_pure ?_)
    refine (show wpAny (model prog w) A.in1 (newObj (.type "reversed") (.fields #[.ref t,rawInt ((items.size:Int) - 1)]) >>= _) _ _ _ from wpAny_bind (wpAny_newObj_type ?_ (by size_fits)))
    exact wpAny_pure ⟨_,rfl,h _⟩
theorem callT {prog:Program} {w:World} {A:Around} {E:Value->Shared->Prop} {s:Shared} {t:Addr} {items:Array Value} {Q:Value->Shared->Prop} (ht:IsTup s.heap t items) (hz:(items.size:Int) < 2 ^ 63)
    (h:∀ tk,Q (.ref s.heap.objs.size) { s with heap:=s.heap.push { cls:=.type "reversed", data:=.fields #[.ref t,rawInt ((items.size:Int) - 1)] },toks:=tk }):wpAny (model prog w) A (call (.type "reversed") [.ref t]) Q E s:=
  callType_new aB2q (by decide) (F.typeCall_reversed_1 _) (F.newCall_reversed_1 _) (λ obj=>F.args_object_init_2 obj _) F.entry_reversed_new (newT t items hz) ⟨ht,λ tk=>⟨⟨_,Heap.get?_push_size _ rfl,rfl⟩,h tk⟩⟩
theorem aR8q {prog:Program} {w:World} {A:Around} (hh:A.handled=none) (I t:Addr) (hne:t≠I) (items:Array Value) (hz:(items.size:Int) < 2 ^ 63) :
    Walks prog w A I [I,t] [I] items.size (λ i v=>items[items.size - 1 - i]?=some v) (λ i h=>IsRev h I t ((items.size:Int) - 1 - i)/\IsTup h t items) where
  sub:=λ b hb=>by rw [List.mem_singleton.mp hb];exact Ya
  frame:=λ _ _ _ st hk=>⟨hk I (by simp) _ st.1,let ⟨o,ho,r⟩:=st.2;⟨o,hk t (by simp) _ ho,r⟩⟩
  item:=λ i s Q E hi st hQ=>by
    have st1:IsRev s.heap I t ((items.size - 1 - i:Nat):Int):=by rw [show ((items.size - 1 - i:Nat):Int)=(items.size:Int) - 1 - i by omega];exact st.1
    refine nextT st1 st.2 (x:=items[items.size - 1 - i]) (by simp<;>omega) (by omega) λ h' tk hit' hs'=>?_
    rw [show ((items.size - 1 - i:Nat):Int) - 1=(items.size:Int) - 1 - ((i+1:Nat):Int) by omega] at hit'
    exact hQ _ h' tk (by simp<;>omega) ⟨hit',st.2.extBut hs'.extBut hne⟩ λ b o hb e=>hs'.extBut b o (λ z=>hb (List.mem_singleton.mpr z)) e
  done:=λ s Q E st hQ=>endT hh st.1 (by omega) λ h' he=>hQ h' s.toks λ b o hb e=>he b o (λ z=>hb (List.mem_singleton.mpr z)) e
  self:=λ i s Q E st h=>iterT st.1 h
def aK0q (prog:Program) (w:World) (A:Around) (I:Addr) (St:Nat->Shared->Prop):Prop:=
  ∀ (s:Shared) (Q:Bool->Shared->Prop) (E:Value->Shared->Prop),St 0 s->(∀ b tk,s.toks<=tk->Q b { s with toks:=tk })->wpAny (model prog w) A (Builtin.List.listLengthHint (.ref I)) Q E s
structure It (prog:Program) (w:World) (A:Around) (I:Addr) (fp wr:List Addr) (n:Nat) (P:Nat->Value->Prop) (St:Nat->Shared->Prop):Prop where
  walk:WalksS prog w A I fp wr (λ a b=>b=a) n P St
  ty:∃ T,(Value.type T==Value.type "list")=false/\(Value.type T==Value.type "tuple")=false/\∀ i s,St i s->s.TypeIs (.ref I) T
  hint:aK0q prog w A I St
  mem:I∈fp
  few:n<=sizeLine
section
variable {prog:Program} {w:World} {A:Around} {E:Value->Shared->Prop} {s:Shared} {R:Result->Shared->Prop} {I S:Addr} {fp wr:List Addr} {n:Nat} {P:Nat->Value->Prop} {St:Nat->Shared->Prop}
abbrev listAt (acc:Array Value) (c:Nat):Obj:={ cls:=.type "list", dict:=none,data:=.seq acc c,slots:=#[] }
theorem aS3q (J:It prog w A.in1 I fp wr n P St) (res:Value) (c₀:Nat) (hst:St 0 s) (hSf:S ∉ fp) (hS:s.heap.get? S=some (listAt #[] c₀))
    (hR:∀ s' acc c,Moved (S::wr) (λ a b=>b=a) s s'->s'.heap.get? S=some (listAt acc c)->ItemsOf P acc n->R (.ok (.ret res)) s') :
    wpAny (model prog w) A.in1 (Builtin.List.listExtendWith (.ref S) (.ref I) res)
      (λ fin s'=>match fin with | .done f=>R (.ok f) s' | .again c'=>c'.quiet=true/\codeAny (model prog w) A c' R s') (λ e s'=>R (.error e) s') s:=by
  obtain ⟨T,t1,t2,hT⟩:=J.ty
  have W:=J.walk
  have h1:Builtin.List.listSameRef (.ref S) (.ref I)=false:=by
    have:S≠I:=λ e=>hSf (e ▸ J.mem)
    simp [Builtin.List.listSameRef,this]
  unfold Builtin.List.listExtendWith
  refine wpAny_bind (wpAny_typeOf (hT 0 _ hst) ?_)
  rw [h1,t1,t2,Bool.or_false,Bool.or_false,if_neg Bool.false_ne_true]
  refine wpAny_bind (W.self 0 _ _ _ hst (wpAny_bind (wpAny_holding (J.hint _ _ _ hst λ b tk htk=>?_))))
  have go:∀ (h':Heap) (c:Nat),(∀ b o,b≠S->s.heap.get? b=some o->h'.get? b=some o)->h'.get? S=some (listAt #[] c) →
      codeAny (model prog w) A (.builtin "list.extend.loop" ⟨[.ref S,.ref I,res],[]⟩) R { s with heap:=h',toks:=tk }:=λ h' c kk e=>
    codeAny_extend_loopS W J.few _ hSf _ n 0 _ _ _ rfl (Nat.zero_le _) (W.frame 0 s h' tk hst htk λ b hb o e=>kk b o (λ z=>hSf (z ▸ hb)) e) e (ItemsOf.nil P) λ s' acc c' hm hS' hacc=>
      hR s' acc c' (Moved.trans (s':={ s with heap:=h',toks:=tk }) W.gtrans ⟨λ b o hb e=>kk b o (λ z=>hb (by rw [z];exact Ya)) e,rfl,rfl,rfl,htk⟩ hm) hS' hacc
  refine wpAny_ite_split (λ _=>wpAny_bind (wpAny_rule (wpAny_bind ?_))) (λ _=>wpAny_pure ⟨plainId_quiet F.plain_extend_loop _,go _ _ (λ _ _ _ e=>e) hS⟩)
  refine (show wpAny (model prog w) A.in1 (updateSeq S (·.push .none) >>= λ _=>updateSeq S (·.pop)) _ _ _ from wpAny_bind (wpAny_updateSeq hS rfl ?_))
  have e2:=Heap.get?_update_self (Obj.mapSeq (·.push Value.none)) hS rfl
  refine wpAny_updateSeq (hz:=by seq_fits) e2 rfl (wpAny_pure ⟨plainId_quiet F.plain_extend_loop _,go _ _ (λ b o hb e=>?_) (Heap.get?_update_self (Obj.mapSeq (·.pop)) e2 rfl)⟩)
  exact (Heap.get?_update_other _ _ (Ne.symm hb)).trans ((Heap.get?_update_other _ _ (Ne.symm hb)).trans e)
theorem listOf {Q:Value->Shared->Prop} (J:It prog w A.in1.in1 I fp wr n P St) (hst:St 0 s) (hfp:∀ b∈fp,b < s.heap.objs.size)
    (hQ:∀ s' acc c,Moved (s.heap.objs.size::wr) (λ a b=>b=a) { s with heap:=s.heap.push (listAt #[] 0) } s'->s'.heap.get? s.heap.objs.size=some (listAt acc c)->ItemsOf P acc n->Q (.ref s.heap.objs.size) s') :
    wpAny (model prog w) A (call (.type "list") [.ref I]) Q E s:=by
  have hSf:s.heap.objs.size ∉ fp:=λ hm=>Nat.lt_irrefl _ (hfp _ hm)
  refine callType_codes (Q₁:=λ obj s₁=>obj=.ref s.heap.objs.size/\s₁={ s with heap:=s.heap.push (listAt #[] 0) }) F.called_list (F.typeCall_list_1 _) F.entry_list_init (code_list_new _ ⟨rfl,rfl⟩) ?_
  rintro obj s₁ ⟨rfl,rfl⟩
  have hS:(s.heap.push (listAt #[] 0)).get? s.heap.objs.size=some (listAt #[] 0):=Heap.get?_push_size _ rfl
  refine ⟨⟨_,hS,rfl⟩,F.args_list_init_2 _ _,?_⟩
  refine (show wpAny (model prog w) A.in1.in1 (Builtin.List.listItems (.ref s.heap.objs.size) >>= λ old=>Builtin.List.listUpdate (.ref s.heap.objs.size) (λ _=>#[]) >>= λ _=>letGo old.toList.reverse >>= λ _=>Builtin.List.listExtendWith (.ref s.heap.objs.size) (.ref I) .none) _ _ _ from wpAny_bind ?_)
  unfold Builtin.List.listItems
  refine wpAny_bind (wpAny_seqItems hS rfl (wpAny_pure ?_))
  refine (show wpAny (model prog w) A.in1.in1 (updateSeq s.heap.objs.size (λ _=>#[]) >>= λ _=>letGo (#[]:Array Value).toList.reverse >>= λ _=>Builtin.List.listExtendWith (.ref s.heap.objs.size) (.ref I) .none) _ _ _ from wpAny_bind (wpAny_updateSeq hS rfl (wpAny_bind (wpAny_letGo ?_))))
  have kk:∀ b o,b≠s.heap.objs.size->(s.heap.push (listAt #[] 0)).get? b=some o->((s.heap.push (listAt #[] 0)).update s.heap.objs.size (Obj.mapSeq (λ _=>(#[]:Array Value)))).get? b=some o:=λ b o hb e=>(Heap.get?_update_other _ _ (Ne.symm hb)).trans e
  refine aS3q (A:=A.in1) J .none _ (J.walk.frame 0 s _ s.toks hst (Nat.le_refl _) λ b hb o e=>kk b o (λ z=>hSf (z ▸ hb)) (Heap.get?_push_of_some _ e)) hSf (Heap.get?_update_self (Obj.mapSeq (λ _=>(#[]:Array Value))) hS rfl) λ s' acc c hm hS' hacc=>⟨rfl,hQ s' acc c ?_ hS' hacc⟩
  exact Moved.trans (s':={ s with heap:=(s.heap.push (listAt #[] 0)).update s.heap.objs.size (Obj.mapSeq (λ _=>(#[]:Array Value))) }) J.walk.gtrans ⟨λ b o hb e=>kk b o (λ z=>hb (by rw [z];exact Ya)) e,rfl,rfl,rfl,Nat.le_refl _⟩ hm
theorem aA0q {t:Addr} {items:Array Value} (hz:items.size<=sizeLine):aK0q prog w A I (λ i s=>IsRev s.heap I t ((items.size:Int) - 1 - i)/\IsTup s.heap t items):=by
  intro s Q E st h
  have hT:s.TypeIs (.ref I) "reversed":=⟨_,st.1,rfl⟩
  have hl:=sizeLine_eq
  unfold Builtin.List.listLengthHint
  refine wpAny_bind (wpAny_specialOf hT aP7q ?_)
  refine (show wpAny (model prog w) A (specialOf (Value.ref I) (Str.ofString "__length_hint__") >>= _) _ _ _ from wpAny_bind (wpAny_specialOf hT sHint.lookup ?_))
  (generalize hid:("reversed.__length_hint__" : String)=id0;(fail_if_success (clear hid id0));wp_delta;rw [show splitId id0=some ("reversed", "__length_hint__") from by subst hid;decide +kernel];subst hid)
  refine wpAny_bind (wpAny_isInstance (b:=true) hT (by rw [isSubtype_type];kernel_rfl) ?_)
  rw [if_neg (by decide)]
  refine wpAny_ite_split (λ hab=>absurd hab (by decide +kernel)) (λ _=>wpAny_bind (wpAny_rule (wpAny_bind (wpAny_of_eq (sHint.bind _) ?_))))
  refine (show wpAny (model prog w) A ((call (.builtin "reversed.__length_hint__") [.ref I]).attempt >>= _) _ _ _ from wpAny_bind (wpAny_attempt (aU4q (items:=items) st.1 st.2 (by omega) (by omega) λ u tk htk=>?_)))
  dsimp only
  have ha:∀ (n:Int) (u:Tok),asInt? (Value.int n u)=pure (some n):=λ _ _=>rfl
  have h1:Builtin.List.listFitsIndex (items.size:Int)=true:=by
    unfold Builtin.List.listFitsIndex
    simp only [Bool.and_eq_true,decide_eq_true_eq]
    omega
  have h2:Builtin.List.listTooLong ((items.size:Int)).toNat=false:=by simp [Builtin.List.listTooLong,sizeLine];omega
  rw [ha,pure_bind]
  dsimp only
  rw [h1,h2,if_neg (by decide),if_neg (by omega),if_neg (by decide)]
  exact wpAny_pure (h _ _ htk)
end
theorem moved_eq {wr:List Addr} {s s':Shared} (hm:Moved wr (λ a b=>b=a) s s'):s'={ s with heap:=s'.heap,toks:=s'.toks }:=by
  obtain ⟨h',g',d',tk',os'⟩:=s'
  cases (show g'=s.gens from hm.gens)
  cases (show d'=s.drawn from hm.drawn)
  cases (show os'=s.os from hm.os)
  rfl
theorem back {its:List Value} {acc:Array Value} (h:ItemsOf (λ i v=>its.toArray[its.toArray.size - 1 - i]?=some v) acc its.toArray.size):acc.toList=its.reverse:=by
  obtain ⟨hs0,hp⟩:=h
  have hs:acc.size=its.length:=by simpa using hs0
  apply List.ext_getElem?
  intro i
  by_cases hi:i < its.length
  . have h1:i < acc.size:=by omega
    have e:=hp i acc[i] (by simp [h1])
    rw [Zg hi,Array.getElem?_toList,Array.getElem?_eq_getElem h1,<- e]
    simp
  . rw [YX (by rw [Array.length_toList];omega),YX (by rw [Ym];omega)]
theorem itT {prog:Program} {w:World} {A:Around} {I t:Addr} {items:Array Value} (hh:A.handled=none) (hne:t≠I) (hz:items.size<=sizeLine) :
    It prog w A I [I,t] [I] items.size (λ i v=>items[items.size - 1 - i]?=some v) (λ i s=>IsRev s.heap I t ((items.size:Int) - 1 - i)/\IsTup s.heap t items) where
  walk:=(aR8q hh I t hne items (by have:=sizeLine_eq;omega)).toS
  ty:=⟨"reversed", by decide,by decide,λ _ _ st=>⟨_,st.1,rfl⟩⟩
  hint:=aA0q hz
  mem:=by simp
  few:=hz
end KRv
namespace L2
open PySem PySem.Spec PyProof.Rows
section
variable {X:Cx} {e:Expr} {te:TE} {p p2 pos pos2:Pos}
def RevT (X:Cx) (pins:List (Addr × Obj)) (σ:St) (R:Addr->List V->Hp->Prop) (v:Value) (s:Shared):Prop:=
  ∃ (a it:Addr) (xs:List V) (its:List Value) (H:Hp),v=.ref it/\Inv X pins σ H s/\KRv.IsRev s.heap it a ((its.toArray.size:Int) - 1)/\IsTup s.heap a its.toArray/\a≠it/\Vals xs its/\its.toArray.size<=sizeLine/\SqT X.K H a xs/\kDq X pins H it/\R a xs H
def RevL (X:Cx) (pins:List (Addr × Obj)) (σ:St) (R:Addr->List V->Hp->Prop) (v:Value) (s:Shared):Prop:=
  ∃ (a it:Addr) (xs:List V) (its:List Value) (H:Hp),v=.ref it/\Inv X pins σ H s/\s.heap.IsRevIter it a ((its.toArray.size:Int) - 1)/\s.heap.IsList a its.toArray/\a≠it/\Vals xs its/\its.toArray.size<=sizeLine/\SqL X.K H a xs/\kDq X pins H it/\R a xs H
theorem oOq {pins:List (Addr × Obj)} {s:Shared} {σ:St} {H:Hp} {R:Addr->List V->Hp->Prop} (hg:Gl X "reversed") (hm:X.mg "reversed" = none) (he:PE X e te) (hs:bAq e=true) (I:Inv X pins σ H s)
    (h:te σ H λ x H1=>∃ a xs,x=.ref a/\SqT X.K H1 a xs/\R a xs H1):wpAny (model X.prog X.w) X.A (eval (.Call (.Name "reversed" p2) [e] [] pos2) X.env) (RevT X pins σ R) X.xe s:=by
  refine wpAny_Call_Name_kw (e3q I hg hm PyProof.Rows.boot_reversed ?_)
  refine PyProof.Rows.callWith_type1 ?_ (aMq hs) rfl
  rw [aMq hs]
  show wpAny _ _ (spliced ((false,eval e X.env)::backTo pos2 (starEach [] X.env))) _ _ s
  refine Calls.spliced_cons (thn (he pins s σ H _ I h) λ u s1 ⟨x,H1,I1,r1,a,xs,ex,hq,q⟩=>Calls.spliced_nil ?_)
  subst ex
  cases r1
  obtain ⟨its,rv,pl,hz⟩:=I1.tuple hq
  have hl:=rv.length
  have h63:=dYq
  refine KRv.callT pl (by rw [Ye];omega) λ tk=>?_
  exact ⟨a,s1.heap.objs.size,xs,its,H1,rfl,I1.kept λ b o e=>Heap.get?_push_of_some _ e,Heap.get?_push_size _ rfl,pl.push _,Nat.ne_of_lt pl.lt,rv,by rw [Ye];omega,hq,I1.fpOk (Nat.le_refl _) (I1.hok.fresh (Nat.le_refl _)),q⟩
theorem x9q {pins:List (Addr × Obj)} {s:Shared} {σ:St} {H:Hp} {R:Addr->List V->Hp->Prop} (hg:Gl X "reversed") (hm:X.mg "reversed" = none) (he:PE X e te) (hs:bAq e=true) (I:Inv X pins σ H s)
    (h:te σ H λ x H1=>∃ a xs,x=.ref a/\SqL X.K H1 a xs/\R a xs H1):wpAny (model X.prog X.w) X.A (eval (.Call (.Name "reversed" p2) [e] [] pos2) X.env) (RevL X pins σ R) X.xe s:=by
  refine wpAny_Call_Name_kw (e3q I hg hm PyProof.Rows.boot_reversed ?_)
  refine PyProof.Rows.callWith_type1 ?_ (aMq hs) rfl
  rw [aMq hs]
  show wpAny _ _ (spliced ((false,eval e X.env)::backTo pos2 (starEach [] X.env))) _ _ s
  refine Calls.spliced_cons (thn (he pins s σ H _ I h) λ u s1 ⟨x,H1,I1,r1,a,xs,ex,hq,q⟩=>Calls.spliced_nil ?_)
  subst ex
  cases r1
  obtain ⟨its,rv,pl,hz⟩:=I1.list hq
  have hl:=rv.length
  have hlt:a < s1.heap.objs.size:=by obtain ⟨o,ho,_⟩:=pl.isList;exact Heap.lt_size ho
  refine call_reversed_list pl.isList ?_
  exact ⟨a,s1.heap.objs.size,xs,its,H1,rfl,I1.kept (t':=s1.toks) λ b o e=>Heap.get?_push_of_some _ e,⟨_,Heap.get?_push_size _ rfl,rfl,rfl⟩,let ⟨o,ho,r⟩:=pl.isList;⟨o,Heap.get?_push_of_some _ ho,r⟩,Nat.ne_of_lt hlt,rv,by rw [Ye];omega,hq,I1.fpOk (Nat.le_refl _) (I1.hok.fresh (Nat.le_refl _)),q⟩
theorem wSq {pins:List (Addr × Obj)} {σ:St} {H:Hp} {s s':Shared} {it:Addr} {acc:Array Value} {c:Nat} {ys:List V} {Q:VK} (I:Inv X pins σ H s) (fp:kDq X pins H it) (hit:it < s.heap.objs.size)
    (hm:Moved (s.heap.objs.size::[it]) (λ a b=>b=a) { s with heap:=s.heap.push (KRv.listAt #[] 0) } s') (hS:s'.heap.get? s.heap.objs.size=some (KRv.listAt acc c))
    (rv:Vals ys acc.toList) (hz:ys.length<=sizeLine) (q:∀ l,H l=none->Q (.ref l) (upd H l (.lst ys))):EP X pins σ Q (.ref s.heap.objs.size) s':=by
  have I2:Inv X pins σ (upd H s.heap.objs.size (.lst ys)) { s with heap:=s.heap.push { cls:=.type "list", dict:=none,data:=.seq acc c,slots:=#[] } }:=
    I.laid (t':=s.toks) (λ b o e=>Heap.get?_push_of_some _ e) (Nat.le_refl _) (show ObjOk X.prog X.w _ _ _ (.lst ys) from ⟨hz,acc.toList,c,rv,by simpa using Heap.get?_push_size s.heap (o:={ cls:=.type "list", dict:=none,data:=.seq acc c,slots:=#[] }) rfl⟩)
  obtain ⟨f0,f1,f2,f3,f4,f5⟩:=fp
  have I3:=I2.turned (h':=s'.heap) (t':=s'.toks) (it:=it) (λ b o hb e=>?_) (by rw [aUq (Nat.ne_of_lt hit)];exact f0) f1 f3 f4 f5
  . rw [KRv.moved_eq hm]
    exact ⟨.ref s.heap.objs.size,_,I3,rfl,q _ (I.hok.fresh (Nat.le_refl _))⟩
  . rcases Heap.get?_push_cases e with ⟨z1,z2⟩ | e
    . rw [z1,z2];exact hS
    . refine hm.heap b o (λ z=>?_) (Heap.get?_push_of_some _ e)
      simp only [Yd,Yn,or_false] at z
      rcases z with z | z
      . rw [z] at e;exact absurd (Heap.lt_size e) (Nat.lt_irrefl _)
      . exact hb z
def uJq (K:PySem.W.Frag) (te:TE):TE:=λ σ H Q=>te σ H λ x H1=>∃ a xs,x=.ref a/\SqT K H1 a xs/\∀ l,H1 l=none->Q (.ref l) (upd H1 l (.lst xs.reverse))
theorem h1q (hc:X.calm=true) (hgl:Gl X "list") (hml:X.mg "list" = none) (hg:Gl X "reversed") (hm:X.mg "reversed" = none) (he:PE X e te) (hs:bAq e=true) :
    PE X (.Call (.Name "list" p) [.Call (.Name "reversed" p2) [e] [] pos2] [] pos) (uJq X.K te):=by
  intro pins s σ H Q I h
  refine wpAny_Call_Name_kw (e3q I hgl hml PyProof.Rows.boot_list ?_)
  refine PyProof.Rows.callWith_type1 ?_ (aMq rfl) rfl
  rw [aMq rfl]
  show wpAny _ _ (spliced ((false,eval (.Call (.Name "reversed" p2) [e] [] pos2) X.env)::backTo pos (starEach [] X.env))) _ _ s
  refine Calls.spliced_cons (thn (oOq (R:=λ _ xs H1=>∀ l,H1 l=none->Q (.ref l) (upd H1 l (.lst xs.reverse))) hg hm he hs I h) λ v s1 h1=>Calls.spliced_nil ?_)
  obtain ⟨a,it,xs,its,H1,rfl,I1,hit,ht,hne,rv,hz,_,fp,q⟩:=h1
  have hi:=Heap.lt_size hit
  have hl:=rv.length
  refine KRv.listOf (KRv.itT (prog:=X.prog) (w:=X.w) (A:=X.A.in1.in1) (I:=it) (t:=a) (items:=its.toArray) (I.ok.hd hc) hne hz) ⟨by simpa using hit,ht⟩ (λ b hb=>?_) (λ s' acc c' hm' hS hacc=>?_)
  . simp only [Yd,Yn,or_false] at hb
    rcases hb with rfl | rfl
    . exact hi
    . exact ht.lt
  . exact wSq I1 fp hi hm' hS (by rw [KRv.back hacc];exact rv.reverse) (by rw [Ym];rw [Ye] at hz;omega) q
theorem pSq:∀ (bs:List Bool),(Ys bs.length).all (λ i=>bs.getD i true)=bs.all id:=by
  intro bs
  rw [Bool.eq_iff_iff,Y4,Y4]
  constructor
  . intro h x hx
    obtain ⟨i,hi,e⟩:=List.getElem_of_mem hx
    have:=h i (YE.mpr hi)
    rw [Yr,Yi hi,Option.getD_some,e] at this
    exact this
  . intro h i hi
    have hi':=YE.mp hi
    rw [Yr,Yi hi',Option.getD_some]
    exact h _ (Yx hi')
def aM9q (K:PySem.W.Frag):List V->Hp->VK->Prop:=λ xs H Q=>∃ (p:Addr) (bs:List Bool),xs=[.ref p]/\SqL K H p (bs.map V.bl)/\Q (.bl (bs.all id)) H
theorem qBq (hc:X.calm=true):CallR X (.builtin "all") (aM9q X.K):=by
  intro pins s σ H xs us Q I r h
  obtain ⟨p,bs,rfl,hp,hQ⟩:=h
  obtain ⟨u,rfl,ru⟩:=r.one
  cases ru
  obtain ⟨its,rv,pl,hz⟩:=I.list hp
  have hlen:=rv.length
  rw [Yf] at hlen
  have hlt:p < s.heap.objs.size:=by obtain ⟨o,ho,_⟩:=pl.isList;exact Heap.lt_size ho
  refine call_all_walk (wpAny_pyIter_list pl.isList ?_)
  refine ⟨s.heap.objs.size,[s.heap.objs.size,p],[s.heap.objs.size],its.toArray.size,_,_,λ i=>bs.getD i true,rfl,Walks.list (A:=X.A.in1) (I.ok.hd hc) _ p (Nat.ne_of_lt hlt) its.toArray,⟨⟨_,Heap.get?_push_size _ rfl,rfl,rfl⟩,let ⟨o,ho,r⟩:=pl.isList;⟨o,Heap.get?_push_of_some _ ho,r⟩⟩,?_,λ h' tk kk=>?_⟩
  . intro i v s' Q' E' hv hq
    have hi:i < its.length:=by
      have:=(Array.getElem?_eq_some_iff.mp hv).1
      simpa using this
    obtain ⟨v1,e1,e2⟩:=rv.get (i:=i) (x:=V.bl bs[i]) (by rw [Yw,Yi (by omega)];rfl)
    have e3:its[i]?=some v:=by simpa using hv
    rw [e1] at e3
    cases e3
    have e4:v=Value.bool bs[i]:=e2
    subst e4
    refine wpAny_truthy_bool ?_
    have e5:bs.getD i true=bs[i]:=by rw [Yr,Yi (by omega)];rfl
    rw [<- e5]
    exact hq
  . refine ⟨.bl (bs.all id),H,I.kept λ b o e=>kk b o ?_ (Heap.get?_push_of_some _ e),?_,hQ⟩
    . simp only [Yd,Yn,or_false]
      exact Nat.ne_of_lt (Heap.lt_size e)
    . show Value.bool _=Value.bool _
      rw [Ye,<- hlen,pSq]
end
section
variable {X:Cx} {e:Expr} {te:TE} {p p2 pos pos2:Pos}
theorem gWq (hgl:Gl X "list") (hml:X.mg "list" = none) (hg:Gl X "reversed") (hm:X.mg "reversed" = none) (he:JE X e te) (hc:X.calm=true:=by rfl) (hs:bAq e=true:=by rfl) :
    JE X (.Call (.Name "list" p) [.Call (.Name "reversed" p2) [e] [] pos2] [] pos) (uJq X.K te):=⟨h1q hc hgl hml hg hm he.run hs⟩
end
end L2
namespace KZp
open PySem PyProof.Rows
section
variable {prog:Program} {w:World} {A:Around} {E:Value->Shared->Prop} {s:Shared}
variable {z TI TO i1 i2 l1 l2:Addr} {i:Nat} {xs ys:Array Value}
end
end KZp
namespace L2
open PySem PySem.Spec PyProof.Rows
theorem Inv.turnedL {X:Cx} {pins:List (Addr × Obj)} {σ:St} {H:Hp} {s:Shared} {h':Heap} {t':Nat} {fp:List Addr} (I:Inv X pins σ H s) (hf:∀ b∈fp,kDq X pins H b) (k:∀ b o,b ∉ fp->s.heap.get? b=some o->h'.get? b=some o):Inv X pins σ H { s with heap:=h',toks:=t' }:=by
  have nit:∀ b u,H b=some u->b ∉ fp:=λ b u e z=>by rw [(hf b z).1] at e;cases e
  refine I.step (g':=s.gens) (d':=s.drawn) (ch:=fp) (λ b hb=>?_) (λ b o _ _ hc e _=>k b o hc e) (λ b o _ _ hc e _=>⟨o.slots,k b o hc e⟩) (λ _ _ _ _ n=>n)
    (λ b o hc e=>⟨o,k b o hc e⟩) (λ _ _ e=>e) (λ _ _ _ e=>e) (λ b ps e=>⟨#[],by rw [e];simp⟩) (λ m hm=>?_) (λ b u e=>?_) I.bare
  . obtain ⟨f0,f1,f2,f3,f4,f5⟩:=hf b hb
    exact ⟨f3,f1,f4,f5⟩
  . obtain ⟨o,es,ep,ho,r⟩:=hm
    exact ⟨o,es,ep,k _ o (λ z=>(hf _ z).2.1 rfl) ho,r⟩
  . refine (I.hok b u e).stay (λ c v hc q=>k c v ?_ q) (λ _ q=>q) λ _ _ q=>q
    rcases hc with z | z
    . rw [z];exact nit b u e
    . exact nit c _ z
section
variable {X:Cx}
end
def fzn (o:Obj):HO:=.frz o (.ext λ _=>True)
section
variable {P:Program} {w:World} {H H':Hp} {h h':Heap} {as:List Addr}
end
structure CloAt (H:Hp) (f:Addr) (name qual:Str) (st:Stmt) (cl:List (Str × Addr)) (fvs:List V):Prop where
  fn:∃ (oc:Value) (od:Option Addr) (doc pm cdv ct:Value) (sl:Array (Option Value)),H f=some (fzn ⟨oc,od,.func (PySem.W.fnX name qual (cUq st) (c2q st) (aDq st) cl .none .none doc pm none cdv ct),sl⟩) ∧
    ∃ c o vs t,cdv=.ref c/\H c=some (fzn o)/\o.data=.fields vs/\vs[1]?=some (.str qual t)
  cells:∀ (i:Nat) (x:Str) (c:Addr),cl[i]?=some (x,c)->∃ v u o,fvs[i]?=some v/\RelV v u/\H c=some (fzn o)/\o.data=.cell (some u)
  len:cl.length=fvs.length
  nda:(cl.map (·.2)).Nodup
section
variable {P:Program} {w:World} {K:PySem.W.Frag} {mg:Str->Option Value} {base:Heap} {k:Nat} {name qual:Str} {st:Stmt} {fr:List Str} {fvs:List V} {N ps:List Str} {sp:Sp}
end
section
variable {X:Cx} {k j:Nat} {name qual:Str} {st:Stmt} {fr:List Str} {fvs:List V} {ps:List Str} {x:Str} {sp:Sp} {p pos:Pos} {e:Expr} {es:List Expr} {t:TA}
end
def clOf (env:Env) (fr:List Str):List (Str × Addr):=fr.map λ x=>(x,(env.cells.lookup x).getD 0)
structure MadeAt (env:Env) (H:Hp) (f:Addr) (name qual:Str) (st:Stmt) (fr:List Str):Prop where
  fn:∃ (oc:Value) (od:Option Addr) (doc pm cdv ct:Value) (sl:Array (Option Value)),H f=some (fzn ⟨oc,od,.func (PySem.W.fnX name qual (cUq st) (c2q st) (aDq st) (clOf env fr) .none .none doc pm none cdv ct),sl⟩) ∧
    ∃ c o vs t,cdv=.ref c/\H c=some (fzn o)/\o.data=.fields vs/\vs[1]?=some (.str qual t)
section
variable {X:Cx} {pins:List (Addr × Obj)} {σ:St} {H H2:Hp} {s s':Shared} {as:List Addr}
end
section
variable {X:Cx} {k j:Nat} {g:Addr} {fd:FuncData} {name qual:Str} {st:Stmt} {fr:List Str} {ix:List Nat} {ps:List Str} {x:Str} {sp:Sp} {p pos:Pos} {e:Expr} {es:List Expr} {t:TA}
end
def Tab (H:Hp) (T:Addr) (pos:Pos) (qual:Str):Prop:=∃ ps,H T=some (.tbl ps)/\TriplesOk ps.toList/\(codeAmong pos ps.toList=none\/∃ c o vs t,codeAmong pos ps.toList=some (.ref c)/\H c=some (fzn o)/\o.data=.fields vs/\vs[1]?=some (.str qual t))
section
variable {P:Program} {w:World} {H:Hp} {h h':Heap} {T c:Addr} {ps mo:Array Value} {oc:Obj} {fs ex:List Addr}
end
section
variable {X:Cx} {i:Nat} {T c:Addr} {name:Str} {params:Arguments} {body:List Stmt} {scope:Scope} {pos:Pos} {fr:List Str}
end
section
variable {P:Program} {w:World} {K:PySem.W.Frag} {mg mb:Str->Option Value} {k:Nat} {fa a:Addr} {fd:FuncData} {x:Str} {sp:Sp} {s₁:Shared} {vs:List Value} {ns:List Int} {tabs:List (Addr × Addr)}
end
end L2
namespace L3
open PySem PySem.Spec L2
inductive D where
  | non | bl (b:Bool) | int (i:Int) | str (x:Str) | ref (a:Addr) | ty (n:String) | tup (ds:List D) | frl (ds:List D)
def FrL (K:PySem.W.Frag) (H:Hp) (a:Addr) (xs:List V):Prop:=
  (∃ o,H a=some (.frz o (.lst xs)))\/∃ (o:Obj) (its:Array Value) (n:Nat),K.lookup a=some o/\o.cls=.type "list"/\o.dict=none/\o.data=.seq its n/\its.size<=sizeLine/\Vals xs its.toList
theorem FrL.sq {K:PySem.W.Frag} {H:Hp} {a:Addr} {xs:List V} (h:FrL K H a xs):SqL K H a xs:=by
  rcases h with h | h
  . exact .inl (.inr h)
  . exact .inr h
mutual
def Abs (K:PySem.W.Frag) (H:Hp):D->V->Prop
  | .non,v=>v=.non
  | .bl b,v=>v=.bl b
  | .int i,v=>v=.int i
  | .str x,v=>v=.str x
  | .ref a,v=>v=.ref a
  | .ty n,v=>v=.ty n
  | .tup ds,v=>∃ a vs,v=.ref a/\SqT K H a vs/\AbsL K H ds vs
  | .frl ds,v=>∃ a vs,v=.ref a/\FrL K H a vs/\AbsL K H ds vs
def AbsL (K:PySem.W.Frag) (H:Hp):List D->List V->Prop
  | [],vs=>vs=[]
  | d::ds,vs=>∃ v r,vs=v::r/\Abs K H d v/\AbsL K H ds r
end
structure Mono (K:PySem.W.Frag) (H H':Hp):Prop where
  tp:∀ a xs,SqT K H a xs->SqT K H' a xs
  fr:∀ a xs,FrL K H a xs->FrL K H' a xs
  fz:∀ a o,H a=some (fzn o)->H' a=some (fzn o)
section
variable {K:PySem.W.Frag} {H H':Hp}
mutual
theorem Abs.mono (h:Mono K H H'):∀ {d:D} {v:V},Abs K H d v->Abs K H' d v
  | .non,_,r=>r
  | .bl _,_,r=>r
  | .int _,_,r=>r
  | .str _,_,r=>r
  | .ref _,_,r=>r
  | .ty _,_,r=>r
  | .tup _,_,⟨a,vs,e,q,l⟩=>⟨a,vs,e,h.tp a vs q,AbsL.mono h l⟩
  | .frl _,_,⟨a,vs,e,q,l⟩=>⟨a,vs,e,h.fr a vs q,AbsL.mono h l⟩
theorem AbsL.mono (h:Mono K H H'):∀ {ds:List D} {vs:List V},AbsL K H ds vs->AbsL K H' ds vs
  | [],_,r=>r
  | _::_,_,⟨v,r,e,q,l⟩=>⟨v,r,e,Abs.mono h q,AbsL.mono h l⟩
end
theorem AbsL.len:∀ {ds:List D} {vs:List V},AbsL K H ds vs->vs.length=ds.length
  | [],_,r=>by cases r;rfl
  | _::_,_,⟨v,r,e,_,l⟩=>by subst e;simp [l.len]
theorem AbsL.append:∀ {ds es:List D} {vs us:List V},AbsL K H ds vs->AbsL K H es us->AbsL K H (ds++es) (vs++us)
  | [],_,_,_,r,s=>by cases r;exact s
  | _::_,_,_,_,⟨v,r,e,q,l⟩,s=>by subst e;exact ⟨v,_,rfl,q,l.append s⟩
theorem AbsL.one {d:D} {v:V} (h:Abs K H d v):AbsL K H [d] [v]:=⟨v,[],rfl,h,rfl⟩
theorem AbsL.get:∀ {ds:List D} {vs:List V} {i:Nat} {d:D},AbsL K H ds vs->ds[i]?=some d->∃ v,vs[i]?=some v/\Abs K H d v
  | [],_,_,_,_,e=>by simp at e
  | _::_,_,0,_,⟨v,r,e',q,l⟩,e=>by simp at e;subst e e';exact ⟨v,rfl,q⟩
  | _::_,_,i+1,d,⟨v,r,e',q,l⟩,e=>by
    subst e'
    obtain ⟨u,h1,h2⟩:=AbsL.get (i:=i) (d:=d) l (by simpa using e)
    exact ⟨u,by simpa using h1,h2⟩
theorem AbsL.take:∀ {ds:List D} {vs:List V} (n:Nat),AbsL K H ds vs->AbsL K H (ds.take n) (vs.take n)
  | _,_,0,_=>by simp [AbsL]
  | [],_,n+1,r=>by cases r;simp [AbsL]
  | _::_,_,n+1,⟨v,r,e,q,l⟩=>by subst e;exact ⟨v,_,rfl,q,l.take n⟩
theorem AbsL.drop:∀ {ds:List D} {vs:List V} (n:Nat),AbsL K H ds vs->AbsL K H (ds.drop n) (vs.drop n)
  | _,_,0,r=>r
  | [],_,n+1,r=>by cases r;simp [AbsL]
  | _::_,_,n+1,⟨v,r,e,q,l⟩=>by subst e;exact l.drop n
theorem AbsL.reverse:∀ {ds:List D} {vs:List V},AbsL K H ds vs->AbsL K H ds.reverse vs.reverse
  | [],_,r=>by cases r;simp [AbsL]
  | _::_,_,⟨v,r,e,q,l⟩=>by subst e;rw [YH,YH];exact l.reverse.append (.one q)
theorem AbsL.set {d:D} {v:V} (h:Abs K H d v):∀ {ds:List D} {vs:List V} (i:Nat),AbsL K H ds vs->AbsL K H (ds.set i d) (vs.set i v)
  | [],_,_,r=>by cases r;simp [AbsL]
  | _::_,_,0,⟨u,r,e,q,l⟩=>by subst e;exact ⟨v,r,rfl,h,l⟩
  | _::_,_,i+1,⟨u,r,e,q,l⟩=>by subst e;exact ⟨u,_,rfl,q,l.set h i⟩
theorem AbsL.of_ints:∀ (ns:List Int),AbsL K H (ns.map D.int) (ns.map V.int)
  | []=>rfl
  | n::ns=>⟨_,_,rfl,rfl,AbsL.of_ints ns⟩
end
def cut {α:Type} (xs:List α) (lo hi:Option Int):List α:=(xs.drop (HT.sIx xs.length 0 lo)).take (HT.sIx xs.length xs.length hi - HT.sIx xs.length 0 lo)
theorem AbsL.cut {K:PySem.W.Frag} {H:Hp} {ds:List D} {vs:List V} (h:AbsL K H ds vs) (lo hi:Option Int):AbsL K H (L3.cut ds lo hi) (nTq vs lo hi):=by
  have e:=h.len
  rw [L3.cut,nTq,e]
  exact (h.drop _).take _
inductive DO where
  | lst (ds:List D)
  | ins (C:Addr) (fs:List (Str × D))
  | dK (kvs:List (Key × D))
  | dT (kvs:List (List Key × D))
  | frT (kvs:List (List Key × D))
  | tab (pos:Pos) (qual:Str) | made (env:Env) (name qual:Str) (st:Stmt) (fr:List Str) | clo (name qual:Str) (st:Stmt) (fr:List Str) (vals:List D)
abbrev DV:=Addr->Option DO
abbrev DSt:=List (Option D)
def up (G:DV) (a:Addr) (o:DO):DV:=λ b=>if b=a then some o else G b
theorem a5q {G:DV} {a:Addr} {o:DO}:up G a o a=some o:=by unfold up;rw [if_pos rfl]
theorem aQq {G:DV} {a b:Addr} {o:DO} (h:b≠a):up G a o b=G b:=by unfold up;rw [if_neg h]
theorem cTq {G:DV} {a:Addr} {o u:DO}:up (up G a o) a u=up G a u:=by funext b;unfold up;split<;>rfl
theorem lJq {G:DV} {a b:Addr} {o u:DO} (h:a≠b):up (up G a o) b u=up (up G b u) a o:=by
  funext c;unfold up;split<;>split<;>simp_all
theorem xQq {G:DV} {a:Addr} {o:DO} (h:G a=some o):up G a o=G:=by
  funext b;unfold up;split
  . next e=>rw [e,h]
  . rfl
def AbsF {κ:Type} (K:PySem.W.Frag) (H:Hp) (fs:List (κ × D)) (gs:List (κ × V)):Prop:=fs.map (·.1)=gs.map (·.1)/\AbsL K H (fs.map (·.2)) (gs.map (·.2))
def BearO (K:PySem.W.Frag) (H:Hp) (a:Addr):DO->Prop
  | .lst ds=>∃ vs,H a=some (.lst vs)/\AbsL K H ds vs
  | .ins C fs=>∃ dx gs,H a=some (.ins C dx gs)/\AbsF K H fs gs
  | .dK kvs=>∃ gs,H a=some (.dK gs)/\AbsF K H kvs gs
  | .dT kvs=>∃ gs,H a=some (.dT gs)/\AbsF K H kvs gs
  | .frT kvs=>∃ o gs,H a=some (.frz o (.dT gs))/\AbsF K H kvs gs
  | .tab pos qual=>Tab H a pos qual
  | .made env name qual st fr=>MadeAt env H a name qual st fr
  | .clo name qual st fr vals=>∃ cl fvs,CloAt H a name qual st cl fvs/\cl.map (·.1)=fr/\AbsL K H vals fvs
def Vw (K:PySem.W.Frag) (G:DV) (H:Hp):Prop:=∀ a o,G a=some o->BearO K H a o
theorem BearO.some {K:PySem.W.Frag} {H:Hp} {a:Addr} {o:DO} (h:BearO K H a o):∃ u,H a=.some u:=by
  cases o with
  | lst ds=>obtain ⟨_,e,_⟩:=h;exact ⟨_,e⟩
  | ins C fs=>obtain ⟨_,_,e,_⟩:=h;exact ⟨_,e⟩
  | dK kvs=>obtain ⟨_,e,_⟩:=h;exact ⟨_,e⟩
  | dT kvs=>obtain ⟨_,e,_⟩:=h;exact ⟨_,e⟩
  | frT kvs=>obtain ⟨_,_,e,_⟩:=h;exact ⟨_,e⟩
  | tab pos qual=>obtain ⟨_,e,_⟩:=h;exact ⟨_,e⟩
  | made env name qual st fr=>obtain ⟨_,_,_,_,_,_,_,e,_⟩:=h.fn;exact ⟨_,e⟩
  | clo name qual st fr vals=>obtain ⟨_,_,h,_⟩:=h;obtain ⟨_,_,_,_,_,_,_,e,_⟩:=h.fn;exact ⟨_,e⟩
theorem Vw.none {K:PySem.W.Frag} {G:DV} {H:Hp} (h:Vw K G H) {a:Addr} (e:H a=.none):G a=.none:=by
  cases q:G a with
  | none=>rfl
  | some o=>obtain ⟨u,z⟩:=(h a o q).some;rw [e] at z;cases z
theorem BearO.mono {K:PySem.W.Frag} {H H':Hp} {a:Addr} {o:DO} (ht:Mono K H H') (e:H' a=H a) (h:BearO K H a o):BearO K H' a o:=by
  cases o with
  | lst ds=>obtain ⟨vs,q,l⟩:=h;exact ⟨vs,by rw [e];exact q,l.mono ht⟩
  | ins C fs=>obtain ⟨dx,gs,q,l⟩:=h;exact ⟨dx,gs,by rw [e];exact q,l.1,l.2.mono ht⟩
  | dK kvs=>obtain ⟨gs,q,l⟩:=h;exact ⟨gs,by rw [e];exact q,l.1,l.2.mono ht⟩
  | dT kvs=>obtain ⟨gs,q,l⟩:=h;exact ⟨gs,by rw [e];exact q,l.1,l.2.mono ht⟩
  | frT kvs=>obtain ⟨o,gs,q,l⟩:=h;exact ⟨o,gs,by rw [e];exact q,l.1,l.2.mono ht⟩
  | tab pos qual=>
    obtain ⟨ps,h1,h2,h3⟩:=h
    refine ⟨ps,by rw [e];exact h1,h2,?_⟩
    rcases h3 with h3 | ⟨c,o,vs,t,h3,h4,h5⟩
    . exact .inl h3
    . exact .inr ⟨c,o,vs,t,h3,ht.fz _ _ h4,h5⟩
  | made env name qual st fr=>
    obtain ⟨oc,od,doc,pm,cdv,ct,sl,h1,c,o,vs,t,h2,h3,h4⟩:=h.fn
    exact ⟨oc,od,doc,pm,cdv,ct,sl,ht.fz _ _ h1,c,o,vs,t,h2,ht.fz _ _ h3,h4⟩
  | clo name qual st fr vals=>
    obtain ⟨cl,fvs,C,h1,h2⟩:=h
    obtain ⟨oc,od,doc,pm,cdv,ct,sl,h3,c,o,vs,t,h4,h5,h6⟩:=C.fn
    exact ⟨cl,fvs,⟨⟨oc,od,doc,pm,cdv,ct,sl,ht.fz _ _ h3,c,o,vs,t,h4,ht.fz _ _ h5,h6⟩,λ i x c hi=>let ⟨v,u,o,z1,z2,z3,z4⟩:=C.cells i x c hi;⟨v,u,o,z1,z2,ht.fz _ _ z3,z4⟩,C.len,C.nda⟩,h1,h2.mono ht⟩
structure Go (K:PySem.W.Frag) (G:DV) (H:Hp) (G':DV) (H':Hp):Prop where
  tup:Mono K H H'
  dom:∀ a o,H a=some o->∃ o',H' a=some o'
  same:∀ a o,H a=some o->G a=none->H' a=some o
  new:∀ a o,H a=some o->G a=none->G' a=none
  vw:Vw K G' H'
section
variable {K:PySem.W.Frag} {G G1 G2 G':DV} {H H1 H2 H':Hp}
theorem Go.refl (v:Vw K G H):Go K G H G H:=⟨⟨λ _ _ h=>h,λ _ _ h=>h,λ _ _ h=>h⟩,λ _ o e=>⟨o,e⟩,λ _ _ e _=>e,λ _ _ _ e=>e,v⟩
theorem Go.trans (a:Go K G H G1 H1) (b:Go K G1 H1 G2 H2):Go K G H G2 H2:=
  ⟨⟨λ x xs h=>b.tup.tp x xs (a.tup.tp x xs h),λ x xs h=>b.tup.fr x xs (a.tup.fr x xs h),λ x o h=>b.tup.fz x o (a.tup.fz x o h)⟩,λ x o e=>let ⟨o',e'⟩:=a.dom x o e;b.dom x o' e',λ x o e n=>b.same x o (a.same x o e n) (a.new x o e n),
   λ x o e n=>b.new x o (a.same x o e n) (a.new x o e n),b.vw⟩
def Sub (G G':DV):Prop:=∀ a o,G a=some o->G' a=some o
theorem Sub.refl (G:DV):Sub G G:=λ _ _ e=>e
theorem Sub.trans {G G1 G2:DV} (a:Sub G G1) (b:Sub G1 G2):Sub G G2:=λ x o e=>b x o (a x o e)
theorem Sub.none {G G':DV} (h:Sub G G') {a:Addr} (e:G' a=.none):G a=.none:=by
  cases q:G a with
  | none=>rfl
  | some o=>rw [h a o q] at e;cases e
theorem Vw.sub (v:Vw K G' H) (h:Sub G G'):Vw K G H:=λ a o e=>v a o (h a o e)
theorem Go.sub (g:Go K G H G1 H1) (h:Sub G2 G1):Go K G H G2 H1:=⟨g.tup,g.dom,g.same,λ x o e n=>h.none (g.new x o e n),g.vw.sub h⟩
theorem y1q {a p:Addr} {o:HO} {xs:List V} (hp:∀ ys,¬ Rd H p (.tup ys)) (h:SqT K H a xs):SqT K (upd H p o) a xs:=by
  rcases h with h | h
  . have ne:a≠p:=by rintro rfl;exact hp _ h
    refine .inl ?_
    unfold Rd at h ⊢
    rw [aUq ne];exact h
  . exact .inr h
theorem vQq {p:Addr} {ys:List V} (h:H p=none):¬ Rd H p (.tup ys):=by
  rintro (e | ⟨o,e⟩)<;>rw [h] at e<;>cases e
theorem zMq {p:Addr} {xs ys:List V} (h:H p=some (.lst xs)):¬ Rd H p (.tup ys):=by
  rintro (e | ⟨o,e⟩)<;>rw [h] at e<;>cases e
theorem mYq {p:Addr} {o:HO} (hp:∀ ys,¬ Rd H p (.tup ys)) (hl:∀ o ys,H p≠some (.frz o ys)):Mono K H (upd H p o) where
  tp:=λ _ _ q=>y1q hp q
  fr:=λ a xs q=>by
    rcases q with ⟨z,q⟩ | q
    . exact .inl ⟨z,by rw [aUq (by rintro rfl;exact hl _ _ q)];exact q⟩
    . exact .inr q
  fz:=λ a u q=>by rw [aUq (by rintro rfl;exact hl _ _ q)];exact q
theorem eJq {p:Addr} {o:HO} (h:H p=none):Mono K H (upd H p o):=mYq (λ _=>vQq h) λ _ _ e=>by rw [h] at e;cases e
theorem c6q {p:Addr} {o:HO} {xs:List V} (h:H p=some (.lst xs)):Mono K H (upd H p o):=mYq (λ _=>zMq h) λ _ _ e=>by rw [h] at e;cases e
theorem Go.newT (v:Vw K G H) {p:Addr} {o:HO} (h:H p=none):Go K G H G (upd H p o) where
  tup:=eJq h
  dom:=λ a u e=>⟨u,by rw [aUq (b0q e h)];exact e⟩
  same:=λ a u e _=>by rw [aUq (b0q e h)];exact e
  new:=λ _ _ _ e=>e
  vw:=λ a u e=>(v a u e).mono (eJq h) (aUq (by rintro rfl;obtain ⟨z,q⟩:=(v _ _ e).some;rw [h] at q;cases q))
theorem Go.newL (v:Vw K G H) {p:Addr} {ds:List D} {vs:List V} (h:H p=none) (r:AbsL K H ds vs):Go K G H (up G p (.lst ds)) (upd H p (.lst vs)) where
  tup:=eJq h
  dom:=λ a u e=>⟨u,by rw [aUq (b0q e h)];exact e⟩
  same:=λ a u e _=>by rw [aUq (b0q e h)];exact e
  new:=λ a u e n=>by rw [aQq (b0q e h)];exact n
  vw:=λ a u e=>by
    by_cases c:a=p
    . subst c;rw [a5q] at e;cases e
      exact ⟨vs,bKq,r.mono (eJq h)⟩
    . rw [aQq c] at e
      exact (v a u e).mono (eJq h) (aUq c)
theorem Go.setL (v:Vw K G H) {p:Addr} {ds0 ds:List D} {vs:List V} (h:G p=some (.lst ds0)) (r:AbsL K H ds vs):Go K G H (up G p (.lst ds)) (upd H p (.lst vs)):=by
  obtain ⟨us,hp,_⟩:=v p _ h
  exact {
    tup:=c6q hp
    dom:=λ a u e=>by
      by_cases c:a=p
      . subst c;exact ⟨_,bKq⟩
      . exact ⟨u,by rw [aUq c];exact e⟩
    same:=λ a u e n=>by
      have c:a≠p:=by rintro rfl;rw [h] at n;cases n
      rw [aUq c];exact e
    new:=λ a u e n=>by
      have c:a≠p:=by rintro rfl;rw [h] at n;cases n
      rw [aQq c];exact n
    vw:=λ a u e=>by
      by_cases c:a=p
      . subst c;rw [a5q] at e;cases e
        exact ⟨vs,bKq,r.mono (c6q hp)⟩
      . rw [aQq c] at e
        exact (v a u e).mono (c6q hp) (aUq c) }
theorem Go.grow (v:Vw K G H) (h:Same H H'):Go K G H G H':=by
  have ht:Mono K H H':=⟨λ b xs q=>by
    rcases q with q | q
    . rcases q with q | ⟨o,q⟩
      . exact .inl (.inl (h _ _ q))
      . exact .inl (.inr ⟨o,h _ _ q⟩)
    . exact .inr q,λ b xs q=>by
    rcases q with ⟨o,q⟩ | q
    . exact .inl ⟨o,h _ _ q⟩
    . exact .inr q,λ b o q=>h _ _ q⟩
  exact ⟨ht,λ a o e=>⟨o,h a o e⟩,λ a o e _=>h a o e,λ _ _ _ e=>e,λ a u e=>by
    obtain ⟨z,q⟩:=(v a u e).some
    exact (v a u e).mono ht (by rw [q];exact h _ _ q)⟩
end
structure Bears (K:PySem.W.Frag) (ρ:DSt) (G:DV) (σ:St) (H:Hp):Prop where
  len:ρ.length=σ.length
  st:∀ (i:Nat) (d:D),ρ[i]?=some (some d)->∃ v,σ[i]?=some (some v)/\Abs K H d v
  vw:Vw K G H
theorem Bears.go {K:PySem.W.Frag} {ρ:DSt} {G G':DV} {σ:St} {H H':Hp} (b:Bears K ρ G σ H) (g:Go K G H G' H'):Bears K ρ G' σ H':=
  ⟨b.len,λ i d e=>let ⟨v,h1,h2⟩:=b.st i d e;⟨v,h1,h2.mono g.tup⟩,g.vw⟩
theorem Bears.set {K:PySem.W.Frag} {ρ:DSt} {G:DV} {σ:St} {H:Hp} {d:D} {v:V} (b:Bears K ρ G σ H) (h:Abs K H d v) (i:Nat):Bears K (ρ.set i (some d)) G (σ.set i (some v)) H where
  len:=by simp [b.len]
  vw:=b.vw
  st:=λ j e he=>by
    by_cases c:j=i
    . subst c
      rw [List.getElem?_set] at he ⊢
      have l:=b.len
      simp only [if_true] at he ⊢
      split at he
      . next q=>rw [if_pos (by omega)];simp at he;subst he;exact ⟨v,rfl,h⟩
      . cases he
    . rw [Zd (by omega)] at he ⊢
      exact b.st j e he
def StSub (ρ ρ':DSt):Prop:=ρ.length=ρ'.length/\∀ (i:Nat) (d:D),ρ[i]?=some (some d)->ρ'[i]?=some (some d)
theorem StSub.refl (ρ:DSt):StSub ρ ρ:=⟨rfl,λ _ _ e=>e⟩
theorem Bears.weak {K:PySem.W.Frag} {ρ ρ':DSt} {G G':DV} {σ:St} {H:Hp} (b:Bears K ρ' G' σ H) (s:StSub ρ ρ') (g:Sub G G'):Bears K ρ G σ H:=
  ⟨s.1.trans b.len,λ i d e=>b.st i d (s.2 i d e),b.vw.sub g⟩
abbrev DK:=D->DV->Prop
abbrev DTE:=DSt->DV->DK->Prop
abbrev DTT:=DSt->DV->(Bool->DV->Prop)->Prop
abbrev DTA:=DSt->DV->(List D->DV->Prop)->Prop
abbrev DTO:=DSt->DV->(Option Int->DV->Prop)->Prop
structure DEnds where
  nx:DSt->DV->Prop
  rt:DK
  bk:DSt->DV->Prop:=λ _ _=>False
  ct:DSt->DV->Prop:=λ _ _=>False
abbrev DTS:=DEnds->DSt->DV->Prop
abbrev Fin (K:PySem.W.Frag) (G:DV) (H:Hp) (DQ:DK) (Q:VK):Prop:=∀ d G' v H',Go K G H G' H'->Abs K H' d v->DQ d G'->Q v H'
abbrev FinB (K:PySem.W.Frag) (G:DV) (H:Hp) (DQ:Bool->DV->Prop) (Q:Bool->Hp->Prop):Prop:=∀ b G' H',Go K G H G' H'->DQ b G'->Q b H'
abbrev FinO (K:PySem.W.Frag) (G:DV) (H:Hp) (DQ:Option Int->DV->Prop) (Q:Option Int->Hp->Prop):Prop:=∀ b G' H',Go K G H G' H'->DQ b G'->Q b H'
abbrev FinL (K:PySem.W.Frag) (n:Nat) (G:DV) (H:Hp) (DQ:List D->DV->Prop) (Q:List V->Hp->Prop):Prop:=∀ ds G' vs H',Go K G H G' H'->AbsL K H' ds vs->ds.length=n->DQ ds G'->Q vs H'
structure AE (X:Cx) (e:Expr) (t:DTE):Prop where
  run:∃ tc:TE,JE X e tc/\∀ ρ G DQ σ H Q,Bears X.K ρ G σ H->t ρ G DQ->Fin X.K G H DQ Q->tc σ H Q
structure AT (X:Cx) (e:Expr) (t:DTT):Prop where
  run:∃ tc:TT,JT X e tc/\∀ ρ G DQ σ H Q,Bears X.K ρ G σ H->t ρ G DQ->FinB X.K G H DQ Q->tc σ H Q
structure AW (X:Cx) (e:Expr) (t:DTT):Prop where
  run:∃ tc:TT,JW X e tc/\∀ ρ G DQ σ H Q,Bears X.K ρ G σ H->t ρ G DQ->FinB X.K G H DQ Q->tc σ H Q
structure AA (X:Cx) (es:List Expr) (t:DTA):Prop where
  run:∃ tc:TA,JA X es tc/\∀ ρ G DQ σ H Q,Bears X.K ρ G σ H->t ρ G DQ->FinL X.K es.length G H DQ Q->tc σ H Q
structure AO (X:Cx) (e:Option Expr) (t:DTO):Prop where
  run:∃ tc:TO,JO X e tc/\∀ ρ G DQ σ H Q,Bears X.K ρ G σ H->t ρ G DQ->FinO X.K G H DQ Q->tc σ H Q
structure EndsOk (K:PySem.W.Frag) (G:DV) (H:Hp) (DD:DEnds) (Dc:Ends):Prop where
  nx:∀ ρ G' σ H',Go K G H G' H'->Bears K ρ G' σ H'->DD.nx ρ G'->Dc.nx σ H'
  rt:Fin K G H DD.rt Dc.rt
  bk:∀ ρ G' σ H',Go K G H G' H'->Bears K ρ G' σ H'->DD.bk ρ G'->Dc.bk σ H'
  ct:∀ ρ G' σ H',Go K G H G' H'->Bears K ρ G' σ H'->DD.ct ρ G'->Dc.ct σ H'
structure AS (X:Cx) (st:Stmt) (t:DTS):Prop where
  run:∃ tc:TS,JS X st tc/\∀ DD Dc ρ G σ H,Bears X.K ρ G σ H->t DD ρ G->EndsOk X.K G H DD Dc->tc Dc σ H
structure AB (X:Cx) (st:List Stmt) (t:DTS):Prop where
  run:∃ tc:TS,JB X st tc/\∀ DD Dc ρ G σ H,Bears X.K ρ G σ H->t DD ρ G->EndsOk X.K G H DD Dc->tc Dc σ H
abbrev DTG:=D->DSt->DV->(DSt->DV->Prop)->Prop
abbrev x0q:=List D->DSt->DV->(DSt->DV->Prop)->Prop
abbrev FinS (K:PySem.W.Frag) (G:DV) (H:Hp) (DQ:DSt->DV->Prop) (Q:St->Hp->Prop):Prop:=∀ ρ G' σ H',Go K G H G' H'->Bears K ρ G' σ H'->DQ ρ G'->Q σ H'
structure AG (X:Cx) (tg:Expr) (t:DTG):Prop where
  run:∃ tc:TG,JG X tg tc/\∀ d v ρ G DQ σ H Q,Bears X.K ρ G σ H->Abs X.K H d v->t d ρ G DQ->FinS X.K G H DQ Q->tc v σ H Q
structure AGs (X:Cx) (tgs:List Expr) (t:x0q):Prop where
  run:∃ tc:TGs,JGs X tgs tc/\∀ ds vs ρ G DQ σ H Q,Bears X.K ρ G σ H->AbsL X.K H ds vs->t ds ρ G DQ->FinS X.K G H DQ Q->tc vs σ H Q
abbrev DR1:=D->DV->DK->Prop
abbrev DR2:=D->D->DV->DK->Prop
abbrev DRL:=List D->DV->DK->Prop
structure AOp (X:Cx) (f:Value->Value->Sem Value) (r:DR2):Prop where
  run:∃ rc:R2,JOp X f rc/\∀ x y vx vy G H DQ Q,Vw X.K G H->Abs X.K H x vx->Abs X.K H y vy->r x y G DQ->Fin X.K G H DQ Q->rc vx vy H Q
structure AUn (X:Cx) (f:Value->Sem Value) (r:DR1):Prop where
  run:∃ rc:V->Hp->VK->Prop,JUn X f rc/\∀ x vx G H DQ Q,Vw X.K G H->Abs X.K H x vx->r x G DQ->Fin X.K G H DQ Q->rc vx H Q
structure ACall (X:Cx) (f:Value) (r:DRL):Prop where
  run:∃ rc:List V->Hp->VK->Prop,JCall X f rc/\∀ xs vs G H DQ Q,Vw X.K G H->AbsL X.K H xs vs->r xs G DQ->Fin X.K G H DQ Q->rc vs H Q
structure AIx (X:Cx) (r:DR2):Prop where
  run:∃ rc:R2,JIx X rc/\∀ x y vx vy G H DQ Q,Vw X.K G H->Abs X.K H x vx->Abs X.K H y vy->r x y G DQ->Fin X.K G H DQ Q->rc vx vy H Q
structure ASl (X:Cx) (r:D->Option Int->Option Int->DV->DK->Prop):Prop where
  run:∃ rc,JSl X rc/\∀ x vx lo hi G H DQ Q,Vw X.K G H->Abs X.K H x vx->r x lo hi G DQ->Fin X.K G H DQ Q->rc vx lo hi H Q
theorem Fin.after {K:PySem.W.Frag} {G G1:DV} {H H1:Hp} {DQ:DK} {Q:VK} (F:Fin K G H DQ Q) (g:Go K G H G1 H1):Fin K G1 H1 DQ Q:=λ d G' v H' g' a q=>F d G' v H' (g.trans g') a q
theorem EndsOk.after {K:PySem.W.Frag} {G G1:DV} {H H1:Hp} {DD:DEnds} {Dc:Ends} (F:EndsOk K G H DD Dc) (g:Go K G H G1 H1):EndsOk K G1 H1 DD Dc:=
  ⟨λ ρ G' σ H' g' b q=>F.nx ρ G' σ H' (g.trans g') b q,λ d G' v H' g' a q=>F.rt d G' v H' (g.trans g') a q,λ ρ G' σ H' g' b q=>F.bk ρ G' σ H' (g.trans g') b q,λ ρ G' σ H' g' b q=>F.ct ρ G' σ H' (g.trans g') b q⟩
end L3
namespace L3
open PySem PySem.Spec L2
section
variable {X:Cx} {a b c e o i:Expr} {es:List Expr} {ta tb te to ti:DTE} {t:DTA} {pos p apos cpos:Pos}
abbrev dC (d:D):DTE:=λ _ G Q=>Q d G
abbrev dVar (k:Nat):DTE:=λ ρ G Q=>match ρ[k]? with
  | some (some d)=>Q d G
  | _=>False
theorem ae_c {v:V} {d:D} (h:JE X e (tC v)) (r:∀ H,Abs X.K H d v):AE X e (dC d):=⟨_,h,λ ρ G DQ σ H Q B q F=>F d G v H (.refl B.vw) (r H) q⟩
theorem a3q {n:Int} {j}:AE X (.Constant (.int n) j pos) (dC (.int n)):=ae_c yFq λ _=>rfl
theorem jUq {n:Bool} {j}:AE X (.Constant (.bool n) j pos) (dC (.bl n)):=ae_c aV0q λ _=>rfl
theorem a8q {x:Str} {j}:AE X (.Constant (.str x) j pos) (dC (.str x)):=ae_c zZq λ _=>rfl
theorem a1q (k:Nat) {x:Str} (hN:X.N[k]?=some x:=by rfl) (hv:Vis X.env.scope x:=by first | exact Or.inl rfl | exact Or.inr (Or.inl rfl) | exact Or.inr (Or.inr rfl)) (hd:(x==("__debug__" : Str))=false:=by decide)
    (hcd:(x==("__classdict__" : Str))=false:=by decide):AE X (.Name x pos) (dVar k):=⟨_,jv k hN hv hd hcd,λ ρ G DQ σ H Q B q F=>by
  unfold dVar at q
  split at q
  . next d h=>
    obtain ⟨v,h1,h2⟩:=B.st k d h
    exact ⟨v,h1,F d G v H (.refl B.vw) h2 q⟩
  . exact q.elim⟩
theorem bRq {x:Str} {n:String} (hg:Gl X x) (hm:X.mg x=none) (hv:bootBuiltins x=some (.type n)) (hn:x≠"__name__":=by decide) (hd:(x==("__debug__" : Str))=false:=by decide):AE X (.Name x pos) (dC (.ty n)):=
  ae_c (x7q (v:=.ty n) hg hm hv rfl hn hd) λ _=>rfl
theorem cIq {x:Str} {v:V} {u:Value} {d:D} (hg:Gl X x) (hm:X.mg x=some u) (r:RelV v u) (ha:∀ H,Abs X.K H d v) (hd:(x==("__debug__" : Str))=false:=by decide):AE X (.Name x pos) (dC d):=ae_c (vRq hg hm r hd) ha
abbrev dNil:DTA:=λ _ G Q=>Q [] G
abbrev aO9q (ta:DTE) (tr:DTA):DTA:=λ ρ G Q=>ta ρ G λ x G1=>tr ρ G1 λ xs G2=>Q (x::xs) G2
theorem a2q:AA X [] dNil:=⟨_,aE3q,λ ρ G DQ σ H Q B q F=>F [] G [] H (.refl B.vw) rfl rfl q⟩
theorem a0q (ha:AE X e te) (hr:AA X es t) (hs:bAq e=true:=by rfl):AA X (e::es) (aO9q te t):=by
  obtain ⟨ca,ja,ra⟩:=ha.run
  obtain ⟨cr,jr,rr⟩:=hr.run
  refine ⟨_,wMq ja jr hs,λ ρ G DQ σ H Q B q F=>?_⟩
  refine ra ρ G _ σ H _ B q λ x G1 v H1 g1 ax q1=>rr ρ G1 _ σ H1 _ (B.go g1) q1 λ xs G2 vs H2 g2 axs hl q2=>?_
  exact F (x::xs) G2 (v::vs) H2 (g1.trans g2) ⟨v,vs,rfl,ax.mono g2.tup,axs⟩ (by simp [hl]) q2
abbrev dTup (t:DTA):DTE:=λ ρ G Q=>t ρ G λ ds G1=>Q (.tup ds) G1
abbrev dLst (t:DTA):DTE:=λ ρ G Q=>t ρ G λ ds G1=>∀ p,G1 p=none->Q (.ref p) (up G1 p (.lst ds))
theorem i3q {n:Nat} (h:Nat.ble n 1000=true):n<=sizeLine:=by
  have:=Nat.le_of_ble_eq_true h
  rw [sizeLine_eq];omega
theorem b1q {x1} (h:AA X es t) (hl:Nat.ble es.length 1000=true:=by rfl):AE X (.Tuple es x1 pos) (dTup t):=by
  obtain ⟨ca,ja,ra⟩:=h.run
  refine ⟨_,aK5q ja,λ ρ G DQ σ H Q B q F=>ra ρ G _ σ H _ B q λ ds G1 vs H1 g1 al hn q1=>⟨by rw [al.len,hn];exact i3q hl,λ p hp=>?_⟩⟩
  have g2:=Go.newT (o:=.tup vs) g1.vw hp
  exact F (.tup ds) G1 _ _ (g1.trans g2) ⟨p,vs,rfl,.of bKq,al.mono g2.tup⟩ q1
theorem bSq (h:AA X es t) (hl:Nat.ble es.length 1000=true:=by rfl):AE X (.List es pos) (dLst t):=by
  obtain ⟨ca,ja,ra⟩:=h.run
  refine ⟨_,u7q ja,λ ρ G DQ σ H Q B q F=>ra ρ G _ σ H _ B q λ ds G1 vs H1 g1 al hn q1=>⟨by rw [al.len,hn];exact i3q hl,λ p hp=>?_⟩⟩
  exact F (.ref p) _ _ _ (g1.trans (Go.newL g1.vw hp al)) rfl (q1 p (g1.vw.none hp))
def atN (ds:List D):Int->Option D
  | .ofNat k=>ds[k]?
  | .negSucc k=>atI ds (.negSucc k)
theorem u1q (ds:List D) (i:Int):atN ds i=atI ds i:=by
  cases i with
  | negSucc k=>rfl
  | ofNat k=>
    show ds[k]?=atI ds (k:Int)
    by_cases h:k < ds.length
    . rw [Yi h]
      exact (bFq (Yi h)).symm
    . rw [YX (by omega)]
      unfold atI ixN
      rw [if_pos (by omega),if_neg (by omega)];rfl
def atD (ds:List D) (i:Int) (G:DV) (Q:DK):Prop:=match atN ds i with
  | some d=>Q d G
  | none=>False
theorem jCq {ds:List D} {i:Int} {G:DV} {Q:DK} {d:D} (h:atI ds i=some d) (q:Q d G):atD ds i G Q:=by unfold atD;rw [u1q,h];exact q
@[irreducible] def onL (G:DV) (l:Addr) (k:List D->Prop):Prop:=match G l with
  | some (.lst ds)=>k ds
  | _=>False
@[irreducible] def onM (G:DV) (l:Addr) (k:List D->Prop):Prop:=match G l with
  | some (.lst ds)=>k ds
  | _=>False
theorem a6q {G:DV} {l:Addr} {k:List D->Prop} {ds:List D} (h:G l=some (.lst ds)) (q:k ds):onL G l k:=by unfold onL;rw [h];exact q
theorem aTq {G:DV} {l:Addr} {k:List D->Prop} {ds:List D} (h:G l=some (.lst ds)) (q:k ds):onM G l k:=by unfold onM;rw [h];exact q
theorem bHq {K:PySem.W.Frag} {G:DV} {H:Hp} {l:Addr} {k:List D->Prop} (v:Vw K G H) (h:onL G l k):∃ ds vs,k ds/\SqL K H l vs/\AbsL K H ds vs:=by
  unfold onL at h
  split at h
  . next ds e=>obtain ⟨vs,z,r⟩:=v _ _ e;exact ⟨ds,vs,h,.of z,r⟩
  . exact h.elim
theorem cWq {K:PySem.W.Frag} {G:DV} {H:Hp} {l:Addr} {k:List D->Prop} (v:Vw K G H) (h:onM G l k):∃ ds vs,k ds/\G l=some (.lst ds)/\H l=some (.lst vs)/\AbsL K H ds vs:=by
  unfold onM at h
  split at h
  . next ds e=>obtain ⟨vs,z,r⟩:=v _ _ e;exact ⟨ds,vs,h,e,z,r⟩
  . exact h.elim
abbrev dOp (r:DR2) (ta tb:DTE):DTE:=λ ρ G Q=>ta ρ G λ x G1=>tb ρ G1 λ y G2=>r x y G2 Q
abbrev dUn (r:DR1) (ta:DTE):DTE:=λ ρ G Q=>ta ρ G λ x G1=>r x G1 Q
theorem aOq {op:Operator} {r:DR2} (ho:AOp X (binaryOp op) r) (ha:AE X a ta) (hb:AE X b tb):AE X (.BinOp a op b pos) (dOp r ta tb):=by
  obtain ⟨ca,ja,ra⟩:=ha.run
  obtain ⟨cb,jb,rb⟩:=hb.run
  obtain ⟨co,jo,ro⟩:=ho.run
  refine ⟨_,aQ1q jo ja jb,λ ρ G DQ σ H Q B q F=>?_⟩
  exact ra ρ G _ σ H _ B q λ x G1 v H1 g1 ax q1=>rb ρ G1 _ σ H1 _ (B.go g1) q1 λ y G2 u H2 g2 ay q2=>ro x y v u G2 H2 DQ Q g2.vw (ax.mono g2.tup) ay q2 (F.after (g1.trans g2))
theorem d3q {op:CmpOp} {r:DR2} (ho:AOp X (compareOp op) r) (ha:AE X a ta) (hb:AE X b tb) (hm:behindInMarks op b=false):AE X (.Compare a [op] [b] pos) (dOp r ta tb):=by
  obtain ⟨ca,ja,ra⟩:=ha.run
  obtain ⟨cb,jb,rb⟩:=hb.run
  obtain ⟨co,jo,ro⟩:=ho.run
  refine ⟨_,vCq jo ja jb hm,λ ρ G DQ σ H Q B q F=>?_⟩
  exact ra ρ G _ σ H _ B q λ x G1 v H1 g1 ax q1=>rb ρ G1 _ σ H1 _ (B.go g1) q1 λ y G2 u H2 g2 ay q2=>ro x y v u G2 H2 DQ Q g2.vw (ax.mono g2.tup) ay q2 (F.after (g1.trans g2))
theorem i7q {op:UnaryOp} {r:DR1} (ho:AUn X (unaryOp op) r) (ha:AE X a ta):AE X (.UnaryOp op a pos) (dUn r ta):=by
  obtain ⟨ca,ja,ra⟩:=ha.run
  obtain ⟨co,jo,ro⟩:=ho.run
  refine ⟨_,aN9q jo ja,λ ρ G DQ σ H Q B q F=>?_⟩
  exact ra ρ G _ σ H _ B q λ x G1 v H1 g1 ax q1=>ro x v G1 H1 DQ Q g1.vw ax q1 (F.after g1)
theorem aHq {r:DR2} (hr:AIx X r) (ha:AE X a ta) (hb:AE X b tb) (hs:hUq b):AE X (.Subscript a b pos) (dOp r ta tb):=by
  obtain ⟨ca,ja,ra⟩:=ha.run
  obtain ⟨cb,jb,rb⟩:=hb.run
  obtain ⟨co,jo,ro⟩:=hr.run
  refine ⟨_,aG0q jo ja jb hs,λ ρ G DQ σ H Q B q F=>?_⟩
  exact ra ρ G _ σ H _ B q λ x G1 v H1 g1 ax q1=>rb ρ G1 _ σ H1 _ (B.go g1) q1 λ y G2 u H2 g2 ay q2=>ro x y v u G2 H2 DQ Q g2.vw (ax.mono g2.tup) ay q2 (F.after (g1.trans g2))
def Br (c:Bool) (A B:Prop):Prop:=(c=true->A)/\(c=false->B)
abbrev blD (x:D) (k:Bool->Prop):Prop:=match x with
  | .bl c=>k c
  | _=>False
theorem hYq {K:PySem.W.Frag} {H:Hp} {x:D} {v:V} {k:Bool->Prop} (h:blD x k) (r:Abs K H x v):∃ c,v=.bl c/\x=.bl c/\k c:=by
  unfold blD at h
  split at h
  . exact ⟨_,r,rfl,h⟩
  . exact h.elim
abbrev aW5q (ta tb:DTE):DTE:=λ ρ G Q=>ta ρ G λ x G1=>blD x λ c=>Br c (tb ρ G1 Q) (Q (.bl false) G1)
abbrev dOrV (ta tb:DTE):DTE:=λ ρ G Q=>ta ρ G λ x G1=>blD x λ c=>Br c (Q (.bl true) G1) (tb ρ G1 Q)
abbrev aU9q (ta:DTE):DTE:=λ ρ G Q=>ta ρ G λ x G1=>blD x λ c=>Q (.bl (!c)) G1
theorem f0q {op} (h:AE X a ta):AE X (.BoolOp op [a] pos) ta:=by
  obtain ⟨ca,ja,ra⟩:=h.run
  exact ⟨_,z3q ja,ra⟩
theorem eEq {rest:List Expr} (ha:AE X a ta) (hb:AE X (.BoolOp .And (b::rest) pos) tb):AE X (.BoolOp .And (a::b::rest) pos) (aW5q ta tb):=by
  obtain ⟨ca,ja,ra⟩:=ha.run
  obtain ⟨cb,jb,rb⟩:=hb.run
  refine ⟨_,yTq ja jb,λ ρ G DQ σ H Q B q F=>ra ρ G _ σ H _ B q λ x G1 v H1 g1 ax q1=>?_⟩
  obtain ⟨c,e1,e2,q2⟩:=hYq q1 ax
  refine ⟨c,e1,?_⟩
  cases c with
  | true=>exact rb ρ G1 _ σ H1 _ (B.go g1) (q2.1 rfl) (F.after g1)
  | false=>exact F (.bl false) _ _ _ g1 rfl (q2.2 rfl)
theorem aS1q {rest:List Expr} (ha:AE X a ta) (hb:AE X (.BoolOp .Or (b::rest) pos) tb):AE X (.BoolOp .Or (a::b::rest) pos) (dOrV ta tb):=by
  obtain ⟨ca,ja,ra⟩:=ha.run
  obtain ⟨cb,jb,rb⟩:=hb.run
  refine ⟨_,aO1q ja jb,λ ρ G DQ σ H Q B q F=>ra ρ G _ σ H _ B q λ x G1 v H1 g1 ax q1=>?_⟩
  obtain ⟨c,e1,e2,q2⟩:=hYq q1 ax
  refine ⟨c,e1,?_⟩
  cases c with
  | false=>exact rb ρ G1 _ σ H1 _ (B.go g1) (q2.2 rfl) (F.after g1)
  | true=>exact F (.bl true) _ _ _ g1 rfl (q2.1 rfl)
theorem oXq (ha:AE X a ta):AE X (.UnaryOp .Not a pos) (aU9q ta):=by
  obtain ⟨ca,ja,ra⟩:=ha.run
  refine ⟨_,aC6q ja,λ ρ G DQ σ H Q B q F=>ra ρ G _ σ H _ B q λ x G1 v H1 g1 ax q1=>?_⟩
  obtain ⟨c,e1,e2,q2⟩:=hYq q1 ax
  exact ⟨c,e1,F (.bl (!c)) _ _ _ g1 rfl q2⟩
abbrev dIf (tc:DTT) (ta tb:DTE):DTE:=λ ρ G Q=>tc ρ G λ c G1=>Br c (ta ρ G1 Q) (tb ρ G1 Q)
theorem t2q {tc:DTT} (hc:AT X c tc) (ha:AE X a ta) (hb:AE X b tb):AE X (.IfExp c a b pos) (dIf tc ta tb):=by
  obtain ⟨cc,jc,rc⟩:=hc.run
  obtain ⟨ca,ja,ra⟩:=ha.run
  obtain ⟨cb,jb,rb⟩:=hb.run
  refine ⟨_,sWq jc ja jb,λ ρ G DQ σ H Q B q F=>rc ρ G _ σ H _ B q λ c G1 H1 g1 q1=>?_⟩
  cases c with
  | true=>exact ra ρ G1 _ σ H1 _ (B.go g1) (q1.1 rfl) (F.after g1)
  | false=>exact rb ρ G1 _ σ H1 _ (B.go g1) (q1.2 rfl) (F.after g1)
abbrev aH8q (t:DTE):DTT:=λ ρ G Q=>t ρ G λ x G1=>blD x λ c=>Q c G1
theorem aBq {op:CmpOp} {r:DR2} (ho:AOp X (compareOp op) r) (ha:AE X a ta) (hb:AE X b tb) (hm:behindInMarks op b=false):AT X (.Compare a [op] [b] pos) (aH8q (dOp r ta tb)):=by
  obtain ⟨ca,ja,ra⟩:=ha.run
  obtain ⟨cb,jb,rb⟩:=hb.run
  obtain ⟨co,jo,ro⟩:=ho.run
  refine ⟨_,wEq jo ja jb hm,λ ρ G DQ σ H Q B q F=>?_⟩
  refine ra ρ G _ σ H _ B q λ x G1 v H1 g1 ax q1=>rb ρ G1 _ σ H1 _ (B.go g1) q1 λ y G2 u H2 g2 ay q2=>ro x y v u G2 H2 _ _ g2.vw (ax.mono g2.tup) ay q2 λ z G3 w H3 g3 az q3=>?_
  obtain ⟨c,e1,e2,q4⟩:=hYq q3 az
  exact ⟨c,e1,F c G3 H3 ((g1.trans g2).trans g3) q4⟩
abbrev dNot (tc:DTT):DTT:=λ ρ G Q=>tc ρ G λ c G1=>Q (!c) G1
abbrev dAnd (tc td:DTT):DTT:=λ ρ G Q=>tc ρ G λ c G1=>Br c (td ρ G1 Q) (Q false G1)
abbrev dOr (tc td:DTT):DTT:=λ ρ G Q=>tc ρ G λ c G1=>Br c (Q true G1) (td ρ G1 Q)
theorem dAq {tc:DTT} (ha:AT X a tc):AT X (.UnaryOp .Not a pos) (dNot tc):=by
  obtain ⟨ca,ja,ra⟩:=ha.run
  exact ⟨_,zOq ja,λ ρ G DQ σ H Q B q F=>ra ρ G _ σ H _ B q λ c G1 H1 g1 q1=>F _ _ _ g1 q1⟩
theorem cBq {tc:DTT} (ha:AT X a tc):AW X (.BoolOp .And [a] pos) tc:=by
  obtain ⟨ca,ja,ra⟩:=ha.run
  exact ⟨_,v3q ja,ra⟩
theorem cCq {tc:DTT} (ha:AT X a tc):AW X (.BoolOp .Or [a] pos) tc:=by
  obtain ⟨ca,ja,ra⟩:=ha.run
  exact ⟨_,aB3q ja,ra⟩
theorem dCq {tc td:DTT} {rest:List Expr} (ha:AT X a tc) (hb:AW X (.BoolOp .And (b::rest) pos) td):AW X (.BoolOp .And (a::b::rest) pos) (dAnd tc td):=by
  obtain ⟨ca,ja,ra⟩:=ha.run
  obtain ⟨cb,jb,rb⟩:=hb.run
  refine ⟨_,aD0q ja jb,λ ρ G DQ σ H Q B q F=>ra ρ G _ σ H _ B q λ c G1 H1 g1 q1=>?_⟩
  cases c with
  | true=>exact rb ρ G1 _ σ H1 _ (B.go g1) (q1.1 rfl) λ c G' H' g'=>F c G' H' (g1.trans g')
  | false=>exact F _ _ _ g1 (q1.2 rfl)
theorem d6q {tc td:DTT} {rest:List Expr} (ha:AT X a tc) (hb:AW X (.BoolOp .Or (b::rest) pos) td):AW X (.BoolOp .Or (a::b::rest) pos) (dOr tc td):=by
  obtain ⟨ca,ja,ra⟩:=ha.run
  obtain ⟨cb,jb,rb⟩:=hb.run
  refine ⟨_,aO2q ja jb,λ ρ G DQ σ H Q B q F=>ra ρ G _ σ H _ B q λ c G1 H1 g1 q1=>?_⟩
  cases c with
  | false=>exact rb ρ G1 _ σ H1 _ (B.go g1) (q1.2 rfl) λ c G' H' g'=>F c G' H' (g1.trans g')
  | true=>exact F _ _ _ g1 (q1.1 rfl)
theorem AW.at {tc:DTT} (h:AW X e tc):AT X e tc:=by
  obtain ⟨ca,ja,ra⟩:=h.run
  exact ⟨_,ja.pt,ra⟩
def truD (x:D) (G:DV) (k:Bool->Prop):Prop:=match x with
  | .non=>k false
  | .bl b=>k b
  | .int i=>k (i !=0)
  | .str y=>y.length<=sizeLine/\k ((y.length:Int) !=0)
  | .tup ds=>k (!ds.isEmpty)
  | .ref p=>onL G p λ ds=>k (!ds.isEmpty)
  | _=>False
theorem AbsL.isEmpty {K:PySem.W.Frag} {H:Hp} {ds:List D} {vs:List V} (h:AbsL K H ds vs):vs.isEmpty=ds.isEmpty:=by
  have:=h.len
  cases ds<;>cases vs<;>simp_all
abbrev aF3q (t:DTE):DTT:=λ ρ G Q=>t ρ G λ x G1=>truD x G1 λ c=>Q c G1
theorem bBq (ha:AE X a ta) (he:∀ whole,isTrue a X.env whole=(do let v ← whole;standAt a.pos;holding [v] (truthy v)):=by intro _;rfl):AT X a (aF3q ta):=by
  obtain ⟨ca,ja,ra⟩:=ha.run
  refine ⟨_,rPq ja he,λ ρ G DQ σ H Q B q F=>ra ρ G _ σ H _ B q λ x G1 v H1 g1 ax q1=>?_⟩
  cases x with
  | non=>cases ax;exact ⟨_,rfl,F _ _ _ g1 q1⟩
  | bl b=>cases ax;exact ⟨_,rfl,F _ _ _ g1 q1⟩
  | int i=>cases ax;exact ⟨_,rfl,F _ _ _ g1 q1⟩
  | str y=>cases ax;exact ⟨_,⟨q1.1,rfl⟩,F _ _ _ g1 q1.2⟩
  | ref l=>
    cases ax
    obtain ⟨ds,vs,k,s,r⟩:=bHq g1.vw q1
    exact ⟨_,.inl ⟨vs,s,rfl⟩,by rw [r.isEmpty];exact F _ _ _ g1 k⟩
  | tup ds=>
    obtain ⟨l,vs,rfl,s,r⟩:=ax
    exact ⟨_,.inr (.inl ⟨vs,s,rfl⟩),by rw [r.isEmpty];exact F _ _ _ g1 q1⟩
  | ty n=>exact (show False from q1).elim
  | frl ds=>exact (show False from q1).elim
abbrev vIq:DTO:=λ _ G Q=>Q none G
abbrev aS5q (t:DTE):DTO:=λ ρ G Q=>t ρ G λ x G1=>match x with
  | .int i=>Q (some i) G1
  | _=>False
theorem bPq:AO X none vIq:=⟨_,w4q,λ ρ G DQ σ H Q B q F=>F none G H (.refl B.vw) q⟩
theorem b2q (h:AE X e te):AO X (some e) (aS5q te):=by
  obtain ⟨ca,ja,ra⟩:=h.run
  refine ⟨_,uYq ja,λ ρ G DQ σ H Q B q F=>ra ρ G _ σ H _ B q λ x G1 v H1 g1 ax q1=>?_⟩
  split at q1
  . next i=>exact ⟨i,ax,F _ _ _ g1 q1⟩
  . exact q1.elim
abbrev dSl (r:D->Option Int->Option Int->DV->DK->Prop) (te:DTE) (tl th:DTO):DTE:=λ ρ G Q=>te ρ G λ x G1=>tl ρ G1 λ l G2=>th ρ G2 λ u G3=>r x l u G3 Q
theorem bCq {r:D->Option Int->Option Int->DV->DK->Prop} {lo hi:Option Expr} {tl th:DTO} {p2:Pos} (hr:ASl X r) (he:AE X e te) (hl:AO X lo tl) (hu:AO X hi th):AE X (.Subscript e (.Slice lo hi none p2) pos) (dSl r te tl th):=by
  obtain ⟨ce,je,re⟩:=he.run
  obtain ⟨cl,jl,rl⟩:=hl.run
  obtain ⟨cu,ju,ru⟩:=hu.run
  obtain ⟨cr,jr,rr⟩:=hr.run
  refine ⟨_,rMq jr je jl ju,λ ρ G DQ σ H Q B q F=>re ρ G _ σ H _ B q λ x G1 v H1 g1 ax q1=>rl ρ G1 _ σ H1 _ (B.go g1) q1 λ l G2 H2 g2 q2=>ru ρ G2 _ σ H2 _ ((B.go g1).go g2) q2 λ u G3 H3 g3 q3=>?_⟩
  exact rr x v l u G3 H3 DQ Q g3.vw ((ax.mono g2.tup).mono g3.tup) q3 (F.after ((g1.trans g2).trans g3))
abbrev aS7q:DTS:=λ D ρ G=>D.nx ρ G
abbrev dSeq (t u:DTS):DTS:=λ D ρ G=>t { D with nx:=u D } ρ G
abbrev aT2q (te:DTE):DTS:=λ D ρ G=>te ρ G λ _ G1=>D.nx ρ G1
abbrev dRet (te:DTE):DTS:=λ D ρ G=>te ρ G D.rt
abbrev dIfS (c:DTT) (t u:DTS):DTS:=λ D ρ G=>c ρ G λ b G1=>Br b (t D ρ G1) (u D ρ G1)
theorem aGq:AB X [] aS7q:=⟨_,aG1q,λ DD Dc ρ G σ H B q F=>F.nx ρ G σ H (.refl B.vw) B q⟩
theorem a4q {st:Stmt} {rest:List Stmt} {ts us:DTS} (h1:AS X st ts) (h2:AB X rest us):AB X (st::rest) (dSeq ts us):=by
  obtain ⟨c1,j1,r1⟩:=h1.run
  obtain ⟨c2,j2,r2⟩:=h2.run
  refine ⟨_,xRq j1 j2,λ DD Dc ρ G σ H B q F=>r1 _ _ ρ G σ H B q ⟨λ ρ' G' σ' H' g b q=>r2 DD Dc ρ' G' σ' H' b q (F.after g),F.rt,F.bk,F.ct⟩⟩
theorem a7q {st:Stmt} {ts:DTS} (h1:AS X st ts):AB X [st] ts:=by
  obtain ⟨c1,j1,r1⟩:=h1.run
  exact ⟨_,aD8q j1,r1⟩
theorem bDq (he:AE X e te) (hs:swapsWith e none pos.line X.env=pure false:=by rfl):AS X (.Expr e pos) (aT2q te):=by
  obtain ⟨c1,j1,r1⟩:=he.run
  exact ⟨_,vAq j1 hs,λ DD Dc ρ G σ H B q F=>r1 ρ G _ σ H _ B q λ d G' v H' g _ q=>F.nx ρ G' σ H' g (B.go g) q⟩
theorem aEq (he:AE X e te):AS X (.Return (some e) pos) (dRet te):=by
  obtain ⟨c1,j1,r1⟩:=he.run
  exact ⟨_,yNq j1,λ DD Dc ρ G σ H B q F=>r1 ρ G _ σ H _ B q F.rt⟩
theorem aNq {ss us:List Stmt} {tc:DTT} {ts tu:DTS} (hc:AT X c tc) (ha:AB X ss ts) (hb:AB X us tu):AS X (.If c ss us pos) (dIfS tc ts tu):=by
  obtain ⟨cc,jc,rc⟩:=hc.run
  obtain ⟨ca,ja,ra⟩:=ha.run
  obtain ⟨cb,jb,rb⟩:=hb.run
  refine ⟨_,aP2q jc ja jb,λ DD Dc ρ G σ H B q F=>rc ρ G _ σ H _ B q λ c G1 H1 g1 q1=>?_⟩
  cases c with
  | true=>exact ra DD Dc ρ G1 σ H1 (B.go g1) (q1.1 rfl) (F.after g1)
  | false=>exact rb DD Dc ρ G1 σ H1 (B.go g1) (q1.2 rfl) (F.after g1)
abbrev mJq (k:Nat):DTG:=λ d ρ G Q=>Q (ρ.set k (some d)) G
abbrev aR5q:x0q:=λ ds ρ G Q=>match ds with
  | []=>Q ρ G
  | _=>False
abbrev z8q (t:DTG) (u:x0q):x0q:=λ ds ρ G Q=>match ds with
  | d::r=>t d ρ G λ ρ' G'=>u r ρ' G' Q
  | []=>False
abbrev aR3q (t:x0q):DTG:=λ d ρ G Q=>match d with
  | .tup ds=>t ds ρ G Q
  | _=>False
theorem bEq {k:Nat} {x:Str} (hN:X.N.Nodup) (hi:X.N[k]?=some x) (hx:Loc X.env.scope x) (hf:X.fn x=true\/X.env.scope.names.lookup x=some .local:=by first | exact .inl rfl | exact .inr rfl | assumption):AG X (.Name x pos) (mJq k):=
  ⟨_,vZq hN hi hx hf,λ d v ρ G DQ σ H Q B a q F=>F _ G _ H (.refl B.vw) (B.set a k) q⟩
abbrev dAsg (te:DTE) (g:DTG):DTS:=λ D ρ G=>te ρ G λ x G1=>g x ρ G1 D.nx
theorem mDq {tg:Expr} {g:DTG} (he:AE X e te) (hg:AG X tg g) (hs:swapsWithSole [tg] e pos.line X.env=pure false:=by rfl) (hw:swappedStores [tg] e X.env=pure none:=by rfl) (h1:(assignEach [tg] X.env).map (·.2)=[assign tg X.env]:=by rfl):AS X (.Assign [tg] e pos) (dAsg te g):=by
  obtain ⟨c1,j1,r1⟩:=he.run
  obtain ⟨c2,j2,r2⟩:=hg.run
  exact ⟨_,aH1q j1 j2 hs hw h1,λ DD Dc ρ G σ H B q F=>r1 ρ G _ σ H _ B q λ d G1 v H1 g1 a q1=>r2 d v ρ G1 _ σ H1 _ (B.go g1) a q1 λ ρ' G' σ' H' g' b q'=>F.nx ρ' G' σ' H' (g1.trans g') b q'⟩
theorem aIq {k:Nat} {x:Str} {pos':Pos} (hN:X.N.Nodup) (hi:X.N[k]?=some x) (hx:Loc X.env.scope x) (he:AE X e te) (hs:swapsWith e (some (.Name x pos')) pos.line X.env=pure false:=by rfl) (hf:X.fn x=true\/X.env.scope.names.lookup x=some .local:=by first | exact .inl rfl | exact .inr rfl | assumption) :
    AS X (.Assign [.Name x pos'] e pos) (dAsg te (mJq k)):=by
  obtain ⟨c1,j1,r1⟩:=he.run
  exact ⟨_,aC9q hN hi hx j1 hs hf,λ DD Dc ρ G σ H B q F=>r1 ρ G _ σ H _ B q λ d G1 v H1 g1 a q1=>F.nx _ G1 _ H1 g1 ((B.go g1).set a k) q1⟩
theorem v9q:AGs X [] aR5q:=⟨_,vGq,λ ds vs ρ G DQ σ H Q B a q F=>by
  cases ds with
  | nil=>cases a;exact ⟨rfl,F ρ G σ H (.refl B.vw) B q⟩
  | cons d r=>exact (show False from q).elim⟩
theorem m5q {tg:DTG} {u:x0q} (h1:AG X e tg) (h2:AGs X es u) (hs:(assignEach (e::es) X.env).map (·.2)=assign e X.env::(assignEach es X.env).map (·.2):=by rfl):AGs X (e::es) (z8q tg u):=by
  obtain ⟨c1,j1,r1⟩:=h1.run
  obtain ⟨c2,j2,r2⟩:=h2.run
  refine ⟨_,sEq j1 j2 hs,λ ds vs ρ G DQ σ H Q B a q F=>?_⟩
  cases ds with
  | nil=>exact (show False from q).elim
  | cons d r=>
    obtain ⟨v,us,rfl,ad,ar⟩:=a
    exact ⟨v,us,rfl,r1 d v ρ G _ σ H _ B ad q λ ρ' G' σ' H' g b q'=>r2 r us ρ' G' _ σ' H' _ b (ar.mono g.tup) q' λ ρ2 G2 σ2 H2 g2 b2 q2=>F ρ2 G2 σ2 H2 (g.trans g2) b2 q2⟩
theorem aI0q {k n:Nat} {tg:x0q} (hc:X.calm=true) (h:AGs X es tg) (hl:es.length=n:=by rfl) (hn:(assignEach es X.env).length=n:=by rfl) (hst:(assignEach es X.env).findIdx? (·.1)=none:=by rfl)
    (hlen:∀ ds ρ G Q,tg ds ρ G Q->ds.length=n:=by intro ds ρ G Q h;match ds,h with | [],h=>(first | rfl | exact (show False from h).elim) | [_],h=>(first | rfl | exact (show False from h).elim) | [_,_],h=>(first | rfl | exact (show False from h).elim) | [_,_,_],h=>(first | rfl | exact (show False from h).elim) | _::_::_::_::_,h=>exact (show False from h).elim):AG X (.Tuple es k pos) (aR3q tg):=by
  obtain ⟨c1,j1,r1⟩:=h.run
  refine ⟨_,aK9q (n:=n) hc j1 hn hst,λ d v ρ G DQ σ H Q B a q F=>?_⟩
  cases d with
  | tup ds=>
    obtain ⟨l,vs,rfl,s,r⟩:=a
    exact ⟨l,vs,rfl,s,by rw [r.len];exact hlen _ _ _ _ q,r1 ds vs ρ G DQ σ H Q B r q F⟩
  | _=>exact (show False from q).elim
end
end L3
namespace L3
open PySem PySem.Spec L2
section
variable {X:Cx}
def addD:DR2:=λ x y G Q=>match x,y with
  | .int i,.int j=>Q (.int (i+j)) G
  | .str i,.str j=>i.length+j.length<=sizeLine/\Q (.str (i++j)) G
  | .tup xs,.tup ys=>xs.length+ys.length<=sizeLine/\Q (.tup (xs++ys)) G
  | .ref l,.ref m=>onM G l λ xs=>onM G m λ ys=>xs.length+ys.length<=sizeLine/\∀ p,G p=none->Q (.ref p) (up G p (.lst (xs++ys)))
  | _,_=>False
theorem aSq:AOp X (binaryOp .Add) addD:=by
  refine ⟨_,⟨op_add.or (op_add_str.or (op_catW.or aD9q))⟩,λ x y vx vy G H DQ Q v ax ay r F=>?_⟩
  cases x with
  | int i=>
    cases y with
    | int j=>cases ax;cases ay;exact .inl ⟨i,j,rfl,rfl,F (.int (i+j)) G _ H (.refl v) rfl r⟩
    | _=>exact (show False from r).elim
  | str i=>
    cases y with
    | str j=>cases ax;cases ay;exact .inr (.inl ⟨i,j,rfl,rfl,r.1,F (.str (i++j)) G _ H (.refl v) rfl r.2⟩)
    | _=>exact (show False from r).elim
  | tup xs=>
    cases y with
    | tup ys=>
      obtain ⟨l,vs,rfl,s1,r1⟩:=ax
      obtain ⟨m,us,rfl,s2,r2⟩:=ay
      have l1:=r1.len
      have l2:=r2.len
      refine .inr (.inr (.inl ⟨l,m,vs,us,rfl,rfl,s1,s2,by rw [l1,l2];exact r.1,λ e=>?_,λ e e2=>?_,λ e e2 p hp=>?_⟩))
      . subst e
        have e':xs=[]:=by cases xs<;>simp_all
        subst e'
        exact F (.tup ys) G _ H (.refl v) ⟨m,us,rfl,s2,r2⟩ (by simpa using r.2)
      . subst e2
        have e':ys=[]:=by cases ys<;>simp_all
        subst e'
        exact F (.tup xs) G _ H (.refl v) ⟨l,vs,rfl,s1,r1⟩ (by simpa using r.2)
      . have g:=Go.newT (o:=.tup (vs++us)) v hp
        exact F (.tup (xs++ys)) G _ _ g ⟨p,_,rfl,.of bKq,(r1.append r2).mono g.tup⟩ r.2
    | _=>exact (show False from r).elim
  | ref l=>
    cases y with
    | ref m=>
      cases ax;cases ay
      obtain ⟨xs,vs,k1,e1,h1,r1⟩:=cWq v r
      obtain ⟨ys,us,k2,e2,h2,r2⟩:=cWq v k1
      have l1:=r1.len
      have l2:=r2.len
      exact .inr (.inr (.inr ⟨l,m,vs,us,rfl,rfl,h1,h2,by rw [l1,l2];exact k2.1,λ p hp=>F (.ref p) _ _ _ (Go.newL v hp (r1.append r2)) rfl (k2.2 p (v.none hp))⟩))
    | _=>exact (show False from r).elim
  | _=>exact (show False from r).elim
def yDq (C:Int->Int->Prop) (g:Int->Int->D):DR2:=λ x y G Q=>match x,y with
  | .int i,.int j=>C i j/\Q (g i j) G
  | _,_=>False
def lAq (g:Int->Int->D):DR2:=λ x y G Q=>match x,y with
  | .int i,.int j=>Q (g i j) G
  | _,_=>False
theorem rNq {f:Value->Value->Sem Value} {C:Int->Int->Prop} {g:Int->Int->Int} (h:OpR X f (rI C λ i j=>.int (g i j))):AOp X f (yDq C λ i j=>.int (g i j)):=by
  refine ⟨_,⟨h⟩,λ x y vx vy G H DQ Q v ax ay r F=>?_⟩
  cases x with
  | int i=>
    cases y with
    | int j=>cases ax;cases ay;exact ⟨i,j,rfl,rfl,r.1,F (.int (g i j)) G _ H (.refl v) rfl r.2⟩
    | _=>exact (show False from r).elim
  | _=>exact (show False from r).elim
theorem zIq {f:Value->Value->Sem Value} {g:Int->Int->Int} (h:OpR X f (rI0 λ i j=>.int (g i j))):AOp X f (lAq λ i j=>.int (g i j)):=by
  refine ⟨_,⟨h⟩,λ x y vx vy G H DQ Q v ax ay r F=>?_⟩
  cases x with
  | int i=>
    cases y with
    | int j=>cases ax;cases ay;exact ⟨i,j,rfl,rfl,F (.int (g i j)) G _ H (.refl v) rfl r⟩
    | _=>exact (show False from r).elim
  | _=>exact (show False from r).elim
theorem mHq {f:Value->Value->Sem Value} {g:Int->Int->Bool} (h:OpR X f (rI0 λ i j=>.bl (g i j))):AOp X f (lAq λ i j=>.bl (g i j)):=by
  refine ⟨_,⟨h⟩,λ x y vx vy G H DQ Q v ax ay r F=>?_⟩
  cases x with
  | int i=>
    cases y with
    | int j=>cases ax;cases ay;exact ⟨i,j,rfl,rfl,F (.bl (g i j)) G _ H (.refl v) rfl r⟩
    | _=>exact (show False from r).elim
  | _=>exact (show False from r).elim
theorem bJq:AOp X (binaryOp .Sub) (lAq λ i j=>.int (i - j)):=zIq aG9q
theorem dDq:AOp X (binaryOp .Mult) (yDq CMul λ i j=>.int (i * j)):=rNq zCq
theorem fLq:AOp X (binaryOp .FloorDiv) (yDq (λ _ j=>0 < j/\j < 2 ^ 64) λ i j=>.int (i / j)):=rNq tNq
theorem d9q:AOp X (binaryOp .Mod) (yDq (λ _ j=>0 < j) λ i j=>.int (i % j)):=rNq z2q
theorem vMq:AOp X (binaryOp .Pow) (yDq CPow λ i j=>.int (i ^ j.toNat)):=rNq z0q
theorem c3q:AOp X (compareOp .Lt) (lAq λ i j=>.bl (decide (i < j))):=mHq aR1q
theorem uVq:AOp X (compareOp .LtE) (lAq λ i j=>.bl (decide (i<=j))):=mHq aM7q
theorem dIq:AOp X (compareOp .Gt) (lAq λ i j=>.bl (decide (j < i))):=mHq aQ5q
theorem aJ3q:AOp X (compareOp .GtE) (lAq λ i j=>.bl (decide (j<=i))):=mHq aR2q
def negD:DR1:=λ x G Q=>match x with
  | .int i=>Q (.int (-i)) G
  | _=>False
theorem d2q:AUn X (unaryOp .USub) negD:=by
  refine ⟨_,⟨zBq⟩,λ x vx G H DQ Q v ax r F=>?_⟩
  cases x with
  | int i=>cases ax;exact ⟨i,rfl,F (.int (-i)) G _ H (.refl v) rfl r⟩
  | _=>exact (show False from r).elim
def bB4q:D->Bool
  | .non=>true
  | _=>false
theorem iSq {K:PySem.W.Frag} {H:Hp} {ds:List D} {vs:List V} {i:Int} {d:D} (r:AbsL K H ds vs) (h:atI ds i=some d):∃ v,atI vs i=some v/\Abs K H d v:=by
  unfold atI at h ⊢
  rw [r.len]
  cases e:ixN ds.length i with
  | none=>rw [e] at h;cases h
  | some j=>
    rw [e] at h
    exact r.get h
theorem iKq {ds:List D} {i:Int} {G:DV} {Q:DK} (h:atD ds i G Q):∃ d,atI ds i=some d/\Q d G:=by
  unfold atD at h
  rw [u1q] at h
  split at h
  . next d e=>exact ⟨d,e,h⟩
  . exact h.elim
def ixD:DR2:=λ x y G Q=>match x,y with
  | .tup ds,.int i=>atD ds i G Q
  | .ref l,.int i=>onL G l λ ds=>atD ds i G Q
  | .frl ds,.int i=>atD ds i G Q
  | .str z,.int i=>z.length<=sizeLine/\∃ c,atI z.cps.toList i=some c/\Q (.str ⟨#[c]⟩) G
  | _,_=>False
theorem aA3q {ds:List D} {i:Int} {G:DV} {Q:DK} {d:D} (h:atI ds i=some d) (q:Q d G):ixD (.tup ds) (.int i) G Q:=jCq h q
theorem u0q {ds:List D} {i:Int} {G:DV} {Q:DK} {d:D} (h:atI ds i=some d) (q:Q d G):ixD (.frl ds) (.int i) G Q:=jCq h q
theorem aLq {l:Addr} {ds:List D} {i:Int} {G:DV} {Q:DK} {d:D} (hl:G l=some (.lst ds)) (h:atI ds i=some d) (q:Q d G):ixD (.ref l) (.int i) G Q:=a6q hl (jCq h q)
theorem aix:AIx X ixD:=by
  refine ⟨_,⟨uKq⟩,λ x y vx vy G H DQ Q v ax ay r F=>?_⟩
  cases x with
  | tup ds=>
    cases y with
    | int i=>
      cases ay
      obtain ⟨l,vs,rfl,s,rl⟩:=ax
      obtain ⟨d,hd,q⟩:=iKq r
      obtain ⟨u,hu,ad⟩:=iSq rl hd
      exact .inr (.inl ⟨l,vs,i,u,rfl,rfl,s,hu,F d G u H (.refl v) ad q⟩)
    | _=>exact (show False from r).elim
  | ref l=>
    cases y with
    | int i=>
      cases ax;cases ay
      obtain ⟨ds,vs,k,s,rl⟩:=bHq v r
      obtain ⟨d,hd,q⟩:=iKq k
      obtain ⟨u,hu,ad⟩:=iSq rl hd
      exact .inl ⟨l,vs,i,u,rfl,rfl,s,hu,F d G u H (.refl v) ad q⟩
    | _=>exact (show False from r).elim
  | frl ds=>
    cases y with
    | int i=>
      cases ay
      obtain ⟨l,vs,rfl,s,rl⟩:=ax
      obtain ⟨d,hd,q⟩:=iKq r
      obtain ⟨u,hu,ad⟩:=iSq rl hd
      exact .inl ⟨l,vs,i,u,rfl,rfl,s.sq,hu,F d G u H (.refl v) ad q⟩
    | _=>exact (show False from r).elim
  | str z=>
    cases y with
    | int i=>
      cases ax;cases ay
      obtain ⟨hz,c,hc,q⟩:=r
      exact .inr (.inr ⟨z,i,c,rfl,rfl,hz,hc,F (.str ⟨#[c]⟩) G _ H (.refl v) rfl q⟩)
    | _=>exact (show False from r).elim
  | _=>exact (show False from r).elim
def slD:D->Option Int->Option Int->DV->DK->Prop:=λ x lo hi G Q=>match x with
  | .tup ds=>Q (.tup (cut ds lo hi)) G
  | .ref l=>onL G l λ ds=>∀ p,G p=none->Q (.ref p) (up G p (.lst (cut ds lo hi)))
  | .frl ds=>∀ p,G p=none->Q (.ref p) (up G p (.lst (cut ds lo hi)))
  | _=>False
theorem asl:ASl X slD:=by
  refine ⟨_,⟨sl_tupU.or w5q⟩,λ x vx lo hi G H DQ Q v ax r F=>?_⟩
  cases x with
  | tup ds=>
    obtain ⟨l,vs,rfl,s,rl⟩:=ax
    refine .inl ⟨l,vs,rfl,s,λ t H2 sm st=>?_⟩
    have g:=Go.grow v sm
    exact F (.tup (cut ds lo hi)) G _ _ g ⟨t,_,rfl,st,(rl.cut lo hi).mono g.tup⟩ r
  | ref l=>
    cases ax
    obtain ⟨ds,vs,k,s,rl⟩:=bHq v r
    exact .inr ⟨l,vs,rfl,s,λ p hp=>F (.ref p) _ _ _ (Go.newL v hp (rl.cut lo hi)) rfl (k p (v.none hp))⟩
  | frl ds=>
    obtain ⟨l,vs,rfl,s,rl⟩:=ax
    exact .inr ⟨l,vs,rfl,s.sq,λ p hp=>F (.ref p) _ _ _ (Go.newL v hp (rl.cut lo hi)) rfl (r p (v.none hp))⟩
  | _=>exact (show False from r).elim
def dQq:D->Bool
  | .non=>true
  | .bl _=>true
  | .int _=>true
  | .str _=>true
  | _=>false
def toV:D->V
  | .non=>.non
  | .bl b=>.bl b
  | .int i=>.int i
  | .str x=>.str x
  | _=>.non
theorem j9q {K:PySem.W.Frag} {H:Hp} {d:D} {v:V} (a:Abs K H d v) (h:dQq d=true):v=toV d/\gXq v=true:=by
  cases d with
  | non=>cases a;exact ⟨rfl,rfl⟩
  | bl b=>cases a;exact ⟨rfl,rfl⟩
  | int b=>cases a;exact ⟨rfl,rfl⟩
  | str b=>cases a;exact ⟨rfl,rfl⟩
  | _=>exact absurd h (by simp [dQq])
theorem z4q {K:PySem.W.Frag} {H:Hp}:∀ {ds:List D} {vs:List V},AbsL K H ds vs->ds.all dQq=true->vs=ds.map toV/\vs.all gXq=true
  | [],_,r,_=>by cases r;exact ⟨rfl,rfl⟩
  | _::_,_,⟨v,r,e,q,l⟩,h=>by
    subst e
    rw [YB,Bool.and_eq_true] at h
    obtain ⟨h1,h2⟩:=j9q q h.1
    obtain ⟨h3,h4⟩:=z4q l h.2
    exact ⟨by rw [Yh,<- h1,<- h3],by rw [YB,h2,h4];rfl⟩
def eqF:D->D->Bool
  | .non,.non=>true
  | .bl a,.bl b=>a==b
  | .bl a,.int b=>(if a then 1 else 0)==b
  | .int a,.bl b=>a==(if b then 1 else 0)
  | .int a,.int b=>a==b
  | .str a,.str b=>a==b
  | _,_=>false
theorem aP1q {x y:D} (hx:dQq x=true) (hy:dQq y=true):eqV (toV x) (toV y)=eqF x y:=by
  cases x<;>cases y<;>first | rfl | (simp [dQq] at hx;done) | (simp [dQq] at hy;done)
def inL (x:D) (ds:List D):Bool:=ds.any λ y=>eqF y x
theorem o3q {x:D} (hx:dQq x=true):∀ {ds:List D},ds.all dQq=true->inV (toV x) (ds.map toV)=inL x ds
  | [],_=>rfl
  | d::ds,h=>by
    rw [YB,Bool.and_eq_true] at h
    have ih:=o3q hx h.2
    unfold inV inL at *
    rw [Yh,YU,YU,ih,aP1q h.1 hx]
def inD (neg:Bool):DR2:=λ x y G Q=>match y with
  | .tup ds=>dQq x=true/\ds.all dQq=true/\Q (.bl (neg ^^ inL x ds)) G
  | .ref l=>onL G l λ ds=>dQq x=true/\ds.all dQq=true/\Q (.bl (neg ^^ inL x ds)) G
  | .str j=>(match x with
      | .str i=>Q (.bl (neg ^^ !(Builtin.Str.occurrences j i 0 j.length 1).isEmpty)) G
      | _=>False)
  | _=>False
theorem f9q:AOp X (compareOp .In) (inD false):=by
  refine ⟨_,⟨op_in_seq.or pQq⟩,λ x y vx vy G H DQ Q v ax ay r F=>?_⟩
  cases y with
  | tup ds=>
    obtain ⟨h1,h2,q⟩:=r
    obtain ⟨l,vs,rfl,s,rl⟩:=ay
    obtain ⟨e1,f1⟩:=j9q ax h1
    obtain ⟨e2,f2⟩:=z4q rl h2
    refine .inl ⟨l,vs,rfl,.inr s,f1,f2,?_⟩
    rw [e1,e2,o3q h1 h2]
    exact F (.bl _) G _ H (.refl v) rfl (by simpa using q)
  | ref l=>
    cases ay
    obtain ⟨ds,vs,⟨h1,h2,q⟩,s,rl⟩:=bHq v r
    obtain ⟨e1,f1⟩:=j9q ax h1
    obtain ⟨e2,f2⟩:=z4q rl h2
    refine .inl ⟨l,vs,rfl,.inl s,f1,f2,?_⟩
    rw [e1,e2,o3q h1 h2]
    exact F (.bl _) G _ H (.refl v) rfl (by simpa using q)
  | str j=>
    cases x with
    | str i=>cases ax;cases ay;exact .inr ⟨i,j,rfl,rfl,F (.bl _) G _ H (.refl v) rfl (by simpa [inD] using r)⟩
    | _=>exact (show False from r).elim
  | _=>exact (show False from r).elim
theorem qKq:AOp X (compareOp .NotIn) (inD true):=by
  refine ⟨_,⟨op_notIn_seq.or kAq⟩,λ x y vx vy G H DQ Q v ax ay r F=>?_⟩
  cases y with
  | tup ds=>
    obtain ⟨h1,h2,q⟩:=r
    obtain ⟨l,vs,rfl,s,rl⟩:=ay
    obtain ⟨e1,f1⟩:=j9q ax h1
    obtain ⟨e2,f2⟩:=z4q rl h2
    refine .inl ⟨l,vs,rfl,.inr s,f1,f2,?_⟩
    rw [e1,e2,o3q h1 h2]
    exact F (.bl _) G _ H (.refl v) rfl (by simpa using q)
  | ref l=>
    cases ay
    obtain ⟨ds,vs,⟨h1,h2,q⟩,s,rl⟩:=bHq v r
    obtain ⟨e1,f1⟩:=j9q ax h1
    obtain ⟨e2,f2⟩:=z4q rl h2
    refine .inl ⟨l,vs,rfl,.inl s,f1,f2,?_⟩
    rw [e1,e2,o3q h1 h2]
    exact F (.bl _) G _ H (.refl v) rfl (by simpa using q)
  | str j=>
    cases x with
    | str i=>cases ax;cases ay;exact .inr ⟨i,j,rfl,rfl,F (.bl _) G _ H (.refl v) rfl (by simpa [inD] using r)⟩
    | _=>exact (show False from r).elim
  | _=>exact (show False from r).elim
variable {e o:Expr} {es:List Expr} {te to:DTE} {t:DTA} {pos p apos cpos:Pos}
abbrev dCB (r:DRL) (t:DTA):DTE:=λ ρ G Q=>t ρ G λ ds G1=>r ds G1 Q
theorem aCq {x:Str} {id:String} {r:DRL} (hc:ACall X (.builtin id) r) (hg:Gl X x) (hm:X.mg x=none) (hv:bootBuiltins x=some (.builtin id)) (ha:AA X (e::es) t) (hn:x≠"__name__":=by decide) (hdb:(x==("__debug__" : Str))=false:=by decide)
    (hs:(e::es).all bAq=true:=by rfl):AE X (.Call (.Name x p) (e::es) [] pos) (dCB r t):=by
  obtain ⟨ca,ja,ra⟩:=ha.run
  obtain ⟨cc,jc,rc⟩:=hc.run
  exact ⟨_,s0q jc hg hm hv ja hn hdb hs,λ ρ G DQ σ H Q B q F=>ra ρ G _ σ H _ B q λ ds G1 vs H1 g1 al _ q1=>rc ds vs G1 H1 DQ Q g1.vw al q1 (F.after g1)⟩
theorem b4q {x:Str} {T:String} {r:DRL} (hc:ACall X (.type T) r) (hg:Gl X x) (hm:X.mg x=none) (hv:bootBuiltins x=some (.type T)) (ha:AA X (e::es) t) (hn:x≠"__name__":=by decide) (hdb:(x==("__debug__" : Str))=false:=by decide)
    (hs:(e::es).all bAq=true:=by rfl):AE X (.Call (.Name x p) (e::es) [] pos) (dCB r t):=by
  obtain ⟨ca,ja,ra⟩:=ha.run
  obtain ⟨cc,jc,rc⟩:=hc.run
  exact ⟨_,oNq jc hg hm hv ja hn hdb hs,λ ρ G DQ σ H Q B q F=>ra ρ G _ σ H _ B q λ ds G1 vs H1 g1 al _ q1=>rc ds vs G1 H1 DQ Q g1.vw al q1 (F.after g1)⟩
abbrev rHq (r:D->DV->DK->Prop):DRL:=λ xs G Q=>match xs with
  | [x]=>r x G Q
  | _=>False
abbrev y8q (r:D->D->DV->DK->Prop):DRL:=λ xs G Q=>match xs with
  | [x,y]=>r x y G Q
  | _=>False
theorem c4q {K:PySem.W.Frag} {H:Hp} {r:D->DV->DK->Prop} {xs:List D} {vs:List V} {G:DV} {Q:DK} (h:rHq r xs G Q) (a:AbsL K H xs vs):∃ x v,xs=[x]/\vs=[v]/\Abs K H x v/\r x G Q:=by
  unfold rHq at h
  split at h
  . obtain ⟨v,r,rfl,q,l⟩:=a;cases l;exact ⟨_,v,rfl,rfl,q,h⟩
  . exact h.elim
theorem fEq {K:PySem.W.Frag} {H:Hp} {r:D->D->DV->DK->Prop} {xs:List D} {vs:List V} {G:DV} {Q:DK} (h:y8q r xs G Q) (a:AbsL K H xs vs):∃ x y v u,xs=[x,y]/\vs=[v,u]/\Abs K H x v/\Abs K H y u/\r x y G Q:=by
  unfold y8q at h
  split at h
  . obtain ⟨v,r,rfl,q,u,r2,rfl,q2,l⟩:=a;cases l;exact ⟨_,_,v,u,rfl,rfl,q,q2,h⟩
  . exact h.elim
def lenD:D->DV->DK->Prop:=λ x G Q=>match x with
  | .tup ds=>Q (.int ds.length) G
  | .ref l=>onL G l λ ds=>Q (.int ds.length) G
  | .frl ds=>Q (.int ds.length) G
  | .str z=>z.length<=sizeLine/\Q (.int z.length) G
  | _=>False
theorem aFq:ACall X (.builtin "len") (rHq lenD):=by
  refine ⟨_,⟨call_len_seq.or kCq⟩,λ xs vs G H DQ Q v a r F=>?_⟩
  obtain ⟨x,u,rfl,rfl,ax,r⟩:=c4q r a
  cases x with
  | tup ds=>
    obtain ⟨l,ws,rfl,s,rl⟩:=ax
    exact .inl ⟨l,ws,rfl,.inr s,by rw [rl.len];exact F (.int ds.length) G _ H (.refl v) rfl r⟩
  | ref l=>
    cases ax
    obtain ⟨ds,ws,k,s,rl⟩:=bHq v r
    exact .inl ⟨l,ws,rfl,.inl s,by rw [rl.len];exact F (.int ds.length) G _ H (.refl v) rfl k⟩
  | frl ds=>
    obtain ⟨l,ws,rfl,s,rl⟩:=ax
    exact .inl ⟨l,ws,rfl,.inl s.sq,by rw [rl.len];exact F (.int ds.length) G _ H (.refl v) rfl r⟩
  | str z=>cases ax;exact .inr ⟨z,rfl,r.1,F (.int z.length) G _ H (.refl v) rfl r.2⟩
  | _=>exact (show False from r).elim
def intD:D->DV->DK->Prop:=λ x G Q=>match x with
  | .int i=>Q (.int i) G
  | .bl k=>Q (.int (if k then 1 else 0)) G
  | _=>False
theorem pZq:ACall X (.type "int") (rHq intD):=by
  refine ⟨_,⟨oUq⟩,λ xs vs G H DQ Q v a r F=>?_⟩
  obtain ⟨x,u,rfl,rfl,ax,r⟩:=c4q r a
  cases x with
  | int i=>cases ax;exact .inl ⟨i,rfl,F (.int i) G _ H (.refl v) rfl r⟩
  | bl k=>cases ax;exact .inr ⟨k,rfl,F (.int (if k then 1 else 0)) G _ H (.refl v) rfl r⟩
  | _=>exact (show False from r).elim
def aE1q (g:Int->Int->Int):D->D->DV->DK->Prop:=λ x y G Q=>match x,y with
  | .int i,.int j=>Q (.int (g i j)) G
  | _,_=>False
theorem qDq (hc:X.calm=true):ACall X (.builtin "max") (y8q (aE1q λ i j=>if j > i then j else i)):=by
  refine ⟨_,⟨oKq hc⟩,λ xs vs G H DQ Q v a r F=>?_⟩
  obtain ⟨x,y,u,w,rfl,rfl,ax,ay,r⟩:=fEq r a
  cases x with
  | int i=>
    cases y with
    | int j=>cases ax;cases ay;exact ⟨i,j,rfl,F (.int (if j > i then j else i)) G _ H (.refl v) rfl r⟩
    | _=>exact (show False from r).elim
  | _=>exact (show False from r).elim
theorem r1q (hc:X.calm=true):ACall X (.builtin "min") (y8q (aE1q λ i j=>if j < i then j else i)):=by
  refine ⟨_,⟨pJq hc⟩,λ xs vs G H DQ Q v a r F=>?_⟩
  obtain ⟨x,y,u,w,rfl,rfl,ax,ay,r⟩:=fEq r a
  cases x with
  | int i=>
    cases y with
    | int j=>cases ax;cases ay;exact ⟨i,j,rfl,F (.int (if j < i then j else i)) G _ H (.refl v) rfl r⟩
    | _=>exact (show False from r).elim
  | _=>exact (show False from r).elim
def tupD:D->DV->DK->Prop:=λ x G Q=>match x with
  | .tup ds=>Q (.tup ds) G
  | .ref l=>onL G l λ ds=>Q (.tup ds) G
  | _=>False
theorem b3q:ACall X (.type "tuple") (rHq tupD):=by
  refine ⟨_,⟨iHq⟩,λ xs vs G H DQ Q v a r F=>?_⟩
  obtain ⟨x,u,rfl,rfl,ax,r⟩:=c4q r a
  cases x with
  | tup ds=>
    obtain ⟨l,ws,rfl,s,rl⟩:=ax
    exact ⟨l,ws,rfl,.inr ⟨s,F (.tup ds) G _ H (.refl v) ⟨l,ws,rfl,s,rl⟩ r⟩⟩
  | ref l=>
    cases ax
    obtain ⟨ds,ws,k,s,rl⟩:=bHq v r
    refine ⟨l,ws,rfl,.inl ⟨s,λ p hp=>?_⟩⟩
    have g:=Go.newT (o:=.tup ws) v hp
    exact F (.tup ds) G _ _ g ⟨p,ws,rfl,.of bKq,rl.mono g.tup⟩ k
  | _=>exact (show False from r).elim
def lstD:D->DV->DK->Prop:=λ x G Q=>match x with
  | .tup ds=>∀ p,G p=none->Q (.ref p) (up G p (.lst ds))
  | .ref l=>onL G l λ ds=>∀ p,G p=none->Q (.ref p) (up G p (.lst ds))
  | _=>False
theorem nNq:ACall X (.type "list") (rHq lstD):=by
  refine ⟨_,⟨j5q⟩,λ xs vs G H DQ Q v a r F=>?_⟩
  obtain ⟨x,u,rfl,rfl,ax,r⟩:=c4q r a
  cases x with
  | tup ds=>
    obtain ⟨l,ws,rfl,s,rl⟩:=ax
    exact ⟨l,ws,rfl,.inr s,λ p hp=>F (.ref p) _ _ _ (Go.newL v hp rl) rfl (r p (v.none hp))⟩
  | ref l=>
    cases ax
    obtain ⟨ds,ws,k,s,rl⟩:=bHq v r
    exact ⟨l,ws,rfl,.inl s,λ p hp=>F (.ref p) _ _ _ (Go.newL v hp rl) rfl (k p (v.none hp))⟩
  | _=>exact (show False from r).elim
end
end L3
namespace L2
open PySem PySem.Spec PyProof.Rows
def iSeq (K:PySem.W.Frag) (tl:TE):TI:=λ σ H R=>tl σ H λ x H1=>∃ a,x=.ref a/\(((∃ xs,SqL K H1 a xs)/\R (Itl K a) H1)\/((∃ xs,SqT K H1 a xs)/\R (Itt K a) H1))
theorem aA5q {X:Cx} {tg l:Expr} {tl:TE} (hl:PE X l tl):PI X tg l (iSeq X.K tl):=by
  intro pins s σ H R I h
  refine thn (hl pins s σ H _ I h) λ v s1 ⟨x,H1,I1,r1,q1⟩=>?_
  obtain ⟨a,e,q1⟩:=q1
  subst e
  cases r1
  rcases q1 with ⟨⟨xs,hq⟩,q⟩ | ⟨⟨xs,hq⟩,q⟩
  . obtain ⟨its,rv,p,hz⟩:=I1.list hq
    refine wpAny_pyIter_list p.isList ?_
    refine ⟨s1.heap.objs.size,[s1.heap.objs.size],_,_,H1,rfl,I1.kept (t':=s1.toks) λ b o e=>Heap.get?_push_of_some _ e,r3q a _,⟨_,Heap.get?_push_size _ rfl,rfl,rfl⟩,λ b hb=>?_,q⟩
    have e:b=s1.heap.objs.size:=by simpa using hb
    subst e
    exact I1.fpOk (Nat.le_refl _) (I1.hok.fresh (Nat.le_refl _))
  . obtain ⟨its,rv,p,hz⟩:=I1.tuple hq
    refine wpAny_pyIter_tuple (show s1.heap.IsTuple a its.toArray from p) ?_
    refine ⟨s1.heap.objs.size,[s1.heap.objs.size],_,_,H1,rfl,I1.kept (t':=s1.toks) λ b o e=>Heap.get?_push_of_some _ e,nLq a _,⟨_,Heap.get?_push_size _ rfl,rfl,rfl⟩,λ b hb=>?_,q⟩
    have e:b=s1.heap.objs.size:=by simpa using hb
    subst e
    exact I1.fpOk (Nat.le_refl _) (I1.hok.fresh (Nat.le_refl _))
end L2
namespace L3
open PySem PySem.Spec L2
section
variable {X:Cx} {a b c e o i tg iter:Expr} {es:List Expr} {ta tb te to ti:DTE} {t:DTA} {pos p apos cpos:Pos}
structure DIt where
  items:List D
  held:DV->Prop
abbrev DTI:=DSt->DV->(DIt->DV->Prop)->Prop
def ItOk (K:PySem.W.Frag) (J:DIt) (Jc:It) (G:DV) (H:Hp):Prop:=∀ G1 H1,Go K G H G1 H1->J.held G1 →
  (∀ (i:Nat) (d:D),J.items[i]?=some d->Jc.go i H1/\∀ x H',Jc.yld i H1 x H'->Go K G1 H1 G1 H'/\Abs K H' d x)/\∀ i,J.items.length<=i->Jc.stop i H1
structure AI (X:Cx) (tg iter:Expr) (wi:DTI):Prop where
  run:∃ wc:TI,JI X tg iter wc/\∀ ρ G DR σ H R,Bears X.K ρ G σ H->wi ρ G DR->(∀ J Jc G' H',Go X.K G H G' H'->ItOk X.K J Jc G' H'->DR J G'->R Jc H')->wc σ H R
@[irreducible] def zRq (G:DV) (l:Addr) (k:DIt->Prop):Prop:=match G l with
  | some (.lst ds)=>k ⟨ds,λ G=>G l=some (.lst ds)⟩
  | _=>False
abbrev aT1q (ta:DTE):DTI:=λ ρ G R=>ta ρ G λ x G1=>match x with
  | .tup ds=>R ⟨ds,λ _=>True⟩ G1
  | .ref l=>zRq G1 l λ J=>R J G1
  | .frl ds=>R ⟨ds,λ _=>True⟩ G1
  | _=>False
theorem gIq {G:DV} {l:Addr} {k:DIt->Prop} {ds:List D} (h:G l=some (.lst ds)) (q:k ⟨ds,λ G=>G l=some (.lst ds)⟩):zRq G l k:=by unfold zRq;rw [h];exact q
theorem yMq {K:PySem.W.Frag} {ds:List D} {vs:List V} {l:Addr} {G1:DV} {H1:Hp} (v:Vw K G1 H1) (s:SqT K H1 l vs) (r:AbsL K H1 ds vs) :
    (∀ (i:Nat) (d:D),ds[i]?=some d->(Itt K l).go i H1/\∀ x H',(Itt K l).yld i H1 x H'->Go K G1 H1 G1 H'/\Abs K H' d x)/\∀ i,ds.length<=i->(Itt K l).stop i H1:=by
  refine ⟨λ i d hd=>?_,λ i hi=>⟨vs,s,by rw [r.len];exact hi⟩⟩
  obtain ⟨w,hw,aw⟩:=r.get hd
  refine ⟨⟨vs,w,s,hw⟩,λ x H' y=>?_⟩
  obtain ⟨rfl,y⟩:=y
  have z:=y vs s
  rw [hw] at z
  cases z
  exact ⟨.refl v,aw⟩
theorem rDq {K:PySem.W.Frag} {ds:List D} {vs:List V} {l:Addr} {G1:DV} {H1:Hp} (v:Vw K G1 H1) (s:SqL K H1 l vs) (r:AbsL K H1 ds vs) :
    (∀ (i:Nat) (d:D),ds[i]?=some d->(Itl K l).go i H1/\∀ x H',(Itl K l).yld i H1 x H'->Go K G1 H1 G1 H'/\Abs K H' d x)/\∀ i,ds.length<=i->(Itl K l).stop i H1:=by
  refine ⟨λ i d hd=>?_,λ i hi=>⟨vs,s,by rw [r.len];exact hi⟩⟩
  obtain ⟨w,hw,aw⟩:=r.get hd
  refine ⟨⟨vs,w,s,hw⟩,λ x H' y=>?_⟩
  obtain ⟨rfl,y⟩:=y
  have z:=y vs s
  rw [hw] at z
  cases z
  exact ⟨.refl v,aw⟩
theorem aK8q {tc:TE} (hl:JE X a tc):JI X tg a (iSeq X.K tc):=⟨aA5q hl.run⟩
theorem cKq (ha:AE X a ta):AI X tg a (aT1q ta):=by
  obtain ⟨ca,ja,ra⟩:=ha.run
  refine ⟨_,aK8q ja,λ ρ G DR σ H R B q F=>ra ρ G _ σ H _ B q λ x G1 v H1 g1 ax q1=>?_⟩
  cases x with
  | tup ds=>
    obtain ⟨l,vs,rfl,s,r⟩:=ax
    exact ⟨l,rfl,.inr ⟨⟨vs,s⟩,F ⟨ds,λ _=>True⟩ _ G1 H1 g1 (λ G2 H2 g2 _=>yMq g2.vw (g2.tup.tp _ _ s) (r.mono g2.tup)) q1⟩⟩
  | ref l=>
    cases ax
    refine ⟨l,rfl,.inl ?_⟩
    replace q1:zRq G1 l λ J=>DR J G1:=q1
    unfold zRq at q1
    split at q1
    . next ds hd=>
      obtain ⟨vs,z,r⟩:=g1.vw _ _ hd
      refine ⟨⟨vs,.of z⟩,F ⟨ds,λ G=>G l=some (.lst ds)⟩ _ G1 H1 g1 (λ G2 H2 g2 h2=>?_) q1⟩
      obtain ⟨us,z2,r2⟩:=g2.vw _ _ h2
      exact rDq g2.vw (.of z2) r2
    . exact q1.elim
  | frl ds=>
    obtain ⟨l,vs,rfl,s,r⟩:=ax
    exact ⟨l,rfl,.inl ⟨⟨vs,s.sq⟩,F ⟨ds,λ _=>True⟩ _ G1 H1 g1 (λ G2 H2 g2 _=>rDq g2.vw (g2.tup.fr _ _ s).sq (r.mono g2.tup)) q1⟩⟩
  | _=>exact (show False from q1).elim
def cFq (lo:Int) (n:Nat):List D:=(Ys n).map λ(i:Nat)=>D.int (lo+(i:Int))
theorem nAq {lo:Int} {n i:Nat} {d:D} (h:(cFq lo n)[i]?=some d):i < n/\d=.int (lo+i):=by
  unfold cFq at h
  rw [Yw] at h
  by_cases c:i < n
  . rw [List.getElem?_range c] at h
    simp at h
    exact ⟨c,h.symm⟩
  . rw [YX (by simpa using c)] at h
    cases h
theorem c8q {lo:Int} {n:Nat}:(cFq lo n).length=n:=by simp [cFq]
@[irreducible] def onR (r:List D->Option (Int × Nat)) (ds:List D) (k:Int->Nat->Prop):Prop:=match r ds with
  | some (lo,n)=>k lo n
  | none=>False
abbrev vEq (r:List D->Option (Int × Nat)) (t:DTA):DTI:=λ ρ G R=>t ρ G λ ds G1=>onR r ds λ lo n=>R ⟨cFq lo n,λ _=>True⟩ G1
def kWq (i:Int):Bool:=decide (-(2 ^ 62)<=i)&&decide (i < 2 ^ 62)
def rng1:List D->Option (Int × Nat)
  | [.int j]=>if kWq j=true then some (0,j.toNat) else none
  | _=>none
theorem small62_iff {i:Int}:kWq i=true ↔ -(2 ^ 62)<=i/\i < 2 ^ 62:=by unfold kWq;simp
theorem aL0q {K:PySem.W.Frag} {lo:Int} {n:Nat} {G1:DV} {H1:Hp} (v:Vw K G1 H1) :
    (∀ (i:Nat) (d:D),(cFq lo n)[i]?=some d->(Itr lo n).go i H1/\∀ x H',(Itr lo n).yld i H1 x H'->Go K G1 H1 G1 H'/\Abs K H' d x)/\∀ i,(cFq lo n).length<=i->(Itr lo n).stop i H1:=by
  refine ⟨λ i d hd=>?_,λ i hi=>by rw [c8q] at hi;exact hi⟩
  obtain ⟨h1,rfl⟩:=nAq hd
  refine ⟨h1,λ x H' y=>?_⟩
  obtain ⟨rfl,rfl⟩:=y
  exact ⟨.refl v,rfl⟩
theorem sNq {ds:List D} {lo:Int} {n:Nat} (h:rng1 ds=some (lo,n)):∃ j,ds=[.int j]/\(-(2 ^ 62)<=j/\j < 2 ^ 62)/\lo=0/\n=j.toNat:=by
  unfold rng1 at h
  split at h
  . next j=>
    split at h
    . next c=>cases h;exact ⟨j,rfl,small62_iff.mp c,rfl,rfl⟩
    . cases h
  . cases h
theorem lMq {j:Int} {k:Int->Nat->Prop} (h:-(2 ^ 62)<=j/\j < 2 ^ 62) (q:k 0 j.toNat):onR rng1 [.int j] k:=by
  have e:rng1 [.int j]=some (0,j.toNat):=if_pos (small62_iff.mpr h)
  unfold onR;rw [e];exact q
theorem kXq {r:List D->Option (Int × Nat)} {ds:List D} {R:DIt->DV->Prop} {G:DV} (h:onR r ds λ lo n=>R ⟨cFq lo n,λ _=>True⟩ G):∃ lo n,r ds=some (lo,n)/\R ⟨cFq lo n,λ _=>True⟩ G:=by
  unfold onR at h
  split at h
  . next lo n e=>exact ⟨lo,n,e,h⟩
  . exact h.elim
theorem gBq (hg:Gl X "range") (hm:X.mg "range" = none) (ha:AA X [a] t) (hs:bAq a=true:=by rfl):AI X tg (.Call (.Name "range" p) [a] [] pos) (vEq rng1 t):=by
  obtain ⟨ca,ja,ra⟩:=ha.run
  refine ⟨_,oBq hg hm ja hs,λ ρ G DR σ H R B q F=>ra ρ G _ σ H _ B q λ ds G1 vs H1 g1 al hl q1=>?_⟩
  obtain ⟨lo,n,e,q2⟩:=kXq q1
  obtain ⟨j,rfl,c,rfl,rfl⟩:=sNq e
  obtain ⟨v,r,rfl,av,l⟩:=al
  cases l;cases av
  exact ⟨j,rfl,c.1,c.2,F _ _ G1 H1 g1 (λ G2 H2 g2 _=>aL0q g2.vw) q2⟩
def Wk (P:DSt->DV->Prop):DSt->DV->Prop:=λ ρ G=>∃ ρ' G',StSub ρ' ρ/\Sub G' G/\P ρ' G'
theorem Wk.of {P:DSt->DV->Prop} {ρ:DSt} {G:DV} (h:P ρ G):Wk P ρ G:=⟨ρ,G,.refl _,.refl _,h⟩
abbrev dFor (wi:DTI) (g:DTG) (tb:DTS):DTS:=λ DD ρ G=>wi ρ G λ J G1=>∃ P:Nat->DSt->DV->Prop,P 0 ρ G1/\(∀ i ρ G,i<=J.items.length->P i ρ G->J.held G) ∧
  (∀ (i:Nat) (d:D) (ρ:DSt) (G:DV),J.items[i]?=some d->P i ρ G->g d ρ G λ ρ' G'=>tb { DD with nx:=Wk (P (i+1)),ct:=Wk (P (i+1)),bk:=DD.nx } ρ' G')/\∀ ρ G,P J.items.length ρ G->DD.nx ρ G
theorem fSq {body:List Stmt} {wi:DTI} {g:DTG} {tb:DTS} (hp:PassesOwn (model X.prog X.w) X.A X.env X.xe) (hc:X.calm=true) (hi:AI X tg iter wi) (hg:AG X tg g) (hb:AB X body tb) (hs:∀ x,foldedSetIterable iter X.env x=pure x:=by intro _;rfl) :
    AS X (.For tg iter body [] pos) (dFor wi g tb):=by
  obtain ⟨ci,ji,ri⟩:=hi.run
  obtain ⟨cg,jg,rg⟩:=hg.run
  obtain ⟨cb,jb,rb⟩:=hb.run
  refine ⟨_,zVq hp hc ji jg jb hs,λ DD Dc ρ G σ H B q F=>ri ρ G _ σ H _ B q λ J Jc G1 H1 g1 ok q1=>?_⟩
  obtain ⟨P,p0,held,turn,done⟩:=q1
  refine ⟨λ i m σ' H'=>m=J.items.length - i/\i<=J.items.length/\∃ ρ' G',P i ρ' G'/\Bears X.K ρ' G' σ' H'/\Go X.K G1 H1 G' H',⟨_,rfl,Nat.zero_le _,ρ,G1,p0,B.go g1,.refl g1.vw⟩,?_⟩
  rintro i m σ2 H2 ⟨rfl,hi,ρ2,G2,p2,b2,g2⟩
  have k2:=ok G2 H2 g2 (held i ρ2 G2 hi p2)
  by_cases hlt:i < J.items.length
  . have hd:J.items[i]?=some J.items[i]:=by simp [hlt]
    obtain ⟨go,yl⟩:=k2.1 i _ hd
    refine .inr ⟨go,λ σ' H'=>∃ ρ' G',P (i+1) ρ' G'/\Bears X.K ρ' G' σ' H'/\Go X.K G1 H1 G' H',λ σ' H' ⟨ρ',G',z1,z2,z3⟩=>⟨J.items.length - (i+1),by omega,rfl,hlt,ρ',G',z1,z2,z3⟩,λ x H' y=>?_⟩
    obtain ⟨g3,ax⟩:=yl x H' y
    refine rg _ x ρ2 G2 _ σ2 H' _ (b2.go g3) ax (turn i _ ρ2 G2 hd p2) λ ρ4 G4 σ4 H4 g4 b4 q4=>?_
    have gg:=(g2.trans g3).trans g4
    have again:∀ ρ' G' σ' H',Go X.K G4 H4 G' H'->Bears X.K ρ' G' σ' H'->Wk (P (i+1)) ρ' G'->∃ ρ' G',P (i+1) ρ' G'/\Bears X.K ρ' G' σ' H'/\Go X.K G1 H1 G' H':=λ ρ' G' σ' H' g' b' ⟨ρ5,G5,s1,s2,w⟩=>
      ⟨ρ5,G5,w,b'.weak s1 s2,(gg.trans g').sub s2⟩
    exact rb _ _ ρ4 G4 σ4 H4 b4 q4 ⟨λ ρ' G' σ' H' g' b' w=>again ρ' G' σ' H' g' b' w,(F.after ((g1.trans gg))).rt,λ ρ' G' σ' H' g' b' w=>F.nx ρ' G' σ' H' ((g1.trans gg).trans g') b' w,λ ρ' G' σ' H' g' b' w=>again ρ' G' σ' H' g' b' w⟩
  . have e:i=J.items.length:=by omega
    subst e
    exact .inl ⟨k2.2 _ (Nat.le_refl _),F.nx ρ2 G2 σ2 H2 (g1.trans g2) b2 (done ρ2 G2 p2)⟩
abbrev aI4q (tc:DTT) (tb:DTS):DTS:=λ DD ρ G=>∃ W:Nat->DSt->DV->Prop,(∃ m,W m ρ G)/\∀ m ρ G,W m ρ G →
  tc ρ G λ b G1=>Br b (tb { DD with nx:=Wk λ ρ' G'=>∃ m',m' < m/\W m' ρ' G',ct:=Wk λ ρ' G'=>∃ m',m' < m/\W m' ρ' G',bk:=DD.nx } ρ G1) (DD.nx ρ G1)
theorem dGq {body:List Stmt} {tc:DTT} {tb:DTS} (hp:PassesOwn (model X.prog X.w) X.A X.env X.xe) (hc:AT X c tc) (hb:AB X body tb):AS X (.While c body [] pos) (aI4q tc tb):=by
  obtain ⟨cc,jc,rc⟩:=hc.run
  obtain ⟨cb,jb,rb⟩:=hb.run
  refine ⟨_,rSq hp jc jb,λ DD Dc ρ G σ H B q F=>?_⟩
  obtain ⟨W,⟨m0,w0⟩,turn⟩:=q
  refine ⟨λ m σ' H'=>∃ ρ' G',W m ρ' G'/\Bears X.K ρ' G' σ' H'/\Go X.K G H G' H',⟨m0,ρ,G,w0,B,.refl B.vw⟩,?_⟩
  rintro m σ2 H2 ⟨ρ2,G2,w2,b2,g2⟩
  refine rc ρ2 G2 _ σ2 H2 _ b2 (turn m ρ2 G2 w2) λ k G3 H3 g3 q3=>?_
  cases k with
  | true=>
    refine ⟨λ σ' H'=>∃ m',m' < m/\∃ ρ' G',W m' ρ' G'/\Bears X.K ρ' G' σ' H'/\Go X.K G H G' H',λ σ' H' ⟨m',z,ρ',G',z1,z2,z3⟩=>⟨m',z,ρ',G',z1,z2,z3⟩,?_⟩
    have gg:=g2.trans g3
    have again:∀ ρ' G' σ' H',Go X.K G3 H3 G' H'->Bears X.K ρ' G' σ' H'->Wk (λ ρ' G'=>∃ m',m' < m/\W m' ρ' G') ρ' G'->∃ m',m' < m/\∃ ρ' G',W m' ρ' G'/\Bears X.K ρ' G' σ' H'/\Go X.K G H G' H':=λ ρ' G' σ' H' g' b' ⟨ρ5,G5,s1,s2,m',hm,w⟩=>
      ⟨m',hm,ρ5,G5,w,b'.weak s1 s2,(gg.trans g').sub s2⟩
    exact rb _ _ ρ2 G3 σ2 H3 (b2.go g3) (q3.1 rfl) ⟨λ ρ' G' σ' H' g' b' w=>again ρ' G' σ' H' g' b' w,(F.after gg).rt,λ ρ' G' σ' H' g' b' w=>F.nx ρ' G' σ' H' (gg.trans g') b' w,λ ρ' G' σ' H' g' b' w=>again ρ' G' σ' H' g' b' w⟩
  | false=>exact F.nx ρ2 G3 σ2 H3 (g2.trans g3) (b2.go g3) (q3.2 rfl)
end
end L3
namespace L2
open PySem PySem.Spec PyProof.Rows
theorem JE.imp {X:Cx} {e:Expr} {t t':TE} (h:JE X e t) (i:∀ σ H Q,t' σ H Q->t σ H Q):JE X e t':=⟨λ pins s σ H Q I q=>h.run pins s σ H Q I (i σ H Q q)⟩
theorem JG.imp {X:Cx} {e:Expr} {t t':TG} (h:JG X e t) (i:∀ v σ H Q,t' v σ H Q->t v σ H Q):JG X e t':=⟨λ pins s σ H x v Q I r q=>h.run pins s σ H x v Q I r (i _ _ _ _ q)⟩
end L2
namespace L3
open PySem PySem.Spec L2
section
variable {X:Cx} {a b c e o i tg iter elt ct:Expr} {es:List Expr} {ta tb te to ti:DTE} {t:DTA} {pos p apos cpos:Pos}
abbrev ImpE (K:PySem.W.Frag) (tc:TE) (t:DTE):Prop:=∀ ρ G DQ σ H Q,Bears K ρ G σ H->t ρ G DQ->Fin K G H DQ Q->tc σ H Q
abbrev ImpG (K:PySem.W.Frag) (tc:TG) (t:DTG):Prop:=∀ d v ρ G DQ σ H Q,Bears K ρ G σ H->Abs K H d v->t d ρ G DQ->FinS K G H DQ Q->tc v σ H Q
theorem AE.uni {ι:Type} {cx:ι->Cx} {K:PySem.W.Frag} (hK:∀ z,(cx z).K=K) (h:∀ z,AE (cx z) e te):∃ tc:TE,(∀ z,JE (cx z) e tc)/\ImpE K tc te:=by
  have h':∀ z,∃ tc,JE (cx z) e tc/\ImpE K tc te:=λ z=>by
    have q:=(h z).run
    rw [hK z] at q
    exact q
  exact ⟨λ σ H Q=>∀ z,Classical.choose (h' z) σ H Q,λ z=>(Classical.choose_spec (h' z)).1.imp λ σ H Q q=>q z,λ ρ G DQ σ H Q B q F z=>(Classical.choose_spec (h' z)).2 ρ G DQ σ H Q B q F⟩
theorem AG.uni {ι:Type} {cx:ι->Cx} {K:PySem.W.Frag} {te:DTG} (hK:∀ z,(cx z).K=K) (h:∀ z,AG (cx z) e te):∃ tc:TG,(∀ z,JG (cx z) e tc)/\ImpG K tc te:=by
  have h':∀ z,∃ tc,JG (cx z) e tc/\ImpG K tc te:=λ z=>by
    have q:=(h z).run
    rw [hK z] at q
    exact q
  exact ⟨λ v σ H Q=>∀ z,Classical.choose (h' z) v σ H Q,λ z=>(Classical.choose_spec (h' z)).1.imp λ v σ H Q q=>q z,λ d v ρ G DQ σ H Q B ad q F z=>(Classical.choose_spec (h' z)).2 d v ρ G DQ σ H Q B ad q F⟩
def eRq (nt:Nat) (cap:List Nat) (ρ:DSt):DSt:=Yp nt none++cap.map λ i=>(ρ[i]?).join
theorem kBq {nt:Nat} {cap:List Nat} {ρ:DSt} {i:Nat} {d:D} (h:(eRq nt cap ρ)[i]?=some (some d)):nt<=i:=by
  by_cases c:nt<=i
  . exact c
  . unfold eRq at h
    rw [YT (by simpa using c),Ze] at h
    rw [if_pos (by omega)] at h
    cases h
theorem Bears.comp {K:PySem.W.Frag} {ρ:DSt} {G:DV} {σ:St} {H:Hp} (B:Bears K ρ G σ H) (nt:Nat) (cap:List Nat):Bears K (eRq nt cap ρ) G (eLq nt cap σ) H:=by
  refine ⟨by simp [eRq,eLq],λ i d h=>?_,B.vw⟩
  have hi:=kBq h
  unfold eRq at h
  unfold eLq
  rw [Y2 (by simpa using hi)] at h ⊢
  rw [Zf,Yw] at h ⊢
  cases e:cap[i - nt]? with
  | none=>rw [e] at h;cases h
  | some k=>
    rw [e] at h
    have h':(ρ[k]?).join=some d:=by simpa using h
    have h2:ρ[k]?=some (some d):=by
      cases q:ρ[k]? with
      | none=>rw [q] at h';cases h'
      | some z=>rw [q] at h';cases z with
        | none=>cases h'
        | some y=>simp at h';rw [h']
    obtain ⟨v,h3,h4⟩:=B.st k d h2
    exact ⟨v,by simp [h3],h4⟩
def sYq (nt:Nat) (g:DTG):Prop:=∀ d ρ G Q,g d ρ G Q->g d ρ G λ ρ' G'=>Q ρ' G'/\ρ'.length=ρ.length/\∀ i,nt<=i->ρ'[i]?=ρ[i]?
theorem b8q {nt k:Nat} (h:k < nt):sYq nt (mJq k):=λ d ρ G Q q=>⟨q,by simp,λ i hi=>Zd (by omega)⟩
def WkV (P:DV->Prop):DV->Prop:=λ G=>∃ G',Sub G' G/\P G'
theorem WkV.of {P:DV->Prop} {G:DV} (h:P G):WkV P G:=⟨G,.refl _,h⟩
@[irreducible] def iAq (g:DTG) (te:DTE) (nt:Nat) (cap:List Nat) (ρ:DSt) (Q:DK) (J:DIt) (G1:DV):Prop:=J.items.length < sizeLine/\∃ P:Nat->List D->DV->Prop,P 0 [] G1/\(∀ i ds G,i<=J.items.length->P i ds G->J.held G) ∧
  (∀ (i:Nat) (d:D) (ds:List D) (G:DV),J.items[i]?=some d->P i ds G->g d (eRq nt cap ρ) G λ ρ3 G3=>te ρ3 G3 λ y G4=>WkV (P (i+1) (ds++[y])) G4)/\∀ ds G,P J.items.length ds G->∀ p,G p=none->Q (.ref p) (up G p (.lst ds))
abbrev y3q (wi:DTI) (g:DTG) (te:DTE) (nt:Nat) (cap:List Nat):DTE:=λ ρ G Q=>wi ρ G (iAq g te nt cap ρ Q)
theorem e2q {g:DTG} {te:DTE} {nt:Nat} {cap:List Nat} {ρ:DSt} {Q:DK} {J:DIt} {G1:DV} (P:Nat->List D->DV->Prop) (hz:J.items.length < sizeLine) (h0:P 0 [] G1) (held:∀ i ds G,i<=J.items.length->P i ds G->J.held G)
    (turn:∀ (i:Nat) (d:D) (ds:List D) (G:DV),J.items[i]?=some d->P i ds G->g d (eRq nt cap ρ) G λ ρ3 G3=>te ρ3 G3 λ y G4=>WkV (P (i+1) (ds++[y])) G4) (done:∀ ds G,P J.items.length ds G->∀ p,G p=none->Q (.ref p) (up G p (.lst ds))):iAq g te nt cap ρ Q J G1:=by
  unfold iAq;exact ⟨hz,P,h0,held,turn,done⟩
theorem cYq {α:Type} {J:DIt} {G1:DV} {g:DTG} {te:DTE} {nt:Nat} {cap:List Nat} {ρ:DSt} {Q:DK} (xs:List α) (en fn:α->D) (he:J.items=xs.map en) (hz:xs.length < sizeLine) (held:J.held G1)
    (turn:∀ x∈xs,∀ R:DK,R (fn x) G1->g (en x) (eRq nt cap ρ) G1 λ ρ3 G3=>te ρ3 G3 R) (q:∀ p,G1 p=none->Q (.ref p) (up G1 p (.lst (xs.map fn)))) :
    iAq g te nt cap ρ Q J G1:=by
  unfold iAq
  refine ⟨by rw [he,Yf];exact hz,λ i ds G=>G=G1/\ds=(xs.take i).map fn,⟨rfl,rfl⟩,λ i ds G _ h=>h.1 ▸ held,?_,?_⟩
  . rintro i d ds G hd ⟨rfl,rfl⟩
    rw [he,Yw] at hd
    cases e:xs[i]? with
    | none=>rw [e] at hd;cases hd
    | some x=>
      rw [e] at hd
      cases hd
      refine turn x (YL e) _ (WkV.of ⟨rfl,?_⟩)
      rw [YY,e,YQ];rfl
  . rintro ds G ⟨rfl,rfl⟩ p hp
    rw [he,Yf,YW]
    exact q p hp
theorem Vw.priv {K:PySem.W.Frag} {G:DV} {H:Hp} {acc:Addr} {ys zs:List V} (v:Vw K G H) (h:H acc=some (.lst ys)) (n:G acc=Option.none):Vw K G (upd H acc (.lst zs)):=λ a o e=>
  (v a o e).mono (c6q h) (aUq (by rintro rfl;rw [n] at e;cases e))
theorem Go.priv {K:PySem.W.Frag} {G G':DV} {H H':Hp} {acc:Addr} {ys zs:List V} (g:Go K G H G' H') (h0:H acc=none) (h:H' acc=some (.lst ys)) (n:G' acc=none):Go K G H G' (upd H' acc (.lst zs)) where
  tup:=⟨λ a xs q=>(c6q h).tp a xs (g.tup.tp a xs q),λ a xs q=>(c6q h).fr a xs (g.tup.fr a xs q),λ a o q=>(c6q (K:=K) h).fz a o (g.tup.fz a o q)⟩
  dom:=λ a o e=>by
    obtain ⟨o',e'⟩:=g.dom a o e
    exact ⟨o',by rw [aUq (b0q e h0)];exact e'⟩
  same:=λ a o e z=>by rw [aUq (b0q e h0)];exact g.same a o e z
  new:=g.new
  vw:=g.vw.priv h n
theorem Bears.priv {K:PySem.W.Frag} {ρ:DSt} {G:DV} {σ:St} {H:Hp} {acc:Addr} {ys zs:List V} (B:Bears K ρ G σ H) (h:H acc=some (.lst ys)) (n:G acc=none):Bears K ρ G σ (upd H acc (.lst zs)):=
  ⟨B.len,λ i d e=>let ⟨v,h1,h2⟩:=B.st i d e;⟨v,h1,h2.mono (c6q h)⟩,B.vw.priv h n⟩
theorem Go.held {K:PySem.W.Frag} {G G':DV} {H H':Hp} {acc:Addr} {ds:List D} {ys:List V} (g:Go K G H G' H') (h0:H acc=none) (h:H' acc=some (.lst ys)) (r:AbsL K H' ds ys):Go K G H (up G' acc (.lst ds)) H' where
  tup:=g.tup
  dom:=g.dom
  same:=g.same
  new:=λ a o e z=>by rw [aQq (b0q e h0)];exact g.new a o e z
  vw:=λ a o e=>by
    by_cases c:a=acc
    . subst c;rw [a5q] at e;cases e;exact ⟨ys,h,r⟩
    . rw [aQq c] at e;exact g.vw a o e
theorem j6q {K:PySem.W.Frag} {ci:TI} {cg:TG} {ce:TE} {wi:DTI} {g:DTG} {te:DTE} {nt:Nat} {cap:List Nat} (hk:sYq nt g)
    (ri:∀ ρ G DR σ H R,Bears K ρ G σ H->wi ρ G DR->(∀ J Jc G' H',Go K G H G' H'->ItOk K J Jc G' H'->DR J G'->R Jc H')->ci σ H R) (rg:ImpG K cg g) (re:ImpE K ce te):ImpE K (p9q ci cg ce nt cap) (y3q wi g te nt cap):=by
  intro ρ G DQ σ H Q B q F
  refine ri ρ G _ σ H _ B q λ J Jc G1 H1 g1 ok q1=>?_
  unfold iAq at q1
  obtain ⟨hsz,P,p0,held,turn,done⟩:=q1
  intro acc hacc
  have n1:=g1.vw.none hacc
  have gN:=Go.newT (o:=.lst []) g1.vw hacc
  refine ⟨λ i m ys σ' H'=>m=J.items.length - i/\i<=J.items.length/\∃ ds G',P i ds G'/\AbsL K H' ds ys/\ds.length<=i/\Bears K (eRq nt cap ρ) G' σ' H'/\Go K G1 H1 G' H'/\G' acc=none/\H' acc=some (.lst ys),
    ⟨_,rfl,Nat.zero_le _,[],G1,p0,rfl,Nat.le_refl _,((B.go g1).comp nt cap).go gN,gN,n1,bKq⟩,?_⟩
  rintro i m ys σ2 H2 ⟨rfl,hi,ds,G2,p2,r2,l2,b2,g2,n2,h2⟩
  have k2:=ok G2 H2 g2 (held i ds G2 hi p2)
  by_cases hlt:i < J.items.length
  . have hd:J.items[i]?=some J.items[i]:=by simp [hlt]
    obtain ⟨go,yl⟩:=k2.1 i _ hd
    refine .inr ⟨go,λ x H' y=>?_⟩
    obtain ⟨g3,ax⟩:=yl x H' y
    refine rg _ x _ G2 _ σ2 H' _ (b2.go g3) ax (hk _ _ _ _ (turn i _ ds G2 hd p2)) λ ρ4 G4 σ4 H4 g4 b4 ⟨q4,hl4,hs4⟩=>?_
    refine re ρ4 G4 _ σ4 H4 _ b4 q4 λ z G5 u H5 g5 az q5=>?_
    obtain ⟨G6,s6,p6⟩:=q5
    have gg:=(g3.trans g4).trans g5
    have h5:=gg.same acc _ h2 n2
    have n5:=gg.new acc _ h2 n2
    have n6:=s6.none n5
    have b5:Bears K (eRq nt cap ρ) G6 σ4 H5:=(b4.go g5).weak ⟨hl4.symm,λ j d e=>by rw [hs4 j (kBq e)];exact e⟩ s6
    refine ⟨h5,by rw [r2.len];omega,J.items.length - (i+1),by omega,rfl,hlt,ds++[z],G6,p6,((r2.mono gg.tup).append (.one az)).mono (c6q h5),by simp;omega,b5.priv h5 n6,(((g2.trans gg).sub s6)).priv hacc h5 n6,n6,bKq⟩
  . have e:i=J.items.length:=by omega
    subst e
    refine .inl ⟨k2.2 _ (Nat.le_refl _),F (.ref acc) (up G2 acc (.lst ds)) _ _ ((g1.trans g2).held ?_ h2 r2) rfl (done ds G2 p2 acc n2)⟩
    cases z:H acc with
    | none=>rfl
    | some o=>obtain ⟨o',e'⟩:=g1.dom acc o z;rw [hacc] at e';cases e'
theorem cXq {scope:Scope} {N':List Str} {nt:Nat} {cap:List Nat} {wi:DTI} {g:DTG} (hc:X.calm=true) (ok:CompOk X scope N' nt cap) (hk:sYq nt g) (hi:AI X tg iter wi) (hg:∀ C ex s H,AG (b9q X scope N' C ex s H) tg g) (he:∀ C ex s H,AE (b9q X scope N' C ex s H) elt te)
    (hs:∀ x,foldedSetIterable iter X.env x=pure x:=by intro _;rfl):AE X (.ListComp elt [⟨tg,iter,[],0⟩] scope pos) (y3q wi g te nt cap):=by
  obtain ⟨ci,ji,ri⟩:=hi.run
  obtain ⟨cg,jg,rg⟩:=AG.uni (ι:=Addr × List Addr × Shared × Hp) (cx:=λ z=>b9q X scope N' z.1 z.2.1 z.2.2.1 z.2.2.2) (K:=X.K) (λ _=>rfl) λ z=>hg _ _ _ _
  obtain ⟨ce,je,re⟩:=AE.uni (ι:=Addr × List Addr × Shared × Hp) (cx:=λ z=>b9q X scope N' z.1 z.2.1 z.2.2.1 z.2.2.2) (K:=X.K) (λ _=>rfl) λ z=>he _ _ _ _
  exact ⟨_,v4q hc ok ji (λ C ex s H=>jg (C,ex,s,H)) (λ C ex s H=>je (C,ex,s,H)) hs,j6q hk ri rg re⟩
theorem dEq {scope:Scope} {N':List Str} {nt:Nat} {cap:List Nat} {wi:DTI} {g:DTG} {y:Str} {py spos:Pos} {k:Nat} (hc:X.calm=true) (hN:X.N.Nodup) (hy:X.N[k]?=some y) (hl:Loc X.env.scope y) (ok:CompOk X scope N' nt cap) (hk:sYq nt g) (hi:AI X tg iter wi) (hg:∀ C ex s H,AG (b9q X scope N' C ex s H) tg g) (he:∀ C ex s H,AE (b9q X scope N' C ex s H) elt te)
    (hs:∀ x,foldedSetIterable iter X.env x=pure x:=by intro _;rfl) (hsw:swapsWith (.ListComp elt [⟨tg,iter,[],0⟩] scope pos) (some (.Name y py)) spos.line X.env=pure true:=by rfl) (hf:X.fn y=true\/X.env.scope.names.lookup y=some .local:=by first | exact .inl rfl | exact .inr rfl | assumption) :
    AS X (.Assign [.Name y py] (.ListComp elt [⟨tg,iter,[],0⟩] scope pos) spos) (dAsg (y3q wi g te nt cap) (mJq k)):=by
  obtain ⟨ci,ji,ri⟩:=hi.run
  obtain ⟨cg,jg,rg⟩:=AG.uni (ι:=Addr × List Addr × Shared × Hp) (cx:=λ z=>b9q X scope N' z.1 z.2.1 z.2.2.1 z.2.2.2) (K:=X.K) (λ _=>rfl) λ z=>hg _ _ _ _
  obtain ⟨ce,je,re⟩:=AE.uni (ι:=Addr × List Addr × Shared × Hp) (cx:=λ z=>b9q X scope N' z.1 z.2.1 z.2.2.1 z.2.2.2) (K:=X.K) (λ _=>rfl) λ z=>he _ _ _ _
  exact ⟨_,nQq hc hN hy hl ok ji (λ C ex s H=>jg (C,ex,s,H)) (λ C ex s H=>je (C,ex,s,H)) hs hsw hf,λ DD Dc ρ G σ H B q F=>j6q hk ri rg re ρ G _ σ H _ B q λ d G1 v H1 g1 a q1=>F.nx _ G1 _ H1 g1 ((B.go g1).set a k) q1⟩
structure AMt (X:Cx) (T id:String) (ty:D->DV->Prop) (r:D->List D->DV->DK->Prop):Prop where
  run:∃ rc:V->List V->Hp->VK->Prop,JMt X id rc/\(∀ x v G H,Vw X.K G H->Abs X.K H x v->ty x G->tyV X.K T v H) ∧
    ∀ x xs vx vs G H DQ Q,Vw X.K G H->Abs X.K H x vx->AbsL X.K H xs vs->r x xs G DQ->Fin X.K G H DQ Q->rc vx vs H Q
abbrev dBM (ty:D->DV->Prop) (r:D->List D->DV->DK->Prop) (to:DTE) (t:DTA):DTE:=λ ρ G Q=>to ρ G λ x G1=>ty x G1/\t ρ G1 λ xs G2=>r x xs G2 Q
abbrev dBM0 (ty:D->DV->Prop) (r:D->List D->DV->DK->Prop) (to:DTE):DTE:=λ ρ G Q=>to ρ G λ x G1=>ty x G1/\r x [] G1 Q
theorem c1q {name:Str} {T id:String} {ty:D->DV->Prop} {r:D->List D->DV->DK->Prop} (pa:PlainAttrs T) (slot:Slot T name id) (hty:typeOf (.builtin id)=pure (.type "method_descriptor")) (hm:AMt X T id ty r) (ho:AE X o to) (ha:AA X [e] t)
    (hbase:attributeBase o name X.env (eval o X.env)=eval o X.env:=by rfl) (hline:(apos.endLine==cpos.line)=true:=by rfl) (hs:bAq e=true:=by rfl):AE X (.Call (.Attribute o name apos) [e] [] cpos) (dBM ty r to t):=by
  obtain ⟨co,jo,ro⟩:=ho.run
  obtain ⟨ca,ja,ra⟩:=ha.run
  obtain ⟨cm,jm,hy,rm⟩:=hm.run
  refine ⟨_,aR0q pa slot hty jm jo ja hbase hline hs,λ ρ G DQ σ H Q B q F=>ro ρ G _ σ H _ B q λ x G1 v H1 g1 ax ⟨h1,q1⟩=>⟨hy x v G1 H1 g1.vw ax h1,?_⟩⟩
  exact ra ρ G1 _ σ H1 _ (B.go g1) q1 λ xs G2 vs H2 g2 al _ q2=>rm x xs v vs G2 H2 DQ Q g2.vw (ax.mono g2.tup) al q2 (F.after (g1.trans g2))
theorem f1q {name:Str} {T id:String} {ty:D->DV->Prop} {r:D->List D->DV->DK->Prop} (pa:PlainAttrs T) (slot:Slot T name id) (hty:typeOf (.builtin id)=pure (.type "method_descriptor")) (hm:AMt X T id ty r) (ho:AE X o to)
    (hbase:attributeBase o name X.env (eval o X.env)=eval o X.env:=by rfl) (hline:(apos.endLine==cpos.line)=true:=by rfl):AE X (.Call (.Attribute o name apos) [] [] cpos) (dBM0 ty r to):=by
  obtain ⟨co,jo,ro⟩:=ho.run
  obtain ⟨cm,jm,hy,rm⟩:=hm.run
  exact ⟨_,aB7q pa slot hty jm jo hbase hline,λ ρ G DQ σ H Q B q F=>ro ρ G _ σ H _ B q λ x G1 v H1 g1 ax ⟨h1,q1⟩=>⟨hy x v G1 H1 g1.vw ax h1,rm x [] v [] G1 H1 DQ Q g1.vw ax rfl q1 (F.after g1)⟩⟩
def pNq:D->DV->Prop:=λ x G=>match x with
  | .ref l=>onL G l λ _=>True
  | _=>False
theorem fGq {K:PySem.W.Frag} {x:D} {v:V} {G:DV} {H:Hp} (w:Vw K G H) (ax:Abs K H x v) (h:pNq x G):tyV K "list" v H:=by
  cases x with
  | ref l=>cases ax;obtain ⟨ds,vs,_,s,_⟩:=bHq w h;exact .inl ⟨rfl,vs,s⟩
  | _=>exact (show False from h).elim
def appD:D->List D->DV->DK->Prop:=λ x xs G Q=>match x,xs with
  | .ref l,[y]=>onM G l λ ds=>ds.length < sizeLine/\Q .non (up G l (.lst (ds++[y])))
  | _,_=>False
theorem aXq:AMt X "list" "list.append" pNq appD:=by
  refine ⟨_,⟨gKq⟩,λ x v G H w ax h=>fGq w ax h,λ x xs vx vs G H DQ Q v ax al r F=>?_⟩
  unfold appD at r
  split at r
  . next l y=>
    cases ax
    obtain ⟨u,us,rfl,au,z⟩:=al
    cases z
    obtain ⟨ds,ws,k,e1,h1,r1⟩:=cWq v r
    exact ⟨l,ws,u,rfl,rfl,h1,by rw [r1.len];exact k.1,F .non _ _ _ (Go.setL v e1 (r1.append (.one au))) rfl k.2⟩
  . exact r.elim
def extD:D->List D->DV->DK->Prop:=λ x xs G Q=>match x,xs with
  | .ref l,[.tup es]=>onM G l λ ds=>ds.length+es.length<=sizeLine/\Q .non (up G l (.lst (ds++es)))
  | .ref l,[.ref m]=>onM G l λ ds=>onM G m λ es=>ds.length+es.length<=sizeLine/\Q .non (up G l (.lst (ds++es)))
  | _,_=>False
theorem JMt.or {id:String} {r r':V->List V->Hp->VK->Prop} (h:JMt X id r) (h':JMt X id r'):JMt X id (λ x xs H Q=>r x xs H Q\/r' x xs H Q):=⟨h.run.or h'.run⟩
theorem eOq:AMt X "list" "list.extend" pNq extD:=by
  refine ⟨_,JMt.or ⟨uXq⟩ ⟨oYq⟩,λ x v G H w ax h=>fGq w ax h,λ x xs vx vs G H DQ Q v ax al r F=>?_⟩
  unfold extD at r
  split at r
  . next l es'=>
    cases ax
    obtain ⟨u,us,rfl,⟨m,zs,rfl,s,rz⟩,z⟩:=al
    cases z
    obtain ⟨ds,ws,k,e1,h1,r1⟩:=cWq v r
    exact .inl ⟨l,m,ws,zs,rfl,rfl,h1,s,by rw [r1.len,rz.len];exact k.1,F .non _ _ _ (Go.setL v e1 (r1.append rz)) rfl k.2⟩
  . next l m=>
    cases ax
    obtain ⟨u,us,rfl,au,z⟩:=al
    cases z;cases au
    obtain ⟨ds,ws,k,e1,h1,r1⟩:=cWq v r
    obtain ⟨es',zs,k2,e2,h2,r2⟩:=cWq v k
    exact .inr ⟨l,m,ws,zs,rfl,rfl,h1,h2,by rw [r1.len,r2.len];exact k2.1,F .non _ _ _ (Go.setL v e1 (r1.append r2)) rfl k2.2⟩
  . exact r.elim
def popD:D->List D->DV->DK->Prop:=λ x xs G Q=>match x,xs with
  | .ref l,[]=>onM G l λ ds=>∃ es d,ds=es++[d]/\Q d (up G l (.lst es))
  | _,_=>False
theorem dPq:AMt X "list" "list.pop" pNq popD:=by
  refine ⟨_,⟨aH9q⟩,λ x v G H w ax h=>fGq w ax h,λ x xs vx vs G H DQ Q v ax al r F=>?_⟩
  unfold popD at r
  split at r
  . next l=>
    cases ax;cases al
    obtain ⟨ds,ws,⟨es',d,rfl,k⟩,e1,h1,r1⟩:=cWq v r
    have hl:=r1.len
    have hd:(es'++[d])[es'.length]?=some d:=by simp
    obtain ⟨u,hu,au⟩:=r1.get hd
    have e:ws.length - 1=es'.length:=by rw [hl];simp
    have r2:AbsL X.K H es' ws.dropLast:=by
      have z:=r1.take es'.length
      rw [List.take_left] at z
      rw [List.dropLast_eq_take,e];exact z
    have g:=Go.setL v e1 r2
    exact ⟨l,ws,u,rfl,rfl,h1,by rw [e];exact hu,F d _ _ _ g (au.mono g.tup) k⟩
  . exact r.elim
abbrev DSp:=List D->DV->DK->Prop
def aRq (K:PySem.W.Frag) (dsp:DSp):Sp:=λ vs H Q _=>∃ ds G DQ,AbsL K H ds vs/\Vw K G H/\dsp ds G DQ/\Fin K G H DQ Q
abbrev aG3q (dsp:DSp) (t:DTA):DTE:=λ ρ G Q=>t ρ G λ ds G1=>dsp ds G1 Q
theorem a9q {k j:Nat} {x:Str} {ps:List Str} {dsp:DSp} (Gt:Got X.prog X.w X.K X.mg X.base k x ps (aRq X.K dsp)) (hr:Room j X.A) (hk:k<=j) (hg:Gl X x) (ha:AA X (e::es) t) (hdb:(x==("__debug__" : Str))=false:=by decide)
    (hs:(e::es).all bAq=true:=by rfl):AE X (.Call (.Name x p) (e::es) [] pos) (aG3q dsp t):=by
  obtain ⟨ca,ja,ra⟩:=ha.run
  exact ⟨_,aS8q Gt hr hk hg ja hdb hs,λ ρ G DQ σ H Q B q F=>ra ρ G _ σ H _ B q λ ds G1 vs H1 g1 al _ q1=>⟨ds,G1,DQ,by rw [Yt];exact al,g1.vw,q1,F.after g1⟩⟩
abbrev aA7q (k:Nat) (f:Addr) (dsp:DSp) (t:DTA):DTE:=λ ρ G Q=>ρ[k]?=some (some (.ref f))/\aG3q dsp t ρ G Q
theorem xTq (n:Nat) {k j:Nat} {f:Addr} {x:Str} {dsp:DSp} (Gt:FnV X.prog X.w X.K X.mg X.base k f (aRq X.K dsp)) (hr:Room j X.A) (hk:k<=j) (ha:AA X (e::es) t) (hN:X.N[n]?=some x:=by rfl) (hv:Vis X.env.scope x:=by first | exact Or.inl rfl | exact Or.inr (Or.inl rfl) | exact Or.inr (Or.inr rfl))
    (hd:(x==("__debug__" : Str))=false:=by decide) (hcd:(x==("__classdict__" : Str))=false:=by decide) (hs:(e::es).all bAq=true:=by rfl):AE X (.Call (.Name x p) (e::es) [] pos) (aA7q n f dsp t):=by
  obtain ⟨ca,ja,ra⟩:=ha.run
  refine ⟨_,aU5q n Gt hr hk ja hN hv hd hcd hs,λ ρ G DQ σ H Q B q F=>?_⟩
  obtain ⟨q0,q⟩:=q
  obtain ⟨v,h1,h2⟩:=B.st n _ q0
  cases h2
  exact ⟨h1,ra ρ G _ σ H _ B q λ ds G1 vs H1 g1 al _ q1=>⟨ds,G1,DQ,by rw [Yt];exact al,g1.vw,q1,F.after g1⟩⟩
def Dr (DQ:DK):DK:=λ d G=>∃ G',Sub G' G/\DQ d G'
theorem Dr.of {DQ:DK} {d:D} {G:DV} (h:DQ d G):Dr DQ d G:=⟨G,.refl _,h⟩
def jAq (N:List Str) (ds:List D):DSt:=ds.map some++Yp (N.length - ds.length) none
theorem l3q {K:PySem.W.Frag} {N:List Str} {ds:List D} {vs:List V} {G:DV} {H:Hp} (r:AbsL K H ds vs) (v:Vw K G H):Bears K (jAq N ds) G (L2.eVq N vs) H:=by
  have hl:=r.len
  refine ⟨by simp [jAq,L2.eVq,hl],λ i d h=>?_,v⟩
  unfold jAq at h
  unfold L2.eVq
  by_cases c:i < ds.length
  . rw [YT (by simpa using c),Yw] at h
    rw [YT (by simpa [hl] using c),Yw]
    cases e:ds[i]? with
    | none=>rw [e] at h;cases h
    | some z=>
      rw [e] at h
      simp at h
      subst h
      obtain ⟨u,h1,h2⟩:=r.get e
      exact ⟨u,by rw [h1];rfl,h2⟩
  . rw [Y2 (by simpa using c),Ze] at h
    split at h<;>cases h
theorem okD {P:Program} {w:World} {K:PySem.W.Frag} {mg:Str->Option Value} {base:Heap} {x qual:Str} {st:Stmt} {f:Addr} {fd:FuncData} {N ps:List Str} {k:Nat} {dsp:DSp} (F:Fun K x qual st f fd) (S:FnScope N ps (aDq st)) (len:∀ ds G DQ,dsp ds G DQ->ds.length=ps.length)
    (hbody:∀ (cdv:Value) (A:Around) (outer:List Env) (s:Shared) (H:Hp) (E:XK),Room k (A.deeper (PyProof.Rows.envOfC qual (aDq st) s.heap.objs.size f cdv))->∀ (ds:List D) (G:DV) (DQ:DK),dsp ds G DQ →
      ∃ t,AB (tVq CX0 P w K mg base N qual (aDq st) f cdv A outer s H E).nox (c2q st) t/\t { nx:=λ _ G'=>Dr DQ .non G',rt:=Dr DQ } (jAq N ds) G):FnOk P w K mg base CX0 (k+1) f fd ps (aRq K dsp):=by
  refine F.okJ S (λ vs H Q E h=>?_) (λ cdv A outer s H vs Q E hr h=>?_)
  . obtain ⟨ds,G,DQ,r,_,h,_⟩:=h
    rw [r.len];exact len ds G DQ h
  . obtain ⟨ds,G,DQ,r,v,h,Fn⟩:=h
    obtain ⟨t,⟨tc,j,imp⟩,q⟩:=hbody cdv A outer s H E hr ds G DQ h
    refine ⟨tc,j,imp _ _ (jAq N ds) G (L2.eVq N vs) H (l3q r v) q ⟨λ ρ' G' σ' H' g b ⟨G2,s2,q2⟩=>Fn .non G2 .non H' (g.sub s2) rfl q2,λ d G' v H' g a ⟨G2,s2,q2⟩=>Fn d G2 v H' (g.sub s2) a q2,λ _ _ _ _ _ _ z=>z.elim,λ _ _ _ _ _ _ z=>z.elim⟩⟩
end
end L3
namespace L3
open PySem PySem.Spec L2
mutual
def eqD:D->D->Bool
  | .non,.non=>true
  | .bl a,.bl b=>a==b
  | .bl a,.int b=>(if a then 1 else 0)==b
  | .int a,.bl b=>a==(if b then 1 else 0)
  | .int a,.int b=>a==b
  | .str a,.str b=>a==b
  | .tup xs,.tup ys=>cRq xs ys
  | _,_=>false
def cRq:List D->List D->Bool
  | [],[]=>true
  | x::xs,y::ys=>eqD x y&&cRq xs ys
  | _,_=>false
end
mutual
def D.data:D->Bool
  | .ref _=>false
  | .ty _=>false
  | .frl _=>false
  | .tup ds=>aWq ds
  | _=>true
def aWq:List D->Bool
  | []=>true
  | d::ds=>d.data&&aWq ds
end
mutual
def D.dp:D->Nat
  | .tup ds=>1+bMq ds
  | _=>0
def bMq:List D->Nat
  | []=>0
  | d::ds=>max d.dp (bMq ds)
end
def eqJ (ds es:List D) (j:Nat):Bool:=match ds[j]?,es[j]? with
  | some d,some e=>eqD d e
  | _,_=>false
theorem cPq:∀ (ds es:List D),((Ys (min ds.length es.length)).all (eqJ ds es)&&ds.length==es.length)=cRq ds es
  | [],[]=>by simp [cRq]
  | [],e::es=>by simp [cRq]
  | d::ds,[]=>by simp [cRq]
  | d::ds,e::es=>by
    rw [cRq,<- cPq ds es,Yb,Yb,Nat.succ_min_succ,List.range_succ_eq_map,YB,List.all_map]
    have h1:eqJ (d::ds) (e::es) 0=eqD d e:=rfl
    have h2:(eqJ (d::ds) (e::es) ∘ Nat.succ)=eqJ ds es:=by funext j;simp [eqJ]
    rw [h1,h2,Bool.and_assoc]
    congr 2
    rw [Bool.eq_iff_iff];simp
section
variable {X:Cx} {pins:List (Addr × Obj)} {σ:L2.St} {H:Hp} {s:Shared}
mutual
theorem wTq (I:Inv X pins σ H s):∀ {d e:D} {v:V},d.data=true->e.data=true->Abs X.K H d v->Abs X.K H e v->d=e
  | .non,e,v,_,h,a,b=>by
    cases a
    cases e<;>first | rfl | (cases b;done) | (obtain ⟨_,_,z,_⟩:=b;cases z)
  | .bl _,e,v,_,h,a,b=>by
    cases a
    cases e<;>first | (cases b;rfl) | (cases b;done) | (obtain ⟨_,_,z,_⟩:=b;cases z)
  | .int _,e,v,_,h,a,b=>by
    cases a
    cases e<;>first | (cases b;rfl) | (cases b;done) | (obtain ⟨_,_,z,_⟩:=b;cases z)
  | .str _,e,v,_,h,a,b=>by
    cases a
    cases e<;>first | (cases b;rfl) | (cases b;done) | (obtain ⟨_,_,z,_⟩:=b;cases z)
  | .ref _,_,_,h,_,_,_=>by simp [D.data] at h
  | .ty _,_,_,h,_,_,_=>by simp [D.data] at h
  | .frl _,_,_,h,_,_,_=>by simp [D.data] at h
  | .tup ds,e,v,h0,h,a,b=>by
    obtain ⟨l,vs,rfl,s1,r1⟩:=a
    cases e with
    | tup es=>
      obtain ⟨m,us,z,s2,r2⟩:=b
      cases z
      have e:=I.tuple_inj s1 s2
      subst e
      rw [iXq I (by simpa [D.data] using h0) (by simpa [D.data] using h) r1 r2]
    | ref m=>simp [D.data] at h
    | frl m=>simp [D.data] at h
    | _=>cases b
theorem iXq (I:Inv X pins σ H s):∀ {ds es:List D} {vs:List V},aWq ds=true->aWq es=true->AbsL X.K H ds vs->AbsL X.K H es vs->ds=es
  | [],[],_,_,_,_,_=>rfl
  | [],e::es,_,_,_,a,b=>by cases a;obtain ⟨_,_,z,_⟩:=b;cases z
  | d::ds,[],_,_,_,a,b=>by cases b;obtain ⟨_,_,z,_⟩:=a;cases z
  | d::ds,e::es,vs,h1,h2,⟨v,r,e1,a1,l1⟩,⟨u,q,e2,a2,l2⟩=>by
    subst e1
    cases e2
    simp only [aWq,Bool.and_eq_true] at h1 h2
    rw [wTq I h1.1 h2.1 a1 a2,iXq I h1.2 h2.2 l1 l2]
end
mutual
theorem bWq:∀ {d:D},d.data=true->eqD d d=true
  | .non,_=>rfl
  | .bl _,_=>by simp [eqD]
  | .int _,_=>by simp [eqD]
  | .str _,_=>by simp [eqD]
  | .ref _,h=>by simp [D.data] at h
  | .ty _,h=>by simp [D.data] at h
  | .frl _,h=>by simp [D.data] at h
  | .tup ds,h=>by rw [eqD];exact gEq (by simpa [D.data] using h)
theorem gEq:∀ {ds:List D},aWq ds=true->cRq ds ds=true
  | [],_=>rfl
  | d::ds,h=>by
    simp only [aWq,Bool.and_eq_true] at h
    rw [cRq,bWq h.1,gEq h.2];rfl
end
mutual
theorem wWq (I:Inv X pins σ H s):∀ (d e:D) (A:Around) (x y:V) (u v:Value),d.data=true->e.data=true->Abs X.K H d x->Abs X.K H e y->RelV x u->RelV y v->A.units+d.dp < cLine->SeqAt.EqAt A s u v (eqD d e)
  | .tup ds,e,A,x,y,u,v,hd,he,ax,ay,ru,rv,hu=>by
    obtain ⟨a,vs,rfl,s1,r1⟩:=ax
    cases ru
    obtain ⟨its,rr,t1,_⟩:=I.tuple s1
    have hu0:A.units < cLine:=by omega
    cases e with
    | non=>cases ay;cases rv;exact SeqAt.EqAt.tuple_none t1 hu0
    | bl b=>cases ay;cases rv;exact SeqAt.EqAt.tuple_bool b t1 hu0
    | int b=>cases ay;obtain ⟨t,rfl⟩:=rv;exact SeqAt.EqAt.tuple_int b t t1 hu0
    | str b=>cases ay;obtain ⟨t,rfl⟩:=rv;exact SeqAt.EqAt.tuple_str b t t1 hu0
    | ref b=>simp [D.data] at he
    | ty b=>simp [D.data] at he
    | frl b=>simp [D.data] at he
    | tup es=>
      obtain ⟨b,us,rfl,s2,r2⟩:=ay
      cases rv
      by_cases hab:a=b
      . subst hab
        have e1:=I.tuple_inj s1 s2
        subst e1
        have e2:=iXq I (by simpa [D.data] using hd) (by simpa [D.data] using he) r1 r2
        subst e2
        rw [bWq hd]
        exact SeqAt.EqAt.same _
      . obtain ⟨its2,rr2,t2,_⟩:=I.tuple s2
        have l1:=rr.length
        have l2:=rr2.length
        have l3:=r1.len
        have l4:=r2.len
        simp only [D.dp] at hu
        have z:=SeqAt.RcAt.tuples (A:=A) (e:=eqJ ds es) t1 t2 hu0 (λ j h1 h2=>by
          have q:=eDq I ds es A.in1 vs us its its2 (by simpa [D.data] using hd) (by simpa [D.data] using he) r1 r2 rr rr2 (by show A.units+1+bMq ds < cLine;omega) j (by simpa using h1) (by simpa using h2)
          simpa using q)
        have ez:((Ys (min its.toArray.size its2.toArray.size)).all (eqJ ds es)&&its.toArray.size==its2.toArray.size)=eqD (.tup ds) (.tup es):=by
          rw [Ye,Ye,<- l1,<- l2,l3,l4,cPq];rfl
        rw [ez] at z
        exact SeqAt.EqAt.of_refs hab z
  | .ref _,_,_,_,_,_,_,hd,_,_,_,_,_,_=>by simp [D.data] at hd
  | .ty _,_,_,_,_,_,_,hd,_,_,_,_,_,_=>by simp [D.data] at hd
  | .frl _,_,_,_,_,_,_,hd,_,_,_,_,_,_=>by simp [D.data] at hd
  | .non,e,A,x,y,u,v,hd,he,ax,ay,ru,rv,hu=>by
    cases ax;cases ru
    have hu0:A.units < cLine:=by omega
    cases e with
    | non=>cases ay;cases rv;exact SeqAt.EqAt.same _
    | bl b=>cases ay;cases rv;exact SeqAt.EqAt.none_bool b
    | int b=>cases ay;obtain ⟨t,rfl⟩:=rv;exact SeqAt.EqAt.none_int b t
    | str b=>cases ay;obtain ⟨t,rfl⟩:=rv;exact SeqAt.EqAt.none_str b t
    | ref b=>simp [D.data] at he
    | ty b=>simp [D.data] at he
    | frl b=>simp [D.data] at he
    | tup es=>obtain ⟨b,us,rfl,s2,r2⟩:=ay;cases rv;obtain ⟨its2,rr2,t2,_⟩:=I.tuple s2;exact SeqAt.EqAt.none_tuple t2 hu0
  | .bl a,e,A,x,y,u,v,hd,he,ax,ay,ru,rv,hu=>by
    cases ax;cases ru
    have hu0:A.units < cLine:=by omega
    cases e with
    | non=>cases ay;cases rv;exact SeqAt.EqAt.bool_none a
    | bl b=>cases ay;cases rv;exact SeqAt.EqAt.bool_bool a b
    | int b=>cases ay;obtain ⟨t,rfl⟩:=rv;exact SeqAt.EqAt.bool_int a b t
    | str b=>cases ay;obtain ⟨t,rfl⟩:=rv;exact SeqAt.EqAt.bool_str a b t
    | ref b=>simp [D.data] at he
    | ty b=>simp [D.data] at he
    | frl b=>simp [D.data] at he
    | tup es=>obtain ⟨b,us,rfl,s2,r2⟩:=ay;cases rv;obtain ⟨its2,rr2,t2,_⟩:=I.tuple s2;exact SeqAt.EqAt.bool_tuple a t2 hu0
  | .int a,e,A,x,y,u,v,hd,he,ax,ay,ru,rv,hu=>by
    cases ax;obtain ⟨t',rfl⟩:=ru
    have hu0:A.units < cLine:=by omega
    cases e with
    | non=>cases ay;cases rv;exact SeqAt.EqAt.int_none a t'
    | bl b=>cases ay;cases rv;exact SeqAt.EqAt.int_bool a t' b
    | int b=>cases ay;obtain ⟨t,rfl⟩:=rv;exact SeqAt.EqAt.int_int a t' b t
    | str b=>cases ay;obtain ⟨t,rfl⟩:=rv;exact SeqAt.EqAt.int_str a t' b t
    | ref b=>simp [D.data] at he
    | ty b=>simp [D.data] at he
    | frl b=>simp [D.data] at he
    | tup es=>obtain ⟨b,us,rfl,s2,r2⟩:=ay;cases rv;obtain ⟨its2,rr2,t2,_⟩:=I.tuple s2;exact SeqAt.EqAt.int_tuple a t' t2 hu0
  | .str a,e,A,x,y,u,v,hd,he,ax,ay,ru,rv,hu=>by
    cases ax;obtain ⟨t',rfl⟩:=ru
    have hu0:A.units < cLine:=by omega
    cases e with
    | non=>cases ay;cases rv;exact SeqAt.EqAt.str_none a t'
    | bl b=>cases ay;cases rv;exact SeqAt.EqAt.str_bool a t' b
    | int b=>cases ay;obtain ⟨t,rfl⟩:=rv;exact SeqAt.EqAt.str_int a t' b t
    | str b=>cases ay;obtain ⟨t,rfl⟩:=rv;exact SeqAt.EqAt.str_str a t' b t
    | ref b=>simp [D.data] at he
    | ty b=>simp [D.data] at he
    | frl b=>simp [D.data] at he
    | tup es=>obtain ⟨b,us,rfl,s2,r2⟩:=ay;cases rv;obtain ⟨its2,rr2,t2,_⟩:=I.tuple s2;exact SeqAt.EqAt.str_tuple a t' t2 hu0
theorem eDq (I:Inv X pins σ H s):∀ (ds es:List D) (A:Around) (vs us:List V) (its its2:List Value),aWq ds=true->aWq es=true->AbsL X.K H ds vs->AbsL X.K H es us->Vals vs its->Vals us its2->A.units+bMq ds < cLine →
    ∀ j (h1:j < its.length) (h2:j < its2.length),SeqAt.EqAt A s its[j] its2[j] (eqJ ds es j)
  | [],es,A,vs,us,its,its2,_,_,e,e',rr,rr2,_,j,h1,h2=>by
    rw [show vs=[] from e] at rr
    cases rr
    exact absurd h1 (by simp)
  | d::ds,[],A,vs,us,its,its2,_,_,e,e',rr,rr2,_,j,h1,h2=>by
    rw [show us=[] from e'] at rr2
    cases rr2
    exact absurd h2 (by simp)
  | d::ds,e0::es,A,vs,us,its,its2,hd,he,⟨v,r,e,q,t⟩,⟨v',r',e',q',t'⟩,rr,rr2,hu,j,h1,h2=>by
    subst e e'
    cases rr with
    | cons r1 rt=>
      cases rr2 with
      | cons r2 rt2=>
        simp only [bMq] at hu
        simp only [aWq,Bool.and_eq_true] at hd he
        cases j with
        | zero=>exact wWq I d e0 A _ _ _ _ hd.1 he.1 q q' r1 r2 (by omega)
        | succ j=>
          have z:=eDq I ds es A _ _ _ _ hd.2 he.2 t t' rt rt2 (by omega) j (by simpa using h1) (by simpa using h2)
          simpa [eqJ] using z
end
theorem aN5q (I:Inv X pins σ H s) (d e:D) (A:Around) (x y:V) (u v:Value) (hd:d.data=true) (he:e.data=true) (ax:Abs X.K H d x) (ay:Abs X.K H e y) (ru:RelV x u) (rv:RelV y v) (hu:A.units+d.dp < cLine):SeqAt.RcAt A s u v (eqD d e):=by
  have hu0:A.units < cLine:=by omega
  cases d with
  | tup ds=>
    obtain ⟨a,vs,rfl,s1,r1⟩:=ax
    cases ru
    obtain ⟨its,rr,t1,_⟩:=I.tuple s1
    cases e with
    | non=>cases ay;cases rv;exact SeqAt.RcAt.tuple_none t1 hu0
    | bl b=>cases ay;cases rv;exact SeqAt.RcAt.tuple_bool b t1 hu0
    | int b=>cases ay;obtain ⟨t,rfl⟩:=rv;exact SeqAt.RcAt.tuple_int b t t1 hu0
    | str b=>cases ay;obtain ⟨t,rfl⟩:=rv;exact SeqAt.RcAt.tuple_str b t t1 hu0
    | ref b=>simp [D.data] at he
    | ty b=>simp [D.data] at he
    | frl b=>simp [D.data] at he
    | tup es=>
      obtain ⟨b,us,rfl,s2,r2⟩:=ay
      cases rv
      obtain ⟨its2,rr2,t2,_⟩:=I.tuple s2
      have l1:=rr.length
      have l2:=rr2.length
      have l3:=r1.len
      have l4:=r2.len
      simp only [D.dp] at hu
      have z:=SeqAt.RcAt.tuples (A:=A) (e:=eqJ ds es) t1 t2 hu0 (λ j h1 h2=>by
        have q:=eDq I ds es A.in1 vs us its its2 (by simpa [D.data] using hd) (by simpa [D.data] using he) r1 r2 rr rr2 (by show A.units+1+bMq ds < cLine;omega) j (by simpa using h1) (by simpa using h2)
        simpa using q)
      have ez:((Ys (min its.toArray.size its2.toArray.size)).all (eqJ ds es)&&its.toArray.size==its2.toArray.size)=eqD (.tup ds) (.tup es):=by
        rw [Ye,Ye,<- l1,<- l2,l3,l4,cPq];rfl
      rw [ez] at z
      exact z
  | ref a=>simp [D.data] at hd
  | ty a=>simp [D.data] at hd
  | frl a=>simp [D.data] at hd
  | non=>
    cases ax;cases ru
    cases e with
    | non=>cases ay;cases rv;exact SeqAt.RcAt.none_none
    | bl b=>cases ay;cases rv;exact SeqAt.RcAt.none_bool b
    | int b=>cases ay;obtain ⟨t,rfl⟩:=rv;exact SeqAt.RcAt.none_int b t
    | str b=>cases ay;obtain ⟨t,rfl⟩:=rv;exact SeqAt.RcAt.none_str b t
    | ref b=>simp [D.data] at he
    | ty b=>simp [D.data] at he
    | frl b=>simp [D.data] at he
    | tup es=>obtain ⟨b,us,rfl,s2,r2⟩:=ay;cases rv;obtain ⟨its2,rr2,t2,_⟩:=I.tuple s2;exact SeqAt.RcAt.none_tuple t2 hu0
  | bl a=>
    cases ax;cases ru
    cases e with
    | non=>cases ay;cases rv;exact SeqAt.RcAt.bool_none a
    | bl b=>cases ay;cases rv;exact SeqAt.RcAt.bool_bool a b
    | int b=>cases ay;obtain ⟨t,rfl⟩:=rv;exact SeqAt.RcAt.bool_int a b t
    | str b=>cases ay;obtain ⟨t,rfl⟩:=rv;exact SeqAt.RcAt.bool_str a b t
    | ref b=>simp [D.data] at he
    | ty b=>simp [D.data] at he
    | frl b=>simp [D.data] at he
    | tup es=>obtain ⟨b,us,rfl,s2,r2⟩:=ay;cases rv;obtain ⟨its2,rr2,t2,_⟩:=I.tuple s2;exact SeqAt.RcAt.bool_tuple a t2 hu0
  | int a=>
    cases ax;obtain ⟨t',rfl⟩:=ru
    cases e with
    | non=>cases ay;cases rv;exact SeqAt.RcAt.int_none a t'
    | bl b=>cases ay;cases rv;exact SeqAt.RcAt.int_bool a t' b
    | int b=>cases ay;obtain ⟨t,rfl⟩:=rv;exact SeqAt.RcAt.int_int a t' b t
    | str b=>cases ay;obtain ⟨t,rfl⟩:=rv;exact SeqAt.RcAt.int_str a t' b t
    | ref b=>simp [D.data] at he
    | ty b=>simp [D.data] at he
    | frl b=>simp [D.data] at he
    | tup es=>obtain ⟨b,us,rfl,s2,r2⟩:=ay;cases rv;obtain ⟨its2,rr2,t2,_⟩:=I.tuple s2;exact SeqAt.RcAt.int_tuple a t' t2 hu0
  | str a=>
    cases ax;obtain ⟨t',rfl⟩:=ru
    cases e with
    | non=>cases ay;cases rv;exact SeqAt.RcAt.str_none a t'
    | bl b=>cases ay;cases rv;exact SeqAt.RcAt.str_bool a t' b
    | int b=>cases ay;obtain ⟨t,rfl⟩:=rv;exact SeqAt.RcAt.str_int a t' b t
    | str b=>cases ay;obtain ⟨t,rfl⟩:=rv;exact SeqAt.RcAt.str_str a t' b t
    | ref b=>simp [D.data] at he
    | ty b=>simp [D.data] at he
    | frl b=>simp [D.data] at he
    | tup es=>obtain ⟨b,us,rfl,s2,r2⟩:=ay;cases rv;obtain ⟨its2,rr2,t2,_⟩:=I.tuple s2;exact SeqAt.RcAt.str_tuple a t' t2 hu0
end
end L3
namespace L3
open PySem PySem.Spec L2
section
variable {X:Cx} {pins:List (Addr × Obj)} {σ:L2.St} {H:Hp} {s:Shared}
theorem aP8q (I:Inv X pins σ H s) (d e:D) (A:Around) (x y:V) (u v:Value) (hd:d.data=true) (he:e.data=true) (ax:Abs X.K H d x) (ay:Abs X.K H e y) (ru:RelV x u) (rv:RelV y v) (hu:A.units+d.dp < cLine):SeqAt.RcNeAt A s u v (!eqD d e):=by
  have hu0:A.units < cLine:=by omega
  cases d with
  | tup ds=>
    obtain ⟨a,vs,rfl,s1,r1⟩:=ax
    cases ru
    obtain ⟨its,rr,t1,_⟩:=I.tuple s1
    cases e with
    | non=>cases ay;cases rv;exact SeqAt.RcNeAt.tuple_none t1 hu0
    | bl b=>cases ay;cases rv;exact SeqAt.RcNeAt.tuple_bool b t1 hu0
    | int b=>cases ay;obtain ⟨t,rfl⟩:=rv;exact SeqAt.RcNeAt.tuple_int b t t1 hu0
    | str b=>cases ay;obtain ⟨t,rfl⟩:=rv;exact SeqAt.RcNeAt.tuple_str b t t1 hu0
    | ref b=>simp [D.data] at he
    | ty b=>simp [D.data] at he
    | frl b=>simp [D.data] at he
    | tup es=>
      obtain ⟨b,us,rfl,s2,r2⟩:=ay
      cases rv
      obtain ⟨its2,rr2,t2,_⟩:=I.tuple s2
      have l1:=rr.length
      have l2:=rr2.length
      have l3:=r1.len
      have l4:=r2.len
      simp only [D.dp] at hu
      have z:=SeqAt.RcNeAt.tuples (A:=A) (e:=eqJ ds es) t1 t2 hu0 (λ j h1 h2=>by
        have q:=eDq I ds es A.in1 vs us its its2 (by simpa [D.data] using hd) (by simpa [D.data] using he) r1 r2 rr rr2 (by show A.units+1+bMq ds < cLine;omega) j (by simpa using h1) (by simpa using h2)
        simpa using q)
      have ez:((Ys (min its.toArray.size its2.toArray.size)).all (eqJ ds es)&&its.toArray.size==its2.toArray.size)=eqD (.tup ds) (.tup es):=by
        rw [Ye,Ye,<- l1,<- l2,l3,l4,cPq];rfl
      rw [ez] at z
      exact z
  | ref a=>simp [D.data] at hd
  | ty a=>simp [D.data] at hd
  | frl a=>simp [D.data] at hd
  | non=>
    cases ax;cases ru
    cases e with
    | non=>cases ay;cases rv;exact SeqAt.RcNeAt.none_none
    | bl b=>cases ay;cases rv;exact SeqAt.RcNeAt.none_bool b
    | int b=>cases ay;obtain ⟨t,rfl⟩:=rv;exact SeqAt.RcNeAt.none_int b t
    | str b=>cases ay;obtain ⟨t,rfl⟩:=rv;exact SeqAt.RcNeAt.none_str b t
    | ref b=>simp [D.data] at he
    | ty b=>simp [D.data] at he
    | frl b=>simp [D.data] at he
    | tup es=>obtain ⟨b,us,rfl,s2,r2⟩:=ay;cases rv;obtain ⟨its2,rr2,t2,_⟩:=I.tuple s2;exact SeqAt.RcNeAt.none_tuple t2 hu0
  | bl a=>
    cases ax;cases ru
    cases e with
    | non=>cases ay;cases rv;exact SeqAt.RcNeAt.bool_none a
    | bl b=>cases ay;cases rv;exact SeqAt.RcNeAt.bool_bool a b
    | int b=>cases ay;obtain ⟨t,rfl⟩:=rv;exact SeqAt.RcNeAt.bool_int a b t
    | str b=>cases ay;obtain ⟨t,rfl⟩:=rv;exact SeqAt.RcNeAt.bool_str a b t
    | ref b=>simp [D.data] at he
    | ty b=>simp [D.data] at he
    | frl b=>simp [D.data] at he
    | tup es=>obtain ⟨b,us,rfl,s2,r2⟩:=ay;cases rv;obtain ⟨its2,rr2,t2,_⟩:=I.tuple s2;exact SeqAt.RcNeAt.bool_tuple a t2 hu0
  | int a=>
    cases ax;obtain ⟨t',rfl⟩:=ru
    cases e with
    | non=>cases ay;cases rv;exact SeqAt.RcNeAt.int_none a t'
    | bl b=>cases ay;cases rv;exact SeqAt.RcNeAt.int_bool a t' b
    | int b=>cases ay;obtain ⟨t,rfl⟩:=rv;exact SeqAt.RcNeAt.int_int a t' b t
    | str b=>cases ay;obtain ⟨t,rfl⟩:=rv;exact SeqAt.RcNeAt.int_str a t' b t
    | ref b=>simp [D.data] at he
    | ty b=>simp [D.data] at he
    | frl b=>simp [D.data] at he
    | tup es=>obtain ⟨b,us,rfl,s2,r2⟩:=ay;cases rv;obtain ⟨its2,rr2,t2,_⟩:=I.tuple s2;exact SeqAt.RcNeAt.int_tuple a t' t2 hu0
  | str a=>
    cases ax;obtain ⟨t',rfl⟩:=ru
    cases e with
    | non=>cases ay;cases rv;exact SeqAt.RcNeAt.str_none a t'
    | bl b=>cases ay;cases rv;exact SeqAt.RcNeAt.str_bool a t' b
    | int b=>cases ay;obtain ⟨t,rfl⟩:=rv;exact SeqAt.RcNeAt.str_int a t' b t
    | str b=>cases ay;obtain ⟨t,rfl⟩:=rv;exact SeqAt.RcNeAt.str_str a t' b t
    | ref b=>simp [D.data] at he
    | ty b=>simp [D.data] at he
    | frl b=>simp [D.data] at he
    | tup es=>obtain ⟨b,us,rfl,s2,r2⟩:=ay;cases rv;obtain ⟨its2,rr2,t2,_⟩:=I.tuple s2;exact SeqAt.RcNeAt.str_tuple a t' t2 hu0
end
end L3
namespace L3
open PySem PySem.Spec L2
section
variable {X:Cx} {a b c e o i tg iter:Expr} {es:List Expr} {ta tb te to ti tc:DTE} {t:DTA} {pos p apos cpos:Pos}
theorem aPq {A:Around} {k:Nat} (hr:Room k A):A.units+200 < cLine:=by have:=hr.un;omega
def rEqD (K:PySem.W.Frag) (f:Bool->Bool):R2:=λ x y H Q=>∃ d e,Abs K H d x/\Abs K H e y/\d.data=true/\e.data=true/\d.dp<=150/\Q (.bl (f (eqD d e))) H
def v5q (K:PySem.W.Frag) (f:Bool->Bool):R2:=λ x y H Q=>∃ l m vs us ds es,x=.ref l/\y=.ref m/\SqL K H l vs/\SqL K H m us/\AbsL K H ds vs/\AbsL K H es us/\aWq ds=true/\aWq es=true/\bMq ds<=150/\Q (.bl (f (cRq ds es))) H
theorem yZq (hu:X.A.units+200 < cLine):OpR X (compareOp .Eq) (rEqD X.K id):=by
  intro pins s σ H x y v u Q I rx ry h
  obtain ⟨d,e,ax,ay,hd,he,hz,q⟩:=h
  exact aN5q I d e X.A x y v u hd he ax ay rx ry (by omega) X.prog X.w X.xe _ ⟨.bl _,H,I,rfl,q⟩
theorem aA8q (hu:X.A.units+200 < cLine):OpR X (compareOp .NotEq) (rEqD X.K (!·)):=by
  intro pins s σ H x y v u Q I rx ry h
  obtain ⟨d,e,ax,ay,hd,he,hz,q⟩:=h
  exact aP8q I d e X.A x y v u hd he ax ay rx ry (by omega) X.prog X.w X.xe _ ⟨.bl _,H,I,rfl,q⟩
theorem fKq:∀ {ds es:List D},ds.length≠es.length->cRq ds es=false
  | [],[],h=>absurd rfl h
  | [],_::_,_=>rfl
  | _::_,[],_=>rfl
  | d::ds,e::es,h=>by rw [cRq,fKq (by simpa using h),Bool.and_false]
theorem j1q {ds es:List D} (h:ds.length=es.length):(Ys ds.length).all (eqJ ds es)=cRq ds es:=by
  rw [<- cPq,<- h,Nat.min_self];simp
theorem w0q (hu:X.A.units+200 < cLine):OpR X (compareOp .Eq) (v5q X.K id):=by
  intro pins s σ H x y v u Q I rx ry h
  obtain ⟨l,m,vs,us,ds,es,rfl,rfl,s1,s2,r1,r2,hd,he,hz,q⟩:=h
  cases rx;cases ry
  obtain ⟨its,rr,t1,_⟩:=I.list s1
  obtain ⟨its2,rr2,t2,_⟩:=I.list s2
  have l1:=rr.length
  have l2:=rr2.length
  have l3:=r1.len
  have l4:=r2.len
  by_cases hl:ds.length=es.length
  . refine SeqAt.RcAt.lists (e:=eqJ ds es) t1.isList t2.isList (by rw [Ye,Ye];omega) (by omega) (λ j h1 h2=>?_) X.prog X.w X.xe _ ⟨.bl _,H,I,?_,q⟩
    . have q:=eDq I ds es X.A.in1 vs us its its2 hd he r1 r2 rr rr2 (by show X.A.units+1+bMq ds < cLine;omega) j (by simpa using h1) (by simpa using h2)
      simpa using q
    . show Value.bool _=Value.bool _
      rw [Ye,<- l1,l3,j1q hl];rfl
  . refine SeqAt.RcAt.lists_lengths t1.isList t2.isList (by rw [Ye,Ye];simp;omega) (by omega) X.prog X.w X.xe _ ⟨.bl _,H,I,?_,q⟩
    rw [fKq hl];rfl
theorem wJq (hu:X.A.units+200 < cLine):OpR X (compareOp .NotEq) (v5q X.K (!·)):=by
  intro pins s σ H x y v u Q I rx ry h
  obtain ⟨l,m,vs,us,ds,es,rfl,rfl,s1,s2,r1,r2,hd,he,hz,q⟩:=h
  cases rx;cases ry
  obtain ⟨its,rr,t1,_⟩:=I.list s1
  obtain ⟨its2,rr2,t2,_⟩:=I.list s2
  have l1:=rr.length
  have l2:=rr2.length
  have l3:=r1.len
  have l4:=r2.len
  by_cases hl:ds.length=es.length
  . refine SeqAt.RcNeAt.lists (e:=eqJ ds es) t1.isList t2.isList (by rw [Ye,Ye];omega) (by omega) (λ j h1 h2=>?_) X.prog X.w X.xe _ ⟨.bl _,H,I,?_,q⟩
    . have q:=eDq I ds es X.A.in1 vs us its its2 hd he r1 r2 rr rr2 (by show X.A.units+1+bMq ds < cLine;omega) j (by simpa using h1) (by simpa using h2)
      simpa using q
    . show Value.bool _=Value.bool _
      rw [Ye,<- l1,l3,j1q hl]
  . refine SeqAt.RcNeAt.lists_lengths t1.isList t2.isList (by rw [Ye,Ye];simp;omega) (by omega) X.prog X.w X.xe _ ⟨.bl _,H,I,?_,q⟩
    rw [fKq hl];rfl
def eqR (f:Bool->Bool):DR2:=λ x y G Q=>match x,y with
  | .int i,.int j=>Q (.bl (f (i==j))) G
  | .str i,.str j=>Q (.bl (f (i==j))) G
  | .tup _,.str _=>Q (.bl (f false)) G
  | .str _,.tup _=>Q (.bl (f false)) G
  | .ref l,.ref m=>onL G l λ ds=>onL G m λ es=>aWq ds=true/\aWq es=true/\bMq ds<=150/\Q (.bl (f (cRq ds es))) G
  | x,y=>x.data=true/\y.data=true/\x.dp<=150/\Q (.bl (f (eqD x y))) G
theorem zUq {f:Bool->Bool} {x y:D} {G:DV} {Q:DK} (hx:x.data=true) (hy:y.data=true) (hd:x.dp<=150) (q:Q (.bl (f (eqD x y))) G):eqR f x y G Q:=by
  cases x<;>cases y<;>first | exact q | exact ⟨hx,hy,hd,q⟩ | (simp [D.data] at hx;done) | (simp [D.data] at hy;done)
def rTS (K:PySem.W.Frag) (f:Bool->Bool):R2:=λ x y H Q=>(∃ a vs z,x=.ref a/\SqT K H a vs/\y=.str z/\Q (.bl (f false)) H)\/∃ a vs z,y=.ref a/\SqT K H a vs/\x=.str z/\Q (.bl (f false)) H
theorem vSq (hu:X.A.units+200 < cLine):OpR X (compareOp .Eq) (rTS X.K id):=by
  intro pins s σ H x y v u Q I rx ry h
  rcases h with ⟨a,vs,z,rfl,sq,rfl,q⟩ | ⟨a,vs,z,rfl,sq,rfl,q⟩
  . cases rx;obtain ⟨t,rfl⟩:=ry
    obtain ⟨its,rr,t1,_⟩:=I.tuple sq
    exact SeqAt.RcAt.tuple_str z t t1 (by omega) X.prog X.w X.xe _ ⟨.bl false,H,I,rfl,q⟩
  . cases ry;obtain ⟨t,rfl⟩:=rx
    obtain ⟨its,rr,t1,_⟩:=I.tuple sq
    exact SeqAt.RcAt.str_tuple z t t1 (by omega) X.prog X.w X.xe _ ⟨.bl false,H,I,rfl,q⟩
theorem vPq (hu:X.A.units+200 < cLine):OpR X (compareOp .NotEq) (rTS X.K (!·)):=by
  intro pins s σ H x y v u Q I rx ry h
  rcases h with ⟨a,vs,z,rfl,sq,rfl,q⟩ | ⟨a,vs,z,rfl,sq,rfl,q⟩
  . cases rx;obtain ⟨t,rfl⟩:=ry
    obtain ⟨its,rr,t1,_⟩:=I.tuple sq
    exact SeqAt.RcNeAt.tuple_str z t t1 (by omega) X.prog X.w X.xe _ ⟨.bl true,H,I,rfl,q⟩
  . cases ry;obtain ⟨t,rfl⟩:=rx
    obtain ⟨its,rr,t1,_⟩:=I.tuple sq
    exact SeqAt.RcNeAt.str_tuple z t t1 (by omega) X.prog X.w X.xe _ ⟨.bl true,H,I,rfl,q⟩
theorem uIq {f:Bool->Bool} {op:CmpOp} (h1:OpR X (compareOp op) (rEqD X.K f)) (h2:OpR X (compareOp op) (v5q X.K f)) (h3:OpR X (compareOp op) (rTS X.K f)):AOp X (compareOp op) (eqR f):=by
  refine ⟨_,⟨h1.or (h2.or h3)⟩,λ x y vx vy G H DQ Q v ax ay r F=>?_⟩
  have fin:∀ b:Bool,DQ (.bl b) G->Q (.bl b) H:=λ b q=>F (.bl b) G _ H (.refl v) rfl q
  have gen:x.data=true/\y.data=true/\x.dp<=150/\DQ (.bl (f (eqD x y))) G->rEqD X.K f vx vy H Q:=λ⟨z1,z2,z3,z4⟩=>⟨x,y,ax,ay,z1,z2,z3,fin _ z4⟩
  unfold eqR at r
  split at r
  . exact .inl (gen ⟨rfl,rfl,Nat.zero_le _,r⟩)
  . exact .inl (gen ⟨rfl,rfl,Nat.zero_le _,r⟩)
  . obtain ⟨l,vs,rfl,s1,_⟩:=ax
    cases ay
    exact .inr (.inr (.inl ⟨l,vs,_,rfl,s1,rfl,fin _ r⟩))
  . obtain ⟨l,vs,rfl,s1,_⟩:=ay
    cases ax
    exact .inr (.inr (.inr ⟨l,vs,_,rfl,s1,rfl,fin _ r⟩))
  . cases ax;cases ay
    obtain ⟨ds,vs,k1,s1,r1⟩:=bHq v r
    obtain ⟨es,us,⟨z1,z2,z3,k2⟩,s2,r2⟩:=bHq v k1
    exact .inr (.inl ⟨_,_,vs,us,ds,es,rfl,rfl,s1,s2,r1,r2,z1,z2,z3,fin _ k2⟩)
  . exact .inl (gen r)
theorem aKq (hu:X.A.units+200 < cLine):AOp X (compareOp .Eq) (eqR id):=uIq (yZq hu) (w0q hu) (vSq hu)
theorem dMq (hu:X.A.units+200 < cLine):AOp X (compareOp .NotEq) (eqR (!·)):=uIq (aA8q hu) (wJq hu) (vPq hu)
abbrev aH6q (t:DTE):DTE:=λ ρ G Q=>t ρ G λ d G'=>∃ G2,Sub G2 G'/\Q d G2
theorem bOq (h:AE X e te):AE X e (aH6q te):=by
  obtain ⟨ca,ja,ra⟩:=h.run
  exact ⟨_,ja,λ ρ G DQ σ H Q B q F=>ra ρ G _ σ H _ B q λ d G' v H' g a ⟨G2,s2,q2⟩=>F d G2 v H' (g.sub s2) a q2⟩
@[irreducible] def atS (ds:List D) (i:Int) (G:DV) (Q:DK):Prop:=atD ds i G Q
theorem qMq {ds:List D} {i:Int} {G:DV} {Q:DK} (h:atD ds i G Q):atS ds i G Q:=by unfold atS;exact h
abbrev dIxD (t:DTA) (tb:DTE):DTE:=λ ρ G Q=>t ρ G λ ds G1=>tb ρ G1 λ y G2=>match y with
  | .int i=>atS ds i G2 Q
  | _=>False
theorem cDq {lp:Pos} (h:AA X es t) (hb:AE X b tb) (hs:hUq b) (hl:Nat.ble es.length 1000=true:=by rfl):AE X (.Subscript (.List es lp) b pos) (dIxD t tb):=by
  obtain ⟨ca,ja,ra⟩:=h.run
  obtain ⟨cb,jb,rb⟩:=hb.run
  refine ⟨_,aG0q ⟨uKq⟩ (u7q ja) jb hs,λ ρ G DQ σ H Q B q F=>ra ρ G _ σ H _ B q λ ds G1 vs H1 g1 al hn q1=>⟨by rw [al.len,hn];exact i3q hl,λ p hp=>?_⟩⟩
  have g2:=Go.newT (o:=.lst vs) g1.vw hp
  have n1:=g1.vw.none hp
  refine rb ρ G1 _ σ _ _ ((B.go g1).go g2) q1 λ y G3 u H3 g3 ay q3=>?_
  have h3:=g3.same p _ bKq n1
  split at q3
  . next i=>
    cases ay
    unfold atS at q3
    obtain ⟨d,hd,q4⟩:=iKq q3
    obtain ⟨w,hw,aw⟩:=iSq ((al.mono g2.tup).mono g3.tup) hd
    exact .inl ⟨p,vs,i,w,rfl,rfl,.of h3,hw,F d G3 w H3 ((g1.trans g2).trans g3) aw q4⟩
  . exact q3.elim
def qVq (sc:Scope) (N:List Str) (scope:Scope) (N':List Str) (nt:Nat) (cap:List Nat):Bool:=
  scope.names.all (λ y=>y.2 !=.cell)&&scope.names.all (λ y=>y.2 !=.local||scope.names.lookup y.1==some .local) &&
  scope.names.all (λ y=>y.2 !=.free||(sc.names.lookup y.1==some .cell||sc.names.lookup y.1==some .free))&&N'.length==nt+cap.length &&
  (Ys cap.length).all λ j=>match cap[j]?,N'[nt+j]? with
    | some i,some x=>N[i]?==some x&&scope.names.lookup x==some .free
    | _,_=>true
theorem CompOk.of {scope:Scope} {N':List Str} {nt:Nat} {cap:List Nat} (hk:scope.kind=.function) (h:qVq X.env.scope X.N scope N' nt cap=true):CompOk X scope N' nt cap:=by
  unfold qVq at h
  simp only [Bool.and_eq_true,Y4] at h
  obtain ⟨⟨⟨⟨h1,h2⟩,h3⟩,h4⟩,h5⟩:=h
  refine ⟨hk,λ y hy=>by simpa using h1 y hy,λ y hy e=>?_,λ y hy e=>?_,by simpa using h4,λ j i x hj hx=>?_⟩
  . have z:=h2 y hy
    rw [e] at z
    simpa using z
  . have z:=h3 y hy
    rw [e] at z
    simpa using z
  . have lt:j < cap.length:=by
      rcases Nat.lt_or_ge j cap.length with z | z
      . exact z
      . rw [YX z] at hj;cases hj
    have z:=h5 j (YE.mpr lt)
    rw [hj,hx] at z
    simpa using z
abbrev aV7q (to ti:DTE):DTG:=λ d ρ G Q=>to ρ G λ x G1=>ti ρ G1 λ y G2=>match x,y with
  | .ref l,.int k=>onM G2 l λ ds=>∃ j,ixN ds.length k=some j/\Q ρ (up G2 l (.lst (ds.set j d)))
  | _,_=>False
theorem m1q (ho:AE X o to) (hi:AE X i ti) (ha:∀ v,assign (.Subscript o i pos) X.env v=(do
      let ov ← holding [v] (eval o X.env)
      let iv ← holding [v,ov] (eval i X.env)
      standAt pos
      holding [v,ov,iv] (setItem ov iv v)
      release [v,ov,iv] []):=by intro _;rfl):AG X (.Subscript o i pos) (aV7q to ti):=by
  obtain ⟨co,jo,ro⟩:=ho.run
  obtain ⟨ci,ji,ri⟩:=hi.run
  refine ⟨_,aF0q jo ji ⟨tMq⟩ ha,λ d v ρ G DQ σ H Q B ad q F=>ro ρ G _ σ H _ B q λ x G1 vx H1 g1 ax q1=>ri ρ G1 _ σ H1 _ (B.go g1) q1 λ y G2 vy H2 g2 ay q2=>?_⟩
  split at q2
  . next l k=>
    cases ax;cases ay
    obtain ⟨ds,vs,⟨j,hj,q3⟩,e1,h1,r1⟩:=cWq g2.vw q2
    have ad2:=(ad.mono g1.tup).mono g2.tup
    have g3:=Go.setL g2.vw e1 (r1.set ad2 j)
    have gg:=(g1.trans g2).trans g3
    exact ⟨l,vs,k,j,rfl,rfl,h1,by rw [r1.len];exact hj,F ρ _ σ _ gg (B.go gg) q3⟩
  . exact q2.elim
abbrev dAug (k:Nat) (te:DTE) (f:Int->Int->Int):DTS:=λ DD ρ G=>match ρ[k]? with
  | some (some (.int x))=>te ρ G λ y G1=>(match y with
      | .int z=>DD.nx (ρ.set k (some (.int (f x z)))) G1
      | _=>False)
  | _=>False
structure AIp (X:Cx) (op:Operator) (f:Int->Int->Int):Prop where
  run:JIp X op (ipI f)
theorem l5q:AIp X .Add (λ i j=>i+j):=⟨⟨aI3q⟩⟩
theorem vVq:AIp X .Sub (λ i j=>i - j):=⟨⟨aG7q⟩⟩
theorem mOq {k:Nat} {x:Str} {op:Operator} {f:Int->Int->Int} {pos':Pos} (hN:X.N.Nodup) (hi:X.N[k]?=some x) (hx:Loc X.env.scope x) (he:AE X e te) (ho:AIp X op f) (hf:X.fn x=true\/X.env.scope.names.lookup x=some .local:=by first | exact .inl rfl | exact .inr rfl | assumption) :
    AS X (.AugAssign (.Name x pos') op e pos) (dAug k te f):=by
  obtain ⟨ce,je,re⟩:=he.run
  refine ⟨_,yIq hN hi hx je ho.run hf,λ DD Dc ρ G σ H B q F=>?_⟩
  unfold dAug at q
  split at q
  . next x h=>
    obtain ⟨v,h1,h2⟩:=B.st k _ h
    cases h2
    refine ⟨.int x,h1,re ρ G _ σ H _ B q λ y G1 u H1 g1 ay q1=>?_⟩
    split at q1
    . next z=>cases ay;exact ⟨x,z,rfl,rfl,F.nx _ G1 _ H1 g1 ((B.go g1).set (d:=.int (f x z)) rfl k) q1⟩
    . exact q1.elim
  . exact q.elim
abbrev sPq (te:DTE):DTE:=λ ρ G Q=>te ρ G λ x G1=>match x with
  | .tup ds=>∀ p,G1 p=none->Q (.ref p) (up G1 p (.lst ds.reverse))
  | _=>False
theorem h0q (hgl:Gl X "list") (hml:X.mg "list" = none) (hg:Gl X "reversed") (hm:X.mg "reversed" = none) (he:AE X e te) (hc:X.calm=true:=by rfl) (hs:bAq e=true:=by rfl):AE X (.Call (.Name "list" p) [.Call (.Name "reversed" apos) [e] [] cpos] [] pos) (sPq te):=by
  obtain ⟨ce,je,re⟩:=he.run
  refine ⟨_,gWq hgl hml hg hm je hc hs,λ ρ G DQ σ H Q B q F=>re ρ G _ σ H _ B q λ x G1 v H1 g1 ax q1=>?_⟩
  split at q1
  . next ds=>
    obtain ⟨l,vs,rfl,s,r⟩:=ax
    exact ⟨l,vs,rfl,s,λ p hp=>F (.ref p) _ _ _ (g1.trans (Go.newL g1.vw hp r.reverse)) rfl (q1 p (g1.vw.none hp))⟩
  . exact q1.elim
abbrev zXq (te:DTE):DTE:=λ ρ G Q=>te ρ G λ x G1=>match x with
  | .ref l=>onL G1 l λ ds=>∀ p,G1 p=none->Q (.ref p) (up G1 p (.lst ds.reverse))
  | _=>False
def dRq:List D->Option (List Bool)
  | []=>some []
  | .bl i::r=>(dRq r).map (i::·)
  | _::_=>none
theorem g3q {K:PySem.W.Frag} {H:Hp}:∀ {ds:List D} {bs:List Bool} {vs:List V},dRq ds=some bs->AbsL K H ds vs->vs=bs.map V.bl
  | [],bs,vs,h,r=>by cases h;exact r
  | d::ds,bs,vs,h,⟨v,q,e,av,l⟩=>by
    cases d with
    | bl i=>
      simp only [dRq,Option.map_eq_some_iff] at h
      obtain ⟨ms,h1,rfl⟩:=h
      subst e
      cases av
      rw [g3q h1 l];rfl
    | _=>simp [dRq] at h
theorem d1q:∀ bs:List Bool,dRq (bs.map D.bl)=some bs
  | []=>rfl
  | b::bs=>by simp [dRq,d1q bs]
def allD:D->DV->DK->Prop:=λ x G Q=>match x with
  | .ref l=>onL G l λ ds=>∃ bs,dRq ds=some bs/\Q (.bl (bs.all id)) G
  | _=>False
theorem gCq (hc:X.calm=true):ACall X (.builtin "all") (rHq allD):=by
  refine ⟨_,⟨qBq hc⟩,λ xs vs G H DQ Q v a r F=>?_⟩
  obtain ⟨x,u,rfl,rfl,ax,r⟩:=c4q r a
  cases x with
  | ref l=>
    cases ax
    obtain ⟨ds,ws,⟨bs,e,k⟩,s,rl⟩:=bHq v r
    rw [g3q e rl] at s
    exact ⟨l,bs,rfl,s,F (.bl (bs.all id)) G _ H (.refl v) rfl k⟩
  | _=>exact (show False from r).elim
def tyN (x:D) (G:DV) (k:String->Prop):Prop:=match x with
  | .non=>k "NoneType"
  | .bl _=>k "bool"
  | .int _=>k "int"
  | .str _=>k "str"
  | .tup _=>k "tuple"
  | .ref l=>onL G l λ _=>k "list"
  | _=>False
def isTy (t T:String):Option Bool:=
  if (t = "NoneType"\/t = "bool"\/t = "int"\/t = "str"\/t = "tuple"\/t = "list")/\(T = "bool"\/T = "int"\/T = "str"\/T = "tuple"\/T = "list") then some (decide (t=T)||(decide (t = "bool")&&decide (T = "int"))) else none
theorem c5q {K:PySem.W.Frag} {t T:String} {b:Bool} (h:isTy t T=some b):PySem.W.kitOne K (.type t) (.type T)=some b:=by
  unfold isTy at h
  split at h
  . next c=>
    obtain ⟨c1,c2⟩:=c
    rcases c1 with rfl | rfl | rfl | rfl | rfl | rfl<;>rcases c2 with rfl | rfl | rfl | rfl | rfl<;>(simp at h;subst h;first | rfl | exact kit_other rfl (by decide))
  . cases h
def rIsI (K:PySem.W.Frag):List V->Hp->VK->Prop:=λ xs H Q=>∃ x T t b,xs=[x,.ty T]/\((TyOf K H x (.type t))\/(t = "tuple"/\∃ a vs,x=.ref a/\SqT K H a vs)\/(t = "list"/\∃ a vs,x=.ref a/\SqL K H a vs))/\PySem.W.kitOne K (.type t) (.type T)=some b/\Q (.bl b) H
theorem oDq:CallR X (.builtin "isinstance") (rIsI X.K):=by
  intro pins s σ H xs us Q I r h
  obtain ⟨x,T,t,b,rfl,ty,hk,hQ⟩:=h
  obtain ⟨u,v,rfl,ru,rv⟩:=Vals.two r
  cases rv
  rcases ty with ty | ⟨rfl,a,vs,rfl,sq⟩ | ⟨rfl,a,vs,rfl,sq⟩
  . exact p5q I ru ty hk λ tk=>⟨.bl b,H,I.tok tk,rfl,hQ⟩
  . cases ru
    obtain ⟨its,_,⟨o,h1,h2,_⟩,_⟩:=I.tuple sq
    exact PySem.W.kia_one PySem.W.kitx_tuple I.kIn ⟨o,h1,h2⟩ hk (λ z=>nomatch z) λ tk=>⟨.bl b,H,I.tok tk,rfl,hQ⟩
  . cases ru
    obtain ⟨its,_,⟨o,n,h1,h2,_⟩,_⟩:=I.list sq
    exact PySem.W.kia_one PySem.W.kitx_list I.kIn ⟨o,h1,h2⟩ hk (λ z=>nomatch z) λ tk=>⟨.bl b,H,I.tok tk,rfl,hQ⟩
def isID:D->D->DV->DK->Prop:=λ x y G Q=>match y with
  | .ty T=>tyN x G λ t=>∃ b,isTy t T=some b/\Q (.bl b) G
  | _=>False
theorem bLq:ACall X (.builtin "isinstance") (y8q isID):=by
  refine ⟨_,⟨oDq⟩,λ xs vs G H DQ Q v a r F=>?_⟩
  obtain ⟨x,y,u,w,rfl,rfl,ax,ay,r⟩:=fEq r a
  cases y with
  | ty T=>
    cases ay
    cases x with
    | non=>cases ax;obtain ⟨b,hb,q⟩:=r;exact ⟨_,T,_,b,rfl,.inl .non,c5q hb,F (.bl b) G _ H (.refl v) rfl q⟩
    | bl z=>cases ax;obtain ⟨b,hb,q⟩:=r;exact ⟨_,T,_,b,rfl,.inl (.bl z),c5q hb,F (.bl b) G _ H (.refl v) rfl q⟩
    | int z=>cases ax;obtain ⟨b,hb,q⟩:=r;exact ⟨_,T,_,b,rfl,.inl (.int z),c5q hb,F (.bl b) G _ H (.refl v) rfl q⟩
    | str z=>cases ax;obtain ⟨b,hb,q⟩:=r;exact ⟨_,T,_,b,rfl,.inl (.str z),c5q hb,F (.bl b) G _ H (.refl v) rfl q⟩
    | tup ds=>obtain ⟨l,ws,rfl,s,_⟩:=ax;obtain ⟨b,hb,q⟩:=r;exact ⟨_,T,"tuple", b,rfl,.inr (.inl ⟨rfl,l,ws,rfl,s⟩),c5q hb,F (.bl b) G _ H (.refl v) rfl q⟩
    | ref l=>
      cases ax
      obtain ⟨ds,ws,⟨b,hb,q⟩,s,_⟩:=bHq v r
      exact ⟨_,T,"list", b,rfl,.inr (.inr ⟨rfl,l,ws,rfl,s⟩),c5q hb,F (.bl b) G _ H (.refl v) rfl q⟩
    | ty z=>exact (show False from r).elim
    | frl z=>exact (show False from r).elim
  | _=>exact (show False from r).elim
end
end L3
namespace L3
open PySem PyProof L2
open PySem.MeetsSeq
theorem eAq {K:PySem.W.Frag} {H:Hp}:∀ ws:List Str,AbsL K H (ws.map D.str) (ws.map V.str)
  | []=>rfl
  | w::ws=>⟨_,_,rfl,rfl,eAq ws⟩
section
variable {X:Cx}
variable {e:Expr} {t:DTA} {pos apos cpos:Pos}
end
inductive Tm where
  | name (k:Nat) | whole (n:Int) | way (t:Tm) | give (t u:Tm) | pair (t u:Tm) | first (t:Tm) | second (t:Tm) | plus (t u:Tm) | look (t u v:Tm)
abbrev fed (x y:Int):DO:=.lst [.int x,.int y]
def Fd (G:DV) (a:Addr):Prop:=∃ x y,G a=some (fed x y)
theorem Fd.up {G:DV} {a:Addr} {x y:Int}:Fd (up G a (fed x y)) a:=⟨x,y,a5q⟩
theorem Fd.new {G:DV} {a l:Addr} {o:DO} (h:Fd G a) (n:G l=none):Fd (L3.up G l o) a:=by
  obtain ⟨x,y,e⟩:=h
  exact ⟨x,y,by rw [aQq (by rintro rfl;rw [n] at e;cases e)];exact e⟩
theorem Fd.ne {G:DV} {a l:Addr} (h:Fd G a) (n:G l=none):l≠a:=by
  obtain ⟨x,y,e⟩:=h
  rintro rfl
  rw [n] at e;cases e
theorem dLq {G:DV} {a l:Addr} {f o:DO} (n:up G a f l=none):up (up G a f) l o=up (up G l o) a f/\G l=none/\l≠a:=by
  have ne:l≠a:=by rintro rfl;rw [a5q] at n;cases n
  exact ⟨lJq (Ne.symm ne),by rw [aQq ne] at n;exact n,ne⟩
theorem Sub.new {G G1:DV} {p:Addr} {o:DO} (h:Sub G G1) (n:G p=Option.none):Sub G (up G1 p o):=λ b u e=>by
  rw [aQq (by rintro rfl;rw [n] at e;cases e)];exact h b u e
theorem Sub.put {G G1:DV} {a:Addr} {o:DO} (h:Sub G G1):Sub (up G a o) (up G1 a o):=λ b u e=>by
  by_cases c:b=a
  . subst c;rw [a5q] at e ⊢;exact e
  . rw [aQq c] at e ⊢;exact h b u e
def Fx (a:Addr) (G G':DV):Prop:=∃ x y,G'=up G a (fed x y)
theorem Fx.mk {a:Addr} {G:DV} {x y:Int}:Fx a G (up G a (fed x y)):=⟨x,y,rfl⟩
theorem Fx.trans {a:Addr} {G G1 G2:DV} (h:Fx a G G1) (k:Fx a G1 G2):Fx a G G2:=by
  obtain ⟨x,y,rfl⟩:=h
  obtain ⟨z,u,rfl⟩:=k
  exact ⟨z,u,cTq⟩
theorem Fx.fd {a:Addr} {G G':DV} (h:Fx a G G'):Fd G' a:=by obtain ⟨x,y,rfl⟩:=h;exact .up
theorem Fx.refl {a:Addr} {G:DV} (h:Fd G a):Fx a G G:=by obtain ⟨x,y,e⟩:=h;exact ⟨x,y,(xQq e).symm⟩
theorem Fx.other {a l:Addr} {G G':DV} (h:Fx a G G') (n:l≠a):G' l=G l:=by obtain ⟨x,y,rfl⟩:=h;exact aQq n
theorem Fx.none {a l:Addr} {G G':DV} (h:Fx a G G') (n:G' l=Option.none):G l=Option.none:=by
  obtain ⟨x,y,rfl⟩:=h
  exact (dLq (o:=fed 0 0) n).2.1
theorem Fx.drop {a l:Addr} {G G':DV} {o:DO} (n:G l=Option.none) (h:Fx a (up G l o) G') (F:Fd G a):∃ G2,Sub G2 G'/\Fx a G G2:=by
  obtain ⟨x,y,rfl⟩:=h
  exact ⟨up G a (fed x y),Sub.put (Sub.new (Sub.refl _) n),x,y,rfl⟩
def eCq:DSp:=λ ds G Q=>match ds with
  | [.ref a,.int m]=>Fd G a/\0 < m/\m < 2 ^ 62/\∀ d G',Fx a G G'->0<=d->d < m->Q (.int d) G'
  | _=>False
def jDq:DSp:=λ ds G Q=>match ds with
  | [.frl ss,.int k]=>∃ ns:List Int,ss=ns.map D.int/\ns.length<=63/\0<=k/\k < 2 ^ 32/\∀ r x y,G r=none->Q (.ref r) (up G r (fed x y))
  | _=>False
def uHq:DSp:=λ ds _ Q=>∃ ns:List Int,ds=[.frl (ns.map D.int)]/\ns.length<=63/\∀ G',Q (.bl true) G'
abbrev m6q (K:PySem.W.Frag):Sp:=aRq K uHq
theorem aG2q {K:PySem.W.Frag} {H:Hp} {a:Addr} {ns:List Int} (hl:ns.length<=63) (o:Only H) (h:SqL K H a (ns.map V.int)):m6q K [.ref a] H (λ v _=>v=.bl true) λ _ _ _=>False:=by
  have f:FrL K H a (ns.map V.int):=by
    rcases h with (h | h) | h
    . rcases o a with z | ⟨_,_,z⟩<;>(rw [h] at z;cases z)
    . exact .inl h
    . exact .inr h
  refine ⟨[.frl (ns.map D.int)],λ _=>none,λ d _=>d=.bl true,⟨.ref a,[],rfl,⟨a,_,rfl,f,AbsL.of_ints ns⟩,rfl⟩,(λ _ _ e=>by cases e),⟨ns,rfl,hl,λ _=>rfl⟩,λ d G' v H' g ad e=>?_⟩
  subst e
  exact ad
theorem uDq {P:Program} {w:World} {K:PySem.W.Frag} {mg:Str->Option Value} {base:Heap} {f:Addr} {fd:FuncData} {ps:List Str} {k:Nat} {dsp:DSp} (no:∀ ds G DQ,¬ dsp ds G DQ):FnOk P w K mg base CX0 k f fd ps (aRq K dsp):=
  ⟨λ vs H Q E ⟨ds,G,DQ,_,_,h,_⟩=>absurd h (no ds G DQ),λ A outer s H args us vs Q E _ _ _ _ ⟨ds,G,DQ,_,_,h,_⟩=>absurd h (no ds G DQ)⟩
theorem at2 {x y:D} {G:DV} {Q:DK} {i:Int} (h0:0<=i) (h1:i < 2) (hx:i=0->Q x G) (hy:i=1->Q y G):atS [x,y] i G Q:=by
  refine qMq ?_
  rcases (by omega:i=0\/i=1) with rfl | rfl
  . exact hx rfl
  . exact hy rfl
def q4q {α:Type} (enc:α->D) (inn:α->List α):DSp:=λ ds G Q=>∃ x,ds=[enc x]/\Q (.tup ((inn x).map enc)) G
section
variable {α:Type} {all:α->List (List Int × α)} {inn:α->List α}
theorem fBq {n:Nat} (h:n<=200000):n<=sizeLine:=by rw [sizeLine_eq];omega
theorem aZq {n:Nat} (h:n<=200000):n < sizeLine:=by rw [sizeLine_eq];omega
theorem up3 {G:DV} {p q:Addr} {x y z:DO} (h:p≠q):up (up (up G q x) p y) q z=up (up G q z) p y:=by
  rw [lJq h,cTq]
end
theorem eKq:∀ {ds:List D} {d:D},d∈ds->d.dp<=bMq ds
  | d::ds,e,m=>by
    rcases Yd.mp m with rfl | m
    . simp only [bMq];omega
    . have:=eKq m
      simp only [bMq];omega
end L3
namespace L3
open PySem PyProof L2
section
variable {X:Cx}
variable {i:Nat} {T c:Addr} {name:Str} {params:Arguments} {body:List Stmt} {scope:Scope} {pos:Pos} {fr:List Str}
end
end L3
namespace L2
open PySem PySem.Spec PyProof.Rows
end L2
namespace L3
open PySem PyProof L2
section
variable {X:Cx} {k j:Nat} {name qual:Str} {st:Stmt} {fr:List Str} {vals:List D} {ps:List Str} {x:Str} {dsp:DSp} {p pos:Pos} {e:Expr} {es:List Expr} {t:DTA}
end
end L3
namespace L3
open PySem PyProof L2
section
variable {K:PySem.W.Frag} {H H':Hp}
end
section
variable {X:Cx} {e:Expr} {es:List Expr} {t:DTA} {p pos:Pos}
end
def FnAt (K:PySem.W.Frag) (x q:Str) (st:Stmt) (f:Addr) (cd:Value):Prop:=∃ (oc:Value) (od:Option Addr) (kV doc pm:Value) (an:Option Addr) (ct:Value) (osl:Array (Option Value)),
  K.lookup f=some ⟨oc,od,.func (PySem.W.fnOf x q (cUq st) (c2q st) (aDq st) .none kV doc pm an cd ct),osl⟩/\PySem.W.codeIn K cd q=true/\PySem.W.keepIn K (.ref f)=true
def DT (K:PySem.W.Frag) (x:Str) (st:Stmt):Prop:=∃ (f:Addr) (cd:Value),PySem.W.nsIn K mainGlobals x=some (some (.ref f))/\FnAt K x x st f cd
section
variable {K:PySem.W.Frag} {x m q:Str} {st:Stmt} {C c:Addr}
theorem DT.mk {f:Addr} {cd oc kV doc pm ct:Value} {od an:Option Addr} {osl:Array (Option Value)} (a:PySem.W.nsIn K mainGlobals x=some (some (.ref f))) (l:K.lookup f=some ⟨oc,od,.func (PySem.W.fnOf x x (cUq st) (c2q st) (aDq st) .none kV doc pm an cd ct),osl⟩) (k:PySem.W.codeIn K cd x=true) (p:PySem.W.keepIn K (.ref f)=true):DT K x st:=⟨f,cd,a,_,_,_,_,_,_,_,_,l,k,p⟩
theorem DT.ok (h:DT K x st):∃ (f:Addr) (fd:FuncData),PySem.W.nsIn K mainGlobals x=some (some (.ref f))/\Fun K x x st f fd:=
  let ⟨f,_,a,_,_,_,_,_,_,_,_,l,k,p⟩:=h;⟨f,_,a,aA6q l k p⟩
end
end L3
namespace L3
open PySem PyProof L2
section
variable {K:PySem.W.Frag} {H:Hp}
def putD (f:Str) (v:D):List (Str × D)->List (Str × D)
  | []=>[(f,v)]
  | (g,x)::r=>if g=f then (g,v)::r else (g,x)::putD f v r
end
@[irreducible] def onI (G:DV) (a C:Addr) (k:List (Str × D)->Prop):Prop:=match G a with
  | some (.ins C' fs)=>C'=C/\k fs
  | _=>False
def fldD (fs:List (Str × D)) (f:Str) (k:D->Prop):Prop:=match fs.lookup f with
  | some d=>k d
  | none=>False
section
variable {K:PySem.W.Frag} {G:DV} {H:Hp}
end
section
variable {X:Cx} {o e value:Expr} {es:List Expr} {f m:Str} {C:Addr} {pos pos' tpos apos p:Pos} {ta tv:DTE} {t:DTA}
end
end L3
namespace L2
open PySem PySem.Spec PyProof.Rows
section
variable {X:Cx} {e:Expr} {ta:TA} {p p2 pos pos2:Pos}
end
end L2
namespace L3
open PySem PyProof L2
section
variable {X:Cx} {e:Expr} {t:DTA} {p p2 pos pos2:Pos}
end
end L3
namespace L2
open PySem PySem.Spec PyProof.Rows
end L2
namespace L3
open PySem PyProof L2
end L3
namespace KSs
open PySem PyProof.Rows
end KSs
namespace KSs
open PySem PyProof.Rows
section
variable {prog:Program} {w:World} {A:Around} {E:Value->Shared->Prop} {s:Shared} {a:Addr} {es:Array (Int × Value)} {ep:Nat} {t:SetTable}
end
end KSs
namespace KSs
open PySem PyProof.Rows
section
variable {prog:Program} {w:World} {A:Around} {E:Value->Shared->Prop} {s:Shared}
end
end KSs
namespace KSs
open PySem PyProof.Rows
end KSs
namespace KSs
open PySem PyProof.Rows
section
variable {prog:Program} {w:World} {A:Around} {E:Value->Shared->Prop} {s:Shared} {a I T:Addr} {es:Array (Int × Value)} {ep:Nat} {t:SetTable}
end
end KSs
namespace KSs
open PySem PyProof.Rows
section
variable {prog:Program} {w:World} {A:Around} {E:Value->Shared->Prop} {s:Shared} {a I T:Addr} {es:Array (Int × Value)} {ep:Nat} {t:SetTable}
end
end KSs
namespace KSs
open PySem PyProof.Rows
section
variable {prog:Program} {w:World} {A:Around} {E:Value->Shared->Prop} {s:Shared} {a I T:Addr} {es:Array (Int × Value)} {ep:Nat} {t:SetTable}
end
end KSs
namespace KSs
open PySem PyProof.Rows
section
variable {prog:Program} {w:World} {A:Around} {E:Value->Shared->Prop} {s:Shared} {a:Addr} {es:Array (Int × Value)} {ep:Nat} {t:SetTable}
end
end KSs
namespace KSs
open PySem PyProof.Rows
section
variable {prog:Program} {w:World} {A:Around} {E:Value->Shared->Prop} {s:Shared} {a:Addr} {es:Array (Int × Value)} {ep:Nat} {t:SetTable}
end
end KSs
namespace L2
open PySem PySem.Spec PyProof.Rows
section
variable {X:Cx} {e:Expr} {te:TE} {p p2 pos pos2:Pos}
end
end L2
namespace L3
open PySem PyProof L2
section
variable {X:Cx} {e:Expr} {te:DTE} {p p2 pos pos2:Pos}
end
end L3
namespace L2
open PySem PySem.Spec PyProof.Rows
section
variable {X:Cx}
end
end L2
namespace L3
open PySem PyProof L2
section
variable {X:Cx}
end
end L3
namespace KSs
open PySem PyProof.Rows
section
variable {prog:Program} {w:World} {A:Around} {E:Value->Shared->Prop} {s:Shared} {a:Addr} {es:Array (Int × Value)} {ep:Nat} {t:SetTable}
end
end KSs
namespace KSs
open PySem PyProof.Rows
end KSs
namespace KSs
open PySem PyProof.Rows
section
variable {prog:Program} {w:World} {A:Around} {E:Value->Shared->Prop} {s:Shared} {a:Addr} {es:Array (Int × Value)} {ep:Nat} {t:SetTable}
end
end KSs
namespace KSs
open PySem PyProof.Rows
section
variable {prog:Program} {w:World} {A:Around} {E:Value->Shared->Prop} {s:Shared} {a o:Addr} {es eo:Array (Int × Value)} {ep po:Nat} {t to:SetTable}
end
end KSs
namespace KSs
open PySem PyProof.Rows
section
variable {prog:Program} {w:World} {A:Around} {E:Value->Shared->Prop} {s:Shared} {a o:Addr} {es eo:Array (Int × Value)} {ep po:Nat} {t to:SetTable}
end
end KSs
namespace L2
open PySem PySem.Spec PyProof.Rows
section
variable {X:Cx} {e e2:Expr} {te te2:TE} {p p2 p3 pos pos2 pos3 bpos:Pos}
end
end L2
namespace L3
open PySem PyProof L2
section
variable {X:Cx} {e e2:Expr} {te te2:DTE} {p p2 p3 pos pos2 pos3 bpos:Pos}
end
end L3
namespace L3
open PySem PyProof L2
section
variable {K:PySem.W.Frag} {H:Hp} {G:DV}
end
section
variable {X:Cx} {o i e value:Expr} {pos pos' tpos:Pos} {td ti tv:DTE}
end
end L3
namespace L2
open PySem PySem.Spec PyProof.Rows
section
variable {X:Cx}
theorem rVq {x:Str} {ad:Addr} {tab:Str->Option V} {e f:Expr} {ty tx:TE} {p apos cpos:Pos} (hg:Gl X x) (hm:X.mg x=some (.ref ad)) (T:KTab X.K X.w ad tab) (he:PE X e ty) (hf:PE X f tx) (m:M2 X (.Name x p) "get" apos e f cpos) (hd:(x==("__debug__" : Str))=false:=by decide) :
    PE X (.Call (.Attribute (.Name x p) "get" apos) [e,f] [] cpos) (λ σ H Q=>ty σ H λ y H1=>tx σ H1 λ d H2=>∃ z,y=.str z/\Q ((tab z).getD d) H2):=by
  intro pins s σ H Q I h
  obtain ⟨⟨es,n,hl,hk,ht⟩,lo⟩:=T
  refine wpAny_Call_method m.base m.few m.line PySem.F.plainAttrs_dict PySem.F.slot_dict_get PySem.F.type_dict_get (thn (lLq (v:=.ref ad) hg hm rfl hd pins s σ H (λ v H1=>v=.ref ad/\H1=H) I ⟨rfl,rfl⟩) λ u s1 ⟨x1,H1,I1,rx,ex,eH⟩=>?_)
  subst ex eH
  obtain rfl:u=Value.ref ad:=rx
  have mp:∀ {s':Shared},X.K.In s'.heap->s'.heap.MapOf (strKind X.prog X.w) ad (λ k=>findBy Value.isStrOf es k):=λ k=>PySem.W.mapOf_K k hl hk
  refine ⟨(mp I1.kIn).typeIs,(mp I1.kIn).noDict,?_⟩
  rw [m.trees]
  refine Calls.callWith_builtin rfl (Calls.evalArgs_plain (Calls.spliced_cons (thn (he pins s1 σ H1 _ I1 h) λ iv s2 ⟨y,H2,I2,ry,q2⟩=>Calls.spliced_cons (thn (hf pins s2 σ H2 _ I2 q2) λ fv s3 ⟨d,H3,I3,rd,z,ey,q3⟩=>Calls.spliced_nil ?_))))
  subst ey
  obtain ⟨t,rfl⟩:=ry
  refine call_meetsIn PySem.F.slot_dict_get (mp I3.kIn).typeIs PySem.F.entry_dict_get (PySem.F.args_dict_get_3 _ _ _) (meets_dict_get_default (strKind X.prog X.w) ad (strKind_is X.prog X.w z t) lo fv) ⟨_,mp I3.kIn,(tab z).getD d,H3,I3.tok _,?_,q3⟩
  exact (ht z).getD rd
def Itv (K:PySem.W.Frag) (a:Addr) (n:Nat):It:=
  ⟨λ i H=>i < n/\∃ xs,SqL K H a xs/\xs.length=n,λ i H x H'=>H'=H/\∀ xs,SqL K H a xs->xs[n - 1 - i]?=some x,λ i _=>n<=i⟩
theorem tKq {P:Program} {w:World} {K:PySem.W.Frag} {tg:Expr} (a it:Addr) (n:Nat):Turn P w K tg (Itv K a n) [it] it (λ i h=>i<=n/\h.IsRevIter it a ((n:Int) - 1 - (i:Int))) where
  mem:=by simp
  obj:=λ i h st b hb=>by
    have e:b=it:=by simpa using hb
    subst e
    obtain ⟨_,o,e,c,d⟩:=st
    exact ⟨o,e,λ v z=>by rw [d] at z;cases z⟩
  keep:=λ i h h' st k=>⟨st.1,st.2.at λ o e=>k it (by simp) o e⟩
  item:=by
    intro X hP hw hK hc i pins s σ H E I hf st hg
    subst hP hw hK
    obtain ⟨hi,xs,hq,hx⟩:=hg
    obtain ⟨_,st⟩:=st
    obtain ⟨its,rv,p,hz⟩:=I.list hq
    have hlt:n - 1 - i < xs.length:=by omega
    have hx':xs[n - 1 - i]?=some xs[n - 1 - i]:=Yi hlt
    obtain ⟨u,hu,ru⟩:=rv.get hx'
    obtain ⟨f0,f1,f2,f3,f4,f5⟩:=hf it (by simp)
    rw [show (n:Int) - 1 - (i:Int)=((n - 1 - i:Nat):Int) by omega] at st
    refine wpAny_pyNext_rev_item st p.isList (x:=u) (by simpa using hu) λ h' st' sb=>?_
    have I1:Inv X pins σ H { s with heap:=h' }:=I.turned (t':=s.toks) (λ b o hb e=>(sb.2 b hb).trans e) f0 f1 f3 f4 f5
    obtain ⟨o,e,c,d⟩:=id st'
    exact ⟨u,rfl,nOq (s:={ s with heap:=h' }) e c d (by decide) ⟨_,H,I1,ru,⟨rfl,λ ys hy=>by rw [I.list_inj hy hq];exact hx'⟩,⟨hi,by rw [show (n:Int) - 1 - ((i+1:Nat):Int)=((n - 1 - i:Nat):Int) - 1 by omega];exact st'⟩,λ b hb=>(hf b hb).1⟩⟩
  done:=by
    intro X hP hw hK hc i pins s σ H E I hf st hg
    subst hP hw hK
    have hg':n<=i:=hg
    obtain ⟨hi,st⟩:=st
    obtain ⟨f0,f1,f2,f3,f4,f5⟩:=hf it (by simp)
    rw [show (n:Int) - 1 - (i:Int)=-1 by omega] at st
    exact wpAny_pyNext_rev_end (I.ok.hd hc) st λ h' eb=>⟨rfl,I.turned (t':=s.toks) (λ b o hb e=>eb b o hb e) f0 f1 f3 f4 f5⟩
  self:=λ _ _ _ _ _ st h=>wpAny_pyIter_revIter st.2 h
def iRev (K:PySem.W.Frag) (tl:TE):TI:=λ σ H R=>tl σ H λ x H1=>∃ a xs,x=.ref a/\SqL K H1 a xs/\R (Itv K a xs.length) H1
theorem aK7q {tg e:Expr} {tl:TE} {p pos:Pos} (hg:Gl X "reversed") (hm:X.mg "reversed" = none) (hl:PE X e tl) (hs:bAq e=true):PI X tg (.Call (.Name "reversed" p) [e] [] pos) (iRev X.K tl):=by
  intro pins s σ H R I h
  refine thn (x9q (R:=λ a xs H1=>R (Itv X.K a xs.length) H1) hg hm hl hs I h) λ v s1 h1=>?_
  obtain ⟨a,it,xs,its,H1,rfl,I1,hit,ht,hne,rv,hz,_,fp,q⟩:=h1
  have hl':=rv.length
  refine wpAny_pyIter_revIter hit ⟨it,[it],_,_,H1,rfl,I1,tKq a it xs.length,?_,λ b hb=>?_,q⟩
  . rw [Ye,<- hl'] at hit
    exact ⟨Nat.zero_le _,by simpa using hit⟩
  . have e:b=it:=by simpa using hb
    subst e
    exact fp
end
end L2
namespace L3
open PySem PySem.Spec L2
structure KTabD (K:PySem.W.Frag) (w:World) (ad:Addr) (tab:Str->Option D):Prop where
  ex:∃ tv:Str->Option V,KTab K w ad tv/\(∀ z,tab z=none->tv z=none)/\∀ z d,tab z=some d->∃ v,tv z=some v/\∀ H,Abs K H d v
section
variable {X:Cx} {a b c e f o i tg iter value:Expr} {x:Str} {ad C:Addr} {tab:Str->Option D} {ta tv te tf to ti:DTE} {pos pos' tpos p apos cpos:Pos}
abbrev aH5q (tab:Str->Option D) (te tf:DTE):DTE:=λ ρ G Q=>te ρ G λ y G1=>tf ρ G1 λ d G2=>match y with
  | .str z=>Q ((tab z).getD d) G2
  | _=>False
theorem sDq (hg:Gl X x) (hm:X.mg x=some (.ref ad)) (T:KTabD X.K X.w ad tab) (he:AE X e te) (hf:AE X f tf) (m:M2 X (.Name x p) "get" apos e f cpos:=by exact ⟨rfl,rfl,rfl,rfl⟩) (hd:(x==("__debug__" : Str))=false:=by decide) :
    AE X (.Call (.Attribute (.Name x p) "get" apos) [e,f] [] cpos) (aH5q tab te tf):=by
  obtain ⟨tv,T,t1,t2⟩:=T
  obtain ⟨ce,je,re⟩:=he.run
  obtain ⟨cf,jf,rf⟩:=hf.run
  refine ⟨_,⟨rVq hg hm T je.run jf.run m hd⟩,λ ρ G DQ σ H Q B q F=>re ρ G _ σ H _ B q λ y G1 v H1 g1 ay q1=>rf ρ G1 _ σ H1 _ (B.go g1) q1 λ d G2 u H2 g2 ad q2=>?_⟩
  cases y with
  | str z=>
    cases ay
    refine ⟨z,rfl,?_⟩
    replace q2:DQ ((tab z).getD d) G2:=q2
    cases ez:tab z with
    | none=>rw [t1 z ez];rw [ez] at q2;exact F d G2 u H2 (g1.trans g2) ad q2
    | some d'=>
      obtain ⟨v',e1,e2⟩:=t2 z d' ez
      rw [e1];rw [ez] at q2
      exact F d' G2 v' H2 (g1.trans g2) (e2 _) q2
  | _=>exact (show False from q2).elim
abbrev aM4q (C:Addr) (f:Str) (ta te:DTE) (g:Int->Int->Int):DTS:=λ DD ρ G=>ta ρ G λ x G1=>match x with
  | .ref a=>onI G1 a C λ fs=>fldD fs f λ d=>te ρ G1 λ y G2=>match d,y with
    | .int i,.int j=>onI G2 a C λ fs'=>fs'.length < 1000/\DD.nx ρ (up G2 a (.ins C (putD f (.int (g i j)) fs')))
    | _,_=>False
  | _=>False
@[irreducible] def onRv (G:DV) (l:Addr) (k:DIt->Prop):Prop:=match G l with
  | some (.lst ds)=>k ⟨ds.reverse,λ G=>G l=some (.lst ds)⟩
  | _=>False
theorem y2q {G:DV} {l:Addr} {k:DIt->Prop} {ds:List D} (h:G l=some (.lst ds)) (q:k ⟨ds.reverse,λ G=>G l=some (.lst ds)⟩):onRv G l k:=by unfold onRv;rw [h];exact q
abbrev aN6q (ta:DTE):DTI:=λ ρ G R=>ta ρ G λ x G1=>match x with
  | .ref l=>onRv G1 l λ J=>R J G1
  | _=>False
theorem aL3q {tc:TE} (hg:Gl X "reversed") (hm:X.mg "reversed" = none) (hl:JE X a tc) (hs:bAq a=true):JI X tg (.Call (.Name "reversed" p) [a] [] pos) (iRev X.K tc):=⟨aK7q hg hm hl.run hs⟩
theorem aJ2q (hg:Gl X "reversed") (hm:X.mg "reversed" = none) (ha:AE X a ta) (hs:bAq a=true:=by rfl):AI X tg (.Call (.Name "reversed" p) [a] [] pos) (aN6q ta):=by
  obtain ⟨ca,ja,ra⟩:=ha.run
  refine ⟨_,aL3q hg hm ja hs,λ ρ G DR σ H R B q F=>ra ρ G _ σ H _ B q λ x G1 v H1 g1 ax q1=>?_⟩
  cases x with
  | ref l=>
    cases ax
    replace q1:onRv G1 l λ J=>DR J G1:=q1
    unfold onRv at q1
    split at q1
    . next ds hd=>
      obtain ⟨vs,z,r⟩:=g1.vw _ _ hd
      refine ⟨l,vs,rfl,.of z,F ⟨ds.reverse,λ G=>G l=some (.lst ds)⟩ _ G1 H1 g1 (λ G2 H2 g2 h2=>?_) q1⟩
      obtain ⟨us,z2,r2⟩:=g2.vw _ _ h2
      have n1:=r.len
      have n2:=r2.len
      refine ⟨λ i d hd'=>?_,λ i hi=>?_⟩
      . have hi:i < ds.length:=by
          rcases Nat.lt_or_ge i ds.length with c | c
          . exact c
          . rw [YX (by rw [Ym];exact c)] at hd';cases hd'
        rw [Zg hi] at hd'
        obtain ⟨w,hw,aw⟩:=r2.get hd'
        refine ⟨⟨by omega,us,.of z2,by omega⟩,λ x H' y=>?_⟩
        obtain ⟨rfl,y⟩:=y
        have z:=y us (.of z2)
        rw [show vs.length=ds.length by omega,hw] at z
        cases z
        exact ⟨.refl g2.vw,aw⟩
      . show vs.length<=i
        rw [Ym] at hi
        omega
    . exact q1.elim
  | _=>exact (show False from q1).elim
theorem c0q {st:Stmt}:AS X st (λ _ _ _=>False):=⟨λ _ _ _=>False,⟨λ _ _ _ _ _ _ h=>h.elim⟩,λ DD Dc ρ G σ H B q F=>q.elim⟩
end
end L3
namespace L2
open PySem PySem.Spec PyProof.Rows
end L2
namespace L3
open PySem PySem.Spec L2
end L3
namespace L2
open PySem PySem.Spec PyProof.Rows
section
variable {X:Cx} {e st:Expr} {te:TE} {tk:TO} {pos p2:Pos}
theorem dBq:∀ {xs:List V} {us:List Value},Vals xs us->Vals xs.reverse us.reverse
  | _,_,.nil=>.nil
  | _,_,.cons r t=>by
    rw [YH,YH]
    exact (dBq t).append (.cons r .nil)
end
end L2
namespace L3
open PySem PySem.Spec L2
section
variable {X:Cx} {e st:Expr} {te:DTE} {tk:DTO} {pos p2:Pos}
end
end L3
namespace L2
open PySem PySem.Spec PyProof.Rows
section
variable {X:Cx}
def repS (i:Str) (n:Nat):Str:=⟨(Yp n i.cps.toList).flatten.toArray⟩
def rSlS:V->Option Int->Option Int->Hp->VK->Prop:=λ x lo hi H Q=>∃ z:Str,x=.str z/\z.length<=sizeLine/\Q (.str (Txt.slice z lo hi)) H
theorem aA1q:SlR X rSlS:=by
  intro pins s σ H x v vl vu lo hi sl Q I rx hs pl pu h
  obtain ⟨z,rfl,hz,q⟩:=h
  obtain ⟨t,rfl⟩:=rx
  refine ⟨"str", _,F.slot_str_getitem.lookup,typeIs_str _ _ _,?_⟩
  have fin:∀ t' k,EP X pins σ Q (.str (Txt.slice z lo hi) t') { s with toks:=k }:=λ t' k=>⟨.str _,H,I.tok _,⟨_,rfl⟩,q⟩
  cases pl with
  | none=>cases pu with
    | none=>exact wpAny_getItem_str_slice (l:=none) (u:=none) (st:=none) hs rfl (post_val_or_str ⟨Nat.le_trans (Txt.slice_le z _ _) hz,fin⟩)
    | int j u=>exact wpAny_getItem_str_slice (l:=none) (u:=some (j,u)) (st:=none) hs rfl (post_val_or_str ⟨Nat.le_trans (Txt.slice_le z _ _) hz,fin⟩)
  | int i t0=>cases pu with
    | none=>exact wpAny_getItem_str_slice (l:=some (i,t0)) (u:=none) (st:=none) hs rfl (post_val_or_str ⟨Nat.le_trans (Txt.slice_le z _ _) hz,fin⟩)
    | int j u=>exact wpAny_getItem_str_slice (l:=some (i,t0)) (u:=some (j,u)) (st:=none) hs rfl (post_val_or_str ⟨Nat.le_trans (Txt.slice_le z _ _) hz,fin⟩)
end
end L2
namespace L3
open PySem PySem.Spec L2
section
variable {X:Cx}
def bB2q:DR2:=λ x y G Q=>match x,y with
  | .str z,.int n=>0<=n/\n<=1000/\z.length<=1000/\Q (.str (repS z n.toNat)) G
  | _,_=>False
def slSD:D->Option Int->Option Int->DV->DK->Prop:=λ x lo hi G Q=>match x with
  | .str z=>z.length<=sizeLine/\Q (.str (Txt.slice z lo hi)) G
  | _=>False
theorem aslS:ASl X slSD:=by
  refine ⟨_,⟨aA1q⟩,λ x vx lo hi G H DQ Q v ax r F=>?_⟩
  cases x with
  | str z=>cases ax;exact ⟨z,rfl,r.1,F (.str (Txt.slice z lo hi)) G _ H (.refl v) rfl r.2⟩
  | _=>exact (show False from r).elim
def xWq:D->DV->Prop:=λ x _=>match x with
  | .str _=>True
  | _=>False
theorem mBq {K:PySem.W.Frag} {x:D} {v:V} {G:DV} {H:Hp} (ax:Abs K H x v) (h:xWq x G):tyV K "str" v H:=by
  cases x with
  | str z=>cases ax;exact rfl
  | _=>exact (show False from h).elim
end
end L3
namespace L2
open PySem PySem.Spec PyProof.Rows
section
variable {X:Cx} {tg:Expr}
theorem iLq:MtR X "str.startswith" (λ x xs H Q=>∃ z y:Str,x=.str z/\xs=[.str y]/\Q (.bl (Txt.startswith z y)) H):=by
  intro pins s σ H x xs v us Q I rx rv h
  obtain ⟨z,y,rfl,rfl,q⟩:=h
  obtain ⟨t,rfl⟩:=rx
  obtain ⟨u,rfl,ru⟩:=rv.one
  obtain ⟨t',rfl⟩:=ru
  exact PySem.SC.startswith ⟨.bl _,H,I,rfl,q⟩
theorem jIq:∀ {ys:List Str} {us:List Value},Vals (ys.map V.str) us->StrsAre us ys
  | [],_,h=>by cases h;exact .nil
  | y::ys,_,h=>by
    cases h with
    | cons r rr=>
      obtain ⟨t,rfl⟩:=r
      exact .cons _ _ (jIq rr)
theorem x5q (K:PySem.W.Frag) (hK:K=X.K):MtR X "str.join" (λ x xs H Q=>∃ (z:Str) (l:Addr) (ys:List Str),x=.str z/\xs=[.ref l]/\SqL K H l (ys.map V.str)/\z.length<=16/\(ys.map (·.length)).sum+ys.length<=1048576/\Q (.str (Txt.join z ys)) H):=by
  subst hK
  intro pins s σ H x xs v us Q I rx rv h
  obtain ⟨z,l,ys,rfl,rfl,hl,hz,hw,q⟩:=h
  obtain ⟨t,rfl⟩:=rx
  obtain ⟨u,rfl,ru⟩:=rv.one
  cases ru
  obtain ⟨its,r,p,_⟩:=I.list hl
  exact PyProof.Rows.join_listW p.isList (by simpa using jIq r) hz hw λ t' k=>⟨.str _,H,I.tok _,⟨_,rfl⟩,q⟩
def Its (z:Str):It:=⟨λ i _=>i < z.length,λ i H x H'=>H'=H/\∃ c,z.cps[i]?=some c/\x=.str ⟨#[c]⟩,λ i _=>z.length<=i⟩
theorem s9q {P:Program} {w:World} {K:PySem.W.Frag} {tg:Expr} (it:Addr) (z:Str) (t:Tok) (ty:String) (hty:ty = "str_ascii_iterator"\/ty = "str_iterator"):Turn P w K tg (Its z) [it] it (λ i h=>i<=z.length/\h.IsStrIter it ty z t i) where
  mem:=by simp
  obj:=λ i h st b hb=>by
    have e:b=it:=by simpa using hb
    subst e
    obtain ⟨_,o,e,c,d⟩:=st
    exact ⟨o,e,λ v z=>by rw [d] at z;cases z⟩
  keep:=λ i h h' st k=>⟨st.1,let ⟨o,ho,r⟩:=st.2;⟨o,k it (by simp) o ho,r⟩⟩
  item:=by
    intro X hP hw hK hc i pins s σ H E I hf st hg
    subst hP hw hK
    obtain ⟨f0,f1,f2,f3,f4,f5⟩:=hf it (by simp)
    have W:Walks X.prog X.w X.A it [it] [it] z.cps.size (SignAt z) (λ i h=>h.IsStrIter it ty z t i):=by
      rcases hty with rfl | rfl
      . exact Walks.strAscii (I.ok.hd hc) it z t
      . exact Walks.strWide (I.ok.hd hc) it z t
    refine W.item i s _ _ hg st.2 λ v h' tk hv st' kk=>?_
    obtain ⟨c,u,hc',rfl⟩:=hv
    have I1:Inv X pins σ H { s with heap:=h',toks:=tk }:=I.turned (λ b o hb e=>kk b o (by simpa using hb) e) f0 f1 f3 f4 f5
    obtain ⟨o,e,c1,d⟩:=id st'
    refine ⟨_,rfl,nOq (s:={ s with heap:=h',toks:=tk }) e c1 d (by rcases hty with rfl | rfl<;>decide) ⟨.str ⟨#[c]⟩,H,I1,⟨u,rfl⟩,⟨rfl,c,hc',rfl⟩,⟨hg,st'⟩,λ b hb=>(hf b hb).1⟩⟩
  done:=by
    intro X hP hw hK hc i pins s σ H E I hf st hg
    subst hP hw hK
    obtain ⟨f0,f1,f2,f3,f4,f5⟩:=hf it (by simp)
    have W:Walks X.prog X.w X.A it [it] [it] z.cps.size (SignAt z) (λ i h=>h.IsStrIter it ty z t i):=by
      rcases hty with rfl | rfl
      . exact Walks.strAscii (I.ok.hd hc) it z t
      . exact Walks.strWide (I.ok.hd hc) it z t
    have hi:i=z.cps.size:=Nat.le_antisymm st.1 hg
    subst hi
    exact W.done s _ _ st.2 λ h' tk kk=>⟨rfl,I.turned (λ b o hb e=>kk b o (by simpa using hb) e) f0 f1 f3 f4 f5⟩
  self:=λ _ _ _ _ _ st h=>by
    rcases hty with rfl | rfl
    . exact wpAny_pyIter_striter_ascii st.2 h
    . exact wpAny_pyIter_striter_wide st.2 h
theorem aJ9q {l:Expr} {tl:TE} (hl:PE X l tl):PI X tg l (λ σ H R=>tl σ H λ x H1=>∃ z,x=.str z/\R (Its z) H1):=by
  intro pins s σ H R I h
  refine thn (hl pins s σ H _ I h) λ v s1 ⟨x,H1,I1,r1,q1⟩=>?_
  obtain ⟨z,rfl,q⟩:=q1
  obtain ⟨t,rfl⟩:=r1
  have fin:∀ ty:String,(ty = "str_ascii_iterator"\/ty = "str_iterator")->PIE X pins σ tg R (.ref s1.heap.objs.size) { s1 with heap:=s1.heap.push { cls:=.type ty,data:=.fields #[.str z t,.int 0 0] } }:=λ ty hty=>by
    refine ⟨s1.heap.objs.size,[s1.heap.objs.size],_,_,H1,rfl,I1.kept (t':=s1.toks) λ b o e=>Heap.get?_push_of_some _ e,s9q _ z t ty hty,⟨Nat.zero_le _,_,Heap.get?_push_size _ rfl,rfl,rfl⟩,λ b hb=>?_,q⟩
    have e:b=s1.heap.objs.size:=by simpa using hb
    subst e
    exact I1.fpOk (Nat.le_refl _) (I1.hok.fresh (Nat.le_refl _))
  cases ha:z.cps.all (· < 128)
  . exact wpAny_pyIter_wide ha (fin _ (.inr rfl))
  . exact wpAny_pyIter_ascii ha (fin _ (.inl rfl))
end
section
variable {X:Cx} {tg:Expr}
end
section
variable {X:Cx}
end
end L2
namespace L3
open PySem PySem.Spec L2
section
variable {X:Cx} {tg a b c:Expr} {ta tb tc:DTE} {pos p:Pos}
abbrev aX3q (ad:Addr) (tab:Str->Option D):DR2:=λ x y G Q=>match x with
  | .str z=>y=.ref ad/\Q (.bl (!(tab z).isSome)) G
  | _=>False
def hOq (z:Str):List D:=z.cps.toList.map λ c=>.str ⟨#[c]⟩
abbrev aV1q (ta:DTE):DTI:=λ ρ G R=>ta ρ G λ x G1=>match x with
  | .str z=>R ⟨hOq z,λ _=>True⟩ G1
  | _=>False
theorem aA4q {K:PySem.W.Frag} {z:Str} {G1:DV} {H1:Hp} (v:Vw K G1 H1) :
    (∀ (i:Nat) (d:D),(hOq z)[i]?=some d->(Its z).go i H1/\∀ x H',(Its z).yld i H1 x H'->Go K G1 H1 G1 H'/\Abs K H' d x)/\∀ i,(hOq z).length<=i->(Its z).stop i H1:=by
  refine ⟨λ i d hd=>?_,λ i hi=>?_⟩
  . unfold hOq at hd
    rw [Yw] at hd
    cases hc:z.cps.toList[i]? with
    | none=>rw [hc] at hd;cases hd
    | some c=>
      rw [hc] at hd;cases hd
      have hi:=(Yu.mp hc).1
      refine ⟨hi,λ x H' y=>?_⟩
      obtain ⟨rfl,c',e,rfl⟩:=y
      have e':z.cps.toList[i]?=some c':=by simpa using e
      rw [hc] at e';cases e'
      exact ⟨.refl v,rfl⟩
  . unfold hOq at hi
    rw [Yf] at hi
    exact hi
theorem yJq (ha:AE X a ta):AI X tg a (aV1q ta):=by
  obtain ⟨ca,ja,ra⟩:=ha.run
  refine ⟨_,⟨aJ9q ja.run⟩,λ ρ G DR σ H R B q F=>ra ρ G _ σ H _ B q λ x G1 v H1 g1 ax q1=>?_⟩
  cases x with
  | str z=>cases ax;exact ⟨z,rfl,F ⟨hOq z,λ _=>True⟩ _ G1 H1 g1 (λ G2 H2 g2 _=>aA4q g2.vw) q1⟩
  | _=>exact (show False from q1).elim
abbrev zJq (r r':DR2) (ta tb tc:DTE):DTE:=λ ρ G Q=>ta ρ G λ x G1=>tb ρ G1 λ y G2=>r x y G2 λ z G3=>blD z λ k=>Br k (tc ρ G3 λ w G4=>r' y w G4 Q) (Q (.bl false) G3)
theorem t3q {op op':CmpOp} {r r':DR2} (ho:AOp X (compareOp op) r) (ho':AOp X (compareOp op') r') (ha:AE X a ta) (hb:AE X b tb) (hc:AE X c tc) (hm:lastMarks [op,op'] [b,c]=false:=by with_unfolding_all rfl):AT X (.Compare a [op,op'] [b,c] pos) (aH8q (zJq r r' ta tb tc)):=by
  obtain ⟨ca,ja,ra⟩:=ha.run
  obtain ⟨cb,jb,rb⟩:=hb.run
  obtain ⟨cc,jc,rc⟩:=hc.run
  obtain ⟨co,jo,uo⟩:=ho.run
  obtain ⟨co',jo',uo'⟩:=ho'.run
  refine ⟨_,⟨s5q jo.run jo'.run ja.run jb.run jc.run hm⟩,λ ρ G DQ σ H Q B q F=>ra ρ G _ σ H _ B q λ x G1 v H1 g1 ax q1=>rb ρ G1 _ σ H1 _ (B.go g1) q1 λ y G2 u H2 g2 ay q2=>uo x y v u G2 H2 _ _ g2.vw (ax.mono g2.tup) ay q2 λ z G3 vz H3 g3 az q3=>?_⟩
  cases z with
  | bl k=>
    cases az
    refine ⟨k,rfl,?_⟩
    cases k with
    | true=>
      rw [if_pos rfl]
      refine rc ρ G3 _ σ H3 _ (((B.go g1).go g2).go g3) (q3.1 rfl) λ w G4 vw H4 g4 aw q4=>uo' y w u vw G4 H4 _ _ g4.vw ((ay.mono g3.tup).mono g4.tup) aw q4 λ z5 G5 v5 H5 g5 a5 q5=>?_
      cases z5 with
      | bl k5=>cases a5;exact ⟨k5,rfl,F k5 G5 H5 ((((g1.trans g2).trans g3).trans g4).trans g5) q5⟩
      | _=>exact (show False from q5).elim
    | false=>rw [if_neg (by decide)];exact ⟨false,rfl,F false G3 H3 ((g1.trans g2).trans g3) (q3.2 rfl)⟩
  | _=>exact (show False from q3).elim
def pOq:D->List D->DV->DK->Prop:=λ x xs G Q=>match x,xs with
  | .str z,[.str y]=>Q (.bl (Txt.startswith z y)) G
  | _,_=>False
theorem v1q {K:PySem.W.Frag} {H:Hp} {xs:List D} {vs:List V} {y:Str} (e:xs=[.str y]) (al:AbsL K H xs vs):vs=[.str y]:=by
  subst e
  obtain ⟨u,r',e,a,l⟩:=al
  subst e
  cases a
  cases (show r'=[] from l)
  rfl
theorem dNq:AMt X "str" "str.startswith" xWq pOq:=by
  refine ⟨_,⟨iLq⟩,λ x v G H _ ax h=>mBq ax h,λ x xs vx vs G H DQ Q v ax al r F=>?_⟩
  unfold pOq at r
  split at r
  . next z y=>cases ax;exact ⟨z,y,rfl,v1q rfl al,F (.bl _) G _ H (.refl v) rfl r⟩
  . exact r.elim
theorem AbsL.strs {K:PySem.W.Frag} {H:Hp} {ys:List Str}:∀ {vs:List V},AbsL K H (ys.map D.str) vs->vs=ys.map V.str:=by
  induction ys with
  | nil=>intro vs h;exact h
  | cons n ns ih=>rintro vs ⟨v,r,e,q,l⟩;subst e;rw [ih l,show v=V.str n from q];rfl
def aI2q:D->List D->DV->DK->Prop:=λ x xs G Q=>match x,xs with
  | .str z,[.ref l]=>onL G l λ ds=>∃ ys:List Str,ds=ys.map D.str/\z.length<=16/\(ys.map (·.length)).sum+ys.length<=1048576/\Q (.str (Txt.join z ys)) G
  | _,_=>False
theorem j0q:AMt X "str" "str.join" xWq aI2q:=by
  refine ⟨_,⟨x5q X.K rfl⟩,λ x v G H _ ax h=>mBq ax h,λ x xs vx vs G H DQ Q v ax al r F=>?_⟩
  unfold aI2q at r
  split at r
  . next z l=>
    cases ax
    obtain ⟨u,r',e,a,e2⟩:=al
    subst e
    cases a
    cases (show r'=[] from e2)
    obtain ⟨ds,ws,⟨ys,rfl,h1,h2,q⟩,s,rl⟩:=bHq v r
    rw [rl.strs] at s
    exact ⟨z,l,ys,rfl,rfl,s,h1,h2,F (.str _) G _ H (.refl v) rfl q⟩
  . exact r.elim
def v2q:D->DV->DK->Prop:=λ x G Q=>match x with
  | .int i=>i.natAbs.log2 < 1920/\Q (.str (toString i)) G
  | _=>False
theorem pAq:ACall X (.type "str") (rHq v2q):=by
  refine ⟨_,⟨jVq⟩,λ xs vs G H DQ Q v a r F=>?_⟩
  obtain ⟨x,u,rfl,rfl,ax,r⟩:=c4q r a
  cases x with
  | int i=>cases ax;exact ⟨i,rfl,r.1,F (.str _) G _ H (.refl v) rfl r.2⟩
  | _=>exact (show False from r).elim
end
end L3
namespace L2
open PySem PySem.Spec PyProof.Rows
end L2
namespace L3
open PySem L2
theorem gTq {p:Prop} (c:false=true):p:=nomatch c
theorem u9q {p:Prop} (c:true=false):p:=nomatch c
section
variable {C T:Addr} {tp:Pos} {G G':DV} {lp ld:Addr} {as:List Addr} {us:List Tm} {S:Sls} {rk:Addr->Nat} {told:Addr->Bool}
end
theorem Fx.kp {a b:Addr} {G G':DV} {u:DO} (h:Fx a G G') (n:b≠a) (e:G b=some u):G' b=some u:=by rw [h.other n];exact e
section
variable {C CM:Addr} {G G':DV} {a lm p:Addr} {c:Cf}
end
section
variable (C CM:Addr)
end
section
variable {c:Cf} {p q s a b:Tm} {i j:Int} {st:List Mk} {u v:Addr}
end
theorem hIq {β:Type} {k z:Str} {v:β} {r:List (Str × β)}:(((k,v)::r).find? λ kv=>decide (kv.1=z)).map (·.2)=if z=k then some v else (r.find? λ kv=>decide (kv.1=z)).map (·.2):=by
  by_cases h:k=z
  . simp [h]
  . rw [if_neg (Ne.symm h),Za,decide_eq_false h]
theorem k5q:∀ {t:List (Str × V)} {es:List DictEntry},Paired (λ(kv:Str × V) (e:DictEntry)=>(∃ t1,e.key=.str kv.1 t1)/\RelV kv.2 e.val) t es →
    ∀ x,RelO ((t.find? λ kv=>decide (kv.1=x)).map (·.2)) ((es.find? λ d=>Value.isStrOf x d.key).map (·.val))
  | _,_,.nil,_=>trivial
  | p::t,e::es,.cons ⟨⟨t1,e1⟩,e2⟩ r,x=>by
    by_cases h:p.1=x
    . have z:Value.isStrOf x e.key=true:=by rw [e1,h];simp [Value.isStrOf]
      rw [Za,decide_eq_true h,Za,z]
      exact e2
    . have z:Value.isStrOf x e.key=false:=by
        rw [e1]
        simp only [Value.isStrOf]
        exact beq_false_of_ne h
      rw [Za,decide_eq_false h,Za,z]
      exact k5q r x
theorem qAq {K:PySem.W.Frag} {w:World} {ad:Addr} {es:Array DictEntry} {n:Nat} {LV:List (Str × V)} {L:List (Str × D)} {tab:Str->Option D} (h1:K.lookup ad=some ⟨.type "dict", none,.dict es n,#[]⟩) (h2:(ad==sysModules)=false) (h3:PySem.W.KeysLit w.params es.toList)
    (h4:Paired (λ(kv:Str × V) (e:DictEntry)=>(∃ t1,e.key=.str kv.1 t1)/\RelV kv.2 e.val) LV es.toList) (h5:∀ z,tab z=(L.find? λ kv=>decide (kv.1=z)).map (·.2)) (h6:Paired (λ(a:Str × D) (b:Str × V)=>a.1=b.1/\∀ H,Abs K H a.2 b.2) L LV):KTabD K w ad tab:=by
  have key:∀ {L:List (Str × D)} {LV:List (Str × V)},Paired (λ(a:Str × D) (b:Str × V)=>a.1=b.1/\∀ H,Abs K H a.2 b.2) L LV->∀ z,(((L.find? λ kv=>decide (kv.1=z)).map (·.2))=none->((LV.find? λ kv=>decide (kv.1=z)).map (·.2))=none)/\∀ d,((L.find? λ kv=>decide (kv.1=z)).map (·.2))=some d->∃ v,((LV.find? λ kv=>decide (kv.1=z)).map (·.2))=some v/\∀ H,Abs K H d v:=by
    intro L LV h
    induction h with
    | nil=>intro z;exact ⟨λ _=>rfl,λ d e=>by cases e⟩
    | @cons a b as bs q r ih=>
      intro z
      obtain ⟨a1,a2⟩:=a
      obtain ⟨b1,b2⟩:=b
      obtain ⟨q1,q2⟩:=q
      cases (show a1=b1 from q1)
      rw [hIq,hIq]
      by_cases c:z=a1
      . rw [if_pos c,if_pos c];exact ⟨λ e=>(by cases e),λ d e=>(by cases e;exact ⟨_,rfl,q2⟩)⟩
      . rw [if_neg c,if_neg c];exact ih z
  refine ⟨λ z=>(LV.find? λ kv=>decide (kv.1=z)).map (·.2),⟨⟨es,n,h1,h3,λ x=>?_⟩,h2⟩,λ z e=>((key h6 z).1 (by rw [<- h5];exact e)),λ z d e=>(key h6 z).2 d (by rw [<- h5];exact e)⟩
  have:=k5q h4 x
  unfold findBy
  obtain ⟨l⟩:=es
  rw [List.find?_toArray]
  exact this
theorem qEq {K:PySem.W.Frag} {H:Hp} {a:Addr} {its:Array Value} {n:Nat} {vs:List V} (h:K.lookup a=some ⟨.type "tuple", none,.seq its n,#[]⟩) (hz:Nat.ble its.size 1000=true) (hv:Vals vs its.toList):SqT K H a vs:=.inr ⟨_,its,n,h,rfl,rfl,i3q hz,hv⟩
abbrev figs:Str:="0123456789"
def gZq (z y:Str):Bool:=z.cps.toList.all λ c=>decide (c∈y.cps.toList)
theorem o5q (y:Str) (c:Nat):(!(Builtin.Str.occurrences y ⟨#[c]⟩ 0 y.length 1).isEmpty)=decide (c∈y.cps.toList):=by
  rw [PyProof.Rows.empty_one,Bool.not_not]
def bare (z:Str):Str:=if Txt.startswith z "-" then Txt.slice z (some 1) none else z
def j2q:DSp:=λ ds G Q=>∃ z y:Str,ds=[.str z,.str y]/\z.length<=1000/\Q (.bl (gZq z y)) G
theorem cVq (z:Str) (c:Nat):Txt.startswith z ⟨#[c]⟩=(z.cps.toList.head?==some c):=by
  obtain ⟨a⟩:=z
  obtain ⟨l⟩:=a
  unfold Txt.startswith Builtin.Str.subAt Str.length
  cases l with
  | nil=>simp
  | cons x l=>
    simp
theorem dash:(("-" : String):Str)=⟨#[45]⟩:=by decide +kernel
theorem uFq:(("0" : String):Str)=⟨#[48]⟩:=by decide +kernel
theorem vLq (z:Str):(bare z).length<=z.length:=by
  unfold bare
  split
  . exact Txt.slice_le z _ _
  . exact Nat.le_refl _
section
variable (T:Addr) (pos:Pos) (T2:Addr) (pos2:Pos)
def iUq (P:Program) (w:World) (K:PySem.W.Frag) (mg:Str->Option Value) (base:Heap) (k:Nat):DSp:=λ ds G Q=>∃ (α:Type) (enc:α->D) (inn:α->List α) (all:α->List α) (f:Addr) (x:α),ds=[enc x,.ref f]/\(∀ y,all y=y::(inn y).flatMap all) ∧
  FnV P w K mg base k f (aRq K (q4q enc inn))/\(all x).length<=10000/\∀ l,G l=none->Q (.ref l) (up G l (.lst ((all x).map enc)))
end
theorem mWq {α:Type} {inn all:α->List α} (hall:∀ y,all y=y::(inn y).flatMap all):∀ ps:List α,ps.length<=(ps.flatMap all).length
  | []=>Nat.le_refl _
  | y::ps=>by
    have:=mWq hall ps
    rw [YC,hall y,Yg,Yb,Yb]
    omega
end L3
namespace L3
open PySem PySem.Spec L2 PySem.SeqAt
def iJq (e c:Nat->Bool) (fin:Bool):Nat->Nat->Bool
  | 0,_=>fin
  | k+1,i=>if e i then iJq e c fin k (i+1) else c i
def LtAt (A:Around) (s:Shared) (y x:Value) (b:Bool):Prop:=
  ∀ (prog:Program) (w:World) (E:Value->Shared->Prop) (Q:Value->Shared->Prop),Q (.bool b) s->wpAny (model prog w) A (richCompare .Lt y x) Q E s
open AutoSeq1 (wpAny_loadPart') in
theorem n5q (l b:Addr) (items items2:Array Value) (n n2:Nat) (dd dd2:Option Addr) (sl sl2:Array (Option Value)) (e c:Nat->Bool) :
    Meets (Builtin.«tuple.__lt__» ⟨[.ref l,.ref b],[]⟩)
      (λ A R s=>s.heap.get? l=some { cls:=.type "tuple", dict:=dd,data:=.seq items n,slots:=sl }/\s.heap.get? b=some { cls:=.type "tuple", dict:=dd2,data:=.seq items2 n2,slots:=sl2 } ∧
        (∀ j (h1:j < items.size) (h2:j < items2.size),EqAt A.in1 s items[j] items2[j] (e j)) ∧
        (∀ j (h1:j < items.size) (h2:j < items2.size),(∀ i,i < j->e i=true)->e j=false->LtAt A.in1 s items[j] items2[j] (c j)) ∧
        R (.ok (.ret (.bool (iJq e c (decide (items.size < items2.size)) (min items.size items2.size) 0)))) s):=
  .of_wp λ prog w A R s h=>by
    obtain ⟨hp,g,d,tk,os⟩:=s;obtain ⟨hl,hb,he,hc,h⟩:=h
    have f2:=AutoSeq1.sub_tuple_tuple
    have hZ:(items.toList.zip items2.toList).length=min items.size items2.size:=by simp
    wp_walk using wpAny_loadPart' hl,wpAny_loadPart' hb,wpAny_forIn_list _ (λ rest b s'=>b.1=none/\s'=⟨hp,g,d,tk,os⟩/\∃ i,rest=(items.toList.zip items2.toList).drop i/\(∀ k,k < i->e k=true) ∧
      R (.ok (.ret (.bool (iJq e c (decide (items.size < items2.size)) (min items.size items2.size - i) i)))) ⟨hp,g,d,tk,os⟩) _
    case turn=>
      rintro ⟨y,x⟩ rest b s' ⟨hb',rfl,i,hz,hk,hR⟩
      have hlt:i < (items.toList.zip items2.toList).length:=by
        rcases Nat.lt_or_ge i (items.toList.zip items2.toList).length with h' | h'
        . exact h'
        . rw [List.drop_of_length_le h'] at hz;cases hz
      have hm:i < min items.size items2.size:=hZ ▸ hlt
      have h1:i < items.size:=Nat.lt_of_lt_of_le hm (Nat.min_le_left _ _)
      have h2:i < items2.size:=Nat.lt_of_lt_of_le hm (Nat.min_le_right _ _)
      rw [YZ hlt] at hz
      injection hz with hyx hrest
      have hy:y=items[i]:=by have:=congrArg Prod.fst hyx;simpa using this
      have hx:x=items2[i]:=by have:=congrArg Prod.snd hyx;simpa using this
      subst hy hx
      rw [show min items.size items2.size - i=(min items.size items2.size - (i+1))+1 by omega,iJq] at hR
      refine wpAny_bind (he i h1 h2 prog w _ _ ?_)
      cases hy:e i with
      | true=>
        rw [hy] at hR
        wp_walk
        exact ⟨rfl,rfl,i+1,hrest,λ k hk'=>by rcases Nat.lt_succ_iff_lt_or_eq.mp hk' with z | rfl;exact hk k z;exact hy,by simpa using hR⟩
      | false=>
        rw [hy,if_neg (by decide)] at hR
        simp only [Bool.not_false,if_true]
        refine wpAny_bind (wpAny_rule (wpAny_bind (hc i h1 h2 hk hy prog w _ _ ?_)))
        wp_walk
        exact ⟨_,rfl,hR⟩
    case fin=>
      rintro ⟨b1,b2⟩ s' ⟨hb',rfl,i,hz,hk,hR⟩
      simp only at hb'
      subst hb'
      have hge:min items.size items2.size<=i:=by
        rcases Nat.lt_or_ge i (items.toList.zip items2.toList).length with h' | h'
        . rw [YZ h'] at hz;cases hz
        . exact hZ ▸ h'
      rw [show min items.size items2.size - i=0 by omega,iJq] at hR
      wp_walk
      exact ⟨_,rfl,by simpa [Builtin.Tuple.tupleCompareSizes] using hR⟩
    case h=>
      exact ⟨rfl,rfl,0,rfl,by simp,by simpa using h⟩
theorem LtAt.tuples {A:Around} {s:Shared} {l b:Addr} {items items2:Array Value} {e c:Nat->Bool} (hl:s.heap.IsTuple l items) (hb:s.heap.IsTuple b items2) (hu:A.units < cLine)
    (he:∀ j (h1:j < items.size) (h2:j < items2.size),EqAt A.in1 s items[j] items2[j] (e j))
    (hc:∀ j (h1:j < items.size) (h2:j < items2.size),(∀ i,i < j->e i=true)->e j=false->LtAt A.in1 s items[j] items2[j] (c j)) :
    LtAt A s (.ref l) (.ref b) (iJq e c (decide (items.size < items2.size)) (min items.size items2.size) 0):=λ prog w E Q h=>by
  obtain ⟨⟨cls,dd,data,sl⟩,ho,hc1,n,hd⟩:=id hl
  obtain ⟨⟨cls2,dd2,data2,sl2⟩,ho2,hc2,n2,hd2⟩:=id hb
  simp only at hc1 hd hc2 hd2
  subst hc1 hd hc2 hd2
  exact richCompare_meets_room (op:=.Lt) ⟨_,ho,rfl⟩ ⟨_,ho2,rfl⟩ F.slot_tuple_lt F.entry_tuple_lt (F.args_tuple_lt_2 _ _) (n5q l b items items2 n n2 dd dd2 sl sl2 e c)
    ⟨ho,ho2,he,hc,show Value.bool _≠Value.notImplemented/\Q _ s from ⟨(λ x=>nomatch x),h⟩⟩ hu
mutual
def ltD:D->D->Option Bool
  | .int i,.int j=>some (decide (i < j))
  | .str a,.str b=>some (decide (a.cps.toList < b.cps.toList))
  | .tup ds,.tup es=>b7q ds es
  | _,_=>none
def b7q:List D->List D->Option Bool
  | [],es=>some (decide (0 < es.length))
  | _::_,[]=>some false
  | d::ds,e::es=>if eqD d e then b7q ds es else ltD d e
end
theorem hCq (e c:Nat->Bool) (fin:Bool):∀ n i,iJq e c fin n (i+1)=iJq (λ k=>e (k+1)) (λ k=>c (k+1)) fin n i
  | 0,_=>rfl
  | n+1,i=>by rw [iJq,iJq,hCq e c fin n (i+1)]
theorem n2q (d e:D) (ds es:List D):(λ k=>eqJ (d::ds) (e::es) (k+1))=eqJ ds es:=by funext j;simp [eqJ]
theorem r6q {b:Bool}:∀ {ds es:List D},b7q ds es=some b->iJq (eqJ ds es) (λ _=>b) (decide (ds.length < es.length)) (min ds.length es.length) 0=b
  | [],es,h=>by
    rw [b7q] at h
    simp only [Yj,Nat.zero_min,iJq]
    exact Option.some.inj h
  | _::_,[],h=>by
    rw [b7q] at h
    simp only [Yj,Nat.min_zero,iJq]
    cases h;simp
  | d::ds,e::es,h=>by
    rw [b7q] at h
    rw [Yb,Yb,Nat.succ_min_succ,iJq,hCq,n2q,show eqJ (d::ds) (e::es) 0=eqD d e from rfl]
    by_cases c:eqD d e=true
    . rw [if_pos c] at h ⊢
      have z:=r6q h
      simpa using z
    . rw [if_neg c]
theorem qCq {b:Bool}:∀ {ds es:List D} {j:Nat},b7q ds es=some b->j < ds.length->j < es.length->(∀ i,i < j->eqJ ds es i=true)->eqJ ds es j=false->∃ d e,ds[j]?=some d/\es[j]?=some e/\ltD d e=some b
  | [],_,_,_,h,_,_,_=>by simp at h
  | _::_,[],_,_,_,h,_,_=>by simp at h
  | d::ds,e::es,0,h,_,_,_,hj=>by
    rw [b7q,if_neg (by rw [show eqD d e=false from hj];decide)] at h
    exact ⟨d,e,rfl,rfl,h⟩
  | d::ds,e::es,j+1,h,h1,h2,hi,hj=>by
    rw [b7q,if_pos (show eqD d e=true from hi 0 (by omega))] at h
    have e1:=n2q d e ds es
    obtain ⟨d',e',g1,g2,g3⟩:=qCq (ds:=ds) (es:=es) (j:=j) h (by simpa using h1) (by simpa using h2) (λ i hlt=>by rw [<- e1];exact hi (i+1) (by omega)) (by rw [<- e1];exact hj)
    exact ⟨d',e',g1,g2,g3⟩
section
variable {X:Cx} {pins:List (Addr × Obj)} {σ:L2.St} {H:Hp} {s:Shared}
mutual
theorem yEq (I:Inv X pins σ H s):∀ (d e:D) (b:Bool) (A:Around) (x y:V) (u v:Value),d.data=true->e.data=true->Abs X.K H d x->Abs X.K H e y->RelV x u->RelV y v->A.units+d.dp < cLine->ltD d e=some b->LtAt A s u v b
  | .tup ds,e,b,A,x,y,u,v,hd,he,ax,ay,ru,rv,hu,hb=>by
    obtain ⟨es,rfl⟩:∃ es,e=.tup es:=by cases e<;>first | exact ⟨_,rfl⟩ | (simp [ltD] at hb)
    obtain ⟨a,vs,rfl,s1,r1⟩:=ax
    cases ru
    obtain ⟨its,rr,t1,_⟩:=I.tuple s1
    obtain ⟨a2,us,rfl,s2,r2⟩:=ay
    cases rv
    obtain ⟨its2,rr2,t2,_⟩:=I.tuple s2
    have l1:=rr.length
    have l2:=rr2.length
    have l3:=r1.len
    have l4:=r2.len
    rw [ltD] at hb
    simp only [D.dp] at hu
    simp only [D.data] at hd he
    have z:=LtAt.tuples (A:=A) (e:=eqJ ds es) (c:=λ _=>b) t1 t2 (by omega) (λ j h1 h2=>by
      have q:=eDq I ds es A.in1 vs us its its2 hd he r1 r2 rr rr2 (by show A.units+1+bMq ds < cLine;omega) j (by simpa using h1) (by simpa using h2)
      simpa using q) (λ j h1 h2 hi hj=>by
      have j1:j < its.length:=by simpa using h1
      have j2:j < its2.length:=by simpa using h2
      obtain ⟨d,e,g1,g2,g3⟩:=qCq hb (by omega) (by omega) hi hj
      have q:=pKq I ds es A.in1 vs us its its2 hd he r1 r2 rr rr2 (by show A.units+1+bMq ds < cLine;omega) j j1 j2 d e b g1 g2 g3
      simpa using q)
    have ez:iJq (eqJ ds es) (λ _=>b) (decide (its.toArray.size < its2.toArray.size)) (min its.toArray.size its2.toArray.size) 0=b:=by
      rw [Ye,Ye,<- l1,<- l2,l3,l4];exact r6q hb
    rw [ez] at z
    exact z
  | .int i,e,b,A,x,y,u,v,_,_,ax,ay,ru,rv,_,hb=>by
    obtain ⟨j,rfl⟩:∃ j,e=.int j:=by cases e<;>first | exact ⟨_,rfl⟩ | (simp [ltD] at hb)
    cases ax;cases ay
    obtain ⟨t,rfl⟩:=ru
    obtain ⟨t',rfl⟩:=rv
    rw [ltD] at hb;cases hb
    exact λ prog w E Q h=>PyProof.Rows.lt_int h
  | .str i,e,b,A,x,y,u,v,_,_,ax,ay,ru,rv,_,hb=>by
    obtain ⟨j,rfl⟩:∃ j,e=.str j:=by cases e<;>first | exact ⟨_,rfl⟩ | (simp [ltD] at hb)
    cases ax;cases ay
    obtain ⟨t,rfl⟩:=ru
    obtain ⟨t',rfl⟩:=rv
    rw [ltD] at hb;cases hb
    exact λ prog w E Q h=>PyProof.Rows.lt_str h
  | .non,e,b,A,x,y,u,v,_,_,_,_,_,_,_,hb=>by simp [ltD] at hb
  | .bl _,e,b,A,x,y,u,v,_,_,_,_,_,_,_,hb=>by simp [ltD] at hb
  | .ref _,e,b,A,x,y,u,v,h,_,_,_,_,_,_,_=>by simp [D.data] at h
  | .ty _,e,b,A,x,y,u,v,h,_,_,_,_,_,_,_=>by simp [D.data] at h
  | .frl _,e,b,A,x,y,u,v,h,_,_,_,_,_,_,_=>by simp [D.data] at h
theorem pKq (I:Inv X pins σ H s):∀ (ds es:List D) (A:Around) (vs us:List V) (its its2:List Value),aWq ds=true->aWq es=true->AbsL X.K H ds vs->AbsL X.K H es us->Vals vs its->Vals us its2->A.units+bMq ds < cLine →
    ∀ j (h1:j < its.length) (h2:j < its2.length) d e b,ds[j]?=some d->es[j]?=some e->ltD d e=some b->LtAt A s its[j] its2[j] b
  | [],es,A,vs,us,its,its2,_,_,_,_,_,_,_,j,h1,h2,d,e,b,g1,_,_=>by cases g1
  | _::_,[],A,vs,us,its,its2,_,_,_,_,_,_,_,j,h1,h2,d,e,b,_,g2,_=>by cases g2
  | d0::ds,e0::es,A,vs,us,its,its2,hd,he,⟨v,r,e,q,t⟩,⟨v',r',e',q',t'⟩,rr,rr2,hu,j,h1,h2,d1,e1,b,g1,g2,g3=>by
    subst e e'
    cases rr with
    | cons r1 rt=>
      cases rr2 with
      | cons r2 rt2=>
        simp only [bMq] at hu
        simp only [aWq,Bool.and_eq_true] at hd he
        cases j with
        | zero=>
          cases g1;cases g2
          exact yEq I d0 e0 b A _ _ _ _ hd.1 he.1 q q' r1 r2 (by omega) g3
        | succ j=>
          have z:=pKq I ds es A _ _ _ _ hd.2 he.2 t t' rt rt2 (by omega) j (by simpa using h1) (by simpa using h2) d1 e1 b g1 g2 g3
          simpa using z
end
end
end L3
namespace L2
open PySem PySem.W PyProof.Rows
def kGood (n:Nat) {α:Type} (P:α->Prop):KasT α->Prop
  | .ret a=>P a
  | .ask i j k=>i < n/\j < n/\∀ b,kGood n P (k b)
theorem kGood.mono {n:Nat} {α:Type} {P R:α->Prop} (h:∀ a,P a->R a):∀ {t:KasT α},kGood n P t->kGood n R t
  | .ret a,g=>h a g
  | .ask _ _ k,g=>⟨g.1,g.2.1,λ b=>kGood.mono h (g.2.2 b)⟩
theorem kGood.bind {n:Nat} {α β:Type} {P:α->Prop} {R:β->Prop} {f:α->KasT β} (h:∀ a,P a->kGood n R (f a)):∀ {t:KasT α},kGood n P t->kGood n R (t.bind f)
  | .ret a,g=>h a g
  | .ask _ _ k,g=>⟨g.1,g.2.1,λ b=>kGood.bind h (g.2.2 b)⟩
theorem kGood.wp {n:Nat} {α:Type} {P:α->Prop} {cmp:Nat->Nat->(Bool->Shared->Prop)->Shared->Prop} {G:α->Shared->Prop} {s:Shared} {lt:Nat->Nat->Bool} (hc:∀ i j C,i < n->j < n->C (lt i j) s->cmp i j C s) (hG:∀ a,P a->G a s):∀ {t:KasT α},kGood n P t->t.kasWp cmp G s
  | .ret a,g=>hG a g
  | .ask i j k,g=>hc i j _ g.1 g.2.1 (kGood.wp hc hG (g.2.2 _))
abbrev Pm (n:Nat) (p:Array Nat):Prop:=p.toList.Perm (Ys n)
theorem bZq {n:Nat} {p:Array Nat} (h:Pm n p) (hn:0 < n) (k:Nat):p.getD k 0 < n:=by
  by_cases c:k < p.size
  . have e:p.getD k 0=p[k]:=by simp [Array.getD,c]
    rw [e]
    exact YE.mp (h.mem_iff.mp (Array.mem_toList_iff.mpr (Array.getElem_mem c)))
  . rw [show p.getD k 0=0 by simp [Array.getD,c]];exact hn
theorem dJq {n:Nat} {p:Array Nat} (h:Pm n p) (i j:Nat):Pm n (kas_rev p i j):=(Array.perm_iff_toList_perm.mp (mirror_perm p i j _)).trans h
theorem uMq {n:Nat} {p:Array Nat} (h:Pm n p) (i j:Nat):Pm n (bubble p i j):=(Array.perm_iff_toList_perm.mp (bubble_perm p i j)).trans h
section
variable {n:Nat} (hn:0 < n)
include hn
theorem hTq {p:Array Nat} (h:Pm n p):∀ f m,kGood n (λ _=>True) (kas_asc p f m)
  | 0,_=>trivial
  | f+1,m=>⟨bZq h hn _,bZq h hn _,λ b=>by cases b;exact hTq h f (m+1);exact trivial⟩
theorem eBq:∀ f p m q,Pm n p->kGood n (λ r:Array Nat × Nat × Nat=>Pm n r.1) (kas_desc f p m q)
  | 0,_,_,_,h=>h
  | f+1,p,m,q,h=>⟨bZq h hn _,bZq h hn _,λ b=>by
    cases b with
    | true=>
      by_cases c:q > 0
      . simp only [if_true,if_pos c];exact eBq f _ _ _ (dJq h _ _)
      . simp only [if_true,if_neg c];exact eBq f _ _ _ h
    | false=>exact ⟨bZq h hn _,bZq h hn _,λ d=>by cases d;exact eBq f _ _ _ h;exact h⟩⟩
theorem hDq {p:Array Nat} (h:Pm n p) (m nrem:Nat):kGood n (λ r:Nat × Array Nat=>Pm n r.2) (kas_tail3 m nrem p):=by
  unfold kas_tail3
  exact kGood.bind (R:=λ r:Nat × Array Nat=>Pm n r.2) (λ _ _=>by exact dJq h 0 m) (hTq hn (dJq h 0 m) _ _)
theorem eHq {p:Array Nat} (h:Pm n p) (m nrem:Nat):kGood n (λ r:Nat × Array Nat=>Pm n r.2) (kas_descPart m nrem p):=by
  refine kGood.bind (λ r hr=>?_) (eBq hn _ _ _ _ h)
  split
  . exact hDq hn (dJq hr _ _) _ _
  . exact hDq hn hr _ _
theorem nIq {p:Array Nat} (h:Pm n p) (nrem:Nat):kGood n (λ r:Nat × Array Nat=>Pm n r.2) (kas_count nrem p):=by
  refine kGood.bind (λ m _=>?_) (hTq hn h _ _)
  split
  . exact h
  . split
    . exact ⟨bZq h hn _,bZq h hn _,λ b=>by cases b;exact eHq hn (dJq h _ _) _ _;exact h⟩
    . exact eHq hn h _ _
theorem eMq {p:Array Nat} (h:Pm n p) (k:Nat):∀ f l r,kGood n (λ _=>True) (kas_place p k f l r)
  | 0,_,_=>trivial
  | f+1,l,r=>by
    rw [kas_place]
    split
    . exact trivial
    . exact ⟨bZq h hn _,bZq h hn _,λ b=>by cases b;exact eMq h k f _ _;exact eMq h k f _ _⟩
theorem lXq:∀ f p k,Pm n p->kGood n (Pm n) (kas_bin f p k)
  | 0,_,_,h=>h
  | f+1,_,k,h=>kGood.bind (λ _ _=>lXq f _ _ (uMq h _ _)) (eMq hn h k _ _ _)
theorem pWq:kGood n (Pm n) (kas_sort n):=by
  refine kGood.bind (λ r hr=>?_) (nIq hn (p:=Y5 (Ys n)) (by exact .refl _) n)
  split
  . exact lXq hn _ _ _ hr
  . exact hr
end
theorem vKq {vs:List Value} {p:Array Nat} (h:Pm vs.length p):(p.toList.map λ i=>vs.getD i Value.none).Perm vs:=by
  have e:(Ys vs.length).map (λ i=>vs.getD i Value.none)=vs:=by
    apply Y6
    . simp
    . intro i h1 h2
      simp [Yr,Yi h2]
  have:=h.map (λ i=>vs.getD i Value.none)
  rwa [e] at this
abbrev bNq (h:Heap) (a:Addr) (vs:List Value):Heap:=((h.update a (Obj.mapSeq λ _=>#[])).push (seqObj "tuple" vs.toArray 0)).push (seqObj "list" #[] 0)
section
variable {prog:Program} {w:World} {A:Around} {E:Value->Shared->Prop} {s:Shared}
theorem iRq {a:Addr} {vs:List Value} {n:Nat} {κ:SortKind} {lt:Nat->Nat->Bool} {P:PySem.Fin->Shared->Prop} (ho:s.heap.get? a=some (seqObj "list" vs.toArray n)) (h64:vs.length < 64)
    (hk:2<=vs.length->∀ Q:SortKind->Shared->Prop,Q κ { s with heap:=bNq s.heap a vs }->wpAny (model prog w) A (keyKind' vs.toArray) Q E { s with heap:=bNq s.heap a vs })
    (hc:∀ i j C,i < vs.length->j < vs.length->C (lt i j) { s with heap:=bNq s.heap a vs }->kas_ask prog w A κ vs i j C { s with heap:=bNq s.heap a vs })
    (h:∀ out:List Value,out.Perm vs->P (.done (.ret .none)) { s with heap:=sortedHeap s.heap a vs out.toArray }) :
    wpAny (model prog w) A (Builtin.«list.sort» ⟨[.ref a],[]⟩) P E s:=by
  rw [list_sort_plain]
  have ha:a < s.heap.objs.size:=Heap.lt_size ho
  refine wpAny_bind (listItems_at ho rfl ?_)
  refine wpAny_bind (listUpdate_at ho rfl ?_ (hsz:=by rw [Ye,sizeLine_eq];omega))
  obtain ⟨e1,ho1⟩:∃ e1,(s.heap.update a (Obj.mapSeq λ _=>#[])).get? a=some (seqObj "list" #[] e1):=⟨_,get?_update_seq ho (λ _=>#[])⟩
  refine wpAny_bind (seqEpoch_at ho1 rfl ?_)
  refine wpAny_bind (wpAny_newTuple ?_)
  refine wpAny_bind (wpAny_newList ?_)
  refine wpAny_holding ?_
  have ho6:(bNq s.heap a vs).get? a=some (seqObj "list" #[] e1):=by
    rw [Heap.get?_push_ne _ _ _ (by rw [size_push',Heap.size_update];exact Nat.ne_of_lt (Nat.lt_succ_of_lt ha)),Heap.get?_push_ne _ _ _ (by rw [Heap.size_update];exact Nat.ne_of_lt ha)]
    exact ho1
  show wpAny (model prog w) A _ P E { s with heap:=bNq s.heap a vs }
  dsimp only
  have hsz:vs.toArray.size=vs.length:=by simp
  by_cases h2:vs.toArray.size < 2
  . rw [if_pos h2,if_pos h2]
    refine wpAny_bind (wpAny_pure ?_)
    rw [StateT.run_pure]
    refine wpAny_bind (wpAny_pure ?_)
    dsimp only
    refine wpAny_bind (seqEpoch_at ho6 rfl ?_)
    have eo:(arrOf (SortSt.mk' general' (vs.toArray.zip vs.toArray) #[] 7 none)).map (·.2)=vs.toArray:=by
      show (vs.toArray.zip vs.toArray).map (·.2)=vs.toArray
      apply Array.toList_inj.mp
      rw [Array.toList_map,Array.toList_zip,List.map_snd_zip (Nat.le_refl _)]
    rw [eo]
    refine wpAny_bind (listUpdate_at ho6 rfl ?_ (hsz2:=by show vs.toArray.size<=_;rw [hsz,sizeLine_eq];omega))
    simp only [bne_self_eq_false,Bool.false_eq_true,if_false]
    exact wpAny_pure (h vs (.refl _))
  . rw [if_neg h2,if_neg h2]
    have hl2:2<=vs.length:=by omega
    refine wpAny_bind (hk hl2 _ ?_)
    refine wpAny_bind (wpAny_mono (kat_run (ks:=vs) (vs:=vs) (Q:=λ st' s'=>s'={ s with heap:=bNq s.heap a vs }/\failedOf st'=none/\∃ out:List Value,out.Perm vs/\(arrOf st').map (·.2)=out.toArray) (G:=λ p s'=>s'={ s with heap:=bNq s.heap a vs }/\Pm vs.length p) rfl hl2 h64 (λ p st' s' _ har hf g=>⟨g.1,hf,_,vKq g.2,kat_snds rfl har⟩)
      (kGood.wp hc (λ p hp=>⟨rfl,hp⟩) (pWq (by omega)))) ?_ λ _ _ e=>e)
    rintro ⟨⟨⟩,st'⟩ s' ⟨rfl,hf,out,hp,eo⟩
    dsimp only at eo ⊢
    rw [eo]
    refine wpAny_bind (seqEpoch_at ho6 rfl ?_)
    refine wpAny_bind (listUpdate_at ho6 rfl ?_ (hsz2:=by show out.toArray.size<=_;rw [Ye,hp.length_eq,sizeLine_eq];omega))
    rw [hf]
    simp only [bne_self_eq_false,Bool.false_eq_true,if_false]
    exact wpAny_pure (h out hp)
end
abbrev fNq (h:Heap) (vs:List Value):Heap:=bNq (((h.push (seqObj "list" #[] 0)).update h.objs.size (Obj.mapSeq (·++vs.toArray))).push (seqObj "list" vs.toArray 0)) (h.objs.size+1) vs
section
variable {prog:Program} {w:World} {A:Around} {E:Value->Shared->Prop} {s:Shared}
theorem hLq {l:Addr} {vs:List Value} {κ:SortKind} {lt:Nat->Nat->Bool} {Q:Value->Shared->Prop} (hl:s.heap.IsList l vs.toArray) (h64:vs.length < 64)
    (hk:2<=vs.length->∀ (A:Around) (E:Value->Shared->Prop) (R:SortKind->Shared->Prop),R κ { s with heap:=fNq s.heap vs }->wpAny (model prog w) A (keyKind' vs.toArray) R E { s with heap:=fNq s.heap vs })
    (hc:∀ (A':Around) i j C,A'.units<=A.units+5->i < vs.length->j < vs.length->C (lt i j) { s with heap:=fNq s.heap vs }->kas_ask prog w A' κ vs i j C { s with heap:=fNq s.heap vs })
    (h:∀ out:List Value,out.Perm vs->Q (.ref (s.heap.objs.size+1)) { s with heap:=sortedAll s.heap vs out.toArray }) :
    wpAny (model prog w) A (call (.builtin "sorted") [.ref l]) Q E s:=by
  refine Calls.call_function_entry kind_sorted plain_sorted entry_sorted (args_sorted1 _) ?_
  unfold Builtin.«sorted»
  refine wpAny_bind (m:=checkCount "sorted" 1 1 _) (wpAny_pure ?_)
  refine wpAny_bind (collect_list hl ?_ (hsz:=by rw [sizeLine_eq];omega))
  refine wpAny_bind (wpAny_newList ?_)
  have hsz:((s.heap.push (seqObj "list" #[] 0)).update s.heap.objs.size (Obj.mapSeq (·++vs.toArray))).objs.size=s.heap.objs.size+1:=by
    rw [Heap.size_update,size_push']
  have hoL:(((s.heap.push (seqObj "list" #[] 0)).update s.heap.objs.size (Obj.mapSeq (·++vs.toArray))).push (seqObj "list" vs.toArray 0)).get? (s.heap.objs.size+1)=some (seqObj "list" vs.toArray 0):=by
    rw [<- hsz];exact Heap.get?_push_size _ rfl
  show wpAny _ _ _ _ _ { s with heap:=((s.heap.push (seqObj "list" #[] 0)).update s.heap.objs.size (Obj.mapSeq (·++vs.toArray))).push (seqObj "list" vs.toArray 0) }
  rw [hsz]
  refine wpAny_bind (wpAny_holding (wpAny_call_entry slot_list_sort ⟨_,hoL,rfl⟩ entry_list_sort (iRq (κ:=κ) (lt:=lt) hoL h64 (λ h2 R hR=>hk h2 _ _ R hR) (λ i j C hi hj hC=>hc _ i j C ?_ hi hj hC) λ out hp=>⟨_,rfl,?_⟩) (args_list_sort _)))
  . show A.units+1+1<=A.units+5
    omega
  exact wpAny_pure ⟨_,rfl,h out hp⟩
end
end L2
namespace L3
open PySem PySem.Spec PySem.W PyProof.Rows L2
section
variable {X:Cx} {pins:List (Addr × Obj)} {σ:L2.St} {H:Hp} {s:Shared}
theorem mTq (I:Inv X pins σ H s) {prog:Program} {w:World} {A:Around} {b fin r:Bool} {Q:Bool->Shared->Prop} (q:Q r s):∀ (ds es:List D) (vs us:List V) (its its2:List Value) (i:Nat),0 < i->aWq ds=true->aWq es=true->AbsL X.K H ds vs->AbsL X.K H es us->Vals vs its->Vals us its2->A.units+bMq ds < cLine->b7q ds es=some r->fin=decide (ds.length < es.length)->KatLex prog w A b fin Q (its.zip its2) i s
  | [],es,vs,us,its,its2,i,_,_,_,e,_,rr,_,_,h,hf=>by
    rw [show vs=[] from e] at rr;cases rr
    rw [b7q] at h
    have e1:fin=r:=by rw [hf];exact Option.some.inj h
    exact kat_nil (by rw [e1];exact q)
  | _::_,[],vs,us,its,its2,i,_,_,_,_,e,_,rr2,_,h,hf=>by
    rw [show us=[] from e] at rr2;cases rr2
    rw [b7q] at h
    have e1:fin=r:=by rw [hf];cases h;simp
    rw [List.zip_nil_right]
    exact kat_nil (by rw [e1];exact q)
  | d::ds,e::es,vs,us,its,its2,i,hi,hd,he,⟨v,r1,e1,q1,t1⟩,⟨v',r1',e1',q1',t1'⟩,rr,rr2,hu,h,hf=>by
    subst e1 e1'
    cases rr with
    | cons a1 rt=>
      cases rr2 with
      | cons a2 rt2=>
        simp only [bMq] at hu
        simp only [aWq,Bool.and_eq_true] at hd he
        rw [b7q] at h
        refine kat_cons (wWq I d e A _ _ _ _ hd.1 he.1 q1 q1' a1 a2 (by omega) prog w _ _ ?_)
        cases c:eqD d e with
        | true=>
          rw [if_pos c] at h
          exact kat_yes (mTq I q ds es _ _ _ _ (i+1) (by omega) hd.2 he.2 t1 t1' rt rt2 (by omega) h (by rw [hf];simp))
        | false=>
          rw [if_neg (by rw [c];decide)] at h
          refine kat_no ?_
          rw [show (b&&i==0)=false by rw [show (i==0)=false from by simp;omega];simp]
          exact kat_one _ _ (yEq I d e r A _ _ _ _ hd.1 he.1 q1 q1' a1 a2 (by omega) h prog w _ _ q)
theorem aG5q (I:Inv X pins σ H s) {prog:Program} {w:World} {A:Around} {E:Value->Shared->Prop} {r:Bool} {Q:Bool->Shared->Prop} (q:Q r s) {z z2:Str} {ds es:List D} {x y:V} {u v:Value} (hd:aWq ds=true) (he:aWq es=true) (ax:Abs X.K H (.tup (.str z::ds)) x) (ay:Abs X.K H (.tup (.str z2::es)) y) (ru:RelV x u) (rv:RelV y v)
    (hu:A.units+bMq ds < cLine) (h:ltD (.tup (.str z::ds)) (.tup (.str z2::es))=some r):wpAny (model prog w) A (keyLt' (tuples' true) u v) Q E s:=by
  obtain ⟨a,vs,rfl,s1,r1⟩:=ax
  cases ru
  obtain ⟨its,rr,t1,_⟩:=I.tuple s1
  obtain ⟨a2,us,rfl,s2,r2⟩:=ay
  cases rv
  obtain ⟨its2,rr2,t2,_⟩:=I.tuple s2
  obtain ⟨o,ho,hc,n,hdt⟩:=id t1
  obtain ⟨o2,ho2,hc2,n2,hdt2⟩:=id t2
  rw [ltD,b7q] at h
  obtain ⟨v,r',e1,q1,t1'⟩:=r1
  obtain ⟨v2,r2',e2,q2,t2'⟩:=r2
  subst e1 e2
  cases q1;cases q2
  cases rr with
  | cons a1 rt=>
    cases rr2 with
    | cons a3 rt2=>
      obtain ⟨t,rfl⟩:=a1
      obtain ⟨t',rfl⟩:=a3
      have l1:=rt.length
      have l2:=rt2.length
      have l3:=t1'.len
      have l4:=t2'.len
      refine kat_lt ho hdt ho2 hdt2 ?_
      refine kat_cons (wWq I (.str z) (.str z2) A _ _ _ _ rfl rfl rfl rfl ⟨t,rfl⟩ ⟨t',rfl⟩ (by simp only [D.dp];omega) prog w _ _ ?_)
      cases c:eqD (.str z) (.str z2) with
      | true=>
        rw [if_pos c] at h
        exact kat_yes (mTq I q ds es _ _ _ _ 1 (by omega) hd he t1' t2' rt rt2 hu h (by simp;omega))
      | false=>
        rw [if_neg (by rw [c];decide),ltD] at h
        cases h
        exact kat_no (oneLt_str q)
end
def SKey (d:D):Prop:=∃ z r,d=.tup (.str z::r)/\aWq r=true/\bMq r<=150
section
variable {X:Cx} {pins:List (Addr × Obj)} {σ:L2.St} {H:Hp} {s:Shared}
theorem q7q (I:Inv X pins σ H s):∀ (ds:List D) (vs:List V) (its:List Value),(∀ d∈ds,SKey d)->AbsL X.K H ds vs->Vals vs its->∃ fs,KatTups s.heap its fs/\fs.length=its.length/\∀ v∈fs,∃ z t,v=Value.str z t
  | [],vs,its,_,e,rr=>by
    rw [show vs=[] from e] at rr;cases rr
    exact ⟨[],.nil,rfl,by simp⟩
  | d::ds,vs,its,hs,⟨v,r1,e1,q1,t1⟩,rr=>by
    subst e1
    cases rr with
    | cons a1 rt=>
      obtain ⟨fs,k1,k2,k3⟩:=q7q I ds _ _ (λ d h=>hs d (Yc _ h)) t1 rt
      obtain ⟨z,r,rfl,-,-⟩:=hs d (Ya ..)
      obtain ⟨a,vs',rfl,s1,r2⟩:=q1
      cases a1
      obtain ⟨its',rr',t1',_⟩:=I.tuple s1
      obtain ⟨v2,r3,e2,q2,-⟩:=r2
      subst e2
      cases q2
      obtain ⟨o,ho,hc,n,hdt⟩:=id t1'
      cases rr' with
      | cons a2 rt2=>
        obtain ⟨t,rfl⟩:=a2
        exact ⟨_::fs,.cons ho hc hdt rfl k1,by simp [k2],λ v hv=>by
          rcases Yd.mp hv with rfl | hv
          . exact ⟨z,t,rfl⟩
          . exact k3 v hv⟩
theorem sLq (I:Inv X pins σ H s) {M:Model} {A:Around} {E:Value->Shared->Prop} {ds:List D} {vs:List V} {its:List Value} {R:SortKind->Shared->Prop} (hs:∀ d∈ds,SKey d) (ha:AbsL X.K H ds vs) (rr:Vals vs its) (hn:0 < its.length) (h:R (tuples' true) s):wpAny M A (keyKind' its.toArray) R E s:=by
  obtain ⟨fs,k1,k2,k3⟩:=q7q I ds vs its hs ha rr
  refine kat_kind (T:=.type "str") k1 (by omega) (λ v hv=>?_) rfl h
  obtain ⟨z,t,rfl⟩:=k3 v hv
  exact Looks.of_pure rfl
end
theorem jNq {h:Heap} {vs:List Value} {b:Addr} {o:Obj} (hb:h.get? b=some o):(fNq h vs).get? b=some o:=by
  have lb:b < h.objs.size:=Heap.lt_size hb
  have h1:(h.push (seqObj "list" #[] 0)).get? b=some o:=Heap.get?_push_of_some _ hb
  have h2:((h.push (seqObj "list" #[] 0)).update h.objs.size (Obj.mapSeq (·++vs.toArray))).get? b=some o:=by
    rw [Heap.get?_update_ne _ _ _ _ (Nat.ne_of_lt lb)];exact h1
  have h3:=Heap.get?_push_of_some (seqObj "list" vs.toArray 0) h2
  refine Heap.get?_push_of_some _ (Heap.get?_push_of_some _ ?_)
  rw [Heap.get?_update_ne _ _ _ _ (show b≠h.objs.size+1 from Nat.ne_of_lt (Nat.lt_succ_of_lt lb))];exact h3
section
variable {X:Cx}
end
inductive Kn where
  | is (n:Int)
  | some
  | both (a b:Kn)
namespace Kn
end Kn
def Tm.kn:Tm->Kn
  | .whole n=>.is n
  | .pair a b=>.both a.kn b.kn
  | _=>.some
def Tm.mkK:Tm->List Kn->Kn
  | .whole n,_=>.is n
  | .pair _ _,[x,y]=>.both x y
  | _,_=>.some
inductive IsK:D->Prop
  | is (n:Int):IsK (.tup [.str "is", .int n])
  | some:IsK (.tup [.str "some"])
  | both {a b:D}:IsK a->IsK b->IsK (.tup [.str "both", a,b])
  | left {a:D}:IsK a->IsK (.tup [.str "left", a])
  | right {a:D}:IsK a->IsK (.tup [.str "right", a])
  | way {ds:List D} {k:D}:(∀ d∈ds,IsK d)->IsK k->IsK (.tup [.str "way", .tup ds,k])
theorem e1q:∀ {ds:List D},(∀ d∈ds,d.data=true)->aWq ds=true
  | [],_=>rfl
  | d::ds,h=>by rw [aWq,h d (Ya ..),e1q λ e he=>h e (Yc _ he)];rfl
theorem IsK.data {d:D} (h:IsK d):d.data=true:=by
  induction h with
  | is n=>rfl
  | some=>rfl
  | both _ _ h1 h2=>simp only [D.data,aWq,h1,h2];rfl
  | left _ h1=>simp only [D.data,aWq,h1];rfl
  | right _ h1=>simp only [D.data,aWq,h1];rfl
  | way _ _ h1 h2=>simp only [D.data,aWq,e1q h1,h2];rfl
theorem k2q:∀ {ds es:List D},(∀ d∈ds,∀ e∈es,(ltD d e).isSome=true)->(b7q ds es).isSome=true
  | [],_,_=>by rw [b7q];rfl
  | _::_,[],_=>by rw [b7q];rfl
  | d::ds,e::es,h=>by
    rw [b7q]
    split
    . exact k2q λ d hd e he=>h d (Yc _ hd) e (Yc _ he)
    . exact h d (Ya ..) e (Ya ..)
theorem dSq {z z2:Str} {ds es:List D} (h:z=z2->(b7q ds es).isSome=true):(ltD (.tup (.str z::ds)) (.tup (.str z2::es))).isSome=true:=by
  rw [ltD,b7q]
  split
  . next c=>exact h (by simpa [eqD] using c)
  . rw [ltD];rfl
theorem g4q {a b:D} {ds es:List D} (h:(ltD a b).isSome=true) (h2:(b7q ds es).isSome=true):(b7q (a::ds) (b::es)).isSome=true:=by
  rw [b7q];split
  . exact h2
  . exact h
theorem IsK.lt {d:D} (h:IsK d):∀ {e:D},IsK e->(ltD d e).isSome=true:=by
  induction h with
  | is n=>intro e he;cases he<;>refine dSq λ c=>?_<;>first | (exact absurd c (by decide)) | (exact g4q rfl rfl)
  | some=>intro e he;cases he<;>refine dSq λ c=>?_<;>first | (exact absurd c (by decide)) | rfl
  | both _ _ h1 h2=>intro e he;cases he<;>refine dSq λ c=>?_<;>first | (exact absurd c (by decide)) | exact g4q (h1 ‹_›) (g4q (h2 ‹_›) rfl)
  | left _ h1=>intro e he;cases he<;>refine dSq λ c=>?_<;>first | (exact absurd c (by decide)) | exact g4q (h1 ‹_›) rfl
  | right _ h1=>intro e he;cases he<;>refine dSq λ c=>?_<;>first | (exact absurd c (by decide)) | exact g4q (h1 ‹_›) rfl
  | way _ _ h1 h2=>
    intro e he
    cases he with
    | way g1 g2=>exact dSq λ _=>g4q (by rw [ltD];exact k2q λ d hd e he=>h1 d hd (g1 e he)) (g4q (h2 g2) rfl)
    | _=>exact dSq λ c=>absurd c (by decide)
def ofA (d:D):Bool:=match d with
  | .tup (.str z::_)=>z=="is"||z=="some"||z=="both"
  | _=>false
theorem IsK.head {d:D} (h:IsK d):∃ z r,d=.tup (.str z::r)/\r.length<=2:=by
  cases h<;>exact ⟨_,_,rfl,by simp⟩
theorem uPq {ds:List D} {i:Int} {G:DV} {Q:DK} (h0:0<=i) (h1:i < ds.length) (h:∀ d∈ds,Q d G):atS ds i G Q:=by
  obtain ⟨n,rfl⟩:∃ n:Nat,i=n:=⟨i.toNat,by omega⟩
  have hl:n < ds.length:=by omega
  exact qMq (jCq (d:=ds[n]) (bFq (Yi hl)) (h _ (Yx hl)))
theorem hHq {α:Type} (a:Addr) (en:α->D) (P:α->Prop) {J:DIt} {G1:DV} {g:DTG} {te:DTE} {nt:Nat} {cap:List Nat} {ρ:DSt} {Q:DK} (hz:J.items.length<=1000) (held:∀ G,J.held G) (hF:Fd G1 a)
    (turn:∀ d G (R:DK),Fd G a->(∀ x G',(∃ G0,Fx a G G0/\Sub G0 G')->P x->R (en x) G')->g d (eRq nt cap ρ) G λ ρ3 G3=>te ρ3 G3 R)
    (q:∀ (xs:List α) G',xs.length=J.items.length->(∀ x∈xs,P x)->Fx a G1 G'->∀ p,G' p=none->Q (.ref p) (up G' p (.lst (xs.map en)))):iAq g te nt cap ρ Q J G1:=by
  refine e2q (λ i ds G'=>∃ xs:List α,ds=xs.map en/\xs.length=i/\(∀ x∈xs,P x)/\Fx a G1 G') (aZq (by omega)) ⟨[],rfl,rfl,by simp,.refl hF⟩ (λ _ _ _ _ _=>held _) ?_ ?_
  . rintro i d ds G' hd ⟨xs,rfl,hxl,hx,u⟩
    refine turn d G' _ u.fd λ x G2 ⟨G0,u2,s2⟩ hp=>⟨G0,s2,xs++[x],by simp,by simp [hxl],λ y hy=>?_,u.trans u2⟩
    rcases Yq.mp hy with hy | hy
    . exact hx y hy
    . simp at hy;subst hy;exact hp
  . rintro ds G' ⟨xs,rfl,hxl,hx,u⟩ p hp
    exact q xs G' hxl hx u p hp
theorem kUq {n:Nat}:∀ {ds:List D},(∀ d∈ds,d.dp<=n)->bMq ds<=n
  | [],_=>Nat.zero_le _
  | d::ds,h=>by
    have h1:=h d (Ya ..)
    have h2:=kUq λ e he=>h e (Yc _ he)
    rw [bMq];omega
theorem aN4q (z:Str):inL (.str z) [.str "is", .str "some", .str "both"]=(z=="is"||z=="some"||z=="both"):=by
  have e:∀ a b:Str,(a==b)=(b==a):=λ a b=>by rw [Bool.eq_iff_iff,beq_iff_eq,beq_iff_eq];exact eq_comm
  simp only [inL,YU,List.any_nil,eqF,Bool.or_false]
  rw [e "is" z,e "some" z,e "both" z,Bool.or_assoc]
theorem nYq {ds:List D} {x:D} {i:Nat} {P:D->Prop} (h:∀ d∈ds,P d) (hx:P x):∀ d∈ds.set i x,P d:=λ d hd=>by
  rcases List.mem_or_eq_of_mem_set hd with h1 | rfl
  . exact h d h1
  . exact hx
theorem t0q {a:Addr} {G G1 G0 G9:DV} (h:∀ b o,b≠a->G b=some o->G1 b=some o) (u:Fx a G1 G0) (s:Sub G0 G9):∃ G0,Fx a G G0/\Sub G0 G9:=by
  obtain ⟨x,y,rfl⟩:=u
  refine ⟨_,.mk (x:=x) (y:=y),λ b o e=>?_⟩
  by_cases c:b=a
  . subst c;rw [a5q] at e;exact s _ _ (by rw [a5q];exact e)
  . rw [aQq c] at e;exact s _ _ (by rw [aQq c];exact h b o c e)
end L3
namespace L2
open PySem PySem.W PyProof.Rows
def kEv (n:Nat) (lt:Nat->Nat->Bool) {α:Type} (P:α->Prop):KasT α->Prop
  | .ret a=>P a
  | .ask i j k=>i < n/\j < n/\kEv n lt P (k (lt i j))
theorem kEv.bind {n:Nat} {lt:Nat->Nat->Bool} {α β:Type} {P:α->Prop} {R:β->Prop} {f:α->KasT β} (h:∀ a,P a->kEv n lt R (f a)):∀ {t:KasT α},kEv n lt P t->kEv n lt R (t.bind f)
  | .ret a,g=>h a g
  | .ask _ _ k,g=>⟨g.1,g.2.1,kEv.bind h g.2.2⟩
theorem kEv.mono {n:Nat} {lt:Nat->Nat->Bool} {α:Type} {P R:α->Prop} (h:∀ a,P a->R a):∀ {t:KasT α},kEv n lt P t->kEv n lt R t
  | .ret a,g=>h a g
  | .ask _ _ k,g=>⟨g.1,g.2.1,kEv.mono h g.2.2⟩
theorem kEv.wp {n:Nat} {α:Type} {P:α->Prop} {cmp:Nat->Nat->(Bool->Shared->Prop)->Shared->Prop} {G:α->Shared->Prop} {s:Shared} {lt:Nat->Nat->Bool} (hc:∀ i j C,i < n->j < n->C (lt i j) s->cmp i j C s) (hG:∀ a,P a->G a s):∀ {t:KasT α},kEv n lt P t->t.kasWp cmp G s
  | .ret a,g=>hG a g
  | .ask i j k,g=>hc i j _ g.1 g.2.1 (kEv.wp hc hG g.2.2)
structure Swo (lt:Nat->Nat->Bool):Prop where
  irr:∀ a,lt a a=false
  neg:∀ a b c,lt a b=false->lt b c=false->lt a c=false
  asy:∀ a b,lt a b=true->lt b a=false
abbrev gt (p:Array Nat) (i:Nat):Nat:=p.getD i 0
def Up' (lt:Nat->Nat->Bool) (p:Array Nat) (k:Nat):Prop:=∀ i j,i < j->j < k->lt (gt p j) (gt p i)=false
def Dn' (lt:Nat->Nat->Bool) (p:Array Nat) (k:Nat):Prop:=∀ i j,i < j->j < k->lt (gt p i) (gt p j)=false
theorem qFq {p q:Array Nat} {i j:Nat} (h:p[i]?=q[j]?):gt p i=gt q j:=by
  unfold gt;rw [Array.getD_eq_getD_getElem?,Array.getD_eq_getD_getElem?,h]
section
variable {n:Nat} (hn:0 < n) {lt:Nat->Nat->Bool} (O:Swo lt)
include hn O
theorem pLq {p:Array Nat} {m:Nat} (hm:1<=m) (h:Up' lt p m) (c:lt (gt p m) (gt p (m - 1))=false):Up' lt p (m+1):=λ i j hij hj=>by
  by_cases e:j=m
  . subst e
    by_cases e2:i=j - 1
    . subst e2;exact c
    . exact O.neg _ _ _ c (h i (j - 1) (by omega) (by omega))
  . exact h i j hij (by omega)
theorem tTq {p:Array Nat} (hp:Pm n p):∀ f m,1<=m->Up' lt p m->kEv n lt (λ r=>Up' lt p r/\m<=r/\r<=m+f) (kas_asc p f m)
  | 0,m,_,h=>⟨h,Nat.le_refl _,by omega⟩
  | f+1,m,hm,h=>by
    refine ⟨bZq hp hn _,bZq hp hn _,?_⟩
    cases c:lt (p.getD m 0) (p.getD (m - 1) 0) with
    | true=>exact ⟨h,Nat.le_refl _,by omega⟩
    | false=>exact kEv.mono (λ r ⟨h1,h2,h3⟩=>⟨h1,by omega,by omega⟩) (tTq hp f (m+1) (by omega) (pLq hn O hm h c))
theorem i8q {p:Array Nat} (hp:Pm n p) {k:Nat} (hk:Up' lt p k):∀ f l r,l<=r->r<=k->r - l<=f->(∀ i,i < l->lt (gt p k) (gt p i)=false)->(∀ i,r<=i->i < k->lt (gt p k) (gt p i)=true) →
    kEv n lt (λ m=>m<=k/\(∀ i,i < m->lt (gt p k) (gt p i)=false)/\∀ i,m<=i->i < k->lt (gt p k) (gt p i)=true) (kas_place p k f l r)
  | 0,l,r,h1,h2,h3,h4,h5=>by
    have e:l=r:=by omega
    subst e
    exact ⟨h2,h4,h5⟩
  | f+1,l,r,h1,h2,h3,h4,h5=>by
    rw [kas_place]
    split
    . next c=>
      have e:l=r:=by omega
      subst e
      exact ⟨h2,h4,h5⟩
    . next c=>
      refine ⟨bZq hp hn _,bZq hp hn _,?_⟩
      cases d:lt (p.getD k 0) (p.getD ((l+r) / 2) 0) with
      | true=>
        refine i8q hp hk f l ((l+r) / 2) (by omega) (by omega) (by omega) h4 λ i hi hik=>?_
        by_cases e:i=(l+r) / 2
        . subst e;exact d
        . have z:=hk ((l+r) / 2) i (by omega) hik
          cases w:lt (gt p k) (gt p i) with
          | true=>rfl
          | false=>exact absurd d (by rw [O.neg _ _ _ w z];decide)
      | false=>
        refine i8q hp hk f ((l+r) / 2+1) r (by omega) (by omega) (by omega) (λ i hi=>?_) h5
        by_cases e:i=(l+r) / 2
        . subst e;exact d
        . exact O.neg _ _ _ d (hk i ((l+r) / 2) (by omega) (by omega))
theorem aC2q {p:Array Nat} {k m:Nat} (hs:k < p.size) (hm:m<=k) (h:Up' lt p k) (h4:∀ i,i < m->lt (gt p k) (gt p i)=false) (h5:∀ i,m<=i->i < k->lt (gt p k) (gt p i)=true):Up' lt (bubble p k (k - m)) (k+1):=by
  have e:∀ i,gt (bubble p k (k - m)) i=if i=m then gt p k else if m < i/\i<=k then gt p (i - 1) else gt p i:=λ i=>by
    have z:=getElem?_bubble hs (k - m) (by omega) i
    rw [show k - (k - m)=m by omega] at z
    by_cases c:i=m
    . rw [if_pos c] at z ⊢;exact qFq z
    . rw [if_neg c] at z ⊢
      by_cases d:m < i/\i<=k
      . rw [if_pos d] at z ⊢;exact qFq z
      . rw [if_neg d] at z ⊢;exact qFq z
  intro i j hij hj
  have low:∀ i,i < m->gt (bubble p k (k - m)) i=gt p i:=λ i hi=>by rw [e i,if_neg (by omega),if_neg (by omega)]
  have mid:gt (bubble p k (k - m)) m=gt p k:=by rw [e m,if_pos rfl]
  have high:∀ i,m < i->i<=k->gt (bubble p k (k - m)) i=gt p (i - 1):=λ i hi hk=>by rw [e i,if_neg (by omega),if_pos ⟨hi,hk⟩]
  rcases Nat.lt_trichotomy i m with c1 | c1 | c1
  . rw [low i c1]
    rcases Nat.lt_trichotomy j m with c2 | c2 | c2
    . rw [low j c2];exact h i j hij (by omega)
    . rw [c2,mid];exact h4 i c1
    . rw [high j c2 (by omega)];exact h i (j - 1) (by omega) (by omega)
  . subst c1
    rw [mid,high j hij (by omega)]
    exact O.asy _ _ (h5 (j - 1) (by omega) (by omega))
  . rw [high i c1 (by omega),high j (by omega) (by omega)]
    exact h (i - 1) (j - 1) (by omega) (by omega)
theorem u3q:∀ f (p:Array Nat) k,Pm n p->k+f=n->Up' lt p k->kEv n lt (λ q=>Pm n q/\Up' lt q n) (kas_bin f p k)
  | 0,p,k,hp,he,h=>⟨hp,by rw [<- he];exact h⟩
  | f+1,p,k,hp,he,h=>by
    refine kEv.bind (λ m ⟨h1,h2,h3⟩=>?_) (i8q hn O hp h k 0 k (by omega) (by omega) (by omega) (λ i hi=>by omega) (λ i hi hik=>by omega))
    have hsz:p.size=n:=by
      have:=hp.length_eq
      simpa using this
    exact u3q f _ (k+1) (uMq hp _ _) (by omega) (aC2q hn O (by omega) h1 h h2 h3)
omit hn O in
theorem eQq {p:Array Nat} (h:Pm n p):p.size=n:=by
  have:=h.length_eq
  simpa using this
omit hn O in
theorem e9q {p:Array Nat} {i j k:Nat} (hj:j<=p.size):gt (kas_rev p i j) k=if i<=k/\k < j then gt p (i+j - 1 - k) else gt p k:=by
  have z:=getElem?_mirror_all (i:=i) hj k
  by_cases c:i<=k/\k < j
  . rw [if_pos c] at z ⊢;exact qFq z
  . rw [if_neg c] at z ⊢;exact qFq z
structure Fall (n:Nat) (lt:Nat->Nat->Bool) (p:Array Nat) (m q:Nat):Prop where
  pm:Pm n p
  dn:Dn' lt p m
  le:m<=n
  q1:q+1<=m
  al:∀ i,m - (q+1)<=i->i < m->lt (gt p (m - 1)) (gt p i)=false
omit hn in
theorem lOq {p:Array Nat} {m i:Nat} (h:Dn' lt p m) (hi:i < m):lt (gt p i) (gt p (m - 1))=false:=by
  by_cases c:i=m - 1
  . subst c;exact O.irr _
  . exact h i (m - 1) (by omega) (by omega)
omit hn in
theorem lTq {p:Array Nat} {m q:Nat} (F:Fall n lt p m q):Dn' lt (kas_rev p (m - (q+1)) m) m:=λ i j hij hj=>by
  have hs:m<=p.size:=by rw [eQq F.pm];exact F.le
  have hq:=F.q1
  rw [e9q hs,e9q hs]
  by_cases c2:m - (q+1)<=j/\j < m
  . rw [if_pos c2]
    by_cases c1:m - (q+1)<=i/\i < m
    . rw [if_pos c1]
      exact O.neg _ _ _ (lOq O F.dn (by omega)) (F.al _ (by omega) (by omega))
    . rw [if_neg c1]
      exact F.dn _ _ (by omega) (by omega)
  . rw [if_neg c2,if_neg (by omega)]
    exact F.dn i j hij hj
omit hn in
theorem hZq {p:Array Nat} {m:Nat} (h:Dn' lt p m) {x:Nat} (hx:∀ i,i < m->lt (gt p i) x=false) (e:gt p m=x):Dn' lt p (m+1):=λ i j hij hj=>by
  by_cases c:j=m
  . subst c;rw [e];exact hx i hij
  . exact h i j hij (by omega)
theorem iDq:∀ f p m q,m+f<=n->Fall n lt p m q->kEv n lt (λ r:Array Nat × Nat × Nat=>Fall n lt r.1 r.2.1 r.2.2) (kas_desc f p m q)
  | 0,p,m,q,_,F=>F
  | f+1,p,m,q,hf,F=>by
    have hq:=F.q1
    have hs:m<=p.size:=by rw [eQq F.pm];exact F.le
    refine ⟨bZq F.pm hn _,bZq F.pm hn _,?_⟩
    cases c:lt (p.getD m 0) (p.getD (m - 1) 0) with
    | true=>
      have below:∀ i,i < m->lt (gt p i) (gt p m)=false:=λ i hi=>O.neg _ _ _ (lOq O F.dn hi) (O.asy _ _ c)
      by_cases d:q > 0
      . simp only [if_true,if_pos d]
        have er:∀ i,gt (kas_rev p (m - (q+1)) m) i=if m - (q+1)<=i/\i < m then gt p (m - (q+1)+m - 1 - i) else gt p i:=λ i=>e9q hs
        refine iDq f _ (m+1) 0 (by omega) ⟨dJq F.pm _ _,hZq O (lTq O F) (x:=gt p m) (λ i hi=>?_) (by rw [er,if_neg (by omega)]),by omega,by omega,λ i h1 h2=>?_⟩
        . rw [er]
          split
          . exact below _ (by omega)
          . exact below _ hi
        . rw [show i=m+1 - 1 by omega];exact O.irr _
      . simp only [if_true,if_neg d]
        refine iDq f _ (m+1) 0 (by omega) ⟨F.pm,hZq O F.dn below rfl,by omega,by omega,λ i h1 h2=>?_⟩
        rw [show i=m+1 - 1 by omega];exact O.irr _
    | false=>
      refine ⟨bZq F.pm hn _,bZq F.pm hn _,?_⟩
      cases d:lt (p.getD (m - 1) 0) (p.getD m 0) with
      | true=>exact F
      | false=>
        refine iDq f _ (m+1) (q+1) (by omega) ⟨F.pm,hZq O F.dn (x:=gt p m) (λ i hi=>O.neg _ _ _ (lOq O F.dn hi) d) rfl,by omega,by omega,λ i h1 h2=>?_⟩
        rw [show m+1 - 1=m by omega]
        by_cases e:i=m
        . subst e;exact O.irr _
        . exact O.neg _ _ _ c (F.al i (by omega) (by omega))
omit hn in
theorem aE6q {p:Array Nat} {m:Nat} (hs:m<=p.size) (h:Dn' lt p m):Up' lt (kas_rev p 0 m) m:=λ i j hij hj=>by
  rw [e9q hs,e9q hs,if_pos (by omega),if_pos (by omega)]
  exact h _ _ (by omega) (by omega)
theorem mQq {p:Array Nat} {m:Nat} (hp:Pm n p) (hm:m<=n) (h1:1<=m) (h:Dn' lt p m):kEv n lt (λ r:Nat × Array Nat=>Pm n r.2/\Up' lt r.2 r.1/\1<=r.1/\r.1<=n) (kas_tail3 m n p):=by
  unfold kas_tail3
  refine kEv.bind (P:=λ r=>Up' lt (kas_rev p 0 m) r/\m<=r/\r<=m+(n - m)) (R:=λ r:Nat × Array Nat=>Pm n r.2/\Up' lt r.2 r.1/\1<=r.1/\r.1<=n) (λ r ⟨a,b,c⟩=>?_) (tTq hn O (dJq hp 0 m) (n - m) m h1 (aE6q O (by rw [eQq hp];exact hm) h))
  exact ⟨dJq hp 0 m,a,by omega,by omega⟩
theorem g1q {p:Array Nat} {m:Nat} (hp:Pm n p) (hm:m+1<=n) (h:Dn' lt p (m+1)):kEv n lt (λ r:Nat × Array Nat=>Pm n r.2/\Up' lt r.2 r.1/\1<=r.1/\r.1<=n) (kas_descPart m n p):=by
  refine kEv.bind (λ r F=>?_) (iDq hn O (n - (m+1)) p (m+1) 0 (by omega) ⟨hp,h,hm,by omega,λ i h1 h2=>by rw [show i=m+1 - 1 by omega];exact O.irr _⟩)
  have hq:=F.q1
  split
  . exact mQq hn O (dJq F.pm _ _) F.le (by omega) (lTq O F)
  . exact mQq hn O F.pm F.le (by omega) F.dn
theorem pPq {p:Array Nat} (hp:Pm n p):∀ f m,1<=m->Up' lt p m->kEv n lt (λ r=>(Up' lt p r/\m<=r/\r<=m+f)/\(r < m+f->lt (gt p r) (gt p (r - 1))=true)) (kas_asc p f m)
  | 0,m,_,h=>⟨⟨h,Nat.le_refl _,by omega⟩,λ z=>by omega⟩
  | f+1,m,hm,h=>by
    refine ⟨bZq hp hn _,bZq hp hn _,?_⟩
    cases c:lt (p.getD m 0) (p.getD (m - 1) 0) with
    | true=>exact ⟨⟨h,Nat.le_refl _,by omega⟩,λ _=>c⟩
    | false=>exact kEv.mono (λ r ⟨⟨h1,h2,h3⟩,h4⟩=>⟨⟨h1,by omega,by omega⟩,λ z=>h4 (by omega)⟩) (pPq hp f (m+1) (by omega) (pLq hn O hm h c))
theorem rUq {p:Array Nat} (hp:Pm n p):kEv n lt (λ r:Nat × Array Nat=>Pm n r.2/\Up' lt r.2 r.1/\1<=r.1/\r.1<=n) (kas_count n p):=by
  refine kEv.bind (λ m ⟨⟨h1,h2,h3⟩,h4⟩=>?_) (pPq hn O hp (n - 1) 1 (by omega) (λ i j hij hj=>by omega))
  split
  . exact ⟨hp,h1,by omega,by omega⟩
  . next c=>
    have c':m≠n:=λ e=>c (by simp [e])
    have hlast:=h4 (by omega)
    split
    . next d=>
      refine ⟨bZq hp hn _,bZq hp hn _,?_⟩
      cases w:lt (p.getD 0 0) (p.getD (m - 1) 0) with
      | true=>exact ⟨hp,h1,by omega,by omega⟩
      | false=>
        have hs:m<=p.size:=by rw [eQq hp];omega
        have up_l:∀ i,i < m->lt (gt p (m - 1)) (gt p i)=false:=λ i hi=>by
          by_cases e:i=m - 1
          . subst e;exact O.irr _
          . exact h1 i (m - 1) (by omega) (by omega)
        have up_f:∀ i,i < m->lt (gt p i) (gt p 0)=false:=λ i hi=>by
          by_cases e:i=0
          . subst e;exact O.irr _
          . exact h1 0 i (by omega) hi
        have dn0:Dn' lt (kas_rev p 0 m) m:=λ i j hij hj=>by
          rw [e9q hs,e9q hs,if_pos (by omega),if_pos (by omega)]
          exact h1 _ _ (by omega) (by omega)
        refine g1q hn O (dJq hp 0 m) (by omega) (hZq O dn0 (x:=gt p m) (λ i hi=>?_) (by rw [e9q hs,if_neg (by omega)]))
        rw [e9q hs,if_pos (by omega)]
        exact O.neg _ _ _ (O.neg _ _ _ (up_f _ (by omega)) w) (O.asy _ _ hlast)
    . next d=>
      have e:m=1:=by omega
      subst e
      refine g1q hn O hp (by omega) λ i j hij hj=>?_
      rw [show i=0 by omega,show j=1 by omega]
      exact O.asy _ _ hlast
theorem oMq:kEv n lt (λ q=>Pm n q/\Up' lt q n) (kas_sort n):=by
  refine kEv.bind (λ r ⟨h1,h2,h3,h4⟩=>?_) (rUq hn O (p:=Y5 (Ys n)) (by exact .refl _))
  split
  . next c=>
    rw [show max r.1 1=r.1 by omega]
    exact u3q hn O (n - r.1) r.2 r.1 h1 (by omega) h2
  . next c=>
    have e:r.1=n:=by omega
    rw [e] at h2
    exact ⟨h1,h2⟩
end
end L2
namespace L2
open PySem PySem.W PyProof.Rows
theorem nBq (vs:List Value):(Ys vs.length).map (λ i=>vs.getD i Value.none)=vs:=by
  apply Y6
  . simp
  . intro i h1 h2
    simp [Yr,Yi h2]
section
variable {prog:Program} {w:World} {A:Around} {E:Value->Shared->Prop} {s:Shared}
theorem i2q {a:Addr} {vs:List Value} {n:Nat} {κ:SortKind} {lt:Nat->Nat->Bool} {P:PySem.Fin->Shared->Prop} (ho:s.heap.get? a=some (seqObj "list" vs.toArray n)) (h64:vs.length < 64)
    (hk:2<=vs.length->∀ Q:SortKind->Shared->Prop,Q κ { s with heap:=bNq s.heap a vs }->wpAny (model prog w) A (keyKind' vs.toArray) Q E { s with heap:=bNq s.heap a vs })
    (hc:∀ i j C,i < vs.length->j < vs.length->C (lt i j) { s with heap:=bNq s.heap a vs }->kas_ask prog w A κ vs i j C { s with heap:=bNq s.heap a vs })
    (O:Swo lt) (h:∀ p:Array Nat,Pm vs.length p->Up' lt p vs.length->P (.done (.ret .none)) { s with heap:=sortedHeap s.heap a vs (p.toList.map λ i=>vs.getD i Value.none).toArray }) :
    wpAny (model prog w) A (Builtin.«list.sort» ⟨[.ref a],[]⟩) P E s:=by
  rw [list_sort_plain]
  have ha:a < s.heap.objs.size:=Heap.lt_size ho
  refine wpAny_bind (listItems_at ho rfl ?_)
  refine wpAny_bind (listUpdate_at ho rfl ?_ (hsz:=by rw [Ye,sizeLine_eq];omega))
  obtain ⟨e1,ho1⟩:∃ e1,(s.heap.update a (Obj.mapSeq λ _=>#[])).get? a=some (seqObj "list" #[] e1):=⟨_,get?_update_seq ho (λ _=>#[])⟩
  refine wpAny_bind (seqEpoch_at ho1 rfl ?_)
  refine wpAny_bind (wpAny_newTuple ?_)
  refine wpAny_bind (wpAny_newList ?_)
  refine wpAny_holding ?_
  have ho6:(bNq s.heap a vs).get? a=some (seqObj "list" #[] e1):=by
    rw [Heap.get?_push_ne _ _ _ (by rw [size_push',Heap.size_update];exact Nat.ne_of_lt (Nat.lt_succ_of_lt ha)),Heap.get?_push_ne _ _ _ (by rw [Heap.size_update];exact Nat.ne_of_lt ha)]
    exact ho1
  show wpAny (model prog w) A _ P E { s with heap:=bNq s.heap a vs }
  dsimp only
  have hsz:vs.toArray.size=vs.length:=by simp
  by_cases h2:vs.toArray.size < 2
  . rw [if_pos h2,if_pos h2]
    refine wpAny_bind (wpAny_pure ?_)
    rw [StateT.run_pure]
    refine wpAny_bind (wpAny_pure ?_)
    dsimp only
    refine wpAny_bind (seqEpoch_at ho6 rfl ?_)
    have eo:(arrOf (SortSt.mk' general' (vs.toArray.zip vs.toArray) #[] 7 none)).map (·.2)=vs.toArray:=by
      show (vs.toArray.zip vs.toArray).map (·.2)=vs.toArray
      apply Array.toList_inj.mp
      rw [Array.toList_map,Array.toList_zip,List.map_snd_zip (Nat.le_refl _)]
    rw [eo]
    refine wpAny_bind (listUpdate_at ho6 rfl ?_ (hsz2:=by show vs.toArray.size<=_;rw [hsz,sizeLine_eq];omega))
    simp only [bne_self_eq_false,Bool.false_eq_true,if_false]
    have z:=h (Y5 (Ys vs.length)) (.refl _) (λ i j hij hj=>by omega)
    rw [show ((Y5 (Ys vs.length)).toList.map λ i=>vs.getD i Value.none)=vs from nBq vs] at z
    exact wpAny_pure z
  . rw [if_neg h2,if_neg h2]
    have hl2:2<=vs.length:=by omega
    refine wpAny_bind (hk hl2 _ ?_)
    refine wpAny_bind (wpAny_mono (kat_run (ks:=vs) (vs:=vs) (Q:=λ st' s'=>s'={ s with heap:=bNq s.heap a vs }/\failedOf st'=none/\∃ p:Array Nat,Pm vs.length p/\Up' lt p vs.length/\(arrOf st').map (·.2)=(p.toList.map λ i=>vs.getD i Value.none).toArray) (G:=λ p s'=>s'={ s with heap:=bNq s.heap a vs }/\Pm vs.length p/\Up' lt p vs.length) rfl hl2 h64 (λ p st' s' _ har hf g=>⟨g.1,hf,p,g.2.1,g.2.2,kat_snds rfl har⟩)
      (kEv.wp hc (λ p hp=>⟨rfl,hp⟩) (oMq (by omega) O))) ?_ λ _ _ e=>e)
    rintro ⟨⟨⟩,st'⟩ s' ⟨rfl,hf,p,hp,hup,eo⟩
    dsimp only at eo ⊢
    rw [eo]
    refine wpAny_bind (seqEpoch_at ho6 rfl ?_)
    refine wpAny_bind (listUpdate_at ho6 rfl ?_ (hsz2:=by show (p.toList.map λ i=>vs.getD i Value.none).toArray.size<=_;rw [Ye,Yf,hp.length_eq,Zb,sizeLine_eq];omega))
    rw [hf]
    simp only [bne_self_eq_false,Bool.false_eq_true,if_false]
    exact wpAny_pure (h p hp hup)
theorem h3q {l:Addr} {vs:List Value} {κ:SortKind} {lt:Nat->Nat->Bool} {Q:Value->Shared->Prop} (hl:s.heap.IsList l vs.toArray) (h64:vs.length < 64)
    (hk:2<=vs.length->∀ (A:Around) (E:Value->Shared->Prop) (R:SortKind->Shared->Prop),R κ { s with heap:=fNq s.heap vs }->wpAny (model prog w) A (keyKind' vs.toArray) R E { s with heap:=fNq s.heap vs })
    (hc:∀ (A':Around) i j C,A'.units<=A.units+5->i < vs.length->j < vs.length->C (lt i j) { s with heap:=fNq s.heap vs }->kas_ask prog w A' κ vs i j C { s with heap:=fNq s.heap vs })
    (O:Swo lt) (h:∀ p:Array Nat,Pm vs.length p->Up' lt p vs.length->Q (.ref (s.heap.objs.size+1)) { s with heap:=sortedAll s.heap vs (p.toList.map λ i=>vs.getD i Value.none).toArray }) :
    wpAny (model prog w) A (call (.builtin "sorted") [.ref l]) Q E s:=by
  refine Calls.call_function_entry kind_sorted plain_sorted entry_sorted (args_sorted1 _) ?_
  unfold Builtin.«sorted»
  refine wpAny_bind (m:=checkCount "sorted" 1 1 _) (wpAny_pure ?_)
  refine wpAny_bind (collect_list hl ?_ (hsz:=by rw [sizeLine_eq];omega))
  refine wpAny_bind (wpAny_newList ?_)
  have hsz:((s.heap.push (seqObj "list" #[] 0)).update s.heap.objs.size (Obj.mapSeq (·++vs.toArray))).objs.size=s.heap.objs.size+1:=by
    rw [Heap.size_update,size_push']
  have hoL:(((s.heap.push (seqObj "list" #[] 0)).update s.heap.objs.size (Obj.mapSeq (·++vs.toArray))).push (seqObj "list" vs.toArray 0)).get? (s.heap.objs.size+1)=some (seqObj "list" vs.toArray 0):=by
    rw [<- hsz];exact Heap.get?_push_size _ rfl
  show wpAny _ _ _ _ _ { s with heap:=((s.heap.push (seqObj "list" #[] 0)).update s.heap.objs.size (Obj.mapSeq (·++vs.toArray))).push (seqObj "list" vs.toArray 0) }
  rw [hsz]
  refine wpAny_bind (wpAny_holding (wpAny_call_entry slot_list_sort ⟨_,hoL,rfl⟩ entry_list_sort (i2q (κ:=κ) (lt:=lt) hoL h64 (λ h2 R hR=>hk h2 _ _ R hR) (λ i j C hi hj hC=>hc _ i j C ?_ hi hj hC) O λ p hp hup=>⟨_,rfl,?_⟩) (args_list_sort _)))
  . show A.units+1+1<=A.units+5
    omega
  exact wpAny_pure ⟨_,rfl,h p hp hup⟩
end
end L2
namespace L3
open PySem L2
section
variable {S:D->Prop} (hd:∀ a,S a->a.data=true)
include hd
end
structure Std (x y:D):Prop where
  e1:eqD x y=true->x=y
  e2:eqD y x=true->x=y
  r1:eqD x x=true
  tri:x=y\/ltD x y=some true\/ltD y x=some true
theorem b6q {x y:D} {r r':List D} (h:Std x y) (t:x=y->r=r'\/b7q r r'=some true\/b7q r' r=some true):x::r=y::r'\/b7q (x::r) (y::r')=some true\/b7q (y::r') (x::r)=some true:=by
  by_cases c:x=y
  . subst c
    rcases t rfl with h1 | h1 | h1
    . exact .inl (by rw [h1])
    . exact .inr (.inl (by rw [b7q,if_pos h.r1];exact h1))
    . exact .inr (.inr (by rw [b7q,if_pos h.r1];exact h1))
  . rcases h.tri with h1 | h1 | h1
    . exact absurd h1 c
    . exact .inr (.inl (by rw [b7q,if_neg λ z=>c (h.e1 z)];exact h1))
    . exact .inr (.inr (by rw [b7q,if_neg λ z=>c (h.e2 z)];exact h1))
theorem bXq {x y z:D} {r r' r'':List D} (e1:eqD x y=true->x=y) (e2:eqD y z=true->y=z) (e3:eqD x z=true->x=z) (irr:ltD x x≠some true) (t:ltD x y=some true->ltD y z=some true->ltD x z=some true)
    (t2:x=y->y=z->b7q r r'=some true->b7q r' r''=some true->b7q r r''=some true) (a1:b7q (x::r) (y::r')=some true) (a2:b7q (y::r') (z::r'')=some true):b7q (x::r) (z::r'')=some true:=by
  rw [b7q] at a1 a2 ⊢
  by_cases c:eqD x y=true
  . have q:=e1 c
    subst q
    rw [if_pos c] at a1
    by_cases c2:eqD x z=true
    . rw [if_pos c2] at a2 ⊢;exact t2 rfl (e2 c2) a1 a2
    . rw [if_neg c2] at a2 ⊢;exact a2
  . rw [if_neg c] at a1
    by_cases c2:eqD y z=true
    . have q:=e2 c2
      subst q
      rw [if_neg c];exact a1
    . rw [if_neg c2] at a2
      have w:=t a1 a2
      rw [if_neg λ q=>by have q':=e3 q;subst q';exact irr w];exact w
theorem bVq (z z2:Str):Std (.str z) (.str z2):=by
  have e:∀ a b:Str,eqD (.str a) (.str b)=true->(D.str a)=.str b:=λ a b h=>by
    rw [eqD,beq_iff_eq] at h;rw [h]
  refine ⟨e z z2,λ h=>(e z2 z h).symm,by simp [eqD],?_⟩
  rw [ltD,ltD]
  rcases Nat.lt_trichotomy 0 0 with h | h | h
  . omega
  . by_cases c:z.cps.toList < z2.cps.toList
    . exact .inr (.inl (by simp [c]))
    . by_cases d:z2.cps.toList < z.cps.toList
      . exact .inr (.inr (by simp [d]))
      . have q:z.cps.toList=z2.cps.toList:=List.le_antisymm (List.not_lt.mp d) (List.not_lt.mp c)
        obtain ⟨⟨a⟩⟩:=z
        obtain ⟨⟨b⟩⟩:=z2
        simp at q;subst q
        exact .inl rfl
  . omega
theorem qPq {a b c:Str} (h1:ltD (.str a) (.str b)=some true) (h2:ltD (.str b) (.str c)=some true):ltD (.str a) (.str c)=some true:=by
  rw [ltD] at h1 h2 ⊢
  have z1:=of_decide_eq_true (Option.some.inj h1)
  have z2:=of_decide_eq_true (Option.some.inj h2)
  rw [decide_eq_true (List.lt_trans z1 z2)]
theorem qGq (a:Str):ltD (.str a) (.str a)≠some true:=by
  rw [ltD];simp
theorem fYq (m n:Int):Std (.int m) (.int n):=by
  have e:∀ a b:Int,eqD (.int a) (.int b)=true->(D.int a)=.int b:=λ a b h=>by
    rw [eqD,beq_iff_eq] at h;rw [h]
  refine ⟨e m n,λ h=>(e n m h).symm,by simp [eqD],?_⟩
  rw [ltD,ltD]
  rcases Int.lt_trichotomy m n with h | h | h
  . exact .inr (.inl (by simp [h]))
  . exact .inl (by rw [h])
  . exact .inr (.inr (by simp [h]))
theorem cLq:∀ {ds:List D},aWq ds=true->b7q ds ds=some false
  | [],_=>rfl
  | d::ds,h=>by
    rw [aWq,Bool.and_eq_true] at h
    rw [b7q,if_pos (bWq h.1)]
    exact cLq h.2
theorem yLq {d:D} {ds:List D} (e:d=.tup ds) (h:d.data=true):ltD d d=some false:=by
  subst e
  rw [ltD];exact cLq (by simpa [D.data] using h)
theorem IsK.irr {d:D} (h:IsK d):ltD d d=Option.some false:=by
  have z:=h.data
  cases h<;>exact yLq rfl z
theorem eWq {S:D->Prop}:∀ {ds es:List D},(∀ d∈ds,∀ e,S e->eqD d e=true->d=e)->(∀ e∈es,S e)->cRq ds es=true->ds=es
  | [],[],_,_,_=>rfl
  | [],_::_,_,_,h=>by rw [cRq] at h;cases h;all_goals simp
  | _::_,[],_,_,h=>by rw [cRq] at h;cases h;all_goals simp
  | d::ds,e::es,h1,h2,h=>by
    rw [cRq,Bool.and_eq_true] at h
    rw [h1 d (Ya ..) e (h2 e (Ya ..)) h.1,eWq (λ x hx=>h1 x (Yc _ hx)) (λ x hx=>h2 x (Yc _ hx)) h.2]
theorem gOq {z z2:Str} {r r':List D} (h:eqD (.tup (.str z::r)) (.tup (.str z2::r'))=true):z=z2/\cRq r r'=true:=by
  rw [eqD,cRq,Bool.and_eq_true] at h
  exact ⟨by simpa [eqD] using h.1,h.2⟩
theorem fMq {a b:D} {r r':List D} (h:cRq (a::r) (b::r')=true):eqD a b=true/\cRq r r'=true:=by
  rw [cRq,Bool.and_eq_true] at h;exact h
theorem IsK.eq1 {a:D} (h:IsK a):∀ b,IsK b->eqD a b=true->a=b:=by
  induction h with
  | is n=>
    intro b hb e;cases hb<;>obtain ⟨e1,e2⟩:=gOq e<;>first | (exact absurd e1 (by decide)) | skip
    obtain ⟨e3,-⟩:=fMq e2
    rw [(fYq _ _).e1 e3]
  | some=>intro b hb e;cases hb<;>obtain ⟨e1,e2⟩:=gOq e<;>first | (exact absurd e1 (by decide)) | rfl
  | both _ _ h1 h2=>
    intro b hb e;cases hb<;>obtain ⟨e1,e2⟩:=gOq e<;>first | (exact absurd e1 (by decide)) | skip
    obtain ⟨e3,e4⟩:=fMq e2
    rw [h1 _ ‹_› e3,h2 _ ‹_› (fMq e4).1]
  | left _ h1=>
    intro b hb e;cases hb<;>obtain ⟨e1,e2⟩:=gOq e<;>first | (exact absurd e1 (by decide)) | skip
    rw [h1 _ ‹_› (fMq e2).1]
  | right _ h1=>
    intro b hb e;cases hb<;>obtain ⟨e1,e2⟩:=gOq e<;>first | (exact absurd e1 (by decide)) | skip
    rw [h1 _ ‹_› (fMq e2).1]
  | way _ _ h1 h2=>
    intro b hb e
    cases hb with
    | way g1 g2=>
      obtain ⟨-,e2⟩:=gOq e
      obtain ⟨e3,e4⟩:=fMq e2
      rw [eqD] at e3
      rw [eWq h1 g1 e3,h2 _ g2 (fMq e4).1]
    | _=>exact absurd (gOq e).1 (by decide)
theorem IsK.std {a b:D} (h:IsK a) (hb:IsK b) (t:a=b\/ltD a b=Option.some true\/ltD b a=Option.some true):Std a b:=⟨h.eq1 b hb,λ e=>(hb.eq1 a h e).symm,bWq h.data,t⟩
theorem cAq {xs ys:List D} (h:xs=ys\/b7q xs ys=some true\/b7q ys xs=some true):D.tup xs=D.tup ys\/ltD (.tup xs) (.tup ys)=some true\/ltD (.tup ys) (.tup xs)=some true:=by
  rw [ltD,ltD]
  rcases h with h | h | h
  . exact .inl (by rw [h])
  . exact .inr (.inl h)
  . exact .inr (.inr h)
theorem lVq:∀ {ds es:List D},(∀ d∈ds,IsK d/\∀ b,IsK b->d=b\/ltD d b=some true\/ltD b d=some true)->(∀ e∈es,IsK e)->ds=es\/b7q ds es=some true\/b7q es ds=some true
  | [],[],_,_=>.inl rfl
  | [],e::es,_,_=>.inr (.inl (by rw [b7q];simp))
  | d::ds,[],_,_=>.inr (.inr (by rw [b7q];simp))
  | d::ds,e::es,h1,h2=>by
    obtain ⟨k,t⟩:=h1 d (Ya ..)
    have k2:=h2 e (Ya ..)
    exact b6q (k.std k2 (t e k2)) λ _=>lVq (λ x hx=>h1 x (Yc _ hx)) (λ x hx=>h2 x (Yc _ hx))
theorem IsK.tri {a:D} (h:IsK a):∀ b,IsK b->a=b\/ltD a b=Option.some true\/ltD b a=Option.some true:=by
  induction h with
  | is n=>intro b hb;cases hb<;>refine cAq (b6q (bVq _ _) λ e=>?_)<;>first | (exact absurd (D.str.inj e) (by decide)) | exact b6q (fYq _ _) λ _=>.inl rfl
  | some=>intro b hb;cases hb<;>refine cAq (b6q (bVq _ _) λ e=>?_)<;>first | (exact absurd (D.str.inj e) (by decide)) | exact .inl rfl
  | both k1 k2 h1 h2=>intro b hb;cases hb<;>refine cAq (b6q (bVq _ _) λ e=>?_)<;>first | (exact absurd (D.str.inj e) (by decide)) | exact b6q (k1.std ‹_› (h1 _ ‹_›)) λ _=>b6q (k2.std ‹_› (h2 _ ‹_›)) λ _=>.inl rfl
  | left k1 h1=>intro b hb;cases hb<;>refine cAq (b6q (bVq _ _) λ e=>?_)<;>first | (exact absurd (D.str.inj e) (by decide)) | exact b6q (k1.std ‹_› (h1 _ ‹_›)) λ _=>.inl rfl
  | right k1 h1=>intro b hb;cases hb<;>refine cAq (b6q (bVq _ _) λ e=>?_)<;>first | (exact absurd (D.str.inj e) (by decide)) | exact b6q (k1.std ‹_› (h1 _ ‹_›)) λ _=>.inl rfl
  | way k1 k2 h1 h2=>
    intro b hb
    cases hb with
    | way g1 g2=>
      refine cAq (b6q (bVq _ _) λ _=>b6q ⟨λ e=>?_,λ e=>?_,?_,cAq (lVq (λ d hd=>⟨k1 d hd,h1 d hd⟩) g1)⟩ λ _=>b6q (k2.std g2 (h2 _ g2)) λ _=>.inl rfl)
      . rw [eqD] at e;rw [eWq (λ d hd=>(k1 d hd).eq1) g1 e]
      . rw [eqD] at e;rw [eWq (λ d hd=>(g1 d hd).eq1) k1 e]
      . exact bWq (by rw [D.data];exact e1q λ d hd=>(k1 d hd).data)
    | _=>
      refine cAq (b6q (bVq _ _) λ e=>?_)
      exact absurd (D.str.inj e) (by decide)
theorem aYq {z z2 z3:Str} {r r2 r3:List D} (t2:z=z2->z2=z3->b7q r r2=some true->b7q r2 r3=some true->b7q r r3=some true) (a1:ltD (.tup (.str z::r)) (.tup (.str z2::r2))=some true) (a2:ltD (.tup (.str z2::r2)) (.tup (.str z3::r3))=some true):ltD (.tup (.str z::r)) (.tup (.str z3::r3))=some true:=by
  rw [ltD] at a1 a2 ⊢
  exact bXq (bVq _ _).e1 (bVq _ _).e1 (bVq _ _).e1 (qGq _) qPq (λ e1 e2=>t2 (D.str.inj e1) (D.str.inj e2)) a1 a2
theorem eNq {r:List D} (h:b7q [] []=some true):b7q [] r=some true:=by rw [b7q] at h;cases h
theorem mRq:∀ {ds es fs:List D},(∀ d∈ds,IsK d/\∀ b c,IsK b->IsK c->ltD d b=some true->ltD b c=some true->ltD d c=some true)->(∀ e∈es,IsK e)->(∀ f∈fs,IsK f)->b7q ds es=some true->b7q es fs=some true->b7q ds fs=some true
  | [],es,fs,_,_,_,_,h=>by
    rw [b7q]
    cases fs with
    | nil=>cases es with
      | nil=>rw [b7q] at h;exact h
      | cons _ _=>rw [b7q] at h;cases h
    | cons _ _=>simp
  | d::ds,[],fs,_,_,_,h,_=>by rw [b7q] at h;cases h
  | d::ds,e::es,[],_,_,_,_,h=>by rw [b7q] at h;cases h
  | d::ds,e::es,f::fs,h1,h2,h3,a1,a2=>by
    obtain ⟨k,t⟩:=h1 d (Ya ..)
    have k2:=h2 e (Ya ..)
    have k3:=h3 f (Ya ..)
    exact bXq (k.eq1 e k2) (k2.eq1 f k3) (k.eq1 f k3) (by rw [k.irr];simp) (t e f k2 k3) (λ _ _=>mRq (λ x hx=>h1 x (Yc _ hx)) (λ x hx=>h2 x (Yc _ hx)) λ x hx=>h3 x (Yc _ hx)) a1 a2
theorem wZq {a:D} (h:IsK a):∀ b c,IsK b->IsK c->ltD a b=some true->ltD b c=some true->ltD a c=some true:=by
  induction h with
  | is n=>
    intro b c hb hc a1 a2
    cases hb<;>cases hc<;>refine aYq (λ e1 e2 b1 b2=>?_) a1 a2<;>first | (exact absurd e1 (by decide)) | (exact absurd e2 (by decide)) | skip
    refine bXq (fYq _ _).e1 (fYq _ _).e1 (fYq _ _).e1 (by rw [ltD];simp) (λ x y=>?_) (λ _ _ x _=>eNq x) b1 b2
    rw [ltD] at x y ⊢
    have x':=of_decide_eq_true (Option.some.inj x)
    have y':=of_decide_eq_true (Option.some.inj y)
    rw [decide_eq_true (by omega)]
  | some=>
    intro b c hb hc a1 a2
    cases hb<;>cases hc<;>refine aYq (λ e1 e2 b1 b2=>?_) a1 a2<;>first | (exact absurd e1 (by decide)) | (exact absurd e2 (by decide)) | exact eNq b1
  | both k1 k2 h1 h2=>
    intro b c hb hc a1 a2
    cases hb with
    | both g1 g2=>
      cases hc with
      | both g3 g4=>exact aYq (λ e1 e2 b1 b2=>bXq (k1.eq1 _ g1) (g1.eq1 _ g3) (k1.eq1 _ g3) (by rw [k1.irr];simp) (h1 _ _ g1 g3) (λ _ _=>bXq (k2.eq1 _ g2) (g2.eq1 _ g4) (k2.eq1 _ g4) (by rw [k2.irr];simp) (h2 _ _ g2 g4) λ _ _ x _=>eNq x) b1 b2) a1 a2
      | _=>
        refine aYq (λ e1 e2 b1 b2=>?_) a1 a2
        exact absurd e2 (by decide)
    | _=>
      cases hc<;>refine aYq (λ e1 e2 b1 b2=>?_) a1 a2<;>exact absurd e1 (by decide)
  | left k1 h1=>
    intro b c hb hc a1 a2
    cases hb with
    | left g1=>
      cases hc with
      | left g3=>exact aYq (λ e1 e2 b1 b2=>bXq (k1.eq1 _ g1) (g1.eq1 _ g3) (k1.eq1 _ g3) (by rw [k1.irr];simp) (h1 _ _ g1 g3) (λ _ _ x _=>eNq x) b1 b2) a1 a2
      | _=>
        refine aYq (λ e1 e2 b1 b2=>?_) a1 a2
        exact absurd e2 (by decide)
    | _=>
      cases hc<;>refine aYq (λ e1 e2 b1 b2=>?_) a1 a2<;>exact absurd e1 (by decide)
  | right k1 h1=>
    intro b c hb hc a1 a2
    cases hb with
    | right g1=>
      cases hc with
      | right g3=>exact aYq (λ e1 e2 b1 b2=>bXq (k1.eq1 _ g1) (g1.eq1 _ g3) (k1.eq1 _ g3) (by rw [k1.irr];simp) (h1 _ _ g1 g3) (λ _ _ x _=>eNq x) b1 b2) a1 a2
      | _=>
        refine aYq (λ e1 e2 b1 b2=>?_) a1 a2
        exact absurd e2 (by decide)
    | _=>
      cases hc<;>refine aYq (λ e1 e2 b1 b2=>?_) a1 a2<;>exact absurd e1 (by decide)
  | way k1 k2 h1 h2=>
    intro b c hb hc a1 a2
    cases hb with
    | way g1 g2=>
      cases hc with
      | way g3 g4=>
        have el:∀ {xs ys:List D},(∀ d∈xs,IsK d)->(∀ d∈ys,IsK d)->eqD (.tup xs) (.tup ys)=true->D.tup xs=.tup ys:=λ hx hy e=>by
          rw [eqD] at e;rw [eWq (λ d hd=>(hx d hd).eq1) hy e]
        refine aYq (λ e1 e2 b1 b2=>bXq (el k1 g1) (el g1 g3) (el k1 g3) ?_ (λ x y=>?_) (λ _ _=>bXq (k2.eq1 _ g2) (g2.eq1 _ g4) (k2.eq1 _ g4) (by rw [k2.irr];simp) (h2 _ _ g2 g4) λ _ _ x _=>eNq x) b1 b2) a1 a2
        . rw [ltD,cLq (e1q λ d hd=>(k1 d hd).data)];simp
        . rw [ltD] at x y ⊢
          exact mRq (λ d hd=>⟨k1 d hd,h1 d hd⟩) g1 g3 x y
      | _=>
        refine aYq (λ e1 e2 b1 b2=>?_) a1 a2
        exact absurd e2 (by decide)
    | _=>
      cases hc<;>refine aYq (λ e1 e2 b1 b2=>?_) a1 a2<;>exact absurd e1 (by decide)
theorem aU2q {ds:List D} (h:∀ d∈ds,IsK d) (hn:0 < ds.length):Swo λ i j=>(ltD (ds.getD (min i (ds.length - 1)) .non) (ds.getD (min j (ds.length - 1)) .non)).getD false:=by
  have k:∀ i,IsK (ds.getD (min i (ds.length - 1)) .non):=λ i=>by
    have hi:min i (ds.length - 1) < ds.length:=by omega
    rw [Yr,Yi hi]
    exact h _ (Yx hi)
  have asy:∀ {a b:D},IsK a->IsK b->ltD a b=some true->ltD b a≠some true:=λ ka kb h1 h2=>by
    have:=wZq ka _ _ kb ka h1 h2
    rw [ka.irr] at this;cases this
  have val:∀ {a b:D},IsK a->IsK b->((ltD a b).getD false=false ↔ a=b\/ltD b a=some true):=λ{a b} ka kb=>by
    obtain ⟨v,hv⟩:=Option.isSome_iff_exists.mp (ka.lt kb)
    rw [hv]
    constructor
    . intro e
      have e':v=false:=e
      subst e'
      rcases ka.tri b kb with h1 | h1 | h1
      . exact .inl h1
      . rw [hv] at h1;cases h1
      . exact .inr h1
    . rintro (rfl | h1)
      . rw [ka.irr] at hv;cases hv;rfl
      . cases v with
        | false=>rfl
        | true=>exact absurd h1 (asy ka kb hv)
  refine ⟨λ i=>?_,λ i j l h1 h2=>?_,λ i j h1=>?_⟩
  . exact (val (k i) (k i)).mpr (.inl rfl)
  . rw [val (k _) (k _)] at h1 h2 ⊢
    rcases h1 with h1 | h1
    . rw [h1];exact h2
    . rcases h2 with h2 | h2
      . rw [<- h2];exact .inr h1
      . exact .inr (wZq (k l) _ _ (k j) (k i) h2 h1)
  . rw [val (k _) (k _)]
    obtain ⟨v,hv⟩:=Option.isSome_iff_exists.mp ((k i).lt (k j))
    rw [hv] at h1
    have e:v=true:=h1
    subst e
    exact .inr hv
end L3
namespace L3
open PySem PySem.Spec PySem.W PyProof.Rows L2
theorem dXq {vs:List V} {its:List Value} (h:Vals vs its):∀ l:List Nat,(∀ i∈l,i < vs.length)->Vals (l.map λ i=>vs.getD i .non) (l.map λ i=>its.getD i Value.none)
  | [],_=>.nil
  | i::l,hl=>by
    have hi:=hl i (Ya ..)
    obtain ⟨u,h1,h2⟩:=h.get (Yi hi)
    rw [Yh,Yh]
    refine .cons ?_ (dXq h l λ j hj=>hl j (Yc _ hj))
    rw [Yr,Yr,Yi hi,h1]
    exact h2
theorem k0q {K:PySem.W.Frag} {H:Hp} {ds:List D} {vs:List V} (h:AbsL K H ds vs):∀ l:List Nat,(∀ i∈l,i < ds.length)->AbsL K H (l.map λ i=>ds.getD i .non) (l.map λ i=>vs.getD i .non)
  | [],_=>rfl
  | i::l,hl=>by
    have hi:=hl i (Ya ..)
    obtain ⟨v,h1,h2⟩:=h.get (Yi hi)
    refine ⟨_,_,rfl,?_,k0q h l λ j hj=>hl j (Yc _ hj)⟩
    dsimp only
    rw [Yr,Yr,Yi hi,h1]
    exact h2
def Srt (ds:List D):Prop:=ds.Pairwise λ a b=>ltD b a=some false
theorem aU1q {ds:List D} {p:Array Nat} (h:Pm ds.length p):ds.Perm (p.toList.map λ i=>ds.getD i .non):=by
  have e:(Ys ds.length).map (λ i=>ds.getD i .non)=ds:=by
    apply Y6
    . simp
    . intro i h1 h2
      simp [Yr,Yi h2]
  have:=h.map (λ i=>ds.getD i .non)
  rw [e] at this
  exact this.symm
abbrev ltI (ds:List D):Nat->Nat->Bool:=λ i j=>(ltD (ds.getD (min i (ds.length - 1)) .non) (ds.getD (min j (ds.length - 1)) .non)).getD false
theorem z7q {ds:List D} (hk:∀ d∈ds,IsK d) {p:Array Nat} (h:Pm ds.length p) (up:Up' (ltI ds) p ds.length):Srt (p.toList.map λ i=>ds.getD i .non):=by
  have hsz:=eQq h
  have kk:∀ i,i < ds.length->IsK (ds.getD i .non):=λ i hi=>by
    rw [Yr,Yi hi]
    exact hk _ (Yx hi)
  unfold Srt
  rw [List.pairwise_iff_getElem]
  intro i j hi hj hij
  rw [Yf,Array.length_toList] at hi hj
  have z:=up i j hij (by omega)
  have gi:gt p i=p.toList[i]'(by simpa using hi):=by simp [gt,Array.getD,hi]
  have gj:gt p j=p.toList[j]'(by simpa using hj):=by simp [gt,Array.getD,hj]
  have hn:0 < ds.length:=by omega
  have li:gt p i < ds.length:=bZq h hn i
  have lj:gt p j < ds.length:=bZq h hn j
  simp only [ltI] at z
  rw [show min (gt p j) (ds.length - 1)=gt p j from Nat.min_eq_left (Nat.le_sub_one_of_lt lj),show min (gt p i) (ds.length - 1)=gt p i from Nat.min_eq_left (Nat.le_sub_one_of_lt li)] at z
  rw [Y0,Y0,<- gi,<- gj]
  obtain ⟨v,hv⟩:=Option.isSome_iff_exists.mp ((kk _ lj).lt (kk _ li))
  rw [hv] at z ⊢
  have e:v=false:=z
  rw [e]
section
variable {X:Cx}
end
end L3
namespace L3
open PySem PySem.Spec L2 PySem.SeqAt
open AutoSeq1 (wpAny_loadPart')
open MeetsSeq MeetsSeq2 MeetsSeq3 SeqRoads2
theorem p4q (l b:Addr) (items items2:Array Value) (n n2:Nat) (dd dd2:Option Addr) (sl sl2:Array (Option Value)) (e c:Nat->Bool) (k:Nat) :
    ∀ i:Nat,min items.size items2.size - i=k->i<=min items.size items2.size->Meets (Builtin.«list.__eq__.loop» ⟨[.ref l,.ref b,rawInt i,rawInt 0],[]⟩)
      (λ A R s=>s.heap.get? l=some { cls:=.type "list", dict:=dd,data:=.seq items n,slots:=sl }/\s.heap.get? b=some { cls:=.type "list", dict:=dd2,data:=.seq items2 n2,slots:=sl2 } ∧
        (∀ j (h1:j < items.size) (h2:j < items2.size),EqAt A.in1 s items[j] items2[j] (e j)) ∧
        (∀ j (h1:j < items.size) (h2:j < items2.size),(∀ i,i < j->e i=true)->e j=false->LtAt A.in1 s items[j] items2[j] (c j))/\(∀ j,j < i->e j=true) ∧
        R (.ok (.ret (.bool (iJq e c (decide (items.size < items2.size)) k i)))) s):=by
  induction k with
  | zero=>
    intro i hk hle prog w A R s h
    obtain ⟨hp,g,d,tk,os⟩:=s;obtain ⟨hl,hb,he,hc,hi,h⟩:=h
    wp_walk using wpAny_loadPart' hl,wpAny_loadPart' hb
    have fin:wpAny (model prog w) A.in1 (do
        let x ← Builtin.List.listItems (Value.ref l)
        let y ← Builtin.List.listItems (Value.ref b)
        ret (Value.bool (decide (x.size < y.size)))) (λ fin s'=>match fin with
          | .done f=>R (.ok f) s'
          | .again c'=>c'.quiet=true/\codeAny (model prog w) A c' R s') (λ e s'=>R (Except.error e) s') { heap:=hp,gens:=g,drawn:=d,toks:=tk,os:=os }:=by
      refine wpAny_bind (PyProof.Rows.listItems_at hl rfl (wpAny_bind (PyProof.Rows.listItems_at hb rfl ?_)))
      wp_walk
      exact h
    rcases (by omega:items.size<=i\/items2.size<=i) with q | q
    . have hi1:items[((i:Nat):Int).toNat]?=none:=by simp;omega
      rw [hi1]
      exact fin
    . have hi2:items2[((i:Nat):Int).toNat]?=none:=by simp;omega
      rw [hi2]
      cases items[((i:Nat):Int).toNat]?<;>exact fin
  | succ k ih=>
    intro i hk hle prog w A R s h
    obtain ⟨hp,g,d,tk,os⟩:=s;obtain ⟨hl,hb,he,hc,hi,h⟩:=h
    wp_walk using wpAny_loadPart' hl,wpAny_loadPart' hb
    have hlt:i < items.size:=by omega
    have hlt2:i < items2.size:=by omega
    have hi1:items[((i:Nat):Int).toNat]?=some items[i]:=by simp [hlt]
    have hi2:items2[((i:Nat):Int).toNat]?=some items2[i]:=by simp [hlt2]
    have hcc:((i:Int)+1)=((i+1:Nat):Int):=by push_cast;rfl
    rw [iJq] at h
    rw [hi1,hi2]
    refine wpAny_bind (he i hlt hlt2 prog w _ _ ?_)
    cases hb':e i with
    | true=>
      rw [hb',if_pos rfl] at h
      wp_walk
      rw [hcc]
      exact ⟨plainId_quiet plain_eq_loop _,codeAny_builtin entry_eq_loop (by
        rw [Around.under_plainId plain_eq_loop _]
        exact ih (i+1) (by omega) (by omega) prog w A R _ ⟨hl,hb,he,hc,λ j hj=>by rcases Nat.lt_succ_iff_lt_or_eq.mp hj with z | rfl;exact hi j z;exact hb',h⟩)⟩
    | false=>
      rw [hb',if_neg (by decide)] at h
      simp only [Bool.false_eq_true,if_false]
      refine wpAny_bind (PyProof.Rows.listItems_at hl rfl (wpAny_bind (PyProof.Rows.listItems_at hb rfl ?_)))
      rw [hi1,hi2]
      refine wpAny_bind (hc i hlt hlt2 hi hb' prog w _ _ ?_)
      wp_walk
      exact h
theorem o4q (l b:Addr) (items items2:Array Value) (n n2:Nat) (dd dd2:Option Addr) (sl sl2:Array (Option Value)) (e c:Nat->Bool) :
    Meets (Builtin.«list.__lt__» ⟨[.ref l,.ref b],[]⟩)
      (λ A R s=>s.heap.get? l=some { cls:=.type "list", dict:=dd,data:=.seq items n,slots:=sl }/\s.heap.get? b=some { cls:=.type "list", dict:=dd2,data:=.seq items2 n2,slots:=sl2 } ∧
        (∀ j (h1:j < items.size) (h2:j < items2.size),EqAt A.in1 s items[j] items2[j] (e j)) ∧
        (∀ j (h1:j < items.size) (h2:j < items2.size),(∀ i,i < j->e i=true)->e j=false->LtAt A.in1 s items[j] items2[j] (c j)) ∧
        R (.ok (.ret (.bool (iJq e c (decide (items.size < items2.size)) (min items.size items2.size) 0)))) s):=by
  intro prog w A R s h
  obtain ⟨hp,g,d,tk,os⟩:=s;obtain ⟨hl,hb,he,hc,h⟩:=h
  have f3:=AutoSeq1.sub_list_list
  wp_walk using wpAny_loadPart' hl,wpAny_loadPart' hb
  exact ⟨plainId_quiet plain_eq_loop _,codeAny_builtin entry_eq_loop (by
    rw [Around.under_plainId plain_eq_loop _]
    exact p4q l b items items2 n n2 dd dd2 sl sl2 e c _ 0 rfl (Nat.zero_le _) prog w A R _ ⟨hl,hb,he,hc,λ j hj=>by omega,by simpa using h⟩)⟩
open PyProof.Rows in
theorem kTq {prog:Program} {w:World} {E:Value->Shared->Prop} {A:Around} {s:Shared} {l b:Addr} {items items2:Array Value} {e c:Nat->Bool} {Q:Bool->Shared->Prop} (hl:s.heap.IsList l items) (hb:s.heap.IsList b items2) (hu:A.units < cLine)
    (he:∀ j (h1:j < items.size) (h2:j < items2.size),EqAt A.in1 s items[j] items2[j] (e j))
    (hc:∀ j (h1:j < items.size) (h2:j < items2.size),(∀ i,i < j->e i=true)->e j=false->LtAt A.in1 s items[j] items2[j] (c j))
    (h:Q (iJq e c (decide (items.size < items2.size)) (min items.size items2.size) 0) s):wpAny (model prog w) A (oneLt' true (.ref l) (.ref b)) Q E s:=by
  obtain ⟨⟨cls,dd,data,sl⟩,ho,hc1,n,hd⟩:=id hl
  obtain ⟨⟨cls2,dd2,data2,sl2⟩,ho2,hc2,n2,hd2⟩:=id hb
  simp only at hc1 hd hc2 hd2
  subst hc1 hd hc2 hd2
  rw [oneLt'_eq]
  simp only [if_true]
  refine wpAny_bind (wpAny_cRoomFor hu ?_)
  refine wpAny_bind (wpAny_callSpecialIfBound?_slot ⟨_,ho,rfl⟩ F.slot_list_lt (call_meets F.slot_list_lt ⟨_,ho,rfl⟩ F.entry_list_lt (F.args_list_lt_2 _ _) (o4q l b items items2 n n2 dd dd2 sl sl2 e c) ⟨ho,ho2,he,hc,?_⟩))
  exact wpAny_truthy_bool h
def D.isS:D->Bool
  | .str _=>true
  | _=>false
mutual
def flD:D->List D
  | .tup ds=>flT ds
  | d=>[d]
def flT:List D->List D
  | []=>[.int 0]
  | d::ds=>if d.isS then d::flC ds else .int 1::(flD d++flI ds)
def flC:List D->List D
  | []=>[]
  | d::ds=>flD d++flC ds
def flI:List D->List D
  | []=>[.int 0]
  | d::ds=>.int 1::(flD d++flI ds)
end
def Cl (a b:D):Prop:=∀ r r':List D,b7q (flD a++r) (flD b++r')=if eqD a b then b7q r r' else ltD a b
def ClC (xs ys:List D):Prop:=∀ r r':List D,b7q (flC xs++r) (flC ys++r')=if cRq xs ys then b7q r r' else b7q xs ys
theorem ClC.nil:ClC [] []:=λ r r'=>by simp [flC,cRq]
theorem ClC.cons {x y:D} {xs ys:List D} (h:Cl x y) (t:ClC xs ys):ClC (x::xs) (y::ys):=λ r r'=>by
  rw [flC,flC,Yo,Yo,h,t,cRq,b7q]
  cases eqD x y<;>simp
theorem Cl.one {x y:D} (hx:flD x=[x]) (hy:flD y=[y]):Cl x y:=λ r r'=>by
  rw [hx,hy,List.singleton_append,List.singleton_append,b7q]
theorem Cl.tup {z z':Str} {xs ys:List D} (h:z=z'->ClC xs ys):Cl (.tup (.str z::xs)) (.tup (.str z'::ys)):=λ r r'=>by
  rw [flD,flD,flT,flT,if_pos (show (D.str z).isS=true from rfl),if_pos (show (D.str z').isS=true from rfl),Yv,Yv,ltD,eqD,cRq]
  simp only [b7q]
  cases c:eqD (.str z) (.str z') with
  | false=>simp
  | true=>rw [if_pos rfl,h (by simpa [eqD] using c) r r'];simp
theorem oEq:∀ {xs ys:List D},(∀ x∈xs,∀ y∈ys,Cl x y)->∀ r r',b7q (flI xs++r) (flI ys++r')=if cRq xs ys then b7q r r' else b7q xs ys
  | [],[],_,r,r'=>by simp [flI,cRq,b7q,eqD]
  | [],y::ys,_,r,r'=>by simp [flI,cRq,b7q,eqD,ltD]
  | x::xs,[],_,r,r'=>by simp [flI,cRq,b7q,eqD,ltD]
  | x::xs,y::ys,h,r,r'=>by
    rw [flI,flI,Yv,Yv,b7q,if_pos (by simp [eqD]),Yo,Yo,h x (Ya ..) y (Ya ..),oEq (λ a ha b hb=>h a (Yc _ ha) b (Yc _ hb)),cRq,b7q]
    cases eqD x y<;>simp
theorem o7q {ds:List D} (h:∀ d∈ds,IsK d):flD (.tup ds)=flI ds:=by
  rw [flD]
  cases ds with
  | nil=>rw [flT,flI]
  | cons d ds=>
    rw [flT,flI]
    obtain ⟨z,r,e,_⟩:=(h d (Ya ..)).head
    rw [e];rfl
theorem IsK.cl {a:D} (h:IsK a):∀ {b:D},IsK b->Cl a b:=by
  induction h with
  | is n=>intro b hb;cases hb<;>refine Cl.tup λ e=>?_<;>first | (exact absurd e (by decide)) | exact .cons (.one rfl rfl) .nil
  | some=>intro b hb;cases hb<;>refine Cl.tup λ e=>?_<;>first | (exact absurd e (by decide)) | exact .nil
  | both _ _ h1 h2=>intro b hb;cases hb<;>refine Cl.tup λ e=>?_<;>first | (exact absurd e (by decide)) | exact .cons (h1 ‹_›) (.cons (h2 ‹_›) .nil)
  | left _ h1=>intro b hb;cases hb<;>refine Cl.tup λ e=>?_<;>first | (exact absurd e (by decide)) | exact .cons (h1 ‹_›) .nil
  | right _ h1=>intro b hb;cases hb<;>refine Cl.tup λ e=>?_<;>first | (exact absurd e (by decide)) | exact .cons (h1 ‹_›) .nil
  | way k1 _ h1 h2=>
    intro b hb
    cases hb with
    | way g1 g2=>
      refine Cl.tup λ _=>.cons (λ r r'=>?_) (.cons (h2 g2) .nil)
      rw [o7q k1,o7q g1,oEq λ x hx y hy=>h1 x hx (g1 y hy),eqD,ltD]
    | _=>refine Cl.tup λ e=>?_;exact absurd e (by decide)
theorem IsK.fl_lt {a b:D} (h:IsK a) (hb:IsK b):b7q (flD a) (flD b)=ltD a b:=by
  have z:=h.cl hb [] []
  rw [Yt,Yt] at z
  rw [z]
  cases c:eqD a b with
  | false=>rfl
  | true=>rw [h.eq1 b hb c,hb.irr];rfl
mutual
theorem bQq:∀ {d:D},d.data=true->aWq (flD d)=true
  | .tup ds,h=>by rw [flD];exact tGq (by simpa [D.data] using h)
  | .int _,_=>rfl
  | .str _,_=>rfl
  | .non,_=>rfl
  | .bl _,_=>rfl
theorem tGq:∀ {ds:List D},aWq ds=true->aWq (flT ds)=true
  | [],_=>rfl
  | d::ds,h=>by
    rw [aWq,Bool.and_eq_true] at h
    rw [flT]
    split
    . rw [aWq,h.1,m4q h.2];rfl
    . rw [aWq,e5q (bQq h.1) (mZq h.2)];rfl
theorem m4q:∀ {ds:List D},aWq ds=true->aWq (flC ds)=true
  | [],_=>rfl
  | d::ds,h=>by
    rw [aWq,Bool.and_eq_true] at h
    rw [flC];exact e5q (bQq h.1) (m4q h.2)
theorem mZq:∀ {ds:List D},aWq ds=true->aWq (flI ds)=true
  | [],_=>rfl
  | d::ds,h=>by
    rw [aWq,Bool.and_eq_true] at h
    rw [flI,aWq,e5q (bQq h.1) (mZq h.2)];rfl
theorem e5q:∀ {ds es:List D},aWq ds=true->aWq es=true->aWq (ds++es)=true
  | [],_,_,h=>h
  | d::ds,es,h1,h2=>by
    rw [aWq,Bool.and_eq_true] at h1
    rw [Yv,aWq,h1.1,e5q h1.2 h2];rfl
end
theorem IsK.fl_inj {a b:D} (h:IsK a) (hb:IsK b) (e:flD a=flD b):a=b:=by
  have z:=cLq (bQq h.data)
  rcases h.tri b hb with h1 | h1 | h1
  . exact h1
  . rw [<- h.fl_lt hb,<- e,z] at h1;cases h1
  . rw [<- hb.fl_lt h,<- e,z] at h1;cases h1
def IS (d:D):Prop:=(∃ n,d=.int n)\/∃ z,d=.str z
theorem IS.eq {d e:D} (h:IS d) (g:IS e) (q:eqD d e=true):d=e:=by
  rcases h with ⟨n,rfl⟩ | ⟨z,rfl⟩<;>rcases g with ⟨m,rfl⟩ | ⟨y,rfl⟩<;>simp [eqD] at q<;>rw [q]
theorem r7q:∀ {ds:List D},(∀ d∈ds,∀ x∈flD d,IS x)->∀ x∈flI ds,IS x
  | [],_,x,hx=>by simp [flI] at hx;exact .inl ⟨_,hx⟩
  | d::ds,h,x,hx=>by
    rw [flI,Yd,Yq] at hx
    rcases hx with rfl | hx | hx
    . exact .inl ⟨_,rfl⟩
    . exact h d (Ya ..) x hx
    . exact r7q (λ e he=>h e (Yc _ he)) x hx
theorem tUq:∀ {ds:List D},(∀ d∈ds,∀ x∈flD d,IS x)->∀ x∈flC ds,IS x
  | [],_,x,hx=>by simp [flC] at hx
  | d::ds,h,x,hx=>by
    rw [flC,Yq] at hx
    rcases hx with hx | hx
    . exact h d (Ya ..) x hx
    . exact tUq (λ e he=>h e (Yc _ he)) x hx
theorem d5q {z:Str} {ds:List D} (h:∀ d∈ds,∀ x∈flD d,IS x):∀ x∈flD (.tup (.str z::ds)),IS x:=λ x hx=>by
  rw [flD,flT,if_pos (show (D.str z).isS=true from rfl),Yd] at hx
  rcases hx with rfl | hx
  . exact .inr ⟨_,rfl⟩
  . exact tUq h x hx
theorem IsK.fl_IS {a:D} (h:IsK a):∀ x∈flD a,IS x:=by
  induction h with
  | is n=>exact d5q λ d hd x hx=>by simp at hd;subst hd;simp [flD] at hx;exact .inl ⟨_,hx⟩
  | some=>exact d5q λ d hd=>by simp at hd
  | both _ _ h1 h2=>exact d5q λ d hd x hx=>by simp at hd;rcases hd with rfl | rfl;exact h1 x hx;exact h2 x hx
  | left _ h1=>exact d5q λ d hd x hx=>by simp at hd;subst hd;exact h1 x hx
  | right _ h1=>exact d5q λ d hd x hx=>by simp at hd;subst hd;exact h1 x hx
  | way k1 _ h1 h2=>
    refine d5q λ d hd x hx=>?_
    simp at hd
    rcases hd with rfl | rfl
    . rw [o7q k1] at hx;exact r7q h1 x hx
    . exact h2 x hx
theorem IS.dp:∀ {ds:List D},(∀ d∈ds,IS d)->bMq ds=0
  | [],_=>rfl
  | d::ds,h=>by
    rw [bMq,IS.dp λ e he=>h e (Yc _ he)]
    rcases h d (Ya ..) with ⟨n,rfl⟩ | ⟨z,rfl⟩<;>rfl
theorem IsK.fl_eq {a b:D} (h:IsK a) (hb:IsK b):cRq (flD a) (flD b)=eqD a b:=by
  cases c:eqD a b with
  | true=>rw [h.eq1 b hb c];exact gEq (bQq hb.data)
  | false=>
    cases c2:cRq (flD a) (flD b) with
    | false=>rfl
    | true=>
      have e:=eWq (S:=IS) (λ d hd e he=>(h.fl_IS d hd).eq he) hb.fl_IS c2
      rw [h.fl_inj hb e,bWq hb.data] at c;cases c
end L3
namespace L3
open PySem PySem.Spec PySem.W PyProof.Rows L2 PySem.SeqAt
section
variable {X:Cx} {pins:List (Addr × Obj)} {σ:L2.St} {H:Hp} {s:Shared}
theorem mVq (I:Inv X pins σ H s) {prog:Program} {w:World} {A:Around} {E:Value->Shared->Prop} {ds es:List D} {l m:Addr} {vs us:List V} {b:Bool} {Q:Bool->Shared->Prop} (s1:SqL X.K H l vs) (s2:SqL X.K H m us) (r1:AbsL X.K H ds vs) (r2:AbsL X.K H es us) (hd:aWq ds=true) (he:aWq es=true) (hu:A.units+1+bMq ds < cLine) (h:b7q ds es=some b) (q:Q b s):wpAny (model prog w) A (keyLt' oneType' (.ref l) (.ref m)) Q E s:=by
  rw [keyLt'_oneType]
  obtain ⟨its,rr,t1,_⟩:=I.list s1
  obtain ⟨its2,rr2,t2,_⟩:=I.list s2
  have l1:=rr.length
  have l2:=rr2.length
  have l3:=r1.len
  have l4:=r2.len
  refine kTq (e:=eqJ ds es) (c:=λ _=>b) t1.isList t2.isList (by omega) (λ j h1 h2=>?_) (λ j h1 h2 hi hj=>?_) ?_
  . have q:=eDq I ds es A.in1 vs us its its2 hd he r1 r2 rr rr2 (by show A.units+1+bMq ds < cLine;omega) j (by simpa using h1) (by simpa using h2)
    simpa using q
  . have j1:j < its.length:=by simpa using h1
    have j2:j < its2.length:=by simpa using h2
    obtain ⟨d,e,g1,g2,g3⟩:=qCq h (by omega) (by omega) hi hj
    have q:=pKq I ds es A.in1 vs us its its2 hd he r1 r2 rr rr2 (by show A.units+1+bMq ds < cLine;omega) j j1 j2 d e b g1 g2 g3
    simpa using q
  . rw [Ye,Ye,<- l1,<- l2,l3,l4,r6q h];exact q
def FlK (K:PySem.W.Frag) (H:Hp) (z:Addr × D):Prop:=IsK z.2/\∃ us,SqL K H z.1 us/\AbsL K H (flD z.2) us
def aN8q (K:PySem.W.Frag):List V->Hp->VK->Prop:=λ xs H Q=>∃ (l:Addr) (zs:List (Addr × D)),xs=[.ref l]/\SqL K H l (zs.map λ z=>V.ref z.1)/\zs.length < 64/\(∀ z∈zs,FlK K H z) ∧
  ∀ zs':List (Addr × D),zs.Perm zs'->Srt (zs'.map (·.2))->∀ p,H p=none->Q (.ref p) (upd H p (.lst (zs'.map λ z=>V.ref z.1)))
theorem e7q:∀ {zs:List (Addr × D)} {its:List Value},Vals (zs.map λ z=>V.ref z.1) its->its=zs.map λ z=>Value.ref z.1
  | [],_,h=>by cases h;rfl
  | z::zs,_,h=>by
    cases h with
    | cons h t=>cases h;rw [e7q t];rfl
theorem dFq {α β:Type} {f:α->β} {xs:List α} {i:Nat} {d:β} {x:α} (h:xs[i]?=some x):(xs.map f).getD i d=f x:=by
  rw [Yr,Yw,h];rfl
theorem pVq (hu:X.A.units+200 < cLine):CallR X (.builtin "sorted") (aN8q X.K):=by
  intro pins s σ H xs us Q I r h
  obtain ⟨l,zs,rfl,hq,hl,hz,q⟩:=h
  obtain ⟨u,rfl,rx⟩:=gQq r
  cases rx
  obtain ⟨its,rv,pl,_⟩:=I.list hq
  have eits:=e7q rv
  have hlen:its.length=zs.length:=by rw [eits,Yf]
  have hk:∀ d∈zs.map (·.2),IsK d:=λ d hd=>by obtain ⟨z,hz',rfl⟩:=Yl.mp hd;exact (hz z hz').1
  have I6:Inv X pins σ H { s with heap:=fNq s.heap its }:=I.kept (t':=s.toks) λ b o e=>jNq e
  have fin:∀ p:Array Nat,Pm its.length p->Srt (p.toList.map λ i=>(zs.map (·.2)).getD i .non)->EP X pins σ Q (.ref (s.heap.objs.size+1)) { s with heap:=sortedAll s.heap its (p.toList.map λ i=>its.getD i Value.none).toArray }:=λ p hp hsrt=>by
    have hm:∀ i∈p.toList,i < its.length:=λ i hi=>YE.mp (hp.mem_iff.mp hi)
    obtain ⟨c,hcc⟩:=sortedAll_at s.heap its (p.toList.map λ i=>its.getD i Value.none).toArray
    have sl:=sizeLine_eq
    have zl:=hp.length_eq
    rw [Zb] at zl
    have gz:∀ i∈p.toList,zs[i]?=some (zs.getD i (0,.non)):=λ i hi=>by
      have hi':i < zs.length:=by have:=hm i hi;omega
      rw [Yr,Yi hi'];rfl
    have e1:(p.toList.map λ i=>(zs.map λ z=>V.ref z.1).getD i .non)=(p.toList.map λ i=>zs.getD i (0,.non)).map λ z=>V.ref z.1:=by
      rw [Yy];exact List.map_congr_left λ i hi=>dFq (gz i hi)
    have e2:(p.toList.map λ i=>(zs.map (·.2)).getD i .non)=(p.toList.map λ i=>zs.getD i (0,.non)).map (·.2):=by
      rw [Yy];exact List.map_congr_left λ i hi=>dFq (gz i hi)
    rw [e2] at hsrt
    have r1:=dXq rv p.toList (λ i hi=>by have:=hm i hi;rw [Yf];omega)
    rw [e1] at r1
    have perm:zs.Perm (p.toList.map λ i=>zs.getD i (0,.non)):=by
      have e:(Ys zs.length).map (λ i=>zs.getD i (0,.non))=zs:=by
        apply Y6
        . simp
        . intro i h1 h2;simp [Yr,Yi h2]
      have hp':Pm zs.length p:=by rw [<- hlen];exact hp
      have:=hp'.map (λ i=>zs.getD i (0,D.non))
      rw [e] at this
      exact this.symm
    exact ⟨.ref _,_,I.laid (t':=s.toks) (λ b o e=>sortedAll_old e) (Nat.le_succ _) (show ObjOk X.prog X.w _ _ _ (.lst ((p.toList.map λ i=>zs.getD i (0,.non)).map λ z=>V.ref z.1)) from ⟨by rw [Yf,Yf];omega,_,c,r1,by simpa using hcc⟩),rfl,q _ perm hsrt _ (I.hok.fresh (Nat.le_succ _))⟩
  have hzl:(zs.map (·.2)).length=zs.length:=Yf ..
  by_cases h0:0 < zs.length
  . refine h3q (κ:=oneType') (lt:=ltI (zs.map (·.2))) pl.isList (by omega) (λ h2 A E R hR=>kas_kind (T:=.type "list") h2 (λ v hv=>?_) (by decide) (by decide) hR) (λ A' i j C hA hi hj hC=>?_) (aU2q hk (by omega)) λ p hp hup=>fin p hp (z7q hk (by rw [hzl,<- hlen];exact hp) (by rw [hzl,<- hlen];exact hup))
    . rw [eits] at hv
      obtain ⟨z,hz',rfl⟩:=Yl.mp hv
      obtain ⟨_,us,sq,_⟩:=hz z hz'
      obtain ⟨its',_,pl',_⟩:=I6.list sq
      obtain ⟨o,ho,hc,_⟩:=pl'.isList
      exact λ A Q E s' k q=>wpAny_typeOf (T:="list") ⟨o,k _ _ ho,hc⟩ q
    . have ge:∀ k,k < its.length->∃ z,zs[k]?=some z/\z∈zs/\(zs.map (·.2)).getD (min k ((zs.map (·.2)).length - 1)) .non=z.2/\its.getD k Value.none=.ref z.1:=λ k hk'=>by
        have hk2:k < zs.length:=by omega
        refine ⟨zs[k],Yi hk2,Yx hk2,?_,?_⟩
        . rw [show min k ((zs.map (·.2)).length - 1)=k by omega];exact dFq (Yi hk2)
        . rw [eits];exact dFq (Yi hk2)
      obtain ⟨z,_,m1,e1,f1⟩:=ge i hi
      obtain ⟨y,_,m2,e2,f2⟩:=ge j hj
      unfold kas_ask
      rw [f1,f2]
      simp only [ltI,e1,e2] at hC
      obtain ⟨k1,us1,sq1,a1⟩:=hz z m1
      obtain ⟨k2,us2,sq2,a2⟩:=hz y m2
      obtain ⟨b,hb⟩:=Option.isSome_iff_exists.mp (k1.lt k2)
      rw [hb] at hC
      exact mVq I6 sq1 sq2 a1 a2 (bQq k1.data) (bQq k2.data) (by rw [IS.dp k1.fl_IS];omega) (by rw [k1.fl_lt k2];exact hb) hC
  . have e0:its=[]:=YR.mp (by omega)
    subst e0
    refine hLq (κ:=oneType') (lt:=λ _ _=>false) pl.isList (by simp) (λ h2=>by simp at h2) (λ A' i j C hA hi=>by simp at hi) λ out hp=>?_
    have eo:out=[]:=YR.mp (by have:=hp.length_eq;simpa using this)
    subst eo
    exact fin #[] (.refl _) (by simp [Srt])
def FlG (G:DV) (z:Addr × D):Prop:=IsK z.2/\G z.1=some (.lst (flD z.2))
theorem FlG.to {K:PySem.W.Frag} {G:DV} {H:Hp} {z:Addr × D} (v:Vw K G H) (h:FlG G z):FlK K H z:=by
  obtain ⟨us,e,r⟩:=v _ _ h.2
  exact ⟨h.1,us,.inl (.inl e),r⟩
def aO0q:D->DV->DK->Prop:=λ x G Q=>match x with
  | .ref l=>∃ zs:List (Addr × D),G l=some (.lst (zs.map λ z=>D.ref z.1))/\zs.length < 64/\(∀ z∈zs,FlG G z)/\∀ zs':List (Addr × D),zs.Perm zs'->Srt (zs'.map (·.2))->∀ p,G p=none->Q (.ref p) (up G p (.lst (zs'.map λ z=>D.ref z.1)))
  | _=>False
theorem dUq {K:PySem.W.Frag} {H:Hp}:∀ {zs:List (Addr × D)} {vs:List V},AbsL K H (zs.map λ z=>D.ref z.1) vs->vs=zs.map λ z=>V.ref z.1
  | [],_,h=>h
  | z::zs,_,⟨v,r,e,q,l⟩=>by subst e;rw [dUq l,show v=V.ref z.1 from q];rfl
theorem hKq {K:PySem.W.Frag} {H:Hp}:∀ (zs:List (Addr × D)),AbsL K H (zs.map λ z=>D.ref z.1) (zs.map λ z=>V.ref z.1)
  | []=>rfl
  | z::zs=>⟨_,_,rfl,rfl,hKq zs⟩
theorem iWq (hu:X.A.units+200 < cLine):ACall X (.builtin "sorted") (rHq aO0q):=by
  refine ⟨_,⟨pVq hu⟩,λ xs vs G H DQ Q v a r F=>?_⟩
  obtain ⟨x,u,rfl,rfl,ax,r⟩:=c4q r a
  cases x with
  | ref l=>
    cases ax
    obtain ⟨zs,e,hl,hz,k⟩:=r
    obtain ⟨ws,e1,rl⟩:=v _ _ e
    rw [dUq rl] at e1
    exact ⟨l,zs,rfl,.inl (.inl e1),hl,λ z h=>(hz z h).to v,λ zs' hp hs p hp'=>F (.ref p) _ _ _ (Go.newL v hp' (hKq zs')) rfl (k zs' hp hs p (v.none hp'))⟩
  | _=>exact (show False from r).elim
def aQ6q (K:PySem.W.Frag):R2:=λ x y H Q=>∃ (l m:Addr) (zs ys:List (Addr × D)),x=.ref l/\y=.ref m/\SqL K H l (zs.map λ z=>V.ref z.1)/\SqL K H m (ys.map λ z=>V.ref z.1)/\(∀ z∈zs,FlK K H z)/\(∀ z∈ys,FlK K H z)/\zs.length=ys.length/\(∀ z∈zs,∀ y∈ys,z.1=y.1->z.2=y.2) ∧
  ∀ b:Bool,(b=true ↔ zs.map (·.2)=ys.map (·.2))->Q (.bl b) H
theorem w3q (hu:X.A.units+200 < cLine):OpR X (compareOp .Eq) (aQ6q X.K):=by
  intro pins s σ H x y v u Q I rx ry h
  obtain ⟨l,m,zs,ys,rfl,rfl,s1,s2,hz,hy,hlen,hsame,q⟩:=h
  cases rx;cases ry
  obtain ⟨its,rr,t1,_⟩:=I.list s1
  obtain ⟨its2,rr2,t2,_⟩:=I.list s2
  have e1:=e7q rr
  have e2:=e7q rr2
  subst e1 e2
  refine SeqAt.RcAt.lists (e:=λ j=>eqD (((zs.map (·.2))[j]?).getD .non) (((ys.map (·.2))[j]?).getD .non)) t1.isList t2.isList (by simp [hlen]) (by omega) (λ j h1 h2=>?_) X.prog X.w X.xe _ ⟨.bl _,H,I,rfl,q _ ?_⟩
  . have j1:j < zs.length:=by simpa using h1
    have j2:j < ys.length:=by simpa using h2
    obtain ⟨k1,us1,sq1,a1⟩:=hz _ (Yx j1)
    obtain ⟨k2,us2,sq2,a2⟩:=hy _ (Yx j2)
    simp only [Yw,Yi j1,Yi j2,Option.map_some,Option.getD_some,List.getElem_toArray,Y0]
    by_cases hne:zs[j].1=ys[j].1
    . rw [hne,hsame _ (Yx j1) _ (Yx j2) hne,bWq k2.data]
      exact SeqAt.EqAt.same _
    . refine SeqAt.EqAt.of_refs hne ?_
      rw [<- k1.fl_eq k2]
      obtain ⟨jts,jr,w1,_⟩:=I.list sq1
      obtain ⟨jts2,jr2,w2,_⟩:=I.list sq2
      have l1:=jr.length
      have l2:=jr2.length
      have l3:=a1.len
      have l4:=a2.len
      by_cases hl:(flD zs[j].2).length=(flD ys[j].2).length
      . have z:=SeqAt.RcAt.lists (A:=X.A.in1) (e:=eqJ (flD zs[j].2) (flD ys[j].2)) w1.isList w2.isList (by rw [Ye,Ye];omega) (by show X.A.units+1 < cLine;omega) (λ i h1 h2=>by
          have q:=eDq I (flD zs[j].2) (flD ys[j].2) X.A.in1.in1 us1 us2 jts jts2 (bQq k1.data) (bQq k2.data) a1 a2 jr jr2 (by show X.A.units+1+1+bMq _ < cLine;rw [IS.dp k1.fl_IS];omega) i (by simpa using h1) (by simpa using h2)
          simpa using q)
        rw [Ye,<- l1,l3,j1q hl] at z
        exact z
      . rw [fKq hl]
        exact SeqAt.RcAt.lists_lengths w1.isList w2.isList (by rw [Ye,Ye];simp;omega) (by show X.A.units+1 < cLine;omega)
  . rw [Y4]
    have hs:(zs.map λ z=>Value.ref z.1).toArray.size=zs.length:=by simp
    constructor
    . intro hall
      refine Y6 (by simp [hlen]) λ i h1 h2=>?_
      rw [Yf] at h1 h2
      have q:=hall i (YE.mpr (by rw [hs];exact h1))
      simp only [Yw,Yi h1,Yi h2,Option.map_some,Option.getD_some] at q
      rw [Y0,Y0]
      exact (hz _ (Yx h1)).1.eq1 _ (hy _ (Yx h2)).1 q
    . intro e i hi
      have h1:i < zs.length:=by rw [<- hs];exact YE.mp hi
      simp only [<- e]
      rw [Yw,Yi h1]
      exact bWq (hz _ (Yx h1)).1.data
abbrev eqLL:DR2:=λ x y G Q=>match x,y with
  | .ref l,.ref m=>∃ zs ys:List (Addr × D),G l=some (.lst (zs.map λ z=>D.ref z.1))/\G m=some (.lst (ys.map λ z=>D.ref z.1))/\(∀ z∈zs,FlG G z)/\(∀ z∈ys,FlG G z)/\zs.length=ys.length/\∀ b:Bool,(b=true ↔ zs.map (·.2)=ys.map (·.2))->Q (.bl b) G
  | _,_=>False
theorem sAq (hu:X.A.units+200 < cLine):AOp X (compareOp .Eq) eqLL:=by
  refine ⟨_,⟨w3q hu⟩,λ x y vx vy G H DQ Q v ax ay r F=>?_⟩
  cases x with
  | ref l=>
    cases y with
    | ref m=>
      cases ax;cases ay
      obtain ⟨zs,ys,e1,e2,hz,hy,hl,q⟩:=r
      obtain ⟨ws,g1,r1⟩:=v _ _ e1
      obtain ⟨ws2,g2,r2⟩:=v _ _ e2
      rw [dUq r1] at g1
      rw [dUq r2] at g2
      refine ⟨l,m,zs,ys,rfl,rfl,.inl (.inl g1),.inl (.inl g2),λ z h=>(hz z h).to v,λ z h=>(hy z h).to v,hl,λ z h1 y h2 e=>?_,λ b hb=>F (.bl b) G _ H (.refl v) rfl (q b hb)⟩
      have w1:=(hz z h1).2
      have w2:=(hy y h2).2
      rw [e,w2] at w1
      exact (hz z h1).1.fl_inj (hy y h2).1 (by simpa using w1.symm)
    | _=>exact (show False from r).elim
  | _=>exact (show False from r).elim
end
end L3
namespace L2
open PySem PySem.Spec PyProof.Rows
section
variable {X:Cx}
def rLS (K:PySem.W.Frag):R2:=λ x y H Q=>∃ a vs z,x=.ref a/\SqL K H a vs/\y=.str z/\Q (.bl false) H
theorem xLq (hu:X.A.units+200 < cLine):OpR X (compareOp .Eq) (rLS X.K):=by
  intro pins s σ H x y v u Q I rx ry h
  obtain ⟨a,vs,z,rfl,sq,rfl,q⟩:=h
  cases rx;obtain ⟨t,rfl⟩:=ry
  obtain ⟨its,rr,t1,_⟩:=I.list sq
  exact SeqAt.RcAt.list_str z t t1.isList (by omega) X.prog X.w X.xe _ ⟨.bl false,H,I,rfl,q⟩
def rInS (K:PySem.W.Frag):R2:=λ x y H Q=>∃ (p a:Addr) (zs:List Str),y=.ref p/\SqT K H p (zs.map V.str)/\x=.ref a/\((∃ vs,SqT K H a vs)\/∃ vs,SqL K H a vs)/\Q (.bl false) H
theorem jBq:∀ {zs:List Str} {its:List Value},Vals (zs.map V.str) its->∀ w∈its,∃ z t,w=Value.str z t
  | [],_,h,w,hw=>by cases h;simp at hw
  | z::zs,_,h,w,hw=>by
    cases h with
    | cons h t=>
      obtain ⟨tk,rfl⟩:=h
      rcases Yd.mp hw with rfl | hw
      . exact ⟨_,_,rfl⟩
      . exact jBq t w hw
theorem zSq (hu:X.A.units+200 < cLine):OpR X (compareOp .In) (rInS X.K):=by
  intro pins s σ H x y v u Q I rx ry h
  obtain ⟨p,a,zs,rfl,sq,rfl,hx,q⟩:=h
  cases ry;cases rx
  obtain ⟨its,r,pl,_⟩:=I.tuple sq
  refine SeqAt.in_tupleAt (λ _=>false) pl (λ w hw=>?_) ⟨.bl _,H,I,rfl,?_⟩
  . obtain ⟨z,t,rfl⟩:=jBq r w (by simpa using hw)
    rcases hx with ⟨vs,h⟩ | ⟨vs,h⟩
    . obtain ⟨its',_,pl',_⟩:=I.tuple h
      exact SeqAt.EqAt.str_tuple z t pl' (by show X.A.units+1 < cLine;omega)
    . obtain ⟨its',_,pl',_⟩:=I.list h
      exact SeqAt.EqAt.str_list z t pl'.isList (by show X.A.units+1 < cLine;omega)
  . rw [show its.toArray.any (λ _=>false)=false by simp];exact q
end
end L2
namespace L3
open PySem PySem.Spec L2
section
variable {X:Cx}
def eqX:DR2:=λ x y G Q=>match x,y with
  | .ref l,.str _=>onL G l λ _=>Q (.bl false) G
  | x,y=>eqR id x y G Q
theorem dOq (hu:X.A.units+200 < cLine):AOp X (compareOp .Eq) eqX:=by
  obtain ⟨rc,j,rr⟩:=(aKq (X:=X) hu).run
  refine ⟨_,⟨j.run.or (xLq hu)⟩,λ x y vx vy G H DQ Q v ax ay r F=>?_⟩
  unfold eqX at r
  split at r
  . cases ax;cases ay
    obtain ⟨ds,vs,k,s,rl⟩:=bHq v r
    exact .inr ⟨_,vs,_,rfl,s,rfl,F (.bl false) G _ H (.refl v) rfl k⟩
  . exact .inl (rr x y vx vy G H DQ Q v ax ay r F)
def inX:DR2:=λ x y G Q=>match y with
  | .tup ds=>∃ zs:List Str,ds=zs.map D.str/\(match x with
      | .ref l=>onL G l λ _=>Q (.bl false) G
      | .tup _=>Q (.bl false) G
      | x=>dQq x=true/\Q (.bl (inL x ds)) G)
  | _=>False
theorem nXq (zs:List Str):(zs.map D.str).all dQq=true:=by
  rw [List.all_map,Y4];intro z _;rfl
theorem jGq {K:PySem.W.Frag} {H:Hp}:∀ {zs:List Str} {vs:List V},AbsL K H (zs.map D.str) vs->vs=zs.map V.str
  | [],_,h=>h
  | z::zs,_,⟨v,r,e,q,l⟩=>by subst e;rw [jGq l,show v=V.str z from q];rfl
theorem rGq (hu:X.A.units+200 < cLine):AOp X (compareOp .In) inX:=by
  obtain ⟨rc,j,rr⟩:=(f9q (X:=X)).run
  refine ⟨_,⟨j.run.or (zSq hu)⟩,λ x y vx vy G H DQ Q v ax ay r F=>?_⟩
  unfold inX at r
  split at r
  . obtain ⟨zs,rfl,r⟩:=r
    obtain ⟨p,ws,rfl,sq,rl⟩:=id ay
    have sq':=sq
    rw [jGq rl] at sq'
    split at r
    . cases ax
      obtain ⟨ds,vs,k,s,_⟩:=bHq v r
      exact .inr ⟨p,_,zs,rfl,sq',rfl,.inr ⟨_,s⟩,F (.bl false) G _ H (.refl v) rfl k⟩
    . obtain ⟨a,vs,rfl,s1,_⟩:=ax
      exact .inr ⟨p,a,zs,rfl,sq',rfl,.inl ⟨_,s1⟩,F (.bl false) G _ H (.refl v) rfl r⟩
    . exact .inl (rr x _ vx _ G H DQ Q v ax ay ⟨r.1,nXq zs,by simpa using r.2⟩ F)
  . exact r.elim
end
end L3
namespace L2
open PySem PySem.Spec PyProof.Rows
section
variable {prog:Program} {w:World} {A:Around} {E:Value->Shared->Prop} {s:Shared}
theorem nJq (n:Nat):Builtin.Slice.sliceAdjust none none (-1) (n:Int)=((n:Int) - 1,-1):=by
  unfold Builtin.Slice.sliceAdjust
  simp
theorem nMq (n:Nat):Builtin.Slice.slicePlaces ((n:Int) - 1) (-1) (-1)=n:=by
  unfold Builtin.Slice.slicePlaces
  simp
  try omega
theorem sJq (xs:Array Value):((Ys xs.size).filterMap λ(m:Nat)=>xs[((xs.size:Int) - 1+(m:Int) * -1).toNat]?).toArray=xs.toList.reverse.toArray:=by
  congr 1
  have e:(λ(m:Nat)=>xs[((xs.size:Int) - 1+(m:Int) * -1).toNat]?)=λ m=>xs[xs.size - 1 - m]?:=by
    funext m
    have:((xs.size:Int) - 1+(m:Int) * -1).toNat=xs.size - 1 - m:=by omega
    rw [this]
  rw [e]
  have h:=PySem.W.krv_range xs.size
  have h2:=PySem.W.krv_all xs
  have:(Ys xs.size).filterMap (λ m=>xs[xs.size - 1 - m]?)=((Ys xs.size).map λ k=>xs.size - 1 - k).filterMap (xs[·]?):=by rw [List.filterMap_map];rfl
  rw [this,h,List.filterMap_reverse,h2]
theorem eSq {t sl:Addr} {items:Array Value} {vk:Value} {Q:Value->Shared->Prop} (ht:IsTup s.heap t items) (hs:s.heap.IsSliceOf sl .none .none vk) (pk:IsPart vk (some (-1)))
    (h:Q (.ref s.heap.objs.size) { s with heap:=s.heap.push { cls:=.type "tuple", data:=.seq items.toList.reverse.toArray } })
    (hsz:items.size<=sizeLine):wpAny (model prog w) A (getItem (.ref t) (.ref sl)) Q E s:=by
  have htake:sizeOk (.seq items.toList.reverse.toArray):=by
    show items.toList.reverse.toArray.size<=sizeLine
    rw [Ye,Ym,Array.length_toList];omega
  obtain ⟨os,hos,hcs,hds⟩:=id hs
  have hTs:s.TypeIs (.ref sl) "slice":=⟨os,hos,hcs⟩
  unfold getItem
  try with_reducible refine wpAny_holding ?_
  first | refine wpAny_bind (wpAny_pure ?_) | skip
  refine wpAny_bind (wpAny_sequenceKey ht.typeIs (by decide) ?_)
  refine wpAny_bind (wpAny_callSpecial?_slot (name:=Str.ofString "__getitem__") ht.typeIs slot_tuple_getitem (wpAny_call_entry slot_tuple_getitem ht.typeIs entry_tuple_getitem ?_ (args_tuple_getitem _ _)))
  refine (show wpAny _ _ (Builtin.Tuple.tupleItemsOf (.ref t) >>= _) _ _ s from wpAny_bind (tupleItemsOf_ ht (wpAny_bind (wpAny_typeOf hTs ?_))))
  rw [if_pos (by decide)]
  have hap:∀ (Q':Int × Int × Nat->Shared->Prop) (E':Value->Shared->Prop) (A':Around),Q' ((items.size:Int) - 1,-1,items.size) s->wpAny (model prog w) A' (Builtin.Slice.sliceApplied (.ref sl) (pure (items.size:Int))) Q' E' s:=λ Q' E' A' q=>by
    unfold Builtin.Slice.sliceApplied Builtin.Slice.sliceFields
    refine wpAny_bind (wpAny_bind (wpAny_field hos hds (x:=.none) rfl (wpAny_bind (wpAny_field hos hds (x:=.none) rfl (wpAny_bind (wpAny_field hos hds (x:=vk) rfl (wpAny_pure ?_)))))))
    refine wpAny_bind (HT.slicePart_ pk ?_)
    refine (show wpAny _ _ (if ((-1:Int)==0)=true then _ else _) _ _ s from ?_)
    rw [if_neg (by decide)]
    refine wpAny_bind (HT.slicePart_ .none (wpAny_bind (HT.slicePart_ .none (wpAny_bind (wpAny_pure ?_)))))
    show wpAny _ _ (match Builtin.Slice.sliceAdjust none none (-1) (items.size:Int) with | (lo,hi)=>pure (lo,(-1:Int),Builtin.Slice.slicePlaces lo hi (-1))) _ _ s
    rw [nJq]
    show wpAny _ _ (pure ((items.size:Int) - 1,(-1:Int),Builtin.Slice.slicePlaces ((items.size:Int) - 1) (-1) (-1))) _ _ s
    rw [nMq]
    exact wpAny_pure q
  refine wpAny_bind (hap _ _ _ ?_)
  refine (show wpAny _ _ (if ((((items.size:Int) - 1)==0&&(-1:Int)==1&&items.size==items.size)=true) then _ else _) _ _ s from ?_)
  rw [if_neg (by simp),sJq]
  first
    | exact wpAny_bind (m:=Builtin.Tuple.tupleExact _) (wpAny_newObj_type (wpAny_pure ⟨_,rfl,wpAny_pure h⟩) htake)
    | exact wpAny_bind (m:=Builtin.Tuple.tupleExact _) (wpAny_newObj_type (wpAny_bind (wpAny_pure (wpAny_pure ⟨_,rfl,wpAny_pure h⟩))) htake)
    | exact wpAny_bind (wpAny_bind (m:=Builtin.Tuple.tupleExact _) (wpAny_newObj_type (wpAny_pure (wpAny_pure ⟨_,rfl,wpAny_pure h⟩)) htake))
    | exact wpAny_bind (wpAny_bind (m:=Builtin.Tuple.tupleExact _) (wpAny_newObj_type (wpAny_pure ⟨_,rfl,wpAny_pure h⟩) htake))
end
section
variable {X:Cx} {e st:Expr} {te:TE} {tk:TO} {pos p2:Pos}
def tRvT (K:PySem.W.Frag) (te:TE) (tk:TO):TE:=λ σ H Q=>te σ H λ x H1=>tk σ H1 λ k H2=>k=some (-1)/\∃ (a:Addr) (xs:List V),x=.ref a/\SqT K H2 a xs/\∀ p,H2 p=none->Q (.ref p) (upd H2 p (.tup xs.reverse))
theorem yHq (he:PE X e te) (hk:PO X (some st) tk):PE X (.Subscript e (.Slice none none (some st) p2) pos) (tRvT X.K te tk):=by
  intro pins s σ H Q I h
  refine Subscript_ (thn (he pins s σ H _ I h) λ v s1 ⟨x,H1,I1,r1,q1⟩=>?_)
  refine wpAny_Slice ?_
  rw [evalPart_none]
  refine wpAny_pure (wpAny_pure ?_)
  refine thn (hk pins s1 σ H1 _ I1 q1) λ vk s3 ⟨k,H3,I3,pk,e1,a,xs,e2,hx,q3⟩=>?_
  subst e1 e2
  cases r1
  have I4:Inv X pins σ H3 { s3 with heap:=s3.heap.push { cls:=.type "slice", data:=.fields #[.none,.none,vk] } }:=I3.kept (t':=s3.toks) λ b ob q=>Heap.get?_push_of_some _ q
  obtain ⟨its,r,ht,hz⟩:=I4.tuple hx
  have hlen:=r.length
  show wpAny (model X.prog X.w) X.A (subscriptTail e (.Slice none none (some st) p2) (.ref a) (.ref s3.heap.objs.size)) (EP X pins σ Q) X.xe { s3 with heap:=s3.heap.push { cls:=.type "slice", data:=.fields #[.none,.none,vk] } }
  refine tail_any (ops:=[.ref a,.ref s3.heap.objs.size]) ht.typeIs slot_tuple_getitem.lookup ?_ (by with_unfolding_all rfl)
  refine eSq ht (Heap.IsSliceOf.new ..) pk ?_ (by rw [Ye];omega)
  refine ⟨.ref _,_,I4.laid (t':=s3.toks) (o:=.tup xs.reverse) (λ b ob q=>Heap.get?_push_of_some _ q) (Nat.le_refl _) ?_,rfl,q3 _ (I4.hok.fresh (Nat.le_refl _))⟩
  exact ⟨by rw [Ym];exact hz,its.reverse,dBq r,IsTup.new _ _⟩
end
end L2
namespace L3
open PySem PySem.Spec L2
section
variable {X:Cx} {e st:Expr} {te:DTE} {tk:DTO} {pos p2:Pos}
abbrev dRvT (te:DTE) (tk:DTO):DTE:=λ ρ G Q=>te ρ G λ x G1=>tk ρ G1 λ k G2=>k=some (-1)/\match x with
  | .tup ds=>Q (.tup ds.reverse) G2
  | _=>False
theorem aB9q (he:AE X e te) (hk:AO X (some st) tk):AE X (.Subscript e (.Slice none none (some st) p2) pos) (dRvT te tk):=by
  obtain ⟨ce,je,re⟩:=he.run
  obtain ⟨ck,jk,rk⟩:=hk.run
  refine ⟨_,⟨yHq je.run jk.run⟩,λ ρ G DQ σ H Q B q F=>re ρ G _ σ H _ B q λ x G1 v H1 g1 ax q1=>rk ρ G1 _ σ H1 _ (B.go g1) q1 λ k G2 H2 g2 ⟨e1,q2⟩=>?_⟩
  cases x with
  | tup ds=>
    obtain ⟨a,vs,rfl,s,rl⟩:=ax.mono g2.tup
    refine ⟨e1,a,vs,rfl,s,λ p hp=>?_⟩
    have g3:=Go.newT (G:=G2) (o:=.tup vs.reverse) g2.vw hp
    exact F (.tup ds.reverse) _ _ _ ((g1.trans g2).trans g3) ⟨p,vs.reverse,rfl,.inl (.inl bKq),rl.reverse.mono g3.tup⟩ q2
  | _=>exact (show False from q2).elim
end
end L3
namespace L2
open PySem PySem.Spec PyProof.Rows
def Itw (K:PySem.W.Frag) (a:Addr) (n:Nat):It:=
  ⟨λ i H=>i < n/\∃ xs,SqT K H a xs/\xs.length=n,λ i H x H'=>H'=H/\∀ xs,SqT K H a xs->xs[n - 1 - i]?=some x,λ i _=>n<=i⟩
theorem o8q {P:Program} {w:World} {K:PySem.W.Frag} {tg:Expr} (a it:Addr) (n:Nat):Turn P w K tg (Itw K a n) [it] it (λ i h=>i<=n/\KRv.IsRev h it a ((n:Int) - 1 - (i:Int))) where
  mem:=by simp
  obj:=λ i h st b hb=>by
    have e:b=it:=by simpa using hb
    subst e
    exact ⟨_,st.2,λ v z=>by cases (show Data.fields _=Data.cell v from z)⟩
  keep:=λ i h h' st k=>⟨st.1,k it (by simp) _ st.2⟩
  item:=by
    intro X hP hw hK hc i pins s σ H E I hf st hg
    subst hP hw hK
    obtain ⟨hi,xs,hq,hx⟩:=hg
    obtain ⟨_,st⟩:=st
    obtain ⟨its,rv,p,hz⟩:=I.tuple hq
    have hlt:n - 1 - i < xs.length:=by omega
    have hx':xs[n - 1 - i]?=some xs[n - 1 - i]:=Yi hlt
    obtain ⟨u,hu,ru⟩:=rv.get hx'
    obtain ⟨f0,f1,f2,f3,f4,f5⟩:=hf it (by simp)
    have hn:=dYq
    rw [show (n:Int) - 1 - (i:Int)=((n - 1 - i:Nat):Int) by omega] at st
    refine KRv.nextT st p (x:=u) (by simpa using hu) (by omega) λ h' tk st' sb=>?_
    have I1:Inv X pins σ H { s with heap:=h',toks:=tk }:=I.turned (λ b o hb e=>(sb.2 b hb).trans e) f0 f1 f3 f4 f5
    refine ⟨u,rfl,nOq (s:={ s with heap:=h',toks:=tk }) st' rfl rfl (by decide) ⟨_,H,I1,ru,⟨rfl,λ ys hy=>by rw [I.tuple_inj hy hq];exact hx'⟩,⟨hi,?_⟩,λ b hb=>(hf b hb).1⟩⟩
    rw [show (n:Int) - 1 - ((i+1:Nat):Int)=((n - 1 - i:Nat):Int) - 1 by omega];exact st'
  done:=by
    intro X hP hw hK hc i pins s σ H E I hf st hg
    subst hP hw hK
    have hg':n<=i:=hg
    obtain ⟨hi,st⟩:=st
    obtain ⟨f0,f1,f2,f3,f4,f5⟩:=hf it (by simp)
    exact KRv.endT (I.ok.hd hc) st (by omega) λ h' eb=>⟨rfl,I.turned (t':=s.toks) (λ b o hb e=>eb b o hb e) f0 f1 f3 f4 f5⟩
  self:=λ _ _ _ _ _ st h=>KRv.iterT st.2 h
section
variable {X:Cx}
def aO8q (K:PySem.W.Frag) (tl:TE):TI:=λ σ H R=>tl σ H λ x H1=>∃ a xs,x=.ref a/\SqT K H1 a xs/\R (Itw K a xs.length) H1
theorem xZq {tg e:Expr} {tl:TE} {p pos:Pos} (hg:Gl X "reversed") (hm:X.mg "reversed" = none) (hl:PE X e tl) (hs:bAq e=true):PI X tg (.Call (.Name "reversed" p) [e] [] pos) (aO8q X.K tl):=by
  intro pins s σ H R I h
  refine thn (oOq (R:=λ a xs H1=>R (Itw X.K a xs.length) H1) hg hm hl hs I h) λ v s1 h1=>?_
  obtain ⟨a,it,xs,its,H1,rfl,I1,hit,ht,hne,rv,hz,_,fp,q⟩:=h1
  have hl':=rv.length
  refine KRv.iterT hit ⟨it,[it],_,_,H1,rfl,I1,o8q a it xs.length,?_,λ b hb=>?_,q⟩
  . rw [Ye,<- hl'] at hit
    exact ⟨Nat.zero_le _,by simpa using hit⟩
  . have e:b=it:=by simpa using hb
    subst e
    exact fp
end
end L2
namespace L3
open PySem PySem.Spec L2
section
variable {X:Cx} {tg a:Expr} {ta:DTE} {p pos:Pos}
abbrev aD5q (ta:DTE):DTI:=λ ρ G R=>ta ρ G λ x G1=>match x with
  | .tup ds=>R ⟨ds.reverse,λ _=>True⟩ G1
  | _=>False
theorem vUq (hg:Gl X "reversed") (hm:X.mg "reversed" = none) (ha:AE X a ta) (hs:bAq a=true:=by rfl):AI X tg (.Call (.Name "reversed" p) [a] [] pos) (aD5q ta):=by
  obtain ⟨ca,ja,ra⟩:=ha.run
  refine ⟨_,⟨xZq hg hm ja.run hs⟩,λ ρ G DR σ H R B q F=>ra ρ G _ σ H _ B q λ x G1 v H1 g1 ax q1=>?_⟩
  cases x with
  | tup ds=>
    obtain ⟨l,vs,rfl,sq,r⟩:=ax
    refine ⟨l,vs,rfl,sq,F ⟨ds.reverse,λ _=>True⟩ _ G1 H1 g1 (λ G2 H2 g2 _=>?_) q1⟩
    have sq2:=g2.tup.tp _ _ sq
    have r2:=r.mono g2.tup
    have n1:=r.len
    refine ⟨λ i d hd'=>?_,λ i hi=>?_⟩
    . replace hd':ds.reverse[i]?=some d:=hd'
      have hi:i < ds.length:=by
        rcases Nat.lt_or_ge i ds.length with c | c
        . exact c
        . rw [YX (by rw [Ym];exact c)] at hd';cases hd'
      rw [Zg hi] at hd'
      obtain ⟨w,hw,aw⟩:=r2.get hd'
      refine ⟨⟨by omega,vs,sq2,rfl⟩,λ x H' y=>?_⟩
      obtain ⟨rfl,y⟩:=y
      have z:=y vs sq2
      rw [n1,hw] at z
      cases z
      exact ⟨.refl g2.vw,aw⟩
    . have hi':ds.reverse.length<=i:=hi
      rw [Ym] at hi'
      show vs.length<=i
      omega
  | _=>exact (show False from q1).elim
end
def gVq:List D->Bool
  | a::b::r=>(ltD b a==some false)&&gVq (b::r)
  | _=>true
inductive IsKd:D->Prop
  | is (n:Int):IsKd (.tup [.str "is", .int n])
  | some:IsKd (.tup [.str "some"])
  | both {a b:D}:IsKd a->IsKd b->ofA a=true->ofA b=true->IsKd (.tup [.str "both", a,b])
  | left {a:D}:IsKd a->IsKd (.tup [.str "left", a])
  | right {a:D}:IsKd a->IsKd (.tup [.str "right", a])
  | way {ds:List D} {k:D}:(∀ d∈ds,IsKd d)->gVq ds=true->IsKd k->IsKd (.tup [.str "way", .tup ds,k])
theorem IsKd.isK {d:D} (h:IsKd d):IsK d:=by
  induction h with
  | is n=>exact .is n
  | some=>exact .some
  | both _ _ _ _ h1 h2=>exact .both h1 h2
  | left _ h=>exact .left h
  | right _ h=>exact .right h
  | way _ _ _ h1 h2=>exact .way h1 h2
inductive Frm:D->Prop
  | is (n:Int):Frm (.tup [.str "is", .int n])
  | some:Frm (.tup [.str "some"])
  | both {a b:D}:Frm a->Frm b->ofA a=true->ofA b=true->Frm (.tup [.str "both", a,b])
  | left {a:D}:Frm a->Frm (.tup [.str "left", a])
  | right {a:D}:Frm a->Frm (.tup [.str "right", a])
  | way {ds:List D} {k:D}:(∀ d∈ds,Frm d)->Frm k->Frm (.tup [.str "way", .tup ds,k])
theorem Frm.isK {d:D} (h:Frm d):IsK d:=by
  induction h with
  | is n=>exact .is n
  | some=>exact .some
  | both _ _ _ _ h1 h2=>exact .both h1 h2
  | left _ h=>exact .left h
  | right _ h=>exact .right h
  | way _ _ h1 h2=>exact .way h1 h2
inductive HF:D->List D->List (List D)->Prop
  | is (n:Int):HF (.tup [.str "is", .int n]) [] []
  | some:HF (.tup [.str "some"]) [] []
  | both {a b:D}:ofA a=true->ofA b=true->HF (.tup [.str "both", a,b]) [a,b] []
  | left (a:D):HF (.tup [.str "left", a]) [a] []
  | right (a:D):HF (.tup [.str "right", a]) [a] []
  | way (ds:List D) (k:D):HF (.tup [.str "way", .tup ds,k]) (ds++[k]) [ds]
theorem HF.kd {d:D} {is:List D} {bs:List (List D)} (h:HF d is bs):IsKd d ↔ (∀ x∈is,IsKd x)/\∀ b∈bs,gVq b=true:=by
  cases h with
  | is n=>exact ⟨λ _=>by simp,λ _=>.is n⟩
  | some=>exact ⟨λ _=>by simp,λ _=>.some⟩
  | both o1 o2=>exact ⟨λ z=>by cases z with | both h1 h2 _ _=>simp [h1,h2],λ z=>.both (z.1 _ (by simp)) (z.1 _ (by simp)) o1 o2⟩
  | left a=>exact ⟨λ z=>by cases z with | left h=>simp [h],λ z=>.left (z.1 _ (by simp))⟩
  | right a=>exact ⟨λ z=>by cases z with | right h=>simp [h],λ z=>.right (z.1 _ (by simp))⟩
  | way ds k=>
    refine ⟨λ z=>by cases z with | way h1 h2 h3=>exact ⟨λ x hx=>by rcases Yq.mp hx with hx | hx;exact h1 x hx;simp at hx;subst hx;exact h3,by simpa using h2⟩,λ z=>.way (λ d hd=>z.1 d (YG _ hd)) (z.2 _ (by simp)) (z.1 _ (by simp))⟩
theorem HF.fr {d:D} {is:List D} {bs:List (List D)} (h:HF d is bs) (hi:∀ x∈is,Frm x):Frm d/\∀ b∈bs,∀ x∈b,Frm x:=by
  cases h with
  | is n=>exact ⟨.is n,by simp⟩
  | some=>exact ⟨.some,by simp⟩
  | both o1 o2=>exact ⟨.both (hi _ (by simp)) (hi _ (by simp)) o1 o2,by simp⟩
  | left a=>exact ⟨.left (hi _ (by simp)),by simp⟩
  | right a=>exact ⟨.right (hi _ (by simp)),by simp⟩
  | way ds k=>exact ⟨.way (λ d hd=>hi d (YG _ hd)) (hi _ (by simp)),λ b hb x hx=>by simp at hb;subst hb;exact hi x (YG _ hx)⟩
theorem IsKd.hf {d:D} (h:IsKd d):∃ is bs,HF d is bs:=by
  cases h with
  | is n=>exact ⟨_,_,.is n⟩
  | some=>exact ⟨_,_,.some⟩
  | both _ _ o1 o2=>exact ⟨_,_,.both o1 o2⟩
  | left _=>exact ⟨_,_,.left _⟩
  | right _=>exact ⟨_,_,.right _⟩
  | way _ _ _=>exact ⟨_,_,.way _ _⟩
inductive Th (L:Addr->Prop):D->Prop
  | int (n:Int):Th L (.int n)
  | str (z:Str):Th L (.str z)
  | non:Th L .non
  | bl (b:Bool):Th L (.bl b)
  | ref {a:Addr} (h:L a):Th L (.ref a)
  | tup {ds:List D} (h:∀ d∈ds,Th L d):Th L (.tup ds)
theorem Th.mono {L M:Addr->Prop} (h:∀ a,L a->M a) {d:D} (t:Th L d):Th M d:=by
  induction t with
  | int n=>exact .int n
  | str z=>exact .str z
  | non=>exact .non
  | bl b=>exact .bl b
  | ref q=>exact .ref (h _ q)
  | tup _ ih=>exact .tup ih
theorem IsK.th {L:Addr->Prop} {d:D} (h:IsK d):Th L d:=by
  induction h with
  | is n=>exact .tup λ d hd=>by simp at hd;rcases hd with rfl | rfl;exact .str _;exact .int _
  | some=>exact .tup λ d hd=>by simp at hd;subst hd;exact .str _
  | both _ _ h1 h2=>exact .tup λ d hd=>by simp at hd;rcases hd with rfl | rfl | rfl;exact .str _;exact h1;exact h2
  | left _ h1=>exact .tup λ d hd=>by simp at hd;rcases hd with rfl | rfl;exact .str _;exact h1
  | right _ h1=>exact .tup λ d hd=>by simp at hd;rcases hd with rfl | rfl;exact .str _;exact h1
  | way _ _ h1 h2=>exact .tup λ d hd=>by simp at hd;rcases hd with rfl | rfl | rfl;exact .str _;exact .tup h1;exact h2
theorem Th.items {L:Addr->Prop} {ds:List D} (h:Th L (.tup ds)):∀ d∈ds,Th L d:=by cases h with | tup h=>exact h
abbrev isL (G:DV) (a:Addr):Prop:=∃ ds,G a=some (.lst ds)
mutual
def tsz:D->Nat
  | .tup ds=>1+b5q ds
  | _=>1
def b5q:List D->Nat
  | []=>0
  | d::ds=>tsz d+b5q ds
end
mutual
def wid:D->Nat
  | .tup ds=>max ds.length (n1q ds)
  | _=>0
def n1q:List D->Nat
  | []=>0
  | d::ds=>max (wid d) (n1q ds)
end
theorem fHq:∀ xs ys:List D,b5q (xs++ys)=b5q xs+b5q ys
  | [],ys=>by simp [b5q]
  | x::xs,ys=>by rw [Yv,b5q,b5q,fHq xs ys,Nat.add_assoc]
theorem e6q {d:D}:∀ {ds:List D},d∈ds->tsz d<=b5q ds
  | [],h=>by simp at h
  | e::ds,h=>by
    rw [b5q]
    rcases Yd.mp h with rfl | h
    . omega
    . have:=e6q h;omega
theorem mFq {d:D}:∀ {ds:List D},d∈ds->wid d<=n1q ds
  | [],h=>by simp at h
  | e::ds,h=>by
    rw [n1q]
    rcases Yd.mp h with rfl | h
    . omega
    . have:=mFq h;omega
theorem lDq:∀ d:D,1<=tsz d
  | .tup ds=>by rw [tsz];omega
  | .int _=>Nat.le_refl _
  | .str _=>Nat.le_refl _
  | .non=>Nat.le_refl _
  | .bl _=>Nat.le_refl _
  | .ref _=>Nat.le_refl _
  | .ty _=>Nat.le_refl _
  | .frl _=>Nat.le_refl _
theorem fFq:∀ ds:List D,ds.length<=b5q ds
  | []=>Nat.zero_le _
  | d::ds=>by have:=fFq ds;have:=lDq d;rw [b5q,Yb];omega
theorem nUq {xs ys:List D} (h:xs.Perm ys):b5q xs=b5q ys:=by
  induction h with
  | nil=>rfl
  | cons _ _ ih=>rw [b5q,b5q,ih]
  | swap _ _ _=>rw [b5q,b5q,b5q,b5q];omega
  | trans _ _ h1 h2=>rw [h1,h2]
theorem rIq {n:Nat}:∀ {ds:List D},(∀ d∈ds,wid d<=n)->n1q ds<=n
  | [],_=>Nat.zero_le _
  | d::ds,h=>by
    have h1:=h d (Ya ..)
    have h2:=rIq λ e he=>h e (Yc _ he)
    rw [n1q];omega
structure Bd (s p w:Nat) (d:D):Prop where
  sz:tsz d<=s
  dp:d.dp<=p
  wd:wid d<=w
theorem Bd.mono {s p w s' p' w':Nat} {d:D} (h:Bd s p w d) (h1:s<=s') (h2:p<=p') (h3:w<=w'):Bd s' p' w' d:=⟨Nat.le_trans h.sz h1,Nat.le_trans h.dp h2,Nat.le_trans h.wd h3⟩
theorem Bd.item {s p w:Nat} {ds:List D} (h:Bd s p w (.tup ds)) {d:D} (hd:d∈ds):Bd (s - 1) (p - 1) w d:=by
  have h1:=h.sz;have h2:=h.dp;have h3:=h.wd
  rw [tsz] at h1;rw [D.dp] at h2;rw [wid] at h3
  have:=e6q hd;have:=eKq hd;have:=mFq hd
  exact ⟨by omega,by omega,by omega⟩
theorem iIq {ds:List D} (h:Srt ds):gVq ds=true:=by
  induction ds with
  | nil=>rfl
  | cons a r ih=>
    cases r with
    | nil=>rfl
    | cons b r=>
      rw [gVq,ih (YN.of_cons h),(Y7.mp h).1 b (Ya ..)];rfl
theorem lQq {a:D}:∀ {r:List D},IsK a->(∀ d∈r,IsK d)->gVq (a::r)=true->∀ d∈r,ltD d a=some false
  | [],_,_,_,d,hd=>by simp at hd
  | b::r,ha,hr,h,d,hd=>by
    rw [gVq,Bool.and_eq_true,beq_iff_eq] at h
    have kb:=hr b (Ya ..)
    rcases Yd.mp hd with rfl | hd
    . exact h.1
    . have kd:=hr d (Yc _ hd)
      have h2:=lQq kb (λ e he=>hr e (Yc _ he)) h.2 d hd
      obtain ⟨v,hv⟩:=Option.isSome_iff_exists.mp (kd.lt ha)
      cases v with
      | false=>exact hv
      | true=>
        rcases kb.tri d kd with e | e | e
        . subst e;rw [h.1] at hv;cases hv
        . have z:=wZq kb d a kd ha e hv
          rw [h.1] at z;cases z
        . rw [h2] at e;cases e
theorem mSq:∀ {ds:List D},(∀ d∈ds,IsK d)->gVq ds=true->Srt ds
  | [],_,_=>YN.nil
  | a::r,hk,h=>by
    have hr:∀ d∈r,IsK d:=λ d hd=>hk d (Yc _ hd)
    refine Y7.mpr ⟨lQq (hk a (Ya ..)) hr h,mSq hr ?_⟩
    cases r with
    | nil=>rfl
    | cons b r=>rw [gVq,Bool.and_eq_true] at h;exact h.2
theorem yRq {a b:D} (ha:IsK a) (hb:IsK b) (h1:ltD a b=some false) (h2:ltD b a=some false):a=b:=by
  rcases ha.tri b hb with h | h | h
  . exact h
  . rw [h1] at h;cases h
  . rw [h2] at h;cases h
theorem mXq:∀ {xs ys:List D},(∀ d∈xs,IsK d)->xs.Perm ys->Srt xs->Srt ys->xs=ys
  | [],ys,_,hp,_,_=>(Zh.mp hp.symm).symm
  | x::xs,[],_,hp,_,_=>absurd (Zh.mp hp) (by simp)
  | x::xs,y::ys,hk,hp,h1,h2=>by
    have kx:=hk x (Ya ..)
    have ky:IsK y:=hk y (hp.mem_iff.mpr (Ya ..))
    have e:x=y:=by
      have m1:x∈y::ys:=hp.mem_iff.mp (Ya ..)
      have m2:y∈x::xs:=hp.mem_iff.mpr (Ya ..)
      rcases Yd.mp m1 with h | h
      . exact h
      . rcases Yd.mp m2 with g | g
        . exact g.symm
        . exact yRq kx ky ((Y7.mp h2).1 x h) ((Y7.mp h1).1 y g)
    subst e
    rw [mXq (λ d hd=>hk d (Yc _ hd)) (List.Perm.cons_inv hp) (YN.of_cons h1) (YN.of_cons h2)]
theorem v7q {xs ys:List D} (hk:∀ d∈xs,IsK d) (hp:xs.Perm ys) (hs:Srt ys):xs=ys ↔ gVq xs=true:=
  ⟨λ e=>by rw [e];exact iIq hs,λ h=>mXq hk hp (mSq hk h) hs⟩
def l4q:DSp:=λ ds G Q=>∃ d:D,ds=[d]/\Th (isL G) d/\∀ b:Bool,(b=true ↔ ∃ n,d=.int n)->Q (.bl b) G
def vYq:DSp:=λ ds G Q=>∃ d:D,ds=[d]/\Th (isL G) d/\Q (.bl (ofA d)) G
def v6q:DSp:=λ ds G Q=>∃ d:D,ds=[d]/\Th (isL G) d/\∀ b:Bool,(b=true ↔ ∃ is bs,HF d is bs)->Q (.bl b) G
def q8q:DSp:=λ ds G Q=>∃ (d:D) (is:List D) (bs:List (List D)),ds=[d]/\HF d is bs/\tsz d<=100000/\Q (.tup is) G
def qLq:DSp:=λ ds G Q=>∃ d:D,ds=[d]/\IsK d/\tsz d<=49000/\∀ l,G l=none->Q (.ref l) (up G l (.lst (flD d)))
def hXq:DSp:=λ ds G Q=>∃ es:List D,ds=[.tup es]/\(∀ d∈es,IsK d/\tsz d<=49000)/\es.length < 64/\Q (.bl (gVq es)) G
def iNq:DSp:=λ ds G Q=>∃ d:D,ds=[d]/\Th (isL G) d/\Bd 49000 150 63 d/\∀ b:Bool,(b=true ↔ IsKd d)->Q (.bl b) G
def Dw (a:Addr) (G G':DV):Prop:=∃ G0,Fx a G G0/\Sub G0 G'
theorem HF.inv {d:D} {is:List D} {bs:List (List D)} (h:HF d is bs):∀ {z:Str} {r:List D},d=.tup (.str z::r)->(z = "is"/\(∃ n,r=[.int n]))\/(z = "some"/\r=[])\/(z = "both"/\∃ a b,r=[a,b]/\ofA a=true/\ofA b=true)\/((z = "left"\/z = "right")/\∃ a,r=[a])\/(z = "way"/\∃ ds k,r=[.tup ds,k]):=by
  intro z r e
  cases h with
  | is n=>cases e;exact .inl ⟨rfl,_,rfl⟩
  | some=>cases e;exact .inr (.inl ⟨rfl,rfl⟩)
  | both o1 o2=>cases e;exact .inr (.inr (.inl ⟨rfl,_,_,rfl,o1,o2⟩))
  | left a=>cases e;exact .inr (.inr (.inr (.inl ⟨.inl rfl,_,rfl⟩)))
  | right a=>cases e;exact .inr (.inr (.inr (.inl ⟨.inr rfl,_,rfl⟩)))
  | way ds k=>cases e;exact .inr (.inr (.inr (.inr ⟨rfl,_,_,rfl⟩)))
theorem hf_is {r:List D}:(∃ is bs,HF (.tup (.str "is"::r)) is bs) ↔ ∃ n,r=[.int n]:=by
  constructor
  . rintro ⟨_,_,h⟩
    rcases h.inv rfl with ⟨_,h⟩ | ⟨e,_⟩ | ⟨e,_⟩ | ⟨e | e,_⟩ | ⟨e,_⟩<;>first | exact h | exact absurd e (by decide)
  . rintro ⟨n,rfl⟩;exact ⟨_,_,.is n⟩
theorem xSq {r:List D}:(∃ is bs,HF (.tup (.str "some"::r)) is bs) ↔ r=[]:=by
  constructor
  . rintro ⟨_,_,h⟩
    rcases h.inv rfl with ⟨e,_⟩ | ⟨_,h⟩ | ⟨e,_⟩ | ⟨e | e,_⟩ | ⟨e,_⟩<;>first | exact h | exact absurd e (by decide)
  . rintro rfl;exact ⟨_,_,.some⟩
theorem hf_both {r:List D}:(∃ is bs,HF (.tup (.str "both"::r)) is bs) ↔ ∃ a b,r=[a,b]/\ofA a=true/\ofA b=true:=by
  constructor
  . rintro ⟨_,_,h⟩
    rcases h.inv rfl with ⟨e,_⟩ | ⟨e,_⟩ | ⟨_,h⟩ | ⟨e | e,_⟩ | ⟨e,_⟩<;>first | exact h | exact absurd e (by decide)
  . rintro ⟨a,b,rfl,o1,o2⟩;exact ⟨_,_,.both o1 o2⟩
theorem hf_way {r:List D}:(∃ is bs,HF (.tup (.str "way"::r)) is bs) ↔ ∃ ds k,r=[.tup ds,k]:=by
  constructor
  . rintro ⟨_,_,h⟩
    rcases h.inv rfl with ⟨e,_⟩ | ⟨e,_⟩ | ⟨e,_⟩ | ⟨e | e,_⟩ | ⟨_,h⟩<;>first | exact h | exact absurd e (by decide)
  . rintro ⟨a,b,rfl⟩;exact ⟨_,_,.way _ _⟩
theorem aO4q {z:Str} {r:List D} (h1:z≠"is") (h2:z≠"some") (h3:z≠"way") (h4:z≠"both"):(∃ is bs,HF (.tup (.str z::r)) is bs) ↔ (z = "left"\/z = "right")/\∃ a,r=[a]:=by
  constructor
  . rintro ⟨_,_,h⟩
    rcases h.inv rfl with ⟨e,_⟩ | ⟨e,_⟩ | ⟨e,_⟩ | h | ⟨e,_⟩
    . exact absurd e h1
    . exact absurd e h2
    . exact absurd e h4
    . exact h
    . exact absurd e h3
  . rintro ⟨rfl | rfl,a,rfl⟩
    . exact ⟨_,_,.left a⟩
    . exact ⟨_,_,.right a⟩
theorem aD4q {d:D} {is:List D} {bs:List (List D)} (h:HF d is bs):∃ z r,d=.tup (.str z::r):=by cases h<;>exact ⟨_,_,rfl⟩
theorem aC3q {d:D} (h:∀ z r,d≠.tup (.str z::r)):¬ ∃ is bs,HF d is bs:=λ⟨_,_,f⟩=>by
  obtain ⟨z,r,e⟩:=aD4q f
  exact h z r e
theorem tXq (z:Str):inL (.str z) [.str "left", .str "right"]=(z=="left"||z=="right"):=by
  have e:∀ a b:Str,(a==b)=(b==a):=λ a b=>by rw [Bool.eq_iff_iff,beq_iff_eq,beq_iff_eq];exact eq_comm
  simp only [inL,YU,List.any_nil,eqF,Bool.or_false]
  rw [e "left" z,e "right" z]
mutual
def ws:D->Nat
  | .tup ds=>2+wss ds+ds.length
  | _=>1
def wss:List D->Nat
  | []=>0
  | d::ds=>ws d+wss ds
end
theorem r2q:∀ xs ys:List D,wss (xs++ys)=wss xs+wss ys
  | [],ys=>by simp [wss]
  | x::xs,ys=>by rw [Yv,wss,wss,r2q xs ys,Nat.add_assoc]
mutual
theorem z5q:∀ d:D,ws d+1<=4 * tsz d
  | .tup ds=>by rw [ws,tsz];have:=uEq ds;omega
  | .int _=>by simp [ws,tsz]
  | .str _=>by simp [ws,tsz]
  | .non=>by simp [ws,tsz]
  | .bl _=>by simp [ws,tsz]
  | .ref _=>by simp [ws,tsz]
  | .ty _=>by simp [ws,tsz]
  | .frl _=>by simp [ws,tsz]
theorem uEq:∀ ds:List D,wss ds+ds.length<=4 * b5q ds
  | []=>by simp [wss,b5q]
  | d::ds=>by rw [wss,b5q,Yb];have:=z5q d;have:=uEq ds;omega
end
theorem uQq (d:D):1<=ws d:=by cases d<;>simp [ws]<;>omega
theorem i1q:∀ ds:List D,ds.length<=wss ds
  | []=>Nat.zero_le _
  | d::ds=>by have:=i1q ds;have:=uQq d;rw [wss,Yb];omega
mutual
theorem iOq:∀ d:D,(flD d).length<=ws d
  | .tup ds=>by rw [flD,ws];have:=uWq ds;omega
  | .int _=>by simp [ws,flD]
  | .str _=>by simp [ws,flD]
  | .non=>by simp [ws,flD]
  | .bl _=>by simp [ws,flD]
  | .ref _=>by simp [ws,flD]
  | .ty _=>by simp [ws,flD]
  | .frl _=>by simp [ws,flD]
theorem uWq:∀ ds:List D,(flT ds).length<=1+wss ds+ds.length
  | []=>by simp [flT,wss]
  | d::ds=>by
    have h1:=iOq d
    have h2:=oIq ds
    have h3:=o6q ds
    have h4:=uQq d
    rw [flT,wss,Yb]
    split<;>simp only [Yb,Yg]<;>omega
theorem oIq:∀ ds:List D,(flC ds).length<=wss ds
  | []=>by simp [flC]
  | d::ds=>by rw [flC,wss,Yg];have:=iOq d;have:=oIq ds;omega
theorem o6q:∀ ds:List D,(flI ds).length<=1+wss ds+ds.length
  | []=>by simp [flI,wss]
  | d::ds=>by rw [flI,wss,Yb,Yg,Yb];have:=iOq d;have:=o6q ds;omega
end
theorem pYq:∀ xs ys:List D,flC (xs++ys)=flC xs++flC ys
  | [],ys=>by simp [flC]
  | x::xs,ys=>by rw [Yv,flC,flC,pYq xs ys,Yo]
abbrev cJq (ds:List D):List D:=ds.flatMap λ d=>[.int 1,d]
theorem pTq (ps:List D):∀ ds:List D,flC (cJq ds++.int 0::ps)=flI ds++flC ps
  | []=>by simp [cJq,flC,flD,flI]
  | d::ds=>by
    have:=pTq ps ds
    simp only [cJq,YC,Yv,YM,flC,flD,flI,Yo] at this ⊢
    rw [this]
theorem o0q (ps:List D):∀ ds:List D,wss (cJq ds++.int 0::ps)=1+wss ds+ds.length+wss ps
  | []=>by simp [cJq,wss,ws]
  | d::ds=>by
    have:=o0q ps ds
    simp only [cJq,YC,Yv,YM,wss,ws,Yb] at this ⊢
    omega
theorem nWq (ds:List D):(cJq ds).reverse=ds.reverse.flatMap λ d=>[d,.int 1]:=by
  induction ds with
  | nil=>rfl
  | cons d ds ih=>
    have e:cJq (d::ds)=[.int 1,d]++cJq ds:=rfl
    rw [e,List.reverse_append,ih,show (d::ds).reverse=ds.reverse++[d] from YH,Y1];rfl
theorem jFq:∀ xs:List D,(xs.flatMap λ x=>[x,D.int 1]).length=2 * xs.length
  | []=>rfl
  | x::xs=>by rw [YC,Yg,jFq xs];simp;omega
theorem HF.sz {d:D} {is:List D} {bs:List (List D)} (h:HF d is bs):b5q is < tsz d/\∀ b∈bs,b5q b < tsz d/\b.length<=wid d:=by
  cases h with
  | way ds k=>
    refine ⟨by simp only [fHq,b5q,tsz];omega,λ b hb=>?_⟩
    simp at hb;subst hb
    exact ⟨by simp only [b5q,tsz];omega,by simp only [wid,n1q];omega⟩
  | _=>exact ⟨by simp only [b5q,tsz];omega,by simp⟩
theorem HF.mem {d:D} {is:List D} {bs:List (List D)} (h:HF d is bs) {L:Addr->Prop} (t:Th L d) {s p w:Nat} (b:Bd s p w d):∀ x∈is,Th L x/\Bd s p w x:=by
  have it:∀ ds:List D,Th L (.tup ds)->Bd s p w (.tup ds)->∀ x∈ds,Th L x/\Bd s p w x:=λ ds t b x hx=>⟨t.items x hx,(b.item hx).mono (by omega) (by omega) (Nat.le_refl _)⟩
  cases h with
  | is n=>intro x hx;simp at hx
  | some=>intro x hx;simp at hx
  | both _ _=>intro x hx;exact it _ t b x (Yc _ hx)
  | left a=>intro x hx;exact it _ t b x (Yc _ hx)
  | right a=>intro x hx;exact it _ t b x (Yc _ hx)
  | way ds k=>
    intro x hx
    rcases Yq.mp hx with hx | hx
    . obtain ⟨t2,b2⟩:=it _ t b (.tup ds) (by simp)
      exact it _ t2 b2 x hx
    . simp at hx;subst hx;exact it _ t b _ (by simp)
theorem mIq (ds:List D):b5q ds.reverse=b5q ds:=nUq (List.reverse_perm ds)
theorem Dw.of {a:Addr} {G G':DV} (h:Fx a G G'):Dw a G G':=⟨G',h,.refl _⟩
theorem Dw.kp {a:Addr} {G G':DV} (h:Dw a G G') {b:Addr} {o:DO} (hb:b≠a) (e:G b=some o):G' b=some o:=by
  obtain ⟨G0,u,s⟩:=h
  exact s _ _ (u.kp hb e)
theorem Dw.fd {a:Addr} {G G':DV} (h:Dw a G G'):Fd G' a:=by
  obtain ⟨G0,u,s⟩:=h
  obtain ⟨x,y,e⟩:=u.fd
  exact ⟨x,y,s _ _ e⟩
theorem Dw.trans {a:Addr} {G G1 G2:DV} (h:Dw a G G1) (g:Dw a G1 G2):Dw a G G2:=by
  obtain ⟨G0,u,s⟩:=g
  exact t0q (λ b o nb e=>h.kp nb e) u s
theorem Dw.new {a p:Addr} {G G':DV} {o:DO} (h:Dw a G G') (hp:G' p=none):Dw a G (up G' p o):=by
  obtain ⟨G0,u,s⟩:=h
  exact ⟨G0,u,Sub.trans s (Sub.new (Sub.refl _) hp)⟩
theorem p1q {α:Type} {xs:List α} {k:Nat} (h:k<=xs.length):cut xs (some (k:Int)) none=xs.drop k:=by
  unfold cut
  rw [show HT.sIx xs.length xs.length none=xs.length from rfl,show HT.sIx xs.length 0 (some (k:Int))=k by unfold HT.sIx;simp only [];rw [if_neg (by omega)];omega]
  rw [Zi (by rw [Yz];omega)]
end L3
namespace L2
open PySem PySem.Spec PyProof.Rows
section
variable {prog:Program} {w:World} {A:Around} {E:Value->Shared->Prop} {s:Shared} {e it:Addr} {i:Nat} {old:Value}
theorem qYq {R:Value->Prop} {P:Heap->Prop} {Q:Option Value->Shared->Prop} (he:IsEnum s.heap e it i old) (hne:e≠it) (hP:∀ h h',P h->(∀ o,h.get? it=some o->h'.get? it=some o)->P h')
    (hn:∀ (A:Around) (Q:Value->Shared->Prop) (E:Value->Shared->Prop),(∀ h₁ tk x,R x->Heap.SameBut it s.heap h₁->P h₁->Q x { s with heap:=h₁,toks:=tk })->wpAny (model prog w) A (Builtin.SmallTypes.nextOf (.ref it)) Q E s)
    (hQ:∀ h' tk x t,R x->IsEnumOut h' e it ((i:Int)+1) x s.heap.objs.size->P h'->h'.get? s.heap.objs.size=some { cls:=.type "tuple", data:=.seq #[.int i t,x] } →
      (∀ b o,b≠e->b≠it->s.heap.get? b=some o->h'.get? b=some o)->Q (some (.ref s.heap.objs.size)) { s with heap:=h',toks:=tk }) :
    wpAny (model prog w) A (pyNext (.ref e)) Q E s:=by
  have hT:s.TypeIs (.ref e) "enumerate":=⟨_,he,rfl⟩
  unfold pyNext
  refine wpAny_bind (wpAny_attempt (wpAny_callSpecial?_slot (name:=Str.ofString "__next__") hT PySem.F.slot_enumerate_next (wpAny_call_entry PySem.F.slot_enumerate_next hT PySem.F.entry_enumerate_next ?_ (PySem.F.args_enumerate_next_1 _))))
  obtain ⟨hp,g,d,tk,os⟩:=s
  refine (show wpAny _ _ (field (.ref e) 2 >>= _) _ _ _ from wpAny_bind (wpAny_field he rfl (x:=.ref it) rfl (wpAny_bind (hn _ _ _ λ h₁ tk1 x rx s1 p1=>?_))))
  replace s1:Heap.SameBut it hp h₁:=s1
  have e1:IsEnum h₁ e it i old:=(s1.2 e hne).trans he
  refine (show wpAny _ _ (field (.ref e) 3 >>= _) _ _ ⟨h₁,g,d,tk1,os⟩ from wpAny_bind (wpAny_field e1 rfl (x:=rawInt i) rfl ?_))
  refine (show wpAny _ _ (field (.ref e) 4 >>= _) _ _ ⟨h₁,g,d,tk1,os⟩ from wpAny_bind (wpAny_field e1 rfl (x:=.none) rfl ?_))
  refine (show wpAny _ _ (mkInt i >>= _) _ _ ⟨h₁,g,d,tk1,os⟩ from wpAny_bind (wpAny_mkInt ?_))
  refine (show wpAny _ _ (setField (.ref e) 3 (rawInt ((i:Int)+1)) >>= _) _ _ ⟨h₁,g,d,tk1+1,os⟩ from wpAny_bind (wpAny_setField_rec e1 (by simp) λ h₂ e2 s2=>?_))
  replace s2:Heap.SameBut e h₁ h₂:=s2
  replace e2:IsEnum h₂ e it ((i:Int)+1) old:=e2
  refine (show wpAny _ _ (setField (.ref e) 4 .none >>= _) _ _ ⟨h₂,g,d,tk1+1,os⟩ from wpAny_bind (wpAny_setField_rec e2 (by simp) λ h₃ e3 s3=>?_))
  replace s3:Heap.SameBut e h₂ h₃:=s3
  replace e3:IsEnum h₃ e it ((i:Int)+1) old:=e3
  refine (show wpAny _ _ (newTuple [.int i tk1,x] >>= _) _ _ ⟨h₃,g,d,tk1+1,os⟩ from wpAny_bind (wpAny_newTuple ?_))
  have e4:IsEnum (h₃.push { cls:=.type "tuple", data:=.seq #[.int i tk1,x] }) e it ((i:Int)+1) old:=Heap.get?_push_of_some _ e3
  have hsz:h₃.objs.size=hp.objs.size:=by rw [s3.1,s2.1,s1.1]
  have hel:e < hp.objs.size:=Heap.lt_size he
  have t4:(h₃.push { cls:=.type "tuple", data:=.seq #[.int i tk1,x] }).get? hp.objs.size=some { cls:=.type "tuple", data:=.seq #[.int i tk1,x] }:=by rw [<- hsz];exact Heap.get?_push_size _ rfl
  have k4:∀ b o,b≠e->b≠it->hp.get? b=some o->(h₃.push { cls:=.type "tuple", data:=.seq #[.int i tk1,x] }).get? b=some o:=λ b o hbe hbi hb=>Heap.get?_push_of_some _ (s3.extBut b o hbe (s2.extBut b o hbe (s1.extBut b o hbi hb)))
  have p4:P (h₃.push { cls:=.type "tuple", data:=.seq #[.int i tk1,x] }):=hP _ _ p1 λ o ho=>Heap.get?_push_of_some _ (s3.extBut _ _ (Ne.symm hne) (s2.extBut _ _ (Ne.symm hne) ho))
  rw [hsz]
  generalize h₃.push { cls:=.type "tuple", data:=.seq #[.int i tk1,x] }=h₄ at e4 t4 k4 p4 ⊢
  refine (show wpAny _ _ (Builtin.SmallTypes.ownedTupleIsFree (.ref e) >>= _) _ _ ⟨h₄,g,d,tk1+1,os⟩ from wpAny_bind ?_)
  unfold Builtin.SmallTypes.ownedTupleIsFree
  refine wpAny_bind (wpAny_field e4 rfl (x:=.none) rfl (wpAny_pure ?_))
  simp only [if_true]
  refine wpAny_bind (wpAny_rule (wpAny_bind (wpAny_field e4 rfl (x:=old) rfl (wpAny_bind (wpAny_setField_rec e4 (by simp) λ h₅ e5 s5=>?_)))))
  replace s5:Heap.SameBut e h₄ h₅:=s5
  replace e5:IsEnum h₅ e it ((i:Int)+1) x:=e5
  refine (show wpAny _ _ (Builtin.SmallTypes.ownedTupleHandOut (.ref e) (.ref hp.objs.size) >>= _) _ _ ⟨h₅,g,d,tk1+1,os⟩ from wpAny_bind ?_)
  unfold Builtin.SmallTypes.ownedTupleHandOut
  refine wpAny_bind (wpAny_setField_rec e5 (by simp) λ h₆ e6 s6=>?_)
  replace s6:Heap.SameBut e h₅ h₆:=s6
  replace e6:IsEnumOut h₆ e it ((i:Int)+1) x hp.objs.size:=e6
  refine wpAny_setField_rec e6 (by simp) λ h₇ e7 s7=>?_
  replace s7:Heap.SameBut e h₆ h₇:=s7
  replace e7:IsEnumOut h₇ e it ((i:Int)+1) x hp.objs.size:=e7
  have kk:∀ b o,b≠e->h₄.get? b=some o->h₇.get? b=some o:=λ b o hb q=>s7.extBut b o hb (s6.extBut b o hb (s5.extBut b o hb q))
  exact wpAny_bind (wpAny_letGo (wpAny_pure ⟨_,rfl,wpAny_pure (hQ h₇ _ x tk1 rx e7 (hP _ _ p4 λ o ho=>kk _ _ (Ne.symm hne) ho) (kk _ _ (Nat.ne_of_gt hel) t4) λ b o hb hi q=>kk b o hb (k4 b o hb hi q))⟩))
theorem tEq {Q:Option Value->Shared->Prop} (he:IsEnum s.heap e it i old)
    (hn:∀ (A:Around) (Q:Value->Shared->Prop) (E:Value->Shared->Prop),A.handled=none->(∀ h' x,Heap.ExtBut it s.heap h'->(∃ o,h'.get? x=some o/\o.cls=.type "StopIteration")->E (.ref x) { s with heap:=h' })->wpAny (model prog w) A (Builtin.SmallTypes.nextOf (.ref it)) Q E s)
    (hh:A.handled=none) (hQ:∀ h',Heap.ExtBut it s.heap h'->Q none { s with heap:=h' }):wpAny (model prog w) A (pyNext (.ref e)) Q E s:=by
  have hT:s.TypeIs (.ref e) "enumerate":=⟨_,he,rfl⟩
  unfold pyNext
  refine wpAny_bind (wpAny_attempt (wpAny_callSpecial?_slot (name:=Str.ofString "__next__") hT PySem.F.slot_enumerate_next (wpAny_call_entry PySem.F.slot_enumerate_next hT PySem.F.entry_enumerate_next ?_ (PySem.F.args_enumerate_next_1 _))))
  refine (show wpAny _ _ (field (.ref e) 2 >>= _) _ _ _ from wpAny_bind (wpAny_field he rfl (x:=.ref it) rfl (wpAny_bind (hn _ _ _ hh λ h' x e' hx=>?_))))
  obtain ⟨o,ho,hc⟩:=hx
  refine wpAny_bind (wpAny_isInstance (T:="StopIteration") (b:=true) ⟨o,ho,hc⟩ isSubtype_stop ?_)
  exact wpAny_pure (hQ _ e')
end
def ItEn (z:Str):It:=⟨λ i _=>i < z.length,λ i H x H'=>∃ T c,z.cps[i]?=some c/\x=.ref T/\H T=none/\H'=upd H T (.tup [.int i,.str ⟨#[c]⟩]),λ i _=>z.length<=i⟩
theorem d8q {h h':Heap} {it:Addr} {ty:String} {z:Str} {t:Tok} {i:Nat} (x:h.IsStrIter it ty z t i) (k:∀ o,h.get? it=some o->h'.get? it=some o):h'.IsStrIter it ty z t i:=let ⟨o,ho,r⟩:=x;⟨o,k o ho,r⟩
theorem qXq {P:Program} {w:World} {K:PySem.W.Frag} {es:List Expr} {k:Nat} {pos:Pos} (e it:Addr) (z:Str) (t:Tok) (ty:String) (hty:ty = "str_ascii_iterator"\/ty = "str_iterator") (hne:e≠it) :
    Turn P w K (.Tuple es k pos) (ItEn z) [e,it] e (λ i h=>i<=z.length/\(∃ old,IsEnum h e it i old)/\h.IsStrIter it ty z t i) where
  mem:=by simp
  obj:=λ i h st b hb=>by
    obtain ⟨_,⟨old,a1⟩,o,a2,c,d⟩:=st
    simp only [Yd,Yn,or_false] at hb
    rcases hb with rfl | rfl
    . exact ⟨_,a1,λ v z=>by cases (show Data.fields _=Data.cell v from z)⟩
    . exact ⟨o,a2,λ v z=>by rw [d] at z;cases z⟩
  keep:=λ i h h' st kk=>⟨st.1,let ⟨old,a1⟩:=st.2.1;⟨old,kk _ (by simp) _ a1⟩,d8q st.2.2 λ o ho=>kk _ (by simp) _ ho⟩
  item:=by
    intro X hP hw hK hc i pins s σ H E I hf st hg
    subst hP hw hK
    obtain ⟨_,⟨old,a1⟩,a2⟩:=st
    obtain ⟨c,hx⟩:∃ c,z.cps[i]?=some c:=⟨z.cps[i]'hg,Array.getElem?_eq_getElem hg⟩
    refine qYq (R:=λ x=>∃ u,x=.str ⟨#[c]⟩ u) (P:=λ h=>h.IsStrIter it ty z t (i+1)) a1 hne (λ h h' p k=>d8q p k) (λ A Q E q=>?_) λ h' tk x u rx Out p' hT kk=>?_
    . rcases hty with rfl | rfl
      . exact wpAny_nextOf_ascii_item a2 hx λ h' p sb=>q h' _ _ ⟨_,rfl⟩ sb p
      . exact wpAny_nextOf_wide_item a2 hx λ h' p sb=>q h' _ _ ⟨_,rfl⟩ sb p
    obtain ⟨u2,rfl⟩:=rx
    refine ⟨_,rfl,wpAny_letOwnedTupleGo_enum (s:={ s with heap:=h',toks:=tk }) Out λ h2 J2 sb=>?_⟩
    have el:e < s.heap.objs.size:=Heap.lt_size a1
    have il:it < s.heap.objs.size:=let ⟨_,ho,_⟩:=a2;Heap.lt_size ho
    have I1:Inv X pins σ (upd H s.heap.objs.size (.tup [.int i,.str ⟨#[c]⟩])) { s with heap:=s.heap.push { cls:=.type "tuple", data:=.seq #[.int i u,.str ⟨#[c]⟩ u2] } }:=
      I.laid (t':=s.toks) (λ b o e=>Heap.get?_push_of_some _ e) (Nat.le_refl _) (show ObjOk X.prog X.w _ _ _ (.tup [.int i,.str ⟨#[c]⟩]) from ⟨by show 2<=sizeLine;decide,[.int i u,.str ⟨#[c]⟩ u2],.cons ⟨_,rfl⟩ (.cons ⟨_,rfl⟩ .nil),IsTup.new _ _⟩)
    have lts:∀ b∈[e,it],b < s.heap.objs.size:=λ b hb=>by
      simp only [Yd,Yn,or_false] at hb
      rcases hb with rfl | rfl
      . exact el
      . exact il
    have I2:Inv X pins σ (upd H s.heap.objs.size (.tup [.int i,.str ⟨#[c]⟩])) { s with heap:=h2,toks:=tk }:=
      Inv.turnedL (s:={ s with heap:=s.heap.push { cls:=.type "tuple", data:=.seq #[.int i u,.str ⟨#[c]⟩ u2] } }) (h':=h2) (t':=tk) (fp:=[e,it]) I1 (λ b hb=>by
        obtain ⟨f0,fr⟩:=hf b hb
        exact ⟨by rw [aUq (Nat.ne_of_lt (lts b hb))];exact f0,fr⟩) (λ b o hb q=>by
        have hb':b≠e/\b≠it:=by simpa using hb
        rcases Heap.get?_push_cases q with ⟨z1,z2⟩ | q
        . rw [z1,z2];exact sb.extBut _ _ (Nat.ne_of_gt el) hT
        . exact sb.extBut _ _ hb'.1 (kk b o hb'.1 hb'.2 q))
    exact ⟨.ref s.heap.objs.size,_,I2,rfl,⟨_,c,hx,rfl,I.hok.fresh (Nat.le_refl _),rfl⟩,⟨hg,⟨_,J2⟩,d8q p' λ o ho=>sb.extBut _ _ (Ne.symm hne) ho⟩,λ b hb=>by rw [aUq (Nat.ne_of_lt (lts b hb))];exact (hf b hb).1⟩
  done:=by
    intro X hP hw hK hc i pins s σ H E I hf st hg
    subst hP hw hK
    obtain ⟨_,⟨old,a1⟩,a2⟩:=st
    have hx:z.cps[i]?=none:=Array.getElem?_eq_none hg
    refine tEq a1 (λ A Q E hh q=>?_) (I.ok.hd hc) λ h' eb=>⟨rfl,?_⟩
    . rcases hty with rfl | rfl
      . exact wpAny_nextOf_ascii_end hh a2 hx q
      . exact wpAny_nextOf_wide_end hh a2 hx q
    . refine I.turnedL (t':=s.toks) (fp:=[e,it]) hf λ b o hb q=>?_
      have hb':b≠e/\b≠it:=by simpa using hb
      exact eb b o hb'.2 q
  self:=λ _ _ _ _ _ st h=>by
    obtain ⟨_,⟨old,a1⟩,_⟩:=st
    exact wpAny_pyIter_enum a1 h
section
variable {X:Cx}
theorem n8q (x:Str):strIterType x = "str_ascii_iterator"\/strIterType x = "str_iterator":=by
  unfold strIterType;split<;>simp
def iEn (t:TA):TI:=λ σ H R=>t σ H λ vs H1=>∃ z,vs=[.str z]/\R (ItEn z) H1
theorem xEq {es:List Expr} {k:Nat} {tp:Pos} {a:Expr} {ta:TA} {p pos:Pos} (hg:Gl X "enumerate") (hm:X.mg "enumerate" = none) (ha:PA X [a] ta) (hs:bAq a=true):PI X (.Tuple es k tp) (.Call (.Name "enumerate" p) [a] [] pos) (iEn ta):=by
  intro pins s σ H R I h
  refine Call_ (e3q I hg hm PyProof.Rows.boot_enumerate (PyProof.Rows.callWith_type1 (thn (ha pos pins s σ H _ I h) λ us s1 ⟨vs,H1,I1,r1,z,ev,q⟩=>?_) (aMq hs) rfl))
  subst ev
  cases r1 with
  | cons r rr=>
    cases rr
    obtain ⟨t,rfl⟩:=r
    refine call_enumerate_str λ h' a1 a2 _ kk=>?_
    refine wpAny_pyIter_enum a1 ?_
    refine ⟨s1.heap.objs.size+1,[s1.heap.objs.size+1,s1.heap.objs.size],_,_,H1,rfl,I1.kept (t':=s1.toks) kk,qXq _ _ z t _ (n8q z) (Nat.succ_ne_self _),⟨Nat.zero_le _,⟨_,a1⟩,a2⟩,λ b hb=>?_,q⟩
    have hb':s1.heap.objs.size<=b:=by
      simp only [Yd,Yn,or_false] at hb
      rcases hb with e | e<;>(rw [e];first | exact Nat.le_refl _ | exact Nat.le_add_right _ _)
    exact I1.fpOk hb' (I1.hok.fresh hb')
end
end L2
namespace L3
open PySem PySem.Spec L2
section
variable {X:Cx} {es:List Expr} {a:Expr} {t:DTA} {p pos:Pos}
def enS (z:Str):List D:=z.cps.toList.zipIdx.map λ c=>.tup [.int (c.2:Int),.str ⟨#[c.1]⟩]
abbrev diEn (t:DTA):DTI:=λ ρ G R=>t ρ G λ ds G1=>match ds with
  | [.str z]=>R ⟨enS z,λ _=>True⟩ G1
  | _=>False
theorem xCq {k:Nat} {tp:Pos} (hg:Gl X "enumerate") (hm:X.mg "enumerate" = none) (ha:AA X [a] t) (hs:bAq a=true:=by rfl):AI X (.Tuple es k tp) (.Call (.Name "enumerate" p) [a] [] pos) (diEn t):=by
  obtain ⟨ca,ja,ra⟩:=ha.run
  refine ⟨_,⟨xEq hg hm ja.run hs⟩,λ ρ G DR σ H R B q F=>ra ρ G _ σ H _ B q λ ds G1 vs H1 g1 al hl q1=>?_⟩
  split at q1
  . next z=>
    obtain ⟨v,r,rfl,rfl,e⟩:=al
    cases e
    refine ⟨z,rfl,F ⟨enS z,λ _=>True⟩ _ G1 H1 g1 (λ G2 H2 g2 _=>⟨λ n d hd=>?_,λ n hn=>?_⟩) q1⟩
    . replace hd:(enS z)[n]?=some d:=hd
      unfold enS at hd
      rw [Yw,List.getElem?_zipIdx] at hd
      cases hc:z.cps.toList[n]? with
      | none=>rw [hc] at hd;cases hd
      | some c=>
        rw [hc] at hd
        simp at hd
        subst hd
        have hlt:=(Yu.mp hc).1
        refine ⟨hlt,λ x H' y=>?_⟩
        obtain ⟨T,c',e1,rfl,hT,rfl⟩:=y
        rw [<- Array.getElem?_toList,hc] at e1
        cases e1
        have g3:=Go.newT (o:=.tup [.int n,.str ⟨#[c]⟩]) g2.vw hT
        exact ⟨g3,T,_,rfl,.of bKq,⟨_,_,rfl,rfl,.one rfl⟩⟩
    . replace hn:(enS z).length<=n:=hn
      unfold enS at hn
      rw [Yf,List.length_zipIdx] at hn
      exact hn
  . exact q1.elim
end
end L3
namespace L2
open PySem PySem.Spec PyProof.Rows
section
variable {X:Cx}
def aT9q:V->List V->Hp->VK->Prop:=λ x vs H Q=>∃ l xs,x=.ref l/\vs=[]/\H l=some (.lst xs)/\Q .non (upd H l (.lst xs.reverse))
theorem xGq:MtM X "list.reverse" aT9q:=by
  intro pins s σ H x vs v us Q I rx rv h
  obtain ⟨l,xs,rfl,rfl,hH,q⟩:=h
  cases rx
  have hus:=rv.zero
  subst hus
  obtain ⟨z,its,n,r,hl,e⟩:=I.lstM hH
  refine call_meets PySem.F.slot_list_reverse ⟨_,e,rfl⟩ PySem.F.entry_list_reverse (PySem.F.args_list_reverse_1 _) (AutoSeq1.list_reverse_list_0 l its.toArray n (by rw [Ye];omega)) ⟨e,?_⟩
  have hlen:=r.length
  exact ⟨.non,_,I.lset (its':=its.reverse) (ys:=xs.reverse) hH e (by simp) (dBq r) (by rw [Ym];omega),rfl,q⟩
def ev2 {α:Type}:List α->List α
  | x::_::r=>x::ev2 r
  | [x]=>[x]
  | []=>[]
theorem q5q {α:Type}:∀ (xs:List α) (i:Nat),(ev2 xs)[i]?=xs[2 * i]?
  | [],i=>by simp [ev2]
  | [x],0=>rfl
  | [x],i+1=>by simp [ev2]
  | x::y::r,0=>rfl
  | x::y::r,i+1=>by
    rw [ev2,List.getElem?_cons_succ,q5q r i,show 2 * (i+1)=2 * i+1+1 by omega,List.getElem?_cons_succ,List.getElem?_cons_succ]
theorem kQq {α:Type}:∀ xs:List α,(ev2 xs).length=(xs.length+1) / 2
  | []=>by simp [ev2]
  | [x]=>by simp [ev2]
  | x::y::r=>by rw [ev2,Yb,kQq r,Yb,Yb];omega
theorem aT3q (its:List Value) (a:Nat):slicePick its.toArray (some (a:Int)) none (some 2)=(ev2 (its.drop a)).toArray:=by
  unfold slicePick sliceBounds sliceRange
  simp only [Option.getD_some,Ye]
  congr 1
  by_cases ha:a<=its.length
  case neg=>
    have e1:(max (0:Int) (min (if (a:Int) < 0 then (a:Int)+its.length else a) its.length))=its.length:=by rw [if_neg (by omega)];omega
    simp only [show (2:Int) > 0 by decide,if_true,e1]
    rw [if_neg (by omega),Zj (by omega)]
    rfl
  have e1:(max (0:Int) (min (if (a:Int) < 0 then (a:Int)+its.length else a) its.length))=a:=by rw [if_neg (by omega)];omega
  simp only [show (2:Int) > 0 by decide,if_true,e1]
  have hc:(if (a:Int) < (its.length:Int) then ((its.length:Int) - a+2 - 1) / 2 else 0).toNat=(ev2 (its.drop a)).length:=by
    rw [kQq,Yz]
    split<;>omega
  rw [hc,List.filterMap_map]
  have hf:((λ x=>its.toArray[x]?) ∘ λ(k:Nat)=>((a:Int)+2 * (k:Int)).toNat)=λ k=>(ev2 (its.drop a)).toArray[k]?:=by
    funext k
    show its.toArray[((a:Int)+2 * (k:Int)).toNat]?=(ev2 (its.drop a)).toArray[k]?
    rw [show ((a:Int)+2 * (k:Int)).toNat=a+2 * k by omega,List.getElem?_toArray,List.getElem?_toArray,q5q,List.getElem?_drop]
  rw [hf]
  have z:=PySem.W.krv_all (ev2 (its.drop a)).toArray
  rw [Ye] at z
  exact z
theorem k6q:∀ {xs:List V} {us:List Value} (n:Nat),Vals xs us->Vals (xs.drop n) (us.drop n)
  | _,_,0,r=>r
  | _,_,_+1,.nil=>.nil
  | _,_,n+1,.cons _ t=>k6q n t
theorem mUq:∀ {xs:List V} {us:List Value},Vals xs us->Vals (ev2 xs) (ev2 us)
  | _,_,.nil=>.nil
  | _,_,.cons r .nil=>.cons r .nil
  | _,_,.cons r (.cons _ t)=>.cons r (mUq t)
variable {e lo st:Expr} {te:TE} {tl tk:TO} {pos p2:Pos}
def tEv (K:PySem.W.Frag) (te:TE) (tl tk:TO):TE:=λ σ H Q=>te σ H λ x H1=>tl σ H1 λ l H2=>tk σ H2 λ k H3=>k=some 2/\∃ (a:Addr) (xs:List V) (n:Nat),l=some (n:Int)/\x=.ref a/\SqL K H3 a xs/\∀ p,H3 p=none->Q (.ref p) (upd H3 p (.lst (ev2 (xs.drop n))))
theorem aT4q (he:PE X e te) (hl:PO X (some lo) tl) (hk:PO X (some st) tk):PE X (.Subscript e (.Slice (some lo) none (some st) p2) pos) (tEv X.K te tl tk):=by
  intro pins s σ H Q I h
  refine Subscript_ (thn (he pins s σ H _ I h) λ v s1 ⟨x,H1,I1,r1,q1⟩=>?_)
  refine wpAny_Slice (thn (hl pins s1 σ H1 _ I1 q1) λ vl s2 ⟨l,H2,I2,pl,q2⟩=>?_)
  rw [evalPart_none]
  refine wpAny_pure ?_
  refine thn (hk pins s2 σ H2 _ I2 q2) λ vk s3 ⟨k,H3,I3,pk,e1,a,xs,n,e2,e3,hx,q3⟩=>?_
  subst e1 e2 e3
  cases r1
  have I4:Inv X pins σ H3 { s3 with heap:=s3.heap.push { cls:=.type "slice", data:=.fields #[vl,.none,vk] } }:=I3.kept (t':=s3.toks) λ b ob q=>Heap.get?_push_of_some _ q
  obtain ⟨its,r,ht,hz⟩:=I4.list hx
  have hlen:=r.length
  show wpAny (model X.prog X.w) X.A (subscriptTail e (.Slice (some lo) none (some st) p2) (.ref a) (.ref s3.heap.objs.size)) (EP X pins σ Q) X.xe { s3 with heap:=s3.heap.push { cls:=.type "slice", data:=.fields #[vl,.none,vk] } }
  refine tail_any (ops:=[.ref a,.ref s3.heap.objs.size]) ht.isList.typeIs slot_list_getitem.lookup ?_ (by with_unfolding_all rfl)
  refine wpAny_getItem_list_slice ht.isList (Heap.IsSliceOf.new ..) pl .none pk (by simp) ?_ (by rw [Ye];omega)
  rw [aT3q its n]
  have hle:(ev2 (xs.drop n)).length<=xs.length:=by rw [kQq,Yz];omega
  refine ⟨.ref _,_,I4.laid (t':=s3.toks) (o:=.lst (ev2 (xs.drop n))) (λ b ob q=>Heap.get?_push_of_some _ q) (Nat.le_refl _) ?_,rfl,q3 _ (I4.hok.fresh (Nat.le_refl _))⟩
  exact ⟨by omega,_,0,mUq (k6q n r),Heap.get?_push_size _ rfl⟩
def aW7q:List V->Hp->VK->Prop:=λ xs H Q=>∃ z n,xs=[.str z]/\PySem.intText? z=some n/\z.length<=640/\Q (.int n) H
theorem o2q:CallR X (.type "int") aW7q:=by
  intro pins s σ H xs us Q I r h
  obtain ⟨z,n,rfl,hn,hl,q⟩:=h
  obtain ⟨u,rfl,rx⟩:=gQq r
  obtain ⟨t,rfl⟩:=rx
  exact PySem.W.KIN.call_text hn hl ⟨.int n,H,I.tok _,⟨_,rfl⟩,q⟩
end
end L2
namespace L3
open PySem PySem.Spec L2
section
variable {X:Cx} {e lo st:Expr} {te:DTE} {tl tk:DTO} {pos p2:Pos}
def aK3q:D->List D->DV->DK->Prop:=λ x xs G Q=>match x,xs with
  | .ref l,[]=>onM G l λ ds=>Q .non (up G l (.lst ds.reverse))
  | _,_=>False
theorem lEq:AMt X "list" "list.reverse" pNq aK3q:=by
  refine ⟨_,⟨xGq⟩,λ x v G H w ax h=>fGq w ax h,λ x xs vx vs G H DQ Q v ax al r F=>?_⟩
  unfold aK3q at r
  split at r
  . next l=>
    cases ax;cases al
    obtain ⟨ds,ws,k,e1,h1,r1⟩:=cWq v r
    exact ⟨l,ws,rfl,rfl,h1,F .non _ _ _ (Go.setL v e1 r1.reverse) rfl k⟩
  . exact r.elim
theorem AbsL.ev2 {K:PySem.W.Frag} {H:Hp}:∀ {ds:List D} {vs:List V},AbsL K H ds vs->AbsL K H (L2.ev2 ds) (L2.ev2 vs)
  | [],_,h=>by rw [show _=[] from h];rfl
  | [d],_,⟨v,r,e,q,l⟩=>by subst e;rw [show r=[] from l];exact ⟨v,[],rfl,q,rfl⟩
  | d::d'::ds,_,⟨v,r,e,q,v',r',e',q',l⟩=>by subst e e';exact ⟨v,_,rfl,q,AbsL.ev2 l⟩
abbrev dEv (te:DTE) (tl tk:DTO):DTE:=λ ρ G Q=>te ρ G λ x G1=>tl ρ G1 λ l G2=>tk ρ G2 λ k G3=>k=some 2/\match x with
  | .ref a=>onL G3 a λ ds=>∃ n:Nat,l=some (n:Int)/\∀ p,G3 p=none->Q (.ref p) (up G3 p (.lst (L2.ev2 (ds.drop n))))
  | _=>False
theorem s7q (he:AE X e te) (hl:AO X (some lo) tl) (hk:AO X (some st) tk):AE X (.Subscript e (.Slice (some lo) none (some st) p2) pos) (dEv te tl tk):=by
  obtain ⟨ce,je,re⟩:=he.run
  obtain ⟨cl,jl,rl⟩:=hl.run
  obtain ⟨ck,jk,rk⟩:=hk.run
  refine ⟨_,⟨aT4q je.run jl.run jk.run⟩,λ ρ G DQ σ H Q B q F=>re ρ G _ σ H _ B q λ x G1 v H1 g1 ax q1=>rl ρ G1 _ σ H1 _ (B.go g1) q1 λ l G2 H2 g2 q2=>rk ρ G2 _ σ H2 _ ((B.go g1).go g2) q2 λ k G3 H3 g3 ⟨e1,q3⟩=>?_⟩
  cases x with
  | ref a=>
    cases ax
    obtain ⟨ds,vs,⟨n,e2,k2⟩,s,r⟩:=bHq g3.vw q3
    exact ⟨e1,a,vs,n,e2,rfl,s,λ p hp=>F (.ref p) _ _ _ (((g1.trans g2).trans g3).trans (Go.newL g3.vw hp (r.drop n).ev2)) rfl (k2 p (g3.vw.none hp))⟩
  | _=>exact (show False from q3).elim
def aN1q:D->DV->DK->Prop:=λ x G Q=>match x with
  | .str z=>∃ n,PySem.intText? z=some n/\z.length<=640/\Q (.int n) G
  | _=>False
theorem nSq:ACall X (.type "int") (rHq aN1q):=by
  refine ⟨_,⟨o2q⟩,λ xs vs G H DQ Q v a r F=>?_⟩
  obtain ⟨x,u,rfl,rfl,ax,r⟩:=c4q r a
  cases x with
  | str z=>cases ax;obtain ⟨n,hn,hl,q⟩:=r;exact ⟨z,n,rfl,hn,hl,F (.int n) G _ H (.refl v) rfl q⟩
  | _=>exact (show False from r).elim
end
end L3
namespace L2
open PySem PySem.Spec PyProof.Rows
section
variable {X:Cx}
end
end L2
namespace L3
open PySem PySem.Spec L2
section
variable {X:Cx} {es:List Expr} {a b:Expr} {t:DTA} {p pos:Pos}
end
end L3
namespace L2
open PySem PySem.Spec PyProof.Rows
section
variable {X:Cx}
theorem vBq {α:Type} (xs:List α) (n:Nat) (h1:n<=1000) (h2:xs.length<=1000):(Yp n xs).flatten.length<=1000000:=by
  have e:(Yp n xs).flatten.length=n * xs.length:=by
    induction n with
    | zero=>simp
    | succ n ih=>rw [YO,Y3,Yg,ih (by omega),Nat.succ_mul];omega
  rw [e]
  have:=Nat.mul_le_mul h1 h2;omega
end
end L2
namespace L3
open PySem PySem.Spec L2
theorem AbsL.rep {K:PySem.W.Frag} {H:Hp} {ds:List D} {vs:List V} (h:AbsL K H ds vs):∀ n,AbsL K H (Yp n ds).flatten (Yp n vs).flatten
  | 0=>rfl
  | n+1=>by rw [YO,YO,Y3,Y3];exact h.append (AbsL.rep h n)
section
variable {X:Cx}
end
end L3
namespace L2
open PySem PySem.Spec PyProof.Rows
section
variable {X:Cx}
def aM8q (K:PySem.W.Frag):R2:=λ x y H Q=>∃ (a:Addr) (xs:List V) (n:Int),x=.ref a/\y=.int n/\SqL K H a xs/\-1000<=n/\n<=1000/\xs.length<=1000/\∀ p,H p=none->Q (.ref p) (upd H p (.lst (Yp n.toNat xs).flatten))
theorem vXq:OpR X (binaryOp .Mult) (aM8q X.K):=by
  intro pins s σ H x y v u Q I rx ry h
  obtain ⟨a,xs,n,rfl,rfl,ha,h0,hn,hx,q⟩:=h
  cases rx
  obtain ⟨t,rfl⟩:=ry
  obtain ⟨its,r,p,hz⟩:=I.list ha
  have hlen:=r.length
  have hn':n.toNat<=1000:=by omega
  obtain ⟨⟨cls,d,data,sl⟩,ho,hcl,k,hd⟩:=id p.isList
  simp only at hcl hd
  subst hcl hd
  have hsz':its.toArray.size * n.toNat<=1000000:=by
    rw [Ye,<- hlen]
    have:=Nat.mul_le_mul hx hn';omega
  refine wpAny_binaryOp_repeat_ref (T:="list") (U:="int") (by decide) ⟨_,ho,rfl⟩ (λ s'=>typeIs_int s' n t) noFill_list_mul F.fills_int_mul F.slot_int_rmul repeat_list F.slot_int_index.lookup
    (call_meets F.slot_int_rmul (typeIs_int s n t) F.entry_int_rmul (F.args_int_rmul_2 _ _) (lm_int_rmul_list_any n t a its.toArray k d sl)
      ⟨ho,rfl,⟨_,ho,rfl⟩,call_meets F.slot_list_mul ⟨_,ho,rfl⟩ F.entry_list_mul (F.args_list_mul_2 _ _)
        (lm_list_mul_any a its.toArray k d sl n t (by simp [Builtin.List.listFitsIndex];omega) (by omega) (by unfold Builtin.List.listTooLong;rw [decide_eq_true_eq,sizeLine_eq];omega))
        ⟨ho,?_⟩⟩)
  rw [listMul_foldl_if]
  refine ⟨.ref s.heap.objs.size,_,I.laid (t':=s.toks) (o:=.lst (Yp n.toNat xs).flatten) (λ b ob q=>Heap.get?_push_of_some _ q) (Nat.le_refl _) ?_,rfl,q _ (I.hok.fresh (Nat.le_refl _))⟩
  exact ⟨by have:=vBq xs n.toNat hn' hx;rw [sizeLine_eq];omega,_,0,m7q r n.toNat,Heap.get?_push_size _ rfl⟩
end
end L2
namespace L3
open PySem PySem.Spec L2
section
variable {X:Cx}
def yPq:DR2:=λ x y G Q=>match x,y with
  | .ref l,.int n=>onL G l λ ds=>-1000<=n/\n<=1000/\ds.length<=1000/\∀ p,G p=none->Q (.ref p) (up G p (.lst (Yp n.toNat ds).flatten))
  | _,_=>False
theorem n3q:AOp X (binaryOp .Mult) yPq:=by
  refine ⟨_,⟨vXq⟩,λ x y vx vy G H DQ Q v ax ay r F=>?_⟩
  unfold yPq at r
  split at r
  . next l n=>
    cases ax;cases ay
    obtain ⟨ds,vs,⟨h0,h1,h2,k⟩,s,rl⟩:=bHq v r
    exact ⟨l,vs,n,rfl,rfl,s,h0,h1,by rw [rl.len];exact h2,λ p hp=>F (.ref p) _ _ _ (Go.newL v hp (rl.rep _)) rfl (k p (v.none hp))⟩
  . exact r.elim
end
end L3
namespace L3
open PySem L2 PySem.NumText PyProof.Rows PySem.W PySem.W.KIN
abbrev d4q (n:Int):Str:=Str.ofString (toString n)
abbrev dg (m:Nat):List Nat:=(Nat.toDigits 10 m).map Char.toNat
theorem cMq (m:Nat):AllDigits (dg m):=by
  intro c hc
  obtain ⟨ch,hch,e⟩:=Yl.mp hc
  rw [<- e]
  exact digit_range (Nat.isDigit_of_mem_toDigits (by decide) (by decide) hch)
theorem lKq (m:Nat):dg m≠[]:=by
  intro e
  have h:=toDigits_len_ge 10 m
  rw [List.map_eq_nil_iff.mp e] at h
  exact absurd h (by decide)
theorem m2q {m:Nat} (h:m < 10 ^ 12):(dg m).length<=12:=by
  rw [Yf];exact toDigits_len_pow (by decide) (by decide) h
theorem lNq (m:Nat):(d4q (m:Int)).cps.toList=dg m:=signs_num m
theorem l7q (m:Nat):(d4q (Int.negSucc m)).cps.toList=45::dg (m+1):=by
  rw [signs_ofString]
  show (("-"++Nat.repr (m+1)).toList.map Char.toNat)=_
  rw [String.toList_append,YQ,Nat.toList_repr]
  rfl
theorem iYq {n:Int} (h:n.natAbs < 10 ^ 12):PySem.intText? (d4q n)=some n/\(d4q n).length<=13:=by
  have hl:(d4q n).cps.toList.length=(d4q n).length:=Array.length_toList
  cases n with
  | ofNat m=>
    have e:=lNq m
    have l:=m2q h
    have hl:(d4q (m:Int)).cps.toList.length=(d4q (m:Int)).length:=Array.length_toList
    rw [e] at hl
    have le:(d4q (m:Int)).length<=12:=by rw [<- hl];exact l
    have z:=intText_digits (x:=d4q (m:Int)) (by rw [e];exact cMq m) (by rw [e];exact lKq m) (by omega)
    rw [e,val_back] at z
    exact ⟨z,by show (d4q (m:Int)).length<=13;omega⟩
  | negSucc m=>
    have e:=l7q m
    have l:=m2q (m:=m+1) h
    have le:(d4q (Int.negSucc m)).length<=13:=by rw [<- hl,e,Yb];omega
    have z:=intText_neg (x:=d4q (Int.negSucc m)) e (cMq _) (lKq _) (by omega)
    rw [val_back] at z
    exact ⟨z,le⟩
theorem qNq (m:Nat) (h:0 < m):(dg m).head?≠some 48:=by
  induction m using Nat.strongRecOn with
  | _ m ih=>
    by_cases h1:m < 10
    . have key:∀ k < 10,0 < k->(dg k).head?≠some 48:=by decide +kernel
      exact key m h1 h
    . have hm:m % 10 < 10:=Nat.mod_lt m (by decide)
      have t:Nat.toDigits 10 (m / 10)++Nat.toDigits 10 (m % 10)=Nat.toDigits 10 (10 * (m / 10)+m % 10):=Nat.toDigits_append_toDigits (by decide) (by omega) hm
      rw [Nat.div_add_mod] at t
      have i:=ih (m / 10) (by omega) (by omega)
      have ne:=lKq (m / 10)
      show ((Nat.toDigits 10 m).map Char.toNat).head?≠_
      rw [<- t,YQ]
      cases e:dg (m / 10) with
      | nil=>exact absurd e ne
      | cons c r=>rw [show (Nat.toDigits 10 (m / 10)).map Char.toNat=c::r from e];rw [e] at i;simpa using i
def y6q (z:Str):Bool:=decide (1<=((bare z).length:Int))&&(decide (((bare z).length:Int)<=12)&&gZq (bare z) figs)&&(!Txt.startswith (bare z) "0"||z=="0")
theorem rWq:figs.cps.toList=[48,49,50,51,52,53,54,55,56,57]:=by decide +kernel
theorem mEq {z:Str} {m:Nat} (e:z.cps.toList=dg m):gZq z figs=true:=by
  unfold gZq
  rw [e,rWq,Y4]
  intro c hc
  have:=cMq m c hc
  rw [decide_eq_true_iff]
  simp
  omega
theorem vOq {n:Int} (h:n.natAbs < 10 ^ 12):y6q (d4q n)=true:=by
  cases n with
  | ofNat m=>
    have e:=lNq m
    have l:(dg m).length<=12:=m2q h
    have b:bare (d4q (m:Int))=d4q (m:Int):=by
      unfold bare
      rw [dash,cVq,e,if_neg]
      intro c
      have c:=eq_of_beq c
      cases hd:dg m with
      | nil=>exact lKq m hd
      | cons x r=>
        rw [hd] at c;cases c
        have:=cMq m 45 (by rw [hd];exact Ya ..)
        omega
    have hl:(d4q (m:Int)).cps.toList.length=(d4q (m:Int)).length:=Array.length_toList
    have l1:1<=(dg m).length:=Zc.mpr (lKq m)
    rw [e] at hl
    show y6q (d4q (m:Int))=true
    unfold y6q
    rw [b,mEq e,uFq,cVq,e,decide_eq_true (by omega),decide_eq_true (by omega)]
    by_cases h0:m=0
    . subst h0;decide +kernel
    . have:=qNq m (by omega)
      have hh:((dg m).head?==some 48)=false:=by rw [beq_eq_false_iff_ne];exact this
      rw [hh];rfl
  | negSucc m=>
    have e:=l7q m
    have l:=m2q (m:=m+1) h
    have hl:(d4q (Int.negSucc m)).cps.toList.length=(d4q (Int.negSucc m)).length:=Array.length_toList
    have b:(bare (d4q (Int.negSucc m))).cps.toList=dg (m+1):=by
      unfold bare
      rw [dash,cVq,e,if_pos (by rfl),PyProof.Rows.slice_from_eq (by decide) (by rw [<- hl,e,Yb];omega) rfl]
      show (((d4q (Int.negSucc m)).cps.toList.drop 1).take _)=_
      rw [e,Zk,YI,Zi]
      rw [<- hl,e,Yb]
      omega
    have hb:(bare (d4q (Int.negSucc m))).cps.toList.length=(bare (d4q (Int.negSucc m))).length:=Array.length_toList
    have l1:1<=(dg (m+1)).length:=Zc.mpr (lKq _)
    rw [b] at hb
    unfold y6q
    rw [mEq b,uFq,cVq,b,decide_eq_true (by omega),decide_eq_true (by omega)]
    have hh:((dg (m+1)).head?==some 48)=false:=by rw [beq_eq_false_iff_ne];exact qNq _ (by omega)
    rw [hh];rfl
theorem lWq (n:Int):(∀ c∈(d4q n).cps.toList,c=45\/48<=c/\c<=57)/\(d4q n).cps.toList≠[]:=by
  cases n with
  | ofNat m=>show (∀ c∈(d4q (m:Int)).cps.toList,_)/\(d4q (m:Int)).cps.toList≠[];rw [lNq];exact ⟨λ c hc=>.inr (cMq m c hc),lKq m⟩
  | negSucc m=>
    rw [l7q]
    refine ⟨λ c hc=>?_,by simp⟩
    rcases Yd.mp hc with rfl | hc
    . exact .inl rfl
    . exact .inr (cMq _ c hc)
inductive IsKc:D->Prop
  | is (n:Int):n.natAbs < 10 ^ 12->IsKc (.tup [.str "is", .int n])
  | some:IsKc (.tup [.str "some"])
  | both {a b:D}:IsKc a->IsKc b->ofA a=true->ofA b=true->IsKc (.tup [.str "both", a,b])
  | left {a:D}:IsKc a->IsKc (.tup [.str "left", a])
  | right {a:D}:IsKc a->IsKc (.tup [.str "right", a])
  | way {ds:List D} {k:D}:(∀ d∈ds,IsKc d)->gVq ds=true->IsKc k->IsKc (.tup [.str "way", .tup ds,k])
theorem IsKc.kd {d:D} (h:IsKc d):IsKd d:=by
  induction h with
  | is n=>exact .is n
  | some=>exact .some
  | both _ _ o1 o2 h1 h2=>exact .both h1 h2 o1 o2
  | left _ h=>exact .left h
  | right _ h=>exact .right h
  | way _ s _ h1 h2=>exact .way h1 s h2
theorem IsKc.isK {d:D} (h:IsKc d):IsK d:=h.kd.isK
def bGq {α:Type} (s:α):List (List α)->List α
  | []=>[]
  | [x]=>x
  | x::y::r=>x++s::bGq s (y::r)
inductive Tk:D->List Str->Prop
  | is (n:Int):n.natAbs < 10 ^ 12->Tk (.tup [.str "is", .int n]) [d4q n]
  | some:Tk (.tup [.str "some"]) ["~"]
  | left {a:D} {x:List Str}:Tk a x->Tk (.tup [.str "left", a]) (("(" : Str)::(x++[(",":Str),(")":Str)]))
  | right {a:D} {x:List Str}:Tk a x->Tk (.tup [.str "right", a]) (("(" : Str)::("," : Str)::(x++[(")":Str)]))
  | both {a b:D} {x y:List Str}:Tk a x->Tk b y->Tk (.tup [.str "both", a,b]) (("(" : Str)::(x++("," : Str)::(y++[(")":Str)])))
  | way {ps:List (D × List Str)} {k:D} {y:List Str}:(∀ p∈ps,Tk p.1 p.2)->Tk k y->ps.length<=40->Tk (.tup [.str "way", .tup (ps.map (·.1)),k]) (("[" : Str)::(bGq (" " : Str) (ps.map (·.2))++(":" : Str)::(y++[("]":Str)])))
theorem dZq {P:D->List Str->Prop}:∀ {ds:List D},(∀ d∈ds,∃ x,P d x)->∃ ps:List (D × List Str),ps.map (·.1)=ds/\∀ p∈ps,P p.1 p.2
  | [],_=>⟨[],rfl,by simp⟩
  | d::ds,h=>by
    obtain ⟨x,hx⟩:=h d (Ya ..)
    obtain ⟨ps,e,hp⟩:=dZq λ e he=>h e (Yc _ he)
    refine ⟨(d,x)::ps,by rw [Yh,e],λ p m=>?_⟩
    rcases Yd.mp m with rfl | m
    . exact hx
    . exact hp p m
theorem gRq {α:Type} {s:α}:∀ xs:List (List α),(bGq s xs).length+1<=(xs.map λ x=>x.length+1).sum+1
  | []=>by simp [bGq]
  | [x]=>by simp [bGq]
  | x::y::r=>by
    have:=gRq (s:=s) (y::r)
    rw [bGq,Yg,Yb,Yh,Y8]
    omega
theorem k1q {α:Type} {s a:α}:∀ {xs:List (List α)},a∈bGq s xs->a=s\/∃ x∈xs,a∈x
  | [],h=>by simp [bGq] at h
  | [x],h=>.inr ⟨x,by simp,h⟩
  | x::y::r,h=>by
    rw [bGq] at h
    rcases Yq.mp h with h | h
    . exact .inr ⟨x,by simp,h⟩
    . rcases Yd.mp h with h | h
      . exact .inl h
      . rcases k1q h with h | ⟨z,h1,h2⟩
        . exact .inl h
        . exact .inr ⟨z,Yc _ h1,h2⟩
theorem jPq:∀ {ps:List (D × List Str)},(∀ p∈ps,p.2.length+1<=2 * tsz p.1)->((ps.map (·.2)).map λ x=>x.length+1).sum<=2 * b5q (ps.map (·.1))
  | [],_=>by simp
  | p::ps,h=>by
    have h1:=h p (Ya ..)
    have h2:=jPq λ q hq=>h q (Yc _ hq)
    simp only [Yh,Y8,b5q] at *
    omega
theorem Tk.len {d:D} {x:List Str} (h:Tk d x):x.length+1<=2 * tsz d:=by
  induction h with
  | is n=>simp [tsz,b5q]
  | some=>simp [tsz,b5q]
  | left _ h=>simp only [Yb,Yg,Yj,tsz,b5q] at *;omega
  | right _ h=>simp only [Yb,Yg,Yj,tsz,b5q] at *;omega
  | both _ _ h1 h2=>simp only [Yb,Yg,Yj,tsz,b5q] at *;omega
  | @way ps k y _ _ hl h1 h2=>
    have a:=gRq (s:=(" " : Str)) (ps.map (·.2))
    have b:=jPq h1
    simp only [Yb,Yg,Yj,tsz,b5q] at *
    omega
theorem Tk.few {d:D} {x:List Str} (h:Tk d x):∀ z∈x,z.length<=13:=by
  have l1:∀ z∈([",", ")", "(", "[", "]", " ", ":", "~"]:List Str),z.length<=13:=by decide +kernel
  induction h with
  | is n h=>intro z hz;simp at hz;subst hz;exact (iYq h).2
  | some=>intro z hz;exact l1 z (by simp at hz;subst hz;simp)
  | left _ h=>
    intro z hz
    simp only [Yd,Yq,Yn,or_false] at hz
    rcases hz with e | e | e | e
    . exact l1 z (by simp [e])
    . exact h z e
    . exact l1 z (by simp [e])
    . exact l1 z (by simp [e])
  | right _ h=>
    intro z hz
    simp only [Yd,Yq,Yn,or_false] at hz
    rcases hz with e | e | e | e
    . exact l1 z (by simp [e])
    . exact l1 z (by simp [e])
    . exact h z e
    . exact l1 z (by simp [e])
  | both _ _ h1 h2=>
    intro z hz
    simp only [Yd,Yq,Yn,or_false] at hz
    rcases hz with e | e | e | e | e
    . exact l1 z (by simp [e])
    . exact h1 z e
    . exact l1 z (by simp [e])
    . exact h2 z e
    . exact l1 z (by simp [e])
  | way _ _ _ h1 h2=>
    intro z hz
    simp only [Yd,Yq,Yn,or_false] at hz
    rcases hz with e | e | e | e | e
    . exact l1 z (by simp [e])
    . rcases k1q e with e | ⟨x,hx,e⟩
      . exact l1 z (by simp [e])
      . obtain ⟨p,hp,rfl⟩:=Yl.mp hx
        exact h1 p hp z e
    . exact l1 z (by simp [e])
    . exact h2 z e
    . exact l1 z (by simp [e])
def cat:List Str->List Nat
  | []=>[]
  | z::r=>z.cps.toList++cat r
theorem aJq:∀ x y:List Str,cat (x++y)=cat x++cat y
  | [],y=>rfl
  | z::x,y=>by rw [Yv,cat,cat,aJq x y,Yo]
def ofL (l:List Nat):Str:=⟨l.toArray⟩
abbrev txt (x:List Str):Str:=ofL (cat x)
theorem aVq (l:List Nat):(ofL l).cps.toList=l:=rfl
theorem c9q {a b:Str} (h:a.cps.toList=b.cps.toList):a=b:=by
  obtain ⟨x⟩:=a;obtain ⟨y⟩:=b
  rw [show x=y from Array.toList_inj.mp h]
theorem cHq (a b:Str):(a++b).cps.toList=a.cps.toList++b.cps.toList:=PySem.W.KT.app_list a b
theorem iCq:∀ {x:List Str},(∀ z∈x,z.length<=13)->(cat x).length<=13 * x.length
  | [],_=>by simp [cat]
  | z::x,h=>by
    have h1:=h z (Ya ..)
    have h2:=iCq λ y hy=>h y (Yc _ hy)
    have e:z.cps.toList.length=z.length:=Array.length_toList
    rw [cat,Yg,Yb]
    omega
theorem tPq (ys:List Str):Txt.join "" ys=ofL (cat ys):=by
  rw [eq_of_beq (PyProof.Rows.join_plain_closes "" ys)]
  refine c9q ?_
  rw [aVq]
  have he:(("" : String):Str).cps.toList=[]:=by decide +kernel
  induction ys with
  | nil=>rfl
  | cons y ys ih=>
    cases ys with
    | nil=>simp [Str.join,cat]
    | cons z zs=>rw [show Str.join "" (y::z::zs)=y++""++Str.join "" (z::zs) from rfl,cHq,cHq,he,ih,Yt];rfl
theorem gGq:((" " : String):Str).cps.toList=[32]:=by decide +kernel
theorem pIq (xs:List (List Str)):Txt.join " " (xs.map txt)=txt (bGq (" " : Str) xs):=by
  rw [eq_of_beq (PyProof.Rows.join_plain_closes " " _)]
  refine c9q ?_
  rw [aVq]
  induction xs with
  | nil=>rfl
  | cons y ys ih=>
    cases ys with
    | nil=>rfl
    | cons z zs=>
      rw [show Str.join " " ((y::z::zs).map txt)=txt y++" "++Str.join " " ((z::zs).map txt) from rfl,cHq,cHq,ih,bGq,aJq,cat,Yo];rfl
def pcs (S:List Nat):List Nat->List Nat->List Str
  | cur,[]=>if cur=[] then [] else [ofL cur]
  | cur,c::r=>if c∈S then (if cur=[] then [] else [ofL cur])++ofL [c]::pcs S [] r else pcs S (cur++[c]) r
def Hds (S rest:List Nat):Prop:=rest=[]\/∃ c r,rest=c::r/\c∈S
theorem iQq {S:List Nat} {c:Nat} {r:List Nat} (h:c∈S):pcs S [] (c::r)=ofL [c]::pcs S [] r:=by
  rw [pcs,if_pos h,if_pos rfl];rfl
theorem kLq {S rest:List Nat} (hr:Hds S rest):∀ (l cur:List Nat),(∀ c∈l,c ∉ S)->cur++l≠[]->pcs S cur (l++rest)=ofL (cur++l)::pcs S [] rest
  | [],cur,_,hne=>by
    rw [Yt] at hne ⊢
    rcases hr with rfl | ⟨c,r,rfl,hc⟩
    . rw [YM,pcs,if_neg hne,pcs,if_pos rfl]
    . rw [YM,pcs,if_pos hc,if_neg hne,iQq hc];rfl
  | c::l,cur,h,_=>by
    rw [Yv,pcs,if_neg (h c (Ya ..)),kLq hr l (cur++[c]) (λ d hd=>h d (Yc _ hd)) (by simp),Yo];rfl
abbrev SG:List Nat:=[91,93,40,41,32,58,44,126]
theorem yKq:(("[]() :,~" : String):Str).cps.toList=SG:=by decide +kernel
def Gd (x:List Str):Prop:=∀ rest,Hds SG rest->pcs SG [] (cat x++rest)=x++pcs SG [] rest
theorem cEq {z:Str} {c:Nat} (h:z=ofL [c]) (x:List Str) (rest:List Nat) (hc:c∈SG):pcs SG [] (cat (z::x)++rest)=z::pcs SG [] (cat x++rest):=by
  subst h;exact iQq hc
theorem l8q {z:Str} {c:Nat} (h:z=ofL [c]) (x:List Str) (rest:List Nat) (hc:c∈SG):Hds SG (cat (z::x)++rest):=by
  subst h;exact .inr ⟨c,_,rfl,hc⟩
theorem gYq:(("(" : String):Str)=ofL [40]:=by decide +kernel
theorem gUq:((")" : String):Str)=ofL [41]:=by decide +kernel
theorem v0q:(("[" : String):Str)=ofL [91]:=by decide +kernel
theorem uGq:(("]" : String):Str)=ofL [93]:=by decide +kernel
theorem y7q:((" " : String):Str)=ofL [32]:=by decide +kernel
theorem s_cl:((":" : String):Str)=ofL [58]:=by decide +kernel
theorem q1q:(("," : String):Str)=ofL [44]:=by decide +kernel
theorem uBq:(("~" : String):Str)=ofL [126]:=by decide +kernel
theorem lYq:∀ {xs:List (List Str)},(∀ x∈xs,Gd x)->Gd (bGq (" " : Str) xs)
  | [],_,rest,_=>rfl
  | [x],h,rest,hr=>h x (by simp) rest hr
  | x::y::r,h,rest,hr=>by
    rw [bGq,aJq,Yo,h x (by simp) _ (l8q y7q _ _ (by decide)),cEq y7q _ _ (by decide),lYq (λ z hz=>h z (Yc _ hz)) rest hr,Yo];rfl
theorem Tk.gd {d:D} {x:List Str} (h:Tk d x):Gd x:=by
  induction h with
  | is n hn=>
    intro rest hr
    obtain ⟨h1,h2⟩:=lWq n
    have z:=kLq hr (d4q n).cps.toList [] (λ c hc hS=>by have:=h1 c hc;simp at hS;omega) (by simpa using h2)
    rw [cat,cat,Yt,z];rfl
  | some=>intro rest hr;rw [cEq uBq _ _ (by decide)];rfl
  | left _ h=>
    intro rest hr
    rw [cEq gYq _ _ (by decide),aJq,Yo,h _ (l8q q1q _ _ (by decide)),cEq q1q _ _ (by decide),cEq gUq _ _ (by decide)]
    simp [cat]
  | right _ h=>
    intro rest hr
    rw [cEq gYq _ _ (by decide),cEq q1q _ _ (by decide),aJq,Yo,h _ (l8q gUq _ _ (by decide)),cEq gUq _ _ (by decide)]
    simp [cat]
  | both _ _ h1 h2=>
    intro rest hr
    rw [cEq gYq _ _ (by decide),aJq,Yo,h1 _ (l8q q1q _ _ (by decide)),cEq q1q _ _ (by decide),aJq,Yo,h2 _ (l8q gUq _ _ (by decide)),cEq gUq _ _ (by decide)]
    simp [cat]
  | @way ps k y _ _ hl h1 h2=>
    intro rest hr
    have g:=lYq (xs:=ps.map (·.2)) λ x hx=>by obtain ⟨p,hp,rfl⟩:=Yl.mp hx;exact h1 p hp
    rw [cEq v0q _ _ (by decide),aJq,Yo,g _ (l8q s_cl _ _ (by decide)),cEq s_cl _ _ (by decide),aJq,Yo,h2 _ (l8q uGq _ _ (by decide)),cEq uGq _ _ (by decide)]
    simp [cat]
theorem Tk.pieces {d:D} {x:List Str} (h:Tk d x):pcs SG [] (cat x)=x:=by
  have:=h.gd [] (.inl rfl)
  rw [Yt,pcs,if_pos rfl,Yt] at this
  exact this
abbrev h2q (ds:List D):List D:=bGq (.str " ") (ds.map λ d=>[d])
inductive PC:List D->D->Prop
  | left (a:D):PC [a,.str ","] (.tup [.str "left", a])
  | right (xs:List D):PC [.str ",", .tup xs] (.tup [.str "right", .tup xs])
  | both (a b:D):PC [a,.str ",", b] (.tup [.str "both", a,b])
inductive Clo:List D->Str->D->Prop
  | way (ds:List D) (k:D):ds.length<=40->Clo (.str "["::(h2q ds++[.str ":", k])) "]" (.tup [.str "way", .tup ds,k])
  | pair {row:List D} {k:D}:PC row k->Clo (.str "("::row) ")" k
inductive RP:Str->D->Prop
  | sgn {p:Str}:p = " "\/p = ":"\/p = ","->RP p (.str p)
  | som:RP "~" (.tup [.str "some"])
  | num (n:Int):n.natAbs < 10 ^ 12->RP (d4q n) (.tup [.str "is", .int n])
inductive Stp:List (List D)->Str->List (List D)->Prop
  | opn (st:List (List D)) {p:Str}:p = "["\/p = "("->Stp st p ([.str p]::st)
  | cls {c:List D} {p:Str} {k:D} (t:List D) (st:List (List D)):Clo c p k->Stp (c::t::st) p ((t++[k])::st)
  | rd (t:List D) (st:List (List D)) {p:Str} {q:D}:RP p q->Stp (t::st) p ((t++[q])::st)
inductive Rn:List (List D)->List Str->List (List D)->Prop
  | nil (st:List (List D)):Rn st [] st
  | cons {st st' st'':List (List D)} {p:Str} {r:List Str}:Stp st p st'->Rn st' r st''->Rn st (p::r) st''
theorem Rn.app {st st' st'':List (List D)} {x y:List Str} (h1:Rn st x st') (h2:Rn st' y st''):Rn st (x++y) st'':=by
  induction h1 with
  | nil=>exact h2
  | cons s _ ih=>exact .cons s (ih h2)
theorem lZq (d e:D) (ds:List D):h2q (d::e::ds)=d::.str " "::h2q (e::ds):=rfl
theorem uRq:∀ {ps:List (D × List Str)} {t:List D} {st:List (List D)},(∀ p∈ps,∀ t st,Rn (t::st) p.2 ((t++[p.1])::st))->Rn (t::st) (bGq (" " : Str) (ps.map (·.2))) ((t++h2q (ps.map (·.1)))::st)
  | [],t,st,_=>by rw [show t++h2q (([]:List (D × List Str)).map (·.1))=t from Yt t];exact .nil _
  | [p],t,st,h=>h p (by simp) t st
  | p::q::r,t,st,h=>by
    have h1:=h p (by simp) t st
    have h2:=uRq (ps:=q::r) (t:=t++[p.1]++[.str " "]) (st:=st) λ z hz=>h z (Yc _ hz)
    have h3:=h1.app (.cons (.rd _ _ (.sgn (.inl rfl))) h2)
    simp only [Yh,bGq,lZq] at h3 ⊢
    simpa [Yo] using h3
theorem aC4q {d:D} {x:List Str} (h:Tk d x):∃ xs,d=.tup xs:=by cases h<;>exact ⟨_,rfl⟩
theorem Tk.rn {d:D} {x:List Str} (h:Tk d x):∀ t st,Rn (t::st) x ((t++[d])::st):=by
  induction h with
  | is n hn=>intro t st;exact .cons (.rd t st (.num n hn)) (.nil _)
  | some=>intro t st;exact .cons (.rd t st .som) (.nil _)
  | left _ h=>intro t st;exact .cons (.opn _ (.inr rfl)) ((h _ _).app (.cons (.rd _ _ (.sgn (.inr (.inr rfl)))) (.cons (.cls t st (.pair (.left _))) (.nil _))))
  | right h0 h=>
    intro t st
    obtain ⟨xs,rfl⟩:=aC4q h0
    exact .cons (.opn _ (.inr rfl)) (.cons (.rd _ _ (.sgn (.inr (.inr rfl)))) ((h _ _).app (.cons (.cls t st (.pair (.right _))) (.nil _))))
  | both _ _ h1 h2=>intro t st;exact .cons (.opn _ (.inr rfl)) ((h1 _ _).app (.cons (.rd _ _ (.sgn (.inr (.inr rfl)))) ((h2 _ _).app (.cons (.cls t st (.pair (.both _ _))) (.nil _)))))
  | @way ps k y _ _ hl h1 h2=>
    intro t st
    refine .cons (.opn _ (.inl rfl)) ((uRq h1).app (.cons (.rd _ _ (.sgn (.inr (.inl rfl)))) ((h2 _ _).app (.cons (.cls t st ?_) (.nil _)))))
    rw [Yo,Yo]
    exact .way _ _ (by rw [Yf];exact hl)
theorem u2q:∀ ds:List D,ev2 (h2q ds)=ds/\ev2 ((h2q ds).drop 1)=Yp (ds.length - 1) (.str " ")
  | []=>⟨rfl,rfl⟩
  | [d]=>⟨rfl,rfl⟩
  | d::e::ds=>by
    obtain ⟨h1,h2⟩:=u2q (e::ds)
    rw [lZq]
    refine ⟨by rw [ev2,h1],?_⟩
    rw [Zk,YI]
    have hx:∀ (a:D) (l:List D),ev2 (a::l)=a::ev2 (l.drop 1):=λ a l=>by cases l<;>rfl
    rw [hx,h2];rfl
theorem s_cp:((",)" : String):Str).cps.toList=(("," : String):Str).cps.toList++((")" : String):Str).cps.toList:=by decide +kernel
theorem s_pc:(("(," : String):Str).cps.toList=(("(" : String):Str).cps.toList++(("," : String):Str).cps.toList:=by decide +kernel
def iFq:DSp:=λ ds G Q=>∃ z:Str,ds=[.str z,.int 12]/\z.length<=1000/\Q (.bl (y6q z)) G
abbrev sgnS:Str:="[]() :,~"
def oWq (sg:Str) (S:List Nat):DSp:=λ ds G Q=>∃ z:Str,ds=[.str z,.str sg]/\z.length<=300000/\∀ l,G l=none->Q (.ref l) (up G l (.lst ((pcs S [] z.cps.toList).map D.str)))
def mGq:DSp:=λ ds G Q=>∃ z:Str,ds=[.str z,.str sgnS]/\z.length<=300000/\∀ l,G l=none->Q (.ref l) (up G l (.lst ((pcs SG [] z.cps.toList).map D.str)))
def l1q:DSp:=λ ds G Q=>∃ (d:D) (x:List Str),ds=[.str (txt x)]/\Tk d x/\IsKd d/\Bd 9100 120 40 d/\Q d G
def kNq:DSp:=λ ds G Q=>∃ (p:Str) (q:D),ds=[.str p]/\RP p q/\Q q G
def x8q:DSp:=λ ds G Q=>∃ (l:Addr) (p:Str) (c:List D) (k:D),ds=[.ref l,.str p]/\G l=some (.lst c)/\Clo c p k/\Q k G
def r9q:DSp:=λ ds G Q=>∃ (l:Addr) (es:List D) (k:D),es.length<=40/\ds=[.ref l]/\G l=some (.lst (h2q es++[.str ":", k]))/\Q (.tup [.str "way", .tup es,k]) G
def kIq:DSp:=λ ds G Q=>∃ (l:Addr) (row:List D) (k:D),ds=[.ref l]/\G l=some (.lst row)/\PC row k/\Q k G
inductive Ad:D->Prop
  | int (n:Int):Ad (.int n)
  | str (z:Str):Ad (.str z)
  | tup {ds:List D}:(∀ d∈ds,Ad d)->Ad (.tup ds)
theorem IsK.ad {d:D} (h:IsK d):Ad d:=by
  induction h with
  | is n=>exact .tup λ d hd=>by simp at hd;rcases hd with rfl | rfl;exact .str _;exact .int _
  | some=>exact .tup λ d hd=>by simp at hd;subst hd;exact .str _
  | both _ _ h1 h2=>exact .tup λ d hd=>by simp at hd;rcases hd with rfl | rfl | rfl;exact .str _;exact h1;exact h2
  | left _ h1=>exact .tup λ d hd=>by simp at hd;rcases hd with rfl | rfl;exact .str _;exact h1
  | right _ h1=>exact .tup λ d hd=>by simp at hd;rcases hd with rfl | rfl;exact .str _;exact h1
  | way _ _ h1 h2=>exact .tup λ d hd=>by simp at hd;rcases hd with rfl | rfl | rfl;exact .str _;exact .tup h1;exact h2
theorem pMq {α:Type} (x:α) (r:List α):cut (x::r) (some 1) none=r:=p1q (xs:=x::r) (k:=1) (by simp)
theorem mKq {n:Nat} (h:n<=700000):n < sizeLine:=by rw [sizeLine_eq];omega
theorem big {n:Nat} (h:n<=700000):n<=sizeLine:=by rw [sizeLine_eq];omega
theorem rFq {m:Nat} (h:m < 10 ^ 12):m.log2 < 1920:=by
  by_cases h0:m=0
  . subst h0;decide
  . have:m.log2 < 40:=(Nat.log2_lt h0).mpr (Nat.lt_trans h (by decide))
    omega
theorem tBq (ds:List D):(h2q ds).length<=2 * ds.length:=by
  have h:=gRq (s:=(D.str " ")) (ds.map λ d=>[d])
  have h3:((ds.map λ d=>[d]).map λ x=>x.length+1).sum=2 * ds.length:=by
    clear h
    induction ds with
    | nil=>rfl
    | cons p ps ih=>simp only [Yh,Y8,Yb,Yj] at ih ⊢;omega
  show (bGq (D.str " ") (ds.map λ d=>[d])).length<=_
  omega
theorem qJq:∀ ys:List Str,(ys.map (·.length)).sum=(cat ys).length
  | []=>rfl
  | y::ys=>by rw [Yh,Y8,qJq ys,cat,Yg];rfl
theorem u8q {n:Int} {c:Nat} (hc:c∈SG):d4q n≠ofL [c]:=λ e=>by
  have h:=(lWq n).1 c (by rw [e];exact Ya ..)
  simp at hc;omega
theorem xUq (n:Int):(!(Builtin.Str.occurrences " :," (d4q n) 0 ((" :," : String):Str).length 1).isEmpty)=false:=by
  rw [Bool.eq_false_iff]
  intro h
  obtain ⟨i,h1,h2⟩:=(PySem.StrLaws.found_iff _ _).mp h
  obtain ⟨h3,h4⟩:=lWq n
  unfold Builtin.Str.subAt at h2
  have h2:=eq_of_beq h2
  have h5:=congrArg Array.toList h2
  cases e:(d4q n).cps.toList with
  | nil=>exact h4 e
  | cons c r=>
    rw [e] at h5
    have m:c∈((" :," : String):Str).cps.toList:=by
      have:c∈(((" :," : String):Str).cps.extract i (i+(d4q n).length)).toList:=by rw [h5];exact Ya ..
      rw [Array.toList_extract] at this
      exact List.mem_of_mem_drop (List.mem_of_mem_take this)
    have hk:∀ c∈((" :," : String):Str).cps.toList,¬ (c=45\/48<=c/\c<=57):=by decide +kernel
    exact hk c m (h3 c (by rw [e];exact Ya ..))
theorem uOq {ds:List D} {i:Int} {j:Nat} {d:D} (h0:i < 0) (h1:(j:Int)=ds.length+i) (h:ds[j]?=some d):atI ds i=some d:=by
  have e:ixN ds.length i=some j:=by
    unfold ixN
    rw [if_neg (by omega),if_pos (by omega)]
    congr 1;omega
  unfold atI;rw [e];exact h
theorem i6q (z:Str):∀ n,cRq (Yp n (.str z)) (Yp n (.str z))=true
  | 0=>rfl
  | n+1=>by rw [YO,cRq,i6q z n];simp [eqD]
theorem i9q (z:Str):∀ n,aWq (Yp n (.str z))=true/\bMq (Yp n (.str z))<=150
  | 0=>⟨rfl,by simp [bMq]⟩
  | n+1=>by
    obtain ⟨h1,h2⟩:=i9q z n
    rw [YO]
    exact ⟨by rw [aWq,h1];rfl,by rw [bMq];simp only [D.dp];omega⟩
theorem kSq (z:D):∀ n,(Yp n [z]).flatten=Yp n z
  | 0=>rfl
  | n+1=>by rw [YO,Y3,kSq z n];rfl
theorem RP.no {p:Str} {q:D} (h:RP p q):(p=="[")=false/\(p=="(")=false/\(p=="]")=false/\(p==")")=false:=by
  cases h with
  | sgn h=>rcases h with rfl | rfl | rfl<;>exact ⟨by decide,by decide,by decide,by decide⟩
  | som=>exact ⟨by decide,by decide,by decide,by decide⟩
  | num n _=>
    have z:∀ c∈SG,(d4q n==ofL [c])=false:=λ c hc=>by rw [beq_eq_false_iff_ne];exact u8q hc
    rw [v0q,gYq,uGq,gUq]
    exact ⟨z _ (by decide),z _ (by decide),z _ (by decide),z _ (by decide)⟩
structure Frs (G:DV) (fr:Addr) (fs:List (Addr × List D)):Prop where
  top:G fr=some (.lst ((fs.map (·.1)).reverse.map D.ref))
  at_:∀ p∈fs,G p.1=some (.lst p.2)
  nd:(fs.map (·.1)).Nodup
  ne:∀ p∈fs,p.1≠fr
theorem Frs.push {G:DV} {fr q:Addr} {fs:List (Addr × List D)} {f:List D} (h:Frs G fr fs) (hq:G q=none):Frs (up (up G q (.lst f)) fr (.lst ((fs.map (·.1)).reverse.map D.ref++[.ref q]))) fr ((q,f)::fs):=by
  have n1:q≠fr:=by rintro rfl;rw [h.top] at hq;cases hq
  have n2:∀ p∈fs,p.1≠q:=λ p hp e=>by rw [<- e,h.at_ p hp] at hq;cases hq
  refine ⟨by rw [a5q];simp,λ p hp=>?_,?_,λ p hp=>?_⟩
  . rcases Yd.mp hp with rfl | hp
    . rw [aQq n1];exact a5q
    . rw [aQq (h.ne p hp),aQq (n2 p hp)];exact h.at_ p hp
  . rw [Yh,YS]
    refine ⟨λ m=>?_,h.nd⟩
    obtain ⟨p,hp,e⟩:=Yl.mp m
    exact n2 p hp e
  . rcases Yd.mp hp with rfl | hp
    . exact n1
    . exact h.ne p hp
theorem Frs.pop {G:DV} {fr:Addr} {p:Addr × List D} {fs:List (Addr × List D)} (h:Frs G fr (p::fs)):Frs (up G fr (.lst ((fs.map (·.1)).reverse.map D.ref))) fr fs:=
  ⟨a5q,λ q hq=>by rw [aQq (h.ne q (Yc _ hq))];exact h.at_ q (Yc _ hq),(YS.mp h.nd).2,λ q hq=>h.ne q (Yc _ hq)⟩
theorem Frs.set {G:DV} {fr a:Addr} {t t':List D} {fs:List (Addr × List D)} (h:Frs G fr ((a,t)::fs)):Frs (up G a (.lst t')) fr ((a,t')::fs):=by
  have n1:=h.ne (a,t) (Ya ..)
  refine ⟨by rw [aQq n1.symm];exact h.top,λ p hp=>?_,h.nd,λ p hp=>?_⟩
  . rcases Yd.mp hp with rfl | hp
    . exact a5q
    . rw [aQq]
      . exact h.at_ p (Yc _ hp)
      . intro e
        exact (YS.mp h.nd).1 (by rw [<- e];exact YD (f:=(·.1)) hp)
  . rcases Yd.mp hp with rfl | hp
    . exact n1
    . exact h.ne p (Yc _ hp)
theorem Sub.ext' {G G1:DV} {p:Addr} {o:DO} (h:Sub G G1) (n:G1 p=Option.none):Sub G (up G1 p o):=λ b u e=>Sub.new (Sub.refl _) n b u (h b u e)
theorem i0q (z:Str):txt [z]=z:=c9q (by simp [aVq,cat])
theorem Tk.txt_len {d:D} {x:List Str} (h:Tk d x) (hs:tsz d<=9100):(txt x).length<=240000:=by
  have h1:=h.len
  have h2:=iCq h.few
  show (cat x).length<=_
  omega
theorem bUq (a b:Str):(a++b).length=a.length+b.length:=by
  show (a.cps++b.cps).size=_
  rw [Array.size_append];rfl
theorem lits {z t:Str} (h1:z.length<=2) (h2:t.length<=240000):z.length+t.length<=sizeLine:=big (by omega)
theorem rLq {z t:Str} (h1:z.length<=2) (h2:t.length<=240002):t.length+z.length<=sizeLine:=big (by omega)
theorem fDq {z t:Str} (h1:z.length<=2) (h2:t.length<=240000):(z++t).length<=240002:=by rw [bUq];omega
theorem l_cm:(("," : String):Str).length=1:=by decide
theorem l_cl:((":" : String):Str).length=1:=by decide
theorem l_rp:((")" : String):Str).length=1:=by decide
theorem l_rb:(("]" : String):Str).length=1:=by decide
theorem e8q:∀ xs:List (List Str),(xs.map λ x=>(cat x).length).sum<=(cat (bGq (" " : Str) xs)).length
  | []=>Nat.le_refl _
  | [x]=>by simp [bGq]
  | x::y::r=>by
    have:=e8q (y::r)
    rw [bGq,aJq,cat,Yg,Yg,Yh,Y8]
    omega
end L3
namespace L2
open PySem PySem.Spec PyProof.Rows
section
variable {X:Cx}
theorem sOq {x:Str} {ad:Addr} {tab:Str->Option V} {e:Expr} {ty:TE} {p apos cpos:Pos} (hg:Gl X x) (hm:X.mg x=some (.ref ad)) (T:KTab X.K X.w ad tab) (he:PE X e ty) (m:M1 X (.Name x p) "get" apos e cpos) (hd:(x==("__debug__" : Str))=false:=by decide) :
    PE X (.Call (.Attribute (.Name x p) "get" apos) [e] [] cpos) (λ σ H Q=>ty σ H λ y H1=>∃ z,y=.str z/\Q ((tab z).getD .non) H1):=by
  intro pins s σ H Q I h
  obtain ⟨⟨es,n,hl,hk,ht⟩,lo⟩:=T
  refine wpAny_Call_method m.base m.few m.line PySem.F.plainAttrs_dict PySem.F.slot_dict_get PySem.F.type_dict_get (thn (lLq (v:=.ref ad) hg hm rfl hd pins s σ H (λ v H1=>v=.ref ad/\H1=H) I ⟨rfl,rfl⟩) λ u s1 ⟨x1,H1,I1,rx,ex,eH⟩=>?_)
  subst ex eH
  obtain rfl:u=Value.ref ad:=rx
  have mp:∀ {s':Shared},X.K.In s'.heap->s'.heap.MapOf (strKind X.prog X.w) ad (λ k=>findBy Value.isStrOf es k):=λ k=>PySem.W.mapOf_K k hl hk
  refine ⟨(mp I1.kIn).typeIs,(mp I1.kIn).noDict,?_⟩
  rw [m.trees]
  refine Calls.callWith_builtin rfl (Calls.evalArgs_plain (Calls.spliced_cons (thn (he pins s1 σ H1 _ I1 h) λ iv s2 ⟨y,H2,I2,ry,z,ey,q2⟩=>Calls.spliced_nil ?_)))
  subst ey
  obtain ⟨t,rfl⟩:=ry
  refine call_meetsIn PySem.F.slot_dict_get (mp I2.kIn).typeIs PySem.F.entry_dict_get (PySem.F.args_dict_get_2 _ _) (meets_dict_get (strKind X.prog X.w) ad (strKind_is X.prog X.w z t) lo) ⟨_,mp I2.kIn,(tab z).getD .non,H2,I2.tok _,?_,q2⟩
  exact (ht z).getD rfl
end
end L2
namespace L3
open PySem PySem.Spec L2
section
variable {X:Cx} {e:Expr} {x:Str} {ad:Addr} {tab:Str->Option D} {te:DTE} {p apos cpos:Pos}
abbrev aB5q (tab:Str->Option D) (te:DTE):DTE:=λ ρ G Q=>te ρ G λ y G1=>match y with
  | .str z=>Q ((tab z).getD .non) G1
  | _=>False
theorem tLq (hg:Gl X x) (hm:X.mg x=some (.ref ad)) (T:KTabD X.K X.w ad tab) (he:AE X e te) (m:M1 X (.Name x p) "get" apos e cpos:=by exact ⟨rfl,rfl,rfl,rfl⟩) (hd:(x==("__debug__" : Str))=false:=by decide) :
    AE X (.Call (.Attribute (.Name x p) "get" apos) [e] [] cpos) (aB5q tab te):=by
  obtain ⟨tv,T,t1,t2⟩:=T
  obtain ⟨ce,je,re⟩:=he.run
  refine ⟨_,⟨sOq hg hm T je.run m hd⟩,λ ρ G DQ σ H Q B q F=>re ρ G _ σ H _ B q λ y G1 v H1 g1 ay q1=>?_⟩
  cases y with
  | str z=>
    cases ay
    refine ⟨z,rfl,?_⟩
    replace q1:DQ ((tab z).getD .non) G1:=q1
    cases ez:tab z with
    | none=>rw [t1 z ez];rw [ez] at q1;exact F .non G1 _ H1 g1 rfl q1
    | some d'=>
      obtain ⟨v',e1,e2⟩:=t2 z d' ez
      rw [e1];rw [ez] at q1
      exact F d' G1 v' H1 g1 (e2 _) q1
  | _=>exact (show False from q1).elim
end
end L3
namespace L2
open PySem PySem.Spec PyProof.Rows
section
variable {X:Cx}
def rIsT (K:PySem.W.Frag):List V->Hp->VK->Prop:=λ xs H Q=>∃ x a,xs=[x,.ref a]/\SqT K H a [.ty "str", .ty "int"]/\((∃ n,x=.int n)\/∃ z,x=.str z)/\Q (.bl true) H
theorem r8q:CallR X (.builtin "isinstance") (rIsT X.K):=by
  intro pins s σ H xs us Q I r h
  obtain ⟨x,a,rfl,sq,hx,hQ⟩:=h
  obtain ⟨u,v,rfl,ru,rv⟩:=Vals.two r
  cases rv
  obtain ⟨its,vt,⟨⟨cls,dd,data,sl⟩,h1,h2,h3⟩,_⟩:=I.tuple sq
  obtain ⟨u1,u2,e,r1,r2⟩:=Vals.two vt
  simp only at h2 h3
  subst h2
  cases r1
  cases r2
  have e':its=[Value.type "str", Value.type "int"]:=e
  subst e'
  obtain ⟨n,rfl⟩:∃ n,data=.seq #[Value.type "str", Value.type "int"] n:=by
    first | exact ⟨_,h3⟩ | exact h3 | (obtain ⟨n,h3⟩:=h3;exact ⟨n,h3⟩)
  have k1:PySem.W.kitAny X.K (.type "int") [.type "str", .type "int"]=some true:=by
    unfold PySem.W.kitAny
    rw [L3.c5q (t:="int") (T:="str") (b:=false) rfl]
    unfold PySem.W.kitAny
    rw [L3.c5q (t:="int") (T:="int") (b:=true) rfl]
  have k2:PySem.W.kitAny X.K (.type "str") [.type "str", .type "int"]=some true:=by
    unfold PySem.W.kitAny
    rw [L3.c5q (t:="str") (T:="str") (b:=true) rfl]
  rcases hx with ⟨n,rfl⟩ | ⟨z,rfl⟩
  . obtain ⟨t,rfl⟩:=ru
    exact PySem.W.kia_tup (its:=[Value.type "str", Value.type "int"]) PySem.W.kitx_int I.kIn trivial h1 k1 (λ z=>nomatch z) λ tk=>⟨.bl true,H,I.tok tk,rfl,hQ⟩
  . obtain ⟨t,rfl⟩:=ru
    exact PySem.W.kia_tup (its:=[Value.type "str", Value.type "int"]) PySem.W.kitx_str I.kIn trivial h1 k2 (λ z=>nomatch z) λ tk=>⟨.bl true,H,I.tok tk,rfl,hQ⟩
end
end L2
namespace L3
open PySem PySem.Spec L2
section
variable {X:Cx}
def isSI:D->D->DV->DK->Prop:=λ x y G Q=>y=.tup [.ty "str", .ty "int"]/\match x with
  | .int _=>Q (.bl true) G
  | .str _=>Q (.bl true) G
  | _=>False
theorem n9q:ACall X (.builtin "isinstance") (y8q isSI):=by
  refine ⟨_,⟨r8q⟩,λ xs vs G H DQ Q v a r F=>?_⟩
  obtain ⟨x,y,u,w,rfl,rfl,ax,ay,r1⟩:=fEq r a
  clear r
  obtain ⟨rfl,r0⟩:=r1
  obtain ⟨l,ws,rfl,sq,rl⟩:=ay
  obtain ⟨v1,r3,rfl,a1,v2,r2,rfl,a2,e⟩:=rl
  cases a1;cases a2;cases e
  cases x with
  | int z=>cases ax;exact ⟨_,l,rfl,sq,.inl ⟨z,rfl⟩,F (.bl true) G _ H (.refl v) rfl r0⟩
  | str z=>cases ax;exact ⟨_,l,rfl,sq,.inr ⟨z,rfl⟩,F (.bl true) G _ H (.refl v) rfl r0⟩
  | _=>exact (show False from r0).elim
end
abbrev SQ2:List Nat:=[40,41,91,93,32,35,46,126]
theorem x3q:(("()[] #.~" : String):Str).cps.toList=SQ2:=by decide +kernel
theorem cSq (S:List Nat):∀ l cur,cat (pcs S cur l)=cur++l
  | [],cur=>by
    rw [pcs,Yt]
    split
    . next h=>rw [h];rfl
    . simp [cat,aVq]
  | c::l,cur=>by
    rw [pcs]
    split
    . rw [aJq,cat,cSq S l []]
      split
      . next h=>rw [h];rfl
      . simp [cat,aVq]
    . rw [cSq S l,Yo];rfl
theorem lGq {S rest:List Nat} (hr:Hds S rest):∀ l cur,pcs S cur (l++rest)=pcs S cur l++pcs S [] rest
  | [],cur=>by
    rw [YM]
    rcases hr with rfl | ⟨c,r,rfl,hc⟩
    . simp [pcs]
    . conv=>lhs;rw [pcs,if_pos hc]
      rw [iQq hc,pcs]
  | c::l,cur=>by
    rw [Yv,pcs,pcs]
    split
    . rw [lGq hr l [],Yo];rfl
    . rw [lGq hr l]
def Cutd (S:List Nat) (x:List Str):Prop:=∀ z∈x,(∃ c∈S,z=ofL [c])\/(z.cps.toList≠[]/\∀ c∈z.cps.toList,c ∉ S)
theorem l6q (S:List Nat):∀ l cur,(∀ c∈cur,c ∉ S)->Cutd S (pcs S cur l)
  | [],cur,h,z,hz=>by
    rw [pcs] at hz
    split at hz
    . cases hz
    . next hne=>simp at hz;subst hz;exact .inr ⟨hne,h⟩
  | c::l,cur,h,z,hz=>by
    rw [pcs] at hz
    split at hz
    . next hc=>
      rcases Yq.mp hz with hz | hz
      . split at hz
        . cases hz
        . next hne=>simp at hz;subst hz;exact .inr ⟨hne,h⟩
      . rcases Yd.mp hz with rfl | hz
        . exact .inl ⟨c,hc,rfl⟩
        . exact l6q S l [] (by simp) z hz
    . next hc=>exact l6q S l (cur++[c]) (λ d hd=>by rcases Yq.mp hd with hd | hd;exact h d hd;simp at hd;subst hd;exact hc) z hz
theorem kRq (S:List Nat):∀ l cur,(pcs S cur l).length<=cur.length+l.length
  | [],cur=>by
    rw [pcs]
    split
    . simp
    . next h=>
      have:1<=cur.length:=Zc.mpr h
      simp;omega
  | c::l,cur=>by
    rw [pcs]
    split
    . have:=kRq S l []
      rw [Yg,Yb]
      split
      . simp only [Yj,Yb] at *;omega
      . next h=>
        have:1<=cur.length:=Zc.mpr h
        simp only [Yj,Yb] at *;omega
    . have:=kRq S l (cur++[c])
      simp only [Yg,Yj,Yb] at *;omega
def stc (e c:Nat):Option Nat:=
  if e=0/\(c=32\/c=41\/c=93) then none else if c=40\/c=91 then some (e+1) else if c=41\/c=93 then some (e - 1) else some e
def rnc:Nat->List Nat->Option Nat
  | e,[]=>some e
  | e,c::l=>(stc e c).bind λ e'=>rnc e' l
theorem cGq:∀ (l:List Nat) {e e':Nat} {r:List Nat},rnc e l=some e'->rnc e (l++r)=rnc e' r
  | [],e,e',r,h=>by cases h;rfl
  | c::l,e,e',r,h=>by
    rw [Yv,rnc] at *
    cases hs:stc e c with
    | none=>rw [hs] at h;cases h
    | some e1=>rw [hs] at h;exact cGq l h
theorem cOq {e:Nat}:∀ {l:List Nat},(∀ c∈l,c≠32/\c≠41/\c≠40/\c≠91/\c≠93)->rnc e l=some e
  | [],_=>rfl
  | c::l,h=>by
    have h1:=h c (Ya ..)
    have h2:=cOq (e:=e) λ d hd=>h d (Yc _ hd)
    rw [rnc,stc,if_neg (by omega),if_neg (by omega),if_neg (by omega)]
    exact h2
def Bal (l:List Nat):Prop:=∀ e,rnc e l=some e
theorem m8q {l:List Nat} (o c:Nat) (ho:o=40\/o=91) (hc:c=41\/c=93) (h:∀ e,0 < e->rnc e l=some e):Bal (o::(l++[c])):=λ e=>by
  rw [rnc,stc,if_neg (by omega),if_pos ho]
  show rnc (e+1) (l++[c])=some e
  rw [cGq l (h (e+1) (by omega)),rnc,stc,if_neg (by omega),if_neg (by omega),if_pos hc]
  rfl
theorem jEq:∀ {xs:List (List Str)},(∀ x∈xs,Bal (cat x))->∀ e,0 < e->rnc e (cat (bGq (" " : Str) xs))=some e
  | [],_,e,_=>rfl
  | [x],h,e,_=>h x (by simp) e
  | x::y::r,h,e,he=>by
    rw [bGq,aJq,cGq _ (h x (by simp) e),cat,gGq]
    show rnc e (32::cat (bGq (" " : Str) (y::r)))=some e
    rw [rnc,stc,if_neg (by omega),if_neg (by omega),if_neg (by omega)]
    exact jEq (λ z hz=>h z (Yc _ hz)) e he
theorem zTq {d:D} {x:List Str} (h:Tk d x):Bal (cat x):=by
  have b1:∀ e,rnc e [44]=some e:=λ e=>cOq (by simp)
  have b2:∀ e,rnc e [58]=some e:=λ e=>cOq (by simp)
  induction h with
  | is n hn=>
    intro e
    rw [cat,cat,Yt]
    exact cOq λ c hc=>by have:=(lWq n).1 c hc;omega
  | some=>intro e;rw [uBq];exact cOq (by simp [cat,ofL])
  | @left a x _ h=>
    have e:cat ("("::(x++[(",":Str),(")":Str)]))=40::((cat x++[44])++[41]):=by rw [gYq,q1q,gUq];simp [cat,aJq,aVq]
    rw [e]
    exact m8q _ _ (.inl rfl) (.inl rfl) λ e _=>by rw [cGq _ (h e)];exact b1 e
  | @right a x _ h=>
    have e:cat ("("::","::(x++[(")":Str)]))=40::(([44]++cat x)++[41]):=by rw [gYq,q1q,gUq];simp [cat,aJq,aVq]
    rw [e]
    exact m8q _ _ (.inl rfl) (.inl rfl) λ e _=>by rw [cGq _ (b1 e)];exact h e
  | @both a b x y _ _ h1 h2=>
    have e:cat ("("::(x++("," : Str)::(y++[(")":Str)])))=40::((cat x++([44]++cat y))++[41]):=by rw [gYq,q1q,gUq];simp [cat,aJq,aVq]
    rw [e]
    exact m8q _ _ (.inl rfl) (.inl rfl) λ e _=>by rw [cGq _ (h1 e),cGq _ (b1 e)];exact h2 e
  | @way ps k y _ _ _ h1 h2=>
    have e:cat ("["::(bGq (" " : Str) (ps.map (·.2))++(":" : Str)::(y++[("]":Str)])))=91::((cat (bGq (" " : Str) (ps.map (·.2)))++([58]++cat y))++[93]):=by rw [v0q,s_cl,uGq];simp [cat,aJq,aVq]
    rw [e]
    exact m8q _ _ (.inr rfl) (.inr rfl) λ e he=>by
      rw [cGq _ (jEq (λ x hx=>by obtain ⟨p,hp,rfl⟩:=Yl.mp hx;exact h1 p hp) e he),cGq _ (b2 e)]
      exact h2 e
def unW:List Str:=["way", "left", "right", "first", "second"]
def biW:List Str:=["both", "plus", "look"]
inductive Nd:Str->List D->D->Prop
  | un {w:Str} (p:D):w∈unW->Nd w [p] (.tup [.str w,p])
  | bi {w:Str} (p q:D):w∈biW->Nd w [p,q] (.tup [.str w,p,q])
  | give (p:D) (ps:List D):ps.length<=6->Nd "give" (p::ps) (.tup [.str "give", p,.tup ps])
def eUq:List (List Str)->List Str
  | []=>[]
  | x::xs=>" "::(x++eUq xs)
inductive Pk:D->List Str->Prop
  | some:Pk (.tup [.str "some"]) ["~"]
  | whole:Pk (.tup [.str "whole"]) ["."]
  | name {k:D} {x:List Str}:Tk k x->IsKd k->Bd 9100 120 40 k->(cat x).length<=1300->Pk (.tup [.str "name", k]) (("#" : Str)::pcs SQ2 [] (cat x))
  | node {w:Str} {ps:List (D × List Str)} {d:D}:Nd w (ps.map (·.1)) d->(∀ p∈ps,Pk p.1 p.2)->Pk d (("(" : Str)::w::(eUq (ps.map (·.2))++[(")" : Str)]))
theorem cZq {w:Str} {ds:List D} {d:D} (h:Nd w ds d):w∈unW++biW++[("give" : Str)]:=by
  cases h with
  | un _ h=>simp [h]
  | bi _ _ h=>simp [h]
  | give=>simp
theorem dHq:∀ w∈unW++biW++[("give" : Str)],w.cps.toList≠[]/\(∀ c∈w.cps.toList,c ∉ SQ2)/\w.length<=6:=by decide +kernel
theorem sKq {w:Str} {ds:List D} {d:D} (h:Nd w ds d):ds≠[]/\ds.length<=7:=by
  cases h with
  | un=>simp
  | bi=>simp
  | give p ps h=>simp;omega
theorem s_hs:(("#" : String):Str)=ofL [35]:=by decide +kernel
theorem s_dt:(("." : String):Str)=ofL [46]:=by decide +kernel
def Gp (x:List Str):Prop:=∀ rest,Hds SQ2 rest->pcs SQ2 [] (cat x++rest)=x++pcs SQ2 [] rest
theorem nPq {z:Str} {c:Nat} (h:z=ofL [c]) (x:List Str) (rest:List Nat) (hc:c∈SQ2):pcs SQ2 [] (cat (z::x)++rest)=z::pcs SQ2 [] (cat x++rest):=by
  subst h;exact iQq hc
theorem hd_p {z:Str} {c:Nat} (h:z=ofL [c]) (x:List Str) (rest:List Nat) (hc:c∈SQ2):Hds SQ2 (cat (z::x)++rest):=by
  subst h;exact .inr ⟨c,_,rfl,hc⟩
theorem qIq (xs:List (List Str)) {rest:List Nat} (hr:Hds SQ2 rest):Hds SQ2 (cat (eUq xs)++rest):=by
  cases xs with
  | nil=>exact hr
  | cons x xs=>exact hd_p y7q _ _ (by decide)
theorem q6q:∀ {xs:List (List Str)},(∀ x∈xs,Gp x)->Gp (eUq xs)
  | [],_,rest,_=>rfl
  | x::xs,h,rest,hr=>by
    rw [eUq,nPq y7q _ _ (by decide),aJq,Yo,h x (by simp) _ (qIq xs hr),q6q (λ z hz=>h z (Yc _ hz)) rest hr]
    simp
theorem aO3q {d:D} {x:List Str} (h:Pk d x):Gp x:=by
  induction h with
  | some=>intro rest hr;rw [nPq uBq _ _ (by decide)];rfl
  | whole=>intro rest hr;rw [nPq s_dt _ _ (by decide)];rfl
  | @name k x _ _ _ _=>intro rest hr;rw [nPq s_hs _ _ (by decide),cSq,YM,lGq hr];rfl
  | @node w ps d hn _ h=>
    intro rest hr
    obtain ⟨w1,w2,_⟩:=dHq w (cZq hn)
    have hR:=q6q (xs:=ps.map (·.2)) λ x hx=>by obtain ⟨p,hp,rfl⟩:=Yl.mp hx;exact h p hp
    rw [nPq gYq _ _ (by decide),cat,Yo,kLq (show Hds SQ2 (cat (eUq (ps.map (·.2))++[(")" : Str)])++rest) by rw [aJq,Yo];exact qIq _ (hd_p gUq _ _ (by decide))) _ _ w2 (by simpa using w1),aJq,Yo,hR _ (hd_p gUq _ _ (by decide)),nPq gUq _ _ (by decide)]
    simp [cat,ofL]
theorem jRq {d:D} {x:List Str} (h:Pk d x):pcs SQ2 [] (cat x)=x:=by
  have:=aO3q h [] (.inl rfl)
  rw [Yt,pcs,if_pos rfl,Yt] at this
  exact this
def fCq:List D->List D
  | []=>[]
  | d::ds=>.str " "::d::fCq ds
inductive Pcl:List D->D->Prop
  | mk {w:Str} {ds:List D} {k:D}:Nd w ds k->(∀ d∈ds,∃ xs,d=.tup xs)->Pcl (.str w::fCq ds) k
inductive RP2:Str->D->Prop
  | sp:RP2 " " (.str " ")
  | som:RP2 "~" (.tup [.str "some"])
  | whl:RP2 "." (.tup [.str "whole"])
  | wrd {w:Str}:w∈unW++biW++[("give" : Str)]->RP2 w (.str w)
def EndR (r:List Str):Prop:=r=[]\/∃ z r',r=z::r'/\(z = " "\/z = ")")
inductive Rp:List (List D)->List Str->List (List D)->Prop
  | nil (st:List (List D)):Rp st [] st
  | opn {st st':List (List D)} {r:List Str}:Rp ([]::st) r st'->Rp st (("(" : Str)::r) st'
  | cls {c t:List D} {k:D} {st st':List (List D)} {r:List Str}:Pcl c k->Rp ((t++[k])::st) r st'->Rp (c::t::st) ((")" : Str)::r) st'
  | nam {k:D} {x:List Str} {t:List D} {st st':List (List D)} {r:List Str}:Tk k x->IsKd k->Bd 9100 120 40 k->EndR r->Rp ((t++[.tup [.str "name", k]])::st) r st'->Rp (t::st) (("#" : Str)::(pcs SQ2 [] (cat x)++r)) st'
  | oth {p:Str} {q:D} {t:List D} {st st':List (List D)} {r:List Str}:RP2 p q->Rp ((t++[q])::st) r st'->Rp (t::st) (p::r) st'
theorem zHq {w:Str} {ds:List D} {d:D} (h:Nd w ds d):∃ xs,d=.tup xs:=by cases h<;>exact ⟨_,rfl⟩
theorem tWq {d:D} {x:List Str} (h:Pk d x):∃ xs,d=.tup xs:=by
  cases h with
  | some=>exact ⟨_,rfl⟩
  | whole=>exact ⟨_,rfl⟩
  | name=>exact ⟨_,rfl⟩
  | node hn _=>exact zHq hn
theorem p8q:∀ {ps:List (D × List Str)} {c:List D} {st st':List (List D)} {r:List Str},(∀ p∈ps,∀ (t:List D) (st:List (List D)) (r:List Str) (st':List (List D)),EndR r->Rp ((t++[p.1])::st) r st'->Rp (t::st) (p.2++r) st')->Rp ((c++fCq (ps.map (·.1)))::st) ((")" : Str)::r) st'->Rp (c::st) (eUq (ps.map (·.2))++(")" : Str)::r) st'
  | [],c,st,st',r,_,h=>by simpa [eUq,fCq] using h
  | p::ps,c,st,st',r,hp,h=>by
    rw [Yh,eUq,Yv,Yo]
    refine .oth .sp (hp p (by simp) _ _ _ _ ?_ (p8q (λ q hq=>hp q (Yc _ hq)) ?_))
    . cases ps with
      | nil=>exact .inr ⟨_,_,rfl,.inr rfl⟩
      | cons q qs=>exact .inr ⟨_,_,rfl,.inl rfl⟩
    . simpa [fCq,Yo] using h
theorem aP0q {d:D} {x:List Str} (h:Pk d x):∀ (t:List D) (st:List (List D)) (r:List Str) (st':List (List D)),EndR r->Rp ((t++[d])::st) r st'->Rp (t::st) (x++r) st':=by
  induction h with
  | some=>intro t st r st' _ h;exact .oth .som h
  | whole=>intro t st r st' _ h;exact .oth .whl h
  | name h1 h2 h3 _=>intro t st r st' hr h;exact .nam h1 h2 h3 hr h
  | @node w ps d hn h0 ih=>
    intro t st r st' hr h
    rw [Yv,Yv,Yo]
    refine .opn (.oth (.wrd (cZq hn)) (p8q ih (.cls (.mk hn ?_) h)))
    intro d hd
    obtain ⟨p,hp,rfl⟩:=Yl.mp hd
    exact tWq (h0 p hp)
theorem qQq:∀ ds:List D,ev2 (fCq ds)=Yp ds.length (.str " ")/\ev2 ((fCq ds).drop 1)=ds
  | []=>⟨rfl,rfl⟩
  | d::ds=>by
    obtain ⟨h1,h2⟩:=qQq ds
    have hx:∀ (a:D) (l:List D),ev2 (a::l)=a::ev2 (l.drop 1):=λ a l=>by cases l<;>rfl
    rw [fCq]
    refine ⟨by rw [ev2,h1];rfl,?_⟩
    rw [Zk,YI,hx,h2]
theorem oLq {d:D} {x:List Str} (h:Tk d x):1<=(cat x).length:=by
  have h1:=h.gd [] (.inl rfl)
  cases e:cat x with
  | nil=>
    exfalso
    have h2:=h.pieces
    rw [e,pcs,if_pos rfl] at h2
    rw [<- h2] at h
    cases h
  | cons _ _=>simp
theorem oCq (xs:List (List Str)):(xs.map λ x=>(cat x).length).sum<=(cat (bGq (" " : Str) xs)).length:=e8q xs
theorem p6q:∀ {ps:List (D × List Str)},(∀ p∈ps,tsz p.1<=3 * (cat p.2).length)->b5q (ps.map (·.1))<=3 * ((ps.map (·.2)).map λ x=>(cat x).length).sum
  | [],_=>by simp [b5q]
  | p::ps,h=>by
    have h1:=h p (Ya ..)
    have h2:=p6q λ q hq=>h q (Yc _ hq)
    simp only [Yh,Y8,b5q] at *
    omega
theorem uTq {d:D} {x:List Str} (h:Tk d x):tsz d<=3 * (cat x).length:=by
  induction h with
  | is n hn=>
    have:=oLq (.is n hn)
    simp only [tsz,b5q];omega
  | some=>have:=oLq .some;simp only [tsz,b5q];omega
  | left _ h=>rw [gYq];simp only [tsz,b5q,cat,aJq,aVq,Yg,Yb,Yj];omega
  | right _ h=>rw [gYq];simp only [tsz,b5q,cat,aJq,aVq,Yg,Yb,Yj];omega
  | both _ _ h1 h2=>rw [gYq];simp only [tsz,b5q,cat,aJq,aVq,Yg,Yb,Yj];omega
  | @way ps k y _ _ _ h1 h2=>
    have a:=p6q h1
    have b:=oCq (ps.map (·.2))
    rw [v0q,uGq];simp only [tsz,b5q,cat,aJq,aVq,Yg,Yb,Yj];omega
theorem aD2q {d:D} {x:List Str} (h:Tk d x):wid d<=40:=by
  induction h with
  | is n hn=>simp [wid,n1q]
  | some=>simp [wid,n1q]
  | left _ h=>simp only [wid,n1q,Yb,Yj];omega
  | right _ h=>simp only [wid,n1q,Yb,Yj];omega
  | both _ _ h1 h2=>simp only [wid,n1q,Yb,Yj];omega
  | @way ps k y _ _ hl h1 h2=>
    have:n1q (ps.map (·.1))<=40:=rIq λ d hd=>by obtain ⟨p,hp,rfl⟩:=Yl.mp hd;exact h1 p hp
    simp only [wid,n1q,Yb,Yj,Yf];omega
def KC (c p:Nat) (d:D):Prop:=IsKc d/\d.dp<=p/\∃ x,Tk d x/\(cat x).length<=c
theorem KC.mono {c p c' p':Nat} {d:D} (h:KC c p d) (h1:c<=c') (h2:p<=p'):KC c' p' d:=by
  obtain ⟨a,b,x,t,l⟩:=h
  exact ⟨a,by omega,x,t,by omega⟩
theorem KC.bd {d:D} (h:KC 1300 100 d):Bd 9100 120 40 d:=by
  obtain ⟨_,b,x,t,l⟩:=h
  have:=uTq t
  exact ⟨by omega,by omega,aD2q t⟩
theorem sVq {n:Int} (h:n.natAbs < 10 ^ 12):KC 13 1 (.tup [.str "is", .int n]):=⟨.is n h,by simp [D.dp,bMq],_,.is n h,by rw [cat,cat,Yt];exact (iYq h).2⟩
theorem kc_some:KC 13 1 (.tup [.str "some"]):=⟨.some,by simp [D.dp,bMq],_,.some,by rw [uBq];simp [cat,ofL]⟩
theorem xYq {c p c' p':Nat} {a b:D} (h1:KC c p a) (h2:KC c' p' b) (o1:ofA a=true) (o2:ofA b=true):KC (c+c'+3) (1+max p p') (.tup [.str "both", a,b]):=by
  obtain ⟨k1,d1,x,t1,l1⟩:=h1
  obtain ⟨k2,d2,y,t2,l2⟩:=h2
  refine ⟨.both k1 k2 o1 o2,by simp only [D.dp,bMq];omega,_,.both t1 t2,?_⟩
  rw [gYq,q1q,gUq];simp only [cat,aJq,aVq,Yg,Yb,Yj];omega
theorem p7q {c p:Nat} {a:D} (h1:KC c p a):KC (c+3) (1+p) (.tup [.str "left", a]):=by
  obtain ⟨k1,d1,x,t1,l1⟩:=h1
  refine ⟨.left k1,by simp only [D.dp,bMq];omega,_,.left t1,?_⟩
  rw [gYq,q1q,gUq];simp only [cat,aJq,aVq,Yg,Yb,Yj];omega
theorem lUq {c p:Nat} {a:D} (h1:KC c p a):KC (c+3) (1+p) (.tup [.str "right", a]):=by
  obtain ⟨k1,d1,x,t1,l1⟩:=h1
  refine ⟨.right k1,by simp only [D.dp,bMq];omega,_,.right t1,?_⟩
  rw [gYq,q1q,gUq];simp only [cat,aJq,aVq,Yg,Yb,Yj];omega
theorem m9q {c:Nat}:∀ {xs:List (List Str)},(∀ x∈xs,(cat x).length<=c)->(cat (bGq (" " : Str) xs)).length<=xs.length * (c+1)
  | [],_=>by simp [bGq,cat]
  | [x],h=>by have:=h x (by simp);simp [bGq];omega
  | x::y::r,h=>by
    have h1:=h x (by simp)
    have h2:=m9q (xs:=y::r) λ z hz=>h z (Yc _ hz)
    rw [bGq,aJq,cat,gGq,Yb,Nat.succ_mul]
    simp only [Yg,Yb,Yj] at *
    omega
theorem rEq {c p c' p' n:Nat} {ds:List D} {k:D} (h1:∀ d∈ds,KC c p d) (hs:gVq ds=true) (h2:KC c' p' k) (hl:ds.length<=n) (hn:n<=40):KC (n * (c+1)+c'+3) (1+max (1+p) p') (.tup [.str "way", .tup ds,k]):=by
  obtain ⟨k2,d2,y,t2,l2⟩:=h2
  obtain ⟨ps,e,hp⟩:=dZq λ d hd=>(h1 d hd).2.2
  have hd:bMq ds<=p:=kUq λ d hd=>(h1 d hd).2.1
  refine ⟨.way (λ d hd=>(h1 d hd).1) hs k2,by simp only [D.dp,bMq];omega,?_⟩
  subst e
  rw [Yf] at hl
  refine ⟨_,.way (λ p hp'=>(hp p hp').1) t2 (by omega),?_⟩
  have:=m9q (xs:=ps.map (·.2)) (c:=c) λ x hx=>by obtain ⟨p,hp',rfl⟩:=Yl.mp hx;exact (hp p hp').2
  have h3:(ps.map (·.2)).length * (c+1)<=n * (c+1):=Nat.mul_le_mul_right _ (by rw [Yf];exact hl)
  rw [v0q,s_cl,uGq];simp only [cat,aJq,aVq,Yg,Yb,Yj];omega
def PC2 (c p:Nat) (d:D):Prop:=d.dp<=p/\∃ x,Pk d x/\(cat x).length<=c
theorem PC2.mono {c p c' p':Nat} {d:D} (h:PC2 c p d) (h1:c<=c') (h2:p<=p'):PC2 c' p' d:=by
  obtain ⟨b,x,t,l⟩:=h
  exact ⟨by omega,x,t,by omega⟩
theorem pc_some:PC2 2000 1 (.tup [.str "some"]):=⟨by simp [D.dp,bMq],_,.some,by rw [uBq];simp [cat,ofL]⟩
theorem pc_whole:PC2 2000 1 (.tup [.str "whole"]):=⟨by simp [D.dp,bMq],_,.whole,by rw [s_dt];simp [cat,ofL]⟩
theorem wNq {k:D} (h:KC 1300 100 k):PC2 2000 (1+k.dp) (.tup [.str "name", k]):=by
  have hb:=h.bd
  obtain ⟨k1,d1,x,t1,l1⟩:=h
  refine ⟨by simp only [D.dp,bMq];omega,_,.name t1 k1.kd hb (by omega),?_⟩
  rw [s_hs,cat,cSq];simp only [aVq,Yg,Yb,Yj];omega
theorem aR4q {c p:Nat} {w:Str} {a:D} (hw:w∈unW) (h:PC2 c p a):PC2 (c+20) (1+p) (.tup [.str w,a]):=by
  obtain ⟨d1,x,t1,l1⟩:=h
  refine ⟨by simp only [D.dp,bMq];omega,_,.node (ps:=[(a,x)]) (.un a hw) (by simpa using t1),?_⟩
  have:=(dHq w (by simp [hw])).2.2
  have e:w.cps.toList.length=w.length:=Array.length_toList
  rw [gYq,gUq];simp only [Yh,YF,eUq,cat,aJq,gGq,aVq,Yg,Yb,Yj];omega
theorem aQ2q {c p c' p':Nat} {w:Str} {a b:D} (hw:w∈biW) (h:PC2 c p a) (h':PC2 c' p' b):PC2 (c+c'+20) (1+max p p') (.tup [.str w,a,b]):=by
  obtain ⟨d1,x,t1,l1⟩:=h
  obtain ⟨d2,y,t2,l2⟩:=h'
  refine ⟨by simp only [D.dp,bMq];omega,_,.node (ps:=[(a,x),(b,y)]) (.bi a b hw) (by simpa using ⟨t1,t2⟩),?_⟩
  have:=(dHq w (by simp [hw])).2.2
  have e:w.cps.toList.length=w.length:=Array.length_toList
  rw [gYq,gUq];simp only [Yh,YF,eUq,cat,aJq,gGq,aVq,Yg,Yb,Yj];omega
theorem lSq {c:Nat}:∀ {xs:List (List Str)},(∀ x∈xs,(cat x).length<=c)->(cat (eUq xs)).length<=xs.length * (c+1)
  | [],_=>by simp [eUq,cat]
  | x::xs,h=>by
    have h1:=h x (by simp)
    have h2:=lSq (xs:=xs) λ z hz=>h z (Yc _ hz)
    rw [eUq,cat,gGq,aJq,Yb,Nat.succ_mul]
    simp only [Yg,Yb,Yj] at *
    omega
theorem xJq {c p c' p' n:Nat} {a:D} {ds:List D} (h:PC2 c p a) (h':∀ d∈ds,PC2 c' p' d) (hl:ds.length<=n) (hn:n<=6):PC2 (c+n * (c'+1)+20) (1+max p (1+p')) (.tup [.str "give", a,.tup ds]):=by
  obtain ⟨d1,x,t1,l1⟩:=h
  obtain ⟨ps,e,hp⟩:=dZq λ d hd=>(h' d hd).2
  have hd:bMq ds<=p':=kUq λ d hd=>(h' d hd).1
  refine ⟨by simp only [D.dp,bMq];omega,?_⟩
  subst e
  rw [Yf] at hl
  refine ⟨_,.node (w:="give") (ps:=(a,x)::ps) (.give a _ (by rw [Yf];omega)) (λ q hq=>by rcases Yd.mp hq with rfl | hq;exact t1;exact (hp q hq).1),?_⟩
  have:=lSq (xs:=ps.map (·.2)) (c:=c') λ x hx=>by obtain ⟨p,hp',rfl⟩:=Yl.mp hx;exact (hp p hp').2
  have h3:(ps.map (·.2)).length * (c'+1)<=n * (c'+1):=Nat.mul_le_mul_right _ (by rw [Yf];exact hl)
  have e:("give" : Str).cps.toList.length=4:=by decide
  rw [gYq,gUq];simp only [Yh,eUq,cat,aJq,gGq,aVq,Yg,Yb,Yj,e];omega
theorem zAq {d:D} {x:List Str} (h:Pk d x):x.length<=(cat x).length:=by
  have:=kRq SQ2 (cat x) []
  rw [jRq h] at this
  simpa using this
abbrev sgnP:Str:="()[] #.~"
def jWq:DSp:=λ ds G Q=>∃ z:Str,ds=[.str z,.str sgnP]/\z.length<=300000/\∀ l,G l=none->Q (.ref l) (up G l (.lst ((pcs SQ2 [] z.cps.toList).map D.str)))
def pXq:DSp:=λ ds G Q=>∃ (l:Addr) (xs:List Str) (i:Nat) (x r:List Str) (k:D),ds=[.ref l,.int i]/\G l=some (.lst (xs.map D.str))/\xs.length<=5000/\xs.drop i=pcs SQ2 [] (cat x)++r/\Tk k x/\EndR r/\i<=xs.length/\Q (.int ((i+(pcs SQ2 [] (cat x)).length:Nat):Int)) G
def wUq:DSp:=λ ds G Q=>∃ (l:Addr) (c:List D) (k:D),ds=[.ref l]/\G l=some (.lst c)/\Pcl c k/\Q k G
def kZq:DSp:=λ ds G Q=>∃ (d:D) (x:List Str),ds=[.str (txt x)]/\Pk d x/\(cat x).length<=5000/\Q d G
def cK (k:Nat):Nat:=if k=0 then 13 else if k=1 then 100 else if k=2 then 406 else 1223
def pK (k:Nat):Nat:=if k=0 then 1 else 22+2 * k
def jQq (n:Nat):DSp:=λ ds G Q=>∃ (a:Addr) (k:Int),ds=[.ref a,.int k]/\Fd G a/\0<=k/\k < n/\k<=3/\∀ d G',Fx a G G'->KC (16 * 2 ^ k.toNat - 3) (k.toNat+1) d->ofA d=true->Q d G'
def spKe (n:Nat):DSp:=λ ds G Q=>∃ (a:Addr) (k:Int),ds=[.ref a,.int k]/\Fd G a/\0<=k/\k < n/\k<=3/\∀ d G',Dw a G G'->KC (cK k.toNat) (pK k.toNat) d->(k=0->ofA d=true)->Q d G'
def fPq (n:Nat):DSp:=λ ds G Q=>∃ (a:Addr) (r k:Int),ds=[.ref a,.int r,.int k]/\Fd G a/\0<=r/\r<=40/\0<=k/\k < n/\k<=14/\∀ d G',Dw a G G'->PC2 (2100 * (8 * r.toNat+1)) (40+2 * k.toNat) d->Q d G'
def gHq (n:Nat):DSp:=λ ds G Q=>∃ (d:D) (x:List Str),ds=[d]/\Tk d x/\d.dp < n/\tsz d<=9100/\Q (.str (txt x)) G
def eTq (n:Nat):DSp:=λ ds G Q=>∃ (d:D) (x:List Str),ds=[d]/\Pk d x/\d.dp < n/\(cat x).length<=700000/\Q (.str (txt x)) G
def wLq:DSp:=λ ds G Q=>∃ d:D,ds=[d]/\PC2 700000 100 d/\∀ d',PC2 5000 100 d'->Q d' G
def dTq (n:Nat):DSp:=λ ds G Q=>∃ d:D,ds=[d]/\Ad d/\d.dp < n/\Q (.bl true) G
def ipL:List (Str × D):=[("some", .int 0),("whole", .int 0),("way", .int 1),("left", .int 1),("right", .int 1),("first", .int 1),("second", .int 1),("both", .int 2),("plus", .int 2),("look", .int 2)]
def ipLV:List (Str × V):=[("some", .int 0),("whole", .int 0),("way", .int 1),("left", .int 1),("right", .int 1),("first", .int 1),("second", .int 1),("both", .int 2),("plus", .int 2),("look", .int 2)]
def ipT (z:Str):Option D:=(ipL.find? λ kv=>decide (kv.1=z)).map (·.2)
theorem ipP {K:PySem.W.Frag}:Paired (λ(a:Str × D) (b:Str × V)=>a.1=b.1/\∀ H,Abs K H a.2 b.2) ipL ipLV:=
  .cons ⟨rfl,λ _=>rfl⟩ (.cons ⟨rfl,λ _=>rfl⟩ (.cons ⟨rfl,λ _=>rfl⟩ (.cons ⟨rfl,λ _=>rfl⟩ (.cons ⟨rfl,λ _=>rfl⟩ (.cons ⟨rfl,λ _=>rfl⟩ (.cons ⟨rfl,λ _=>rfl⟩ (.cons ⟨rfl,λ _=>rfl⟩ (.cons ⟨rfl,λ _=>rfl⟩ (.cons ⟨rfl,λ _=>rfl⟩ .nil)))))))))
def psL:List (Str × D):=[(".", .tup [.str "whole"]),("~", .tup [.str "some"])]
def psT (z:Str):Option D:=(psL.find? λ kv=>decide (kv.1=z)).map (·.2)
theorem aW0q:∀ w∈unW,ipT w=some (.int 1):=by intro w hw;simp only [unW,Yd,Yn,or_false] at hw;rcases hw with rfl | rfl | rfl | rfl | rfl<;>rfl
theorem aP3q:∀ w∈biW,ipT w=some (.int 2):=by intro w hw;simp only [biW,Yd,Yn,or_false] at hw;rcases hw with rfl | rfl | rfl<;>rfl
theorem pUq {d:D} {x:List Str} (h:Pk d x):d.data=true/\Ad d:=by
  induction h with
  | some=>exact ⟨rfl,.tup λ d hd=>by simp at hd;subst hd;exact .str _⟩
  | whole=>exact ⟨rfl,.tup λ d hd=>by simp at hd;subst hd;exact .str _⟩
  | @name k x h1 h2 h3 _=>exact ⟨by simp [D.data,aWq,h2.isK.data],.tup λ d hd=>by simp at hd;rcases hd with rfl | rfl;exact .str _;exact h2.isK.ad⟩
  | @node w ps d hn _ ih=>
    have h1:∀ e∈ps.map (·.1),e.data=true/\Ad e:=λ e he=>by obtain ⟨p,hp,rfl⟩:=Yl.mp he;exact ih p hp
    generalize ps.map (·.1)=es at hn h1
    cases hn with
    | un p hw=>exact ⟨by simp [D.data,aWq,(h1 p (by simp)).1],.tup λ d hd=>by simp at hd;rcases hd with rfl | rfl;exact .str _;exact (h1 _ (by simp)).2⟩
    | bi p q hw=>exact ⟨by simp [D.data,aWq,(h1 p (by simp)).1,(h1 q (by simp)).1],.tup λ d hd=>by simp at hd;rcases hd with rfl | rfl | rfl;exact .str _;exact (h1 _ (by simp)).2;exact (h1 _ (by simp)).2⟩
    | give p qs hl=>
      have hq:aWq qs=true:=e1q λ d hd=>(h1 d (by simp [hd])).1
      exact ⟨by simp [D.data,aWq,(h1 p (by simp)).1,hq],.tup λ d hd=>by simp at hd;rcases hd with rfl | rfl | rfl;exact .str _;exact (h1 _ (by simp)).2;exact .tup λ d hd=>(h1 d (by simp [hd])).2⟩
theorem z9q:((" " : String):Str).length=1:=by decide
theorem eXq:∀ {xs:List (List Str)},xs≠[]->eUq xs=(" " : Str)::bGq (" " : Str) xs
  | [],h=>absurd rfl h
  | [x],_=>by simp [eUq,bGq]
  | x::y::r,_=>by rw [eUq,eXq (xs:=y::r) (by simp),bGq]
theorem rZq {w:Str} {xs:List (List Str)} (h:xs≠[]):("(" : Str)++w++(" " : Str)++txt (bGq (" " : Str) xs)++(")" : Str)=txt (("(" : Str)::w::(eUq xs++[(")" : Str)])):=by
  rw [eXq h]
  exact c9q (by simp [cHq,aVq,cat,aJq])
theorem sRq (x:List Str):("#" : Str)++txt x=txt (("#" : Str)::pcs SQ2 [] (cat x)):=c9q (by simp [cHq,aVq,cat,cSq])
theorem sFq {d:D} {x:List Str} (h:Pk d x) (hl:5000 < (cat x).length):∃ z p r y,d=.tup (.str z::p::r)/\Pk p y/\(cat y).length<=(cat x).length/\tsz p < tsz d/\p.dp<=d.dp:=by
  cases h with
  | some=>rw [uBq] at hl;simp [cat,ofL] at hl
  | whole=>rw [s_dt] at hl;simp [cat,ofL] at hl
  | name _ _ _ h4=>rw [s_hs,cat,cSq] at hl;simp only [aVq,Yg,Yb,Yj] at hl;omega
  | @node w ps _ hn hp=>
    cases ps with
    | nil=>exact absurd rfl (sKq hn).1
    | cons q qs=>
      have l1:(cat q.2).length<=(cat (("(" : Str)::w::(eUq ((q::qs).map (·.2))++[(")" : Str)]))).length:=by
        rw [Yh,eUq]
        simp only [cat,aJq,Yg]
        omega
      have hq:=hp q (by simp)
      generalize he:(q::qs).map (·.1)=es at hn
      cases hn with
      | un p hw=>simp at he;obtain ⟨rfl,_⟩:=he;exact ⟨_,_,_,q.2,rfl,hq,l1,by simp only [tsz,b5q];omega,by simp only [D.dp,bMq];omega⟩
      | bi p p' hw=>simp at he;obtain ⟨rfl,_⟩:=he;exact ⟨_,_,_,q.2,rfl,hq,l1,by simp only [tsz,b5q];omega,by simp only [D.dp,bMq];omega⟩
      | give p ps' hl'=>simp at he;obtain ⟨rfl,_⟩:=he;exact ⟨_,_,_,q.2,rfl,hq,l1,by simp only [tsz,b5q];omega,by simp only [D.dp,bMq];omega⟩
theorem aG6q {w:Str} {es:List D} {d e:D} (h:Nd w es d) (he:e∈es):e.dp < d.dp:=by
  cases h with
  | un p _=>simp at he;subst he;simp only [D.dp,bMq];omega
  | bi p q _=>simp at he;rcases he with rfl | rfl<;>(simp only [D.dp,bMq];omega)
  | give p ps _=>
    rcases Yd.mp he with rfl | he
    . simp only [D.dp,bMq];omega
    . have:=eKq he;simp only [D.dp,bMq];omega
theorem lPq {x:List Str}:∀ {xs:List (List Str)},x∈xs->(cat x).length<=(cat (eUq xs)).length
  | [],h=>by simp at h
  | y::ys,h=>by
    rw [eUq]
    simp only [cat,aJq,Yg]
    rcases Yd.mp h with rfl | h
    . omega
    . have:=lPq h;omega
theorem o9q (p a b:Str):inL (.str p) [.str a,.str b]=(p==a||p==b):=by
  have e:∀ a b:Str,(a==b)=(b==a):=λ a b=>by rw [Bool.eq_iff_iff,beq_iff_eq,beq_iff_eq];exact eq_comm
  simp only [inL,YU,List.any_nil,eqF,Bool.or_false]
  rw [e a p,e b p]
theorem n6q {p:Str} {e:Nat} {l:List Nat} (hp:(∃ c∈SQ2,p=ofL [c])\/(p.cps.toList≠[]/\∀ c∈p.cps.toList,c ∉ SQ2)) (h:rnc e (p.cps.toList++l)=some 0) :
    (e=0->(p==" "||p==")")=false)/\(((p=="("||p=="[")=true/\rnc (e+1) l=some 0)\/((p=="("||p=="[")=false/\(p==")"||p=="]")=true/\1<=e/\rnc (e - 1) l=some 0)\/((p=="("||p=="[")=false/\(p==")"||p=="]")=false/\rnc e l=some 0)):=by
  rcases hp with ⟨c,hc,rfl⟩ | ⟨hne,hp⟩
  . have h':((stc e c).bind λ e'=>rnc e' l)=some 0:=h
    simp only [Yd,Yn,or_false] at hc
    rw [y7q,gUq,gYq,v0q,uGq]
    unfold stc at h'
    rcases hc with rfl | rfl | rfl | rfl | rfl | rfl | rfl | rfl
    . exact ⟨λ _=>by decide,.inl ⟨by decide,by simpa using h'⟩⟩
    . by_cases e0:e=0
      . subst e0;simp at h'
      . rw [if_neg (by omega),if_neg (by decide),if_pos (by decide)] at h'
        exact ⟨λ h=>absurd h e0,.inr (.inl ⟨by decide,by decide,by omega,h'⟩)⟩
    . exact ⟨λ _=>by decide,.inl ⟨by decide,by simpa using h'⟩⟩
    . by_cases e0:e=0
      . subst e0;simp at h'
      . rw [if_neg (by omega),if_neg (by decide),if_pos (by decide)] at h'
        exact ⟨λ h=>absurd h e0,.inr (.inl ⟨by decide,by decide,by omega,h'⟩)⟩
    . by_cases e0:e=0
      . subst e0;simp at h'
      . rw [if_neg (by omega),if_neg (by decide),if_neg (by decide)] at h'
        exact ⟨λ h=>absurd h e0,.inr (.inr ⟨by decide,by decide,h'⟩)⟩
    . rw [if_neg (by omega),if_neg (by decide),if_neg (by decide)] at h'
      exact ⟨λ _=>by decide,.inr (.inr ⟨by decide,by decide,h'⟩)⟩
    . rw [if_neg (by omega),if_neg (by decide),if_neg (by decide)] at h'
      exact ⟨λ _=>by decide,.inr (.inr ⟨by decide,by decide,h'⟩)⟩
    . rw [if_neg (by omega),if_neg (by decide),if_neg (by decide)] at h'
      exact ⟨λ _=>by decide,.inr (.inr ⟨by decide,by decide,h'⟩)⟩
  . have no:∀ c∈SQ2,(p==ofL [c])=false:=λ c hc=>by
      rw [beq_eq_false_iff_ne]
      intro e;subst e
      exact hp c (by simp [ofL]) hc
    have pl:rnc e p.cps.toList=some e:=cOq λ c hc=>by
      have:=hp c hc
      simp at this
      omega
    rw [cGq _ pl] at h
    rw [y7q,gUq,gYq,v0q,uGq,no 32 (by decide),no 41 (by decide),no 40 (by decide),no 91 (by decide),no 93 (by decide)]
    exact ⟨λ _=>rfl,.inr (.inr ⟨rfl,rfl,h⟩)⟩
theorem aD7q {p:Str} {q:D} (h:RP2 p q):(p=="(")=false/\(p==")")=false/\(p=="#")=false/\(psT p).getD (.str p)=q:=by
  cases h with
  | sp=>exact ⟨by decide,by decide,by decide,rfl⟩
  | som=>exact ⟨by decide,by decide,by decide,rfl⟩
  | whl=>exact ⟨by decide,by decide,by decide,rfl⟩
  | wrd hw=>
    simp only [unW,biW,Yv,YM,Yd,Yn,or_false] at hw
    rcases hw with rfl | rfl | rfl | rfl | rfl | rfl | rfl | rfl | rfl<;>exact ⟨by decide,by decide,by decide,rfl⟩
theorem sCq {α:Type} {xs ys r:List α} {a:Nat} (h:xs.drop a=ys++r) (ha:a<=xs.length):cut xs (some (a:Int)) (some ((a+ys.length:Nat):Int))=ys:=by
  have hl:=congrArg YJ h
  rw [Yz,Yg] at hl
  unfold cut
  rw [show HT.sIx xs.length 0 (some (a:Int))=a by unfold HT.sIx;simp only [];rw [if_neg (by omega)];omega,show HT.sIx xs.length xs.length (some ((a+ys.length:Nat):Int))=a+ys.length by unfold HT.sIx;simp only [];rw [if_neg (by omega)];omega,h,show a+ys.length - a=ys.length by omega]
  exact List.take_left' rfl
end L3
namespace L2
open PySem PySem.W PyProof.Rows
section
variable {prog:Program} {w:World} {A:Around} {E:Value->Shared->Prop} {s:Shared} {vs:List Value} {f:Value} {kS a:Addr} {e1:Nat} {J:List Value->Shared->Prop}
theorem m0q {body:Value->PUnit->Sem (ForInStep PUnit)} (hb:∀ x ks s,vs[ks.length]?=some x->J ks s->wpAny (model prog w) A (body x ⟨⟩) (λ r s'=>r=.yield ⟨⟩/\∃ k,J (ks++[k]) s') E s) :
    ∀ (r ks:List Value) (s:Shared),vs.drop ks.length=r->ks.length<=vs.length->J ks s->wpAny (model prog w) A (forIn r PUnit.unit body) (λ _ s'=>∃ ks,ks.length=vs.length/\J ks s') E s
  | [],ks,s,hr,hl,h=>by
    rw [List.forIn_nil]
    exact wpAny_pure ⟨ks,by have:=congrArg YJ hr;rw [Yz,Yj] at this;omega,h⟩
  | x::r,ks,s,hr,hl,h=>by
    rw [List.forIn_cons]
    have hx:vs[ks.length]?=some x:=by have:=congrArg (·[0]?) hr;simpa using this
    have hlt:=(Yu.mp hx).1
    refine wpAny_bind (wpAny_mono (hb x ks s hx h) (λ q s' hq=>?_) λ _ _ x=>x)
    obtain ⟨rfl,k,h2⟩:=hq
    show wpAny (model prog w) A (forIn r PUnit.unit body) _ E s'
    refine m0q hb r (ks++[k]) s' ?_ (by rw [Yg,YV];omega) h2
    rw [Yg,YV,<- List.drop_drop,hr];rfl
abbrev cNq (h:Heap) (kS a:Addr) (out:List Value):Heap:=(h.update kS (Obj.mapSeq λ _=>(#[]:Array Value))).update a (Obj.mapSeq λ _=>Y5 out)
structure KeyOrd (prog:Program) (w:World) (A:Around) (ks:List Value) (s:Shared) (lt:Nat->Nat->Bool):Prop where
  ex:∃ κ,(∀ (E:Value->Shared->Prop) (Q:SortKind->Shared->Prop),Q κ s->wpAny (model prog w) A (keyKind' ks.toArray) Q E s)/\∀ i j C,i < ks.length->j < ks.length->C (lt i j) s->kas_ask prog w A κ ks i j C s
  swo:Swo lt
theorem s4q {P:PySem.Fin->Shared->Prop} (h2:2<=vs.length) (h64:vs.length < 64) (hne:kS≠a)
    (hJ:∀ ks s,J ks s->(∃ e,s.heap.get? kS=some (seqObj "list" ks.toArray e))/\s.heap.get? a=some (seqObj "list" #[] e1))
    (hcall:∀ ks x s,vs[ks.length]?=some x->J ks s->wpAny (model prog w) A (call f [x]) (λ k s'=>(∃ e,s'.heap.get? kS=some (seqObj "list" ks.toArray e))/\J (ks++[k]) { s' with heap:=s'.heap.update kS (Obj.mapSeq (·.push k)) }) (λ _ _=>False) s)
    (hend:∀ ks s,ks.length=vs.length->J ks s->∃ lt,KeyOrd prog w A ks s lt/\∀ p:Array Nat,Pm vs.length p->Up' lt p vs.length->P (.done (.ret .none)) { s with heap:=cNq s.heap kS a (p.toList.map λ i=>vs.getD i Value.none) })
    (h0:J [] s):wpAny (model prog w) A (ksk_rest a f false vs.toArray e1 (.ref kS)) P E s:=by
  unfold ksk_rest
  refine wpAny_bind (wpAny_rule ?_)
  first
    | rw [List.forIn_toArray]
    | (rw [<- Array.forIn_toList];simp only [List.toList_toArray])
    | rw [<- Array.forIn_toList]
  refine wpAny_bind (wpAny_mono (m0q (J:=J) (vs:=vs) (λ x ks s' hx hj=>?_) vs [] s rfl (Nat.zero_le _) h0) (λ _ s' hd=>?_) λ _ _ x=>x)
  . have hlt:=(Yu.mp hx).1
    refine wpAny_bind (wpAny_attempt (wpAny_mono (hcall ks x s' hx hj) (λ k s'' hk=>?_) λ _ _ hF=>hF.elim))
    obtain ⟨⟨e,hk⟩,hj'⟩:=hk
    try dsimp only
    refine wpAny_bind (listUpdate_at hk rfl ?_ (by rw [Ye,sizeLine_eq];omega) (Nat.le_trans (Nat.le_of_eq (Array.size_push ..)) (by rw [Ye,sizeLine_eq];omega)))
    exact wpAny_pure ⟨rfl,k,hj'⟩
  . obtain ⟨ks,hl,hj⟩:=hd
    obtain ⟨⟨e,hk⟩,ha⟩:=hJ ks s' hj
    obtain ⟨lt,⟨⟨κ,hkk,hask⟩,O⟩,fin⟩:=hend ks s' hl hj
    try dsimp only
    refine wpAny_bind (listItems_at hk rfl ?_)
    have hn2:¬ vs.toArray.size < 2:=by rw [Ye];omega
    unfold ksk_end
    simp only [Bool.false_eq_true,if_false]
    rw [if_neg hn2,if_neg hn2]
    refine wpAny_bind (hkk _ _ ?_)
    refine wpAny_bind (wpAny_mono (kat_run (ks:=ks) (vs:=vs) (Q:=λ st' s''=>s''=s'/\failedOf st'=none/\∃ p:Array Nat,Pm vs.length p/\Up' lt p vs.length/\(arrOf st').map (·.2)=(p.toList.map λ i=>vs.getD i Value.none).toArray) (G:=λ p s''=>s''=s'/\Pm vs.length p/\Up' lt p vs.length) hl h2 h64 (λ p st' s' _ har hf g=>⟨g.1,hf,p,g.2.1,g.2.2,kat_snds hl har⟩)
      (kEv.wp (λ i j C hi hj hC=>hask i j C (by omega) (by omega) hC) (λ p hp=>⟨rfl,hp⟩) (oMq (by omega) O))) ?_ λ _ _ e=>e)
    rintro ⟨⟨⟩,st'⟩ s'' ⟨rfl,hf,p,hp,hup,eo⟩
    have hol:(p.toList.map λ i=>vs.getD i Value.none).length=vs.length:=by rw [Yf,hp.length_eq,Zb]
    dsimp only at eo ⊢
    unfold ksk_tail
    try dsimp only
    rw [eo]
    refine wpAny_bind (listUpdate_at hk rfl ?_ (by rw [Ye,sizeLine_eq];omega) (Nat.zero_le _))
    refine wpAny_bind (wpAny_letGo ?_)
    have ha2:(s''.heap.update kS (Obj.mapSeq λ _=>(#[]:Array Value))).get? a=some (seqObj "list" #[] e1):=by rw [Heap.get?_update_ne _ _ _ _ hne.symm];exact ha
    refine wpAny_bind (seqEpoch_at ha2 rfl ?_)
    simp only [Bool.false_eq_true,if_false]
    refine wpAny_bind (listUpdate_at ha2 rfl ?_ (Nat.zero_le _) (by show (Y5 _).size<=_;rw [Ye,hol,sizeLine_eq];omega))
    rw [hf]
    simp only [bne_self_eq_false,Bool.false_eq_true,if_false]
    exact wpAny_pure (fin p hp hup)
theorem tFq {n:Nat} {P:PySem.Fin->Shared->Prop} {J:Nat->List Value->Shared->Prop} (ho:s.heap.get? a=some (seqObj "list" vs.toArray n)) (h2:2<=vs.length) (h64:vs.length < 64)
    (h0:∀ e1 h',(∀ b o,b≠a->s.heap.get? b=some o->h'.get? b=some o)->h'.get? a=some (seqObj "list" #[] e1)->h'.get? (s.heap.objs.size+1)=some (seqObj "list" #[] 0)->J e1 [] { s with heap:=h' })
    (hJ:∀ e1 ks s',J e1 ks s'->(∃ e,s'.heap.get? (s.heap.objs.size+1)=some (seqObj "list" ks.toArray e))/\s'.heap.get? a=some (seqObj "list" #[] e1))
    (hcall:∀ e1 ks x s',vs[ks.length]?=some x->J e1 ks s'->wpAny (model prog w) A (call f [x]) (λ k s''=>(∃ e,s''.heap.get? (s.heap.objs.size+1)=some (seqObj "list" ks.toArray e))/\J e1 (ks++[k]) { s'' with heap:=s''.heap.update (s.heap.objs.size+1) (Obj.mapSeq (·.push k)) }) (λ _ _=>False) s')
    (hend:∀ e1 ks s',ks.length=vs.length->J e1 ks s'->∃ lt,KeyOrd prog w A ks s' lt/\∀ p:Array Nat,Pm vs.length p->Up' lt p vs.length->P (.done (.ret .none)) { s' with heap:=cNq s'.heap (s.heap.objs.size+1) a (p.toList.map λ i=>vs.getD i Value.none) }) :
    wpAny (model prog w) A (ksk_tree a f false) P E s:=by
  have ha:a < s.heap.objs.size:=Heap.lt_size ho
  obtain ⟨e1,ho1⟩:∃ e1,(s.heap.update a (Obj.mapSeq λ _=>(#[]:Array Value))).get? a=some (seqObj "list" #[] e1):=⟨_,get?_update_seq ho λ _=>#[]⟩
  have hkS:((s.heap.update a (Obj.mapSeq λ _=>(#[]:Array Value))).push (seqObj "tuple" vs.toArray 0)).objs.size=s.heap.objs.size+1:=by rw [size_push',Heap.size_update]
  unfold ksk_tree
  refine wpAny_bind (listItems_at ho rfl ?_)
  refine wpAny_bind (listUpdate_at ho rfl ?_ (by rw [Ye,sizeLine_eq];omega) (Nat.zero_le _))
  refine wpAny_bind (seqEpoch_at ho1 rfl ?_)
  refine wpAny_bind (wpAny_newTuple ?_ (by show vs.length<=_;rw [sizeLine_eq];omega))
  refine wpAny_bind (wpAny_newList ?_ (Nat.zero_le _))
  refine wpAny_holding ?_
  have hk0:(((s.heap.update a (Obj.mapSeq λ _=>(#[]:Array Value))).push (seqObj "tuple" vs.toArray 0)).push (seqObj "list" #[] 0)).get? (s.heap.objs.size+1)=some (seqObj "list" #[] 0):=by
    rw [<- hkS];exact Heap.get?_push_size _ rfl
  have main:=s4q (prog:=prog) (w:=w) (A:=A) (E:=E) (s:={ s with heap:=((s.heap.update a (Obj.mapSeq λ _=>(#[]:Array Value))).push (seqObj "tuple" vs.toArray 0)).push (seqObj "list" #[] 0) }) (kS:=s.heap.objs.size+1) (a:=a) (f:=f) (e1:=e1) (P:=P) (J:=J e1) h2 h64 (Nat.ne_of_gt (Nat.lt_succ_of_lt ha)) (hJ e1) (hcall e1) (hend e1)
    (h0 e1 _ (λ b o nb e=>Heap.get?_push_of_some _ (Heap.get?_push_of_some _ (by rw [Heap.get?_update_ne _ _ _ _ nb];exact e))) (Heap.get?_push_of_some _ (Heap.get?_push_of_some _ ho1)) hk0)
  dsimp only at main ⊢
  rw [hkS]
  exact main
theorem nRq {l q:Addr} {Q:Value->Shared->Prop} {J:Nat->List Value->Shared->Prop} (hl:s.heap.IsList l vs.toArray) (h2:2<=vs.length) (h64:vs.length < 64)
    (h0:∀ e1 h',(∀ b o,s.heap.get? b=some o->h'.get? b=some o)->h'.get? (s.heap.objs.size+1)=some (seqObj "list" #[] e1)->h'.get? (s.heap.objs.size+3)=some (seqObj "list" #[] 0)->J e1 [] { s with heap:=h' })
    (hJ:∀ e1 ks s',J e1 ks s'->(∃ e,s'.heap.get? (s.heap.objs.size+3)=some (seqObj "list" ks.toArray e))/\s'.heap.get? (s.heap.objs.size+1)=some (seqObj "list" #[] e1))
    (hcall:∀ e1 ks x s',vs[ks.length]?=some x->J e1 ks s'->wpAny (model prog w) A.in1.in1 (call (.ref q) [x]) (λ k s''=>(∃ e,s''.heap.get? (s.heap.objs.size+3)=some (seqObj "list" ks.toArray e))/\J e1 (ks++[k]) { s'' with heap:=s''.heap.update (s.heap.objs.size+3) (Obj.mapSeq (·.push k)) }) (λ _ _=>False) s')
    (hend:∀ e1 ks s',ks.length=vs.length->J e1 ks s'->∃ lt,KeyOrd prog w A.in1.in1 ks s' lt/\∀ p:Array Nat,Pm vs.length p->Up' lt p vs.length->Q (.ref (s.heap.objs.size+1)) { s' with heap:=cNq s'.heap (s.heap.objs.size+3) (s.heap.objs.size+1) (p.toList.map λ i=>vs.getD i Value.none) }) :
    wpAny (model prog w) A (call (.builtin "sorted") [.ref l] [(Str.ofString "key", .ref q)]) Q E s:=by
  refine call_function_entry_kw kind_sorted plain_sorted entry_sorted (ksk_s1 _ _) ?_
  unfold Builtin.«sorted»
  refine wpAny_bind (m:=checkCount "sorted" 1 1 _) (wpAny_pure ?_)
  refine wpAny_bind (collect_list hl ?_ (by rw [sizeLine_eq];omega))
  refine wpAny_bind (wpAny_newList ?_ (by rw [sizeLine_eq];omega))
  have hsz:((s.heap.push (seqObj "list" #[] 0)).update s.heap.objs.size (Obj.mapSeq (·++vs.toArray))).objs.size=s.heap.objs.size+1:=by
    rw [Heap.size_update,size_push']
  have hoL:(((s.heap.push (seqObj "list" #[] 0)).update s.heap.objs.size (Obj.mapSeq (·++vs.toArray))).push (seqObj "list" vs.toArray 0)).get? (s.heap.objs.size+1)=some (seqObj "list" vs.toArray 0):=by
    rw [<- hsz];exact Heap.get?_push_size _ rfl
  have hsz2:(((s.heap.push (seqObj "list" #[] 0)).update s.heap.objs.size (Obj.mapSeq (·++vs.toArray))).push (seqObj "list" vs.toArray 0)).objs.size+1=s.heap.objs.size+3:=by rw [size_push',hsz]
  have keep:∀ b o,s.heap.get? b=some o->(((s.heap.push (seqObj "list" #[] 0)).update s.heap.objs.size (Obj.mapSeq (·++vs.toArray))).push (seqObj "list" vs.toArray 0)).get? b=some o:=λ b o q=>by
    have hlt:b < s.heap.objs.size:=Heap.lt_size q
    rw [Heap.get?_push_ne _ _ _ (by rw [hsz];exact Nat.ne_of_lt (Nat.lt_succ_of_lt hlt)),Heap.get?_update_ne _ _ _ _ (Nat.ne_of_lt hlt),Heap.get?_push_ne _ _ _ (Nat.ne_of_lt hlt)]
    exact q
  show wpAny _ _ _ _ _ { s with heap:=((s.heap.push (seqObj "list" #[] 0)).update s.heap.objs.size (Obj.mapSeq (·++vs.toArray))).push (seqObj "list" vs.toArray 0) }
  rw [hsz]
  refine wpAny_bind (wpAny_holding (wpAny_call_entry_kw slot_list_sort ⟨_,hoL,rfl⟩ entry_list_sort ?body (ksk_l1 _ _)))
  case body=>
    show wpAny (model prog w) A.in1.in1 (Builtin.«list.sort» ⟨[.ref (s.heap.objs.size+1)],[(Str.ofString "key", .ref q)]⟩) _ _ _
    rw [ksk_t1]
    refine tFq (J:=J) (s:={ s with heap:=((s.heap.push (seqObj "list" #[] 0)).update s.heap.objs.size (Obj.mapSeq (·++vs.toArray))).push (seqObj "list" vs.toArray 0) }) hoL h2 h64 ?_ ?_ ?_ ?_
    . intro e1 h' hk hD hS
      rw [hsz2] at hS
      exact h0 e1 h' (λ b o e=>hk b o (Nat.ne_of_lt (Nat.lt_succ_of_lt (Heap.lt_size e))) (keep b o e)) hD hS
    . intro e1 ks s' hj
      rw [hsz2];exact hJ e1 ks s' hj
    . intro e1 ks x s' hx hj
      rw [hsz2];exact hcall e1 ks x s' hx hj
    . intro e1 ks s' hlk hj
      obtain ⟨lt,o,fin⟩:=hend e1 ks s' hlk hj
      rw [hsz2]
      exact ⟨lt,o,λ p hp hup=>⟨_,rfl,wpAny_pure ⟨_,rfl,fin p hp hup⟩⟩⟩
end
end L2
namespace L2
open PySem PySem.Spec PySem.W PyProof.Rows
section
variable {X:Cx} {pins:List (Addr × Obj)} {σ:St} {H:Hp} {s:Shared}
theorem Inv.adopt {a:Addr} {o:HO} (I:Inv X pins σ H s) (hn:H a=none) (hL:a≠X.env.locals) (h0:X.s₀.heap.objs.size<=a) (hc:∀ x c,X.env.cells.lookup x=some c->c≠a) (hp:∀ p∈X.pn++pins,p.1≠a)
    (new:ObjOk X.prog X.w (upd H a o) s.heap a o):Inv X pins σ (upd H a o) s where
  ok:=I.ok
  os:=I.os
  bare:=I.bare
  base:=by
    have u:=I.base
    have nn:∀ b v,H b=some v->b≠a:=λ b v e z=>by rw [z,hn] at e;cases e
    refine ⟨u.keep,u.slot,λ b ob q n hx=>?_,u.there,λ b xs q=>?_,λ b ob v q=>?_,λ b ps q=>?_⟩
    . rw [aUq (Nat.ne_of_lt (Nat.lt_of_lt_of_le (Heap.lt_size q) h0))];exact u.free b ob q n hx
    . have e:=u.tups b xs q;rw [aUq (nn b _ e)];exact e
    . have e:=u.frzs b ob v q;rw [aUq (nn b _ e)];exact e
    . obtain ⟨m,e⟩:=u.tbls b ps q;exact ⟨m,by rw [aUq (nn b _ e)];exact e⟩
  loc:=I.loc
  cell:=I.cell
  free:=by rw [aUq hL.symm];exact I.free
  freeC:=λ x c e=>by rw [aUq (hc x c e)];exact I.freeC x c e
  pin:=λ p hp'=>by
    obtain ⟨p1,p2,p3⟩:=I.pin p hp'
    exact ⟨p1,by rw [aUq (hp p hp')];exact p2,p3⟩
  hok:=λ b u e=>by
    by_cases hb:b=a
    . subst hb;rw [bKq] at e;cases e;exact new
    . rw [aUq hb] at e
      exact (I.hok b u e).stay (λ _ _ _ q=>q) (λ c q=>by rw [aUq (b0q q hn)];exact q) λ c xs q=>by rw [aUq (b0q q hn)];exact q
  len:=I.len
theorem Room.in2 {k j:Nat} {A:Around} (r:Room j A) (h:k+1<=j):Room k A.in1.in1:=⟨r.hd,by have:=r.dp;show A.depth+3 * k+5 < _;omega,by have:=r.un;show A.units+1+1+16 * k+200 < _;omega⟩
theorem aL4q {k:Nat} {f:Addr} {fd:FuncData} {ps:List Str} {sp:Sp} {Q:VK} {us:List Value} {vs:List V} (F:FnOk X.prog X.w X.K X.mg X.base CX0 k f fd ps sp) (hr:Room k X.A.in1.in1) (hb:Binds X.K fd ps [])
    (I:Inv X pins σ H s) (r:Vals vs us) (h:sp vs H Q E0):wpAny (model X.prog X.w) X.A.in1.in1 (call (.ref f) us) (EP X pins σ Q) (λ _ _=>False) s:=by
  have hl:us.length=ps.length:=by rw [<- r.length];exact F.len _ _ _ _ h
  have hb':=hb s us I.kIn (by rw [Yt];exact hl)
  rw [Yt] at hb'
  refine wpAny_call (codeAny_mono (F.run X.A.in1.in1 X.stack s H ⟨us,[]⟩ us vs Q E0 hr I.env0.in1.in1 hb' r h) λ r s' hq=>?_)
  cases r with
  | error e=>exact (show False from hq).elim
  | ok fl=>
    cases fl with
    | ret u=>exact I.after hq
    | next=>exact False.elim hq
    | brk=>exact False.elim hq
    | cont=>exact False.elim hq
end
end L2
namespace L3
open PySem PySem.Spec PySem.W PyProof.Rows L2 PySem.SeqAt
section
variable {X:Cx}
def zGq (K:PySem.W.Frag) (H:Hp) (zs:List Addr) (lt:Nat->Nat->Bool) (i j:Nat):Prop:=
  ∃ (a b:Addr) (ds es:List D) (us ws:List V),zs[i]?=some a/\zs[j]?=some b/\SqL K H a us/\SqL K H b ws/\AbsL K H ds us/\AbsL K H es ws/\aWq ds=true/\aWq es=true/\bMq ds<=150/\b7q ds es=some (lt i j)
def rKey (K:PySem.W.Frag) (sp:Sp):V->Hp->VK->Prop:=λ x H Q=>∃ (l:Addr) (xs:List V) (R:List Addr->Hp->Prop) (lt:Nat->Nat->Bool),x=.ref l/\SqL K H l xs/\2<=xs.length/\xs.length < 64/\Swo lt/\R [] H ∧
  (∀ zs v H1,xs[zs.length]?=some v->R zs H1->sp [v] H1 (λ r H2=>∃ z,r=.ref z/\R (zs++[z]) H2) E0) ∧
  (∀ zs H1,zs.length=xs.length->R zs H1->(∀ i j,i < xs.length->j < xs.length->zGq K H1 zs lt i j)/\∀ p:Array Nat,Pm xs.length p->Up' lt p xs.length->∀ a,H1 a=none->Q (.ref a) (upd H1 a (.lst (p.toList.map λ i=>xs.getD i .non))))
theorem t4q {k j:Nat} {q:Addr} {sp:Sp} (G:FnV X.prog X.w X.K X.mg X.base k q sp) (hr:Room j X.A) (hk:k+1<=j) {pins:List (Addr × Obj)} {s:Shared} {σ:L2.St} {H:Hp} {x:V} {u:Value} {Q:VK} (I:Inv X pins σ H s) (rx:RelV x u) (h:rKey X.K sp x H Q) :
    wpAny (model X.prog X.w) X.A (call (.builtin "sorted") [u] [(Str.ofString "key", .ref q)]) (EP X pins σ Q) X.xe s:=by
  obtain ⟨l,xs,R,lt,rfl,hq,h2,h64,O,hR0,hstep,hend⟩:=h
  cases rx
  obtain ⟨fd,ps,F,kp,bd⟩:=G.ex
  obtain ⟨its,rv,pl,_⟩:=I.list hq
  have hlen:=rv.length
  have hnD:H (s.heap.objs.size+1)=none:=I.hok.fresh (Nat.le_succ _)
  have hnK:H (s.heap.objs.size+3)=none:=I.hok.fresh (Nat.le_add_right _ _)
  obtain ⟨_,fD1,fD2,fD3,fD4,fD5⟩:=I.fpOk (b:=s.heap.objs.size+1) (Nat.le_succ _) hnD
  obtain ⟨_,fK1,fK2,fK3,fK4,fK5⟩:=I.fpOk (b:=s.heap.objs.size+3) (Nat.le_add_right _ _) hnK
  have sD:X.s₀.heap.objs.size<=s.heap.objs.size+1:=Nat.le_trans I.sz (Nat.le_succ _)
  have nDK:s.heap.objs.size+1≠s.heap.objs.size+3:=λ e=>absurd (Nat.add_left_cancel e) (by decide)
  have cellL:∀ (is:Array Value) (n:Nat) (v:Option Value),(seqObj "list" is n).data≠.cell v:=λ is n v z=>by cases z
  refine nRq (J:=λ e1 ks s'=>∃ (e:Nat) (H':Hp) (zs:List Addr),Inv X (pins++[(s.heap.objs.size+1,seqObj "list" #[] e1),(s.heap.objs.size+3,seqObj "list" ks.toArray e)]) σ H' s'/\ks=zs.map Value.ref/\R zs H') pl.isList (by omega) (by omega) ?_ ?_ ?_ ?_
  . intro e1 h' keep hD hS
    have I1:Inv X pins σ H { s with heap:=h' }:=I.kept (t':=s.toks) keep
    refine ⟨0,H,[],I1.pins_of λ p hp=>?_,rfl,hR0⟩
    rcases Yq.mp hp with hp | hp
    . exact I1.pin p (Yk _ hp)
    . simp only [Yd,Yn,or_false] at hp
      rcases hp with rfl | rfl
      . exact ⟨hD,hnD,fD1,fD2,cellL _ _⟩
      . exact ⟨hS,hnK,fK1,fK2,cellL _ _⟩
  . rintro e1 ks s' ⟨e,H',zs,I1,rfl,hR⟩
    exact ⟨⟨e,(I1.pin _ (Yk _ (Yk _ (.tail _ (.head _))))).1⟩,(I1.pin _ (Yk _ (Yk _ (.head _)))).1⟩
  . rintro e1 ks y s' hy ⟨e,H',zs,I1,rfl,hR⟩
    rw [Yf] at hy
    have hzl:zs.length < xs.length:=by rw [hlen];exact (Yu.mp hy).1
    obtain ⟨u',hu',ru'⟩:=rv.get (Yi hzl)
    rw [hu'] at hy;cases hy
    refine thn (aL4q F (Room.in2 hr hk) bd I1 (.cons ru' .nil) (hstep zs _ H' (Yi hzl) hR)) ?_
    rintro kv s'' ⟨v',H2,I2,rv',z,rfl,hR2⟩
    cases rv'
    have pk:=I2.pin _ (Yk _ (Yk _ (.tail _ (.head _))))
    have pD:=I2.pin _ (Yk _ (Yk _ (.head _)))
    refine ⟨⟨e,pk.1⟩,?_⟩
    have ea:((zs.map Value.ref).toArray).push (.ref z)=((zs++[z]).map Value.ref).toArray:=by simp
    obtain ⟨c2,hc2⟩:∃ c2,(s''.heap.update (s.heap.objs.size+3) (Obj.mapSeq (·.push (.ref z)))).get? (s.heap.objs.size+3)=some (seqObj "list" (((zs++[z]).map Value.ref).toArray) c2):=⟨_,by rw [<- ea];exact get?_update_seq pk.1 (·.push (.ref z))⟩
    have I3:Inv X pins σ H2 s'':=I2.unpinned
    have I4:Inv X pins σ H2 { s'' with heap:=s''.heap.update (s.heap.objs.size+3) (Obj.mapSeq (·.push (.ref z))) }:=I3.turned (t':=s''.toks) (it:=s.heap.objs.size+3) (λ b o nb eb=>by rw [Heap.get?_update_ne _ _ _ _ nb];exact eb) pk.2.1 fK1 fK3 fK4 fK5
    refine ⟨c2,H2,zs++[z],I4.pins_of λ p hp=>?_,by simp,hR2⟩
    rcases Yq.mp hp with hp | hp
    . exact I4.pin p (Yk _ hp)
    . simp only [Yd,Yn,or_false] at hp
      rcases hp with rfl | rfl
      . exact ⟨by show (s''.heap.update _ _).get? _=_;rw [Heap.get?_update_ne _ _ _ _ nDK];exact pD.1,pD.2⟩
      . exact ⟨by simpa using hc2,pk.2.1,fK1,fK2,cellL _ _⟩
  . rintro e1 ks s' hl ⟨e,H',zs,I1,rfl,hR⟩
    rw [Yf] at hl
    obtain ⟨cmp,fin⟩:=hend zs H' (by omega) hR
    have pk:=I1.pin _ (Yk _ (Yk _ (.tail _ (.head _))))
    have pD:=I1.pin _ (Yk _ (Yk _ (.head _)))
    refine ⟨lt,⟨⟨oneType',λ E' Q' hQ=>?_,λ i j C hi hj hC=>?_⟩,O⟩,λ p hp hup=>?_⟩
    . refine kas_kind (T:=.type "list") (by rw [Yf];omega) (λ v hv=>?_) (by decide) (by decide) hQ
      obtain ⟨z,hz,rfl⟩:=Yl.mp hv
      obtain ⟨i,hi,rfl⟩:=List.getElem_of_mem hz
      obtain ⟨a,b,ds,es,us,ws,g1,g2,sq,_⟩:=cmp i i (by omega) (by omega)
      rw [Yi hi] at g1;cases g1
      obtain ⟨its',_,pl',_⟩:=I1.list sq
      obtain ⟨o,ho,hc,_⟩:=pl'.isList
      exact λ A Q E s' k q=>wpAny_typeOf (T:="list") ⟨o,k _ _ ho,hc⟩ q
    . rw [Yf] at hi hj
      obtain ⟨a,b,ds,es,us,ws,g1,g2,sq1,sq2,a1,a2,d1,d2,dd,hlt⟩:=cmp i j (by omega) (by omega)
      unfold kas_ask
      rw [dFq g1,dFq g2]
      exact mVq I1 sq1 sq2 a1 a2 d1 d2 (by have:=hr.un;show X.A.units+1+1+1+bMq ds < cLine;omega) hlt hC
    . have hm:∀ i∈p.toList,i < its.length:=λ i hi=>YE.mp (hp.mem_iff.mp hi)
      have zl:=hp.length_eq
      rw [Zb] at zl
      have r1:=dXq rv p.toList (λ i hi=>by have:=hm i hi;omega)
      have I3:Inv X pins σ H' s':=I1.unpinned
      have I4:Inv X pins σ H' { s' with heap:=s'.heap.update (s.heap.objs.size+3) (Obj.mapSeq λ _=>(#[]:Array Value)) }:=I3.turned (t':=s'.toks) (it:=s.heap.objs.size+3) (λ b o nb eb=>by rw [Heap.get?_update_ne _ _ _ _ nb];exact eb) pk.2.1 fK1 fK3 fK4 fK5
      have hD1:(s'.heap.update (s.heap.objs.size+3) (Obj.mapSeq λ _=>(#[]:Array Value))).get? (s.heap.objs.size+1)=some (seqObj "list" #[] e1):=by rw [Heap.get?_update_ne _ _ _ _ nDK];exact pD.1
      have I5:Inv X pins σ H' { s' with heap:=cNq s'.heap (s.heap.objs.size+3) (s.heap.objs.size+1) (p.toList.map λ i=>its.getD i Value.none) }:=by
        have z:=I4.turned (h':=cNq s'.heap (s.heap.objs.size+3) (s.heap.objs.size+1) (p.toList.map λ i=>its.getD i Value.none)) (t':=s'.toks) (it:=s.heap.objs.size+1) (λ b o nb eb=>by show ((s'.heap.update _ _).update _ _).get? b=_;rw [Heap.get?_update_ne _ _ _ _ nb];exact eb) pD.2.1 fD1 fD3 fD4 fD5
        exact z
      obtain ⟨c2,hc2⟩:∃ c2,(cNq s'.heap (s.heap.objs.size+3) (s.heap.objs.size+1) (p.toList.map λ i=>its.getD i Value.none)).get? (s.heap.objs.size+1)=some (seqObj "list" (p.toList.map λ i=>its.getD i Value.none).toArray c2):=⟨_,get?_update_seq hD1 λ _=>(p.toList.map λ i=>its.getD i Value.none).toArray⟩
      have sl:=sizeLine_eq
      have I6:=I5.adopt (a:=s.heap.objs.size+1) (o:=.lst (p.toList.map λ i=>xs.getD i .non)) pD.2.1 fD1 sD fD4 fD5 ⟨by rw [Yf];omega,_,c2,r1,hc2⟩
      exact ⟨.ref _,_,I6,rfl,fin p (by rw [hlen];exact hp) (by rw [hlen];exact hup) _ pD.2.1⟩
end
end L3
namespace L3
open PySem PySem.Spec PyProof.Rows L2
theorem AbsL.picks {K:PySem.W.Frag} {H:Hp} {ds:List D} {vs:List V} (h:AbsL K H ds vs):∀ (p:List Nat),(∀ i∈p,i < ds.length)->AbsL K H (p.map λ i=>ds.getD i .non) (p.map λ i=>vs.getD i .non)
  | [],_=>rfl
  | i::p,hp=>by
    have hi:=hp i (Ya ..)
    obtain ⟨v,hv,a⟩:=h.get (Yi hi)
    refine ⟨v,_,?_,?_,AbsL.picks h p λ j hj=>hp j (Yc _ hj)⟩
    . rw [Yh,Yr,hv];rfl
    . show Abs K H (ds.getD i .non) v
      rw [Yr,Yi hi];exact a
def aC1q (P:D->Prop) (key:D->List D):DSp:=λ ds G Q=>∃ d:D,ds=[d]/\P d/\∀ l,G l=none->Q (.ref l) (up G l (.lst (key d)))
structure KeyLt (key:D->List D) (ds:List D) (lt:Nat->Nat->Bool):Prop where
  swo:Swo lt
  cmp:∀ i j d e,ds[i]?=some d->ds[j]?=some e->aWq (key d)=true/\bMq (key d)<=150/\b7q (key d) (key e)=some (lt i j)
@[irreducible] def keyD (P:D->Prop) (key:D->List D):D->DV->DK->Prop:=λ x G Q=>match x with
  | .ref l=>onL G l λ ds=>2<=ds.length/\ds.length < 64/\(∀ d∈ds,P d)/\∃ lt,KeyLt key ds lt/\∀ p:Array Nat,Pm ds.length p->Up' lt p ds.length->∀ a,G a=none->Q (.ref a) (up G a (.lst (p.toList.map λ i=>ds.getD i .non)))
  | _=>False
section
variable {X:Cx}
theorem aF2q {k j:Nat} {q:Addr} {sp:Sp} {xk:Str} {e:Expr} {t:TA} {p p2 p3 pos:Pos} (G:FnV X.prog X.w X.K X.mg X.base k q sp) (hr:Room j X.A) (hk:k+1<=j) (hg:Gl X "sorted") (hm:X.mg "sorted" = none) (hgk:Gl X xk) (hmk:X.mg xk=some (.ref q)) (ha:PA X [e] t) (hs:bAq e=true) (hd:(xk==("__debug__" : Str))=false) :
    PE X (.Call (.Name "sorted" p) [e] [⟨some "key", .Name xk p2,p3⟩] pos) (λ σ H Q=>t σ H λ vs H1=>∃ x,vs=[x]/\rKey X.K sp x H1 Q):=by
  intro pins s σ H Q I h
  refine wpAny_Call_Name_kw (e3q I hg hm PyProof.Rows.boot_sorted ?_)
  refine callWith_kw (thn (ha pos pins s σ H _ I h) λ us s1 ⟨vs,H1,I1,r1,x,ev,q1⟩=>kws_cons (kYq I1 hgk hmk (kws_nil ?_) hd)) ?_ (bYq (by rw [YB,hs];rfl)) rfl rfl
  . subst ev
    obtain ⟨u,rfl,rx⟩:=gQq r1
    exact t4q G hr hk I1 rx q1
  . rw [aMq hs];rfl
abbrev dKey (P:D->Prop) (key:D->List D) (t:DTA):DTE:=λ ρ G Q=>t ρ G λ ds G1=>match ds with
  | [x]=>keyD P key x G1 Q
  | _=>False
theorem aE5q {k j:Nat} {q:Addr} {P:D->Prop} {key:D->List D} {xk:Str} {e:Expr} {t:DTA} {p p2 p3 pos:Pos} (Gk:FnV X.prog X.w X.K X.mg X.base k q (aRq X.K (aC1q P key))) (hr:Room j X.A) (hk:k+1<=j) (hg:Gl X "sorted") (hm:X.mg "sorted" = none) (hgk:Gl X xk) (hmk:X.mg xk=some (.ref q)) (ha:AA X [e] t)
    (hs:bAq e=true:=by rfl) (hd:(xk==("__debug__" : Str))=false:=by decide):AE X (.Call (.Name "sorted" p) [e] [⟨some "key", .Name xk p2,p3⟩] pos) (dKey P key t):=by
  obtain ⟨ca,ja,ra⟩:=ha.run
  refine ⟨_,⟨aF2q Gk hr hk hg hm hgk hmk ja.run hs hd⟩,λ ρ G DQ σ H Q B q0 F=>ra ρ G _ σ H _ B q0 λ ds0 G1 vs0 H0 g1 al _ q1=>?_⟩
  split at q1
  . next x=>
    obtain ⟨v,r,rfl,ax,e0⟩:=al
    cases (show r=[] from e0)
    refine ⟨v,rfl,?_⟩
    unfold keyD at q1
    split at q1
    . next l=>
      cases ax
      obtain ⟨ds,xs,⟨h2,h64,hP,lt,KL,fin⟩,sq,rl⟩:=bHq g1.vw q1
      have hl:=rl.len
      refine ⟨l,xs,λ zs H1=>∃ G2,Go X.K G1 H0 G2 H1/\Sub G1 G2/\∀ i a d,zs[i]?=some a->ds[i]?=some d->G2 a=some (.lst (key d)),lt,rfl,sq,by omega,by omega,KL.swo,⟨G1,.refl g1.vw,.refl _,λ i a d hia _=>absurd hia (by rw [List.getElem?_nil];exact nofun)⟩,?_,?_⟩
      . rintro zs v H1 hx ⟨G2,g,hS,hz⟩
        have hi:zs.length < ds.length:=by have:=(Yu.mp hx).1;omega
        have hdi:=Yi hi
        obtain ⟨v',hv',av⟩:=rl.get hdi
        rw [hx] at hv';cases hv'
        refine ⟨[ds[zs.length]],G2,λ d' G3=>∃ z,d'=.ref z/\G2 z=none/\G3=up G2 z (.lst (key ds[zs.length])),⟨v,[],rfl,av.mono g.tup,rfl⟩,g.vw,⟨_,rfl,hP _ (Yx hi),λ l hl=>⟨l,rfl,hl,rfl⟩⟩,?_⟩
        rintro d' G3 v3 H3 g3 a3 ⟨z,rfl,hz0,rfl⟩
        cases a3
        refine ⟨z,rfl,_,g.trans g3,Sub.ext' hS hz0,λ i a d hia hid=>?_⟩
        by_cases hiz:i < zs.length
        . rw [YT hiz] at hia
          have e:=hz i a d hia hid
          rw [aQq (by rintro rfl;rw [hz0] at e;cases e)];exact e
        . have hi2:i=zs.length:=by
            have:=(Yu.mp hia).1
            rw [Yg,YV] at this;omega
          subst hi2
          rw [Y2 (Nat.le_refl _),Nat.sub_self] at hia
          cases hia
          rw [hdi] at hid;cases hid
          exact a5q
      . rintro zs H1 hzl ⟨G2,g,hS,hz⟩
        refine ⟨λ i j hi hj=>?_,λ p hp hup a ha=>?_⟩
        . have hi1:i < zs.length:=by omega
          have hj1:j < zs.length:=by omega
          have hi2:i < ds.length:=by omega
          have hj2:j < ds.length:=by omega
          obtain ⟨k1,k2,k3⟩:=KL.cmp i j _ _ (Yi hi2) (Yi hj2)
          obtain ⟨k4,_,_⟩:=KL.cmp j i _ _ (Yi hj2) (Yi hi2)
          obtain ⟨us,e1,r1⟩:=g.vw _ _ (hz i _ _ (Yi hi1) (Yi hi2))
          obtain ⟨ws,e2,r2⟩:=g.vw _ _ (hz j _ _ (Yi hj1) (Yi hj2))
          exact ⟨_,_,_,_,us,ws,Yi hi1,Yi hj1,.inl (.inl e1),.inl (.inl e2),r1,r2,k1,k4,k2,k3⟩
        . have hm:∀ i∈p.toList,i < ds.length:=λ i hi=>by have:=YE.mp (hp.mem_iff.mp hi);omega
          have nw:=Go.newL (p:=a) g.vw ha ((rl.mono g.tup).picks p.toList hm)
          have n1:G1 a=none:=hS.none (g.vw.none ha)
          exact F (.ref a) _ _ _ (((g1.trans g).trans nw).sub (Sub.put hS)) rfl (fin p (by rw [<- hl];exact hp) (by rw [<- hl];exact hup) a n1)
    . exact q1.elim
  . exact q1.elim
end
def Hdd (x:D):Prop:=∃ z r,x=.tup (.str z::r)
inductive Cp:D->D->Prop
  | int (n m:Int):Cp (.int n) (.int m)
  | str (z y:Str):Cp (.str z) (.str y)
  | diff {z z':Str} {xs ys:List D}:z≠z'->Cp (.tup (.str z::xs)) (.tup (.str z'::ys))
  | same {z:Str} {ps:List (D × D)}:(∀ p∈ps,Cp p.1 p.2)->Cp (.tup (.str z::ps.map (·.1))) (.tup (.str z::ps.map (·.2)))
  | bag {xs ys:List D}:(∀ x∈xs,∀ y∈ys,Cp x y)->(∀ x∈xs,Hdd x)->(∀ y∈ys,Hdd y)->Cp (.tup xs) (.tup ys)
theorem iBq {ds:List D} (h:∀ d∈ds,Hdd d):flD (.tup ds)=flI ds:=by
  rw [flD]
  cases ds with
  | nil=>rw [flT,flI]
  | cons d ds=>
    rw [flT,flI]
    obtain ⟨z,r,e⟩:=h d (Ya ..)
    rw [e];rfl
theorem j7q:∀ {ps:List (D × D)},(∀ p∈ps,Cl p.1 p.2)->ClC (ps.map (·.1)) (ps.map (·.2))
  | [],_=>.nil
  | p::ps,h=>.cons (h p (Ya ..)) (j7q λ q hq=>h q (Yc _ hq))
theorem Cp.cl {a b:D} (h:Cp a b):Cl a b:=by
  induction h with
  | int n m=>exact .one rfl rfl
  | str z y=>exact .one rfl rfl
  | diff hne=>exact Cl.tup λ e=>absurd e hne
  | same _ ih=>exact Cl.tup λ _=>j7q ih
  | bag _ hx hy ih=>
    intro r r'
    rw [iBq hx,iBq hy,oEq ih,eqD,ltD]
theorem pRq {a b:D} (h:Cp a b):(ltD a b).isSome=true:=by
  induction h with
  | int n m=>rfl
  | str z y=>rfl
  | @diff z z' xs ys hne=>
    rw [ltD,b7q,if_neg (by rw [eqD];simpa using hne)];rfl
  | @same z ps hc ih=>
    rw [ltD,b7q,if_pos (by rw [eqD];simp)]
    clear hc
    induction ps with
    | nil=>rfl
    | cons p ps ih2=>
      rw [Yh,Yh,b7q]
      split
      . exact ih2 λ q hq=>ih q (Yc _ hq)
      . exact ih p (Ya ..)
  | @bag xs ys hc hx hy ih=>
    rw [ltD]
    clear hc hx hy
    induction xs generalizing ys with
    | nil=>cases ys<;>rfl
    | cons x xs ih2=>
      cases ys with
      | nil=>rfl
      | cons y ys=>
        rw [b7q]
        split
        . exact ih2 λ a ha b hb=>ih a (Yc _ ha) b (Yc _ hb)
        . exact ih x (Ya ..) y (Ya ..)
theorem vNq {a b:D} (h:Cp a b):eqD a b=true->a=b:=by
  induction h with
  | int n m=>intro e;rw [eqD] at e;rw [eq_of_beq e]
  | str z y=>intro e;rw [eqD] at e;rw [eq_of_beq e]
  | diff hne=>intro e;rw [eqD,cRq,Bool.and_eq_true,eqD] at e;exact absurd (eq_of_beq e.1) hne
  | @same z ps hc ih=>
    intro e
    rw [eqD,cRq,Bool.and_eq_true] at e
    have e2:=e.2
    have:ps.map (·.1)=ps.map (·.2):=by
      clear e hc
      induction ps with
      | nil=>rfl
      | cons p ps ih2=>
        rw [Yh,Yh,cRq,Bool.and_eq_true] at e2
        rw [Yh,Yh,ih p (Ya ..) e2.1,ih2 (λ q hq=>ih q (Yc _ hq)) e2.2]
    rw [this]
  | @bag xs ys hc hx hy ih=>
    intro e
    rw [eqD] at e
    have:xs=ys:=by
      clear hc hx hy
      induction xs generalizing ys with
      | nil=>cases ys with
        | nil=>rfl
        | cons _ _=>cases e
      | cons x xs ih2=>
        cases ys with
        | nil=>cases e
        | cons y ys=>
          rw [cRq,Bool.and_eq_true] at e
          rw [ih x (Ya ..) y (Ya ..) e.1,ih2 (λ a ha b hb=>ih a (Yc _ ha) b (Yc _ hb)) e.2]
    rw [this]
theorem vJq {a b:D} (h:Cp a b):Cp b a:=by
  induction h with
  | int n m=>exact .int m n
  | str z y=>exact .str y z
  | diff hne=>exact .diff (Ne.symm hne)
  | @same z ps _ ih=>
    have:=Cp.same (z:=z) (ps:=ps.map λ p=>(p.2,p.1)) λ q hq=>by obtain ⟨p,hp,rfl⟩:=Yl.mp hq;exact ih p hp
    rw [Yy,Yy] at this
    exact this
  | bag _ hx hy ih=>exact .bag (λ y hy' x hx'=>ih x hx' y hy') hy hx
theorem e4q:∀ {ds:List D} {d:D},aWq ds=true->d∈ds->d.data=true
  | [],_,_,h=>by simp at h
  | e::ds,d,h,hd=>by
    rw [aWq,Bool.and_eq_true] at h
    rcases Yd.mp hd with rfl | hd
    . exact h.1
    . exact e4q h.2 hd
theorem uSq {a b:D} (h:Cp a b) (da:a.data=true) (t:a=b\/ltD a b=some true\/ltD b a=some true):Std a b:=⟨vNq h,λ e=>(vNq (vJq h) e).symm,bWq da,t⟩
theorem aI5q {a b:D} (h:Cp a b):a.data=true->b.data=true->a=b\/ltD a b=some true\/ltD b a=some true:=by
  induction h with
  | int n m=>
    intro _ _
    rcases Int.lt_trichotomy n m with c | c | c
    . exact .inr (.inl (by rw [ltD,decide_eq_true c]))
    . exact .inl (by rw [c])
    . exact .inr (.inr (by rw [ltD,decide_eq_true c]))
  | str z y=>intro _ _;exact (bVq z y).tri
  | diff hne=>intro _ _;exact cAq (b6q (bVq _ _) λ e=>absurd (D.str.inj e) hne)
  | @same z ps hc ih=>
    intro da db
    refine cAq (b6q (bVq _ _) λ _=>?_)
    have d1:∀ p∈ps,p.1.data=true:=λ p hp=>e4q (by rw [D.data] at da;exact da) (Yc _ (YD (f:=(·.1)) hp))
    have d2:∀ p∈ps,p.2.data=true:=λ p hp=>e4q (by rw [D.data] at db;exact db) (Yc _ (YD (f:=(·.2)) hp))
    clear da db
    induction ps with
    | nil=>exact .inl rfl
    | cons p ps ih2=>
      have hp:p∈p::ps:=Ya ..
      exact b6q (uSq (hc p hp) (d1 p hp) (ih p hp (d1 p hp) (d2 p hp))) λ _=>ih2 (λ q hq=>hc q (Yc _ hq)) (λ q hq=>ih q (Yc _ hq)) (λ q hq=>d1 q (Yc _ hq)) λ q hq=>d2 q (Yc _ hq)
  | @bag xs ys hc hx hy ih=>
    intro da db
    refine cAq ?_
    rw [D.data] at da db
    clear hx hy
    induction xs generalizing ys with
    | nil=>
      cases ys with
      | nil=>exact .inl rfl
      | cons y ys=>exact .inr (.inl (by rw [b7q];simp))
    | cons x xs ih2=>
      cases ys with
      | nil=>exact .inr (.inr (by rw [b7q];simp))
      | cons y ys=>
        have mx:x∈x::xs:=Ya ..
        have my:y∈y::ys:=Ya ..
        have dx:=e4q da mx
        have dy:=e4q db my
        refine b6q (uSq (hc x mx y my) dx (ih x mx y my dx dy)) λ _=>ih2 (λ a ha b hb=>hc a (Yc _ ha) b (Yc _ hb)) (λ a ha b hb=>ih a (Yc _ ha) b (Yc _ hb)) ?_ ?_
        . rw [aWq,Bool.and_eq_true] at da;exact da.2
        . rw [aWq,Bool.and_eq_true] at db;exact db.2
theorem aU0q {a b:D} (h:Cp a b) (da:a.data=true):b7q (flD a) (flD b)=ltD a b:=by
  have z:=h.cl [] []
  rw [Yt,Yt] at z
  rw [z]
  cases c:eqD a b with
  | false=>rfl
  | true=>
    have e:=vNq h c
    subst e
    rw [if_pos rfl,show b7q [] []=some false from rfl]
    clear z
    cases a with
    | tup ds=>rw [ltD];exact (cLq (by rw [D.data] at da;exact da)).symm
    | int n=>simp [ltD]
    | str n=>simp [ltD]
    | _=>cases h
theorem w8q {x y z:D} (hx:IS x) (hy:IS y) (hz:IS z) (h1:ltD x y=some true) (h2:ltD y z=some true):ltD x z=some true:=by
  rcases hx with ⟨a,rfl⟩ | ⟨a,rfl⟩
  . rcases hy with ⟨b,rfl⟩ | ⟨b,rfl⟩
    . rcases hz with ⟨c,rfl⟩ | ⟨c,rfl⟩
      . rw [ltD] at *
        simp at *
        omega
      . simp [ltD] at h2
    . simp [ltD] at h1
  . rcases hy with ⟨b,rfl⟩ | ⟨b,rfl⟩
    . simp [ltD] at h1
    . rcases hz with ⟨c,rfl⟩ | ⟨c,rfl⟩
      . simp [ltD] at h2
      . exact qPq h1 h2
theorem aE4q {x:D} (hx:IS x):ltD x x≠some true:=by
  rcases hx with ⟨a,rfl⟩ | ⟨a,rfl⟩
  . simp [ltD]
  . exact qGq a
theorem uUq:∀ {xs ys zs:List D},(∀ d∈xs,IS d)->(∀ d∈ys,IS d)->(∀ d∈zs,IS d)->b7q xs ys=some true->b7q ys zs=some true->b7q xs zs=some true
  | [],ys,zs,_,_,_,_,h=>by
    rw [b7q]
    cases zs with
    | nil=>
      cases ys with
      | nil=>rw [b7q] at h;exact h
      | cons _ _=>rw [b7q] at h;cases h
    | cons _ _=>simp
  | d::ds,[],zs,_,_,_,h,_=>by rw [b7q] at h;cases h
  | d::ds,e::es,[],_,_,_,_,h=>by rw [b7q] at h;cases h
  | d::ds,e::es,f::fs,h1,h2,h3,a1,a2=>by
    have i1:=h1 d (Ya ..)
    have i2:=h2 e (Ya ..)
    have i3:=h3 f (Ya ..)
    exact bXq (i1.eq i2) (i2.eq i3) (i1.eq i3) (aE4q i1) (w8q i1 i2 i3) (λ _ _=>uUq (λ x hx=>h1 x (Yc _ hx)) (λ x hx=>h2 x (Yc _ hx)) λ x hx=>h3 x (Yc _ hx)) a1 a2
structure Ord3 (S:D->Prop):Prop where
  data:∀ {a:D},S a->a.data=true
  cp:∀ {a b:D},S a->S b->Cp a b
  is:∀ {a:D},S a->∀ x∈flD a,IS x
section
variable {S:D->Prop} (o:Ord3 S) {a b c:D}
include o
theorem Ord3.fl (ha:S a) (hb:S b):b7q (flD a) (flD b)=ltD a b:=aU0q (o.cp ha hb) (o.data ha)
theorem Ord3.lt (ha:S a) (hb:S b):(ltD a b).isSome=true:=pRq (o.cp ha hb)
theorem Ord3.irr (ha:S a):ltD a a=some false:=by rw [<- o.fl ha ha];exact cLq (bQq (o.data ha))
theorem Ord3.tri (ha:S a) (hb:S b):a=b\/ltD a b=some true\/ltD b a=some true:=aI5q (o.cp ha hb) (o.data ha) (o.data hb)
theorem Ord3.tra (ha:S a) (hb:S b) (hc:S c) (h1:ltD a b=some true) (h2:ltD b c=some true):ltD a c=some true:=by
  rw [<- o.fl ha hb] at h1
  rw [<- o.fl hb hc] at h2
  rw [<- o.fl ha hc]
  exact uUq (o.is ha) (o.is hb) (o.is hc) h1 h2
end
theorem yWq {S:D->Prop} (o:Ord3 S) {ds:List D} (h:∀ d∈ds,S d) (hn:0 < ds.length):Swo λ i j=>(ltD (ds.getD (min i (ds.length - 1)) .non) (ds.getD (min j (ds.length - 1)) .non)).getD false:=by
  have k:∀ i,S (ds.getD (min i (ds.length - 1)) .non):=λ i=>by
    have hi:min i (ds.length - 1) < ds.length:=by omega
    rw [Yr,Yi hi]
    exact h _ (Yx hi)
  have asy:∀ {a b:D},S a->S b->ltD a b=some true->ltD b a≠some true:=λ ka kb h1 h2=>by
    have:=o.tra ka kb ka h1 h2
    rw [o.irr ka] at this;cases this
  have val:∀ {a b:D},S a->S b->((ltD a b).getD false=false ↔ a=b\/ltD b a=some true):=λ{a b} ka kb=>by
    obtain ⟨v,hv⟩:=Option.isSome_iff_exists.mp (o.lt ka kb)
    rw [hv]
    constructor
    . intro e
      have e':v=false:=e
      subst e'
      rcases o.tri ka kb with h1 | h1 | h1
      . exact .inl h1
      . rw [hv] at h1;cases h1
      . exact .inr h1
    . rintro (rfl | h1)
      . rw [o.irr ka] at hv;cases hv;rfl
      . cases v with
        | false=>rfl
        | true=>exact absurd h1 (asy ka kb hv)
  refine ⟨λ i=>?_,λ i j l h1 h2=>?_,λ i j h1=>?_⟩
  . exact (val (k i) (k i)).mpr (.inl rfl)
  . rw [val (k _) (k _)] at h1 h2 ⊢
    rcases h1 with h1 | h1
    . rw [h1];exact h2
    . rcases h2 with h2 | h2
      . rw [<- h2];exact .inr h1
      . exact .inr (o.tra (k l) (k j) (k i) h2 h1)
  . rw [val (k _) (k _)]
    obtain ⟨v,hv⟩:=Option.isSome_iff_exists.mp (o.lt (k i) (k j))
    rw [hv] at h1
    have e:v=true:=h1
    subst e
    exact .inr hv
theorem aE2q {S:D->Prop} (o:Ord3 S) {ds:List D} (hk:∀ d∈ds,S d) {p:Array Nat} (h:Pm ds.length p) (up:Up' (ltI ds) p ds.length):Srt (p.toList.map λ i=>ds.getD i .non):=by
  have hsz:=eQq h
  have kk:∀ i,i < ds.length->S (ds.getD i .non):=λ i hi=>by
    rw [Yr,Yi hi]
    exact hk _ (Yx hi)
  unfold Srt
  rw [List.pairwise_iff_getElem]
  intro i j hi hj hij
  rw [Yf,Array.length_toList] at hi hj
  have z:=up i j hij (by omega)
  have gi:gt p i=p.toList[i]'(by simpa using hi):=by simp [gt,Array.getD,hi]
  have gj:gt p j=p.toList[j]'(by simpa using hj):=by simp [gt,Array.getD,hj]
  have hn:0 < ds.length:=by omega
  have li:gt p i < ds.length:=bZq h hn i
  have lj:gt p j < ds.length:=bZq h hn j
  simp only [ltI] at z
  rw [show min (gt p j) (ds.length - 1)=gt p j from Nat.min_eq_left (Nat.le_sub_one_of_lt lj),show min (gt p i) (ds.length - 1)=gt p i from Nat.min_eq_left (Nat.le_sub_one_of_lt li)] at z
  rw [Y0,Y0,<- gi,<- gj]
  obtain ⟨v,hv⟩:=Option.isSome_iff_exists.mp (o.lt (kk _ lj) (kk _ li))
  rw [hv] at z ⊢
  have e:v=false:=z
  rw [e]
theorem vDq {S:D->Prop} (o:Ord3 S) {ds:List D} (hk:∀ d∈ds,S d) (h0:0 < ds.length):KeyLt flD ds (ltI ds) where
  swo:=yWq o hk h0
  cmp:=λ i j d e hi hj=>by
    have kd:=hk d (YL hi)
    have ke:=hk e (YL hj)
    have hi':=(Yu.mp hi).1
    have hj':=(Yu.mp hj).1
    obtain ⟨b,hb⟩:=Option.isSome_iff_exists.mp (o.lt kd ke)
    refine ⟨bQq (o.data kd),by rw [IS.dp (o.is kd)];exact Nat.zero_le _,?_⟩
    rw [o.fl kd ke,hb]
    show some b=some ((ltD (ds.getD (min i (ds.length - 1)) .non) (ds.getD (min j (ds.length - 1)) .non)).getD false)
    rw [show min i (ds.length - 1)=i by omega,show min j (ds.length - 1)=j by omega,Yr,Yr,hi,hj]
    show some b=some ((ltD d e).getD false)
    rw [hb];rfl
theorem wBq {ds:List D} {p:Array Nat} (hp:Pm ds.length p):ds.Perm (p.toList.map λ i=>ds.getD i .non):=by
  have e:(Ys ds.length).map (λ i=>ds.getD i D.non)=ds:=by
    apply Y6
    . simp
    . intro i h1 h2;simp [Yr,Yi h2]
  have:=hp.map (λ i=>ds.getD i D.non)
  rw [e] at this
  exact this.symm
theorem xVq {S P:D->Prop} (o:Ord3 S) {G:DV} {Q:DK} {l:Addr} {ds:List D} (hl:G l=some (.lst ds)) (h2:2<=ds.length) (h64:ds.length < 64) (hk:∀ d∈ds,S d/\P d) (q:∀ ds',ds.Perm ds'->Srt ds'->∀ a,G a=none->Q (.ref a) (up G a (.lst ds'))):keyD P flD (.ref l) G Q:=by
  unfold keyD
  exact a6q hl ⟨h2,h64,λ d hd=>(hk d hd).2,ltI ds,vDq o (λ d hd=>(hk d hd).1) (by omega),λ _ hp hup a ha=>q _ (wBq hp) (aE2q o (λ d hd=>(hk d hd).1) hp hup) a ha⟩
theorem uAq {S:D->Prop} (o:Ord3 S):∀ {xs ys:List D},(∀ d∈xs,S d)->xs.Perm ys->Srt xs->Srt ys->xs=ys
  | [],ys,_,hp,_,_=>(Zh.mp hp.symm).symm
  | x::xs,[],_,hp,_,_=>absurd (Zh.mp hp) (by simp)
  | x::xs,y::ys,hk,hp,h1,h2=>by
    have kx:=hk x (Ya ..)
    have ky:S y:=hk y (hp.mem_iff.mpr (Ya ..))
    have e:x=y:=by
      have m1:x∈y::ys:=hp.mem_iff.mp (Ya ..)
      have m2:y∈x::xs:=hp.mem_iff.mpr (Ya ..)
      rcases Yd.mp m1 with h | h
      . exact h
      . rcases Yd.mp m2 with g | g
        . exact g.symm
        . have a1:=(Y7.mp h2).1 x h
          have a2:=(Y7.mp h1).1 y g
          rcases o.tri kx ky with t | t | t
          . exact t
          . rw [t] at a1;cases a1
          . rw [t] at a2;cases a2
    subst e
    rw [uAq o (λ d hd=>hk d (Yc _ hd)) (List.Perm.cons_inv hp) (YN.of_cons h1) (YN.of_cons h2)]
end L3
namespace L3
open PySem PySem.Spec PySem.W PyProof.Rows L2
theorem r4q {S:D->Prop} (o:Ord3 S) (hd0:∀ {d:D},S d->Hdd d) {d:D} (h:S d) (hd:d.dp<=150):SKey d:=by
  obtain ⟨z,r,rfl⟩:=hd0 h
  have dd:=o.data h
  rw [D.data,aWq,Bool.and_eq_true] at dd
  rw [D.dp,bMq] at hd
  exact ⟨z,r,rfl,dd.2,by omega⟩
def aV3q (S:D->Prop) (K:PySem.W.Frag):List V->Hp->VK->Prop:=λ xs H Q=>∃ (l:Addr) (vs:List V) (ds:List D),xs=[.ref l]/\SqL K H l vs/\AbsL K H ds vs/\ds.length < 64/\(∀ d∈ds,S d/\d.dp<=150) ∧
  ∀ (ds':List D) (vs':List V),ds.Perm ds'->Srt ds'->AbsL K H ds' vs'->∀ p,H p=none->Q (.ref p) (upd H p (.lst vs'))
section
variable {X:Cx}
theorem q0q {S:D->Prop} (o:Ord3 S) (hd0:∀ {d:D},S d->Hdd d) (hu:X.A.units+200 < cLine):CallR X (.builtin "sorted") (aV3q S X.K):=by
  intro pins s σ H xs us Q I r h
  obtain ⟨l,vs,ds,rfl,hq,ha,hl,hs,q⟩:=h
  obtain ⟨u,rfl,rx⟩:=gQq r
  cases rx
  obtain ⟨its,rv,pl,hz⟩:=I.list hq
  have hlen:=rv.length
  have hlen2:=ha.len
  have hk:∀ d∈ds,S d:=λ d hd=>(hs d hd).1
  have I6:Inv X pins σ H { s with heap:=fNq s.heap its }:=I.kept (t':=s.toks) λ b o e=>jNq e
  have fin:∀ p:Array Nat,Pm its.length p->Srt (p.toList.map λ i=>ds.getD i .non)->EP X pins σ Q (.ref (s.heap.objs.size+1)) { s with heap:=sortedAll s.heap its (p.toList.map λ i=>its.getD i Value.none).toArray }:=λ p hp hsrt=>by
    have hm:∀ i∈p.toList,i < its.length:=λ i hi=>YE.mp (hp.mem_iff.mp hi)
    obtain ⟨c,hcc⟩:=sortedAll_at s.heap its (p.toList.map λ i=>its.getD i Value.none).toArray
    have z:=hp.length_eq
    rw [Zb] at z
    have sl:=sizeLine_eq
    have r1:=dXq rv p.toList (λ i hi=>by have:=hm i hi;omega)
    have r2:=k0q ha p.toList (λ i hi=>by have:=hm i hi;omega)
    exact ⟨.ref _,_,I.laid (t':=s.toks) (λ b o e=>sortedAll_old e) (Nat.le_succ _) (show ObjOk X.prog X.w _ _ _ (.lst (p.toList.map λ i=>vs.getD i .non)) from ⟨by rw [Yf];omega,_,c,r1,by simpa using hcc⟩),rfl,q _ _ (aU1q (by rw [show ds.length=its.length by omega];exact hp)) hsrt r2 _ (I.hok.fresh (Nat.le_succ _))⟩
  by_cases h0:0 < ds.length
  . refine h3q (κ:=tuples' true) (lt:=ltI ds) pl.isList (by omega) (λ h2 A E R hR=>sLq I6 (λ d hd=>r4q o hd0 (hk d hd) (hs d hd).2) ha rv (by omega) hR) (λ A' i j C hA hi hj hC=>?_) (yWq o hk h0) λ p hp hup=>fin p hp (aE2q o hk (by rw [show ds.length=its.length by omega];exact hp) (by rw [show ds.length=its.length by omega];exact hup))
    have ge:∀ k,k < its.length->∃ d v u,ds.getD (min k (ds.length - 1)) .non=d/\d∈ds/\Abs X.K H d v/\RelV v u/\its.getD k Value.none=u:=λ k hk'=>by
      have hk2:k < ds.length:=by omega
      obtain ⟨v,g1,g2⟩:=ha.get (Yi hk2)
      obtain ⟨u,g3,g4⟩:=rv.get g1
      exact ⟨ds[k],v,u,by rw [show min k (ds.length - 1)=k by omega,Yr,Yi hk2];rfl,Yx hk2,g2,g4,by rw [Yr,g3];rfl⟩
    obtain ⟨d,v,u,e1,m1,a1,b1,f1⟩:=ge i hi
    obtain ⟨e,v',u',e2,m2,a2,b2,f2⟩:=ge j hj
    unfold kas_ask
    rw [f1,f2]
    simp only [ltI,e1,e2] at hC
    obtain ⟨b,hb⟩:=Option.isSome_iff_exists.mp (o.lt (hk _ m1) (hk _ m2))
    obtain ⟨z,r,rfl,k1,k2⟩:=r4q o hd0 (hk d m1) (hs d m1).2
    obtain ⟨z2,r2,rfl,k3,k4⟩:=r4q o hd0 (hk e m2) (hs e m2).2
    rw [hb] at hC
    exact aG5q I6 hC k1 k3 a1 a2 b1 b2 (by omega) hb
  . have e0:its=[]:=YR.mp (by omega)
    subst e0
    refine hLq (κ:=tuples' true) (lt:=λ _ _=>false) pl.isList (by simp) (λ h2=>by simp at h2) (λ A' i j C hA hi=>by simp at hi) λ out hp=>?_
    have eo:out=[]:=YR.mp (by have:=hp.length_eq;simpa using this)
    subst eo
    have ed:ds=[]:=YR.mp (by omega)
    exact fin #[] (.refl _) (by simp [Srt])
def aU6q (S:D->Prop):D->DV->DK->Prop:=λ x G Q=>match x with
  | .ref l=>onL G l λ ds=>ds.length < 64/\(∀ d∈ds,S d/\d.dp<=150)/\∀ ds':List D,ds.Perm ds'->Srt ds'->∀ p,G p=none->Q (.ref p) (up G p (.lst ds'))
  | _=>False
theorem eGq {S:D->Prop} (o:Ord3 S) (hd0:∀ {d:D},S d->Hdd d) (hu:X.A.units+200 < cLine):ACall X (.builtin "sorted") (rHq (aU6q S)):=by
  refine ⟨_,⟨q0q o hd0 hu⟩,λ xs vs G H DQ Q v a r F=>?_⟩
  obtain ⟨x,u,rfl,rfl,ax,r⟩:=c4q r a
  cases x with
  | ref l=>
    cases ax
    obtain ⟨ds,ws,⟨hl,hs,k⟩,s,rl⟩:=bHq v r
    exact ⟨l,ws,ds,rfl,s,rl,hl,hs,λ ds' vs' hp hsr ha p hp'=>F (.ref p) _ _ _ (Go.newL v hp' ha) rfl (k ds' hp hsr p (v.none hp'))⟩
  | _=>exact (show False from r).elim
end
theorem s1q {a:D} (h:IsK a):Hdd a:=by obtain ⟨z,r,e,_⟩:=h.head;exact ⟨z,r,e⟩
theorem cp0 {z:Str}:Cp (.tup [.str z]) (.tup [.str z]):=Cp.same (ps:=[]) (by simp)
theorem cp1 {z:Str} {a b:D} (h:Cp a b):Cp (.tup [.str z,a]) (.tup [.str z,b]):=Cp.same (ps:=[(a,b)]) (by simpa using h)
theorem cp2 {z:Str} {a b a' b':D} (h:Cp a b) (h':Cp a' b'):Cp (.tup [.str z,a,a']) (.tup [.str z,b,b']):=Cp.same (ps:=[(a,b),(a',b')]) (by simpa using ⟨h,h'⟩)
theorem k_cp {a:D} (h:IsK a):∀ {b:D},IsK b->Cp a b:=by
  induction h with
  | is n=>intro b hb;cases hb<;>first | exact cp1 (.int _ _) | exact .diff (by decide)
  | some=>intro b hb;cases hb<;>first | exact cp0 | exact .diff (by decide)
  | both _ _ h1 h2=>intro b hb;cases hb<;>first | exact cp2 (h1 ‹_›) (h2 ‹_›) | exact .diff (by decide)
  | left _ h1=>intro b hb;cases hb<;>first | exact cp1 (h1 ‹_›) | exact .diff (by decide)
  | right _ h1=>intro b hb;cases hb<;>first | exact cp1 (h1 ‹_›) | exact .diff (by decide)
  | way k1 _ h1 h2=>
    intro b hb
    cases hb with
    | way g1 g2=>exact cp2 (.bag (λ x hx y hy=>h1 x hx (g1 y hy)) (λ x hx=>s1q (k1 x hx)) λ y hy=>s1q (g1 y hy)) (h2 g2)
    | _=>exact .diff (by decide)
theorem dVq {w:Str} {es:List D} {d:D} (h:Nd w es d):∃ r,d=.tup (.str w::r):=by cases h<;>exact ⟨_,rfl⟩
theorem aJ1q:∀ w∈unW,w ∉ biW:=by decide
theorem aO5q {w w':Str} {es es':List D} {d d':D} (h:Nd w es d) (h':Nd w' es' d') (ih:∀ e∈es,∀ e'∈es',Cp e e') (h1:∀ e∈es,Hdd e) (h2:∀ e∈es',Hdd e):Cp d d':=by
  by_cases hw:w=w'
  . subst hw
    cases h with
    | un p hw=>
      cases h' with
      | un q _=>exact cp1 (ih p (by simp) q (by simp))
      | bi _ _ hb=>exact absurd hb (aJ1q _ hw)
      | give _ _ _=>exact absurd hw (by decide)
    | bi p p2 hw=>
      cases h' with
      | un q hb=>exact absurd hw (aJ1q _ hb)
      | bi q q2 _=>exact cp2 (ih p (by simp) q (by simp)) (ih p2 (by simp) q2 (by simp))
      | give _ _ _=>exact absurd hw (by decide)
    | give p ps hl=>
      cases h' with
      | un q hb=>exact absurd hb (by decide)
      | bi q q2 hb=>exact absurd hb (by decide)
      | give q qs _=>exact cp2 (ih p (by simp) q (by simp)) (.bag (λ x hx y hy=>ih x (by simp [hx]) y (by simp [hy])) (λ x hx=>h1 x (by simp [hx])) λ y hy=>h2 y (by simp [hy]))
  . obtain ⟨r,rfl⟩:=dVq h
    obtain ⟨r',rfl⟩:=dVq h'
    exact .diff hw
theorem j8q {d:D} {x:List Str} (h:Pk d x):Hdd d:=by
  cases h with
  | some=>exact ⟨_,_,rfl⟩
  | whole=>exact ⟨_,_,rfl⟩
  | name=>exact ⟨_,_,rfl⟩
  | node hn _=>obtain ⟨r,e⟩:=dVq hn;exact ⟨_,r,e⟩
theorem cQq:∀ w∈unW++biW++[("give" : Str)],w≠"some"/\w≠"whole"/\w≠"name":=by decide
theorem aQ7q {a:D} {x:List Str} (h:Pk a x):∀ {b:D} {y:List Str},Pk b y->Cp a b:=by
  induction h with
  | some=>
    intro b y hb
    cases hb with
    | some=>exact cp0
    | whole=>exact .diff (by decide)
    | name=>exact .diff (by decide)
    | node hn _=>obtain ⟨r,rfl⟩:=dVq hn;exact .diff (cQq _ (cZq hn)).1.symm
  | whole=>
    intro b y hb
    cases hb with
    | some=>exact .diff (by decide)
    | whole=>exact cp0
    | name=>exact .diff (by decide)
    | node hn _=>obtain ⟨r,rfl⟩:=dVq hn;exact .diff (cQq _ (cZq hn)).2.1.symm
  | name _ k1 _ _=>
    intro b y hb
    cases hb with
    | some=>exact .diff (by decide)
    | whole=>exact .diff (by decide)
    | name _ k2 _ _=>exact cp1 (k_cp k1.isK k2.isK)
    | node hn _=>obtain ⟨r,rfl⟩:=dVq hn;exact .diff (cQq _ (cZq hn)).2.2.symm
  | @node w ps d hn hp ih=>
    intro b y hb
    cases hb with
    | some=>obtain ⟨r,rfl⟩:=dVq hn;exact .diff (cQq _ (cZq hn)).1
    | whole=>obtain ⟨r,rfl⟩:=dVq hn;exact .diff (cQq _ (cZq hn)).2.1
    | name=>obtain ⟨r,rfl⟩:=dVq hn;exact .diff (cQq _ (cZq hn)).2.2
    | @node w' qs _ hn' hq=>
      refine aO5q hn hn' (λ e he e' he'=>?_) (λ e he=>?_) λ e he=>?_
      . obtain ⟨p,hp',rfl⟩:=Yl.mp he
        obtain ⟨q,hq',rfl⟩:=Yl.mp he'
        exact ih p hp' (hq q hq')
      . obtain ⟨p,hp',rfl⟩:=Yl.mp he
        exact j8q (hp p hp')
      . obtain ⟨q,hq',rfl⟩:=Yl.mp he
        exact j8q (hq q hq')
theorem aQ9q {a:D} {x:List Str} (h:Pk a x):∀ z∈flD a,IS z:=by
  induction h with
  | some=>exact d5q λ d hd=>by simp at hd
  | whole=>exact d5q λ d hd=>by simp at hd
  | name _ k1 _ _=>exact d5q λ d hd z hz=>by simp at hd;subst hd;exact k1.isK.fl_IS z hz
  | @node w ps d hn hp ih=>
    have h1:∀ e∈ps.map (·.1),∀ z∈flD e,IS z:=λ e he=>by obtain ⟨p,hp',rfl⟩:=Yl.mp he;exact ih p hp'
    have h2:∀ e∈ps.map (·.1),Hdd e:=λ e he=>by obtain ⟨p,hp',rfl⟩:=Yl.mp he;exact j8q (hp p hp')
    generalize ps.map (·.1)=es at hn h1 h2
    cases hn with
    | un p _=>exact d5q λ d hd z hz=>by simp at hd;subst hd;exact h1 _ (by simp) z hz
    | bi p q _=>exact d5q λ d hd z hz=>by simp at hd;rcases hd with rfl | rfl;exact h1 _ (by simp) z hz;exact h1 _ (by simp) z hz
    | give p qs _=>
      refine d5q λ d hd z hz=>?_
      simp at hd
      rcases hd with rfl | rfl
      . exact h1 _ (by simp) z hz
      . rw [iBq λ y hy=>h2 y (by simp [hy])] at hz
        exact r7q (λ y hy=>h1 y (by simp [hy])) z hz
def dKq (d:D):Prop:=∃ x,Pk d x
theorem o1q:Ord3 dKq where
  data:=λ⟨_,h⟩=>(pUq h).1
  cp:=λ⟨_,h⟩ ⟨_,h'⟩=>aQ7q h h'
  is:=λ⟨_,h⟩=>aQ9q h
inductive Fg:D->Prop
  | int (n:Int):Fg (.int n)
  | str (z:Str):Fg (.str z)
  | node {z:Str} {r:List D}:(∀ x∈r,Fg x)->Fg (.tup (.str z::r))
  | bag {ds:List D}:(∀ d∈ds,Fg d)->(∀ d∈ds,Hdd d)->Fg (.tup ds)
def l2q:DSp:=λ ds G Q=>∃ d:D,ds=[d]/\(Fg d/\tsz d<=49000)/\∀ l,G l=none->Q (.ref l) (up G l (.lst (flD d)))
theorem k_fg {d:D} (h:IsK d):Fg d:=by
  induction h with
  | is n=>exact .node λ x hx=>by simp at hx;subst hx;exact .int _
  | some=>exact .node (by simp)
  | both _ _ h1 h2=>exact .node λ x hx=>by simp at hx;rcases hx with rfl | rfl;exact h1;exact h2
  | left _ h1=>exact .node λ x hx=>by simp at hx;subst hx;exact h1
  | right _ h1=>exact .node λ x hx=>by simp at hx;subst hx;exact h1
  | way k1 _ h1 h2=>exact .node λ x hx=>by simp at hx;rcases hx with rfl | rfl;exact .bag h1 λ d hd=>s1q (k1 d hd);exact h2
theorem aO6q {d:D} {x:List Str} (h:Pk d x):Fg d:=by
  induction h with
  | some=>exact .node (by simp)
  | whole=>exact .node (by simp)
  | name _ k1 _ _=>exact .node λ x hx=>by simp at hx;subst hx;exact k_fg k1.isK
  | @node w ps d hn hp ih=>
    have h1:∀ e∈ps.map (·.1),Fg e:=λ e he=>by obtain ⟨p,hp',rfl⟩:=Yl.mp he;exact ih p hp'
    have h2:∀ e∈ps.map (·.1),Hdd e:=λ e he=>by obtain ⟨p,hp',rfl⟩:=Yl.mp he;exact j8q (hp p hp')
    generalize ps.map (·.1)=es at hn h1 h2
    cases hn with
    | un p _=>exact .node λ x hx=>by simp at hx;subst hx;exact h1 _ (by simp)
    | bi p q _=>exact .node λ x hx=>by simp at hx;rcases hx with rfl | rfl;exact h1 _ (by simp);exact h1 _ (by simp)
    | give p qs _=>exact .node λ x hx=>by simp at hx;rcases hx with rfl | rfl;exact h1 _ (by simp);exact .bag (λ y hy=>h1 y (by simp [hy])) λ y hy=>h2 y (by simp [hy])
def l0q:DSp:=λ ds G Q=>∃ (l:Addr) (es:List D),ds=[.ref l]/\G l=some (.lst es)/\es.length < 64/\(∀ d∈es,dKq d/\tsz d<=49000)/\∀ es',es.Perm es'->Srt es'->Q (.tup es') G
inductive Lf:D->Prop
  | some:Lf (.tup [.str "some"])
  | whole:Lf (.tup [.str "whole"])
  | name (k:D):Lf (.tup [.str "name", k])
inductive WMk:D->List D->D->Prop
  | leaf {d:D}:Lf d->WMk d [] d
  | un {w:Str} (p p':D):w∈unW->WMk (.tup [.str w,p]) [p'] (.tup [.str w,p'])
  | bi {w:Str} (p q p' q':D):w∈biW->WMk (.tup [.str w,p,q]) [p',q'] (.tup [.str w,p',q'])
  | give (p:D) (ps:List D) (p':D) (ps':List D):ps'.length<=6->WMk (.tup [.str "give", p,.tup ps]) (p'::ps') (.tup [.str "give", p',.tup ps'])
def pEq:DSp:=λ ds G Q=>∃ (d:D) (l:Addr) (es:List D) (d':D),ds=[d,.ref l]/\G l=some (.lst es)/\WMk d es d'/\Q d' G
inductive WOrd:D->D->Prop
  | other {d:D}:(∀ p ps,d≠.tup [.str "give", p,.tup ps])->WOrd d d
  | give {p:D} {ps s:List D}:ps.Perm s->Srt s->WOrd (.tup [.str "give", p,.tup ps]) (.tup [.str "give", p,.tup s])
def n0q:DSp:=λ ds G Q=>∃ (d:D) (l:Addr) (es:List D) (d':D),ds=[d,.ref l]/\G l=some (.lst es)/\WMk d es d'/\(∀ e∈es,dKq e/\tsz e<=49000)/\∀ d'',WOrd d' d''->Q d'' G
section
variable {α:Type} (inn all:α->List α)
def stk (x:α):Nat->List α
  | 0=>[x]
  | i+1=>match stk x i with
    | []=>[]
    | u::t=>inn u++t
variable {inn all}
theorem fIq (h:∀ y,all y=y::(inn y).flatMap all) (x:α):∀ i,(all x).drop i=(stk inn x i).flatMap all
  | 0=>by simp [stk]
  | i+1=>by
    have ih:=fIq h x i
    rw [stk,<- List.drop_drop,ih]
    cases e:stk inn x i with
    | nil=>simp
    | cons u t=>simp only [YC,Y1];rw [h u];simp
theorem s6q (h:∀ y,all y=y::(inn y).flatMap all) (x:α) (i:Nat) {u:α} (hu:(all x)[i]?=some u):∃ t,stk inn x i=u::t/\stk inn x (i+1)=inn u++t:=by
  have hd:=fIq h x i
  have h0:((all x).drop i)[0]?=some u:=by rw [List.getElem?_drop];simpa using hu
  rw [hd] at h0
  cases e:stk inn x i with
  | nil=>rw [e] at h0;simp at h0
  | cons v t=>
    rw [e,YC,h v] at h0
    simp at h0
    subst h0
    exact ⟨t,rfl,by rw [stk,e]⟩
theorem w1q (h:∀ y,all y=y::(inn y).flatMap all) (x:α):stk inn x (all x).length=[]:=by
  have hd:=fIq h x (all x).length
  rw [Zl] at hd
  cases e:stk inn x (all x).length with
  | nil=>rfl
  | cons v t=>rw [e,YC,h v] at hd;simp at hd
end
inductive Fo {α:Type} (inn:α->List α) (Md:α->List D->D->Prop):α->D->Prop
  | mk {x:α} {ps:List (α × D)} {r:D}:inn x=ps.map (·.1)->(∀ p∈ps,Fo inn Md p.1 p.2)->Md x (ps.map (·.2)) r->Fo inn Md x r
def pDq {α:Type} (enc:α->D) (inn:α->List α) (Md:α->List D->D->Prop):DSp:=λ ds G Q=>∃ (x:α) (l:Addr) (ps:List (α × D)),ds=[enc x,.ref l]/\G l=some (.lst (ps.map (·.2)))/\inn x=ps.map (·.1)/\(∀ p∈ps,Fo inn Md p.1 p.2)/\∀ r,Md x (ps.map (·.2)) r->Q r G
def fWq (P:Program) (w:World) (K:PySem.W.Frag) (mg:Str->Option Value) (base:Heap) (k:Nat):DSp:=λ ds G Q=>∃ (α:Type) (enc:α->D) (inn all:α->List α) (Md:α->List D->D->Prop) (f m:Addr) (x:α),ds=[enc x,.ref f,.ref m]/\(∀ y,all y=y::(inn y).flatMap all)/\FnV P w K mg base k f (aRq K (q4q enc inn))/\FnV P w K mg base k m (aRq K (pDq enc inn Md))/\(all x).length<=10000/\∀ r,Fo inn Md x r->Q r G
def pin:D->List D
  | .tup [.str w,p]=>if w∈unW then [p] else []
  | .tup [.str w,p,.tup ps]=>if w∈biW then [p,.tup ps] else if w = "give" then p::ps else []
  | .tup [.str w,p,q]=>if w∈biW then [p,q] else []
  | _=>[]
theorem bTq {w:Str} {es:List D} {d:D} (h:Nd w es d):pin d=es:=by
  cases h with
  | un p hw=>exact if_pos hw
  | bi p q hw=>cases q<;>exact if_pos hw
  | give p ps _=>exact rfl
theorem fJq (k:D):pin (.tup [.str "name", k])=[]:=rfl
theorem yVq {w:Str} {es:List D} {d e:D} (h:Nd w es d) (he:e∈es):tsz e < tsz d:=by
  cases h with
  | un p _=>simp at he;subst he;simp only [tsz,b5q];omega
  | bi p q _=>simp at he;rcases he with rfl | rfl<;>(simp only [tsz,b5q];omega)
  | give p ps _=>
    rcases Yd.mp he with rfl | he
    . simp only [tsz,b5q];omega
    . have:=e6q he;simp only [tsz,b5q];omega
theorem q2q {d:D} {x:List Str} (h:Pk d x) {e:D} (he:e∈pin d):dKq e/\tsz e < tsz d:=by
  cases h with
  | some=>cases he
  | whole=>cases he
  | name=>rw [fJq] at he;cases he
  | @node w ps _ hn hp=>
    rw [bTq hn] at he
    refine ⟨?_,yVq hn he⟩
    obtain ⟨p,hp',rfl⟩:=Yl.mp he
    exact ⟨_,hp p hp'⟩
abbrev Ppr:={ d:D // dKq d/\tsz d<=49000 }
theorem aV8q {d e:D} (h:dKq d/\tsz d<=49000) (he:e∈pin d):dKq e/\tsz e<=49000:=by
  obtain ⟨⟨_,h⟩,hz⟩:=h
  have:=q2q h he
  exact ⟨this.1,by omega⟩
def nHq (y:Ppr):List Ppr:=(pin y.1).attach.map λ e=>⟨e.1,aV8q y.2 e.2⟩
theorem eFq (y:Ppr):(nHq y).map Subtype.val=pin y.1:=by
  unfold nHq
  rw [Yy]
  exact List.attach_map_subtype_val _
theorem rJq {y e:Ppr} (h:e∈nHq y):tsz e.1 < tsz y.1:=by
  have:e.1∈pin y.1:=by rw [<- eFq];exact YD h
  obtain ⟨⟨_,hy⟩,_⟩:=y.2
  exact (q2q hy this).2
def iTq (y:Ppr):List Ppr:=y::(nHq y).attach.flatMap λ e=>iTq e.1
termination_by tsz y.1
decreasing_by exact rJq e.2
theorem mMq (y:Ppr):iTq y=y::(nHq y).flatMap iTq:=by
  rw [iTq]
  congr 1
  rw [List.flatMap_def,List.flatMap_def]
  congr 1
  exact List.attach_map_val
theorem jXq:∀ (n:Nat) (y:Ppr),tsz y.1<=n->2 * (iTq y).length<=tsz y.1
  | 0,y,h=>by have:=lDq y.1;omega
  | n+1,y,h=>by
    rw [mMq,Yb]
    have h1:2 * ((nHq y).flatMap iTq).length<=b5q ((nHq y).map Subtype.val):=by
      have:∀ ys:List Ppr,(∀ e∈ys,tsz e.1<=n)->2 * (ys.flatMap iTq).length<=b5q (ys.map Subtype.val):=λ ys=>by
        induction ys with
        | nil=>intro _;simp [b5q]
        | cons e ys ih=>
          intro hy
          rw [YC,Yg,Yh,b5q]
          have a:=jXq n e (hy e (Ya ..))
          have b:=ih λ z hz=>hy z (Yc _ hz)
          omega
      exact this _ λ e he=>by have:=rJq he;omega
    rw [eFq] at h1
    obtain ⟨⟨_,hy⟩,_⟩:=y.2
    have h2:b5q (pin y.1)+2<=tsz y.1:=by
      generalize y.1=d at hy
      cases hy with
      | some=>decide
      | whole=>decide
      | name=>rw [fJq];simp only [tsz,b5q];omega
      | @node w ps _ hn _=>
        rw [bTq hn]
        generalize ps.map (·.1)=es at hn
        cases hn<;>(simp only [tsz,b5q];omega)
    omega
inductive Sd (R:List D->List D->Prop):D->D->Prop
  | leaf {d:D}:Lf d->Sd R d d
  | un {w:Str} {p p':D}:w∈unW->Sd R p p'->Sd R (.tup [.str w,p]) (.tup [.str w,p'])
  | bi {w:Str} {p q p' q':D}:w∈biW->Sd R p p'->Sd R q q'->Sd R (.tup [.str w,p,q]) (.tup [.str w,p',q'])
  | give {p p':D} {qs:List (D × D)} {ps s:List D}:Sd R p p'->(∀ q∈qs,Sd R q.1 q.2)->ps=qs.map (·.1)->R (qs.map (·.2)) s->Sd R (.tup [.str "give", p,.tup ps]) (.tup [.str "give", p',.tup s])
def PS (a s:List D):Prop:=a.Perm s/\Srt s
def PP (a s:List D):Prop:=a.Perm s
section
variable {R:List D->List D->Prop} {d r p q:D} {w:Str}
theorem rCq (hf:Lf d) (h:Sd R d r):r=d:=by
  cases h with
  | leaf=>rfl
  | un hw _=>cases hf;exact absurd hw (by decide)
  | bi hw _ _=>cases hf
  | give=>cases hf
theorem aA9q (hw:w∈unW) (h:Sd R (.tup [.str w,p]) r):∃ p',r=.tup [.str w,p']/\Sd R p p':=by
  cases h with
  | leaf hf=>cases hf;exact absurd hw (by decide)
  | un _ h=>exact ⟨_,rfl,h⟩
theorem aI8q (hw:w∈biW) (h:Sd R (.tup [.str w,p,q]) r):∃ p' q',r=.tup [.str w,p',q']/\Sd R p p'/\Sd R q q':=by
  cases h with
  | leaf hf=>cases hf
  | bi _ h h'=>exact ⟨_,_,rfl,h,h'⟩
  | give=>exact absurd hw (by decide)
theorem oPq {ps:List D} (h:Sd R (.tup [.str "give", p,.tup ps]) r):∃ (p':D) (qs:List (D × D)) (s:List D),r=.tup [.str "give", p',.tup s]/\Sd R p p'/\(∀ q∈qs,Sd R q.1 q.2)/\ps=qs.map (·.1)/\R (qs.map (·.2)) s:=by
  cases h with
  | leaf hf=>cases hf
  | bi hw _ _=>exact absurd hw (by decide)
  | give h1 h2 h3 h4=>exact ⟨_,_,_,rfl,h1,h2,h3,h4⟩
theorem Sd.mono {R':List D->List D->Prop} (hR:∀ a s,R a s->R' a s) (h:Sd R d r):Sd R' d r:=by
  induction h with
  | leaf hf=>exact .leaf hf
  | un hw _ ih=>exact .un hw ih
  | bi hw _ _ h1 h2=>exact .bi hw h1 h2
  | give _ _ e h4 h1 h2=>exact .give h1 h2 e (hR _ _ h4)
theorem wQq {a s:List D} (h:a.Perm s):b5q a=b5q s:=by
  induction h with
  | nil=>rfl
  | cons x _ ih=>rw [b5q,b5q,ih]
  | swap x y l=>simp only [b5q];omega
  | trans _ _ h1 h2=>rw [h1,h2]
theorem sGq {a s:List D} (h:a.Perm s):bMq a=bMq s:=by
  induction h with
  | nil=>rfl
  | cons x _ ih=>rw [bMq,bMq,ih]
  | swap x y l=>simp only [bMq];omega
  | trans _ _ h1 h2=>rw [h1,h2]
theorem oTq:∀ {qs:List (D × D)},(∀ q∈qs,tsz q.2=tsz q.1/\q.2.dp=q.1.dp)->b5q (qs.map (·.2))=b5q (qs.map (·.1))/\bMq (qs.map (·.2))=bMq (qs.map (·.1))
  | [],_=>⟨rfl,rfl⟩
  | q::qs,h=>by
    have h1:=h q (Ya ..)
    have h2:=oTq λ z hz=>h z (Yc _ hz)
    simp only [Yh,b5q,bMq,h1.1,h1.2,h2.1,h2.2,and_self]
theorem g7q {e:D} (h:dKq d) (he:e∈pin d):dKq e:=by obtain ⟨_,h⟩:=h;exact (q2q h he).1
theorem aO7q (hw:w∈unW) (h:dKq p):dKq (.tup [.str w,p]):=by obtain ⟨x,t⟩:=h;exact ⟨_,.node (ps:=[(p,x)]) (.un p hw) (by simpa using t)⟩
theorem aN7q (hw:w∈biW) (h:dKq p) (h':dKq q):dKq (.tup [.str w,p,q]):=by
  obtain ⟨x,t⟩:=h
  obtain ⟨y,t'⟩:=h'
  exact ⟨_,.node (ps:=[(p,x),(q,y)]) (.bi p q hw) (by simpa using ⟨t,t'⟩)⟩
theorem xNq {ds:List D} (h:dKq p) (h':∀ d∈ds,dKq d) (hl:ds.length<=6):dKq (.tup [.str "give", p,.tup ds]):=by
  obtain ⟨x,t⟩:=h
  obtain ⟨ps,rfl,hp⟩:=dZq (P:=Pk) h'
  exact ⟨_,.node (w:="give") (ps:=(p,x)::ps) (.give p _ hl) λ q hq=>by rcases Yd.mp hq with rfl | hq;exact t;exact hp q hq⟩
theorem u6q {ps:List D} (h:dKq (.tup [.str "give", p,.tup ps])):ps.length<=6:=by
  obtain ⟨x,h⟩:=h
  generalize he:D.tup [.str "give", p,.tup ps]=d at h
  cases h with
  | some=>cases he
  | whole=>cases he
  | name=>cases he
  | @node w qs _ hn _=>
    generalize qs.map (·.1)=es at hn
    cases hn with
    | un=>cases he
    | bi _ _ hw=>cases he;exact absurd hw (by decide)
    | give _ _ hl=>cases he;exact hl
theorem ePq (hR:∀ a s,R a s->a.Perm s) (h:Sd R d r):dKq d->dKq r/\tsz r=tsz d/\r.dp=d.dp:=by
  induction h with
  | leaf=>intro h;exact ⟨h,rfl,rfl⟩
  | @un w p p' hw _ ih=>
    intro h
    have a:=ih (g7q h (by rw [bTq (.un p hw)];simp))
    exact ⟨aO7q hw a.1,by simp only [tsz,b5q,a.2.1],by simp only [D.dp,bMq,a.2.2]⟩
  | @bi w p q p' q' hw _ _ h1 h2=>
    intro h
    have a:=h1 (g7q h (by rw [bTq (.bi p q hw)];simp))
    have b:=h2 (g7q h (by rw [bTq (.bi p q hw)];simp))
    exact ⟨aN7q hw a.1 b.1,by simp only [tsz,b5q,a.2.1,b.2.1],by simp only [D.dp,bMq,a.2.2,b.2.2]⟩
  | @give p p' qs ps s _ _ e h4 h1 h2=>
    intro h
    subst e
    have hl:=u6q h
    have a:=h1 (g7q h (by rw [bTq (.give p _ hl)];simp))
    have b:∀ q∈qs,dKq q.2/\tsz q.2=tsz q.1/\q.2.dp=q.1.dp:=λ q hq=>h2 q hq (g7q h (by rw [bTq (.give p _ hl)];exact Yc _ (YD hq)))
    have hp:=hR _ _ h4
    have c:=oTq λ q hq=>(b q hq).2
    refine ⟨xNq a.1 (λ d hd=>?_) ?_,?_,?_⟩
    . obtain ⟨q,hq,rfl⟩:=Yl.mp (hp.mem_iff.mpr hd)
      exact (b q hq).1
    . have:=hp.length_eq
      rw [Yf] at hl this;omega
    . simp only [tsz,b5q,a.2.1,<- wQq hp,c.1]
    . simp only [D.dp,bMq,a.2.2,<- sGq hp,c.2]
end
theorem oQq {xs ys:List D} (h:xs.Perm ys):∀ {qs:List (D × D)},ys=qs.map (·.1)->∃ qs':List (D × D),xs=qs'.map (·.1)/\qs'.Perm qs:=by
  induction h with
  | nil=>intro qs e;exact ⟨qs,e,.refl _⟩
  | cons x _ ih=>
    intro qs e
    cases qs with
    | nil=>cases e
    | cons q qs=>
      rw [Yh,List.cons.injEq] at e
      obtain ⟨qs',e1,e2⟩:=ih e.2
      exact ⟨q::qs',by rw [Yh,<- e.1,e1],e2.cons q⟩
  | swap x y l=>
    intro qs e
    rcases qs with _ | ⟨q,_ | ⟨q',qs⟩⟩
    . cases e
    . cases e
    . simp only [Yh,List.cons.injEq] at e
      exact ⟨q'::q::qs,by simp only [Yh,e.1,e.2.1,e.2.2],.swap ..⟩
  | trans _ _ h1 h2=>
    intro qs e
    obtain ⟨q1,e1,p1⟩:=h2 e
    obtain ⟨q2,e2,p2⟩:=h1 e1
    exact ⟨q2,e2,p2.trans p1⟩
theorem uNq {T:D->D->Prop}:∀ {qs q1 q3:List (D × D)},qs.map (·.1)=q1.map (·.1)->qs.map (·.2)=q3.map (·.1)->(∀ q∈qs,∀ r r',T q.1 r->T q.2 r'->r=r')->(∀ q∈q1,T q.1 q.2)->(∀ q∈q3,T q.1 q.2)->q1.map (·.2)=q3.map (·.2)
  | [],q1,q3,e1,e2,_,_,_=>by
    rw [YF,eq_comm,List.map_eq_nil_iff] at e1 e2
    rw [e1,e2]
  | q::qs,q1,q3,e1,e2,h,h1,h3=>by
    rcases q1 with _ | ⟨a,q1⟩
    . cases e1
    rcases q3 with _ | ⟨b,q3⟩
    . cases e2
    simp only [Yh,List.cons.injEq] at e1 e2
    rw [Yh,Yh,h q (Ya ..) a.2 b.2 (by rw [e1.1];exact h1 a (Ya ..)) (by rw [e2.1];exact h3 b (Ya ..)),uNq e1.2 e2.2 (λ z hz=>h z (Yc _ hz)) (λ z hz=>h1 z (Yc _ hz)) λ z hz=>h3 z (Yc _ hz)]
theorem sSq (a s:List D) (h:PS a s):a.Perm s:=h.1
theorem w7q {d d':D} (h:Sd PP d d'):dKq d->∀ r r',Sd PS d r->Sd PS d' r'->r=r':=by
  induction h with
  | leaf hf=>intro _ r r' h1 h2;rw [rCq hf h1,rCq hf h2]
  | @un w p p' hw _ ih=>
    intro h r r' h1 h2
    obtain ⟨a,rfl,h3⟩:=aA9q hw h1
    obtain ⟨b,rfl,h4⟩:=aA9q hw h2
    rw [ih (g7q h (by rw [bTq (.un p hw)];simp)) a b h3 h4]
  | @bi w p q p' q' hw _ _ i1 i2=>
    intro h r r' h1 h2
    obtain ⟨a,a',rfl,h3,k1⟩:=aI8q hw h1
    obtain ⟨b,b',rfl,h4,k2⟩:=aI8q hw h2
    rw [i1 (g7q h (by rw [bTq (.bi p q hw)];simp)) a b h3 h4,i2 (g7q h (by rw [bTq (.bi p q hw)];simp)) a' b' k1 k2]
  | @give p p' qs ps s _ hq e h4 i1 i2=>
    intro h r r' h1 h2
    subst e
    have hl:=u6q h
    have hi:∀ q∈qs,dKq q.1:=λ q hq=>g7q h (by rw [bTq (.give p _ hl)];exact Yc _ (YD hq))
    obtain ⟨a,q1,s1,rfl,h5,k1,e1,o1,t1⟩:=oPq h1
    obtain ⟨b,q2,s2,rfl,h6,k2,e2,o2,t2⟩:=oPq h2
    obtain ⟨q3,e3,pm⟩:=oQq (h4:(qs.map (·.2)).Perm s) e2
    have eq:=uNq e1 e3 (λ q hq=>i2 q hq (hi q hq)) k1 λ q hq=>k2 q (pm.mem_iff.mp hq)
    have hp:s1.Perm s2:=o1.symm.trans (by rw [eq];exact (pm.map _).trans o2)
    have hs:∀ d∈s1,dKq d:=λ d hd=>by
      obtain ⟨q,hq,rfl⟩:=Yl.mp (o1.mem_iff.mpr hd)
      have:q.1∈qs.map (·.1):=by rw [e1];exact YD hq
      obtain ⟨q',hq',e⟩:=Yl.mp this
      exact (ePq sSq (k1 q hq) (by rw [<- e];exact hi q' hq')).1
    rw [i1 (g7q h (by rw [bTq (.give p _ hl)];simp)) a b h5 h6,uAq o1q hs hp t1 t2]
theorem nVq {d:D} {x:List Str} (h:Pk d x):Sd PP d d:=by
  induction h with
  | some=>exact .leaf .some
  | whole=>exact .leaf .whole
  | name=>exact .leaf (.name _)
  | @node w ps d hn _ ih=>
    have h1:∀ e∈ps.map (·.1),Sd PP e e:=λ e he=>by obtain ⟨p,hp',rfl⟩:=Yl.mp he;exact ih p hp'
    generalize ps.map (·.1)=es at hn h1
    cases hn with
    | un p hw=>exact .un hw (h1 p (by simp))
    | bi p q hw=>exact .bi hw (h1 p (by simp)) (h1 q (by simp))
    | give p qs hl=>exact .give (qs:=qs.map λ e=>(e,e)) (h1 p (by simp)) (λ q hq=>by obtain ⟨e,he,rfl⟩:=Yl.mp hq;exact h1 e (by simp [he])) (by rw [Yy];exact (Zm _).symm) (by rw [Yy];exact .of_eq (Zm _))
def MdP (x:Ppr) (rs:List D) (r:D):Prop:=∃ d',WMk x.1 rs d'/\WOrd d' r
theorem aW4q {d d' r:D} {qs:List (D × D)} (h1:qs.map (·.1)=pin d) (h2:∀ q∈qs,Sd PS q.1 q.2) (hw:WMk d (qs.map (·.2)) d') (ho:WOrd d' r):Sd PS d r:=by
  generalize he:qs.map (·.2)=rs at hw
  cases hw with
  | leaf hf=>
    cases ho with
    | other=>exact .leaf hf
    | give=>cases hf
  | @un w p p' hw=>
    rw [bTq (.un p hw)] at h1
    rcases qs with _ | ⟨q,_ | ⟨q',qs⟩⟩
    . cases he
    . simp only [Yh,YF,List.cons.injEq,and_true] at h1 he
      have:=h2 q (Ya ..)
      rw [h1,he] at this
      cases ho with
      | other=>exact .un hw this
    . cases he
  | @bi w p q p' q' hw=>
    rw [bTq (.bi p q hw)] at h1
    rcases qs with _ | ⟨a,_ | ⟨b,_ | ⟨c,qs⟩⟩⟩
    . cases he
    . cases he
    . simp only [Yh,YF,List.cons.injEq,and_true] at h1 he
      have z1:=h2 a (by simp)
      have z2:=h2 b (by simp)
      rw [h1.1,he.1] at z1
      rw [h1.2,he.2] at z2
      cases ho with
      | other=>exact .bi hw z1 z2
      | give=>exact absurd hw (by decide)
    . cases he
  | give p ps p' ps' h6=>
    rw [show pin (.tup [.str "give", p,.tup ps])=p::ps from rfl] at h1
    rcases qs with _ | ⟨a,qs⟩
    . cases he
    simp only [Yh,List.cons.injEq] at h1 he
    have z1:=h2 a (by simp)
    rw [h1.1,he.1] at z1
    cases ho with
    | other hn=>exact absurd rfl (hn _ _)
    | give hp hs=>exact .give z1 (λ q hq=>h2 q (Yc _ hq)) h1.2.symm ⟨by rw [he.2];exact hp,hs⟩
theorem yQq {x:Ppr} {r:D} (h:Fo nHq MdP x r):Sd PS x.1 r:=by
  induction h with
  | @mk x ps r hi _ hm ih=>
    obtain ⟨d',hw,ho⟩:=hm
    refine aW4q (qs:=ps.map λ q=>(q.1.1,q.2)) ?_ (λ q hq=>by obtain ⟨p,hp,rfl⟩:=Yl.mp hq;exact ih p hp) (by rw [Yy];exact hw) ho
    rw [<- eFq,hi,Yy,Yy];rfl
theorem yBq {d:D} {rs:List D} (h:dKq d) (hl:rs.length=(pin d).length):∃ d',WMk d rs d':=by
  obtain ⟨x,h⟩:=h
  cases h with
  | some=>exact ⟨_,by rw [YR.mp (show rs.length=0 from hl)];exact .leaf .some⟩
  | whole=>exact ⟨_,by rw [YR.mp (show rs.length=0 from hl)];exact .leaf .whole⟩
  | name=>exact ⟨_,by rw [YR.mp (show rs.length=0 from hl)];exact .leaf (.name _)⟩
  | @node w ps _ hn _=>
    rw [bTq hn] at hl
    generalize ps.map (·.1)=es at hn hl
    cases hn with
    | un p hw=>
      rcases rs with _ | ⟨a,_ | ⟨b,rs⟩⟩
      . simp at hl
      . exact ⟨_,.un p a hw⟩
      . simp at hl
    | bi p q hw=>
      rcases rs with _ | ⟨a,_ | ⟨b,_ | ⟨c,rs⟩⟩⟩
      . simp at hl
      . simp at hl
      . exact ⟨_,.bi p q a b hw⟩
      . simp at hl
    | give p ps h6=>
      rcases rs with _ | ⟨a,rs⟩
      . simp at hl
      . exact ⟨_,.give p ps a rs (by simp at hl;omega)⟩
theorem tAq {ds:List D} {G:DV} {Q:DK} (h:pDq (Subtype.val:Ppr->D) nHq MdP ds G Q):n0q ds G Q:=by
  obtain ⟨x,l,ps,rfl,hl,hi,hf,q⟩:=h
  obtain ⟨d',hw⟩:=yBq (rs:=ps.map (·.2)) x.2.1 (by rw [<- eFq,hi];simp)
  refine ⟨x.1,l,_,d',rfl,hl,hw,λ e he=>?_,λ d'' ho=>q d'' ⟨d',hw,ho⟩⟩
  obtain ⟨p,hp,rfl⟩:=Yl.mp he
  have:=ePq sSq (yQq (hf p hp)) p.1.2.1
  exact ⟨this.1,by rw [this.2.1];exact p.1.2.2⟩
theorem mLq:∀ {ps:List (D × List Str)},(∀ p∈ps,tsz p.1<=3 * (cat p.2).length)->b5q (ps.map (·.1))<=3 * (cat (eUq (ps.map (·.2)))).length
  | [],_=>by simp [b5q]
  | p::ps,h=>by
    have h1:=h p (Ya ..)
    have h2:=mLq λ q hq=>h q (Yc _ hq)
    simp only [Yh,b5q,eUq,cat,aJq,Yg] at *
    omega
theorem aC5q {d:D} {x:List Str} (h:Pk d x):tsz d<=3 * (cat x).length:=by
  induction h with
  | some=>rw [uBq];simp [cat,ofL,tsz,b5q]
  | whole=>rw [s_dt];simp [cat,ofL,tsz,b5q]
  | name t _ _ _=>
    have:=uTq t
    rw [s_hs,cat,cSq];simp only [tsz,b5q,aVq,Yg,Yb,Yj];omega
  | @node w ps d hn _ ih=>
    have h1:=mLq ih
    rw [gYq,gUq]
    simp only [cat,aJq,aVq,Yg,Yb,Yj]
    generalize ps.map (·.1)=es at hn h1
    cases hn<;>(simp only [tsz,b5q] at *;omega)
theorem unN:∀ w∈unW,(w==("give" : Str))=false/\(w==("name" : Str))=false:=by decide
theorem biN:∀ w∈biW,(w==("give" : Str))=false/\(w==("name" : Str))=false:=by decide
theorem zQq {R:List D->List D->Prop} {w:Str} {p:D} {qs:List (D × D)} (hw:w∈unW) (he:[p]=qs.map (·.1)) (h:∀ q∈qs,Sd R q.1 q.2):Sd R (.tup [.str w,p]) (.tup (.str w::qs.map (·.2))):=by
  rcases qs with _ | ⟨q,_ | ⟨q',qs⟩⟩
  . cases he
  . simp only [Yh,YF,List.cons.injEq,and_true] at he
    subst he
    exact .un hw (h q (by simp))
  . cases he
theorem yOq {R:List D->List D->Prop} {w:Str} {p p':D} {qs:List (D × D)} (hw:w∈biW) (he:[p,p']=qs.map (·.1)) (h:∀ q∈qs,Sd R q.1 q.2):Sd R (.tup [.str w,p,p']) (.tup (.str w::qs.map (·.2))):=by
  rcases qs with _ | ⟨q,_ | ⟨q',_ | ⟨q2,qs⟩⟩⟩
  . cases he
  . cases he
  . simp only [Yh,YF,List.cons.injEq,and_true] at he
    obtain ⟨rfl,rfl⟩:=he
    exact .bi hw (h q (by simp)) (h q' (by simp))
  . cases he
theorem zFq {a p:Addr} {G G':DV} {o:DO} (h:Dw a G G') (hn:G p=none) (hp:p≠a):Dw a G (up G' p o):=by
  obtain ⟨G0,⟨x,y,rfl⟩,s⟩:=h
  refine ⟨_,⟨x,y,rfl⟩,λ b u e=>?_⟩
  by_cases hb:b=p
  . subst hb;rw [aQq hp,hn] at e;cases e
  . rw [aQq hb];exact s b u e
theorem wVq {xs:List D} {m:Int} (h0:0<=m) (h1:m<=xs.length):xs.Perm (cut xs (some m) none++cut xs none (some m)):=by
  obtain ⟨n,rfl⟩:=Int.eq_ofNat_of_zero_le h0
  have e:∀ d,HT.sIx xs.length d (some (n:Int))=n:=λ d=>by unfold HT.sIx;simp only [];rw [if_neg (by omega)];omega
  have e1:cut xs (some (n:Int)) none=xs.drop n:=by
    unfold cut
    rw [e,show HT.sIx xs.length xs.length none=xs.length from rfl]
    exact Zi (by rw [Yz];omega)
  have e2:cut xs none (some (n:Int))=xs.take n:=by
    unfold cut
    rw [e,show HT.sIx xs.length 0 none=0 from rfl,YI,Nat.sub_zero]
  rw [e1,e2]
  exact (List.perm_append_comm.trans (.of_eq (List.take_append_drop n xs))).symm
theorem h9q {ds:List D} {qs:List (D × D)} (h:ds=qs.map (·.1)):(qs.map (·.2)).length=ds.length:=by rw [h,Yf,Yf]
theorem mNq {d:D} (h:dKq d):∀ e∈pin d,dKq e/\e.dp < d.dp:=λ e he=>by
  refine ⟨g7q h he,?_⟩
  obtain ⟨x,h⟩:=h
  cases h with
  | some=>cases he
  | whole=>cases he
  | name=>rw [fJq] at he;cases he
  | node hn _=>rw [bTq hn] at he;exact aG6q hn he
def lIq:DSp:=λ ds G Q=>∃ d:D,ds=[d]/\dKq d/\tsz d<=20000/\∀ r,Sd PS d r->Q r G
def g6q (n:Nat):DSp:=λ ds G Q=>∃ d:D,ds=[d]/\dKq d/\d.dp < n/\d.dp<=150/\∀ r,Sd PS d r->Q r G
def e0q (n:Nat):DSp:=λ ds G Q=>∃ (a:Addr) (d:D),ds=[.ref a,d]/\Fd G a/\dKq d/\d.dp < n/\∀ r G',Dw a G G'->Sd PP d r->Q r G'
theorem iMq {J:DIt} {G1:DV} {g:DTG} {te:DTE} {nt:Nat} {cap:List Nat} {ρ:DSt} {Q:DK} (T:D->D->Prop) (hz:J.items.length<=1000) (held:J.held G1)
    (turn:∀ x∈J.items,∀ R:DK,(∀ r,T x r->R r G1)->g x (eRq nt cap ρ) G1 λ ρ3 G3=>te ρ3 G3 R)
    (q:∀ qs:List (D × D),J.items=qs.map (·.1)->(∀ q∈qs,T q.1 q.2)->∀ p,G1 p=none->Q (.ref p) (up G1 p (.lst (qs.map (·.2))))):iAq g te nt cap ρ Q J G1:=by
  refine e2q (λ i ds G'=>∃ qs:List (D × D),ds=qs.map (·.2)/\J.items.take i=qs.map (·.1)/\(∀ q∈qs,T q.1 q.2)/\G1=G') (aZq (by omega)) ⟨[],rfl,rfl,by simp,rfl⟩ (λ _ _ _ _ h=>by obtain ⟨_,_,_,_,rfl⟩:=h;exact held) ?_ ?_
  . rintro i d ds G' hd ⟨qs,rfl,hxl,hx,rfl⟩
    refine turn d (YL hd) _ λ r hr=>WkV.of ⟨qs++[(d,r)],by simp,by rw [YY,hd,hxl];simp,λ y hy=>?_,rfl⟩
    rcases Yq.mp hy with hy | hy
    . exact hx y hy
    . simp at hy;subst hy;exact hr
  . rintro ds G' ⟨qs,rfl,hxl,hx,rfl⟩ p hp
    rw [YW] at hxl
    exact q qs hxl hx p hp
theorem gDq (a:Addr) {J:DIt} {G1:DV} {g:DTG} {te:DTE} {nt:Nat} {cap:List Nat} {ρ:DSt} {Q:DK} (T:D->D->Prop) (hz:J.items.length<=1000) (held:∀ G,J.held G) (hF:Fd G1 a)
    (turn:∀ x∈J.items,∀ G (R:DK),Fd G a->(∀ r G',Dw a G G'->T x r->R r G')->g x (eRq nt cap ρ) G λ ρ3 G3=>te ρ3 G3 R)
    (q:∀ (qs:List (D × D)) G',J.items=qs.map (·.1)->(∀ q∈qs,T q.1 q.2)->Fx a G1 G'->∀ p,G' p=none->Q (.ref p) (up G' p (.lst (qs.map (·.2))))):iAq g te nt cap ρ Q J G1:=by
  refine e2q (λ i ds G'=>∃ qs:List (D × D),ds=qs.map (·.2)/\J.items.take i=qs.map (·.1)/\(∀ q∈qs,T q.1 q.2)/\Fx a G1 G') (aZq (by omega)) ⟨[],rfl,rfl,by simp,.refl hF⟩ (λ _ _ _ _ _=>held _) ?_ ?_
  . rintro i d ds G' hd ⟨qs,rfl,hxl,hx,u⟩
    refine turn d (YL hd) G' _ u.fd λ r G2 ⟨G0,u2,s2⟩ hr=>⟨G0,s2,qs++[(d,r)],by simp,by rw [YY,hd,hxl];simp,λ y hy=>?_,u.trans u2⟩
    rcases Yq.mp hy with hy | hy
    . exact hx y hy
    . simp at hy;subst hy;exact hr
  . rintro ds G' ⟨qs,rfl,hxl,hx,u⟩ p hp
    rw [YW] at hxl
    exact q qs G' hxl hx u p hp
theorem tJq {K:PySem.W.Frag} {sp sp':DSp} (h:∀ ds G Q,sp' ds G Q->sp ds G Q) (vs:List V) (H:Hp) (Q:VK) (E:XK):aRq K sp' vs H Q E->aRq K sp vs H Q E:=λ⟨ds,G,DQ,h1,h2,h3,h4⟩=>⟨ds,G,DQ,h1,h2,h _ _ _ h3,h4⟩
theorem t8q (ds:List D) (G:DV) (Q:DK):qLq ds G Q->l2q ds G Q:=λ⟨d,h1,h2,h3,h4⟩=>⟨d,h1,⟨k_fg h2,h3⟩,h4⟩
theorem aQ0q:Ord3 IsK where
  data:=λ h=>h.data
  cp:=λ h h'=>k_cp h h'
  is:=λ h=>h.fl_IS
end L3
namespace KB
open PySem L2
def top (i:Nat):Stmt:=PySem.Challenge.pw_kindbags_k39_papers_in_order.main.body.getD i (.Pass ⟨0,0,0,0⟩)
structure Blt (mg:Str->Option Value):Prop where
  len:mg "len" = none
  isinstance:mg "isinstance" = none
  range:mg "range" = none
  int:mg "int" = none
  bool:mg "bool" = none
  str:mg "str" = none
  tuple:mg "tuple" = none
  list:mg "list" = none
  sorted:mg "sorted" = none
  all:mg "all" = none
  reversed:mg "reversed" = none
  min:mg "min" = none
  max:mg "max" = none
  enumerate:mg "enumerate" = none
  zip:mg "zip" = none
end KB
namespace KB
open PySem
abbrev f7q:List Str:=["thing", "inners_of"]
abbrev eZq:List Str:=["thing", "inners_of", "made_of"]
abbrev eYq:List Str:=["thing"]
abbrev gLq:List Str:=["things"]
abbrev jTq:List Str:=["thing"]
abbrev f8q:List Str:=["thing"]
abbrev jJq:List Str:=["thing"]
abbrev k8q:List Str:=["thing"]
abbrev hMq:List Str:=["kind"]
abbrev f2q:List Str:=["kinds"]
abbrev d7q:List Str:=["text", "signs"]
abbrev h7q:List Str:=["text", "most"]
abbrev f3q:List Str:=["text", "signs"]
abbrev h8q:List Str:=["text"]
abbrev fAq:List Str:=["piece"]
abbrev jHq:List Str:=["frame", "sign"]
abbrev hBq:List Str:=["row"]
abbrev gJq:List Str:=["row"]
abbrev hSq:List Str:=["paper"]
abbrev h4q:List Str:=["paper", "inners"]
abbrev gPq:List Str:=["text"]
abbrev h6q:List Str:=["pieces", "start"]
abbrev jOq:List Str:=["row"]
abbrev g0q:List Str:=["paper"]
abbrev hNq:List Str:=["paper", "inners"]
abbrev hQq:List Str:=["_law_script", "_law_k"]
abbrev hEq:List Str:=["_law_feed_here", "_law_many"]
abbrev f4q:List Str:=["_law_feed_here", "_law_deep"]
abbrev hPq:List Str:=["_law_feed_here", "_law_deep"]
abbrev gAq:List Str:=["_law_feed_here", "_law_room", "_law_deep"]
abbrev g9q:List Str:=["_law_kind_here"]
abbrev hRq:List Str:=["_law_paper"]
abbrev jSq:List Str:=["_law_paper"]
abbrev gSq:List Str:=["_law_found"]
abbrev fTq:List Str:=["_law_paper"]
abbrev f6q:List Str:=["_law_feed_here", "_law_paper"]
end KB
namespace KB
open PySem L2 L3
section
variable {P:Program} {w:World} {K:PySem.W.Frag} {mg:Str->Option Value} {base:Heap} {f:Addr} {fd:FuncData}
set_option maxHeartbeats 4000000
abbrev kVq:Stmt:=top 47
theorem sc_take:FnScope ["_law_feed_here", "_law_many", "_law_digit", "_law_one"] ["_law_feed_here", "_law_many"] (aDq kVq):=⟨rfl,rfl,rfl,by decide +kernel,rfl,by decide +kernel,by decide +kernel⟩
theorem vFq (F:Fun K "_law_take" "_law_take" kVq f fd):FnOk P w K mg base CX0 1 f fd ["_law_feed_here", "_law_many"] (aRq K eCq):=by
  refine okD (k:=0) F sc_take (λ ds G DQ h=>?_) (λ cdv A outer s H E hr ds G DQ h=>?_)
  . unfold eCq at h;split at h
    . rfl
    . exact h.elim
  unfold eCq at h;split at h
  case h_2=>exact h.elim
  next a m=>
  obtain ⟨⟨x,y,hF⟩,h0,h1,q⟩:=h
  refine ⟨_,(a4q (aNq (aBq dIq (aHq aix (a1q 0) a3q (λ _ _=>rfl)) a3q (aAq _)) (a4q (aIq (k:=2) sc_take.nd rfl (Or.inl rfl) (aOq d9q (aHq aix (a1q 0) a3q (λ _ _=>rfl)) (a1q 1)))
      (a4q (mDq (aOq fLq (aHq aix (a1q 0) a3q (λ _ _=>rfl)) (a1q 1)) (m1q (a1q 0) a3q))
      (a7q (aEq (a1q 2))))) aGq)
      (a4q (aIq (k:=3) sc_take.nd rfl (Or.inl rfl) (aOq d9q (aOq dDq (aHq aix (a1q 0) a3q (λ _ _=>rfl)) a3q) a3q))
      (a4q (mDq (aOq aSq (aOq d9q (aOq aSq (aOq dDq (a1q 3) a3q) a3q) a3q) a3q) (m1q (a1q 0) a3q))
      (a7q (aEq (aOq d9q (aOq fLq (aOq aSq (aOq dDq (a1q 3) a3q) (aHq aix (a1q 0) a3q (λ _ _=>rfl))) a3q) (a1q 1))))))),?_⟩
  refine a6q hF ⟨λ c=>?_,λ c=>?_⟩
  . refine a6q hF ⟨h0,a6q hF ⟨⟨h0,by omega⟩,aTq hF ⟨0,rfl,Dr.of (q _ _ .mk (Int.emod_nonneg _ (by omega)) (Int.emod_lt_of_pos _ h0))⟩⟩⟩
  . refine a6q hF ⟨.inr ⟨by decide,by decide⟩,by simp,.inr ⟨by decide,by decide⟩,by simp,aTq hF ⟨1,rfl,.inr ⟨by decide,by decide⟩,a6q a5q ⟨⟨by decide,by decide⟩,h0,Dr.of (q _ _ .mk (Int.emod_nonneg _ (by omega)) (Int.emod_lt_of_pos _ h0))⟩⟩⟩
abbrev kPq:Stmt:=top 46
theorem sc_feed:FnScope ["_law_script", "_law_k", "_law_cell", "_law_own"] ["_law_script", "_law_k"] (aDq kPq):=⟨rfl,rfl,rfl,by decide +kernel,rfl,by decide +kernel,by decide +kernel⟩
theorem w2q (B:Blt mg) (F:Fun K "_law_feed" "_law_feed" kPq f fd):FnOk P w K mg base CX0 1 f fd ["_law_script", "_law_k"] (aRq K jDq):=by
  refine okD (k:=0) F sc_feed (λ ds G DQ h=>?_) (λ cdv A outer s H E hr ds G DQ h=>?_)
  . unfold jDq at h;split at h
    . rfl
    . exact h.elim
  unfold jDq at h;split at h
  case h_2=>exact h.elim
  next ss k=>
  obtain ⟨ns,rfl,hl,h0,h1,q⟩:=h
  have fin:∀ x y:Int,∀ p,G p=none->Dr DQ (.ref p) (up G p (fed x y)):=λ x y p hp=>Dr.of (q p x y hp)
  have at_ok:∀ j:Int,0<=j->j < ns.length->∃ v,atI (ns.map D.int) j=some (.int v):=λ j j0 j1=>by
    refine ⟨ns[j.toNat],?_⟩
    have e:=bFq (xs:=ns.map D.int) (j:=j.toNat) (v:=D.int ns[j.toNat]) (by simp [show j.toNat < ns.length by omega])
    rwa [show ((j.toNat:Nat):Int)=j by omega] at e
  refine ⟨_,(a4q (aIq (k:=2) sc_feed.nd rfl (Or.inl rfl) (aOq aSq (aOq dDq a3q (a1q 1)) a3q))
      (a4q (aNq (aBq c3q (a1q 1) (aCq aFq rfl B.len PySem.boot_len (a0q (a1q 0) a2q)) (aAq _)) (a7q (aIq (k:=2) sc_feed.nd rfl (Or.inl rfl) (aHq aix (a1q 0) (a1q 1) (λ _ _=>rfl)))) (a7q (aNq (aBq dIq (aCq aFq rfl B.len PySem.boot_len (a0q (a1q 0) a2q)) a3q (aAq _)) (a7q (aIq (k:=2) sc_feed.nd rfl (Or.inl rfl) (aOq aSq (aOq dDq (aOq d9q (aHq aix (a1q 0) (aOq d9q (a1q 1) (aCq aFq rfl B.len PySem.boot_len (a0q (a1q 0) a2q))) (λ _ _=>rfl)) a3q) a3q) (aOq dDq a3q (a1q 1))))) aGq)))
      (a4q (aIq (k:=3) sc_feed.nd rfl (Or.inl rfl) a3q)
      (a4q (aNq (aBq aJ3q (a1q 2) (aOq vMq a3q a3q) (aAq _)) (a7q (aIq (k:=3) sc_feed.nd rfl (Or.inl rfl) (a1q 2))) aGq)
      (a7q (aEq (bSq (a0q (a1q 3) (a0q (aOq aSq (aOq d9q (aOq aSq (aOq dDq (aOq d9q (a1q 2) a3q) a3q) (aOq dDq a3q (a1q 1))) a3q) a3q) a2q))))))))),?_⟩
  refine ⟨.inl ⟨by decide,by decide⟩,⟨λ c=>?_,λ c=>?_⟩⟩
  . have c':k < ns.length:=by simpa using c
    obtain ⟨v,hv⟩:=at_ok k h0 c'
    refine (u0q hv ⟨⟨by decide,by decide,by decide⟩,λ c=>?_,λ c=>?_⟩)
    . exact ⟨by simp,.inr ⟨by decide,by decide⟩,.inl ⟨by decide,by decide⟩,by simp,λ p hp=>fin _ _ p hp⟩
    . exact ⟨by simp,.inr ⟨by decide,by decide⟩,.inl ⟨by decide,by decide⟩,by simp,λ p hp=>fin _ _ p hp⟩
  . refine ⟨λ c=>?_,λ c=>?_⟩
    . have c':0 < ns.length:=by
        have:(0:Int) < (ns.map D.int).length:=by simpa using c
        simpa using this
      obtain ⟨v,hv⟩:=at_ok (k % (ns.map D.int).length) (Int.emod_nonneg _ (show ((ns.map D.int).length:Int)≠0 by rw [Yf];omega)) (by have:=Int.emod_lt_of_pos k (show (0:Int) < (ns.map D.int).length by simpa using c');simpa using this)
      refine ⟨by simpa using c',?_⟩
      refine (u0q hv ⟨by simp,.inr ⟨by decide,by decide⟩,.inl ⟨by decide,by decide⟩,⟨by decide,by decide,by decide⟩,λ c=>?_,λ c=>?_⟩)
      . exact ⟨by simp,.inr ⟨by decide,by decide⟩,.inl ⟨by decide,by decide⟩,by simp,λ p hp=>fin _ _ p hp⟩
      . exact ⟨by simp,.inr ⟨by decide,by decide⟩,.inl ⟨by decide,by decide⟩,by simp,λ p hp=>fin _ _ p hp⟩
    . refine ⟨⟨by decide,by decide,by decide⟩,λ c=>?_,λ c=>?_⟩
      . exact ⟨by simp,.inr ⟨by decide,by decide⟩,.inl ⟨by decide,by decide⟩,by simp,λ p hp=>fin _ _ p hp⟩
      . exact ⟨by simp,.inr ⟨by decide,by decide⟩,.inl ⟨by decide,by decide⟩,by simp,λ p hp=>fin _ _ p hp⟩
abbrev fRq:Stmt:=top 6
theorem sc_walked:FnScope ["thing", "inners_of", "found", "pending", "one"] ["thing", "inners_of"] (aDq fRq):=⟨rfl,rfl,rfl,by decide +kernel,rfl,by decide +kernel,by decide +kernel⟩
theorem r5q {k0:Nat} (B:Blt mg) (F:Fun K "walked" "walked" fRq f fd):FnOk P w K mg base CX0 (k0+1) f fd ["thing", "inners_of"] (aRq K (iUq P w K mg base k0)):=by
  refine okD (k:=k0) F sc_walked (λ ds G DQ h=>?_) (λ cdv A outer s H E hr ds G DQ h=>?_)
  . obtain ⟨_,_,_,_,_,_,rfl,_⟩:=h;rfl
  obtain ⟨α,enc,inn,all,fi,x,rfl,hall,G_inners_of,hsz,fin⟩:=h
  refine ⟨_,(a4q (aIq (k:=2) sc_walked.nd rfl (Or.inl rfl) (bSq a2q))
      (a4q (aIq (k:=3) sc_walked.nd rfl (Or.inl rfl) (bSq (a0q (a1q 0) a2q)))
      (a4q (dGq PassesOwn.never (bBq (a1q 3)) (a4q (aIq (k:=4) sc_walked.nd rfl (Or.inl rfl) (f1q PySem.F.plainAttrs_list PySem.F.slot_list_pop PySem.F.type_list_pop dPq (a1q 3)))
      (a4q (bDq (c1q PySem.F.plainAttrs_list PySem.F.slot_list_append PySem.F.type_list_append aXq (a1q 2) (a0q (a1q 4) a2q)))
      (a7q (bDq (c1q PySem.F.plainAttrs_list PySem.F.slot_list_extend PySem.F.type_list_extend eOq (a1q 3) (a0q (h0q rfl B.list rfl B.reversed (xTq 1 G_inners_of hr (by omega) (a0q (a1q 4) a2q))) a2q)))))))
      (a7q (aEq (a1q 2)))))),?_⟩
  intro a ha b hb
  obtain ⟨-,hb0,hne⟩:=dLq (o:=.lst []) hb
  refine ⟨λ μ ρ G'=>∃ (ps fs:List α) (o4:Option D),ρ=[some (enc x),some (.ref fi),some (.ref a),some (.ref b),o4]/\up (up G a (.lst (fs.map enc))) b (.lst (ps.reverse.map enc))=G'/\fs++ps.flatMap all=all x/\(ps.flatMap all).length=μ,⟨_,[x],[],_,rfl,rfl,by simp,rfl⟩,?_⟩
  rintro μ ρ G' ⟨ps,fs,o4,rfl,rfl,hfs,rfl⟩
  have hlen:fs.length+(ps.flatMap all).length=(all x).length:=by rw [<- hfs,Yg]
  refine a6q a5q ⟨λ c=>?_,λ c=>?_⟩
  . obtain ⟨y,qs,rfl⟩:∃ y qs,ps=y::qs:=by
      cases ps with
      | nil=>simp at c
      | cons z qs=>exact ⟨z,qs,rfl⟩
    rw [YC,hall y,Yv] at hfs
    have hl2:=mWq hall ((inn y)++qs)
    rw [YC,hall y,Yv,Yb,<- Y1] at hlen
    rw [Yg] at hl2
    rw [<- Y1] at hfs
    refine ⟨a6q a5q trivial,aTq a5q ⟨qs.reverse.map enc,enc y,by simp,?_⟩⟩
    rw [cTq]
    have ha1:∀ o,up (up G a (.lst (fs.map enc))) b o a=some (.lst (fs.map enc)):=λ o=>by rw [aQq (Ne.symm hne)];exact a5q
    refine ⟨a6q (ha1 _) trivial,aTq (ha1 _) ⟨aZq (by rw [Yf];omega),?_⟩⟩
    rw [up3 hne]
    refine ⟨a6q a5q trivial,rfl,y,rfl,λ p hp=>?_⟩
    have np:b≠p:=by rintro rfl;rw [a5q] at hp;cases hp
    refine aTq (by rw [aQq np];exact a5q) (aTq a5q ⟨fBq (by simp only [Yf,Ym];omega),?_⟩)
    refine ⟨_,up (up G a (.lst (fs.map enc++[enc y]))) b (.lst (qs.reverse.map enc++((inn y).map enc).reverse)),.refl _,Sub.put (Sub.trans (Sub.new (Sub.refl _) (by rw [aQq hne];exact hb0)) (Sub.new (Sub.refl _) hp)),((inn y++qs).flatMap all).length,?_,inn y++qs,fs++[y],_,rfl,?_,?_,rfl⟩
    . rw [YC,hall y,Yv,Yb,Y1];omega
    . simp
    . rw [<- hfs,Y1];simp
  . have e:ps=[]:=by
      cases ps with
      | nil=>rfl
      | cons _ _=>simp at c
    subst e
    have e2:fs=all x:=by simpa using hfs
    subst e2
    exact ⟨up G a (.lst ((all x).map enc)),Sub.new (Sub.refl _) (by rw [aQq hne];exact hb0),fin a ha⟩
abbrev qWq:Stmt:=top 11
theorem aJ8q:FnScope ["thing"] ["thing"] (aDq qWq):=⟨rfl,rfl,rfl,by decide +kernel,rfl,by decide +kernel,by decide +kernel⟩
theorem aF5q (B:Blt mg)  (F:Fun K "is_whole_number" "is_whole_number" qWq f fd):FnOk P w K mg base CX0 1 f fd ["thing"] (aRq K l4q):=by
  refine okD (k:=0) F aJ8q (λ ds G DQ h=>?_) (λ cdv A outer s H E hr ds G DQ h=>?_)
  . obtain ⟨_,rfl,_⟩:=h;rfl
  obtain ⟨d,rfl,t,q⟩:=h
  refine ⟨_,(a7q (aEq (eEq (aCq bLq rfl B.isinstance PyProof.Rows.boot_isinstance (a0q (a1q 0) (a0q (bRq rfl B.int PyProof.Rows.boot_int) a2q))) (f0q (oXq (aCq bLq rfl B.isinstance PyProof.Rows.boot_isinstance (a0q (a1q 0) (a0q (bRq rfl B.bool PyProof.Rows.boot_bool) a2q)))))))),?_⟩
  cases t with
  | int n=>exact ⟨true,rfl,λ _=>⟨false,rfl,Dr.of (q true ⟨λ _=>⟨n,rfl⟩,λ _=>rfl⟩)⟩,nofun⟩
  | bl b=>exact ⟨true,rfl,λ _=>⟨true,rfl,Dr.of (q false ⟨nofun,λ⟨_,e⟩=>nomatch e⟩)⟩,nofun⟩
  | ref h=>obtain ⟨ds,h⟩:=h;exact a6q h ⟨false,rfl,nofun,λ _=>Dr.of (q false ⟨nofun,λ⟨_,e⟩=>nomatch e⟩)⟩
  | str z=>exact ⟨false,rfl,nofun,λ _=>Dr.of (q false ⟨nofun,λ⟨_,e⟩=>nomatch e⟩)⟩
  | non=>exact ⟨false,rfl,nofun,λ _=>Dr.of (q false ⟨nofun,λ⟨_,e⟩=>nomatch e⟩)⟩
  | tup _=>exact ⟨false,rfl,nofun,λ _=>Dr.of (q false ⟨nofun,λ⟨_,e⟩=>nomatch e⟩)⟩
abbrev oAq:Stmt:=top 15
theorem aG4q:FnScope ["thing"] ["thing"] (aDq oAq):=⟨rfl,rfl,rfl,by decide +kernel,rfl,by decide +kernel,by decide +kernel⟩
theorem aI1q (B:Blt mg)  (F:Fun K "has_answer_word" "has_answer_word" oAq f fd):FnOk P w K mg base CX0 1 f fd ["thing"] (aRq K vYq):=by
  refine okD (k:=0) F aG4q (λ ds G DQ h=>?_) (λ cdv A outer s H E hr ds G DQ h=>?_)
  . obtain ⟨_,rfl,_⟩:=h;rfl
  obtain ⟨d,rfl,t,q⟩:=h
  refine ⟨_,(a7q (aEq (eEq (aCq bLq rfl B.isinstance PyProof.Rows.boot_isinstance (a0q (a1q 0) (a0q (bRq rfl B.tuple PyProof.Rows.boot_tuple) a2q))) (eEq (d3q dIq (aCq aFq rfl B.len PySem.boot_len (a0q (a1q 0) a2q)) a3q (aAq _)) (f0q (d3q (rGq (aPq hr)) (aHq aix (a1q 0) a3q (λ _ _=>rfl)) (b1q (a0q a8q (a0q a8q (a0q a8q a2q)))) (by with_unfolding_all rfl))))))),?_⟩
  cases t with
  | ref h=>obtain ⟨ds,h⟩:=h;exact a6q h ⟨false,rfl,nofun,λ _=>Dr.of q⟩
  | @tup ds hd=>
    refine ⟨true,rfl,λ _=>⟨λ c=>?_,λ c=>?_⟩,nofun⟩
    . cases ds with
      | nil=>exact absurd c (by decide)
      | cons x r=>
        cases hd x (Ya ..) with
        | str z=>
          refine ⟨["is", "some", "both"],rfl,rfl,Dr.of ?_⟩
          rw [aN4q];exact q
        | ref h=>obtain ⟨es,h⟩:=h;exact ⟨["is", "some", "both"],rfl,a6q h (Dr.of q)⟩
        | tup _=>exact ⟨["is", "some", "both"],rfl,Dr.of q⟩
        | int n=>exact ⟨["is", "some", "both"],rfl,rfl,Dr.of q⟩
        | bl b=>exact ⟨["is", "some", "both"],rfl,rfl,Dr.of q⟩
        | non=>exact ⟨["is", "some", "both"],rfl,rfl,Dr.of q⟩
    . cases ds with
      | nil=>exact Dr.of q
      | cons x r=>have c':=of_decide_eq_false c;simp only [Yb] at c';omega
  | _=>exact ⟨false,rfl,nofun,λ _=>Dr.of q⟩
abbrev oSq:Stmt:=top 14
theorem aF7q:FnScope ["thing"] ["thing"] (aDq oSq):=⟨rfl,rfl,rfl,by decide +kernel,rfl,by decide +kernel,by decide +kernel⟩
theorem aB0q (B:Blt mg) (g_isw:Got P w K mg base 1 "is_whole_number" ["thing"] (aRq K l4q))(g_haw:Got P w K mg base 1 "has_answer_word" ["thing"] (aRq K vYq)) (F:Fun K "has_kind_form" "has_kind_form" oSq f fd):FnOk P w K mg base CX0 2 f fd ["thing"] (aRq K v6q):=by
  refine okD (k:=1) F aF7q (λ ds G DQ h=>?_) (λ cdv A outer s H E hr ds G DQ h=>?_)
  . obtain ⟨_,rfl,_⟩:=h;rfl
  obtain ⟨d,rfl,t,q⟩:=h
  refine ⟨_,(a4q (aNq (AW.at (d6q (dAq (bBq (aCq bLq rfl B.isinstance PyProof.Rows.boot_isinstance (a0q (a1q 0) (a0q (bRq rfl B.tuple PyProof.Rows.boot_tuple) a2q))))) (cCq (aBq (aKq (aPq hr)) (aCq aFq rfl B.len PySem.boot_len (a0q (a1q 0) a2q)) a3q (aAq _))))) (a7q (aEq jUq)) aGq)
      (a4q (aNq (aBq (dOq (aPq hr)) (aHq aix (a1q 0) a3q (λ _ _=>rfl)) a8q (aAq _)) (a7q (aEq (eEq (d3q (aKq (aPq hr)) (aCq aFq rfl B.len PySem.boot_len (a0q (a1q 0) a2q)) a3q (aAq _)) (f0q (a9q g_isw hr (by omega) rfl (a0q (aHq aix (a1q 0) a3q (λ _ _=>rfl)) a2q)))))) aGq)
      (a4q (aNq (aBq (dOq (aPq hr)) (aHq aix (a1q 0) a3q (λ _ _=>rfl)) a8q (aAq _)) (a7q (aEq (d3q (aKq (aPq hr)) (aCq aFq rfl B.len PySem.boot_len (a0q (a1q 0) a2q)) a3q (aAq _)))) aGq)
      (a4q (aNq (aBq (dOq (aPq hr)) (aHq aix (a1q 0) a3q (λ _ _=>rfl)) a8q (aAq _)) (a7q (aEq (eEq (d3q (aKq (aPq hr)) (aCq aFq rfl B.len PySem.boot_len (a0q (a1q 0) a2q)) a3q (aAq _)) (f0q (aCq bLq rfl B.isinstance PyProof.Rows.boot_isinstance (a0q (aHq aix (a1q 0) a3q (λ _ _=>rfl)) (a0q (bRq rfl B.tuple PyProof.Rows.boot_tuple) a2q))))))) aGq)
      (a4q (aNq (aBq (dOq (aPq hr)) (aHq aix (a1q 0) a3q (λ _ _=>rfl)) a8q (aAq _)) (a7q (aEq (eEq (d3q (aKq (aPq hr)) (aCq aFq rfl B.len PySem.boot_len (a0q (a1q 0) a2q)) a3q (aAq _)) (eEq (a9q g_haw hr (by omega) rfl (a0q (aHq aix (a1q 0) a3q (λ _ _=>rfl)) a2q)) (f0q (a9q g_haw hr (by omega) rfl (a0q (aHq aix (a1q 0) a3q (λ _ _=>rfl)) a2q))))))) aGq)
      (a7q (aEq (eEq (d3q (rGq (aPq hr)) (aHq aix (a1q 0) a3q (λ _ _=>rfl)) (b1q (a0q a8q (a0q a8q a2q))) (by with_unfolding_all rfl)) (f0q (d3q (aKq (aPq hr)) (aCq aFq rfl B.len PySem.boot_len (a0q (a1q 0) a2q)) a3q (aAq _))))))))))),?_⟩
  have no:(∀ z r,d≠.tup (.str z::r))->DQ (.bl false) G:=λ h=>q false ⟨nofun,λ e=>absurd e (aC3q h)⟩
  cases t with
  | ref h=>obtain ⟨ds,h⟩:=h;exact a6q h ⟨false,rfl,⟨λ _=>⟨λ _=>Dr.of (no λ z r=>nofun),nofun⟩,nofun⟩⟩
  | @tup ds hd=>
    refine ⟨true,rfl,⟨nofun,λ _=>⟨λ c=>?_,λ c=>?_⟩⟩⟩
    . refine Dr.of (no λ z r e=>?_)
      cases e
      have c':=eq_of_beq c
      simp only [Yb] at c';omega
    . cases ds with
      | nil=>exact absurd c (by decide)
      | cons x r=>
        clear c
        cases hd x (Ya ..) with
        | ref h=>
          obtain ⟨es,h⟩:=h
          exact a6q h ⟨nofun,λ _=>a6q h ⟨nofun,λ _=>a6q h ⟨nofun,λ _=>a6q h ⟨nofun,λ _=>⟨["left", "right"],rfl,a6q h ⟨nofun,λ _=>Dr.of (no λ z r=>nofun)⟩⟩⟩⟩⟩⟩
        | tup _=>exact ⟨nofun,λ _=>⟨nofun,λ _=>⟨nofun,λ _=>⟨nofun,λ _=>⟨["left", "right"],rfl,nofun,λ _=>Dr.of (no λ z r=>nofun)⟩⟩⟩⟩⟩
        | int n=>exact ⟨rfl,rfl,Nat.zero_le _,nofun,λ _=>⟨rfl,rfl,Nat.zero_le _,nofun,λ _=>⟨rfl,rfl,Nat.zero_le _,nofun,λ _=>⟨rfl,rfl,Nat.zero_le _,nofun,λ _=>⟨["left", "right"],rfl,rfl,nofun,λ _=>Dr.of (no λ z r=>nofun)⟩⟩⟩⟩⟩
        | bl n=>exact ⟨rfl,rfl,Nat.zero_le _,nofun,λ _=>⟨rfl,rfl,Nat.zero_le _,nofun,λ _=>⟨rfl,rfl,Nat.zero_le _,nofun,λ _=>⟨rfl,rfl,Nat.zero_le _,nofun,λ _=>⟨["left", "right"],rfl,rfl,nofun,λ _=>Dr.of (no λ z r=>nofun)⟩⟩⟩⟩⟩
        | non=>exact ⟨rfl,rfl,Nat.zero_le _,nofun,λ _=>⟨rfl,rfl,Nat.zero_le _,nofun,λ _=>⟨rfl,rfl,Nat.zero_le _,nofun,λ _=>⟨rfl,rfl,Nat.zero_le _,nofun,λ _=>⟨["left", "right"],rfl,rfl,nofun,λ _=>Dr.of (no λ z r=>nofun)⟩⟩⟩⟩⟩
        | str z=>
          refine ⟨λ c=>?_,λ c1=>⟨λ c=>?_,λ c2=>⟨λ c=>?_,λ c3=>⟨λ c=>?_,λ c4=>?_⟩⟩⟩⟩
          . obtain rfl:=eq_of_beq c
            rcases r with _ | ⟨y,_ | ⟨u,r⟩⟩
            . exact ⟨nofun,λ _=>Dr.of (q false ⟨nofun,λ e=>by obtain ⟨n,e⟩:=hf_is.mp e;cases e⟩)⟩
            . refine ⟨λ _=>⟨y,rfl,hd y (by simp),λ b hb=>Dr.of (q b (hb.trans ⟨?_,λ e=>?_⟩))⟩,nofun⟩
              . rintro ⟨n,rfl⟩;exact hf_is.mpr ⟨n,rfl⟩
              . obtain ⟨n,e⟩:=hf_is.mp e;cases e;exact ⟨n,rfl⟩
            . exact ⟨λ c=>absurd (eq_of_beq c) (by simp only [Yb];omega),λ _=>Dr.of (q false ⟨nofun,λ e=>by obtain ⟨n,e⟩:=hf_is.mp e;cases e⟩)⟩
          . obtain rfl:=eq_of_beq c
            refine Dr.of (q _ ?_)
            rw [xSq]
            cases r with
            | nil=>exact ⟨λ _=>rfl,λ _=>rfl⟩
            | cons y r=>exact ⟨λ c=>absurd (eq_of_beq c) (by simp only [Yb];omega),nofun⟩
          . obtain rfl:=eq_of_beq c
            rcases r with _ | ⟨y,_ | ⟨u,_ | ⟨v,r⟩⟩⟩
            . exact ⟨nofun,λ _=>Dr.of (q false ⟨nofun,λ e=>by obtain ⟨_,_,e⟩:=hf_way.mp e;cases e⟩)⟩
            . exact ⟨nofun,λ _=>Dr.of (q false ⟨nofun,λ e=>by obtain ⟨_,_,e⟩:=hf_way.mp e;cases e⟩)⟩
            . refine ⟨λ _=>?_,nofun⟩
              have f:(∀ es,y≠.tup es)->DQ (.bl false) G:=λ h=>q false ⟨nofun,λ e=>by obtain ⟨es,_,e⟩:=hf_way.mp e;cases e;exact absurd rfl (h es)⟩
              cases hd y (by simp) with
              | ref h=>obtain ⟨es,h⟩:=h;exact a6q h ⟨false,rfl,Dr.of (f λ es=>nofun)⟩
              | tup _=>exact ⟨true,rfl,Dr.of (q true ⟨λ _=>hf_way.mpr ⟨_,_,rfl⟩,λ _=>rfl⟩)⟩
              | _=>exact ⟨false,rfl,Dr.of (f λ es=>nofun)⟩
            . exact ⟨λ c=>absurd (eq_of_beq c) (by simp only [Yb];omega),λ _=>Dr.of (q false ⟨nofun,λ e=>by obtain ⟨_,_,e⟩:=hf_way.mp e;cases e⟩)⟩
          . obtain rfl:=eq_of_beq c
            rcases r with _ | ⟨y,_ | ⟨u,_ | ⟨v,r⟩⟩⟩
            . exact ⟨nofun,λ _=>Dr.of (q false ⟨nofun,λ e=>by obtain ⟨_,_,e,_⟩:=hf_both.mp e;cases e⟩)⟩
            . exact ⟨nofun,λ _=>Dr.of (q false ⟨nofun,λ e=>by obtain ⟨_,_,e,_⟩:=hf_both.mp e;cases e⟩)⟩
            . refine ⟨λ _=>⟨y,rfl,hd y (by simp),⟨λ c1=>⟨u,rfl,hd u (by simp),Dr.of (q _ ⟨λ c2=>hf_both.mpr ⟨_,_,rfl,c1,c2⟩,λ e=>by obtain ⟨_,_,e,_,h⟩:=hf_both.mp e;cases e;exact h⟩)⟩,λ c1=>Dr.of (q false ⟨nofun,λ e=>by obtain ⟨_,_,e,h,_⟩:=hf_both.mp e;cases e;rw [c1] at h;exact h⟩)⟩⟩,nofun⟩
            . exact ⟨λ c=>absurd (eq_of_beq c) (by simp only [Yb];omega),λ _=>Dr.of (q false ⟨nofun,λ e=>by obtain ⟨_,_,e,_⟩:=hf_both.mp e;cases e⟩)⟩
          . have n1:z≠"is":=ne_of_beq_false c1
            have n2:z≠"some":=ne_of_beq_false c2
            have n3:z≠"way":=ne_of_beq_false c3
            have n4:z≠"both":=ne_of_beq_false c4
            have iff:=aO4q (r:=r) n1 n2 n3 n4
            refine ⟨["left", "right"],rfl,rfl,⟨λ c=>?_,λ c=>?_⟩⟩
            . rw [tXq,Bool.or_eq_true,beq_iff_eq,beq_iff_eq] at c
              refine Dr.of (q _ ?_)
              rw [iff]
              rcases r with _ | ⟨y,_ | ⟨u,r⟩⟩
              . exact ⟨nofun,λ⟨_,a,e⟩=>by cases e⟩
              . exact ⟨λ _=>⟨c,y,rfl⟩,λ _=>rfl⟩
              . exact ⟨λ c=>absurd (eq_of_beq c) (by simp only [Yb];omega),λ⟨_,a,e⟩=>by cases e⟩
            . rw [tXq,Bool.or_eq_false_iff] at c
              exact Dr.of (q false ⟨nofun,λ e=>by
                rcases (iff.mp e).1 with e | e
                . exact absurd e (ne_of_beq_false c.1)
                . exact absurd e (ne_of_beq_false c.2)⟩)
  | _=>exact ⟨false,rfl,⟨λ _=>⟨λ _=>Dr.of (no λ z r=>nofun),nofun⟩,nofun⟩⟩
abbrev kJq:Stmt:=top 16
theorem wOq:FnScope ["kind"] ["kind"] (aDq kJq):=⟨rfl,rfl,rfl,by decide +kernel,rfl,by decide +kernel,by decide +kernel⟩
theorem xHq (B:Blt mg)  (F:Fun K "inner_kinds" "inner_kinds" kJq f fd):FnOk P w K mg base CX0 1 f fd ["kind"] (aRq K q8q):=by
  refine okD (k:=0) F wOq (λ ds G DQ h=>?_) (λ cdv A outer s H E hr ds G DQ h=>?_)
  . obtain ⟨_,_,_,rfl,_⟩:=h;rfl
  obtain ⟨d,is,bs,rfl,hf,hz,q⟩:=h
  refine ⟨_,(a4q (aNq (AW.at (d6q (aBq (aKq (aPq hr)) (aHq aix (a1q 0) a3q (λ _ _=>rfl)) a8q (aAq _)) (cCq (aBq (aKq (aPq hr)) (aHq aix (a1q 0) a3q (λ _ _=>rfl)) a8q (aAq _))))) (a7q (aEq (b1q a2q))) aGq)
      (a4q (aNq (aBq (aKq (aPq hr)) (aHq aix (a1q 0) a3q (λ _ _=>rfl)) a8q (aAq _)) (a7q (aEq (aOq aSq (aHq aix (a1q 0) a3q (λ _ _=>rfl)) (b1q (a0q (aHq aix (a1q 0) a3q (λ _ _=>rfl)) a2q))))) aGq)
      (a7q (aEq (bCq asl (a1q 0) (b2q a3q) bPq))))),?_⟩
  cases hf with
  | is n=>exact ⟨λ _=>⟨λ _=>Dr.of q,nofun⟩,λ c=>absurd c (by decide)⟩
  | some=>exact ⟨λ c=>absurd c (by decide),λ _=>⟨λ _=>Dr.of q,λ c=>absurd c (by decide)⟩⟩
  | both _ _=>exact ⟨λ c=>absurd c (by decide),λ _=>⟨λ c=>absurd c (by decide),λ _=>⟨λ c=>absurd c (by decide),λ _=>Dr.of q⟩⟩⟩
  | left _=>exact ⟨λ c=>absurd c (by decide),λ _=>⟨λ c=>absurd c (by decide),λ _=>⟨λ c=>absurd c (by decide),λ _=>Dr.of q⟩⟩⟩
  | right _=>exact ⟨λ c=>absurd c (by decide),λ _=>⟨λ c=>absurd c (by decide),λ _=>⟨λ c=>absurd c (by decide),λ _=>Dr.of q⟩⟩⟩
  | way ds k=>
    refine ⟨λ c=>absurd c (by decide),λ _=>⟨λ c=>absurd c (by decide),λ _=>⟨λ _=>?_,λ c=>absurd c (by decide)⟩⟩⟩
    have:=fFq ds
    simp only [tsz,b5q] at hz
    exact ⟨fBq (by simp;omega),Dr.of q⟩
abbrev g8q:Stmt:=top 17
theorem sc_sorted:FnScope ["kinds", "keys"] ["kinds"] (aDq g8q):=⟨rfl,rfl,rfl,by decide +kernel,rfl,by decide +kernel,by decide +kernel⟩
theorem pFq (B:Blt mg) (g_flat:Got P w K mg base 1 "flat" ["thing"] (aRq K qLq)) (F:Fun K "is_sorted" "is_sorted" g8q f fd):FnOk P w K mg base CX0 2 f fd ["kinds"] (aRq K hXq):=by
  refine okD (k:=1) F sc_sorted (λ ds G DQ h=>?_) (λ cdv A outer s H E hr ds G DQ h=>?_)
  . obtain ⟨_,rfl,_⟩:=h;rfl
  obtain ⟨es,rfl,hk,hl,q⟩:=h
  refine ⟨_,(a4q (aNq (aBq c3q (aCq aFq rfl B.len PySem.boot_len (a0q (a1q 0) a2q)) a3q (aAq _)) (a7q (aEq jUq)) aGq)
      (a4q (dEq (k:=1) rfl sc_sorted.nd rfl (Or.inl rfl) (CompOk.of (N':=["kind"]) (nt:=1) (cap:=[]) rfl (by kernel_rfl)) (b8q (k:=0) (by decide)) (cKq (a1q 0)) (λ _ _ _ _=>(bEq (k:=0) (show YA (["kind"]:List Str) by decide +kernel) rfl (Or.inl rfl)))  (λ _ _ _ _=>(a9q g_flat hr (by omega) rfl (a0q (a1q 0) a2q))))
      (a7q (aEq (d3q (sAq (aPq hr)) (a1q 1) (aCq (iWq (aPq hr)) rfl B.sorted PyProof.Rows.boot_sorted (a0q (a1q 1) a2q)) (aAq _)))))),?_⟩
  refine ⟨λ c=>?_,λ c=>?_⟩
  . have c':=of_decide_eq_true c
    refine Dr.of ?_
    rcases es with _ | ⟨x,_ | ⟨y,r⟩⟩
    . exact q
    . exact q
    . simp only [Yb] at c';omega
  . refine e2q (λ i ds G'=>∃ zs:List (Addr × D),ds=zs.map (λ z=>D.ref z.1)/\zs.map (·.2)=es.take i/\(∀ z∈zs,FlG G' z)/\Sub G G') (aZq (by show es.length<=_;omega)) ⟨[],rfl,rfl,by simp,Sub.refl _⟩ (λ _ _ _ _ _=>trivial) ?_ ?_
    . rintro i d ds G' hd ⟨zs,rfl,hzs,hF,hS⟩
      have hd':es[i]?=some d:=hd
      have hm:=YL hd'
      refine ⟨d,rfl,(hk d hm).1,(hk d hm).2,λ l hl'=>⟨_,Sub.refl _,zs++[(l,d)],by simp,?_,λ z hz=>?_,Sub.trans hS (Sub.new (Sub.refl _) hl')⟩⟩
      . rw [YQ,hzs,YY,hd'];rfl
      . rcases Yq.mp hz with hz | hz
        . obtain ⟨h1,h2⟩:=hF z hz
          exact ⟨h1,by rw [aQq (by rintro e;rw [e,hl'] at h2;cases h2)];exact h2⟩
        . simp at hz;subst hz;exact ⟨(hk d hm).1,a5q⟩
    . rintro ds G' ⟨zs,rfl,hzs,hF,hS⟩ p hp
      have hzs':zs.map (·.2)=es:=by
        rw [hzs];exact YW
      have hzl:zs.length=es.length:=by rw [<- hzs',Yf]
      have hF1:∀ z∈zs,FlG (up G' p (.lst (zs.map λ z=>D.ref z.1))) z:=λ z hz=>by
        obtain ⟨h1,h2⟩:=hF z hz
        exact ⟨h1,by rw [aQq (by rintro e;rw [e,hp] at h2;cases h2)];exact h2⟩
      refine ⟨zs,a5q,by omega,hF1,λ zs' hperm hsrt p' hp'=>?_⟩
      have hF2:∀ z∈zs,FlG (up (up G' p (.lst (zs.map λ z=>D.ref z.1))) p' (.lst (zs'.map λ z=>D.ref z.1))) z:=λ z hz=>by
        obtain ⟨h1,h2⟩:=hF1 z hz
        exact ⟨h1,by rw [aQq (by rintro e;rw [e,hp'] at h2;cases h2)];exact h2⟩
      have npp:p≠p':=by rintro rfl;rw [a5q] at hp';cases hp'
      refine ⟨zs,zs',by rw [aQq npp];exact a5q,a5q,hF2,λ z hz=>hF2 z (hperm.mem_iff.mpr hz),hperm.length_eq,λ b hb=>⟨G,Sub.trans hS (Sub.trans (Sub.new (Sub.refl _) hp) (Sub.new (Sub.refl _) hp')),?_⟩⟩
      have e:b=gVq es:=by
        rw [hzs',v7q (λ d hd=>(hk d hd).1) (by rw [<- hzs'];exact hperm.map _) hsrt] at hb
        cases b<;>cases h:gVq es<;>simp_all
      rw [e];exact q
abbrev fZq:Stmt:=top 13
theorem sc_iskind:FnScope ["thing", "bags", "pending", "one"] ["thing"] (aDq fZq):=⟨rfl,rfl,rfl,by decide +kernel,rfl,by decide +kernel,by decide +kernel⟩
theorem p3q (B:Blt mg) (g_hkf:Got P w K mg base 2 "has_kind_form" ["thing"] (aRq K v6q))(g_innk:Got P w K mg base 1 "inner_kinds" ["kind"] (aRq K q8q))(g_sorted:Got P w K mg base 2 "is_sorted" ["kinds"] (aRq K hXq)) (F:Fun K "is_kind" "is_kind" fZq f fd):FnOk P w K mg base CX0 3 f fd ["thing"] (aRq K iNq):=by
  refine okD (k:=2) F sc_iskind (λ ds G DQ h=>?_) (λ cdv A outer s H E hr ds G DQ h=>?_)
  . obtain ⟨_,rfl,_⟩:=h;rfl
  obtain ⟨d,rfl,ht,hB,q⟩:=h
  refine ⟨_,(a4q (aIq (k:=1) sc_iskind.nd rfl (Or.inl rfl) (bSq a2q))
      (a4q (aIq (k:=2) sc_iskind.nd rfl (Or.inl rfl) (bSq (a0q (a1q 0) a2q)))
      (a4q (dGq PassesOwn.never (bBq (a1q 2)) (a4q (aIq (k:=3) sc_iskind.nd rfl (Or.inl rfl) (f1q PySem.F.plainAttrs_list PySem.F.slot_list_pop PySem.F.type_list_pop dPq (a1q 2)))
      (a4q (aNq (dAq (bBq (a9q g_hkf hr (by omega) rfl (a0q (a1q 3) a2q)))) (a7q (aEq jUq)) aGq)
      (a4q (aNq (aBq (aKq (aPq hr)) (aHq aix (a1q 3) a3q (λ _ _=>rfl)) a8q (aAq _)) (a7q (bDq (c1q PySem.F.plainAttrs_list PySem.F.slot_list_append PySem.F.type_list_append aXq (a1q 1) (a0q (aHq aix (a1q 3) a3q (λ _ _=>rfl)) a2q)))) aGq)
      (a7q (bDq (c1q PySem.F.plainAttrs_list PySem.F.slot_list_extend PySem.F.type_list_extend eOq (a1q 2) (a0q (a9q g_innk hr (by omega) rfl (a0q (a1q 3) a2q)) a2q))))))))
      (a7q (aEq (bOq (aCq (gCq rfl) rfl B.all PyProof.Rows.boot_all (a0q (cXq rfl (CompOk.of (N':=["bag"]) (nt:=1) (cap:=[]) rfl (by kernel_rfl)) (b8q (k:=0) (by decide)) (cKq (a1q 1)) (λ _ _ _ _=>(bEq (k:=0) (show YA (["bag"]:List Str) by decide +kernel) rfl (Or.inl rfl))) (λ _ _ _ _=>(a9q g_sorted hr (by omega) rfl (a0q (a1q 0) a2q)))) a2q)))))))),?_⟩
  intro a ha b hb
  obtain ⟨-,hb0,hne⟩:=dLq (o:=.lst []) hb
  have lsG:∀ (X Y:DO) (r:Addr),isL G r->isL (up (up G a X) b Y) r:=λ X Y r ⟨ds,h⟩=>⟨ds,by rw [aQq (by rintro rfl;rw [hb0] at h;cases h),aQq (by rintro rfl;rw [ha] at h;cases h)];exact h⟩
  refine ⟨λ μ ρ G'=>∃ (ps:List D) (bs:List (List D)) (o3:Option D),ρ=[some d,some (.ref a),some (.ref b),o3]/\up (up G a (.lst (bs.map D.tup))) b (.lst ps.reverse)=G'/\(IsKd d ↔ (∀ x∈bs,gVq x=true)/\∀ p∈ps,IsKd p)/\((∀ p∈ps,Frm p)->∀ x∈bs,∀ y∈x,Frm y)/\(∀ p∈ps,Th (isL G) p/\Bd 49000 150 63 p)/\(∀ x∈bs,x.length<=63/\∀ y∈x,tsz y<=49000)/\b5q ps+bs.length<=49000/\b5q ps=μ,⟨_,[d],[],_,rfl,rfl,by simp,by simp,by simpa using ⟨ht,hB⟩,by simp,by have:=hB.sz;simp only [b5q,Yj];omega,rfl⟩,?_⟩
  rintro μ ρ G' ⟨ps,bs,o3,rfl,rfl,hV,hFr,hps,hbs,hsz,rfl⟩
  refine a6q a5q ⟨λ c=>?_,λ c=>?_⟩
  . obtain ⟨y,qs,rfl⟩:∃ y qs,ps=y::qs:=by
      cases ps with
      | nil=>simp at c
      | cons z qs=>exact ⟨z,qs,rfl⟩
    rw [b5q] at hsz
    have hql:=fFq qs
    have hyp:=lDq y
    obtain ⟨hty,hBy⟩:=hps y (Ya ..)
    refine ⟨a6q a5q trivial,aTq a5q ⟨qs.reverse,y,by simp,?_⟩⟩
    rw [cTq]
    have ha1:∀ (X:DO) o,up (up G a X) b o a=some X:=λ X o=>by rw [aQq (Ne.symm hne)];exact a5q
    refine ⟨y,rfl,hty.mono (lsG _ _),λ bb hbb=>⟨λ c=>?_,λ c=>?_⟩⟩
    . have n:¬ ∃ is bs,HF y is bs:=λ e=>by
        have z:=hbb.mpr e
        subst z;cases c
      refine ⟨G,Sub.trans (Sub.new (Sub.refl _) ha) (Sub.new (Sub.refl _) (by rw [aQq hne];exact hb0)),q false ⟨nofun,λ e=>absurd ((hV.mp e).2 y (Ya ..)).hf n⟩⟩
    . obtain ⟨is,ys,hf⟩:∃ is bs,HF y is bs:=hbb.mp (by cases bb;cases c;rfl)
      obtain ⟨sz1,sz2⟩:=hf.sz
      have hm:=hf.mem hty hBy
      have kd:=hf.kd
      have fin:∀ (ρ:DSt) (G9:DV),ρ=[some d,some (.ref a),some (.ref b),some y]->up (up G a (.lst ((bs++ys).map D.tup))) b (.lst (qs.reverse++is))=G9->ys.length<=1->Wk (λ ρ G'=>∃ μ',μ' < b5q (y::qs)/\∃ (ps:List D) (bs:List (List D)) (o3:Option D),ρ=[some d,some (.ref a),some (.ref b),o3]/\up (up G a (.lst (bs.map D.tup))) b (.lst ps.reverse)=G'/\(IsKd d ↔ (∀ x∈bs,gVq x=true)/\∀ p∈ps,IsKd p)/\((∀ p∈ps,Frm p)->∀ x∈bs,∀ y∈x,Frm y)/\(∀ p∈ps,Th (isL G) p/\Bd 49000 150 63 p)/\(∀ x∈bs,x.length<=63/\∀ y∈x,tsz y<=49000)/\b5q ps+bs.length<=49000/\b5q ps=μ') ρ G9:=λ ρ G9 e1 e2 hyl=>by
        have sy:=hBy.sz
        refine Wk.of ⟨_,?_,is.reverse++qs,bs++ys,_,e1,?_,?_,?_,?_,?_,?_,rfl⟩
        . rw [b5q,fHq,mIq];omega
        . rw [<- e2];simp
        . rw [hV]
          constructor
          . rintro ⟨h1,h2⟩
            have z:=kd.mp (h2 y (Ya ..))
            refine ⟨λ x hx=>?_,λ p hp=>?_⟩
            . rcases Yq.mp hx with hx | hx
              . exact h1 x hx
              . exact z.2 x hx
            . rcases Yq.mp hp with hp | hp
              . exact z.1 p (Zn.mp hp)
              . exact h2 p (Yc _ hp)
          . rintro ⟨h1,h2⟩
            refine ⟨λ x hx=>h1 x (YG _ hx),λ p hp=>?_⟩
            rcases Yd.mp hp with rfl | hp
            . exact kd.mpr ⟨λ x hx=>h2 x (YG _ (Zn.mpr hx)),λ x hx=>h1 x (Yk _ hx)⟩
            . exact h2 p (Yk _ hp)
        . intro h x hx
          obtain ⟨f1,f2⟩:=hf.fr λ x hx=>h x (YG _ (Zn.mpr hx))
          rcases Yq.mp hx with hx | hx
          . refine hFr (λ p hp=>?_) x hx
            rcases Yd.mp hp with rfl | hp
            . exact f1
            . exact h p (Yk _ hp)
          . exact f2 x hx
        . intro p hp
          rcases Yq.mp hp with hp | hp
          . exact hm p (Zn.mp hp)
          . exact hps p (Yc _ hp)
        . intro x hx
          rcases Yq.mp hx with hx | hx
          . exact hbs x hx
          . obtain ⟨z1,z2⟩:=sz2 x hx
            have:=hBy.wd
            exact ⟨by omega,λ y hy=>by have:=e6q hy;omega⟩
        . rw [fHq,mIq,Yg];omega
      have szi:=fFq is
      have sy:=hBy.sz
      cases hf with
      | is n=>exact ⟨nofun,λ _=>⟨a6q a5q trivial,_,_,_,rfl,(HF.is n),by omega,aTq a5q ⟨fBq (by simp only [Ym,Yb,Yj];omega),by rw [cTq];exact fin _ _ rfl (by simp) (by simp)⟩⟩⟩
      | some=>exact ⟨nofun,λ _=>⟨a6q a5q trivial,_,_,_,rfl,HF.some,by omega,aTq a5q ⟨fBq (by simp only [Ym,Yb,Yj];omega),by rw [cTq];exact fin _ _ rfl (by simp) (by simp)⟩⟩⟩
      | both o1 o2=>exact ⟨nofun,λ _=>⟨a6q a5q trivial,_,_,_,rfl,(HF.both o1 o2),by omega,aTq a5q ⟨fBq (by simp only [Ym,Yb,Yj];omega),by rw [cTq];exact fin _ _ rfl (by simp) (by simp)⟩⟩⟩
      | left x=>exact ⟨nofun,λ _=>⟨a6q a5q trivial,_,_,_,rfl,(HF.left x),by omega,aTq a5q ⟨fBq (by simp only [Ym,Yb,Yj];omega),by rw [cTq];exact fin _ _ rfl (by simp) (by simp)⟩⟩⟩
      | right x=>exact ⟨nofun,λ _=>⟨a6q a5q trivial,_,_,_,rfl,(HF.right x),by omega,aTq a5q ⟨fBq (by simp only [Ym,Yb,Yj];omega),by rw [cTq];exact fin _ _ rfl (by simp) (by simp)⟩⟩⟩
      | way ds k=>
        refine ⟨λ _=>⟨a6q (ha1 _ _) trivial,aTq (ha1 _ _) ⟨aZq (by rw [Yf];omega),?_⟩⟩,nofun⟩
        rw [up3 hne]
        refine ⟨a6q a5q trivial,_,_,_,rfl,HF.way ds k,by omega,aTq a5q ⟨fBq (by simp only [Ym,Yg,YV] at szi ⊢;omega),?_⟩⟩
        rw [cTq]
        exact fin _ _ rfl (by simp) (by simp)
  . have e:ps=[]:=by
      cases ps with
      | nil=>rfl
      | cons _ _=>simp at c
    subst e
    have hK:∀ x∈bs,∀ y∈x,IsK y:=λ x hx y hy=>(hFr (by simp) x hx y hy).isK
    have ha1:∀ (X:DO) o,up (up G a X) b o a=some X:=λ X o=>by rw [aQq (Ne.symm hne)];exact a5q
    refine gIq (ha1 _ _) ?_
    refine cYq bs D.tup (λ x=>.bl (gVq x)) ?_ ?_ ?_ ?_ ?_
    . rfl
    . exact aZq (by simp only [b5q] at hsz;omega)
    . exact ha1 _ _
    . intro x hx R hR
      exact ⟨x,rfl,λ y hy=>⟨hK x hx y hy,(hbs x hx).2 y hy⟩,by have:=(hbs x hx).1;omega,hR⟩
    . intro p hp
      refine a6q a5q ⟨bs.map gVq,?_,G,?_,Dr.of (q _ ?_)⟩
      . rw [show (bs.map λ x=>D.bl (gVq x))=(bs.map gVq).map D.bl from (Yy ..).symm];exact d1q _
      . exact Sub.trans (Sub.trans (Sub.new (Sub.refl _) ha) (Sub.new (Sub.refl _) (by rw [aQq hne];exact hb0))) (Sub.new (Sub.refl _) hp)
      . rw [hV];simp
abbrev gNq:Stmt:=top 23
theorem p0q:FnScope ["text", "signs"] ["text", "signs"] (aDq gNq):=⟨rfl,rfl,rfl,by decide +kernel,rfl,by decide +kernel,by decide +kernel⟩
theorem qHq (B:Blt mg) (F:Fun K "made_of" "made_of" gNq f fd):FnOk P w K mg base CX0 1 f fd ["text", "signs"] (aRq K j2q):=by
  refine okD (k:=0) F p0q (λ ds G DQ h=>?_) (λ cdv A outer s H E hr ds G DQ h=>?_)
  . obtain ⟨_,_,rfl,_⟩:=h;rfl
  obtain ⟨z,y,rfl,hz,q⟩:=h
  refine ⟨_,(a7q (aEq (bOq (aCq (gCq rfl) rfl B.all PyProof.Rows.boot_all (a0q (cXq rfl (CompOk.of (N':=["sign", "signs"]) (nt:=1) (cap:=[1]) rfl (by kernel_rfl)) (b8q (k:=0) (by decide)) (yJq (a1q 0)) (λ _ _ _ _=>(bEq (k:=0) (show YA (["sign", "signs"]:List Str) by decide +kernel) rfl (Or.inl rfl))) (λ _ _ _ _=>(d3q f9q (a1q 0) (a1q 1) (by with_unfolding_all rfl)))) a2q))))),?_⟩
  refine cYq z.cps.toList (λ c=>.str ⟨#[c]⟩) (λ c=>.bl (decide (c∈y.cps.toList))) rfl (aZq ?_) trivial (λ c _ R hR=>?_) (λ p hp=>?_)
  . have:z.cps.toList.length=z.length:=rfl
    omega
  . show R (.bl (false ^^ !(Builtin.Str.occurrences y ⟨#[c]⟩ 0 y.length 1).isEmpty)) G
    rw [o5q,Bool.false_xor];exact hR
  . refine a6q a5q ⟨z.cps.toList.map λ c=>decide (c∈y.cps.toList),?_,G,Sub.new (Sub.refl _) hp,Dr.of ?_⟩
    . rw [show (z.cps.toList.map λ c=>D.bl (decide (c∈y.cps.toList)))=(z.cps.toList.map λ c=>decide (c∈y.cps.toList)).map D.bl by simp];exact d1q _
    . rw [List.all_map];exact q
abbrev fOq:Stmt:=top 19
theorem sc_pieces:FnScope ["text", "signs", "pieces", "start", "at", "sign"] ["text", "signs"] (aDq fOq):=⟨rfl,rfl,rfl,by decide +kernel,rfl,by decide +kernel,by decide +kernel⟩
theorem k7q {sg:Str} {S:List Nat} (hS:sg.cps.toList=S) (B:Blt mg) (F:Fun K "pieces_of" "pieces_of" fOq f fd):FnOk P w K mg base CX0 1 f fd ["text", "signs"] (aRq K (oWq sg S)):=by
  refine okD (k:=0) F sc_pieces (λ ds G DQ h=>?_) (λ cdv A outer s H E hr ds G DQ h=>?_)
  . obtain ⟨_,rfl,_⟩:=h;rfl
  obtain ⟨z,rfl,hz,q⟩:=h
  refine ⟨_,(a4q (aIq (k:=2) sc_pieces.nd rfl (Or.inl rfl) (bSq a2q))
      (a4q (aIq (k:=3) sc_pieces.nd rfl (Or.inl rfl) a3q)
      (a4q (fSq PassesOwn.never rfl (xCq rfl B.enumerate (a0q (a1q 0) a2q)) (aI0q (n:=2) rfl (m5q (bEq (k:=4) sc_pieces.nd rfl (Or.inl rfl)) (m5q (bEq (k:=5) sc_pieces.nd rfl (Or.inl rfl)) v9q))) (a7q (aNq (aBq f9q (a1q 5) (a1q 1) (by with_unfolding_all rfl)) (a4q (aNq (aBq c3q (a1q 3) (a1q 4) (aAq _)) (a7q (bDq (c1q PySem.F.plainAttrs_list PySem.F.slot_list_append PySem.F.type_list_append aXq (a1q 2) (a0q (bCq aslS (a1q 0) (b2q (a1q 3)) (b2q (a1q 4))) a2q)))) aGq)
      (a4q (bDq (c1q PySem.F.plainAttrs_list PySem.F.slot_list_append PySem.F.type_list_append aXq (a1q 2) (a0q (a1q 5) a2q)))
      (a7q (aIq (k:=3) sc_pieces.nd rfl (Or.inl rfl) (aOq aSq (a1q 4) a3q))))) aGq)))
      (a4q (aNq (aBq c3q (a1q 3) (aCq aFq rfl B.len PySem.boot_len (a0q (a1q 0) a2q)) (aAq _)) (a7q (bDq (c1q PySem.F.plainAttrs_list PySem.F.slot_list_append PySem.F.type_list_append aXq (a1q 2) (a0q (bCq aslS (a1q 0) (b2q (a1q 3)) bPq) a2q)))) aGq)
      (a7q (aEq (a1q 2))))))),?_⟩
  intro a ha
  have hzl:z.cps.toList.length=z.length:=Array.length_toList
  generalize hzz:z.cps.toList=zl at q hzl
  refine ⟨λ i ρ G'=>∃ (dn:List Str) (s:Nat) (o4 o5:Option D),ρ=[some (.str z),some (.str sg),some (.ref a),some (.int (s:Int)),o4,o5]/\up G a (.lst (dn.map D.str))=G'/\s<=i/\i<=zl.length/\dn++pcs S ((zl.take i).drop s) (zl.drop i)=pcs S [] zl/\dn.length+(i - s)<=i,⟨[],0,_,_,rfl,rfl,Nat.le_refl _,Nat.zero_le _,by simp,Nat.le_refl _⟩,λ _ _ _ _ _=>trivial,?_,?_⟩
  . rintro i e ρ G' he ⟨dn,s,o4,o5,rfl,rfl,hs,hil,hd,hn⟩
    have he':(enS z)[i]?=some e:=he
    unfold enS at he'
    rw [Yw,List.getElem?_zipIdx,hzz] at he'
    cases hc:zl[i]? with
    | none=>rw [hc] at he';cases he'
    | some c=>
      rw [hc] at he'
      simp at he'
      subst he'
      have hlt:=(Yu.mp hc).1
      have ed:zl.drop i=c::zl.drop (i+1):=by rw [YZ hlt,(Yu.mp hc).2]
      have et:zl.take (i+1)=zl.take i++[c]:=by rw [YY,hc,Option.toList_some]
      have hcl:((zl.take i).drop s).length=i - s:=by rw [Yz,YK];omega
      rw [ed,pcs] at hd
      refine ⟨λ c1=>?_,λ c1=>?_⟩
      . rw [Bool.false_xor,o5q,decide_eq_true_eq,hS] at c1
        rw [if_pos c1] at hd
        refine ⟨λ c2=>?_,λ c2=>?_⟩
        . have c2':s < i:=by have:=of_decide_eq_true c2;omega
          have es:Txt.slice z (some (s:Int)) (some (i:Int))=ofL ((zl.take i).drop s):=by
            rw [eq_of_beq (PyProof.Rows.slice_closes (x:=z) (i:=s) (j:=i) ⟨by omega,by omega,by rw [hzz];omega⟩),hzz]
            refine c9q ?_
            rw [aVq,List.drop_take]
            show (zl.drop s).take ((i:Int) - (s:Int)).toNat=_
            rw [show ((i:Int) - (s:Int)).toNat=i - s by omega]
          refine ⟨a6q a5q trivial,⟨big (by omega),aTq a5q ⟨mKq (by rw [Yf];omega),?_⟩⟩⟩
          rw [cTq]
          refine ⟨a6q a5q trivial,aTq a5q ⟨mKq (by simp only [Yg,Yf,Yb,Yj];omega),Wk.of ⟨dn++[ofL ((zl.take i).drop s),ofL [c]],i+1,_,_,rfl,?_,Nat.le_refl _,by omega,?_,by simp only [Yg,Yb,Yj];omega⟩⟩⟩
          . rw [cTq,es];simp [ofL]
          . rw [<- hd,if_neg (by intro e0;have:=congrArg YJ e0;rw [hcl,Yj] at this;omega),show (zl.take (i+1)).drop (i+1)=[] from Zj (by rw [YK];omega)]
            simp
        . have c2':s=i:=by have:=of_decide_eq_false c2;omega
          subst c2'
          refine ⟨a6q a5q trivial,aTq a5q ⟨mKq (by rw [Yf];omega),Wk.of ⟨dn++[ofL [c]],s+1,_,_,rfl,?_,Nat.le_refl _,by omega,?_,by simp only [Yg,Yb,Yj];omega⟩⟩⟩
          . rw [cTq];simp [ofL]
          . rw [<- hd,if_pos (List.eq_nil_of_length_eq_zero (by rw [hcl];omega)),show (zl.take (s+1)).drop (s+1)=[] from Zj (by rw [YK];omega)]
            simp
      . rw [Bool.false_xor,o5q,decide_eq_false_iff_not,hS] at c1
        rw [if_neg c1] at hd
        refine Wk.of ⟨dn,s,_,_,rfl,rfl,by omega,by omega,?_,by omega⟩
        rw [<- hd,et,List.drop_append_of_le_length (by rw [YK];omega)]
  . rintro ρ G' ⟨dn,s,o4,o5,rfl,rfl,hs,hil,hd,hn⟩
    have el:(⟨enS z,λ _=>True⟩:DIt).items.length=zl.length:=by show (enS z).length=_;unfold enS;rw [Yf,List.length_zipIdx,hzz]
    rw [el] at hs hil hd hn
    have hcl:((zl.take zl.length).drop s).length=zl.length - s:=by rw [Yz,YK];omega
    rw [Zl,pcs] at hd
    refine ⟨big (by omega),⟨λ c2=>?_,λ c2=>?_⟩⟩
    . have c2':s < zl.length:=by have:=of_decide_eq_true c2;omega
      have es:Txt.slice z (some (s:Int)) none=ofL ((zl.take zl.length).drop s):=by
        rw [PyProof.Rows.slice_from_eq (x:=z) (i:=s) (by omega) (by omega) rfl,hzz]
        refine c9q ?_
        rw [aVq,YW]
        show (zl.drop s).take _=_
        rw [Zi]
        rw [Yz];omega
      refine ⟨a6q a5q trivial,⟨big (by omega),aTq a5q ⟨mKq (by rw [Yf];omega),?_⟩⟩⟩
      rw [cTq,es]
      rw [if_neg (by intro e0;have:=congrArg YJ e0;rw [hcl,Yj] at this;omega)] at hd
      have:=q a ha
      rw [<- hd,YQ] at this
      exact Dr.of this
    . have c2':s=zl.length:=by have:=of_decide_eq_false c2;omega
      rw [if_pos (List.eq_nil_of_length_eq_zero (by rw [hcl];omega)),Yt] at hd
      have:=q a ha
      rw [<- hd] at this
      exact Dr.of this
abbrev kFq:Stmt:=top 27
theorem sc_read:FnScope ["text", "frames", "piece", "closed"] ["text"] (aDq kFq):=⟨rfl,rfl,rfl,by decide +kernel,rfl,by decide +kernel,by decide +kernel⟩
theorem xAq (B:Blt mg) {ts:Tok} (m_SIGNS_kindtexts:mg "SIGNS_kindtexts" = some (.str sgnS ts)) (g_pieces:Got P w K mg base 1 "pieces_of" ["text", "signs"] (aRq K mGq)) (g_kcl:Got P w K mg base 2 "kind_closed" ["frame", "sign"] (aRq K x8q)) (g_rpiece:Got P w K mg base 3 "read_piece" ["piece"] (aRq K kNq)) (g_iskind:Got P w K mg base 3 "is_kind" ["thing"] (aRq K iNq)) (F:Fun K "read_kind" "read_kind" kFq f fd):FnOk P w K mg base CX0 4 f fd ["text"] (aRq K l1q):=by
  refine okD (k:=3) F sc_read (λ ds G DQ h=>?_) (λ cdv A outer s H E hr ds G DQ h=>?_)
  . obtain ⟨_,_,rfl,_⟩:=h;rfl
  obtain ⟨d,x,rfl,hx,hk,hb,q⟩:=h
  refine ⟨_,(a4q (aIq (k:=1) sc_read.nd rfl (Or.inl rfl) (bSq (a0q (bSq a2q) a2q)))
      (a4q (fSq PassesOwn.never rfl (cKq (a9q g_pieces hr (by omega) rfl (a0q (a1q 0) (a0q (cIq (d:=.str _) (v:=.str _) rfl m_SIGNS_kindtexts ⟨_,rfl⟩ (λ _=>rfl)) a2q)))) (bEq (k:=2) sc_read.nd rfl (Or.inl rfl)) (a7q (aNq (AW.at (d6q (aBq (aKq (aPq hr)) (a1q 2) a8q (aAq _)) (cCq (aBq (aKq (aPq hr)) (a1q 2) a8q (aAq _))))) (a7q (bDq (c1q PySem.F.plainAttrs_list PySem.F.slot_list_append PySem.F.type_list_append aXq (a1q 1) (a0q (bSq (a0q (a1q 2) a2q)) a2q)))) (a7q (aNq (AW.at (d6q (aBq (aKq (aPq hr)) (a1q 2) a8q (aAq _)) (cCq (aBq (aKq (aPq hr)) (a1q 2) a8q (aAq _))))) (a4q (aIq (k:=3) sc_read.nd rfl (Or.inl rfl) (f1q PySem.F.plainAttrs_list PySem.F.slot_list_pop PySem.F.type_list_pop dPq (a1q 1)))
      (a4q (aNq (aBq (aKq (aPq hr)) (aCq aFq rfl B.len PySem.boot_len (a0q (a1q 1) a2q)) a3q (aAq _)) (a7q c0q) aGq)
      (a7q (bDq (c1q PySem.F.plainAttrs_list PySem.F.slot_list_append PySem.F.type_list_append aXq (aHq aix (a1q 1) (i7q d2q a3q) (λ _ _=>rfl)) (a0q (a9q g_kcl hr (by omega) rfl (a0q (a1q 3) (a0q (a1q 2) a2q))) a2q)))))) (a7q (bDq (c1q PySem.F.plainAttrs_list PySem.F.slot_list_append PySem.F.type_list_append aXq (aHq aix (a1q 1) (i7q d2q a3q) (λ _ _=>rfl)) (a0q (a9q g_rpiece hr (by omega) rfl (a0q (a1q 2) a2q)) a2q)))))))))
      (a4q (aNq (AW.at (d6q (aBq (dMq (aPq hr)) (aCq aFq rfl B.len PySem.boot_len (a0q (a1q 1) a2q)) a3q (aAq _)) (d6q (aBq (dMq (aPq hr)) (aCq aFq rfl B.len PySem.boot_len (a0q (aHq aix (a1q 1) a3q (λ _ _=>rfl)) a2q)) a3q (aAq _)) (cCq (dAq (bBq (a9q g_iskind hr (by omega) rfl (a0q (aHq aix (aHq aix (a1q 1) a3q (λ _ _=>rfl)) a3q (λ _ _=>rfl)) a2q)))))))) (a7q c0q) aGq)
      (a7q (aEq (aHq aix (aHq aix (a1q 1) a3q (λ _ _=>rfl)) a3q (λ _ _=>rfl))))))),?_⟩
  have hxl:=hx.len
  have hcl:=iCq hx.few
  have hsz:=hb.sz
  intro p0 hp0 p1 hp1
  obtain ⟨-,hp10,hne⟩:=dLq (o:=.lst []) hp1
  refine ⟨txt x,rfl,?_,λ l hl=>?_⟩
  . show (cat x).length<=_
    omega
  rw [show (txt x).cps.toList=cat x from rfl,hx.pieces]
  have h2:up G p0 (.lst []) l=none/\l≠p1:=by
    have n:l≠p1:=by rintro rfl;rw [a5q] at hl;cases hl
    rw [aQq n] at hl;exact ⟨hl,n⟩
  have h3:G l=none/\l≠p0:=by
    have n:l≠p0:=by rintro rfl;have:=h2.1;rw [a5q] at this;cases this
    have:=h2.1;rw [aQq n] at this;exact ⟨this,n⟩
  refine gIq a5q ⟨λ i ρ G'=>∃ (fs:List (Addr × List D)) (o2 o3:Option D),ρ=[some (.str (txt x)),some (.ref p1),o2,o3]/\Frs G' p1 fs/\Sub (up G l (.lst (x.map D.str))) G'/\(∀ p∈fs,up G l (.lst (x.map D.str)) p.1=none)/\Rn (fs.map (·.2)) (x.drop i) [[d]]/\fs.length<=i+1/\∀ p∈fs,p.2.length<=i+1,⟨[(p0,[])],_,_,rfl,?_,?_,?_,?_,Nat.le_refl _,by simp⟩,?_,?_,?_⟩
  . refine ⟨by rw [aQq h2.2.symm,a5q];rfl,λ p hp=>?_,by simp,λ p hp=>?_⟩
    . simp at hp;subst hp
      rw [aQq h3.2.symm,aQq hne.symm];exact a5q
    . simp at hp;subst hp;exact hne.symm
  . exact Sub.put (Sub.new (Sub.new (Sub.refl _) hp0) hp10)
  . intro p hp
    simp at hp;subst hp
    rw [aQq h3.2.symm];exact hp0
  . exact hx.rn [] []
  . rintro i ρ G' _ ⟨fs,o2,o3,rfl,hF,hS,_⟩
    exact hS l _ a5q
  . rintro i e ρ G' he ⟨fs,o2,o3,rfl,hF,hS,hfs,hR,hl1,hl2⟩
    have he':(x.map D.str)[i]?=some e:=he
    rw [Yw] at he'
    cases hc:x[i]? with
    | none=>rw [hc] at he';cases he'
    | some p=>
      rw [hc] at he';cases he'
      have hlt:=(Yu.mp hc).1
      rw [YZ hlt,(Yu.mp hc).2] at hR
      have hp1x:up G l (.lst (x.map D.str)) p1=none:=by rw [aQq h2.2.symm];exact hp10
      cases hR with
      | cons hst hR=>
        generalize hs0:fs.map (·.2)=st at hst
        cases hst with
        | opn _ hp=>
          rcases hp with rfl | rfl
          . refine ⟨λ _=>⟨λ _=>?_,nofun⟩,λ c=>absurd c (by decide)⟩
            refine ⟨a6q hF.top trivial,λ r hr=>?_⟩
            have n1:r≠p1:=by rintro rfl;rw [hF.top] at hr;cases hr
            have hr0:=hS.none hr
            refine aTq (by rw [aQq n1.symm];exact hF.top) ⟨aZq (by simp only [Yf,Ym];omega),Wk.of ⟨(r,[.str "["])::fs,_,_,rfl,hF.push hr,Sub.new (Sub.new hS hr0) hp1x,λ p hp=>?_,?_,by simp only [Yb];omega,λ p hp=>?_⟩⟩
            . rcases Yd.mp hp with rfl | hp
              . exact hr0
              . exact hfs p hp
            . rw [Yh,hs0];exact hR
            . rcases Yd.mp hp with rfl | hp
              . simp
              . have:=hl2 p hp;omega
          . refine ⟨λ c=>absurd c (by decide),λ _=>⟨λ _=>?_,λ c=>absurd c (by decide)⟩⟩
            refine ⟨a6q hF.top trivial,λ r hr=>?_⟩
            have n1:r≠p1:=by rintro rfl;rw [hF.top] at hr;cases hr
            have hr0:=hS.none hr
            refine aTq (by rw [aQq n1.symm];exact hF.top) ⟨aZq (by simp only [Yf,Ym];omega),Wk.of ⟨(r,[.str "("])::fs,_,_,rfl,hF.push hr,Sub.new (Sub.new hS hr0) hp1x,λ p hp=>?_,?_,by simp only [Yb];omega,λ p hp=>?_⟩⟩
            . rcases Yd.mp hp with rfl | hp
              . exact hr0
              . exact hfs p hp
            . rw [Yh,hs0];exact hR
            . rcases Yd.mp hp with rfl | hp
              . simp
              . have:=hl2 p hp;omega
        | @cls c p k t st hclo=>
          obtain ⟨⟨a1,c⟩,⟨a2,t⟩,gs,rfl⟩:∃ u v gs,fs=u::v::gs:=by
            cases fs with
            | nil=>cases hs0
            | cons u r=>
              cases r with
              | nil=>simp at hs0
              | cons v gs=>exact ⟨u,v,gs,rfl⟩
          simp only [Yh,List.cons.injEq] at hs0
          obtain ⟨rfl,rfl,rfl⟩:=hs0
          have hp:p = "]"\/p = ")":=by
            cases hclo
            . exact .inl rfl
            . exact .inr rfl
          have F1:=hF.pop
          rcases hp with rfl | rfl
          . refine ⟨λ c=>absurd c (by decide),λ _=>⟨λ c=>absurd c (by decide),λ _=>⟨λ _=>⟨λ _=>?_,nofun⟩,λ c=>absurd c (by decide)⟩⟩⟩
            refine ⟨a6q hF.top trivial,aTq hF.top ⟨(((a2,t)::gs).map (·.1)).reverse.map D.ref,.ref a1,by simp,?_⟩⟩
            refine a6q F1.top ⟨λ c=>?_,λ _=>aLq F1.top (d:=.ref a2) (uOq (j:=gs.length) (by decide) (by simp only [Yf,Ym,Yb];omega) (by simp)) ⟨a6q (F1.at_ _ (Ya ..)) trivial,⟨a1,_,c,k,rfl,by rw [aQq (hF.ne _ (Ya ..))];exact hF.at_ _ (Ya ..),hclo,aTq (F1.at_ _ (Ya ..)) ⟨aZq (by have:=hl2 (a2,t) (by simp);show t.length<=_;simp only at this;omega),Wk.of ⟨(a2,t++[k])::gs,_,_,rfl,F1.set,Sub.new (Sub.new hS hp1x) (hfs (a2,t) (by simp)),λ p hp=>?_,hR,by simp only [Yb] at *;omega,λ p hp=>?_⟩⟩⟩⟩⟩
            . have c':=eq_of_beq (show (_==_)=true from c)
              simp at c'
              omega
            . rcases Yd.mp hp with rfl | hp
              . exact hfs (a2,t) (by simp)
              . exact hfs p (by simp [hp])
            . rcases Yd.mp hp with rfl | hp
              . have:=hl2 (a2,t) (by simp);simp only [Yg,Yb,Yj] at *;omega
              . have:=hl2 p (by simp [hp]);omega
          . refine ⟨λ c=>absurd c (by decide),λ _=>⟨λ c=>absurd c (by decide),λ _=>⟨λ c=>absurd c (by decide),λ _=>⟨λ _=>?_,λ c=>absurd c (by decide)⟩⟩⟩⟩
            refine ⟨a6q hF.top trivial,aTq hF.top ⟨(((a2,t)::gs).map (·.1)).reverse.map D.ref,.ref a1,by simp,?_⟩⟩
            refine a6q F1.top ⟨λ c=>?_,λ _=>aLq F1.top (d:=.ref a2) (uOq (j:=gs.length) (by decide) (by simp only [Yf,Ym,Yb];omega) (by simp)) ⟨a6q (F1.at_ _ (Ya ..)) trivial,⟨a1,_,c,k,rfl,by rw [aQq (hF.ne _ (Ya ..))];exact hF.at_ _ (Ya ..),hclo,aTq (F1.at_ _ (Ya ..)) ⟨aZq (by have:=hl2 (a2,t) (by simp);show t.length<=_;simp only at this;omega),Wk.of ⟨(a2,t++[k])::gs,_,_,rfl,F1.set,Sub.new (Sub.new hS hp1x) (hfs (a2,t) (by simp)),λ p hp=>?_,hR,by simp only [Yb] at *;omega,λ p hp=>?_⟩⟩⟩⟩⟩
            . have c':=eq_of_beq (show (_==_)=true from c)
              simp at c'
              omega
            . rcases Yd.mp hp with rfl | hp
              . exact hfs (a2,t) (by simp)
              . exact hfs p (by simp [hp])
            . rcases Yd.mp hp with rfl | hp
              . have:=hl2 (a2,t) (by simp);simp only [Yg,Yb,Yj] at *;omega
              . have:=hl2 p (by simp [hp]);omega
        | @rd t st p q hrp=>
          obtain ⟨c1,c2,c3,c4⟩:=hrp.no
          obtain ⟨⟨a,t⟩,gs,rfl⟩:∃ u gs,fs=u::gs:=by
            cases fs with
            | nil=>cases hs0
            | cons u r=>exact ⟨u,r,rfl⟩
          simp only [Yh,List.cons.injEq] at hs0
          obtain ⟨rfl,rfl⟩:=hs0
          refine ⟨λ c=>gTq (c1.symm.trans c),λ _=>⟨λ c=>gTq (c2.symm.trans c),λ _=>⟨λ c=>gTq (c3.symm.trans c),λ _=>⟨λ c=>gTq (c4.symm.trans c),λ _=>?_⟩⟩⟩⟩
          refine aLq hF.top (d:=.ref a) (uOq (j:=gs.length) (by decide) (by simp only [Yf,Ym,Yb];omega) (by simp)) ⟨a6q (hF.at_ _ (Ya ..)) trivial,⟨p,q,rfl,hrp,aTq (hF.at_ _ (Ya ..)) ⟨aZq (by have:=hl2 (a,t) (by simp);show t.length<=_;simp only at this;omega),Wk.of ⟨(a,t++[q])::gs,_,_,rfl,hF.set,Sub.new hS (hfs (a,t) (by simp)),λ p hp=>?_,hR,by simp only [Yb] at *;omega,λ p hp=>?_⟩⟩⟩⟩
          . rcases Yd.mp hp with rfl | hp
            . exact hfs (a,t) (by simp)
            . exact hfs p (by simp [hp])
          . rcases Yd.mp hp with rfl | hp
            . have:=hl2 (a,t) (by simp);simp only [Yg,Yb,Yj] at *;omega
            . have:=hl2 p (by simp [hp]);omega
  . rintro ρ G' ⟨fs,o2,o3,rfl,hF,hS,hfs,hR,hl1,hl2⟩
    have el:(⟨x.map D.str,λ G=>G l=some (.lst (x.map D.str))⟩:DIt).items.length=x.length:=by show (x.map D.str).length=_;rw [Yf]
    rw [el,Zl] at hR
    generalize hs0:fs.map (·.2)=st at hR
    cases hR
    obtain ⟨⟨a,t'⟩,rfl⟩:∃ u,fs=[u]:=by
      cases fs with
      | nil=>cases hs0
      | cons u r=>
        cases r with
        | nil=>exact ⟨u,rfl⟩
        | cons v gs=>simp at hs0
    simp only [Yh,List.cons.injEq,YF,and_true] at hs0
    subst hs0
    have e1:=hF.at_ _ (Ya ..)
    refine a6q hF.top ⟨λ c=>gTq c,λ _=>aLq hF.top (d:=.ref a) rfl (a6q e1 ⟨λ c=>gTq c,λ _=>aLq hF.top (d:=.ref a) rfl (aLq e1 (d:=d) rfl ⟨d,rfl,hk.isK.th,hb.mono (by decide) (by decide) (by decide),λ b hbb=>?_⟩)⟩)⟩
    have eb:b=true:=hbb.mpr hk
    subst eb
    refine ⟨nofun,λ _=>aLq hF.top (d:=.ref a) rfl (aLq e1 (d:=d) rfl ⟨G,Sub.trans (Sub.new (Sub.refl _) h3.1) hS,q⟩)⟩
abbrev i4q:Stmt:=top 51
theorem sXq:FnScope ["_law_kind_here"] ["_law_kind_here"] (aDq i4q):=⟨rfl,rfl,rfl,by decide +kernel,rfl,by decide +kernel,by decide +kernel⟩
theorem sIq:FnOk P w K mg base CX0 1 f fd ["_law_kind_here"] (aRq K (gHq 0)):=uDq λ ds G DQ h=>by obtain ⟨_,_,_,_,h,_⟩:=h;omega
theorem s3q {n:Nat} (B:Blt mg) (g_ktext:Got P w K mg base (n+1) "_law_kind_text" ["_law_kind_here"] (aRq K (gHq n))) (F:Fun K "_law_kind_text" "_law_kind_text" i4q f fd):FnOk P w K mg base CX0 (n+2) f fd ["_law_kind_here"] (aRq K (gHq (n+1))):=by
  refine okD (k:=n+1) F sXq (λ ds G DQ h=>?_) (λ cdv A outer s H E hr ds G DQ h=>?_)
  . obtain ⟨_,_,rfl,_⟩:=h;rfl
  obtain ⟨d,x,rfl,hx,hd,hs,q⟩:=h
  refine ⟨_,(a4q (aNq (aBq (aKq (aPq hr)) (aHq aix (a1q 0) a3q (λ _ _=>rfl)) a8q (aAq _)) (a7q (aEq (b4q pAq rfl B.str PyProof.Rows.boot_str (a0q (aHq aix (a1q 0) a3q (λ _ _=>rfl)) a2q)))) aGq)
      (a4q (aNq (aBq (aKq (aPq hr)) (aHq aix (a1q 0) a3q (λ _ _=>rfl)) a8q (aAq _)) (a7q (aEq a8q)) aGq)
      (a4q (aNq (aBq (aKq (aPq hr)) (aHq aix (a1q 0) a3q (λ _ _=>rfl)) a8q (aAq _)) (a7q (aEq (aOq aSq (aOq aSq a8q (a9q g_ktext hr (by omega) rfl (a0q (aHq aix (a1q 0) a3q (λ _ _=>rfl)) a2q))) a8q))) aGq)
      (a4q (aNq (aBq (aKq (aPq hr)) (aHq aix (a1q 0) a3q (λ _ _=>rfl)) a8q (aAq _)) (a7q (aEq (aOq aSq (aOq aSq a8q (a9q g_ktext hr (by omega) rfl (a0q (aHq aix (a1q 0) a3q (λ _ _=>rfl)) a2q))) a8q))) aGq)
      (a4q (aNq (aBq (aKq (aPq hr)) (aHq aix (a1q 0) a3q (λ _ _=>rfl)) a8q (aAq _)) (a7q (aEq (aOq aSq (aOq aSq (aOq aSq (aOq aSq a8q (a9q g_ktext hr (by omega) rfl (a0q (aHq aix (a1q 0) a3q (λ _ _=>rfl)) a2q))) a8q) (a9q g_ktext hr (by omega) rfl (a0q (aHq aix (a1q 0) a3q (λ _ _=>rfl)) a2q))) a8q))) aGq)
      (a7q (aEq (aOq aSq (aOq aSq (aOq aSq (aOq aSq a8q (c1q PySem.F.plainAttrs_str PySem.F.slot_str_join PySem.F.type_str_join j0q a8q (a0q (cXq rfl (CompOk.of (N':=["_law_one"]) (nt:=1) (cap:=[]) rfl (by kernel_rfl)) (b8q (k:=0) (by decide)) (cKq (aHq aix (a1q 0) a3q (λ _ _=>rfl))) (λ _ _ _ _=>(bEq (k:=0) (show YA (["_law_one"]:List Str) by decide +kernel) rfl (Or.inl rfl))) (λ _ _ _ _=>(a9q g_ktext hr (by omega) rfl (a0q (a1q 0) a2q)))) a2q))) a8q) (a9q g_ktext hr (by omega) rfl (a0q (aHq aix (a1q 0) a3q (λ _ _=>rfl)) a2q))) a8q)))))))),?_⟩
  have hxt:=hx.txt_len hs
  cases hx with
  | is m hm=>rw [i0q] at q;exact ⟨λ _=>⟨rFq hm,Dr.of q⟩,λ c=>absurd c (by decide)⟩
  | some=>rw [i0q] at q;exact ⟨λ c=>absurd c (by decide),λ _=>⟨λ _=>Dr.of q,λ c=>absurd c (by decide)⟩⟩
  | @left a x h0=>
    have l0:=h0.txt_len (by simp only [tsz,b5q] at hs;omega)
    have l1:=fDq (z:=("(" : Str)) (by decide) l0
    refine ⟨λ c=>absurd c (by decide),λ _=>⟨λ c=>absurd c (by decide),λ _=>⟨λ _=>⟨a,x,rfl,h0,(by simp only [D.dp,bMq] at hd;omega),(by simp only [tsz,b5q] at hs;omega),⟨lits (by decide) l0,rLq (by decide) l1,Dr.of ?_⟩⟩,λ c=>absurd c (by decide)⟩⟩⟩
    rw [show (("(" : Str)++txt x++(",)" : Str))=txt ("("::(x++[(",":Str),(")":Str)])) from c9q (by simp [cHq,aVq,cat,aJq,s_cp])]
    exact q
  | @right a x h0=>
    have l0:=h0.txt_len (by simp only [tsz,b5q] at hs;omega)
    have l2:=fDq (z:=("(," : Str)) (by decide) l0
    refine ⟨λ c=>absurd c (by decide),λ _=>⟨λ c=>absurd c (by decide),λ _=>⟨λ c=>absurd c (by decide),λ _=>⟨λ _=>⟨a,x,rfl,h0,(by simp only [D.dp,bMq] at hd;omega),(by simp only [tsz,b5q] at hs;omega),⟨lits (by decide) l0,rLq (by decide) l2,Dr.of ?_⟩⟩,λ c=>absurd c (by decide)⟩⟩⟩⟩
    rw [show (("(," : Str)++txt x++(")" : Str))=txt ("("::","::(x++[(")":Str)])) from c9q (by simp [cHq,aVq,cat,aJq,s_pc])]
    exact q
  | @both a b x y h1 h2=>
    have l0:=h1.txt_len (by simp only [tsz,b5q] at hs;omega)
    have l0':=h2.txt_len (by simp only [tsz,b5q] at hs;omega)
    have l1:=fDq (z:=("(" : Str)) (by decide) l0
    have l2:(("(" : Str)++txt x++("," : Str)).length<=240004:=by rw [bUq,l_cm];omega
    refine ⟨λ c=>absurd c (by decide),λ _=>⟨λ c=>absurd c (by decide),λ _=>⟨λ c=>absurd c (by decide),λ _=>⟨λ c=>absurd c (by decide),λ _=>⟨λ _=>⟨a,x,rfl,h1,(by simp only [D.dp,bMq] at hd;omega),(by simp only [tsz,b5q] at hs;omega),⟨lits (by decide) l0,rLq (by decide) l1,b,y,rfl,h2,(by simp only [D.dp,bMq] at hd;omega),(by simp only [tsz,b5q] at hs;omega),big (by omega),big ?_,Dr.of ?_⟩⟩,λ c=>absurd c (by decide)⟩⟩⟩⟩⟩
    . rw [bUq,l_rp];omega
    . rw [show (("(" : Str)++txt x++("," : Str)++txt y++(")" : Str))=txt ("("::(x++("," : Str)::(y++[(")":Str)]))) from c9q (by simp [cHq,aVq,cat,aJq])]
      exact q
  | @way ps k y h1 h2 h40=>
    have l0:=h2.txt_len (by simp only [tsz,b5q] at hs;omega)
    have hsum:=e8q (ps.map (·.2))
    have hil:(cat (bGq (" " : Str) (ps.map (·.2)))).length<=240000:=by
      have:(cat ("["::(bGq (" " : Str) (ps.map (·.2))++(":" : Str)::(y++[("]":Str)])))).length<=240000:=hxt
      simp only [cat,aJq,Yg] at this
      omega
    refine ⟨λ c=>absurd c (by decide),λ _=>⟨λ c=>absurd c (by decide),λ _=>⟨λ c=>absurd c (by decide),λ _=>⟨λ c=>absurd c (by decide),λ _=>⟨λ c=>absurd c (by decide),λ _=>⟨trivial,cYq ps (·.1) (λ p=>.str (txt p.2)) rfl (aZq (by omega)) trivial (λ p hp R hR=>⟨p.1,p.2,rfl,h1 p hp,?_,?_,hR⟩) (λ l hl=>a6q a5q ⟨(ps.map (·.2)).map txt,by simp,by decide,?_,?_⟩)⟩⟩⟩⟩⟩⟩
    . have:=eKq (YD (f:=(·.1)) hp)
      simp only [D.dp,bMq] at hd;omega
    . have:=e6q (YD (f:=(·.1)) hp)
      simp only [tsz,b5q] at hs;omega
    . rw [Yf,Yf,Yy]
      show ((ps.map (·.2)).map λ x=>(cat x).length).sum+_<=_
      omega
    . rw [pIq]
      have l1:(txt (bGq (" " : Str) (ps.map (·.2)))).length<=240000:=hil
      have l2:=fDq (z:=("[" : Str)) (by decide) l1
      have l3:(("[" : Str)++txt (bGq (" " : Str) (ps.map (·.2)))++(":" : Str)).length<=240004:=by rw [bUq,l_cl];omega
      refine ⟨lits (by decide) l1,rLq (by decide) l2,k,y,rfl,h2,(by simp only [D.dp,bMq] at hd;omega),(by simp only [tsz,b5q] at hs;omega),big (by omega),big ?_,⟨G,Sub.new (Sub.refl _) hl,?_⟩⟩
      . rw [bUq,l_rb];omega
      . rw [show (("[" : Str)++txt (bGq (" " : Str) (ps.map (·.2)))++(":" : Str)++txt y++("]" : Str))=txt ("["::(bGq (" " : Str) (ps.map (·.2))++(":" : Str)::(y++[("]":Str)]))) from c9q (by simp [cHq,aVq,cat,aJq])]
        exact q
abbrev l9q:Stmt:=top 22
theorem sc_iswt:FnScope ["text", "most", "figures"] ["text", "most"] (aDq l9q):=⟨rfl,rfl,rfl,by decide +kernel,rfl,by decide +kernel,by decide +kernel⟩
theorem x6q (B:Blt mg) {tF:Tok} (m_FIGURES:mg "FIGURES" = some (.str figs tF)) (g_madeof:Got P w K mg base 1 "made_of" ["text", "signs"] (aRq K j2q)) (F:Fun K "is_whole_text" "is_whole_text" l9q f fd):FnOk P w K mg base CX0 2 f fd ["text", "most"] (aRq K iFq):=by
  refine okD (k:=1) F sc_iswt (λ ds G DQ h=>?_) (λ cdv A outer s H E hr ds G DQ h=>?_)
  . obtain ⟨_,rfl,_⟩:=h;rfl
  obtain ⟨z,rfl,hz,q⟩:=h
  refine ⟨_,(a4q (aIq (k:=2) sc_iswt.nd rfl (Or.inl rfl) (t2q (bBq (c1q PySem.F.plainAttrs_str PySem.F.slot_str_startswith PySem.F.type_str_startswith dNq (a1q 0) (a0q a8q a2q))) (bCq aslS (a1q 0) (b2q a3q) bPq) (a1q 0)))
      (a4q (aNq (dAq (AW.at (dCq (t3q uVq uVq a3q (aCq aFq rfl B.len PySem.boot_len (a0q (a1q 2) a2q)) (a1q 1)) (cBq (bBq (a9q g_madeof hr (by omega) rfl (a0q (a1q 2) (a0q (cIq (d:=.str _) (v:=.str _) rfl m_FIGURES ⟨_,rfl⟩ (λ _=>rfl)) a2q)))))))) (a7q (aEq jUq)) aGq)
      (a7q (aEq (aS1q (oXq (c1q PySem.F.plainAttrs_str PySem.F.slot_str_startswith PySem.F.type_str_startswith dNq (a1q 2) (a0q a8q a2q))) (f0q (d3q (aKq (aPq hr)) (a1q 0) a8q (aAq _)))))))),?_⟩
  have hbl:=vLq z
  unfold y6q at q
  refine ⟨trivial,⟨λ hs=>⟨fBq (by omega),?_⟩,λ hs=>?_⟩⟩
  . rw [show Txt.slice z (some 1) none=bare z from (if_pos hs).symm]
    generalize bare z=y at q hbl ⊢
    refine ⟨fBq (by omega),⟨λ c1=>⟨λ c2=>⟨y,figs,rfl,by omega,⟨λ c3=>Dr.of ?_,λ c3=>⟨trivial,⟨λ c4=>Dr.of ?_,λ c4=>Dr.of ?_⟩⟩⟩⟩,λ c2=>⟨λ _=>Dr.of ?_,λ c=>u9q c⟩⟩,λ c1=>⟨λ c=>gTq c,λ _=>⟨λ _=>Dr.of ?_,λ c=>u9q c⟩⟩⟩⟩
    . rw [c1,c2,show gZq y figs=false by simpa using c3] at q;exact q
    . rw [c1,c2,show gZq y figs=true by simpa using c3,c4] at q;exact q
    . rw [c1,c2,show gZq y figs=true by simpa using c3,c4] at q;exact q
    . rw [c1,c2] at q;exact q
    . rw [c1] at q;exact q
  . rw [show bare z=z from if_neg (by rw [hs];decide)] at q
    refine ⟨fBq (by omega),⟨λ c1=>⟨λ c2=>⟨z,figs,rfl,by omega,⟨λ c3=>Dr.of ?_,λ c3=>⟨trivial,⟨λ c4=>Dr.of ?_,λ c4=>Dr.of ?_⟩⟩⟩⟩,λ c2=>⟨λ _=>Dr.of ?_,λ c=>u9q c⟩⟩,λ c1=>⟨λ c=>gTq c,λ _=>⟨λ _=>Dr.of ?_,λ c=>u9q c⟩⟩⟩⟩
    . rw [c1,c2,show gZq z figs=false by simpa using c3] at q;exact q
    . rw [c1,c2,show gZq z figs=true by simpa using c3,c4] at q;exact q
    . rw [c1,c2,show gZq z figs=true by simpa using c3,c4] at q;exact q
    . rw [c1,c2] at q;exact q
    . rw [c1] at q;exact q
abbrev fQq:Stmt:=top 28
theorem oRq:FnScope ["piece"] ["piece"] (aDq fQq):=⟨rfl,rfl,rfl,by decide +kernel,rfl,by decide +kernel,by decide +kernel⟩
theorem rAq (B:Blt mg) {tm:Tok} (m_MOST_FIGURES:mg "MOST_FIGURES" = some (.int 12 tm)) (g_iswt:Got P w K mg base 2 "is_whole_text" ["text", "most"] (aRq K iFq)) (F:Fun K "read_piece" "read_piece" fQq f fd):FnOk P w K mg base CX0 3 f fd ["piece"] (aRq K kNq):=by
  refine okD (k:=2) F oRq (λ ds G DQ h=>?_) (λ cdv A outer s H E hr ds G DQ h=>?_)
  . obtain ⟨_,_,rfl,_⟩:=h;rfl
  obtain ⟨p,q0,rfl,hp,q⟩:=h
  refine ⟨_,(a4q (aNq (aBq f9q (a1q 0) a8q (by with_unfolding_all rfl)) (a7q (aEq (a1q 0))) aGq)
      (a4q (aNq (aBq (aKq (aPq hr)) (a1q 0) a8q (aAq _)) (a7q (aEq (b1q (a0q a8q a2q)))) aGq)
      (a4q (aNq (dAq (bBq (a9q g_iswt hr (by omega) rfl (a0q (a1q 0) (a0q (cIq (d:=.int _) (v:=.int _) rfl m_MOST_FIGURES ⟨_,rfl⟩ (λ _=>rfl)) a2q))))) (a7q c0q) aGq)
      (a7q (aEq (b1q (a0q a8q (a0q (b4q nSq rfl B.int PyProof.Rows.boot_int (a0q (a1q 0) a2q)) a2q)))))))),?_⟩
  cases hp with
  | sgn h=>
    rcases h with rfl | rfl | rfl
    . exact ⟨λ _=>Dr.of q,λ c=>absurd c (by decide +kernel)⟩
    . exact ⟨λ _=>Dr.of q,λ c=>absurd c (by decide +kernel)⟩
    . exact ⟨λ _=>Dr.of q,λ c=>absurd c (by decide +kernel)⟩
  | som=>exact ⟨λ c=>absurd c (by decide +kernel),λ _=>⟨λ _=>Dr.of q,λ c=>absurd c (by decide)⟩⟩
  | num n hn=>
    obtain ⟨h1,h2⟩:=iYq hn
    refine ⟨λ c=>?_,λ _=>⟨λ c=>?_,λ _=>⟨d4q n,rfl,by omega,⟨λ c=>?_,λ _=>⟨n,h1,by omega,Dr.of q⟩⟩⟩⟩⟩
    . rw [Bool.false_xor,xUq] at c;cases c
    . exact absurd (eq_of_beq c) (by rw [uBq];exact u8q (by decide))
    . rw [vOq hn] at c;cases c
abbrev pBq:Stmt:=top 29
theorem yYq:FnScope ["frame", "sign"] ["frame", "sign"] (aDq pBq):=⟨rfl,rfl,rfl,by decide +kernel,rfl,by decide +kernel,by decide +kernel⟩
theorem yCq (g_wayc:Got P w K mg base 1 "way_closed" ["row"] (aRq K r9q)) (g_pairc:Got P w K mg base 1 "pair_closed" ["row"] (aRq K kIq)) (F:Fun K "kind_closed" "kind_closed" pBq f fd):FnOk P w K mg base CX0 2 f fd ["frame", "sign"] (aRq K x8q):=by
  refine okD (k:=1) F yYq (λ ds G DQ h=>?_) (λ cdv A outer s H E hr ds G DQ h=>?_)
  . obtain ⟨_,_,_,_,rfl,_⟩:=h;rfl
  obtain ⟨l,p,c,k,rfl,hl,hc,q⟩:=h
  refine ⟨_,(a4q (aNq (AW.at (dCq (aBq (aKq (aPq hr)) (aHq aix (a1q 0) a3q (λ _ _=>rfl)) a8q (aAq _)) (cBq (aBq (aKq (aPq hr)) (a1q 1) a8q (aAq _))))) (a7q (aEq (a9q g_wayc hr (by omega) rfl (a0q (bCq asl (a1q 0) (b2q a3q) bPq) a2q)))) aGq)
      (a4q (aNq (AW.at (dCq (aBq (aKq (aPq hr)) (aHq aix (a1q 0) a3q (λ _ _=>rfl)) a8q (aAq _)) (cBq (aBq (aKq (aPq hr)) (a1q 1) a8q (aAq _))))) (a7q (aEq (a9q g_pairc hr (by omega) rfl (a0q (bCq asl (a1q 0) (b2q a3q) bPq) a2q)))) aGq)
      (a7q c0q))),?_⟩
  cases hc with
  | way ds k hd=>
    refine aLq hl (d:=.str "[") (bFq (j:=0) rfl) ⟨λ _=>⟨λ _=>a6q hl λ p hp=>⟨p,ds,k,hd,rfl,?_,⟨G,Sub.new (Sub.refl _) hp,q⟩⟩,λ c=>absurd c (by decide)⟩,λ c=>absurd c (by decide)⟩
    rw [a5q,pMq]
  | @pair row k hr=>
    refine aLq hl (d:=.str "(") (bFq (j:=0) rfl) ⟨λ c=>absurd c (by decide),λ _=>⟨λ c=>absurd c (by decide),λ _=>aLq hl (d:=.str "(") (bFq (j:=0) rfl) ⟨λ _=>⟨λ _=>a6q hl λ p hp=>⟨p,row,k,rfl,?_,hr,⟨G,Sub.new (Sub.refl _) hp,q⟩⟩,λ c=>absurd c (by decide)⟩,λ c=>absurd c (by decide)⟩⟩⟩
    rw [a5q,pMq]
abbrev lCq:Stmt:=top 30
theorem sc_wayc:FnScope ["row", "bag", "kinds"] ["row"] (aDq lCq):=⟨rfl,rfl,rfl,by decide +kernel,rfl,by decide +kernel,by decide +kernel⟩
theorem xFq (B:Blt mg) (F:Fun K "way_closed" "way_closed" lCq f fd):FnOk P w K mg base CX0 1 f fd ["row"] (aRq K r9q):=by
  refine okD (k:=0) F sc_wayc (λ ds G DQ h=>?_) (λ cdv A outer s H E hr ds G DQ h=>?_)
  . obtain ⟨_,_,_,_,rfl,_⟩:=h;rfl
  obtain ⟨l,es,k,h40,rfl,hl,q⟩:=h
  refine ⟨_,(a4q (aNq (AW.at (d6q (aBq c3q (aCq aFq rfl B.len PySem.boot_len (a0q (a1q 0) a2q)) a3q (aAq _)) (cCq (aBq (dMq (aPq hr)) (aHq aix (a1q 0) (i7q d2q a3q) (λ _ _=>rfl)) a8q (aAq _))))) (a7q c0q) aGq)
      (a4q (aIq (k:=1) sc_wayc.nd rfl (Or.inl rfl) (bCq asl (a1q 0) bPq (b2q (i7q d2q a3q))))
      (a4q (aIq (k:=2) sc_wayc.nd rfl (Or.inl rfl) (s7q (a1q 1) (b2q a3q) (b2q a3q)))
      (a4q (aNq (aBq (dMq (aPq hr)) (s7q (a1q 1) (b2q a3q) (b2q a3q)) (bOq (aOq n3q (bSq (a0q a8q a2q)) (aOq bJq (aCq aFq rfl B.len PySem.boot_len (a0q (a1q 2) a2q)) a3q))) (aAq _)) (a7q c0q) aGq)
      (a7q (aEq (b1q (a0q a8q (a0q (b4q b3q rfl B.tuple PyProof.Rows.boot_tuple (a0q (a1q 2) a2q)) (a0q (aHq aix (a1q 0) (i7q d2q a3q) (λ _ _=>rfl)) a2q)))))))))),?_⟩
  have hlen:(h2q es++[.str ":", k]).length=(h2q es).length+2:=by simp
  have hb2:=tBq es
  refine a6q hl ⟨λ c=>absurd (of_decide_eq_true c) (by rw [hlen];omega),λ _=>aLq hl (d:=.str ":") (uOq (j:=(h2q es).length) (by decide) (by rw [hlen];omega) (by simp)) ⟨λ c=>absurd c (by decide),λ _=>a6q hl λ p hp=>?_⟩⟩
  have ec:cut (h2q es++[.str ":", k]) none (some (-2))=h2q es:=by
    unfold cut
    rw [show HT.sIx (h2q es++[D.str ":", k]).length 0 none=0 from rfl,show HT.sIx (h2q es++[D.str ":", k]).length (h2q es++[D.str ":", k]).length (some (-2))=(h2q es).length by rw [hlen];unfold HT.sIx;simp only [];rw [if_pos (by omega)];omega,YI,Nat.sub_zero]
    exact List.take_left' rfl
  obtain ⟨ev1,ev3⟩:=u2q es
  rw [ec]
  have S1:Sub G (up G p (.lst (h2q es))):=Sub.new (Sub.refl _) hp
  refine ⟨rfl,a6q a5q ⟨0,rfl,λ p2 hp2=>?_⟩⟩
  rw [YI,ev1]
  have S2:=Sub.ext' (o:=.lst es) (Sub.refl _) hp2
  refine ⟨rfl,a6q (S2 p _ a5q) ⟨1,rfl,λ p3 hp3 p4 hp4=>?_⟩⟩
  rw [ev3] at hp4 ⊢
  have S3:=Sub.ext' (o:=.lst (Yp (es.length - 1) (.str " "))) (Sub.refl _) hp3
  have S4:=Sub.ext' (o:=.lst [.str " "]) (Sub.refl _) hp4
  refine a6q ((S3.trans S4) p2 _ a5q) (a6q a5q ⟨by omega,by omega,by simp,λ p5 hp5=>⟨_,Sub.refl _,?_⟩⟩)
  rw [kSq,show ((es.length:Int) - 1).toNat=es.length - 1 by omega] at *
  have S5:=Sub.ext' (o:=.lst (Yp (es.length - 1) (.str " "))) (Sub.refl _) hp5
  obtain ⟨r1,r2⟩:=i9q " " (es.length - 1)
  refine a6q ((S4.trans S5) p3 _ a5q) (a6q a5q ⟨r1,r1,r2,⟨λ c=>?_,λ _=>a6q ((S3.trans (S4.trans S5)) p2 _ a5q) (aLq ((S1.trans (S2.trans (S3.trans (S4.trans S5)))) l _ hl) (d:=k) (uOq (j:=(h2q es).length+1) (by decide) (by rw [hlen];omega) (by simp)) ⟨G,S1.trans (S2.trans (S3.trans (S4.trans S5))),q⟩)⟩⟩)
  rw [i6q] at c;cases c
abbrev iPq:Stmt:=top 31
theorem rOq:FnScope ["row"] ["row"] (aDq iPq):=⟨rfl,rfl,rfl,by decide +kernel,rfl,by decide +kernel,by decide +kernel⟩
theorem rYq (B:Blt mg) (F:Fun K "pair_closed" "pair_closed" iPq f fd):FnOk P w K mg base CX0 1 f fd ["row"] (aRq K kIq):=by
  refine okD (k:=0) F rOq (λ ds G DQ h=>?_) (λ cdv A outer s H E hr ds G DQ h=>?_)
  . obtain ⟨_,_,_,rfl,_⟩:=h;rfl
  obtain ⟨l,row,k,rfl,hl,hc,q⟩:=h
  refine ⟨_,(a4q (aNq (AW.at (dCq (aBq (aKq (aPq hr)) (aCq aFq rfl B.len PySem.boot_len (a0q (a1q 0) a2q)) a3q (aAq _)) (cBq (aBq (dOq (aPq hr)) (aHq aix (a1q 0) a3q (λ _ _=>rfl)) a8q (aAq _))))) (a7q (aEq (b1q (a0q a8q (a0q (aHq aix (a1q 0) a3q (λ _ _=>rfl)) a2q))))) aGq)
      (a4q (aNq (AW.at (dCq (aBq (aKq (aPq hr)) (aCq aFq rfl B.len PySem.boot_len (a0q (a1q 0) a2q)) a3q (aAq _)) (cBq (aBq (dOq (aPq hr)) (aHq aix (a1q 0) a3q (λ _ _=>rfl)) a8q (aAq _))))) (a7q (aEq (b1q (a0q a8q (a0q (aHq aix (a1q 0) a3q (λ _ _=>rfl)) a2q))))) aGq)
      (a4q (aNq (AW.at (dCq (aBq (aKq (aPq hr)) (aCq aFq rfl B.len PySem.boot_len (a0q (a1q 0) a2q)) a3q (aAq _)) (cBq (aBq (dOq (aPq hr)) (aHq aix (a1q 0) a3q (λ _ _=>rfl)) a8q (aAq _))))) (a7q (aEq (b1q (a0q a8q (a0q (aHq aix (a1q 0) a3q (λ _ _=>rfl)) (a0q (aHq aix (a1q 0) a3q (λ _ _=>rfl)) a2q)))))) aGq)
      (a7q c0q)))),?_⟩
  cases hc with
  | left a=>exact a6q hl ⟨λ _=>aLq hl (d:=.str ",") rfl ⟨λ _=>aLq hl (d:=a) rfl (Dr.of q),λ c=>absurd c (by decide)⟩,λ c=>u9q c⟩
  | right xs=>exact a6q hl ⟨λ _=>aLq hl (d:=.tup xs) rfl ⟨λ c=>gTq c,λ _=>a6q hl ⟨λ _=>aLq hl (d:=.str ",") rfl ⟨λ _=>aLq hl (d:=.tup xs) rfl (Dr.of q),λ c=>absurd c (by decide)⟩,λ c=>u9q c⟩⟩,λ c=>u9q c⟩
  | both a b=>exact a6q hl ⟨λ c=>gTq c,λ _=>⟨λ c=>gTq c,λ _=>a6q hl ⟨λ c=>gTq c,λ _=>⟨λ c=>gTq c,λ _=>a6q hl ⟨λ _=>aLq hl (d:=.str ",") rfl ⟨λ _=>aLq hl (d:=a) rfl (aLq hl (d:=b) rfl (Dr.of q)),λ c=>absurd c (by decide)⟩,λ c=>u9q c⟩⟩⟩⟩⟩
abbrev lHq:Stmt:=top 41
theorem sc_kend:FnScope ["pieces", "start", "depth", "at"] ["pieces", "start"] (aDq lHq):=⟨rfl,rfl,rfl,by decide +kernel,rfl,by decide +kernel,by decide +kernel⟩
theorem xXq (B:Blt mg) (F:Fun K "kind_end" "kind_end" lHq f fd):FnOk P w K mg base CX0 1 f fd ["pieces", "start"] (aRq K pXq):=by
  refine okD (k:=0) F sc_kend (λ ds G DQ h=>?_) (λ cdv A outer s H E hr ds G DQ h=>?_)
  . obtain ⟨_,_,_,_,_,_,rfl,_⟩:=h;rfl
  obtain ⟨l,xs,i,x,r,k,rfl,hl,hxs,hd,hk,hr',hi,q⟩:=h
  refine ⟨_,(a4q (aIq (k:=2) sc_kend.nd rfl (Or.inl rfl) a3q)
      (a4q (aIq (k:=3) sc_kend.nd rfl (Or.inl rfl) (a1q 1))
      (a4q (dGq PassesOwn.never (AW.at (dCq (aBq c3q (a1q 3) (aCq aFq rfl B.len PySem.boot_len (a0q (a1q 0) a2q)) (aAq _)) (cBq (AW.at (d6q (aBq dIq (a1q 2) a3q (aAq _)) (cCq (aBq qKq (aHq aix (a1q 0) (a1q 3) (λ _ _=>rfl)) (b1q (a0q a8q (a0q a8q a2q))) (by with_unfolding_all rfl)))))))) (a4q (aNq (aBq f9q (aHq aix (a1q 0) (a1q 3) (λ _ _=>rfl)) (b1q (a0q a8q (a0q a8q a2q))) (by with_unfolding_all rfl)) (a7q (mOq (k:=2) sc_kend.nd rfl (Or.inl rfl) a3q l5q)) (a7q (aNq (aBq f9q (aHq aix (a1q 0) (a1q 3) (λ _ _=>rfl)) (b1q (a0q a8q (a0q a8q a2q))) (by with_unfolding_all rfl)) (a7q (mOq (k:=2) sc_kend.nd rfl (Or.inl rfl) a3q vVq)) aGq)))
      (a7q (mOq (k:=3) sc_kend.nd rfl (Or.inl rfl) a3q l5q))))
      (a7q (aEq (a1q 3)))))),?_⟩
  have hcut:=l6q SQ2 (cat x) [] (by simp)
  have hcat:=cSq SQ2 (cat x) []
  rw [YM] at hcat
  generalize pcs SQ2 [] (cat x)=y at hd q hcut hcat
  have hlen:xs.length=i+(y.length+r.length):=by
    have:=congrArg YJ hd
    rw [Yz,Yg] at this;omega
  have hget:∀ j,xs[i+j]?=(y++r)[j]?:=λ j=>by rw [<- hd,List.getElem?_drop]
  refine ⟨λ μ ρ G'=>∃ j e:Nat,ρ=[some (.ref l),some (.int i),some (.int e),some (.int ((i+j:Nat):Int))]/\G=G'/\j<=y.length/\rnc e (cat (y.drop j))=some 0/\y.length - j=μ,⟨_,0,0,rfl,rfl,Nat.zero_le _,by rw [YI,hcat];exact zTq hk 0,rfl⟩,?_⟩
  rintro μ ρ G' ⟨j,e,rfl,rfl,hj,hR,rfl⟩
  have hlm:(xs.map D.str).length=xs.length:=Yf ..
  by_cases hjy:j < y.length
  . have hyj:y[j]?=some y[j]:=Yi hjy
    have hat:atI (xs.map D.str) ((i+j:Nat):Int)=some (.str y[j]):=bFq (by rw [Yw,hget,YT hjy,hyj];rfl)
    have hdr:cat (y.drop j)=y[j].cps.toList++cat (y.drop (j+1)):=by rw [YZ hjy,cat]
    rw [hdr] at hR
    obtain ⟨st1,st2⟩:=n6q (hcut _ (Yx hjy)) hR
    refine a6q hl ⟨λ _=>?_,λ c=>absurd (of_decide_eq_false c) (by rw [hlm];omega)⟩
    rcases Nat.eq_zero_or_pos e with e0 | e0
    . refine ⟨λ c=>absurd (of_decide_eq_true c) (by omega),λ _=>aLq hl hat ⟨rfl,rfl,⟨λ _=>?_,λ c=>?_⟩⟩⟩
      . skip
        rcases st2 with ⟨sa,st3⟩ | ⟨sa,sb,se,st3⟩ | ⟨sa,sb,st3⟩
        . refine aLq hl hat ⟨rfl,rfl,⟨λ _=>Wk.of ⟨y.length - (j+1),by omega,j+1,e+1,by rw [show ((e+1:Nat):Int)=(e:Int)+1 by omega,show ((i+(j+1):Nat):Int)=((i+j:Nat):Int)+1 by omega];rfl,rfl,by omega,st3,rfl⟩,λ c=>?_⟩⟩
          rw [Bool.false_xor,o9q,sa] at c;cases c
        . refine aLq hl hat ⟨rfl,rfl,⟨λ c=>?_,λ _=>aLq hl hat ⟨rfl,rfl,⟨λ _=>Wk.of ⟨y.length - (j+1),by omega,j+1,e - 1,by rw [show ((e - 1:Nat):Int)=(e:Int) - 1 by omega,show ((i+(j+1):Nat):Int)=((i+j:Nat):Int)+1 by omega];rfl,rfl,by omega,st3,rfl⟩,λ c=>?_⟩⟩⟩⟩
          . rw [Bool.false_xor,o9q,sa] at c;cases c
          . rw [Bool.false_xor,o9q,sb] at c;cases c
        . refine aLq hl hat ⟨rfl,rfl,⟨λ c=>?_,λ _=>aLq hl hat ⟨rfl,rfl,⟨λ c=>?_,λ _=>Wk.of ⟨y.length - (j+1),by omega,j+1,e,by rw [show ((i+(j+1):Nat):Int)=((i+j:Nat):Int)+1 by omega];rfl,rfl,by omega,st3,rfl⟩⟩⟩⟩⟩
          . rw [Bool.false_xor,o9q,sa] at c;cases c
          . rw [Bool.false_xor,o9q,sb] at c;cases c
      . rw [o9q,st1 e0] at c;cases c
    . refine ⟨λ _=>⟨λ _=>?_,nofun⟩,λ c=>absurd (of_decide_eq_false c) (by omega)⟩
      rcases st2 with ⟨sa,st3⟩ | ⟨sa,sb,se,st3⟩ | ⟨sa,sb,st3⟩
      . refine aLq hl hat ⟨rfl,rfl,⟨λ _=>Wk.of ⟨y.length - (j+1),by omega,j+1,e+1,by rw [show ((e+1:Nat):Int)=(e:Int)+1 by omega,show ((i+(j+1):Nat):Int)=((i+j:Nat):Int)+1 by omega];rfl,rfl,by omega,st3,rfl⟩,λ c=>?_⟩⟩
        rw [Bool.false_xor,o9q,sa] at c;cases c
      . refine aLq hl hat ⟨rfl,rfl,⟨λ c=>?_,λ _=>aLq hl hat ⟨rfl,rfl,⟨λ _=>Wk.of ⟨y.length - (j+1),by omega,j+1,e - 1,by rw [show ((e - 1:Nat):Int)=(e:Int) - 1 by omega,show ((i+(j+1):Nat):Int)=((i+j:Nat):Int)+1 by omega];rfl,rfl,by omega,st3,rfl⟩,λ c=>?_⟩⟩⟩⟩
        . rw [Bool.false_xor,o9q,sa] at c;cases c
        . rw [Bool.false_xor,o9q,sb] at c;cases c
      . refine aLq hl hat ⟨rfl,rfl,⟨λ c=>?_,λ _=>aLq hl hat ⟨rfl,rfl,⟨λ c=>?_,λ _=>Wk.of ⟨y.length - (j+1),by omega,j+1,e,by rw [show ((i+(j+1):Nat):Int)=((i+j:Nat):Int)+1 by omega];rfl,rfl,by omega,st3,rfl⟩⟩⟩⟩⟩
        . rw [Bool.false_xor,o9q,sa] at c;cases c
        . rw [Bool.false_xor,o9q,sb] at c;cases c
  . have ej:j=y.length:=by omega
    subst ej
    rw [Zl,cat,rnc] at hR
    cases hR
    rcases hr' with rfl | ⟨z,r',rfl,hz⟩
    . exact a6q hl ⟨λ c=>absurd (of_decide_eq_true c) (by rw [hlm];simp only [Yj] at hlen;omega),λ _=>⟨nofun,λ _=>Dr.of q⟩⟩
    . have hat:atI (xs.map D.str) ((i+y.length:Nat):Int)=some (.str z):=bFq (by rw [Yw,hget,Y2 (Nat.le_refl _),Nat.sub_self];rfl)
      refine a6q hl ⟨λ _=>⟨λ c=>absurd c (by decide),λ _=>aLq hl hat ⟨rfl,rfl,⟨λ c=>?_,λ _=>Dr.of q⟩⟩⟩,λ c=>absurd (of_decide_eq_false c) (by rw [hlm];simp only [Yb] at hlen;omega)⟩
      rcases hz with rfl | rfl<;>exact absurd c (by decide)
abbrev rBq:Stmt:=top 42
theorem sc_pcl:FnScope ["row", "papers"] ["row"] (aDq rBq):=⟨rfl,rfl,rfl,by decide +kernel,rfl,by decide +kernel,by decide +kernel⟩
theorem aB4q (B:Blt mg) {aI:Addr} (m_INNER_PAPERS:mg "INNER_PAPERS" = some (.ref aI)) (T_INNER_PAPERS:KTabD K w aI ipT) (F:Fun K "paper_closed" "paper_closed" rBq f fd):FnOk P w K mg base CX0 1 f fd ["row"] (aRq K wUq):=by
  refine okD (k:=0) F sc_pcl (λ ds G DQ h=>?_) (λ cdv A outer s H E hr ds G DQ h=>?_)
  . obtain ⟨_,_,_,rfl,_⟩:=h;rfl
  obtain ⟨l,c,k,rfl,hl,hc,q⟩:=h
  refine ⟨_,(a4q (aIq (k:=1) sc_pcl.nd rfl (Or.inl rfl) (s7q (a1q 0) (b2q a3q) (b2q a3q)))
      (a4q (aNq (AW.at (d6q (aBq (dMq (aPq hr)) (s7q (a1q 0) (b2q a3q) (b2q a3q)) (bOq (aOq n3q (bSq (a0q a8q a2q)) (aCq aFq rfl B.len PySem.boot_len (a0q (a1q 1) a2q)))) (aAq _)) (cCq (dAq (bBq (bOq (aCq (gCq rfl) rfl B.all PyProof.Rows.boot_all (a0q (cXq rfl (CompOk.of (N':=["one"]) (nt:=1) (cap:=[]) rfl (by kernel_rfl)) (b8q (k:=0) (by decide)) (cKq (a1q 1)) (λ _ _ _ _=>(bEq (k:=0) (show YA (["one"]:List Str) by decide +kernel) rfl (Or.inl rfl))) (λ _ _ _ _=>(aCq bLq rfl B.isinstance PyProof.Rows.boot_isinstance (a0q (a1q 0) (a0q (bRq rfl B.tuple PyProof.Rows.boot_tuple) a2q))))) a2q)))))))) (a7q c0q) aGq)
      (a4q (aNq (AW.at (d6q (aBq (aKq (aPq hr)) (aCq aFq rfl B.len PySem.boot_len (a0q (a1q 1) a2q)) a3q (aAq _)) (cCq (dAq (bBq (aCq bLq rfl B.isinstance PyProof.Rows.boot_isinstance (a0q (aHq aix (a1q 0) a3q (λ _ _=>rfl)) (a0q (bRq rfl B.str PyProof.Rows.boot_str) a2q)))))))) (a7q c0q) aGq)
      (a4q (aNq (aBq (aKq (aPq hr)) (aHq aix (a1q 0) a3q (λ _ _=>rfl)) a8q (aAq _)) (a7q (aEq (b1q (a0q a8q (a0q (aHq aix (a1q 1) a3q (λ _ _=>rfl)) (a0q (b4q b3q rfl B.tuple PyProof.Rows.boot_tuple (a0q (bCq asl (a1q 1) (b2q a3q) bPq) a2q)) a2q)))))) aGq)
      (a4q (aNq (aBq (dMq (aPq hr)) (tLq rfl m_INNER_PAPERS T_INNER_PAPERS (aHq aix (a1q 0) a3q (λ _ _=>rfl))) (aCq aFq rfl B.len PySem.boot_len (a0q (a1q 1) a2q)) (aAq _)) (a7q c0q) aGq)
      (a7q (aEq (aOq aSq (b1q (a0q (aHq aix (a1q 0) a3q (λ _ _=>rfl)) a2q)) (b4q b3q rfl B.tuple PyProof.Rows.boot_tuple (a0q (a1q 1) a2q)))))))))),?_⟩
  cases hc with
  | @mk z es _ hn htup=>
    obtain ⟨h7a,h7⟩:=sKq hn
    obtain ⟨ev1,ev3⟩:=qQq es
    have e2:ev2 ((D.str z::fCq es).drop 2)=es:=by rw [show (D.str z::fCq es).drop 2=(fCq es).drop 1 by simp];exact ev3
    have e1:ev2 ((D.str z::fCq es).drop 1)=Yp es.length (.str " "):=by rw [Zk,YI];exact ev1
    refine ⟨rfl,a6q hl ⟨2,rfl,λ p hp=>?_⟩⟩
    rw [e2]
    have S1:=Sub.ext' (o:=.lst es) (Sub.refl _) hp
    refine ⟨rfl,a6q (S1 l _ hl) ⟨1,rfl,λ p2 hp2 p3 hp3=>?_⟩⟩
    rw [e1] at hp3 ⊢
    have S2:=Sub.ext' (o:=.lst (Yp es.length (.str " "))) (Sub.refl _) hp2
    have S3:=Sub.ext' (o:=.lst [.str " "]) (Sub.refl _) hp3
    refine a6q ((S2.trans S3) p _ a5q) (a6q a5q ⟨by omega,by omega,by simp,λ p4 hp4=>⟨_,Sub.refl _,?_⟩⟩)
    rw [kSq,show (es.length:Int).toNat=es.length by omega] at *
    have S4:=Sub.ext' (o:=.lst (Yp es.length (.str " "))) (Sub.refl _) hp4
    obtain ⟨r1,r2⟩:=i9q " " es.length
    have l4:=(S2.trans (S3.trans S4)) p _ a5q
    have S:=S1.trans (S2.trans (S3.trans S4))
    have hl4:=S l _ hl
    refine a6q ((S3.trans S4) p2 _ a5q) (a6q a5q ⟨r1,r1,r2,⟨λ c=>?_,λ _=>gIq l4 (cYq es id (λ _=>.bl true) (by simp) (aZq (by omega)) l4 (λ x hx R hR=>by obtain ⟨xs,rfl⟩:=htup x hx;exact ⟨true,rfl,hR⟩) (λ p5 hp5=>a6q a5q ⟨es.map λ _=>true,?_,_,Sub.new (Sub.refl _) hp5,?_⟩))⟩⟩)
    . rw [i6q] at c;cases c
    . rw [show (es.map λ _=>D.bl true)=(es.map λ _=>true).map D.bl by simp];exact d1q _
    . rw [show (es.map λ _=>true).all id=true by simp]
      refine ⟨nofun,λ _=>a6q l4 ⟨λ c=>?_,λ _=>aLq hl4 (d:=.str z) (bFq (j:=0) rfl) ⟨true,rfl,⟨nofun,λ _=>aLq hl4 (d:=.str z) (bFq (j:=0) rfl) ?_⟩⟩⟩⟩
      . have c':=eq_of_beq (show (_==_)=true from c)
        have:1<=es.length:=Zc.mpr h7a
        omega
      . cases hn with
        | un a hw=>
          have ew:=aW0q z hw
          have ng:(z==("give" : Str))=false:=by
            simp only [unW,Yd,Yn,or_false] at hw
            rcases hw with rfl | rfl | rfl | rfl | rfl<;>decide
          refine ⟨λ c=>gTq (ng.symm.trans c),λ _=>aLq hl4 (d:=.str z) (bFq (j:=0) rfl) ?_⟩
          dsimp only
          rw [ew]
          exact a6q l4 ⟨λ c=>gTq c,λ _=>aLq hl4 (d:=.str z) (bFq (j:=0) rfl) (a6q l4 ⟨big (by simp),⟨G,S,q⟩⟩)⟩
        | bi a b hw=>
          have ew:=aP3q z hw
          have ng:(z==("give" : Str))=false:=by
            simp only [biW,Yd,Yn,or_false] at hw
            rcases hw with rfl | rfl | rfl<;>decide
          refine ⟨λ c=>gTq (ng.symm.trans c),λ _=>aLq hl4 (d:=.str z) (bFq (j:=0) rfl) ?_⟩
          dsimp only
          rw [ew]
          exact a6q l4 ⟨λ c=>gTq c,λ _=>aLq hl4 (d:=.str z) (bFq (j:=0) rfl) (a6q l4 ⟨big (by simp),⟨G,S,q⟩⟩)⟩
        | give a ps h6=>
          refine ⟨λ _=>aLq l4 (d:=a) (bFq (j:=0) rfl) (a6q l4 λ p6 hp6=>a6q a5q ?_),λ c=>absurd c (by decide)⟩
          rw [pMq]
          exact ⟨G,S.trans (Sub.new (Sub.refl _) hp6),q⟩
abbrev i5q:Stmt:=top 40
theorem sc_readp:FnScope ["text", "frames", "pieces", "at", "piece", "closed", "end"] ["text"] (aDq i5q):=⟨rfl,rfl,rfl,by decide +kernel,rfl,by decide +kernel,by decide +kernel⟩
theorem tOq (B:Blt mg) {tp:Tok} {aS:Addr} (m_SIGNS_papertexts:mg "SIGNS_papertexts" = some (.str sgnP tp)) (m_PAPER_OF_SIGN:mg "PAPER_OF_SIGN" = some (.ref aS)) (T_PAPER_OF_SIGN:KTabD K w aS psT) (g_pieces:Got P w K mg base 1 "pieces_of" ["text", "signs"] (aRq K jWq)) (g_kend:Got P w K mg base 1 "kind_end" ["pieces", "start"] (aRq K pXq)) (g_pcl:Got P w K mg base 1 "paper_closed" ["row"] (aRq K wUq)) (g_read:Got P w K mg base 4 "read_kind" ["text"] (aRq K l1q)) (F:Fun K "read_paper" "read_paper" i5q f fd):FnOk P w K mg base CX0 5 f fd ["text"] (aRq K kZq):=by
  refine okD (k:=4) F sc_readp (λ ds G DQ h=>?_) (λ cdv A outer s H E hr ds G DQ h=>?_)
  . obtain ⟨_,_,rfl,_⟩:=h;rfl
  obtain ⟨d,x,rfl,hx,hs,q⟩:=h
  refine ⟨_,(a4q (aIq (k:=1) sc_readp.nd rfl (Or.inl rfl) (bSq (a0q (bSq a2q) a2q)))
      (a4q (aIq (k:=2) sc_readp.nd rfl (Or.inl rfl) (a9q g_pieces hr (by omega) rfl (a0q (a1q 0) (a0q (cIq (d:=.str _) (v:=.str _) rfl m_SIGNS_papertexts ⟨_,rfl⟩ (λ _=>rfl)) a2q))))
      (a4q (aIq (k:=3) sc_readp.nd rfl (Or.inl rfl) a3q)
      (a4q (dGq PassesOwn.never (aBq c3q (a1q 3) (aCq aFq rfl B.len PySem.boot_len (a0q (a1q 2) a2q)) (aAq _)) (a4q (aIq (k:=4) sc_readp.nd rfl (Or.inl rfl) (aHq aix (a1q 2) (a1q 3) (λ _ _=>rfl)))
      (a4q (mOq (k:=3) sc_readp.nd rfl (Or.inl rfl) a3q l5q)
      (a7q (aNq (aBq (aKq (aPq hr)) (a1q 4) a8q (aAq _)) (a7q (bDq (c1q PySem.F.plainAttrs_list PySem.F.slot_list_append PySem.F.type_list_append aXq (a1q 1) (a0q (bSq a2q) a2q)))) (a7q (aNq (aBq (aKq (aPq hr)) (a1q 4) a8q (aAq _)) (a4q (aIq (k:=5) sc_readp.nd rfl (Or.inl rfl) (f1q PySem.F.plainAttrs_list PySem.F.slot_list_pop PySem.F.type_list_pop dPq (a1q 1)))
      (a4q (aNq (aBq (aKq (aPq hr)) (aCq aFq rfl B.len PySem.boot_len (a0q (a1q 1) a2q)) a3q (aAq _)) (a7q c0q) aGq)
      (a7q (bDq (c1q PySem.F.plainAttrs_list PySem.F.slot_list_append PySem.F.type_list_append aXq (aHq aix (a1q 1) (i7q d2q a3q) (λ _ _=>rfl)) (a0q (a9q g_pcl hr (by omega) rfl (a0q (a1q 5) a2q)) a2q)))))) (a7q (aNq (aBq (aKq (aPq hr)) (a1q 4) a8q (aAq _)) (a4q (aIq (k:=6) sc_readp.nd rfl (Or.inl rfl) (a9q g_kend hr (by omega) rfl (a0q (a1q 2) (a0q (a1q 3) a2q))))
      (a4q (bDq (c1q PySem.F.plainAttrs_list PySem.F.slot_list_append PySem.F.type_list_append aXq (aHq aix (a1q 1) (i7q d2q a3q) (λ _ _=>rfl)) (a0q (b1q (a0q a8q (a0q (a9q g_read hr (by omega) rfl (a0q (c1q PySem.F.plainAttrs_str PySem.F.slot_str_join PySem.F.type_str_join j0q a8q (a0q (bCq asl (a1q 2) (b2q (a1q 3)) (b2q (a1q 6))) a2q)) a2q)) a2q))) a2q)))
      (a7q (aIq (k:=3) sc_readp.nd rfl (Or.inl rfl) (a1q 6))))) (a7q (bDq (c1q PySem.F.plainAttrs_list PySem.F.slot_list_append PySem.F.type_list_append aXq (aHq aix (a1q 1) (i7q d2q a3q) (λ _ _=>rfl)) (a0q (sDq rfl m_PAPER_OF_SIGN T_PAPER_OF_SIGN (a1q 4) (a1q 4)) a2q)))))))))))))
      (a4q (aNq (AW.at (d6q (aBq (dMq (aPq hr)) (aCq aFq rfl B.len PySem.boot_len (a0q (a1q 1) a2q)) a3q (aAq _)) (d6q (aBq (dMq (aPq hr)) (aCq aFq rfl B.len PySem.boot_len (a0q (aHq aix (a1q 1) a3q (λ _ _=>rfl)) a2q)) a3q (aAq _)) (cCq (dAq (bBq (aCq bLq rfl B.isinstance PyProof.Rows.boot_isinstance (a0q (aHq aix (aHq aix (a1q 1) a3q (λ _ _=>rfl)) a3q (λ _ _=>rfl)) (a0q (bRq rfl B.tuple PyProof.Rows.boot_tuple) a2q))))))))) (a7q c0q) aGq)
      (a7q (aEq (aHq aix (aHq aix (a1q 1) a3q (λ _ _=>rfl)) a3q (λ _ _=>rfl))))))))),?_⟩
  have hxl:=zAq hx
  intro p0 hp0 p1 hp1
  obtain ⟨-,hp10,hne⟩:=dLq (o:=.lst []) hp1
  refine ⟨txt x,rfl,?_,λ l hl=>?_⟩
  . show (cat x).length<=_
    omega
  rw [show (txt x).cps.toList=cat x from rfl,jRq hx]
  have h2:up G p0 (.lst []) l=none/\l≠p1:=by
    have n:l≠p1:=by rintro rfl;rw [a5q] at hl;cases hl
    rw [aQq n] at hl;exact ⟨hl,n⟩
  have h3:G l=none/\l≠p0:=by
    have n:l≠p0:=by rintro rfl;have:=h2.1;rw [a5q] at this;cases this
    have:=h2.1;rw [aQq n] at this;exact ⟨this,n⟩
  refine ⟨λ μ ρ G'=>∃ (i:Nat) (fs:List (Addr × List D)) (o4 o5 o6:Option D),ρ=[some (.str (txt x)),some (.ref p1),some (.ref l),some (.int (i:Int)),o4,o5,o6]/\Frs G' p1 fs/\Sub (up G l (.lst (x.map D.str))) G'/\(∀ p∈fs,up G l (.lst (x.map D.str)) p.1=none)/\i<=x.length/\Rp (fs.map (·.2)) (x.drop i) [[d]]/\fs.length<=i+1/\(∀ p∈fs,p.2.length<=i+1)/\x.length - i=μ,⟨_,0,[(p0,[])],_,_,_,rfl,?_,?_,?_,Nat.zero_le _,?_,Nat.le_refl _,by simp,rfl⟩,?_⟩
  . refine ⟨by rw [aQq h2.2.symm,a5q];rfl,λ p hp=>?_,by simp,λ p hp=>?_⟩
    . simp at hp;subst hp
      rw [aQq h3.2.symm,aQq hne.symm];exact a5q
    . simp at hp;subst hp;exact hne.symm
  . exact Sub.put (Sub.new (Sub.new (Sub.refl _) hp0) hp10)
  . intro p hp
    simp at hp;subst hp
    rw [aQq h3.2.symm];exact hp0
  . have:=aP0q hx [] [] [] [[d]] (.inl rfl) (.nil _)
    rw [Yt] at this;exact this
  rintro μ ρ G' ⟨i,fs,o4,o5,o6,rfl,hF,hS,hfs,hil,hR,hl1,hl2,rfl⟩
  have hll:=hS l _ a5q
  have hlm:(x.map D.str).length=x.length:=Yf ..
  have hp1x:up G l (.lst (x.map D.str)) p1=none:=by rw [aQq h2.2.symm];exact hp10
  refine a6q hll ⟨λ c=>?_,λ c=>?_⟩
  . have hlt:i < x.length:=by have:=of_decide_eq_true c;rw [hlm] at this;omega
    have hat:∀ p,x[i]?=some p->atI (x.map D.str) (i:Int)=some (.str p):=λ p hc=>bFq (by rw [Yw,hc];rfl)
    obtain ⟨p,hc⟩:∃ p,x[i]?=some p:=⟨_,Yi hlt⟩
    have hdr:x.drop i=p::x.drop (i+1):=by rw [YZ hlt,(Yu.mp hc).2]
    rw [hdr] at hR
    refine aLq hll (hat p hc) ?_
    generalize hs0:fs.map (·.2)=st at hR
    generalize hx0:x.drop (i+1)=xr at hR
    generalize hy0:p::xr=yr at hR
    cases hR with
    | nil=>cases hy0
    | @opn _ _ r hR=>
      obtain ⟨rfl,rfl⟩:p = "("/\xr=r:=by simpa using hy0
      refine ⟨λ _=>⟨a6q hF.top trivial,λ r hr=>?_⟩,λ c=>absurd c (by decide)⟩
      have n1:r≠p1:=by rintro rfl;rw [hF.top] at hr;cases hr
      have hr0:=hS.none hr
      refine aTq (by rw [aQq n1.symm];exact hF.top) ⟨aZq (by simp only [Yf,Ym];omega),Wk.of ⟨x.length - (i+1),by omega,i+1,(r,[])::fs,_,_,_,rfl,hF.push hr,Sub.new (Sub.new hS hr0) hp1x,λ p hp=>?_,by omega,?_,by simp only [Yb];omega,λ p hp=>?_,rfl⟩⟩
      . rcases Yd.mp hp with rfl | hp
        . exact hr0
        . exact hfs p hp
      . rw [Yh,hs0,hx0];exact hR
      . rcases Yd.mp hp with rfl | hp
        . simp
        . have:=hl2 p hp;omega
    | @cls c' t' k st _ r hclo hR=>
      obtain ⟨rfl,rfl⟩:p = ")"/\xr=r:=by simpa using hy0
      obtain ⟨⟨a1,c1⟩,⟨a2,t⟩,gs,rfl⟩:∃ u v gs,fs=u::v::gs:=by
        cases fs with
        | nil=>cases hs0
        | cons u r=>
          cases r with
          | nil=>simp at hs0
          | cons v gs=>exact ⟨u,v,gs,rfl⟩
      simp only [Yh,List.cons.injEq] at hs0
      obtain ⟨rfl,rfl,rfl⟩:=hs0
      have F1:=hF.pop
      refine ⟨λ c=>absurd c (by decide),λ _=>⟨λ _=>⟨a6q hF.top trivial,aTq hF.top ⟨(((a2,t)::gs).map (·.1)).reverse.map D.ref,.ref a1,by simp,?_⟩⟩,λ c=>absurd c (by decide)⟩⟩
      refine a6q F1.top ⟨λ c=>?_,λ _=>aLq F1.top (d:=.ref a2) (uOq (j:=gs.length) (by decide) (by simp only [Yf,Ym,Yb];omega) (by simp)) ⟨a6q (F1.at_ _ (Ya ..)) trivial,⟨a1,c1,k,rfl,by rw [aQq (hF.ne _ (Ya ..))];exact hF.at_ _ (Ya ..),hclo,aTq (F1.at_ _ (Ya ..)) ⟨aZq (by have:=hl2 (a2,t) (by simp);show t.length<=_;simp only at this;omega),Wk.of ⟨x.length - (i+1),by omega,i+1,(a2,t++[k])::gs,_,_,_,rfl,F1.set,Sub.new (Sub.new hS hp1x) (hfs (a2,t) (by simp)),λ p hp=>?_,by omega,by rw [hx0];exact hR,by simp only [Yb] at *;omega,λ p hp=>?_,rfl⟩⟩⟩⟩⟩
      . have c':=eq_of_beq (show (_==_)=true from c)
        simp at c'
        omega
      . rcases Yd.mp hp with rfl | hp
        . exact hfs (a2,t) (by simp)
        . exact hfs p (by simp [hp])
      . rcases Yd.mp hp with rfl | hp
        . have:=hl2 (a2,t) (by simp);simp only [Yg,Yb,Yj] at *;omega
        . have:=hl2 p (by simp [hp]);omega
    | @nam k y t' st _ r h1 h2' h3' hr hR=>
      obtain ⟨rfl,rfl⟩:p = "#"/\xr=pcs SQ2 [] (cat y)++r:=by simpa using hy0
      obtain ⟨⟨a,t⟩,gs,rfl⟩:∃ u gs,fs=u::gs:=by
        cases fs with
        | nil=>cases hs0
        | cons u r=>exact ⟨u,r,rfl⟩
      simp only [Yh,List.cons.injEq] at hs0
      obtain ⟨rfl,rfl⟩:=hs0
      have hyl:(pcs SQ2 [] (cat y)).length+(i+1)<=x.length:=by
        have:=congrArg YJ hx0
        rw [Yz,Yg] at this;omega
      have hcy:=cSq SQ2 (cat y) []
      rw [YM] at hcy
      have hcyl:(cat y).length<=236600:=by
        have h5:=h1.len;have h6:=iCq h1.few;have h7:=h3'.sz;omega
      have hcut:cut (x.map D.str) (some ((i+1:Nat):Int)) (some ((i+1+(pcs SQ2 [] (cat y)).length:Nat):Int))=(pcs SQ2 [] (cat y)).map D.str:=by
        have:=sCq (xs:=x.map D.str) (ys:=(pcs SQ2 [] (cat y)).map D.str) (r:=r.map D.str) (a:=i+1) (by rw [<- List.map_drop,hx0,YQ]) (by rw [Yf];omega)
        rw [Yf] at this;exact this
      have hdr2:x.drop (i+1+(pcs SQ2 [] (cat y)).length)=r:=by rw [<- List.drop_drop,hx0,List.drop_left'];rfl
      have hal:=hF.at_ _ (Ya ..)
      refine ⟨λ c=>absurd c (by decide),λ _=>⟨λ c=>absurd c (by decide),λ _=>⟨λ _=>⟨l,x,i+1,y,r,k,rfl,hll,by omega,hx0,h1,hr,by omega,?_⟩,λ c=>absurd c (by decide)⟩⟩⟩
      refine aLq hF.top (d:=.ref a) (uOq (j:=gs.length) (by decide) (by simp only [Yf,Ym,Yb];omega) (by simp)) ⟨a6q hal trivial,⟨trivial,a6q hll λ p7 hp7=>a6q a5q ⟨pcs SQ2 [] (cat y),hcut,by decide +kernel,by rw [qJq,hcy];omega,⟨k,y,by rw [tPq,hcy],h1,h2',h3',?_⟩⟩⟩⟩
      have n7:a≠p7:=by rintro rfl;rw [hal] at hp7;cases hp7
      refine aTq (by rw [aQq n7];exact hal) ⟨aZq (by have:=hl2 (a,t) (by simp);show t.length<=_;simp only at this;omega),?_⟩
      refine ⟨_,up G' a (.lst (t++[.tup [.str "name", k]])),.refl _,Sub.put (Sub.new (Sub.refl _) hp7),x.length - (i+1+(pcs SQ2 [] (cat y)).length),by omega,i+1+(pcs SQ2 [] (cat y)).length,(a,t++[.tup [.str "name", k]])::gs,_,_,_,rfl,hF.set,Sub.new hS (hfs (a,t) (by simp)),λ p hp=>?_,by omega,by rw [hdr2];exact hR,by simp only [Yb] at *;omega,λ p hp=>?_,rfl⟩
      . rcases Yd.mp hp with rfl | hp
        . exact hfs (a,t) (by simp)
        . exact hfs p (by simp [hp])
      . rcases Yd.mp hp with rfl | hp
        . have:=hl2 (a,t) (by simp);simp only [Yg,Yb,Yj] at *;omega
        . have:=hl2 p (by simp [hp]);omega
    | @oth p' q0 t' st _ r hrp hR=>
      obtain ⟨rfl,rfl⟩:p=p'/\xr=r:=by simpa using hy0
      obtain ⟨c1,c2,c3,c4⟩:=aD7q hrp
      obtain ⟨⟨a,t⟩,gs,rfl⟩:∃ u gs,fs=u::gs:=by
        cases fs with
        | nil=>cases hs0
        | cons u r=>exact ⟨u,r,rfl⟩
      simp only [Yh,List.cons.injEq] at hs0
      obtain ⟨rfl,rfl⟩:=hs0
      refine ⟨λ c=>gTq (c1.symm.trans c),λ _=>⟨λ c=>gTq (c2.symm.trans c),λ _=>⟨λ c=>gTq (c3.symm.trans c),λ _=>?_⟩⟩⟩
      refine aLq hF.top (d:=.ref a) (uOq (j:=gs.length) (by decide) (by simp only [Yf,Ym,Yb];omega) (by simp)) ⟨a6q (hF.at_ _ (Ya ..)) trivial,?_⟩
      show onM _ _ _
      rw [c4]
      refine aTq (hF.at_ _ (Ya ..)) ⟨aZq (by have:=hl2 (a,t) (by simp);show t.length<=_;simp only at this;omega),Wk.of ⟨x.length - (i+1),by omega,i+1,(a,t++[q0])::gs,_,_,_,rfl,hF.set,Sub.new hS (hfs (a,t) (by simp)),λ p hp=>?_,by omega,by rw [hx0];exact hR,by simp only [Yb] at *;omega,λ p hp=>?_,rfl⟩⟩
      . rcases Yd.mp hp with rfl | hp
        . exact hfs (a,t) (by simp)
        . exact hfs p (by simp [hp])
      . rcases Yd.mp hp with rfl | hp
        . have:=hl2 (a,t) (by simp);simp only [Yg,Yb,Yj] at *;omega
        . have:=hl2 p (by simp [hp]);omega
  . have hge:x.length<=i:=by have:=of_decide_eq_false c;rw [hlm] at this;omega
    rw [Zj hge] at hR
    generalize hs0:fs.map (·.2)=st at hR
    cases hR
    obtain ⟨⟨a,t'⟩,rfl⟩:∃ u,fs=[u]:=by
      cases fs with
      | nil=>cases hs0
      | cons u r=>
        cases r with
        | nil=>exact ⟨u,rfl⟩
        | cons v gs=>simp at hs0
    simp only [Yh,List.cons.injEq,YF,and_true] at hs0
    subst hs0
    have e1:=hF.at_ _ (Ya ..)
    obtain ⟨xs,rfl⟩:=tWq hx
    exact a6q hF.top ⟨λ c=>gTq c,λ _=>aLq hF.top (d:=.ref a) rfl (a6q e1 ⟨λ c=>gTq c,λ _=>aLq hF.top (d:=.ref a) rfl (aLq e1 (d:=.tup xs) rfl ⟨true,rfl,⟨nofun,λ _=>aLq hF.top (d:=.ref a) rfl (aLq e1 (d:=.tup xs) rfl ⟨G,Sub.trans (Sub.new (Sub.refl _) h3.1) hS,q⟩)⟩⟩)⟩)⟩
abbrev fVq:Stmt:=top 48
theorem sc_lakind:FnScope ["_law_feed_here", "_law_deep", "_law_form", "_law_one"] ["_law_feed_here", "_law_deep"] (aDq fVq):=⟨rfl,rfl,rfl,by decide +kernel,rfl,by decide +kernel,by decide +kernel⟩
theorem oHq:FnOk P w K mg base CX0 2 f fd ["_law_feed_here", "_law_deep"] (aRq K (jQq 0)):=uDq λ ds G DQ h=>by obtain ⟨_,_,_,_,_,_,_⟩:=h;omega
theorem oJq {n:Nat} (B:Blt mg) (g_take:Got P w K mg base 1 "_law_take" ["_law_feed_here", "_law_many"] (aRq K eCq)) (g_lakind:Got P w K mg base (n+2) "_law_answer_kind" ["_law_feed_here", "_law_deep"] (aRq K (jQq n))) (F:Fun K "_law_answer_kind" "_law_answer_kind" fVq f fd):FnOk P w K mg base CX0 (n+3) f fd ["_law_feed_here", "_law_deep"] (aRq K (jQq (n+1))):=by
  refine okD (k:=n+2) F sc_lakind (λ ds G DQ h=>?_) (λ cdv A outer s H E hr ds G DQ h=>?_)
  . obtain ⟨_,_,rfl,_⟩:=h;rfl
  obtain ⟨a,k,rfl,hF,k0,k1,k3,q⟩:=h
  refine ⟨_,(a4q (aIq (k:=2) sc_lakind.nd rfl (Or.inl rfl) (a9q g_take hr (by omega) rfl (a0q (a1q 0) (a0q a3q a2q))))
      (a4q (aNq (AW.at (dCq (aBq dIq (a1q 1) a3q (aAq _)) (cBq (aBq dIq (a1q 2) a3q (aAq _))))) (a4q (aIq (k:=3) sc_lakind.nd rfl (Or.inl rfl) (a9q g_lakind hr (by omega) rfl (a0q (a1q 0) (a0q (aOq bJq (a1q 1) a3q) a2q))))
      (a7q (aEq (b1q (a0q a8q (a0q (a1q 3) (a0q (a9q g_lakind hr (by omega) rfl (a0q (a1q 0) (a0q (aOq bJq (a1q 1) a3q) a2q))) a2q))))))) aGq)
      (a4q (aNq (aBq (aKq (aPq hr)) (a1q 2) a3q (aAq _)) (a7q (aEq (b1q (a0q a8q a2q)))) aGq)
      (a7q (aEq (b1q (a0q a8q (a0q (cDq (a0q (aOq bJq (a9q g_take hr (by omega) rfl (a0q (a1q 0) (a0q a3q a2q))) a3q) (a0q (aOq bJq (a9q g_take hr (by omega) rfl (a0q (a1q 0) (a0q a3q a2q))) a3q) a2q)) (b4q pZq rfl B.int PyProof.Rows.boot_int (a0q (d3q (aKq (aPq hr)) (a1q 2) a3q (aAq _)) a2q)) (λ _ _=>rfl)) a2q)))))))),?_⟩
  have pw:k≠0->2 ^ k.toNat=2 * 2 ^ (k - 1).toNat:=λ h=>by rw [show k.toNat=(k - 1).toNat+1 by omega,Nat.pow_succ];omega
  have p1:∀ j,1<=2 ^ j:=λ j=>Nat.one_le_two_pow
  have pk:=p1 k.toNat
  refine ⟨hF,by decide,by decide,λ fm G1 u1 f0 f1=>⟨λ c=>⟨λ c2=>?_,λ c2=>?_⟩,λ c=>⟨λ c=>absurd c (by decide),λ _=>?_⟩⟩⟩
  . have c':=of_decide_eq_true c
    have pw':=pw (by omega)
    have pj:=p1 (k - 1).toNat
    refine ⟨a,k - 1,rfl,u1.fd,by omega,by omega,by omega,λ d1 G2 u2 e1 o1=>⟨a,k - 1,rfl,u2.fd,by omega,by omega,by omega,λ d2 G3 u3 e2 o2=>Dr.of (q _ _ (u1.trans (u2.trans u3)) ((xYq e1 e2 o1 o2).mono (by omega) (by omega)) rfl)⟩⟩
  . exact ⟨λ _=>Dr.of (q _ _ u1 (kc_some.mono (by omega) (by omega)) rfl),λ _=>⟨u1.fd,by decide,by decide,λ m1 G2 u2 a0 a1=>⟨u2.fd,by decide,by decide,λ m2 G3 u3 b0 b1=>at2 (by split<;>omega) (by split<;>omega) (λ _=>Dr.of (q _ _ (u1.trans (u2.trans u3)) ((sVq (by omega)).mono (by omega) (by omega)) rfl)) (λ _=>Dr.of (q _ _ (u1.trans (u2.trans u3)) ((sVq (by omega)).mono (by omega) (by omega)) rfl))⟩⟩⟩
  . exact ⟨λ _=>Dr.of (q _ _ u1 (kc_some.mono (by omega) (by omega)) rfl),λ _=>⟨u1.fd,by decide,by decide,λ m1 G2 u2 a0 a1=>⟨u2.fd,by decide,by decide,λ m2 G3 u3 b0 b1=>at2 (by split<;>omega) (by split<;>omega) (λ _=>Dr.of (q _ _ (u1.trans (u2.trans u3)) ((sVq (by omega)).mono (by omega) (by omega)) rfl)) (λ _=>Dr.of (q _ _ (u1.trans (u2.trans u3)) ((sVq (by omega)).mono (by omega) (by omega)) rfl))⟩⟩⟩
abbrev lFq:Stmt:=top 49
theorem sc_kind:FnScope ["_law_feed_here", "_law_deep", "_law_form", "_law_one", "_law_k", "_law_bag"] ["_law_feed_here", "_law_deep"] (aDq lFq):=⟨rfl,rfl,rfl,by decide +kernel,rfl,by decide +kernel,by decide +kernel⟩
theorem y0q:FnOk P w K mg base CX0 7 f fd ["_law_feed_here", "_law_deep"] (aRq K (spKe 0)):=uDq λ ds G DQ h=>by obtain ⟨_,_,_,_,_,_,_,_⟩:=h;omega
theorem wFq {n:Nat} (B:Blt mg) (g_take:Got P w K mg base 1 "_law_take" ["_law_feed_here", "_law_many"] (aRq K eCq)) (g_lakind:Got P w K mg base 6 "_law_answer_kind" ["_law_feed_here", "_law_deep"] (aRq K (jQq 4))) (g_kind:Got P w K mg base (n+7) "_law_kind" ["_law_feed_here", "_law_deep"] (aRq K (spKe n))) (F:Fun K "_law_kind" "_law_kind" lFq f fd):FnOk P w K mg base CX0 (n+8) f fd ["_law_feed_here", "_law_deep"] (aRq K (spKe (n+1))):=by
  refine okD (k:=n+7) F sc_kind (λ ds G DQ h=>?_) (λ cdv A outer s H E hr ds G DQ h=>?_)
  . obtain ⟨_,_,rfl,_⟩:=h;rfl
  obtain ⟨a,k,rfl,hF,k0,k1,k3,q⟩:=h
  refine ⟨_,(a4q (aIq (k:=2) sc_kind.nd rfl (Or.inl rfl) (a9q g_take hr (by omega) rfl (a0q (a1q 0) (a0q a3q a2q))))
      (a4q (aNq (AW.at (d6q (aBq (aKq (aPq hr)) (a1q 1) a3q (aAq _)) (cCq (aBq c3q (a1q 2) a3q (aAq _))))) (a7q (aEq (a9q g_lakind hr (by omega) rfl (a0q (a1q 0) (a0q (aCq (r1q rfl) rfl B.min PyProof.Rows.boot_min (a0q (a1q 1) (a0q a3q a2q))) a2q))))) aGq)
      (a4q (aNq (aBq c3q (a1q 2) a3q (aAq _)) (a7q (aEq (b1q (a0q (cDq (a0q a8q (a0q a8q a2q)) (aOq bJq (a1q 2) a3q) (λ _ _=>rfl)) (a0q (a9q g_kind hr (by omega) rfl (a0q (a1q 0) (a0q (aOq bJq (a1q 1) a3q) a2q))) a2q))))) aGq)
      (a4q (aNq (aBq (aKq (aPq hr)) (a1q 2) a3q (aAq _)) (a4q (aIq (k:=3) sc_kind.nd rfl (Or.inl rfl) (a9q g_kind hr (by omega) rfl (a0q (a1q 0) (a0q a3q a2q))))
      (a4q (fSq PassesOwn.never rfl (gBq rfl B.range (a0q (a9q g_take hr (by omega) rfl (a0q (a1q 0) (a0q a3q a2q))) a2q)) (bEq (k:=4) sc_kind.nd rfl (Or.inl rfl)) (a7q (aIq (k:=3) sc_kind.nd rfl (Or.inl rfl) (b1q (a0q (cDq (a0q a8q (a0q a8q a2q)) (a9q g_take hr (by omega) rfl (a0q (a1q 0) (a0q a3q a2q))) (λ _ _=>rfl)) (a0q (a1q 3) a2q))))))
      (a7q (aEq (a1q 3))))) aGq)
      (a4q (dEq (k:=5) rfl sc_kind.nd rfl (Or.inl rfl) (CompOk.of (N':=["_law_k", "_law_feed_here", "_law_deep"]) (nt:=1) (cap:=[0,1]) rfl (by kernel_rfl)) (b8q (k:=0) (by decide)) (gBq rfl B.range (a0q (a9q g_take hr (by omega) rfl (a0q (a1q 0) (a0q (cDq (a0q a3q (a0q a3q (a0q a3q (a0q a3q a2q)))) (a1q 1) (λ _ _=>rfl)) a2q))) a2q)) (λ _ _ _ _=>(bEq (k:=0) (show YA (["_law_k", "_law_feed_here", "_law_deep"]:List Str) by decide +kernel) rfl (Or.inl rfl)))  (λ _ _ _ _=>(a9q g_kind hr (by omega) rfl (a0q (a1q 1) (a0q (aOq bJq (a1q 2) a3q) a2q)))))
      (a4q (aNq (AW.at (dCq (aBq dIq (aCq aFq rfl B.len PySem.boot_len (a0q (a1q 5) a2q)) a3q (aAq _)) (cBq (aBq (aKq (aPq hr)) (a9q g_take hr (by omega) rfl (a0q (a1q 0) (a0q a3q a2q))) a3q (aAq _))))) (a7q (mDq (aHq aix (a1q 5) a3q (λ _ _=>rfl)) (m1q (a1q 5) a3q))) aGq)
      (a7q (aEq (b1q (a0q a8q (a0q (bOq (b4q b3q rfl B.tuple PyProof.Rows.boot_tuple (a0q (aCq (eGq aQ0q s1q (aPq hr)) rfl B.sorted PyProof.Rows.boot_sorted (a0q (a1q 5) a2q)) a2q))) (a0q (a9q g_kind hr (by omega) rfl (a0q (a1q 0) (a0q (aOq bJq (a1q 1) a3q) a2q))) a2q)))))))))))),?_⟩
  have h30:(if (3:Int) < k then (3:Int) else k)=k:=if_neg (by omega)
  have k4:k=0\/k=1\/k=2\/k=3:=by omega
  have ans:∀ d,KC (16 * 2 ^ k.toNat - 3) (k.toNat+1) d->KC (cK k.toNat) (pK k.toNat) d:=λ d e=>by rcases k4 with rfl | rfl | rfl | rfl<;>exact e.mono (by decide) (by decide)
  have stp:k≠0->cK (k - 1).toNat+3<=cK k.toNat/\1+pK (k - 1).toNat<=pK k.toNat:=λ h=>by rcases k4 with rfl | rfl | rfl | rfl<;>first | exact absurd rfl h | decide
  have big1:k≠0->100<=cK k.toNat/\24<=pK k.toNat:=λ h=>by rcases k4 with rfl | rfl | rfl | rfl<;>first | exact absurd rfl h | decide
  refine ⟨hF,by decide,by decide,λ fm G1 u1 f0 f1=>⟨λ c=>⟨λ _=>?_,λ c=>absurd c (by decide)⟩,λ c=>⟨λ c2=>?_,λ c2=>⟨λ c3=>?_,λ c3=>⟨λ c4=>?_,λ c4=>?_⟩⟩⟩⟩⟩
  . exact ⟨a,if (3:Int) < k then 3 else k,rfl,u1.fd,by rw [h30];omega,by rw [h30];omega,by rw [h30];omega,λ d G2 u2 e o=>Dr.of (q d G2 ⟨G2,u1.trans u2,.refl _⟩ (ans d (by rw [h30] at e;exact e)) (λ _=>o))⟩
  . exact ⟨a,if (3:Int) < k then 3 else k,rfl,u1.fd,by rw [h30];omega,by rw [h30];omega,by rw [h30];omega,λ d G2 u2 e o=>Dr.of (q d G2 ⟨G2,u1.trans u2,.refl _⟩ (ans d (by rw [h30] at e;exact e)) (λ _=>o))⟩
  . have c3':=of_decide_eq_true c3
    have c2':=of_decide_eq_false c2
    have k0':k≠0:=by rintro rfl;cases c
    obtain ⟨s1,s2⟩:=stp k0'
    refine at2 (i:=fm - 4) (by omega) (by omega) (λ _=>⟨a,k - 1,rfl,u1.fd,by omega,by omega,by omega,λ d G2 w2 e _=>Dr.of (q _ G2 (Dw.trans (.of u1) w2) ((p7q e).mono s1 s2) (λ z=>absurd z k0'))⟩) λ _=>⟨a,k - 1,rfl,u1.fd,by omega,by omega,by omega,λ d G2 w2 e _=>Dr.of (q _ G2 (Dw.trans (.of u1) w2) ((lUq e).mono s1 s2) (λ z=>absurd z k0'))⟩
  . have k0':k≠0:=by rintro rfl;cases c
    obtain ⟨s1,s2⟩:=big1 k0'
    refine ⟨a,0,rfl,u1.fd,by omega,by omega,by omega,λ d0 G2 w2 e0 _=>⟨w2.fd,by decide,by decide,λ m G3 u3 m0 m1=>lMq (by omega) ?_⟩⟩
    refine ⟨λ i ρ G'=>∃ (d:D) (o4 o5:Option D),ρ=[some (.ref a),some (.int k),some (.int fm),some d,o4,o5]/\Dw a G G'/\KC (13+3 * i) (1+i) d,⟨d0,_,_,rfl,Dw.trans (.of u1) (w2.trans (.of u3)),e0⟩,λ _ _ _ _ _=>trivial,?_,?_⟩
    . rintro i e ρ G' he ⟨d,o4,o5,rfl,w,hd⟩
      refine ⟨w.fd,by decide,by decide,λ j G4 u4 j0 j1=>at2 j0 (by omega) (λ _=>Wk.of ⟨_,_,_,rfl,w.trans (.of u4),(p7q hd).mono (by omega) (by omega)⟩) (λ _=>Wk.of ⟨_,_,_,rfl,w.trans (.of u4),(lUq hd).mono (by omega) (by omega)⟩)⟩
    . rintro ρ G' ⟨d,o4,o5,rfl,w,hd⟩
      have el:(⟨cFq 0 m.toNat,λ _=>True⟩:DIt).items.length=m.toNat:=c8q
      rw [el] at hd
      exact Dr.of (q d _ w (hd.mono (by omega) (by omega)) (λ z=>absurd z k0'))
  . have k0':k≠0:=by rintro rfl;cases c
    obtain ⟨b,hb,hat⟩:∃ b:Int,((k=1/\b=7)\/(k=2/\b=4)\/(k=3/\b=3))/\atI [D.int 0,.int 7,.int 4,.int 3] k=some (.int b):=by
      rcases k4 with h | rfl | rfl | rfl
      . exact absurd h k0'
      . exact ⟨7,.inl ⟨rfl,rfl⟩,rfl⟩
      . exact ⟨4,.inr (.inl ⟨rfl,rfl⟩),rfl⟩
      . exact ⟨3,.inr (.inr ⟨rfl,rfl⟩),rfl⟩
    refine qMq (jCq hat ?_)
    have kw:∀ (ds:List D) (k':D),(∀ d∈ds,KC (cK (k - 1).toNat) (pK (k - 1).toNat) d)->gVq ds=true->KC (cK (k - 1).toNat) (pK (k - 1).toNat) k'->(ds.length:Int) < b->KC (cK k.toNat) (pK k.toNat) (.tup [.str "way", .tup ds,k']):=λ ds k' h1 hs h2 hl=>by
      rcases hb with ⟨rfl,rfl⟩ | ⟨rfl,rfl⟩ | ⟨rfl,rfl⟩
      . exact (rEq (n:=6) h1 hs h2 (by omega) (by decide)).mono (by decide) (by decide)
      . exact (rEq (n:=3) h1 hs h2 (by omega) (by decide)).mono (by decide) (by decide)
      . exact (rEq (n:=2) h1 hs h2 (by omega) (by decide)).mono (by decide) (by decide)
    have hpk:pK (k - 1).toNat<=28:=by rcases hb with ⟨rfl,_⟩ | ⟨rfl,_⟩ | ⟨rfl,_⟩<;>decide
    refine ⟨u1.fd,by omega,by omega,λ m G2 u2 m0 m1=>lMq (by omega) ?_⟩
    refine hHq a id (λ d=>KC (cK (k - 1).toNat) (pK (k - 1).toNat) d) ?_ (λ _=>trivial) u2.fd (λ d G R hf h=>⟨a,k - 1,rfl,hf,by omega,by omega,by omega,λ d G' x e _=>h d G' x e⟩) λ ds G3 hdl hds u3 p hp=>?_
    . show (cFq 0 (m:Int).toNat).length<=1000
      rw [c8q];omega
    have hl3:(ds.length:Int) < b:=by
      have e:ds.length=(cFq 0 (m:Int).toNat).length:=hdl
      rw [c8q] at e;omega
    rw [Zm]
    have kp3:∀ b o,b≠a->G b=some o->up G3 p (.lst ds) b=some o:=λ b o nb e=>by
      have h1:G3 b=some o:=(u1.trans (u2.trans u3)).kp nb e
      rw [aQq (by rintro rfl;rw [hp] at h1;cases h1)];exact h1
    refine a6q a5q ⟨λ c4=>⟨u3.fd.new hp,by decide,by decide,λ j G4 u4 j0 j1=>⟨λ c5=>?_,λ c5=>?_⟩⟩,λ c4=>⟨λ c=>absurd c (by decide),λ _=>?_⟩⟩
    . have hp4:=u4.kp (u3.fd.ne hp) a5q
      obtain ⟨x,y,zs,rfl⟩:∃ x y zs,ds=x::y::zs:=by
        have c4':=of_decide_eq_true c4
        rcases ds with _ | ⟨x,_ | ⟨y,zs⟩⟩
        . simp at c4'
        . simp at c4'
        . exact ⟨x,y,zs,rfl⟩
      refine aLq hp4 (d:=x) (bFq (j:=0) rfl) (aTq hp4 ⟨1,by unfold ixN;rw [if_pos (by decide),if_pos (by simp only [Yb];omega)];rfl,?_⟩)
      have h4:∀ d∈(x::y::zs).set 1 x,KC (cK (k - 1).toNat) (pK (k - 1).toNat) d:=nYq hds (hds x (Ya ..))
      have l4:(((x::y::zs).set 1 x).length:Int) < b:=by rw [List.length_set];exact hl3
      have X:∀ G9 G0,Fx a (up G4 p (.lst ((x::y::zs).set 1 x))) G0->Sub G0 G9->∃ G0,Fx a G G0/\Sub G0 G9:=λ G9 G0 x1 x2=>t0q (λ b o nb e=>by
        have h1:=kp3 b o nb e
        have h2:=u4.kp nb h1
        have nbp:b≠p:=by rintro rfl;rw [(u1.trans (u2.trans u3)).none hp] at e;cases e
        rw [aQq nbp];exact h2) x1 x2
      refine a6q (a5q) ⟨by have:=l4;omega,λ d hd=>⟨(h4 d hd).1.isK,by have:=(h4 d hd).2.1;omega⟩,λ ds' hperm hsrt p' hp'=>a6q a5q ⟨_,Sub.new (Sub.refl _) hp',⟨a,k - 1,rfl,(by obtain ⟨x',y',e'⟩:=u4.fd;exact ⟨x',y',by rw [aQq (Ne.symm (u3.fd.ne hp))];exact e'⟩),by omega,by omega,by omega,λ d G9 ⟨G0,x1,x2⟩ e9 _=>Dr.of (q _ G9 (X G9 G0 x1 x2) (kw _ _ (λ d hd=>h4 d (hperm.mem_iff.mpr hd)) (iIq hsrt) e9 (by rw [<- hperm.length_eq];exact l4)) (λ z=>absurd z k0'))⟩⟩⟩
    . have hp4:=u4.kp (u3.fd.ne hp) a5q
      have X:∀ G9 G0,Fx a G4 G0->Sub G0 G9->∃ G0,Fx a G G0/\Sub G0 G9:=λ G9 G0 x1 x2=>t0q (λ b o nb e=>u4.kp nb (kp3 b o nb e)) x1 x2
      refine a6q (hp4) ⟨by have:=hl3;omega,λ d hd=>⟨(hds d hd).1.isK,by have:=(hds d hd).2.1;omega⟩,λ ds' hperm hsrt p' hp'=>a6q a5q ⟨_,Sub.new (Sub.refl _) hp',⟨a,k - 1,rfl,u4.fd,by omega,by omega,by omega,λ d G9 ⟨G0,x1,x2⟩ e9 _=>Dr.of (q _ G9 (X G9 G0 x1 x2) (kw _ _ (λ d hd=>hds d (hperm.mem_iff.mpr hd)) (iIq hsrt) e9 (by rw [<- hperm.length_eq];exact hl3)) (λ z=>absurd z k0'))⟩⟩⟩
    . have X:∀ G9 G0,Fx a (up G3 p (.lst ds)) G0->Sub G0 G9->∃ G0,Fx a G G0/\Sub G0 G9:=λ G9 G0 x1 x2=>t0q kp3 x1 x2
      refine a6q (a5q) ⟨by have:=hl3;omega,λ d hd=>⟨(hds d hd).1.isK,by have:=(hds d hd).2.1;omega⟩,λ ds' hperm hsrt p' hp'=>a6q a5q ⟨_,Sub.new (Sub.refl _) hp',⟨a,k - 1,rfl,(u3.fd.new hp),by omega,by omega,by omega,λ d G9 ⟨G0,x1,x2⟩ e9 _=>Dr.of (q _ G9 (X G9 G0 x1 x2) (kw _ _ (λ d hd=>hds d (hperm.mem_iff.mpr hd)) (iIq hsrt) e9 (by rw [<- hperm.length_eq];exact hl3)) (λ z=>absurd z k0'))⟩⟩⟩
abbrev iGq:Stmt:=top 50
theorem sc_shape:FnScope ["_law_feed_here", "_law_room", "_law_deep", "_law_form", "_law_leaf", "_law_word", "_law_half", "_law_one", "_law_many", "_law_some"] ["_law_feed_here", "_law_room", "_law_deep"] (aDq iGq):=⟨rfl,rfl,rfl,by decide +kernel,rfl,by decide +kernel,by decide +kernel⟩
theorem s8q:FnOk P w K mg base CX0 12 f fd ["_law_feed_here", "_law_room", "_law_deep"] (aRq K (fPq 0)):=uDq λ ds G DQ h=>by obtain ⟨_,_,_,_,_,_,_,_,_,_⟩:=h;omega
theorem sZq {n:Nat} (B:Blt mg) (g_take:Got P w K mg base 1 "_law_take" ["_law_feed_here", "_law_many"] (aRq K eCq)) (g_kind:Got P w K mg base 11 "_law_kind" ["_law_feed_here", "_law_deep"] (aRq K (spKe 4))) (g_shape:Got P w K mg base (n+12) "_law_shape" ["_law_feed_here", "_law_room", "_law_deep"] (aRq K (fPq n))) (F:Fun K "_law_shape" "_law_shape" iGq f fd):FnOk P w K mg base CX0 (n+13) f fd ["_law_feed_here", "_law_room", "_law_deep"] (aRq K (fPq (n+1))):=by
  refine okD (k:=n+12) F sc_shape (λ ds G DQ h=>?_) (λ cdv A outer s H E hr ds G DQ h=>?_)
  . obtain ⟨_,_,_,rfl,_⟩:=h;rfl
  obtain ⟨a,r,k,rfl,hF,r0,r1,k0,k1,k14,q⟩:=h
  refine ⟨_,(a4q (aIq (k:=3) sc_shape.nd rfl (Or.inl rfl) (a9q g_take hr (by omega) rfl (a0q (a1q 0) (a0q a3q a2q))))
      (a4q (aNq (AW.at (d6q (aBq c3q (a1q 1) a3q (aAq _)) (d6q (aBq c3q (a1q 2) a3q (aAq _)) (cCq (aBq c3q (a1q 3) a3q (aAq _)))))) (a4q (aIq (k:=4) sc_shape.nd rfl (Or.inl rfl) (a9q g_take hr (by omega) rfl (a0q (a1q 0) (a0q a3q a2q))))
      (a4q (aNq (aBq c3q (a1q 4) a3q (aAq _)) (a7q (aEq (cDq (a0q (b1q (a0q a8q a2q)) (a0q (b1q (a0q a8q a2q)) a2q)) (a1q 4) (λ _ _=>rfl)))) aGq)
      (a7q (aEq (b1q (a0q a8q (a0q (a9q g_kind hr (by omega) rfl (a0q (a1q 0) (a0q (aOq bJq (a1q 4) a3q) a2q))) a2q))))))) aGq)
      (a4q (aNq (aBq c3q (a1q 3) a3q (aAq _)) (a4q (aIq (k:=5) sc_shape.nd rfl (Or.inl rfl) (cDq (a0q a8q (a0q a8q (a0q a8q (a0q a8q (a0q a8q a2q))))) (aOq bJq (a1q 3) a3q) (λ _ _=>rfl)))
      (a7q (aEq (b1q (a0q (a1q 5) (a0q (a9q g_shape hr (by omega) rfl (a0q (a1q 0) (a0q (aOq bJq (a1q 1) a3q) (a0q (aOq bJq (a1q 2) a3q) a2q)))) a2q)))))) aGq)
      (a4q (aIq (k:=6) sc_shape.nd rfl (Or.inr rfl) (aOq fLq (aOq bJq (a1q 1) a3q) a3q))
      (a4q (aNq (aBq c3q (a1q 3) a3q (aAq _)) (a4q (aIq (k:=7) sc_shape.nd rfl (Or.inl rfl) (a9q g_shape hr (by omega) rfl (a0q (a1q 0) (a0q (a1q 6) (a0q (aOq bJq (a1q 2) a3q) a2q)))))
      (a7q (aEq (b1q (a0q (cDq (a0q a8q (a0q a8q (a0q a8q a2q))) (aOq bJq (a1q 3) a3q) (λ _ _=>rfl)) (a0q (a1q 7) (a0q (a9q g_shape hr (by omega) rfl (a0q (a1q 0) (a0q (a1q 6) (a0q (aOq bJq (a1q 2) a3q) a2q)))) a2q))))))) aGq)
      (a4q (aIq (k:=7) sc_shape.nd rfl (Or.inl rfl) (a9q g_shape hr (by omega) rfl (a0q (a1q 0) (a0q (a1q 6) (a0q (aOq bJq (a1q 2) a3q) a2q)))))
      (a4q (aIq (k:=8) sc_shape.nd rfl (Or.inr rfl) (a9q g_take hr (by omega) rfl (a0q (a1q 0) (a0q a3q a2q))))
      (a4q (dEq (k:=9) rfl sc_shape.nd rfl (Or.inl rfl) (CompOk.of (N':=["_law_k", "_law_feed_here", "_law_half", "_law_deep", "_law_many"]) (nt:=1) (cap:=[0,6,2,8]) rfl (by kernel_rfl)) (b8q (k:=0) (by decide)) (gBq rfl B.range (a0q (a1q 8) a2q)) (λ _ _ _ _=>(bEq (k:=0) (show YA (["_law_k", "_law_feed_here", "_law_half", "_law_deep", "_law_many"]:List Str) by decide +kernel) rfl (Or.inl rfl)))  (λ _ _ _ _=>(a9q g_shape hr (by omega) rfl (a0q (a1q 1) (a0q (aOq fLq (a1q 2) (aCq (qDq rfl) rfl B.max PyProof.Rows.boot_max (a0q (a1q 4) (a0q a3q a2q)))) (a0q (aOq bJq (a1q 3) a3q) a2q))))))
      (a4q (aNq (AW.at (dCq (aBq dIq (a1q 8) a3q (aAq _)) (cBq (aBq (aKq (aPq hr)) (a9q g_take hr (by omega) rfl (a0q (a1q 0) (a0q a3q a2q))) a3q (aAq _))))) (a7q (mDq (aHq aix (a1q 9) a3q (λ _ _=>rfl)) (m1q (a1q 9) a3q))) aGq)
      (a7q (aEq (b1q (a0q a8q (a0q (a1q 7) (a0q (b4q b3q rfl B.tuple PyProof.Rows.boot_tuple (a0q (a1q 9) a2q)) a2q))))))))))))))),?_⟩
  have leafK:∀ (j:Nat) (kd:D),j<=3->KC (cK j) (pK j) kd->PC2 (2100 * (8 * r.toNat+1)) (40+2 * k.toNat) (.tup [.str "name", kd]):=λ j kd hj e=>by
    have h1:cK j<=1223/\pK j<=28:=by
      have:∀ j < 4,cK j<=1223/\pK j<=28:=by decide
      exact this j (by omega)
    have e2:=e.2.1
    exact (wNq (e.mono (by omega) (by omega))).mono (by omega) (by omega)
  refine ⟨hF,by decide,by decide,λ fm G1 u1 f0 f1=>⟨λ _=>⟨λ _=>?_,nofun⟩,λ cr=>⟨λ _=>⟨λ _=>?_,nofun⟩,λ ck=>⟨λ _=>?_,λ cf=>?_⟩⟩⟩⟩
  . exact ⟨u1.fd,by decide,by decide,λ lf G2 u2 l0 l1=>⟨λ c=>at2 l0 (by have:=of_decide_eq_true c;omega) (λ _=>Dr.of (q _ _ (.of (u1.trans u2)) (pc_some.mono (by omega) (by omega)))) (λ _=>Dr.of (q _ _ (.of (u1.trans u2)) (pc_whole.mono (by omega) (by omega)))),λ c=>⟨a,lf - 1,rfl,u2.fd,by have:=of_decide_eq_false c;omega,by omega,by omega,λ kd G3 w3 e3 _=>Dr.of (q _ _ (Dw.trans (.of (u1.trans u2)) w3) (leafK _ _ (by omega) e3))⟩⟩⟩
  . exact ⟨u1.fd,by decide,by decide,λ lf G2 u2 l0 l1=>⟨λ c=>at2 l0 (by have:=of_decide_eq_true c;omega) (λ _=>Dr.of (q _ _ (.of (u1.trans u2)) (pc_some.mono (by omega) (by omega)))) (λ _=>Dr.of (q _ _ (.of (u1.trans u2)) (pc_whole.mono (by omega) (by omega)))),λ c=>⟨a,lf - 1,rfl,u2.fd,by have:=of_decide_eq_false c;omega,by omega,by omega,λ kd G3 w3 e3 _=>Dr.of (q _ _ (Dw.trans (.of (u1.trans u2)) w3) (leafK _ _ (by omega) e3))⟩⟩⟩
  . exact ⟨u1.fd,by decide,by decide,λ lf G2 u2 l0 l1=>⟨λ c=>at2 l0 (by have:=of_decide_eq_true c;omega) (λ _=>Dr.of (q _ _ (.of (u1.trans u2)) (pc_some.mono (by omega) (by omega)))) (λ _=>Dr.of (q _ _ (.of (u1.trans u2)) (pc_whole.mono (by omega) (by omega)))),λ c=>⟨a,lf - 1,rfl,u2.fd,by have:=of_decide_eq_false c;omega,by omega,by omega,λ kd G3 w3 e3 _=>Dr.of (q _ _ (Dw.trans (.of (u1.trans u2)) w3) (leafK _ _ (by omega) e3))⟩⟩⟩
  have r2:2<=r:=by have:=of_decide_eq_false cr;omega
  have kk:1<=k:=by have:=of_decide_eq_false ck;omega
  have ff:2<=fm:=by have:=of_decide_eq_false cf;omega
  refine ⟨λ c=>?_,λ c=>⟨⟨by decide,by decide⟩,?_⟩⟩
  . have c':=of_decide_eq_true c
    have un:∀ z:Str,z∈unW->∀ d,PC2 (2100 * (8 * (r - 1).toNat+1)) (40+2 * (k - 1).toNat) d->PC2 (2100 * (8 * r.toNat+1)) (40+2 * k.toNat) (.tup [.str z,d]):=λ z hz d h=>(aR4q hz h).mono (by omega) (by omega)
    exact uPq (by omega) (by show fm - 2 < 5;omega) λ d hd=>by
      simp only [Yd,Yn,or_false] at hd
      rcases hd with rfl | rfl | rfl | rfl | rfl<;>exact ⟨a,r - 1,k - 1,rfl,u1.fd,by omega,by omega,by omega,by omega,by omega,λ d G2 w2 p2=>Dr.of (q _ _ (Dw.trans (.of u1) w2) (un _ (by decide) d p2))⟩
  have c7:7<=fm:=by have:=of_decide_eq_false c;omega
  obtain ⟨h,hh⟩:∃ h:Int,(r - 1) / 2=h:=⟨_,rfl⟩
  have h0:0<=h:=by omega
  have h1:2 * h<=r - 1:=by omega
  refine ⟨λ c=>⟨a,(r - 1) / 2,k - 1,rfl,u1.fd,by omega,by omega,by omega,by omega,by omega,λ d1 G2 w2 p1=>?_⟩,λ c=>⟨a,(r - 1) / 2,k - 1,rfl,u1.fd,by omega,by omega,by omega,by omega,by omega,λ d1 G2 w2 p1=>⟨w2.fd,by decide,by decide,λ m G3 u3 m0 m1=>lMq (by omega) ?_⟩⟩⟩
  . have c':=of_decide_eq_true c
    have bi:∀ z:Str,z∈biW->∀ d d2,PC2 (2100 * (8 * ((r - 1) / 2).toNat+1)) (40+2 * (k - 1).toNat) d->PC2 (2100 * (8 * ((r - 1) / 2).toNat+1)) (40+2 * (k - 1).toNat) d2->PC2 (2100 * (8 * r.toNat+1)) (40+2 * k.toNat) (.tup [.str z,d,d2]):=λ z hz d d2 h h'=>(aQ2q hz h h').mono (by omega) (by omega)
    exact uPq (by omega) (by show fm - 7 < 3;omega) λ d hd=>by
      simp only [Yd,Yn,or_false] at hd
      rcases hd with rfl | rfl | rfl<;>exact ⟨a,(r - 1) / 2,k - 1,rfl,w2.fd,by omega,by omega,by omega,by omega,by omega,λ d2 G3 w3 p2=>Dr.of (q _ _ ((Dw.trans (.of u1) w2).trans w3) (bi _ (by decide) d1 d2 p1 p2))⟩
  obtain ⟨mx,hmx⟩:∃ mx:Int,(if (1:Int) > m then 1 else m)=mx:=⟨_,rfl⟩
  have mx0:0 < mx:=by rw [<- hmx];split<;>omega
  have mx1:m<=mx/\mx<=7:=by rw [<- hmx];split<;>omega
  have g0:0<=h / mx:=Int.ediv_nonneg h0 (by omega)
  have g1:(h / mx) * mx<=h:=Int.ediv_mul_le h (by omega)
  have g2:m * (h / mx)<=h:=Int.le_trans (by rw [Int.mul_comm];exact Int.mul_le_mul_of_nonneg_left mx1.1 g0) g1
  have g3:h / mx<=h:=Int.ediv_le_self _ h0
  have hmul:m.toNat * (h / mx).toNat<=h.toNat:=by
    have e1:((m.toNat * (h / mx).toNat:Nat):Int)=m * (h / mx):=by rw [Int.natCast_mul,Int.toNat_of_nonneg m0,Int.toNat_of_nonneg g0]
    omega
  have ring:∀ a b:Nat,a * (2100 * (8 * b+1)+1)=16800 * (a * b)+2101 * a:=λ a b=>by
    have:2100 * (8 * b+1)+1=16800 * b+2101:=by omega
    rw [this,Nat.mul_add,Nat.mul_comm a 2101,<- Nat.mul_assoc,Nat.mul_comm a 16800,Nat.mul_assoc]
  have gv:∀ ds:List D,(∀ d∈ds,PC2 (2100 * (8 * (h / mx).toNat+1)) (40+2 * (k - 1).toNat) d)->ds.length=m.toNat->PC2 (2100 * (8 * r.toNat+1)) (40+2 * k.toNat) (.tup [.str "give", d1,.tup ds]):=λ ds hds hl=>by
    have z:=xJq p1 hds (Nat.le_of_eq hl) (by omega)
    rw [ring] at z
    refine z.mono ?_ (by omega)
    omega
  refine hHq a id (λ d=>PC2 (2100 * (8 * (h / mx).toNat+1)) (40+2 * (k - 1).toNat) d) ?_ (λ _=>trivial) u3.fd (λ d G R hf hR=>⟨⟨by show 0 < (if (1:Int) > m then 1 else m);rw [hmx];exact mx0,by show (if (1:Int) > m then 1 else m) < 2 ^ 64;rw [hmx];omega⟩,a,h / mx,k - 1,by rw [<- hmx,<- hh],hf,by omega,by omega,by omega,by omega,by omega,λ d G' x e=>hR d G' x e⟩) λ ds G4 hdl hds u4 p hp=>?_
  . show (cFq 0 (m:Int).toNat).length<=1000
    rw [c8q];omega
  have hl3:ds.length=m.toNat:=by
    have e:ds.length=(cFq 0 (m:Int).toNat).length:=hdl
    rw [c8q] at e;omega
  rw [Zm]
  have w3:Dw a G G4:=(Dw.trans (.of u1) w2).trans (.of (u3.trans u4))
  have npa:p≠a:=u4.fd.ne hp
  refine ⟨λ cm=>⟨u4.fd.new hp,by decide,by decide,λ j G5 u5 j0 j1=>⟨λ c5=>?_,λ c5=>?_⟩⟩,λ cm=>⟨λ c=>absurd c (by decide),λ _=>a6q a5q ⟨G4,Sub.new (Sub.refl _) hp,q _ _ w3 (gv ds hds hl3)⟩⟩⟩
  . have hp5:=u5.kp npa a5q
    obtain ⟨G6,s6,f6⟩:=Fx.drop hp u5 u4.fd
    have n6:G6 p=none:=by rw [f6.other npa];exact hp
    obtain ⟨x,y,z,zs,rfl⟩:∃ x y z zs,ds=x::y::z::zs:=by
      have c4':=of_decide_eq_true cm
      rcases ds with _ | ⟨x,_ | ⟨y,_ | ⟨z,zs⟩⟩⟩
      . simp at hl3;omega
      . simp at hl3;omega
      . simp at hl3;omega
      . exact ⟨x,y,z,zs,rfl⟩
    refine aLq hp5 (d:=x) (bFq (j:=0) rfl) (aTq hp5 ⟨2,by unfold ixN;rw [if_pos (by decide),if_pos (by simp only [Yb];omega)];rfl,?_⟩)
    exact a6q a5q ⟨G6,Sub.new s6 n6,q _ _ (w3.trans (.of f6)) (gv _ (nYq hds (hds x (Ya ..))) (by rw [List.length_set];exact hl3))⟩
  . have hp5:=u5.kp npa a5q
    obtain ⟨G6,s6,f6⟩:=Fx.drop hp u5 u4.fd
    exact a6q hp5 ⟨G6,s6,q _ _ (w3.trans (.of f6)) (gv ds hds hl3)⟩
abbrev kGq:Stmt:=top 52
theorem sc_text:FnScope ["_law_paper", "_law_some"] ["_law_paper"] (aDq kGq):=⟨rfl,rfl,rfl,by decide +kernel,rfl,by decide +kernel,by decide +kernel⟩
theorem w9q:FnOk P w K mg base CX0 2 f fd ["_law_paper"] (aRq K (eTq 0)):=uDq λ ds G DQ h=>by obtain ⟨_,_,_,_,h,_⟩:=h;omega
theorem vWq {n:Nat} (B:Blt mg) (g_ktext:Got P w K mg base (n+1) "_law_kind_text" ["_law_kind_here"] (aRq K (gHq n))) (g_text:Got P w K mg base (n+2) "_law_text" ["_law_paper"] (aRq K (eTq n))) (F:Fun K "_law_text" "_law_text" kGq f fd):FnOk P w K mg base CX0 (n+3) f fd ["_law_paper"] (aRq K (eTq (n+1))):=by
  refine okD (k:=n+2) F sc_text (λ ds G DQ h=>?_) (λ cdv A outer s H E hr ds G DQ h=>?_)
  . obtain ⟨_,_,rfl,_⟩:=h;rfl
  obtain ⟨d,x,rfl,hx,hd,hs,q⟩:=h
  refine ⟨_,(a4q (aNq (aBq (aKq (aPq hr)) (aHq aix (a1q 0) a3q (λ _ _=>rfl)) a8q (aAq _)) (a7q (aEq (aOq aSq a8q (a9q g_ktext hr (by omega) rfl (a0q (aHq aix (a1q 0) a3q (λ _ _=>rfl)) a2q))))) aGq)
      (a4q (aNq (aBq (aKq (aPq hr)) (aHq aix (a1q 0) a3q (λ _ _=>rfl)) a8q (aAq _)) (a7q (aEq a8q)) aGq)
      (a4q (aNq (aBq (aKq (aPq hr)) (aHq aix (a1q 0) a3q (λ _ _=>rfl)) a8q (aAq _)) (a7q (aEq a8q)) aGq)
      (a4q (aIq (k:=1) sc_text.nd rfl (Or.inl rfl) (bCq asl (a1q 0) (b2q a3q) bPq))
      (a4q (aNq (aBq (aKq (aPq hr)) (aHq aix (a1q 0) a3q (λ _ _=>rfl)) a8q (aAq _)) (a7q (aIq (k:=1) sc_text.nd rfl (Or.inl rfl) (bOq (aOq aSq (bSq (a0q (aHq aix (a1q 0) a3q (λ _ _=>rfl)) a2q)) (b4q nNq rfl B.list PyProof.Rows.boot_list (a0q (aHq aix (a1q 0) a3q (λ _ _=>rfl)) a2q)))))) aGq)
      (a7q (aEq (aOq aSq (aOq aSq (aOq aSq (aOq aSq a8q (aHq aix (a1q 0) a3q (λ _ _=>rfl))) a8q) (c1q PySem.F.plainAttrs_str PySem.F.slot_str_join PySem.F.type_str_join j0q a8q (a0q (cXq rfl (CompOk.of (N':=["_law_one"]) (nt:=1) (cap:=[]) rfl (by kernel_rfl)) (b8q (k:=0) (by decide)) (cKq (a1q 1)) (λ _ _ _ _=>(bEq (k:=0) (show YA (["_law_one"]:List Str) by decide +kernel) rfl (Or.inl rfl))) (λ _ _ _ _=>(a9q g_text hr (by omega) rfl (a0q (a1q 0) a2q)))) a2q))) a8q)))))))),?_⟩
  cases hx with
  | some=>rw [i0q] at q;exact ⟨λ c=>absurd c (by decide),λ _=>⟨λ _=>Dr.of q,λ c=>absurd c (by decide)⟩⟩
  | whole=>rw [i0q] at q;exact ⟨λ c=>absurd c (by decide),λ _=>⟨λ c=>absurd c (by decide),λ _=>⟨λ _=>Dr.of q,λ c=>absurd c (by decide)⟩⟩⟩
  | @name k x h1 h2 h3 h4=>rw [<- sRq] at q;exact ⟨λ _=>⟨k,x,rfl,h1,(by simp only [D.dp,bMq] at hd;omega),h3.sz,⟨lits (by decide) (h1.txt_len h3.sz),Dr.of q⟩⟩,λ c=>absurd c (by decide)⟩
  | @node z ps _ hn hp=>
    have hz:=(dHq z (cZq hn)).2.2
    have hn7:=(sKq hn).2
    rw [Yf] at hn7
    have hne:ps.map (·.2)≠[]:=by
      have:=(sKq hn).1
      intro e;apply this
      rw [List.map_eq_nil_iff] at *;exact e
    have D1:∀ p∈ps,p.1.dp < n:=λ p hpm=>by
      have:=aG6q hn (YD (f:=(·.1)) hpm)
      omega
    have hzl:z.cps.toList.length=z.length:=Array.length_toList
    have hs0:=hs
    have hrl:(cat (eUq (ps.map (·.2)))).length+z.length+2<=700000:=by
      rw [gYq,gUq] at hs
      simp only [cat,aJq,aVq,Yg,Yb,Yj] at hs
      omega
    have L1:∀ p∈ps,(cat p.2).length<=700000:=λ p hpm=>by
      have:=lPq (YD (f:=(·.2)) hpm)
      omega
    have hil:(cat (bGq (" " : Str) (ps.map (·.2)))).length+1=(cat (eUq (ps.map (·.2)))).length:=by
      rw [eXq hne,cat,gGq];simp only [Yg,Yb,Yj];omega
    have hsum:=e8q (ps.map (·.2))
    have SB:((ps.map (·.2)).map ((λ x=>x.length) ∘ txt)).sum+ps.length<=1048576:=by
      show ((ps.map (·.2)).map λ x=>(cat x).length).sum+_<=_
      omega
    have LP:(("(" : String):Str).length=1:=by decide
    have fin:∀ (G9:DV) (l:Addr),G9 l=none->Sub G G9->((("(" : Str)++z++(" " : Str)).length+(Txt.join (" " : Str) ((ps.map (·.2)).map txt)).length<=sizeLine/\(("(" : Str)++z++(" " : Str)++Txt.join (" " : Str) ((ps.map (·.2)).map txt)).length+((")" : String):Str).length<=sizeLine/\Dr DQ (.str (("(" : Str)++z++(" " : Str)++Txt.join (" " : Str) ((ps.map (·.2)).map txt)++(")" : Str))) (up G9 l (.lst (ps.map λ p=>.str (txt p.2))))):=λ G9 l hl hS=>by
      have lt:(txt (bGq (" " : Str) (ps.map (·.2)))).length=(cat (bGq (" " : Str) (ps.map (·.2)))).length:=rfl
      rw [pIq]
      refine ⟨big (by rw [bUq,bUq,LP,z9q];omega),big (by rw [bUq,bUq,bUq,LP,z9q,l_rp];omega),⟨G,Sub.ext' hS hl,?_⟩⟩
      rw [rZq hne];exact q
    generalize he:ps.map (·.1)=es at hn
    clear hs0 hs
    cases hn with
    | un p hw=>
      simp only [unW,Yd,Yn,or_false] at hw
      rcases hw with rfl | rfl | rfl | rfl | rfl<;>exact ⟨λ c=>absurd c (by decide),λ _=>⟨λ c=>absurd c (by decide),λ _=>⟨λ c=>absurd c (by decide),λ _=>⟨λ c=>absurd c (by decide),λ _=>⟨big (by rw [LP];omega),big (by rw [bUq,LP,z9q];omega),trivial,cYq ps (·.1) (λ p=>.str (txt p.2)) he.symm (aZq (by omega)) trivial (λ p hpm R hR=>⟨p.1,p.2,rfl,hp p hpm,D1 p hpm,L1 p hpm,hR⟩) (λ l hl=>a6q a5q ⟨(ps.map λ p:D × List Str=>p.2).map txt,by simp,by decide,by rw [Yf,Yf,Yy];exact SB,fin _ _ hl (Sub.refl _)⟩)⟩⟩⟩⟩⟩
    | bi p p' hw=>
      simp only [biW,Yd,Yn,or_false] at hw
      rcases hw with rfl | rfl | rfl<;>exact ⟨λ c=>absurd c (by decide),λ _=>⟨λ c=>absurd c (by decide),λ _=>⟨λ c=>absurd c (by decide),λ _=>⟨λ c=>absurd c (by decide),λ _=>⟨big (by rw [LP];omega),big (by rw [bUq,LP,z9q];omega),trivial,cYq ps (·.1) (λ p=>.str (txt p.2)) he.symm (aZq (by omega)) trivial (λ p hpm R hR=>⟨p.1,p.2,rfl,hp p hpm,D1 p hpm,L1 p hpm,hR⟩) (λ l hl=>a6q a5q ⟨(ps.map λ p:D × List Str=>p.2).map txt,by simp,by decide,by rw [Yf,Yf,Yy];exact SB,fin _ _ hl (Sub.refl _)⟩)⟩⟩⟩⟩⟩
    | give p qs hl6=>
      refine ⟨λ c=>absurd c (by decide),λ _=>⟨λ c=>absurd c (by decide),λ _=>⟨λ c=>absurd c (by decide),λ _=>⟨λ _=>?_,λ c=>absurd c (by decide)⟩⟩⟩⟩
      intro p1 hp1 p2 hp2
      have S1:=Sub.ext' (o:=.lst [p]) (Sub.refl G) hp1
      have S2:=Sub.ext' (o:=.lst qs) (Sub.refl _) hp2
      refine aTq (S2 p1 _ a5q) (aTq a5q ⟨big (by simp;omega),λ p3 hp3=>⟨_,Sub.refl _,?_⟩⟩)
      have S3:=Sub.ext' (o:=.lst ([p]++qs)) (Sub.refl _) hp3
      exact ⟨big (by rw [LP];omega),big (by rw [bUq,LP,z9q];omega),trivial,gIq a5q (cYq ps (·.1) (λ p=>.str (txt p.2)) he.symm (aZq (by omega)) a5q (λ p hpm R hR=>⟨p.1,p.2,rfl,hp p hpm,D1 p hpm,L1 p hpm,hR⟩) (λ l hl=>a6q a5q ⟨(ps.map λ p:D × List Str=>p.2).map txt,by simp,by decide,by rw [Yf,Yf,Yy];exact SB,fin _ _ hl (S1.trans (S2.trans S3))⟩))⟩
abbrev q3q:Stmt:=top 53
theorem sc_fit:FnScope ["_law_paper"] ["_law_paper"] (aDq q3q):=⟨rfl,rfl,rfl,by decide +kernel,rfl,by decide +kernel,by decide +kernel⟩
theorem zKq (B:Blt mg) (g_text:Got P w K mg base 103 "_law_text" ["_law_paper"] (aRq K (eTq 101))) (F:Fun K "_law_fit" "_law_fit" q3q f fd):FnOk P w K mg base CX0 104 f fd ["_law_paper"] (aRq K wLq):=by
  refine okD (k:=103) F sc_fit (λ ds G DQ h=>?_) (λ cdv A outer s H E hr ds G DQ h=>?_)
  . obtain ⟨_,rfl,_⟩:=h;rfl
  obtain ⟨d,rfl,hp,q⟩:=h
  refine ⟨_,(a4q (dGq PassesOwn.never (aBq dIq (aCq aFq rfl B.len PySem.boot_len (a0q (a9q g_text hr (by omega) rfl (a0q (a1q 0) a2q)) a2q)) a3q (aAq _)) (a7q (aIq (k:=0) sc_fit.nd rfl (Or.inl rfl) (aHq aix (a1q 0) a3q (λ _ _=>rfl)))))
      (a7q (aEq (a1q 0)))),?_⟩
  refine ⟨λ μ ρ G'=>∃ d':D,ρ=[some d']/\G=G'/\PC2 700000 100 d'/\tsz d'=μ,⟨_,d,rfl,rfl,hp,rfl⟩,?_⟩
  rintro μ ρ G' ⟨d',rfl,rfl,⟨h1,x,t,l⟩,rfl⟩
  refine ⟨d',x,rfl,t,by omega,l,⟨big l,⟨λ c=>?_,λ c=>Dr.of (q d' ⟨h1,x,t,?_⟩)⟩⟩⟩
  . have c':=of_decide_eq_true c
    obtain ⟨z,p,r,y,rfl,t2,l2,s2,d2⟩:=sFq t (by show 5000 < (txt x).length;omega)
    exact Wk.of ⟨_,s2,p,rfl,rfl,⟨by omega,y,t2,by omega⟩,rfl⟩
  . have c':=of_decide_eq_false c
    show (txt x).length<=5000
    omega
abbrev j4q:Stmt:=top 54
theorem sc_plain:FnScope ["_law_found", "_law_one"] ["_law_found"] (aDq j4q):=⟨rfl,rfl,rfl,by decide +kernel,rfl,by decide +kernel,by decide +kernel⟩
theorem sQq:FnOk P w K mg base CX0 1 f fd ["_law_found"] (aRq K (dTq 0)):=uDq λ ds G DQ h=>by obtain ⟨_,_,_,h,_⟩:=h;omega
theorem tCq {n:Nat} (B:Blt mg) (g_plain:Got P w K mg base (n+1) "_law_plain" ["_law_found"] (aRq K (dTq n))) (F:Fun K "_law_plain" "_law_plain" j4q f fd):FnOk P w K mg base CX0 (n+2) f fd ["_law_found"] (aRq K (dTq (n+1))):=by
  refine okD (k:=n+1) F sc_plain (λ ds G DQ h=>?_) (λ cdv A outer s H E hr ds G DQ h=>?_)
  . obtain ⟨_,rfl,_⟩:=h;rfl
  obtain ⟨d,rfl,ha,hd,q⟩:=h
  refine ⟨_,(a4q (aNq (bBq (aCq bLq rfl B.isinstance PyProof.Rows.boot_isinstance (a0q (a1q 0) (a0q (bRq rfl B.tuple PyProof.Rows.boot_tuple) a2q)))) (a4q (fSq PassesOwn.never rfl (cKq (a1q 0)) (bEq (k:=1) sc_plain.nd rfl (Or.inl rfl)) (a7q (aNq (dAq (bBq (a9q g_plain hr (by omega) rfl (a0q (a1q 1) a2q)))) (a7q (aEq jUq)) aGq)))
      (a7q (aEq jUq))) aGq)
      (a7q (aEq (eEq (aCq n9q rfl B.isinstance PyProof.Rows.boot_isinstance (a0q (a1q 0) (a0q (b1q (a0q (bRq rfl B.str PyProof.Rows.boot_str) (a0q (bRq rfl B.int PyProof.Rows.boot_int) a2q))) a2q))) (f0q (oXq (aCq bLq rfl B.isinstance PyProof.Rows.boot_isinstance (a0q (a1q 0) (a0q (bRq rfl B.bool PyProof.Rows.boot_bool) a2q))))))))),?_⟩
  cases ha with
  | int m=>exact ⟨false,rfl,⟨nofun,λ _=>⟨rfl,⟨λ _=>⟨false,rfl,Dr.of q⟩,nofun⟩⟩⟩⟩
  | str z=>exact ⟨false,rfl,⟨nofun,λ _=>⟨rfl,⟨λ _=>⟨false,rfl,Dr.of q⟩,nofun⟩⟩⟩⟩
  | @tup es hes=>
    refine ⟨true,rfl,⟨λ _=>?_,nofun⟩⟩
    refine ⟨λ i ρ G'=>∃ o1:Option D,ρ=[some (.tup es),o1]/\G=G',⟨_,rfl,rfl⟩,λ _ _ _ _ _=>trivial,?_,?_⟩
    . rintro i e ρ G' he ⟨o1,rfl,rfl⟩
      have he':es[i]?=some e:=he
      have hm:=YL he'
      refine ⟨e,rfl,hes e hm,?_,⟨nofun,λ _=>Wk.of ⟨_,rfl,rfl⟩⟩⟩
      have:=eKq hm
      simp only [D.dp] at hd;omega
    . rintro ρ G' ⟨o1,rfl,rfl⟩
      exact Dr.of q
abbrev kHq:Stmt:=top 8
theorem sc_flat:FnScope ["thing", "told", "pending", "one", "item"] ["thing"] (aDq kHq):=⟨rfl,rfl,rfl,by decide +kernel,rfl,by decide +kernel,by decide +kernel⟩
theorem nZq {ti te:Tok} (B:Blt mg) (m_ITEM:mg "ITEM" = some (.int 1 ti)) (m_END:mg "END" = some (.int 0 te))  (F:Fun K "flat" "flat" kHq f fd):FnOk P w K mg base CX0 1 f fd ["thing"] (aRq K l2q):=by
  refine okD (k:=0) F sc_flat (λ ds G DQ h=>?_) (λ cdv A outer s H E hr ds G DQ h=>?_)
  . obtain ⟨_,rfl,_⟩:=h;rfl
  obtain ⟨d,rfl,⟨hk,hz⟩,q⟩:=h
  refine ⟨_,(a4q (aIq (k:=1) sc_flat.nd rfl (Or.inl rfl) (bSq a2q))
      (a4q (aIq (k:=2) sc_flat.nd rfl (Or.inl rfl) (bSq (a0q (a1q 0) a2q)))
      (a4q (dGq PassesOwn.never (bBq (a1q 2)) (a4q (aIq (k:=3) sc_flat.nd rfl (Or.inl rfl) (f1q PySem.F.plainAttrs_list PySem.F.slot_list_pop PySem.F.type_list_pop dPq (a1q 2)))
      (a7q (aNq (dAq (bBq (aCq bLq rfl B.isinstance PyProof.Rows.boot_isinstance (a0q (a1q 3) (a0q (bRq rfl B.tuple PyProof.Rows.boot_tuple) a2q))))) (a7q (bDq (c1q PySem.F.plainAttrs_list PySem.F.slot_list_append PySem.F.type_list_append aXq (a1q 1) (a0q (a1q 3) a2q)))) (a7q (aNq (AW.at (dCq (aBq dIq (aCq aFq rfl B.len PySem.boot_len (a0q (a1q 3) a2q)) a3q (aAq _)) (cBq (bBq (aCq bLq rfl B.isinstance PyProof.Rows.boot_isinstance (a0q (aHq aix (a1q 3) a3q (λ _ _=>rfl)) (a0q (bRq rfl B.str PyProof.Rows.boot_str) a2q))))))) (a7q (bDq (c1q PySem.F.plainAttrs_list PySem.F.slot_list_extend PySem.F.type_list_extend eOq (a1q 2) (a0q (aB9q (a1q 3) (b2q (i7q d2q a3q))) a2q)))) (a4q (bDq (c1q PySem.F.plainAttrs_list PySem.F.slot_list_append PySem.F.type_list_append aXq (a1q 2) (a0q (cIq (d:=.int _) (v:=.int _) rfl m_END ⟨_,rfl⟩ (λ _=>rfl)) a2q)))
      (a7q (fSq PassesOwn.never rfl (vUq rfl B.reversed (a1q 3)) (bEq (k:=4) sc_flat.nd rfl (Or.inl rfl)) (a4q (bDq (c1q PySem.F.plainAttrs_list PySem.F.slot_list_append PySem.F.type_list_append aXq (a1q 2) (a0q (a1q 4) a2q)))
      (a7q (bDq (c1q PySem.F.plainAttrs_list PySem.F.slot_list_append PySem.F.type_list_append aXq (a1q 2) (a0q (cIq (d:=.int _) (v:=.int _) rfl m_ITEM ⟨_,rfl⟩ (λ _=>rfl)) a2q))))))))))))))
      (a7q (aEq (a1q 1)))))),?_⟩
  intro a ha b hb
  obtain ⟨-,hb0,hne⟩:=dLq (o:=.lst []) hb
  have hw:=z5q d
  refine ⟨λ μ ρ G'=>∃ (ps fs:List D) (o3 o4:Option D),ρ=[some d,some (.ref a),some (.ref b),o3,o4]/\up (up G a (.lst fs)) b (.lst ps.reverse)=G'/\fs++flC ps=flD d/\(∀ p∈ps,Fg p)/\wss ps<=196000/\wss ps=μ,⟨_,[d],[],_,_,rfl,rfl,by simp [flC],by simpa using hk,by simp only [wss];omega,rfl⟩,?_⟩
  rintro μ ρ G' ⟨ps,fs,o3,o4,rfl,rfl,hfs,hps,hw6,rfl⟩
  have hfl:fs.length<=196000:=by have:=congrArg YJ hfs;have:=iOq d;simp only [Yg] at *;omega
  refine a6q a5q ⟨λ c=>?_,λ c=>?_⟩
  . obtain ⟨y,qs,rfl⟩:∃ y qs,ps=y::qs:=by
      cases ps with
      | nil=>simp at c
      | cons z qs=>exact ⟨z,qs,rfl⟩
    rw [wss] at hw6
    have hql:=i1q qs
    refine ⟨a6q a5q trivial,aTq a5q ⟨qs.reverse,y,by simp,?_⟩⟩
    rw [cTq]
    have ha1:∀ o,up (up G a (.lst fs)) b o a=some (.lst fs):=λ o=>by rw [aQq (Ne.symm hne)];exact a5q
    have hqs:∀ p∈qs,Fg p:=λ p hp=>hps p (Yc _ hp)
    have fin:∀ (fs' ps':List D),fs'++flC ps'=flD d->(∀ p∈ps',Fg p)->wss ps'+1<=ws y+wss qs->∀ (G9:DV) (ρ:DSt),(∃ o4,ρ=[some d,some (.ref a),some (.ref b),some y,o4])->up (up G a (.lst fs')) b (.lst ps'.reverse)=G9->Wk (λ ρ G'=>∃ μ',μ' < wss (y::qs)/\∃ (ps fs:List D) (o3 o4:Option D),ρ=[some d,some (.ref a),some (.ref b),o3,o4]/\up (up G a (.lst fs)) b (.lst ps.reverse)=G'/\fs++flC ps=flD d/\(∀ p∈ps,Fg p)/\wss ps<=196000/\wss ps=μ') ρ G9:=λ fs' ps' h1 h2 h3 G9 ρ ⟨o4,e1⟩ e2=>Wk.of ⟨wss ps',by rw [wss];omega,ps',fs',_,o4,e1,e2,h1,h2,by omega,rfl⟩
    rw [flC] at hfs
    cases hps y (Ya ..) with
    | int n=>
      refine ⟨false,rfl,⟨λ _=>⟨a6q (ha1 _) trivial,aTq (ha1 _) ⟨aZq (by omega),?_⟩⟩,nofun⟩⟩
      rw [up3 hne]
      exact fin (fs++[.int n]) qs (by rw [<- hfs];simp [flD]) hqs (by simp only [ws];omega) _ _ ⟨_,rfl⟩ rfl
    | str z=>
      refine ⟨false,rfl,⟨λ _=>⟨a6q (ha1 _) trivial,aTq (ha1 _) ⟨aZq (by omega),?_⟩⟩,nofun⟩⟩
      rw [up3 hne]
      exact fin (fs++[.str z]) qs (by rw [<- hfs];simp [flD]) hqs (by simp only [ws];omega) _ _ ⟨_,rfl⟩ rfl
    | @node z r hr=>
      have hlr:=i1q (.str z::r)
      rw [ws] at hw6
      refine ⟨true,rfl,⟨nofun,λ _=>⟨λ _=>⟨true,rfl,⟨λ _=>?_,nofun⟩⟩,λ c=>absurd (of_decide_eq_false c) (by simp only [Yb];omega)⟩⟩⟩
      refine ⟨a6q a5q trivial,rfl,aTq a5q ⟨fBq (by simp only [Ym];omega),?_⟩⟩
      rw [cTq]
      refine fin fs ((.str z::r)++qs) ?_ (λ p hp=>?_) ?_ _ _ ⟨_,rfl⟩ ?_
      . rw [<- hfs,pYq];simp only [flD,flT,flC];rfl
      . rcases Yq.mp hp with hp | hp
        . rcases Yd.mp hp with rfl | hp
          . exact .str _
          . exact hr p hp
        . exact hqs p hp
      . rw [r2q,ws];omega
      . rw [List.reverse_append]
    | @bag ds hds hdd=>
      have hlr:=i1q ds
      have hqd:qs.length+2 * ds.length+2<=196000:=by rw [ws] at hw6;omega
      refine ⟨true,rfl,⟨nofun,λ _=>⟨λ c=>?els0,λ c=>?els2⟩⟩⟩
      case' els0=>
        obtain ⟨d0,ds',e⟩:∃ d0 ds',ds=d0::ds':=by
          cases ds with
          | nil=>exact absurd c (by decide)
          | cons x xs=>exact ⟨x,xs,rfl⟩
        refine aA3q (d:=d0) (by rw [e];exact bFq (j:=0) rfl) ?_
        obtain ⟨z,r,rfl⟩:=hdd d0 (by rw [e];exact Ya ..)
        refine ⟨false,rfl,⟨nofun,λ _=>?_⟩⟩
      case' els2=>
        refine ⟨nofun,λ _=>?_⟩
      case els0 | els2=>
        refine ⟨a6q a5q trivial,aTq a5q ⟨aZq (by simp only [Ym];omega),?_⟩⟩
        rw [cTq]
        refine ⟨λ i ρ G'=>∃ o4,ρ=[some d,some (.ref a),some (.ref b),some (.tup ds),o4]/\up (up G a (.lst fs)) b (.lst (qs.reverse++[.int 0]++(ds.reverse.take i).flatMap λ x=>[x,.int 1]))=G',⟨_,rfl,by simp⟩,λ _ _ _ _ _=>trivial,?_,?_⟩
        . rintro i x ρ G' he ⟨o4,rfl,rfl⟩
          have he':ds.reverse[i]?=some x:=he
          have hsm:(qs.reverse++[D.int 0]++(ds.reverse.take i).flatMap λ x=>[x,.int 1]).length+1<=196000:=by
            have h2:=(Yu.mp he').1
            rw [Ym] at h2
            simp only [Yg,Ym,YV,jFq,YK]
            omega
          refine ⟨a6q a5q trivial,aTq a5q ⟨aZq (by omega),?_⟩⟩
          rw [cTq]
          refine ⟨a6q a5q trivial,aTq a5q ⟨aZq (by rw [Yg,YV];omega),?_⟩⟩
          rw [cTq]
          refine Wk.of ⟨_,rfl,?_⟩
          rw [YY,he',Option.toList_some,Y1]
          simp
        . rintro ρ G' ⟨o4,rfl,rfl⟩
          refine fin fs (cJq ds++.int 0::qs) ?_ (λ p hp=>?_) ?_ _ _ ⟨_,rfl⟩ ?_
          . rw [<- hfs,pTq,iBq hdd]
          . rcases Yq.mp hp with hp | hp
            . obtain ⟨x,hx,hp⟩:=List.mem_flatMap.mp hp
              simp at hp
              rcases hp with rfl | rfl
              . exact .int _
              . exact hds _ hx
            . rcases Yd.mp hp with rfl | hp
              . exact .int _
              . exact hqs p hp
          . rw [o0q,ws];omega
          . rw [List.reverse_append,nWq,YH,show ds.reverse.take (⟨ds.reverse,λ _=>True⟩:DIt).items.length=ds.reverse from YW]
  . have e:ps=[]:=by
      cases ps with
      | nil=>rfl
      | cons _ _=>simp at c
    subst e
    have e2:fs=flD d:=by simpa [flC] using hfs
    subst e2
    exact ⟨up G a (.lst (flD d)),Sub.new (Sub.refl _) (by rw [aQq hne];exact hb0),q a ha⟩
abbrev iZq:Stmt:=top 9
theorem rKq:FnScope ["things"] ["things"] (aDq iZq):=⟨rfl,rfl,rfl,by decide +kernel,rfl,by decide +kernel,by decide +kernel⟩
theorem s2q (B:Blt mg) {qf:Addr} (m_flat:mg "flat" = some (.ref qf)) (K_flat:FnV P w K mg base 1 qf (aRq K (aC1q (λ d=>Fg d/\tsz d<=49000) flD))) (F:Fun K "flat_sorted" "flat_sorted" iZq f fd):FnOk P w K mg base CX0 3 f fd ["things"] (aRq K l0q):=by
  refine okD (k:=2) F rKq (λ ds G DQ h=>?_) (λ cdv A outer s H E hr ds G DQ h=>?_)
  . obtain ⟨_,_,rfl,_⟩:=h;rfl
  obtain ⟨l,es,rfl,hl,h64,hs,q⟩:=h
  refine ⟨_,(a4q (aNq (aBq c3q (aCq aFq rfl B.len PySem.boot_len (a0q (a1q 0) a2q)) a3q (aAq _)) (a7q (aEq (b4q b3q rfl B.tuple PyProof.Rows.boot_tuple (a0q (a1q 0) a2q)))) aGq)
      (a7q (aEq (bOq (b4q b3q rfl B.tuple PyProof.Rows.boot_tuple (a0q (aE5q K_flat hr (by omega) rfl B.sorted rfl m_flat (a0q (a1q 0) a2q)) a2q)))))),?_⟩
  refine a6q hl ⟨λ c=>?_,λ c=>?_⟩
  . have c':=of_decide_eq_true c
    refine a6q hl (Dr.of (q es (.refl _) ?_))
    rcases es with _ | ⟨x,_ | ⟨y,r⟩⟩
    . exact YN.nil
    . exact List.pairwise_singleton ..
    . simp at c';omega
  . have c':=of_decide_eq_false c
    refine xVq (P:=λ d=>Fg d/\tsz d<=49000) o1q hl (by omega) h64 (λ d hd=>⟨(hs d hd).1,?_,(hs d hd).2⟩) λ es' hp hsr a ha=>?_
    . obtain ⟨x,hx⟩:=(hs d hd).1
      exact aO6q hx
    . exact a6q a5q ⟨G,Sub.new (Sub.refl _) ha,Dr.of (q es' hp hsr)⟩
abbrev lBq:Stmt:=top 36
theorem w6q:FnScope ["paper", "inners"] ["paper", "inners"] (aDq lBq):=⟨rfl,rfl,rfl,by decide +kernel,rfl,by decide +kernel,by decide +kernel⟩
theorem y5q {aN:Addr} (B:Blt mg) (m_NO_INNER_PAPERS:mg "NO_INNER_PAPERS" = some (.ref aN)) (t_NO_INNER_PAPERS:∀ H,Abs K H (.tup [.str "name", .str "hole"]) (.ref aN)) (F:Fun K "with_inner_papers" "with_inner_papers" lBq f fd):FnOk P w K mg base CX0 1 f fd ["paper", "inners"] (aRq K pEq):=by
  refine okD (k:=0) F w6q (λ ds G DQ h=>?_) (λ cdv A outer s H E hr ds G DQ h=>?_)
  . obtain ⟨_,_,_,_,rfl,_⟩:=h;rfl
  obtain ⟨d,l,es,d',rfl,hl,hw,q⟩:=h
  refine ⟨_,(a4q (aNq (aBq f9q (aHq aix (a1q 0) a3q (λ _ _=>rfl)) (cIq (v:=.ref _) rfl m_NO_INNER_PAPERS rfl t_NO_INNER_PAPERS) (by with_unfolding_all rfl)) (a7q (aEq (a1q 0))) aGq)
      (a4q (aNq (aBq (aKq (aPq hr)) (aHq aix (a1q 0) a3q (λ _ _=>rfl)) a8q (aAq _)) (a7q (aEq (b1q (a0q a8q (a0q (aHq aix (a1q 1) a3q (λ _ _=>rfl)) (a0q (b4q b3q rfl B.tuple PyProof.Rows.boot_tuple (a0q (bCq asl (a1q 1) (b2q a3q) bPq) a2q)) a2q)))))) aGq)
      (a7q (aEq (aOq aSq (b1q (a0q (aHq aix (a1q 0) a3q (λ _ _=>rfl)) a2q)) (b4q b3q rfl B.tuple PyProof.Rows.boot_tuple (a0q (a1q 1) a2q))))))),?_⟩
  cases hw with
  | leaf hf=>
    cases hf with
    | some=>exact ⟨rfl,rfl,⟨λ c=>absurd c (by decide),λ _=>⟨λ c=>absurd c (by decide),λ _=>a6q hl ⟨big (by simp),Dr.of q⟩⟩⟩⟩
    | whole=>exact ⟨rfl,rfl,⟨λ c=>absurd c (by decide),λ _=>⟨λ c=>absurd c (by decide),λ _=>a6q hl ⟨big (by simp),Dr.of q⟩⟩⟩⟩
    | name k=>exact ⟨rfl,rfl,⟨λ _=>Dr.of q,λ c=>absurd c (by decide)⟩⟩
  | un p p' hw=>
    simp only [unW,Yd,Yn,or_false] at hw
    rcases hw with rfl | rfl | rfl | rfl | rfl<;>exact ⟨rfl,rfl,⟨λ c=>absurd c (by decide),λ _=>⟨λ c=>absurd c (by decide),λ _=>a6q hl ⟨big (by simp),Dr.of q⟩⟩⟩⟩
  | bi p r p' r' hw=>
    simp only [biW,Yd,Yn,or_false] at hw
    rcases hw with rfl | rfl | rfl<;>exact ⟨rfl,rfl,⟨λ c=>absurd c (by decide),λ _=>⟨λ c=>absurd c (by decide),λ _=>a6q hl ⟨big (by simp),Dr.of q⟩⟩⟩⟩
  | give p ps p' ps' h6=>
    refine ⟨rfl,rfl,⟨λ c=>absurd c (by decide),λ _=>⟨λ _=>aLq hl (d:=p') (bFq (j:=0) rfl) (a6q hl λ p2 hp2=>a6q a5q ?_),λ c=>absurd c (by decide)⟩⟩⟩
    rw [pMq]
    exact ⟨G,Sub.new (Sub.refl _) hp2,q⟩
abbrev kEq:Stmt:=top 44
theorem wPq:FnScope ["paper", "inners"] ["paper", "inners"] (aDq kEq):=⟨rfl,rfl,rfl,by decide +kernel,rfl,by decide +kernel,by decide +kernel⟩
theorem wAq (B:Blt mg) (g_winp:Got P w K mg base 1 "with_inner_papers" ["paper", "inners"] (aRq K pEq)) (g_fsort:Got P w K mg base 3 "flat_sorted" ["things"] (aRq K l0q)) (F:Fun K "with_inners_in_order" "with_inners_in_order" kEq f fd):FnOk P w K mg base CX0 4 f fd ["paper", "inners"] (aRq K n0q):=by
  refine okD (k:=3) F wPq (λ ds G DQ h=>?_) (λ cdv A outer s H E hr ds G DQ h=>?_)
  . obtain ⟨_,_,_,_,rfl,_⟩:=h;rfl
  obtain ⟨d,l,es,d',rfl,hl,hw,hs,q⟩:=h
  refine ⟨_,(a4q (aNq (aBq (aKq (aPq hr)) (aHq aix (a1q 0) a3q (λ _ _=>rfl)) a8q (aAq _)) (a7q (aEq (b1q (a0q a8q (a0q (aHq aix (a1q 1) a3q (λ _ _=>rfl)) (a0q (a9q g_fsort hr (by omega) rfl (a0q (bCq asl (a1q 1) (b2q a3q) bPq) a2q)) a2q)))))) aGq)
      (a7q (aEq (a9q g_winp hr (by omega) rfl (a0q (a1q 0) (a0q (a1q 1) a2q)))))),?_⟩
  have hw0:=hw
  cases hw with
  | leaf hf=>
    cases hf with
    | some=>exact ⟨λ c=>absurd c (by decide),λ _=>⟨_,l,_,_,rfl,hl,hw0,Dr.of (q _ (.other λ p ps e=>by cases e))⟩⟩
    | whole=>exact ⟨λ c=>absurd c (by decide),λ _=>⟨_,l,_,_,rfl,hl,hw0,Dr.of (q _ (.other λ p ps e=>by cases e))⟩⟩
    | name k=>exact ⟨λ c=>absurd c (by decide),λ _=>⟨_,l,_,_,rfl,hl,hw0,Dr.of (q _ (.other λ p ps e=>by cases e))⟩⟩
  | un p p' hw=>
    simp only [unW,Yd,Yn,or_false] at hw
    rcases hw with rfl | rfl | rfl | rfl | rfl<;>exact ⟨λ c=>absurd c (by decide),λ _=>⟨_,l,_,_,rfl,hl,hw0,Dr.of (q _ (.other λ p ps e=>by cases e))⟩⟩
  | @bi z p r p' r' hw=>
    have hne:∀ a b,D.tup [.str z,p',r']≠.tup [.str "give", a,.tup b]:=λ a b e=>by
      simp only [D.tup.injEq,List.cons.injEq,D.str.injEq] at e
      exact absurd (e.1 ▸ hw) (by decide)
    simp only [biW,Yd,Yn,or_false] at hw
    rcases hw with rfl | rfl | rfl<;>exact ⟨λ c=>absurd c (by decide),λ _=>⟨_,l,_,_,rfl,hl,hw0,Dr.of (q _ (.other hne))⟩⟩
  | give p ps p' ps' h6=>
    refine ⟨λ _=>aLq hl (d:=p') (bFq (j:=0) rfl) (a6q hl λ p2 hp2=>⟨p2,ps',rfl,by rw [a5q,pMq],by omega,λ e he=>hs e (Yc _ he),λ es' hp hsr=>⟨G,Sub.new (Sub.refl _) hp2,q _ (.give hp hsr)⟩⟩),λ c=>absurd c (by decide)⟩
abbrev g2q:Stmt:=top 7
theorem sc_folded:FnScope ["thing", "inners_of", "made_of", "made", "one"] ["thing", "inners_of", "made_of"] (aDq g2q):=⟨rfl,rfl,rfl,by decide +kernel,rfl,by decide +kernel,by decide +kernel⟩
theorem oZq {k0:Nat} (B:Blt mg) (g_walked:Got P w K mg base (k0+1) "walked" ["thing", "inners_of"] (aRq K (iUq P w K mg base k0))) (F:Fun K "folded" "folded" g2q f fd):FnOk P w K mg base CX0 (k0+2) f fd ["thing", "inners_of", "made_of"] (aRq K (fWq P w K mg base k0)):=by
  refine okD (k:=k0+1) F sc_folded (λ ds G DQ h=>?_) (λ cdv A outer s H E hr ds G DQ h=>?_)
  . obtain ⟨_,_,_,_,_,_,_,_,rfl,_⟩:=h;rfl
  obtain ⟨α,enc,inn,all,Md,fi,fm,x,rfl,hall,G_inners_of,G_made_of,hz,q⟩:=h
  refine ⟨_,(a4q (aIq (k:=3) sc_folded.nd rfl (Or.inr rfl) (bSq a2q))
      (a4q (fSq PassesOwn.never rfl (aJ2q rfl B.reversed (a9q g_walked hr (by omega) rfl (a0q (a1q 0) (a0q (a1q 1) a2q)))) (bEq (k:=4) sc_folded.nd rfl (Or.inl rfl)) (a7q (bDq (c1q PySem.F.plainAttrs_list PySem.F.slot_list_append PySem.F.type_list_append aXq (a1q 3) (a0q (xTq 2 G_made_of hr (by omega) (a0q (a1q 4) (a0q (cXq rfl (CompOk.of (N':=["part", "made"]) (nt:=1) (cap:=[3]) rfl (by kernel_rfl)) (b8q (k:=0) (by decide)) (cKq (xTq 1 G_inners_of hr (by omega) (a0q (a1q 4) a2q))) (λ _ _ _ _=>(bEq (k:=0) (show YA (["part", "made"]:List Str) by decide +kernel) rfl (Or.inl rfl))) (λ _ _ _ _=>(f1q PySem.F.plainAttrs_list PySem.F.slot_list_pop PySem.F.type_list_pop dPq (a1q 1)))) a2q))) a2q)))))
      (a7q (aEq (f1q PySem.F.plainAttrs_list PySem.F.slot_list_pop PySem.F.type_list_pop dPq (a1q 3)))))),?_⟩
  intro a ha
  refine ⟨α,enc,inn,all,fi,x,rfl,hall,G_inners_of,by omega,λ l hl=>?_⟩
  have hn:a≠l:=by rintro rfl;rw [a5q] at hl;cases hl
  have hsl:∀ j (ps:List (α × D)),stk inn x j=ps.map (·.1)->ps.length<=10000:=λ j ps e=>by
    have h1:=congrArg YJ (fIq hall x j)
    have h2:∀ ys:List α,ys.length<=(ys.flatMap all).length:=λ ys=>by
      induction ys with
      | nil=>simp
      | cons y ys ih=>rw [YC,hall y,Yg,Yb,Yb];omega
    have h3:=h2 (stk inn x j)
    rw [<- h1,e,Yf,Yz] at h3
    omega
  refine y2q a5q ?_
  refine ⟨λ i ρ G'=>∃ (ps:List (α × D)) (o4:Option D),ρ=[some (enc x),some (.ref fi),some (.ref fm),some (.ref a),o4]/\up (up G a (.lst ((ps.map (·.2)).reverse))) l (.lst ((all x).map enc))=G'/\stk inn x ((all x).length - i)=ps.map (·.1)/\∀ p∈ps,Fo inn Md p.1 p.2,⟨[],_,rfl,rfl,by rw [Nat.sub_zero,w1q hall];rfl,by simp⟩,λ i ρ G' _ h=>by obtain ⟨_,_,_,rfl,_⟩:=h;exact a5q,?_,?_⟩
  . rintro i d ρ G' hd ⟨ps,o4,rfl,rfl,hst,hfo⟩
    have hi:i < (all x).length:=by
      have z:=(Yu.mp hd).1
      have z':i < (((all x).map enc).reverse).length:=z
      simpa using z'
    have hu:(all x)[(all x).length - 1 - i]?=some ((all x)[(all x).length - 1 - i]'(by omega)):=Yi (by omega)
    generalize hue:(all x)[(all x).length - 1 - i]'(by omega)=u at hu
    have hd':d=enc u:=by
      have z:(((all x).map enc).reverse)[i]?=some d:=hd
      rw [Zg (by simpa using hi),Yw,Yf,hu] at z
      exact (Option.some.inj z).symm
    subst hd'
    obtain ⟨t,ht1,ht2⟩:=s6q hall x _ hu
    rw [show (all x).length - 1 - i+1=(all x).length - i by omega,hst] at ht2
    obtain ⟨ps1,ps2,rfl,hp1,hp2⟩:=List.map_eq_append_iff.mp ht2
    have hpl:=hsl _ _ hst
    rw [Yg] at hpl
    have hkl:(inn u).length=ps1.length:=by rw [<- hp1,Yf]
    have e1:∀ o,up (up G a (.lst (((ps1++ps2).map (·.2)).reverse))) l o a=some (.lst (((ps1++ps2).map (·.2)).reverse)):=λ o=>by rw [aQq hn];exact a5q
    refine ⟨a6q (e1 _) trivial,rfl,rfl,u,rfl,?_⟩
    refine e2q (λ i ds G'=>ds=((ps1++ps2).map (·.2)).take i/\i<=ps1.length/\G'=up (up G a (.lst ((((ps1++ps2).map (·.2)).drop i).reverse))) l (.lst ((all x).map enc))) ?_ ⟨rfl,Nat.zero_le _,by rw [YI]⟩ (λ _ _ _ _ _=>trivial) ?_ ?_
    . show ((inn u).map enc).length < sizeLine
      rw [Yf,hkl];exact aZq (by omega)
    . rintro j d ds G' hd ⟨rfl,hj,rfl⟩
      have hj':j < ps1.length:=by
        have z:=(Yu.mp hd).1
        have z':j < ((inn u).map enc).length:=z
        rw [Yf,hkl] at z';exact z'
      have hjl:j < ((ps1++ps2).map (·.2)).length:=by rw [Yf,Yg];omega
      generalize (ps1++ps2).map (·.2)=m at hjl
      have hx:m.drop j=m[j]::m.drop (j+1):=YZ hjl
      have e2:∀ o,up (up G a (.lst ((m.drop j).reverse))) l o a=some (.lst ((m.drop j).reverse)):=λ o=>by rw [aQq hn];exact a5q
      refine ⟨a6q (e2 _) trivial,aTq (e2 _) ⟨(m.drop (j+1)).reverse,m[j],by rw [hx,YH],?_⟩⟩
      rw [up3 (Ne.symm hn)]
      refine WkV.of ⟨?_,by omega,rfl⟩
      rw [YY,Yi hjl,Option.toList_some]
    . rintro ds G' ⟨rfl,_,rfl⟩ p hp
      have eL:(⟨(inn u).map enc,λ _=>True⟩:DIt).items.length=ps1.length:=by show ((inn u).map enc).length=ps1.length;rw [Yf];exact hkl
      rw [eL] at hp ⊢
      have et:((ps1++ps2).map (·.2)).take ps1.length=ps1.map (·.2):=by rw [YQ];exact List.take_left' (by rw [Yf])
      have ed:((ps1++ps2).map (·.2)).drop ps1.length=ps2.map (·.2):=by rw [YQ];exact List.drop_left' (by rw [Yf])
      rw [et,ed] at *
      obtain ⟨-,hp1',npl⟩:=dLq (o:=.lst []) hp
      obtain ⟨-,hp0,npa⟩:=dLq (o:=.lst []) hp1'
      have e3:up (up (up G a (.lst ((ps2.map (·.2)).reverse))) l (.lst ((all x).map enc))) p (.lst (ps1.map (·.2))) a=some (.lst ((ps2.map (·.2)).reverse)):=by
        rw [aQq (Ne.symm npa),aQq hn];exact a5q
      refine ⟨u,p,ps1,rfl,a5q,hp1.symm,λ p hp=>hfo p (YG _ hp),λ r hr=>aTq e3 ⟨aZq (by simp only [Yf,Ym];omega),?_⟩⟩
      refine ⟨_,up (up G a (.lst (((((u,r)::ps2).map (·.2)).reverse)))) l (.lst ((all x).map enc)),.refl _,?_,(u,r)::ps2,_,rfl,rfl,?_,?_⟩
      . rw [lJq npa,up3 (Ne.symm hn),Yh,YH]
        exact Sub.new (Sub.refl _) (by rw [aQq npl,aQq npa];exact hp0)
      . rw [show (all x).length - (i+1)=(all x).length - 1 - i by omega,ht1,Yh,hp2]
      . intro p' hp'
        rcases Yd.mp hp' with rfl | hp'
        . exact .mk hp1.symm (λ p hp=>hfo p (YG _ hp)) hr
        . exact hfo p' (Yk _ hp')
  . rintro ρ G' ⟨ps,o4,rfl,rfl,hst,hfo⟩
    rw [show (⟨((all x).map enc).reverse,λ G=>G l=some (.lst ((all x).map enc))⟩:DIt).items.length=(all x).length by simp,Nat.sub_self,stk] at hst
    obtain ⟨⟨y,r⟩,rfl⟩:∃ p,ps=[p]:=by
      cases ps with
      | nil=>simp at hst
      | cons p r=>
        cases r with
        | nil=>exact ⟨p,rfl⟩
        | cons _ _=>simp at hst
    simp only [Yh,YF,List.cons.injEq,and_true] at hst
    subst hst
    refine ⟨a6q (by rw [aQq hn];exact a5q) trivial,aTq (by rw [aQq hn];exact a5q) ⟨[],r,rfl,⟨G,?_,q r (hfo (x,r) (Ya ..))⟩⟩⟩
    exact Sub.new (Sub.new (Sub.new (Sub.refl _) ha) (dLq (o:=.lst []) hl).2.1) ha
abbrev kKq:Stmt:=top 35
theorem xDq:FnScope ["paper"] ["paper"] (aDq kKq):=⟨rfl,rfl,rfl,by decide +kernel,rfl,by decide +kernel,by decide +kernel⟩
theorem t6q {k0:Nat} {aN:Addr} (m_NO_INNER_PAPERS:mg "NO_INNER_PAPERS" = some (.ref aN)) (t_NO_INNER_PAPERS:∀ H,Abs K H (.tup [.str "name", .str "hole"]) (.ref aN)) (F:Fun K "inner_papers" "inner_papers" kKq f fd):FnOk P w K mg base CX0 (k0+1) f fd ["paper"] (aRq K (q4q (Subtype.val:Ppr->D) nHq)):=by
  refine okD (k:=k0) F xDq (λ ds G DQ h=>?_) (λ cdv A outer s H E hr ds G DQ h=>?_)
  . obtain ⟨_,rfl,_⟩:=h;rfl
  obtain ⟨x,rfl,q⟩:=h
  refine ⟨_,(a4q (aNq (aBq f9q (aHq aix (a1q 0) a3q (λ _ _=>rfl)) (cIq (v:=.ref _) rfl m_NO_INNER_PAPERS rfl t_NO_INNER_PAPERS) (by with_unfolding_all rfl)) (a7q (aEq (b1q a2q))) aGq)
      (a4q (aNq (aBq (aKq (aPq hr)) (aHq aix (a1q 0) a3q (λ _ _=>rfl)) a8q (aAq _)) (a7q (aEq (aOq aSq (b1q (a0q (aHq aix (a1q 0) a3q (λ _ _=>rfl)) a2q)) (aHq aix (a1q 0) a3q (λ _ _=>rfl))))) aGq)
      (a7q (aEq (bCq asl (a1q 0) (b2q a3q) bPq))))),?_⟩
  rw [eFq] at q
  obtain ⟨⟨y,hy⟩,_⟩:=x.2
  generalize x.1=d at hy q
  cases hy with
  | some=>exact ⟨rfl,rfl,⟨λ c=>absurd c (by decide),λ _=>⟨λ c=>absurd c (by decide),λ _=>Dr.of q⟩⟩⟩
  | whole=>exact ⟨rfl,rfl,⟨λ c=>absurd c (by decide),λ _=>⟨λ c=>absurd c (by decide),λ _=>Dr.of q⟩⟩⟩
  | name=>rw [fJq] at q;exact ⟨rfl,rfl,⟨λ _=>Dr.of q,λ c=>absurd c (by decide)⟩⟩
  | @node w ps _ hn _=>
    rw [bTq hn] at q
    generalize ps.map (·.1)=es at hn q
    cases hn with
    | un p hw=>
      simp only [unW,Yd,Yn,or_false] at hw
      rcases hw with rfl | rfl | rfl | rfl | rfl<;>exact ⟨rfl,rfl,⟨λ c=>absurd c (by decide),λ _=>⟨λ c=>absurd c (by decide),λ _=>Dr.of q⟩⟩⟩
    | bi p p' hw=>
      simp only [biW,Yd,Yn,or_false] at hw
      rcases hw with rfl | rfl | rfl<;>exact ⟨rfl,rfl,⟨λ c=>absurd c (by decide),λ _=>⟨λ c=>absurd c (by decide),λ _=>Dr.of q⟩⟩⟩
    | give p ps hl=>exact ⟨rfl,rfl,⟨λ c=>absurd c (by decide),λ _=>⟨λ _=>⟨big (by simp;omega),Dr.of q⟩,λ c=>absurd c (by decide)⟩⟩⟩
abbrev iVq:Stmt:=top 43
theorem tIq:FnScope ["paper"] ["paper"] (aDq iVq):=⟨rfl,rfl,rfl,by decide +kernel,rfl,by decide +kernel,by decide +kernel⟩
theorem tQq {fi fm:Addr} (m_inner_papers:mg "inner_papers" = some (.ref fi)) (G_inn:FnV P w K mg base 4 fi (aRq K (q4q (Subtype.val:Ppr->D) nHq))) (m_with_inners_in_order:mg "with_inners_in_order" = some (.ref fm)) (G_mk:FnV P w K mg base 4 fm (aRq K n0q)) (g_folded:Got P w K mg base 6 "folded" ["thing", "inners_of", "made_of"] (aRq K (fWq P w K mg base 4))) (F:Fun K "in_order" "in_order" iVq f fd):FnOk P w K mg base CX0 7 f fd ["paper"] (aRq K lIq):=by
  refine okD (k:=6) F tIq (λ ds G DQ h=>?_) (λ cdv A outer s H E hr ds G DQ h=>?_)
  . obtain ⟨_,rfl,_⟩:=h;rfl
  obtain ⟨d,rfl,hp,hz,q⟩:=h
  refine ⟨_,(a7q (aEq (a9q g_folded hr (by omega) rfl (a0q (a1q 0) (a0q (cIq (d:=.ref _) (v:=.ref _) rfl m_inner_papers rfl (λ _=>rfl)) (a0q (cIq (d:=.ref _) (v:=.ref _) rfl m_with_inners_in_order rfl (λ _=>rfl)) a2q)))))),?_⟩
  have hz':tsz d<=49000:=by omega
  have hl:2 * (iTq ⟨d,hp,hz'⟩).length<=tsz d:=jXq _ _ (Nat.le_refl _)
  exact ⟨Ppr,Subtype.val,nHq,iTq,MdP,fi,fm,⟨d,hp,hz'⟩,rfl,mMq,G_inn,G_mk.imp λ vs H Q E ⟨ds,G,DQ,h1,h2,h3,h4⟩=>⟨ds,G,DQ,h1,h2,tAq h3,h4⟩,by omega,λ r hr=>Dr.of (q r (yQq hr))⟩
abbrev j3q:Stmt:=top 55
theorem rTq:FnScope ["_law_paper"] ["_law_paper"] (aDq j3q):=⟨rfl,rfl,rfl,by decide +kernel,rfl,by decide +kernel,by decide +kernel⟩
theorem tHq:FnOk P w K mg base CX0 1 f fd ["_law_paper"] (aRq K (g6q 0)):=uDq λ ds G DQ h=>by obtain ⟨_,_,_,h,_⟩:=h;omega
theorem sUq {n:Nat} (B:Blt mg) (g_lsort:Got P w K mg base (n+1) "_law_sorted" ["_law_paper"] (aRq K (g6q n))) (F:Fun K "_law_sorted" "_law_sorted" j3q f fd):FnOk P w K mg base CX0 (n+2) f fd ["_law_paper"] (aRq K (g6q (n+1))):=by
  refine okD (k:=n+1) F rTq (λ ds G DQ h=>?_) (λ cdv A outer s H E hr ds G DQ h=>?_)
  . obtain ⟨_,rfl,_⟩:=h;rfl
  obtain ⟨d,rfl,hp,hd,h150,q⟩:=h
  refine ⟨_,(a4q (aNq (aBq (aKq (aPq hr)) (aHq aix (a1q 0) a3q (λ _ _=>rfl)) a8q (aAq _)) (a7q (aEq (b1q (a0q a8q (a0q (a9q g_lsort hr (by omega) rfl (a0q (aHq aix (a1q 0) a3q (λ _ _=>rfl)) a2q)) (a0q (bOq (b4q b3q rfl B.tuple PyProof.Rows.boot_tuple (a0q (bOq (aCq (eGq o1q (λ h=>by obtain ⟨_,h⟩:=h;exact j8q h) (aPq hr)) rfl B.sorted PyProof.Rows.boot_sorted (a0q (cXq rfl (CompOk.of (N':=["_law_one"]) (nt:=1) (cap:=[]) rfl (by kernel_rfl)) (b8q (k:=0) (by decide)) (cKq (aHq aix (a1q 0) a3q (λ _ _=>rfl))) (λ _ _ _ _=>(bEq (k:=0) (show YA (["_law_one"]:List Str) by decide +kernel) rfl (Or.inl rfl))) (λ _ _ _ _=>(a9q g_lsort hr (by omega) rfl (a0q (a1q 0) a2q)))) a2q))) a2q))) a2q)))))) aGq)
      (a4q (aNq (AW.at (d6q (aBq (aKq (aPq hr)) (aHq aix (a1q 0) a3q (λ _ _=>rfl)) a8q (aAq _)) (cCq (aBq (aKq (aPq hr)) (aCq aFq rfl B.len PySem.boot_len (a0q (a1q 0) a2q)) a3q (aAq _))))) (a7q (aEq (a1q 0))) aGq)
      (a7q (aEq (aOq aSq (b1q (a0q (aHq aix (a1q 0) a3q (λ _ _=>rfl)) a2q)) (bOq (b4q b3q rfl B.tuple PyProof.Rows.boot_tuple (a0q (cXq rfl (CompOk.of (N':=["_law_one"]) (nt:=1) (cap:=[]) rfl (by kernel_rfl)) (b8q (k:=0) (by decide)) (cKq (bCq asl (a1q 0) (b2q a3q) bPq)) (λ _ _ _ _=>(bEq (k:=0) (show YA (["_law_one"]:List Str) by decide +kernel) rfl (Or.inl rfl))) (λ _ _ _ _=>(a9q g_lsort hr (by omega) rfl (a0q (a1q 0) a2q)))) a2q)))))))),?_⟩
  have hp0:=hp
  obtain ⟨x,hx⟩:=hp
  cases hx with
  | some=>exact ⟨λ c=>absurd c (by decide),λ _=>⟨λ c=>absurd c (by decide),λ _=>⟨λ _=>Dr.of (q _ (.leaf .some)),λ c=>absurd c (by decide)⟩⟩⟩
  | whole=>exact ⟨λ c=>absurd c (by decide),λ _=>⟨λ c=>absurd c (by decide),λ _=>⟨λ _=>Dr.of (q _ (.leaf .whole)),λ c=>absurd c (by decide)⟩⟩⟩
  | name=>exact ⟨λ c=>absurd c (by decide),λ _=>⟨λ _=>⟨λ _=>Dr.of (q _ (.leaf (.name _))),nofun⟩,λ c=>absurd c (by decide)⟩⟩
  | @node z ps _ hn _=>
    have hes:=mNq hp0
    generalize ps.map (·.1)=es at hn
    rw [bTq hn] at hes
    cases hn with
    | un p hw=>
      refine ⟨λ c=>absurd (show (z=="give")=true from c) (by rw [(unN z hw).1];decide),λ _=>⟨λ c=>absurd (show (z=="name")=true from c) (by rw [(unN z hw).2];decide),λ _=>⟨λ c=>absurd (show ((2:Int)==1)=true from c) (by decide),λ _=>?_⟩⟩⟩
      refine iMq (Sd L3.PS) (Nat.le_of_ble_eq_true rfl) trivial (λ e he R hR=>⟨e,rfl,(hes e he).1,by have:=(hes e he).2;omega,by have:=(hes e he).2;omega,hR⟩) (λ qs hq hT l hl=>a6q a5q ⟨G,Sub.new (Sub.refl _) hl,big (by have:=h9q (ds:=[p]) hq;simp at this ⊢;omega),Dr.of (q _ (zQq hw hq hT))⟩)
    | bi p r hw=>
      refine ⟨λ c=>absurd (show (z=="give")=true from c) (by rw [(biN z hw).1];decide),λ _=>⟨λ c=>absurd (show (z=="name")=true from c) (by rw [(biN z hw).2];decide),λ _=>⟨λ c=>absurd (show ((3:Int)==1)=true from c) (by decide),λ _=>?_⟩⟩⟩
      refine iMq (Sd L3.PS) (Nat.le_of_ble_eq_true rfl) trivial (λ e he R hR=>⟨e,rfl,(hes e he).1,by have:=(hes e he).2;omega,by have:=(hes e he).2;omega,hR⟩) (λ qs hq hT l hl=>a6q a5q ⟨G,Sub.new (Sub.refl _) hl,big (by have:=h9q (ds:=[p,r]) hq;simp at this ⊢;omega),Dr.of (q _ (yOq hw hq hT))⟩)
    | give p ps hl=>
      have hp1:=hes p (by simp)
      refine ⟨λ _=>⟨p,rfl,hp1.1,by omega,by omega,λ p' hp'=>?_⟩,λ c=>absurd c (by decide)⟩
      refine iMq (Sd L3.PS) (by show ps.length<=1000;omega) trivial (λ e he R hR=>?_) (λ qs hq hT l hl1=>?_)
      . have he':=hes e (Yc _ he)
        exact ⟨e,rfl,he'.1,by omega,by omega,hR⟩
      . have hql:=h9q (ds:=ps) hq
        have hK:∀ z∈qs,dKq z.2/\z.2.dp<=150:=λ z hz=>by
          have hm:z.1∈ps:=by rw [show ps=qs.map (·.1) from hq];exact YD hz
          have he':=hes z.1 (Yc _ hm)
          have:=ePq sSq (hT z hz) he'.1
          exact ⟨this.1,by omega⟩
        exact a6q a5q ⟨by omega,λ d hd=>by obtain ⟨z,hz,rfl⟩:=Yl.mp hd;exact hK z hz,λ s hpm hsr l2 hl2=>⟨up G l2 (.lst s),Sub.put (Sub.new (Sub.refl _) hl1),a6q a5q ⟨G,Sub.new (Sub.refl _) (dLq (o:=.lst []) hl2).2.1,Dr.of (q _ (.give hp' hT hq ⟨hpm,hsr⟩))⟩⟩⟩
abbrev fXq:Stmt:=top 56
theorem sc_turned:FnScope ["_law_feed_here", "_law_paper", "_law_some", "_law_at"] ["_law_feed_here", "_law_paper"] (aDq fXq):=⟨rfl,rfl,rfl,by decide +kernel,rfl,by decide +kernel,by decide +kernel⟩
theorem qSq:FnOk P w K mg base CX0 2 f fd ["_law_feed_here", "_law_paper"] (aRq K (e0q 0)):=uDq λ ds G DQ h=>by obtain ⟨_,_,_,_,_,h,_⟩:=h;omega
theorem oGq {n:Nat} (B:Blt mg) (g_take:Got P w K mg base 1 "_law_take" ["_law_feed_here", "_law_many"] (aRq K eCq)) (g_turned:Got P w K mg base (n+2) "_law_turned" ["_law_feed_here", "_law_paper"] (aRq K (e0q n))) (F:Fun K "_law_turned" "_law_turned" fXq f fd):FnOk P w K mg base CX0 (n+3) f fd ["_law_feed_here", "_law_paper"] (aRq K (e0q (n+1))):=by
  refine okD (k:=n+2) F sc_turned (λ ds G DQ h=>?_) (λ cdv A outer s H E hr ds G DQ h=>?_)
  . obtain ⟨_,_,rfl,_⟩:=h;rfl
  obtain ⟨a,d,rfl,hF,hp,hd,q⟩:=h
  refine ⟨_,(a4q (aNq (AW.at (d6q (aBq (aKq (aPq hr)) (aHq aix (a1q 1) a3q (λ _ _=>rfl)) a8q (aAq _)) (cCq (aBq (aKq (aPq hr)) (aCq aFq rfl B.len PySem.boot_len (a0q (a1q 1) a2q)) a3q (aAq _))))) (a7q (aEq (a1q 1))) aGq)
      (a4q (aNq (aBq (dMq (aPq hr)) (aHq aix (a1q 1) a3q (λ _ _=>rfl)) a8q (aAq _)) (a7q (aEq (aOq aSq (b1q (a0q (aHq aix (a1q 1) a3q (λ _ _=>rfl)) a2q)) (bOq (b4q b3q rfl B.tuple PyProof.Rows.boot_tuple (a0q (cXq rfl (CompOk.of (N':=["_law_one", "_law_feed_here"]) (nt:=1) (cap:=[0]) rfl (by kernel_rfl)) (b8q (k:=0) (by decide)) (cKq (bCq asl (a1q 1) (b2q a3q) bPq)) (λ _ _ _ _=>(bEq (k:=0) (show YA (["_law_one", "_law_feed_here"]:List Str) by decide +kernel) rfl (Or.inl rfl))) (λ _ _ _ _=>(a9q g_turned hr (by omega) rfl (a0q (a1q 1) (a0q (a1q 0) a2q))))) a2q)))))) aGq)
      (a4q (dEq (k:=2) rfl sc_turned.nd rfl (Or.inl rfl) (CompOk.of (N':=["_law_one", "_law_feed_here"]) (nt:=1) (cap:=[0]) rfl (by kernel_rfl)) (b8q (k:=0) (by decide)) (cKq (aHq aix (a1q 1) a3q (λ _ _=>rfl))) (λ _ _ _ _=>(bEq (k:=0) (show YA (["_law_one", "_law_feed_here"]:List Str) by decide +kernel) rfl (Or.inl rfl)))  (λ _ _ _ _=>(a9q g_turned hr (by omega) rfl (a0q (a1q 1) (a0q (a1q 0) a2q)))))
      (a4q (aIq (k:=3) sc_turned.nd rfl (Or.inl rfl) (a9q g_take hr (by omega) rfl (a0q (a1q 0) (a0q (aOq aSq (aCq aFq rfl B.len PySem.boot_len (a0q (a1q 2) a2q)) a3q) a2q))))
      (a4q (aIq (k:=2) sc_turned.nd rfl (Or.inl rfl) (aOq aSq (bCq asl (a1q 2) (b2q (a1q 3)) bPq) (bCq asl (a1q 2) bPq (b2q (a1q 3)))))
      (a4q (aNq (aBq (aKq (aPq hr)) (a9q g_take hr (by omega) rfl (a0q (a1q 0) (a0q a3q a2q))) a3q (aAq _)) (a7q (bDq (f1q PySem.F.plainAttrs_list PySem.F.slot_list_reverse PySem.F.type_list_reverse lEq (a1q 2)))) aGq)
      (a7q (aEq (b1q (a0q a8q (a0q (a9q g_turned hr (by omega) rfl (a0q (a1q 0) (a0q (aHq aix (a1q 1) a3q (λ _ _=>rfl)) a2q))) (a0q (b4q b3q rfl B.tuple PyProof.Rows.boot_tuple (a0q (a1q 2) a2q)) a2q)))))))))))),?_⟩
  have hp0:=hp
  obtain ⟨x,hx⟩:=hp
  cases hx with
  | some=>exact ⟨λ c=>absurd c (by decide),λ _=>⟨λ _=>Dr.of (q _ _ (.of (.refl hF)) (.leaf .some)),λ c=>absurd c (by decide)⟩⟩
  | whole=>exact ⟨λ c=>absurd c (by decide),λ _=>⟨λ _=>Dr.of (q _ _ (.of (.refl hF)) (.leaf .whole)),λ c=>absurd c (by decide)⟩⟩
  | name=>exact ⟨λ _=>⟨λ _=>Dr.of (q _ _ (.of (.refl hF)) (.leaf (.name _))),nofun⟩,λ c=>absurd c (by decide)⟩
  | @node z ps _ hn _=>
    have hes:=mNq hp0
    generalize ps.map (·.1)=es at hn
    rw [bTq hn] at hes
    cases hn with
    | un p hw=>
      refine ⟨λ c=>absurd (show (z=="name")=true from c) (by rw [(unN z hw).2];decide),λ _=>⟨λ c=>absurd (show ((2:Int)==1)=true from c) (by decide),λ _=>⟨λ _=>?_,λ c=>absurd (show (!(z=="give"))=false from c) (by rw [(unN z hw).1];decide)⟩⟩⟩
      refine gDq a (Sd PP) (Nat.le_of_ble_eq_true rfl) (λ _=>trivial) hF (λ e he G R hf hR=>⟨a,e,rfl,hf,(hes e he).1,by have:=(hes e he).2;omega,λ r G' w h=>hR r G' w h⟩) (λ qs G1 hq hT u l hl=>a6q a5q ⟨_,Sub.new (Sub.refl _) hl,big (by have:=h9q (ds:=[p]) hq;simp at this ⊢;omega),Dr.of (q _ _ (.of u) (zQq hw hq hT))⟩)
    | bi p r hw=>
      refine ⟨λ c=>absurd (show (z=="name")=true from c) (by rw [(biN z hw).2];decide),λ _=>⟨λ c=>absurd (show ((3:Int)==1)=true from c) (by decide),λ _=>⟨λ _=>?_,λ c=>absurd (show (!(z=="give"))=false from c) (by rw [(biN z hw).1];decide)⟩⟩⟩
      refine gDq a (Sd PP) (Nat.le_of_ble_eq_true rfl) (λ _=>trivial) hF (λ e he G R hf hR=>⟨a,e,rfl,hf,(hes e he).1,by have:=(hes e he).2;omega,λ r G' w h=>hR r G' w h⟩) (λ qs G1 hq hT u l hl=>a6q a5q ⟨_,Sub.new (Sub.refl _) hl,big (by have:=h9q (ds:=[p,r]) hq;simp at this ⊢;omega),Dr.of (q _ _ (.of u) (yOq hw hq hT))⟩)
    | give p ps hl=>
      have hp1:=hes p (by simp)
      refine ⟨λ c=>absurd c (by decide),λ _=>⟨λ c=>absurd (show ((3:Int)==1)=true from c) (by decide),λ _=>⟨λ c=>absurd c (by decide),λ _=>?_⟩⟩⟩
      refine gDq a (Sd PP) (by show ps.length<=1000;omega) (λ _=>trivial) hF (λ e he G R hf hR=>?_) (λ qs G1 hq hT u l hl1=>?_)
      . have he':=hes e (Yc _ he)
        exact ⟨a,e,rfl,hf,he'.1,by omega,λ r G' w h=>hR r G' w h⟩
      have hql:=h9q (ds:=ps) hq
      refine a6q a5q ⟨u.fd.new hl1,by omega,by omega,λ m G2 u2 m0 m1=>?_⟩
      have hl2:=u2.kp (u.fd.ne hl1) a5q
      refine a6q hl2 λ p1 hp1'=>a6q (by rw [aQq (by rintro rfl;rw [hl2] at hp1';cases hp1')];exact hl2) λ p2 hp2=>?_
      generalize hr0:qs.map (·.2)=r at *
      have hrot:=wVq m0 (show m<=r.length by omega)
      generalize cut r (some m) none=r1 at *
      generalize cut r none (some m)=r2 at *
      have hrl:=hrot.length_eq
      refine aTq (by rw [aQq (by rintro rfl;rw [a5q] at hp2;cases hp2)];exact a5q) (aTq a5q ⟨big (by simp at hrl ⊢;omega),λ p3 hp3=>?_⟩)
      have W3:Dw a G (up (up (up G2 p1 (.lst r1)) p2 (.lst r2)) p3 (.lst (r1++r2))):=(((((Dw.of u).new hl1).trans (.of u2)).new hp1').new hp2).new hp3
      have n3:p3≠a:=by
        obtain ⟨_,_,e⟩:=((((Dw.of u).new hl1).trans (.of u2)).new hp1' |>.new hp2).fd
        rintro rfl
        rw [e] at hp3;cases hp3
      generalize hG3:up (up (up G2 p1 (.lst r1)) p2 (.lst r2)) p3 (.lst (r1++r2))=G3 at W3
      have e3:G3 p3=some (.lst (r1++r2)):=by rw [<- hG3];exact a5q
      have fin:∀ G9 (s:List D) p',Dw a G G9->r.Perm s->Sd PP p p'->DQ (.tup [.str "give", p',.tup s]) G9:=λ G9 s p' w9 hs h9=>q _ _ w9 (.give h9 hT hq (by rw [hr0];exact hs))
      refine ⟨W3.fd,by decide,by decide,λ j G5 u5 j0 j1=>⟨λ _=>?_,λ _=>?_⟩⟩
      . have e5:=u5.kp n3 e3
        have g3:G p3=none:=by
          cases e:G p3 with
          | none=>rfl
          | some o=>have:=((((Dw.of u).new hl1).trans (.of u2)).new (o:=.lst r1) hp1').new (o:=.lst r2) hp2 |>.kp n3 e;rw [this] at hp3;cases hp3
        have W5:Dw a G (up G5 p3 (.lst (r1++r2).reverse)):=zFq (W3.trans (.of u5)) g3 n3
        exact ⟨a6q e5 trivial,aTq e5 ⟨a,p,rfl,W5.fd,hp1.1,by omega,λ p' G6 w6 h6=>a6q (w6.kp n3 a5q) (Dr.of (fin _ _ _ (W5.trans w6) (hrot.trans (List.reverse_perm _).symm) h6))⟩⟩
      . have e5:=u5.kp n3 e3
        have W5:=W3.trans (.of u5)
        exact ⟨a,p,rfl,W5.fd,hp1.1,by omega,λ p' G6 w6 h6=>a6q (w6.kp n3 e5) (Dr.of (fin _ _ _ (W5.trans w6) hrot h6))⟩
abbrev hAq:Stmt:=top 57
theorem sc_law:FnScope ["_law_script", "_law_feed_here", "_law_paper", "_law_turned_here", "_law_due", "_law_one", "_law_found"] ["_law_script"] (aDq hAq):=⟨rfl,rfl,rfl,by decide +kernel,rfl,by decide +kernel,by decide +kernel⟩
theorem yXq (B:Blt mg) (g_feed:Got P w K mg base 1 "_law_feed" ["_law_script", "_law_k"] (aRq K jDq)) (g_take:Got P w K mg base 1 "_law_take" ["_law_feed_here", "_law_many"] (aRq K eCq)) (g_shape:Got P w K mg base 27 "_law_shape" ["_law_feed_here", "_law_room", "_law_deep"] (aRq K (fPq 15))) (g_fit:Got P w K mg base 104 "_law_fit" ["_law_paper"] (aRq K wLq)) (g_text:Got P w K mg base 103 "_law_text" ["_law_paper"] (aRq K (eTq 101))) (g_readp:Got P w K mg base 5 "read_paper" ["text"] (aRq K kZq)) (g_plain:Got P w K mg base 102 "_law_plain" ["_law_found"] (aRq K (dTq 101))) (g_turned:Got P w K mg base 103 "_law_turned" ["_law_feed_here", "_law_paper"] (aRq K (e0q 101))) (g_lsort:Got P w K mg base 102 "_law_sorted" ["_law_paper"] (aRq K (g6q 101))) (g_inord:Got P w K mg base 7 "in_order" ["paper"] (aRq K lIq)) (F:Fun K "law" "law" hAq f fd):FnOk P w K mg base CX0 120 f fd ["_law_script"] (aRq K uHq):=by
  refine okD (k:=119) F sc_law (λ ds G DQ h=>?_) (λ cdv A outer s H E hr ds G DQ h=>?_)
  . obtain ⟨_,rfl,_⟩:=h;rfl
  obtain ⟨ns,rfl,hl,q⟩:=h
  refine ⟨_,(a4q (aIq (k:=1) sc_law.nd rfl (Or.inl rfl) (a9q g_feed hr (by omega) rfl (a0q (a1q 0) (a0q a3q a2q))))
      (a4q (aIq (k:=2) sc_law.nd rfl (Or.inl rfl) (a9q g_fit hr (by omega) rfl (a0q (a9q g_shape hr (by omega) rfl (a0q (a1q 1) (a0q (aOq aSq a3q (a9q g_take hr (by omega) rfl (a0q (a1q 1) (a0q a3q a2q)))) (a0q a3q a2q)))) a2q)))
      (a4q (aIq (k:=2) sc_law.nd rfl (Or.inl rfl) (a9q g_readp hr (by omega) rfl (a0q (a9q g_text hr (by omega) rfl (a0q (a1q 2) a2q)) a2q)))
      (a4q (aIq (k:=3) sc_law.nd rfl (Or.inl rfl) (a9q g_turned hr (by omega) rfl (a0q (a9q g_feed hr (by omega) rfl (a0q (a1q 0) (a0q a3q a2q))) (a0q (a1q 2) a2q))))
      (a4q (aIq (k:=4) sc_law.nd rfl (Or.inl rfl) (a9q g_lsort hr (by omega) rfl (a0q (a1q 2) a2q)))
      (a4q (fSq PassesOwn.never rfl (cKq (bSq (a0q (a1q 2) (a0q (a1q 3) (a0q (a1q 4) (a0q (a1q 2) a2q)))))) (bEq (k:=5) sc_law.nd rfl (Or.inl rfl)) (a4q (aIq (k:=6) sc_law.nd rfl (Or.inl rfl) (a9q g_inord hr (by omega) rfl (a0q (a1q 5) a2q)))
      (a7q (aNq (AW.at (d6q (dAq (bBq (a9q g_plain hr (by omega) rfl (a0q (a1q 6) a2q)))) (cCq (aBq (dMq (aPq hr)) (a1q 6) (a1q 4) (aAq _))))) (a7q (aEq jUq)) aGq))))
      (a7q (aEq jUq)))))))),?_⟩
  refine ⟨ns,rfl,hl,by omega,by omega,λ a xa ya ha=>⟨.up,by decide,by decide,λ m G1 u1 m0 m1=>⟨a,1+m,14,rfl,u1.fd,by omega,by omega,by omega,by omega,by omega,λ d1 G2 w2 p1=>⟨d1,rfl,p1.mono (by omega) (by decide),λ d2 ⟨hd2,x2,t2,l2⟩=>⟨d2,x2,rfl,t2,by omega,by omega,⟨d2,x2,rfl,t2,l2,?_⟩⟩⟩⟩⟩⟩
  have hp2:dKq d2:=⟨x2,t2⟩
  have hz2:=aC5q t2
  refine ⟨ns,rfl,hl,by omega,by omega,λ a' xa' ya' ha'=>⟨a',d2,rfl,.up,hp2,by omega,λ d3 G4 w4 s3=>⟨d2,rfl,hp2,by omega,by omega,λ d5 s5=>?_⟩⟩⟩
  have k3:=ePq (λ _ _ h=>h) s3 hp2
  have k5:=ePq sSq s5 hp2
  have all:∀ d∈[d2,d3,d5,d2],Sd PP d2 d:=λ d hd=>by
    simp only [Yd,Yn,or_false] at hd
    rcases hd with rfl | rfl | rfl | rfl
    . exact nVq t2
    . exact s3
    . exact s5.mono λ _ _ h=>h.1
    . exact nVq t2
  obtain ⟨x5,t5⟩:=k5.1
  obtain ⟨xd,xa5⟩:=pUq t5
  intro l hl1
  refine gIq a5q ?_
  refine ⟨λ i ρ G'=>∃ (o5 o6:Option D),ρ=[some (.frl (ns.map D.int)),some (.ref a),some d2,some d3,some d5,o5,o6]/\up G4 l (.lst [d2,d3,d5,d2])=G',⟨_,_,rfl,rfl⟩,λ i ρ G' _ h=>by obtain ⟨_,_,_,rfl⟩:=h;exact a5q,?_,?_⟩
  . rintro i e ρ G' he ⟨o5,o6,rfl,rfl⟩
    have he':=all e (YL he)
    have ke:=ePq (λ _ _ h=>h) he' hp2
    refine ⟨e,rfl,ke.1,by omega,λ r hr=>?_⟩
    have er:=w7q he' hp2 d5 r s5 hr
    subst er
    refine ⟨d5,rfl,xa5,by omega,⟨nofun,λ _=>zUq xd xd (by omega) ⟨λ c=>?_,λ _=>Wk.of ⟨_,_,rfl,rfl⟩⟩⟩⟩
    rw [bWq xd] at c;cases c
  . rintro ρ G' ⟨o5,o6,rfl,rfl⟩
    exact Dr.of (q _)
end
end KB
namespace KB
open PySem L2 L3
set_option maxHeartbeats 4000000
theorem zLq {l:PySem.W.OpenLaw} {w:World} {K:PySem.W.Frag} {h:Heap} {mg:Str->Option Value} {fa  : Addr} (X:K.In h) (G:h.Ns mainGlobals mg) (hfa:mg "law" = some (.ref fa))
    (d0:DT K "walked" fRq) (d1:DT K "folded" g2q) (d2:DT K "flat" kHq) (d3:DT K "flat_sorted" iZq) (d4:DT K "is_whole_number" qWq) (d5:DT K "is_kind" fZq) (d6:DT K "has_kind_form" oSq) (d7:DT K "has_answer_word" oAq) (d8:DT K "inner_kinds" kJq) (d9:DT K "is_sorted" g8q) (d10:DT K "pieces_of" fOq) (d11:DT K "is_whole_text" l9q) (d12:DT K "made_of" gNq) (d13:DT K "read_kind" kFq) (d14:DT K "read_piece" fQq) (d15:DT K "kind_closed" pBq) (d16:DT K "way_closed" lCq) (d17:DT K "pair_closed" iPq) (d18:DT K "inner_papers" kKq) (d19:DT K "with_inner_papers" lBq) (d20:DT K "read_paper" i5q) (d21:DT K "kind_end" lHq) (d22:DT K "paper_closed" rBq) (d23:DT K "in_order" iVq) (d24:DT K "with_inners_in_order" kEq) (d25:DT K "_law_feed" kPq) (d26:DT K "_law_take" kVq) (d27:DT K "_law_answer_kind" fVq) (d28:DT K "_law_kind" lFq) (d29:DT K "_law_shape" iGq) (d30:DT K "_law_kind_text" i4q) (d31:DT K "_law_text" kGq) (d32:DT K "_law_fit" q3q) (d33:DT K "_law_plain" j4q) (d34:DT K "_law_sorted" j3q) (d35:DT K "_law_turned" fXq) (d36:DT K "law" hAq) (z0:PySem.W.nsIn K mainGlobals "len" = some none) (z1:PySem.W.nsIn K mainGlobals "isinstance" = some none) (z2:PySem.W.nsIn K mainGlobals "range" = some none) (z3:PySem.W.nsIn K mainGlobals "int" = some none) (z4:PySem.W.nsIn K mainGlobals "bool" = some none) (z5:PySem.W.nsIn K mainGlobals "str" = some none) (z6:PySem.W.nsIn K mainGlobals "tuple" = some none) (z7:PySem.W.nsIn K mainGlobals "list" = some none) (z8:PySem.W.nsIn K mainGlobals "sorted" = some none) (z9:PySem.W.nsIn K mainGlobals "all" = some none) (z10:PySem.W.nsIn K mainGlobals "reversed" = some none) (z11:PySem.W.nsIn K mainGlobals "min" = some none) (z12:PySem.W.nsIn K mainGlobals "max" = some none) (z13:PySem.W.nsIn K mainGlobals "enumerate" = some none) (z14:PySem.W.nsIn K mainGlobals "zip" = some none)
    {ti:Tok} (ti0:PySem.W.nsIn K mainGlobals "ITEM" = some (some (.int 1 ti)))
    {te:Tok} (te0:PySem.W.nsIn K mainGlobals "END" = some (some (.int 0 te)))
    {tm:Tok} (tm0:PySem.W.nsIn K mainGlobals "MOST_FIGURES" = some (some (.int 12 tm)))
    {tf:Tok} (tf0:PySem.W.nsIn K mainGlobals "FIGURES" = some (some (.str figs tf)))
    {ts:Tok} (ts0:PySem.W.nsIn K mainGlobals "SIGNS_kindtexts" = some (some (.str sgnS ts)))
    {tp:Tok} (tp0:PySem.W.nsIn K mainGlobals "SIGNS_papertexts" = some (some (.str sgnP tp)))
    {aI:Addr} (aI0:PySem.W.nsIn K mainGlobals "INNER_PAPERS" = some (some (.ref aI)))
    {eaI:Array DictEntry} {jaI:Nat} (aI1:K.lookup aI=some ⟨.type "dict", none,.dict eaI jaI,#[]⟩)
    (aI2:(aI==sysModules)=false)
 (aI3:PySem.W.KeysLit w.params eaI.toList)
    (aI4:Paired (λ(kv:Str × V) (e:DictEntry)=>(∃ t1,e.key=.str kv.1 t1)/\RelV kv.2 e.val) ipLV eaI.toList)
    {aS:Addr} (aS0:PySem.W.nsIn K mainGlobals "PAPER_OF_SIGN" = some (some (.ref aS)))
    {sA sB:Addr}
    {eaS:Array DictEntry} {jaS:Nat} (aS1:K.lookup aS=some ⟨.type "dict", none,.dict eaS jaS,#[]⟩)
    (aS2:(aS==sysModules)=false)
 (aS3:PySem.W.KeysLit w.params eaS.toList)
    (aS4:Paired (λ(kv:Str × V) (e:DictEntry)=>(∃ t1,e.key=.str kv.1 t1)/\RelV kv.2 e.val) [(".", .ref sA),("~", .ref sB)] eaS.toList)
    {isA:Array Value} {jsA:Nat} (sA1:K.lookup sA=some ⟨.type "tuple", none,.seq isA jsA,#[]⟩)
    (sA2:Nat.ble isA.size 1000=true)
    (sA3:Vals [V.str "whole"] isA.toList)
    {isB:Array Value} {jsB:Nat} (sB1:K.lookup sB=some ⟨.type "tuple", none,.seq isB jsB,#[]⟩)
    (sB2:Nat.ble isB.size 1000=true)
    (sB3:Vals [V.str "some"] isB.toList)
    {aN:Addr} (aN0:PySem.W.nsIn K mainGlobals "NO_INNER_PAPERS" = some (some (.ref aN)))
    {iaN:Array Value} {jaN:Nat} (aN1:K.lookup aN=some ⟨.type "tuple", none,.seq iaN jaN,#[]⟩)
    (aN2:Nat.ble iaN.size 1000=true)
    (aN3:Vals [V.str "name", V.str "hole"] iaN.toList)
    : ∃ fd:FuncData,(∀ (s:Shared) (v:Value),BindsTo s fd ⟨[v],[]⟩ [("_law_script", v)])/\∀ base:Heap,K.In base->base.Ns mainGlobals mg->FnOk l.prog w K mg base CX0 120 fa fd ["_law_script"] (m6q K):=by
  obtain ⟨f0,_,a_walked,F_walked⟩:=d0.ok
  have b_walked:=F_walked.binds (ps:=f7q) λ _ _ _ _ _ _ us hl=>match us,hl with | [_,_],_=>rfl
  have m_walked:=PySem.W.mg_of X G a_walked
  have kp_walked:=F_walked.kp
  obtain ⟨f1,_,a_folded,F_folded⟩:=d1.ok
  have b_folded:=F_folded.binds (ps:=eZq) λ _ _ _ _ _ _ us hl=>match us,hl with | [_,_,_],_=>rfl
  have m_folded:=PySem.W.mg_of X G a_folded
  have kp_folded:=F_folded.kp
  obtain ⟨f2,_,a_flat,F_flat⟩:=d2.ok
  have b_flat:=F_flat.binds (ps:=eYq) λ _ _ _ _ _ _ us hl=>match us,hl with | [_],_=>rfl
  have m_flat:=PySem.W.mg_of X G a_flat
  have kp_flat:=F_flat.kp
  obtain ⟨f3,_,a_fsort,F_fsort⟩:=d3.ok
  have b_fsort:=F_fsort.binds (ps:=gLq) λ _ _ _ _ _ _ us hl=>match us,hl with | [_],_=>rfl
  have m_fsort:=PySem.W.mg_of X G a_fsort
  have kp_fsort:=F_fsort.kp
  obtain ⟨f4,_,a_isw,F_isw⟩:=d4.ok
  have b_isw:=F_isw.binds (ps:=jTq) λ _ _ _ _ _ _ us hl=>match us,hl with | [_],_=>rfl
  have m_isw:=PySem.W.mg_of X G a_isw
  have kp_isw:=F_isw.kp
  obtain ⟨f5,_,a_iskind,F_iskind⟩:=d5.ok
  have b_iskind:=F_iskind.binds (ps:=f8q) λ _ _ _ _ _ _ us hl=>match us,hl with | [_],_=>rfl
  have m_iskind:=PySem.W.mg_of X G a_iskind
  have kp_iskind:=F_iskind.kp
  obtain ⟨f6,_,a_hkf,F_hkf⟩:=d6.ok
  have b_hkf:=F_hkf.binds (ps:=jJq) λ _ _ _ _ _ _ us hl=>match us,hl with | [_],_=>rfl
  have m_hkf:=PySem.W.mg_of X G a_hkf
  have kp_hkf:=F_hkf.kp
  obtain ⟨f7,_,a_haw,F_haw⟩:=d7.ok
  have b_haw:=F_haw.binds (ps:=k8q) λ _ _ _ _ _ _ us hl=>match us,hl with | [_],_=>rfl
  have m_haw:=PySem.W.mg_of X G a_haw
  have kp_haw:=F_haw.kp
  obtain ⟨f8,_,a_innk,F_innk⟩:=d8.ok
  have b_innk:=F_innk.binds (ps:=hMq) λ _ _ _ _ _ _ us hl=>match us,hl with | [_],_=>rfl
  have m_innk:=PySem.W.mg_of X G a_innk
  have kp_innk:=F_innk.kp
  obtain ⟨f9,_,a_sorted,F_sorted⟩:=d9.ok
  have b_sorted:=F_sorted.binds (ps:=f2q) λ _ _ _ _ _ _ us hl=>match us,hl with | [_],_=>rfl
  have m_sorted:=PySem.W.mg_of X G a_sorted
  have kp_sorted:=F_sorted.kp
  obtain ⟨f10,_,a_pieces,F_pieces⟩:=d10.ok
  have b_pieces:=F_pieces.binds (ps:=d7q) λ _ _ _ _ _ _ us hl=>match us,hl with | [_,_],_=>rfl
  have m_pieces:=PySem.W.mg_of X G a_pieces
  have kp_pieces:=F_pieces.kp
  obtain ⟨f11,_,a_iswt,F_iswt⟩:=d11.ok
  have b_iswt:=F_iswt.binds (ps:=h7q) λ _ _ _ _ _ _ us hl=>match us,hl with | [_,_],_=>rfl
  have m_iswt:=PySem.W.mg_of X G a_iswt
  have kp_iswt:=F_iswt.kp
  obtain ⟨f12,_,a_madeof,F_madeof⟩:=d12.ok
  have b_madeof:=F_madeof.binds (ps:=f3q) λ _ _ _ _ _ _ us hl=>match us,hl with | [_,_],_=>rfl
  have m_madeof:=PySem.W.mg_of X G a_madeof
  have kp_madeof:=F_madeof.kp
  obtain ⟨f13,_,a_read,F_read⟩:=d13.ok
  have b_read:=F_read.binds (ps:=h8q) λ _ _ _ _ _ _ us hl=>match us,hl with | [_],_=>rfl
  have m_read:=PySem.W.mg_of X G a_read
  have kp_read:=F_read.kp
  obtain ⟨f14,_,a_rpiece,F_rpiece⟩:=d14.ok
  have b_rpiece:=F_rpiece.binds (ps:=fAq) λ _ _ _ _ _ _ us hl=>match us,hl with | [_],_=>rfl
  have m_rpiece:=PySem.W.mg_of X G a_rpiece
  have kp_rpiece:=F_rpiece.kp
  obtain ⟨f15,_,a_kcl,F_kcl⟩:=d15.ok
  have b_kcl:=F_kcl.binds (ps:=jHq) λ _ _ _ _ _ _ us hl=>match us,hl with | [_,_],_=>rfl
  have m_kcl:=PySem.W.mg_of X G a_kcl
  have kp_kcl:=F_kcl.kp
  obtain ⟨f16,_,a_wayc,F_wayc⟩:=d16.ok
  have b_wayc:=F_wayc.binds (ps:=hBq) λ _ _ _ _ _ _ us hl=>match us,hl with | [_],_=>rfl
  have m_wayc:=PySem.W.mg_of X G a_wayc
  have kp_wayc:=F_wayc.kp
  obtain ⟨f17,_,a_pairc,F_pairc⟩:=d17.ok
  have b_pairc:=F_pairc.binds (ps:=gJq) λ _ _ _ _ _ _ us hl=>match us,hl with | [_],_=>rfl
  have m_pairc:=PySem.W.mg_of X G a_pairc
  have kp_pairc:=F_pairc.kp
  obtain ⟨f18,_,a_innp,F_innp⟩:=d18.ok
  have b_innp:=F_innp.binds (ps:=hSq) λ _ _ _ _ _ _ us hl=>match us,hl with | [_],_=>rfl
  have m_innp:=PySem.W.mg_of X G a_innp
  have kp_innp:=F_innp.kp
  obtain ⟨f19,_,a_winp,F_winp⟩:=d19.ok
  have b_winp:=F_winp.binds (ps:=h4q) λ _ _ _ _ _ _ us hl=>match us,hl with | [_,_],_=>rfl
  have m_winp:=PySem.W.mg_of X G a_winp
  have kp_winp:=F_winp.kp
  obtain ⟨f20,_,a_readp,F_readp⟩:=d20.ok
  have b_readp:=F_readp.binds (ps:=gPq) λ _ _ _ _ _ _ us hl=>match us,hl with | [_],_=>rfl
  have m_readp:=PySem.W.mg_of X G a_readp
  have kp_readp:=F_readp.kp
  obtain ⟨f21,_,a_kend,F_kend⟩:=d21.ok
  have b_kend:=F_kend.binds (ps:=h6q) λ _ _ _ _ _ _ us hl=>match us,hl with | [_,_],_=>rfl
  have m_kend:=PySem.W.mg_of X G a_kend
  have kp_kend:=F_kend.kp
  obtain ⟨f22,_,a_pcl,F_pcl⟩:=d22.ok
  have b_pcl:=F_pcl.binds (ps:=jOq) λ _ _ _ _ _ _ us hl=>match us,hl with | [_],_=>rfl
  have m_pcl:=PySem.W.mg_of X G a_pcl
  have kp_pcl:=F_pcl.kp
  obtain ⟨f23,_,a_inord,F_inord⟩:=d23.ok
  have b_inord:=F_inord.binds (ps:=g0q) λ _ _ _ _ _ _ us hl=>match us,hl with | [_],_=>rfl
  have m_inord:=PySem.W.mg_of X G a_inord
  have kp_inord:=F_inord.kp
  obtain ⟨f24,_,a_wino,F_wino⟩:=d24.ok
  have b_wino:=F_wino.binds (ps:=hNq) λ _ _ _ _ _ _ us hl=>match us,hl with | [_,_],_=>rfl
  have m_wino:=PySem.W.mg_of X G a_wino
  have kp_wino:=F_wino.kp
  obtain ⟨f25,_,a_feed,F_feed⟩:=d25.ok
  have b_feed:=F_feed.binds (ps:=hQq) λ _ _ _ _ _ _ us hl=>match us,hl with | [_,_],_=>rfl
  have m_feed:=PySem.W.mg_of X G a_feed
  have kp_feed:=F_feed.kp
  obtain ⟨f26,_,a_take,F_take⟩:=d26.ok
  have b_take:=F_take.binds (ps:=hEq) λ _ _ _ _ _ _ us hl=>match us,hl with | [_,_],_=>rfl
  have m_take:=PySem.W.mg_of X G a_take
  have kp_take:=F_take.kp
  obtain ⟨f27,_,a_lakind,F_lakind⟩:=d27.ok
  have b_lakind:=F_lakind.binds (ps:=f4q) λ _ _ _ _ _ _ us hl=>match us,hl with | [_,_],_=>rfl
  have m_lakind:=PySem.W.mg_of X G a_lakind
  have kp_lakind:=F_lakind.kp
  obtain ⟨f28,_,a_kind,F_kind⟩:=d28.ok
  have b_kind:=F_kind.binds (ps:=hPq) λ _ _ _ _ _ _ us hl=>match us,hl with | [_,_],_=>rfl
  have m_kind:=PySem.W.mg_of X G a_kind
  have kp_kind:=F_kind.kp
  obtain ⟨f29,_,a_shape,F_shape⟩:=d29.ok
  have b_shape:=F_shape.binds (ps:=gAq) λ _ _ _ _ _ _ us hl=>match us,hl with | [_,_,_],_=>rfl
  have m_shape:=PySem.W.mg_of X G a_shape
  have kp_shape:=F_shape.kp
  obtain ⟨f30,_,a_ktext,F_ktext⟩:=d30.ok
  have b_ktext:=F_ktext.binds (ps:=g9q) λ _ _ _ _ _ _ us hl=>match us,hl with | [_],_=>rfl
  have m_ktext:=PySem.W.mg_of X G a_ktext
  have kp_ktext:=F_ktext.kp
  obtain ⟨f31,_,a_text,F_text⟩:=d31.ok
  have b_text:=F_text.binds (ps:=hRq) λ _ _ _ _ _ _ us hl=>match us,hl with | [_],_=>rfl
  have m_text:=PySem.W.mg_of X G a_text
  have kp_text:=F_text.kp
  obtain ⟨f32,_,a_fit,F_fit⟩:=d32.ok
  have b_fit:=F_fit.binds (ps:=jSq) λ _ _ _ _ _ _ us hl=>match us,hl with | [_],_=>rfl
  have m_fit:=PySem.W.mg_of X G a_fit
  have kp_fit:=F_fit.kp
  obtain ⟨f33,_,a_plain,F_plain⟩:=d33.ok
  have b_plain:=F_plain.binds (ps:=gSq) λ _ _ _ _ _ _ us hl=>match us,hl with | [_],_=>rfl
  have m_plain:=PySem.W.mg_of X G a_plain
  have kp_plain:=F_plain.kp
  obtain ⟨f34,_,a_lsort,F_lsort⟩:=d34.ok
  have b_lsort:=F_lsort.binds (ps:=fTq) λ _ _ _ _ _ _ us hl=>match us,hl with | [_],_=>rfl
  have m_lsort:=PySem.W.mg_of X G a_lsort
  have kp_lsort:=F_lsort.kp
  obtain ⟨f35,_,a_turned,F_turned⟩:=d35.ok
  have b_turned:=F_turned.binds (ps:=f6q) λ _ _ _ _ _ _ us hl=>match us,hl with | [_,_],_=>rfl
  have m_turned:=PySem.W.mg_of X G a_turned
  have kp_turned:=F_turned.kp
  have B:Blt mg:=⟨PySem.W.mg_none_of X G z0,PySem.W.mg_none_of X G z1,PySem.W.mg_none_of X G z2,PySem.W.mg_none_of X G z3,PySem.W.mg_none_of X G z4,PySem.W.mg_none_of X G z5,PySem.W.mg_none_of X G z6,PySem.W.mg_none_of X G z7,PySem.W.mg_none_of X G z8,PySem.W.mg_none_of X G z9,PySem.W.mg_none_of X G z10,PySem.W.mg_none_of X G z11,PySem.W.mg_none_of X G z12,PySem.W.mg_none_of X G z13,PySem.W.mg_none_of X G z14⟩
  obtain ⟨f36,_,a_law,F_law⟩:=d36.ok
  cases hfa.symm.trans (PySem.W.mg_of X G a_law)
  obtain ⟨_,_,kV,dc,pm,an,cd,ct,_,rfl,l9,c9⟩:=F_law.ex
  refine ⟨PySem.W.fnOf "law" "law" (cUq hAq) (c2q hAq) (aDq hAq) .none kV dc pm an cd ct,λ s v=>.of_eq rfl,λ base _ _ =>?_⟩
  have m_ITEM:=PySem.W.mg_of X G ti0
  have m_END:=PySem.W.mg_of X G te0
  have m_MOST_FIGURES:=PySem.W.mg_of X G tm0
  have m_FIGURES:=PySem.W.mg_of X G tf0
  have m_SIGNS_kindtexts:=PySem.W.mg_of X G ts0
  have m_SIGNS_papertexts:=PySem.W.mg_of X G tp0
  have m_INNER_PAPERS:=PySem.W.mg_of X G aI0
  have m_PAPER_OF_SIGN:=PySem.W.mg_of X G aS0
  have m_NO_INNER_PAPERS:=PySem.W.mg_of X G aN0
  have T_INNER_PAPERS:KTabD K w aI ipT:=qAq aI1 aI2 aI3 aI4 (λ _=>rfl) ipP
  have T_PAPER_OF_SIGN:KTabD K w aS psT:=qAq (L:=psL) aS1 aS2 aS3 aS4 (λ _=>rfl) (.cons ⟨rfl,λ _=>⟨sA,_,rfl,qEq sA1 sA2 sA3,eAq ["whole"]⟩⟩ (.cons ⟨rfl,λ _=>⟨sB,_,rfl,qEq sB1 sB2 sB3,eAq ["some"]⟩⟩ .nil))
  have t_NO_INNER_PAPERS:∀ H,Abs K H (.tup [.str "name", .str "hole"]) (.ref aN):=λ _=>⟨aN,_,rfl,qEq aN1 aN2 aN3,eAq ["name", "hole"]⟩
  have g_isw:Got l.prog w K mg base 1 "is_whole_number" jTq (aRq K l4q):=⟨_,_,aF5q B F_isw,m_isw,kp_isw,b_isw⟩
  have g_haw:Got l.prog w K mg base 1 "has_answer_word" k8q (aRq K vYq):=⟨_,_,aI1q B F_haw,m_haw,kp_haw,b_haw⟩
  have g_hkf:Got l.prog w K mg base 2 "has_kind_form" jJq (aRq K v6q):=⟨_,_,aB0q B g_isw g_haw F_hkf,m_hkf,kp_hkf,b_hkf⟩
  have g_innk:Got l.prog w K mg base 1 "inner_kinds" hMq (aRq K q8q):=⟨_,_,xHq B F_innk,m_innk,kp_innk,b_innk⟩
  have g_flatG:Got l.prog w K mg base 1 "flat" eYq (aRq K l2q):=⟨_,_,nZq B m_ITEM m_END F_flat,m_flat,kp_flat,b_flat⟩
  have g_flat:Got l.prog w K mg base 1 "flat" eYq (aRq K qLq):=⟨_,_,(nZq B m_ITEM m_END F_flat).imp (tJq t8q),m_flat,kp_flat,b_flat⟩
  have g_sorted:Got l.prog w K mg base 2 "is_sorted" f2q (aRq K hXq):=⟨_,_,pFq B g_flat F_sorted,m_sorted,kp_sorted,b_sorted⟩
  have g_iskind:Got l.prog w K mg base 3 "is_kind" f8q (aRq K iNq):=⟨_,_,p3q B g_hkf g_innk g_sorted F_iskind,m_iskind,kp_iskind,b_iskind⟩
  have g_madeof:Got l.prog w K mg base 1 "made_of" f3q (aRq K j2q):=⟨_,_,qHq B F_madeof,m_madeof,kp_madeof,b_madeof⟩
  have g_iswt:Got l.prog w K mg base 2 "is_whole_text" h7q (aRq K iFq):=⟨_,_,x6q B m_FIGURES g_madeof F_iswt,m_iswt,kp_iswt,b_iswt⟩
  have g_pieces:Got l.prog w K mg base 1 "pieces_of" d7q (aRq K mGq):=⟨_,_,k7q yKq B F_pieces,m_pieces,kp_pieces,b_pieces⟩
  have g_piecesP:Got l.prog w K mg base 1 "pieces_of" d7q (aRq K jWq):=⟨_,_,k7q x3q B F_pieces,m_pieces,kp_pieces,b_pieces⟩
  have g_rpiece:Got l.prog w K mg base 3 "read_piece" fAq (aRq K kNq):=⟨_,_,rAq B m_MOST_FIGURES g_iswt F_rpiece,m_rpiece,kp_rpiece,b_rpiece⟩
  have g_wayc:Got l.prog w K mg base 1 "way_closed" hBq (aRq K r9q):=⟨_,_,xFq B F_wayc,m_wayc,kp_wayc,b_wayc⟩
  have g_pairc:Got l.prog w K mg base 1 "pair_closed" gJq (aRq K kIq):=⟨_,_,rYq B F_pairc,m_pairc,kp_pairc,b_pairc⟩
  have g_kcl:Got l.prog w K mg base 2 "kind_closed" jHq (aRq K x8q):=⟨_,_,yCq g_wayc g_pairc F_kcl,m_kcl,kp_kcl,b_kcl⟩
  have g_read:Got l.prog w K mg base 4 "read_kind" h8q (aRq K l1q):=⟨_,_,xAq B m_SIGNS_kindtexts g_pieces g_kcl g_rpiece g_iskind F_read,m_read,kp_read,b_read⟩
  have g_kend:Got l.prog w K mg base 1 "kind_end" h6q (aRq K pXq):=⟨_,_,xXq B F_kend,m_kend,kp_kend,b_kend⟩
  have g_pcl:Got l.prog w K mg base 1 "paper_closed" jOq (aRq K wUq):=⟨_,_,aB4q B m_INNER_PAPERS T_INNER_PAPERS F_pcl,m_pcl,kp_pcl,b_pcl⟩
  have g_readp:Got l.prog w K mg base 5 "read_paper" gPq (aRq K kZq):=⟨_,_,tOq B m_SIGNS_papertexts m_PAPER_OF_SIGN T_PAPER_OF_SIGN g_piecesP g_kend g_pcl g_read F_readp,m_readp,kp_readp,b_readp⟩
  obtain ⟨qf,m_flatv,K_flat⟩:=g_flatG.fnV
  have g_fsort:Got l.prog w K mg base 3 "flat_sorted" gLq (aRq K l0q):=⟨_,_,s2q B m_flatv K_flat F_fsort,m_fsort,kp_fsort,b_fsort⟩
  have g_winp:Got l.prog w K mg base 1 "with_inner_papers" h4q (aRq K pEq):=⟨_,_,y5q B m_NO_INNER_PAPERS t_NO_INNER_PAPERS F_winp,m_winp,kp_winp,b_winp⟩
  have g_wino:Got l.prog w K mg base 4 "with_inners_in_order" hNq (aRq K n0q):=⟨_,_,wAq B g_winp g_fsort F_wino,m_wino,kp_wino,b_wino⟩
  obtain ⟨fw,m_winov,G_wino⟩:=g_wino.fnV
  have g_innp:Got l.prog w K mg base 4 "inner_papers" hSq (aRq K (q4q (Subtype.val:Ppr->D) nHq)):=⟨_,_,t6q (k0:=3) m_NO_INNER_PAPERS t_NO_INNER_PAPERS F_innp,m_innp,kp_innp,b_innp⟩
  obtain ⟨fq,m_innpv,G_innp⟩:=g_innp.fnV
  have g_walked:Got l.prog w K mg base 5 "walked" f7q (aRq K (iUq l.prog w K mg base 4)):=⟨_,_,r5q B F_walked,m_walked,kp_walked,b_walked⟩
  have g_folded:Got l.prog w K mg base 6 "folded" eZq (aRq K (fWq l.prog w K mg base 4)):=⟨_,_,oZq B g_walked F_folded,m_folded,kp_folded,b_folded⟩
  have g_inord:Got l.prog w K mg base 7 "in_order" g0q (aRq K lIq):=⟨_,_,tQq m_innpv G_innp m_winov G_wino g_folded F_inord,m_inord,kp_inord,b_inord⟩
  have g_feed:Got l.prog w K mg base 1 "_law_feed" hQq (aRq K jDq):=⟨_,_,w2q B F_feed,m_feed,kp_feed,b_feed⟩
  have g_take:Got l.prog w K mg base 1 "_law_take" hEq (aRq K eCq):=⟨_,_,vFq F_take,m_take,kp_take,b_take⟩
  have g_lakind:∀ n:Nat,Got l.prog w K mg base (n+2) "_law_answer_kind" f4q (aRq K (jQq n)):=λ n=>by
    induction n with
    | zero=>exact ⟨f27,_,oHq,m_lakind,kp_lakind,b_lakind⟩
    | succ n ih=>exact ⟨f27,_,oJq B g_take ih F_lakind,m_lakind,kp_lakind,b_lakind⟩
  have g_kind:∀ n:Nat,Got l.prog w K mg base (n+7) "_law_kind" hPq (aRq K (spKe n)):=λ n=>by
    induction n with
    | zero=>exact ⟨f28,_,y0q,m_kind,kp_kind,b_kind⟩
    | succ n ih=>exact ⟨f28,_,wFq B g_take (g_lakind 4) ih F_kind,m_kind,kp_kind,b_kind⟩
  have g_shape:∀ n:Nat,Got l.prog w K mg base (n+12) "_law_shape" gAq (aRq K (fPq n)):=λ n=>by
    induction n with
    | zero=>exact ⟨f29,_,s8q,m_shape,kp_shape,b_shape⟩
    | succ n ih=>exact ⟨f29,_,sZq B g_take (g_kind 4) ih F_shape,m_shape,kp_shape,b_shape⟩
  have g_ktext:∀ n:Nat,Got l.prog w K mg base (n+1) "_law_kind_text" g9q (aRq K (gHq n)):=λ n=>by
    induction n with
    | zero=>exact ⟨f30,_,sIq,m_ktext,kp_ktext,b_ktext⟩
    | succ n ih=>exact ⟨f30,_,s3q B ih F_ktext,m_ktext,kp_ktext,b_ktext⟩
  have g_text:∀ n:Nat,Got l.prog w K mg base (n+2) "_law_text" hRq (aRq K (eTq n)):=λ n=>by
    induction n with
    | zero=>exact ⟨f31,_,w9q,m_text,kp_text,b_text⟩
    | succ n ih=>exact ⟨f31,_,vWq B (g_ktext n) ih F_text,m_text,kp_text,b_text⟩
  have g_fit:Got l.prog w K mg base 104 "_law_fit" jSq (aRq K wLq):=⟨_,_,zKq B (g_text 101) F_fit,m_fit,kp_fit,b_fit⟩
  have g_plain:∀ n:Nat,Got l.prog w K mg base (n+1) "_law_plain" gSq (aRq K (dTq n)):=λ n=>by
    induction n with
    | zero=>exact ⟨f33,_,sQq,m_plain,kp_plain,b_plain⟩
    | succ n ih=>exact ⟨f33,_,tCq B ih F_plain,m_plain,kp_plain,b_plain⟩
  have g_lsort:∀ n:Nat,Got l.prog w K mg base (n+1) "_law_sorted" fTq (aRq K (g6q n)):=λ n=>by
    induction n with
    | zero=>exact ⟨f34,_,tHq,m_lsort,kp_lsort,b_lsort⟩
    | succ n ih=>exact ⟨f34,_,sUq B ih F_lsort,m_lsort,kp_lsort,b_lsort⟩
  have g_turned:∀ n:Nat,Got l.prog w K mg base (n+2) "_law_turned" f6q (aRq K (e0q n)):=λ n=>by
    induction n with
    | zero=>exact ⟨f35,_,qSq,m_turned,kp_turned,b_turned⟩
    | succ n ih=>exact ⟨f35,_,oGq B g_take ih F_turned,m_turned,kp_turned,b_turned⟩
  exact yXq B g_feed g_take (g_shape 15) g_fit (g_text 101) g_readp (g_plain 101) (g_turned 101) (g_lsort 101) g_inord F_law
theorem walk {l:PySem.W.OpenLaw} {q:Program} {loose:List Str} {XP:(Str->Option Value)->Heap->Prop} {YP:World->Heap->Prop} {d:DefRec} {K:Params->PySem.W.Frag} (hn:l.most=some 63) (hdf:d.params.defaults=[])
    (hY:∀ (w:World) (h:Heap),YP w h->(K w.params).In h)
    (F:∀ (w:World) (mg:Str->Option Value) (fa:Addr) (h:Heap),(K w.params).In h->h.Ns mainGlobals mg->mg d.name=some (.ref fa) →
      ∃ fd:FuncData,(∀ (s:Shared) (u:Value),BindsTo s fd ⟨[u],[]⟩ [("_law_script", u)])/\∀ base:Heap,(K w.params).In base->base.Ns mainGlobals mg->FnOk l.prog w (K w.params) mg base CX0 120 fa fd ["_law_script"] (m6q (K w.params))) :
    PySem.W.WalkO q loose XP YP l.row.toRowW d [] (λ f vs=>PySem.call f vs):=
  L2.xIq (n:=63) (k:=120) (x:="_law_script") (CX:=λ _=>CX0) (sp:=λ w=>m6q (K w.params)) hn (by decide) hdf ⟨rfl,by decide,by decide⟩ hY F (λ _ _ a ns hl o hS=>aG2q hl o hS) λ _ _ _ _ _ z=>z
end KB
def PySem.W.Fast.tw14736211328165712696:=0
def PySem.W.Fast.tw3261071647462336401:=0
def PySem.W.Fast.tw14823422400620202269:=0
def PySem.W.Fast.tw16906415928138364528:=0
def PySem.W.Fast.tw894788637437693402:=0
def PySem.W.Fast.tw5948927145935797571:=0
def PySem.W.Fast.tw4665474602385785813:=0
def PySem.W.Fast.tw2817419728471610127:=0
def PySem.W.Fast.tw9705182987272288221:=0
def PySem.W.Fast.tw13972063659494201991:=0
def PySem.W.Fast.tw636703707910481171:=0
def PySem.W.Fast.tw3027235773515532968:=0
def PySem.W.Fast.tw18337754580998001085:=0
def PySem.W.Fast.tw6198061957220142679:=0
def PySem.W.Fast.tw8151645355425149640:=0
def PySem.W.Fast.tw12416106582042697773:=0
def PySem.W.Fast.tw12637518287519517395:=0
def PySem.W.Fast.tw13281079571383593012:=0
def PySem.W.Fast.tw10393861930890770385:=0
def PySem.W.Fast.tw15078791367525641607:=0
def PySem.W.Fast.tw7981626550699730712:=0
def PySem.W.Fast.tw3719020541721357345:=0
def PySem.W.Fast.tw2745481832820014366:=0
def PySem.W.Fast.tw4127893197464077795:=0
def PySem.W.Fast.tw9661890537241700188:=0
def PySem.W.Fast.tw16642479253213166154:=0
def PySem.W.Fast.tw2103330251376425224:=0
def PySem.W.Fast.tw16574269917524063474:=0
def PySem.W.Fast.tw14980840285469267145:=0
def PySem.W.Fast.tw3945651775676500392:=0
def PySem.W.Fast.tw3056815705461795803:=0
def PySem.W.Fast.tw570491790594064458:=0
def PySem.W.Fast.tw18389447754937272622:=0
def PySem.W.Fast.tw13005011831456880501:=0
def PySem.W.Fast.tw14008648450662253281:=0
def PySem.W.Fast.tw13887432576269813258:=0
def PySem.W.Fast.tw6444124273774365384:=0
def PySem.W.Fast.tw1213026412042543336:=0
def PySem.W.Fast.tw1488823255623936516:=0
def PySem.W.Fast.tw11334028937047629997:=0
def PySem.W.Fast.tw5523638598960201568:=0
def PySem.W.Fast.tw14929708861914971819:=0
def PySem.W.Fast.tw13998797833209515004:=0
def PySem.W.Fast.tw17250973925590407191:=0
def PySem.W.Fast.tw4609941211017333653:=0
def PySem.W.Fast.tw3740982267207433446:=0
def PySem.W.Fast.tw13386398228128853676:=0
def PySem.W.Fast.tw16835632664862100828:=0
def PySem.W.Fast.tw11246390458754118497:=0
def PySem.W.Fast.tw7402256242075430139:=0
def PySem.W.Fast.tw17636338371715121525:=0
def PySem.W.Fast.tw11345191397083731969:=0
def PySem.W.Fast.tw8327109464276661055:=0
def PySem.W.Fast.tw11763632693504186540:=0
def PySem.W.Fast.tw4561486541477265211:=0
def PySem.W.Fast.tw13134528949048837014:=0
def PySem.W.Fast.tw11416153633428628914:=0
def PySem.W.Fast.tw18267683899962908374:=0
def PySem.W.Fast.tw4083944259197463635:=0
def PySem.W.Fast.tw13699567344041173603:=0
open PySem PySem.W PyProof.Rows
set_option maxRecDepth 100000 in
set_option maxHeartbeats 0 in
theorem PySem.Challenge.cw_kindbags_k39_papers_in_order_holds : PySem.Challenge.rw_kindbags_k39_papers_in_order.Holds := by
  w_on; o_law; k_head; (case hw => w_witness2)
  k_fill
  refine KB.walk (l := PySem.Challenge.rw_kindbags_k39_papers_in_order) rfl rfl (fun w h Y => PySem.W.kIn_of Y) ?F
  case F =>
    intro w mg fa h KX G hmg
    refine' KB.zLq KX G hmg ?_ ?_ ?_ ?_ ?_ ?_ ?_ ?_ ?_ ?_ ?_ ?_ ?_ ?_ ?_ ?_ ?_ ?_ ?_ ?_ ?_ ?_ ?_ ?_ ?_ ?_ ?_ ?_ ?_ ?_ ?_ ?_ ?_ ?_ ?_ ?_ ?_ ?_ ?_ ?_ ?_ ?_ ?_ ?_ ?_ ?_ ?_ ?_ ?_ ?_ ?_ ?_ ?ti0 ?te0 ?tm0 ?tf0 ?ts0 ?tp0 ?aI0 ?aI1 ?aI2 ?aI3 ?aI4 ?aS0 ?aS1 ?aS2 ?aS3 ?aS4 ?sA1 ?sA2 ?sA3 ?sB1 ?sB2 ?sB3 ?aN0 ?aN1 ?aN2 ?aN3
    (case ti0 => k_is)
    (case te0 => k_is)
    (case tm0 => k_is)
    (case tf0 => k_is)
    (case ts0 => k_is)
    (case tp0 => k_is)
    (case aI0 => k_is)
    (case aI1 => k_is)
    (case aI2 => rfl)
    (case aI3 => exact ⟨⟨_, _, rfl, rfl⟩, ⟨_, _, rfl, rfl⟩, ⟨_, _, rfl, rfl⟩, ⟨_, _, rfl, rfl⟩, ⟨_, _, rfl, rfl⟩, ⟨_, _, rfl, rfl⟩, ⟨_, _, rfl, rfl⟩, ⟨_, _, rfl, rfl⟩, ⟨_, _, rfl, rfl⟩, ⟨_, _, rfl, rfl⟩, trivial⟩)
    (case aI4 => exact .cons ⟨⟨_, rfl⟩, ⟨_, rfl⟩⟩ (.cons ⟨⟨_, rfl⟩, ⟨_, rfl⟩⟩ (.cons ⟨⟨_, rfl⟩, ⟨_, rfl⟩⟩ (.cons ⟨⟨_, rfl⟩, ⟨_, rfl⟩⟩ (.cons ⟨⟨_, rfl⟩, ⟨_, rfl⟩⟩ (.cons ⟨⟨_, rfl⟩, ⟨_, rfl⟩⟩ (.cons ⟨⟨_, rfl⟩, ⟨_, rfl⟩⟩ (.cons ⟨⟨_, rfl⟩, ⟨_, rfl⟩⟩ (.cons ⟨⟨_, rfl⟩, ⟨_, rfl⟩⟩ (.cons ⟨⟨_, rfl⟩, ⟨_, rfl⟩⟩ (.nil)))))))))))
    (case aS0 => k_is)
    (case aS1 => k_is)
    (case aS2 => rfl)
    (case aS3 => exact ⟨⟨_, _, rfl, rfl⟩, ⟨_, _, rfl, rfl⟩, trivial⟩)
    (case aS4 => exact .cons ⟨⟨_, rfl⟩, rfl⟩ (.cons ⟨⟨_, rfl⟩, rfl⟩ (.nil)))
    (case sA1 => k_is)
    (case sA2 => rfl)
    (case sA3 => exact .cons ⟨_, rfl⟩ (.nil))
    (case sB1 => k_is)
    (case sB2 => rfl)
    (case sB3 => exact .cons ⟨_, rfl⟩ (.nil))
    (case aN0 => k_is)
    (case aN1 => k_is)
    (case aN2 => rfl)
    (case aN3 => exact .cons ⟨_, rfl⟩ (.cons ⟨_, rfl⟩ (.nil)))
    all_goals first | k_is | (refine' L3.DT.mk ?_ ?_ ?_ ?_ <;> try k_is) | (refine' L3.DM.mk ?_ ?_ ?_ ?_ ?_ <;> try k_is) | (refine' L3.DTc.mk ?_ ?_ ?_ ?_ <;> try k_is) | (refine' L3.DMc.mk ?_ ?_ ?_ ?_ ?_ <;> try k_is) | skip
