import PyProof.Rows.All
import Wide.All
import OpenK.AllK
import Wide.FinOn
import Lean
import PyProof.EqAt
import PyProof.EqKinds
import PyProof.TupleCall
import PySem.Challenge.RW_kindbags_k13_whole_written_and_read
set_option Elab.async false
set_option linter.all false
set_option maxRecDepth 100000
namespace L2
open PySem PySem.Spec PyProof.Rows
abbrev Key:=Sum Int Str
def kSq:Key->Value->Bool
  | .inl k,v=>Value.isInt k v
  | .inr x,v=>Value.isStrOf x v
def keyH (w:World):Key->Int
  | .inl k=>hashInt k
  | .inr x=>hashStr w x
theorem aVq:∀ {k:Key} {v:Value},kSq k v=true->(∃ i t,k=Sum.inl i/\v=Value.int i t)\/(∃ x t,k=Sum.inr x/\v=Value.str x t)
  | .inl i,v,h=>by
    obtain ⟨t,e⟩:=Value.isInt_shape (k:=i) (v:=v) h
    exact .inl ⟨i,t,rfl,e⟩
  | .inr x,v,h=>by
    obtain ⟨t,e⟩:=Value.isStrOf_shape (x:=x) (v:=v) h
    exact .inr ⟨x,t,rfl,e⟩
theorem nNq (i:Int) (t:Tok):kSq (.inl i) (.int i t)=true:=by simp [kSq,Value.isInt]
theorem mQq (x:Str) (t:Tok):kSq (.inr x) (.str x t)=true:=by simp [kSq,Value.isStrOf]
theorem xEq (a b:Int):decide ((Sum.inl a:Key)=Sum.inl b)=(a==b):=by
  by_cases e:a=b
  . subst e;simp
  . have h:¬ (Sum.inl a:Key)=Sum.inl b:=λ q=>e (Sum.inl.inj q)
    rw [decide_eq_false h]
    exact (beq_eq_false_iff_ne.mpr e).symm
theorem wMq (a b:Str):decide ((Sum.inr a:Key)=Sum.inr b)=decide (a=b):=by
  by_cases e:a=b
  . subst e;simp
  . have h:¬ (Sum.inr a:Key)=Sum.inr b:=λ q=>e (Sum.inr.inj q)
    rw [decide_eq_false h,decide_eq_false e]
theorem vOq (a:Int) (b:Str):decide ((Sum.inl a:Key)=Sum.inr b)=false:=decide_eq_false (λ q=>nomatch q)
theorem w6q (a:Str) (b:Int):decide ((Sum.inr a:Key)=Sum.inl b)=false:=decide_eq_false (λ q=>nomatch q)
def aZq (prog:Program) (w:World):PySem.KeyKind prog w Key where
  is:=kSq
  hash:=keyH w
  inj:=λ v a b ha hb=>by
    rcases aVq ha with ⟨i,t,rfl,rfl⟩ | ⟨x,t,rfl,rfl⟩
    . rcases aVq hb with ⟨j,u,rfl,e⟩ | ⟨y,u,rfl,e⟩
      . injection e with e1 _;rw [e1]
      . exact nomatch e
    . rcases aVq hb with ⟨j,u,rfl,e⟩ | ⟨y,u,rfl,e⟩
      . exact nomatch e
      . injection e with e1 _;rw [e1]
  byValue:=λ k v h=>by
    rcases aVq h with ⟨i,t,rfl,rfl⟩ | ⟨x,t,rfl,rfl⟩<;>rfl
  pyHash:=λ hv h=>by
    rcases aVq hv with ⟨i,t,rfl,rfl⟩ | ⟨x,t,rfl,rfl⟩
    . exact wpAny_pyHash_int h
    . exact wpAny_pyHash_str h
  eqBool:=λ hu hv h=>by
    rcases aVq hu with ⟨i,t,rfl,rfl⟩ | ⟨x,t,rfl,rfl⟩
    . rcases aVq hv with ⟨j,u,rfl,rfl⟩ | ⟨y,u,rfl,rfl⟩
      . rw [xEq] at h;exact wpAny_eqBool_int h
      . rw [vOq] at h;exact SeqAt.EqAt.int_str i t y u _ _ _ _ h
    . rcases aVq hv with ⟨j,u,rfl,rfl⟩ | ⟨y,u,rfl,rfl⟩
      . rw [w6q] at h;exact SeqAt.EqAt.str_int x t j u _ _ _ _ h
      . rw [wMq] at h;exact wpAny_eqBool_str h
  «strs»:=λ k x t v h=>by
    rcases aVq h with ⟨i,u,rfl,e⟩ | ⟨y,u,rfl,e⟩
    . exact nomatch e
    . injection e with e1 _
      subst e1
      cases v<;>rfl
theorem jCq (prog:Program) (w:World) (i:Int) (t:Tok):(aZq prog w).is (.inl i) (.int i t)=true:=nNq i t
theorem iVq (prog:Program) (w:World) (x:Str) (t:Tok):(aZq prog w).is (.inr x) (.str x t)=true:=mQq x t
inductive V where
  | non | bl (b:Bool) | int (i:Int) | str (x:Str) | byt (b:Array UInt8) | flt (b:UInt64) | ref (a:Addr) | ty (n:String)
  deriving DecidableEq
def RelV:V->Value->Prop
  | .non,u=>u=Value.none
  | .bl b,u=>u=Value.bool b
  | .int i,u=>∃ t,u=Value.int i t
  | .str x,u=>∃ t,u=Value.str x t
  | .byt b,u=>∃ t,u=Value.bytes b t
  | .flt b,u=>∃ t,u=Value.float b t
  | .ref a,u=>u=Value.ref a
  | .ty n,u=>u=Value.type n
abbrev Vals:List V->List Value->Prop:=Paired RelV
theorem Vals.length {xs:List V} {us:List Value} (r:Vals xs us):xs.length=us.length:=Paired.length r
theorem Vals.get:∀ {xs:List V} {us:List Value} {i:Nat} {x:V},Vals xs us->xs[i]?=some x->∃ u,us[i]?=some u/\RelV x u
  | _,_,_,_,.nil,e=>by simp at e
  | _,_,0,_,.cons r _,e=>by simp at e;subst e;exact ⟨_,rfl,r⟩
  | _,_,i+1,x,.cons _ t,e=>by
    obtain ⟨u,h1,h2⟩:=Vals.get (i:=i) (x:=x) t (by simpa using e)
    exact ⟨u,by simpa using h1,h2⟩
theorem Vals.set {x:V} {u:Value} (r:RelV x u):∀ {xs:List V} {us:List Value} (i:Nat),Vals xs us->Vals (xs.set i x) (us.set i u)
  | _,_,_,.nil=>.nil
  | _,_,0,.cons _ t=>.cons r t
  | _,_,i+1,.cons q t=>.cons q (Vals.set r i t)
theorem Vals.append:∀ {xs ys:List V} {us ws:List Value},Vals xs us->Vals ys ws->Vals (xs++ys) (us++ws)
  | _,_,_,_,.nil,s=>s
  | _,_,_,_,.cons r t,s=>.cons r (Vals.append t s)
theorem Vals.take:∀ {xs:List V} {us:List Value} (n:Nat),Vals xs us->Vals (xs.take n) (us.take n)
  | _,_,0,_=>.nil
  | _,_,_+1,.nil=>.nil
  | _,_,n+1,.cons r t=>.cons r (Vals.take n t)
theorem Vals.drop:∀ {xs:List V} {us:List Value} (n:Nat),Vals xs us->Vals (xs.drop n) (us.drop n)
  | _,_,0,r=>r
  | _,_,_+1,.nil=>.nil
  | _,_,n+1,.cons _ t=>Vals.drop n t
def RelO:Option V->Option Value->Prop
  | some v,some u=>RelV v u
  | none,none=>True
  | _,_=>False
def KV {κ:Type}:List (κ × V)->List (κ × Value)->Prop:=Paired λ(p:κ × V) (q:κ × Value)=>p.1=q.1/\RelV p.2 q.2
def kV:Key->V
  | .inl i=>.int i
  | .inr x=>.str x
inductive HO where
  | lst (xs:List V)
  | tup (xs:List V)
  | dK (kvs:List (Key × V)) | dT (kvs:List (List Key × V))
  | set (S:Int->Bool) (n:Nat)
  | ins (C dx:Addr) (fs:List (Str × V))
  | own (x:Addr)
  | xd (fs:List (Str × V))
  | met (f x:Addr)
  | rng (lo hi:Int)
  | frz (o:Obj) (u:HO)
  | tbl (ps:Array Value)
  | ext (φ:Heap->Prop)
abbrev Hp:=Addr->Option HO
def upd (H:Hp) (a:Addr) (o:HO):Hp:=λ b=>if b=a then some o else H b
theorem aNq {H:Hp} {a:Addr} {o:HO}:upd H a o a=some o:=by unfold upd;rw [if_pos rfl]
theorem aHq {H:Hp} {a b:Addr} {o:HO} (h:b≠a):upd H a o b=H b:=by unfold upd;rw [if_neg h]
theorem aIq {H:Hp} {a b:Addr} {o:HO} (h:H a=some o) (h':H b=none):a≠b:=by
  intro e;subst e;rw [h] at h';cases h'
section
variable (P:Program) (w:World)
def ObjOk (H:Hp) (h:Heap) (a:Addr):HO->Prop
  | .lst xs=>xs.length<=sizeLine/\∃ (its:List Value) (n:Nat),Vals xs its/\h.get? a=some { cls:=.type "list", data:=.seq its.toArray n }
  | .tup xs=>xs.length<=sizeLine/\∃ its:List Value,Vals xs its/\IsTup h a its.toArray
  | .dK kvs=>kvs.length<=sizeLine/\(a==sysModules)=false/\∃ vs,KV kvs vs/\h.DictOf (aZq P w) a vs
  | .dT kvs=>kvs.length<=sizeLine/\(a==sysModules)=false/\∃ xs:List (List Key × Addr × Value),
      Paired (λ(p:List Key × V) (q:List Key × Addr × Value)=>p.1=q.1/\H q.2.1=some (.tup (p.1.map kV))/\RelV p.2 q.2.2) kvs xs ∧
      ∃ o es ep,h.get? a=some o/\o.ExactDict/\o.data=.dict es ep/\es.toList=xs.map (entryOfKey (tupleKind (aZq P w)))/\(xs.map (·.1)).Nodup
  | .set S n=>h.SetOf (intKind P w) a S n
  | .ins C dx fs=>H dx=some (.own a)/\fs.length<=1000/\dx≠a/\h.get? a=some (PySem.W.instObj C dx) ∧
      ∃ mA,h.Ns1 dx mA/\(∀ f,RelO (fs.lookup f) (mA f))/\PySem.Within mA (fs.map (·.1))
  | .own _=>∃ o,h.get? a=some o
  | .xd fs=>∃ mA,h.Ns1 a mA/\∀ f,RelO (fs.lookup f) (mA f)
  | .rng lo hi=>∃ t u v,h.get? a=some { cls:=.type "range", data:=.fields #[.int lo t,.int hi u,.int 1 v] }
  | .frz o u=>h.get? a=some o/\ObjOk H h a u
  | .tbl ps=>h.get? a=some { cls:=.none,data:=.fields ps }
  | .met f x=>h.get? a=some (PySem.W.methodObj (.ref f) (.ref x))
  | .ext φ=>φ h/\(∃ o,h.get? a=some o)/\∀ h1 h2:Heap,φ h1->(∀ o,h1.get? a=some o->h2.get? a=some o)->φ h2
def HOk (H:Hp) (h:Heap):Prop:=∀ a o,H a=some o->ObjOk P w H h a o
end
section
variable {P:Program} {w:World} {H H':Hp} {h h':Heap} {a:Addr} {o:HO}
theorem ObjOk.lt (x:ObjOk P w H h a o):a < h.objs.size:=by
  cases o with
  | lst xs=>obtain ⟨_,_,_,_,e⟩:=x;exact Heap.lt_size e
  | tup xs=>obtain ⟨_,_,_,p⟩:=x;exact p.lt
  | dK kvs=>obtain ⟨_,_,_,_,o,_,_,e,_⟩:=x;exact Heap.lt_size e
  | dT kvs=>obtain ⟨_,_,_,_,o,_,_,e,_⟩:=x;exact Heap.lt_size e
  | set S n=>obtain ⟨o,_,_,_,e,_⟩:=x;exact Heap.lt_size e
  | ins C dx fs=>obtain ⟨_,_,_,e,_⟩:=x;exact Heap.lt_size e
  | own y=>obtain ⟨_,e⟩:=x;exact Heap.lt_size e
  | xd fs=>obtain ⟨_,⟨_,_,_,e,_⟩,_⟩:=x;exact Heap.lt_size e
  | rng lo hi=>obtain ⟨_,_,_,e⟩:=x;exact Heap.lt_size e
  | frz ob u=>obtain ⟨e,_⟩:=x;exact Heap.lt_size e
  | tbl ps=>exact Heap.lt_size (show h.get? a=some _ from x)
  | met f y=>exact Heap.lt_size (show h.get? a=some _ from x)
  | ext φ=>obtain ⟨_,⟨_,e⟩,_⟩:=x;exact Heap.lt_size e
theorem Paired.mapP {α β:Type} {F G:α->β->Prop}:∀ {l₁:List α} {l₂:List β},Paired F l₁ l₂->(∀ a b,F a b->G a b)->Paired G l₁ l₂
  | _,_,.nil,_=>.nil
  | _,_,.cons r t,f=>.cons (f _ _ r) (Paired.mapP t f)
theorem ObjOk.stay (x:ObjOk P w H h a o) (k:∀ b u,(b=a\/H b=some (.own a))->h.get? b=some u->h'.get? b=some u)
    (ho:∀ b,H b=some (.own a)->H' b=some (.own a)) (ht:∀ b xs,H b=some (.tup xs)->H' b=some (.tup xs)):ObjOk P w H' h' a o:=by
  induction o with
  | lst xs=>obtain ⟨z,its,n,r,e⟩:=x;exact ⟨z,its,n,r,k _ _ (.inl rfl) e⟩
  | tup xs=>obtain ⟨z,its,r,ob,e,c⟩:=x;exact ⟨z,its,r,ob,k _ _ (.inl rfl) e,c⟩
  | dK kvs=>obtain ⟨z,y,vs,r,ob,es,ep,e,c⟩:=x;exact ⟨z,y,vs,r,ob,es,ep,k _ _ (.inl rfl) e,c⟩
  | dT kvs=>
    obtain ⟨z,y,xs,r,ob,es,ep,e,c⟩:=x
    exact ⟨z,y,xs,Paired.mapP r λ p q z=>⟨z.1,ht _ _ z.2.1,z.2.2⟩,ob,es,ep,k _ _ (.inl rfl) e,c⟩
  | set S n=>obtain ⟨ob,es,ep,t,e,c⟩:=x;exact ⟨ob,es,ep,t,k _ _ (.inl rfl) e,c⟩
  | ins C dx fs=>
    obtain ⟨d,z,ne,e,mA,⟨od,es,ep,e2,c⟩,r⟩:=x
    exact ⟨ho _ d,z,ne,k _ _ (.inl rfl) e,mA,⟨od,es,ep,k _ _ (.inr d) e2,c⟩,r⟩
  | own y=>obtain ⟨ob,e⟩:=x;exact ⟨ob,k _ _ (.inl rfl) e⟩
  | xd fs=>obtain ⟨mA,⟨od,es,ep,e,c⟩,r⟩:=x;exact ⟨mA,⟨od,es,ep,k _ _ (.inl rfl) e,c⟩,r⟩
  | rng lo hi=>obtain ⟨t,u,v,e⟩:=x;exact ⟨t,u,v,k _ _ (.inl rfl) e⟩
  | frz ob u ih=>obtain ⟨e,q⟩:=x;exact ⟨k _ _ (.inl rfl) e,ih q⟩
  | tbl ps=>
    have e:h.get? a=some { cls:=.none,data:=.fields ps }:=x
    show h'.get? a=some { cls:=.none,data:=.fields ps }
    exact k a _ (.inl rfl) e
  | met f y=>
    have e:h.get? a=some (PySem.W.methodObj (.ref f) (.ref y)):=x
    show h'.get? a=some (PySem.W.methodObj (.ref f) (.ref y))
    exact k a _ (.inl rfl) e
  | ext φ=>obtain ⟨p,⟨o,e⟩,st⟩:=x;exact ⟨st _ _ p λ o q=>k _ _ (.inl rfl) q,⟨o,k _ _ (.inl rfl) e⟩,st⟩
theorem HOk.lt (x:HOk P w H h) (e:H a=some o):a < h.objs.size:=(x a o e).lt
theorem HOk.fresh (x:HOk P w H h) (e:h.objs.size<=a):H a=none:=by
  cases q:H a with
  | none=>rfl
  | some u=>exact absurd (Nat.lt_of_lt_of_le (x.lt q) e) (Nat.lt_irrefl _)
theorem HOk.kept (x:HOk P w H h) (k:∀ b u,h.get? b=some u->h'.get? b=some u):HOk P w H h':=λ a o e=>
  (x a o e).stay (λ b u _ q=>k b u q) (λ _ q=>q) λ _ _ q=>q
theorem HOk.laid (x:HOk P w H h) (k:∀ b u,h.get? b=some u->h'.get? b=some u) (hp:h.objs.size<=a) (new:ObjOk P w (upd H a o) h' a o):HOk P w (upd H a o) h':=λ b u e=>by
  have hn:=x.fresh hp
  by_cases hb:b=a
  . subst hb;rw [aNq] at e;cases e;exact new
  . rw [aHq hb] at e
    exact (x b u e).stay (λ c v _ q=>k c v q) (λ c q=>by rw [aHq (aIq q hn)];exact q) λ c xs q=>by rw [aHq (aIq q hn)];exact q
end
def Rd (H:Hp) (a:Addr) (u:HO):Prop:=H a=some u\/∃ o,H a=some (.frz o u)
theorem Rd.ok {P:Program} {w:World} {H:Hp} {h:Heap} {a:Addr} {u:HO} (r:Rd H a u) (x:HOk P w H h):ObjOk P w H h a u:=by
  rcases r with r | ⟨o,r⟩
  . exact x a u r
  . obtain ⟨_,q⟩:=x a _ r
    exact q
def Mut:Option HO->Prop
  | some (.lst _)=>True
  | some (.dK _)=>True
  | some (.dT _)=>True
  | some (.set _ _)=>True
  | some (.ins _ _ _)=>True
  | some (.ext _)=>True
  | _=>False
section
variable {P:Program} {w:World} {H:Hp} {h h':Heap} {x e:Addr} {o':HO}
theorem HOk.write (ok:HOk P w H h) (mu:Mut (H x)) (he:e=x\/H e=some (.own x)) (k:∀ b u,b≠e->h.get? b=some u->h'.get? b=some u) (heo:∃ u,h'.get? e=some u)
    (new:ObjOk P w (upd H x o') h' x o'):HOk P w (upd H x o') h':=λ b u q=>by
  have nown:∀ c y,H c=some (.own y)->c≠x:=λ c y r z=>by subst z;rw [r] at mu;exact mu
  have ntup:∀ c xs,H c=some (.tup xs)->c≠x:=λ c xs r z=>by subst z;rw [r] at mu;exact mu
  by_cases hb:b=x
  . subst hb;rw [aNq] at q;cases q;exact new
  . rw [aHq hb] at q
    by_cases hbe:b=e
    . have q':H b=some (.own x):=by
        rcases he with z | z
        . exact absurd (hbe.trans z) hb
        . rw [hbe];exact z
      rw [q] at q';cases q'
      obtain ⟨v,hv⟩:=heo
      exact ⟨v,by rw [hbe];exact hv⟩
    . refine (ok b u q).stay (λ c v hc r=>k c v ?_ r) (λ c r=>by rw [aHq (nown c b r)];exact r) λ c xs r=>by rw [aHq (ntup c xs r)];exact r
      rcases hc with rfl | hc
      . exact hbe
      . rintro rfl
        rcases he with z | z
        . exact nown c b hc z
        . rw [hc] at z;cases z;exact hb rfl
end
structure Un (fs ex:List Addr) (H H':Hp) (h h':Heap):Prop where
  keep:∀ b o,h.get? b=some o->H b=none->b ∉ fs->b ∉ ex->h'.get? b=some o
  slot:∀ b o,h.get? b=some o->H b=none->b∈fs->b ∉ ex->∃ sl,h'.get? b=some { o with slots:=sl }
  free:∀ b o,h.get? b=some o->H b=none->b ∉ ex->H' b=none
  there:∀ b o,h.get? b=some o->b ∉ ex->∃ o',h'.get? b=some o'
  tups:∀ b xs,H b=some (.tup xs)->H' b=some (.tup xs)
  frzs:∀ b o u,H b=some (.frz o u)->H' b=some (.frz o u)
  tbls:∀ b ps,H b=some (.tbl ps)->∃ more,H' b=some (.tbl (ps++more))
section
variable {fs fs' ex ex':List Addr} {H H1 H2:Hp} {h h1 h2 h':Heap} {a x e:Addr} {o:HO}
theorem Un.any (u:Un fs ex H H1 h h1) {b:Addr} {ob:Obj} (q:h.get? b=some ob) (n:H b=none) (hx:b ∉ ex):∃ sl,h1.get? b=some { ob with slots:=sl }:=by
  by_cases hb:b∈fs
  . exact u.slot b ob q n hb hx
  . exact ⟨ob.slots,u.keep b ob q n hb hx⟩
theorem Un.kept (k:∀ b u,h.get? b=some u->h'.get? b=some u):Un fs ex H H h h':=
  ⟨λ b ob q _ _ _=>k b ob q,λ b ob q _ _ _=>⟨ob.slots,k b ob q⟩,λ _ _ _ n _=>n,λ b ob q _=>⟨ob,k b ob q⟩,λ _ _ q=>q,λ _ _ _ q=>q,λ _ ps q=>⟨#[],by rw [q];simp⟩⟩
theorem Un.refl:Un fs ex H H h h:=Un.kept λ _ _ q=>q
theorem Un.laid (k:∀ b u,h.get? b=some u->h'.get? b=some u) (hp:h.objs.size<=a) (hn:H a=none):Un fs ex H (upd H a o) h h' where
  keep:=λ b u q _ _ _=>k b u q
  slot:=λ b u q _ _ _=>⟨u.slots,k b u q⟩
  free:=λ b u q n _=>by rw [aHq (Nat.ne_of_lt (Nat.lt_of_lt_of_le (Heap.lt_size q) hp))];exact n
  there:=λ b u q _=>⟨u,k b u q⟩
  tups:=λ b xs q=>by rw [aHq (aIq q hn)];exact q
  frzs:=λ b u xs q=>by rw [aHq (aIq q hn)];exact q
  tbls:=λ b ps q=>⟨#[],by rw [aHq (aIq q hn),q];simp⟩
theorem Un.write (mu:Mut (H x)) (he:e=x\/H e=some (.own x)) (k:∀ b u,b≠e->h.get? b=some u->h'.get? b=some u) (heo:∃ u,h'.get? e=some u):Un fs ex H (upd H x o) h h':=by
  have hx:∀ b,H b=none->b≠x:=λ b n z=>by subst z;rw [n] at mu;exact mu
  have hb:∀ b,H b=none->b≠e:=λ b n z=>by
    subst z
    rcases he with r | r
    . exact hx b n r
    . rw [n] at r;cases r
  have hm:∀ b u,H b=some u->¬ Mut (some u)->b≠x:=λ b u q nm z=>by subst z;rw [q] at mu;exact nm mu
  refine ⟨λ b u q n _ _=>k b u (hb b n) q,λ b u q n _ _=>⟨u.slots,k b u (hb b n) q⟩,λ b u q n _=>by rw [aHq (hx b n)];exact n,λ b u q _=>?_,
    λ b xs q=>by rw [aHq (hm b _ q λ z=>z)];exact q,λ b u xs q=>by rw [aHq (hm b _ q λ z=>z)];exact q,λ b ps q=>⟨#[],by rw [aHq (hm b _ q λ z=>z),q];simp⟩⟩
  by_cases hbe:b=e
  . subst hbe;exact heo
  . exact ⟨u,k b u hbe q⟩
end
def trk (h:Heap) (H:Hp):List Addr:=(List.range h.objs.size).filter λ a=>(H a).isSome
def oWq (h:Heap) (H:Hp):Heap:=PySem.W.hideAll h (trk h H)
theorem nYq (h:Heap) (H:Hp):(oWq h H).objs.size=h.objs.size:=PySem.W.hideAll_size _ _
theorem pAq {h:Heap} {H:Hp} {b:Addr} {o:Obj} (e:h.get? b=some o) (n:H b=none):(oWq h H).get? b=some o:=
  PySem.W.hideAll_get _ e λ hm=>by
    have q:(H b).isSome=true:=(List.mem_filter.mp hm).2
    rw [n] at q;simp at q
theorem u7q {h:Heap} {H:Hp} {b:Addr} {o:Obj} (e:(oWq h H).get? b=some o):h.get? b=some o/\H b=none:=by
  have e':h.get? b=some o:=PySem.W.of_hideAll (trk h H) e
  refine ⟨e',?_⟩
  cases q:H b with
  | none=>rfl
  | some x=>
    have hm:b∈trk h H:=List.mem_filter.mpr ⟨List.mem_range.mpr (Heap.lt_size e'),by simp [q]⟩
    have z:(oWq h H).get? b=none:=PySem.W.hideAll_none (trk h H) hm
    rw [z] at e;cases e
structure Mod (K:PySem.W.Frag) (mg:Str->Option Value) (base:Heap):Prop where
  kin:K.In base
  glob:base.Ns mainGlobals mg
  blt:∃ mb,base.Ns builtinsNs mb/\∀ x:Str,x≠"__name__"->mb x=bootBuiltins x
  nolimit:base.NoLimit
structure Cx where
  prog:Program
  w:World
  K:PySem.W.Frag
  mg:Str->Option Value
  base:Heap
  A:Around
  N:List Str
  s₀:Shared
  H₀:Hp
  env:Env
  outer:List Env
  stack:List Env
  ex:List Addr
  fn:Str->Bool
  calm:Bool
  pn:List (Addr × Obj)
  xe:Value->Shared->Prop
def frs (l:List Env):List Addr:=l.filterMap (·.frame)
abbrev Cx.fs (X:Cx):List Addr:=frs X.outer
def Vis (sc:Scope) (x:Str):Prop:=sc.names.lookup x=some .local\/sc.names.lookup x=some .cell\/sc.names.lookup x=some .free
def Loc (sc:Scope) (x:Str):Prop:=sc.names.lookup x=some .local\/sc.names.lookup x=some .cell
def Look (env:Env) (h:Heap) (m:Str->Option Value) (x:Str) (u:Value):Prop:=
  (env.kindOf x=some .local/\m x=some u)\/((env.kindOf x=some .cell\/env.kindOf x=some .free)/\∃ c,env.cells.lookup x=some c/\h.IsCell c (some u))
structure Cx.Ok (X:Cx):Prop where
  mod:Mod X.K X.mg X.base
  kind:X.env.scope.kind=.function
  glob:X.env.globals=mainGlobals
  blt:X.env.builtins=builtinsNs
  above:X.s₀.heap.objs.size<=X.env.locals
  inj:∀ x y c,X.env.cells.lookup x=some c->X.env.cells.lookup y=some c->x=y
  has:∀ x,(X.env.kindOf x=some .cell\/X.env.kindOf x=some .free)->∃ c,X.env.cells.lookup x=some c
  cab:∀ x c,X.fn x=true->X.env.cells.lookup x=some c->X.s₀.heap.objs.size<=c
  hd:X.calm=true->X.A.handled=none
  frames:X.A.frames=some X.stack
  stk:X.stack=X.outer\/(X.stack=X.env::X.outer/\X.env.frame=some X.env.locals)
  exf:∀ b∈X.ex,b≠X.env.locals/\∀ x c,X.env.cells.lookup x=some c->c≠b
  bs:∀ b o,X.base.get? b=some o->X.s₀.heap.get? b=some o/\X.H₀ b=none
  bsz:X.base.objs.size<=X.s₀.heap.objs.size
  noex:∀ b o,X.base.get? b=some o->b ∉ X.ex
  exfs:∀ b∈X.ex,b ∉ X.fs
  funs:X.s₀.heap.FunFrames X.base X.outer
  frf:∀ b∈X.fs,X.H₀ b=none
structure Inv (X:Cx) (pins:List (Addr × Obj)) (σ:List (Option V)) (H:Hp) (s:Shared):Prop where
  ok:X.Ok
  os:s.os=X.s₀.os
  bare:AllBare s.gens
  base:Un X.fs X.ex X.H₀ H X.s₀.heap s.heap
  loc:∃ m,s.heap.Ns X.env.locals m/\∀ (i:Nat) (x:Str) (v:V),X.N[i]?=some x->σ[i]?=some (some v)->Vis X.env.scope x->∃ u,RelV v u/\Look X.env s.heap m x u
  cell:∀ x c,X.env.cells.lookup x=some c->∃ v,s.heap.IsCell c v
  free:H X.env.locals=none
  freeC:∀ x c,X.env.cells.lookup x=some c->H c=none
  pin:∀ p∈X.pn++pins,s.heap.get? p.1=some p.2/\H p.1=none/\p.1≠X.env.locals/\p.1 ∉ X.fs/\∀ v,p.2.data≠.cell v
  hok:HOk X.prog X.w H s.heap
  len:σ.length=X.N.length
section
variable {X:Cx} {pins:List (Addr × Obj)} {σ:List (Option V)} {H H':Hp} {s:Shared} {h':Heap}
theorem Cx.Ok.nofr (ok:X.Ok) {b:Addr} {o:Obj} (e:X.base.get? b=some o):b ∉ X.fs:=λ hb=>by
  have:=(ok.funs.mem hb).1
  rw [e] at this;cases this
theorem Inv.bs (I:Inv X pins σ H s):∀ b o,X.base.get? b=some o->s.heap.get? b=some o/\H b=none:=λ b o e=>
  ⟨I.base.keep b o (I.ok.bs b o e).1 (I.ok.bs b o e).2 (I.ok.nofr e) (I.ok.noex b o e),I.base.free b o (I.ok.bs b o e).1 (I.ok.bs b o e).2 (I.ok.noex b o e)⟩
theorem Inv.bk (I:Inv X pins σ H s):∀ b o,X.base.get? b=some o->s.heap.get? b=some o:=λ b o e=>(I.bs b o e).1
theorem Inv.mod (I:Inv X pins σ H s):Mod X.K X.mg X.base:=I.ok.mod
theorem Inv.kIn (I:Inv X pins σ H s):X.K.In s.heap:=I.ok.mod.kin.keeps I.bk
theorem Inv.lt (I:Inv X pins σ H s):X.env.locals < s.heap.objs.size:=let ⟨_,hn,_⟩:=I.loc;hn.lt
theorem Inv.sz (I:Inv X pins σ H s):X.s₀.heap.objs.size<=s.heap.objs.size:=Nat.le_trans I.ok.above (Nat.le_of_lt I.lt)
theorem Inv.nofs (I:Inv X pins σ H s) {a:Addr} (h:s.heap.objs.size<=a):a ∉ X.fs:=λ hb=>by
  obtain ⟨_,o,ho,_⟩:=I.ok.funs.mem hb
  exact absurd (Nat.lt_of_lt_of_le (Heap.lt_size ho) (Nat.le_trans I.sz h)) (Nat.lt_irrefl _)
theorem Inv.cne (I:Inv X pins σ H s):∀ x c,X.env.cells.lookup x=some c->c≠X.env.locals:=λ x c e z=>by
  obtain ⟨v,o,ho,hd⟩:=I.cell x c e
  obtain ⟨m,⟨o',es,ep,ho',hd',_⟩,_⟩:=I.loc
  rw [z,ho'] at ho;cases ho;rw [hd'] at hd;cases hd
theorem Inv.funs (I:Inv X pins σ H s):s.heap.FunFrames X.base X.outer:=by
  have all:∀ (l:List Env),(∀ b∈frs l,b∈X.fs)->X.s₀.heap.FunFrames X.base l->s.heap.FunFrames X.base l:=by
    intro l
    induction l with
    | nil=>intro _ _;trivial
    | cons env r ih=>
      intro hs hl
      obtain ⟨hk,⟨L,o,hf,hn,ho,hd⟩,hr⟩:=hl
      have hL:L∈X.fs:=hs L (by unfold frs;rw [List.filterMap_cons,hf];exact List.mem_cons_self)
      obtain ⟨sl,e⟩:=I.base.slot L o ho (I.ok.frf L hL) hL λ z=>I.ok.exfs L z hL
      exact ⟨hk,⟨L,_,hf,hn,e,hd⟩,ih (λ b hb=>hs b (by unfold frs;rw [List.filterMap_cons,hf];exact List.mem_cons_of_mem _ hb)) hr⟩
  exact all X.outer (λ _ hb=>hb) I.ok.funs
theorem Inv.stack (I:Inv X pins σ H s):s.heap.FunFrames X.base X.stack:=by
  rcases I.ok.stk with e | ⟨e,hf⟩
  . rw [e];exact I.funs
  . rw [e]
    obtain ⟨m,hn,_⟩:=I.loc
    refine .cons (by rw [I.ok.kind];decide) hf hn ?_ I.funs
    exact Heap.get?_none_of_le (Nat.le_trans I.ok.bsz I.ok.above)
theorem Inv.stkSub (I:Inv X pins σ H s):∀ b∈frs X.stack,b∈X.env.locals::X.fs:=λ b hb=>by
  rcases I.ok.stk with e | ⟨e,hf⟩
  . rw [e] at hb;exact List.mem_cons_of_mem _ hb
  . rw [e] at hb
    unfold frs at hb
    rw [List.filterMap_cons,hf] at hb
    exact hb
theorem Inv.stkFree (I:Inv X pins σ H s):∀ b∈frs X.stack,H b=none:=λ b hb=>by
  rcases List.mem_cons.mp (I.stkSub b hb) with e | hb
  . rw [e];exact I.free
  . obtain ⟨_,o,ho,_⟩:=I.ok.funs.mem hb
    exact I.base.free b o ho (I.ok.frf b hb) λ z=>I.ok.exfs b z hb
theorem Inv.step {g':Array GenState} {t':Nat} {d':Drawn} {ch:List Addr} (I:Inv X pins σ H s)
    (hch:∀ b∈ch,(b∈X.ex\/X.s₀.heap.objs.size<=b)/\b≠X.env.locals/\(∀ x c,X.env.cells.lookup x=some c->c≠b)/\∀ p∈X.pn++pins,p.1≠b)
    (keep:∀ b o,b≠X.env.locals->b ∉ X.fs->b ∉ ch->s.heap.get? b=some o->H b=none->h'.get? b=some o)
    (slot:∀ b o,b≠X.env.locals->b∈X.fs->b ∉ ch->s.heap.get? b=some o->H b=none->∃ sl,h'.get? b=some { o with slots:=sl }) (free:∀ b o,b ∉ ch->s.heap.get? b=some o->H b=none->H' b=none)
    (there:∀ b o,b ∉ ch->s.heap.get? b=some o->∃ o',h'.get? b=some o')
    (tups:∀ b xs,H b=some (.tup xs)->H' b=some (.tup xs)) (frzs:∀ b o u,H b=some (.frz o u)->H' b=some (.frz o u)) (tbls:∀ b ps,H b=some (.tbl ps)->∃ more,H' b=some (.tbl (ps++more)))
    (ns:∀ m,s.heap.Ns X.env.locals m->h'.Ns X.env.locals m) (hok:HOk X.prog X.w H' h') (hg:AllBare g') :
    Inv X pins σ H' { s with heap:=h',gens:=g',drawn:=d',toks:=t' }:=by
  have neL:∀ b o,X.s₀.heap.get? b=some o->b≠X.env.locals:=λ b o e=>Nat.ne_of_lt (Nat.lt_of_lt_of_le (Heap.lt_size e) I.ok.above)
  have neC:∀ b o,X.s₀.heap.get? b=some o->b ∉ X.ex->b ∉ ch:=λ b o e hx hb=>by
    rcases (hch b hb).1 with z | z
    . exact hx z
    . exact absurd (Nat.lt_of_lt_of_le (Heap.lt_size e) z) (Nat.lt_irrefl _)
  have cellK:∀ x c,X.env.cells.lookup x=some c->∀ v,s.heap.IsCell c v->h'.IsCell c v:=λ x c e v ⟨o,ho,hd⟩=>by
    have nch:c ∉ ch:=λ z=>(hch c z).2.2.1 x c e rfl
    by_cases hc:c∈X.fs
    . obtain ⟨sl,q⟩:=slot c o (I.cne x c e) hc nch ho (I.freeC x c e)
      exact ⟨_,q,hd⟩
    . exact ⟨o,keep c o (I.cne x c e) hc nch ho (I.freeC x c e),hd⟩
  refine ⟨I.ok,I.os,hg,⟨λ b o e n hb hx=>?_,λ b o e n hb hx=>?_,λ b o e n hx=>?_,λ b o e hx=>?_,λ b xs e=>tups b xs (I.base.tups b xs e),λ b o xs e=>frzs b o xs (I.base.frzs b o xs e),λ b ps e=>?_⟩,?_,λ x c e=>?_,?_,λ x c e=>?_,λ p hp=>?_,hok,I.len⟩
  . exact keep b o (neL b o e) hb (neC b o e hx) (I.base.keep b o e n hb hx) (I.base.free b o e n hx)
  . obtain ⟨sl,e1⟩:=I.base.slot b o e n hb hx
    obtain ⟨sl',e2⟩:=slot b _ (neL b o e) hb (neC b o e hx) e1 (I.base.free b o e n hx)
    exact ⟨sl',e2⟩
  . obtain ⟨o',e1⟩:=I.base.there b o e hx
    exact free b o' (neC b o e hx) e1 (I.base.free b o e n hx)
  . obtain ⟨o',e1⟩:=I.base.there b o e hx
    exact there b o' (neC b o e hx) e1
  . obtain ⟨m1,e1⟩:=I.base.tbls b ps e
    obtain ⟨m2,e2⟩:=tbls b _ e1
    exact ⟨m1++m2,by rw [e2,Array.append_assoc]⟩
  . obtain ⟨m,hn,hl⟩:=I.loc
    refine ⟨m,ns m hn,λ i x v e1 e2 e3=>?_⟩
    obtain ⟨u,r,l⟩:=hl i x v e1 e2 e3
    refine ⟨u,r,?_⟩
    rcases l with l | ⟨k,c,e,z⟩
    . exact .inl l
    . exact .inr ⟨k,c,e,cellK x c e _ z⟩
  . obtain ⟨v,z⟩:=I.cell x c e
    exact ⟨v,cellK x c e v z⟩
  . obtain ⟨m,⟨o,_,_,ho,_⟩,_⟩:=I.loc
    exact free _ o (λ z=>(hch _ z).2.1 rfl) ho I.free
  . obtain ⟨v,o,ho,hd⟩:=I.cell x c e
    exact free c o (λ z=>(hch c z).2.2.1 x c e rfl) ho (I.freeC x c e)
  . obtain ⟨e,n,ne,nf,d⟩:=I.pin p hp
    have nch:p.1 ∉ ch:=λ z=>(hch p.1 z).2.2.2 p hp rfl
    exact ⟨keep p.1 p.2 ne nf nch e n,free p.1 p.2 nch e n,ne,nf,d⟩
theorem Inv.un {t':Nat} (I:Inv X pins σ H s) (u:Un X.fs [] H H' s.heap h') (hok:HOk X.prog X.w H' h'):Inv X pins σ H' { s with heap:=h',toks:=t' }:=by
  obtain ⟨m,⟨o,es,ep,ho,r⟩,_⟩:=id I.loc
  obtain ⟨sl,hL⟩:=u.any ho I.free (by simp)
  exact I.step (g':=s.gens) (d':=s.drawn) (ch:=[]) (λ _ z=>nomatch z) (λ b o _ hb _ e n=>u.keep b o e n hb (by simp)) (λ b o _ hb _ e n=>u.slot b o e n hb (by simp)) (λ b o _ e n=>u.free b o e n (by simp)) (λ b o _ e=>u.there b o e (by simp)) u.tups u.frzs u.tbls (λ m' hm=>by
    obtain ⟨o',es',ep',ho',r'⟩:=hm
    rw [ho] at ho';cases ho'
    exact ⟨_,es',ep',hL,r'⟩) hok I.bare
theorem Inv.call {g':Array GenState} {t':Nat} {d':Drawn} {ch:List Addr} (I:Inv X pins σ H s) (u:Un (frs X.stack) ch H H' s.heap h') (hok:HOk X.prog X.w H' h') (hg:AllBare g')
    (hch:∀ b∈ch,(b∈X.ex\/X.s₀.heap.objs.size<=b)/\b≠X.env.locals/\(∀ x c,X.env.cells.lookup x=some c->c≠b)/\∀ p∈X.pn++pins,p.1≠b) :
    Inv X pins σ H' { s with heap:=h',gens:=g',drawn:=d',toks:=t' }:=by
  obtain ⟨m,⟨o,es,ep,ho,r⟩,_⟩:=id I.loc
  obtain ⟨sl,hL⟩:=u.any ho I.free λ z=>(hch _ z).2.1 rfl
  exact I.step (ch:=ch) hch (λ b o hL hb hc e n=>u.keep b o e n (λ z=>(List.mem_cons.mp (I.stkSub b z)).elim hL hb) hc) (λ b o _ _ hc e n=>u.any e n hc) (λ b o hc e n=>u.free b o e n hc) (λ b o hc e=>u.there b o e hc) u.tups u.frzs u.tbls (λ m' hm=>by
    obtain ⟨o',es',ep',ho',r'⟩:=hm
    rw [ho] at ho';cases ho'
    exact ⟨_,es',ep',hL,r'⟩) hok hg
theorem Inv.turned {t':Nat} {it:Addr} (I:Inv X pins σ H s) (k:∀ b o,b≠it->s.heap.get? b=some o->h'.get? b=some o) (hn:H it=none) (hL:it≠X.env.locals)
    (h1:it∈X.ex\/X.s₀.heap.objs.size<=it) (h2:∀ x c,X.env.cells.lookup x=some c->c≠it) (h3:∀ p∈X.pn++pins,p.1≠it):Inv X pins σ H { s with heap:=h',toks:=t' }:=by
  have nit:∀ b u,H b=some u->b≠it:=λ b u e z=>by rw [z,hn] at e;cases e
  refine I.step (g':=s.gens) (d':=s.drawn) (ch:=[it]) (λ b hb=>?_) (λ b o _ _ hc e _=>k b o (λ z=>hc (by simp [z])) e) (λ b o _ _ hc e _=>⟨o.slots,k b o (λ z=>hc (by simp [z])) e⟩) (λ _ _ _ _ n=>n)
    (λ b o hc e=>⟨o,k b o (λ z=>hc (by simp [z])) e⟩) (λ _ _ e=>e) (λ _ _ _ e=>e) (λ b ps e=>⟨#[],by rw [e];simp⟩) (λ m hm=>?_) (λ b u e=>?_) I.bare
  . have e:b=it:=by simpa using hb
    subst e
    exact ⟨h1,hL,h2,h3⟩
  . obtain ⟨o,es,ep,ho,r⟩:=hm
    exact ⟨o,es,ep,k _ o (Ne.symm hL) ho,r⟩
  . refine (I.hok b u e).stay (λ c v hc q=>k c v ?_ q) (λ _ q=>q) λ _ _ q=>q
    rcases hc with z | z
    . rw [z];exact nit b u e
    . exact nit c _ z
theorem Inv.tok (I:Inv X pins σ H s) (t:Nat):Inv X pins σ H { s with toks:=t }:=I.un (h':=s.heap) (t':=t) Un.refl I.hok
theorem Inv.kept {t':Nat} (I:Inv X pins σ H s) (k:∀ b u,s.heap.get? b=some u->h'.get? b=some u):Inv X pins σ H { s with heap:=h',toks:=t' }:=I.un (Un.kept k) (I.hok.kept k)
theorem Inv.laid {a:Addr} {o:HO} {t':Nat} (I:Inv X pins σ H s) (k:∀ b u,s.heap.get? b=some u->h'.get? b=some u) (hp:s.heap.objs.size<=a) (new:ObjOk X.prog X.w (upd H a o) h' a o) :
    Inv X pins σ (upd H a o) { s with heap:=h',toks:=t' }:=I.un (Un.laid k hp (I.hok.fresh hp)) (I.hok.laid k hp new)
theorem Inv.write {x e:Addr} {o:HO} {t':Nat} (I:Inv X pins σ H s) (mu:Mut (H x)) (he:e=x\/H e=some (.own x)) (k:∀ b u,b≠e->s.heap.get? b=some u->h'.get? b=some u) (heo:∃ u,h'.get? e=some u)
    (new:ObjOk X.prog X.w (upd H x o) h' x o):Inv X pins σ (upd H x o) { s with heap:=h',toks:=t' }:=I.un (Un.write mu he k heo) (I.hok.write mu he k heo new)
theorem Inv.pins_of {pins':List (Addr × Obj)} (I:Inv X pins σ H s) (h:∀ p∈pins',s.heap.get? p.1=some p.2/\H p.1=none/\p.1≠X.env.locals/\p.1 ∉ X.fs/\∀ v,p.2.data≠.cell v):Inv X pins' σ H s:=
  ⟨I.ok,I.os,I.bare,I.base,I.loc,I.cell,I.free,I.freeC,λ p hp=>(List.mem_append.mp hp).elim (λ z=>I.pin p (List.mem_append_left _ z)) (h p),I.hok,I.len⟩
theorem k4q {N:List Str} (hN:N.Nodup) {i j:Nat} {x:Str} (a:N[i]?=some x) (b:N[j]?=some x):i=j:=by
  obtain ⟨h1,e1⟩:=List.getElem?_eq_some_iff.mp a
  obtain ⟨h2,e2⟩:=List.getElem?_eq_some_iff.mp b
  exact (List.getElem_inj hN).mp (e1.trans e2.symm)
theorem lHq {M:Model} {A:Around} {E:Value->Shared->Prop} {i:Nat} {x:Str} {v:V} {u:Value} {Q:Unit->Shared->Prop} (I:Inv X pins σ H s) (hN:X.N.Nodup) (hi:X.N[i]?=some x) (hx:Loc X.env.scope x) (r:RelV v u)
    (h:∀ s',Inv X pins (σ.set i (some v)) H s'->(∃ a,Heap.SameBut a s.heap s'.heap/\(a=X.env.locals\/X.env.cells.lookup x=some a))->Q () s') (hf:X.fn x=true\/X.env.scope.names.lookup x=some .local:=by first | exact .inl rfl | exact .inr rfl | assumption):wpAny M A (storeName X.env x u) Q E s:=by
  obtain ⟨m,hn,hl⟩:=id I.loc
  have hcls:(X.env.scope.kind==.class||(X.env.scope.kind==.module&&X.env.locals !=X.env.globals))=false:=by rw [I.ok.kind];rfl
  have hiσ:i < σ.length:=by rw [I.len];exact (List.getElem?_eq_some_iff.mp hi).1
  have cne:=I.cne
  have tracked:∀ {a:Addr} {h':Heap},(∃ o,s.heap.get? a=some o/\H a=none)->Heap.SameBut a s.heap h'->HOk X.prog X.w H h':=λ{a h'} ha hs b ob e=>by
    obtain ⟨_,_,hfree⟩:=ha
    refine (I.hok b ob e).stay (λ c w' hc q=>(hs.2 c ?_).trans q) (λ _ q=>q) λ _ _ q=>q
    rintro rfl
    rcases hc with rfl | hc
    . rw [hfree] at e;cases e
    . rw [hfree] at hc;cases hc
  rcases hx with hk | hk
  . refine wpAny_storeName_local hk hn (λ h' hn' hs=>?_) hcls
    obtain ⟨oL,_,_,hoL,_⟩:=id hn
    refine h _ ⟨I.ok,I.os,I.bare,⟨λ b o e n hb hx=>?_,λ b o e n hb hx=>?_,I.base.free,λ b o e hx=>?_,I.base.tups,I.base.frzs,I.base.tbls⟩,⟨_,hn',λ j y v' e1 e2 e3=>?_⟩,λ y c e=>?_,I.free,I.freeC,λ p hp=>?_,tracked ⟨oL,hoL,I.free⟩ hs,by simpa using I.len⟩ ⟨_,hs,.inl rfl⟩
    . exact (hs.2 b (Nat.ne_of_lt (Nat.lt_of_lt_of_le (Heap.lt_size e) I.ok.above))).trans (I.base.keep b o e n hb hx)
    . obtain ⟨sl,e1⟩:=I.base.slot b o e n hb hx
      exact ⟨sl,(hs.2 b (Nat.ne_of_lt (Nat.lt_of_lt_of_le (Heap.lt_size e) I.ok.above))).trans e1⟩
    . obtain ⟨o',e1⟩:=I.base.there b o e hx
      exact ⟨o',(hs.2 b (Nat.ne_of_lt (Nat.lt_of_lt_of_le (Heap.lt_size e) I.ok.above))).trans e1⟩
    . by_cases hj:j=i
      . subst hj
        rw [hi] at e1;cases e1
        rw [List.getElem?_set_self hiσ] at e2
        cases e2
        exact ⟨u,r,.inl ⟨hk,by simp⟩⟩
      . rw [List.getElem?_set_ne (Ne.symm hj)] at e2
        obtain ⟨u',r',q⟩:=hl j y v' e1 e2 e3
        refine ⟨u',r',?_⟩
        rcases q with ⟨k,e⟩ | ⟨k,c,e,z⟩
        . refine .inl ⟨k,?_⟩
          have:y≠x:=λ e=>hj (k4q hN e1 (e ▸ hi))
          simp [this,e]
        . exact .inr ⟨k,c,e,z.sameBut hs (cne y c e)⟩
    . obtain ⟨w',z⟩:=I.cell y c e
      exact ⟨w',z.sameBut hs (cne y c e)⟩
    . obtain ⟨e,n,ne,nf,d⟩:=I.pin p hp
      exact ⟨(hs.2 p.1 ne).trans e,n,ne,nf,d⟩
  . have hfn:X.fn x=true:=by
      rcases hf with z | z
      . exact z
      . rw [z] at hk;cases hk
    obtain ⟨c,hc⟩:=I.ok.has x (.inl hk)
    obtain ⟨w',z⟩:=I.cell x c hc
    refine wpAny_storeName_cell I.ok.kind hk hc z (λ h' hc' hs=>?_)
    obtain ⟨oc,hoc,hocd⟩:=id z
    refine h { s with heap:=h' } ⟨I.ok,I.os,I.bare,⟨λ b o e n hb hx=>?_,λ b o e n hb hx=>?_,I.base.free,λ b o e hx=>?_,I.base.tups,I.base.frzs,I.base.tbls⟩,⟨m,hn.sameBut hs (Ne.symm (cne x c hc)),λ j y v' e1 e2 e3=>?_⟩,λ y c' e=>?_,I.free,I.freeC,λ p hp=>?_,tracked ⟨oc,hoc,I.freeC x c hc⟩ hs,by simpa using I.len⟩ ⟨c,hs,.inr hc⟩
    . exact (hs.2 b (Nat.ne_of_lt (Nat.lt_of_lt_of_le (Heap.lt_size e) (I.ok.cab x c hfn hc)))).trans (I.base.keep b o e n hb hx)
    . obtain ⟨sl,e1⟩:=I.base.slot b o e n hb hx
      exact ⟨sl,(hs.2 b (Nat.ne_of_lt (Nat.lt_of_lt_of_le (Heap.lt_size e) (I.ok.cab x c hfn hc)))).trans e1⟩
    . obtain ⟨o',e1⟩:=I.base.there b o e hx
      exact ⟨o',(hs.2 b (Nat.ne_of_lt (Nat.lt_of_lt_of_le (Heap.lt_size e) (I.ok.cab x c hfn hc)))).trans e1⟩
    . by_cases hj:j=i
      . subst hj
        rw [hi] at e1;cases e1
        rw [List.getElem?_set_self hiσ] at e2
        cases e2
        exact ⟨u,r,.inr ⟨.inl hk,c,hc,hc'⟩⟩
      . rw [List.getElem?_set_ne (Ne.symm hj)] at e2
        obtain ⟨u',r',q⟩:=hl j y v' e1 e2 e3
        refine ⟨u',r',?_⟩
        rcases q with q | ⟨k,c',e,z'⟩
        . exact .inl q
        . refine .inr ⟨k,c',e,z'.sameBut hs ?_⟩
          rintro rfl
          exact hj (k4q hN e1 (I.ok.inj _ _ _ e hc ▸ hi))
    . by_cases hcc:c'=c
      . subst hcc;exact ⟨_,hc'⟩
      . obtain ⟨w2,z2⟩:=I.cell y c' e
        exact ⟨w2,z2.sameBut hs hcc⟩
    . obtain ⟨e,n,ne,nf,d⟩:=I.pin p hp
      refine ⟨(hs.2 p.1 ?_).trans e,n,ne,nf,d⟩
      intro q
      rw [q,hoc] at e
      have q':oc=p.2:=Option.some.inj e
      exact d w' (by rw [<- q'];exact hocd)
theorem fWq {M:Model} {A:Around} {E:Value->Shared->Prop} {i:Nat} {x:Str} {v:V} {u:Value} {Q:Unit->Shared->Prop} (I:Inv X pins σ H s) (hN:X.N.Nodup) (hi:X.N[i]?=some x) (hx:Loc X.env.scope x) (r:RelV v u)
    (h:∀ s',Inv X pins (σ.set i (some v)) H s'->Q () s') (hf:X.fn x=true\/X.env.scope.names.lookup x=some .local:=by first | exact .inl rfl | exact .inr rfl | assumption):wpAny M A (storeName X.env x u) Q E s:=
  lHq I hN hi hx r (λ s' I' _=>h s' I') hf
theorem Inv.call' {s':Shared} {ch:List Addr} (I:Inv X pins σ H s) (ho:s'.os=s.os) (u:Un (frs X.stack) ch H H' s.heap s'.heap) (hok:HOk X.prog X.w H' s'.heap) (hg:AllBare s'.gens)
    (hch:∀ b∈ch,(b∈X.ex\/X.s₀.heap.objs.size<=b)/\b≠X.env.locals/\(∀ x c,X.env.cells.lookup x=some c->c≠b)/\∀ p∈X.pn++pins,p.1≠b):Inv X pins σ H' s':=by
  obtain ⟨h',g',d',t',o'⟩:=s'
  have e:o'=s.os:=ho
  subst e
  exact I.call (g':=g') (t':=t') (d':=d') u hok hg hch
end
abbrev XK:=Value->Option Addr->Hp->Prop
abbrev St:=List (Option V)
abbrev VK:=V->Hp->Prop
abbrev TE:=St->Hp->VK->Prop
abbrev TT:=St->Hp->(Bool->Hp->Prop)->Prop
abbrev TA:=St->Hp->(List V->Hp->Prop)->Prop
structure Ends where
  nx:St->Hp->Prop
  rt:VK
  bk:St->Hp->Prop:=λ _ _=>False
  ct:St->Hp->Prop:=λ _ _=>False
abbrev TS:=Ends->St->Hp->Prop
def EP (X:Cx) (pins:List (Addr × Obj)) (σ:St) (Q:VK) (u:Value) (s':Shared):Prop:=∃ v H',Inv X pins σ H' s'/\RelV v u/\Q v H'
def TP (X:Cx) (pins:List (Addr × Obj)) (σ:St) (Q:Bool->Hp->Prop) (b:Bool) (s':Shared):Prop:=∃ H',Inv X pins σ H' s'/\Q b H'
def AP (X:Cx) (pins:List (Addr × Obj)) (σ:St) (Q:List V->Hp->Prop) (us:List Value) (s':Shared):Prop:=∃ vs H',Inv X pins σ H' s'/\Vals vs us/\Q vs H'
def SP (X:Cx) (pins:List (Addr × Obj)) (D:Ends) (f:Flow) (s':Shared):Prop:=
  match f with
  | .next=>∃ σ' H',Inv X pins σ' H' s'/\D.nx σ' H'
  | .brk=>∃ σ' H',Inv X pins σ' H' s'/\D.bk σ' H'
  | .cont=>∃ σ' H',Inv X pins σ' H' s'/\D.ct σ' H'
  | .ret u=>∃ v σ' H',Inv X pins σ' H' s'/\RelV v u/\D.rt v H'
def PE (X:Cx) (e:Expr) (t:TE):Prop:=
  ∀ (pins:List (Addr × Obj)) (s:Shared) (σ:St) (H:Hp) (Q:VK),Inv X pins σ H s->t σ H Q->wpAny (model X.prog X.w) X.A (eval e X.env) (EP X pins σ Q) X.xe s
def PT (X:Cx) (e:Expr) (t:TT):Prop:=
  ∀ (pins:List (Addr × Obj)) (s:Shared) (σ:St) (H:Hp) (Q:Bool->Hp->Prop),Inv X pins σ H s->t σ H Q->wpAny (model X.prog X.w) X.A (isTrue e X.env (eval e X.env)) (TP X pins σ Q) X.xe s
def PW (X:Cx) (e:Expr) (t:TT):Prop:=
  ∀ (whole:Sem Value) (pins:List (Addr × Obj)) (s:Shared) (σ:St) (H:Hp) (Q:Bool->Hp->Prop),Inv X pins σ H s->t σ H Q->wpAny (model X.prog X.w) X.A (isTrue e X.env whole) (TP X pins σ Q) X.xe s
theorem PW.pt {X:Cx} {e:Expr} {t:TT} (h:PW X e t):PT X e t:=h _
def PA (X:Cx) (es:List Expr) (t:TA):Prop:=
  ∀ (pos:Pos) (pins:List (Addr × Obj)) (s:Shared) (σ:St) (H:Hp) (Q:List V->Hp->Prop),Inv X pins σ H s->t σ H Q->wpAny (model X.prog X.w) X.A (spliced (backTo pos (starEach es X.env))) (AP X pins σ Q) X.xe s
def PS (X:Cx) (st:Stmt) (t:TS):Prop:=
  ∀ (pins:List (Addr × Obj)) (s:Shared) (σ:St) (H:Hp) (D:Ends),Inv X pins σ H s->t D σ H->wpAny (model X.prog X.w) X.A (exec st X.env) (SP X pins D) X.xe s
def PSs (X:Cx) (st:List Stmt) (t:TS):Prop:=
  ∀ (pins:List (Addr × Obj)) (s:Shared) (σ:St) (H:Hp) (D:Ends),Inv X pins σ H s->t D σ H->wpAny (model X.prog X.w) X.A (execs st X.env) (SP X pins D) X.xe s
theorem thn {α:Type} {t:Sem α} {Q Q':α->Shared->Prop} {M:Model} {A:Around} {E:Value->Shared->Prop} {s:Shared} (h:wpAny M A t Q E s) (hQ:∀ a s,Q a s->Q' a s):wpAny M A t Q' E s:=wpAny_mono h hQ λ _ _ x=>x
section
variable {X:Cx}
theorem bin {a b:Expr} {ta tb:TE} (ha:PE X a ta) (hb:PE X b tb) {pins:List (Addr × Obj)} {s:Shared} {σ:St} {H:Hp} {R:V->V->Hp->Prop} (I:Inv X pins σ H s) (h:ta σ H λ x H1=>tb σ H1 λ y H2=>R x y H2)
    {α:Type} {Q:α->Shared->Prop} {f:Value->Value->Sem α}
    (hf:∀ v u s2 x y H2,Inv X pins σ H2 s2->RelV x v->RelV y u->R x y H2->wpAny (model X.prog X.w) X.A (f v u) Q X.xe s2) :
    wpAny (model X.prog X.w) X.A (eval a X.env) (λ v s₁=>wpAny (model X.prog X.w) X.A (eval b X.env) (λ u s₂=>wpAny (model X.prog X.w) X.A (f v u) Q X.xe s₂) X.xe s₁) X.xe s:=by
  refine thn (ha pins s σ H _ I h) λ v s1 ⟨x,H1,I1,r1,q1⟩=>?_
  refine thn (hb pins s1 σ H1 _ I1 q1) λ u s2 ⟨y,H2,I2,r2,q2⟩=>?_
  exact hf v u s2 x y H2 I2 r1 r2 q2
def tVar (i:Nat):TE:=λ σ H Q=>∃ v,σ[i]?=some (some v)/\Q v H
def tC (v:V):TE:=λ _ H Q=>Q v H
theorem rKq {i:Nat} {x:Str} {pos:Pos} (hN:X.N[i]?=some x) (hv:Vis X.env.scope x) (hd:(x==("__debug__" : Str))=false:=by decide) (hcd:(x==("__classdict__" : Str))=false:=by decide):PE X (.Name x pos) (tVar i):=by
  intro pins s σ H Q I h
  obtain ⟨v,e,h⟩:=h
  obtain ⟨m,hn,hl⟩:=I.loc
  obtain ⟨u,r,l⟩:=hl i x v hN e hv
  have fin:EP X pins σ Q u s:=⟨v,H,I,r,h⟩
  rcases l with ⟨hk,hm⟩ | ⟨hk,c,hc,hcell⟩
  . exact wpAny_Name (wpAny_loadName_local I.ok.kind hk hn hm fin) hd
  . rcases hk with hk | hk
    . exact wpAny_Name (wpAny_loadName_cell I.ok.kind hk hc hcell fin) hd
    . exact wpAny_Name (wpAny_loadName_free I.ok.kind hk hc hcell fin hcd) hd
theorem uNq {i j pos}:PE X (.Constant (.int i) j pos) (tC (.int i)):=λ _ _ _ H _ I h=>wpAny_Constant_int ⟨.int i,H,I.tok _,⟨_,rfl⟩,h⟩
theorem aC1q {b j pos}:PE X (.Constant (.bool b) j pos) (tC (.bl b)):=λ _ _ _ H _ I h=>Constant_bool ⟨.bl b,H,I,rfl,h⟩
theorem xYq {j pos}:PE X (.Constant .none j pos) (tC .non):=λ _ _ _ H _ I h=>Constant_none ⟨.non,H,I,rfl,h⟩
theorem y7q {x j pos}:PE X (.Constant (.str x) j pos) (tC (.str x)):=λ _ _ _ H _ I h=>Calls.Constant_str ⟨.str x,H,I.tok _,⟨_,rfl⟩,h⟩
def Gl (X:Cx) (x:Str):Prop:=X.env.kindOf x=some .globalImplicit
theorem iZq {E:Value->Shared->Prop} {pins:List (Addr × Obj)} {s:Shared} {σ:St} {H:Hp} {x:Str} {u:Value} {pos:Pos} {Q:Value->Shared->Prop} (I:Inv X pins σ H s) (hg:Gl X x) (hm:X.mg x=some u) (h:Q u s)
    (hd:(x==("__debug__" : Str))=false:=by decide):wpAny (model X.prog X.w) X.A (eval (.Name x pos) X.env) Q E s:=
  Calls.Name_function_global I.ok.kind hg (Calls.loadGlobal_global (by rw [I.ok.glob];exact I.mod.glob.keeps I.bk) hm h) hd
theorem cSq {E:Value->Shared->Prop} {pins:List (Addr × Obj)} {s:Shared} {σ:St} {H:Hp} {x:Str} {u:Value} {pos:Pos} {Q:Value->Shared->Prop} (I:Inv X pins σ H s) (hg:Gl X x) (hm:X.mg x=none) (hv:bootBuiltins x=some u) (h:Q u s)
    (hn:x≠"__name__":=by decide) (hd:(x==("__debug__" : Str))=false:=by decide):wpAny (model X.prog X.w) X.A (eval (.Name x pos) X.env) Q E s:=by
  obtain ⟨mb,h1,h2⟩:=I.mod.blt
  exact Calls.Name_function_global I.ok.kind hg (Calls.loadGlobal_builtin (by rw [I.ok.glob];exact I.mod.glob.keeps I.bk) hm (by rw [I.ok.blt];exact h1.keeps I.bk) ((h2 x hn).trans hv) h) hd
theorem fTq {x:Str} {v:V} {u:Value} {pos:Pos} (hg:Gl X x) (hm:X.mg x=some u) (r:RelV v u) (hd:(x==("__debug__" : Str))=false:=by decide):PE X (.Name x pos) (tC v):=
  λ _ _ _ H _ I h=>iZq I hg hm ⟨v,H,I,r,h⟩ hd
theorem tQq {x:Str} {v:V} {u:Value} {pos:Pos} (hg:Gl X x) (hm:X.mg x=none) (hv:bootBuiltins x=some u) (r:RelV v u) (hn:x≠"__name__":=by decide) (hd:(x==("__debug__" : Str))=false:=by decide):PE X (.Name x pos) (tC v):=
  λ _ _ _ H _ I h=>cSq I hg hm hv ⟨v,H,I,r,h⟩ hn hd
variable {a b:Expr} {ta tb:TE} {pos:Pos}
variable {tA tB':TT} {rest:List Expr}
def tAnd (t u:TT):TT:=λ σ H Q=>t σ H λ c H1=>if c=true then u σ H1 Q else Q false H1
def tOr (t u:TT):TT:=λ σ H Q=>t σ H λ c H1=>if c=true then Q true H1 else u σ H1 Q
def tNot (t:TT):TT:=λ σ H Q=>t σ H λ c H1=>Q (!c) H1
theorem tBq (ha:PT X a tA):PW X (.BoolOp .And [a] pos) tA:=by
  intro wh pins s σ H Q I h
  refine isTrue_and (thn (ha pins s σ H Q I h) λ c s1 e=>?_)
  cases c with
  | true=>exact isTrue_and_nil e
  | false=>exact e
theorem yCq (ha:PT X a tA):PW X (.BoolOp .Or [a] pos) tA:=by
  intro wh pins s σ H Q I h
  refine isTrue_or (thn (ha pins s σ H Q I h) λ c s1 e=>?_)
  cases c with
  | false=>exact isTrue_or_nil e
  | true=>exact e
theorem wLq (ha:PT X a tA) (hb:PW X (.BoolOp .And (b::rest) pos) tB'):PW X (.BoolOp .And (a::b::rest) pos) (tAnd tA tB'):=by
  intro wh pins s σ H Q I h
  refine isTrue_and (thn (ha pins s σ H _ I h) λ c s1 ⟨H1,I1,q1⟩=>?_)
  cases c with
  | true=>exact hb wh pins s1 σ H1 Q I1 q1
  | false=>exact ⟨H1,I1,q1⟩
theorem aB9q (ha:PT X a tA) (hb:PW X (.BoolOp .Or (b::rest) pos) tB'):PW X (.BoolOp .Or (a::b::rest) pos) (tOr tA tB'):=by
  intro wh pins s σ H Q I h
  refine isTrue_or (thn (ha pins s σ H _ I h) λ c s1 ⟨H1,I1,q1⟩=>?_)
  cases c with
  | true=>exact ⟨H1,I1,q1⟩
  | false=>exact hb wh pins s1 σ H1 Q I1 q1
theorem vZq (ha:PT X a tA):PT X (.UnaryOp .Not a pos) (tNot tA):=by
  intro pins s σ H Q I h
  exact isTrue_not (ha pins s σ H (λ c H1=>Q (!c) H1) I h)
def vMq (ta tb:TE):TE:=λ σ H Q=>ta σ H λ x H1=>∃ c,x=.bl c/\if c=true then tb σ H1 Q else Q (.bl false) H1
def tOrV (ta tb:TE):TE:=λ σ H Q=>ta σ H λ x H1=>∃ c,x=.bl c/\if c=true then Q (.bl true) H1 else tb σ H1 Q
def wJq (ta:TE):TE:=λ σ H Q=>ta σ H λ x H1=>∃ c,x=.bl c/\Q (.bl (!c)) H1
theorem vIq {op} {t:TE} (h:PE X a t):PE X (.BoolOp op [a] pos) t:=λ pins s σ H Q I hw=>BoolOp_one (h pins s σ H Q I hw)
theorem v9q (ha:PE X a ta) (hb:PE X (.BoolOp .And (b::rest) pos) tb):PE X (.BoolOp .And (a::b::rest) pos) (vMq ta tb):=by
  intro pins s σ H Q I h
  refine BoolOp_and (thn (ha pins s σ H _ I h) λ v s1 ⟨x,H1,I1,r1,q1⟩=>?_)
  obtain ⟨c,rfl,q1⟩:=q1
  cases r1
  refine wpAny_truthy_bool ?_
  cases c with
  | true=>exact hb pins s1 σ H1 Q I1 q1
  | false=>exact ⟨.bl false,H1,I1,rfl,q1⟩
theorem aC8q (ha:PE X a ta) (hb:PE X (.BoolOp .Or (b::rest) pos) tb):PE X (.BoolOp .Or (a::b::rest) pos) (tOrV ta tb):=by
  intro pins s σ H Q I h
  refine BoolOp_or (thn (ha pins s σ H _ I h) λ v s1 ⟨x,H1,I1,r1,q1⟩=>?_)
  obtain ⟨c,rfl,q1⟩:=q1
  cases r1
  refine wpAny_truthy_bool ?_
  cases c with
  | false=>exact hb pins s1 σ H1 Q I1 q1
  | true=>exact ⟨.bl true,H1,I1,rfl,q1⟩
theorem xNq (ha:PE X a ta):PE X (.UnaryOp .Not a pos) (wJq ta):=by
  intro pins s σ H Q I h
  refine UnaryOp_ (thn (ha pins s σ H _ I h) λ v s1 ⟨x,H1,I1,r1,q1⟩=>?_)
  obtain ⟨c,rfl,q1⟩:=q1
  cases r1
  exact not_of (wpAny_truthy_bool ⟨.bl (!c),H1,I1,rfl,q1⟩)
def tIf (t:TT) (ta tb:TE):TE:=λ σ H Q=>t σ H λ c H1=>if c=true then ta σ H1 Q else tb σ H1 Q
theorem q6q {c:Expr} (hc:PT X c tA) (ha:PE X a ta) (hb:PE X b tb):PE X (.IfExp c a b pos) (tIf tA ta tb):=by
  intro pins s σ H Q I h
  refine wpAny_IfExp (thn (hc pins s σ H _ I h) λ d s1 ⟨H1,I1,q1⟩=>?_)
  cases d with
  | true=>exact ha pins s1 σ H1 Q I1 q1
  | false=>exact hb pins s1 σ H1 Q I1 q1
end
def SqL (K:PySem.W.Frag) (H:Hp) (a:Addr) (xs:List V):Prop:=
  Rd H a (.lst xs) ∨
    ∃ (o:Obj) (its:Array Value) (n:Nat),K.lookup a=some o/\o.cls=.type "list"/\o.dict=none/\o.data=.seq its n/\its.size<=sizeLine/\Vals xs its.toList
def SqT (K:PySem.W.Frag) (H:Hp) (a:Addr) (xs:List V):Prop:=
  Rd H a (.tup xs) ∨
    ∃ (o:Obj) (its:Array Value) (n:Nat),K.lookup a=some o/\o.cls=.type "tuple"/\o.data=.seq its n/\its.size<=sizeLine/\Vals xs its.toList
def absV:Value->Option V
  | .none=>some .non
  | .bool b=>some (.bl b)
  | .int i _=>some (.int i)
  | .str x _=>some (.str x)
  | .bytes b _=>some (.byt b)
  | .float b _=>some (.flt b)
  | .ref a=>some (.ref a)
  | .type n=>some (.ty n)
  | _=>none
theorem RelV.abs {x:V} {u:Value} (r:RelV x u):absV u=some x:=by
  cases x with
  | non=>cases r;rfl
  | bl _=>cases r;rfl
  | int _=>obtain ⟨t,rfl⟩:=r;rfl
  | str _=>obtain ⟨t,rfl⟩:=r;rfl
  | byt _=>obtain ⟨t,rfl⟩:=r;rfl
  | flt _=>obtain ⟨t,rfl⟩:=r;rfl
  | ref _=>cases r;rfl
  | ty _=>cases r;rfl
theorem RelV.inj {x y:V} {u:Value} (r:RelV x u) (q:RelV y u):x=y:=Option.some.inj (r.abs.symm.trans q.abs)
theorem Vals.inj:∀ {xs ys:List V} {us:List Value},Vals xs us->Vals ys us->xs=ys
  | _,_,_,.nil,.nil=>rfl
  | _,_,_,.cons r t,.cons r' t'=>by rw [r.inj r',Vals.inj t t']
section
variable {X:Cx} {pins:List (Addr × Obj)} {σ:St} {H:Hp} {s:Shared} {a:Addr} {xs ys:List V}
theorem SqL.of {K:PySem.W.Frag} (h:H a=some (.lst xs)):SqL K H a xs:=.inl (.inl h)
theorem SqT.of {K:PySem.W.Frag} (h:H a=some (.tup xs)):SqT K H a xs:=.inl (.inl h)
theorem Inv.list (I:Inv X pins σ H s) (h:SqL X.K H a xs):∃ its:List Value,Vals xs its/\PlainL s.heap a its.toArray/\xs.length<=sizeLine:=by
  rcases h with h | ⟨o,its,n,hk,hc,hd,hs,hz,r⟩
  . obtain ⟨z,its,n,r,e⟩:=h.ok I.hok
    exact ⟨its,r,⟨_,n,e,rfl,rfl,rfl⟩,z⟩
  . refine ⟨its.toList,r,⟨o,n,I.kIn a o hk,hc,hd,by simpa using hs⟩,?_⟩
    have e:=r.length
    simp only [Array.length_toList] at e
    omega
theorem Inv.tuple (I:Inv X pins σ H s) (h:SqT X.K H a xs):∃ its:List Value,Vals xs its/\IsTup s.heap a its.toArray/\xs.length<=sizeLine:=by
  rcases h with h | ⟨o,its,n,hk,hc,hs,hz,r⟩
  . obtain ⟨z,its,r,p⟩:=h.ok I.hok
    exact ⟨its,r,p,z⟩
  . refine ⟨its.toList,r,⟨o,I.kIn a o hk,hc,n,by simpa using hs⟩,?_⟩
    have e:=r.length
    simp only [Array.length_toList] at e
    omega
theorem Inv.list_inj (I:Inv X pins σ H s) (h:SqL X.K H a xs) (h':SqL X.K H a ys):xs=ys:=by
  obtain ⟨its,r,⟨o,n,e,_,_,d⟩,_⟩:=I.list h
  obtain ⟨its',r',⟨o',n',e',_,_,d'⟩,_⟩:=I.list h'
  rw [e] at e';cases e'
  rw [d] at d'
  injection d' with d1 _
  have:its=its':=by simpa using congrArg Array.toList d1
  subst this
  exact r.inj r'
theorem Inv.tuple_inj (I:Inv X pins σ H s) (h:SqT X.K H a xs) (h':SqT X.K H a ys):xs=ys:=by
  obtain ⟨its,r,⟨o,e,_,n,d⟩,_⟩:=I.tuple h
  obtain ⟨its',r',⟨o',e',_,n',d'⟩,_⟩:=I.tuple h'
  rw [e] at e';cases e'
  rw [d] at d'
  injection d' with d1 _
  have:its=its':=by simpa using congrArg Array.toList d1
  subst this
  exact r.inj r'
end
abbrev Cx.wish (X:Cx) (E:Value->Shared->Prop):Cx:={ X with xe:=E }
abbrev Cx.nox (X:Cx):Cx:=X.wish λ _ _=>False
theorem Cx.Ok.wish {X:Cx} (ok:X.Ok) (E:Value->Shared->Prop):(X.wish E).Ok:=
  ⟨ok.mod,ok.kind,ok.glob,ok.blt,ok.above,ok.inj,ok.has,ok.cab,ok.hd,ok.frames,ok.stk,ok.exf,ok.bs,ok.bsz,ok.noex,ok.exfs,ok.funs,ok.frf⟩
theorem Cx.Ok.unwish {X:Cx} {E:Value->Shared->Prop} (ok:(X.wish E).Ok):X.Ok:=
  ⟨ok.mod,ok.kind,ok.glob,ok.blt,ok.above,ok.inj,ok.has,ok.cab,ok.hd,ok.frames,ok.stk,ok.exf,ok.bs,ok.bsz,ok.noex,ok.exfs,ok.funs,ok.frf⟩
section
variable {X:Cx} {pins:List (Addr × Obj)} {σ:St} {H:Hp} {s:Shared} {E:Value->Shared->Prop}
theorem Inv.wish (I:Inv X pins σ H s) (E:Value->Shared->Prop):Inv (X.wish E) pins σ H s:=⟨I.ok.wish E,I.os,I.bare,I.base,I.loc,I.cell,I.free,I.freeC,I.pin,I.hok,I.len⟩
theorem Inv.unwish (I:Inv (X.wish E) pins σ H s):Inv X pins σ H s:=⟨I.ok.unwish,I.os,I.bare,I.base,I.loc,I.cell,I.free,I.freeC,I.pin,I.hok,I.len⟩
theorem SP.unwish {D:Ends} {f:Flow} {s':Shared} (h:SP (X.wish E) pins D f s'):SP X pins D f s':=by
  cases f with
  | next=>obtain ⟨σ',H',I,q⟩:=h;exact ⟨σ',H',I.unwish,q⟩
  | brk=>obtain ⟨σ',H',I,q⟩:=h;exact ⟨σ',H',I.unwish,q⟩
  | cont=>obtain ⟨σ',H',I,q⟩:=h;exact ⟨σ',H',I.unwish,q⟩
  | ret u=>obtain ⟨v,σ',H',I,r,q⟩:=h;exact ⟨v,σ',H',I.unwish,r,q⟩
theorem PSs.nox {st:List Stmt} {t:TS} (h:PSs X.nox st t):PSs X st t:=λ pins s σ H D I hw=>
  wpAny_mono (h pins s σ H D (I.wish _) hw) (λ _ _ q=>q.unwish) λ _ _ z=>False.elim z
end
section
variable {X:Cx} {st:Stmt} {rest:List Stmt} {t u:TS} {e:Expr} {te:TE} {pos:Pos}
def uZq:TS:=λ D σ H=>D.nx σ H
def tSeq (t u:TS):TS:=λ D σ H=>t { D with nx:=u D } σ H
theorem s8q:PSs X [] uZq:=λ _ _ σ H _ I h=>wpAny_execs_nil ⟨σ,H,I,h⟩
theorem p8q (h1:PS X st t) (h2:PSs X rest u):PSs X (st::rest) (tSeq t u):=by
  intro pins s σ H D I h
  refine wpAny_execs_cons (thn (h1 pins s σ H { D with nx:=u D } I h) λ f s1 q=>?_)
  cases f with
  | next=>
    obtain ⟨σ',H',I',q⟩:=q
    exact h2 pins s1 σ' H' D I' q
  | ret v=>exact q
  | brk=>exact q
  | cont=>exact q
theorem tYq (h1:PS X st t):PSs X [st] t:=by
  intro pins s σ H D I h
  refine wpAny_execs_cons (thn (h1 pins s σ H D I h) λ f s1 q=>?_)
  cases f with
  | next=>exact wpAny_execs_nil q
  | ret v=>exact q
  | brk=>exact q
  | cont=>exact q
theorem Inv.quiet {pins:List (Addr × Obj)} {σ:St} {H:Hp} {s:Shared} (I:Inv X pins σ H s):interactive X.env=false:=by simp [interactive,I.ok.kind]
def xIq (te:TE):TS:=λ D σ H=>te σ H λ _ H1=>D.nx σ H1
theorem t5q (he:PE X e te) (hs:swapsWith e none pos.line X.env=pure false:=by rfl):PS X (.Expr e pos) (xIq te):=by
  intro pins s σ H D I h
  exact wpAny_Expr_any (thn (he pins s σ H _ I h) λ v s1 ⟨x,H1,I1,r1,q1⟩=>⟨σ,H1,I1,q1⟩) I.quiet hs
def tRet (te:TE):TS:=λ D σ H=>te σ H D.rt
theorem wOq (he:PE X e te):PS X (.Return (some e) pos) (tRet te):=by
  intro pins s σ H D I h
  exact wpAny_Return_some (thn (he pins s σ H _ I h) λ v s1 ⟨x,H1,I1,r1,q1⟩=>⟨x,σ,H1,I1,r1,q1⟩)
def vDq:TS:=λ D _ H=>D.rt .non H
theorem t1q:PS X (.Return none pos) vDq:=λ _ _ σ H _ I h=>wpAny_Return_none ⟨.non,σ,H,I,rfl,h⟩
def tIfS (c:TT) (t u:TS):TS:=λ D σ H=>c σ H λ b H1=>if b=true then t D σ H1 else u D σ H1
theorem z8q {c:Expr} {a b:List Stmt} {tc:TT} (hc:PT X c tc) (ha:PSs X a t) (hb:PSs X b u):PS X (.If c a b pos) (tIfS tc t u):=by
  intro pins s σ H D I h
  refine wpAny_If (thn (hc pins s σ H _ I h) λ d s1 ⟨H1,I1,q1⟩=>?_)
  cases d with
  | true=>exact ha pins s1 σ H1 D I1 q1
  | false=>exact hb pins s1 σ H1 D I1 q1
end
abbrev TG:=V->St->Hp->(St->Hp->Prop)->Prop
abbrev TGs:=List V->St->Hp->(St->Hp->Prop)->Prop
def PG (X:Cx) (target:Expr) (t:TG):Prop:=
  ∀ (pins:List (Addr × Obj)) (s:Shared) (σ:St) (H:Hp) (v:V) (u:Value) (Q:St->Hp->Prop),Inv X pins σ H s->RelV v u->t v σ H Q →
    wpAny (model X.prog X.w) X.A (assign target X.env u) (λ _ s'=>∃ σ' H',Inv X pins σ' H' s'/\Q σ' H') X.xe s
def PGs (X:Cx) (ts:List Expr) (t:TGs):Prop:=
  ∀ (pins:List (Addr × Obj)) (s:Shared) (σ:St) (H:Hp) (vs:List V) (us:List Value) (Q:St->Hp->Prop),Inv X pins σ H s->Vals vs us->t vs σ H Q →
    wpAny (model X.prog X.w) X.A (assignInOrder ((assignEach ts X.env).map (·.2)) us) (λ _ s'=>∃ σ' H',Inv X pins σ' H' s'/\Q σ' H') X.xe s
abbrev uIq:=V->V->V->Hp->(Hp->Prop)->Prop
def yUq (X:Cx) (t:uIq):Prop:=
  ∀ (pins:List (Addr × Obj)) (s:Shared) (σ:St) (H:Hp) (o i v:V) (ov iv u:Value) (Q:Hp->Prop),Inv X pins σ H s->RelV o ov->RelV i iv->RelV v u->t o i v H Q →
    wpAny (model X.prog X.w) X.A (setItem ov iv u) (λ _ s'=>∃ H',Inv X pins σ H' s'/\Q H') X.xe s
abbrev TIp:=V->V->Hp->VK->Prop
def PIp (X:Cx) (op:Operator) (t:TIp):Prop:=
  ∀ (pins:List (Addr × Obj)) (s:Shared) (σ:St) (H:Hp) (x y:V) (v u:Value) (Q:VK),Inv X pins σ H s->RelV x v->RelV y u->t x y H Q →
    wpAny (model X.prog X.w) X.A (inplaceOp op v u) (EP X pins σ Q) X.xe s
section
variable {X:Cx} {pos:Pos}
def pBq (i:Nat):TG:=λ v σ H Q=>Q (σ.set i (some v)) H
theorem tSq {i:Nat} {x:Str} (hN:X.N.Nodup) (hi:X.N[i]?=some x) (hx:Loc X.env.scope x) (hf:X.fn x=true\/X.env.scope.names.lookup x=some .local:=by first | exact .inl rfl | exact .inr rfl | assumption):PG X (.Name x pos) (pBq i):=by
  intro pins s σ H v u Q I r h
  exact wpAny_assign_Name (fWq I hN hi hx r (λ s' I'=>⟨_,H,I',h⟩) hf)
def gNil:TGs:=λ vs σ H Q=>vs=[]/\Q σ H
def wSq (t:TG) (u:TGs):TGs:=λ vs σ H Q=>∃ v r,vs=v::r/\t v σ H λ σ' H'=>u r σ' H' Q
theorem sXq:PGs X [] gNil:=by
  intro pins s σ H vs us Q I r h
  obtain ⟨e,h⟩:=h
  subst e
  cases r
  exact assignInOrder_nil ⟨σ,H,I,h⟩
theorem oRq {e:Expr} {es:List Expr} {t:TG} {u:TGs} (h1:PG X e t) (h2:PGs X es u)
    (hs:(assignEach (e::es) X.env).map (·.2)=assign e X.env::(assignEach es X.env).map (·.2):=by rfl):PGs X (e::es) (wSq t u):=by
  intro pins s σ H vs us Q I r h
  obtain ⟨v,vr,e1,h⟩:=h
  subst e1
  cases r with
  | cons r rr=>
    rw [hs]
    refine assignInOrder_cons (thn (h1 pins s σ H _ _ _ I r h) λ _ s1 ⟨σ1,H1,I1,q1⟩=>?_)
    exact h2 pins s1 σ1 H1 _ _ Q I1 rr q1
def gTup (K:PySem.W.Frag) (n:Nat) (t:TGs):TG:=λ v σ H Q=>∃ a xs,v=.ref a/\SqT K H a xs/\xs.length=n/\t xs σ H Q
theorem x5q {es:List Expr} {k:Nat} {t:TGs} {n:Nat} (hc:X.calm=true) (h:PGs X es t)
    (hn:(assignEach es X.env).length=n:=by rfl) (hst:(assignEach es X.env).findIdx? (·.1)=none:=by rfl):PG X (.Tuple es k pos) (gTup X.K n t):=by
  intro pins s σ H v u Q I r hw
  obtain ⟨a,xs,e1,hq,hl,hw⟩:=hw
  subst e1
  cases r
  obtain ⟨its,rv,ht,hz⟩:=I.tuple hq
  refine assign_Tuple_tuple (I.ok.hd hc) ht (by simp [hn,<- hl,rv.length]) hst λ h' hx=>?_
  have I1:Inv X pins σ H { s with heap:=h' }:=I.kept (t':=s.toks) λ b o e=>hx b o (Nat.ne_of_lt (Heap.lt_size e)) e
  exact h pins _ σ H xs _ Q I1 (by simpa using rv) hw
def gSub (to ti:TE) (t:uIq):TG:=λ v σ H Q=>to σ H λ o H1=>ti σ H1 λ i H2=>t o i v H2 λ H3=>Q σ H3
theorem uRq {o i:Expr} {to ti:TE} {t:uIq} (ho:PE X o to) (hi:PE X i ti) (hs:yUq X t)
    (ha:∀ v,assign (.Subscript o i pos) X.env v=(do
      let ov ← holding [v] (eval o X.env)
      let iv ← holding [v,ov] (eval i X.env)
      standAt pos
      holding [v,ov,iv] (setItem ov iv v)
      release [v,ov,iv] []):=by intro _;rfl):PG X (.Subscript o i pos) (gSub to ti t):=by
  intro pins s σ H v u Q I r h
  rw [ha]
  refine wpAny_bind (wpAny_holding (thn (ho pins s σ H _ I h) λ ov s1 ⟨x,H1,I1,r1,q1⟩=>?_))
  refine wpAny_bind (wpAny_holding (thn (hi pins s1 σ H1 _ I1 q1) λ iv s2 ⟨y,H2,I2,r2,q2⟩=>?_))
  refine wpAny_bind (wpAny_standAt (wpAny_bind (wpAny_holding (thn (hs pins s2 σ H2 x y v ov iv u _ I2 r1 r2 r q2) λ _ s3 ⟨H3,I3,q3⟩=>?_))))
  exact wpAny_release ⟨σ,H3,I3,q3⟩
def vTq (te:TE) (g:TG):TS:=λ D σ H=>te σ H λ x H1=>g x σ H1 D.nx
theorem uYq {tg e:Expr} {te:TE} {g:TG} (he:PE X e te) (hg:PG X tg g) (hs:swapsWithSole [tg] e pos.line X.env=pure false:=by rfl) (hw:swappedStores [tg] e X.env=pure none:=by rfl)
    (h1:(assignEach [tg] X.env).map (·.2)=[assign tg X.env]:=by rfl):PS X (.Assign [tg] e pos) (vTq te g):=by
  intro pins s σ H D I h
  refine wpAny_Assign_stores (thn (he pins s σ H _ I h) λ v s1 ⟨x,H1,I1,r1,q1⟩=>?_) hs hw
  rw [h1]
  exact thn (hg pins s1 σ H1 x v _ I1 r1 q1) λ _ s2 q=>q
theorem uJq {i:Nat} {x:Str} {e:Expr} {te:TE} {pos':Pos} (hN:X.N.Nodup) (hi:X.N[i]?=some x) (hx:Loc X.env.scope x) (he:PE X e te) (hs:swapsWith e (some (.Name x pos')) pos.line X.env=pure false:=by rfl) (hf:X.fn x=true\/X.env.scope.names.lookup x=some .local:=by first | exact .inl rfl | exact .inr rfl | assumption) :
    PS X (.Assign [.Name x pos'] e pos) (vTq te (pBq i)):=by
  intro pins s σ H D I h
  refine wpAny_Assign_Name (thn (he pins s σ H _ I h) λ v s1 ⟨y,H1,I1,r1,q1⟩=>?_) hs
  exact fWq I1 hN hi hx r1 (λ s2 I2=>⟨_,H1,I2,q1⟩) hf
def tAug (i:Nat) (te:TE) (ti:TIp):TS:=λ D σ H=>∃ x,σ[i]?=some (some x)/\te σ H λ y H1=>ti x y H1 λ z H2=>D.nx (σ.set i (some z)) H2
theorem xBq {i:Nat} {x:Str} {e:Expr} {te:TE} {op:Operator} {ti:TIp} {pos':Pos} (hN:X.N.Nodup) (hi:X.N[i]?=some x) (hx:Loc X.env.scope x) (he:PE X e te) (ho:PIp X op ti) (hf:X.fn x=true\/X.env.scope.names.lookup x=some .local:=by first | exact .inl rfl | exact .inr rfl | assumption) :
    PS X (.AugAssign (.Name x pos') op e pos) (tAug i te ti):=by
  intro pins s σ H D I h
  obtain ⟨v,e1,h⟩:=h
  obtain ⟨m,hn,hl⟩:=I.loc
  have vis:Vis X.env.scope x:=by rcases hx with k | k;exact .inl k;exact .inr (.inl k)
  obtain ⟨u,r,l⟩:=hl i x v hi e1 vis
  refine wpAny_AugAssign_Name ?_
  have go:wpAny (model X.prog X.w) X.A (eval e X.env) (λ w s₂=>wpAny (model X.prog X.w) X.A (inplaceOp op u w) (λ r s₃=>wpAny (model X.prog X.w) X.A (storeName X.env x r) (λ _=>SP X pins D .next) X.xe s₃) X.xe s₂) X.xe s:=by
    refine thn (he pins s σ H _ I h) λ w s1 ⟨y,H1,I1,r1,q1⟩=>?_
    refine thn (ho pins s1 σ H1 v y u w _ I1 r r1 q1) λ z s2 ⟨zv,H2,I2,r2,q2⟩=>?_
    exact fWq I2 hN hi hx r2 (λ s3 I3=>⟨_,H2,I3,q2⟩) hf
  rcases l with ⟨hk,hm⟩ | ⟨hk,c,hc,hcell⟩
  . exact wpAny_loadName_local I.ok.kind hk hn hm go
  . rcases hk with hk | hk
    . exact wpAny_loadName_cell I.ok.kind hk hc hcell go
    . rcases hx with k | k
      . have:X.env.scope.names.lookup x=some .free:=hk
        rw [k] at this;cases this
      . have:X.env.scope.names.lookup x=some .free:=hk
        rw [k] at this;cases this
def ipI (f:Int->Int->Int):TIp:=λ x y H Q=>∃ i j,x=.int i/\y=.int j/\Q (.int (f i j)) H
theorem y3q:PIp X .Add (ipI λ i j=>i+j):=by
  intro pins s σ H x y v u Q I r1 r2 h
  obtain ⟨i,j,e1,e2,q⟩:=h
  subst e1;subst e2
  obtain ⟨t,rfl⟩:=r1
  obtain ⟨t',rfl⟩:=r2
  exact iadd_int ⟨.int _,H,I.tok _,⟨_,rfl⟩,q⟩
end
section
variable {X:Cx} {pos:Pos}
def rFq (c:TT) (tb:TS):TS:=λ D σ H=>∃ W:Nat->St->Hp->Prop,(∃ m,W m σ H)/\∀ m σ H,W m σ H →
  c σ H λ b H1=>if b=true then ∃ N:St->Hp->Prop,(∀ σ' H',N σ' H'->∃ m',m' < m/\W m' σ' H')/\tb { D with nx:=N,ct:=N,bk:=D.nx } σ H1 else D.nx σ H1
theorem oHq {c:Expr} {body:List Stmt} {tc:TT} {tb:TS} (hp:PassesOwn (model X.prog X.w) X.A X.env X.xe) (hc:PT X c tc) (hb:PSs X body tb):PS X (.While c body [] pos) (rFq tc tb):=by
  intro pins s σ H D I h
  obtain ⟨W,⟨m0,w0⟩,turn⟩:=h
  refine wpAny_While (codeAny_whileLoop (λ n s'=>∃ σ' H',Inv X pins σ' H' s'/\W n σ' H') ?_ m0 ⟨σ,H,I,w0⟩)
  rintro n s1 ⟨σ1,H1,I1,w1⟩
  refine wpAny_passesOwn hp (thn (hc pins s1 σ1 H1 _ I1 (turn n σ1 H1 w1)) λ b s2 ⟨H2,I2,q2⟩=>?_)
  cases b with
  | true=>
    obtain ⟨N,hN,q2⟩:=q2
    rw [if_pos rfl]
    refine wpAny_passesOwn hp (thn (hb pins s2 σ1 H2 _ I2 q2) λ f s3 q3=>?_)
    cases f with
    | next=>
      obtain ⟨σ3,H3,I3,n3⟩:=q3
      obtain ⟨m',hm,w3⟩:=hN σ3 H3 n3
      exact ⟨m',hm,σ3,H3,I3,w3⟩
    | cont=>
      obtain ⟨σ3,H3,I3,n3⟩:=q3
      obtain ⟨m',hm,w3⟩:=hN σ3 H3 n3
      exact ⟨m',hm,σ3,H3,I3,w3⟩
    | brk=>exact q3
    | ret v=>exact q3
  | false=>
    rw [if_neg Bool.false_ne_true]
    exact wpAny_execs_nil ⟨σ1,H2,I2,q2⟩
end
structure It where
  go:Nat->Hp->Prop
  yld:Nat->Hp->V->Hp->Prop
  stop:Nat->Hp->Prop
def iBq (X:Cx) (pins:List (Addr × Obj)) (H:Hp) (b:Addr):Prop:=
  H b=none/\b≠X.env.locals/\b ∉ X.fs/\(b∈X.ex\/X.s₀.heap.objs.size<=b)/\(∀ x c,X.env.cells.lookup x=some c->c≠b)/\∀ p∈X.pn++pins,p.1≠b
theorem Inv.fpOk {X:Cx} {pins:List (Addr × Obj)} {σ:St} {H H':Hp} {s:Shared} {b:Addr} (I:Inv X pins σ H s) (hb:s.heap.objs.size<=b) (hn:H' b=none):iBq X pins H' b:=by
  refine ⟨hn,Nat.ne_of_gt (Nat.lt_of_lt_of_le I.lt hb),I.nofs hb,.inr (Nat.le_trans I.sz hb),λ x c e z=>?_,λ p hp z=>?_⟩
  . obtain ⟨v,q⟩:=I.cell x c e
    exact absurd (Nat.lt_of_lt_of_le q.lt (by rw [z];exact hb)) (Nat.lt_irrefl _)
  . exact absurd (Nat.lt_of_lt_of_le (Heap.lt_size (I.pin p hp).1) (by rw [z];exact hb)) (Nat.lt_irrefl _)
structure Turn (P:Program) (w:World) (K:PySem.W.Frag) (tg:Expr) (J:It) (fp:List Addr) (it:Addr) (tn:Nat->Heap->Prop):Prop where
  mem:it∈fp
  obj:∀ i h,tn i h->∀ b∈fp,∃ o,h.get? b=some o/\∀ v,o.data≠.cell v
  keep:∀ i h h',tn i h->(∀ b∈fp,∀ o,h.get? b=some o->h'.get? b=some o)->tn i h'
  item:∀ (X:Cx),X.prog=P->X.w=w->X.K=K->X.calm=true->∀ (i:Nat) (pins:List (Addr × Obj)) (s:Shared) (σ:St) (H:Hp) (E:Value->Shared->Prop),Inv X pins σ H s->(∀ b∈fp,iBq X pins H b)->tn i s.heap->J.go i H →
    wpAny (model P w) X.A (pyNext (.ref it)) (λ r s1=>∃ u,r=some u ∧
      wpAny (model P w) X.A (letOwnedTupleGo tg (.ref it) u) (λ _ s2=>∃ x H',Inv X pins σ H' s2/\RelV x u/\J.yld i H x H'/\tn (i+1) s2.heap/\∀ b∈fp,H' b=none) E s1) E s
  done:∀ (X:Cx),X.prog=P->X.w=w->X.K=K->X.calm=true->∀ (i:Nat) (pins:List (Addr × Obj)) (s:Shared) (σ:St) (H:Hp) (E:Value->Shared->Prop),Inv X pins σ H s->(∀ b∈fp,iBq X pins H b)->tn i s.heap->J.stop i H →
    wpAny (model P w) X.A (pyNext (.ref it)) (λ r s1=>r=none/\Inv X pins σ H s1) E s
  self:∀ (A:Around) (i:Nat) (s:Shared) (Q:Value->Shared->Prop) (E:Value->Shared->Prop),tn i s.heap->Q (.ref it) s->wpAny (model P w) A (pyIter (.ref it)) Q E s
abbrev TI:=St->Hp->(It->Hp->Prop)->Prop
def PIE (X:Cx) (pins:List (Addr × Obj)) (σ:St) (tg:Expr) (R:It->Hp->Prop) (itv:Value) (s2:Shared):Prop:=
  ∃ (it:Addr) (fp:List Addr) (tn:Nat->Heap->Prop) (J:It) (H':Hp),itv=.ref it/\Inv X pins σ H' s2/\Turn X.prog X.w X.K tg J fp it tn/\tn 0 s2.heap/\(∀ b∈fp,iBq X pins H' b)/\R J H'
def PI (X:Cx) (tg iter:Expr) (wi:TI):Prop:=
  ∀ (pins:List (Addr × Obj)) (s:Shared) (σ:St) (H:Hp) (R:It->Hp->Prop),Inv X pins σ H s->wi σ H R →
    wpAny (model X.prog X.w) X.A (eval iter X.env) (λ v s1=>wpAny (model X.prog X.w) X.A (pyIter v) (PIE X pins σ tg R) X.xe s1) X.xe s
theorem l5q {M:Model} {A:Around} {E:Value->Shared->Prop} {s:Shared} {tg:Expr} {it:Addr} {u:Value} {o:Obj} {n:String} {vs:Array Value} {Q:Unit->Shared->Prop} (ho:s.heap.get? it=some o) (hc:o.cls=.type n) (hd:o.data=.fields vs)
    (hn:["enumerate", "zip", "dict_itemiterator", "dict_reverseitemiterator", "odict_iterator", "itertools.zip_longest", "itertools.pairwise"].contains n=false) (hQ:Q () s):wpAny M A (letOwnedTupleGo tg (.ref it) u) Q E s:=by
  unfold letOwnedTupleGo
  cases tg<;>first
    | exact wpAny_pure hQ
    | (cases u<;>first
        | exact wpAny_pure hQ
        | (refine wpAny_bind (wpAny_load ho ?_)
           rw [hc,hd]
           show wpAny M A (if (["enumerate", "zip", "dict_itemiterator", "dict_reverseitemiterator", "odict_iterator", "itertools.zip_longest", "itertools.pairwise"].contains n&&vs[0]?==some (rawInt _))=true then _ else _) Q E s
           rw [if_neg (by intro h;rw [hn,Bool.false_and] at h;cases h)]
           exact wpAny_pure hQ))
def Itl (K:PySem.W.Frag) (a:Addr):It:=
  ⟨λ i H=>∃ xs x,SqL K H a xs/\xs[i]?=some x,λ i H x H'=>H'=H/\∀ xs,SqL K H a xs->xs[i]?=some x,λ i H=>∃ xs,SqL K H a xs/\xs.length<=i⟩
def Itt (K:PySem.W.Frag) (a:Addr):It:=
  ⟨λ i H=>∃ xs x,SqT K H a xs/\xs[i]?=some x,λ i H x H'=>H'=H/\∀ xs,SqT K H a xs->xs[i]?=some x,λ i H=>∃ xs,SqT K H a xs/\xs.length<=i⟩
def Itr (lo:Int) (n:Nat):It:=⟨λ i _=>i < n,λ i H x H'=>H'=H/\x=.int (lo+i),λ i _=>n<=i⟩
theorem nTq {P:Program} {w:World} {K:PySem.W.Frag} {tg:Expr} (a it:Addr):Turn P w K tg (Itl K a) [it] it (λ i h=>h.IsListIter it a i) where
  mem:=by simp
  obj:=λ i h st b hb=>by
    have e:b=it:=by simpa using hb
    subst e
    obtain ⟨o,e,c,d⟩:=st
    exact ⟨o,e,λ v z=>by rw [d] at z;cases z⟩
  keep:=λ i h h' st k=>st.at λ o e=>k it (by simp) o e
  item:=by
    intro X hP hw hK hc i pins s σ H E I hf st hg
    subst hP hw hK
    obtain ⟨xs,x,hq,hx⟩:=hg
    obtain ⟨its,rv,p,hz⟩:=I.list hq
    obtain ⟨u,hu,ru⟩:=rv.get hx
    obtain ⟨f0,f1,f2,f3,f4,f5⟩:=hf it (by simp)
    refine wpAny_pyNext_list_item st p.isList (x:=u) (by simpa using hu) λ h' st' sb=>?_
    have I1:Inv X pins σ H { s with heap:=h' }:=I.turned (t':=s.toks) (λ b o hb e=>(sb.2 b hb).trans e) f0 f1 f3 f4 f5
    obtain ⟨o,e,c,d⟩:=id st'
    exact ⟨u,rfl,l5q (s:={ s with heap:=h' }) e c d (by decide) ⟨x,H,I1,ru,⟨rfl,λ ys hy=>by rw [I.list_inj hy hq];exact hx⟩,st',λ b hb=>(hf b hb).1⟩⟩
  done:=by
    intro X hP hw hK hc i pins s σ H E I hf st hg
    subst hP hw hK
    obtain ⟨xs,hq,hx⟩:=hg
    obtain ⟨its,rv,p,hz⟩:=I.list hq
    obtain ⟨f0,f1,f2,f3,f4,f5⟩:=hf it (by simp)
    have hl:=rv.length
    exact wpAny_pyNext_list_end (I.ok.hd hc) st p.isList (by simp;omega) λ h' eb=>⟨rfl,I.turned (t':=s.toks) (λ b o hb e=>eb b o hb e) f0 f1 f3 f4 f5⟩
  self:=λ _ _ _ _ _ st h=>wpAny_pyIter_listiter st h
theorem kCq {P:Program} {w:World} {K:PySem.W.Frag} {tg:Expr} (a it:Addr):Turn P w K tg (Itt K a) [it] it (λ i h=>h.IsTupleIter it a i) where
  mem:=by simp
  obj:=λ i h st b hb=>by
    have e:b=it:=by simpa using hb
    subst e
    obtain ⟨o,e,c,d⟩:=st
    exact ⟨o,e,λ v z=>by rw [d] at z;cases z⟩
  keep:=λ i h h' st k=>st.at λ o e=>k it (by simp) o e
  item:=by
    intro X hP hw hK hc i pins s σ H E I hf st hg
    subst hP hw hK
    obtain ⟨xs,x,hq,hx⟩:=hg
    obtain ⟨its,rv,p,hz⟩:=I.tuple hq
    obtain ⟨u,hu,ru⟩:=rv.get hx
    obtain ⟨f0,f1,f2,f3,f4,f5⟩:=hf it (by simp)
    refine wpAny_pyNext_tuple_item st (show s.heap.IsTuple a its.toArray from p) (x:=u) (by simpa using hu) λ h' st' sb=>?_
    have I1:Inv X pins σ H { s with heap:=h' }:=I.turned (t':=s.toks) (λ b o hb e=>(sb.2 b hb).trans e) f0 f1 f3 f4 f5
    obtain ⟨o,e,c,d⟩:=id st'
    exact ⟨u,rfl,l5q (s:={ s with heap:=h' }) e c d (by decide) ⟨x,H,I1,ru,⟨rfl,λ ys hy=>by rw [I.tuple_inj hy hq];exact hx⟩,st',λ b hb=>(hf b hb).1⟩⟩
  done:=by
    intro X hP hw hK hc i pins s σ H E I hf st hg
    subst hP hw hK
    obtain ⟨xs,hq,hx⟩:=hg
    obtain ⟨its,rv,p,hz⟩:=I.tuple hq
    obtain ⟨f0,f1,f2,f3,f4,f5⟩:=hf it (by simp)
    have hl:=rv.length
    exact wpAny_pyNext_tuple_end (I.ok.hd hc) st (show s.heap.IsTuple a its.toArray from p) (by simp;omega) λ h' eb=>⟨rfl,I.turned (t':=s.toks) (λ b o hb e=>eb b o hb e) f0 f1 f3 f4 f5⟩
  self:=λ _ _ _ _ _ st h=>wpAny_pyIter_tupleiter st h
theorem kRq {P:Program} {w:World} {K:PySem.W.Frag} {tg:Expr} (it:Addr) (lo:Int) (n:Nat):Turn P w K tg (Itr lo n) [it] it (λ i h=>IsRangeIter h it (lo+(i:Nat) * 1) ((n:Int) - (i:Nat)) 1) where
  mem:=by simp
  obj:=λ i h st b hb=>by
    have e:b=it:=by simpa using hb
    subst e
    exact ⟨_,st,λ v z=>by
      have z':Data.fields _=Data.cell v:=z
      cases z'⟩
  keep:=λ i h h' st k=>k it (by simp) _ st
  item:=by
    intro X hP hw hK hc i pins s σ H E I hf st hg
    subst hP hw hK
    obtain ⟨f0,f1,f2,f3,f4,f5⟩:=hf it (by simp)
    have W:=Walks.range (prog:=X.prog) (w:=X.w) (I.ok.hd hc) it lo 1 n
    refine W.item i s _ _ hg st λ v h' tk hv st' kk=>?_
    obtain ⟨t,rfl⟩:=hv
    have I1:Inv X pins σ H { s with heap:=h',toks:=tk }:=I.turned (λ b o hb e=>kk b o (by simpa using hb) e) f0 f1 f3 f4 f5
    refine ⟨_,rfl,l5q (s:={ s with heap:=h',toks:=tk }) (n:="range_iterator") st' rfl rfl (by decide) ⟨.int (lo+i),H,I1,⟨t,?_⟩,⟨rfl,rfl⟩,st',λ b hb=>(hf b hb).1⟩⟩
    rw [Int.mul_one]
  done:=by
    intro X hP hw hK hc i pins s σ H E I hf st hg
    subst hP hw hK
    obtain ⟨f0,f1,f2,f3,f4,f5⟩:=hf it (by simp)
    exact wpAny_pyNext_range_end (I.ok.hd hc) st (by have:n<=i:=hg;omega) λ h' eb=>⟨rfl,I.turned (t':=s.toks) (λ b o hb e=>eb b o hb e) f0 f1 f3 f4 f5⟩
  self:=λ _ _ _ _ _ st h=>wpAny_pyIter_rangeiter st h
section
variable {X:Cx} {tg:Expr}
theorem p1q {pins:List (Addr × Obj)} {σ:St} {H:Hp} {s:Shared} {R:It->Hp->Prop} {E:Value->Shared->Prop} {lo hi:Int} {t u v:Tok} {tk:Nat} (I:Inv X pins σ H s) (h1:-(2 ^ 62)<=lo) (h2:lo < 2 ^ 62) (h3:-(2 ^ 62)<=hi) (h4:hi < 2 ^ 62)
    (q:R (Itr lo (hi - lo).toNat) H):wpAny (model X.prog X.w) X.A (pyIter (.ref s.heap.objs.size)) (PIE X pins σ tg R) E { s with heap:=s.heap.push { cls:=.type "range", data:=.fields #[.int lo t,.int hi u,.int 1 v] },toks:=tk }:=by
  refine wpAny_pyIter_range (IsRange.new ..) (small_one h1 h2 h3 h4) ?_
  have I1:Inv X pins σ H { s with heap:=s.heap.push { cls:=.type "range", data:=.fields #[.int lo t,.int hi u,.int 1 v] },toks:=tk }:=I.kept λ b o e=>Heap.get?_push_of_some _ e
  refine ⟨(s.heap.push { cls:=.type "range", data:=.fields #[.int lo t,.int hi u,.int 1 v] }).objs.size,[(s.heap.push { cls:=.type "range", data:=.fields #[.int lo t,.int hi u,.int 1 v] }).objs.size],_,_,H,rfl,
    I1.kept (t':=tk) λ b o e=>Heap.get?_push_of_some _ e,kRq _ lo (hi - lo).toNat,?_,λ b hb=>?_,q⟩
  . have e1:lo+((0:Nat):Int) * 1=lo:=by simp
    have e2:(((hi - lo).toNat:Nat):Int) - ((0:Nat):Int)=Builtin.Range.rangeSize lo hi 1:=by rw [rangeSize_one];split<;>omega
    show IsRangeIter _ _ (lo+((0:Nat):Int) * 1) ((((hi - lo).toNat:Nat):Int) - ((0:Nat):Int)) 1
    rw [e1,e2]
    exact Heap.get?_push_size _ rfl
  . have e:b=(s.heap.push { cls:=.type "range", data:=.fields #[.int lo t,.int hi u,.int 1 v] }).objs.size:=by simpa using hb
    subst e
    exact I1.fpOk (Nat.le_refl _) (I1.hok.fresh (Nat.le_refl _))
def vQq (ta:TA):TI:=λ σ H R=>ta σ H λ vs H1=>∃ j:Int,vs=[.int j]/\-(2 ^ 62)<=j/\j < 2 ^ 62/\R (Itr 0 j.toNat) H1
theorem n9q {a:Expr} {ta:TA} {p pos:Pos} (hg:Gl X "range") (hm:X.mg "range" = none) (ha:PA X [a] ta) (hs:starEach [a] X.env=[(false,eval a X.env)]:=by rfl):PI X tg (.Call (.Name "range" p) [a] [] pos) (vQq ta):=by
  intro pins s σ H R I h
  refine Call_ (cSq I hg hm boot_range (PyProof.Rows.callWith_type1 (thn (ha pos pins s σ H _ I h) λ us s1 ⟨vs,H1,I1,r1,q1⟩=>?_) hs rfl))
  obtain ⟨j,e,q1,q2,q⟩:=q1
  subst e
  cases r1 with
  | cons r rr=>
    cases rr
    obtain ⟨t,rfl⟩:=r
    exact call_range_1 (p1q I1 (by omega) (by omega) q1 q2 (by simpa using q))
def tFor (wi:TI) (g:TG) (tb:TS):TS:=λ D σ H=>wi σ H λ J H1=>∃ W:Nat->Nat->St->Hp->Prop,(∃ m,W 0 m σ H1)/\∀ i m σ H,W i m σ H →
  (J.stop i H/\D.nx σ H)\/(J.go i H/\∃ N:St->Hp->Prop,(∀ σ' H',N σ' H'->∃ m',m' < m/\W (i+1) m' σ' H')/\∀ x H',J.yld i H x H'->g x σ H' λ σ2 H2=>tb { D with nx:=N,ct:=N,bk:=D.nx } σ2 H2)
def jPq (fp:List Addr) (h:Heap):List (Addr × Obj):=fp.filterMap λ b=>(h.get? b).map λ o=>(b,o)
theorem b3q {fp:List Addr} {h:Heap} {b:Addr} {o:Obj} (hb:b∈fp) (e:h.get? b=some o):(b,o)∈jPq fp h:=List.mem_filterMap.mpr ⟨b,hb,by rw [e];rfl⟩
theorem o4q {fp:List Addr} {h:Heap} {p:Addr × Obj} (hp:p∈jPq fp h):p.1∈fp/\h.get? p.1=some p.2:=by
  obtain ⟨b,hb,e⟩:=List.mem_filterMap.mp hp
  cases q:h.get? b with
  | none=>rw [q] at e;cases e
  | some o=>
    rw [q] at e
    have e':(b,o)=p:=Option.some.inj e
    subst e'
    exact ⟨hb,q⟩
theorem Inv.pinned {pins:List (Addr × Obj)} {σ:St} {H:Hp} {s:Shared} {fp:List Addr} (I:Inv X pins σ H s) (hf:∀ b∈fp,iBq X pins H b) (ho:∀ b∈fp,∃ o,s.heap.get? b=some o/\∀ v,o.data≠.cell v):Inv X (pins++jPq fp s.heap) σ H s:=
  I.pins_of λ p hp=>(List.mem_append.mp hp).elim (λ z=>I.pin p (List.mem_append_right _ z)) λ z=>by
    obtain ⟨hb,e⟩:=o4q z
    obtain ⟨f0,f1,f2,_⟩:=hf p.1 hb
    obtain ⟨o,e',d⟩:=ho p.1 hb
    rw [e] at e';cases e'
    exact ⟨e,f0,f1,f2,d⟩
theorem Inv.unpinned {pins pl:List (Addr × Obj)} {σ:St} {H:Hp} {s:Shared} (I:Inv X (pins++pl) σ H s):Inv X pins σ H s:=I.pins_of λ p hp=>I.pin p (List.mem_append_right _ (List.mem_append_left _ hp))
theorem x1q {iter:Expr} {body:List Stmt} {wi:TI} {g:TG} {tb:TS} {pos:Pos} (hp:PassesOwn (model X.prog X.w) X.A X.env X.xe) (hc:X.calm=true) (hi:PI X tg iter wi) (hg:PG X tg g) (hb:PSs X body tb)
    (hs:∀ x,foldedSetIterable iter X.env x=pure x:=by intro _;rfl):PS X (.For tg iter body [] pos) (tFor wi g tb):=by
  intro pins s σ H D I h
  refine wpAny_For (thn (hi pins s σ H _ I h) λ v s1 h1=>thn h1 λ itv s2 h2=>?_) hs
  obtain ⟨it,fp,tn,J,H2,e,I2,T,st2,f2,W,⟨m0,w0⟩,turn⟩:=h2
  subst e
  have stat:∀ {H':Hp},(∀ b∈fp,H' b=none)->∀ b∈fp,iBq X pins H' b:=λ hn b hb=>⟨hn b hb,(f2 b hb).2⟩
  refine codeAny_forLoop_any (λ n s'=>∃ i σ' H',Inv X pins σ' H' s'/\tn i s'.heap/\(∀ b∈fp,H' b=none)/\W i n σ' H') ?_ m0 ⟨0,σ,H2,I2,st2,λ b hb=>(f2 b hb).1,w0⟩
  rintro n s3 ⟨i,σ3,H3,I3,st3,fr3,w3⟩
  rcases turn i n σ3 H3 w3 with ⟨stop,qn⟩ | ⟨go,N,hN,step⟩
  . refine wpAny_passesOwn hp (thn (T.done X rfl rfl rfl hc i pins s3 σ3 H3 X.xe I3 (stat fr3) st3 stop) λ r s4 ⟨hr,I4⟩=>?_)
    subst hr
    exact wpAny_execs_nil ⟨σ3,H3,I4,qn⟩
  . refine wpAny_passesOwn hp (thn (T.item X rfl rfl rfl hc i pins s3 σ3 H3 X.xe I3 (stat fr3) st3 go) λ r s4 ⟨u,hr,h4⟩=>?_)
    subst hr
    refine wpAny_passesOwn hp (thn h4 λ _ s5 ⟨x,H5,I5,r5,y5,st5,fr5⟩=>?_)
    have I5':=I5.pinned (stat fr5) (T.obj _ _ st5)
    refine wpAny_passesOwn hp (thn (hg _ s5 σ3 H5 x u _ I5' r5 (step x H5 y5)) λ _ s6 ⟨σ6,H6,I6,q6⟩=>?_)
    refine wpAny_passesOwn hp (thn (hb _ s6 σ6 H6 _ I6 q6) λ f s7 q7=>?_)
    have again:∀ {σ7:St} {H7:Hp},Inv X (pins++jPq fp s5.heap) σ7 H7 s7->N σ7 H7->∃ m,m < n/\∃ i σ' H',Inv X pins σ' H' s7/\tn i s7.heap/\(∀ b∈fp,H' b=none)/\W i m σ' H':=λ{σ7 H7} I7 n7=>by
      obtain ⟨m',hm,w7⟩:=hN σ7 H7 n7
      refine ⟨m',hm,i+1,σ7,H7,I7.unpinned,T.keep _ _ _ st5 λ b hb o e=>(I7.pin (b,o) (List.mem_append_right _ (List.mem_append_right _ (b3q hb e)))).1,λ b hb=>?_,w7⟩
      obtain ⟨o,e,d⟩:=T.obj _ _ st5 b hb
      exact (I7.pin (b,o) (List.mem_append_right _ (List.mem_append_right _ (b3q hb e)))).2.1
    cases f with
    | next=>obtain ⟨σ7,H7,I7,n7⟩:=q7;exact again I7 n7
    | cont=>obtain ⟨σ7,H7,I7,n7⟩:=q7;exact again I7 n7
    | brk=>obtain ⟨σ7,H7,I7,q7⟩:=q7;exact ⟨σ7,H7,I7.unpinned,q7⟩
    | ret v=>obtain ⟨x7,σ7,H7,I7,r7,q7⟩:=q7;exact ⟨x7,σ7,H7,I7.unpinned,r7,q7⟩
end
abbrev R2:=V->V->Hp->VK->Prop
def OpR (X:Cx) (f:Value->Value->Sem Value) (r:R2):Prop:=
  ∀ (pins:List (Addr × Obj)) (s:Shared) (σ:St) (H:Hp) (x y:V) (v u:Value) (Q:VK),Inv X pins σ H s->RelV x v->RelV y u->r x y H Q →
    wpAny (model X.prog X.w) X.A (f v u) (EP X pins σ Q) X.xe s
def UnR (X:Cx) (f:Value->Sem Value) (r:V->Hp->VK->Prop):Prop:=
  ∀ (pins:List (Addr × Obj)) (s:Shared) (σ:St) (H:Hp) (x:V) (v:Value) (Q:VK),Inv X pins σ H s->RelV x v->r x H Q →
    wpAny (model X.prog X.w) X.A (f v) (EP X pins σ Q) X.xe s
def CallR (X:Cx) (f:Value) (r:List V->Hp->VK->Prop):Prop:=
  ∀ (pins:List (Addr × Obj)) (s:Shared) (σ:St) (H:Hp) (xs:List V) (us:List Value) (Q:VK),Inv X pins σ H s->Vals xs us->r xs H Q →
    wpAny (model X.prog X.w) X.A (call f us) (EP X pins σ Q) X.xe s
def TruR (X:Cx) (r:V->Hp->(Bool->Hp->Prop)->Prop):Prop:=
  ∀ (pins:List (Addr × Obj)) (s:Shared) (σ:St) (H:Hp) (x:V) (v:Value) (Q:Bool->Hp->Prop),Inv X pins σ H s->RelV x v->r x H Q →
    wpAny (model X.prog X.w) X.A (truthy v) (TP X pins σ Q) X.xe s
def tOp (r:R2) (ta tb:TE):TE:=λ σ H Q=>ta σ H λ x H1=>tb σ H1 λ y H2=>r x y H2 Q
def tUn (r:V->Hp->VK->Prop) (ta:TE):TE:=λ σ H Q=>ta σ H λ x H1=>r x H1 Q
def rI (C:Int->Int->Prop) (g:Int->Int->V):R2:=λ x y H Q=>∃ i j,x=.int i/\y=.int j/\C i j/\Q (g i j) H
def rI0 (g:Int->Int->V):R2:=λ x y H Q=>∃ i j,x=.int i/\y=.int j/\Q (g i j) H
def rU (g:Int->V):V->Hp->VK->Prop:=λ x H Q=>∃ i,x=.int i/\Q (g i) H
section
variable {X:Cx} {a b c:Expr} {ta tb tc:TE} {pos:Pos}
theorem zBq (ha:PE X a ta) (hb:PE X b tb) {pins:List (Addr × Obj)} {s:Shared} {σ:St} {H:Hp} {R:V->V->Hp->Prop} (I:Inv X pins σ H s)
    (h:ta σ H λ x H1=>tb σ H1 λ y H2=>R x y H2) {Q:Value->Shared->Prop} {f:Value->Value->Sem Value}
    (hf:∀ v u s2 x y H2,Inv X pins σ H2 s2->RelV x v->RelV y u->R x y H2->wpAny (model X.prog X.w) X.A (f v u) Q X.xe s2) :
    wpAny (model X.prog X.w) X.A (eval a X.env) (λ v s₁=>wpAny (model X.prog X.w) X.A (eval b X.env) (λ u s₂=>wpAny (model X.prog X.w) X.A (f v u) Q X.xe s₂) X.xe s₁) X.xe s:=by
  refine thn (ha pins s σ H _ I h) λ v s1 ⟨x,H1,I1,r1,q1⟩=>?_
  refine thn (hb pins s1 σ H1 _ I1 q1) λ u s2 ⟨y,H2,I2,r2,q2⟩=>?_
  exact hf v u s2 x y H2 I2 r1 r2 q2
theorem z4q {op:Operator} {r:R2} (ho:OpR X (binaryOp op) r) (ha:PE X a ta) (hb:PE X b tb):PE X (.BinOp a op b pos) (tOp r ta tb):=by
  intro pins s σ H Q I h
  exact wpAny_BinOp (zBq ha hb I h λ v u s2 x y H2 I2 rx ry q=>ho pins s2 σ H2 x y v u Q I2 rx ry q)
theorem aD7q {op:UnaryOp} {r:V->Hp->VK->Prop} (ho:UnR X (unaryOp op) r) (ha:PE X a ta):PE X (.UnaryOp op a pos) (tUn r ta):=by
  intro pins s σ H Q I h
  exact UnaryOp_ (thn (ha pins s σ H _ I h) λ v s1 ⟨x,H1,I1,r1,q1⟩=>ho pins s1 σ H1 x v Q I1 r1 q1)
theorem opI {f:Value->Value->Sem Value} {C:Int->Int->Prop} {g:Int->Int->Int}
    (rule:∀ (i j:Int) (t u:Tok) (s:Shared) (Q:Value->Shared->Prop) (E:Value->Shared->Prop),C i j->Q (.int (g i j) s.toks) { s with toks:=s.toks+1 }->wpAny (model X.prog X.w) X.A (f (.int i t) (.int j u)) Q E s) :
    OpR X f (rI C λ i j=>.int (g i j)):=by
  intro pins s σ H x y v u Q I rx ry h
  obtain ⟨i,j,rfl,rfl,hc,q⟩:=h
  obtain ⟨t,rfl⟩:=rx
  obtain ⟨t',rfl⟩:=ry
  exact rule i j t t' s _ _ hc ⟨.int (g i j),H,I.tok _,⟨_,rfl⟩,q⟩
theorem opI0 {f:Value->Value->Sem Value} {g:Int->Int->Int}
    (rule:∀ (i j:Int) (t u:Tok) (s:Shared) (Q:Value->Shared->Prop) (E:Value->Shared->Prop),Q (.int (g i j) s.toks) { s with toks:=s.toks+1 }->wpAny (model X.prog X.w) X.A (f (.int i t) (.int j u)) Q E s) :
    OpR X f (rI0 λ i j=>.int (g i j)):=by
  intro pins s σ H x y v u Q I rx ry h
  obtain ⟨i,j,rfl,rfl,q⟩:=h
  obtain ⟨t,rfl⟩:=rx
  obtain ⟨t',rfl⟩:=ry
  exact rule i j t t' s _ _ ⟨.int (g i j),H,I.tok _,⟨_,rfl⟩,q⟩
theorem yPq {f:Value->Value->Sem Value} {g:Int->Int->Bool}
    (rule:∀ (i j:Int) (t u:Tok) (s:Shared) (Q:Value->Shared->Prop) (E:Value->Shared->Prop),Q (.bool (g i j)) s->wpAny (model X.prog X.w) X.A (f (.int i t) (.int j u)) Q E s) :
    OpR X f (rI0 λ i j=>.bl (g i j)):=by
  intro pins s σ H x y v u Q I rx ry h
  obtain ⟨i,j,rfl,rfl,q⟩:=h
  obtain ⟨t,rfl⟩:=rx
  obtain ⟨t',rfl⟩:=ry
  exact rule i j t t' s _ _ ⟨.bl (g i j),H,I,rfl,q⟩
def CPow (i j:Int):Prop:=0<=j/\j<=1000000/\i.natAbs < 2 ^ 64
def CMul (i j:Int):Prop:=(-(2 ^ 64) < i/\i < 2 ^ 64)\/(-(2 ^ 64) < j/\j < 2 ^ 64)
theorem CMul.ok {i j:Int} (h:CMul i j):IntMulOk i j:=by
  rcases h with ⟨h1,h2⟩ | ⟨h1,h2⟩
  . exact .of_left (intBits_le_64 h1 h2)
  . exact .of_right (intBits_le_64 h1 h2)
theorem op_add:OpR X (binaryOp .Add) (rI0 λ i j=>.int (i+j)):=opI0 λ _ _ _ _ _ _ _ q=>add_int q
theorem vUq:OpR X (binaryOp .Sub) (rI0 λ i j=>.int (i - j)):=opI0 λ _ _ _ _ _ _ _ q=>sub_int q
theorem vJq:OpR X (binaryOp .Mult) (rI CMul λ i j=>.int (i * j)):=opI λ _ _ _ _ _ _ _ hc q=>mul_int q hc.ok
theorem wEq:OpR X (binaryOp .Mod) (rI (λ _ j=>0 < j) λ i j=>.int (i % j)):=opI λ i j _ _ _ _ _ hc q=>by
  have h1:(0:Int) < j:=hc
  exact mod_int' (by omega) (by rw [Int.fmod_eq_emod_of_nonneg i (by omega)];exact q)
theorem yBq:OpR X (binaryOp .Pow) (rI CPow λ i j=>.int (i ^ j.toNat)):=opI λ _ _ _ _ _ _ _ hc q=>pow_int_small hc.1 hc.2.1 hc.2.2 q
theorem unI {f:Value->Sem Value} {g:Int->Int}
    (rule:∀ (i:Int) (t:Tok) (s:Shared) (Q:Value->Shared->Prop) (E:Value->Shared->Prop),Q (.int (g i) s.toks) { s with toks:=s.toks+1 }->wpAny (model X.prog X.w) X.A (f (.int i t)) Q E s) :
    UnR X f (rU λ i=>.int (g i)):=by
  intro pins s σ H x v Q I rx h
  obtain ⟨i,rfl,q⟩:=h
  obtain ⟨t,rfl⟩:=rx
  exact rule i t s _ _ ⟨.int (g i),H,I.tok _,⟨_,rfl⟩,q⟩
theorem v6q:UnR X (unaryOp .USub) (rU λ i=>.int (-i)):=unI λ _ _ _ _ _ q=>neg_int q
end
section
variable {X:Cx} {a b c:Expr} {ta tb tc:TE} {pos:Pos}
theorem m8q {pins:List (Addr × Obj)} {σ:St} {H:Hp} {s:Shared} {Q:VK} {k k':Bool} (I:Inv X pins σ H s) (q:Q (.bl k) H) (e:k=k'):EP X pins σ Q (.bool k') s:=by
  subst e
  exact ⟨.bl k,H,I,rfl,q⟩
theorem zGq:OpR X (compareOp .Lt) (rI0 λ i j=>.bl (decide (i < j))):=yPq λ _ _ _ _ _ _ _ q=>lt_int q
theorem z0q:OpR X (compareOp .LtE) (rI0 λ i j=>.bl (decide (i<=j))):=yPq λ _ _ _ _ _ _ _ q=>le_int q
theorem aC7q:OpR X (compareOp .Gt) (rI0 λ i j=>.bl (decide (j < i))):=yPq λ _ _ _ _ _ _ _ q=>gt_int q
theorem aC6q:OpR X (compareOp .GtE) (rI0 λ i j=>.bl (decide (j<=i))):=yPq λ _ _ _ _ _ _ _ q=>ge_int q
theorem mHq:OpR X (compareOp .In) (λ x y H Q=>∃ i j,x=.str i/\y=.str j/\Q (.bl (!(Builtin.Str.occurrences j i 0 j.length 1).isEmpty)) H):=by
  intro pins s σ H x y v u Q I rx ry h
  obtain ⟨i,j,rfl,rfl,q⟩:=h
  obtain ⟨t,rfl⟩:=rx
  obtain ⟨t',rfl⟩:=ry
  exact in_str (m8q I q rfl)
theorem y8q:OpR X (compareOp .Is) (λ x y H Q=>y=.non/\Q (.bl (decide (x=.non))) H):=by
  intro pins s σ H x y v u Q I rx ry h
  obtain ⟨rfl,q⟩:=h
  cases ry
  refine is_none_gen (m8q I q ?_)
  cases x<;>first
    | (cases rx;rfl)
    | (obtain ⟨t,rfl⟩:=rx;rfl)
theorem t2q:OpR X (compareOp .IsNot) (λ x y H Q=>y=.non/\Q (.bl (!decide (x=.non))) H):=by
  intro pins s σ H x y v u Q I rx ry h
  obtain ⟨rfl,q⟩:=h
  cases ry
  refine isnot_none_gen (m8q I q ?_)
  cases x<;>first
    | (cases rx;rfl)
    | (obtain ⟨t,rfl⟩:=rx;rfl)
theorem OpR.or {f:Value->Value->Sem Value} {r r':R2} (h:OpR X f r) (h':OpR X f r'):OpR X f (λ x y H Q=>r x y H Q\/r' x y H Q):=by
  intro pins s σ H x y v u Q I rx ry q
  rcases q with q | q
  . exact h pins s σ H x y v u Q I rx ry q
  . exact h' pins s σ H x y v u Q I rx ry q
theorem aJq (b:Expr) {op:CmpOp} (h:op≠.In:=by decide) (h2:op≠.NotIn:=by decide):behindInMarks op b=false:=by
  have e1:(op==CmpOp.In)=false:=by cases op<;>first | rfl | exact absurd rfl h
  have e2:(op==CmpOp.NotIn)=false:=by cases op<;>first | rfl | exact absurd rfl h2
  cases b<;>simp [behindInMarks,e1,e2]
theorem sSq {op:CmpOp} {r:R2} (ho:OpR X (compareOp op) r) (ha:PE X a ta) (hb:PE X b tb) (hm:behindInMarks op b=false):PE X (.Compare a [op] [b] pos) (tOp r ta tb):=by
  intro pins s σ H Q I h
  exact wpAny_Compare1 (zBq ha hb I h λ v u s2 x y H2 I2 rx ry q=>ho pins s2 σ H2 x y v u Q I2 rx ry q) hm
def rXq (t:TE):TT:=λ σ H Q=>t σ H λ x H'=>∃ k,x=.bl k/\Q k H'
theorem tCq {op:CmpOp} {r:R2} (ho:OpR X (compareOp op) r) (ha:PE X a ta) (hb:PE X b tb) (hm:behindInMarks op b=false):PT X (.Compare a [op] [b] pos) (rXq (tOp r ta tb)):=by
  intro pins s σ H Q I h
  refine wpAny_isTrue_Compare1 (thn (ha pins s σ H _ I h) λ v s1 ⟨x,H1,I1,r1,q1⟩=>thn (hb pins s1 σ H1 _ I1 q1) λ u s2 ⟨y,H2,I2,r2,q2⟩=>
    thn (ho pins s2 σ H2 x y v u _ I2 r1 r2 q2) λ c s3 ⟨z,H3,I3,r3,k,e,q3⟩=>?_) hm
  subst e
  cases r3
  exact wpAny_truthy_bool ⟨H3,I3,q3⟩
def rLq (r r':R2) (ta tb tc:TE):TE:=λ σ H Q=>ta σ H λ x H1=>tb σ H1 λ y H2=>r x y H2 λ z H3=>∃ k,z=.bl k ∧
  (if k=true then tc σ H3 λ w' H4=>r' y w' H4 Q else Q (.bl false) H3)
theorem qBq {op op':CmpOp} {r r':R2} (ho:OpR X (compareOp op) r) (ho':OpR X (compareOp op') r') (ha:PE X a ta) (hb:PE X b tb) (hc:PE X c tc)
    (hm:lastMarks [op,op'] [b,c]=false:=by with_unfolding_all rfl):PE X (.Compare a [op,op'] [b,c] pos) (rLq r r' ta tb tc):=by
  intro pins s σ H Q I h
  refine Compare_chain (thn (ha pins s σ H _ I h) λ v s1 ⟨x,H1,I1,r1,q1⟩=>chain_link (thn (hb pins s1 σ H1 _ I1 q1) λ u s2 ⟨y,H2,I2,r2,q2⟩=>
    thn (ho pins s2 σ H2 x y v u _ I2 r1 r2 q2) λ d s3 ⟨z,H3,I3,r3,k,e,q3⟩=>?_)) hm
  subst e
  cases r3
  refine wpAny_truthy_bool ?_
  cases k with
  | false=>exact ite_ff ⟨.bl false,H3,I3,rfl,q3⟩
  | true=>exact ite_tt (chain_last (thn (hc pins s3 σ H3 _ I3 q3) λ w' s4 ⟨z',H4,I4,r4,q4⟩=>ho' pins s4 σ H4 y z' u w' Q I4 r2 r4 q4))
theorem pDq {op op':CmpOp} {r r':R2} (ho:OpR X (compareOp op) r) (ho':OpR X (compareOp op') r') (ha:PE X a ta) (hb:PE X b tb) (hc:PE X c tc)
    (hm:lastMarks [op,op'] [b,c]=false:=by with_unfolding_all rfl):PT X (.Compare a [op,op'] [b,c] pos) (rXq (rLq r r' ta tb tc)):=by
  intro pins s σ H Q I h
  refine isTrue_chain (thn (ha pins s σ H _ I h) λ v s1 ⟨x,H1,I1,r1,q1⟩=>test_link (thn (hb pins s1 σ H1 _ I1 q1) λ u s2 ⟨y,H2,I2,r2,q2⟩=>
    thn (ho pins s2 σ H2 x y v u _ I2 r1 r2 q2) λ d s3 ⟨z,H3,I3,r3,k,e,q3⟩=>?_)) hm
  subst e
  cases r3
  refine wpAny_truthy_bool ?_
  cases k with
  | false=>
    obtain ⟨k',e',q'⟩:=q3
    cases e'
    exact ite_ff ⟨H3,I3,q'⟩
  | true=>
    refine ite_tt (test_last (thn (hc pins s3 σ H3 _ I3 q3) λ w' s4 ⟨z',H4,I4,r4,q4⟩=>thn (ho' pins s4 σ H4 y z' u w' _ I4 r2 r4 q4) λ d' s5 ⟨z2,H5,I5,r5,k2,e2,q5⟩=>?_))
    subst e2
    cases r5
    exact wpAny_truthy_bool ⟨H5,I5,q5⟩
def TruV (K:PySem.W.Frag) (x:V) (H:Hp) (k:Bool):Prop:=
  match x with
  | .non=>k=false
  | .bl b=>k=b
  | .int i=>k=(i !=0)
  | .str y=>y.length<=sizeLine/\k=((y.length:Int) !=0)
  | .byt y=>y.size<=sizeLine/\k=((y.size:Int) !=0)
  | .ref p=>(∃ xs,SqL K H p xs/\k=!xs.isEmpty)\/(∃ xs,SqT K H p xs/\k=!xs.isEmpty)\/∃ kvs,H p=some (.dK kvs)/\k=!kvs.isEmpty
  | _=>False
theorem kXq {κ:Type} {kvs:List (κ × V)} {vs:List (κ × Value)} (r:KV kvs vs):(!vs.isEmpty)=!kvs.isEmpty:=by
  cases r<;>rfl
theorem fAq {xs:List V} {its:List Value} (r:Vals xs its):(!its.toArray.isEmpty)=!xs.isEmpty:=by
  cases r<;>simp
theorem d9q:(sizeLine:Nat) < 2 ^ 63:=by rw [sizeLine_eq];decide
theorem xJq:TruR X (λ x H Q=>∃ k,TruV X.K x H k/\Q k H):=by
  intro pins s σ H x v Q I rx h
  obtain ⟨k,e,q⟩:=h
  have hl:=d9q
  have hs:sizeLine=16777216:=sizeLine_eq
  cases x with
  | non=>
    cases rx
    have e':k=false:=e
    subst e'
    exact truthy_none ⟨H,I,q⟩
  | bl b=>
    cases rx
    have e':k=b:=e
    subst e'
    exact wpAny_truthy_bool ⟨H,I,q⟩
  | int i=>
    obtain ⟨t,rfl⟩:=rx
    have e':k=(i !=0):=e
    subst e'
    exact PySem.P.truthy_int ⟨H,I,q⟩
  | str y=>
    obtain ⟨t,rfl⟩:=rx
    obtain ⟨hy,e'⟩:y.length<=sizeLine/\k=((y.length:Int) !=0):=e
    subst e'
    exact PySem.P.truthy_str (by omega) ⟨H,I.tok _,q⟩
  | byt y=>
    obtain ⟨t,rfl⟩:=rx
    obtain ⟨hy,e'⟩:y.size<=sizeLine/\k=((y.size:Int) !=0):=e
    subst e'
    exact PySem.W.truthy_bytes (by omega) ⟨H,I.tok _,q⟩
  | ref p=>
    cases rx
    have e':(∃ xs,SqL X.K H p xs/\k=!xs.isEmpty)\/(∃ xs,SqT X.K H p xs/\k=!xs.isEmpty)\/∃ kvs,H p=some (.dK kvs)/\k=!kvs.isEmpty:=e
    rcases e' with ⟨xs,hx,e'⟩ | ⟨xs,hx,e'⟩ | ⟨kvs,hx,e'⟩
    . subst e'
      obtain ⟨its,r,pl,hz⟩:=I.list hx
      have hlen:=r.length
      exact wpAny_truthy_list pl.isList (by simp only [List.size_toArray];omega) ⟨H,I.tok _,by rw [fAq r];exact q⟩
    . subst e'
      obtain ⟨its,r,pl,hz⟩:=I.tuple hx
      have hlen:=r.length
      exact truthy_tuple pl (by simp only [List.size_toArray];omega) ⟨H,I.tok _,by rw [fAq r];exact q⟩
    . subst e'
      obtain ⟨hz,hS,vs,r,m⟩:kvs.length<=sizeLine/\(p==sysModules)=false/\∃ vs,KV kvs vs/\s.heap.DictOf (aZq X.prog X.w) p vs:=I.hok p _ hx
      have hlen:kvs.length=vs.length:=Paired.length r
      exact wpAny_truthy_dict hS m (by omega) ⟨H,I.tok _,by rw [kXq r];exact q⟩
  | _=>exact (show False from e).elim
theorem pFq (ha:PE X a ta) (he:∀ whole,isTrue a X.env whole=(do let v ← whole;standAt a.pos;holding [v] (truthy v))) :
    PT X a (λ σ H Q=>ta σ H λ x H'=>∃ k,TruV X.K x H' k/\Q k H'):=by
  intro pins s σ H Q I h
  exact isTrue_plain (thn (ha pins s σ H _ I h) λ v s1 ⟨x,H1,I1,r1,q1⟩=>xJq pins s1 σ H1 x v Q I1 r1 q1) (he _)
theorem op_add_str:OpR X (binaryOp .Add) (λ x y H Q=>∃ i j,x=.str i/\y=.str j/\i.length+j.length<=sizeLine/\Q (.str (i++j)) H):=by
  intro pins s σ H x y v u Q I rx ry h
  obtain ⟨i,j,rfl,rfl,hz,q⟩:=h
  obtain ⟨t,rfl⟩:=rx
  obtain ⟨t',rfl⟩:=ry
  exact add_str (λ t' tk=>⟨.str (i++j),H,I.tok _,⟨_,rfl⟩,q⟩) hz
theorem hPq {x:V} {us:List Value} (r:Vals [x] us):∃ u,us=[u]/\RelV x u:=by
  cases r with
  | cons r1 r2=>cases r2;exact ⟨_,rfl,r1⟩
theorem mYq:CallR X (.type "int") (λ xs H Q=>(∃ i,xs=[.int i]/\Q (.int i) H)\/∃ k,xs=[.bl k]/\Q (.int (if k then 1 else 0)) H):=by
  intro pins s σ H xs us Q I r h
  rcases h with ⟨i,rfl,q⟩ | ⟨k,rfl,q⟩
  . obtain ⟨u,rfl,t,rfl⟩:=hPq r
    exact call_int_int ⟨.int i,H,I,⟨_,rfl⟩,q⟩
  . obtain ⟨u,rfl,r1⟩:=hPq r
    cases r1
    exact call_int_bool ⟨.int (if k then 1 else 0),H,I.tok _,⟨_,rfl⟩,q⟩
theorem hWq:CallR X (.type "str") (λ xs H Q=>∃ i,xs=[.int i]/\i.natAbs.log2 < 1920/\Q (.str (toString i)) H):=by
  intro pins s σ H xs us Q I r h
  obtain ⟨i,rfl,hz,q⟩:=h
  obtain ⟨u,rfl,t,rfl⟩:=hPq r
  exact PySem.P.str_of_int hz ⟨.str _,H,I.tok _,⟨_,rfl⟩,q⟩
end
structure ObjM (h:Heap) (x dx C:Addr) (mA:Str->Option Value):Prop where
  obj:h.get? x=some (PySem.W.instObj C dx)
  ns:h.Ns1 dx mA
  ne:dx≠x
theorem mXq {h:Heap} {dx:Addr} {mA:Str->Option Value} (n:h.Ns1 dx mA):∃ od,h.get? dx=some od/\∀ name,PySem.W.lookIn name od=some (mA name):=by
  obtain ⟨o,es,ep,ho,hd,hk,_,hm⟩:=n
  refine ⟨o,ho,λ name=>?_⟩
  have e:=hm name
  unfold nsFind findBy at e
  rw [<- Array.find?_toList] at e
  unfold PySem.W.lookIn
  rw [hd]
  dsimp only
  split
  . rename_i y q
    rw [q] at e
    exact congrArg some e
  . rename_i q
    rw [q] at e
    have a:es.toList.any (·.refKey)=false:=by
      rw [List.any_eq_false]
      intro y hy
      obtain ⟨z,t,hkey⟩:=hk y (Array.mem_toList_iff.mp hy)
      simp [DictEntry.refKey,hkey]
    have a':¬ es.toList.any (·.refKey)=true:=by rw [a];exact Bool.false_ne_true
    rw [if_neg a']
    exact congrArg some e
theorem ObjM.look {h:Heap} {x dx C:Addr} {mA:Str->Option Value} (I:ObjM h x dx C mA):∃ od,PySem.W.InstAt h x (PySem.W.instObj C dx) C (some od)/\∀ name,PySem.W.lookIn name od=some (mA name):=
  let ⟨od,ho,hl⟩:=mXq I.ns
  ⟨od,⟨I.obj,rfl,rfl,ho⟩,hl⟩
section
variable {prog:Program} {w:World} {A:Around} {E:Value->Shared->Prop} {s:Shared} {K:PySem.W.Frag} {x dx C f:Addr} {mA:Str->Option Value} {name:Str} {v:Value}
theorem t0q {expr:Bool} {Q:Value->Shared->Prop} (X:K.In s.heap) (I:ObjM s.heap x dx C mA) (hg:PySem.W.plainGet K C name=true) (hh:PySem.W.hasDictIn K C=true)
 (ha:PySem.W.findIn K (.ref C) name=some none) (hv:mA name=some v) (hv':PySem.W.handedIn v=true) (h:Q v { s with toks:=s.toks+1 }) :
    wpAny (model prog w) A (getAttr (.ref x) name expr) Q E s:=by
  obtain ⟨od,J,hl⟩:=I.look
  exact PySem.W.get_value X J (PySem.W.plainGet_of hg).1 (PySem.W.findObj_own hh ha rfl (by rw [hl,hv])) hv' h
theorem oYq {pl:Sem Bool} {Q:Value × List Value->Shared->Prop} (X:K.In s.heap) (I:ObjM s.heap x dx C mA) (hg:PySem.W.plainGet K C name=true)
 (hf:PySem.W.findIn K (.ref C) name=some (some (.ref f))) (ht:PySem.W.isFn K (.ref f)=true) (hv:mA name=none) (h:Q (.ref f,[.ref x]) s) :
    wpAny (model prog w) A (getMethod (.ref x) name pl) Q E s:=by
  obtain ⟨od,J,hl⟩:=I.look
  exact PySem.W.method_fn X J (PySem.W.plainGet_of hg).1 (PySem.W.plainGet_of hg).2 hf (beq_iff_eq.mp ht) (by show (PySem.W.lookIn name od).map (·.isSome)=some false;rw [hl,hv];rfl) h
theorem s5q {ns:List Str} {Q:Unit->Shared->Prop} (X:K.In s.heap) (I:ObjM s.heap x dx C mA)
 (hs:PySem.W.findIn K (.ref C) "__setattr__" = some (some (.builtin "object.__setattr__"))) (hp:PySem.W.plainOver K C=true) (ht:PySem.W.takerIn K C name=some none) (hh:PySem.W.hasDictIn K C=true)
    (hw:PySem.Within mA ns) (hsz:ns.length<=sizeLine)
    (h:∀ h',ObjM h' x dx C (λ y=>if y=name then some v else mA y)->Heap.SameBut dx s.heap h'->Q () { s with heap:=h',toks:=s.toks+2 }) :
    wpAny (model prog w) A (setAttr (.ref x) name v) Q E s:=by
  obtain ⟨od,J,hl⟩:=I.look
  refine PySem.W.set_plain X J hs (PySem.W.osa_open (s:={ s with toks:=s.toks+1 }) (r:=none) X J hp ht λ b=>?_)
  obtain ⟨cd,hc,hd'⟩:=PySem.W.any_some hh
  have hx:s.heap.get? x=some ⟨.ref C,some dx,.plain,#[]⟩:=I.obj
  refine wpAny_bind (wpAny_pure (wpAny_bind (wpAny_bind (wpAny_loadPart hx (wpAny_bind (PySem.W.Looks.here (s:={ s with toks:=s.toks+1 }) (PySem.W.looks_clsIn X hc) ?_))))))
  rw [hd']
  refine wpAny_pure (a:=some dx) (wpAny_bind (wpAny_pure (wpAny_bind ?_)))
  refine wpAny_nsSet1 (s:={ s with toks:=s.toks+1 }) I.ns λ h' hn2 hs2=>?_
  obtain ⟨oD,esD,epD,hoD,hdD,hcD⟩:=hn2.count (PySem.Within.cons name v hw)
  refine wpAny_bind (wpAny_lookBehind hoD (by rw [hdD];exact pastItsLine_dict (Nat.le_trans hcD (by rw [List.length_cons];omega))) ?_)
  exact wpAny_pure (h _ ⟨(hs2.2 _ (Ne.symm I.ne)).trans I.obj,hn2,I.ne⟩ hs2)
theorem qNq {R:Result->Shared->Prop} {vs:List Value} {kw:List (Str × Value)} (X:K.In s.heap) (hm:PySem.W.makesIn K C=true)
 (hi:PySem.W.findIn K (.ref C) "__init__" = some (some (.ref f))) (hf:PySem.W.typeIn K (.ref f)=some (.type "function"))
    (h:codeAny (model prog w) (A.under (.builtin "type.__call__" ⟨.ref C::vs,kw⟩)) (.call (.ref f) ⟨.ref (s.heap.objs.size+1)::vs,kw⟩) (PySem.W.InitBack (s.heap.objs.size+1) R)
      { s with heap:=(s.heap.push PySem.W.emptyDict).push (PySem.W.instObj C s.heap.objs.size) }) :
    codeAny (model prog w) A (.call (.ref C) ⟨vs,kw⟩) R s:=by
  obtain ⟨hh,g,d,t,os⟩:=s
  exact PySem.W.make_core (PySem.W.makes_of X hm) (PySem.W.looks_findIn X hi) (λ self=>PySem.W.bind_fn X self hf) (.inl rfl) h
end
def gWq (f:Str) (v:V):List (Str × V)->List (Str × V)
  | []=>[(f,v)]
  | (g,x)::r=>if g=f then (g,v)::r else (g,x)::gWq f v r
theorem dSq (f g:Str) (v:V):∀ fs:List (Str × V),(gWq f v fs).lookup g=if g=f then some v else fs.lookup g
  | []=>by
    show List.lookup g [(f,v)]=_
    by_cases h:g=f
    . have hb:(g==f)=true:=beq_iff_eq.mpr h
      simp only [List.lookup,hb,if_pos h]
    . have hb:(g==f)=false:=beq_eq_false_iff_ne.mpr h
      simp only [List.lookup,hb,if_neg h]
  | (k,x)::r=>by
    have ih:=dSq f g v r
    rw [show gWq f v ((k,x)::r)=(if k=f then (k,v)::r else (k,x)::gWq f v r) from rfl]
    by_cases hk:k=f
    . rw [if_pos hk]
      by_cases h:g=k
      . have hb:(g==k)=true:=beq_iff_eq.mpr h
        simp only [List.lookup,hb,if_pos (h.trans hk)]
      . have hb:(g==k)=false:=beq_eq_false_iff_ne.mpr h
        simp only [List.lookup,hb,if_neg (λ e:g=f=>h (e.trans hk.symm))]
    . rw [if_neg hk]
      by_cases h:g=k
      . have hb:(g==k)=true:=beq_iff_eq.mpr h
        simp only [List.lookup,hb,if_neg (λ e:g=f=>hk (h.symm.trans e))]
      . have hb:(g==k)=false:=beq_eq_false_iff_ne.mpr h
        simp only [List.lookup,hb]
        exact ih
theorem eOq (f:Str) (v:V):∀ fs:List (Str × V),f∈(gWq f v fs).map (·.1)/\∀ g,g∈fs.map (·.1)->g∈(gWq f v fs).map (·.1)
  | []=>⟨by simp [gWq],λ g h=>by simp at h⟩
  | (k,x)::r=>by
    obtain ⟨i1,i2⟩:=eOq f v r
    rw [show gWq f v ((k,x)::r)=(if k=f then (k,v)::r else (k,x)::gWq f v r) from rfl]
    by_cases hk:k=f
    . rw [if_pos hk]
      subst hk
      exact ⟨by simp,λ g h=>by simpa using h⟩
    . rw [if_neg hk]
      refine ⟨?_,λ g h=>?_⟩
      . rw [List.map_cons]
        exact List.mem_cons_of_mem _ i1
      . rw [List.map_cons] at h ⊢
        rcases List.mem_cons.mp h with e | e
        . exact List.mem_cons.mpr (.inl e)
        . exact List.mem_cons_of_mem _ (i2 g e)
theorem dYq (f:Str) (v:V):∀ fs:List (Str × V),(gWq f v fs).length<=fs.length+1
  | []=>by simp [gWq]
  | (k,x)::r=>by
    have ih:=dYq f v r
    rw [show gWq f v ((k,x)::r)=(if k=f then (k,v)::r else (k,x)::gWq f v r) from rfl]
    by_cases hk:k=f
    . rw [if_pos hk,List.length_cons,List.length_cons];omega
    . rw [if_neg hk,List.length_cons,List.length_cons];omega
theorem RelO.some_of {v:V} {o:Option Value} (r:RelO (some v) o):∃ u,o=some u/\RelV v u:=by
  cases o with
  | none=>exact (show False from r).elim
  | some u=>exact ⟨u,rfl,r⟩
theorem RelO.none_of {o:Option Value} (r:RelO none o):o=none:=by
  cases o with
  | none=>rfl
  | some u=>exact (show False from r).elim
theorem m4q {v:V} {u:Value} (r:RelV v u):PySem.W.handedIn u=true:=by
  cases v with
  | non=>cases (show u=Value.none from r);rfl
  | bl b=>cases (show u=Value.bool b from r);rfl
  | int i=>obtain ⟨t,e⟩:=(show ∃ t,u=Value.int i t from r);cases e;rfl
  | str x=>obtain ⟨t,e⟩:=(show ∃ t,u=Value.str x t from r);cases e;rfl
  | byt b=>obtain ⟨t,e⟩:=(show ∃ t,u=Value.bytes b t from r);cases e;rfl
  | flt b=>obtain ⟨t,e⟩:=(show ∃ t,u=Value.float b t from r);cases e;rfl
  | ref a=>cases (show u=Value.ref a from r);rfl
  | ty n=>cases (show u=Value.type n from r);rfl
section
variable {P:Program} {w:World} {H H':Hp} {h h':Heap} {a C dx:Addr} {fs fs':List (Str × V)}
theorem fUq (hok:HOk P w H h) (e:H a=some (.ins C dx fs)):∃ mA,ObjM h a dx C mA/\(∀ f,RelO (fs.lookup f) (mA f))/\PySem.Within mA (fs.map (·.1))/\fs.length<=1000/\H dx=some (.own a):=by
  obtain ⟨d,z,ne,ob,mA,n,r,q⟩:=(show ObjOk P w H h a (.ins C dx fs) from hok a _ e)
  exact ⟨mA,⟨ob,n,ne⟩,r,q,z,d⟩
end
structure Cls (K:PySem.W.Frag) (C:Addr):Prop where
  pg:PySem.W.plainGet K C Str.empty=true
  hd:PySem.W.hasDictIn K C=true
  po:PySem.W.plainOver K C=true
  sa:PySem.W.findIn K (.ref C) "__setattr__" = some (some (.builtin "object.__setattr__"))
theorem Cls.get {K:PySem.W.Frag} {C:Addr} (c:Cls K C) (f:Str):PySem.W.plainGet K C f=true:=c.pg
def NoAttr (K:PySem.W.Frag) (C:Addr) (f:Str):Prop:=PySem.W.findIn K (.ref C) f=some none
theorem NoAttr.taker {K:PySem.W.Frag} {C:Addr} {f:Str} (n:NoAttr K C f):PySem.W.takerIn K C f=some none:=by
  unfold PySem.W.takerIn
  rw [show PySem.W.findIn K (.ref C) f=some none from n]
  rfl
structure Meth (K:PySem.W.Frag) (C:Addr) (m:Str) (f:Addr):Prop where
  at_:PySem.W.findIn K (.ref C) m=some (some (.ref f))
  fn:PySem.W.isFn K (.ref f)=true
  kp:PySem.W.keepIn K (.ref f)=true
section
variable {X:Cx} {pins:List (Addr × Obj)} {σ:St} {H:Hp} {s:Shared} {a C dx:Addr} {fs:List (Str × V)} {f:Str} {v:V} {A:Around} {E:Value->Shared->Prop}
theorem f3q {b:Bool} {Q:Value->Shared->Prop} (I:Inv X pins σ H s) (e:H a=some (.ins C dx fs)) (c:Cls X.K C) (n:NoAttr X.K C f) (l:fs.lookup f=some v)
    (h:∀ u s',Inv X pins σ H s'->RelV v u->Q u s'):wpAny (model X.prog X.w) A (getAttr (.ref a) f b) Q E s:=by
  obtain ⟨mA,O,r,_,_,_⟩:=fUq I.hok e
  obtain ⟨u,hu,ru⟩:=RelO.some_of (v:=v) (o:=mA f) (by rw [<- l];exact r f)
  exact t0q I.kIn O (c.get f) c.hd n hu (m4q ru) (h u _ (I.tok _) ru)
theorem fKq {m:Str} {g:Addr} {pl:Sem Bool} {Q:Value × List Value->Shared->Prop} (I:Inv X pins σ H s) (e:H a=some (.ins C dx fs)) (c:Cls X.K C) (k:Meth X.K C m g) (l:fs.lookup m=none)
    (h:Q (.ref g,[.ref a]) s):wpAny (model X.prog X.w) A (getMethod (.ref a) m pl) Q E s:=by
  obtain ⟨mA,O,r,_,_,_⟩:=fUq I.hok e
  have hn:mA m=none:=RelO.none_of (by rw [<- l];exact r m)
  exact oYq I.kIn O (c.get m) k.at_ k.fn hn h
theorem fJq {y:V} {u:Value} {Q:Unit->Shared->Prop} (I:Inv X pins σ H s) (e:H a=some (.ins C dx fs)) (c:Cls X.K C) (n:NoAttr X.K C f) (hl:fs.length < 1000) (ry:RelV y u)
    (h:∀ s',Inv X pins σ (upd H a (.ins C dx (gWq f y fs))) s'->Q () s'):wpAny (model X.prog X.w) A (setAttr (.ref a) f u) Q E s:=by
  obtain ⟨mA,O,r,wi,_,ho⟩:=fUq I.hok e
  have hz:(fs.map (·.1)).length<=sizeLine:=by rw [List.length_map,sizeLine_eq];omega
  refine s5q I.kIn O c.sa c.po n.taker c.hd wi hz λ h' O' sb=>h _ ?_
  have hd:∃ o,h'.get? dx=some o:=let ⟨o,_,_,e',_⟩:=O'.ns;⟨o,e'⟩
  refine I.write (x:=a) (e:=dx) (by rw [e];exact True.intro) (.inr ho) (λ b q hb z=>(sb.2 b hb).trans z) hd ?_
  refine ⟨by rw [aHq O.ne];exact ho,?_,O.ne,O'.obj,_,O'.ns,λ g=>?_,λ g hg=>?_⟩
  . have:=dYq f y fs;omega
  . show RelO ((gWq f y fs).lookup g) (if g=f then some u else mA g)
    rw [dSq]
    by_cases q:g=f
    . rw [if_pos q,if_pos q];exact ry
    . rw [if_neg q,if_neg q];exact r g
  . by_cases q:g=f
    . rw [q];exact (eOq f y fs).1
    . refine (eOq f y fs).2 g (wi g λ z=>hg ?_)
      show (if g=f then some u else mA g)=none
      rw [if_neg q];exact z
theorem Inv.made (I:Inv X pins σ H s):Inv X pins σ (upd (upd H s.heap.objs.size (.own (s.heap.objs.size+1))) (s.heap.objs.size+1) (.ins C s.heap.objs.size []))
    { s with heap:=(s.heap.push PySem.W.emptyDict).push (PySem.W.instObj C s.heap.objs.size) }:=by
  have e1:(s.heap.push PySem.W.emptyDict).get? s.heap.objs.size=some PySem.W.emptyDict:=Heap.get?_push_size s.heap rfl
  have e2:((s.heap.push PySem.W.emptyDict).push (PySem.W.instObj C s.heap.objs.size)).get? (s.heap.objs.size+1)=some (PySem.W.instObj C s.heap.objs.size):=by
    have:=Heap.get?_push_size (s.heap.push PySem.W.emptyDict) (o:=PySem.W.instObj C s.heap.objs.size) rfl
    rwa [Heap.size_push] at this
  have e3:(s.heap.push PySem.W.emptyDict).Ns s.heap.objs.size (λ _=>none):=⟨PySem.W.emptyDict,#[],_,e1,rfl,(λ e he=>absurd he (by simp)),λ _=>rfl⟩
  have I1:=I.laid (a:=s.heap.objs.size) (o:=.own (s.heap.objs.size+1)) (h':=s.heap.push PySem.W.emptyDict) (t':=s.toks) (λ b u q=>Heap.get?_push_of_some _ q) (Nat.le_refl _) ⟨_,e1⟩
  refine I1.laid (a:=s.heap.objs.size+1) (o:=.ins C s.heap.objs.size []) (t':=s.toks) (λ b u q=>Heap.get?_push_of_some _ q) (Nat.le_of_eq (Heap.size_push _ _)) ?_
  have ne:s.heap.objs.size≠s.heap.objs.size+1:=Nat.ne_of_lt (Nat.lt_succ_self _)
  refine ⟨by rw [aHq ne,aNq],Nat.zero_le _,ne,e2,λ _=>none,(Heap.Ns1.of_empty e3).at λ o q=>Heap.get?_push_of_some _ q,λ _=>True.intro,λ y hy=>absurd rfl hy⟩
theorem t8q {prog:Program} {w:World} {env:Env} {e:Expr} {f:Str} {pos:Pos} {s:Shared} {Q:Value->Shared->Prop} (hb:attributeBase e f env (eval e env)=eval e env)
    (h:wpAny (model prog w) A (eval e env) (λ o s₁=>wpAny (model prog w) A (getAttr o f true) Q E s₁) E s):wpAny (model prog w) A (eval (.Attribute e f pos) env) Q E s:=
  Attribute_any_ h (by rw [arm_eval_Attribute,hb])
end
def tFld (K:PySem.W.Frag) (ta:TE) (f:Str):TE:=λ σ H Q=>ta σ H λ x H1=>∃ a C dx fs v,x=.ref a/\H1 a=some (.ins C dx fs)/\Cls K C/\NoAttr K C f/\fs.lookup f=some v/\Q v H1
def sFld (K:PySem.W.Frag) (ta tv:TE) (f:Str):TS:=λ D σ H=>tv σ H λ y H1=>ta σ H1 λ x H2=>∃ a C dx fs,x=.ref a/\H2 a=some (.ins C dx fs)/\Cls K C/\NoAttr K C f/\fs.length < 1000 ∧
  D.nx σ (upd H2 a (.ins C dx (gWq f y fs)))
def InOp (X:Cx) (op:Operator) (rd:V->V->Hp->VK->Prop):Prop:=
  ∀ (pins:List (Addr × Obj)) (s:Shared) (σ:St) (H:Hp) (x y:V) (u v:Value) (Q:VK),Inv X pins σ H s->RelV x u->RelV y v->rd x y H Q->wpAny (model X.prog X.w) X.A (inplaceOp op u v) (EP X pins σ Q) X.xe s
def sFq (K:PySem.W.Frag) (ta tv:TE) (rd:V->V->Hp->VK->Prop) (f:Str):TS:=λ D σ H=>ta σ H λ x H1=>∃ a C dx fs v,x=.ref a/\H1 a=some (.ins C dx fs)/\Cls K C/\NoAttr K C f/\fs.lookup f=some v ∧
  tv σ H1 λ y H2=>rd v y H2 λ z H3=>∃ dx' fs',H3 a=some (.ins C dx' fs')/\fs'.length < 1000/\D.nx σ (upd H3 a (.ins C dx' (gWq f z fs')))
section
variable {X:Cx} {o e value:Expr} {f:Str} {pos pos' tpos:Pos} {ta tv:TE}
theorem w8q (he:PE X e ta) (hb:attributeBase e f X.env (eval e X.env)=eval e X.env):PE X (.Attribute e f pos) (tFld X.K ta f):=by
  intro pins s σ H Q I h
  refine t8q hb (thn (he pins s σ H _ I h) λ u s1 ⟨x,H1,I1,rx,a,C,dx,fs,v,ex,ea,c,n,l,q⟩=>?_)
  subst ex
  obtain rfl:u=Value.ref a:=rx
  exact f3q I1 ea c n l λ u' s2 I2 ru=>⟨v,H1,I2,ru,q⟩
theorem v0q (ha:PE X o ta) (hv:PE X value tv) (hs:swapsWith value (some (.Attribute o f pos')) pos.line X.env=pure false):PS X (.Assign [.Attribute o f pos'] value pos) (sFld X.K ta tv f):=by
  intro pins s σ H D I h
  refine plainObj_wpAny_Assign_Attribute (thn (hv pins s σ H _ I h) λ u s1 ⟨y,H1,I1,ry,q⟩=>thn (ha pins s1 σ H1 _ I1 q) λ ov s2 ⟨x,H2,I2,rx,a,C,dx,fs,ex,ea,c,n,l,q2⟩=>?_) hs
  subst ex
  obtain rfl:ov=Value.ref a:=rx
  exact fJq I2 ea c n l ry λ s3 I3=>⟨σ,_,I3,q2⟩
theorem i0q {op:Operator} {rd:V->V->Hp->VK->Prop} (ha:PE X o ta) (hv:PE X value tv) (hop:InOp X op rd):PS X (.AugAssign (.Attribute o f tpos) op value pos) (sFq X.K ta tv rd f):=by
  intro pins s σ H D I h
  refine wpAny_AugAssign_AttributeAny (thn (ha pins s σ H _ I h) λ ov s1 ⟨x,H1,I1,rx,a,C,dx,fs,v,ex,ea,c,n,l,q⟩=>?_)
  subst ex
  obtain rfl:ov=Value.ref a:=rx
  refine f3q I1 ea c n l λ u s2 I2 ru=>thn (hv pins s2 σ H1 _ I2 q) λ w3 s3 ⟨y,H2,I3,ry,q3⟩=>thn (hop pins s3 σ H2 v y u w3 _ I3 ru ry q3) λ w4 s4 ⟨z,H3,I4,rz,dx',fs',ea',l',q4⟩=>?_
  exact fJq I4 ea' c n l' rz λ s5 I5=>⟨σ,_,I5,q4⟩
def rAdd:V->V->Hp->VK->Prop:=λ x y H Q=>∃ i j,x=.int i/\y=.int j/\Q (.int (i+j)) H
def rSub:V->V->Hp->VK->Prop:=λ x y H Q=>∃ i j,x=.int i/\y=.int j/\Q (.int (i - j)) H
theorem vHq:InOp X .Add rAdd:=by
  rintro pins s σ H x y u v Q I rx ry ⟨i,j,rfl,rfl,q⟩
  obtain ⟨t,rfl⟩:=(show ∃ t,u=Value.int i t from rx)
  obtain ⟨t',rfl⟩:=(show ∃ t',v=Value.int j t' from ry)
  exact PyProof.Rows.iadd_int ⟨.int (i+j),H,I.tok _,⟨_,rfl⟩,q⟩
theorem w7q:InOp X .Sub rSub:=by
  rintro pins s σ H x y u v Q I rx ry ⟨i,j,rfl,rfl,q⟩
  obtain ⟨t,rfl⟩:=(show ∃ t,u=Value.int i t from rx)
  obtain ⟨t',rfl⟩:=(show ∃ t',v=Value.int j t' from ry)
  exact PyProof.Rows.isub_int ⟨.int (i - j),H,I.tok _,⟨_,rfl⟩,q⟩
theorem uBq {pl:Sem Bool} {m:Str} {apos:Pos} {args:List Expr} {pins:List (Addr × Obj)} {s:Shared} {σ:St} {H:Hp} {Q:Value->Shared->Prop} {te:TE} (he:PE X e te) (I:Inv X pins σ H s)
    (h:te σ H λ x H1=>∃ a C dx fs g,x=.ref a/\H1 a=some (.ins C dx fs)/\Cls X.K C/\Meth X.K C m g/\fs.lookup m=none ∧
      ∀ s1,Inv X pins σ H1 s1->wpAny (model X.prog X.w) X.A (callWith pos (.ref g) [.ref a] (backTo pos (starEach args X.env)) (backToKw pos (keywordEach [] X.env))) Q X.xe s1)
    (ht:eval (.Call (.Attribute e m apos) args [] pos) X.env=(do
      let ov ← eval e X.env
      standAt apos.atName
      let (f,first) ← holding [ov] (getMethod ov m pl)
      callWith pos f first (backTo pos (starEach args X.env)) (backToKw pos (keywordEach [] X.env)))) :
    wpAny (model X.prog X.w) X.A (eval (.Call (.Attribute e m apos) args [] pos) X.env) Q X.xe s:=by
  refine PySem.W.methodCall_KW (pl:=pl) (thn (he pins s σ H _ I h) λ u s1 ⟨x,H1,I1,rx,a,C,dx,fs,g,ex,ea,c,k,l,q⟩=>?_) ht
  subst ex
  obtain rfl:u=Value.ref a:=rx
  exact fKq I1 ea c k l (q s1 I1)
end
section
variable {X:Cx} {pins:List (Addr × Obj)} {σ:St} {H:Hp} {s:Shared} {A:Around} {E:Value->Shared->Prop} {Q:Value->Shared->Prop} {c:Value} {b:Bool}
inductive TyOf (K:PySem.W.Frag) (H:Hp):V->Value->Prop where
  | non:TyOf K H .non (.type "NoneType")
  | bl (x:Bool):TyOf K H (.bl x) (.type "bool")
  | int (i:Int):TyOf K H (.int i) (.type "int")
  | str (x:Str):TyOf K H (.str x) (.type "str")
  | flt (x:UInt64):TyOf K H (.flt x) (.type "float")
  | lst {a:Addr} {xs:List V} (e:H a=some (.lst xs)):TyOf K H (.ref a) (.type "list")
  | frz {a:Addr} {o:Obj} {xs:List V} (e:H a=some (.frz o (.lst xs))):TyOf K H (.ref a) (.type "list")
  | tup {a:Addr} {xs:List V} (e:H a=some (.tup xs)):TyOf K H (.ref a) (.type "tuple")
  | dK {a:Addr} {kvs:List (Key × V)} (e:H a=some (.dK kvs)):TyOf K H (.ref a) (.type "dict")
  | dT {a:Addr} {kvs:List (List Key × V)} (e:H a=some (.dT kvs)):TyOf K H (.ref a) (.type "dict")
  | ins {a C dx:Addr} {fs:List (Str × V)} (e:H a=some (.ins C dx fs)) (cl:Cls K C) (ha:PySem.W.findIn K (.ref C) "__class__" = some (some (.builtin "object.__class__")))
      (hn:PySem.W.specialIn K (.builtin "object.__class__") "__get__" = some (some (.builtin "getset_descriptor.__get__"))) (htk:PySem.W.takesIn K (.builtin "object.__class__")=some true)
      (hm:PySem.W.mroIn K C (.type "object")=some true):TyOf K H (.ref a) (.ref C)
theorem lYq {x:V} {u t:Value} (I:Inv X pins σ H s) (rx:RelV x u) (ty:TyOf X.K H x t) (e:PySem.W.kitOne X.K t c=some b) (h:∀ tk,Q (.bool b) { s with toks:=tk }) :
    wpAny (model X.prog X.w) A (call (.builtin "isinstance") [u,c]) Q E s:=by
  cases ty with
  | non=>cases (show u=Value.none from rx);exact PySem.W.kia_one PySem.W.kitx_none I.kIn True.intro e (λ z=>nomatch z) h
  | bl y=>cases (show u=Value.bool y from rx);exact PySem.W.kia_one PySem.W.kitx_bool I.kIn True.intro e (λ z=>nomatch z) h
  | int i=>obtain ⟨t,q⟩:=(show ∃ t,u=Value.int i t from rx);cases q;exact PySem.W.kia_one PySem.W.kitx_int I.kIn True.intro e (λ z=>nomatch z) h
  | str y=>obtain ⟨t,q⟩:=(show ∃ t,u=Value.str y t from rx);cases q;exact PySem.W.kia_one PySem.W.kitx_str I.kIn True.intro e (λ z=>nomatch z) h
  | flt y=>obtain ⟨t,q⟩:=(show ∃ t,u=Value.float y t from rx);cases q;exact PySem.W.kia_one PySem.W.kitx_float I.kIn True.intro e (λ z=>nomatch z) h
  | @lst a xs ea=>
    cases (show u=Value.ref a from rx)
    obtain ⟨_,_,n,_,h1⟩:=(show ObjOk X.prog X.w H s.heap a (.lst xs) from I.hok a _ ea)
    exact PySem.W.kia_one PySem.W.kitx_list I.kIn ⟨_,h1,rfl⟩ e (λ z=>nomatch z) h
  | @frz a ob xs ea=>
    cases (show u=Value.ref a from rx)
    obtain ⟨_,_,_,n,_,h1⟩:=(show ObjOk X.prog X.w H s.heap a (.frz ob (.lst xs)) from I.hok a _ ea)
    exact PySem.W.kia_one PySem.W.kitx_list I.kIn ⟨_,h1,rfl⟩ e (λ z=>nomatch z) h
  | @tup a xs ea=>
    cases (show u=Value.ref a from rx)
    obtain ⟨_,_,_,p⟩:=(show ObjOk X.prog X.w H s.heap a (.tup xs) from I.hok a _ ea)
    obtain ⟨o,h1,h2,_⟩:=p
    exact PySem.W.kia_one PySem.W.kitx_tuple I.kIn ⟨o,h1,h2⟩ e (λ z=>nomatch z) h
  | @dK a kvs ea=>
    cases (show u=Value.ref a from rx)
    obtain ⟨_,_,vs,_,p⟩:=(show ObjOk X.prog X.w H s.heap a (.dK kvs) from I.hok a _ ea)
    obtain ⟨o,es,ep,h1,h2,_⟩:=p
    exact PySem.W.kia_one PySem.W.kitx_dict I.kIn ⟨o,h1,h2.1⟩ e (λ z=>nomatch z) h
  | @dT a kvs ea=>
    cases (show u=Value.ref a from rx)
    obtain ⟨_,_,xs,_,o,es,ep,h1,h2,_⟩:=(show ObjOk X.prog X.w H s.heap a (.dT kvs) from I.hok a _ ea)
    exact PySem.W.kia_one PySem.W.kitx_dict I.kIn ⟨o,h1,h2.1⟩ e (λ z=>nomatch z) h
  | @ins a C dx fs ea cl ha hn htk hm=>
    cases (show u=Value.ref a from rx)
    obtain ⟨mA,O,_⟩:=fUq I.hok ea
    obtain ⟨od,J,_⟩:=O.look
    exact PySem.W.kia_one (PySem.W.kitx_own (cl.get _) cl.hd ha hn htk hm) I.kIn J e (λ z=>nomatch z) h
end
structure Room (k:Nat) (A:Around):Prop where
  hd:A.handled=none
  dp:A.depth+3 * k+5 < recursionLimit
  un:A.units+16 * k+200 < cLine
theorem Room.mono {j k:Nat} {A:Around} (r:Room k A) (h:j<=k):Room j A:=⟨r.hd,by have:=r.dp;omega,by have:=r.un;omega⟩
theorem Room.deeper {k:Nat} {A:Around} (r:Room (k+1) A) (env:Env):Room k (A.deeper env):=
  ⟨r.hd,by have:=r.dp;show A.depth+1+3 * k+5 < _;omega,by have:=r.un;show A.units+3+16 * k+200 < _;omega⟩
theorem kQq {A:Around} {C:Addr} {us:List Value} {kw:List (Str × Value)}:(A.under (.builtin "type.__call__" ⟨.ref C::us,kw⟩)).depth=A.depth+1:=by
  first | rfl | simp [Around.under,Code.weight,Code.isCreation,Code.isGuard,Code.isCaller,Code.frames,Code.isFrame,guardIds]
theorem kGq {A:Around} {C:Addr} {us:List Value} {kw:List (Str × Value)}:(A.under (.builtin "type.__call__" ⟨.ref C::us,kw⟩)).units=A.units+1:=by
  first | rfl | simp [Around.under,Code.cUnits,Code.frames,Code.isFrame]
theorem Room.make {k:Nat} {A:Around} (r:Room (k+1) A) (C:Addr) (us:List Value) (kw:List (Str × Value)):Room k (A.under (.builtin "type.__call__" ⟨.ref C::us,kw⟩)):=
  ⟨r.hd,by have:=r.dp;rw [kQq];omega,by have:=r.un;rw [kGq];omega⟩
theorem Room.depth {k:Nat} {A:Around} (r:Room k A):A.depth < recursionLimit:=by have:=r.dp;omega
def z7q:TA:=λ _ H Q=>Q [] H
def uUq (ta:TE) (tr:TA):TA:=λ σ H Q=>ta σ H λ x H1=>tr σ H1 λ xs H2=>Q (x::xs) H2
section
variable {X:Cx} {e:Expr} {es:List Expr} {te:TE} {t:TA} {pos:Pos}
theorem w0q:PA X [] z7q:=λ _ _ _ _ H Q I h=>Calls.spliced_nil ⟨[],H,I,.nil,h⟩
theorem tWq (ha:PE X e te) (hr:PA X es t) (hs:starEach (e::es) X.env=(false,eval e X.env)::starEach es X.env:=by rfl):PA X (e::es) (uUq te t):=by
  intro pos pins s σ H Q I h
  rw [hs]
  show wpAny _ _ (spliced ((false,eval e X.env)::backTo pos (starEach es X.env))) _ _ s
  refine Calls.spliced_cons (thn (ha pins s σ H _ I h) λ u s1 ⟨x,H1,I1,r1,q1⟩=>?_)
  exact thn (hr pos pins s1 σ H1 _ I1 q1) λ us s2 ⟨xs,H2,I2,r2,q2⟩=>⟨x::xs,H2,I2,.cons r1 r2,q2⟩
def tTup (t:TA):TE:=λ σ H Q=>t σ H λ xs H1=>xs.length<=sizeLine/\∀ p,H1 p=none->Q (.ref p) (upd H1 p (.tup xs))
def tLst (t:TA):TE:=λ σ H Q=>t σ H λ xs H1=>xs.length<=sizeLine/\∀ p,H1 p=none->Q (.ref p) (upd H1 p (.lst xs))
theorem wKq {x1} (h:PA X es t):PE X (.Tuple es x1 pos) (tTup t):=by
  intro pins s σ H Q I hq
  refine wpAny_Tuple_spliced (thn (h pos pins s σ H _ I hq) λ us s1 ⟨xs,H1,I1,r,z,q⟩=>⟨by rw [<- r.length];exact z,?_⟩)
  have hf:H1 s1.heap.objs.size=none:=I1.hok.fresh (Nat.le_refl _)
  refine ⟨.ref s1.heap.objs.size,upd H1 s1.heap.objs.size (.tup xs),I1.laid (t':=s1.toks) (λ b u e=>Heap.get?_push_of_some _ e) (Nat.le_refl _) ?_,rfl,q _ hf⟩
  exact ⟨z,us,r,⟨_,Heap.get?_push_size _ rfl,rfl,_,rfl⟩⟩
theorem xXq (h:PA X es t):PE X (.List es pos) (tLst t):=by
  intro pins s σ H Q I hq
  refine wpAny_List_spliced (thn (h pos pins s σ H _ I hq) λ us s1 ⟨xs,H1,I1,r,z,q⟩=>⟨by rw [<- r.length];exact z,?_⟩)
  have hf:H1 s1.heap.objs.size=none:=I1.hok.fresh (Nat.le_refl _)
  refine ⟨.ref s1.heap.objs.size,upd H1 s1.heap.objs.size (.lst xs),I1.laid (t':=s1.toks) (λ b u e=>Heap.get?_push_of_some _ e) (Nat.le_refl _) ?_,rfl,q _ hf⟩
  exact ⟨z,us,0,r,Heap.get?_push_size _ rfl⟩
end
abbrev Sp:=List V->Hp->VK->XK->Prop
abbrev CXT:=List Env->Hp->Shared->XK->Value->Shared->Prop
structure Env0 (P:Program) (w:World) (K:PySem.W.Frag) (mg:Str->Option Value) (base:Heap) (A:Around) (outer:List Env) (s:Shared) (H:Hp):Prop where
  frames:A.frames=some outer
  mod:Mod K mg base
  bs:∀ b o,base.get? b=some o->s.heap.get? b=some o/\H b=none
  bsz:base.objs.size<=s.heap.objs.size
  funs:s.heap.FunFrames base outer
  frf:∀ b∈frs outer,H b=none
  hok:HOk P w H s.heap
  bare:AllBare s.gens
def CE (outer:List Env) (P:Program) (w:World) (H:Hp) (s:Shared) (Q:VK) (u:Value) (s':Shared):Prop:=
  ∃ v H',s'.os=s.os/\AllBare s'.gens/\Un (frs outer) [] H H' s.heap s'.heap/\HOk P w H' s'.heap/\RelV v u/\Q v H'
def CR (CX:CXT) (outer:List Env) (P:Program) (w:World) (H:Hp) (s:Shared) (Q:VK) (E:XK) (r:Result) (s':Shared):Prop:=
  match r with
  | .ok (.ret u)=>CE outer P w H s Q u s'
  | .ok _=>False
  | .error e=>CX outer H s E e s'
structure FnOk (P:Program) (w:World) (K:PySem.W.Frag) (mg:Str->Option Value) (base:Heap) (CX:CXT) (k:Nat) (f:Addr) (fd:FuncData) (ps:List Str) (sp:Sp):Prop where
  len:∀ vs H Q E,sp vs H Q E->vs.length=ps.length
  run:∀ (A:Around) (outer:List Env) (s:Shared) (H:Hp) (args:Args) (us:List Value) (vs:List V) (Q:VK) (E:XK),Room k A->Env0 P w K mg base A outer s H->BindsTo s fd args (ps.zip us)->Vals vs us->sp vs H Q E →
    codeAny (model P w) A (.call (.ref f) args) (CR CX outer P w H s Q E) s
theorem Env0.make {P:Program} {w:World} {K:PySem.W.Frag} {mg:Str->Option Value} {base:Heap} {A:Around} {outer:List Env} {s:Shared} {H:Hp} (e:Env0 P w K mg base A outer s H) (C:Addr) (us:List Value) (kw:List (Str × Value)) :
    Env0 P w K mg base (A.under (.builtin "type.__call__" ⟨.ref C::us,kw⟩)) outer s H:=⟨by first | exact e.frames | (simpa [Around.under,Code.envs,Code.isFrame,pushEnvs] using e.frames),e.mod,e.bs,e.bsz,e.funs,e.frf,e.hok,e.bare⟩
section
variable {X:Cx} {pins:List (Addr × Obj)} {σ:St} {H:Hp} {s s':Shared}
theorem Inv.env0 (I:Inv X pins σ H s):Env0 X.prog X.w X.K X.mg X.base X.A X.stack s H:=
  ⟨I.ok.frames,I.ok.mod,I.bs,Nat.le_trans I.ok.bsz I.sz,I.stack,I.stkFree,I.hok,I.bare⟩
theorem Inv.after {Q:VK} {u:Value} (I:Inv X pins σ H s) (h:CE X.stack X.prog X.w H s Q u s'):EP X pins σ Q u s':=by
  obtain ⟨v,H',os,bare,un,hok,r,q⟩:=h
  obtain ⟨hh,g,d,t,os'⟩:=s'
  obtain rfl:os'=s.os:=os
  exact ⟨v,H',I.call (h':=hh) (g':=g) (d':=d) (t':=t) (ch:=[]) un hok bare (λ b z=>absurd z (by simp)),r,q⟩
end
def pNq (sp:Sp) (dvs:List V) (E:XK) (t:TA):TE:=λ σ H Q=>t σ H λ vs H1=>sp (vs++dvs) H1 Q E
def zVq (C:Addr) (m:Str) (sp:Sp) (dvs:List V) (E:XK) (ta:TE) (t:TA):TE:=λ σ H Q=>ta σ H λ x H1=>∃ a dx fs,x=.ref a/\H1 a=some (.ins C dx fs)/\fs.lookup m=none ∧
  t σ H1 λ vs H2=>sp (x::(vs++dvs)) H2 Q E
def aC9q (C:Addr) (sp:Sp) (dvs:List V) (E:XK) (t:TA):TE:=λ σ H Q=>t σ H λ vs H1=>∀ x dx,H1 x=none->H1 dx=none->dx≠x →
  sp (.ref x::(vs++dvs)) (upd (upd H1 dx (.own x)) x (.ins C dx [])) (λ v H2=>v=.non/\Q (.ref x) H2) E
def Binds (K:PySem.W.Frag) (fd:FuncData) (ps:List Str) (ds:List Value):Prop:=
  ∀ (s:Shared) (us:List Value),K.In s.heap->(us++ds).length=ps.length->BindsTo s fd ⟨us,[]⟩ (ps.zip (us++ds))
theorem Binds.all {K:PySem.W.Frag} {fd:FuncData} {ps:List Str} (h:∀ us:List Value,us.length=ps.length->bindArgs fd ⟨us,[]⟩=pure (ps.zip us)):Binds K fd ps []:=λ s us _ hl=>by
  rw [List.append_nil] at hl ⊢
  exact .of_eq (h us hl)
def f7q (CX:CXT) (X:Cx) (E:XK):Prop:=∀ (pins:List (Addr × Obj)) (σ:St) (H:Hp) (s:Shared) (e:Value) (s':Shared),Inv X pins σ H s->CX X.stack H s E e s'->X.xe e s'
section
variable {X:Cx} {CX:CXT} {k:Nat} {f C:Addr} {fd:FuncData} {ps:List Str} {sp:Sp} {dvs:List V} {ds:List Value} {E:XK} {x m:Str} {p pos apos:Pos} {e o:Expr} {es:List Expr} {ta:TE} {t:TA}
theorem mTq {pins:List (Addr × Obj)} {σ:St} {H:Hp} {s:Shared} {Q:VK} {us:List Value} {vs:List V} (F:FnOk X.prog X.w X.K X.mg X.base CX k f fd ps sp) (hr:Room k X.A) (hb:Binds X.K fd ps ds) (hd:Vals dvs ds) (hx:f7q CX X E)
    (I:Inv X pins σ H s) (r:Vals vs us) (h:sp (vs++dvs) H Q E):wpAny (model X.prog X.w) X.A (call (.ref f) us) (EP X pins σ Q) X.xe s:=by
  have r2:Vals (vs++dvs) (us++ds):=r.append hd
  have hl:(us++ds).length=ps.length:=by rw [<- r2.length];exact F.len _ _ _ _ h
  refine wpAny_call (codeAny_mono (F.run X.A X.stack s H ⟨us,[]⟩ (us++ds) (vs++dvs) Q E hr I.env0 (hb s us I.kIn hl) r2 h) λ r s' hq=>?_)
  cases r with
  | error e=>exact hx pins σ H s e s' I hq
  | ok fl=>
    cases fl with
    | ret u=>exact I.after hq
    | next=>exact False.elim hq
    | brk=>exact False.elim hq
    | cont=>exact False.elim hq
theorem sJq (F:FnOk X.prog X.w X.K X.mg X.base CX k f fd ps sp) (hr:Room k X.A) (hg:Gl X x) (hm:X.mg x=some (.ref f)) (hk:PySem.W.keepIn X.K (.ref f)=true) (hb:Binds X.K fd ps ds) (hd:Vals dvs ds) (hx:f7q CX X E)
    (ha:PA X (e::es) t) (hdb:(x==("__debug__" : Str))=false:=by decide) (he:starEach (e::es) X.env=(false,eval e X.env)::starEach es X.env:=by rfl) (hpl:(backTo pos (starEach es X.env)).any (·.1)=false:=by rfl) :
    PE X (.Call (.Name x p) (e::es) [] pos) (pNq sp dvs E t):=by
  intro pins s σ H Q I h
  refine wpAny_Call_Name_kw (iZq I hg hm ?_ hdb)
  refine PySem.W.callWith_K (h₀:=X.base) I.ok.mod.kin hk (thn (ha pos pins s σ H _ I h) λ us s1 ⟨vs,H1,I1,r,q⟩=>⟨I1.kIn,?_⟩) he hpl
  exact mTq F hr hb hd hx I1 r q
theorem rQq {pl:Sem Bool} (he:PE X o ta) (c:Cls X.K C) (hm:Meth X.K C m f) (F:FnOk X.prog X.w X.K X.mg X.base CX k f fd ps sp) (hr:Room k X.A) (hb:Binds X.K fd ps ds) (hd:Vals dvs ds) (hx:f7q CX X E) (ha:PA X (e::es) t)
    (hst:starEach (e::es) X.env=(false,eval e X.env)::starEach es X.env:=by rfl) (hpl:(backTo pos (starEach es X.env)).any (·.1)=false:=by rfl)
    (ht:eval (.Call (.Attribute o m apos) (e::es) [] pos) X.env=(do
      let ov ← eval o X.env
      standAt apos.atName
      let (f,first) ← holding [ov] (getMethod ov m pl)
      callWith pos f first (backTo pos (starEach (e::es) X.env)) (backToKw pos (keywordEach [] X.env))):=by rfl) :
    PE X (.Call (.Attribute o m apos) (e::es) [] pos) (zVq C m sp dvs E ta t):=by
  intro pins s σ H Q I h
  refine PySem.W.methodCall_KW (pl:=pl) (thn (he pins s σ H _ I h) λ u s1 ⟨x,H1,I1,rx,a,dx,fs,ex,ea,l,q⟩=>?_) ht
  subst ex
  obtain rfl:u=Value.ref a:=rx
  refine fKq I1 ea c hm l ?_
  refine PySem.W.callWith_K (first:=[.ref a]) (h₀:=X.base) I.ok.mod.kin hm.kp (thn (ha pos pins s1 σ H1 _ I1 q) λ us s2 ⟨vs,H2,I2,r,q2⟩=>⟨I2.kIn,?_⟩) hst hpl
  exact mTq (us:=.ref a::us) (vs:=.ref a::vs) F hr hb hd hx I2 (.cons rfl r) q2
structure Mk (K:PySem.W.Frag) (C f:Addr):Prop where
  makes:PySem.W.makesIn K C=true
  init:PySem.W.findIn K (.ref C) "__init__" = some (some (.ref f))
  fn:PySem.W.isFn K (.ref f)=true
  kp:PySem.W.keepIn K (.ref C)=true
theorem p7q {pins:List (Addr × Obj)} {σ:St} {H:Hp} {s:Shared} {Q:VK} {us:List Value} {vs:List V} (M:Mk X.K C f) (F:FnOk X.prog X.w X.K X.mg X.base CX k f fd ps sp) (hr:Room (k+1) X.A) (hb:Binds X.K fd ps ds) (hd:Vals dvs ds)
    (hx:f7q CX X E) (I:Inv X pins σ H s) (r:Vals vs us)
    (h:∀ x dx,H x=none->H dx=none->dx≠x->sp (.ref x::(vs++dvs)) (upd (upd H dx (.own x)) x (.ins C dx [])) (λ v H2=>v=.non/\Q (.ref x) H2) E) :
    wpAny (model X.prog X.w) X.A (call (.ref C) us) (EP X pins σ Q) X.xe s:=by
  have hq:=h (s.heap.objs.size+1) s.heap.objs.size (I.hok.fresh (Nat.le_succ _)) (I.hok.fresh (Nat.le_refl _)) (Nat.ne_of_lt (Nat.lt_succ_self _))
  have I2:=Inv.made (C:=C) I
  have r2:Vals (V.ref (s.heap.objs.size+1)::(vs++dvs)) (Value.ref (s.heap.objs.size+1)::(us++ds)):=.cons rfl (r.append hd)
  have hl:(Value.ref (s.heap.objs.size+1)::us++ds).length=ps.length:=by
    have e:=r2.length
    rw [F.len _ _ _ _ hq] at e
    exact e.symm
  refine wpAny_call (qNq (f:=f) I.kIn M.makes M.init (beq_iff_eq.mp M.fn) (codeAny_mono (F.run _ X.stack _ _ ⟨Value.ref (s.heap.objs.size+1)::us,[]⟩ (Value.ref (s.heap.objs.size+1)::(us++ds)) _ _ E (hr.make C us [])
    (I2.env0.make C us []) (hb _ (Value.ref (s.heap.objs.size+1)::us) I2.kIn hl) r2 hq) λ r s' hq'=>?_))
  cases r with
  | error e=>exact hx pins σ _ _ e s' I2 hq'
  | ok fl=>
    cases fl with
    | ret u=>
      obtain ⟨v,H',I3,rv,ev,q3⟩:=I2.after hq'
      subst ev
      exact ⟨rv,⟨V.ref (s.heap.objs.size+1),H',I3,rfl,q3⟩⟩
    | next=>exact False.elim hq'
    | brk=>exact False.elim hq'
    | cont=>exact False.elim hq'
theorem oQq (M:Mk X.K C f) (F:FnOk X.prog X.w X.K X.mg X.base CX k f fd ps sp) (hr:Room (k+1) X.A) (hg:Gl X x) (hm:X.mg x=some (.ref C)) (hb:Binds X.K fd ps ds) (hd:Vals dvs ds) (hx:f7q CX X E)
    (hdb:(x==("__debug__" : Str))=false:=by decide):PE X (.Call (.Name x p) [] [] pos) (aC9q C sp dvs E z7q):=by
  intro pins s σ H Q I h
  refine wpAny_Call_Name_kw (iZq I hg hm ?_ hdb)
  exact PySem.W.callWith_K0 I.kIn M.kp (p7q (us:=[]) M F hr hb hd hx I .nil h)
end
structure FnScope (N P:List Str) (sc:Scope):Prop where
  kind:sc.kind=.function
  co:sc.isCoroutine=false
  gen:sc.isGenerator=false
  nd:N.Nodup
  pre:N.take P.length=P
  par:∀ x∈P,sc.names.lookup x=some .local\/sc.names.lookup x=some .cell
  nofree:∀ y∈sc.names,y.2≠.free
theorem i8q {kindOf:Str->Option NameKind} {x:Str}:∀ {binds:List (Str × Value)} {m:Str->Option Value},(∀ v,(x,v) ∉ binds)->bindL kindOf binds m x=m x
  | [],_,_=>rfl
  | (n,v)::r,m,h=>by
    unfold bindL
    rw [i8q λ w hw=>h w (List.mem_cons_of_mem _ hw)]
    split
    . have:x≠n:=by rintro rfl;exact h v List.mem_cons_self
      simp [this]
    . rfl
theorem hCq {kindOf:Str->Option NameKind} {x:Str}:∀ {binds:List (Str × Value)} {m:Str->Option Value},(∀ v,(x,v) ∉ binds)->bindC kindOf binds m x=m x
  | [],_,_=>rfl
  | (n,v)::r,m,h=>by
    unfold bindC
    rw [hCq λ w hw=>h w (List.mem_cons_of_mem _ hw)]
    split
    . rfl
    . have:x≠n:=by rintro rfl;exact h v List.mem_cons_self
      simp [this]
theorem h9q {kindOf:Str->Option NameKind} {x:Str} {v:Value}:∀ {P:List Str} {vs:List Value} {i:Nat} {m:Str->Option Value},P.Nodup->P[i]?=some x->vs[i]?=some v->kindOf x=some .local →
    bindL kindOf (P.zip vs) m x=some v
  | [],_,_,_,_,h,_,_=>by simp at h
  | _::_,[],_,_,_,_,h,_=>by simp at h
  | p::P,w::vs,0,m,nd,h1,h2,hk=>by
    simp at h1 h2;subst h1;subst h2
    show bindL kindOf ((p,w)::P.zip vs) m p=_
    unfold bindL
    rw [i8q λ v hv=>(List.nodup_cons.mp nd).1 (List.of_mem_zip hv).1,if_pos hk]
    simp
  | p::P,w::vs,i+1,m,nd,h1,h2,hk=>by
    show bindL kindOf ((p,w)::P.zip vs) m x=_
    unfold bindL
    exact h9q (i:=i) (List.nodup_cons.mp nd).2 (by simpa using h1) (by simpa using h2) hk
theorem i3q {kindOf:Str->Option NameKind} {x:Str} {v:Value}:∀ {P:List Str} {vs:List Value} {i:Nat} {m:Str->Option Value},P.Nodup->P[i]?=some x->vs[i]?=some v->kindOf x≠some .local →
    bindC kindOf (P.zip vs) m x=some v
  | [],_,_,_,_,h,_,_=>by simp at h
  | _::_,[],_,_,_,_,h,_=>by simp at h
  | p::P,w::vs,0,m,nd,h1,h2,hk=>by
    simp at h1 h2;subst h1;subst h2
    show bindC kindOf ((p,w)::P.zip vs) m p=_
    unfold bindC
    rw [hCq λ v hv=>(List.nodup_cons.mp nd).1 (List.of_mem_zip hv).1,if_neg hk]
    simp
  | p::P,w::vs,i+1,m,nd,h1,h2,hk=>by
    show bindC kindOf ((p,w)::P.zip vs) m x=_
    unfold bindC
    exact i3q (i:=i) (List.nodup_cons.mp nd).2 (by simpa using h1) (by simpa using h2) hk
def c2q (N:List Str) (vs:List V):St:=vs.map some++List.replicate (N.length - vs.length) none
def kZq (CX:CXT) (P:Program) (w:World) (K:PySem.W.Frag) (mg:Str->Option Value) (base:Heap) (N:List Str) (qual:Str) (scope:Scope) (f:Addr) (cd:Value) (A:Around) (outer:List Env) (s:Shared) (H:Hp) (E:XK):Cx where
  prog:=P
  w:=w
  K:=K
  mg:=mg
  base:=base
  A:=A.deeper (envOfC qual scope s.heap.objs.size f cd)
  N:=N
  s₀:=s
  H₀:=H
  env:=envOfC qual scope s.heap.objs.size f cd
  outer:=outer
  stack:=envOfC qual scope s.heap.objs.size f cd::outer
  ex:=[]
  calm:=true
  fn:=λ _=>true
  pn:=[]
  xe:=λ e s'=>wpAny (model P w) (A.deeper (envOfC qual scope s.heap.objs.size f cd)) (leaving (envOfC qual scope s.heap.objs.size f cd) e) (λ _ s''=>CX outer H s E e s'') (λ e' s''=>CX outer H s E e' s'') s'
theorem jXq {sc:Scope} {n:Nat} {x:Str} (h:sc.names.lookup x=some .cell):∃ c,(cellsFrom n sc.names []).lookup x=some c:=by
  have q:=PySem.W.cellsFrom_some sc.names n [] (.inl h)
  exact Option.isSome_iff_exists.mp q
theorem hHq {CX:CXT} {P:Program} {w:World} {K:PySem.W.Frag} {mg:Str->Option Value} {base:Heap} {N ps:List Str} {qual:Str} {scope:Scope} {f:Addr} {cd:Value} {A:Around} {outer:List Env} {s s1:Shared} {H:Hp} {E:XK} {us:List Value} {vs:List V}
    (S:FnScope N ps scope) (hd:A.handled=none) (e0:Env0 P w K mg base A outer s H) (hl:vs.length=ps.length) (r:Vals vs us)
    (x:InCallC s s.heap.objs.size (bindL (envOfC qual scope s.heap.objs.size f cd).kindOf (ps.zip us) λ _=>none) (cellsFrom (s.heap.objs.size+1) scope.names []) (bindC (envOfC qual scope s.heap.objs.size f cd).kindOf (ps.zip us) λ _=>none) s1) :
    Inv (kZq CX P w K mg base N qual scope f cd A outer s H E) [] (c2q N vs) H s1:=by
  have hpl:ps.length<=N.length:=by have:=congrArg List.length S.pre;rw [List.length_take] at this;omega
  obtain ⟨h1,tk,rfl,hk⟩:=x.done
  have noA:∀ b:Addr,b ∉ (kZq CX P w K mg base N qual scope f cd A outer s H E).ex:=λ b z=>absurd (show b∈([]:List Addr) from z) (by simp)
  refine ⟨⟨e0.mod,S.kind,rfl,rfl,Nat.le_refl _,λ y z c h1 h2=>?_,λ y hy=>?_,λ y c _ h=>?_,λ _=>hd,Around.frames_deeper e0.frames,.inr ⟨rfl,rfl⟩,λ b z=>absurd z (noA b),e0.bs,e0.bsz,λ b _ _=>noA b,λ b z=>absurd z (noA b),e0.funs,e0.frf⟩,
    rfl,e0.bare,Un.kept hk,⟨_,x.toInCall.ns,λ i y v h1 h2 h3=>?_⟩,λ y c h=>⟨_,x.cell y c h⟩,e0.hok.fresh (Nat.le_refl _),λ y c h=>?_,λ p hp=>absurd (show p∈([]:List (Addr × Obj)) from hp) (by simp),e0.hok.kept hk,?_⟩
  . exact name_of_addr x.apart (PySem.mem_of_lookup h1) (PySem.mem_of_lookup h2)
  . have hy:scope.names.lookup y=some .cell\/scope.names.lookup y=some .free:=hy
    rcases hy with hy | hy
    . exact jXq hy
    . exact absurd rfl (S.nofree _ (PySem.mem_of_lookup hy))
  . exact Nat.le_of_lt (x.above y c (PySem.mem_of_lookup h))
  . have hi:i < vs.length:=by
      unfold c2q at h2
      by_cases hi:i < vs.length
      . exact hi
      . rw [List.getElem?_append_right (by simpa using hi)] at h2
        rw [List.getElem?_replicate] at h2
        split at h2<;>cases h2
    have ha:vs[i]?=some v:=by
      unfold c2q at h2
      rw [List.getElem?_append_left (by simpa using hi),List.getElem?_map] at h2
      cases e:vs[i]? with
      | none=>rw [e] at h2;cases h2
      | some a=>rw [e] at h2;cases h2;rfl
    obtain ⟨u,hu,rv⟩:=r.get ha
    have hp:ps[i]?=some y:=by
      rw [<- S.pre,List.getElem?_take_of_lt (by omega)];exact h1
    have ndP:ps.Nodup:=by rw [<- S.pre];exact S.nd.sublist (List.take_sublist _ _)
    refine ⟨u,rv,?_⟩
    rcases S.par y (List.mem_of_getElem? hp) with k | k
    . exact .inl ⟨k,h9q ndP hp hu k⟩
    . obtain ⟨c,e⟩:=jXq (n:=s.heap.objs.size+1) k
      refine .inr ⟨.inl k,c,e,?_⟩
      have q:=x.cell y c e
      rw [i3q ndP hp hu (by show scope.names.lookup y≠_;rw [k];decide)] at q
      exact q
  . exact e0.hok.fresh (Nat.le_of_lt (x.above y c (PySem.mem_of_lookup h)))
  . unfold c2q
    show _=N.length
    rw [List.length_append,List.length_map,List.length_replicate]
    omega
theorem zNq {CX:CXT} {P:Program} {w:World} {K:PySem.W.Frag} {mg:Str->Option Value} {base:Heap} {k:Nat} {f:Addr} {name qual:Str} {params:Arguments} {body:List Stmt} {scope:Scope} {dV kV doc pm cdv ct oc:Value} {an od:Option Addr}
    {osl:Array (Option Value)} {N ps:List Str} {sp:Sp} (lk:K.lookup f=some ⟨oc,od,.func (PySem.W.fnOf name qual params body scope dV kV doc pm an cdv ct),osl⟩) (hcd:PySem.W.codeIn K cdv qual=true) (S:FnScope N ps scope)
    (len:∀ vs H Q E,sp vs H Q E->vs.length=ps.length)
    (hbody:∀ (A:Around) (outer:List Env) (s:Shared) (H:Hp) (vs:List V) (Q:VK) (E:XK),Room k (A.deeper (envOfC qual scope s.heap.objs.size f cdv))->sp vs H Q E →
      ∃ t,PSs (kZq CX P w K mg base N qual scope f cdv A outer s H E) body t/\t { nx:=λ _ H'=>Q .non H',rt:=Q } (c2q N vs) H) :
    FnOk P w K mg base CX (k+1) f (PySem.W.fnOf name qual params body scope dV kV doc pm an cdv ct) ps sp:=by
  refine ⟨len,λ A outer s H args us vs Q E hr e0 hb r hsp=>?_⟩
  have hl:=len _ _ _ _ hsp
  have KX:K.In s.heap:=e0.mod.kin.keeps λ b o e=>(e0.bs b o e).1
  have lim:s.heap.NoLimit:=e0.mod.nolimit.keeps λ b o e=>(e0.bs b o e).1
  have hkind:∀ y∈ps.zip us,scope.names.lookup y.1=some .local\/(scope.names.lookup y.1=some .cell/\((cellsFrom (s.heap.objs.size+1) scope.names []).lookup y.1).isSome=true):=λ⟨n,v⟩ hy=>by
    rcases S.par n (List.of_mem_zip hy).1 with q | q
    . exact .inl q
    . exact .inr ⟨q,PySem.W.cellsFrom_some _ _ _ (.inl q)⟩
  refine codeAny_call_function hr.depth (KX _ _ lk) rfl S.co S.gen rfl (PySem.W.codeRec_of KX hcd) (hb _ _ _ _ ?_)
  refine wpAny_newFunctionEnv_cells S.kind hkind λ env he s1 x=>?_
  subst he
  refine ⟨lim.keeps x.toInCall.keep,codeAny_func ?_⟩
  obtain ⟨t,ht,hq⟩:=hbody A outer s H vs Q E (hr.deeper _) hsp
  have I:Inv (kZq CX P w K mg base N qual scope f cdv A outer s H E) [] (c2q N vs) H s1:=hHq S hr.hd e0 hl r x
  refine wpAny_mono (ht [] s1 (c2q N vs) H _ I hq) (λ fl s' hs=>?_) λ e s' hs=>hs
  have fin:∀ {σ':St} {H':Hp} {v:V} {u:Value},Inv (kZq CX P w K mg base N qual scope f cdv A outer s H E) [] σ' H' s'->RelV v u->Q v H'->CE outer P w H s Q u s':=
    λ{σ' H' v u} J rv q=>⟨v,H',J.os,J.bare,J.base,J.hok,rv,q⟩
  cases fl with
  | ret u=>
    obtain ⟨v,σ',H',J,rv,q⟩:=hs
    exact fin J rv q
  | next=>
    obtain ⟨σ',H',J,q⟩:=hs
    exact fin (v:=V.non) (u:=Value.none) J rfl q
  | brk=>
    obtain ⟨_,_,_,q⟩:=hs
    exact False.elim q
  | cont=>
    obtain ⟨_,_,_,q⟩:=hs
    exact False.elim q
section
variable {X:Cx} {x:Str} {p pos:Pos} {e:Expr} {es:List Expr} {t:TA} {id T:String} {r:List V->Hp->VK->Prop}
def tCB (r:List V->Hp->VK->Prop) (t:TA):TE:=λ σ H Q=>t σ H λ vs H1=>r vs H1 Q
theorem pKq (hc:CallR X (.builtin id) r) (hg:Gl X x) (hm:X.mg x=none) (hv:bootBuiltins x=some (.builtin id)) (ha:PA X (e::es) t) (hn:x≠"__name__":=by decide) (hdb:(x==("__debug__" : Str))=false:=by decide)
    (he:starEach (e::es) X.env=(false,eval e X.env)::starEach es X.env:=by rfl) (hpl:(backTo pos (starEach es X.env)).any (·.1)=false:=by rfl):PE X (.Call (.Name x p) (e::es) [] pos) (tCB r t):=by
  intro pins s σ H Q I h
  refine wpAny_Call_Name_kw (cSq I hg hm hv ?_ hn hdb)
  exact PyProof.Rows.callWith_builtin1 (thn (ha pos pins s σ H _ I h) λ us s1 ⟨vs,H1,I1,r1,q1⟩=>hc pins s1 σ H1 vs us Q I1 r1 q1) he hpl
theorem nVq (hc:CallR X (.type T) r) (hg:Gl X x) (hm:X.mg x=none) (hv:bootBuiltins x=some (.type T)) (ha:PA X (e::es) t) (hn:x≠"__name__":=by decide) (hdb:(x==("__debug__" : Str))=false:=by decide)
    (he:starEach (e::es) X.env=(false,eval e X.env)::starEach es X.env:=by rfl) (hpl:(backTo pos (starEach es X.env)).any (·.1)=false:=by rfl):PE X (.Call (.Name x p) (e::es) [] pos) (tCB r t):=by
  intro pins s σ H Q I h
  refine wpAny_Call_Name_kw (cSq I hg hm hv ?_ hn hdb)
  exact PyProof.Rows.callWith_type1 (thn (ha pos pins s σ H _ I h) λ us s1 ⟨vs,H1,I1,r1,q1⟩=>hc pins s1 σ H1 vs us Q I1 r1 q1) he hpl
end
end L2
namespace HT
open PySem PyProof.Rows
section
variable {prog:Program} {w:World} {A:Around} {E:Value->Shared->Prop} {s:Shared}
theorem cat_tup {t b:Addr} {vs ws:List Value} {Q:Value->Shared->Prop} (ht:IsTup s.heap t vs.toArray) (hb:IsTup s.heap b ws.toArray) (hv:vs≠[])
    (h1:ws=[]->Q (.ref t) s) (h2:ws≠[]->Q (.ref s.heap.objs.size) { s with heap:=s.heap.push { cls:=.type "tuple", data:=.seq (vs++ws).toArray } })
    (hsz:vs.length+ws.length<=sizeLine):wpAny (model prog w) A (binaryOp .Add (.ref t) (.ref b)) Q E s:=by
  obtain ⟨⟨cls,dd,data,sl⟩,ho,hc,n,hd⟩:=id ht
  obtain ⟨⟨cls2,dd2,data2,sl2⟩,ho2,hc2,n2,hd2⟩:=id hb
  simp only at hc hd hc2 hd2
  subst hc hd hc2 hd2
  have e:vs.toArray++ws.toArray=(vs++ws).toArray:=by simp
  by_cases hw:ws=[]
  . exact concat_meets ⟨_,ho,rfl⟩ ⟨_,ho2,rfl⟩ noFill_tuple_add seq_tuple_add PySem.F.slot_tuple_add PySem.F.entry_tuple_add (PySem.F.args_tuple_add_2 _ _)
      (tuple_addW1 t b vs.toArray ws.toArray n n2 dd dd2 sl sl2 (by simpa using hv) (by simp [hw])) ⟨ho,ho2,h1 hw⟩
  . refine concat_meets ⟨_,ho,rfl⟩ ⟨_,ho2,rfl⟩ noFill_tuple_add seq_tuple_add PySem.F.slot_tuple_add PySem.F.entry_tuple_add (PySem.F.args_tuple_add_2 _ _)
      (tuple_addW2 t b vs.toArray ws.toArray n n2 dd dd2 sl sl2 (by simpa using hv) (by simpa using hw) (by rw [List.size_toArray,List.size_toArray];exact hsz)) ⟨ho,ho2,?_⟩
    rw [e]
    exact h2 hw
def sIx (n d:Nat):Option Int->Nat
  | none=>d
  | some v=>if v < 0 then (v+(n:Int)).toNat else min v.toNat n
theorem xWq (n d:Nat) (hd:d<=n) (o:Option Int):sIx n d o<=n:=by
  cases o with
  | none=>exact hd
  | some v=>
    show (if v < 0 then (v+(n:Int)).toNat else min v.toNat n)<=n
    by_cases hv:v < 0
    . rw [if_pos hv];omega
    . rw [if_neg hv];exact Nat.min_le_right _ _
theorem lIq (v:Int) (n d:Nat):(if v < 0 then max (v+(n:Int)) 0 else min v (n:Int))=((sIx n d (some v):Nat):Int):=by
  show (if v < 0 then max (v+(n:Int)) 0 else min v (n:Int))=(((if v < 0 then (v+(n:Int)).toNat else min v.toNat n):Nat):Int)
  by_cases hv:v < 0
  . simp only [if_pos hv];omega
  . simp only [if_neg hv];omega
theorem kVq (lo hi:Option Int) (n:Nat):Builtin.Slice.sliceAdjust lo hi 1 (n:Int)=(((sIx n 0 lo:Nat):Int),((sIx n n hi:Nat):Int)):=by
  have h1:¬ ((1:Int) < 0):=by omega
  unfold Builtin.Slice.sliceAdjust
  simp only [h1,if_false]
  refine Prod.ext ?_ ?_
  . cases lo with
    | none=>rfl
    | some v=>exact lIq v n 0
  . cases hi with
    | none=>rfl
    | some v=>exact lIq v n n
theorem kTq (i j:Nat):Builtin.Slice.slicePlaces (i:Int) (j:Int) 1=j - i:=by
  unfold Builtin.Slice.slicePlaces
  have h1:(1:Int) > 0:=by omega
  simp only [h1,if_true,Int.ediv_one]
  split<;>omega
theorem fIq {v:Value} {o:Option Int} {Q:Option Int->Shared->Prop} (p:IsPart v o) (h:Q o s):wpAny (model prog w) A (Builtin.Slice.slicePartIndex v) Q E s:=by
  cases p with
  | none=>exact slicePart_none h
  | int i t=>exact slicePart_int h
theorem sliceApplied_gen {sl:Addr} {vl vu:Value} {lo hi:Option Int} {n:Nat} {Q:Int × Int × Nat->Shared->Prop} (hs:s.heap.IsSliceOf sl vl vu .none) (pl:IsPart vl lo) (pu:IsPart vu hi)
    (h:Q (((sIx n 0 lo:Nat):Int),1,sIx n n hi - sIx n 0 lo) s):wpAny (model prog w) A (Builtin.Slice.sliceApplied (.ref sl) (pure (n:Int))) Q E s:=by
  obtain ⟨os,hos,hcs,hds⟩:=id hs
  unfold Builtin.Slice.sliceApplied Builtin.Slice.sliceFields
  refine wpAny_bind (wpAny_bind (wpAny_field hos hds (x:=vl) rfl (wpAny_bind (wpAny_field hos hds (x:=vu) rfl (wpAny_bind (wpAny_field hos hds (x:=.none) rfl (wpAny_pure ?_)))))))
  refine wpAny_bind (slicePart_none ?_)
  show wpAny _ _ (if ((1:Int)==0)=true then _ else _) _ _ s
  rw [if_neg (by decide)]
  refine wpAny_bind (fIq pl (wpAny_bind (fIq pu (wpAny_bind (wpAny_pure ?_)))))
  show wpAny _ _ (match Builtin.Slice.sliceAdjust lo hi 1 (n:Int) with | (lo,hi)=>pure (lo,(1:Int),Builtin.Slice.slicePlaces lo hi 1)) _ _ s
  rw [kVq lo hi n]
  show wpAny _ _ (pure (((sIx n 0 lo:Nat):Int),(1:Int),Builtin.Slice.slicePlaces ((sIx n 0 lo:Nat):Int) ((sIx n n hi:Nat):Int) 1)) _ _ s
  rw [kTq]
  exact wpAny_pure h
theorem oKq (xs:Array Value) (i k:Nat):((List.range k).filterMap λ(m:Nat)=>xs[((i:Int)+(m:Int) * 1).toNat]?).toArray=((xs.toList.drop i).take k).toArray:=by
  have e:(λ(m:Nat)=>xs[((i:Int)+(m:Int) * 1).toNat]?)=λ m=>xs[i+m]?:=by
    funext m
    have:((i:Int)+(m:Int) * 1).toNat=i+m:=by omega
    rw [this]
  rw [e]
  have:=pick_run xs i k
  rw [List.filterMap_map] at this
  have e2:((λ x=>xs[x]?) ∘ λ x=>i+x)=λ m=>xs[i+m]?:=rfl
  rw [e2] at this
  rw [this]
theorem getItem_tuple_cut {t sl:Addr} {items:Array Value} {vl vu:Value} {lo hi:Option Int} {Q:Value->Shared->Prop} (ht:IsTup s.heap t items) (hs:s.heap.IsSliceOf sl vl vu .none) (pl:IsPart vl lo) (pu:IsPart vu hi)
    (hw:¬ (sIx items.size 0 lo=0/\sIx items.size items.size hi=items.size))
    (h:Q (.ref s.heap.objs.size) { s with heap:=s.heap.push { cls:=.type "tuple", data:=.seq ((items.toList.drop (sIx items.size 0 lo)).take (sIx items.size items.size hi - sIx items.size 0 lo)).toArray } })
    (hsz:items.size<=sizeLine):wpAny (model prog w) A (getItem (.ref t) (.ref sl)) Q E s:=by
  have htake:sizeOk (.seq ((items.toList.drop (sIx items.size 0 lo)).take (sIx items.size items.size hi - sIx items.size 0 lo)).toArray):=by
    show ((items.toList.drop (sIx items.size 0 lo)).take (sIx items.size items.size hi - sIx items.size 0 lo)).toArray.size<=sizeLine
    rw [List.size_toArray,List.length_take,List.length_drop,Array.length_toList]
    omega
  have hj:sIx items.size items.size hi<=items.size:=xWq _ _ (Nat.le_refl _) hi
  obtain ⟨os,hos,hcs,hds⟩:=id hs
  have hTs:s.TypeIs (.ref sl) "slice":=⟨os,hos,hcs⟩
  unfold getItem
  try with_reducible refine wpAny_holding ?_
  first | refine wpAny_bind (wpAny_pure ?_) | skip
  refine wpAny_bind (wpAny_sequenceKey ht.typeIs (by decide) ?_)
  refine wpAny_bind (wpAny_callSpecial?_slot (name:=Str.ofString "__getitem__") ht.typeIs PyProof.Rows.slot_tuple_getitem
    (wpAny_call_entry PyProof.Rows.slot_tuple_getitem ht.typeIs entry_tuple_getitem ?_ (args_tuple_getitem _ _)))
  show wpAny _ _ (Builtin.Tuple.tupleItemsOf (.ref t) >>= _) _ _ s
  refine wpAny_bind (tupleItemsOf_ ht ?_)
  refine wpAny_bind (wpAny_typeOf hTs ?_)
  rw [if_pos (by decide)]
  refine wpAny_bind (sliceApplied_gen hs pl pu ?_)
  have hno:¬ ((((sIx items.size 0 lo:Nat):Int)==0&&(1:Int)==1&&(sIx items.size items.size hi - sIx items.size 0 lo)==items.size)=true):=by
    intro q
    rw [Bool.and_eq_true,Bool.and_eq_true] at q
    have q1:((sIx items.size 0 lo:Nat):Int)=0:=eq_of_beq q.1.1
    have q2:sIx items.size items.size hi - sIx items.size 0 lo=items.size:=eq_of_beq q.2
    exact hw ⟨by omega,by omega⟩
  show wpAny _ _ (if (((sIx items.size 0 lo:Nat):Int)==0&&(1:Int)==1&&(sIx items.size items.size hi - sIx items.size 0 lo)==items.size)=true then _ else _) _ _ s
  rw [if_neg hno,oKq]
  first
    | exact wpAny_bind (m:=Builtin.Tuple.tupleExact _) (wpAny_newObj_type (wpAny_pure ⟨_,rfl,wpAny_pure h⟩) htake)
    | exact wpAny_bind (m:=Builtin.Tuple.tupleExact _) (wpAny_newObj_type (wpAny_bind (wpAny_pure (wpAny_pure ⟨_,rfl,wpAny_pure h⟩))) htake)
    | exact wpAny_bind (wpAny_bind (m:=Builtin.Tuple.tupleExact _) (wpAny_newObj_type (wpAny_pure (wpAny_pure ⟨_,rfl,wpAny_pure h⟩)) htake))
    | exact wpAny_bind (wpAny_bind (m:=Builtin.Tuple.tupleExact _) (wpAny_newObj_type (wpAny_pure ⟨_,rfl,wpAny_pure h⟩) htake))
end
end HT
namespace L2
open PySem PySem.Spec PyProof.Rows
abbrev TO:=St->Hp->(Option Int->Hp->Prop)->Prop
def PO (X:Cx) (e:Option Expr) (t:TO):Prop:=
  ∀ (pins:List (Addr × Obj)) (s:Shared) (σ:St) (H:Hp) (Q:Option Int->Hp->Prop),Inv X pins σ H s->t σ H Q →
    wpAny (model X.prog X.w) X.A (evalPart e X.env) (λ u s'=>∃ o H',Inv X pins σ H' s'/\IsPart u o/\Q o H') X.xe s
def nRq:TO:=λ _ H Q=>Q none H
def y4q (t:TE):TO:=λ σ H Q=>t σ H λ x H1=>∃ i,x=.int i/\Q (some i) H1
section
variable {X:Cx} {e:Expr} {te:TE} {lo hi:Option Expr} {tl th:TO} {pos p2:Pos}
theorem tLq:PO X none nRq:=by
  intro pins s σ H Q I h
  rw [evalPart_none]
  exact wpAny_pure ⟨none,H,I,.none,h⟩
theorem tXq (h:PE X e te):PO X (some e) (y4q te):=by
  intro pins s σ H Q I hw
  rw [evalPart_some]
  refine thn (h pins s σ H _ I hw) λ u s1 ⟨x,H1,I1,r1,q1⟩=>?_
  obtain ⟨i,rfl,q⟩:=q1
  obtain ⟨t,rfl⟩:=r1
  exact ⟨some i,H1,I1,.int i t,q⟩
def SlR (X:Cx) (r:V->Option Int->Option Int->Hp->VK->Prop):Prop:=
  ∀ (pins:List (Addr × Obj)) (s:Shared) (σ:St) (H:Hp) (x:V) (v vl vu:Value) (lo hi:Option Int) (sl:Addr) (Q:VK),Inv X pins σ H s->RelV x v->s.heap.IsSliceOf sl vl vu .none->IsPart vl lo->IsPart vu hi->r x lo hi H Q →
    ∃ T id,typeLookup (.type T) "__getitem__" = pure (some (.builtin id))/\s.TypeIs v T/\wpAny (model X.prog X.w) X.A (getItem v (.ref sl)) (EP X pins σ Q) X.xe s
theorem SlR.or {r r':V->Option Int->Option Int->Hp->VK->Prop} (h:SlR X r) (h':SlR X r'):SlR X (λ x lo hi H Q=>r x lo hi H Q\/r' x lo hi H Q):=by
  intro pins s σ H x v vl vu lo hi sl Q I rx hs pl pu q
  rcases q with q | q
  . exact h pins s σ H x v vl vu lo hi sl Q I rx hs pl pu q
  . exact h' pins s σ H x v vl vu lo hi sl Q I rx hs pl pu q
def tSl (r:V->Option Int->Option Int->Hp->VK->Prop) (te:TE) (tl th:TO):TE:=λ σ H Q=>te σ H λ x H1=>tl σ H1 λ l H2=>th σ H2 λ u H3=>r x l u H3 Q
theorem pPq {r:V->Option Int->Option Int->Hp->VK->Prop} (hr:SlR X r) (he:PE X e te) (hl:PO X lo tl) (hu:PO X hi th):PE X (.Subscript e (.Slice lo hi none p2) pos) (tSl r te tl th):=by
  intro pins s σ H Q I h
  refine Subscript_ (thn (he pins s σ H _ I h) λ v s1 ⟨x,H1,I1,r1,q1⟩=>?_)
  refine wpAny_Slice (thn (hl pins s1 σ H1 _ I1 q1) λ vl s2 ⟨l,H2,I2,pl,q2⟩=>thn (hu pins s2 σ H2 _ I2 q2) λ vu s3 ⟨u,H3,I3,pu,q3⟩=>?_)
  rw [evalPart_none]
  refine wpAny_pure ?_
  have I4:Inv X pins σ H3 { s3 with heap:=s3.heap.push { cls:=.type "slice", data:=.fields #[vl,vu,.none] } }:=I3.kept (t':=s3.toks) λ b ob q=>Heap.get?_push_of_some _ q
  obtain ⟨T,id,hT,ht,hg⟩:=hr pins { s3 with heap:=s3.heap.push { cls:=.type "slice", data:=.fields #[vl,vu,.none] } } σ H3 x v vl vu l u s3.heap.objs.size Q I4 r1 (Heap.IsSliceOf.new ..) pl pu q3
  show wpAny (model X.prog X.w) X.A (subscriptTail e (.Slice lo hi none p2) v (.ref s3.heap.objs.size)) (EP X pins σ Q) X.xe { s3 with heap:=s3.heap.push { cls:=.type "slice", data:=.fields #[vl,vu,.none] } }
  exact tail_any (ops:=[.ref s3.heap.objs.size,v]) ht hT hg (by with_unfolding_all rfl)
def l0q (xs:List V) (lo hi:Option Int):List V:=(xs.drop (HT.sIx xs.length 0 lo)).take (HT.sIx xs.length xs.length hi - HT.sIx xs.length 0 lo)
theorem eIq (xs:List V) (lo hi:Option Int):(l0q xs lo hi).length<=xs.length:=by
  unfold l0q
  rw [List.length_take,List.length_drop]
  omega
def rSlT (K:PySem.W.Frag):V->Option Int->Option Int->Hp->VK->Prop:=λ x lo hi H Q=>∃ a xs,x=.ref a/\SqT K H a xs ∧
  ¬ (HT.sIx xs.length 0 lo=0/\HT.sIx xs.length xs.length hi=xs.length)/\∀ p,H p=none->Q (.ref p) (upd H p (.tup (l0q xs lo hi)))
theorem xLq:SlR X (rSlT X.K):=by
  intro pins s σ H x v vl vu lo hi sl Q I rx hs pl pu h
  obtain ⟨a,xs,rfl,hx,hw,q⟩:=h
  cases rx
  obtain ⟨its,r,ht,hz⟩:=I.tuple hx
  have hlen:its.toArray.size=xs.length:=by rw [List.size_toArray];exact r.length.symm
  refine ⟨"tuple", _,PyProof.Rows.slot_tuple_getitem.lookup,ht.typeIs,?_⟩
  refine HT.getItem_tuple_cut ht hs pl pu (by rw [hlen];exact hw) ?_ (by rw [hlen];exact hz)
  rw [hlen]
  refine ⟨.ref s.heap.objs.size,_,I.laid (t':=s.toks) (o:=.tup (l0q xs lo hi)) (λ b ob q=>Heap.get?_push_of_some _ q) (Nat.le_refl _) ?_,rfl,q _ (I.hok.fresh (Nat.le_refl _))⟩
  exact ⟨Nat.le_trans (eIq xs lo hi) hz,_,(r.drop (HT.sIx xs.length 0 lo)).take (HT.sIx xs.length xs.length hi - HT.sIx xs.length 0 lo),IsTup.new _ _⟩
def aB0q (K:PySem.W.Frag):R2:=λ x y H Q=>∃ a b xs ys,x=.ref a/\y=.ref b/\SqT K H a xs/\SqT K H b ys/\xs≠[]/\xs.length+ys.length<=sizeLine ∧
  (ys=[]->Q (.ref a) H)/\(ys≠[]->∀ p,H p=none->Q (.ref p) (upd H p (.tup (xs++ys))))
theorem Vals.nil_iff {xs:List V} {us:List Value} (r:Vals xs us):us=[] ↔ xs=[]:=by
  cases r with
  | nil=>simp
  | cons _ _=>simp
theorem sRq:OpR X (binaryOp .Add) (aB0q X.K):=by
  intro pins s σ H x y v u Q I rx ry h
  obtain ⟨a,b,xs,ys,rfl,rfl,ha,hb,hx,hz,q1,q2⟩:=h
  cases rx
  cases ry
  obtain ⟨its,r1,p1,_⟩:=I.tuple ha
  obtain ⟨its2,r2,p2,_⟩:=I.tuple hb
  refine HT.cat_tup p1 p2 (λ z=>hx (r1.nil_iff.mp z)) (λ z=>⟨.ref a,H,I,rfl,q1 (r2.nil_iff.mp z)⟩) (λ z=>?_) (by rw [<- r1.length,<- r2.length];exact hz)
  refine ⟨.ref s.heap.objs.size,_,I.laid (t':=s.toks) (o:=.tup (xs++ys)) (λ b ob q=>Heap.get?_push_of_some _ q) (Nat.le_refl _) ?_,rfl,q2 (λ w=>z (r2.nil_iff.mpr w)) _ (I.hok.fresh (Nat.le_refl _))⟩
  exact ⟨by rw [List.length_append];exact hz,_,r1.append r2,IsTup.new _ _⟩
end
def ixN (n:Nat) (i:Int):Option Nat:=if 0<=i then (if i < n then some i.toNat else none) else if -(n:Int)<=i then some (i+n).toNat else none
def atI {α:Type} (xs:List α) (i:Int):Option α:=(ixN xs.length i).bind λ j=>xs[j]?
theorem lAq {n:Nat} {i:Int} {j:Nat} (h:ixN n i=some j):seqIndex? i n=some j/\j < n/\-(n:Int)<=i/\i < n:=by
  unfold ixN at h
  by_cases h0:0<=i
  . rw [if_pos h0] at h
    by_cases h1:i < n
    . rw [if_pos h1] at h
      have e:i.toNat=j:=Option.some.inj h
      exact ⟨by rw [seqIndex_of h0 h1,e],by omega,by omega,h1⟩
    . rw [if_neg h1] at h;cases h
  . rw [if_neg h0] at h
    by_cases h1:-(n:Int)<=i
    . rw [if_pos h1] at h
      have e:(i+n).toNat=j:=Option.some.inj h
      exact ⟨by rw [seqIndex_neg (by omega) h1,e],by omega,h1,by omega⟩
    . rw [if_neg h1] at h;cases h
theorem j4q {α:Type} {xs:List α} {i:Int} {v:α} (h:atI xs i=some v):∃ j,seqIndex? i xs.length=some j/\xs[j]?=some v/\j < xs.length/\-(xs.length:Int)<=i/\i < xs.length:=by
  unfold atI at h
  cases e:ixN xs.length i with
  | none=>rw [e] at h;cases h
  | some j=>
    rw [e] at h
    obtain ⟨h1,h2,h3,h4⟩:=lAq e
    exact ⟨j,h1,h,h2,h3,h4⟩
theorem cDq {α:Type} {xs:List α} {j:Nat} {v:α} (h:xs[j]?=some v):atI xs (j:Int)=some v:=by
  have hj:j < xs.length:=(List.getElem?_eq_some_iff.mp h).1
  have e:ixN xs.length (j:Int)=some j:=by
    unfold ixN
    rw [if_pos (by omega),if_pos (by omega)];simp
  unfold atI;rw [e];exact h
def gLq (b:Expr):Prop:=∀ o i,subscripted b false o i=operate [o,i] (getItem o i)
def IxR (X:Cx) (r:R2):Prop:=
  ∀ (value slice:Expr) (pins:List (Addr × Obj)) (s:Shared) (σ:St) (H:Hp) (x y:V) (v u:Value) (Q:VK),Inv X pins σ H s->RelV x v->RelV y u->r x y H Q →
    subscripted slice false v u=operate [v,u] (getItem v u)->wpAny (model X.prog X.w) X.A (subscriptTail value slice v u) (EP X pins σ Q) X.xe s
def MtR (X:Cx) (id:String) (r:V->List V->Hp->VK->Prop):Prop:=
  ∀ (pins:List (Addr × Obj)) (s:Shared) (σ:St) (H:Hp) (x:V) (xs:List V) (v:Value) (us:List Value) (Q:VK),Inv X pins σ H s->RelV x v->Vals xs us->r x xs H Q →
    wpAny (model X.prog X.w) X.A (call (.builtin id) (v::us)) (EP X pins σ Q) X.xe s
section
variable {X:Cx} {a b:Expr} {ta tb:TE} {pos:Pos}
theorem IxR.or {r r':R2} (h:IxR X r) (h':IxR X r'):IxR X (λ x y H Q=>r x y H Q\/r' x y H Q):=by
  intro value slice pins s σ H x y v u Q I rx ry q hs
  rcases q with q | q
  . exact h value slice pins s σ H x y v u Q I rx ry q hs
  . exact h' value slice pins s σ H x y v u Q I rx ry q hs
theorem MtR.or {id:String} {r r':V->List V->Hp->VK->Prop} (h:MtR X id r) (h':MtR X id r'):MtR X id (λ x xs H Q=>r x xs H Q\/r' x xs H Q):=by
  intro pins s σ H x xs v us Q I rx rs q
  rcases q with q | q
  . exact h pins s σ H x xs v us Q I rx rs q
  . exact h' pins s σ H x xs v us Q I rx rs q
theorem yWq {r:R2} (hr:IxR X r) (ha:PE X a ta) (hb:PE X b tb) (hs:gLq b):PE X (.Subscript a b pos) (tOp r ta tb):=by
  intro pins s σ H Q I h
  exact Subscript_ (zBq ha hb I h λ v u s2 x y H2 I2 rx ry q=>hr a b pins s2 σ H2 x y v u Q I2 rx ry q (hs _ _))
def rIxL (K:PySem.W.Frag):R2:=λ x y H Q=>∃ p xs i v,x=.ref p/\y=.int i/\SqL K H p xs/\atI xs i=some v/\Q v H
def rIxT (K:PySem.W.Frag):R2:=λ x y H Q=>∃ p xs i v,x=.ref p/\y=.int i/\SqT K H p xs/\atI xs i=some v/\Q v H
def rIxS:R2:=λ x y H Q=>∃ z i c,x=.str z/\y=.int i/\z.length<=sizeLine/\atI z.cps.toList i=some c/\Q (.str ⟨#[c]⟩) H
theorem ix_list:IxR X (rIxL X.K):=by
  intro value slice pins s σ H x y v u Q I rx ry h hs
  obtain ⟨p,xs,i,z,rfl,rfl,hq,he,q⟩:=h
  cases rx
  obtain ⟨t,rfl⟩:=ry
  obtain ⟨its,r,pl,hz⟩:=I.list hq
  obtain ⟨j,h1,h2,h3,h4,h5⟩:=j4q he
  obtain ⟨w,ew,rw'⟩:=r.get h2
  have hl:=r.length
  have hn:=d9q
  have fin:EP X pins σ Q w s:=⟨z,H,I,rw',q⟩
  by_cases h0:0<=i
  . have hj:i.toNat=j:=by
      rw [seqIndex_of h0 h5] at h1
      exact Option.some.inj h1
    exact item_listR pl.isList h0 (by omega) (by rw [hj];simpa using ew) fin hs
  . have hj:(i+(its.toArray.size:Int)).toNat=j:=by
      rw [seqIndex_neg (by omega) h4] at h1
      rw [List.size_toArray,<- hl]
      exact Option.some.inj h1
    exact subscriptTail_builtinR (x:=w) pl.isList.typeIs slot_list_getitem.lookup
      (wpAny_getItem_list_neg (Q:=λ r s'=>r=w/\EP X pins σ Q r s') pl.isList (by omega) (by rw [List.size_toArray]<;>omega) (by omega) (by rw [hj];simpa using ew) ⟨rfl,fin⟩) hs
theorem ix_tup:IxR X (rIxT X.K):=by
  intro value slice pins s σ H x y v u Q I rx ry h hs
  obtain ⟨p,xs,i,z,rfl,rfl,hq,he,q⟩:=h
  cases rx
  obtain ⟨t,rfl⟩:=ry
  obtain ⟨its,r,pl,hz⟩:=I.tuple hq
  obtain ⟨j,h1,h2,h3,h4,h5⟩:=j4q he
  obtain ⟨w,ew,rw'⟩:=r.get h2
  have hl:=r.length
  have hn:=d9q
  have fin:EP X pins σ Q w s:=⟨z,H,I,rw',q⟩
  exact subscriptTail_builtinR (x:=w) pl.typeIs slot_tuple_getitem.lookup
    (getItem_tuple (j:=j) (Q:=λ r s'=>r=w/\EP X pins σ Q r s') pl (by omega) (by omega) (by rw [List.size_toArray,<- hl];exact h1) (by simpa using ew) ⟨rfl,fin⟩) hs
theorem uPq:IxR X rIxS:=by
  intro value slice pins s σ H x y v u Q I rx ry h hs
  obtain ⟨z,i,c,rfl,rfl,hz,he,q⟩:=h
  obtain ⟨t,rfl⟩:=rx
  obtain ⟨t',rfl⟩:=ry
  obtain ⟨j,h1,h2,h3,h4,h5⟩:=j4q he
  have hl:z.cps.toList.length=z.length:=by simp [Str.length]
  rw [hl] at h1 h4 h5
  have hn:=d9q
  exact tail_any (typeIs_str s z t) slot_str_getitem.lookup (getItem_str (c:=c) (by
    have e1:decide (i < -(2 ^ 63:Int))=false:=decide_eq_false (by omega)
    have e2:decide (i ≥ 2 ^ 63)=false:=decide_eq_false (by omega)
    rw [e1,e2,Bool.or_false]) (by rw [h1];simpa using h2) ⟨.str ⟨#[c]⟩,H,I.tok _,⟨_,rfl⟩,q⟩) hs
def rIx (K:PySem.W.Frag):R2:=λ x y H Q=>rIxL K x y H Q\/rIxT K x y H Q\/rIxS x y H Q
theorem r1q:IxR X (rIx X.K):=ix_list.or (ix_tup.or uPq)
theorem kDq (its:List Value) (n j:Nat) (u:Value):Obj.mapSeq (·.setIfInBounds j u) { cls:=.type "list", data:=.seq its.toArray n }={ cls:=.type "list", data:=.seq (its.set j u).toArray n }:=by
  simp [Obj.mapSeq]
theorem Inv.lst {pins:List (Addr × Obj)} {σ:St} {H:Hp} {s:Shared} {p:Addr} {xs:List V} (I:Inv X pins σ H s) (h:H p=some (.lst xs)) :
    ∃ (its:List Value) (n:Nat),Vals xs its/\s.heap.get? p=some { cls:=.type "list", data:=.seq its.toArray n }/\xs.length<=sizeLine:=by
  obtain ⟨z,its,n,r,e⟩:=I.hok p _ h
  exact ⟨its,n,r,e,z⟩
theorem Inv.lstUpd {pins:List (Addr × Obj)} {σ:St} {H:Hp} {s:Shared} {p:Addr} {xs ys:List V} {its its':List Value} {n n':Nat} {f:Obj->Obj} (I:Inv X pins σ H s) (h:H p=some (.lst xs))
    (ho:s.heap.get? p=some { cls:=.type "list", data:=.seq its.toArray n }) (hf:f { cls:=.type "list", data:=.seq its.toArray n }={ cls:=.type "list", data:=.seq its'.toArray n' }) (r:Vals ys its') (hz:ys.length<=sizeLine) (t:Nat) :
    Inv X pins σ (upd H p (.lst ys)) { s with heap:=s.heap.update p f,toks:=t }:=by
  have e:(s.heap.update p f).get? p=some { cls:=.type "list", data:=.seq its'.toArray n' }:=by
    rw [Heap.get?_update_self f ho (by rw [hf]<;>rfl),hf]
  refine I.write (x:=p) (e:=p) (by rw [h];trivial) (.inl rfl) (λ b u hb q=>(Heap.get?_update_other _ _ (Ne.symm hb)).trans q) ⟨_,e⟩ ?_
  exact ⟨hz,its',n',r,e⟩
def yZq:V->V->V->Hp->(Hp->Prop)->Prop:=λ o i v H Q=>∃ p xs k j,o=.ref p/\i=.int k/\H p=some (.lst xs)/\ixN xs.length k=some j/\Q (upd H p (.lst (xs.set j v)))
theorem pVq:yUq X yZq:=by
  intro pins s σ H o i v ov iv u Q I ro ri rv h
  obtain ⟨p,xs,k,j,rfl,rfl,hp,hj,q⟩:=h
  cases ro
  obtain ⟨t,rfl⟩:=ri
  obtain ⟨its,n,r,ho,hz⟩:=I.lst hp
  obtain ⟨h1,h2,h3,h4⟩:=lAq hj
  have hl:=r.length
  have hn:=d9q
  have I':Inv X pins σ (upd H p (.lst (xs.set j v))) { s with heap:=s.heap.update p (Obj.mapSeq (·.setIfInBounds j u)) }:=
    I.lstUpd hp ho (kDq its n j u) (r.set rv j) (by rw [List.length_set];exact hz) s.toks
  by_cases h0:0<=k
  . have hk:k.toNat=j:=by
      rw [seqIndex_of h0 h4] at h1
      exact Option.some.inj h1
    exact PySem.W.ki_setAt ho h0 (by omega) (by rw [List.size_toArray,<- hl];exact h4) (by rw [hk];exact ⟨_,I',q⟩)
  . have hk:(k+(its.toArray.size:Int)).toNat=j:=by
      rw [seqIndex_neg (by omega) h3] at h1
      rw [List.size_toArray,<- hl]
      exact Option.some.inj h1
    exact PySem.W.ki_setBack ho (by omega) (by rw [List.size_toArray,<- hl];exact h3) (by omega) (by rw [hk];exact ⟨_,I',q⟩)
theorem hOq (lo hi:Option Int) (n:Nat):(sliceBounds lo hi none n).1=((HT.sIx n 0 lo:Nat):Int)/\(sliceBounds lo hi none n).2.1=((HT.sIx n n hi:Nat):Int)/\(sliceBounds lo hi none n).2.2=1:=by
  refine ⟨?_,?_,rfl⟩
  . cases lo with
    | none=>simp [sliceBounds,HT.sIx]
    | some i=>
      simp only [sliceBounds,HT.sIx,Option.getD_none,show (1:Int) > 0 by decide,if_true]
      by_cases h:i < 0
      . simp only [h,if_true]<;>omega
      . simp only [h,if_false]<;>omega
  . cases hi with
    | none=>simp [sliceBounds,HT.sIx]
    | some i=>
      simp only [sliceBounds,HT.sIx,Option.getD_none,show (1:Int) > 0 by decide,if_true]
      by_cases h:i < 0
      . simp only [h,if_true]<;>omega
      . simp only [h,if_false]<;>omega
theorem g4q (its:List Value) (lo hi:Option Int):slicePick its.toArray lo hi none=((its.drop (HT.sIx its.length 0 lo)).take (HT.sIx its.length its.length hi - HT.sIx its.length 0 lo)).toArray:=by
  obtain ⟨h1,h2,h3⟩:=hOq lo hi its.toArray.size
  unfold slicePick
  rw [h1,h2,h3]
  simp only [sliceRange_one,pick_run,List.size_toArray]<;>rfl
def rSlL (K:PySem.W.Frag):V->Option Int->Option Int->Hp->VK->Prop:=λ x lo hi H Q=>∃ a xs,x=.ref a/\SqL K H a xs/\∀ p,H p=none->Q (.ref p) (upd H p (.lst (l0q xs lo hi)))
theorem s3q:SlR X (rSlL X.K):=by
  intro pins s σ H x v vl vu lo hi sl Q I rx hs pl pu h
  obtain ⟨a,xs,rfl,hx,q⟩:=h
  cases rx
  obtain ⟨its,r,ht,hz⟩:=I.list hx
  have hlen:=r.length
  refine ⟨"list", _,slot_list_getitem.lookup,ht.isList.typeIs,?_⟩
  refine wpAny_getItem_list_slice ht.isList hs pl pu .none (by simp) ?_ (by rw [List.size_toArray]<;>omega)
  rw [g4q,<- hlen]
  refine ⟨.ref s.heap.objs.size,_,I.laid (t':=s.toks) (o:=.lst (l0q xs lo hi)) (λ b ob q=>Heap.get?_push_of_some _ q) (Nat.le_refl _) ?_,rfl,q _ (I.hok.fresh (Nat.le_refl _))⟩
  exact ⟨Nat.le_trans (eIq xs lo hi) hz,_,0,(r.drop (HT.sIx xs.length 0 lo)).take (HT.sIx xs.length xs.length hi - HT.sIx xs.length 0 lo),Heap.get?_push_size _ rfl⟩
def f2q:V->Bool
  | .non=>true
  | .bl _=>true
  | .int _=>true
  | .str _=>true
  | _=>false
def eqV:V->V->Bool
  | .non,.non=>true
  | .bl a,.bl b=>a==b
  | .bl a,.int b=>(if a then 1 else 0)==b
  | .int a,.bl b=>a==(if b then 1 else 0)
  | .int a,.int b=>a==b
  | .str a,.str b=>a==b
  | _,_=>false
theorem vSq {A:Around} {s:Shared} {y x:V} {u v:Value} (ry:RelV y u) (rx:RelV x v) (fy:f2q y=true) (fx:f2q x=true):SeqAt.EqAt A s u v (eqV y x):=by
  cases y with
  | non=>
    cases ry
    cases x with
    | non=>cases rx;exact SeqAt.EqAt.same _
    | bl b=>cases rx;exact SeqAt.EqAt.none_bool b
    | int b=>obtain ⟨t,rfl⟩:=rx;exact SeqAt.EqAt.none_int b t
    | str b=>obtain ⟨t,rfl⟩:=rx;exact SeqAt.EqAt.none_str b t
    | _=>exact absurd (show false=true from fx) Bool.false_ne_true
  | bl a=>
    cases ry
    cases x with
    | non=>cases rx;exact SeqAt.EqAt.bool_none a
    | bl b=>cases rx;exact SeqAt.EqAt.bool_bool a b
    | int b=>obtain ⟨t,rfl⟩:=rx;exact SeqAt.EqAt.bool_int a b t
    | str b=>obtain ⟨t,rfl⟩:=rx;exact SeqAt.EqAt.bool_str a b t
    | _=>exact absurd (show false=true from fx) Bool.false_ne_true
  | int a=>
    obtain ⟨t',rfl⟩:=ry
    cases x with
    | non=>cases rx;exact SeqAt.EqAt.int_none a t'
    | bl b=>cases rx;exact SeqAt.EqAt.int_bool a t' b
    | int b=>obtain ⟨t,rfl⟩:=rx;exact SeqAt.EqAt.int_int a t' b t
    | str b=>obtain ⟨t,rfl⟩:=rx;exact SeqAt.EqAt.int_str a t' b t
    | _=>exact absurd (show false=true from fx) Bool.false_ne_true
  | str a=>
    obtain ⟨t',rfl⟩:=ry
    cases x with
    | non=>cases rx;exact SeqAt.EqAt.str_none a t'
    | bl b=>cases rx;exact SeqAt.EqAt.str_bool a t' b
    | int b=>obtain ⟨t,rfl⟩:=rx;exact SeqAt.EqAt.str_int a t' b t
    | str b=>obtain ⟨t,rfl⟩:=rx;exact SeqAt.EqAt.str_str a t' b t
    | _=>exact absurd (show false=true from fx) Bool.false_ne_true
  | _=>exact absurd (show false=true from fy) Bool.false_ne_true
def eqU (x:V) (u:Value):Bool:=match u with
  | .none=>eqV .non x
  | .bool b=>eqV (.bl b) x
  | .int i _=>eqV (.int i) x
  | .str z _=>eqV (.str z) x
  | _=>false
theorem rAq {x y:V} {u:Value} (r:RelV y u) (f:f2q y=true):eqU x u=eqV y x:=by
  cases y with
  | non=>cases r;rfl
  | bl b=>cases r;rfl
  | int i=>obtain ⟨t,rfl⟩:=r;rfl
  | str z=>obtain ⟨t,rfl⟩:=r;rfl
  | _=>exact absurd (show false=true from f) Bool.false_ne_true
theorem iMq {x:V}:∀ {xs:List V} {us:List Value},Vals xs us->xs.all f2q=true->us.any (eqU x)=xs.any λ y=>eqV y x
  | _,_,.nil,_=>rfl
  | y::xs,u::us,.cons r t,f=>by
    rw [List.all_cons,Bool.and_eq_true] at f
    rw [List.any_cons,List.any_cons,rAq r f.1,iMq t f.2]
theorem g8q {A:Around} {s:Shared} {x:V} {v:Value} (rx:RelV x v) (fx:f2q x=true):∀ {xs:List V} {us:List Value},Vals xs us->xs.all f2q=true->∀ u∈us,SeqAt.EqAt A s u v (eqU x u)
  | _,_,.nil,_=>λ u hu=>by cases hu
  | y::xs,u::us,.cons r t,f=>λ u' hu=>by
    rw [List.all_cons,Bool.and_eq_true] at f
    rcases List.mem_cons.mp hu with rfl | hu
    . rw [rAq r f.1];exact vSq r rx f.1 fx
    . exact g8q rx fx t f.2 u' hu
def inV (x:V) (xs:List V):Bool:=xs.any λ y=>eqV y x
def rIn (K:PySem.W.Frag) (neg:Bool):R2:=λ x y H Q=>∃ p xs,y=.ref p/\(SqL K H p xs\/SqT K H p xs)/\f2q x=true/\xs.all f2q=true/\Q (.bl (if neg then !inV x xs else inV x xs)) H
theorem op_in_seq:OpR X (compareOp .In) (rIn X.K false):=by
  intro pins s σ H x y v u Q I rx ry h
  obtain ⟨p,xs,rfl,hq,fx,fs,q⟩:=h
  cases ry
  rcases hq with hq | hq
  . obtain ⟨its,r,pl,hz⟩:=I.list hq
    refine SeqAt.in_listAt (eqU x) pl.isList (λ w hw=>g8q rx fx r fs w (by simpa using hw)) ⟨.bl _,H,I,rfl,?_⟩
    rw [show its.toArray.any (eqU x)=its.any (eqU x) by simp,iMq r fs]
    exact q
  . obtain ⟨its,r,pl,hz⟩:=I.tuple hq
    refine SeqAt.in_tupleAt (eqU x) pl (λ w hw=>g8q rx fx r fs w (by simpa using hw)) ⟨.bl _,H,I,rfl,?_⟩
    rw [show its.toArray.any (eqU x)=its.any (eqU x) by simp,iMq r fs]
    exact q
theorem call_len_seq:CallR X (.builtin "len") (λ xs H Q=>∃ p ys,xs=[.ref p]/\(SqL X.K H p ys\/SqT X.K H p ys)/\Q (.int ys.length) H):=by
  intro pins s σ H xs us Q I r h
  obtain ⟨p,ys,rfl,hq,q⟩:=h
  obtain ⟨u,rfl,rx⟩:=hPq r
  cases rx
  have hn:=d9q
  rcases hq with hq | hq
  . obtain ⟨its,r',pl,hz⟩:=I.list hq
    have hlen:=r'.length
    exact Calls.call_len_list pl.isList (by simp only [List.size_toArray]<;>omega) ⟨.int ys.length,H,I.tok _,⟨s.toks+1,by rw [List.size_toArray,hlen]⟩,q⟩
  . obtain ⟨its,r',pl,hz⟩:=I.tuple hq
    have hlen:=r'.length
    exact len_tuple pl (by simp only [List.size_toArray]<;>omega) ⟨.int ys.length,H,I.tok _,⟨s.toks+1,by rw [List.size_toArray,hlen]⟩,q⟩
theorem hDq:CallR X (.builtin "len") (λ xs H Q=>∃ z,xs=[.str z]/\z.length<=sizeLine/\Q (.int z.length) H):=by
  intro pins s σ H xs us Q I r h
  obtain ⟨z,rfl,hz,q⟩:=h
  obtain ⟨u,rfl,t,rfl⟩:=hPq r
  have hn:=d9q
  exact len_str (by omega) ⟨.int z.length,H,I.tok _,⟨_,rfl⟩,q⟩
theorem CallR.or {f:Value} {r r':List V->Hp->VK->Prop} (h:CallR X f r) (h':CallR X f r'):CallR X f (λ xs H Q=>r xs H Q\/r' xs H Q):=by
  intro pins s σ H xs us Q I rs q
  rcases q with q | q
  . exact h pins s σ H xs us Q I rs q
  . exact h' pins s σ H xs us Q I rs q
theorem gTq:CallR X (.type "tuple") (λ xs H Q=>∃ p ys,xs=[.ref p]/\((SqL X.K H p ys/\∀ l,H l=none->Q (.ref l) (upd H l (.tup ys)))\/(SqT X.K H p ys/\Q (.ref p) H))):=by
  intro pins s σ H xs us Q I r h
  obtain ⟨p,ys,rfl,h⟩:=h
  obtain ⟨u,rfl,rx⟩:=hPq r
  cases rx
  rcases h with ⟨hq,q⟩ | ⟨hq,q⟩
  . obtain ⟨its,r',pl,hz⟩:=I.list hq
    have hlen:=r'.length
    refine call_tuple_list pl.isList (λ h' kp=>?_) (by simp only [List.size_toArray]<;>omega)
    have I1:Inv X pins σ H { s with heap:=h' }:=I.kept (t':=s.toks) kp
    have I2:Inv X pins σ (upd H h'.objs.size (.tup ys)) { s with heap:=h'.push { cls:=.type "tuple", data:=.seq its.toArray } }:=
      I1.laid (t':=s.toks) (λ b o e=>Heap.get?_push_of_some _ e) (Nat.le_refl _) (show ObjOk X.prog X.w _ _ _ (.tup ys) from ⟨hz,its,r',IsTup.new _ _⟩)
    exact ⟨.ref h'.objs.size,_,I2,rfl,q _ (I1.hok.fresh (Nat.le_refl _))⟩
  . obtain ⟨its,r',pl,hz⟩:=I.tuple hq
    exact call_tuple_same pl ⟨.ref p,H,I,rfl,q⟩
def tyV (K:PySem.W.Frag) (T:String) (x:V) (H:Hp):Prop:=match x with
  | .str _=>T = "str"
  | .int _=>T = "int"
  | .ref p=>(T = "list"/\∃ xs,SqL K H p xs)\/(T = "tuple"/\∃ o,K.lookup p=some o/\o.cls=.type "tuple"/\o.dict=none) ∨
      (T = "dict"/\((∃ kvs,H p=some (.dK kvs))\/∃ kvs,H p=some (.dT kvs)))\/(T = "set"/\∃ S n,H p=some (.set S n))
  | _=>False
theorem mPq {pins:List (Addr × Obj)} {σ:St} {H:Hp} {s:Shared} {T:String} {x:V} {v:Value} (I:Inv X pins σ H s) (r:RelV x v) (ty:tyV X.K T x H) :
    s.TypeIs v T/\∀ a,v=.ref a->∃ ob,s.heap.get? a=some ob/\ob.dict=none:=by
  cases x with
  | str z=>
    obtain ⟨t,rfl⟩:=r
    cases (show T = "str" from ty)
    exact ⟨typeIs_str s z t,λ _ e=>nomatch e⟩
  | int i=>
    obtain ⟨t,rfl⟩:=r
    cases (show T = "int" from ty)
    exact ⟨typeIs_int s i t,λ _ e=>nomatch e⟩
  | ref p=>
    cases r
    rcases ty with ⟨rfl,xs,hq⟩ | ⟨rfl,o,hk,hc,hd⟩ | ⟨rfl,hk⟩ | ⟨rfl,S,n,hk⟩
    . obtain ⟨its,_,pl,_⟩:=I.list hq
      refine ⟨pl.isList.typeIs,λ a e=>?_⟩
      cases e
      obtain ⟨o,n,e,c,hd,_⟩:=pl
      exact ⟨o,e,hd⟩
    . refine ⟨⟨o,I.kIn p o hk,hc⟩,λ a e=>?_⟩
      cases e
      exact ⟨o,I.kIn _ o hk,hd⟩
    . have z:∃ o,s.heap.get? p=some o/\o.ExactDict:=by
        rcases hk with ⟨kvs,hk⟩ | ⟨kvs,hk⟩
        . obtain ⟨_,_,_,_,o,_,_,e,ex,_⟩:=I.hok p _ hk
          exact ⟨o,e,ex⟩
        . obtain ⟨_,_,_,_,o,_,_,e,ex,_⟩:=I.hok p _ hk
          exact ⟨o,e,ex⟩
      obtain ⟨o,e,ex⟩:=z
      refine ⟨⟨o,e,ex.1⟩,λ a e2=>?_⟩
      cases e2
      exact ⟨o,e,ex.2.1⟩
    . obtain ⟨o,_,_,_,e,ex,_⟩:=I.hok p _ hk
      refine ⟨⟨o,e,ex.1⟩,λ a e2=>?_⟩
      cases e2
      exact ⟨o,e,ex.2.1⟩
  | _=>exact False.elim ty
def tBM0 (K:PySem.W.Frag) (T:String) (r:V->List V->Hp->VK->Prop) (to:TE):TE:=λ σ H Q=>to σ H λ x H1=>tyV K T x H1/\r x [] H1 Q
def tBM (K:PySem.W.Frag) (T:String) (r:V->List V->Hp->VK->Prop) (to:TE) (t:TA):TE:=λ σ H Q=>to σ H λ x H1=>tyV K T x H1/\t σ H1 λ xs H2=>r x xs H2 Q
variable {o e:Expr} {es:List Expr} {to:TE} {t:TA} {name:Str} {apos cpos:Pos} {T id:String} {r:V->List V->Hp->VK->Prop}
theorem wCq (pa:PlainAttrs T) (slot:Slot T name id) (hty:typeOf (.builtin id)=pure (.type "method_descriptor")) (hm:MtR X id r) (ho:PE X o to)
    (hbase:attributeBase o name X.env (eval o X.env)=eval o X.env:=by rfl) (hline:(apos.endLine==cpos.line)=true:=by rfl):PE X (.Call (.Attribute o name apos) [] [] cpos) (tBM0 X.K T r to):=by
  intro pins s σ H Q I h
  refine wpAny_Call_method0_late hbase hline (thn (ho pins s σ H _ I h) λ v s1 ⟨x,H1,I1,r1,ty,q1⟩=>?_)
  obtain ⟨h1,h2⟩:=mPq I1 r1 ty
  exact ⟨T,id,pa,slot,hty,h1,h2,Calls.callWith_builtin rfl (PySem.evalArgs_none (hm pins s1 σ H1 x [] v [] Q I1 r1 .nil q1))⟩
theorem aE7q (pa:PlainAttrs T) (slot:Slot T name id) (hty:typeOf (.builtin id)=pure (.type "method_descriptor")) (hm:MtR X id r) (ho:PE X o to) (ha:PA X (e::es) t)
    (hbase:attributeBase o name X.env (eval o X.env)=eval o X.env:=by rfl)
    (hfew:((backTo cpos (starEach (e::es) X.env)).all (λ x=>!x.1)&&(backToKw cpos (keywordEach [] X.env)).all (λ x=>x.1.isSome)
     &&decide ((e::es).length+([]:List Keyword).length+(if ([]:List Keyword).isEmpty then 0 else 1) < 30))=true:=by rfl)
    (hline:(apos.endLine==cpos.line)=true:=by rfl) (hs:starEach (e::es) X.env=(false,eval e X.env)::starEach es X.env:=by rfl) (hplain:(backTo cpos (starEach es X.env)).any (·.1)=false:=by rfl) :
    PE X (.Call (.Attribute o name apos) (e::es) [] cpos) (tBM X.K T r to t):=by
  intro pins s σ H Q I h
  refine wpAny_Call_method_late hbase hfew hline rfl (thn (ho pins s σ H _ I h) λ v s1 ⟨x,H1,I1,r1,ty,q1⟩=>?_)
  obtain ⟨h1,h2⟩:=mPq I1 r1 ty
  refine ⟨T,id,pa,slot,hty,h1,h2,?_⟩
  have hA:=ha cpos pins s1 σ H1 _ I1 q1
  rw [hs] at hA ⊢
  refine Calls.callWith_builtin (by show (false||(backTo cpos (starEach es X.env)).any (·.1))=false;rw [hplain]<;>rfl) (Calls.evalArgs_plain ?_)
  exact thn hA λ us s2 ⟨vs,H2,I2,r2,q2⟩=>hm pins s2 σ H2 x vs v us Q I2 r1 r2 q2
end
def MtM (X:Cx) (id:String) (r:V->List V->Hp->VK->Prop):Prop:=
  ∀ (pins:List (Addr × Obj)) (s:Shared) (σ:St) (H:Hp) (x:V) (xs:List V) (v:Value) (us:List Value) (Q:VK),Inv X pins σ H s->RelV x v->Vals xs us->r x xs H Q →
    wpAny (model X.prog X.w) X.A (call (.builtin id) (v::us)) (EP X pins σ Q) X.xe s
theorem Vals.one:∀ {x:V} {us:List Value},Vals [x] us->∃ u,us=[u]/\RelV x u
  | _,_,.cons r .nil=>⟨_,rfl,r⟩
theorem Vals.two:∀ {x y:V} {us:List Value},Vals [x,y] us->∃ u v,us=[u,v]/\RelV x u/\RelV y v
  | _,_,_,.cons r (.cons q .nil)=>⟨_,_,rfl,r,q⟩
theorem Vals.zero:∀ {us:List Value},Vals [] us->us=[]
  | _,.nil=>rfl
theorem Vals.dropLast {xs:List V} {us:List Value} (h:Vals xs us):Vals xs.dropLast us.dropLast:=by
  induction h with
  | nil=>exact .nil
  | cons r t ih=>
    cases t with
    | nil=>exact .nil
    | cons q t'=>exact .cons r ih
theorem Vals.reverse {xs:List V} {us:List Value} (h:Vals xs us):Vals xs.reverse us.reverse:=by
  induction h with
  | nil=>exact .nil
  | cons r t ih=>rw [List.reverse_cons,List.reverse_cons];exact Vals.append ih (.cons r .nil)
theorem kKq {α:Type} (l:List α):l.eraseIdx (l.length - 1)=l.dropLast:=by
  induction l with
  | nil=>rfl
  | cons a r ih=>
    cases r with
    | nil=>rfl
    | cons b r=>
      have e:(a::b::r).length - 1=((b::r).length - 1)+1:=by
        have h1:(a::b::r).length=r.length+2:=rfl
        have h2:(b::r).length=r.length+1:=rfl
        omega
      rw [e,List.eraseIdx_cons_succ,ih]
      all_goals rfl
section
variable {X:Cx} {pins:List (Addr × Obj)} {σ:St} {H:Hp} {s:Shared} {l b:Addr} {xs ys zs:List V}
theorem Inv.lset {its its':List Value} {n:Nat} {f:Array Value->Array Value} {t':Nat} (I:Inv X pins σ H s) (hH:H l=some (.lst xs))
    (e:s.heap.get? l=some { cls:=.type "list", data:=.seq its.toArray n }) (hf:f its.toArray=its'.toArray) (hv:Vals ys its') (hz:ys.length<=sizeLine) :
    Inv X pins σ (upd H l (.lst ys)) { s with heap:=s.heap.update l (Obj.mapSeq f),toks:=t' }:=by
  have q:=PySem.IsL.update e f
  rw [hf] at q
  refine I.write (x:=l) (e:=l) (by rw [hH];exact trivial) (.inl rfl) (λ b' u hb hu=>(Heap.get?_update_other s.heap (Obj.mapSeq f) (Ne.symm hb)).trans hu) ⟨_,q⟩ ?_
  exact ⟨hz,its',_,hv,q⟩
theorem Inv.lnew {its:List Value} {t':Nat} (I:Inv X pins σ H s) (hv:Vals ys its) (hz:ys.length<=sizeLine) :
    Inv X pins σ (upd H s.heap.objs.size (.lst ys)) { s with heap:=s.heap.push { cls:=.type "list", data:=.seq its.toArray },toks:=t' }:=
  I.laid (λ _ _ q=>Heap.get?_push_of_some _ q) (Nat.le_refl _) ⟨hz,its,0,hv,Heap.get?_push_size _ rfl⟩
theorem Inv.fresh (I:Inv X pins σ H s):H s.heap.objs.size=none:=I.hok.fresh (Nat.le_refl _)
theorem Inv.lstM (I:Inv X pins σ H s) (hH:H l=some (.lst xs)):xs.length<=sizeLine/\∃ (its:List Value) (n:Nat),Vals xs its/\xs.length=its.length/\s.heap.get? l=some { cls:=.type "list", data:=.seq its.toArray n }:=by
  obtain ⟨z,its,n,r,e⟩:=I.hok l _ hH
  exact ⟨z,its,n,r,r.length,e⟩
theorem k9q {n:Nat} (h:n<=sizeLine):Builtin.List.listTooLong n=false:=by
  unfold Builtin.List.listTooLong
  exact decide_eq_false (by omega)
end
section
variable {X:Cx}
def t7q:V->List V->Hp->VK->Prop:=λ x vs H Q=>∃ l xs y,x=.ref l/\vs=[y]/\H l=some (.lst xs)/\xs.length < sizeLine/\Q .non (upd H l (.lst (xs++[y])))
theorem eAq:MtM X "list.append" t7q:=by
  intro pins s σ H x vs v us Q I rx rv h
  obtain ⟨l,xs,y,rfl,rfl,hH,hz,q⟩:=h
  cases rx
  obtain ⟨u,rfl,ru⟩:=rv.one
  obtain ⟨z,its,n,r,hl,e⟩:=I.lstM hH
  refine call_meets F.slot_list_append ⟨_,e,rfl⟩ F.entry_list_append (F.args_list_append_2 _ _) (PySem.list_append l its.toArray n u (by rw [List.size_toArray];omega)) ⟨e,?_⟩
  refine ⟨.non,_,I.lset (its':=its++[u]) hH e (by simp) (r.append (.cons ru .nil)) ?_,rfl,q⟩
  rw [List.length_append,List.length_singleton]
  omega
def tMq:V->List V->Hp->VK->Prop:=λ x vs H Q=>∃ l b xs zs,x=.ref l/\vs=[.ref b]/\H l=some (.lst xs)/\H b=some (.lst zs)/\xs.length+zs.length<=sizeLine/\Q .non (upd H l (.lst (xs++zs)))
theorem nMq:MtM X "list.extend" tMq:=by
  intro pins s σ H x vs v us Q I rx rv h
  obtain ⟨l,b,xs,zs,rfl,rfl,hH,hB,hz,q⟩:=h
  cases rx
  obtain ⟨u,rfl,ru⟩:=rv.one
  cases ru
  obtain ⟨z,its,n,r,hl,e⟩:=I.lstM hH
  obtain ⟨z2,its2,n2,r2,hl2,e2⟩:=I.lstM hB
  have hsz:its.toArray.size+its2.toArray.size<=sizeLine:=by rw [List.size_toArray,List.size_toArray];omega
  have hlong:¬ (!its.toArray.isEmpty&&Builtin.List.listTooLong (its.toArray.size+its2.toArray.size))=true:=by
    rw [k9q hsz,Bool.and_false]
    exact Bool.false_ne_true
  refine call_meets F.slot_list_extend ⟨_,e,rfl⟩ F.entry_list_extend (F.args_list_extend_2 _ _)
    (AutoSeq1.list_extend_list_list_0 l its.toArray n b its2.toArray n2 hlong (by rw [List.size_toArray];omega) (by omega)) ⟨e,e2,?_⟩
  refine ⟨.non,_,I.lset (its':=its++its2) hH e (by simp) (r.append r2) ?_,rfl,q⟩
  rw [List.length_append]
  omega
def rPop:V->List V->Hp->VK->Prop:=λ x vs H Q=>∃ l xs y,x=.ref l/\vs=[]/\H l=some (.lst xs)/\xs[xs.length - 1]?=some y/\Q y (upd H l (.lst xs.dropLast))
theorem wDq:MtM X "list.pop" rPop:=by
  intro pins s σ H x vs v us Q I rx rv h
  obtain ⟨l,xs,y,rfl,rfl,hH,hy,q⟩:=h
  cases rx
  have hus:=rv.zero
  subst hus
  obtain ⟨z,its,n,r,hl,e⟩:=I.lstM hH
  obtain ⟨u,hu,ru⟩:=r.get hy
  have hy':its.toArray[its.toArray.size - 1]?=some u:=by
    show its.toArray[its.length - 1]?=some u
    rw [<- Array.getElem?_toList,<- hl]
    exact hu
  refine call_meets F.slot_list_pop ⟨_,e,rfl⟩ F.entry_list_pop (F.args_list_pop_1 _) (MeetsSeq.list_pop_last l its.toArray n u hy' (by rw [List.size_toArray];omega)) ⟨e,?_⟩
  refine ⟨y,_,I.lset (its':=its.dropLast) hH e ?_ r.dropLast ?_,ru,q⟩
  . show its.toArray.eraseIdxIfInBounds (its.toArray.size - 1)=its.dropLast.toArray
    rw [List.size_toArray,List.eraseIdxIfInBounds_toArray,kKq]
  . rw [List.length_dropLast]
    omega
def rCat:R2:=λ x y H Q=>∃ l b xs zs,x=.ref l/\y=.ref b/\H l=some (.lst xs)/\H b=some (.lst zs)/\xs.length+zs.length<=sizeLine/\∀ p,H p=none->Q (.ref p) (upd H p (.lst (xs++zs)))
theorem v7q:OpR X (binaryOp .Add) rCat:=by
  intro pins s σ H x y v u Q I rx ry h
  obtain ⟨l,b,xs,zs,rfl,rfl,hH,hB,hz,q⟩:=h
  cases rx
  cases ry
  obtain ⟨z,its,n,r,hl,e⟩:=I.lstM hH
  obtain ⟨z2,its2,n2,r2,hl2,e2⟩:=I.lstM hB
  refine PySem.P.add_list e e2 ?_ (by rw [List.size_toArray,List.size_toArray];omega)
  have ea:its.toArray++its2.toArray=(its++its2).toArray:=by simp
  rw [ea]
  exact ⟨.ref _,_,I.lnew (t':=s.toks) (r.append r2) (by rw [List.length_append];omega),rfl,q _ I.fresh⟩
end
end L2
namespace Att
open PySem PySem.W PySem.Calls PyProof.Rows
theorem dQq {P:Params} {h:Heap}:∀ (ns:List Int) (vs:List Value),WellAll P h vs (ns.map WData.int)->IntsAre vs ns:=by
  intro ns
  induction ns with
  | nil=>
    intro vs w
    rw [List.map_nil] at w
    cases w
    exact .nil
  | cons n ns ih=>
    intro vs w
    rw [List.map_cons] at w
    cases w with
    | cons a b=>
      cases a
      exact .cons _ _ (ih _ b)
theorem l7q {l:OpenLaw} {n:Nat} (hn:l.most=some n) {P:Params} {h:Heap} {args:List WData} {vals:List Value}
    (hpre:l.row.toRowW.claim.pre args=true) (hwl:WellAll P h vals args) :
    ∃ a vs ns,vals=[Value.ref a]/\args=[WData.list (ns.map WData.int)]/\h.get? a=some { cls:=.type "list", data:=.seq vs.toArray }/\IntsAre vs ns/\ns.length<=n:=by
  have hsh:WShape.hasAll [] args [.list .int]=true:=(pre_splitW hpre).1
  have hc:l.pre.holds [] { args:=args }=true:=(pre_splitW hpre).2
  obtain ⟨d,r,rfl,h1,h2⟩:=hasAllW_cons hsh
  obtain rfl:=hasAllW_nil h2
  obtain ⟨xs,rfl,h3⟩:=hasW_list h1
  obtain ⟨ns,rfl⟩:=items_int h3
  have hlen:ns.length<=n:=by
    unfold OpenLaw.pre at hc
    have h4:(WTm.not (.lt (.lit (.int (n:Int))) (.len (.arg 0)))).holds [] { args:=[.list (ns.map .int)] }=true:=by
      have h4:=(holds_andW hc).1
      rw [hn] at h4
      exact h4
    have h5:=condW_of h4 (w_not (w_lt w_lit (w_len_list (w_arg rfl))))
    rw [List.length_map] at h5
    refine Nat.le_of_not_lt λ q=>?_
    have q':(n:Int) < ((ns.length:Nat):Int):=by omega
    first
      | (rw [decide_eq_true q'] at h5;exact absurd h5 (by decide))
      | (simp at h5;omega)
  cases hwl with
  | cons w1 w2=>
    cases w2
    cases w1 with
    | list ho hall=>exact ⟨_,_,ns,rfl,rfl,ho,dQq ns _ hall,hlen⟩
theorem o5q (l:OpenLaw) (args:List WData):l.row.toRowW.claim.post args (.bool true) args=true:=
  postW_of (r:=l.row.toRowW) (X:=(true==true))
    (show WShape.has [] (.bool true) .bool=true by first | rfl | decide | simp [WShape.has,WShape.arms,WShape.armsAll])
    (show (WTm.eq .res (.lit (.bool true))).value [] { args:=args,res:=some (.bool true),after:=args }=some (.bool (true==true)) from w_eq_bool (w_res rfl) w_lit) rfl
theorem attach_call {l:OpenLaw} {n:Nat} {q:Program} {loose:List Str} {XP:(Str->Option Value)->Heap->Prop} {YP:World->Heap->Prop} {d:DefRec}
    (hn:l.most=some n) (hdf:d.params.defaults=[])
    (call:∀ (w:World) (s₀ s₁:Shared) (mg mb:Str->Option Value) (fa:Addr) (o:Obj) (pm cd doc:Value) (a:Addr) (vs:List Value) (ns:List Int),
      Ground q loose [] XP w s₀ mg mb s₁.heap->YP w s₁.heap →
      s₁.heap.get? fa=some o->o.data=.func (docDef d.name d.params d.body d.scope pm cd doc)->s₁.heap.CodeRec cd d.name->mg d.name=some (.ref fa) →
      s₁.heap.get? a=some { cls:=.type "list", data:=.seq vs.toArray }->IntsAre vs ns->ns.length<=n->s₁.gens=#[] →
      codeAny (model l.prog w) callerA (.call (.ref fa) ⟨[.ref a],[]⟩) (λ r s'=>r=.ok (.ret (.bool true))/\OldK s₁.heap s'.heap/\s'.os=s₁.os/\AllBare s'.gens) s₁) :
    WalkO q loose XP YP l.row.toRowW d [] (λ f vs=>PySem.call f vs):=by
  intro w s₀ s₁ mg mb G Y fa o pm cd doc dV kV ho hd hcd hD hmg hg args vals as hpre hlay hrd hwl hlo
  obtain rfl:dV=.none:=Dflts.none hD hdf
  obtain rfl:kV=.none:=Dflts.noKw hD
  obtain ⟨a,vs,ns,rfl,rfl,hobj,hints,hlen⟩:=l7q hn hpre hwl
  refine enter_call (codeAny_mono (call w s₀ s₁ mg mb fa o pm cd doc a vs ns G Y ho (fd_plain hd) hcd hmg hobj hints hlen hg) λ r s' hq=>?_)
  obtain ⟨rfl,h2,h3,h4⟩:=hq
  exact ⟨.inl ⟨.bool true,.bool true,[],rfl,λ _=>rfl,.bool true,o5q l _,λ _=>⟨List.Pairwise.nil,λ _ hm=>(nomatch hm)⟩⟩,h2,h3,h4⟩
end Att
namespace L2
open PySem PySem.Spec PyProof.Rows
theorem eEq:∀ {vs:List Value} {ns:List Int},IntsAre vs ns->Vals (ns.map V.int) vs
  | _,_,.nil=>.nil
  | _,_,.cons n t h=>.cons ⟨t,rfl⟩ (eEq h)
def yMq (H:Hp):Prop:=∀ b,H b=none\/∃ o xs,H b=some (.frz o (.lst xs))
theorem pXq {P:Program} {w:World} {K:PySem.W.Frag} {mg mb:Str->Option Value} {CX:CXT} {k:Nat} {fa a:Addr} {fd:FuncData} {x:Str} {sp:Sp} {s₁:Shared} {vs:List Value} {ns:List Int}
    (KX:K.In s₁.heap) (hns:s₁.heap.Ns mainGlobals mg) (hb:s₁.heap.Ns builtinsNs mb) (hbb:∀ x:Str,x≠"__name__"->mb x=bootBuiltins x) (hlim:s₁.heap.NoLimit) (hg:s₁.gens=#[])
    (ha:s₁.heap.get? a=some { cls:=.type "list", data:=.seq vs.toArray }) (hi:IntsAre vs ns) (hl:ns.length<=sizeLine) (hr:Room k callerA)
    (F:∀ base:Heap,K.In base->base.Ns mainGlobals mg->FnOk P w K mg base CX k fa fd [x] sp) (hbind:∀ (s:Shared) (u:Value),BindsTo s fd ⟨[u],[]⟩ [(x,u)])
    (hsp:∀ H:Hp,yMq H->SqL K H a (ns.map V.int)->sp [.ref a] H (λ v _=>v=.bl true) λ _ _ _=>False)
    (hCX:∀ H e s',CX [] H s₁ (λ _ _ _=>False) e s'->False) :
    codeAny (model P w) callerA (.call (.ref fa) ⟨[.ref a],[]⟩) (λ r s'=>r=.ok (.ret (.bool true))/\OldK s₁.heap s'.heap/\s'.os=s₁.os/\AllBare s'.gens) s₁:=by
  have rv:=eEq hi
  have lenV:=hi.length
  have core:∀ H:Hp,yMq H->SqL K H a (ns.map V.int)->HOk P w H s₁.heap->(∀ b,H b≠none->b=a)->(H a≠none->K.lookup a=none) →
      codeAny (model P w) callerA (.call (.ref fa) ⟨[.ref a],[]⟩) (λ r s'=>r=.ok (.ret (.bool true))/\OldK s₁.heap s'.heap/\s'.os=s₁.os/\AllBare s'.gens) s₁:=by
    intro H hO hS hok hA hK
    have base_of:∀ {b:Addr} {o:Obj},s₁.heap.get? b=some o->H b=none->(oWq s₁.heap H).get? b=some o:=λ e n=>pAq e n
    have noA:∀ {b:Addr} {o:Obj} {es:Array DictEntry} {ep:Nat},s₁.heap.get? b=some o->o.data=.dict es ep->H b=none:=λ{b o es ep} e d=>by
      cases q:H b with
      | none=>rfl
      | some u=>
        have e':b=a:=hA b (by rw [q];simp)
        subst e'
        rw [ha] at e;cases e
        have d':Data.seq vs.toArray _=Data.dict es ep:=d
        cases d'
    have nsK:∀ {b:Addr} {m:Str->Option Value},s₁.heap.Ns b m->(oWq s₁.heap H).Ns b m:=λ{b m} ⟨o,es,ep,e,d,r⟩=>⟨o,es,ep,base_of e (noA e d),d,r⟩
    have hKb:K.In (oWq s₁.heap H):=λ b o e=>base_of (KX b o e) (by
      cases q:H b with
      | none=>rfl
      | some u=>
        have e':b=a:=hA b (by rw [q];simp)
        subst e'
        rw [hK (by rw [q];simp)] at e;cases e)
    have hM:Mod K mg (oWq s₁.heap H):=⟨hKb,nsK hns,⟨mb,nsK hb,hbb⟩,let ⟨mc,h1,h2⟩:=hlim;⟨mc,nsK h1,h2⟩⟩
    have e0:Env0 P w K mg (oWq s₁.heap H) callerA [] s₁ H:=⟨rfl,hM,λ b o e=>u7q e,Nat.le_of_eq (nYq _ _),trivial,λ b hb=>absurd (show b∈([]:List Addr) from hb) (by simp),hok,.of_eq hg⟩
    refine codeAny_mono ((F _ hKb (nsK hns)).run callerA [] s₁ H ⟨[.ref a],[]⟩ [.ref a] [.ref a] _ _ hr e0 (hbind s₁ (.ref a)) (.cons rfl .nil) (hsp H hO hS)) λ r s' h=>?_
    cases r with
    | error e=>exact (hCX H e s' h).elim
    | ok fl=>
      cases fl with
      | next=>exact False.elim h
      | brk=>exact False.elim h
      | cont=>exact False.elim h
      | ret u=>
        obtain ⟨v,H',os,bare,un,hok',r',q⟩:=h
        have q':v=.bl true:=q
        subst q'
        obtain rfl:u=Value.bool true:=r'
        refine ⟨rfl,OldK.of_keep λ b o e=>?_,os,bare⟩
        cases q:H b with
        | none=>exact un.keep b o e q (by intro z;exact absurd (show b∈([]:List Addr) from z) (by simp)) (by simp)
        | some u=>
          rcases hO b with z | ⟨ob,xs,z⟩
          . rw [q] at z;cases z
          . have z2:=un.frzs b ob _ z
            obtain ⟨e1,_⟩:=hok b _ z
            obtain ⟨e2,_⟩:=hok' b _ z2
            rw [e] at e1;cases e1
            exact e2
  cases hk:K.lookup a with
  | some o=>
    have e:=KX a o hk
    rw [ha] at e
    cases e
    refine core (λ _=>none) (λ _=>.inl rfl) (.inr ⟨_,vs.toArray,_,hk,rfl,rfl,rfl,by rw [List.size_toArray,lenV];exact hl,by simpa using rv⟩) (λ b u z=>by have z':(none:Option HO)=some u:=z;cases z') (λ b z=>absurd rfl z) λ z=>absurd rfl z
  | none=>
    refine core (λ b=>if b=a then some (.frz { cls:=.type "list", data:=.seq vs.toArray } (.lst (ns.map V.int))) else none) (λ b=>?_) (.inl (.inr ⟨{ cls:=.type "list", data:=.seq vs.toArray },if_pos rfl⟩)) (λ b u z=>?_) (λ b z=>?_) λ _=>hk
    . by_cases hb:b=a
      . exact .inr ⟨_,_,if_pos hb⟩
      . exact .inl (if_neg hb)
    . by_cases hb:b=a
      . have z':=(if_pos hb).symm.trans z
        cases z'
        subst hb
        exact ⟨ha,by rw [List.length_map];exact hl,vs,_,rv,ha⟩
      . have z':=(if_neg hb).symm.trans z
        cases z'
    . by_cases hb:b=a
      . exact hb
      . exact absurd (if_neg hb) z
theorem s7q {l:PySem.W.OpenLaw} {n k:Nat} {q:Program} {loose:List Str} {XP:(Str->Option Value)->Heap->Prop} {YP:World->Heap->Prop} {d:DefRec} {K:Params->PySem.W.Frag} {CX:World->CXT} {sp:World->Sp} {x:Str}
    (hn:l.most=some n) (hn2:n<=sizeLine) (hdf:d.params.defaults=[]) (hr:Room k callerA)
    (hY:∀ (w:World) (h:Heap),YP w h->(K w.params).In h)
    (F:∀ (w:World) (mg:Str->Option Value) (fa:Addr) (h:Heap),(K w.params).In h->h.Ns mainGlobals mg->mg d.name=some (.ref fa) →
      ∃ fd:FuncData,(∀ (s:Shared) (u:Value),BindsTo s fd ⟨[u],[]⟩ [(x,u)]) ∧
        ∀ base:Heap,(K w.params).In base->base.Ns mainGlobals mg->FnOk l.prog w (K w.params) mg base (CX w) k fa fd [x] (sp w))
    (hsp:∀ (w:World) (H:Hp) (a:Addr) (ns:List Int),ns.length<=n->yMq H->SqL (K w.params) H a (ns.map V.int)->sp w [.ref a] H (λ v _=>v=.bl true) λ _ _ _=>False)
    (hCX:∀ (w:World) (H:Hp) (s:Shared) (e:Value) (s':Shared),CX w [] H s (λ _ _ _=>False) e s'->False) :
    PySem.W.WalkO q loose XP YP l.row.toRowW d [] (λ f vs=>PySem.call f vs):=by
  refine Att.attach_call hn hdf λ w s₀ s₁ mg mb fa o pm cd doc a vs ns G Y ho hd hcd hmg hobj hints hlen hg=>?_
  have KX:=hY w _ Y
  obtain ⟨fd,hb,hF⟩:=F w mg fa _ KX G.T.g hmg
  exact pXq KX G.T.g G.T.b G.T.builtins G.T.nolimit hg hobj hints (Nat.le_trans hlen hn2) hr hF hb (λ H hO hS=>hsp w H a ns hlen hO hS) λ H e s'=>hCX w H s₁ e s'
def bOq (s:Stmt):Arguments:=match s with
  | .FunctionDef _ a _ _ _ _ _ _ _ _=>a
  | _=>{ posonlyargs:=[],args:=[],vararg:=none,kwonlyargs:=[],kw_defaults:=[],kwarg:=none,defaults:=[] }
def b0q (s:Stmt):List Stmt:=match s with
  | .FunctionDef _ _ b _ _ _ _ _ _ _=>b
  | _=>[]
def a5q (s:Stmt):Scope:=match s with
  | .FunctionDef _ _ _ _ _ _ sc _ _ _=>sc
  | _=>{ kind:=.function,names:=[],isGenerator:=false,isCoroutine:=false }
abbrev CX0:CXT:=λ _ _ _ _ _ _=>False
abbrev E0:XK:=λ _ _ _=>False
theorem p9q {X:Cx}:f7q CX0 X E0:=λ _ _ _ _ _ _ _ h=>h.elim
structure Fun (K:PySem.W.Frag) (x qual:Str) (st:Stmt) (f:Addr) (fd:FuncData):Prop where
  ex:∃ (oc:Value) (od:Option Addr) (kV doc pm:Value) (an:Option Addr) (cdv ct:Value) (osl:Array (Option Value)),
    fd=PySem.W.fnOf x qual (bOq st) (b0q st) (a5q st) .none kV doc pm an cdv ct/\K.lookup f=some ⟨oc,od,.func fd,osl⟩/\PySem.W.codeIn K cdv qual=true
  kp:PySem.W.keepIn K (.ref f)=true
section
variable {P:Program} {w:World} {K:PySem.W.Frag} {mg:Str->Option Value} {base:Heap}
theorem Fun.ok {x qual:Str} {st:Stmt} {f:Addr} {fd:FuncData} {N ps:List Str} {k:Nat} {sp:Sp} (F:Fun K x qual st f fd) (S:FnScope N ps (a5q st)) (len:∀ vs H Q E,sp vs H Q E->vs.length=ps.length)
    (hbody:∀ (cdv:Value) (A:Around) (outer:List Env) (s:Shared) (H:Hp) (vs:List V) (Q:VK) (E:XK),Room k (A.deeper (envOfC qual (a5q st) s.heap.objs.size f cdv))->sp vs H Q E →
      ∃ t,PSs (kZq CX0 P w K mg base N qual (a5q st) f cdv A outer s H E).nox (b0q st) t/\t { nx:=λ _ H'=>Q .non H',rt:=Q } (c2q N vs) H):FnOk P w K mg base CX0 (k+1) f fd ps sp:=by
  obtain ⟨oc,od,kV,doc,pm,an,cdv,ct,osl,rfl,lk,hcd⟩:=F.ex
  refine zNq lk hcd S len λ A outer s H vs Q E hr hsp=>?_
  obtain ⟨t,h,q⟩:=hbody cdv A outer s H vs Q E hr hsp
  exact ⟨t,h.nox,q⟩
theorem Fun.binds {x qual:Str} {st:Stmt} {f:Addr} {fd:FuncData} {ps:List Str} (F:Fun K x qual st f fd)
    (h:∀ (kV doc pm:Value) (an:Option Addr) (cdv ct:Value) (us:List Value),us.length=ps.length->bindArgs (PySem.W.fnOf x qual (bOq st) (b0q st) (a5q st) .none kV doc pm an cdv ct) ⟨us,[]⟩=pure (ps.zip us)):Binds K fd ps []:=by
  obtain ⟨oc,od,kV,doc,pm,an,cdv,ct,osl,rfl,lk,hcd⟩:=F.ex
  exact .all (h kV doc pm an cdv ct)
theorem qUq {x qual:Str} {st:Stmt} {f:Addr} {oc:Value} {od an:Option Addr} {osl:Array (Option Value)} {kV doc pm cdv ct:Value} (l:K.lookup f=some ⟨oc,od,.func (PySem.W.fnOf x qual (bOq st) (b0q st) (a5q st) .none kV doc pm an cdv ct),osl⟩)
 (c:PySem.W.codeIn K cdv qual=true) (k:PySem.W.keepIn K (.ref f)=true):Fun K x qual st f (PySem.W.fnOf x qual (bOq st) (b0q st) (a5q st) .none kV doc pm an cdv ct):=⟨⟨oc,od,kV,doc,pm,an,cdv,ct,osl,rfl,l,c⟩,k⟩
end
def Same (H H':Hp):Prop:=∀ b o,H b=some o->H' b=some o
theorem Same.refl (H:Hp):Same H H:=λ _ _ h=>h
def bVq (cells:List (Str × Addr)):List (Str × NameKind)->List (Str × Addr)->List (Str × Addr)
  | [],acc=>acc
  | (n,k)::r,acc=>bVq cells r (if k=.free then (n,(cells.lookup n).getD 0)::acc else acc)
theorem fLq {α β:Type} {f:α->β->Sem (ForInStep β)} (g:β->α->β):∀ (l:List α) (c:β),(∀ x∈l,∀ c,f x c=pure (.yield (g c x)))->forIn l c f=pure (l.foldl g c)
  | [],_,_=>rfl
  | x::l,c,h=>by
    rw [List.forIn_cons,h x List.mem_cons_self,pure_bind]
    exact fLq g l _ λ y hy=>h y (List.mem_cons_of_mem _ hy)
theorem fBq (cells:List (Str × Addr)):∀ (names:List (Str × NameKind)) (acc:List (Str × Addr)),
    names.foldl (λ c y=>if y.2=.free then (y.1,(cells.lookup y.1).getD 0)::c else c) acc=bVq cells names acc
  | [],_=>rfl
  | (n,k)::r,acc=>by
    rw [List.foldl_cons,bVq]
    exact fBq cells r _
theorem o6q {scope:Scope} {env:Env} (h:∀ y∈scope.names,y.2=.free->∃ c,env.cells.lookup y.1=some c):closureFor scope env=pure (bVq env.cells scope.names []):=by
  rw [<- fBq]
  simp only [closureFor]
  rw [fLq (λ c y=>if y.2=.free then (y.1,(env.cells.lookup y.1).getD 0)::c else c) scope.names [] λ x hx c=>?_]
  . rfl
  . obtain ⟨n,k⟩:=x
    by_cases hk:k=.free
    . subst hk
      obtain ⟨a,e⟩:=h _ hx rfl
      have e':env.cells.lookup n=some a:=e
      simp [cellOf,e']
    . have hb:(k==NameKind.free)=false:=by simpa using hk
      simp [hb,hk]
theorem jMq {cells:List (Str × Addr)}:∀ (names:List (Str × NameKind)) (acc:List (Str × Addr)),(∀ y∈names,y.2=.free->∃ c,cells.lookup y.1=some c)->(∀ x c,acc.lookup x=some c->cells.lookup x=some c) →
    ∀ x c,(bVq cells names acc).lookup x=some c->cells.lookup x=some c
  | [],_,_,ha=>ha
  | (n,k)::r,acc,h,ha=>by
    rw [bVq]
    refine jMq r _ (λ y hy=>h y (List.mem_cons_of_mem _ hy)) λ x c e=>?_
    by_cases hk:k=.free
    . rw [if_pos hk] at e
      obtain ⟨a,ea⟩:=h (n,k) List.mem_cons_self hk
      have ea':cells.lookup n=some a:=ea
      rw [List.lookup_cons] at e
      cases hx:x==n with
      | true=>
        rw [hx] at e
        have e2:some ((cells.lookup n).getD 0)=some c:=e
        rw [ea'] at e2
        have e3:a=c:=Option.some.inj e2
        rw [eq_of_beq hx,ea',e3]
      | false=>
        rw [hx] at e
        exact ha x c e
    . rw [if_neg hk] at e
      exact ha x c e
theorem h6q {cells:List (Str × Addr)} {x:Str}:∀ (names:List (Str × NameKind)) (acc:List (Str × Addr)),(acc.lookup x).isSome=true->((bVq cells names acc).lookup x).isSome=true
  | [],_,h=>h
  | (n,k)::r,acc,h=>by
    rw [bVq]
    refine h6q r _ ?_
    by_cases hk:k=.free
    . rw [if_pos hk,List.lookup_cons]
      cases hx:x==n with
      | true=>rfl
      | false=>exact h
    . rw [if_neg hk];exact h
theorem eDq {cells:List (Str × Addr)} {x:Str}:∀ (names:List (Str × NameKind)) (acc:List (Str × Addr)),(x,NameKind.free)∈names->((bVq cells names acc).lookup x).isSome=true
  | [],_,h=>nomatch h
  | (n,k)::r,acc,h=>by
    rw [bVq]
    rcases List.mem_cons.mp h with e | h
    . cases e
      refine h6q r _ ?_
      rw [if_pos rfl,List.lookup_cons,beq_self_eq_true];rfl
    . exact eDq r _ h
theorem fQq {g:Str->NameKind->NameKind} {x:Str}:∀ names:List (Str × NameKind),(names.map λ y=>(y.1,g y.1 y.2)).lookup x=(names.lookup x).map (g x)
  | []=>rfl
  | (n,k)::r=>by
    rw [List.map_cons,List.lookup_cons,List.lookup_cons]
    cases hx:x==n with
    | true=>
      have e:=eq_of_beq hx
      subst e;rfl
    | false=>exact fQq r
theorem gUq (scope:Scope) (env:Env):(relabel scope env).names=scope.names.map λ y=>(y.1,if (y.2==.free&&env.scope.kind==.function&&env.kindOf y.1==some .cell)=true then NameKind.cell else y.2):=by
  unfold relabel
  refine List.map_congr_left λ y _=>?_
  obtain ⟨n,k⟩:=y
  show (if (k==.free&&env.scope.kind==.function&&env.kindOf n==some .cell)=true then (n,NameKind.cell) else (n,k))=_
  split<;>simp_all
theorem dCq (scope:Scope) (env:Env) (x:Str):(relabel scope env).names.lookup x=(scope.names.lookup x).map λ k=>if (k==.free&&env.scope.kind==.function&&env.kindOf x==some .cell)=true then NameKind.cell else k:=by
  rw [gUq]
  exact fQq (g:=λ n k=>if (k==.free&&env.scope.kind==.function&&env.kindOf n==some .cell)=true then NameKind.cell else k) scope.names
def aRq (X:Cx) (scope:Scope) (N':List Str) (C:Addr) (ex:List Addr) (s:Shared) (H:Hp):Cx:=
  { X with N:=N',s₀:=s,H₀:=H,env:=compEnvC scope (bVq X.env.cells scope.names []) C X.env,outer:=X.stack,stack:=X.stack,ex:=ex,fn:=λ _=>false,pn:=[],xe:=λ _ _=>False }
def c9q (nt:Nat) (cap:List Nat) (σ:St):St:=List.replicate nt none++cap.map λ i=>(σ[i]?).join
structure CompOk (X:Cx) (scope:Scope) (N':List Str) (nt:Nat) (cap:List Nat):Prop where
  kind:scope.kind=.function
  nocell:∀ y∈scope.names,y.2≠.cell
  locs:∀ y∈scope.names,y.2=.local->scope.names.lookup y.1=some .local
  frees:∀ y∈scope.names,y.2=.free->X.env.scope.names.lookup y.1=some .cell\/X.env.scope.names.lookup y.1=some .free
  len:N'.length=nt+cap.length
  caps:∀ (j i:Nat) (x:Str),cap[j]?=some i->N'[nt+j]?=some x->X.N[i]?=some x/\scope.names.lookup x=some .free
section
variable {X:Cx} {scope:Scope} {N':List Str} {nt:Nat} {cap:List Nat} {pins:List (Addr × Obj)} {σ:St} {H:Hp} {s:Shared}
theorem CompOk.has (c:CompOk X scope N' nt cap) (ok:X.Ok):∀ y∈scope.names,y.2=.free->∃ a,X.env.cells.lookup y.1=some a:=λ y hy hk=>ok.has y.1 (c.frees y hy hk)
theorem CompOk.cells (c:CompOk X scope N' nt cap) (ok:X.Ok) {x:Str} {a:Addr} (e:(bVq X.env.cells scope.names []).lookup x=some a):X.env.cells.lookup x=some a:=
  jMq scope.names [] (c.has ok) (λ _ _ z=>by simp at z) x a e
theorem CompOk.free_of (c:CompOk X scope N' nt cap) {x:Str} (h:(relabel scope X.env).names.lookup x=some .cell\/(relabel scope X.env).names.lookup x=some .free):(x,NameKind.free)∈scope.names:=by
  rw [dCq] at h
  cases q:scope.names.lookup x with
  | none=>rw [q] at h;simp at h
  | some k=>
    have hm:=PySem.mem_of_lookup q
    have nc:k≠.cell:=c.nocell _ hm
    rw [q] at h
    by_cases hk:k=.free
    . subst hk;exact hm
    . have hb:(k==NameKind.free)=false:=by simpa using hk
      simp only [Option.map_some,hb,Bool.false_and,Bool.false_eq_true,if_false,Option.some.injEq] at h
      rcases h with h | h
      . exact absurd h nc
      . exact absurd h hk
theorem Inv.comp (I:Inv X pins σ H s) (c:CompOk X scope N' nt cap) {fp:List Addr} (hf:∀ b∈fp,iBq X pins H b) (hfs:∀ b∈fp,b < s.heap.objs.size) {h':Heap} {m:Str->Option Value} {t':Nat}
    (hk:∀ b o,s.heap.get? b=some o->h'.get? b=some o) (hn:h'.Ns s.heap.objs.size m) :
    Inv (aRq X scope N' s.heap.objs.size fp s H) [] (c9q nt cap σ) H { s with heap:=h',toks:=t' }:=by
  have cl:=λ{x:Str} {a:Addr} (e:(bVq X.env.cells scope.names []).lookup x=some a)=>c.cells I.ok e
  have cellLt:∀ x a,X.env.cells.lookup x=some a->a < s.heap.objs.size:=λ x a e=>by
    obtain ⟨v,q⟩:=I.cell x a e
    exact q.lt
  refine ⟨⟨I.ok.mod,c.kind,I.ok.glob,I.ok.blt,Nat.le_refl _,λ x y a e1 e2=>I.ok.inj x y a (cl e1) (cl e2),λ x hx=>?_,λ x a hx=>absurd hx Bool.false_ne_true,I.ok.hd,I.ok.frames,.inl rfl,λ b hb=>⟨?_,λ x a e=>?_⟩,
      λ b o e=>I.bs b o e,Nat.le_trans I.ok.bsz I.sz,λ b o e hb=>?_,λ b hb hbf=>?_,I.stack,λ b hb=>I.stkFree b hb⟩,
    rfl,I.bare,Un.kept hk,⟨m,hn,λ i x v e1 e2 e3=>?_⟩,λ x a e=>?_,I.hok.fresh (Nat.le_refl _),λ x a e=>I.freeC x a (cl e),λ p hp=>absurd (show p∈([]:List (Addr × Obj)) from hp) (by simp),I.hok.kept hk,?_⟩
  . exact Option.isSome_iff_exists.mp (eDq scope.names [] (c.free_of hx))
  . exact Nat.ne_of_lt (hfs b hb)
  . exact (hf b hb).2.2.2.2.1 x a (cl e)
  . obtain ⟨f0,f1,f2,f3,_⟩:=hf b hb
    rcases f3 with z | z
    . exact I.ok.noex b o e z
    . exact absurd (Nat.lt_of_lt_of_le (Heap.lt_size e) (Nat.le_trans I.ok.bsz z)) (Nat.lt_irrefl _)
  . obtain ⟨f0,f1,f2,_⟩:=hf b hb
    rcases List.mem_cons.mp (I.stkSub b hbf) with z | z
    . exact f1 z
    . exact f2 z
  .
    have e1':N'[i]?=some x:=e1
    have hi:nt<=i:=by
      refine Nat.le_of_not_lt λ q=>?_
      unfold c9q at e2
      rw [List.getElem?_append_left (by simpa using q),List.getElem?_replicate,if_pos q] at e2
      cases e2
    obtain ⟨j,rfl⟩:=Nat.exists_eq_add_of_le hi
    unfold c9q at e2
    rw [List.getElem?_append_right (by simp),List.length_replicate,Nat.add_sub_cancel_left,List.getElem?_map] at e2
    cases q:cap[j]? with
    | none=>rw [q] at e2;cases e2
    | some k=>
      rw [q] at e2
      have e2':(σ[k]?).join=some v:=Option.some.inj e2
      have e4:σ[k]?=some (some v):=by
        cases z:σ[k]? with
        | none=>rw [z] at e2';cases e2'
        | some w'=>rw [z] at e2';exact congrArg some e2'
      obtain ⟨n1,n2⟩:=c.caps j k x q e1'
      have hmem:=PySem.mem_of_lookup n2
      have hkind:=c.frees _ hmem rfl
      obtain ⟨m0,_,hl⟩:=I.loc
      obtain ⟨u,r,lk⟩:=hl k x v n1 e4 (.inr hkind)
      refine ⟨u,r,.inr ⟨?_,?_⟩⟩
      . show (relabel scope X.env).names.lookup x=some .cell\/(relabel scope X.env).names.lookup x=some .free
        rw [dCq,n2]
        by_cases z:((NameKind.free==.free&&X.env.scope.kind==.function&&X.env.kindOf x==some .cell)=true)
        . exact .inl (by rw [Option.map_some,if_pos z])
        . exact .inr (by rw [Option.map_some,if_neg z])
      . rcases lk with ⟨k1,_⟩ | ⟨_,a,e,z⟩
        . have k1':X.env.scope.names.lookup x=some .local:=k1
          rcases hkind with y | y<;>(rw [k1'] at y;cases y)
        . obtain ⟨a',ea⟩:=Option.isSome_iff_exists.mp (eDq (cells:=X.env.cells) scope.names [] hmem)
          have e':=cl ea
          rw [e] at e';cases e'
          obtain ⟨o,ho,hd⟩:=z
          exact ⟨a,ea,o,hk _ _ ho,hd⟩
  . obtain ⟨v,o,ho,hd⟩:=I.cell x a (cl e)
    exact ⟨v,o,hk _ _ ho,hd⟩
  . show (c9q nt cap σ).length=N'.length
    unfold c9q
    rw [List.length_append,List.length_replicate,List.length_map,c.len]
theorem Inv.uncomp {C:Addr} {fp:List Addr} {σ':St} {H':Hp} {s':Shared} (I:Inv X pins σ H s) (hC:C=s.heap.objs.size) (hf:∀ b∈fp,iBq X pins H b) {N':List Str} (J:Inv (aRq X scope N' C fp s H) [] σ' H' s') :
    ∃ m,s'.heap.Ns C m/\∀ h',Heap.SameBut C s'.heap h'->Inv X pins σ H' { s' with heap:=h' }:=by
  subst hC
  obtain ⟨m,hn,_⟩:=J.loc
  refine ⟨m,hn,λ h' hs=>?_⟩
  have ne:∀ b o,s.heap.get? b=some o->b≠s.heap.objs.size:=λ b o e=>Nat.ne_of_lt (Heap.lt_size e)
  have B:=J.base
  refine I.call' (ch:=fp) J.os ⟨λ b o e n hb hx=>?_,λ b o e n hb hx=>?_,B.free,λ b o e hx=>?_,B.tups,B.frzs,B.tbls⟩ (λ b u e=>?_) J.bare λ b hb=>?_
  . exact (hs.2 b (ne b o e)).trans (B.keep b o e n hb hx)
  . obtain ⟨sl,q⟩:=B.slot b o e n hb hx
    exact ⟨sl,(hs.2 b (ne b o e)).trans q⟩
  . obtain ⟨o',q⟩:=B.there b o e hx
    exact ⟨o',(hs.2 b (ne b o e)).trans q⟩
  . have hCn:H' s.heap.objs.size=none:=J.free
    refine (J.hok b u e).stay (λ d w' hd q=>(hs.2 d ?_).trans q) (λ _ q=>q) λ _ _ q=>q
    intro z
    subst z
    rcases hd with z | z
    . rw [<- z,hCn] at e;cases e
    . rw [hCn] at z;cases z
  . obtain ⟨f0,f1,f2,f3,f4,f5⟩:=hf b hb
    exact ⟨f3,f1,f4,f5⟩
end
def tRq (wi:TI) (g:TG) (te:TE) (nt:Nat) (cap:List Nat):TE:=λ σ H Q=>wi σ H λ J H1=>∀ acc,H1 acc=none →
  ∃ W:Nat->Nat->List V->St->Hp->Prop,(∃ m,W 0 m [] (c9q nt cap σ) (upd H1 acc (.lst [])))/\∀ i m ys σ' H',W i m ys σ' H' →
    (J.stop i H'/\Q (.ref acc) H')\/(J.go i H'/\∀ x H2,J.yld i H' x H2->g x σ' H2 λ σ3 H3=>te σ3 H3 λ y H4=>
      H4 acc=some (.lst ys)/\ys.length < sizeLine/\∃ m',m' < m/\W (i+1) m' (ys++[y]) σ3 (upd H4 acc (.lst (ys++[y]))))
def iEq (wi:TI) (g:TG) (tc:TT) (te:TE) (nt:Nat) (cap:List Nat):TE:=λ σ H Q=>wi σ H λ J H1=>∀ acc,H1 acc=none →
  ∃ W:Nat->Nat->List V->St->Hp->Prop,(∃ m,W 0 m [] (c9q nt cap σ) (upd H1 acc (.lst [])))/\∀ i m ys σ' H',W i m ys σ' H' →
    (J.stop i H'/\Q (.ref acc) H')\/(J.go i H'/\∀ x H2,J.yld i H' x H2->g x σ' H2 λ σ3 H3=>tc σ3 H3 λ b H5=>if b=true then te σ3 H5 λ y H4=>
      H4 acc=some (.lst ys)/\ys.length < sizeLine/\∃ m',m' < m/\W (i+1) m' (ys++[y]) σ3 (upd H4 acc (.lst (ys++[y])))
      else ∃ m',m' < m/\W (i+1) m' ys σ3 H5)
theorem hEq (elt target iter c:Expr) (scope:Scope) (pos:Pos) (it acc:Value) (env:Env) :
    compTurn (.ListComp elt [⟨target,iter,[c],0⟩] scope pos) 0 it acc env=(standAt iter.pos >>= λ _=>pyNext it >>= λ r=>match r with
      | none=>pure (.done .next)
      | some v=>letOwnedTupleGo target it v >>= λ _=>assign target env v >>= λ _=>(forIn [c] true λ c r=>if r=true then do let ok ← isTrue c env (eval c env);pure (ForInStep.yield ok) else pure (ForInStep.yield r)) >>= λ ok=>
        if ok=true then (eval elt env >>= λ x=>call (.builtin "list.append") [acc,x] >>= λ _=>pure ()) >>= λ _=>again (.compLoop (.ListComp elt [⟨target,iter,[c],0⟩] scope pos) 0 it acc env)
        else again (.compLoop (.ListComp elt [⟨target,iter,[c],0⟩] scope pos) 0 it acc env)):=by
  rfl
theorem lVq (c:Expr) (env:Env):(forIn [c] true λ c r=>if r=true then do let ok ← isTrue c env (eval c env);pure (ForInStep.yield ok) else pure (ForInStep.yield r))=isTrue c env (eval c env):=by
  rw [List.forIn_cons,if_pos rfl]
  simp only [bind_assoc,pure_bind,List.forIn_nil,bind_pure]
theorem hMq (elt target iter c:Expr) (scope:Scope) (pos:Pos) (it acc:Value) (env:Env) :
    compTurn (.ListComp elt [⟨target,iter,[c],0⟩] scope pos) 0 it acc env=(standAt iter.pos >>= λ _=>pyNext it >>= λ r=>match r with
      | none=>pure (.done .next)
      | some v=>letOwnedTupleGo target it v >>= λ _=>assign target env v >>= λ _=>isTrue c env (eval c env) >>= λ ok=>
        if ok=true then (eval elt env >>= λ x=>call (.builtin "list.append") [acc,x] >>= λ _=>pure ()) >>= λ _=>again (.compLoop (.ListComp elt [⟨target,iter,[c],0⟩] scope pos) 0 it acc env)
        else again (.compLoop (.ListComp elt [⟨target,iter,[c],0⟩] scope pos) 0 it acc env)):=by
  rw [hEq,lVq]
section
variable {X:Cx} {scope:Scope} {N':List Str} {nt:Nat} {cap:List Nat} {elt iter tg:Expr} {pos:Pos} {wi:TI} {g:TG} {te:TE}
theorem tHq (hc:X.calm=true) (c:CompOk X scope N' nt cap) (hi:PI X tg iter wi) (hg:∀ C ex s H,PG (aRq X scope N' C ex s H) tg g) (he:∀ C ex s H,PE (aRq X scope N' C ex s H) elt te)
    (hs:∀ x,foldedSetIterable iter X.env x=pure x:=by intro _;rfl):PE X (.ListComp elt [⟨tg,iter,[],0⟩] scope pos) (tRq wi g te nt cap):=by
  intro pins s σ H Q I h
  rw [eval_ListComp]
  refine wpAny_comprehension_free (use:=none) rfl hs (o6q (c.has I.ok)) c.kind c.locs (thn (hi pins s σ H _ I h) λ v s1 h1=>thn h1 λ itv s2 h2=>?_)
  obtain ⟨it,fp,tn,J,H2,rfl,I2,T,st2,f2,R⟩:=h2
  have hD:H2 s2.heap.objs.size=none:=I2.hok.fresh (Nat.le_refl _)
  obtain ⟨W,⟨m0,w0⟩,turn⟩:=R _ hD
  have I3:Inv X pins σ (upd H2 s2.heap.objs.size (.lst [])) { s2 with heap:=s2.heap.push { cls:=.type "list", dict:=none,data:=.seq ([]:List Value).toArray } }:=
    I2.laid (t':=s2.toks) (λ b u e=>Heap.get?_push_of_some _ e) (Nat.le_refl _) ⟨Nat.zero_le _,[],0,.nil,Heap.get?_push_size _ rfl⟩
  have fpLt:∀ b∈fp,b < s2.heap.objs.size:=λ b hb=>by
    obtain ⟨o,e,_⟩:=T.obj _ _ st2 b hb
    exact Heap.lt_size e
  have f3:∀ b∈fp,iBq X pins (upd H2 s2.heap.objs.size (.lst [])) b:=λ b hb=>⟨by rw [aHq (Nat.ne_of_lt (fpLt b hb))];exact (f2 b hb).1,(f2 b hb).2⟩
  have st3:tn 0 (s2.heap.push { cls:=.type "list", dict:=none,data:=.seq ([]:List Value).toArray }):=T.keep _ _ _ st2 λ b _ o e=>Heap.get?_push_of_some _ e
  generalize hh3:s2.heap.push { cls:=.type "list", dict:=none,data:=.seq ([]:List Value).toArray }=h3 at I3 st3
  have sz3:s2.heap.objs.size < h3.objs.size:=by rw [<- hh3,Heap.size_push];exact Nat.lt_succ_self _
  generalize hDD:s2.heap.objs.size=D at I3 f3 hD w0 turn sz3 fpLt
  refine wpAny_newObj_type ?_
  rw [hDD,hh3]
  refine wpAny_newFunctionEnv c.nocell (by intro y hy;simp at hy) (λ h4 hns4 hsb4=>?_) c.kind
  dsimp only at hns4 hsb4 ⊢
  have keep4:∀ b o,h3.get? b=some o->h4.get? b=some o:=λ b o e=>(hsb4.2 b (Nat.ne_of_lt (Heap.lt_size e))).trans (Heap.get?_push_of_some _ e)
  have I4:=I3.comp (t':=s2.toks+([]:List (Str × Value)).length) c f3 (λ b hb=>Nat.lt_trans (fpLt b hb) sz3) keep4 hns4
  have st4:tn 0 h4:=T.keep _ _ _ st3 λ b _ o e=>keep4 b o e
  dsimp only at I4
  have fin:∀ {σ':St} {H':Hp} {s':Shared},Inv (aRq X scope N' h3.objs.size fp { s2 with heap:=h3 } (upd H2 D (.lst []))) [] σ' H' s'->Q (.ref D) H' →
      compPost (model X.prog X.w) X.A X.xe none (EP X pins σ Q) (.ref D) h3.objs.size (.ok .next) s':=λ{σ' H' s'} J' q=>by
    obtain ⟨m,hn,hh⟩:=I3.uncomp rfl f3 J'
    exact ⟨m,hn,λ h' hs'=>⟨.ref D,H',hh h' hs',rfl,q⟩⟩
  have stat:∀ {H':Hp},(∀ b∈fp,H' b=none)->∀ b∈fp,iBq (aRq X scope N' h3.objs.size fp { s2 with heap:=h3 } (upd H2 D (.lst []))) [] H' b:=λ{H'} hn b hb=>by
    refine ⟨hn b hb,Nat.ne_of_lt (Nat.lt_trans (fpLt b hb) sz3),λ z=>?_,.inl hb,λ x a e=>(f3 b hb).2.2.2.2.1 x a (c.cells I.ok e),λ p hp=>absurd (show p∈([]:List (Addr × Obj)) from hp) (by simp)⟩
    rcases List.mem_cons.mp (I.stkSub b z) with y | y
    . exact (f3 b hb).2.1 y
    . exact (f3 b hb).2.2.1 y
  have loop:codeAny (model X.prog X.w) X.A (.compLoop (.ListComp elt [⟨tg,iter,[],0⟩] scope pos) 0 (.ref it) (.ref D) (compEnvC scope (bVq X.env.cells scope.names []) h3.objs.size X.env))
      (compPost (model X.prog X.w) X.A X.xe none (EP X pins σ Q) (.ref D) h3.objs.size) { s2 with heap:=h4,toks:=s2.toks+([]:List (Str × Value)).length }:=by
    refine codeAny_loop rfl (λ n s'=>∃ i ys σ' H',Inv (aRq X scope N' h3.objs.size fp { s2 with heap:=h3 } (upd H2 D (.lst []))) [] σ' H' s'/\tn i s'.heap/\(∀ b∈fp,H' b=none)/\W i n ys σ' H') (λ n s5 hI=>?_) m0 ⟨0,[],_,_,I4,st4,λ b hb=>(f3 b hb).1,w0⟩
    obtain ⟨i,ys,σ5,H5,I5,st5,fr5,w5⟩:=hI
    show wpAny _ X.A ((compTurn (.ListComp elt [⟨tg,iter,[],0⟩] scope pos) 0 (.ref it) (.ref D) (compEnvC scope (bVq X.env.cells scope.names []) h3.objs.size X.env)).onRaise (λ x=>do noteFrame x (compEnvC scope (bVq X.env.cells scope.names []) h3.objs.size X.env);theTreesLotGoes x)) _ _ s5
    refine wpAny_noted ?_
    rw [compTurn_list1]
    rcases turn i n ys σ5 H5 w5 with ⟨stop,qn⟩ | ⟨go,step⟩
    . refine wpAny_bind (wpAny_standAt (wpAny_bind (wpAny_mono (T.done (aRq X scope N' h3.objs.size fp { s2 with heap:=h3 } (upd H2 D (.lst []))) rfl rfl rfl hc i [] s5 σ5 H5 (λ _ _=>False) I5 (stat fr5) st5 stop) (λ r s6 ⟨hr,I6⟩=>?_) λ _ _ z=>z.elim)))
      subst hr
      exact wpAny_pure (fin I6 qn)
    . refine wpAny_bind (wpAny_standAt (wpAny_bind (wpAny_mono (T.item (aRq X scope N' h3.objs.size fp { s2 with heap:=h3 } (upd H2 D (.lst []))) rfl rfl rfl hc i [] s5 σ5 H5 (λ _ _=>False) I5 (stat fr5) st5 go) (λ r s6 ⟨u,hr,h6⟩=>?_) λ _ _ z=>z.elim)))
      subst hr
      refine wpAny_bind (wpAny_mono h6 (λ _ s7 ⟨x,H7,I7,r7,y7,st7,fr7⟩=>?_) λ _ _ z=>z.elim)
      have I7':=I7.pinned (stat fr7) (T.obj _ _ st7)
      refine wpAny_bind (wpAny_mono (hg _ _ _ _ _ s7 σ5 H7 x u _ I7' r7 (step x H7 y7)) (λ _ s8 ⟨σ8,H8,I8,q8⟩=>?_) λ _ _ z=>z.elim)
      refine wpAny_bind (wpAny_bind (wpAny_mono (he _ _ _ _ _ s8 σ8 H8 _ I8 q8) (λ yv s9 ⟨y,H9,I9,r9,e9,z9,m',hm',w9⟩=>?_) λ _ _ z=>z.elim))
      refine wpAny_bind (wpAny_mono (eAq (X:=aRq X scope N' h3.objs.size fp { s2 with heap:=h3 } (upd H2 D (.lst []))) _ s9 σ8 H9 (.ref D) [y] (.ref D) [yv] (λ v H10=>v=.non/\H10=upd H9 D (.lst (ys++[y]))) I9 rfl (.cons r9 .nil) ⟨D,ys,y,rfl,rfl,e9,z9,rfl,rfl⟩)
        (λ _ s10 ⟨v10,H10,I10,_,_,e10⟩=>?_) λ _ _ z=>z.elim)
      subst e10
      refine wpAny_pure (wpAny_pure ⟨rfl,m',hm',i+1,ys++[y],σ8,_,I10.unpinned,?_,λ b hb=>?_,w9⟩)
      . exact T.keep _ _ _ st7 λ b hb o e=>(I10.pin (b,o) (List.mem_append_right _ (List.mem_append_right _ (b3q hb e)))).1
      . obtain ⟨o,e,d⟩:=T.obj _ _ st7 b hb
        exact (I10.pin (b,o) (List.mem_append_right _ (List.mem_append_right _ (b3q hb e)))).2.1
  exact codeAny_compStart_list loop (T.self _ 0 _ _ _ st4 loop)
end
structure Got (P:Program) (w:World) (K:PySem.W.Frag) (mg:Str->Option Value) (base:Heap) (k:Nat) (x:Str) (ps:List Str) (sp:Sp):Prop where
  ex:∃ (f:Addr) (fd:FuncData),FnOk P w K mg base CX0 k f fd ps sp/\mg x=some (.ref f)/\PySem.W.keepIn K (.ref f)=true/\Binds K fd ps []
section
variable {X:Cx} {k j:Nat} {x:Str} {ps:List Str} {sp:Sp} {p pos:Pos} {e:Expr} {es:List Expr} {t:TA}
theorem zCq (G:Got X.prog X.w X.K X.mg X.base k x ps sp) (hr:Room j X.A) (hk:k<=j) (hg:Gl X x) (ha:PA X (e::es) t) (hdb:(x==("__debug__" : Str))=false:=by decide)
    (he:starEach (e::es) X.env=(false,eval e X.env)::starEach es X.env:=by rfl) (hpl:(backTo pos (starEach es X.env)).any (·.1)=false:=by rfl) :
    PE X (.Call (.Name x p) (e::es) [] pos) (pNq sp [] E0 t):=by
  obtain ⟨f,fd,F,hm,kp,b⟩:=G.ex
  exact sJq F (hr.mono hk) hg hm kp b .nil p9q ha hdb he hpl
end
section
variable {X:Cx}
theorem q5q:OpR X (binaryOp .FloorDiv) (rI (λ _ j=>0 < j/\j < 2 ^ 64) λ i j=>.int (i / j)):=opI λ i j t u s E Q hc q=>by
  have h0:j≠0:=by omega
  have h1:j.natAbs.log2 < 9000:=by
    have e1:j.natAbs < 2 ^ 64:=by omega
    exact Nat.lt_trans ((Nat.log2_lt (by omega)).mpr e1) (by decide)
  have e:i.fdiv j=i / j:=Int.fdiv_eq_ediv_of_nonneg i (by omega)
  exact floordiv_int h0 (by rw [e];exact q) (.inl (PyProof.noPylong_of_log2 h1))
theorem uDq (l b:Addr) (items items2:Array Value) (n n2:Nat) (dd2:Option Addr) (sl2:Array (Option Value)) (h0:¬(!items.isEmpty&&Builtin.List.listTooLong (items.size+items2.size))=true) (h1:items.size<=sizeLine) (h2:items.size+items2.size<=sizeLine+1) :
    Meets (Builtin.«list.extend» ⟨[.ref l,.ref b],[]⟩) (λ _ R s=>s.heap.get? l=some { cls:=.type "list", dict:=none,data:=.seq items n,slots:=#[] } ∧
      s.heap.get? b=some { cls:=.type "tuple", dict:=dd2,data:=.seq items2 n2,slots:=sl2 }/\R (.ok (.ret Value.none)) { s with heap:=s.heap.update l (Obj.mapSeq λ x=>x++items2),toks:=s.toks }):=
  .of_wp λ prog w A R s h=>by
    obtain ⟨hp,g,d,tk,os⟩:=s
    obtain ⟨hl,hb,h⟩:=h
    have f1:=AutoSeq1.idx_int
    have f2:=AutoSeq1.sub_tuple_tuple
    have f3:=AutoSeq1.sub_list_list
    have f4:=AutoSeq1.sub_tuple_list
    have f5:=AutoSeq1.sub_list_tuple
    have hz':(items++items2).size<=sizeLine+1:=by rw [Array.size_append];exact h2
    wp_walk using (wpAny_updateSeq hl rfl (hz:=h1) (_hz':=hz')),wpAny_loadPart' hl,wpAny_loadPart' hb
    exact ⟨_,rfl,h⟩
def aE0q (K:PySem.W.Frag):V->List V->Hp->VK->Prop:=λ x vs H Q=>∃ l b xs zs,x=.ref l/\vs=[.ref b]/\H l=some (.lst xs)/\SqT K H b zs/\xs.length+zs.length<=sizeLine/\Q .non (upd H l (.lst (xs++zs)))
theorem sZq:MtM X "list.extend" (aE0q X.K):=by
  intro pins s σ H x vs v us Q I rx rv h
  obtain ⟨l,b,xs,zs,rfl,rfl,hH,hB,hz,q⟩:=h
  cases rx
  obtain ⟨u,rfl,ru⟩:=rv.one
  cases ru
  obtain ⟨z,its,n,r,hl,e⟩:=I.lstM hH
  obtain ⟨its2,r2,⟨⟨c2,dd2,da2,sl2⟩,e2,hc2,n2,hd2⟩,hz2⟩:=I.tuple hB
  simp only at hc2 hd2
  subst hc2 hd2
  have hl2:=r2.length
  have hsz:its.toArray.size+its2.toArray.size<=sizeLine:=by rw [List.size_toArray,List.size_toArray];omega
  have hlong:¬ (!its.toArray.isEmpty&&Builtin.List.listTooLong (its.toArray.size+its2.toArray.size))=true:=by
    rw [k9q hsz,Bool.and_false]
    exact Bool.false_ne_true
  refine call_meets F.slot_list_extend ⟨_,e,rfl⟩ F.entry_list_extend (F.args_list_extend_2 _ _) (uDq l b its.toArray its2.toArray n n2 dd2 sl2 hlong (by rw [List.size_toArray];omega) (by omega)) ⟨e,e2,?_⟩
  refine ⟨.non,_,I.lset (its':=its++its2) hH e (by simp) (r.append r2) ?_,rfl,q⟩
  rw [List.length_append]
  omega
end
section
variable {X:Cx} {scope:Scope} {N':List Str} {nt:Nat} {cap:List Nat} {elt iter tg:Expr} {pos:Pos} {wi:TI} {g:TG} {te:TE}
theorem nIq {ct:Expr} {tc:TT} (hc:X.calm=true) (c:CompOk X scope N' nt cap) (hi:PI X tg iter wi) (hg:∀ C ex s H,PG (aRq X scope N' C ex s H) tg g) (ht:∀ C ex s H,PT (aRq X scope N' C ex s H) ct tc) (he:∀ C ex s H,PE (aRq X scope N' C ex s H) elt te)
    (hs:∀ x,foldedSetIterable iter X.env x=pure x:=by intro _;rfl):PE X (.ListComp elt [⟨tg,iter,[ct],0⟩] scope pos) (iEq wi g tc te nt cap):=by
  intro pins s σ H Q I h
  rw [eval_ListComp]
  refine wpAny_comprehension_free (use:=none) rfl hs (o6q (c.has I.ok)) c.kind c.locs (thn (hi pins s σ H _ I h) λ v s1 h1=>thn h1 λ itv s2 h2=>?_)
  obtain ⟨it,fp,tn,J,H2,rfl,I2,T,st2,f2,R⟩:=h2
  have hD:H2 s2.heap.objs.size=none:=I2.hok.fresh (Nat.le_refl _)
  obtain ⟨W,⟨m0,w0⟩,turn⟩:=R _ hD
  have I3:Inv X pins σ (upd H2 s2.heap.objs.size (.lst [])) { s2 with heap:=s2.heap.push { cls:=.type "list", dict:=none,data:=.seq ([]:List Value).toArray } }:=
    I2.laid (t':=s2.toks) (λ b u e=>Heap.get?_push_of_some _ e) (Nat.le_refl _) ⟨Nat.zero_le _,[],0,.nil,Heap.get?_push_size _ rfl⟩
  have fpLt:∀ b∈fp,b < s2.heap.objs.size:=λ b hb=>by
    obtain ⟨o,e,_⟩:=T.obj _ _ st2 b hb
    exact Heap.lt_size e
  have f3:∀ b∈fp,iBq X pins (upd H2 s2.heap.objs.size (.lst [])) b:=λ b hb=>⟨by rw [aHq (Nat.ne_of_lt (fpLt b hb))];exact (f2 b hb).1,(f2 b hb).2⟩
  have st3:tn 0 (s2.heap.push { cls:=.type "list", dict:=none,data:=.seq ([]:List Value).toArray }):=T.keep _ _ _ st2 λ b _ o e=>Heap.get?_push_of_some _ e
  generalize hh3:s2.heap.push { cls:=.type "list", dict:=none,data:=.seq ([]:List Value).toArray }=h3 at I3 st3
  have sz3:s2.heap.objs.size < h3.objs.size:=by rw [<- hh3,Heap.size_push];exact Nat.lt_succ_self _
  generalize hDD:s2.heap.objs.size=D at I3 f3 hD w0 turn sz3 fpLt
  refine wpAny_newObj_type ?_
  rw [hDD,hh3]
  refine wpAny_newFunctionEnv c.nocell (by intro y hy;simp at hy) (λ h4 hns4 hsb4=>?_) c.kind
  dsimp only at hns4 hsb4 ⊢
  have keep4:∀ b o,h3.get? b=some o->h4.get? b=some o:=λ b o e=>(hsb4.2 b (Nat.ne_of_lt (Heap.lt_size e))).trans (Heap.get?_push_of_some _ e)
  have I4:=I3.comp (t':=s2.toks+([]:List (Str × Value)).length) c f3 (λ b hb=>Nat.lt_trans (fpLt b hb) sz3) keep4 hns4
  have st4:tn 0 h4:=T.keep _ _ _ st3 λ b _ o e=>keep4 b o e
  dsimp only at I4
  have fin:∀ {σ':St} {H':Hp} {s':Shared},Inv (aRq X scope N' h3.objs.size fp { s2 with heap:=h3 } (upd H2 D (.lst []))) [] σ' H' s'->Q (.ref D) H' →
      compPost (model X.prog X.w) X.A X.xe none (EP X pins σ Q) (.ref D) h3.objs.size (.ok .next) s':=λ{σ' H' s'} J' q=>by
    obtain ⟨m,hn,hh⟩:=I3.uncomp rfl f3 J'
    exact ⟨m,hn,λ h' hs'=>⟨.ref D,H',hh h' hs',rfl,q⟩⟩
  have stat:∀ {H':Hp},(∀ b∈fp,H' b=none)->∀ b∈fp,iBq (aRq X scope N' h3.objs.size fp { s2 with heap:=h3 } (upd H2 D (.lst []))) [] H' b:=λ{H'} hn b hb=>by
    refine ⟨hn b hb,Nat.ne_of_lt (Nat.lt_trans (fpLt b hb) sz3),λ z=>?_,.inl hb,λ x a e=>(f3 b hb).2.2.2.2.1 x a (c.cells I.ok e),λ p hp=>absurd (show p∈([]:List (Addr × Obj)) from hp) (by simp)⟩
    rcases List.mem_cons.mp (I.stkSub b z) with y | y
    . exact (f3 b hb).2.1 y
    . exact (f3 b hb).2.2.1 y
  have loop:codeAny (model X.prog X.w) X.A (.compLoop (.ListComp elt [⟨tg,iter,[ct],0⟩] scope pos) 0 (.ref it) (.ref D) (compEnvC scope (bVq X.env.cells scope.names []) h3.objs.size X.env))
      (compPost (model X.prog X.w) X.A X.xe none (EP X pins σ Q) (.ref D) h3.objs.size) { s2 with heap:=h4,toks:=s2.toks+([]:List (Str × Value)).length }:=by
    refine codeAny_loop rfl (λ n s'=>∃ i ys σ' H',Inv (aRq X scope N' h3.objs.size fp { s2 with heap:=h3 } (upd H2 D (.lst []))) [] σ' H' s'/\tn i s'.heap/\(∀ b∈fp,H' b=none)/\W i n ys σ' H') (λ n s5 hI=>?_) m0 ⟨0,[],_,_,I4,st4,λ b hb=>(f3 b hb).1,w0⟩
    obtain ⟨i,ys,σ5,H5,I5,st5,fr5,w5⟩:=hI
    show wpAny _ X.A ((compTurn (.ListComp elt [⟨tg,iter,[ct],0⟩] scope pos) 0 (.ref it) (.ref D) (compEnvC scope (bVq X.env.cells scope.names []) h3.objs.size X.env)).onRaise (λ x=>do noteFrame x (compEnvC scope (bVq X.env.cells scope.names []) h3.objs.size X.env);theTreesLotGoes x)) _ _ s5
    refine wpAny_noted ?_
    rw [hMq]
    rcases turn i n ys σ5 H5 w5 with ⟨stop,qn⟩ | ⟨go,step⟩
    . refine wpAny_bind (wpAny_standAt (wpAny_bind (wpAny_mono (T.done (aRq X scope N' h3.objs.size fp { s2 with heap:=h3 } (upd H2 D (.lst []))) rfl rfl rfl hc i [] s5 σ5 H5 (λ _ _=>False) I5 (stat fr5) st5 stop) (λ r s6 ⟨hr,I6⟩=>?_) λ _ _ z=>z.elim)))
      subst hr
      exact wpAny_pure (fin I6 qn)
    . refine wpAny_bind (wpAny_standAt (wpAny_bind (wpAny_mono (T.item (aRq X scope N' h3.objs.size fp { s2 with heap:=h3 } (upd H2 D (.lst []))) rfl rfl rfl hc i [] s5 σ5 H5 (λ _ _=>False) I5 (stat fr5) st5 go) (λ r s6 ⟨u,hr,h6⟩=>?_) λ _ _ z=>z.elim)))
      subst hr
      refine wpAny_bind (wpAny_mono h6 (λ _ s7 ⟨x,H7,I7,r7,y7,st7,fr7⟩=>?_) λ _ _ z=>z.elim)
      have I7':=I7.pinned (stat fr7) (T.obj _ _ st7)
      refine wpAny_bind (wpAny_mono (hg _ _ _ _ _ s7 σ5 H7 x u _ I7' r7 (step x H7 y7)) (λ _ s8 ⟨σ8,H8,I8,q8⟩=>?_) λ _ _ z=>z.elim)
      refine wpAny_bind (wpAny_mono (ht _ _ _ _ _ s8 σ8 H8 _ I8 q8) (λ bb s9 ⟨H9,I9,q9⟩=>?_) λ _ _ z=>z.elim)
      cases bb with
      | true=>
        rw [if_pos rfl]
        rw [if_pos rfl] at q9
        refine wpAny_bind (wpAny_bind (wpAny_mono (he _ _ _ _ _ s9 σ8 H9 _ I9 q9) (λ yv sA ⟨y,HA,IA,rA,eA,zA,m',hm',wA⟩=>?_) λ _ _ z=>z.elim))
        refine wpAny_bind (wpAny_mono (eAq (X:=aRq X scope N' h3.objs.size fp { s2 with heap:=h3 } (upd H2 D (.lst []))) _ sA σ8 HA (.ref D) [y] (.ref D) [yv] (λ v H10=>v=.non/\H10=upd HA D (.lst (ys++[y]))) IA rfl (.cons rA .nil) ⟨D,ys,y,rfl,rfl,eA,zA,rfl,rfl⟩)
          (λ _ s10 ⟨v10,H10,I10,_,_,e10⟩=>?_) λ _ _ z=>z.elim)
        subst e10
        refine wpAny_pure (wpAny_pure ⟨rfl,m',hm',i+1,ys++[y],σ8,_,I10.unpinned,?_,λ b hb=>?_,wA⟩)
        . exact T.keep _ _ _ st7 λ b hb o e=>(I10.pin (b,o) (List.mem_append_right _ (List.mem_append_right _ (b3q hb e)))).1
        . obtain ⟨o,e,d⟩:=T.obj _ _ st7 b hb
          exact (I10.pin (b,o) (List.mem_append_right _ (List.mem_append_right _ (b3q hb e)))).2.1
      | false=>
        rw [if_neg Bool.false_ne_true]
        rw [if_neg Bool.false_ne_true] at q9
        obtain ⟨m',hm',w9⟩:=q9
        refine wpAny_pure ⟨rfl,m',hm',i+1,ys,σ8,_,I9.unpinned,?_,λ b hb=>?_,w9⟩
        . exact T.keep _ _ _ st7 λ b hb o e=>(I9.pin (b,o) (List.mem_append_right _ (List.mem_append_right _ (b3q hb e)))).1
        . obtain ⟨o,e,d⟩:=T.obj _ _ st7 b hb
          exact (I9.pin (b,o) (List.mem_append_right _ (List.mem_append_right _ (b3q hb e)))).2.1
  exact codeAny_compStart_list loop (T.self _ 0 _ _ _ st4 loop)
end
def aXq:Expr->Bool
  | .Starred ..=>false
  | _=>true
theorem aEq {e:Expr} {es:List Expr} {env:Env} (h:aXq e=true):starEach (e::es) env=(false,eval e env)::starEach es env:=by
  cases e<;>first | rfl | cases h
section
variable {κ:Type} [DecidableEq κ]
def f0q (kvs:List (κ × V)) (k:κ):Option V:=(kvs.find? λ kv=>decide (kv.1=k)).map (·.2)
def oVq (kvs:List (κ × V)) (k:κ) (v:V):List (κ × V):=
  if (kvs.any λ kv=>decide (kv.1=k))=true then kvs.map (λ kv=>if kv.1=k then (kv.1,v) else kv) else kvs++[(k,v)]
theorem gDq {p:κ × V} {r:List (κ × V)} {k:κ} (e:p.1=k):f0q (p::r) k=some p.2:=by simp [f0q,List.find?_cons,e]
theorem g7q {p:κ × V} {r:List (κ × V)} {k:κ} (e:¬ p.1=k):f0q (p::r) k=f0q r k:=by simp [f0q,List.find?_cons,e]
theorem iYq (kvs:List (κ × V)) (k:κ) (v:V):(oVq kvs k v).length<=kvs.length+1:=by
  unfold oVq
  split
  . rw [List.length_map];omega
  . rw [List.length_append,List.length_cons,List.length_nil];omega
theorem RelO.isSome_eq {o:Option V} {u:Option Value} (r:RelO o u):o.isSome=u.isSome:=by
  cases o with
  | none=>cases u with
    | none=>rfl
    | some _=>exact (show False from r).elim
  | some _=>cases u with
    | none=>exact (show False from r).elim
    | some _=>rfl
theorem RelO.getD {o:Option V} {u:Option Value} {d:V} {d':Value} (r:RelO o u) (rd:RelV d d'):RelV (o.getD d) (u.getD d'):=by
  cases o with
  | none=>cases u with
    | none=>exact rd
    | some _=>exact (show False from r).elim
  | some _=>cases u with
    | none=>exact (show False from r).elim
    | some _=>exact r
theorem KV.val {kvs:List (κ × V)} {vs:List (κ × Value)} (r:KV kvs vs) (k:κ):RelO (f0q kvs k) (valueAt vs k):=by
  unfold KV at r
  induction r with
  | nil=>exact True.intro
  | @cons p q ps qs h t ih=>
    obtain ⟨h1,h2⟩:=h
    by_cases e:p.1=k
    . have e':q.1=k:=h1.symm.trans e
      have b:valueAt (q::qs) k=some q.2:=by simp [valueAt,List.find?_cons,e']
      rw [gDq e,b];exact h2
    . have e':¬ q.1=k:=λ z=>e (h1.trans z)
      have b:valueAt (q::qs) k=valueAt qs k:=by simp [valueAt,List.find?_cons,e']
      rw [g7q e,b];exact ih
theorem KV.any {kvs:List (κ × V)} {vs:List (κ × Value)} (r:KV kvs vs) (k:κ):(kvs.any λ kv=>decide (kv.1=k))=vs.any λ kv=>decide (kv.1=k):=by
  unfold KV at r
  induction r with
  | nil=>rfl
  | cons h t ih=>rw [List.any_cons,List.any_cons,ih,h.1]
theorem KV.repl {kvs:List (κ × V)} {vs:List (κ × Value)} (r:KV kvs vs) (k:κ) {y:V} {u:Value} (ry:RelV y u) :
    KV (kvs.map λ kv=>if kv.1=k then (kv.1,y) else kv) (vs.map λ kv=>if kv.1=k then (kv.1,u) else kv):=by
  unfold KV at r ⊢
  induction r with
  | nil=>exact .nil
  | @cons p q ps qs h t ih=>
    rw [List.map_cons,List.map_cons]
    refine .cons ?_ ih
    obtain ⟨h1,h2⟩:=h
    by_cases e:p.1=k
    . rw [if_pos e,if_pos (h1.symm.trans e)];exact ⟨h1,ry⟩
    . rw [if_neg e,if_neg (λ z=>e (h1.trans z))];exact ⟨h1,h2⟩
theorem KV.put {kvs:List (κ × V)} {vs:List (κ × Value)} (r:KV kvs vs) (k:κ) {y:V} {u:Value} (ry:RelV y u):KV (oVq kvs k y) (stored vs k u):=by
  unfold oVq stored
  rw [r.any k]
  by_cases e:(vs.any λ kv=>decide (kv.1=k))=true
  . rw [if_pos e,if_pos e];exact r.repl k ry
  . rw [if_neg e,if_neg e];exact Paired.snoc r ⟨rfl,ry⟩
theorem KV.length {kvs:List (κ × V)} {vs:List (κ × Value)} (r:KV kvs vs):kvs.length=vs.length:=Paired.length r
end
theorem qIq {P:Program} {w:World} {k:Key} {u:Value} (r:RelV (kV k) u):(aZq P w).is k u=true:=by
  cases k with
  | inl i=>obtain ⟨t,e⟩:=(show ∃ t,u=Value.int i t from r);subst e;exact jCq P w i t
  | inr x=>obtain ⟨t,e⟩:=(show ∃ t,u=Value.str x t from r);subst e;exact iVq P w x t
theorem h1q {P:Program} {w:World}:∀ {ks:List Key} {us:List Value},Vals (ks.map kV) us->ItemsAre (aZq P w) ks us
  | [],_,r=>by rw [List.map_nil] at r;cases r;exact .nil
  | k::ks,_,r=>by
    rw [List.map_cons] at r
    cases r with
    | cons h t=>exact .cons (qIq h) (h1q t)
abbrev KT (H:Hp):List (List Key × V)->List (List Key × Addr × Value)->Prop:=Paired λ p q=>p.1=q.1/\H q.2.1=some (.tup (p.1.map kV))/\RelV p.2 q.2.2
theorem KT.val {H:Hp} {kvs:List (List Key × V)} {xs:List (List Key × Addr × Value)} (r:KT H kvs xs) (k:List Key):RelO (f0q kvs k) ((atKey xs k).map (·.2)):=by
  induction r with
  | nil=>exact True.intro
  | @cons p q ps qs h t ih=>
    obtain ⟨h1,_,h2⟩:=h
    by_cases e:p.1=k
    . have e':q.1=k:=h1.symm.trans e
      have b:atKey (q::qs) k=some q.2:=by simp [atKey,List.find?_cons,e']
      rw [gDq e,b];exact h2
    . have e':¬ q.1=k:=λ z=>e (h1.trans z)
      have b:atKey (q::qs) k=atKey qs k:=by simp [atKey,List.find?_cons,e']
      rw [g7q e,b];exact ih
section
variable {P:Program} {w:World} {H:Hp} {h:Heap} {a:Addr}
theorem xOq {u:HO} (ok:HOk P w H h) (e:Rd H a u):ObjOk P w H h a u:=e.ok ok
theorem mIq {kvs:List (Key × V)} (ok:HOk P w H h) (e:Rd H a (.dK kvs)):kvs.length<=sizeLine/\(a==sysModules)=false/\∃ vs,KV kvs vs/\h.DictOf (aZq P w) a vs:=
  show ObjOk P w H h a (.dK kvs) from xOq ok e
theorem aE1q {kvs:List (Key × V)} (ok:HOk P w H h) (e:H a=some (.dK kvs)):kvs.length<=sizeLine/\(a==sysModules)=false/\∃ vs,KV kvs vs/\h.DictOf (aZq P w) a vs:=mIq ok (.inl e)
theorem lOq {ks:List Key} (ok:HOk P w H h) (e:H a=some (.tup (ks.map kV))):(tupleKind (aZq P w)).is h ks a:=by
  obtain ⟨_,its,r,o,h1,h2,n,h3⟩:=(show ObjOk P w H h a (.tup (ks.map kV)) from ok a _ e)
  exact ⟨o,its.toArray,n,h1,h2,h3,by simpa using h1q r⟩
theorem oMq {kvs:List (List Key × V)} (ok:HOk P w H h) (e:Rd H a (.dT kvs)):kvs.length<=sizeLine/\(a==sysModules)=false ∧
    ∃ xs,KT H kvs xs/\h.DictOfH (tupleKind (aZq P w)) a xs:=by
  obtain ⟨z,y,xs,r,o,es,ep,h1,h2,h3,h4,h5⟩:=(show ObjOk P w H h a (.dT kvs) from xOq ok e)
  refine ⟨z,y,xs,r,o,es,ep,h1,h2,h3,h4,λ x hx=>?_,h5⟩
  have all:∀ {l:List (List Key × V)} {m:List (List Key × Addr × Value)},KT H l m->∀ x∈m,(tupleKind (aZq P w)).is h x.1 x.2.1:=by
    intro l m q
    induction q with
    | nil=>intro x hx;exact nomatch hx
    | @cons p q ps qs hq t ih=>
      intro x hx
      rcases List.mem_cons.mp hx with e | hx
      . subst e
        exact lOq ok (by rw [<- hq.1];exact hq.2.1)
      . exact ih x hx
  exact all r x hx
end
def DGet (H:Hp) (a:Addr) (y:V) (r:Option V):Prop:=
  (∃ kvs k,Rd H a (.dK kvs)/\y=kV k/\r=f0q kvs k)\/∃ kvs k b,Rd H a (.dT kvs)/\y=.ref b/\H b=some (.tup (k.map kV))/\r=f0q kvs k
theorem DGet.k {H:Hp} {a:Addr} {kvs:List (Key × V)} {k:Key} (e:H a=some (.dK kvs)):DGet H a (kV k) (f0q kvs k):=.inl ⟨kvs,k,.inl e,rfl,rfl⟩
section
variable {X:Cx} {pins:List (Addr × Obj)} {σ:St} {H:Hp} {s:Shared} {a:Addr} {y v:V} {u r:Value} {o:Option V} {A:Around} {E:Value->Shared->Prop}
theorem Inv.big (I:Inv X pins σ H s):sysModules < s.heap.objs.size:=by
  have h:mainGlobals < s.heap.objs.size:=(I.mod.glob.keeps I.bk).lt
  exact Nat.lt_trans (by decide) h
theorem mRq {Q:Value->Shared->Prop} (hu:A.units+1 < cLine) (I:Inv X pins σ H s) (g:DGet H a y (some v)) (ry:RelV y u) (h:∀ w' s',Inv X pins σ H s'->RelV v w'->Q w' s') :
    wpAny (model X.prog X.w) A (getItem (.ref a) u) Q E s:=by
  rcases g with ⟨kvs,k,e,ey,l⟩ | ⟨kvs,k,b,e,ey,eb,l⟩
  . subst ey
    obtain ⟨z,hd,vs,rel,dd⟩:=mIq I.hok e
    obtain ⟨w',hw,rw'⟩:=RelO.some_of (v:=v) (o:=valueAt vs k) (by rw [l];exact rel.val k)
    exact wpAny_getItem_of (qIq ry) dd.mapOf hw (h w' _ (I.tok _) rw')
  . subst ey
    cases (show u=Value.ref b from ry)
    obtain ⟨z,hd,xs,rel,dd⟩:=oMq I.hok e
    obtain ⟨w',hw,rw'⟩:=RelO.some_of (v:=v) (o:=(atKey xs k).map (·.2)) (by rw [l];exact rel.val k)
    obtain ⟨p,hp,hp2⟩:=Option.map_eq_some_iff.mp hw
    refine wpAny_getItem_heap (tupleKind_room_in1 hu) (lOq I.hok eb) dd hp ?_
    rw [hp2]
    exact h w' _ (I.tok _) rw'
theorem tJq {h':Heap} {t':Nat} {ob:HO} (I:Inv X pins σ H s) (mu:Mut (H a)) (hs:Heap.SameBut a s.heap h') (he:∃ q,h'.get? a=some q) (new:ObjOk X.prog X.w (upd H a ob) h' a ob) :
    Inv X pins σ (upd H a ob) { s with heap:=h',toks:=t' }:=
  I.write (x:=a) (e:=a) mu (.inl rfl) (λ b q hb z=>(hs.2 b hb).trans z) he new
theorem uKq {P:Program} {w:World} {H':Hp} {h':Heap} {kvs:List (Key × V)} {vs:List (Key × Value)} (z:kvs.length<=sizeLine) (hd:(a==sysModules)=false) (rel:KV kvs vs) (dd:h'.DictOf (aZq P w) a vs) :
    ObjOk P w H' h' a (.dK kvs):=⟨z,hd,vs,rel,dd⟩
end
def w2q (i:Expr):Prop:=∀ ov iv,subscripted i false ov iv=operate [ov,iv] (getItem ov iv)
theorem mKq {prog:Program} {w:World} {A:Around} {E:Value->Shared->Prop} {s:Shared} {env:Env} {value slice:Expr} {pos:Pos} {T id:String} {Q:Value->Shared->Prop}
    (hl:typeLookup (.type T) "__getitem__" = pure (some (.builtin id))) (hs:w2q slice)
    (h:wpAny (model prog w) A (eval value env) (λ o s₁=>wpAny (model prog w) A (eval slice env) (λ i s₂=>s₂.TypeIs o T/\wpAny (model prog w) A (getItem o i) Q E s₂) E s₁) E s) :
    wpAny (model prog w) A (eval (.Subscript value slice pos) env) Q E s:=by
  refine Subscript_ (wpAny_mono h (λ o s₁ h₁=>wpAny_mono h₁ (λ i s₂ h₂=>?_) λ _ _ x=>x) λ _ _ x=>x)
  obtain ⟨hT,h₂⟩:=h₂
  unfold subscriptTail
  refine wpAny_bind ?_
  rw [getitemInPython_of_ne hT.not_modules]
  refine wpAny_bind (wpAny_specialOf hT hl ?_)
  have fin:wpAny (model prog w) A (subscripted slice false o i) (λ r s₃=>wpAny (model prog w) A (letTemporaryGo value o r >>= λ _=>pure r) Q E s₃) E s₂:=by
    rw [hs o i]
    exact wpAny_operating (wpAny_mono h₂ (λ r s₃ h₃=>wpAny_bind (wpAny_letTemporaryGo (wpAny_pure h₃))) λ _ _ x=>x)
  first
    | exact wpAny_pure (wpAny_bind fin)
    | exact wpAny_bind (wpAny_pure (wpAny_bind fin))
    | exact wpAny_bind fin
theorem j7q {X:Cx} {pins:List (Addr × Obj)} {σ:St} {H:Hp} {s:Shared} {a:Addr} {y:V} {o:Option V} (I:Inv X pins σ H s) (g:DGet H a y o):s.TypeIs (.ref a) "dict":=by
  rcases g with ⟨kvs,k,e,_,_⟩ | ⟨kvs,k,b,e,_,_,_⟩
  . obtain ⟨_,_,vs,_,dd⟩:=mIq I.hok e
    exact dd.typeIs
  . obtain ⟨_,_,xs,_,dd⟩:=oMq I.hok e
    exact dd.typeIs
def aD5q (td ty:TE):TE:=λ σ H Q=>td σ H λ x H1=>ty σ H1 λ y H2=>∃ a v,x=.ref a/\DGet H2 a y (some v)/\Q v H2
section
variable {X:Cx} {o i e value:Expr} {pos pos' tpos:Pos} {td ty tv:TE}
theorem sWq (hu:X.A.units+1 < cLine) (ho:PE X o td) (hi:PE X i ty) (hs:w2q i):PE X (.Subscript o i pos) (aD5q td ty):=by
  intro pins s σ H Q I h
  refine mKq PySem.F.slot_dict_getitem.lookup hs (thn (ho pins s σ H _ I h) λ u s1 ⟨x,H1,I1,rx,q1⟩=>thn (hi pins s1 σ H1 _ I1 q1) λ iv s2 ⟨y,H2,I2,ry,a,v,ex,g,q2⟩=>?_)
  subst ex
  obtain rfl:u=Value.ref a:=rx
  exact ⟨j7q I2 g,mRq hu I2 g ry λ w' s3 I3 rw'=>⟨v,H2,I3,rw',q2⟩⟩
end
theorem qJq {P:Program} {w:World} {H:Hp} (h:Heap) (hb:sysModules < h.objs.size):ObjOk P w H (h.push { cls:=.type "dict", data:=.dict #[] }) h.objs.size (.dK []):=
  ⟨Nat.zero_le _,beq_eq_false_iff_ne.mpr (Ne.symm (Nat.ne_of_lt hb)),[],.nil,Heap.DictOf.new h⟩
def x7q:TE:=λ _ H Q=>∀ p,H p=none->Q (.ref p) (upd H p (.dK []))
section
variable {X:Cx} {pos:Pos}
theorem q2q:PE X (.Dict [] [] pos) x7q:=λ pins s σ H Q I h=>
  wpAny_Dict_empty ⟨.ref s.heap.objs.size,_,I.laid (a:=s.heap.objs.size) (o:=.dK []) (t':=s.toks) (λ _ _ q=>Heap.get?_push_of_some _ q) (Nat.le_refl _) (qJq s.heap I.big),rfl,h _ (I.hok.fresh (Nat.le_refl _))⟩
end
structure M2 (X:Cx) (o:Expr) (m:Str) (apos:Pos) (e f:Expr) (cpos:Pos):Prop where
  base:attributeBase o m X.env (eval o X.env)=eval o X.env
  few:((backTo cpos (starEach [e,f] X.env)).all (λ x=>!x.1)&&(backToKw cpos (keywordEach [] X.env)).all (λ x=>x.1.isSome)
   &&decide (([e,f]:List Expr).length+([]:List Keyword).length+(if ([]:List Keyword).isEmpty then 0 else 1) < 30))=true
  line:(apos.endLine==cpos.line)=true
  trees:backTo cpos (starEach [e,f] X.env)=[(false,eval e X.env),(false,eval f X.env)]
def IsD (H:Hp) (a:Addr):Prop:=(∃ kvs,Rd H a (.dK kvs))\/∃ kvs,Rd H a (.dT kvs)
theorem r6q {X:Cx} {pins:List (Addr × Obj)} {σ:St} {H:Hp} {s:Shared} {a:Addr} (I:Inv X pins σ H s) (d:IsD H a) :
    s.TypeIs (.ref a) "dict"/\(∀ b,Value.ref a=.ref b->∃ ob,s.heap.get? b=some ob/\ob.dict=none)/\(a==sysModules)=false:=by
  rcases d with ⟨kvs,e⟩ | ⟨kvs,e⟩
  . obtain ⟨_,hd,vs,_,dd⟩:=mIq I.hok e
    refine ⟨dd.typeIs,λ b q=>?_,hd⟩
    cases q
    obtain ⟨ob,_,_,h1,h2,_⟩:=dd
    exact ⟨ob,h1,h2.2.1⟩
  . obtain ⟨_,hd,xs,_,dd⟩:=oMq I.hok e
    refine ⟨dd.typeIs,λ b q=>?_,hd⟩
    cases q
    obtain ⟨ob,_,_,h1,h2,_⟩:=dd
    exact ⟨ob,h1,h2.2.1⟩
section
variable {X:Cx} {pins:List (Addr × Obj)} {σ:St} {H:Hp} {s:Shared} {a:Addr} {y d:V} {u r:Value} {o:Option V} {A:Around} {E:Value->Shared->Prop}
theorem vNq {Q:Value->Shared->Prop} (hu:A.units+1 < cLine) (I:Inv X pins σ H s) (g:DGet H a y o) (ry:RelV y u) (rd:RelV d r) (h:∀ w' s',Inv X pins σ H s'->RelV (o.getD d) w'->Q w' s') :
    wpAny (model X.prog X.w) A (call (.builtin "dict.get") [.ref a,u,r]) Q E s:=by
  rcases g with ⟨kvs,k,e,ey,l⟩ | ⟨kvs,k,b,e,ey,eb,l⟩
  . subst ey
    obtain ⟨z,hd,vs,rel,dd⟩:=mIq I.hok e
    refine call_meetsIn PySem.F.slot_dict_get dd.typeIs PySem.F.entry_dict_get (PySem.F.args_dict_get_3 _ _ _) (meets_dict_get_default (aZq X.prog X.w) a (qIq ry) hd r) ⟨_,dd.mapOf,h _ _ (I.tok _) ?_⟩
    rw [l]
    exact (rel.val k).getD rd
  . subst ey
    cases (show u=Value.ref b from ry)
    obtain ⟨z,hd,xs,rel,dd⟩:=oMq I.hok e
    refine call_meetsIn PySem.F.slot_dict_get dd.typeIs PySem.F.entry_dict_get (PySem.F.args_dict_get_3 _ _ _) (meetsH_dict_get_default (tupleKind (aZq X.prog X.w)) a b hd r) ⟨tupleKind_room_in1 hu,k,xs,lOq I.hok eb,dd,h _ _ (I.tok _) ?_⟩
    rw [l]
    exact (rel.val k).getD rd
end
def wAq (td ty tx:TE):TE:=λ σ H Q=>td σ H λ x H1=>∃ a,x=.ref a/\IsD H1 a/\ty σ H1 λ y H2=>tx σ H2 λ z H3=>∃ o,DGet H3 a y o/\Q (o.getD z) H3
section
variable {X:Cx} {o e f:Expr} {apos cpos:Pos} {td ty tx:TE}
theorem oOq (hu:X.A.units+1 < cLine) (ho:PE X o td) (he:PE X e ty) (hf:PE X f tx) (m:M2 X o "get" apos e f cpos):PE X (.Call (.Attribute o "get" apos) [e,f] [] cpos) (wAq td ty tx):=by
  intro pins s σ H Q I h
  refine wpAny_Call_method m.base m.few m.line PySem.F.plainAttrs_dict PySem.F.slot_dict_get PySem.F.type_dict_get (thn (ho pins s σ H _ I h) λ u s1 ⟨x,H1,I1,rx,a,ex,d,q1⟩=>?_)
  subst ex
  obtain rfl:u=Value.ref a:=rx
  obtain ⟨t1,t2,_⟩:=r6q I1 d
  refine ⟨t1,t2,?_⟩
  rw [m.trees]
  refine Calls.callWith_builtin rfl (Calls.evalArgs_plain (Calls.spliced_cons (thn (he pins s1 σ H1 _ I1 q1) λ iv s2 ⟨y,H2,I2,ry,q2⟩=>
    Calls.spliced_cons (thn (hf pins s2 σ H2 _ I2 q2) λ fv s3 ⟨z,H3,I3,rz,ov,g,q3⟩=>Calls.spliced_nil ?_))))
  exact vNq hu I3 g ry rz λ w' s4 I4 rw'=>⟨_,H3,I4,rw',q3⟩
end
section
variable {prog:Program} {w:World} {A:Around} {E:Value->Shared->Prop} {s:Shared}
theorem cPq {t sl:Addr} {items:Array Value} {vl vu:Value} {lo hi:Option Int} {Q:Value->Shared->Prop} (ht:IsTup s.heap t items) (hs:s.heap.IsSliceOf sl vl vu .none) (pl:IsPart vl lo) (pu:IsPart vu hi)
    (hw:HT.sIx items.size 0 lo=0/\HT.sIx items.size items.size hi=items.size) (h:Q (.ref t) s):wpAny (model prog w) A (getItem (.ref t) (.ref sl)) Q E s:=by
  obtain ⟨os,hos,hcs,hds⟩:=id hs
  have hTs:s.TypeIs (.ref sl) "slice":=⟨os,hos,hcs⟩
  unfold getItem
  try with_reducible refine wpAny_holding ?_
  first | refine wpAny_bind (wpAny_pure ?_) | skip
  refine wpAny_bind (wpAny_sequenceKey ht.typeIs (by decide) ?_)
  refine wpAny_bind (wpAny_callSpecial?_slot (name:=Str.ofString "__getitem__") ht.typeIs PyProof.Rows.slot_tuple_getitem (wpAny_call_entry PyProof.Rows.slot_tuple_getitem ht.typeIs entry_tuple_getitem ?_ (args_tuple_getitem _ _)))
  show wpAny _ _ (Builtin.Tuple.tupleItemsOf (.ref t) >>= _) _ _ s
  refine wpAny_bind (tupleItemsOf_ ht ?_)
  refine wpAny_bind (wpAny_typeOf hTs ?_)
  rw [if_pos (by decide)]
  refine wpAny_bind (HT.sliceApplied_gen hs pl pu ?_)
  have hyes:(((HT.sIx items.size 0 lo:Nat):Int)==0&&(1:Int)==1&&(HT.sIx items.size items.size hi - HT.sIx items.size 0 lo)==items.size)=true:=by
    rw [hw.1,hw.2];simp
  show wpAny _ _ (if (((HT.sIx items.size 0 lo:Nat):Int)==0&&(1:Int)==1&&(HT.sIx items.size items.size hi - HT.sIx items.size 0 lo)==items.size)=true then _ else _) _ _ s
  rw [if_pos hyes]
  have ex:∀ {Q':Bool->Shared->Prop},Q' true s->wpAny (model prog w) A.in1 (Builtin.Tuple.tupleIsExact (.ref t)) Q' E s:=λ{Q'} q=>by
    unfold Builtin.Tuple.tupleIsExact
    refine wpAny_bind (wpAny_typeOf ht.typeIs (wpAny_pure ?_))
    have e:(Value.type "tuple"==Value.type "tuple")=true:=beq_self_eq_true _
    rw [e];exact q
  first
    | exact wpAny_bind (ex (wpAny_bind (wpAny_rule (wpAny_pure ⟨_,rfl,wpAny_pure h⟩))))
    | (unfold Builtin.Tuple.tupleIsExact
       refine wpAny_bind (wpAny_bind (wpAny_typeOf ht.typeIs (wpAny_pure ?_)))
       have e:(Value.type "tuple"==Value.type "tuple")=true:=beq_self_eq_true _
       rw [e,if_pos rfl]
       first
         | exact wpAny_bind (wpAny_rule (wpAny_pure ⟨_,rfl,wpAny_pure h⟩))
         | exact wpAny_bind (wpAny_rule (wpAny_bind (wpAny_pure (wpAny_pure ⟨_,rfl,wpAny_pure h⟩))))
         | exact wpAny_bind (wpAny_rule (wpAny_bind (wpAny_bind (wpAny_pure (wpAny_pure ⟨_,rfl,wpAny_pure h⟩))))))
end
section
variable {X:Cx}
def aE6q (K:PySem.W.Frag):V->Option Int->Option Int->Hp->VK->Prop:=λ x lo hi H Q=>∃ a xs,x=.ref a/\SqT K H a xs ∧
  ((HT.sIx xs.length 0 lo=0/\HT.sIx xs.length xs.length hi=xs.length)->Q (.ref a) H)/\(¬ (HT.sIx xs.length 0 lo=0/\HT.sIx xs.length xs.length hi=xs.length)->∀ p,H p=none->Q (.ref p) (upd H p (.tup (l0q xs lo hi))))
theorem sLq:SlR X (aE6q X.K):=by
  intro pins s σ H x v vl vu lo hi sl Q I rx hs pl pu h
  obtain ⟨a,xs,rfl,hx,q1,q2⟩:=h
  by_cases hw:HT.sIx xs.length 0 lo=0/\HT.sIx xs.length xs.length hi=xs.length
  . cases rx
    obtain ⟨its,r,ht,hz⟩:=I.tuple hx
    have hlen:its.toArray.size=xs.length:=by rw [List.size_toArray];exact r.length.symm
    refine ⟨"tuple", _,PyProof.Rows.slot_tuple_getitem.lookup,ht.typeIs,?_⟩
    exact cPq ht hs pl pu (by rw [hlen];exact hw) ⟨.ref a,H,I,rfl,q1 hw⟩
  . exact xLq pins s σ H _ v vl vu lo hi sl Q I rx hs pl pu ⟨a,xs,rfl,hx,hw,q2 hw⟩
def zRq (K:PySem.W.Frag):R2:=λ x y H Q=>∃ a b xs ys,x=.ref a/\y=.ref b/\SqT K H a xs/\SqT K H b ys/\xs.length+ys.length<=sizeLine ∧
  (xs=[]->Q (.ref b) H)/\(xs≠[]->ys=[]->Q (.ref a) H)/\(xs≠[]->ys≠[]->∀ p,H p=none->Q (.ref p) (upd H p (.tup (xs++ys))))
theorem op_catW:OpR X (binaryOp .Add) (zRq X.K):=by
  intro pins s σ H x y v u Q I rx ry h
  obtain ⟨a,b,xs,ys,rfl,rfl,ha,hb,hz,q0,q1,q2⟩:=h
  by_cases hx:xs=[]
  . cases rx;cases ry
    obtain ⟨its,r,ht,_⟩:=I.tuple ha
    obtain ⟨its2,r2,ht2,_⟩:=I.tuple hb
    subst hx
    cases r
    obtain ⟨⟨cls,dd,data,sl⟩,ho,hc,n,hd⟩:=id ht
    obtain ⟨⟨cls2,dd2,data2,sl2⟩,ho2,hc2,n2,hd2⟩:=id ht2
    simp only at hc hd hc2 hd2
    subst hc hd hc2 hd2
    refine concat_meets ⟨_,ho,rfl⟩ ⟨_,ho2,rfl⟩ noFill_tuple_add seq_tuple_add PySem.F.slot_tuple_add PySem.F.entry_tuple_add (PySem.F.args_tuple_add_2 _ _) (tuple_addW0 a b _ its2.toArray n n2 dd dd2 sl sl2 (by simp)) ⟨ho,ho2,?_⟩
    exact ⟨.ref b,H,I,rfl,q0 rfl⟩
  . exact sRq pins s σ H _ _ v u Q I rx ry ⟨a,b,xs,ys,rfl,rfl,ha,hb,hx,hz,q1 hx,q2 hx⟩
structure KTab (K:PySem.W.Frag) (w:World) (ad:Addr) (tab:Str->Option V):Prop where
  ex:∃ (es:Array DictEntry) (n:Nat),K.lookup ad=some ⟨.type "dict", none,.dict es n,#[]⟩/\PySem.W.KeysLit w.params es.toList/\∀ x,RelO (tab x) (findBy Value.isStrOf es x)
  low:(ad==sysModules)=false
end
section
variable {X:Cx}
def aD9q (K:PySem.W.Frag):V->Option Int->Option Int->Hp->VK->Prop:=λ x lo hi H Q=>∃ a xs,x=.ref a/\SqT K H a xs/\∀ t H2,Same H H2->SqT K H2 t (l0q xs lo hi)->Q (.ref t) H2
theorem pQq {xs:List V} {lo hi:Option Int} (h:HT.sIx xs.length 0 lo=0/\HT.sIx xs.length xs.length hi=xs.length):l0q xs lo hi=xs:=by
  unfold l0q
  rw [h.1,h.2,List.drop_zero,Nat.sub_zero,List.take_length]
theorem sl_tupU:SlR X (aD9q X.K):=by
  intro pins s σ H x v vl vu lo hi sl Q I rx hs pl pu h
  obtain ⟨a,xs,rfl,hx,q⟩:=h
  refine sLq pins s σ H _ v vl vu lo hi sl Q I rx hs pl pu ⟨a,xs,rfl,hx,λ w=>q a H (Same.refl _) (by rw [pQq w];exact hx),λ _ p hp=>q p _ (λ b u e=>by rw [aHq (aIq e hp)];exact e) (SqT.of aNq)⟩
end
structure JE (X:Cx) (e:Expr) (t:TE):Prop where
  run:PE X e t
structure JT (X:Cx) (e:Expr) (t:TT):Prop where
  run:PT X e t
structure JW (X:Cx) (e:Expr) (t:TT):Prop where
  run:PW X e t
structure JA (X:Cx) (es:List Expr) (t:TA):Prop where
  run:PA X es t
structure JS (X:Cx) (st:Stmt) (t:TS):Prop where
  run:PS X st t
structure JB (X:Cx) (st:List Stmt) (t:TS):Prop where
  run:PSs X st t
structure JG (X:Cx) (e:Expr) (t:TG):Prop where
  run:PG X e t
structure JGs (X:Cx) (es:List Expr) (t:TGs):Prop where
  run:PGs X es t
structure JI (X:Cx) (tg iter:Expr) (wi:TI):Prop where
  run:PI X tg iter wi
structure JO (X:Cx) (e:Option Expr) (t:TO):Prop where
  run:PO X e t
structure JOp (X:Cx) (f:Value->Value->Sem Value) (r:R2):Prop where
  run:OpR X f r
structure JUn (X:Cx) (f:Value->Sem Value) (r:V->Hp->VK->Prop):Prop where
  run:UnR X f r
structure JCall (X:Cx) (f:Value) (r:List V->Hp->VK->Prop):Prop where
  run:CallR X f r
structure JIx (X:Cx) (r:R2):Prop where
  run:IxR X r
structure JSl (X:Cx) (r:V->Option Int->Option Int->Hp->VK->Prop):Prop where
  run:SlR X r
structure JMt (X:Cx) (id:String) (r:V->List V->Hp->VK->Prop):Prop where
  run:MtR X id r
structure JIp (X:Cx) (op:Operator) (t:TIp):Prop where
  run:PIp X op t
structure JSet (X:Cx) (t:uIq):Prop where
  run:yUq X t
section
variable {X:Cx} {a b c e o i:Expr} {es:List Expr} {ta tb te to ti:TE} {t tr:TA} {pos p apos cpos:Pos}
theorem y0q {n:Int} {j}:JE X (.Constant (.int n) j pos) (tC (.int n)):=⟨uNq⟩
theorem zPq {n:Bool} {j}:JE X (.Constant (.bool n) j pos) (tC (.bl n)):=⟨aC1q⟩
theorem yJq {j}:JE X (.Constant .none j pos) (tC .non):=⟨xYq⟩
theorem xUq {x:Str} {j}:JE X (.Constant (.str x) j pos) (tC (.str x)):=⟨y7q⟩
theorem jv (k:Nat) {x:Str} (hN:X.N[k]?=some x:=by rfl) (hv:Vis X.env.scope x:=by first | exact Or.inl rfl | exact Or.inr (Or.inl rfl) | exact Or.inr (Or.inr rfl)) (hd:(x==("__debug__" : Str))=false:=by decide)
    (hcd:(x==("__classdict__" : Str))=false:=by decide):JE X (.Name x pos) (tVar k):=⟨rKq hN hv hd hcd⟩
theorem sUq {x:Str} {v:V} {u:Value} (hg:Gl X x) (hm:X.mg x=none) (hv:bootBuiltins x=some u) (r:RelV v u) (hn:x≠"__name__":=by decide) (hd:(x==("__debug__" : Str))=false:=by decide):JE X (.Name x pos) (tC v):=⟨tQq hg hm hv r hn hd⟩
theorem tDq {x:Str} {v:V} {u:Value} (hg:Gl X x) (hm:X.mg x=some u) (r:RelV v u) (hd:(x==("__debug__" : Str))=false:=by decide):JE X (.Name x pos) (tC v):=⟨fTq hg hm r hd⟩
theorem xAq:JA X [] z7q:=⟨w0q⟩
theorem sOq (ha:JE X e te) (hr:JA X es t) (hs:aXq e=true:=by rfl):JA X (e::es) (uUq te t):=⟨tWq ha.run hr.run (aEq hs)⟩
theorem uMq {x1} (h:JA X es t):JE X (.Tuple es x1 pos) (tTup t):=⟨wKq h.run⟩
theorem rOq (h:JA X es t):JE X (.List es pos) (tLst t):=⟨xXq h.run⟩
theorem zAq {op:Operator} {r:R2} (ho:JOp X (binaryOp op) r) (ha:JE X a ta) (hb:JE X b tb):JE X (.BinOp a op b pos) (tOp r ta tb):=⟨z4q ho.run ha.run hb.run⟩
theorem aB4q {op:UnaryOp} {r:V->Hp->VK->Prop} (ho:JUn X (unaryOp op) r) (ha:JE X a ta):JE X (.UnaryOp op a pos) (tUn r ta):=⟨aD7q ho.run ha.run⟩
theorem y5q (ha:JE X a ta):JE X (.UnaryOp .Not a pos) (wJq ta):=⟨xNq ha.run⟩
theorem sHq {op:CmpOp} {r:R2} (ho:JOp X (compareOp op) r) (ha:JE X a ta) (hb:JE X b tb) (hm:behindInMarks op b=false):JE X (.Compare a [op] [b] pos) (tOp r ta tb):=⟨sSq ho.run ha.run hb.run hm⟩
theorem yEq {op} (h:JE X a ta):JE X (.BoolOp op [a] pos) ta:=⟨vIq h.run⟩
theorem w1q {rest:List Expr} (ha:JE X a ta) (hb:JE X (.BoolOp .And (b::rest) pos) tb):JE X (.BoolOp .And (a::b::rest) pos) (vMq ta tb):=⟨v9q ha.run hb.run⟩
theorem aE8q {rest:List Expr} (ha:JE X a ta) (hb:JE X (.BoolOp .Or (b::rest) pos) tb):JE X (.BoolOp .Or (a::b::rest) pos) (tOrV ta tb):=⟨aC8q ha.run hb.run⟩
theorem pJq {tc:TT} (hc:JT X c tc) (ha:JE X a ta) (hb:JE X b tb):JE X (.IfExp c a b pos) (tIf tc ta tb):=⟨q6q hc.run ha.run hb.run⟩
theorem sQq:JO X none nRq:=⟨tLq⟩
theorem sMq (h:JE X e te):JO X (some e) (y4q te):=⟨tXq h.run⟩
theorem pIq {r:V->Option Int->Option Int->Hp->VK->Prop} {lo hi:Option Expr} {tl th:TO} {p2:Pos} (hr:JSl X r) (he:JE X e te) (hl:JO X lo tl) (hu:JO X hi th):JE X (.Subscript e (.Slice lo hi none p2) pos) (tSl r te tl th):=⟨pPq hr.run he.run hl.run hu.run⟩
theorem xRq {r:R2} (hr:JIx X r) (ha:JE X a ta) (hb:JE X b tb) (hs:gLq b):JE X (.Subscript a b pos) (tOp r ta tb):=⟨yWq hr.run ha.run hb.run hs⟩
theorem bIq {es:List Expr} {env:Env} (h:es.all aXq=true):(backTo pos (starEach es env)).any (·.1)=false:=by
  induction es with
  | nil=>rfl
  | cons x r ih=>
    rw [List.all_cons,Bool.and_eq_true] at h
    rw [aEq h.1]
    exact ih h.2
theorem zDq {k j:Nat} {x:Str} {ps:List Str} {sp:Sp} (G:Got X.prog X.w X.K X.mg X.base k x ps sp) (hr:Room j X.A) (hk:k<=j) (hg:Gl X x) (ha:JA X (e::es) t) (hdb:(x==("__debug__" : Str))=false:=by decide)
    (hs:(e::es).all aXq=true:=by rfl):JE X (.Call (.Name x p) (e::es) [] pos) (pNq sp [] E0 t):=by
  have h:=hs
  rw [List.all_cons,Bool.and_eq_true] at h
  exact ⟨zCq G hr hk hg ha.run hdb (aEq h.1) (bIq h.2)⟩
theorem oBq {x:Str} {id:String} {r:List V->Hp->VK->Prop} (hc:JCall X (.builtin id) r) (hg:Gl X x) (hm:X.mg x=none) (hv:bootBuiltins x=some (.builtin id)) (ha:JA X (e::es) t) (hn:x≠"__name__":=by decide) (hdb:(x==("__debug__" : Str))=false:=by decide)
    (hs:(e::es).all aXq=true:=by rfl):JE X (.Call (.Name x p) (e::es) [] pos) (tCB r t):=by
  have h:=hs
  rw [List.all_cons,Bool.and_eq_true] at h
  exact ⟨pKq hc.run hg hm hv ha.run hn hdb (aEq h.1) (bIq h.2)⟩
theorem nCq {x:Str} {T:String} {r:List V->Hp->VK->Prop} (hc:JCall X (.type T) r) (hg:Gl X x) (hm:X.mg x=none) (hv:bootBuiltins x=some (.type T)) (ha:JA X (e::es) t) (hn:x≠"__name__":=by decide) (hdb:(x==("__debug__" : Str))=false:=by decide)
    (hs:(e::es).all aXq=true:=by rfl):JE X (.Call (.Name x p) (e::es) [] pos) (tCB r t):=by
  have h:=hs
  rw [List.all_cons,Bool.and_eq_true] at h
  exact ⟨nVq hc.run hg hm hv ha.run hn hdb (aEq h.1) (bIq h.2)⟩
theorem zWq {name:Str} {T id:String} {r:V->List V->Hp->VK->Prop} (pa:PlainAttrs T) (slot:Slot T name id) (hty:typeOf (.builtin id)=pure (.type "method_descriptor")) (hm:JMt X id r) (ho:JE X o to) (ha:JA X [e] t)
    (hbase:attributeBase o name X.env (eval o X.env)=eval o X.env:=by rfl) (hline:(apos.endLine==cpos.line)=true:=by rfl) (hs:aXq e=true:=by rfl):JE X (.Call (.Attribute o name apos) [e] [] cpos) (tBM X.K T r to t):=
  ⟨aE7q pa slot hty hm.run ho.run ha.run hbase (by rw [aEq hs];rfl) hline (aEq hs) rfl⟩
theorem x0q {name:Str} {T id:String} {r:V->List V->Hp->VK->Prop} (pa:PlainAttrs T) (slot:Slot T name id) (hty:typeOf (.builtin id)=pure (.type "method_descriptor")) (hm:JMt X id r) (ho:JE X o to)
    (hbase:attributeBase o name X.env (eval o X.env)=eval o X.env:=by rfl) (hline:(apos.endLine==cpos.line)=true:=by rfl):JE X (.Call (.Attribute o name apos) [] [] cpos) (tBM0 X.K T r to):=⟨wCq pa slot hty hm.run ho.run hbase hline⟩
theorem u3q {op:CmpOp} {r:R2} (ho:JOp X (compareOp op) r) (ha:JE X a ta) (hb:JE X b tb) (hm:behindInMarks op b=false):JT X (.Compare a [op] [b] pos) (rXq (tOp r ta tb)):=⟨tCq ho.run ha.run hb.run hm⟩
theorem x6q {tc:TT} (ha:JT X a tc):JT X (.UnaryOp .Not a pos) (tNot tc):=⟨vZq ha.run⟩
theorem oNq (ha:JE X a ta) (he:∀ whole,isTrue a X.env whole=(do let v ← whole;standAt a.pos;holding [v] (truthy v))):JT X a (λ σ H Q=>ta σ H λ x H'=>∃ k,TruV X.K x H' k/\Q k H'):=⟨pFq ha.run he⟩
theorem tPq {tA:TT} (ha:JT X a tA):JW X (.BoolOp .And [a] pos) tA:=⟨tBq ha.run⟩
theorem v3q {tA:TT} (ha:JT X a tA):JW X (.BoolOp .Or [a] pos) tA:=⟨yCq ha.run⟩
theorem vRq {tA tB':TT} {rest:List Expr} (ha:JT X a tA) (hb:JW X (.BoolOp .And (b::rest) pos) tB'):JW X (.BoolOp .And (a::b::rest) pos) (tAnd tA tB'):=⟨wLq ha.run hb.run⟩
theorem zUq {tA tB':TT} {rest:List Expr} (ha:JT X a tA) (hb:JW X (.BoolOp .Or (b::rest) pos) tB'):JW X (.BoolOp .Or (a::b::rest) pos) (tOr tA tB'):=⟨aB9q ha.run hb.run⟩
theorem JW.pt {tA:TT} (h:JW X e tA):JT X e tA:=⟨PW.pt h.run⟩
theorem s0q {k:Nat} {x:Str} (hN:X.N.Nodup) (hi:X.N[k]?=some x) (hx:Loc X.env.scope x) (hf:X.fn x=true\/X.env.scope.names.lookup x=some .local:=by first | exact .inl rfl | exact .inr rfl | assumption):JG X (.Name x pos) (pBq k):=⟨tSq hN hi hx hf⟩
theorem sEq:JGs X [] gNil:=⟨sXq⟩
theorem o9q {tg:TG} {u:TGs} (h1:JG X e tg) (h2:JGs X es u) (hs:(assignEach (e::es) X.env).map (·.2)=assign e X.env::(assignEach es X.env).map (·.2):=by rfl):JGs X (e::es) (wSq tg u):=⟨oRq h1.run h2.run hs⟩
theorem vGq {k n:Nat} {tg:TGs} (hc:X.calm=true) (h:JGs X es tg) (hn:(assignEach es X.env).length=n:=by rfl) (hst:(assignEach es X.env).findIdx? (·.1)=none:=by rfl):JG X (.Tuple es k pos) (gTup X.K n tg):=⟨x5q hc h.run hn hst⟩
theorem wHq {tset:uIq} (ho:JE X o to) (hi:JE X i ti) (hs:JSet X tset) (ha:∀ v,assign (.Subscript o i pos) X.env v=(do
      let ov ← holding [v] (eval o X.env)
      let iv ← holding [v,ov] (eval i X.env)
      standAt pos
      holding [v,ov,iv] (setItem ov iv v)
      release [v,ov,iv] []):=by intro _;rfl):JG X (.Subscript o i pos) (gSub to ti tset):=⟨uRq ho.run hi.run hs.run ha⟩
theorem mLq {tg:Expr} (hg:Gl X "range") (hm:X.mg "range" = none) (ha:JA X [a] t) (hs:aXq a=true:=by rfl):JI X tg (.Call (.Name "range" p) [a] [] pos) (vQq t):=⟨n9q hg hm ha.run (aEq hs)⟩
theorem xGq:JB X [] uZq:=⟨s8q⟩
theorem sYq {st:Stmt} {rest:List Stmt} {ts us:TS} (h1:JS X st ts) (h2:JB X rest us):JB X (st::rest) (tSeq ts us):=⟨p8q h1.run h2.run⟩
theorem wZq {st:Stmt} {ts:TS} (h1:JS X st ts):JB X [st] ts:=⟨tYq h1.run⟩
theorem tAq (he:JE X e te) (hs:swapsWith e none pos.line X.env=pure false:=by rfl):JS X (.Expr e pos) (xIq te):=⟨t5q he.run hs⟩
theorem xKq (he:JE X e te):JS X (.Return (some e) pos) (tRet te):=⟨wOq he.run⟩
theorem uCq:JS X (.Return none pos) vDq:=⟨t1q⟩
theorem z1q {ss us:List Stmt} {tc:TT} {ts tu:TS} (hc:JT X c tc) (ha:JB X ss ts) (hb:JB X us tu):JS X (.If c ss us pos) (tIfS tc ts tu):=⟨z8q hc.run ha.run hb.run⟩
theorem wGq {k:Nat} {x:Str} {pos':Pos} (hN:X.N.Nodup) (hi:X.N[k]?=some x) (hx:Loc X.env.scope x) (he:JE X e te) (hs:swapsWith e (some (.Name x pos')) pos.line X.env=pure false:=by rfl) (hf:X.fn x=true\/X.env.scope.names.lookup x=some .local:=by first | exact .inl rfl | exact .inr rfl | assumption) :
    JS X (.Assign [.Name x pos'] e pos) (vTq te (pBq k)):=⟨uJq hN hi hx he.run hs hf⟩
theorem yGq {tg:Expr} {g:TG} (he:JE X e te) (hg:JG X tg g) (hs:swapsWithSole [tg] e pos.line X.env=pure false:=by rfl) (hw:swappedStores [tg] e X.env=pure none:=by rfl) (h1:(assignEach [tg] X.env).map (·.2)=[assign tg X.env]:=by rfl):JS X (.Assign [tg] e pos) (vTq te g):=⟨uYq he.run hg.run hs hw h1⟩
theorem y1q {k:Nat} {x:Str} {op:Operator} {tip:TIp} {pos':Pos} (hN:X.N.Nodup) (hi:X.N[k]?=some x) (hx:Loc X.env.scope x) (he:JE X e te) (ho:JIp X op tip) (hf:X.fn x=true\/X.env.scope.names.lookup x=some .local:=by first | exact .inl rfl | exact .inr rfl | assumption) :
    JS X (.AugAssign (.Name x pos') op e pos) (tAug k te tip):=⟨xBq hN hi hx he.run ho.run hf⟩
theorem oGq {body:List Stmt} {tc:TT} {tb':TS} (hp:PassesOwn (model X.prog X.w) X.A X.env X.xe) (hc:JT X c tc) (hb:JB X body tb'):JS X (.While c body [] pos) (rFq tc tb'):=⟨oHq hp hc.run hb.run⟩
theorem uSq {tg iter:Expr} {body:List Stmt} {wi:TI} {g:TG} {tb':TS} (hp:PassesOwn (model X.prog X.w) X.A X.env X.xe) (hc:X.calm=true) (hi:JI X tg iter wi) (hg:JG X tg g) (hb:JB X body tb') (hs:∀ x,foldedSetIterable iter X.env x=pure x:=by intro _;rfl) :
    JS X (.For tg iter body [] pos) (tFor wi g tb'):=⟨x1q hp hc hi.run hg.run hb.run hs⟩
theorem sGq {scope:Scope} {N':List Str} {nt:Nat} {cap:List Nat} {elt iter tg:Expr} {wi:TI} {g:TG} (hc:X.calm=true) (ok:CompOk X scope N' nt cap) (hi:JI X tg iter wi) (hg:∀ C ex s H,JG (aRq X scope N' C ex s H) tg g) (he:∀ C ex s H,JE (aRq X scope N' C ex s H) elt te)
    (hs:∀ x,foldedSetIterable iter X.env x=pure x:=by intro _;rfl):JE X (.ListComp elt [⟨tg,iter,[],0⟩] scope pos) (tRq wi g te nt cap):=⟨tHq hc ok hi.run (λ C ex s H=>(hg C ex s H).run) (λ C ex s H=>(he C ex s H).run) hs⟩
theorem l8q {ct:Expr} {tc:TT} {scope:Scope} {N':List Str} {nt:Nat} {cap:List Nat} {elt iter tg:Expr} {wi:TI} {g:TG} (hc:X.calm=true) (ok:CompOk X scope N' nt cap) (hi:JI X tg iter wi) (hg:∀ C ex s H,JG (aRq X scope N' C ex s H) tg g)
    (ht:∀ C ex s H,JT (aRq X scope N' C ex s H) ct tc) (he:∀ C ex s H,JE (aRq X scope N' C ex s H) elt te) (hs:∀ x,foldedSetIterable iter X.env x=pure x:=by intro _;rfl):JE X (.ListComp elt [⟨tg,iter,[ct],0⟩] scope pos) (iEq wi g tc te nt cap):=
  ⟨nIq hc ok hi.run (λ C ex s H=>(hg C ex s H).run) (λ C ex s H=>(ht C ex s H).run) (λ C ex s H=>(he C ex s H).run) hs⟩
end
theorem Fun.okJ {P:Program} {w:World} {K:PySem.W.Frag} {mg:Str->Option Value} {base:Heap} {x qual:Str} {st:Stmt} {f:Addr} {fd:FuncData} {N ps:List Str} {k:Nat} {sp:Sp} (F:Fun K x qual st f fd) (S:FnScope N ps (a5q st)) (len:∀ vs H Q E,sp vs H Q E->vs.length=ps.length)
    (hbody:∀ (cdv:Value) (A:Around) (outer:List Env) (s:Shared) (H:Hp) (vs:List V) (Q:VK) (E:XK),Room k (A.deeper (envOfC qual (a5q st) s.heap.objs.size f cdv))->sp vs H Q E →
      ∃ t,JB (kZq CX0 P w K mg base N qual (a5q st) f cdv A outer s H E).nox (b0q st) t/\t { nx:=λ _ H'=>Q .non H',rt:=Q } (c2q N vs) H):FnOk P w K mg base CX0 (k+1) f fd ps sp:=
  F.ok S len λ cdv A outer s H vs Q E hr h=>let ⟨t,j,q⟩:=hbody cdv A outer s H vs Q E hr h;⟨t,j.run,q⟩
structure FnV (P:Program) (w:World) (K:PySem.W.Frag) (mg:Str->Option Value) (base:Heap) (k:Nat) (f:Addr) (sp:Sp):Prop where
  ex:∃ (fd:FuncData) (ps:List Str),FnOk P w K mg base CX0 k f fd ps sp/\PySem.W.keepIn K (.ref f)=true/\Binds K fd ps []
theorem Got.fnV {P:Program} {w:World} {K:PySem.W.Frag} {mg:Str->Option Value} {base:Heap} {k:Nat} {x:Str} {ps:List Str} {sp:Sp} (G:Got P w K mg base k x ps sp):∃ f,mg x=some (.ref f)/\FnV P w K mg base k f sp:=by
  obtain ⟨f,fd,F,hm,kp,b⟩:=G.ex
  exact ⟨f,hm,fd,ps,F,kp,b⟩
def rDq (i:Nat) (f:Addr) (sp:Sp) (t:TA):TE:=λ σ H Q=>σ[i]?=some (some (.ref f))/\pNq sp [] E0 t σ H Q
section
variable {X:Cx} {k j:Nat} {f:Addr} {x:Str} {sp:Sp} {p pos:Pos} {e:Expr} {es:List Expr} {t:TA}
theorem zKq {i:Nat} (G:FnV X.prog X.w X.K X.mg X.base k f sp) (hr:Room j X.A) (hk:k<=j) (hN:X.N[i]?=some x) (hv:Vis X.env.scope x) (ha:PA X (e::es) t) (hd:(x==("__debug__" : Str))=false) (hcd:(x==("__classdict__" : Str))=false)
    (he:starEach (e::es) X.env=(false,eval e X.env)::starEach es X.env) (hpl:(backTo pos (starEach es X.env)).any (·.1)=false) :
    PE X (.Call (.Name x p) (e::es) [] pos) (rDq i f sp t):=by
  intro pins s σ H Q I h
  obtain ⟨e1,h⟩:=h
  obtain ⟨fd,ps,F,kp,b⟩:=G.ex
  refine wpAny_Call_Name_kw (thn (rKq (pos:=p) hN hv hd hcd pins s σ H (λ v H1=>v=.ref f/\H1=H) I ⟨_,e1,rfl,rfl⟩) λ u s1 ⟨v,H1,I1,r1,ev,eH⟩=>?_)
  subst ev eH
  obtain rfl:u=Value.ref f:=r1
  refine PySem.W.callWith_K (h₀:=X.base) I.ok.mod.kin kp (thn (ha pos pins s1 σ H1 _ I1 h) λ us s2 ⟨vs,H2,I2,r,q⟩=>⟨I2.kIn,?_⟩) he hpl
  exact mTq F (hr.mono hk) b .nil p9q I2 r q
theorem aB7q (i:Nat) (G:FnV X.prog X.w X.K X.mg X.base k f sp) (hr:Room j X.A) (hk:k<=j) (ha:JA X (e::es) t) (hN:X.N[i]?=some x:=by rfl) (hv:Vis X.env.scope x:=by first | exact Or.inl rfl | exact Or.inr (Or.inl rfl) | exact Or.inr (Or.inr rfl))
    (hd:(x==("__debug__" : Str))=false:=by decide) (hcd:(x==("__classdict__" : Str))=false:=by decide) (hs:(e::es).all aXq=true:=by rfl):JE X (.Call (.Name x p) (e::es) [] pos) (rDq i f sp t):=by
  have h:=hs
  rw [List.all_cons,Bool.and_eq_true] at h
  exact ⟨zKq G hr hk hN hv ha.run hd hcd (aEq h.1) (bIq h.2)⟩
end
end L2
namespace KRv
open PySem PyProof.Rows
theorem own:Manifest.owners.lookup (String.ofList ['d', 'e', 's', 'r', 'e', 'v', 'e', 'r'].reverse)=some Manifest.sig_reversed:=by kernel_rfl
theorem sNext:Slot "reversed" "__next__" "reversed.__next__":=.of (owner:="reversed") (n:="__next__") (by rw [typeLookup_type,builtinLookup_eq_fast];kernel_rfl) (by decide +kernel) (by decide +kernel) (by decide +kernel) (by first | exact .inl (by decide +kernel) | exact .inr (by decide +kernel)) (by rw [isSubtype_type];kernel_rfl)
theorem x4q:Slot "reversed" "__iter__" "reversed.__iter__":=.of (owner:="reversed") (n:="__iter__") (by rw [typeLookup_type,builtinLookup_eq_fast];kernel_rfl) (by decide +kernel) (by decide +kernel) (by decide +kernel) (by first | exact .inl (by decide +kernel) | exact .inr (by decide +kernel)) (by rw [isSubtype_type];kernel_rfl)
theorem sHint:Slot "reversed" "__length_hint__" "reversed.__length_hint__":=.of (owner:="reversed") (n:="__length_hint__") (by rw [typeLookup_type,builtinLookup_eq_fast];kernel_rfl) (by decide +kernel) (by decide +kernel) (by decide +kernel) (by first | exact .inl (by decide +kernel) | exact .inr (by decide +kernel)) (by rw [isSubtype_type];kernel_rfl)
theorem aA2q:Slot "reversed" "__init__" "object.__init__":=.of (owner:="object") (n:="__init__") (by rw [typeLookup_type,builtinLookup_eq_fast];kernel_rfl) (by decide +kernel) (by decide +kernel) (by decide +kernel) (by first | exact .inl (by decide +kernel) | exact .inr (by decide +kernel)) (by rw [isSubtype_type];kernel_rfl)
theorem uXq:entryFor table "reversed.__next__" = some Builtin.«reversed.__next__»:=entryFor_of_tree (by kernel_rfl)
theorem zLq:entryFor table "reversed.__length_hint__" = some Builtin.«reversed.__length_hint__»:=entryFor_of_tree (by kernel_rfl)
theorem aA8q:entryFor table "reversed.__iter__" = some Builtin.«dict_keyiterator.__iter__»:=entryFor_alias (id':="dict_keyiterator.__iter__") (by kernel_rfl) (by first | rfl | decide +kernel | (unfold String.splitOn;simp +decide [String.splitOnAux])) (by decide +kernel) (by kernel_rfl)
theorem x2q (a:Value):argsOk "reversed.__next__" ⟨[a],[]⟩:=by unfold argsOk;rw [signature?_of (id:="reversed.__next__") (n:=['_', '_', 't', 'x', 'e', 'n', '_', '_']) (o:=['d', 'e', 's', 'r', 'e', 'v', 'e', 'r']) (by kernel_rfl) own];kernel_rfl
theorem z3q (a:Value):argsOk "reversed.__iter__" ⟨[a],[]⟩:=by unfold argsOk;rw [signature?_of (id:="reversed.__iter__") (n:=['_', '_', 'r', 'e', 't', 'i', '_', '_']) (o:=['d', 'e', 's', 'r', 'e', 'v', 'e', 'r']) (by kernel_rfl) own];kernel_rfl
theorem aA4q (a:Value):argsOk "reversed.__length_hint__" ⟨[a],[]⟩:=by unfold argsOk;rw [signature?_of (id:="reversed.__length_hint__") (n:=['_', '_', 't', 'n', 'i', 'h', '_', 'h', 't', 'g', 'n', 'e', 'l', '_', '_']) (o:=['d', 'e', 's', 'r', 'e', 'v', 'e', 'r']) (by kernel_rfl) own];kernel_rfl
theorem uHq:TypeCalled "reversed" "reversed.__new__" "object.__init__":=⟨by decide +kernel,by decide +kernel,⟨_,_,F.mro_reversed⟩,F.made_reversed,by decide +kernel,by rw [isSubtype_type];kernel_rfl,aA2q⟩
theorem aA9q:typeLookup (.type "reversed") "__len__" = pure none:=by rw [typeLookup_type,builtinLookup_eq_fast];kernel_rfl
theorem wQq:typeLookup (.type "list_reverseiterator") "__len__" = pure none:=by rw [typeLookup_type,builtinLookup_eq_fast];kernel_rfl
theorem aA6q:typeLookup (.type "list_reverseiterator") "__length_hint__" = pure (some (.builtin "list_reverseiterator.__length_hint__")):=by rw [typeLookup_type,builtinLookup_eq_fast];kernel_rfl
theorem aA5q:typeLookup (.type "tuple") "__reversed__" = pure none:=by rw [typeLookup_type,builtinLookup_eq_fast];kernel_rfl
theorem wFq:isSubtype (.type "tuple") (.type "dict")=pure false:=by rw [isSubtype_type];kernel_rfl
abbrev IsRev (h:Heap) (it t:Addr) (k:Int):Prop:=h.get? it=some { cls:=.type "reversed", dict:=none,data:=.fields #[.ref t,rawInt k],slots:=#[] }
section
variable {prog:Program} {w:World} {A:Around} {E:Value->Shared->Prop} {s:Shared} {it t:Addr}
theorem aC4q {α:Type} {Q:α->Shared->Prop} (hh:A.handled=none) (h:∀ h' e,(∀ b o,s.heap.get? b=some o->h'.get? b=some o)->Shared.TypeIs { s with heap:=h' } (.ref e) "StopIteration"->E (.ref e) { s with heap:=h' }):wpAny (model prog w) A (Builtin.SmallTypes.stopIteration:Sem α) Q E s:=by
  unfold Builtin.SmallTypes.stopIteration
  refine wpAny_bind ?_
  unfold newExc newTuple
  refine wpAny_bind (wpAny_newObj_type ?_ (by size_fits))
  rw [show firstArgMember (.type "StopIteration") []=pure Value.none from by unfold firstArgMember;rfl,pure_bind]
  refine wpAny_newObj_type ?_ (by size_fits)
  unfold raiseNew
  refine wpAny_bind (wpAny_handled ?_)
  rw [hh]
  exact wpAny_throw (h _ _ (λ b o e=>Heap.get?_push_of_some _ (Heap.get?_push_of_some _ e)) ⟨_,Heap.get?_push_size _ rfl,rfl⟩)
theorem aC5q {k:Int} {Q:Value->Shared->Prop} (hit:IsRev s.heap it t k) (h:Q (.ref it) s):wpAny (model prog w) A (pyIter (.ref it)) Q E s:=
  have hT:s.TypeIs (.ref it) "reversed":=⟨_,hit,rfl⟩
  wpAny_pyIter_slot hT x4q (wpAny_call_entry x4q hT aA8q (wpAny_pure ⟨_,rfl,"reversed", _,hT,sNext.lookup,h⟩) (z3q _))
theorem aD0q {k:Nat} {items:Array Value} {x:Value} {Q:Option Value->Shared->Prop} (hit:IsRev s.heap it t k) (ht:IsTup s.heap t items) (hx:items[k]?=some x) (hk:(k:Int) < 2 ^ 63)
    (hQ:∀ h' tk,IsRev h' it t ((k:Int) - 1)->Heap.SameBut it s.heap h'->Q (some x) { s with heap:=h',toks:=tk }):wpAny (model prog w) A (pyNext (.ref it)) Q E s:=by
  have hT:s.TypeIs (.ref it) "reversed":=⟨_,hit,rfl⟩
  have hlt:k < items.size:=(Array.getElem?_eq_some_iff.mp hx).1
  unfold pyNext
  refine wpAny_bind (wpAny_attempt (wpAny_callSpecial?_slot hT sNext (wpAny_call_entry sNext hT uXq ?_ (x2q _))))
  refine (show wpAny (model prog w) A.in1 (field (.ref it) 0 >>= _) _ _ s from wpAny_bind (wpAny_field hit rfl (x:=.ref t) rfl ?_))
  refine (show wpAny (model prog w) A.in1 (field (.ref it) 1 >>= _) _ _ s from wpAny_bind (wpAny_field hit rfl (x:=rawInt k) rfl ?_))
  refine (show wpAny (model prog w) A.in1 (if (k:Int) < 0 then _ else _) _ _ s from ?_)
  rw [if_neg (by omega)]
  refine wpAny_bind (wpAny_specialOf ht.typeIs slot_tuple_getitem.lookup ?_)
  rw [if_neg (by simp)]
  refine (show wpAny (model prog w) A.in1 (mkInt k >>= _) _ _ s from wpAny_bind (wpAny_mkInt ?_))
  refine wpAny_bind (wpAny_attempt (getItem_tuple (j:=k) (x:=x) (s:={ s with toks:=s.toks+1 }) ht (by omega) hk (by simp [seqIndex?];omega) hx ?_))
  refine (show wpAny (model prog w) A.in1 (field (.ref it) 1 >>= _) _ _ _ from wpAny_bind (wpAny_field hit rfl (x:=rawInt k) rfl ?_))
  exact wpAny_bind (wpAny_setField hit rfl (by simp) (wpAny_pure ⟨x,rfl,wpAny_pure (hQ _ _ (Heap.get?_update_self _ hit rfl) (Heap.SameBut.update ..))⟩))
theorem endT {k:Int} {Q:Option Value->Shared->Prop} (hh:A.handled=none) (hit:IsRev s.heap it t k) (hk:k < 0) (hQ:∀ h',Heap.ExtBut it s.heap h'->Q none { s with heap:=h' }):wpAny (model prog w) A (pyNext (.ref it)) Q E s:=by
  have hT:s.TypeIs (.ref it) "reversed":=⟨_,hit,rfl⟩
  unfold pyNext
  refine wpAny_bind (wpAny_attempt (wpAny_callSpecial?_slot hT sNext (wpAny_call_entry sNext hT uXq ?_ (x2q _))))
  refine (show wpAny (model prog w) A.in1 (field (.ref it) 0 >>= _) _ _ s from wpAny_bind (wpAny_field hit rfl (x:=.ref t) rfl ?_))
  refine (show wpAny (model prog w) A.in1 (field (.ref it) 1 >>= _) _ _ s from wpAny_bind (wpAny_field hit rfl (x:=rawInt k) rfl ?_))
  refine (show wpAny (model prog w) A.in1 (if k < 0 then _ else _) _ _ s from ?_)
  rw [if_pos hk]
  refine wpAny_bind (wpAny_rule (wpAny_bind ?_))
  refine (show wpAny (model prog w) A.in1 (setField (.ref it) 1 (rawInt (-1)) >>= λ _=>setField (.ref it) 0 .none) _ _ s from wpAny_bind (wpAny_setField hit rfl (by simp) ?_))
  refine wpAny_setField (Heap.get?_update_self (Obj.mapFields (·.setIfInBounds 1 (rawInt (-1)))) hit rfl) rfl (by simp) ?_
  refine wpAny_bind (aC4q (A:=A.in1) hh λ h' e kk hs=>?_)
  refine wpAny_bind (wpAny_isInstance (T:="StopIteration") (b:=true) hs isSubtype_stop (wpAny_pure (hQ _ λ b o hb e=>kk b o ?_)))
  exact ((Heap.SameBut.update ..).trans (Heap.SameBut.update ..)).extBut b o hb e
theorem aA7q {k:Int} {items:Array Value} {Q:Value->Shared->Prop} (hit:IsRev s.heap it t k) (ht:IsTup s.heap t items) (hz:(items.size:Int) < 2 ^ 63) (hk:k+1=items.size)
    (h:∀ u tk,s.toks<=tk->Q (.int (items.size:Int) u) { s with toks:=tk }):wpAny (model prog w) A (call (.builtin "reversed.__length_hint__") [.ref it]) Q E s:=by
  have hT:s.TypeIs (.ref it) "reversed":=⟨_,hit,rfl⟩
  refine wpAny_call_entry sHint hT zLq ?_ (aA4q _)
  refine (show wpAny (model prog w) A.in1 (field (.ref it) 0 >>= _) _ _ s from wpAny_bind (wpAny_field hit rfl (x:=.ref t) rfl ?_))
  refine (show wpAny (model prog w) A.in1 (if (Value.ref t==Value.none)=true then _ else _) _ _ s from ?_)
  rw [if_neg (show ¬ ((Value.ref t==Value.none)=true) from Bool.false_ne_true)]
  refine (show wpAny (model prog w) A.in1 (call (.builtin "len") [.ref t] >>= _) _ _ s from wpAny_bind (len_tuple ht hz ?_))
  refine wpAny_bind (m:=asInt? (.int (items.size:Int) _)) (wpAny_pure ?_)
  refine (show wpAny (model prog w) A.in1 (field (.ref it) 1 >>= _) _ _ _ from wpAny_bind (wpAny_field hit rfl (x:=rawInt k) rfl ?_))
  refine (show wpAny (model prog w) A.in1 (if (items.size:Int) < k+1 then _ else _) _ _ _ from ?_)
  rw [if_neg (by omega),hk]
  exact wpAny_bind (wpAny_mkInt (wpAny_pure ⟨_,rfl,h _ _ (by simp;omega)⟩))
end
theorem newT (t:Addr) (items:Array Value) (hz:(items.size:Int) < 2 ^ 63) :
    Meets (Builtin.«reversed.__new__» ⟨[.type "reversed", .ref t],[]⟩) (λ _ R s=>IsTup s.heap t items ∧
      ∀ tk,R (.ok (.ret (.ref s.heap.objs.size))) { s with heap:=s.heap.push { cls:=.type "reversed", data:=.fields #[.ref t,rawInt ((items.size:Int) - 1)] },toks:=tk }):=
  .of_wp λ prog w A R s ⟨ht,h⟩=>by
    unfold Builtin.«reversed.__new__»
    refine wpAny_bind (wpAny_of_eq (newClass_reversed _) (wpAny_bind (m:=Builtin.SmallTypes.refuseKeywords _ _ _) (wpAny_pure ?_)))
    refine wpAny_bind (wpAny_of_eq (a:=()) (by rfl) (wpAny_bind (wpAny_specialOf ht.typeIs aA5q (wpAny_bind ?_))))
    refine (show wpAny (model prog w) A.in1 (isInstance (Value.ref t) (.type "dict") >>= _) _ _ s from wpAny_bind (wpAny_isInstance (T:="tuple") (b:=false) ht.typeIs wFq ?_))
    rw [if_neg (by decide)]
    refine wpAny_bind (wpAny_specialOf ht.typeIs slot_tuple_getitem.lookup ?_)
    refine (show wpAny (model prog w) A.in1 (if (["tuple.__getitem__", "str.__getitem__", "bytes.__getitem__", "bytearray.__getitem__", "memoryview.__getitem__", "numpy.ndarray.__getitem__", "sqlite3.Row.__getitem__"].contains "tuple.__getitem__")=true then _ else _) _ _ s from ?_)
    rw [if_pos (by decide)]
    refine wpAny_pure ?_
    rw [if_neg (by decide)]
    refine (show wpAny (model prog w) A.in1 (call (.builtin "len") [.ref t] >>= _) _ _ s from wpAny_bind (len_tuple ht hz ?_))
    refine wpAny_bind (m:=asInt? (.int (items.size:Int) _)) (wpAny_pure ?_)
    refine (show wpAny (model prog w) A.in1 (newObj (.type "reversed") (.fields #[.ref t,rawInt ((items.size:Int) - 1)]) >>= _) _ _ _ from wpAny_bind (wpAny_newObj_type ?_ (by size_fits)))
    exact wpAny_pure ⟨_,rfl,h _⟩
theorem callT {prog:Program} {w:World} {A:Around} {E:Value->Shared->Prop} {s:Shared} {t:Addr} {items:Array Value} {Q:Value->Shared->Prop} (ht:IsTup s.heap t items) (hz:(items.size:Int) < 2 ^ 63)
    (h:∀ tk,Q (.ref s.heap.objs.size) { s with heap:=s.heap.push { cls:=.type "reversed", data:=.fields #[.ref t,rawInt ((items.size:Int) - 1)] },toks:=tk }):wpAny (model prog w) A (call (.type "reversed") [.ref t]) Q E s:=
  callType_new uHq (by decide) (F.typeCall_reversed_1 _) (F.newCall_reversed_1 _) (λ obj=>F.args_object_init_2 obj _) F.entry_reversed_new (newT t items hz) ⟨ht,λ tk=>⟨⟨_,Heap.get?_push_size _ rfl,rfl⟩,h tk⟩⟩
theorem aB3q {prog:Program} {w:World} {A:Around} (hh:A.handled=none) (I t:Addr) (hne:t≠I) (items:Array Value) (hz:(items.size:Int) < 2 ^ 63) :
    Walks prog w A I [I,t] [I] items.size (λ i v=>items[items.size - 1 - i]?=some v) (λ i h=>IsRev h I t ((items.size:Int) - 1 - i)/\IsTup h t items) where
  sub:=λ b hb=>by rw [List.mem_singleton.mp hb];exact List.mem_cons_self
  frame:=λ _ _ _ st hk=>⟨hk I (by simp) _ st.1,let ⟨o,ho,r⟩:=st.2;⟨o,hk t (by simp) _ ho,r⟩⟩
  item:=λ i s Q E hi st hQ=>by
    have st1:IsRev s.heap I t ((items.size - 1 - i:Nat):Int):=by rw [show ((items.size - 1 - i:Nat):Int)=(items.size:Int) - 1 - i by omega];exact st.1
    refine aD0q st1 st.2 (x:=items[items.size - 1 - i]) (by simp<;>omega) (by omega) λ h' tk hit' hs'=>?_
    rw [show ((items.size - 1 - i:Nat):Int) - 1=(items.size:Int) - 1 - ((i+1:Nat):Int) by omega] at hit'
    exact hQ _ h' tk (by simp<;>omega) ⟨hit',st.2.extBut hs'.extBut hne⟩ λ b o hb e=>hs'.extBut b o (λ z=>hb (List.mem_singleton.mpr z)) e
  done:=λ s Q E st hQ=>endT hh st.1 (by omega) λ h' he=>hQ h' s.toks λ b o hb e=>he b o (λ z=>hb (List.mem_singleton.mpr z)) e
  self:=λ i s Q E st h=>aC5q st.1 h
def u1q (prog:Program) (w:World) (A:Around) (I:Addr) (St:Nat->Shared->Prop):Prop:=
  ∀ (s:Shared) (Q:Bool->Shared->Prop) (E:Value->Shared->Prop),St 0 s->(∀ b tk,s.toks<=tk->Q b { s with toks:=tk })->wpAny (model prog w) A (Builtin.List.listLengthHint (.ref I)) Q E s
structure It (prog:Program) (w:World) (A:Around) (I:Addr) (fp wr:List Addr) (n:Nat) (P:Nat->Value->Prop) (St:Nat->Shared->Prop):Prop where
  walk:WalksS prog w A I fp wr (λ a b=>b=a) n P St
  ty:∃ T,(Value.type T==Value.type "list")=false/\(Value.type T==Value.type "tuple")=false/\∀ i s,St i s->s.TypeIs (.ref I) T
  hint:u1q prog w A I St
  mem:I∈fp
  few:n<=sizeLine
section
variable {prog:Program} {w:World} {A:Around} {E:Value->Shared->Prop} {s:Shared} {R:Result->Shared->Prop} {I S:Addr} {fp wr:List Addr} {n:Nat} {P:Nat->Value->Prop} {St:Nat->Shared->Prop}
abbrev listAt (acc:Array Value) (c:Nat):Obj:={ cls:=.type "list", dict:=none,data:=.seq acc c,slots:=#[] }
theorem aE5q (J:It prog w A.in1 I fp wr n P St) (res:Value) (c₀:Nat) (hst:St 0 s) (hSf:S ∉ fp) (hS:s.heap.get? S=some (listAt #[] c₀))
    (hR:∀ s' acc c,Moved (S::wr) (λ a b=>b=a) s s'->s'.heap.get? S=some (listAt acc c)->ItemsOf P acc n->R (.ok (.ret res)) s') :
    wpAny (model prog w) A.in1 (Builtin.List.listExtendWith (.ref S) (.ref I) res)
      (λ fin s'=>match fin with | .done f=>R (.ok f) s' | .again c'=>c'.quiet=true/\codeAny (model prog w) A c' R s') (λ e s'=>R (.error e) s') s:=by
  obtain ⟨T,t1,t2,hT⟩:=J.ty
  have W:=J.walk
  have h1:Builtin.List.listSameRef (.ref S) (.ref I)=false:=by
    have:S≠I:=λ e=>hSf (e ▸ J.mem)
    simp [Builtin.List.listSameRef,this]
  unfold Builtin.List.listExtendWith
  refine wpAny_bind (wpAny_typeOf (hT 0 _ hst) ?_)
  rw [h1,t1,t2,Bool.or_false,Bool.or_false,if_neg Bool.false_ne_true]
  refine wpAny_bind (W.self 0 _ _ _ hst (wpAny_bind (wpAny_holding (J.hint _ _ _ hst λ b tk htk=>?_))))
  have go:∀ (h':Heap) (c:Nat),(∀ b o,b≠S->s.heap.get? b=some o->h'.get? b=some o)->h'.get? S=some (listAt #[] c) →
      codeAny (model prog w) A (.builtin "list.extend.loop" ⟨[.ref S,.ref I,res],[]⟩) R { s with heap:=h',toks:=tk }:=λ h' c kk e=>
    codeAny_extend_loopS W J.few _ hSf _ n 0 _ _ _ rfl (Nat.zero_le _) (W.frame 0 s h' tk hst htk λ b hb o e=>kk b o (λ z=>hSf (z ▸ hb)) e) e (ItemsOf.nil P) λ s' acc c' hm hS' hacc=>
      hR s' acc c' (Moved.trans (s':={ s with heap:=h',toks:=tk }) W.gtrans ⟨λ b o hb e=>kk b o (λ z=>hb (by rw [z];exact List.mem_cons_self)) e,rfl,rfl,rfl,htk⟩ hm) hS' hacc
  refine wpAny_ite_split (λ _=>wpAny_bind (wpAny_rule (wpAny_bind ?_))) (λ _=>wpAny_pure ⟨plainId_quiet F.plain_extend_loop _,go _ _ (λ _ _ _ e=>e) hS⟩)
  refine (show wpAny (model prog w) A.in1 (updateSeq S (·.push .none) >>= λ _=>updateSeq S (·.pop)) _ _ _ from wpAny_bind (wpAny_updateSeq hS rfl ?_))
  have e2:=Heap.get?_update_self (Obj.mapSeq (·.push Value.none)) hS rfl
  refine wpAny_updateSeq (hz:=by seq_fits) e2 rfl (wpAny_pure ⟨plainId_quiet F.plain_extend_loop _,go _ _ (λ b o hb e=>?_) (Heap.get?_update_self (Obj.mapSeq (·.pop)) e2 rfl)⟩)
  exact (Heap.get?_update_other _ _ (Ne.symm hb)).trans ((Heap.get?_update_other _ _ (Ne.symm hb)).trans e)
theorem listOf {Q:Value->Shared->Prop} (J:It prog w A.in1.in1 I fp wr n P St) (hst:St 0 s) (hfp:∀ b∈fp,b < s.heap.objs.size)
    (hQ:∀ s' acc c,Moved (s.heap.objs.size::wr) (λ a b=>b=a) { s with heap:=s.heap.push (listAt #[] 0) } s'->s'.heap.get? s.heap.objs.size=some (listAt acc c)->ItemsOf P acc n->Q (.ref s.heap.objs.size) s') :
    wpAny (model prog w) A (call (.type "list") [.ref I]) Q E s:=by
  have hSf:s.heap.objs.size ∉ fp:=λ hm=>Nat.lt_irrefl _ (hfp _ hm)
  refine callType_codes (Q₁:=λ obj s₁=>obj=.ref s.heap.objs.size/\s₁={ s with heap:=s.heap.push (listAt #[] 0) }) F.called_list (F.typeCall_list_1 _) F.entry_list_init (code_list_new _ ⟨rfl,rfl⟩) ?_
  rintro obj s₁ ⟨rfl,rfl⟩
  have hS:(s.heap.push (listAt #[] 0)).get? s.heap.objs.size=some (listAt #[] 0):=Heap.get?_push_size _ rfl
  refine ⟨⟨_,hS,rfl⟩,F.args_list_init_2 _ _,?_⟩
  refine (show wpAny (model prog w) A.in1.in1 (Builtin.List.listItems (.ref s.heap.objs.size) >>= λ old=>Builtin.List.listUpdate (.ref s.heap.objs.size) (λ _=>#[]) >>= λ _=>letGo old.toList.reverse >>= λ _=>Builtin.List.listExtendWith (.ref s.heap.objs.size) (.ref I) .none) _ _ _ from wpAny_bind ?_)
  unfold Builtin.List.listItems
  refine wpAny_bind (wpAny_seqItems hS rfl (wpAny_pure ?_))
  refine (show wpAny (model prog w) A.in1.in1 (updateSeq s.heap.objs.size (λ _=>#[]) >>= λ _=>letGo (#[]:Array Value).toList.reverse >>= λ _=>Builtin.List.listExtendWith (.ref s.heap.objs.size) (.ref I) .none) _ _ _ from wpAny_bind (wpAny_updateSeq hS rfl (wpAny_bind (wpAny_letGo ?_))))
  have kk:∀ b o,b≠s.heap.objs.size->(s.heap.push (listAt #[] 0)).get? b=some o->((s.heap.push (listAt #[] 0)).update s.heap.objs.size (Obj.mapSeq (λ _=>(#[]:Array Value)))).get? b=some o:=λ b o hb e=>(Heap.get?_update_other _ _ (Ne.symm hb)).trans e
  refine aE5q (A:=A.in1) J .none _ (J.walk.frame 0 s _ s.toks hst (Nat.le_refl _) λ b hb o e=>kk b o (λ z=>hSf (z ▸ hb)) (Heap.get?_push_of_some _ e)) hSf (Heap.get?_update_self (Obj.mapSeq (λ _=>(#[]:Array Value))) hS rfl) λ s' acc c hm hS' hacc=>⟨rfl,hQ s' acc c ?_ hS' hacc⟩
  exact Moved.trans (s':={ s with heap:=(s.heap.push (listAt #[] 0)).update s.heap.objs.size (Obj.mapSeq (λ _=>(#[]:Array Value))) }) J.walk.gtrans ⟨λ b o hb e=>kk b o (λ z=>hb (by rw [z];exact List.mem_cons_self)) e,rfl,rfl,rfl,Nat.le_refl _⟩ hm
theorem xSq {l:Addr} {k:Nat->Int} {U:Nat->Shared->Prop}:u1q prog w A I (λ i s=>i<=n/\s.heap.IsRevIter I l (k i)/\U i s):=by
  intro s Q E st h
  have hT:s.TypeIs (.ref I) "list_reverseiterator":=st.2.1.typeIs
  unfold Builtin.List.listLengthHint
  refine wpAny_bind (wpAny_specialOf hT wQq ?_)
  refine (show wpAny (model prog w) A (specialOf (Value.ref I) (Str.ofString "__length_hint__") >>= _) _ _ _ from wpAny_bind (wpAny_specialOf hT aA6q ?_))
  (generalize hid:("list_reverseiterator.__length_hint__" : String)=id0;(fail_if_success (clear hid id0));wp_delta;rw [show splitId id0=some ("list_reverseiterator", "__length_hint__") from by subst hid;decide +kernel];subst hid)
  exact wpAny_bind (wpAny_isInstance (b:=true) hT (by rw [isSubtype_type];kernel_rfl) (wpAny_pure (h _ _ (Nat.le_refl _))))
theorem uLq {t:Addr} {items:Array Value} (hz:items.size<=sizeLine):u1q prog w A I (λ i s=>IsRev s.heap I t ((items.size:Int) - 1 - i)/\IsTup s.heap t items):=by
  intro s Q E st h
  have hT:s.TypeIs (.ref I) "reversed":=⟨_,st.1,rfl⟩
  have hl:=sizeLine_eq
  unfold Builtin.List.listLengthHint
  refine wpAny_bind (wpAny_specialOf hT aA9q ?_)
  refine (show wpAny (model prog w) A (specialOf (Value.ref I) (Str.ofString "__length_hint__") >>= _) _ _ _ from wpAny_bind (wpAny_specialOf hT sHint.lookup ?_))
  (generalize hid:("reversed.__length_hint__" : String)=id0;(fail_if_success (clear hid id0));wp_delta;rw [show splitId id0=some ("reversed", "__length_hint__") from by subst hid;decide +kernel];subst hid)
  refine wpAny_bind (wpAny_isInstance (b:=true) hT (by rw [isSubtype_type];kernel_rfl) ?_)
  rw [if_neg (by decide)]
  refine wpAny_ite_split (λ hab=>absurd hab (by decide +kernel)) (λ _=>wpAny_bind (wpAny_rule (wpAny_bind (wpAny_of_eq (sHint.bind _) ?_))))
  refine (show wpAny (model prog w) A ((call (.builtin "reversed.__length_hint__") [.ref I]).attempt >>= _) _ _ _ from wpAny_bind (wpAny_attempt (aA7q (items:=items) st.1 st.2 (by omega) (by omega) λ u tk htk=>?_)))
  dsimp only
  have ha:∀ (n:Int) (u:Tok),asInt? (Value.int n u)=pure (some n):=λ _ _=>rfl
  have h1:Builtin.List.listFitsIndex (items.size:Int)=true:=by
    unfold Builtin.List.listFitsIndex
    simp only [Bool.and_eq_true,decide_eq_true_eq]
    omega
  have h2:Builtin.List.listTooLong ((items.size:Int)).toNat=false:=by simp [Builtin.List.listTooLong,sizeLine];omega
  rw [ha,pure_bind]
  dsimp only
  rw [h1,h2,if_neg (by decide),if_neg (by omega),if_neg (by decide)]
  exact wpAny_pure (h _ _ htk)
end
theorem moved_eq {wr:List Addr} {s s':Shared} (hm:Moved wr (λ a b=>b=a) s s'):s'={ s with heap:=s'.heap,toks:=s'.toks }:=by
  obtain ⟨h',g',d',tk',os'⟩:=s'
  cases (show g'=s.gens from hm.gens)
  cases (show d'=s.drawn from hm.drawn)
  cases (show os'=s.os from hm.os)
  rfl
theorem back {its:List Value} {acc:Array Value} (h:ItemsOf (λ i v=>its.toArray[its.toArray.size - 1 - i]?=some v) acc its.toArray.size):acc.toList=its.reverse:=by
  obtain ⟨hs0,hp⟩:=h
  have hs:acc.size=its.length:=by simpa using hs0
  apply List.ext_getElem?
  intro i
  by_cases hi:i < its.length
  . have h1:i < acc.size:=by omega
    have e:=hp i acc[i] (by simp [h1])
    rw [List.getElem?_reverse hi,Array.getElem?_toList,Array.getElem?_eq_getElem h1,<- e]
    simp
  . rw [List.getElem?_eq_none (by rw [Array.length_toList];omega),List.getElem?_eq_none (by rw [List.length_reverse];omega)]
theorem itT {prog:Program} {w:World} {A:Around} {I t:Addr} {items:Array Value} (hh:A.handled=none) (hne:t≠I) (hz:items.size<=sizeLine) :
    It prog w A I [I,t] [I] items.size (λ i v=>items[items.size - 1 - i]?=some v) (λ i s=>IsRev s.heap I t ((items.size:Int) - 1 - i)/\IsTup s.heap t items) where
  walk:=(aB3q hh I t hne items (by have:=sizeLine_eq;omega)).toS
  ty:=⟨"reversed", by decide,by decide,λ _ _ st=>⟨_,st.1,rfl⟩⟩
  hint:=uLq hz
  mem:=by simp
  few:=hz
theorem itL {prog:Program} {w:World} {A:Around} {I l:Addr} {items:Array Value} (hh:A.handled=none) (hne:l≠I) (hz:items.size<=sizeLine) :
    It prog w A I [I,l] [I] items.size (λ i v=>items[items.size - 1 - i]?=some v) (λ i s=>i<=items.size/\s.heap.IsRevIter I l ((items.size:Int) - 1 - (i:Int))/\s.heap.IsList l items) where
  walk:=(Walks.listRev hh I l hne items).toS
  ty:=⟨"list_reverseiterator", by decide,by decide,λ _ _ st=>st.2.1.typeIs⟩
  hint:=xSq (k:=λ i=>(items.size:Int) - 1 - (i:Int)) (U:=λ _ s=>s.heap.IsList l items)
  mem:=by simp
  few:=hz
end KRv
namespace L2
open PySem PySem.Spec PyProof.Rows
section
variable {X:Cx} {e:Expr} {te:TE} {p p2 pos pos2:Pos}
def RevT (X:Cx) (pins:List (Addr × Obj)) (σ:St) (R:Addr->List V->Hp->Prop) (v:Value) (s:Shared):Prop:=
  ∃ (a it:Addr) (xs:List V) (its:List Value) (H:Hp),v=.ref it/\Inv X pins σ H s/\KRv.IsRev s.heap it a ((its.toArray.size:Int) - 1)/\IsTup s.heap a its.toArray/\a≠it/\Vals xs its/\its.toArray.size<=sizeLine/\SqT X.K H a xs/\iBq X pins H it/\R a xs H
def RevL (X:Cx) (pins:List (Addr × Obj)) (σ:St) (R:Addr->List V->Hp->Prop) (v:Value) (s:Shared):Prop:=
  ∃ (a it:Addr) (xs:List V) (its:List Value) (H:Hp),v=.ref it/\Inv X pins σ H s/\s.heap.IsRevIter it a ((its.toArray.size:Int) - 1)/\s.heap.IsList a its.toArray/\a≠it/\Vals xs its/\its.toArray.size<=sizeLine/\SqL X.K H a xs/\iBq X pins H it/\R a xs H
theorem sDq {pins:List (Addr × Obj)} {s:Shared} {σ:St} {H:Hp} {R:Addr->List V->Hp->Prop} (hg:Gl X "reversed") (hm:X.mg "reversed" = none) (he:PE X e te) (hs:aXq e=true) (I:Inv X pins σ H s)
    (h:te σ H λ x H1=>∃ a xs,x=.ref a/\SqT X.K H1 a xs/\R a xs H1):wpAny (model X.prog X.w) X.A (eval (.Call (.Name "reversed" p2) [e] [] pos2) X.env) (RevT X pins σ R) X.xe s:=by
  refine wpAny_Call_Name_kw (cSq I hg hm PyProof.Rows.boot_reversed ?_)
  refine PyProof.Rows.callWith_type1 ?_ (aEq hs) rfl
  rw [aEq hs]
  show wpAny _ _ (spliced ((false,eval e X.env)::backTo pos2 (starEach [] X.env))) _ _ s
  refine Calls.spliced_cons (thn (he pins s σ H _ I h) λ u s1 ⟨x,H1,I1,r1,a,xs,ex,hq,q⟩=>Calls.spliced_nil ?_)
  subst ex
  cases r1
  obtain ⟨its,rv,pl,hz⟩:=I1.tuple hq
  have hl:=rv.length
  have h63:=d9q
  refine KRv.callT pl (by rw [List.size_toArray];omega) λ tk=>?_
  exact ⟨a,s1.heap.objs.size,xs,its,H1,rfl,I1.kept λ b o e=>Heap.get?_push_of_some _ e,Heap.get?_push_size _ rfl,pl.push _,Nat.ne_of_lt pl.lt,rv,by rw [List.size_toArray];omega,hq,I1.fpOk (Nat.le_refl _) (I1.hok.fresh (Nat.le_refl _)),q⟩
theorem tKq {pins:List (Addr × Obj)} {s:Shared} {σ:St} {H:Hp} {R:Addr->List V->Hp->Prop} (hg:Gl X "reversed") (hm:X.mg "reversed" = none) (he:PE X e te) (hs:aXq e=true) (I:Inv X pins σ H s)
    (h:te σ H λ x H1=>∃ a xs,x=.ref a/\SqL X.K H1 a xs/\R a xs H1):wpAny (model X.prog X.w) X.A (eval (.Call (.Name "reversed" p2) [e] [] pos2) X.env) (RevL X pins σ R) X.xe s:=by
  refine wpAny_Call_Name_kw (cSq I hg hm PyProof.Rows.boot_reversed ?_)
  refine PyProof.Rows.callWith_type1 ?_ (aEq hs) rfl
  rw [aEq hs]
  show wpAny _ _ (spliced ((false,eval e X.env)::backTo pos2 (starEach [] X.env))) _ _ s
  refine Calls.spliced_cons (thn (he pins s σ H _ I h) λ u s1 ⟨x,H1,I1,r1,a,xs,ex,hq,q⟩=>Calls.spliced_nil ?_)
  subst ex
  cases r1
  obtain ⟨its,rv,pl,hz⟩:=I1.list hq
  have hl:=rv.length
  have hlt:a < s1.heap.objs.size:=by obtain ⟨o,ho,_⟩:=pl.isList;exact Heap.lt_size ho
  refine call_reversed_list pl.isList ?_
  exact ⟨a,s1.heap.objs.size,xs,its,H1,rfl,I1.kept (t':=s1.toks) λ b o e=>Heap.get?_push_of_some _ e,⟨_,Heap.get?_push_size _ rfl,rfl,rfl⟩,let ⟨o,ho,r⟩:=pl.isList;⟨o,Heap.get?_push_of_some _ ho,r⟩,Nat.ne_of_lt hlt,rv,by rw [List.size_toArray];omega,hq,I1.fpOk (Nat.le_refl _) (I1.hok.fresh (Nat.le_refl _)),q⟩
theorem nZq {pins:List (Addr × Obj)} {σ:St} {H:Hp} {s s':Shared} {it:Addr} {acc:Array Value} {c:Nat} {ys:List V} {Q:VK} (I:Inv X pins σ H s) (fp:iBq X pins H it) (hit:it < s.heap.objs.size)
    (hm:Moved (s.heap.objs.size::[it]) (λ a b=>b=a) { s with heap:=s.heap.push (KRv.listAt #[] 0) } s') (hS:s'.heap.get? s.heap.objs.size=some (KRv.listAt acc c))
    (rv:Vals ys acc.toList) (hz:ys.length<=sizeLine) (q:∀ l,H l=none->Q (.ref l) (upd H l (.lst ys))):EP X pins σ Q (.ref s.heap.objs.size) s':=by
  have I2:Inv X pins σ (upd H s.heap.objs.size (.lst ys)) { s with heap:=s.heap.push { cls:=.type "list", dict:=none,data:=.seq acc c,slots:=#[] } }:=
    I.laid (t':=s.toks) (λ b o e=>Heap.get?_push_of_some _ e) (Nat.le_refl _) (show ObjOk X.prog X.w _ _ _ (.lst ys) from ⟨hz,acc.toList,c,rv,by simpa using Heap.get?_push_size s.heap (o:={ cls:=.type "list", dict:=none,data:=.seq acc c,slots:=#[] }) rfl⟩)
  obtain ⟨f0,f1,f2,f3,f4,f5⟩:=fp
  have I3:=I2.turned (h':=s'.heap) (t':=s'.toks) (it:=it) (λ b o hb e=>?_) (by rw [aHq (Nat.ne_of_lt hit)];exact f0) f1 f3 f4 f5
  . rw [KRv.moved_eq hm]
    exact ⟨.ref s.heap.objs.size,_,I3,rfl,q _ (I.hok.fresh (Nat.le_refl _))⟩
  . rcases Heap.get?_push_cases e with ⟨z1,z2⟩ | e
    . rw [z1,z2];exact hS
    . refine hm.heap b o (λ z=>?_) (Heap.get?_push_of_some _ e)
      simp only [List.mem_cons,List.not_mem_nil,or_false] at z
      rcases z with z | z
      . rw [z] at e;exact absurd (Heap.lt_size e) (Nat.lt_irrefl _)
      . exact hb z
def wIq (K:PySem.W.Frag) (te:TE):TE:=λ σ H Q=>te σ H λ x H1=>∃ a xs,x=.ref a/\SqT K H1 a xs/\∀ l,H1 l=none->Q (.ref l) (upd H1 l (.lst xs.reverse))
def rMq (K:PySem.W.Frag) (te:TE):TE:=λ σ H Q=>te σ H λ x H1=>∃ a xs,x=.ref a/\SqL K H1 a xs/\∀ l,H1 l=none->Q (.ref l) (upd H1 l (.lst xs.reverse))
theorem o8q (hc:X.calm=true) (hgl:Gl X "list") (hml:X.mg "list" = none) (hg:Gl X "reversed") (hm:X.mg "reversed" = none) (he:PE X e te) (hs:aXq e=true) :
    PE X (.Call (.Name "list" p) [.Call (.Name "reversed" p2) [e] [] pos2] [] pos) (wIq X.K te):=by
  intro pins s σ H Q I h
  refine wpAny_Call_Name_kw (cSq I hgl hml PyProof.Rows.boot_list ?_)
  refine PyProof.Rows.callWith_type1 ?_ (aEq rfl) rfl
  rw [aEq rfl]
  show wpAny _ _ (spliced ((false,eval (.Call (.Name "reversed" p2) [e] [] pos2) X.env)::backTo pos (starEach [] X.env))) _ _ s
  refine Calls.spliced_cons (thn (sDq (R:=λ _ xs H1=>∀ l,H1 l=none->Q (.ref l) (upd H1 l (.lst xs.reverse))) hg hm he hs I h) λ v s1 h1=>Calls.spliced_nil ?_)
  obtain ⟨a,it,xs,its,H1,rfl,I1,hit,ht,hne,rv,hz,_,fp,q⟩:=h1
  have hi:=Heap.lt_size hit
  have hl:=rv.length
  refine KRv.listOf (KRv.itT (prog:=X.prog) (w:=X.w) (A:=X.A.in1.in1) (I:=it) (t:=a) (items:=its.toArray) (I.ok.hd hc) hne hz) ⟨by simpa using hit,ht⟩ (λ b hb=>?_) (λ s' acc c' hm' hS hacc=>?_)
  . simp only [List.mem_cons,List.not_mem_nil,or_false] at hb
    rcases hb with rfl | rfl
    . exact hi
    . exact ht.lt
  . exact nZq I1 fp hi hm' hS (by rw [KRv.back hacc];exact rv.reverse) (by rw [List.length_reverse];rw [List.size_toArray] at hz;omega) q
theorem eBq (hc:X.calm=true) (hgl:Gl X "list") (hml:X.mg "list" = none) (hg:Gl X "reversed") (hm:X.mg "reversed" = none) (he:PE X e te) (hs:aXq e=true) :
    PE X (.Call (.Name "list" p) [.Call (.Name "reversed" p2) [e] [] pos2] [] pos) (rMq X.K te):=by
  intro pins s σ H Q I h
  refine wpAny_Call_Name_kw (cSq I hgl hml PyProof.Rows.boot_list ?_)
  refine PyProof.Rows.callWith_type1 ?_ (aEq rfl) rfl
  rw [aEq rfl]
  show wpAny _ _ (spliced ((false,eval (.Call (.Name "reversed" p2) [e] [] pos2) X.env)::backTo pos (starEach [] X.env))) _ _ s
  refine Calls.spliced_cons (thn (tKq (R:=λ _ xs H1=>∀ l,H1 l=none->Q (.ref l) (upd H1 l (.lst xs.reverse))) hg hm he hs I h) λ v s1 h1=>Calls.spliced_nil ?_)
  obtain ⟨a,it,xs,its,H1,rfl,I1,hit,ht,hne,rv,hz,_,fp,q⟩:=h1
  have hi:it < s1.heap.objs.size:=by obtain ⟨o,ho,_⟩:=hit;exact Heap.lt_size ho
  have hl:=rv.length
  refine KRv.listOf (KRv.itL (prog:=X.prog) (w:=X.w) (A:=X.A.in1.in1) (I:=it) (l:=a) (items:=its.toArray) (I.ok.hd hc) hne hz) ⟨Nat.zero_le _,by simpa using hit,ht⟩ (λ b hb=>?_) (λ s' acc c' hm' hS hacc=>?_)
  . simp only [List.mem_cons,List.not_mem_nil,or_false] at hb
    rcases hb with rfl | rfl
    . exact hi
    . obtain ⟨o,ho,_⟩:=ht;exact Heap.lt_size ho
  . exact nZq I1 fp hi hm' hS (by rw [KRv.back hacc];exact rv.reverse) (by rw [List.length_reverse];rw [List.size_toArray] at hz;omega) q
theorem nSq:∀ (bs:List Bool),(List.range bs.length).all (λ i=>bs.getD i true)=bs.all id:=by
  intro bs
  rw [Bool.eq_iff_iff,List.all_eq_true,List.all_eq_true]
  constructor
  . intro h x hx
    obtain ⟨i,hi,e⟩:=List.getElem_of_mem hx
    have:=h i (List.mem_range.mpr hi)
    rw [List.getD_eq_getElem?_getD,List.getElem?_eq_getElem hi,Option.getD_some,e] at this
    exact this
  . intro h i hi
    have hi':=List.mem_range.mp hi
    rw [List.getD_eq_getElem?_getD,List.getElem?_eq_getElem hi',Option.getD_some]
    exact h _ (List.getElem_mem hi')
def aE2q (K:PySem.W.Frag):List V->Hp->VK->Prop:=λ xs H Q=>∃ (p:Addr) (bs:List Bool),xs=[.ref p]/\SqL K H p (bs.map V.bl)/\Q (.bl (bs.all id)) H
theorem mDq (hc:X.calm=true):CallR X (.builtin "all") (aE2q X.K):=by
  intro pins s σ H xs us Q I r h
  obtain ⟨p,bs,rfl,hp,hQ⟩:=h
  obtain ⟨u,rfl,ru⟩:=r.one
  cases ru
  obtain ⟨its,rv,pl,hz⟩:=I.list hp
  have hlen:=rv.length
  rw [List.length_map] at hlen
  have hlt:p < s.heap.objs.size:=by obtain ⟨o,ho,_⟩:=pl.isList;exact Heap.lt_size ho
  refine call_all_walk (wpAny_pyIter_list pl.isList ?_)
  refine ⟨s.heap.objs.size,[s.heap.objs.size,p],[s.heap.objs.size],its.toArray.size,_,_,λ i=>bs.getD i true,rfl,Walks.list (A:=X.A.in1) (I.ok.hd hc) _ p (Nat.ne_of_lt hlt) its.toArray,⟨⟨_,Heap.get?_push_size _ rfl,rfl,rfl⟩,let ⟨o,ho,r⟩:=pl.isList;⟨o,Heap.get?_push_of_some _ ho,r⟩⟩,?_,λ h' tk kk=>?_⟩
  . intro i v s' Q' E' hv hq
    have hi:i < its.length:=by
      have:=(Array.getElem?_eq_some_iff.mp hv).1
      simpa using this
    obtain ⟨v1,e1,e2⟩:=rv.get (i:=i) (x:=V.bl bs[i]) (by rw [List.getElem?_map,List.getElem?_eq_getElem (by omega)];rfl)
    have e3:its[i]?=some v:=by simpa using hv
    rw [e1] at e3
    cases e3
    have e4:v=Value.bool bs[i]:=e2
    subst e4
    refine wpAny_truthy_bool ?_
    have e5:bs.getD i true=bs[i]:=by rw [List.getD_eq_getElem?_getD,List.getElem?_eq_getElem (by omega)];rfl
    rw [<- e5]
    exact hq
  . refine ⟨.bl (bs.all id),H,I.kept λ b o e=>kk b o ?_ (Heap.get?_push_of_some _ e),?_,hQ⟩
    . simp only [List.mem_cons,List.not_mem_nil,or_false]
      exact Nat.ne_of_lt (Heap.lt_size e)
    . show Value.bool _=Value.bool _
      rw [List.size_toArray,<- hlen,nSq]
end
section
variable {X:Cx} {e:Expr} {te:TE} {p p2 pos pos2:Pos}
theorem eLq (hgl:Gl X "list") (hml:X.mg "list" = none) (hg:Gl X "reversed") (hm:X.mg "reversed" = none) (he:JE X e te) (hc:X.calm=true:=by rfl) (hs:aXq e=true:=by rfl) :
    JE X (.Call (.Name "list" p) [.Call (.Name "reversed" p2) [e] [] pos2] [] pos) (rMq X.K te):=⟨eBq hc hgl hml hg hm he.run hs⟩
end
theorem Inv.turnedL {X:Cx} {pins:List (Addr × Obj)} {σ:St} {H:Hp} {s:Shared} {h':Heap} {t':Nat} {fp:List Addr} (I:Inv X pins σ H s) (hf:∀ b∈fp,iBq X pins H b) (k:∀ b o,b ∉ fp->s.heap.get? b=some o->h'.get? b=some o):Inv X pins σ H { s with heap:=h',toks:=t' }:=by
  have nit:∀ b u,H b=some u->b ∉ fp:=λ b u e z=>by rw [(hf b z).1] at e;cases e
  refine I.step (g':=s.gens) (d':=s.drawn) (ch:=fp) (λ b hb=>?_) (λ b o _ _ hc e _=>k b o hc e) (λ b o _ _ hc e _=>⟨o.slots,k b o hc e⟩) (λ _ _ _ _ n=>n)
    (λ b o hc e=>⟨o,k b o hc e⟩) (λ _ _ e=>e) (λ _ _ _ e=>e) (λ b ps e=>⟨#[],by rw [e];simp⟩) (λ m hm=>?_) (λ b u e=>?_) I.bare
  . obtain ⟨f0,f1,f2,f3,f4,f5⟩:=hf b hb
    exact ⟨f3,f1,f4,f5⟩
  . obtain ⟨o,es,ep,ho,r⟩:=hm
    exact ⟨o,es,ep,k _ o (λ z=>(hf _ z).2.1 rfl) ho,r⟩
  . refine (I.hok b u e).stay (λ c v hc q=>k c v ?_ q) (λ _ q=>q) λ _ _ q=>q
    rcases hc with z | z
    . rw [z];exact nit b u e
    . exact nit c _ z
def fzn (o:Obj):HO:=.frz o (.ext λ _=>True)
structure CloAt (H:Hp) (f:Addr) (name qual:Str) (st:Stmt) (cl:List (Str × Addr)) (fvs:List V):Prop where
  fn:∃ (oc:Value) (od:Option Addr) (doc pm cdv ct:Value) (sl:Array (Option Value)),H f=some (fzn ⟨oc,od,.func (PySem.W.fnX name qual (bOq st) (b0q st) (a5q st) cl .none .none doc pm none cdv ct),sl⟩) ∧
    ∃ c o vs t,cdv=.ref c/\H c=some (fzn o)/\o.data=.fields vs/\vs[1]?=some (.str qual t)
  cells:∀ (i:Nat) (x:Str) (c:Addr),cl[i]?=some (x,c)->∃ v u o,fvs[i]?=some v/\RelV v u/\H c=some (fzn o)/\o.data=.cell (some u)
  len:cl.length=fvs.length
  nda:(cl.map (·.2)).Nodup
def clOf (env:Env) (fr:List Str):List (Str × Addr):=fr.map λ x=>(x,(env.cells.lookup x).getD 0)
structure MadeAt (env:Env) (H:Hp) (f:Addr) (name qual:Str) (st:Stmt) (fr:List Str):Prop where
  fn:∃ (oc:Value) (od:Option Addr) (doc pm cdv ct:Value) (sl:Array (Option Value)),H f=some (fzn ⟨oc,od,.func (PySem.W.fnX name qual (bOq st) (b0q st) (a5q st) (clOf env fr) .none .none doc pm none cdv ct),sl⟩) ∧
    ∃ c o vs t,cdv=.ref c/\H c=some (fzn o)/\o.data=.fields vs/\vs[1]?=some (.str qual t)
def Tab (H:Hp) (T:Addr) (pos:Pos) (qual:Str):Prop:=∃ ps,H T=some (.tbl ps)/\TriplesOk ps.toList/\(codeAmong pos ps.toList=none\/∃ c o vs t,codeAmong pos ps.toList=some (.ref c)/\H c=some (fzn o)/\o.data=.fields vs/\vs[1]?=some (.str qual t))
end L2
namespace L3
open PySem PySem.Spec L2
inductive D where
  | non | bl (b:Bool) | int (i:Int) | str (x:Str) | ref (a:Addr) | ty (n:String) | tup (ds:List D) | frl (ds:List D)
def FrL (K:PySem.W.Frag) (H:Hp) (a:Addr) (xs:List V):Prop:=
  (∃ o,H a=some (.frz o (.lst xs)))\/∃ (o:Obj) (its:Array Value) (n:Nat),K.lookup a=some o/\o.cls=.type "list"/\o.dict=none/\o.data=.seq its n/\its.size<=sizeLine/\Vals xs its.toList
theorem FrL.sq {K:PySem.W.Frag} {H:Hp} {a:Addr} {xs:List V} (h:FrL K H a xs):SqL K H a xs:=by
  rcases h with h | h
  . exact .inl (.inr h)
  . exact .inr h
mutual
def Abs (K:PySem.W.Frag) (H:Hp):D->V->Prop
  | .non,v=>v=.non
  | .bl b,v=>v=.bl b
  | .int i,v=>v=.int i
  | .str x,v=>v=.str x
  | .ref a,v=>v=.ref a
  | .ty n,v=>v=.ty n
  | .tup ds,v=>∃ a vs,v=.ref a/\SqT K H a vs/\AbsL K H ds vs
  | .frl ds,v=>∃ a vs,v=.ref a/\FrL K H a vs/\AbsL K H ds vs
def AbsL (K:PySem.W.Frag) (H:Hp):List D->List V->Prop
  | [],vs=>vs=[]
  | d::ds,vs=>∃ v r,vs=v::r/\Abs K H d v/\AbsL K H ds r
end
structure Mono (K:PySem.W.Frag) (H H':Hp):Prop where
  tp:∀ a xs,SqT K H a xs->SqT K H' a xs
  fr:∀ a xs,FrL K H a xs->FrL K H' a xs
  fz:∀ a o,H a=some (fzn o)->H' a=some (fzn o)
section
variable {K:PySem.W.Frag} {H H':Hp}
mutual
theorem Abs.mono (h:Mono K H H'):∀ {d:D} {v:V},Abs K H d v->Abs K H' d v
  | .non,_,r=>r
  | .bl _,_,r=>r
  | .int _,_,r=>r
  | .str _,_,r=>r
  | .ref _,_,r=>r
  | .ty _,_,r=>r
  | .tup _,_,⟨a,vs,e,q,l⟩=>⟨a,vs,e,h.tp a vs q,AbsL.mono h l⟩
  | .frl _,_,⟨a,vs,e,q,l⟩=>⟨a,vs,e,h.fr a vs q,AbsL.mono h l⟩
theorem AbsL.mono (h:Mono K H H'):∀ {ds:List D} {vs:List V},AbsL K H ds vs->AbsL K H' ds vs
  | [],_,r=>r
  | _::_,_,⟨v,r,e,q,l⟩=>⟨v,r,e,Abs.mono h q,AbsL.mono h l⟩
end
theorem AbsL.len:∀ {ds:List D} {vs:List V},AbsL K H ds vs->vs.length=ds.length
  | [],_,r=>by cases r;rfl
  | _::_,_,⟨v,r,e,_,l⟩=>by subst e;simp [l.len]
theorem AbsL.append:∀ {ds es:List D} {vs us:List V},AbsL K H ds vs->AbsL K H es us->AbsL K H (ds++es) (vs++us)
  | [],_,_,_,r,s=>by cases r;exact s
  | _::_,_,_,_,⟨v,r,e,q,l⟩,s=>by subst e;exact ⟨v,_,rfl,q,l.append s⟩
theorem AbsL.one {d:D} {v:V} (h:Abs K H d v):AbsL K H [d] [v]:=⟨v,[],rfl,h,rfl⟩
theorem AbsL.get:∀ {ds:List D} {vs:List V} {i:Nat} {d:D},AbsL K H ds vs->ds[i]?=some d->∃ v,vs[i]?=some v/\Abs K H d v
  | [],_,_,_,_,e=>by simp at e
  | _::_,_,0,_,⟨v,r,e',q,l⟩,e=>by simp at e;subst e e';exact ⟨v,rfl,q⟩
  | _::_,_,i+1,d,⟨v,r,e',q,l⟩,e=>by
    subst e'
    obtain ⟨u,h1,h2⟩:=AbsL.get (i:=i) (d:=d) l (by simpa using e)
    exact ⟨u,by simpa using h1,h2⟩
theorem AbsL.take:∀ {ds:List D} {vs:List V} (n:Nat),AbsL K H ds vs->AbsL K H (ds.take n) (vs.take n)
  | _,_,0,_=>by simp [AbsL]
  | [],_,n+1,r=>by cases r;simp [AbsL]
  | _::_,_,n+1,⟨v,r,e,q,l⟩=>by subst e;exact ⟨v,_,rfl,q,l.take n⟩
theorem AbsL.drop:∀ {ds:List D} {vs:List V} (n:Nat),AbsL K H ds vs->AbsL K H (ds.drop n) (vs.drop n)
  | _,_,0,r=>r
  | [],_,n+1,r=>by cases r;simp [AbsL]
  | _::_,_,n+1,⟨v,r,e,q,l⟩=>by subst e;exact l.drop n
theorem AbsL.reverse:∀ {ds:List D} {vs:List V},AbsL K H ds vs->AbsL K H ds.reverse vs.reverse
  | [],_,r=>by cases r;simp [AbsL]
  | _::_,_,⟨v,r,e,q,l⟩=>by subst e;rw [List.reverse_cons,List.reverse_cons];exact l.reverse.append (.one q)
theorem AbsL.set {d:D} {v:V} (h:Abs K H d v):∀ {ds:List D} {vs:List V} (i:Nat),AbsL K H ds vs->AbsL K H (ds.set i d) (vs.set i v)
  | [],_,_,r=>by cases r;simp [AbsL]
  | _::_,_,0,⟨u,r,e,q,l⟩=>by subst e;exact ⟨v,r,rfl,h,l⟩
  | _::_,_,i+1,⟨u,r,e,q,l⟩=>by subst e;exact ⟨u,_,rfl,q,l.set h i⟩
theorem AbsL.ints {ns:List Int}:∀ {vs:List V},AbsL K H (ns.map D.int) vs->vs=ns.map V.int:=by
  induction ns with
  | nil=>intro vs h;exact h
  | cons n ns ih=>rintro vs ⟨v,r,e,q,l⟩;subst e;rw [ih l,show v=V.int n from q];rfl
theorem AbsL.of_ints:∀ (ns:List Int),AbsL K H (ns.map D.int) (ns.map V.int)
  | []=>rfl
  | n::ns=>⟨_,_,rfl,rfl,AbsL.of_ints ns⟩
end
def cut {α:Type} (xs:List α) (lo hi:Option Int):List α:=(xs.drop (HT.sIx xs.length 0 lo)).take (HT.sIx xs.length xs.length hi - HT.sIx xs.length 0 lo)
theorem AbsL.cut {K:PySem.W.Frag} {H:Hp} {ds:List D} {vs:List V} (h:AbsL K H ds vs) (lo hi:Option Int):AbsL K H (L3.cut ds lo hi) (l0q vs lo hi):=by
  have e:=h.len
  rw [L3.cut,l0q,e]
  exact (h.drop _).take _
inductive DO where
  | lst (ds:List D)
  | ins (C:Addr) (fs:List (Str × D))
  | dK (kvs:List (Key × D))
  | dT (kvs:List (List Key × D))
  | frT (kvs:List (List Key × D))
  | tab (pos:Pos) (qual:Str) | made (env:Env) (name qual:Str) (st:Stmt) (fr:List Str) | clo (name qual:Str) (st:Stmt) (fr:List Str) (vals:List D)
abbrev DV:=Addr->Option DO
abbrev DSt:=List (Option D)
def up (G:DV) (a:Addr) (o:DO):DV:=λ b=>if b=a then some o else G b
theorem a6q {G:DV} {a:Addr} {o:DO}:up G a o a=some o:=by unfold up;rw [if_pos rfl]
theorem a9q {G:DV} {a b:Addr} {o:DO} (h:b≠a):up G a o b=G b:=by unfold up;rw [if_neg h]
theorem dGq {G:DV} {a:Addr} {o u:DO}:up (up G a o) a u=up G a u:=by funext b;unfold up;split<;>rfl
theorem gJq {G:DV} {a b:Addr} {o u:DO} (h:a≠b):up (up G a o) b u=up (up G b u) a o:=by
  funext c;unfold up;split<;>split<;>simp_all
def AbsF {κ:Type} (K:PySem.W.Frag) (H:Hp) (fs:List (κ × D)) (gs:List (κ × V)):Prop:=fs.map (·.1)=gs.map (·.1)/\AbsL K H (fs.map (·.2)) (gs.map (·.2))
def BearO (K:PySem.W.Frag) (H:Hp) (a:Addr):DO->Prop
  | .lst ds=>∃ vs,H a=some (.lst vs)/\AbsL K H ds vs
  | .ins C fs=>∃ dx gs,H a=some (.ins C dx gs)/\AbsF K H fs gs
  | .dK kvs=>∃ gs,H a=some (.dK gs)/\AbsF K H kvs gs
  | .dT kvs=>∃ gs,H a=some (.dT gs)/\AbsF K H kvs gs
  | .frT kvs=>∃ o gs,H a=some (.frz o (.dT gs))/\AbsF K H kvs gs
  | .tab pos qual=>Tab H a pos qual
  | .made env name qual st fr=>MadeAt env H a name qual st fr
  | .clo name qual st fr vals=>∃ cl fvs,CloAt H a name qual st cl fvs/\cl.map (·.1)=fr/\AbsL K H vals fvs
def Vw (K:PySem.W.Frag) (G:DV) (H:Hp):Prop:=∀ a o,G a=some o->BearO K H a o
theorem BearO.some {K:PySem.W.Frag} {H:Hp} {a:Addr} {o:DO} (h:BearO K H a o):∃ u,H a=.some u:=by
  cases o with
  | lst ds=>obtain ⟨_,e,_⟩:=h;exact ⟨_,e⟩
  | ins C fs=>obtain ⟨_,_,e,_⟩:=h;exact ⟨_,e⟩
  | dK kvs=>obtain ⟨_,e,_⟩:=h;exact ⟨_,e⟩
  | dT kvs=>obtain ⟨_,e,_⟩:=h;exact ⟨_,e⟩
  | frT kvs=>obtain ⟨_,_,e,_⟩:=h;exact ⟨_,e⟩
  | tab pos qual=>obtain ⟨_,e,_⟩:=h;exact ⟨_,e⟩
  | made env name qual st fr=>obtain ⟨_,_,_,_,_,_,_,e,_⟩:=h.fn;exact ⟨_,e⟩
  | clo name qual st fr vals=>obtain ⟨_,_,h,_⟩:=h;obtain ⟨_,_,_,_,_,_,_,e,_⟩:=h.fn;exact ⟨_,e⟩
theorem Vw.none {K:PySem.W.Frag} {G:DV} {H:Hp} (h:Vw K G H) {a:Addr} (e:H a=.none):G a=.none:=by
  cases q:G a with
  | none=>rfl
  | some o=>obtain ⟨u,z⟩:=(h a o q).some;rw [e] at z;cases z
theorem BearO.mono {K:PySem.W.Frag} {H H':Hp} {a:Addr} {o:DO} (ht:Mono K H H') (e:H' a=H a) (h:BearO K H a o):BearO K H' a o:=by
  cases o with
  | lst ds=>obtain ⟨vs,q,l⟩:=h;exact ⟨vs,by rw [e];exact q,l.mono ht⟩
  | ins C fs=>obtain ⟨dx,gs,q,l⟩:=h;exact ⟨dx,gs,by rw [e];exact q,l.1,l.2.mono ht⟩
  | dK kvs=>obtain ⟨gs,q,l⟩:=h;exact ⟨gs,by rw [e];exact q,l.1,l.2.mono ht⟩
  | dT kvs=>obtain ⟨gs,q,l⟩:=h;exact ⟨gs,by rw [e];exact q,l.1,l.2.mono ht⟩
  | frT kvs=>obtain ⟨o,gs,q,l⟩:=h;exact ⟨o,gs,by rw [e];exact q,l.1,l.2.mono ht⟩
  | tab pos qual=>
    obtain ⟨ps,h1,h2,h3⟩:=h
    refine ⟨ps,by rw [e];exact h1,h2,?_⟩
    rcases h3 with h3 | ⟨c,o,vs,t,h3,h4,h5⟩
    . exact .inl h3
    . exact .inr ⟨c,o,vs,t,h3,ht.fz _ _ h4,h5⟩
  | made env name qual st fr=>
    obtain ⟨oc,od,doc,pm,cdv,ct,sl,h1,c,o,vs,t,h2,h3,h4⟩:=h.fn
    exact ⟨oc,od,doc,pm,cdv,ct,sl,ht.fz _ _ h1,c,o,vs,t,h2,ht.fz _ _ h3,h4⟩
  | clo name qual st fr vals=>
    obtain ⟨cl,fvs,C,h1,h2⟩:=h
    obtain ⟨oc,od,doc,pm,cdv,ct,sl,h3,c,o,vs,t,h4,h5,h6⟩:=C.fn
    exact ⟨cl,fvs,⟨⟨oc,od,doc,pm,cdv,ct,sl,ht.fz _ _ h3,c,o,vs,t,h4,ht.fz _ _ h5,h6⟩,λ i x c hi=>let ⟨v,u,o,z1,z2,z3,z4⟩:=C.cells i x c hi;⟨v,u,o,z1,z2,ht.fz _ _ z3,z4⟩,C.len,C.nda⟩,h1,h2.mono ht⟩
structure Go (K:PySem.W.Frag) (G:DV) (H:Hp) (G':DV) (H':Hp):Prop where
  tup:Mono K H H'
  dom:∀ a o,H a=some o->∃ o',H' a=some o'
  same:∀ a o,H a=some o->G a=none->H' a=some o
  new:∀ a o,H a=some o->G a=none->G' a=none
  vw:Vw K G' H'
section
variable {K:PySem.W.Frag} {G G1 G2 G':DV} {H H1 H2 H':Hp}
theorem Go.refl (v:Vw K G H):Go K G H G H:=⟨⟨λ _ _ h=>h,λ _ _ h=>h,λ _ _ h=>h⟩,λ _ o e=>⟨o,e⟩,λ _ _ e _=>e,λ _ _ _ e=>e,v⟩
theorem Go.trans (a:Go K G H G1 H1) (b:Go K G1 H1 G2 H2):Go K G H G2 H2:=
  ⟨⟨λ x xs h=>b.tup.tp x xs (a.tup.tp x xs h),λ x xs h=>b.tup.fr x xs (a.tup.fr x xs h),λ x o h=>b.tup.fz x o (a.tup.fz x o h)⟩,λ x o e=>let ⟨o',e'⟩:=a.dom x o e;b.dom x o' e',λ x o e n=>b.same x o (a.same x o e n) (a.new x o e n),
   λ x o e n=>b.new x o (a.same x o e n) (a.new x o e n),b.vw⟩
def Sub (G G':DV):Prop:=∀ a o,G a=some o->G' a=some o
theorem Sub.refl (G:DV):Sub G G:=λ _ _ e=>e
theorem Sub.none {G G':DV} (h:Sub G G') {a:Addr} (e:G' a=.none):G a=.none:=by
  cases q:G a with
  | none=>rfl
  | some o=>rw [h a o q] at e;cases e
theorem Vw.sub (v:Vw K G' H) (h:Sub G G'):Vw K G H:=λ a o e=>v a o (h a o e)
theorem Go.sub (g:Go K G H G1 H1) (h:Sub G2 G1):Go K G H G2 H1:=⟨g.tup,g.dom,g.same,λ x o e n=>h.none (g.new x o e n),g.vw.sub h⟩
theorem u4q {a p:Addr} {o:HO} {xs:List V} (hp:∀ ys,¬ Rd H p (.tup ys)) (h:SqT K H a xs):SqT K (upd H p o) a xs:=by
  rcases h with h | h
  . have ne:a≠p:=by rintro rfl;exact hp _ h
    refine .inl ?_
    unfold Rd at h ⊢
    rw [aHq ne];exact h
  . exact .inr h
theorem tOq {p:Addr} {ys:List V} (h:H p=none):¬ Rd H p (.tup ys):=by
  rintro (e | ⟨o,e⟩)<;>rw [h] at e<;>cases e
theorem xQq {p:Addr} {xs ys:List V} (h:H p=some (.lst xs)):¬ Rd H p (.tup ys):=by
  rintro (e | ⟨o,e⟩)<;>rw [h] at e<;>cases e
theorem dLq {p:Addr} {o:HO} (hp:∀ ys,¬ Rd H p (.tup ys)) (hl:∀ o ys,H p≠some (.frz o ys)):Mono K H (upd H p o) where
  tp:=λ _ _ q=>u4q hp q
  fr:=λ a xs q=>by
    rcases q with ⟨z,q⟩ | q
    . exact .inl ⟨z,by rw [aHq (by rintro rfl;exact hl _ _ q)];exact q⟩
    . exact .inr q
  fz:=λ a u q=>by rw [aHq (by rintro rfl;exact hl _ _ q)];exact q
theorem bGq {p:Addr} {o:HO} (h:H p=none):Mono K H (upd H p o):=dLq (λ _=>tOq h) λ _ _ e=>by rw [h] at e;cases e
theorem bHq {p:Addr} {o:HO} {xs:List V} (h:H p=some (.lst xs)):Mono K H (upd H p o):=dLq (λ _=>xQq h) λ _ _ e=>by rw [h] at e;cases e
theorem Go.newT (v:Vw K G H) {p:Addr} {o:HO} (h:H p=none):Go K G H G (upd H p o) where
  tup:=bGq h
  dom:=λ a u e=>⟨u,by rw [aHq (aIq e h)];exact e⟩
  same:=λ a u e _=>by rw [aHq (aIq e h)];exact e
  new:=λ _ _ _ e=>e
  vw:=λ a u e=>(v a u e).mono (bGq h) (aHq (by rintro rfl;obtain ⟨z,q⟩:=(v _ _ e).some;rw [h] at q;cases q))
theorem Go.newL (v:Vw K G H) {p:Addr} {ds:List D} {vs:List V} (h:H p=none) (r:AbsL K H ds vs):Go K G H (up G p (.lst ds)) (upd H p (.lst vs)) where
  tup:=bGq h
  dom:=λ a u e=>⟨u,by rw [aHq (aIq e h)];exact e⟩
  same:=λ a u e _=>by rw [aHq (aIq e h)];exact e
  new:=λ a u e n=>by rw [a9q (aIq e h)];exact n
  vw:=λ a u e=>by
    by_cases c:a=p
    . subst c;rw [a6q] at e;cases e
      exact ⟨vs,aNq,r.mono (bGq h)⟩
    . rw [a9q c] at e
      exact (v a u e).mono (bGq h) (aHq c)
theorem Go.setL (v:Vw K G H) {p:Addr} {ds0 ds:List D} {vs:List V} (h:G p=some (.lst ds0)) (r:AbsL K H ds vs):Go K G H (up G p (.lst ds)) (upd H p (.lst vs)):=by
  obtain ⟨us,hp,_⟩:=v p _ h
  exact {
    tup:=bHq hp
    dom:=λ a u e=>by
      by_cases c:a=p
      . subst c;exact ⟨_,aNq⟩
      . exact ⟨u,by rw [aHq c];exact e⟩
    same:=λ a u e n=>by
      have c:a≠p:=by rintro rfl;rw [h] at n;cases n
      rw [aHq c];exact e
    new:=λ a u e n=>by
      have c:a≠p:=by rintro rfl;rw [h] at n;cases n
      rw [a9q c];exact n
    vw:=λ a u e=>by
      by_cases c:a=p
      . subst c;rw [a6q] at e;cases e
        exact ⟨vs,aNq,r.mono (bHq hp)⟩
      . rw [a9q c] at e
        exact (v a u e).mono (bHq hp) (aHq c) }
theorem Go.grow (v:Vw K G H) (h:Same H H'):Go K G H G H':=by
  have ht:Mono K H H':=⟨λ b xs q=>by
    rcases q with q | q
    . rcases q with q | ⟨o,q⟩
      . exact .inl (.inl (h _ _ q))
      . exact .inl (.inr ⟨o,h _ _ q⟩)
    . exact .inr q,λ b xs q=>by
    rcases q with ⟨o,q⟩ | q
    . exact .inl ⟨o,h _ _ q⟩
    . exact .inr q,λ b o q=>h _ _ q⟩
  exact ⟨ht,λ a o e=>⟨o,h a o e⟩,λ a o e _=>h a o e,λ _ _ _ e=>e,λ a u e=>by
    obtain ⟨z,q⟩:=(v a u e).some
    exact (v a u e).mono ht (by rw [q];exact h _ _ q)⟩
end
structure Bears (K:PySem.W.Frag) (ρ:DSt) (G:DV) (σ:St) (H:Hp):Prop where
  len:ρ.length=σ.length
  st:∀ (i:Nat) (d:D),ρ[i]?=some (some d)->∃ v,σ[i]?=some (some v)/\Abs K H d v
  vw:Vw K G H
theorem Bears.go {K:PySem.W.Frag} {ρ:DSt} {G G':DV} {σ:St} {H H':Hp} (b:Bears K ρ G σ H) (g:Go K G H G' H'):Bears K ρ G' σ H':=
  ⟨b.len,λ i d e=>let ⟨v,h1,h2⟩:=b.st i d e;⟨v,h1,h2.mono g.tup⟩,g.vw⟩
theorem Bears.set {K:PySem.W.Frag} {ρ:DSt} {G:DV} {σ:St} {H:Hp} {d:D} {v:V} (b:Bears K ρ G σ H) (h:Abs K H d v) (i:Nat):Bears K (ρ.set i (some d)) G (σ.set i (some v)) H where
  len:=by simp [b.len]
  vw:=b.vw
  st:=λ j e he=>by
    by_cases c:j=i
    . subst c
      rw [List.getElem?_set] at he ⊢
      have l:=b.len
      simp only [if_true] at he ⊢
      split at he
      . next q=>rw [if_pos (by omega)];simp at he;subst he;exact ⟨v,rfl,h⟩
      . cases he
    . rw [List.getElem?_set_ne (by omega)] at he ⊢
      exact b.st j e he
def StSub (ρ ρ':DSt):Prop:=ρ.length=ρ'.length/\∀ (i:Nat) (d:D),ρ[i]?=some (some d)->ρ'[i]?=some (some d)
theorem StSub.refl (ρ:DSt):StSub ρ ρ:=⟨rfl,λ _ _ e=>e⟩
theorem Bears.weak {K:PySem.W.Frag} {ρ ρ':DSt} {G G':DV} {σ:St} {H:Hp} (b:Bears K ρ' G' σ H) (s:StSub ρ ρ') (g:Sub G G'):Bears K ρ G σ H:=
  ⟨s.1.trans b.len,λ i d e=>b.st i d (s.2 i d e),b.vw.sub g⟩
abbrev DK:=D->DV->Prop
abbrev DTE:=DSt->DV->DK->Prop
abbrev DTT:=DSt->DV->(Bool->DV->Prop)->Prop
abbrev DTA:=DSt->DV->(List D->DV->Prop)->Prop
abbrev DTO:=DSt->DV->(Option Int->DV->Prop)->Prop
structure DEnds where
  nx:DSt->DV->Prop
  rt:DK
  bk:DSt->DV->Prop:=λ _ _=>False
  ct:DSt->DV->Prop:=λ _ _=>False
abbrev DTS:=DEnds->DSt->DV->Prop
abbrev Fin (K:PySem.W.Frag) (G:DV) (H:Hp) (DQ:DK) (Q:VK):Prop:=∀ d G' v H',Go K G H G' H'->Abs K H' d v->DQ d G'->Q v H'
abbrev z6q (K:PySem.W.Frag) (G:DV) (H:Hp) (DQ:Bool->DV->Prop) (Q:Bool->Hp->Prop):Prop:=∀ b G' H',Go K G H G' H'->DQ b G'->Q b H'
abbrev FinO (K:PySem.W.Frag) (G:DV) (H:Hp) (DQ:Option Int->DV->Prop) (Q:Option Int->Hp->Prop):Prop:=∀ b G' H',Go K G H G' H'->DQ b G'->Q b H'
abbrev FinL (K:PySem.W.Frag) (n:Nat) (G:DV) (H:Hp) (DQ:List D->DV->Prop) (Q:List V->Hp->Prop):Prop:=∀ ds G' vs H',Go K G H G' H'->AbsL K H' ds vs->ds.length=n->DQ ds G'->Q vs H'
structure AE (X:Cx) (e:Expr) (t:DTE):Prop where
  run:∃ tc:TE,JE X e tc/\∀ ρ G DQ σ H Q,Bears X.K ρ G σ H->t ρ G DQ->Fin X.K G H DQ Q->tc σ H Q
structure AT (X:Cx) (e:Expr) (t:DTT):Prop where
  run:∃ tc:TT,JT X e tc/\∀ ρ G DQ σ H Q,Bears X.K ρ G σ H->t ρ G DQ->z6q X.K G H DQ Q->tc σ H Q
structure AW (X:Cx) (e:Expr) (t:DTT):Prop where
  run:∃ tc:TT,JW X e tc/\∀ ρ G DQ σ H Q,Bears X.K ρ G σ H->t ρ G DQ->z6q X.K G H DQ Q->tc σ H Q
structure AA (X:Cx) (es:List Expr) (t:DTA):Prop where
  run:∃ tc:TA,JA X es tc/\∀ ρ G DQ σ H Q,Bears X.K ρ G σ H->t ρ G DQ->FinL X.K es.length G H DQ Q->tc σ H Q
structure AO (X:Cx) (e:Option Expr) (t:DTO):Prop where
  run:∃ tc:TO,JO X e tc/\∀ ρ G DQ σ H Q,Bears X.K ρ G σ H->t ρ G DQ->FinO X.K G H DQ Q->tc σ H Q
structure EndsOk (K:PySem.W.Frag) (G:DV) (H:Hp) (DD:DEnds) (Dc:Ends):Prop where
  nx:∀ ρ G' σ H',Go K G H G' H'->Bears K ρ G' σ H'->DD.nx ρ G'->Dc.nx σ H'
  rt:Fin K G H DD.rt Dc.rt
  bk:∀ ρ G' σ H',Go K G H G' H'->Bears K ρ G' σ H'->DD.bk ρ G'->Dc.bk σ H'
  ct:∀ ρ G' σ H',Go K G H G' H'->Bears K ρ G' σ H'->DD.ct ρ G'->Dc.ct σ H'
structure AS (X:Cx) (st:Stmt) (t:DTS):Prop where
  run:∃ tc:TS,JS X st tc/\∀ DD Dc ρ G σ H,Bears X.K ρ G σ H->t DD ρ G->EndsOk X.K G H DD Dc->tc Dc σ H
structure AB (X:Cx) (st:List Stmt) (t:DTS):Prop where
  run:∃ tc:TS,JB X st tc/\∀ DD Dc ρ G σ H,Bears X.K ρ G σ H->t DD ρ G->EndsOk X.K G H DD Dc->tc Dc σ H
abbrev DTG:=D->DSt->DV->(DSt->DV->Prop)->Prop
abbrev uEq:=List D->DSt->DV->(DSt->DV->Prop)->Prop
abbrev FinS (K:PySem.W.Frag) (G:DV) (H:Hp) (DQ:DSt->DV->Prop) (Q:St->Hp->Prop):Prop:=∀ ρ G' σ H',Go K G H G' H'->Bears K ρ G' σ H'->DQ ρ G'->Q σ H'
structure AG (X:Cx) (tg:Expr) (t:DTG):Prop where
  run:∃ tc:TG,JG X tg tc/\∀ d v ρ G DQ σ H Q,Bears X.K ρ G σ H->Abs X.K H d v->t d ρ G DQ->FinS X.K G H DQ Q->tc v σ H Q
structure AGs (X:Cx) (tgs:List Expr) (t:uEq):Prop where
  run:∃ tc:TGs,JGs X tgs tc/\∀ ds vs ρ G DQ σ H Q,Bears X.K ρ G σ H->AbsL X.K H ds vs->t ds ρ G DQ->FinS X.K G H DQ Q->tc vs σ H Q
abbrev DR1:=D->DV->DK->Prop
abbrev DR2:=D->D->DV->DK->Prop
abbrev DRL:=List D->DV->DK->Prop
structure AOp (X:Cx) (f:Value->Value->Sem Value) (r:DR2):Prop where
  run:∃ rc:R2,JOp X f rc/\∀ x y vx vy G H DQ Q,Vw X.K G H->Abs X.K H x vx->Abs X.K H y vy->r x y G DQ->Fin X.K G H DQ Q->rc vx vy H Q
structure AUn (X:Cx) (f:Value->Sem Value) (r:DR1):Prop where
  run:∃ rc:V->Hp->VK->Prop,JUn X f rc/\∀ x vx G H DQ Q,Vw X.K G H->Abs X.K H x vx->r x G DQ->Fin X.K G H DQ Q->rc vx H Q
structure ACall (X:Cx) (f:Value) (r:DRL):Prop where
  run:∃ rc:List V->Hp->VK->Prop,JCall X f rc/\∀ xs vs G H DQ Q,Vw X.K G H->AbsL X.K H xs vs->r xs G DQ->Fin X.K G H DQ Q->rc vs H Q
structure AIx (X:Cx) (r:DR2):Prop where
  run:∃ rc:R2,JIx X rc/\∀ x y vx vy G H DQ Q,Vw X.K G H->Abs X.K H x vx->Abs X.K H y vy->r x y G DQ->Fin X.K G H DQ Q->rc vx vy H Q
structure ASl (X:Cx) (r:D->Option Int->Option Int->DV->DK->Prop):Prop where
  run:∃ rc,JSl X rc/\∀ x vx lo hi G H DQ Q,Vw X.K G H->Abs X.K H x vx->r x lo hi G DQ->Fin X.K G H DQ Q->rc vx lo hi H Q
theorem Fin.after {K:PySem.W.Frag} {G G1:DV} {H H1:Hp} {DQ:DK} {Q:VK} (F:Fin K G H DQ Q) (g:Go K G H G1 H1):Fin K G1 H1 DQ Q:=λ d G' v H' g' a q=>F d G' v H' (g.trans g') a q
theorem EndsOk.after {K:PySem.W.Frag} {G G1:DV} {H H1:Hp} {DD:DEnds} {Dc:Ends} (F:EndsOk K G H DD Dc) (g:Go K G H G1 H1):EndsOk K G1 H1 DD Dc:=
  ⟨λ ρ G' σ H' g' b q=>F.nx ρ G' σ H' (g.trans g') b q,λ d G' v H' g' a q=>F.rt d G' v H' (g.trans g') a q,λ ρ G' σ H' g' b q=>F.bk ρ G' σ H' (g.trans g') b q,λ ρ G' σ H' g' b q=>F.ct ρ G' σ H' (g.trans g') b q⟩
end L3
namespace L3
open PySem PySem.Spec L2
section
variable {X:Cx} {a b c e o i:Expr} {es:List Expr} {ta tb te to ti:DTE} {t:DTA} {pos p apos cpos:Pos}
abbrev dC (d:D):DTE:=λ _ G Q=>Q d G
abbrev dVar (k:Nat):DTE:=λ ρ G Q=>match ρ[k]? with
  | some (some d)=>Q d G
  | _=>False
theorem uFq {v:V} {d:D} (h:JE X e (tC v)) (r:∀ H,Abs X.K H d v):AE X e (dC d):=⟨_,h,λ ρ G DQ σ H Q B q F=>F d G v H (.refl B.vw) (r H) q⟩
theorem a2q {n:Int} {j}:AE X (.Constant (.int n) j pos) (dC (.int n)):=uFq y0q λ _=>rfl
theorem cZq {n:Bool} {j}:AE X (.Constant (.bool n) j pos) (dC (.bl n)):=uFq zPq λ _=>rfl
theorem hRq {j}:AE X (.Constant .none j pos) (dC .non):=uFq yJq λ _=>rfl
theorem aCq {x:Str} {j}:AE X (.Constant (.str x) j pos) (dC (.str x)):=uFq xUq λ _=>rfl
theorem a1q (k:Nat) {x:Str} (hN:X.N[k]?=some x:=by rfl) (hv:Vis X.env.scope x:=by first | exact Or.inl rfl | exact Or.inr (Or.inl rfl) | exact Or.inr (Or.inr rfl)) (hd:(x==("__debug__" : Str))=false:=by decide)
    (hcd:(x==("__classdict__" : Str))=false:=by decide):AE X (.Name x pos) (dVar k):=⟨_,jv k hN hv hd hcd,λ ρ G DQ σ H Q B q F=>by
  unfold dVar at q
  split at q
  . next d h=>
    obtain ⟨v,h1,h2⟩:=B.st k d h
    exact ⟨v,h1,F d G v H (.refl B.vw) h2 q⟩
  . exact q.elim⟩
theorem cXq {x:Str} {n:String} (hg:Gl X x) (hm:X.mg x=none) (hv:bootBuiltins x=some (.type n)) (hn:x≠"__name__":=by decide) (hd:(x==("__debug__" : Str))=false:=by decide):AE X (.Name x pos) (dC (.ty n)):=
  uFq (sUq (v:=.ty n) hg hm hv rfl hn hd) λ _=>rfl
theorem cGq {x:Str} {v:V} {u:Value} {d:D} (hg:Gl X x) (hm:X.mg x=some u) (r:RelV v u) (ha:∀ H,Abs X.K H d v) (hd:(x==("__debug__" : Str))=false:=by decide):AE X (.Name x pos) (dC d):=uFq (tDq hg hm r hd) ha
abbrev dNil:DTA:=λ _ G Q=>Q [] G
abbrev aB2q (ta:DTE) (tr:DTA):DTA:=λ ρ G Q=>ta ρ G λ x G1=>tr ρ G1 λ xs G2=>Q (x::xs) G2
theorem a4q:AA X [] dNil:=⟨_,xAq,λ ρ G DQ σ H Q B q F=>F [] G [] H (.refl B.vw) rfl rfl q⟩
theorem a0q (ha:AE X e te) (hr:AA X es t) (hs:aXq e=true:=by rfl):AA X (e::es) (aB2q te t):=by
  obtain ⟨ca,ja,ra⟩:=ha.run
  obtain ⟨cr,jr,rr⟩:=hr.run
  refine ⟨_,sOq ja jr hs,λ ρ G DQ σ H Q B q F=>?_⟩
  refine ra ρ G _ σ H _ B q λ x G1 v H1 g1 ax q1=>rr ρ G1 _ σ H1 _ (B.go g1) q1 λ xs G2 vs H2 g2 axs hl q2=>?_
  exact F (x::xs) G2 (v::vs) H2 (g1.trans g2) ⟨v,vs,rfl,ax.mono g2.tup,axs⟩ (by simp [hl]) q2
abbrev dTup (t:DTA):DTE:=λ ρ G Q=>t ρ G λ ds G1=>Q (.tup ds) G1
abbrev dLst (t:DTA):DTE:=λ ρ G Q=>t ρ G λ ds G1=>∀ p,G1 p=none->Q (.ref p) (up G1 p (.lst ds))
theorem j3q {n:Nat} (h:Nat.ble n 1000=true):n<=sizeLine:=by
  have:=Nat.le_of_ble_eq_true h
  rw [sizeLine_eq];omega
theorem bBq {x1} (h:AA X es t) (hl:Nat.ble es.length 1000=true:=by rfl):AE X (.Tuple es x1 pos) (dTup t):=by
  obtain ⟨ca,ja,ra⟩:=h.run
  refine ⟨_,uMq ja,λ ρ G DQ σ H Q B q F=>ra ρ G _ σ H _ B q λ ds G1 vs H1 g1 al hn q1=>⟨by rw [al.len,hn];exact j3q hl,λ p hp=>?_⟩⟩
  have g2:=Go.newT (o:=.tup vs) g1.vw hp
  exact F (.tup ds) G1 _ _ (g1.trans g2) ⟨p,vs,rfl,.of aNq,al.mono g2.tup⟩ q1
theorem bMq (h:AA X es t) (hl:Nat.ble es.length 1000=true:=by rfl):AE X (.List es pos) (dLst t):=by
  obtain ⟨ca,ja,ra⟩:=h.run
  refine ⟨_,rOq ja,λ ρ G DQ σ H Q B q F=>ra ρ G _ σ H _ B q λ ds G1 vs H1 g1 al hn q1=>⟨by rw [al.len,hn];exact j3q hl,λ p hp=>?_⟩⟩
  exact F (.ref p) _ _ _ (g1.trans (Go.newL g1.vw hp al)) rfl (q1 p (g1.vw.none hp))
def atN (ds:List D):Int->Option D
  | .ofNat k=>ds[k]?
  | .negSucc k=>atI ds (.negSucc k)
theorem rCq (ds:List D) (i:Int):atN ds i=atI ds i:=by
  cases i with
  | negSucc k=>rfl
  | ofNat k=>
    show ds[k]?=atI ds (k:Int)
    by_cases h:k < ds.length
    . rw [List.getElem?_eq_getElem h]
      exact (cDq (List.getElem?_eq_getElem h)).symm
    . rw [List.getElem?_eq_none (by omega)]
      unfold atI ixN
      rw [if_pos (by omega),if_neg (by omega)];rfl
def atD (ds:List D) (i:Int) (G:DV) (Q:DK):Prop:=match atN ds i with
  | some d=>Q d G
  | none=>False
theorem qZq {ds:List D} {i:Int} {G:DV} {Q:DK} {d:D} (h:atI ds i=some d) (q:Q d G):atD ds i G Q:=by unfold atD;rw [rCq,h];exact q
@[irreducible] def onL (G:DV) (l:Addr) (k:List D->Prop):Prop:=match G l with
  | some (.lst ds)=>k ds
  | _=>False
@[irreducible] def onM (G:DV) (l:Addr) (k:List D->Prop):Prop:=match G l with
  | some (.lst ds)=>k ds
  | _=>False
theorem aSq {G:DV} {l:Addr} {k:List D->Prop} {ds:List D} (h:G l=some (.lst ds)) (q:k ds):onL G l k:=by unfold onL;rw [h];exact q
theorem b5q {G:DV} {l:Addr} {k:List D->Prop} {ds:List D} (h:G l=some (.lst ds)) (q:k ds):onM G l k:=by unfold onM;rw [h];exact q
theorem b2q {K:PySem.W.Frag} {G:DV} {H:Hp} {l:Addr} {k:List D->Prop} (v:Vw K G H) (h:onL G l k):∃ ds vs,k ds/\SqL K H l vs/\AbsL K H ds vs:=by
  unfold onL at h
  split at h
  . next ds e=>obtain ⟨vs,z,r⟩:=v _ _ e;exact ⟨ds,vs,h,.of z,r⟩
  . exact h.elim
theorem c3q {K:PySem.W.Frag} {G:DV} {H:Hp} {l:Addr} {k:List D->Prop} (v:Vw K G H) (h:onM G l k):∃ ds vs,k ds/\G l=some (.lst ds)/\H l=some (.lst vs)/\AbsL K H ds vs:=by
  unfold onM at h
  split at h
  . next ds e=>obtain ⟨vs,z,r⟩:=v _ _ e;exact ⟨ds,vs,h,e,z,r⟩
  . exact h.elim
abbrev dOp (r:DR2) (ta tb:DTE):DTE:=λ ρ G Q=>ta ρ G λ x G1=>tb ρ G1 λ y G2=>r x y G2 Q
abbrev dUn (r:DR1) (ta:DTE):DTE:=λ ρ G Q=>ta ρ G λ x G1=>r x G1 Q
theorem aFq {op:Operator} {r:DR2} (ho:AOp X (binaryOp op) r) (ha:AE X a ta) (hb:AE X b tb):AE X (.BinOp a op b pos) (dOp r ta tb):=by
  obtain ⟨ca,ja,ra⟩:=ha.run
  obtain ⟨cb,jb,rb⟩:=hb.run
  obtain ⟨co,jo,ro⟩:=ho.run
  refine ⟨_,zAq jo ja jb,λ ρ G DQ σ H Q B q F=>?_⟩
  exact ra ρ G _ σ H _ B q λ x G1 v H1 g1 ax q1=>rb ρ G1 _ σ H1 _ (B.go g1) q1 λ y G2 u H2 g2 ay q2=>ro x y v u G2 H2 DQ Q g2.vw (ax.mono g2.tup) ay q2 (F.after (g1.trans g2))
theorem h5q {op:CmpOp} {r:DR2} (ho:AOp X (compareOp op) r) (ha:AE X a ta) (hb:AE X b tb) (hm:behindInMarks op b=false):AE X (.Compare a [op] [b] pos) (dOp r ta tb):=by
  obtain ⟨ca,ja,ra⟩:=ha.run
  obtain ⟨cb,jb,rb⟩:=hb.run
  obtain ⟨co,jo,ro⟩:=ho.run
  refine ⟨_,sHq jo ja jb hm,λ ρ G DQ σ H Q B q F=>?_⟩
  exact ra ρ G _ σ H _ B q λ x G1 v H1 g1 ax q1=>rb ρ G1 _ σ H1 _ (B.go g1) q1 λ y G2 u H2 g2 ay q2=>ro x y v u G2 H2 DQ Q g2.vw (ax.mono g2.tup) ay q2 (F.after (g1.trans g2))
theorem t3q {op:UnaryOp} {r:DR1} (ho:AUn X (unaryOp op) r) (ha:AE X a ta):AE X (.UnaryOp op a pos) (dUn r ta):=by
  obtain ⟨ca,ja,ra⟩:=ha.run
  obtain ⟨co,jo,ro⟩:=ho.run
  refine ⟨_,aB4q jo ja,λ ρ G DQ σ H Q B q F=>?_⟩
  exact ra ρ G _ σ H _ B q λ x G1 v H1 g1 ax q1=>ro x v G1 H1 DQ Q g1.vw ax q1 (F.after g1)
theorem aWq {r:DR2} (hr:AIx X r) (ha:AE X a ta) (hb:AE X b tb) (hs:gLq b):AE X (.Subscript a b pos) (dOp r ta tb):=by
  obtain ⟨ca,ja,ra⟩:=ha.run
  obtain ⟨cb,jb,rb⟩:=hb.run
  obtain ⟨co,jo,ro⟩:=hr.run
  refine ⟨_,xRq jo ja jb hs,λ ρ G DQ σ H Q B q F=>?_⟩
  exact ra ρ G _ σ H _ B q λ x G1 v H1 g1 ax q1=>rb ρ G1 _ σ H1 _ (B.go g1) q1 λ y G2 u H2 g2 ay q2=>ro x y v u G2 H2 DQ Q g2.vw (ax.mono g2.tup) ay q2 (F.after (g1.trans g2))
def Br (c:Bool) (A B:Prop):Prop:=(c=true->A)/\(c=false->B)
theorem Br.yes {c:Bool} {A B:Prop} (h:c=true) (q:A):Br c A B:=⟨λ _=>q,λ z=>absurd (h.symm.trans z) (by decide)⟩
theorem Br.no {c:Bool} {A B:Prop} (h:c=false) (q:B):Br c A B:=⟨λ z=>absurd (h.symm.trans z) (by decide),λ _=>q⟩
abbrev blD (x:D) (k:Bool->Prop):Prop:=match x with
  | .bl c=>k c
  | _=>False
theorem fYq {K:PySem.W.Frag} {H:Hp} {x:D} {v:V} {k:Bool->Prop} (h:blD x k) (r:Abs K H x v):∃ c,v=.bl c/\x=.bl c/\k c:=by
  unfold blD at h
  split at h
  . exact ⟨_,r,rfl,h⟩
  . exact h.elim
abbrev z5q (ta tb:DTE):DTE:=λ ρ G Q=>ta ρ G λ x G1=>blD x λ c=>Br c (tb ρ G1 Q) (Q (.bl false) G1)
abbrev dOrV (ta tb:DTE):DTE:=λ ρ G Q=>ta ρ G λ x G1=>blD x λ c=>Br c (Q (.bl true) G1) (tb ρ G1 Q)
abbrev yVq (ta:DTE):DTE:=λ ρ G Q=>ta ρ G λ x G1=>blD x λ c=>Q (.bl (!c)) G1
theorem hNq {op} (h:AE X a ta):AE X (.BoolOp op [a] pos) ta:=by
  obtain ⟨ca,ja,ra⟩:=h.run
  exact ⟨_,yEq ja,ra⟩
theorem fCq {rest:List Expr} (ha:AE X a ta) (hb:AE X (.BoolOp .And (b::rest) pos) tb):AE X (.BoolOp .And (a::b::rest) pos) (z5q ta tb):=by
  obtain ⟨ca,ja,ra⟩:=ha.run
  obtain ⟨cb,jb,rb⟩:=hb.run
  refine ⟨_,w1q ja jb,λ ρ G DQ σ H Q B q F=>ra ρ G _ σ H _ B q λ x G1 v H1 g1 ax q1=>?_⟩
  obtain ⟨c,e1,e2,q2⟩:=fYq q1 ax
  refine ⟨c,e1,?_⟩
  cases c with
  | true=>exact rb ρ G1 _ σ H1 _ (B.go g1) (q2.1 rfl) (F.after g1)
  | false=>exact F (.bl false) _ _ _ g1 rfl (q2.2 rfl)
theorem zZq {rest:List Expr} (ha:AE X a ta) (hb:AE X (.BoolOp .Or (b::rest) pos) tb):AE X (.BoolOp .Or (a::b::rest) pos) (dOrV ta tb):=by
  obtain ⟨ca,ja,ra⟩:=ha.run
  obtain ⟨cb,jb,rb⟩:=hb.run
  refine ⟨_,aE8q ja jb,λ ρ G DQ σ H Q B q F=>ra ρ G _ σ H _ B q λ x G1 v H1 g1 ax q1=>?_⟩
  obtain ⟨c,e1,e2,q2⟩:=fYq q1 ax
  refine ⟨c,e1,?_⟩
  cases c with
  | false=>exact rb ρ G1 _ σ H1 _ (B.go g1) (q2.2 rfl) (F.after g1)
  | true=>exact F (.bl true) _ _ _ g1 rfl (q2.1 rfl)
theorem rJq (ha:AE X a ta):AE X (.UnaryOp .Not a pos) (yVq ta):=by
  obtain ⟨ca,ja,ra⟩:=ha.run
  refine ⟨_,y5q ja,λ ρ G DQ σ H Q B q F=>ra ρ G _ σ H _ B q λ x G1 v H1 g1 ax q1=>?_⟩
  obtain ⟨c,e1,e2,q2⟩:=fYq q1 ax
  exact ⟨c,e1,F (.bl (!c)) _ _ _ g1 rfl q2⟩
abbrev dIf (tc:DTT) (ta tb:DTE):DTE:=λ ρ G Q=>tc ρ G λ c G1=>Br c (ta ρ G1 Q) (tb ρ G1 Q)
theorem jOq {tc:DTT} (hc:AT X c tc) (ha:AE X a ta) (hb:AE X b tb):AE X (.IfExp c a b pos) (dIf tc ta tb):=by
  obtain ⟨cc,jc,rc⟩:=hc.run
  obtain ⟨ca,ja,ra⟩:=ha.run
  obtain ⟨cb,jb,rb⟩:=hb.run
  refine ⟨_,pJq jc ja jb,λ ρ G DQ σ H Q B q F=>rc ρ G _ σ H _ B q λ c G1 H1 g1 q1=>?_⟩
  cases c with
  | true=>exact ra ρ G1 _ σ H1 _ (B.go g1) (q1.1 rfl) (F.after g1)
  | false=>exact rb ρ G1 _ σ H1 _ (B.go g1) (q1.2 rfl) (F.after g1)
abbrev xCq (t:DTE):DTT:=λ ρ G Q=>t ρ G λ x G1=>blD x λ c=>Q c G1
theorem aKq {op:CmpOp} {r:DR2} (ho:AOp X (compareOp op) r) (ha:AE X a ta) (hb:AE X b tb) (hm:behindInMarks op b=false):AT X (.Compare a [op] [b] pos) (xCq (dOp r ta tb)):=by
  obtain ⟨ca,ja,ra⟩:=ha.run
  obtain ⟨cb,jb,rb⟩:=hb.run
  obtain ⟨co,jo,ro⟩:=ho.run
  refine ⟨_,u3q jo ja jb hm,λ ρ G DQ σ H Q B q F=>?_⟩
  refine ra ρ G _ σ H _ B q λ x G1 v H1 g1 ax q1=>rb ρ G1 _ σ H1 _ (B.go g1) q1 λ y G2 u H2 g2 ay q2=>ro x y v u G2 H2 _ _ g2.vw (ax.mono g2.tup) ay q2 λ z G3 w H3 g3 az q3=>?_
  obtain ⟨c,e1,e2,q4⟩:=fYq q3 az
  exact ⟨c,e1,F c G3 H3 ((g1.trans g2).trans g3) q4⟩
abbrev dNot (tc:DTT):DTT:=λ ρ G Q=>tc ρ G λ c G1=>Q (!c) G1
abbrev dAnd (tc td:DTT):DTT:=λ ρ G Q=>tc ρ G λ c G1=>Br c (td ρ G1 Q) (Q false G1)
abbrev dOr (tc td:DTT):DTT:=λ ρ G Q=>tc ρ G λ c G1=>Br c (Q true G1) (td ρ G1 Q)
theorem i4q {tc:DTT} (ha:AT X a tc):AT X (.UnaryOp .Not a pos) (dNot tc):=by
  obtain ⟨ca,ja,ra⟩:=ha.run
  exact ⟨_,x6q ja,λ ρ G DQ σ H Q B q F=>ra ρ G _ σ H _ B q λ c G1 H1 g1 q1=>F _ _ _ g1 q1⟩
theorem n5q {tc:DTT} (ha:AT X a tc):AW X (.BoolOp .And [a] pos) tc:=by
  obtain ⟨ca,ja,ra⟩:=ha.run
  exact ⟨_,tPq ja,ra⟩
theorem hGq {tc:DTT} (ha:AT X a tc):AW X (.BoolOp .Or [a] pos) tc:=by
  obtain ⟨ca,ja,ra⟩:=ha.run
  exact ⟨_,v3q ja,ra⟩
theorem rGq {tc td:DTT} {rest:List Expr} (ha:AT X a tc) (hb:AW X (.BoolOp .And (b::rest) pos) td):AW X (.BoolOp .And (a::b::rest) pos) (dAnd tc td):=by
  obtain ⟨ca,ja,ra⟩:=ha.run
  obtain ⟨cb,jb,rb⟩:=hb.run
  refine ⟨_,vRq ja jb,λ ρ G DQ σ H Q B q F=>ra ρ G _ σ H _ B q λ c G1 H1 g1 q1=>?_⟩
  cases c with
  | true=>exact rb ρ G1 _ σ H1 _ (B.go g1) (q1.1 rfl) λ c G' H' g'=>F c G' H' (g1.trans g')
  | false=>exact F _ _ _ g1 (q1.2 rfl)
theorem kBq {tc td:DTT} {rest:List Expr} (ha:AT X a tc) (hb:AW X (.BoolOp .Or (b::rest) pos) td):AW X (.BoolOp .Or (a::b::rest) pos) (dOr tc td):=by
  obtain ⟨ca,ja,ra⟩:=ha.run
  obtain ⟨cb,jb,rb⟩:=hb.run
  refine ⟨_,zUq ja jb,λ ρ G DQ σ H Q B q F=>ra ρ G _ σ H _ B q λ c G1 H1 g1 q1=>?_⟩
  cases c with
  | false=>exact rb ρ G1 _ σ H1 _ (B.go g1) (q1.2 rfl) λ c G' H' g'=>F c G' H' (g1.trans g')
  | true=>exact F _ _ _ g1 (q1.1 rfl)
theorem AW.at {tc:DTT} (h:AW X e tc):AT X e tc:=by
  obtain ⟨ca,ja,ra⟩:=h.run
  exact ⟨_,ja.pt,ra⟩
def truD (x:D) (G:DV) (k:Bool->Prop):Prop:=match x with
  | .non=>k false
  | .bl b=>k b
  | .int i=>k (i !=0)
  | .str y=>y.length<=sizeLine/\k ((y.length:Int) !=0)
  | .tup ds=>k (!ds.isEmpty)
  | .ref p=>onL G p λ ds=>k (!ds.isEmpty)
  | _=>False
theorem AbsL.isEmpty {K:PySem.W.Frag} {H:Hp} {ds:List D} {vs:List V} (h:AbsL K H ds vs):vs.isEmpty=ds.isEmpty:=by
  have:=h.len
  cases ds<;>cases vs<;>simp_all
abbrev xDq (t:DTE):DTT:=λ ρ G Q=>t ρ G λ x G1=>truD x G1 λ c=>Q c G1
theorem b9q (ha:AE X a ta) (he:∀ whole,isTrue a X.env whole=(do let v ← whole;standAt a.pos;holding [v] (truthy v)):=by intro _;rfl):AT X a (xDq ta):=by
  obtain ⟨ca,ja,ra⟩:=ha.run
  refine ⟨_,oNq ja he,λ ρ G DQ σ H Q B q F=>ra ρ G _ σ H _ B q λ x G1 v H1 g1 ax q1=>?_⟩
  cases x with
  | non=>cases ax;exact ⟨_,rfl,F _ _ _ g1 q1⟩
  | bl b=>cases ax;exact ⟨_,rfl,F _ _ _ g1 q1⟩
  | int i=>cases ax;exact ⟨_,rfl,F _ _ _ g1 q1⟩
  | str y=>cases ax;exact ⟨_,⟨q1.1,rfl⟩,F _ _ _ g1 q1.2⟩
  | ref l=>
    cases ax
    obtain ⟨ds,vs,k,s,r⟩:=b2q g1.vw q1
    exact ⟨_,.inl ⟨vs,s,rfl⟩,by rw [r.isEmpty];exact F _ _ _ g1 k⟩
  | tup ds=>
    obtain ⟨l,vs,rfl,s,r⟩:=ax
    exact ⟨_,.inr (.inl ⟨vs,s,rfl⟩),by rw [r.isEmpty];exact F _ _ _ g1 q1⟩
  | ty n=>exact (show False from q1).elim
  | frl ds=>exact (show False from q1).elim
abbrev rTq:DTO:=λ _ G Q=>Q none G
abbrev zYq (t:DTE):DTO:=λ ρ G Q=>t ρ G λ x G1=>match x with
  | .int i=>Q (some i) G1
  | _=>False
theorem j0q:AO X none rTq:=⟨_,sQq,λ ρ G DQ σ H Q B q F=>F none G H (.refl B.vw) q⟩
theorem jDq (h:AE X e te):AO X (some e) (zYq te):=by
  obtain ⟨ca,ja,ra⟩:=h.run
  refine ⟨_,sMq ja,λ ρ G DQ σ H Q B q F=>ra ρ G _ σ H _ B q λ x G1 v H1 g1 ax q1=>?_⟩
  split at q1
  . next i=>exact ⟨i,ax,F _ _ _ g1 q1⟩
  . exact q1.elim
abbrev dSl (r:D->Option Int->Option Int->DV->DK->Prop) (te:DTE) (tl th:DTO):DTE:=λ ρ G Q=>te ρ G λ x G1=>tl ρ G1 λ l G2=>th ρ G2 λ u G3=>r x l u G3 Q
theorem fZq {r:D->Option Int->Option Int->DV->DK->Prop} {lo hi:Option Expr} {tl th:DTO} {p2:Pos} (hr:ASl X r) (he:AE X e te) (hl:AO X lo tl) (hu:AO X hi th):AE X (.Subscript e (.Slice lo hi none p2) pos) (dSl r te tl th):=by
  obtain ⟨ce,je,re⟩:=he.run
  obtain ⟨cl,jl,rl⟩:=hl.run
  obtain ⟨cu,ju,ru⟩:=hu.run
  obtain ⟨cr,jr,rr⟩:=hr.run
  refine ⟨_,pIq jr je jl ju,λ ρ G DQ σ H Q B q F=>re ρ G _ σ H _ B q λ x G1 v H1 g1 ax q1=>rl ρ G1 _ σ H1 _ (B.go g1) q1 λ l G2 H2 g2 q2=>ru ρ G2 _ σ H2 _ ((B.go g1).go g2) q2 λ u G3 H3 g3 q3=>?_⟩
  exact rr x v l u G3 H3 DQ Q g3.vw ((ax.mono g2.tup).mono g3.tup) q3 (F.after ((g1.trans g2).trans g3))
abbrev zQq:DTS:=λ D ρ G=>D.nx ρ G
abbrev dSeq (t u:DTS):DTS:=λ D ρ G=>t { D with nx:=u D } ρ G
abbrev yTq (te:DTE):DTS:=λ D ρ G=>te ρ G λ _ G1=>D.nx ρ G1
abbrev dRet (te:DTE):DTS:=λ D ρ G=>te ρ G D.rt
abbrev zOq:DTS:=λ D _ G=>D.rt .non G
abbrev dIfS (c:DTT) (t u:DTS):DTS:=λ D ρ G=>c ρ G λ b G1=>Br b (t D ρ G1) (u D ρ G1)
theorem aOq:AB X [] zQq:=⟨_,xGq,λ DD Dc ρ G σ H B q F=>F.nx ρ G σ H (.refl B.vw) B q⟩
theorem a3q {st:Stmt} {rest:List Stmt} {ts us:DTS} (h1:AS X st ts) (h2:AB X rest us):AB X (st::rest) (dSeq ts us):=by
  obtain ⟨c1,j1,r1⟩:=h1.run
  obtain ⟨c2,j2,r2⟩:=h2.run
  refine ⟨_,sYq j1 j2,λ DD Dc ρ G σ H B q F=>r1 _ _ ρ G σ H B q ⟨λ ρ' G' σ' H' g b q=>r2 DD Dc ρ' G' σ' H' b q (F.after g),F.rt,F.bk,F.ct⟩⟩
theorem a7q {st:Stmt} {ts:DTS} (h1:AS X st ts):AB X [st] ts:=by
  obtain ⟨c1,j1,r1⟩:=h1.run
  exact ⟨_,wZq j1,r1⟩
theorem bFq (he:AE X e te) (hs:swapsWith e none pos.line X.env=pure false:=by rfl):AS X (.Expr e pos) (yTq te):=by
  obtain ⟨c1,j1,r1⟩:=he.run
  exact ⟨_,tAq j1 hs,λ DD Dc ρ G σ H B q F=>r1 ρ G _ σ H _ B q λ d G' v H' g _ q=>F.nx ρ G' σ H' g (B.go g) q⟩
theorem aDq (he:AE X e te):AS X (.Return (some e) pos) (dRet te):=by
  obtain ⟨c1,j1,r1⟩:=he.run
  exact ⟨_,xKq j1,λ DD Dc ρ G σ H B q F=>r1 ρ G _ σ H _ B q F.rt⟩
theorem tZq:AS X (.Return none pos) zOq:=⟨_,uCq,λ DD Dc ρ G σ H B q F=>F.rt .non G .non H (.refl B.vw) rfl q⟩
theorem aTq {ss us:List Stmt} {tc:DTT} {ts tu:DTS} (hc:AT X c tc) (ha:AB X ss ts) (hb:AB X us tu):AS X (.If c ss us pos) (dIfS tc ts tu):=by
  obtain ⟨cc,jc,rc⟩:=hc.run
  obtain ⟨ca,ja,ra⟩:=ha.run
  obtain ⟨cb,jb,rb⟩:=hb.run
  refine ⟨_,z1q jc ja jb,λ DD Dc ρ G σ H B q F=>rc ρ G _ σ H _ B q λ c G1 H1 g1 q1=>?_⟩
  cases c with
  | true=>exact ra DD Dc ρ G1 σ H1 (B.go g1) (q1.1 rfl) (F.after g1)
  | false=>exact rb DD Dc ρ G1 σ H1 (B.go g1) (q1.2 rfl) (F.after g1)
abbrev lCq (k:Nat):DTG:=λ d ρ G Q=>Q (ρ.set k (some d)) G
abbrev aA1q:uEq:=λ ds ρ G Q=>match ds with
  | []=>Q ρ G
  | _=>False
abbrev wVq (t:DTG) (u:uEq):uEq:=λ ds ρ G Q=>match ds with
  | d::r=>t d ρ G λ ρ' G'=>u r ρ' G' Q
  | []=>False
abbrev aD8q (t:uEq):DTG:=λ d ρ G Q=>match d with
  | .tup ds=>t ds ρ G Q
  | _=>False
theorem bDq {k:Nat} {x:Str} (hN:X.N.Nodup) (hi:X.N[k]?=some x) (hx:Loc X.env.scope x) (hf:X.fn x=true\/X.env.scope.names.lookup x=some .local:=by first | exact .inl rfl | exact .inr rfl | assumption):AG X (.Name x pos) (lCq k):=
  ⟨_,s0q hN hi hx hf,λ d v ρ G DQ σ H Q B a q F=>F _ G _ H (.refl B.vw) (B.set a k) q⟩
abbrev yYq (te:DTE) (g:DTG):DTS:=λ D ρ G=>te ρ G λ x G1=>g x ρ G1 D.nx
theorem r8q {tg:Expr} {g:DTG} (he:AE X e te) (hg:AG X tg g) (hs:swapsWithSole [tg] e pos.line X.env=pure false:=by rfl) (hw:swappedStores [tg] e X.env=pure none:=by rfl) (h1:(assignEach [tg] X.env).map (·.2)=[assign tg X.env]:=by rfl):AS X (.Assign [tg] e pos) (yYq te g):=by
  obtain ⟨c1,j1,r1⟩:=he.run
  obtain ⟨c2,j2,r2⟩:=hg.run
  exact ⟨_,yGq j1 j2 hs hw h1,λ DD Dc ρ G σ H B q F=>r1 ρ G _ σ H _ B q λ d G1 v H1 g1 a q1=>r2 d v ρ G1 _ σ H1 _ (B.go g1) a q1 λ ρ' G' σ' H' g' b q'=>F.nx ρ' G' σ' H' (g1.trans g') b q'⟩
theorem aGq {k:Nat} {x:Str} {pos':Pos} (hN:X.N.Nodup) (hi:X.N[k]?=some x) (hx:Loc X.env.scope x) (he:AE X e te) (hs:swapsWith e (some (.Name x pos')) pos.line X.env=pure false:=by rfl) (hf:X.fn x=true\/X.env.scope.names.lookup x=some .local:=by first | exact .inl rfl | exact .inr rfl | assumption) :
    AS X (.Assign [.Name x pos'] e pos) (yYq te (lCq k)):=by
  obtain ⟨c1,j1,r1⟩:=he.run
  exact ⟨_,wGq hN hi hx j1 hs hf,λ DD Dc ρ G σ H B q F=>r1 ρ G _ σ H _ B q λ d G1 v H1 g1 a q1=>F.nx _ G1 _ H1 g1 ((B.go g1).set a k) q1⟩
theorem tUq:AGs X [] aA1q:=⟨_,sEq,λ ds vs ρ G DQ σ H Q B a q F=>by
  cases ds with
  | nil=>cases a;exact ⟨rfl,F ρ G σ H (.refl B.vw) B q⟩
  | cons d r=>exact (show False from q).elim⟩
theorem jTq {tg:DTG} {u:uEq} (h1:AG X e tg) (h2:AGs X es u) (hs:(assignEach (e::es) X.env).map (·.2)=assign e X.env::(assignEach es X.env).map (·.2):=by rfl):AGs X (e::es) (wVq tg u):=by
  obtain ⟨c1,j1,r1⟩:=h1.run
  obtain ⟨c2,j2,r2⟩:=h2.run
  refine ⟨_,o9q j1 j2 hs,λ ds vs ρ G DQ σ H Q B a q F=>?_⟩
  cases ds with
  | nil=>exact (show False from q).elim
  | cons d r=>
    obtain ⟨v,us,rfl,ad,ar⟩:=a
    exact ⟨v,us,rfl,r1 d v ρ G _ σ H _ B ad q λ ρ' G' σ' H' g b q'=>r2 r us ρ' G' _ σ' H' _ b (ar.mono g.tup) q' λ ρ2 G2 σ2 H2 g2 b2 q2=>F ρ2 G2 σ2 H2 (g.trans g2) b2 q2⟩
theorem vLq {k n:Nat} {tg:uEq} (hc:X.calm=true) (h:AGs X es tg) (hl:es.length=n:=by rfl) (hn:(assignEach es X.env).length=n:=by rfl) (hst:(assignEach es X.env).findIdx? (·.1)=none:=by rfl)
    (hlen:∀ ds ρ G Q,tg ds ρ G Q->ds.length=n:=by intro ds ρ G Q h;match ds,h with | [],h=>(first | rfl | exact (show False from h).elim) | [_],h=>(first | rfl | exact (show False from h).elim) | [_,_],h=>(first | rfl | exact (show False from h).elim) | [_,_,_],h=>(first | rfl | exact (show False from h).elim) | _::_::_::_::_,h=>exact (show False from h).elim):AG X (.Tuple es k pos) (aD8q tg):=by
  obtain ⟨c1,j1,r1⟩:=h.run
  refine ⟨_,vGq (n:=n) hc j1 hn hst,λ d v ρ G DQ σ H Q B a q F=>?_⟩
  cases d with
  | tup ds=>
    obtain ⟨l,vs,rfl,s,r⟩:=a
    exact ⟨l,vs,rfl,s,by rw [r.len];exact hlen _ _ _ _ q,r1 ds vs ρ G DQ σ H Q B r q F⟩
  | _=>exact (show False from q).elim
end
end L3
namespace L3
open PySem PySem.Spec L2
section
variable {X:Cx}
def addD:DR2:=λ x y G Q=>match x,y with
  | .int i,.int j=>Q (.int (i+j)) G
  | .str i,.str j=>i.length+j.length<=sizeLine/\Q (.str (i++j)) G
  | .tup xs,.tup ys=>xs.length+ys.length<=sizeLine/\Q (.tup (xs++ys)) G
  | .ref l,.ref m=>onM G l λ xs=>onM G m λ ys=>xs.length+ys.length<=sizeLine/\∀ p,G p=none->Q (.ref p) (up G p (.lst (xs++ys)))
  | _,_=>False
theorem aLq:AOp X (binaryOp .Add) addD:=by
  refine ⟨_,⟨op_add.or (op_add_str.or (op_catW.or v7q))⟩,λ x y vx vy G H DQ Q v ax ay r F=>?_⟩
  cases x with
  | int i=>
    cases y with
    | int j=>cases ax;cases ay;exact .inl ⟨i,j,rfl,rfl,F (.int (i+j)) G _ H (.refl v) rfl r⟩
    | _=>exact (show False from r).elim
  | str i=>
    cases y with
    | str j=>cases ax;cases ay;exact .inr (.inl ⟨i,j,rfl,rfl,r.1,F (.str (i++j)) G _ H (.refl v) rfl r.2⟩)
    | _=>exact (show False from r).elim
  | tup xs=>
    cases y with
    | tup ys=>
      obtain ⟨l,vs,rfl,s1,r1⟩:=ax
      obtain ⟨m,us,rfl,s2,r2⟩:=ay
      have l1:=r1.len
      have l2:=r2.len
      refine .inr (.inr (.inl ⟨l,m,vs,us,rfl,rfl,s1,s2,by rw [l1,l2];exact r.1,λ e=>?_,λ e e2=>?_,λ e e2 p hp=>?_⟩))
      . subst e
        have e':xs=[]:=by cases xs<;>simp_all
        subst e'
        exact F (.tup ys) G _ H (.refl v) ⟨m,us,rfl,s2,r2⟩ (by simpa using r.2)
      . subst e2
        have e':ys=[]:=by cases ys<;>simp_all
        subst e'
        exact F (.tup xs) G _ H (.refl v) ⟨l,vs,rfl,s1,r1⟩ (by simpa using r.2)
      . have g:=Go.newT (o:=.tup (vs++us)) v hp
        exact F (.tup (xs++ys)) G _ _ g ⟨p,_,rfl,.of aNq,(r1.append r2).mono g.tup⟩ r.2
    | _=>exact (show False from r).elim
  | ref l=>
    cases y with
    | ref m=>
      cases ax;cases ay
      obtain ⟨xs,vs,k1,e1,h1,r1⟩:=c3q v r
      obtain ⟨ys,us,k2,e2,h2,r2⟩:=c3q v k1
      have l1:=r1.len
      have l2:=r2.len
      exact .inr (.inr (.inr ⟨l,m,vs,us,rfl,rfl,h1,h2,by rw [l1,l2];exact k2.1,λ p hp=>F (.ref p) _ _ _ (Go.newL v hp (r1.append r2)) rfl (k2.2 p (v.none hp))⟩))
    | _=>exact (show False from r).elim
  | _=>exact (show False from r).elim
def wNq (C:Int->Int->Prop) (g:Int->Int->D):DR2:=λ x y G Q=>match x,y with
  | .int i,.int j=>C i j/\Q (g i j) G
  | _,_=>False
def j1q (g:Int->Int->D):DR2:=λ x y G Q=>match x,y with
  | .int i,.int j=>Q (g i j) G
  | _,_=>False
theorem qAq {f:Value->Value->Sem Value} {C:Int->Int->Prop} {g:Int->Int->Int} (h:OpR X f (rI C λ i j=>.int (g i j))):AOp X f (wNq C λ i j=>.int (g i j)):=by
  refine ⟨_,⟨h⟩,λ x y vx vy G H DQ Q v ax ay r F=>?_⟩
  cases x with
  | int i=>
    cases y with
    | int j=>cases ax;cases ay;exact ⟨i,j,rfl,rfl,r.1,F (.int (g i j)) G _ H (.refl v) rfl r.2⟩
    | _=>exact (show False from r).elim
  | _=>exact (show False from r).elim
theorem xFq {f:Value->Value->Sem Value} {g:Int->Int->Int} (h:OpR X f (rI0 λ i j=>.int (g i j))):AOp X f (j1q λ i j=>.int (g i j)):=by
  refine ⟨_,⟨h⟩,λ x y vx vy G H DQ Q v ax ay r F=>?_⟩
  cases x with
  | int i=>
    cases y with
    | int j=>cases ax;cases ay;exact ⟨i,j,rfl,rfl,F (.int (g i j)) G _ H (.refl v) rfl r⟩
    | _=>exact (show False from r).elim
  | _=>exact (show False from r).elim
theorem k7q {f:Value->Value->Sem Value} {g:Int->Int->Bool} (h:OpR X f (rI0 λ i j=>.bl (g i j))):AOp X f (j1q λ i j=>.bl (g i j)):=by
  refine ⟨_,⟨h⟩,λ x y vx vy G H DQ Q v ax ay r F=>?_⟩
  cases x with
  | int i=>
    cases y with
    | int j=>cases ax;cases ay;exact ⟨i,j,rfl,rfl,F (.bl (g i j)) G _ H (.refl v) rfl r⟩
    | _=>exact (show False from r).elim
  | _=>exact (show False from r).elim
theorem aQq:AOp X (binaryOp .Sub) (j1q λ i j=>.int (i - j)):=xFq vUq
theorem bXq:AOp X (binaryOp .Mult) (wNq CMul λ i j=>.int (i * j)):=qAq vJq
theorem dMq:AOp X (binaryOp .FloorDiv) (wNq (λ _ j=>0 < j/\j < 2 ^ 64) λ i j=>.int (i / j)):=qAq q5q
theorem bJq:AOp X (binaryOp .Mod) (wNq (λ _ j=>0 < j) λ i j=>.int (i % j)):=qAq wEq
theorem sAq:AOp X (binaryOp .Pow) (wNq CPow λ i j=>.int (i ^ j.toNat)):=qAq yBq
theorem dDq:AOp X (compareOp .Lt) (j1q λ i j=>.bl (decide (i < j))):=k7q zGq
theorem i9q:AOp X (compareOp .LtE) (j1q λ i j=>.bl (decide (i<=j))):=k7q z0q
theorem fHq:AOp X (compareOp .Gt) (j1q λ i j=>.bl (decide (j < i))):=k7q aC7q
theorem w3q:AOp X (compareOp .GtE) (j1q λ i j=>.bl (decide (j<=i))):=k7q aC6q
def negD:DR1:=λ x G Q=>match x with
  | .int i=>Q (.int (-i)) G
  | _=>False
theorem jGq:AUn X (unaryOp .USub) negD:=by
  refine ⟨_,⟨v6q⟩,λ x vx G H DQ Q v ax r F=>?_⟩
  cases x with
  | int i=>cases ax;exact ⟨i,rfl,F (.int (-i)) G _ H (.refl v) rfl r⟩
  | _=>exact (show False from r).elim
def wYq:D->Bool
  | .non=>true
  | _=>false
def isN (neg:Bool):DR2:=λ x y G Q=>match y with
  | .non=>Q (.bl (neg ^^ wYq x)) G
  | _=>False
theorem nPq {K:PySem.W.Frag} {H:Hp} {x:D} {v:V} (a:Abs K H x v):decide (v=.non)=wYq x:=by
  cases x with
  | tup ds=>obtain ⟨_,_,rfl,_⟩:=a;rfl
  | frl ds=>obtain ⟨_,_,rfl,_⟩:=a;rfl
  | _=>cases a;rfl
theorem vXq:AOp X (compareOp .Is) (isN false):=by
  refine ⟨_,⟨y8q⟩,λ x y vx vy G H DQ Q v ax ay r F=>?_⟩
  cases y with
  | non=>cases ay;exact ⟨rfl,by rw [nPq ax];exact F (.bl _) G _ H (.refl v) rfl (by simpa [isN] using r)⟩
  | _=>exact (show False from r).elim
theorem lLq:AOp X (compareOp .IsNot) (isN true):=by
  refine ⟨_,⟨t2q⟩,λ x y vx vy G H DQ Q v ax ay r F=>?_⟩
  cases y with
  | non=>cases ay;exact ⟨rfl,by rw [nPq ax];exact F (.bl _) G _ H (.refl v) rfl (by simpa [isN] using r)⟩
  | _=>exact (show False from r).elim
theorem gQq {K:PySem.W.Frag} {H:Hp} {ds:List D} {vs:List V} {i:Int} {d:D} (r:AbsL K H ds vs) (h:atI ds i=some d):∃ v,atI vs i=some v/\Abs K H d v:=by
  unfold atI at h ⊢
  rw [r.len]
  cases e:ixN ds.length i with
  | none=>rw [e] at h;cases h
  | some j=>
    rw [e] at h
    exact r.get h
theorem g3q {ds:List D} {i:Int} {G:DV} {Q:DK} (h:atD ds i G Q):∃ d,atI ds i=some d/\Q d G:=by
  unfold atD at h
  rw [rCq] at h
  split at h
  . next d e=>exact ⟨d,e,h⟩
  . exact h.elim
def ixD:DR2:=λ x y G Q=>match x,y with
  | .tup ds,.int i=>atD ds i G Q
  | .ref l,.int i=>onL G l λ ds=>atD ds i G Q
  | .frl ds,.int i=>atD ds i G Q
  | .str z,.int i=>z.length<=sizeLine/\∃ c,atI z.cps.toList i=some c/\Q (.str ⟨#[c]⟩) G
  | _,_=>False
theorem qYq {ds:List D} {i:Int} {G:DV} {Q:DK} {d:D} (h:atI ds i=some d) (q:Q d G):ixD (.frl ds) (.int i) G Q:=qZq h q
theorem mBq {l:Addr} {ds:List D} {i:Int} {G:DV} {Q:DK} {d:D} (hl:G l=some (.lst ds)) (h:atI ds i=some d) (q:Q d G):ixD (.ref l) (.int i) G Q:=aSq hl (qZq h q)
theorem aix:AIx X ixD:=by
  refine ⟨_,⟨r1q⟩,λ x y vx vy G H DQ Q v ax ay r F=>?_⟩
  cases x with
  | tup ds=>
    cases y with
    | int i=>
      cases ay
      obtain ⟨l,vs,rfl,s,rl⟩:=ax
      obtain ⟨d,hd,q⟩:=g3q r
      obtain ⟨u,hu,ad⟩:=gQq rl hd
      exact .inr (.inl ⟨l,vs,i,u,rfl,rfl,s,hu,F d G u H (.refl v) ad q⟩)
    | _=>exact (show False from r).elim
  | ref l=>
    cases y with
    | int i=>
      cases ax;cases ay
      obtain ⟨ds,vs,k,s,rl⟩:=b2q v r
      obtain ⟨d,hd,q⟩:=g3q k
      obtain ⟨u,hu,ad⟩:=gQq rl hd
      exact .inl ⟨l,vs,i,u,rfl,rfl,s,hu,F d G u H (.refl v) ad q⟩
    | _=>exact (show False from r).elim
  | frl ds=>
    cases y with
    | int i=>
      cases ay
      obtain ⟨l,vs,rfl,s,rl⟩:=ax
      obtain ⟨d,hd,q⟩:=g3q r
      obtain ⟨u,hu,ad⟩:=gQq rl hd
      exact .inl ⟨l,vs,i,u,rfl,rfl,s.sq,hu,F d G u H (.refl v) ad q⟩
    | _=>exact (show False from r).elim
  | str z=>
    cases y with
    | int i=>
      cases ax;cases ay
      obtain ⟨hz,c,hc,q⟩:=r
      exact .inr (.inr ⟨z,i,c,rfl,rfl,hz,hc,F (.str ⟨#[c]⟩) G _ H (.refl v) rfl q⟩)
    | _=>exact (show False from r).elim
  | _=>exact (show False from r).elim
def slD:D->Option Int->Option Int->DV->DK->Prop:=λ x lo hi G Q=>match x with
  | .tup ds=>Q (.tup (cut ds lo hi)) G
  | .ref l=>onL G l λ ds=>∀ p,G p=none->Q (.ref p) (up G p (.lst (cut ds lo hi)))
  | .frl ds=>∀ p,G p=none->Q (.ref p) (up G p (.lst (cut ds lo hi)))
  | _=>False
theorem asl:ASl X slD:=by
  refine ⟨_,⟨sl_tupU.or s3q⟩,λ x vx lo hi G H DQ Q v ax r F=>?_⟩
  cases x with
  | tup ds=>
    obtain ⟨l,vs,rfl,s,rl⟩:=ax
    refine .inl ⟨l,vs,rfl,s,λ t H2 sm st=>?_⟩
    have g:=Go.grow v sm
    exact F (.tup (cut ds lo hi)) G _ _ g ⟨t,_,rfl,st,(rl.cut lo hi).mono g.tup⟩ r
  | ref l=>
    cases ax
    obtain ⟨ds,vs,k,s,rl⟩:=b2q v r
    exact .inr ⟨l,vs,rfl,s,λ p hp=>F (.ref p) _ _ _ (Go.newL v hp (rl.cut lo hi)) rfl (k p (v.none hp))⟩
  | frl ds=>
    obtain ⟨l,vs,rfl,s,rl⟩:=ax
    exact .inr ⟨l,vs,rfl,s.sq,λ p hp=>F (.ref p) _ _ _ (Go.newL v hp (rl.cut lo hi)) rfl (r p (v.none hp))⟩
  | _=>exact (show False from r).elim
def d0q:D->Bool
  | .non=>true
  | .bl _=>true
  | .int _=>true
  | .str _=>true
  | _=>false
def toV:D->V
  | .non=>.non
  | .bl b=>.bl b
  | .int i=>.int i
  | .str x=>.str x
  | _=>.non
theorem mJq {K:PySem.W.Frag} {H:Hp} {d:D} {v:V} (a:Abs K H d v) (h:d0q d=true):v=toV d/\f2q v=true:=by
  cases d with
  | non=>cases a;exact ⟨rfl,rfl⟩
  | bl b=>cases a;exact ⟨rfl,rfl⟩
  | int b=>cases a;exact ⟨rfl,rfl⟩
  | str b=>cases a;exact ⟨rfl,rfl⟩
  | _=>exact absurd h (by simp [d0q])
theorem ySq {K:PySem.W.Frag} {H:Hp}:∀ {ds:List D} {vs:List V},AbsL K H ds vs->ds.all d0q=true->vs=ds.map toV/\vs.all f2q=true
  | [],_,r,_=>by cases r;exact ⟨rfl,rfl⟩
  | _::_,_,⟨v,r,e,q,l⟩,h=>by
    subst e
    rw [List.all_cons,Bool.and_eq_true] at h
    obtain ⟨h1,h2⟩:=mJq q h.1
    obtain ⟨h3,h4⟩:=ySq l h.2
    exact ⟨by rw [List.map_cons,<- h1,<- h3],by rw [List.all_cons,h2,h4];rfl⟩
def eqF:D->D->Bool
  | .non,.non=>true
  | .bl a,.bl b=>a==b
  | .bl a,.int b=>(if a then 1 else 0)==b
  | .int a,.bl b=>a==(if b then 1 else 0)
  | .int a,.int b=>a==b
  | .str a,.str b=>a==b
  | _,_=>false
theorem aD6q {x y:D} (hx:d0q x=true) (hy:d0q y=true):eqV (toV x) (toV y)=eqF x y:=by
  cases x<;>cases y<;>first | rfl | (simp [d0q] at hx;done) | (simp [d0q] at hy;done)
def inL (x:D) (ds:List D):Bool:=ds.any λ y=>eqF y x
theorem rVq {x:D} (hx:d0q x=true):∀ {ds:List D},ds.all d0q=true->inV (toV x) (ds.map toV)=inL x ds
  | [],_=>rfl
  | d::ds,h=>by
    rw [List.all_cons,Bool.and_eq_true] at h
    have ih:=rVq hx h.2
    unfold inV inL at *
    rw [List.map_cons,List.any_cons,List.any_cons,ih,aD6q h.1 hx]
def inD (neg:Bool):DR2:=λ x y G Q=>match y with
  | .tup ds=>d0q x=true/\ds.all d0q=true/\Q (.bl (neg ^^ inL x ds)) G
  | .ref l=>onL G l λ ds=>d0q x=true/\ds.all d0q=true/\Q (.bl (neg ^^ inL x ds)) G
  | .str j=>(match x with
      | .str i=>Q (.bl (neg ^^ !(Builtin.Str.occurrences j i 0 j.length 1).isEmpty)) G
      | _=>False)
  | _=>False
theorem vYq:AOp X (compareOp .In) (inD false):=by
  refine ⟨_,⟨op_in_seq.or mHq⟩,λ x y vx vy G H DQ Q v ax ay r F=>?_⟩
  cases y with
  | tup ds=>
    obtain ⟨h1,h2,q⟩:=r
    obtain ⟨l,vs,rfl,s,rl⟩:=ay
    obtain ⟨e1,f1⟩:=mJq ax h1
    obtain ⟨e2,f2⟩:=ySq rl h2
    refine .inl ⟨l,vs,rfl,.inr s,f1,f2,?_⟩
    rw [e1,e2,rVq h1 h2]
    exact F (.bl _) G _ H (.refl v) rfl (by simpa using q)
  | ref l=>
    cases ay
    obtain ⟨ds,vs,⟨h1,h2,q⟩,s,rl⟩:=b2q v r
    obtain ⟨e1,f1⟩:=mJq ax h1
    obtain ⟨e2,f2⟩:=ySq rl h2
    refine .inl ⟨l,vs,rfl,.inl s,f1,f2,?_⟩
    rw [e1,e2,rVq h1 h2]
    exact F (.bl _) G _ H (.refl v) rfl (by simpa using q)
  | str j=>
    cases x with
    | str i=>cases ax;cases ay;exact .inr ⟨i,j,rfl,rfl,F (.bl _) G _ H (.refl v) rfl (by simpa [inD] using r)⟩
    | _=>exact (show False from r).elim
  | _=>exact (show False from r).elim
variable {e o:Expr} {es:List Expr} {te to:DTE} {t:DTA} {pos p apos cpos:Pos}
abbrev dCB (r:DRL) (t:DTA):DTE:=λ ρ G Q=>t ρ G λ ds G1=>r ds G1 Q
theorem aUq {x:Str} {id:String} {r:DRL} (hc:ACall X (.builtin id) r) (hg:Gl X x) (hm:X.mg x=none) (hv:bootBuiltins x=some (.builtin id)) (ha:AA X (e::es) t) (hn:x≠"__name__":=by decide) (hdb:(x==("__debug__" : Str))=false:=by decide)
    (hs:(e::es).all aXq=true:=by rfl):AE X (.Call (.Name x p) (e::es) [] pos) (dCB r t):=by
  obtain ⟨ca,ja,ra⟩:=ha.run
  obtain ⟨cc,jc,rc⟩:=hc.run
  exact ⟨_,oBq jc hg hm hv ja hn hdb hs,λ ρ G DQ σ H Q B q F=>ra ρ G _ σ H _ B q λ ds G1 vs H1 g1 al _ q1=>rc ds vs G1 H1 DQ Q g1.vw al q1 (F.after g1)⟩
theorem c6q {x:Str} {T:String} {r:DRL} (hc:ACall X (.type T) r) (hg:Gl X x) (hm:X.mg x=none) (hv:bootBuiltins x=some (.type T)) (ha:AA X (e::es) t) (hn:x≠"__name__":=by decide) (hdb:(x==("__debug__" : Str))=false:=by decide)
    (hs:(e::es).all aXq=true:=by rfl):AE X (.Call (.Name x p) (e::es) [] pos) (dCB r t):=by
  obtain ⟨ca,ja,ra⟩:=ha.run
  obtain ⟨cc,jc,rc⟩:=hc.run
  exact ⟨_,nCq jc hg hm hv ja hn hdb hs,λ ρ G DQ σ H Q B q F=>ra ρ G _ σ H _ B q λ ds G1 vs H1 g1 al _ q1=>rc ds vs G1 H1 DQ Q g1.vw al q1 (F.after g1)⟩
abbrev oIq (r:D->DV->DK->Prop):DRL:=λ xs G Q=>match xs with
  | [x]=>r x G Q
  | _=>False
abbrev yOq (r:D->D->DV->DK->Prop):DRL:=λ xs G Q=>match xs with
  | [x,y]=>r x y G Q
  | _=>False
theorem bTq {K:PySem.W.Frag} {H:Hp} {r:D->DV->DK->Prop} {xs:List D} {vs:List V} {G:DV} {Q:DK} (h:oIq r xs G Q) (a:AbsL K H xs vs):∃ x v,xs=[x]/\vs=[v]/\Abs K H x v/\r x G Q:=by
  unfold oIq at h
  split at h
  . obtain ⟨v,r,rfl,q,l⟩:=a;cases l;exact ⟨_,v,rfl,rfl,q,h⟩
  . exact h.elim
theorem k3q {K:PySem.W.Frag} {H:Hp} {r:D->D->DV->DK->Prop} {xs:List D} {vs:List V} {G:DV} {Q:DK} (h:yOq r xs G Q) (a:AbsL K H xs vs):∃ x y v u,xs=[x,y]/\vs=[v,u]/\Abs K H x v/\Abs K H y u/\r x y G Q:=by
  unfold yOq at h
  split at h
  . obtain ⟨v,r,rfl,q,u,r2,rfl,q2,l⟩:=a;cases l;exact ⟨_,_,v,u,rfl,rfl,q,q2,h⟩
  . exact h.elim
def lenD:D->DV->DK->Prop:=λ x G Q=>match x with
  | .tup ds=>Q (.int ds.length) G
  | .ref l=>onL G l λ ds=>Q (.int ds.length) G
  | .frl ds=>Q (.int ds.length) G
  | .str z=>z.length<=sizeLine/\Q (.int z.length) G
  | _=>False
theorem b7q:ACall X (.builtin "len") (oIq lenD):=by
  refine ⟨_,⟨call_len_seq.or hDq⟩,λ xs vs G H DQ Q v a r F=>?_⟩
  obtain ⟨x,u,rfl,rfl,ax,r⟩:=bTq r a
  cases x with
  | tup ds=>
    obtain ⟨l,ws,rfl,s,rl⟩:=ax
    exact .inl ⟨l,ws,rfl,.inr s,by rw [rl.len];exact F (.int ds.length) G _ H (.refl v) rfl r⟩
  | ref l=>
    cases ax
    obtain ⟨ds,ws,k,s,rl⟩:=b2q v r
    exact .inl ⟨l,ws,rfl,.inl s,by rw [rl.len];exact F (.int ds.length) G _ H (.refl v) rfl k⟩
  | frl ds=>
    obtain ⟨l,ws,rfl,s,rl⟩:=ax
    exact .inl ⟨l,ws,rfl,.inl s.sq,by rw [rl.len];exact F (.int ds.length) G _ H (.refl v) rfl r⟩
  | str z=>cases ax;exact .inr ⟨z,rfl,r.1,F (.int z.length) G _ H (.refl v) rfl r.2⟩
  | _=>exact (show False from r).elim
def intD:D->DV->DK->Prop:=λ x G Q=>match x with
  | .int i=>Q (.int i) G
  | .bl k=>Q (.int (if k then 1 else 0)) G
  | _=>False
theorem nUq:ACall X (.type "int") (oIq intD):=by
  refine ⟨_,⟨mYq⟩,λ xs vs G H DQ Q v a r F=>?_⟩
  obtain ⟨x,u,rfl,rfl,ax,r⟩:=bTq r a
  cases x with
  | int i=>cases ax;exact .inl ⟨i,rfl,F (.int i) G _ H (.refl v) rfl r⟩
  | bl k=>cases ax;exact .inr ⟨k,rfl,F (.int (if k then 1 else 0)) G _ H (.refl v) rfl r⟩
  | _=>exact (show False from r).elim
def tupD:D->DV->DK->Prop:=λ x G Q=>match x with
  | .tup ds=>Q (.tup ds) G
  | .ref l=>onL G l λ ds=>Q (.tup ds) G
  | _=>False
theorem iLq:ACall X (.type "tuple") (oIq tupD):=by
  refine ⟨_,⟨gTq⟩,λ xs vs G H DQ Q v a r F=>?_⟩
  obtain ⟨x,u,rfl,rfl,ax,r⟩:=bTq r a
  cases x with
  | tup ds=>
    obtain ⟨l,ws,rfl,s,rl⟩:=ax
    exact ⟨l,ws,rfl,.inr ⟨s,F (.tup ds) G _ H (.refl v) ⟨l,ws,rfl,s,rl⟩ r⟩⟩
  | ref l=>
    cases ax
    obtain ⟨ds,ws,k,s,rl⟩:=b2q v r
    refine ⟨l,ws,rfl,.inl ⟨s,λ p hp=>?_⟩⟩
    have g:=Go.newT (o:=.tup ws) v hp
    exact F (.tup ds) G _ _ g ⟨p,ws,rfl,.of aNq,rl.mono g.tup⟩ k
  | _=>exact (show False from r).elim
def eFq:List D->Option (List Int)
  | []=>some []
  | .int i::r=>(eFq r).map (i::·)
  | _::_=>none
theorem hAq:∀ {ds:List D} {ns:List Int},eFq ds=some ns->ds=ns.map D.int
  | [],ns,h=>by cases h;rfl
  | d::r,ns,h=>by
    cases d with
    | int i=>
      simp only [eFq,Option.map_eq_some_iff] at h
      obtain ⟨ms,h1,rfl⟩:=h
      rw [hAq h1];rfl
    | _=>simp [eFq] at h
theorem f5q:∀ ns:List Int,eFq (ns.map D.int)=some ns
  | []=>rfl
  | n::ns=>by simp [eFq,f5q ns]
end
end L3
namespace L2
open PySem PySem.Spec PyProof.Rows
def iSeq (K:PySem.W.Frag) (tl:TE):TI:=λ σ H R=>tl σ H λ x H1=>∃ a,x=.ref a/\(((∃ xs,SqL K H1 a xs)/\R (Itl K a) H1)\/((∃ xs,SqT K H1 a xs)/\R (Itt K a) H1))
theorem wTq {X:Cx} {tg l:Expr} {tl:TE} (hl:PE X l tl):PI X tg l (iSeq X.K tl):=by
  intro pins s σ H R I h
  refine thn (hl pins s σ H _ I h) λ v s1 ⟨x,H1,I1,r1,q1⟩=>?_
  obtain ⟨a,e,q1⟩:=q1
  subst e
  cases r1
  rcases q1 with ⟨⟨xs,hq⟩,q⟩ | ⟨⟨xs,hq⟩,q⟩
  . obtain ⟨its,rv,p,hz⟩:=I1.list hq
    refine wpAny_pyIter_list p.isList ?_
    refine ⟨s1.heap.objs.size,[s1.heap.objs.size],_,_,H1,rfl,I1.kept (t':=s1.toks) λ b o e=>Heap.get?_push_of_some _ e,nTq a _,⟨_,Heap.get?_push_size _ rfl,rfl,rfl⟩,λ b hb=>?_,q⟩
    have e:b=s1.heap.objs.size:=by simpa using hb
    subst e
    exact I1.fpOk (Nat.le_refl _) (I1.hok.fresh (Nat.le_refl _))
  . obtain ⟨its,rv,p,hz⟩:=I1.tuple hq
    refine wpAny_pyIter_tuple (show s1.heap.IsTuple a its.toArray from p) ?_
    refine ⟨s1.heap.objs.size,[s1.heap.objs.size],_,_,H1,rfl,I1.kept (t':=s1.toks) λ b o e=>Heap.get?_push_of_some _ e,kCq a _,⟨_,Heap.get?_push_size _ rfl,rfl,rfl⟩,λ b hb=>?_,q⟩
    have e:b=s1.heap.objs.size:=by simpa using hb
    subst e
    exact I1.fpOk (Nat.le_refl _) (I1.hok.fresh (Nat.le_refl _))
end L2
namespace L3
open PySem PySem.Spec L2
section
variable {X:Cx} {a b c e o i tg iter:Expr} {es:List Expr} {ta tb te to ti:DTE} {t:DTA} {pos p apos cpos:Pos}
structure DIt where
  items:List D
  held:DV->Prop
abbrev DTI:=DSt->DV->(DIt->DV->Prop)->Prop
def yXq (K:PySem.W.Frag) (J:DIt) (Jc:It) (G:DV) (H:Hp):Prop:=∀ G1 H1,Go K G H G1 H1->J.held G1 →
  (∀ (i:Nat) (d:D),J.items[i]?=some d->Jc.go i H1/\∀ x H',Jc.yld i H1 x H'->Go K G1 H1 G1 H'/\Abs K H' d x)/\∀ i,J.items.length<=i->Jc.stop i H1
structure AI (X:Cx) (tg iter:Expr) (wi:DTI):Prop where
  run:∃ wc:TI,JI X tg iter wc/\∀ ρ G DR σ H R,Bears X.K ρ G σ H->wi ρ G DR->(∀ J Jc G' H',Go X.K G H G' H'->yXq X.K J Jc G' H'->DR J G'->R Jc H')->wc σ H R
@[irreducible] def x8q (G:DV) (l:Addr) (k:DIt->Prop):Prop:=match G l with
  | some (.lst ds)=>k ⟨ds,λ G=>G l=some (.lst ds)⟩
  | _=>False
abbrev aE4q (ta:DTE):DTI:=λ ρ G R=>ta ρ G λ x G1=>match x with
  | .tup ds=>R ⟨ds,λ _=>True⟩ G1
  | .ref l=>x8q G1 l λ J=>R J G1
  | .frl ds=>R ⟨ds,λ _=>True⟩ G1
  | _=>False
theorem j5q {G:DV} {l:Addr} {k:DIt->Prop} {ds:List D} (h:G l=some (.lst ds)) (q:k ⟨ds,λ G=>G l=some (.lst ds)⟩):x8q G l k:=by unfold x8q;rw [h];exact q
theorem xVq {K:PySem.W.Frag} {ds:List D} {vs:List V} {l:Addr} {G1:DV} {H1:Hp} (v:Vw K G1 H1) (s:SqT K H1 l vs) (r:AbsL K H1 ds vs) :
    (∀ (i:Nat) (d:D),ds[i]?=some d->(Itt K l).go i H1/\∀ x H',(Itt K l).yld i H1 x H'->Go K G1 H1 G1 H'/\Abs K H' d x)/\∀ i,ds.length<=i->(Itt K l).stop i H1:=by
  refine ⟨λ i d hd=>?_,λ i hi=>⟨vs,s,by rw [r.len];exact hi⟩⟩
  obtain ⟨w,hw,aw⟩:=r.get hd
  refine ⟨⟨vs,w,s,hw⟩,λ x H' y=>?_⟩
  obtain ⟨rfl,y⟩:=y
  have z:=y vs s
  rw [hw] at z
  cases z
  exact ⟨.refl v,aw⟩
theorem mEq {K:PySem.W.Frag} {ds:List D} {vs:List V} {l:Addr} {G1:DV} {H1:Hp} (v:Vw K G1 H1) (s:SqL K H1 l vs) (r:AbsL K H1 ds vs) :
    (∀ (i:Nat) (d:D),ds[i]?=some d->(Itl K l).go i H1/\∀ x H',(Itl K l).yld i H1 x H'->Go K G1 H1 G1 H'/\Abs K H' d x)/\∀ i,ds.length<=i->(Itl K l).stop i H1:=by
  refine ⟨λ i d hd=>?_,λ i hi=>⟨vs,s,by rw [r.len];exact hi⟩⟩
  obtain ⟨w,hw,aw⟩:=r.get hd
  refine ⟨⟨vs,w,s,hw⟩,λ x H' y=>?_⟩
  obtain ⟨rfl,y⟩:=y
  have z:=y vs s
  rw [hw] at z
  cases z
  exact ⟨.refl v,aw⟩
theorem yHq {tc:TE} (hl:JE X a tc):JI X tg a (iSeq X.K tc):=⟨wTq hl.run⟩
theorem f8q (ha:AE X a ta):AI X tg a (aE4q ta):=by
  obtain ⟨ca,ja,ra⟩:=ha.run
  refine ⟨_,yHq ja,λ ρ G DR σ H R B q F=>ra ρ G _ σ H _ B q λ x G1 v H1 g1 ax q1=>?_⟩
  cases x with
  | tup ds=>
    obtain ⟨l,vs,rfl,s,r⟩:=ax
    exact ⟨l,rfl,.inr ⟨⟨vs,s⟩,F ⟨ds,λ _=>True⟩ _ G1 H1 g1 (λ G2 H2 g2 _=>xVq g2.vw (g2.tup.tp _ _ s) (r.mono g2.tup)) q1⟩⟩
  | ref l=>
    cases ax
    refine ⟨l,rfl,.inl ?_⟩
    replace q1:x8q G1 l λ J=>DR J G1:=q1
    unfold x8q at q1
    split at q1
    . next ds hd=>
      obtain ⟨vs,z,r⟩:=g1.vw _ _ hd
      refine ⟨⟨vs,.of z⟩,F ⟨ds,λ G=>G l=some (.lst ds)⟩ _ G1 H1 g1 (λ G2 H2 g2 h2=>?_) q1⟩
      obtain ⟨us,z2,r2⟩:=g2.vw _ _ h2
      exact mEq g2.vw (.of z2) r2
    . exact q1.elim
  | frl ds=>
    obtain ⟨l,vs,rfl,s,r⟩:=ax
    exact ⟨l,rfl,.inl ⟨⟨vs,s.sq⟩,F ⟨ds,λ _=>True⟩ _ G1 H1 g1 (λ G2 H2 g2 _=>mEq g2.vw (g2.tup.fr _ _ s).sq (r.mono g2.tup)) q1⟩⟩
  | _=>exact (show False from q1).elim
def c1q (lo:Int) (n:Nat):List D:=(List.range n).map λ(i:Nat)=>D.int (lo+(i:Int))
theorem kLq {lo:Int} {n i:Nat} {d:D} (h:(c1q lo n)[i]?=some d):i < n/\d=.int (lo+i):=by
  unfold c1q at h
  rw [List.getElem?_map] at h
  by_cases c:i < n
  . rw [List.getElem?_range c] at h
    simp at h
    exact ⟨c,h.symm⟩
  . rw [List.getElem?_eq_none (by simpa using c)] at h
    cases h
theorem fPq {lo:Int} {n:Nat}:(c1q lo n).length=n:=by simp [c1q]
@[irreducible] def onR (r:List D->Option (Int × Nat)) (ds:List D) (k:Int->Nat->Prop):Prop:=match r ds with
  | some (lo,n)=>k lo n
  | none=>False
abbrev rPq (r:List D->Option (Int × Nat)) (t:DTA):DTI:=λ ρ G R=>t ρ G λ ds G1=>onR r ds λ lo n=>R ⟨c1q lo n,λ _=>True⟩ G1
def iCq (i:Int):Bool:=decide (-(2 ^ 62)<=i)&&decide (i < 2 ^ 62)
def vFq:List D->Option (Int × Nat)
  | [.int j]=>if iCq j=true then some (0,j.toNat) else none
  | _=>none
theorem small62_iff {i:Int}:iCq i=true ↔ -(2 ^ 62)<=i/\i < 2 ^ 62:=by unfold iCq;simp
theorem uVq {K:PySem.W.Frag} {lo:Int} {n:Nat} {G1:DV} {H1:Hp} (v:Vw K G1 H1) :
    (∀ (i:Nat) (d:D),(c1q lo n)[i]?=some d->(Itr lo n).go i H1/\∀ x H',(Itr lo n).yld i H1 x H'->Go K G1 H1 G1 H'/\Abs K H' d x)/\∀ i,(c1q lo n).length<=i->(Itr lo n).stop i H1:=by
  refine ⟨λ i d hd=>?_,λ i hi=>by rw [fPq] at hi;exact hi⟩
  obtain ⟨h1,rfl⟩:=kLq hd
  refine ⟨h1,λ x H' y=>?_⟩
  obtain ⟨rfl,rfl⟩:=y
  exact ⟨.refl v,rfl⟩
theorem qCq {ds:List D} {lo:Int} {n:Nat} (h:vFq ds=some (lo,n)):∃ j,ds=[.int j]/\(-(2 ^ 62)<=j/\j < 2 ^ 62)/\lo=0/\n=j.toNat:=by
  unfold vFq at h
  split at h
  . next j=>
    split at h
    . next c=>cases h;exact ⟨j,rfl,small62_iff.mp c,rfl,rfl⟩
    . cases h
  . cases h
theorem tFq {j:Int} {k:Int->Nat->Prop} (h:-(2 ^ 62)<=j/\j < 2 ^ 62) (q:k 0 j.toNat):onR vFq [.int j] k:=by
  have e:vFq [.int j]=some (0,j.toNat):=if_pos (small62_iff.mpr h)
  unfold onR;rw [e];exact q
theorem iGq {r:List D->Option (Int × Nat)} {ds:List D} {R:DIt->DV->Prop} {G:DV} (h:onR r ds λ lo n=>R ⟨c1q lo n,λ _=>True⟩ G):∃ lo n,r ds=some (lo,n)/\R ⟨c1q lo n,λ _=>True⟩ G:=by
  unfold onR at h
  split at h
  . next lo n e=>exact ⟨lo,n,e,h⟩
  . exact h.elim
theorem m9q (hg:Gl X "range") (hm:X.mg "range" = none) (ha:AA X [a] t) (hs:aXq a=true:=by rfl):AI X tg (.Call (.Name "range" p) [a] [] pos) (rPq vFq t):=by
  obtain ⟨ca,ja,ra⟩:=ha.run
  refine ⟨_,mLq hg hm ja hs,λ ρ G DR σ H R B q F=>ra ρ G _ σ H _ B q λ ds G1 vs H1 g1 al hl q1=>?_⟩
  obtain ⟨lo,n,e,q2⟩:=iGq q1
  obtain ⟨j,rfl,c,rfl,rfl⟩:=qCq e
  obtain ⟨v,r,rfl,av,l⟩:=al
  cases l;cases av
  exact ⟨j,rfl,c.1,c.2,F _ _ G1 H1 g1 (λ G2 H2 g2 _=>uVq g2.vw) q2⟩
def Wk (P:DSt->DV->Prop):DSt->DV->Prop:=λ ρ G=>∃ ρ' G',StSub ρ' ρ/\Sub G' G/\P ρ' G'
theorem Wk.of {P:DSt->DV->Prop} {ρ:DSt} {G:DV} (h:P ρ G):Wk P ρ G:=⟨ρ,G,.refl _,.refl _,h⟩
abbrev dFor (wi:DTI) (g:DTG) (tb:DTS):DTS:=λ DD ρ G=>wi ρ G λ J G1=>∃ P:Nat->DSt->DV->Prop,P 0 ρ G1/\(∀ i ρ G,i<=J.items.length->P i ρ G->J.held G) ∧
  (∀ (i:Nat) (d:D) (ρ:DSt) (G:DV),J.items[i]?=some d->P i ρ G->g d ρ G λ ρ' G'=>tb { DD with nx:=Wk (P (i+1)),ct:=Wk (P (i+1)),bk:=DD.nx } ρ' G')/\∀ ρ G,P J.items.length ρ G->DD.nx ρ G
theorem e9q {body:List Stmt} {wi:DTI} {g:DTG} {tb:DTS} (hp:PassesOwn (model X.prog X.w) X.A X.env X.xe) (hc:X.calm=true) (hi:AI X tg iter wi) (hg:AG X tg g) (hb:AB X body tb) (hs:∀ x,foldedSetIterable iter X.env x=pure x:=by intro _;rfl) :
    AS X (.For tg iter body [] pos) (dFor wi g tb):=by
  obtain ⟨ci,ji,ri⟩:=hi.run
  obtain ⟨cg,jg,rg⟩:=hg.run
  obtain ⟨cb,jb,rb⟩:=hb.run
  refine ⟨_,uSq hp hc ji jg jb hs,λ DD Dc ρ G σ H B q F=>ri ρ G _ σ H _ B q λ J Jc G1 H1 g1 ok q1=>?_⟩
  obtain ⟨P,p0,held,turn,done⟩:=q1
  refine ⟨λ i m σ' H'=>m=J.items.length - i/\i<=J.items.length/\∃ ρ' G',P i ρ' G'/\Bears X.K ρ' G' σ' H'/\Go X.K G1 H1 G' H',⟨_,rfl,Nat.zero_le _,ρ,G1,p0,B.go g1,.refl g1.vw⟩,?_⟩
  rintro i m σ2 H2 ⟨rfl,hi,ρ2,G2,p2,b2,g2⟩
  have k2:=ok G2 H2 g2 (held i ρ2 G2 hi p2)
  by_cases hlt:i < J.items.length
  . have hd:J.items[i]?=some J.items[i]:=by simp [hlt]
    obtain ⟨go,yl⟩:=k2.1 i _ hd
    refine .inr ⟨go,λ σ' H'=>∃ ρ' G',P (i+1) ρ' G'/\Bears X.K ρ' G' σ' H'/\Go X.K G1 H1 G' H',λ σ' H' ⟨ρ',G',z1,z2,z3⟩=>⟨J.items.length - (i+1),by omega,rfl,hlt,ρ',G',z1,z2,z3⟩,λ x H' y=>?_⟩
    obtain ⟨g3,ax⟩:=yl x H' y
    refine rg _ x ρ2 G2 _ σ2 H' _ (b2.go g3) ax (turn i _ ρ2 G2 hd p2) λ ρ4 G4 σ4 H4 g4 b4 q4=>?_
    have gg:=(g2.trans g3).trans g4
    have again:∀ ρ' G' σ' H',Go X.K G4 H4 G' H'->Bears X.K ρ' G' σ' H'->Wk (P (i+1)) ρ' G'->∃ ρ' G',P (i+1) ρ' G'/\Bears X.K ρ' G' σ' H'/\Go X.K G1 H1 G' H':=λ ρ' G' σ' H' g' b' ⟨ρ5,G5,s1,s2,w⟩=>
      ⟨ρ5,G5,w,b'.weak s1 s2,(gg.trans g').sub s2⟩
    exact rb _ _ ρ4 G4 σ4 H4 b4 q4 ⟨λ ρ' G' σ' H' g' b' w=>again ρ' G' σ' H' g' b' w,(F.after ((g1.trans gg))).rt,λ ρ' G' σ' H' g' b' w=>F.nx ρ' G' σ' H' ((g1.trans gg).trans g') b' w,λ ρ' G' σ' H' g' b' w=>again ρ' G' σ' H' g' b' w⟩
  . have e:i=J.items.length:=by omega
    subst e
    exact .inl ⟨k2.2 _ (Nat.le_refl _),F.nx ρ2 G2 σ2 H2 (g1.trans g2) b2 (done ρ2 G2 p2)⟩
abbrev w4q (tc:DTT) (tb:DTS):DTS:=λ DD ρ G=>∃ W:Nat->DSt->DV->Prop,(∃ m,W m ρ G)/\∀ m ρ G,W m ρ G →
  tc ρ G λ b G1=>Br b (tb { DD with nx:=Wk λ ρ' G'=>∃ m',m' < m/\W m' ρ' G',ct:=Wk λ ρ' G'=>∃ m',m' < m/\W m' ρ' G',bk:=DD.nx } ρ G1) (DD.nx ρ G1)
theorem k2q {body:List Stmt} {tc:DTT} {tb:DTS} (hp:PassesOwn (model X.prog X.w) X.A X.env X.xe) (hc:AT X c tc) (hb:AB X body tb):AS X (.While c body [] pos) (w4q tc tb):=by
  obtain ⟨cc,jc,rc⟩:=hc.run
  obtain ⟨cb,jb,rb⟩:=hb.run
  refine ⟨_,oGq hp jc jb,λ DD Dc ρ G σ H B q F=>?_⟩
  obtain ⟨W,⟨m0,w0⟩,turn⟩:=q
  refine ⟨λ m σ' H'=>∃ ρ' G',W m ρ' G'/\Bears X.K ρ' G' σ' H'/\Go X.K G H G' H',⟨m0,ρ,G,w0,B,.refl B.vw⟩,?_⟩
  rintro m σ2 H2 ⟨ρ2,G2,w2,b2,g2⟩
  refine rc ρ2 G2 _ σ2 H2 _ b2 (turn m ρ2 G2 w2) λ k G3 H3 g3 q3=>?_
  cases k with
  | true=>
    refine ⟨λ σ' H'=>∃ m',m' < m/\∃ ρ' G',W m' ρ' G'/\Bears X.K ρ' G' σ' H'/\Go X.K G H G' H',λ σ' H' ⟨m',z,ρ',G',z1,z2,z3⟩=>⟨m',z,ρ',G',z1,z2,z3⟩,?_⟩
    have gg:=g2.trans g3
    have again:∀ ρ' G' σ' H',Go X.K G3 H3 G' H'->Bears X.K ρ' G' σ' H'->Wk (λ ρ' G'=>∃ m',m' < m/\W m' ρ' G') ρ' G'->∃ m',m' < m/\∃ ρ' G',W m' ρ' G'/\Bears X.K ρ' G' σ' H'/\Go X.K G H G' H':=λ ρ' G' σ' H' g' b' ⟨ρ5,G5,s1,s2,m',hm,w⟩=>
      ⟨m',hm,ρ5,G5,w,b'.weak s1 s2,(gg.trans g').sub s2⟩
    exact rb _ _ ρ2 G3 σ2 H3 (b2.go g3) (q3.1 rfl) ⟨λ ρ' G' σ' H' g' b' w=>again ρ' G' σ' H' g' b' w,(F.after gg).rt,λ ρ' G' σ' H' g' b' w=>F.nx ρ' G' σ' H' (gg.trans g') b' w,λ ρ' G' σ' H' g' b' w=>again ρ' G' σ' H' g' b' w⟩
  | false=>exact F.nx ρ2 G3 σ2 H3 (g2.trans g3) (b2.go g3) (q3.2 rfl)
end
end L3
namespace L2
open PySem PySem.Spec PyProof.Rows
theorem JE.imp {X:Cx} {e:Expr} {t t':TE} (h:JE X e t) (i:∀ σ H Q,t' σ H Q->t σ H Q):JE X e t':=⟨λ pins s σ H Q I q=>h.run pins s σ H Q I (i σ H Q q)⟩
theorem JT.imp {X:Cx} {e:Expr} {t t':TT} (h:JT X e t) (i:∀ σ H Q,t' σ H Q->t σ H Q):JT X e t':=⟨λ pins s σ H Q I q=>h.run pins s σ H Q I (i σ H Q q)⟩
theorem JG.imp {X:Cx} {e:Expr} {t t':TG} (h:JG X e t) (i:∀ v σ H Q,t' v σ H Q->t v σ H Q):JG X e t':=⟨λ pins s σ H x v Q I r q=>h.run pins s σ H x v Q I r (i _ _ _ _ q)⟩
end L2
namespace L3
open PySem PySem.Spec L2
section
variable {X:Cx} {a b c e o i tg iter elt ct:Expr} {es:List Expr} {ta tb te to ti:DTE} {t:DTA} {pos p apos cpos:Pos}
abbrev uGq (K:PySem.W.Frag) (tc:TE) (t:DTE):Prop:=∀ ρ G DQ σ H Q,Bears K ρ G σ H->t ρ G DQ->Fin K G H DQ Q->tc σ H Q
abbrev zFq (K:PySem.W.Frag) (tc:TT) (t:DTT):Prop:=∀ ρ G DQ σ H Q,Bears K ρ G σ H->t ρ G DQ->z6q K G H DQ Q->tc σ H Q
abbrev yQq (K:PySem.W.Frag) (tc:TG) (t:DTG):Prop:=∀ d v ρ G DQ σ H Q,Bears K ρ G σ H->Abs K H d v->t d ρ G DQ->FinS K G H DQ Q->tc v σ H Q
theorem AE.uni {ι:Type} {cx:ι->Cx} {K:PySem.W.Frag} (hK:∀ z,(cx z).K=K) (h:∀ z,AE (cx z) e te):∃ tc:TE,(∀ z,JE (cx z) e tc)/\uGq K tc te:=by
  have h':∀ z,∃ tc,JE (cx z) e tc/\uGq K tc te:=λ z=>by
    have q:=(h z).run
    rw [hK z] at q
    exact q
  exact ⟨λ σ H Q=>∀ z,Classical.choose (h' z) σ H Q,λ z=>(Classical.choose_spec (h' z)).1.imp λ σ H Q q=>q z,λ ρ G DQ σ H Q B q F z=>(Classical.choose_spec (h' z)).2 ρ G DQ σ H Q B q F⟩
theorem AT.uni {ι:Type} {cx:ι->Cx} {K:PySem.W.Frag} {te:DTT} (hK:∀ z,(cx z).K=K) (h:∀ z,AT (cx z) e te):∃ tc:TT,(∀ z,JT (cx z) e tc)/\zFq K tc te:=by
  have h':∀ z,∃ tc,JT (cx z) e tc/\zFq K tc te:=λ z=>by
    have q:=(h z).run
    rw [hK z] at q
    exact q
  exact ⟨λ σ H Q=>∀ z,Classical.choose (h' z) σ H Q,λ z=>(Classical.choose_spec (h' z)).1.imp λ σ H Q q=>q z,λ ρ G DQ σ H Q B q F z=>(Classical.choose_spec (h' z)).2 ρ G DQ σ H Q B q F⟩
theorem AG.uni {ι:Type} {cx:ι->Cx} {K:PySem.W.Frag} {te:DTG} (hK:∀ z,(cx z).K=K) (h:∀ z,AG (cx z) e te):∃ tc:TG,(∀ z,JG (cx z) e tc)/\yQq K tc te:=by
  have h':∀ z,∃ tc,JG (cx z) e tc/\yQq K tc te:=λ z=>by
    have q:=(h z).run
    rw [hK z] at q
    exact q
  exact ⟨λ v σ H Q=>∀ z,Classical.choose (h' z) v σ H Q,λ z=>(Classical.choose_spec (h' z)).1.imp λ v σ H Q q=>q z,λ d v ρ G DQ σ H Q B ad q F z=>(Classical.choose_spec (h' z)).2 d v ρ G DQ σ H Q B ad q F⟩
def cVq (nt:Nat) (cap:List Nat) (ρ:DSt):DSt:=List.replicate nt none++cap.map λ i=>(ρ[i]?).join
theorem cUq {nt:Nat} {cap:List Nat} {ρ:DSt} {i:Nat} {d:D} (h:(cVq nt cap ρ)[i]?=some (some d)):nt<=i:=by
  by_cases c:nt<=i
  . exact c
  . unfold cVq at h
    rw [List.getElem?_append_left (by simpa using c),List.getElem?_replicate] at h
    rw [if_pos (by omega)] at h
    cases h
theorem Bears.comp {K:PySem.W.Frag} {ρ:DSt} {G:DV} {σ:St} {H:Hp} (B:Bears K ρ G σ H) (nt:Nat) (cap:List Nat):Bears K (cVq nt cap ρ) G (c9q nt cap σ) H:=by
  refine ⟨by simp [cVq,c9q],λ i d h=>?_,B.vw⟩
  have hi:=cUq h
  unfold cVq at h
  unfold c9q
  rw [List.getElem?_append_right (by simpa using hi)] at h ⊢
  rw [List.length_replicate,List.getElem?_map] at h ⊢
  cases e:cap[i - nt]? with
  | none=>rw [e] at h;cases h
  | some k=>
    rw [e] at h
    have h':(ρ[k]?).join=some d:=by simpa using h
    have h2:ρ[k]?=some (some d):=by
      cases q:ρ[k]? with
      | none=>rw [q] at h';cases h'
      | some z=>rw [q] at h';cases z with
        | none=>cases h'
        | some y=>simp at h';rw [h']
    obtain ⟨v,h3,h4⟩:=B.st k d h2
    exact ⟨v,by simp [h3],h4⟩
def o1q (nt:Nat) (g:DTG):Prop:=∀ d ρ G Q,g d ρ G Q->g d ρ G λ ρ' G'=>Q ρ' G'/\ρ'.length=ρ.length/\∀ i,nt<=i->ρ'[i]?=ρ[i]?
theorem c7q {nt k:Nat} (h:k < nt):o1q nt (lCq k):=λ d ρ G Q q=>⟨q,by simp,λ i hi=>List.getElem?_set_ne (by omega)⟩
def WkV (P:DV->Prop):DV->Prop:=λ G=>∃ G',Sub G' G/\P G'
theorem WkV.of {P:DV->Prop} {G:DV} (h:P G):WkV P G:=⟨G,.refl _,h⟩
@[irreducible] def qLq (g:DTG) (te:DTE) (nt:Nat) (cap:List Nat) (ρ:DSt) (Q:DK) (J:DIt) (G1:DV):Prop:=J.items.length < sizeLine/\∃ P:Nat->List D->DV->Prop,P 0 [] G1/\(∀ i ds G,i<=J.items.length->P i ds G->J.held G) ∧
  (∀ (i:Nat) (d:D) (ds:List D) (G:DV),J.items[i]?=some d->P i ds G->g d (cVq nt cap ρ) G λ ρ3 G3=>te ρ3 G3 λ y G4=>WkV (P (i+1) (ds++[y])) G4)/\∀ ds G,P J.items.length ds G->∀ p,G p=none->Q (.ref p) (up G p (.lst ds))
@[irreducible] def gGq (g:DTG) (tc:DTT) (te:DTE) (nt:Nat) (cap:List Nat) (ρ:DSt) (Q:DK) (J:DIt) (G1:DV):Prop:=J.items.length < sizeLine/\∃ P:Nat->List D->DV->Prop,P 0 [] G1/\(∀ i ds G,i<=J.items.length->P i ds G->J.held G) ∧
  (∀ (i:Nat) (d:D) (ds:List D) (G:DV),J.items[i]?=some d->P i ds G->g d (cVq nt cap ρ) G λ ρ3 G3=>tc ρ3 G3 λ b G5=>Br b (te ρ3 G5 λ y G4=>WkV (P (i+1) (ds++[y])) G4) (WkV (P (i+1) ds) G5))/\∀ ds G,P J.items.length ds G->∀ p,G p=none->Q (.ref p) (up G p (.lst ds))
abbrev yDq (wi:DTI) (g:DTG) (te:DTE) (nt:Nat) (cap:List Nat):DTE:=λ ρ G Q=>wi ρ G (qLq g te nt cap ρ Q)
abbrev lZq (wi:DTI) (g:DTG) (tc:DTT) (te:DTE) (nt:Nat) (cap:List Nat):DTE:=λ ρ G Q=>wi ρ G (gGq g tc te nt cap ρ Q)
theorem fXq {α:Type} {J:DIt} {G1:DV} {g:DTG} {te:DTE} {nt:Nat} {cap:List Nat} {ρ:DSt} {Q:DK} (xs:List α) (en fn:α->D) (he:J.items=xs.map en) (hz:xs.length < sizeLine) (held:J.held G1)
    (turn:∀ x∈xs,∀ R:DK,R (fn x) G1->g (en x) (cVq nt cap ρ) G1 λ ρ3 G3=>te ρ3 G3 R) (q:∀ p,G1 p=none->Q (.ref p) (up G1 p (.lst (xs.map fn)))) :
    qLq g te nt cap ρ Q J G1:=by
  unfold qLq
  refine ⟨by rw [he,List.length_map];exact hz,λ i ds G=>G=G1/\ds=(xs.take i).map fn,⟨rfl,rfl⟩,λ i ds G _ h=>h.1 ▸ held,?_,?_⟩
  . rintro i d ds G hd ⟨rfl,rfl⟩
    rw [he,List.getElem?_map] at hd
    cases e:xs[i]? with
    | none=>rw [e] at hd;cases hd
    | some x=>
      rw [e] at hd
      cases hd
      refine turn x (List.mem_of_getElem? e) _ (WkV.of ⟨rfl,?_⟩)
      rw [List.take_add_one,e,List.map_append];rfl
  . rintro ds G ⟨rfl,rfl⟩ p hp
    rw [he,List.length_map,List.take_length]
    exact q p hp
theorem kFq {α:Type} {J:DIt} {G1:DV} {g:DTG} {tc:DTT} {te:DTE} {nt:Nat} {cap:List Nat} {ρ:DSt} {Q:DK} (xs:List α) (en:α->D) (fn:α->Option D) (he:J.items=xs.map en) (hz:xs.length < sizeLine) (held:J.held G1)
    (turn:∀ x∈xs,∀ (R:DK) (S:DV->Prop),(∀ y,fn x=some y->R y G1)->(fn x=none->S G1)->g (en x) (cVq nt cap ρ) G1 λ ρ3 G3=>tc ρ3 G3 λ b G5=>Br b (te ρ3 G5 R) (S G5)) (q:∀ p,G1 p=none->Q (.ref p) (up G1 p (.lst (xs.filterMap fn)))) :
    gGq g tc te nt cap ρ Q J G1:=by
  unfold gGq
  refine ⟨by rw [he,List.length_map];exact hz,λ i ds G=>G=G1/\ds=(xs.take i).filterMap fn,⟨rfl,rfl⟩,λ i ds G _ h=>h.1 ▸ held,?_,?_⟩
  . rintro i d ds G hd ⟨rfl,rfl⟩
    rw [he,List.getElem?_map] at hd
    cases e:xs[i]? with
    | none=>rw [e] at hd;cases hd
    | some x=>
      rw [e] at hd
      cases hd
      refine turn x (List.mem_of_getElem? e) _ _ (λ y hy=>WkV.of ⟨rfl,?_⟩) (λ hy=>WkV.of ⟨rfl,?_⟩)
      . rw [List.take_add_one,e,List.filterMap_append];simp [hy]
      . rw [List.take_add_one,e,List.filterMap_append];simp [hy]
  . rintro ds G ⟨rfl,rfl⟩ p hp
    rw [he,List.length_map,List.take_length]
    exact q p hp
theorem Vw.priv {K:PySem.W.Frag} {G:DV} {H:Hp} {acc:Addr} {ys zs:List V} (v:Vw K G H) (h:H acc=some (.lst ys)) (n:G acc=Option.none):Vw K G (upd H acc (.lst zs)):=λ a o e=>
  (v a o e).mono (bHq h) (aHq (by rintro rfl;rw [n] at e;cases e))
theorem Go.priv {K:PySem.W.Frag} {G G':DV} {H H':Hp} {acc:Addr} {ys zs:List V} (g:Go K G H G' H') (h0:H acc=none) (h:H' acc=some (.lst ys)) (n:G' acc=none):Go K G H G' (upd H' acc (.lst zs)) where
  tup:=⟨λ a xs q=>(bHq h).tp a xs (g.tup.tp a xs q),λ a xs q=>(bHq h).fr a xs (g.tup.fr a xs q),λ a o q=>(bHq (K:=K) h).fz a o (g.tup.fz a o q)⟩
  dom:=λ a o e=>by
    obtain ⟨o',e'⟩:=g.dom a o e
    exact ⟨o',by rw [aHq (aIq e h0)];exact e'⟩
  same:=λ a o e z=>by rw [aHq (aIq e h0)];exact g.same a o e z
  new:=g.new
  vw:=g.vw.priv h n
theorem Bears.priv {K:PySem.W.Frag} {ρ:DSt} {G:DV} {σ:St} {H:Hp} {acc:Addr} {ys zs:List V} (B:Bears K ρ G σ H) (h:H acc=some (.lst ys)) (n:G acc=none):Bears K ρ G σ (upd H acc (.lst zs)):=
  ⟨B.len,λ i d e=>let ⟨v,h1,h2⟩:=B.st i d e;⟨v,h1,h2.mono (bHq h)⟩,B.vw.priv h n⟩
theorem Go.held {K:PySem.W.Frag} {G G':DV} {H H':Hp} {acc:Addr} {ds:List D} {ys:List V} (g:Go K G H G' H') (h0:H acc=none) (h:H' acc=some (.lst ys)) (r:AbsL K H' ds ys):Go K G H (up G' acc (.lst ds)) H' where
  tup:=g.tup
  dom:=g.dom
  same:=g.same
  new:=λ a o e z=>by rw [a9q (aIq e h0)];exact g.new a o e z
  vw:=λ a o e=>by
    by_cases c:a=acc
    . subst c;rw [a6q] at e;cases e;exact ⟨ys,h,r⟩
    . rw [a9q c] at e;exact g.vw a o e
theorem m7q {K:PySem.W.Frag} {ci:TI} {cg:TG} {ce:TE} {wi:DTI} {g:DTG} {te:DTE} {nt:Nat} {cap:List Nat} (hk:o1q nt g)
    (ri:∀ ρ G DR σ H R,Bears K ρ G σ H->wi ρ G DR->(∀ J Jc G' H',Go K G H G' H'->yXq K J Jc G' H'->DR J G'->R Jc H')->ci σ H R) (rg:yQq K cg g) (re:uGq K ce te):uGq K (tRq ci cg ce nt cap) (yDq wi g te nt cap):=by
  intro ρ G DQ σ H Q B q F
  refine ri ρ G _ σ H _ B q λ J Jc G1 H1 g1 ok q1=>?_
  unfold qLq at q1
  obtain ⟨hsz,P,p0,held,turn,done⟩:=q1
  intro acc hacc
  have n1:=g1.vw.none hacc
  have gN:=Go.newT (o:=.lst []) g1.vw hacc
  refine ⟨λ i m ys σ' H'=>m=J.items.length - i/\i<=J.items.length/\∃ ds G',P i ds G'/\AbsL K H' ds ys/\ds.length<=i/\Bears K (cVq nt cap ρ) G' σ' H'/\Go K G1 H1 G' H'/\G' acc=none/\H' acc=some (.lst ys),
    ⟨_,rfl,Nat.zero_le _,[],G1,p0,rfl,Nat.le_refl _,((B.go g1).comp nt cap).go gN,gN,n1,aNq⟩,?_⟩
  rintro i m ys σ2 H2 ⟨rfl,hi,ds,G2,p2,r2,l2,b2,g2,n2,h2⟩
  have k2:=ok G2 H2 g2 (held i ds G2 hi p2)
  by_cases hlt:i < J.items.length
  . have hd:J.items[i]?=some J.items[i]:=by simp [hlt]
    obtain ⟨go,yl⟩:=k2.1 i _ hd
    refine .inr ⟨go,λ x H' y=>?_⟩
    obtain ⟨g3,ax⟩:=yl x H' y
    refine rg _ x _ G2 _ σ2 H' _ (b2.go g3) ax (hk _ _ _ _ (turn i _ ds G2 hd p2)) λ ρ4 G4 σ4 H4 g4 b4 ⟨q4,hl4,hs4⟩=>?_
    refine re ρ4 G4 _ σ4 H4 _ b4 q4 λ z G5 u H5 g5 az q5=>?_
    obtain ⟨G6,s6,p6⟩:=q5
    have gg:=(g3.trans g4).trans g5
    have h5:=gg.same acc _ h2 n2
    have n5:=gg.new acc _ h2 n2
    have n6:=s6.none n5
    have b5:Bears K (cVq nt cap ρ) G6 σ4 H5:=(b4.go g5).weak ⟨hl4.symm,λ j d e=>by rw [hs4 j (cUq e)];exact e⟩ s6
    refine ⟨h5,by rw [r2.len];omega,J.items.length - (i+1),by omega,rfl,hlt,ds++[z],G6,p6,((r2.mono gg.tup).append (.one az)).mono (bHq h5),by simp;omega,b5.priv h5 n6,(((g2.trans gg).sub s6)).priv hacc h5 n6,n6,aNq⟩
  . have e:i=J.items.length:=by omega
    subst e
    refine .inl ⟨k2.2 _ (Nat.le_refl _),F (.ref acc) (up G2 acc (.lst ds)) _ _ ((g1.trans g2).held ?_ h2 r2) rfl (done ds G2 p2 acc n2)⟩
    cases z:H acc with
    | none=>rfl
    | some o=>obtain ⟨o',e'⟩:=g1.dom acc o z;rw [hacc] at e';cases e'
theorem iRq {K:PySem.W.Frag} {ci:TI} {cg:TG} {cc:TT} {ce:TE} {wi:DTI} {g:DTG} {tc:DTT} {te:DTE} {nt:Nat} {cap:List Nat} (hk:o1q nt g)
    (ri:∀ ρ G DR σ H R,Bears K ρ G σ H->wi ρ G DR->(∀ J Jc G' H',Go K G H G' H'->yXq K J Jc G' H'->DR J G'->R Jc H')->ci σ H R) (rg:yQq K cg g) (rt:zFq K cc tc) (re:uGq K ce te):uGq K (iEq ci cg cc ce nt cap) (lZq wi g tc te nt cap):=by
  intro ρ G DQ σ H Q B q F
  refine ri ρ G _ σ H _ B q λ J Jc G1 H1 g1 ok q1=>?_
  unfold gGq at q1
  obtain ⟨hsz,P,p0,held,turn,done⟩:=q1
  intro acc hacc
  have n1:=g1.vw.none hacc
  have gN:=Go.newT (o:=.lst []) g1.vw hacc
  refine ⟨λ i m ys σ' H'=>m=J.items.length - i/\i<=J.items.length/\∃ ds G',P i ds G'/\AbsL K H' ds ys/\ds.length<=i/\Bears K (cVq nt cap ρ) G' σ' H'/\Go K G1 H1 G' H'/\G' acc=none/\H' acc=some (.lst ys),
    ⟨_,rfl,Nat.zero_le _,[],G1,p0,rfl,Nat.le_refl _,((B.go g1).comp nt cap).go gN,gN,n1,aNq⟩,?_⟩
  rintro i m ys σ2 H2 ⟨rfl,hi,ds,G2,p2,r2,l2,b2,g2,n2,h2⟩
  have k2:=ok G2 H2 g2 (held i ds G2 hi p2)
  by_cases hlt:i < J.items.length
  . have hd:J.items[i]?=some J.items[i]:=by simp [hlt]
    obtain ⟨go,yl⟩:=k2.1 i _ hd
    refine .inr ⟨go,λ x H' y=>?_⟩
    obtain ⟨g3,ax⟩:=yl x H' y
    refine rg _ x _ G2 _ σ2 H' _ (b2.go g3) ax (hk _ _ _ _ (turn i _ ds G2 hd p2)) λ ρ4 G4 σ4 H4 g4 b4 ⟨q4,hl4,hs4⟩=>?_
    refine rt ρ4 G4 _ σ4 H4 _ b4 q4 λ bb G7 H7 g7 q7=>?_
    cases bb with
    | true=>
      refine re ρ4 G7 _ σ4 H7 _ (b4.go g7) (q7.1 rfl) λ z G5 u H5 g5 az q5=>?_
      obtain ⟨G6,s6,p6⟩:=q5
      have gg:=((g3.trans g4).trans g7).trans g5
      have h5:=gg.same acc _ h2 n2
      have n5:=gg.new acc _ h2 n2
      have n6:=s6.none n5
      have b5:Bears K (cVq nt cap ρ) G6 σ4 H5:=((b4.go g7).go g5).weak ⟨hl4.symm,λ j d e=>by rw [hs4 j (cUq e)];exact e⟩ s6
      exact ⟨h5,by rw [r2.len];omega,J.items.length - (i+1),by omega,rfl,hlt,ds++[z],G6,p6,((r2.mono gg.tup).append (.one az)).mono (bHq h5),by simp;omega,b5.priv h5 n6,(((g2.trans gg).sub s6)).priv hacc h5 n6,n6,aNq⟩
    | false=>
      obtain ⟨G6,s6,p6⟩:=q7.2 rfl
      have gg:=(g3.trans g4).trans g7
      have h5:=gg.same acc _ h2 n2
      have n5:=gg.new acc _ h2 n2
      have n6:=s6.none n5
      have b5:Bears K (cVq nt cap ρ) G6 σ4 H7:=(b4.go g7).weak ⟨hl4.symm,λ j d e=>by rw [hs4 j (cUq e)];exact e⟩ s6
      exact ⟨J.items.length - (i+1),by omega,rfl,hlt,ds,G6,p6,r2.mono gg.tup,by omega,b5,(g2.trans gg).sub s6,n6,h5⟩
  . have e:i=J.items.length:=by omega
    subst e
    refine .inl ⟨k2.2 _ (Nat.le_refl _),F (.ref acc) (up G2 acc (.lst ds)) _ _ ((g1.trans g2).held ?_ h2 r2) rfl (done ds G2 p2 acc n2)⟩
    cases z:H acc with
    | none=>rfl
    | some o=>obtain ⟨o',e'⟩:=g1.dom acc o z;rw [hacc] at e';cases e'
theorem iHq {scope:Scope} {N':List Str} {nt:Nat} {cap:List Nat} {wi:DTI} {g:DTG} (hc:X.calm=true) (ok:CompOk X scope N' nt cap) (hk:o1q nt g) (hi:AI X tg iter wi) (hg:∀ C ex s H,AG (aRq X scope N' C ex s H) tg g) (he:∀ C ex s H,AE (aRq X scope N' C ex s H) elt te)
    (hs:∀ x,foldedSetIterable iter X.env x=pure x:=by intro _;rfl):AE X (.ListComp elt [⟨tg,iter,[],0⟩] scope pos) (yDq wi g te nt cap):=by
  obtain ⟨ci,ji,ri⟩:=hi.run
  obtain ⟨cg,jg,rg⟩:=AG.uni (ι:=Addr × List Addr × Shared × Hp) (cx:=λ z=>aRq X scope N' z.1 z.2.1 z.2.2.1 z.2.2.2) (K:=X.K) (λ _=>rfl) λ z=>hg _ _ _ _
  obtain ⟨ce,je,re⟩:=AE.uni (ι:=Addr × List Addr × Shared × Hp) (cx:=λ z=>aRq X scope N' z.1 z.2.1 z.2.2.1 z.2.2.2) (K:=X.K) (λ _=>rfl) λ z=>he _ _ _ _
  exact ⟨_,sGq hc ok ji (λ C ex s H=>jg (C,ex,s,H)) (λ C ex s H=>je (C,ex,s,H)) hs,m7q hk ri rg re⟩
theorem lEq {scope:Scope} {N':List Str} {nt:Nat} {cap:List Nat} {wi:DTI} {g:DTG} {tc:DTT} (hc:X.calm=true) (ok:CompOk X scope N' nt cap) (hk:o1q nt g) (hi:AI X tg iter wi) (hg:∀ C ex s H,AG (aRq X scope N' C ex s H) tg g) (ht:∀ C ex s H,AT (aRq X scope N' C ex s H) ct tc) (he:∀ C ex s H,AE (aRq X scope N' C ex s H) elt te)
    (hs:∀ x,foldedSetIterable iter X.env x=pure x:=by intro _;rfl):AE X (.ListComp elt [⟨tg,iter,[ct],0⟩] scope pos) (lZq wi g tc te nt cap):=by
  obtain ⟨ci,ji,ri⟩:=hi.run
  obtain ⟨cg,jg,rg⟩:=AG.uni (ι:=Addr × List Addr × Shared × Hp) (cx:=λ z=>aRq X scope N' z.1 z.2.1 z.2.2.1 z.2.2.2) (K:=X.K) (λ _=>rfl) λ z=>hg _ _ _ _
  obtain ⟨cc,jt,rt⟩:=AT.uni (ι:=Addr × List Addr × Shared × Hp) (cx:=λ z=>aRq X scope N' z.1 z.2.1 z.2.2.1 z.2.2.2) (K:=X.K) (λ _=>rfl) λ z=>ht _ _ _ _
  obtain ⟨ce,je,re⟩:=AE.uni (ι:=Addr × List Addr × Shared × Hp) (cx:=λ z=>aRq X scope N' z.1 z.2.1 z.2.2.1 z.2.2.2) (K:=X.K) (λ _=>rfl) λ z=>he _ _ _ _
  exact ⟨_,l8q hc ok ji (λ C ex s H=>jg (C,ex,s,H)) (λ C ex s H=>jt (C,ex,s,H)) (λ C ex s H=>je (C,ex,s,H)) hs,iRq hk ri rg rt re⟩
structure AMt (X:Cx) (T id:String) (ty:D->DV->Prop) (r:D->List D->DV->DK->Prop):Prop where
  run:∃ rc:V->List V->Hp->VK->Prop,JMt X id rc/\(∀ x v G H,Vw X.K G H->Abs X.K H x v->ty x G->tyV X.K T v H) ∧
    ∀ x xs vx vs G H DQ Q,Vw X.K G H->Abs X.K H x vx->AbsL X.K H xs vs->r x xs G DQ->Fin X.K G H DQ Q->rc vx vs H Q
abbrev dBM (ty:D->DV->Prop) (r:D->List D->DV->DK->Prop) (to:DTE) (t:DTA):DTE:=λ ρ G Q=>to ρ G λ x G1=>ty x G1/\t ρ G1 λ xs G2=>r x xs G2 Q
abbrev dBM0 (ty:D->DV->Prop) (r:D->List D->DV->DK->Prop) (to:DTE):DTE:=λ ρ G Q=>to ρ G λ x G1=>ty x G1/\r x [] G1 Q
theorem cQq {name:Str} {T id:String} {ty:D->DV->Prop} {r:D->List D->DV->DK->Prop} (pa:PlainAttrs T) (slot:Slot T name id) (hty:typeOf (.builtin id)=pure (.type "method_descriptor")) (hm:AMt X T id ty r) (ho:AE X o to) (ha:AA X [e] t)
    (hbase:attributeBase o name X.env (eval o X.env)=eval o X.env:=by rfl) (hline:(apos.endLine==cpos.line)=true:=by rfl) (hs:aXq e=true:=by rfl):AE X (.Call (.Attribute o name apos) [e] [] cpos) (dBM ty r to t):=by
  obtain ⟨co,jo,ro⟩:=ho.run
  obtain ⟨ca,ja,ra⟩:=ha.run
  obtain ⟨cm,jm,hy,rm⟩:=hm.run
  refine ⟨_,zWq pa slot hty jm jo ja hbase hline hs,λ ρ G DQ σ H Q B q F=>ro ρ G _ σ H _ B q λ x G1 v H1 g1 ax ⟨h1,q1⟩=>⟨hy x v G1 H1 g1.vw ax h1,?_⟩⟩
  exact ra ρ G1 _ σ H1 _ (B.go g1) q1 λ xs G2 vs H2 g2 al _ q2=>rm x xs v vs G2 H2 DQ Q g2.vw (ax.mono g2.tup) al q2 (F.after (g1.trans g2))
theorem lWq {name:Str} {T id:String} {ty:D->DV->Prop} {r:D->List D->DV->DK->Prop} (pa:PlainAttrs T) (slot:Slot T name id) (hty:typeOf (.builtin id)=pure (.type "method_descriptor")) (hm:AMt X T id ty r) (ho:AE X o to)
    (hbase:attributeBase o name X.env (eval o X.env)=eval o X.env:=by rfl) (hline:(apos.endLine==cpos.line)=true:=by rfl):AE X (.Call (.Attribute o name apos) [] [] cpos) (dBM0 ty r to):=by
  obtain ⟨co,jo,ro⟩:=ho.run
  obtain ⟨cm,jm,hy,rm⟩:=hm.run
  exact ⟨_,x0q pa slot hty jm jo hbase hline,λ ρ G DQ σ H Q B q F=>ro ρ G _ σ H _ B q λ x G1 v H1 g1 ax ⟨h1,q1⟩=>⟨hy x v G1 H1 g1.vw ax h1,rm x [] v [] G1 H1 DQ Q g1.vw ax rfl q1 (F.after g1)⟩⟩
def qDq:D->DV->Prop:=λ x G=>match x with
  | .ref l=>onL G l λ _=>True
  | _=>False
theorem gAq {K:PySem.W.Frag} {x:D} {v:V} {G:DV} {H:Hp} (w:Vw K G H) (ax:Abs K H x v) (h:qDq x G):tyV K "list" v H:=by
  cases x with
  | ref l=>cases ax;obtain ⟨ds,vs,_,s,_⟩:=b2q w h;exact .inl ⟨rfl,vs,s⟩
  | _=>exact (show False from h).elim
def appD:D->List D->DV->DK->Prop:=λ x xs G Q=>match x,xs with
  | .ref l,[y]=>onM G l λ ds=>ds.length < sizeLine/\Q .non (up G l (.lst (ds++[y])))
  | _,_=>False
theorem b4q:AMt X "list" "list.append" qDq appD:=by
  refine ⟨_,⟨eAq⟩,λ x v G H w ax h=>gAq w ax h,λ x xs vx vs G H DQ Q v ax al r F=>?_⟩
  unfold appD at r
  split at r
  . next l y=>
    cases ax
    obtain ⟨u,us,rfl,au,z⟩:=al
    cases z
    obtain ⟨ds,ws,k,e1,h1,r1⟩:=c3q v r
    exact ⟨l,ws,u,rfl,rfl,h1,by rw [r1.len];exact k.1,F .non _ _ _ (Go.setL v e1 (r1.append (.one au))) rfl k.2⟩
  . exact r.elim
def extD:D->List D->DV->DK->Prop:=λ x xs G Q=>match x,xs with
  | .ref l,[.tup es]=>onM G l λ ds=>ds.length+es.length<=sizeLine/\Q .non (up G l (.lst (ds++es)))
  | .ref l,[.ref m]=>onM G l λ ds=>onM G m λ es=>ds.length+es.length<=sizeLine/\Q .non (up G l (.lst (ds++es)))
  | _,_=>False
theorem JMt.or {id:String} {r r':V->List V->Hp->VK->Prop} (h:JMt X id r) (h':JMt X id r'):JMt X id (λ x xs H Q=>r x xs H Q\/r' x xs H Q):=⟨h.run.or h'.run⟩
theorem kMq:AMt X "list" "list.extend" qDq extD:=by
  refine ⟨_,JMt.or ⟨sZq⟩ ⟨nMq⟩,λ x v G H w ax h=>gAq w ax h,λ x xs vx vs G H DQ Q v ax al r F=>?_⟩
  unfold extD at r
  split at r
  . next l es'=>
    cases ax
    obtain ⟨u,us,rfl,⟨m,zs,rfl,s,rz⟩,z⟩:=al
    cases z
    obtain ⟨ds,ws,k,e1,h1,r1⟩:=c3q v r
    exact .inl ⟨l,m,ws,zs,rfl,rfl,h1,s,by rw [r1.len,rz.len];exact k.1,F .non _ _ _ (Go.setL v e1 (r1.append rz)) rfl k.2⟩
  . next l m=>
    cases ax
    obtain ⟨u,us,rfl,au,z⟩:=al
    cases z;cases au
    obtain ⟨ds,ws,k,e1,h1,r1⟩:=c3q v r
    obtain ⟨es',zs,k2,e2,h2,r2⟩:=c3q v k
    exact .inr ⟨l,m,ws,zs,rfl,rfl,h1,h2,by rw [r1.len,r2.len];exact k2.1,F .non _ _ _ (Go.setL v e1 (r1.append r2)) rfl k2.2⟩
  . exact r.elim
def popD:D->List D->DV->DK->Prop:=λ x xs G Q=>match x,xs with
  | .ref l,[]=>onM G l λ ds=>∃ es d,ds=es++[d]/\Q d (up G l (.lst es))
  | _,_=>False
theorem j2q:AMt X "list" "list.pop" qDq popD:=by
  refine ⟨_,⟨wDq⟩,λ x v G H w ax h=>gAq w ax h,λ x xs vx vs G H DQ Q v ax al r F=>?_⟩
  unfold popD at r
  split at r
  . next l=>
    cases ax;cases al
    obtain ⟨ds,ws,⟨es',d,rfl,k⟩,e1,h1,r1⟩:=c3q v r
    have hl:=r1.len
    have hd:(es'++[d])[es'.length]?=some d:=by simp
    obtain ⟨u,hu,au⟩:=r1.get hd
    have e:ws.length - 1=es'.length:=by rw [hl];simp
    have r2:AbsL X.K H es' ws.dropLast:=by
      have z:=r1.take es'.length
      rw [List.take_left] at z
      rw [List.dropLast_eq_take,e];exact z
    have g:=Go.setL v e1 r2
    exact ⟨l,ws,u,rfl,rfl,h1,by rw [e];exact hu,F d _ _ _ g (au.mono g.tup) k⟩
  . exact r.elim
abbrev DSp:=List D->DV->DK->Prop
def aMq (K:PySem.W.Frag) (dsp:DSp):Sp:=λ vs H Q _=>∃ ds G DQ,AbsL K H ds vs/\Vw K G H/\dsp ds G DQ/\Fin K G H DQ Q
abbrev w9q (dsp:DSp) (t:DTA):DTE:=λ ρ G Q=>t ρ G λ ds G1=>dsp ds G1 Q
theorem aAq {k j:Nat} {x:Str} {ps:List Str} {dsp:DSp} (Gt:Got X.prog X.w X.K X.mg X.base k x ps (aMq X.K dsp)) (hr:Room j X.A) (hk:k<=j) (hg:Gl X x) (ha:AA X (e::es) t) (hdb:(x==("__debug__" : Str))=false:=by decide)
    (hs:(e::es).all aXq=true:=by rfl):AE X (.Call (.Name x p) (e::es) [] pos) (w9q dsp t):=by
  obtain ⟨ca,ja,ra⟩:=ha.run
  exact ⟨_,zDq Gt hr hk hg ja hdb hs,λ ρ G DQ σ H Q B q F=>ra ρ G _ σ H _ B q λ ds G1 vs H1 g1 al _ q1=>⟨ds,G1,DQ,by rw [List.append_nil];exact al,g1.vw,q1,F.after g1⟩⟩
abbrev vAq (k:Nat) (f:Addr) (dsp:DSp) (t:DTA):DTE:=λ ρ G Q=>ρ[k]?=some (some (.ref f))/\w9q dsp t ρ G Q
theorem zMq (n:Nat) {k j:Nat} {f:Addr} {x:Str} {dsp:DSp} (Gt:FnV X.prog X.w X.K X.mg X.base k f (aMq X.K dsp)) (hr:Room j X.A) (hk:k<=j) (ha:AA X (e::es) t) (hN:X.N[n]?=some x:=by rfl) (hv:Vis X.env.scope x:=by first | exact Or.inl rfl | exact Or.inr (Or.inl rfl) | exact Or.inr (Or.inr rfl))
    (hd:(x==("__debug__" : Str))=false:=by decide) (hcd:(x==("__classdict__" : Str))=false:=by decide) (hs:(e::es).all aXq=true:=by rfl):AE X (.Call (.Name x p) (e::es) [] pos) (vAq n f dsp t):=by
  obtain ⟨ca,ja,ra⟩:=ha.run
  refine ⟨_,aB7q n Gt hr hk ja hN hv hd hcd hs,λ ρ G DQ σ H Q B q F=>?_⟩
  obtain ⟨q0,q⟩:=q
  obtain ⟨v,h1,h2⟩:=B.st n _ q0
  cases h2
  exact ⟨h1,ra ρ G _ σ H _ B q λ ds G1 vs H1 g1 al _ q1=>⟨ds,G1,DQ,by rw [List.append_nil];exact al,g1.vw,q1,F.after g1⟩⟩
def Dr (DQ:DK):DK:=λ d G=>∃ G',Sub G' G/\DQ d G'
theorem Dr.of {DQ:DK} {d:D} {G:DV} (h:DQ d G):Dr DQ d G:=⟨G,.refl _,h⟩
def eUq (N:List Str) (ds:List D):DSt:=ds.map some++List.replicate (N.length - ds.length) none
theorem dXq {K:PySem.W.Frag} {N:List Str} {ds:List D} {vs:List V} {G:DV} {H:Hp} (r:AbsL K H ds vs) (v:Vw K G H):Bears K (eUq N ds) G (L2.c2q N vs) H:=by
  have hl:=r.len
  refine ⟨by simp [eUq,L2.c2q,hl],λ i d h=>?_,v⟩
  unfold eUq at h
  unfold L2.c2q
  by_cases c:i < ds.length
  . rw [List.getElem?_append_left (by simpa using c),List.getElem?_map] at h
    rw [List.getElem?_append_left (by simpa [hl] using c),List.getElem?_map]
    cases e:ds[i]? with
    | none=>rw [e] at h;cases h
    | some z=>
      rw [e] at h
      simp at h
      subst h
      obtain ⟨u,h1,h2⟩:=r.get e
      exact ⟨u,by rw [h1];rfl,h2⟩
  . rw [List.getElem?_append_right (by simpa using c),List.getElem?_replicate] at h
    split at h<;>cases h
theorem okD {P:Program} {w:World} {K:PySem.W.Frag} {mg:Str->Option Value} {base:Heap} {x qual:Str} {st:Stmt} {f:Addr} {fd:FuncData} {N ps:List Str} {k:Nat} {dsp:DSp} (F:Fun K x qual st f fd) (S:FnScope N ps (a5q st)) (len:∀ ds G DQ,dsp ds G DQ->ds.length=ps.length)
    (hbody:∀ (cdv:Value) (A:Around) (outer:List Env) (s:Shared) (H:Hp) (E:XK),Room k (A.deeper (PyProof.Rows.envOfC qual (a5q st) s.heap.objs.size f cdv))->∀ (ds:List D) (G:DV) (DQ:DK),dsp ds G DQ →
      ∃ t,AB (kZq CX0 P w K mg base N qual (a5q st) f cdv A outer s H E).nox (b0q st) t/\t { nx:=λ _ G'=>Dr DQ .non G',rt:=Dr DQ } (eUq N ds) G):FnOk P w K mg base CX0 (k+1) f fd ps (aMq K dsp):=by
  refine F.okJ S (λ vs H Q E h=>?_) (λ cdv A outer s H vs Q E hr h=>?_)
  . obtain ⟨ds,G,DQ,r,_,h,_⟩:=h
    rw [r.len];exact len ds G DQ h
  . obtain ⟨ds,G,DQ,r,v,h,Fn⟩:=h
    obtain ⟨t,⟨tc,j,imp⟩,q⟩:=hbody cdv A outer s H E hr ds G DQ h
    refine ⟨tc,j,imp _ _ (eUq N ds) G (L2.c2q N vs) H (dXq r v) q ⟨λ ρ' G' σ' H' g b ⟨G2,s2,q2⟩=>Fn .non G2 .non H' (g.sub s2) rfl q2,λ d G' v H' g a ⟨G2,s2,q2⟩=>Fn d G2 v H' (g.sub s2) a q2,λ _ _ _ _ _ _ z=>z.elim,λ _ _ _ _ _ _ z=>z.elim⟩⟩
end
end L3
namespace L3
open PySem PySem.Spec L2
mutual
def eqD:D->D->Bool
  | .non,.non=>true
  | .bl a,.bl b=>a==b
  | .bl a,.int b=>(if a then 1 else 0)==b
  | .int a,.bl b=>a==(if b then 1 else 0)
  | .int a,.int b=>a==b
  | .str a,.str b=>a==b
  | .tup xs,.tup ys=>jVq xs ys
  | _,_=>false
def jVq:List D->List D->Bool
  | [],[]=>true
  | x::xs,y::ys=>eqD x y&&jVq xs ys
  | _,_=>false
end
mutual
def D.data:D->Bool
  | .ref _=>false
  | .ty _=>false
  | .frl _=>false
  | .tup ds=>cHq ds
  | _=>true
def cHq:List D->Bool
  | []=>true
  | d::ds=>d.data&&cHq ds
end
mutual
def D.dp:D->Nat
  | .tup ds=>1+jHq ds
  | _=>0
def jHq:List D->Nat
  | []=>0
  | d::ds=>max d.dp (jHq ds)
end
def eqJ (ds es:List D) (j:Nat):Bool:=match ds[j]?,es[j]? with
  | some d,some e=>eqD d e
  | _,_=>false
theorem bQq:∀ (ds es:List D),((List.range (min ds.length es.length)).all (eqJ ds es)&&ds.length==es.length)=jVq ds es
  | [],[]=>by simp [jVq]
  | [],e::es=>by simp [jVq]
  | d::ds,[]=>by simp [jVq]
  | d::ds,e::es=>by
    rw [jVq,<- bQq ds es,List.length_cons,List.length_cons,Nat.succ_min_succ,List.range_succ_eq_map,List.all_cons,List.all_map]
    have h1:eqJ (d::ds) (e::es) 0=eqD d e:=rfl
    have h2:(eqJ (d::ds) (e::es) ∘ Nat.succ)=eqJ ds es:=by funext j;simp [eqJ]
    rw [h1,h2,Bool.and_assoc]
    congr 2
    rw [Bool.eq_iff_iff];simp
section
variable {X:Cx} {pins:List (Addr × Obj)} {σ:L2.St} {H:Hp} {s:Shared}
mutual
theorem t9q (I:Inv X pins σ H s):∀ {d e:D} {v:V},d.data=true->e.data=true->Abs X.K H d v->Abs X.K H e v->d=e
  | .non,e,v,_,h,a,b=>by
    cases a
    cases e<;>first | rfl | (cases b;done) | (obtain ⟨_,_,z,_⟩:=b;cases z)
  | .bl _,e,v,_,h,a,b=>by
    cases a
    cases e<;>first | (cases b;rfl) | (cases b;done) | (obtain ⟨_,_,z,_⟩:=b;cases z)
  | .int _,e,v,_,h,a,b=>by
    cases a
    cases e<;>first | (cases b;rfl) | (cases b;done) | (obtain ⟨_,_,z,_⟩:=b;cases z)
  | .str _,e,v,_,h,a,b=>by
    cases a
    cases e<;>first | (cases b;rfl) | (cases b;done) | (obtain ⟨_,_,z,_⟩:=b;cases z)
  | .ref _,_,_,h,_,_,_=>by simp [D.data] at h
  | .ty _,_,_,h,_,_,_=>by simp [D.data] at h
  | .frl _,_,_,h,_,_,_=>by simp [D.data] at h
  | .tup ds,e,v,h0,h,a,b=>by
    obtain ⟨l,vs,rfl,s1,r1⟩:=a
    cases e with
    | tup es=>
      obtain ⟨m,us,z,s2,r2⟩:=b
      cases z
      have e:=I.tuple_inj s1 s2
      subst e
      rw [gXq I (by simpa [D.data] using h0) (by simpa [D.data] using h) r1 r2]
    | ref m=>simp [D.data] at h
    | frl m=>simp [D.data] at h
    | _=>cases b
theorem gXq (I:Inv X pins σ H s):∀ {ds es:List D} {vs:List V},cHq ds=true->cHq es=true->AbsL X.K H ds vs->AbsL X.K H es vs->ds=es
  | [],[],_,_,_,_,_=>rfl
  | [],e::es,_,_,_,a,b=>by cases a;obtain ⟨_,_,z,_⟩:=b;cases z
  | d::ds,[],_,_,_,a,b=>by cases b;obtain ⟨_,_,z,_⟩:=a;cases z
  | d::ds,e::es,vs,h1,h2,⟨v,r,e1,a1,l1⟩,⟨u,q,e2,a2,l2⟩=>by
    subst e1
    cases e2
    simp only [cHq,Bool.and_eq_true] at h1 h2
    rw [t9q I h1.1 h2.1 a1 a2,gXq I h1.2 h2.2 l1 l2]
end
mutual
theorem g5q:∀ {d:D},d.data=true->eqD d d=true
  | .non,_=>rfl
  | .bl _,_=>by simp [eqD]
  | .int _,_=>by simp [eqD]
  | .str _,_=>by simp [eqD]
  | .ref _,h=>by simp [D.data] at h
  | .ty _,h=>by simp [D.data] at h
  | .frl _,h=>by simp [D.data] at h
  | .tup ds,h=>by rw [eqD];exact hZq (by simpa [D.data] using h)
theorem hZq:∀ {ds:List D},cHq ds=true->jVq ds ds=true
  | [],_=>rfl
  | d::ds,h=>by
    simp only [cHq,Bool.and_eq_true] at h
    rw [jVq,g5q h.1,hZq h.2];rfl
end
mutual
theorem zTq (I:Inv X pins σ H s):∀ (d e:D) (A:Around) (x y:V) (u v:Value),d.data=true->e.data=true->Abs X.K H d x->Abs X.K H e y->RelV x u->RelV y v->A.units+d.dp < cLine->SeqAt.EqAt A s u v (eqD d e)
  | .tup ds,e,A,x,y,u,v,hd,he,ax,ay,ru,rv,hu=>by
    obtain ⟨a,vs,rfl,s1,r1⟩:=ax
    cases ru
    obtain ⟨its,rr,t1,_⟩:=I.tuple s1
    have hu0:A.units < cLine:=by omega
    cases e with
    | non=>cases ay;cases rv;exact SeqAt.EqAt.tuple_none t1 hu0
    | bl b=>cases ay;cases rv;exact SeqAt.EqAt.tuple_bool b t1 hu0
    | int b=>cases ay;obtain ⟨t,rfl⟩:=rv;exact SeqAt.EqAt.tuple_int b t t1 hu0
    | str b=>cases ay;obtain ⟨t,rfl⟩:=rv;exact SeqAt.EqAt.tuple_str b t t1 hu0
    | ref b=>simp [D.data] at he
    | ty b=>simp [D.data] at he
    | frl b=>simp [D.data] at he
    | tup es=>
      obtain ⟨b,us,rfl,s2,r2⟩:=ay
      cases rv
      by_cases hab:a=b
      . subst hab
        have e1:=I.tuple_inj s1 s2
        subst e1
        have e2:=gXq I (by simpa [D.data] using hd) (by simpa [D.data] using he) r1 r2
        subst e2
        rw [g5q hd]
        exact SeqAt.EqAt.same _
      . obtain ⟨its2,rr2,t2,_⟩:=I.tuple s2
        have l1:=rr.length
        have l2:=rr2.length
        have l3:=r1.len
        have l4:=r2.len
        simp only [D.dp] at hu
        have z:=SeqAt.RcAt.tuples (A:=A) (e:=eqJ ds es) t1 t2 hu0 (λ j h1 h2=>by
          have q:=f4q I ds es A.in1 vs us its its2 (by simpa [D.data] using hd) (by simpa [D.data] using he) r1 r2 rr rr2 (by show A.units+1+jHq ds < cLine;omega) j (by simpa using h1) (by simpa using h2)
          simpa using q)
        have ez:((List.range (min its.toArray.size its2.toArray.size)).all (eqJ ds es)&&its.toArray.size==its2.toArray.size)=eqD (.tup ds) (.tup es):=by
          rw [List.size_toArray,List.size_toArray,<- l1,<- l2,l3,l4,bQq];rfl
        rw [ez] at z
        exact SeqAt.EqAt.of_refs hab z
  | .ref _,_,_,_,_,_,_,hd,_,_,_,_,_,_=>by simp [D.data] at hd
  | .ty _,_,_,_,_,_,_,hd,_,_,_,_,_,_=>by simp [D.data] at hd
  | .frl _,_,_,_,_,_,_,hd,_,_,_,_,_,_=>by simp [D.data] at hd
  | .non,e,A,x,y,u,v,hd,he,ax,ay,ru,rv,hu=>by
    cases ax;cases ru
    have hu0:A.units < cLine:=by omega
    cases e with
    | non=>cases ay;cases rv;exact SeqAt.EqAt.same _
    | bl b=>cases ay;cases rv;exact SeqAt.EqAt.none_bool b
    | int b=>cases ay;obtain ⟨t,rfl⟩:=rv;exact SeqAt.EqAt.none_int b t
    | str b=>cases ay;obtain ⟨t,rfl⟩:=rv;exact SeqAt.EqAt.none_str b t
    | ref b=>simp [D.data] at he
    | ty b=>simp [D.data] at he
    | frl b=>simp [D.data] at he
    | tup es=>obtain ⟨b,us,rfl,s2,r2⟩:=ay;cases rv;obtain ⟨its2,rr2,t2,_⟩:=I.tuple s2;exact SeqAt.EqAt.none_tuple t2 hu0
  | .bl a,e,A,x,y,u,v,hd,he,ax,ay,ru,rv,hu=>by
    cases ax;cases ru
    have hu0:A.units < cLine:=by omega
    cases e with
    | non=>cases ay;cases rv;exact SeqAt.EqAt.bool_none a
    | bl b=>cases ay;cases rv;exact SeqAt.EqAt.bool_bool a b
    | int b=>cases ay;obtain ⟨t,rfl⟩:=rv;exact SeqAt.EqAt.bool_int a b t
    | str b=>cases ay;obtain ⟨t,rfl⟩:=rv;exact SeqAt.EqAt.bool_str a b t
    | ref b=>simp [D.data] at he
    | ty b=>simp [D.data] at he
    | frl b=>simp [D.data] at he
    | tup es=>obtain ⟨b,us,rfl,s2,r2⟩:=ay;cases rv;obtain ⟨its2,rr2,t2,_⟩:=I.tuple s2;exact SeqAt.EqAt.bool_tuple a t2 hu0
  | .int a,e,A,x,y,u,v,hd,he,ax,ay,ru,rv,hu=>by
    cases ax;obtain ⟨t',rfl⟩:=ru
    have hu0:A.units < cLine:=by omega
    cases e with
    | non=>cases ay;cases rv;exact SeqAt.EqAt.int_none a t'
    | bl b=>cases ay;cases rv;exact SeqAt.EqAt.int_bool a t' b
    | int b=>cases ay;obtain ⟨t,rfl⟩:=rv;exact SeqAt.EqAt.int_int a t' b t
    | str b=>cases ay;obtain ⟨t,rfl⟩:=rv;exact SeqAt.EqAt.int_str a t' b t
    | ref b=>simp [D.data] at he
    | ty b=>simp [D.data] at he
    | frl b=>simp [D.data] at he
    | tup es=>obtain ⟨b,us,rfl,s2,r2⟩:=ay;cases rv;obtain ⟨its2,rr2,t2,_⟩:=I.tuple s2;exact SeqAt.EqAt.int_tuple a t' t2 hu0
  | .str a,e,A,x,y,u,v,hd,he,ax,ay,ru,rv,hu=>by
    cases ax;obtain ⟨t',rfl⟩:=ru
    have hu0:A.units < cLine:=by omega
    cases e with
    | non=>cases ay;cases rv;exact SeqAt.EqAt.str_none a t'
    | bl b=>cases ay;cases rv;exact SeqAt.EqAt.str_bool a t' b
    | int b=>cases ay;obtain ⟨t,rfl⟩:=rv;exact SeqAt.EqAt.str_int a t' b t
    | str b=>cases ay;obtain ⟨t,rfl⟩:=rv;exact SeqAt.EqAt.str_str a t' b t
    | ref b=>simp [D.data] at he
    | ty b=>simp [D.data] at he
    | frl b=>simp [D.data] at he
    | tup es=>obtain ⟨b,us,rfl,s2,r2⟩:=ay;cases rv;obtain ⟨its2,rr2,t2,_⟩:=I.tuple s2;exact SeqAt.EqAt.str_tuple a t' t2 hu0
theorem f4q (I:Inv X pins σ H s):∀ (ds es:List D) (A:Around) (vs us:List V) (its its2:List Value),cHq ds=true->cHq es=true->AbsL X.K H ds vs->AbsL X.K H es us->Vals vs its->Vals us its2->A.units+jHq ds < cLine →
    ∀ j (h1:j < its.length) (h2:j < its2.length),SeqAt.EqAt A s its[j] its2[j] (eqJ ds es j)
  | [],es,A,vs,us,its,its2,_,_,e,e',rr,rr2,_,j,h1,h2=>by
    rw [show vs=[] from e] at rr
    cases rr
    exact absurd h1 (by simp)
  | d::ds,[],A,vs,us,its,its2,_,_,e,e',rr,rr2,_,j,h1,h2=>by
    rw [show us=[] from e'] at rr2
    cases rr2
    exact absurd h2 (by simp)
  | d::ds,e0::es,A,vs,us,its,its2,hd,he,⟨v,r,e,q,t⟩,⟨v',r',e',q',t'⟩,rr,rr2,hu,j,h1,h2=>by
    subst e e'
    cases rr with
    | cons r1 rt=>
      cases rr2 with
      | cons r2 rt2=>
        simp only [jHq] at hu
        simp only [cHq,Bool.and_eq_true] at hd he
        cases j with
        | zero=>exact zTq I d e0 A _ _ _ _ hd.1 he.1 q q' r1 r2 (by omega)
        | succ j=>
          have z:=f4q I ds es A _ _ _ _ hd.2 he.2 t t' rt rt2 (by omega) j (by simpa using h1) (by simpa using h2)
          simpa [eqJ] using z
end
theorem zIq (I:Inv X pins σ H s) (d e:D) (A:Around) (x y:V) (u v:Value) (hd:d.data=true) (he:e.data=true) (ax:Abs X.K H d x) (ay:Abs X.K H e y) (ru:RelV x u) (rv:RelV y v) (hu:A.units+d.dp < cLine):SeqAt.RcAt A s u v (eqD d e):=by
  have hu0:A.units < cLine:=by omega
  cases d with
  | tup ds=>
    obtain ⟨a,vs,rfl,s1,r1⟩:=ax
    cases ru
    obtain ⟨its,rr,t1,_⟩:=I.tuple s1
    cases e with
    | non=>cases ay;cases rv;exact SeqAt.RcAt.tuple_none t1 hu0
    | bl b=>cases ay;cases rv;exact SeqAt.RcAt.tuple_bool b t1 hu0
    | int b=>cases ay;obtain ⟨t,rfl⟩:=rv;exact SeqAt.RcAt.tuple_int b t t1 hu0
    | str b=>cases ay;obtain ⟨t,rfl⟩:=rv;exact SeqAt.RcAt.tuple_str b t t1 hu0
    | ref b=>simp [D.data] at he
    | ty b=>simp [D.data] at he
    | frl b=>simp [D.data] at he
    | tup es=>
      obtain ⟨b,us,rfl,s2,r2⟩:=ay
      cases rv
      obtain ⟨its2,rr2,t2,_⟩:=I.tuple s2
      have l1:=rr.length
      have l2:=rr2.length
      have l3:=r1.len
      have l4:=r2.len
      simp only [D.dp] at hu
      have z:=SeqAt.RcAt.tuples (A:=A) (e:=eqJ ds es) t1 t2 hu0 (λ j h1 h2=>by
        have q:=f4q I ds es A.in1 vs us its its2 (by simpa [D.data] using hd) (by simpa [D.data] using he) r1 r2 rr rr2 (by show A.units+1+jHq ds < cLine;omega) j (by simpa using h1) (by simpa using h2)
        simpa using q)
      have ez:((List.range (min its.toArray.size its2.toArray.size)).all (eqJ ds es)&&its.toArray.size==its2.toArray.size)=eqD (.tup ds) (.tup es):=by
        rw [List.size_toArray,List.size_toArray,<- l1,<- l2,l3,l4,bQq];rfl
      rw [ez] at z
      exact z
  | ref a=>simp [D.data] at hd
  | ty a=>simp [D.data] at hd
  | frl a=>simp [D.data] at hd
  | non=>
    cases ax;cases ru
    cases e with
    | non=>cases ay;cases rv;exact SeqAt.RcAt.none_none
    | bl b=>cases ay;cases rv;exact SeqAt.RcAt.none_bool b
    | int b=>cases ay;obtain ⟨t,rfl⟩:=rv;exact SeqAt.RcAt.none_int b t
    | str b=>cases ay;obtain ⟨t,rfl⟩:=rv;exact SeqAt.RcAt.none_str b t
    | ref b=>simp [D.data] at he
    | ty b=>simp [D.data] at he
    | frl b=>simp [D.data] at he
    | tup es=>obtain ⟨b,us,rfl,s2,r2⟩:=ay;cases rv;obtain ⟨its2,rr2,t2,_⟩:=I.tuple s2;exact SeqAt.RcAt.none_tuple t2 hu0
  | bl a=>
    cases ax;cases ru
    cases e with
    | non=>cases ay;cases rv;exact SeqAt.RcAt.bool_none a
    | bl b=>cases ay;cases rv;exact SeqAt.RcAt.bool_bool a b
    | int b=>cases ay;obtain ⟨t,rfl⟩:=rv;exact SeqAt.RcAt.bool_int a b t
    | str b=>cases ay;obtain ⟨t,rfl⟩:=rv;exact SeqAt.RcAt.bool_str a b t
    | ref b=>simp [D.data] at he
    | ty b=>simp [D.data] at he
    | frl b=>simp [D.data] at he
    | tup es=>obtain ⟨b,us,rfl,s2,r2⟩:=ay;cases rv;obtain ⟨its2,rr2,t2,_⟩:=I.tuple s2;exact SeqAt.RcAt.bool_tuple a t2 hu0
  | int a=>
    cases ax;obtain ⟨t',rfl⟩:=ru
    cases e with
    | non=>cases ay;cases rv;exact SeqAt.RcAt.int_none a t'
    | bl b=>cases ay;cases rv;exact SeqAt.RcAt.int_bool a t' b
    | int b=>cases ay;obtain ⟨t,rfl⟩:=rv;exact SeqAt.RcAt.int_int a t' b t
    | str b=>cases ay;obtain ⟨t,rfl⟩:=rv;exact SeqAt.RcAt.int_str a t' b t
    | ref b=>simp [D.data] at he
    | ty b=>simp [D.data] at he
    | frl b=>simp [D.data] at he
    | tup es=>obtain ⟨b,us,rfl,s2,r2⟩:=ay;cases rv;obtain ⟨its2,rr2,t2,_⟩:=I.tuple s2;exact SeqAt.RcAt.int_tuple a t' t2 hu0
  | str a=>
    cases ax;obtain ⟨t',rfl⟩:=ru
    cases e with
    | non=>cases ay;cases rv;exact SeqAt.RcAt.str_none a t'
    | bl b=>cases ay;cases rv;exact SeqAt.RcAt.str_bool a t' b
    | int b=>cases ay;obtain ⟨t,rfl⟩:=rv;exact SeqAt.RcAt.str_int a t' b t
    | str b=>cases ay;obtain ⟨t,rfl⟩:=rv;exact SeqAt.RcAt.str_str a t' b t
    | ref b=>simp [D.data] at he
    | ty b=>simp [D.data] at he
    | frl b=>simp [D.data] at he
    | tup es=>obtain ⟨b,us,rfl,s2,r2⟩:=ay;cases rv;obtain ⟨its2,rr2,t2,_⟩:=I.tuple s2;exact SeqAt.RcAt.str_tuple a t' t2 hu0
end
end L3
namespace L3
open PySem PySem.Spec L2
section
variable {X:Cx} {pins:List (Addr × Obj)} {σ:L2.St} {H:Hp} {s:Shared}
theorem zSq (I:Inv X pins σ H s) (d e:D) (A:Around) (x y:V) (u v:Value) (hd:d.data=true) (he:e.data=true) (ax:Abs X.K H d x) (ay:Abs X.K H e y) (ru:RelV x u) (rv:RelV y v) (hu:A.units+d.dp < cLine):SeqAt.RcNeAt A s u v (!eqD d e):=by
  have hu0:A.units < cLine:=by omega
  cases d with
  | tup ds=>
    obtain ⟨a,vs,rfl,s1,r1⟩:=ax
    cases ru
    obtain ⟨its,rr,t1,_⟩:=I.tuple s1
    cases e with
    | non=>cases ay;cases rv;exact SeqAt.RcNeAt.tuple_none t1 hu0
    | bl b=>cases ay;cases rv;exact SeqAt.RcNeAt.tuple_bool b t1 hu0
    | int b=>cases ay;obtain ⟨t,rfl⟩:=rv;exact SeqAt.RcNeAt.tuple_int b t t1 hu0
    | str b=>cases ay;obtain ⟨t,rfl⟩:=rv;exact SeqAt.RcNeAt.tuple_str b t t1 hu0
    | ref b=>simp [D.data] at he
    | ty b=>simp [D.data] at he
    | frl b=>simp [D.data] at he
    | tup es=>
      obtain ⟨b,us,rfl,s2,r2⟩:=ay
      cases rv
      obtain ⟨its2,rr2,t2,_⟩:=I.tuple s2
      have l1:=rr.length
      have l2:=rr2.length
      have l3:=r1.len
      have l4:=r2.len
      simp only [D.dp] at hu
      have z:=SeqAt.RcNeAt.tuples (A:=A) (e:=eqJ ds es) t1 t2 hu0 (λ j h1 h2=>by
        have q:=f4q I ds es A.in1 vs us its its2 (by simpa [D.data] using hd) (by simpa [D.data] using he) r1 r2 rr rr2 (by show A.units+1+jHq ds < cLine;omega) j (by simpa using h1) (by simpa using h2)
        simpa using q)
      have ez:((List.range (min its.toArray.size its2.toArray.size)).all (eqJ ds es)&&its.toArray.size==its2.toArray.size)=eqD (.tup ds) (.tup es):=by
        rw [List.size_toArray,List.size_toArray,<- l1,<- l2,l3,l4,bQq];rfl
      rw [ez] at z
      exact z
  | ref a=>simp [D.data] at hd
  | ty a=>simp [D.data] at hd
  | frl a=>simp [D.data] at hd
  | non=>
    cases ax;cases ru
    cases e with
    | non=>cases ay;cases rv;exact SeqAt.RcNeAt.none_none
    | bl b=>cases ay;cases rv;exact SeqAt.RcNeAt.none_bool b
    | int b=>cases ay;obtain ⟨t,rfl⟩:=rv;exact SeqAt.RcNeAt.none_int b t
    | str b=>cases ay;obtain ⟨t,rfl⟩:=rv;exact SeqAt.RcNeAt.none_str b t
    | ref b=>simp [D.data] at he
    | ty b=>simp [D.data] at he
    | frl b=>simp [D.data] at he
    | tup es=>obtain ⟨b,us,rfl,s2,r2⟩:=ay;cases rv;obtain ⟨its2,rr2,t2,_⟩:=I.tuple s2;exact SeqAt.RcNeAt.none_tuple t2 hu0
  | bl a=>
    cases ax;cases ru
    cases e with
    | non=>cases ay;cases rv;exact SeqAt.RcNeAt.bool_none a
    | bl b=>cases ay;cases rv;exact SeqAt.RcNeAt.bool_bool a b
    | int b=>cases ay;obtain ⟨t,rfl⟩:=rv;exact SeqAt.RcNeAt.bool_int a b t
    | str b=>cases ay;obtain ⟨t,rfl⟩:=rv;exact SeqAt.RcNeAt.bool_str a b t
    | ref b=>simp [D.data] at he
    | ty b=>simp [D.data] at he
    | frl b=>simp [D.data] at he
    | tup es=>obtain ⟨b,us,rfl,s2,r2⟩:=ay;cases rv;obtain ⟨its2,rr2,t2,_⟩:=I.tuple s2;exact SeqAt.RcNeAt.bool_tuple a t2 hu0
  | int a=>
    cases ax;obtain ⟨t',rfl⟩:=ru
    cases e with
    | non=>cases ay;cases rv;exact SeqAt.RcNeAt.int_none a t'
    | bl b=>cases ay;cases rv;exact SeqAt.RcNeAt.int_bool a t' b
    | int b=>cases ay;obtain ⟨t,rfl⟩:=rv;exact SeqAt.RcNeAt.int_int a t' b t
    | str b=>cases ay;obtain ⟨t,rfl⟩:=rv;exact SeqAt.RcNeAt.int_str a t' b t
    | ref b=>simp [D.data] at he
    | ty b=>simp [D.data] at he
    | frl b=>simp [D.data] at he
    | tup es=>obtain ⟨b,us,rfl,s2,r2⟩:=ay;cases rv;obtain ⟨its2,rr2,t2,_⟩:=I.tuple s2;exact SeqAt.RcNeAt.int_tuple a t' t2 hu0
  | str a=>
    cases ax;obtain ⟨t',rfl⟩:=ru
    cases e with
    | non=>cases ay;cases rv;exact SeqAt.RcNeAt.str_none a t'
    | bl b=>cases ay;cases rv;exact SeqAt.RcNeAt.str_bool a t' b
    | int b=>cases ay;obtain ⟨t,rfl⟩:=rv;exact SeqAt.RcNeAt.str_int a t' b t
    | str b=>cases ay;obtain ⟨t,rfl⟩:=rv;exact SeqAt.RcNeAt.str_str a t' b t
    | ref b=>simp [D.data] at he
    | ty b=>simp [D.data] at he
    | frl b=>simp [D.data] at he
    | tup es=>obtain ⟨b,us,rfl,s2,r2⟩:=ay;cases rv;obtain ⟨its2,rr2,t2,_⟩:=I.tuple s2;exact SeqAt.RcNeAt.str_tuple a t' t2 hu0
end
end L3
namespace L3
open PySem PySem.Spec L2
section
variable {X:Cx} {a b c e o i tg iter:Expr} {es:List Expr} {ta tb te to ti tc:DTE} {t:DTA} {pos p apos cpos:Pos}
theorem b6q {A:Around} {k:Nat} (hr:Room k A):A.units+200 < cLine:=by have:=hr.un;omega
def yRq (K:PySem.W.Frag) (f:Bool->Bool):R2:=λ x y H Q=>∃ d e,Abs K H d x/\Abs K H e y/\d.data=true/\e.data=true/\d.dp<=150/\Q (.bl (f (eqD d e))) H
def s6q (K:PySem.W.Frag) (f:Bool->Bool):R2:=λ x y H Q=>∃ l m vs us ds es,x=.ref l/\y=.ref m/\SqL K H l vs/\SqL K H m us/\AbsL K H ds vs/\AbsL K H es us/\cHq ds=true/\cHq es=true/\jHq ds<=150/\Q (.bl (f (jVq ds es))) H
theorem v4q (hu:X.A.units+200 < cLine):OpR X (compareOp .Eq) (yRq X.K id):=by
  intro pins s σ H x y v u Q I rx ry h
  obtain ⟨d,e,ax,ay,hd,he,hz,q⟩:=h
  exact zIq I d e X.A x y v u hd he ax ay rx ry (by omega) X.prog X.w X.xe _ ⟨.bl _,H,I,rfl,q⟩
theorem xHq (hu:X.A.units+200 < cLine):OpR X (compareOp .NotEq) (yRq X.K (!·)):=by
  intro pins s σ H x y v u Q I rx ry h
  obtain ⟨d,e,ax,ay,hd,he,hz,q⟩:=h
  exact zSq I d e X.A x y v u hd he ax ay rx ry (by omega) X.prog X.w X.xe _ ⟨.bl _,H,I,rfl,q⟩
theorem g9q:∀ {ds es:List D},ds.length≠es.length->jVq ds es=false
  | [],[],h=>absurd rfl h
  | [],_::_,_=>rfl
  | _::_,[],_=>rfl
  | d::ds,e::es,h=>by rw [jVq,g9q (by simpa using h),Bool.and_false]
theorem k8q {ds es:List D} (h:ds.length=es.length):(List.range ds.length).all (eqJ ds es)=jVq ds es:=by
  rw [<- bQq,<- h,Nat.min_self];simp
theorem tNq (hu:X.A.units+200 < cLine):OpR X (compareOp .Eq) (s6q X.K id):=by
  intro pins s σ H x y v u Q I rx ry h
  obtain ⟨l,m,vs,us,ds,es,rfl,rfl,s1,s2,r1,r2,hd,he,hz,q⟩:=h
  cases rx;cases ry
  obtain ⟨its,rr,t1,_⟩:=I.list s1
  obtain ⟨its2,rr2,t2,_⟩:=I.list s2
  have l1:=rr.length
  have l2:=rr2.length
  have l3:=r1.len
  have l4:=r2.len
  by_cases hl:ds.length=es.length
  . refine SeqAt.RcAt.lists (e:=eqJ ds es) t1.isList t2.isList (by rw [List.size_toArray,List.size_toArray];omega) (by omega) (λ j h1 h2=>?_) X.prog X.w X.xe _ ⟨.bl _,H,I,?_,q⟩
    . have q:=f4q I ds es X.A.in1 vs us its its2 hd he r1 r2 rr rr2 (by show X.A.units+1+jHq ds < cLine;omega) j (by simpa using h1) (by simpa using h2)
      simpa using q
    . show Value.bool _=Value.bool _
      rw [List.size_toArray,<- l1,l3,k8q hl];rfl
  . refine SeqAt.RcAt.lists_lengths t1.isList t2.isList (by rw [List.size_toArray,List.size_toArray];simp;omega) (by omega) X.prog X.w X.xe _ ⟨.bl _,H,I,?_,q⟩
    rw [g9q hl];rfl
theorem sVq (hu:X.A.units+200 < cLine):OpR X (compareOp .NotEq) (s6q X.K (!·)):=by
  intro pins s σ H x y v u Q I rx ry h
  obtain ⟨l,m,vs,us,ds,es,rfl,rfl,s1,s2,r1,r2,hd,he,hz,q⟩:=h
  cases rx;cases ry
  obtain ⟨its,rr,t1,_⟩:=I.list s1
  obtain ⟨its2,rr2,t2,_⟩:=I.list s2
  have l1:=rr.length
  have l2:=rr2.length
  have l3:=r1.len
  have l4:=r2.len
  by_cases hl:ds.length=es.length
  . refine SeqAt.RcNeAt.lists (e:=eqJ ds es) t1.isList t2.isList (by rw [List.size_toArray,List.size_toArray];omega) (by omega) (λ j h1 h2=>?_) X.prog X.w X.xe _ ⟨.bl _,H,I,?_,q⟩
    . have q:=f4q I ds es X.A.in1 vs us its its2 hd he r1 r2 rr rr2 (by show X.A.units+1+jHq ds < cLine;omega) j (by simpa using h1) (by simpa using h2)
      simpa using q
    . show Value.bool _=Value.bool _
      rw [List.size_toArray,<- l1,l3,k8q hl]
  . refine SeqAt.RcNeAt.lists_lengths t1.isList t2.isList (by rw [List.size_toArray,List.size_toArray];simp;omega) (by omega) X.prog X.w X.xe _ ⟨.bl _,H,I,?_,q⟩
    rw [g9q hl];rfl
def eqR (f:Bool->Bool):DR2:=λ x y G Q=>match x,y with
  | .int i,.int j=>Q (.bl (f (i==j))) G
  | .str i,.str j=>Q (.bl (f (i==j))) G
  | .tup _,.str _=>Q (.bl (f false)) G
  | .str _,.tup _=>Q (.bl (f false)) G
  | .ref l,.ref m=>onL G l λ ds=>onL G m λ es=>cHq ds=true/\cHq es=true/\jHq ds<=150/\Q (.bl (f (jVq ds es))) G
  | x,y=>x.data=true/\y.data=true/\x.dp<=150/\Q (.bl (f (eqD x y))) G
theorem r9q {f:Bool->Bool} {x y:D} {G:DV} {Q:DK} (hx:x.data=true) (hy:y.data=true) (hd:x.dp<=150) (q:Q (.bl (f (eqD x y))) G):eqR f x y G Q:=by
  cases x<;>cases y<;>first | exact q | exact ⟨hx,hy,hd,q⟩ | (simp [D.data] at hx;done) | (simp [D.data] at hy;done)
def rTS (K:PySem.W.Frag) (f:Bool->Bool):R2:=λ x y H Q=>(∃ a vs z,x=.ref a/\SqT K H a vs/\y=.str z/\Q (.bl (f false)) H)\/∃ a vs z,y=.ref a/\SqT K H a vs/\x=.str z/\Q (.bl (f false)) H
theorem rZq (hu:X.A.units+200 < cLine):OpR X (compareOp .Eq) (rTS X.K id):=by
  intro pins s σ H x y v u Q I rx ry h
  rcases h with ⟨a,vs,z,rfl,sq,rfl,q⟩ | ⟨a,vs,z,rfl,sq,rfl,q⟩
  . cases rx;obtain ⟨t,rfl⟩:=ry
    obtain ⟨its,rr,t1,_⟩:=I.tuple sq
    exact SeqAt.RcAt.tuple_str z t t1 (by omega) X.prog X.w X.xe _ ⟨.bl false,H,I,rfl,q⟩
  . cases ry;obtain ⟨t,rfl⟩:=rx
    obtain ⟨its,rr,t1,_⟩:=I.tuple sq
    exact SeqAt.RcAt.str_tuple z t t1 (by omega) X.prog X.w X.xe _ ⟨.bl false,H,I,rfl,q⟩
theorem sTq (hu:X.A.units+200 < cLine):OpR X (compareOp .NotEq) (rTS X.K (!·)):=by
  intro pins s σ H x y v u Q I rx ry h
  rcases h with ⟨a,vs,z,rfl,sq,rfl,q⟩ | ⟨a,vs,z,rfl,sq,rfl,q⟩
  . cases rx;obtain ⟨t,rfl⟩:=ry
    obtain ⟨its,rr,t1,_⟩:=I.tuple sq
    exact SeqAt.RcNeAt.tuple_str z t t1 (by omega) X.prog X.w X.xe _ ⟨.bl true,H,I,rfl,q⟩
  . cases ry;obtain ⟨t,rfl⟩:=rx
    obtain ⟨its,rr,t1,_⟩:=I.tuple sq
    exact SeqAt.RcNeAt.str_tuple z t t1 (by omega) X.prog X.w X.xe _ ⟨.bl true,H,I,rfl,q⟩
theorem qXq {f:Bool->Bool} {op:CmpOp} (h1:OpR X (compareOp op) (yRq X.K f)) (h2:OpR X (compareOp op) (s6q X.K f)) (h3:OpR X (compareOp op) (rTS X.K f)):AOp X (compareOp op) (eqR f):=by
  refine ⟨_,⟨h1.or (h2.or h3)⟩,λ x y vx vy G H DQ Q v ax ay r F=>?_⟩
  have fin:∀ b:Bool,DQ (.bl b) G->Q (.bl b) H:=λ b q=>F (.bl b) G _ H (.refl v) rfl q
  have gen:x.data=true/\y.data=true/\x.dp<=150/\DQ (.bl (f (eqD x y))) G->yRq X.K f vx vy H Q:=λ⟨z1,z2,z3,z4⟩=>⟨x,y,ax,ay,z1,z2,z3,fin _ z4⟩
  unfold eqR at r
  split at r
  . exact .inl (gen ⟨rfl,rfl,Nat.zero_le _,r⟩)
  . exact .inl (gen ⟨rfl,rfl,Nat.zero_le _,r⟩)
  . obtain ⟨l,vs,rfl,s1,_⟩:=ax
    cases ay
    exact .inr (.inr (.inl ⟨l,vs,_,rfl,s1,rfl,fin _ r⟩))
  . obtain ⟨l,vs,rfl,s1,_⟩:=ay
    cases ax
    exact .inr (.inr (.inr ⟨l,vs,_,rfl,s1,rfl,fin _ r⟩))
  . cases ax;cases ay
    obtain ⟨ds,vs,k1,s1,r1⟩:=b2q v r
    obtain ⟨es,us,⟨z1,z2,z3,k2⟩,s2,r2⟩:=b2q v k1
    exact .inr (.inl ⟨_,_,vs,us,ds,es,rfl,rfl,s1,s2,r1,r2,z1,z2,z3,fin _ k2⟩)
  . exact .inl (gen r)
theorem aYq (hu:X.A.units+200 < cLine):AOp X (compareOp .Eq) (eqR id):=qXq (v4q hu) (tNq hu) (rZq hu)
theorem k0q (hu:X.A.units+200 < cLine):AOp X (compareOp .NotEq) (eqR (!·)):=qXq (xHq hu) (sVq hu) (sTq hu)
abbrev y9q (t:DTE):DTE:=λ ρ G Q=>t ρ G λ d G'=>∃ G2,Sub G2 G'/\Q d G2
theorem gZq (h:AE X e te):AE X e (y9q te):=by
  obtain ⟨ca,ja,ra⟩:=h.run
  exact ⟨_,ja,λ ρ G DQ σ H Q B q F=>ra ρ G _ σ H _ B q λ d G' v H' g a ⟨G2,s2,q2⟩=>F d G2 v H' (g.sub s2) a q2⟩
@[irreducible] def atS (ds:List D) (i:Int) (G:DV) (Q:DK):Prop:=atD ds i G Q
theorem r7q {ds:List D} {i:Int} {G:DV} {Q:DK} (h:atD ds i G Q):atS ds i G Q:=by unfold atS;exact h
abbrev dIxD (t:DTA) (tb:DTE):DTE:=λ ρ G Q=>t ρ G λ ds G1=>tb ρ G1 λ y G2=>match y with
  | .int i=>atS ds i G2 Q
  | _=>False
theorem e3q {lp:Pos} (h:AA X es t) (hb:AE X b tb) (hs:gLq b) (hl:Nat.ble es.length 1000=true:=by rfl):AE X (.Subscript (.List es lp) b pos) (dIxD t tb):=by
  obtain ⟨ca,ja,ra⟩:=h.run
  obtain ⟨cb,jb,rb⟩:=hb.run
  refine ⟨_,xRq ⟨r1q⟩ (rOq ja) jb hs,λ ρ G DQ σ H Q B q F=>ra ρ G _ σ H _ B q λ ds G1 vs H1 g1 al hn q1=>⟨by rw [al.len,hn];exact j3q hl,λ p hp=>?_⟩⟩
  have g2:=Go.newT (o:=.lst vs) g1.vw hp
  have n1:=g1.vw.none hp
  refine rb ρ G1 _ σ _ _ ((B.go g1).go g2) q1 λ y G3 u H3 g3 ay q3=>?_
  have h3:=g3.same p _ aNq n1
  split at q3
  . next i=>
    cases ay
    unfold atS at q3
    obtain ⟨d,hd,q4⟩:=g3q q3
    obtain ⟨w,hw,aw⟩:=gQq ((al.mono g2.tup).mono g3.tup) hd
    exact .inl ⟨p,vs,i,w,rfl,rfl,.of h3,hw,F d G3 w H3 ((g1.trans g2).trans g3) aw q4⟩
  . exact q3.elim
def n2q (sc:Scope) (N:List Str) (scope:Scope) (N':List Str) (nt:Nat) (cap:List Nat):Bool:=
  scope.names.all (λ y=>y.2 !=.cell)&&scope.names.all (λ y=>y.2 !=.local||scope.names.lookup y.1==some .local) &&
  scope.names.all (λ y=>y.2 !=.free||(sc.names.lookup y.1==some .cell||sc.names.lookup y.1==some .free))&&N'.length==nt+cap.length &&
  (List.range cap.length).all λ j=>match cap[j]?,N'[nt+j]? with
    | some i,some x=>N[i]?==some x&&scope.names.lookup x==some .free
    | _,_=>true
theorem CompOk.of {scope:Scope} {N':List Str} {nt:Nat} {cap:List Nat} (hk:scope.kind=.function) (h:n2q X.env.scope X.N scope N' nt cap=true):CompOk X scope N' nt cap:=by
  unfold n2q at h
  simp only [Bool.and_eq_true,List.all_eq_true] at h
  obtain ⟨⟨⟨⟨h1,h2⟩,h3⟩,h4⟩,h5⟩:=h
  refine ⟨hk,λ y hy=>by simpa using h1 y hy,λ y hy e=>?_,λ y hy e=>?_,by simpa using h4,λ j i x hj hx=>?_⟩
  . have z:=h2 y hy
    rw [e] at z
    simpa using z
  . have z:=h3 y hy
    rw [e] at z
    simpa using z
  . have lt:j < cap.length:=by
      rcases Nat.lt_or_ge j cap.length with z | z
      . exact z
      . rw [List.getElem?_eq_none z] at hj;cases hj
    have z:=h5 j (List.mem_range.mpr lt)
    rw [hj,hx] at z
    simpa using z
abbrev zEq (to ti:DTE):DTG:=λ d ρ G Q=>to ρ G λ x G1=>ti ρ G1 λ y G2=>match x,y with
  | .ref l,.int k=>onM G2 l λ ds=>∃ j,ixN ds.length k=some j/\Q ρ (up G2 l (.lst (ds.set j d)))
  | _,_=>False
theorem rHq (ho:AE X o to) (hi:AE X i ti) (ha:∀ v,assign (.Subscript o i pos) X.env v=(do
      let ov ← holding [v] (eval o X.env)
      let iv ← holding [v,ov] (eval i X.env)
      standAt pos
      holding [v,ov,iv] (setItem ov iv v)
      release [v,ov,iv] []):=by intro _;rfl):AG X (.Subscript o i pos) (zEq to ti):=by
  obtain ⟨co,jo,ro⟩:=ho.run
  obtain ⟨ci,ji,ri⟩:=hi.run
  refine ⟨_,wHq jo ji ⟨pVq⟩ ha,λ d v ρ G DQ σ H Q B ad q F=>ro ρ G _ σ H _ B q λ x G1 vx H1 g1 ax q1=>ri ρ G1 _ σ H1 _ (B.go g1) q1 λ y G2 vy H2 g2 ay q2=>?_⟩
  split at q2
  . next l k=>
    cases ax;cases ay
    obtain ⟨ds,vs,⟨j,hj,q3⟩,e1,h1,r1⟩:=c3q g2.vw q2
    have ad2:=(ad.mono g1.tup).mono g2.tup
    have g3:=Go.setL g2.vw e1 (r1.set ad2 j)
    have gg:=(g1.trans g2).trans g3
    exact ⟨l,vs,k,j,rfl,rfl,h1,by rw [r1.len];exact hj,F ρ _ σ _ gg (B.go gg) q3⟩
  . exact q2.elim
abbrev dAug (k:Nat) (te:DTE) (f:Int->Int->Int):DTS:=λ DD ρ G=>match ρ[k]? with
  | some (some (.int x))=>te ρ G λ y G1=>(match y with
      | .int z=>DD.nx (ρ.set k (some (.int (f x z)))) G1
      | _=>False)
  | _=>False
structure AIp (X:Cx) (op:Operator) (f:Int->Int->Int):Prop where
  run:JIp X op (ipI f)
theorem u9q:AIp X .Add (λ i j=>i+j):=⟨⟨y3q⟩⟩
theorem vWq {k:Nat} {x:Str} {op:Operator} {f:Int->Int->Int} {pos':Pos} (hN:X.N.Nodup) (hi:X.N[k]?=some x) (hx:Loc X.env.scope x) (he:AE X e te) (ho:AIp X op f) (hf:X.fn x=true\/X.env.scope.names.lookup x=some .local:=by first | exact .inl rfl | exact .inr rfl | assumption) :
    AS X (.AugAssign (.Name x pos') op e pos) (dAug k te f):=by
  obtain ⟨ce,je,re⟩:=he.run
  refine ⟨_,y1q hN hi hx je ho.run hf,λ DD Dc ρ G σ H B q F=>?_⟩
  unfold dAug at q
  split at q
  . next x h=>
    obtain ⟨v,h1,h2⟩:=B.st k _ h
    cases h2
    refine ⟨.int x,h1,re ρ G _ σ H _ B q λ y G1 u H1 g1 ay q1=>?_⟩
    split at q1
    . next z=>cases ay;exact ⟨x,z,rfl,rfl,F.nx _ G1 _ H1 g1 ((B.go g1).set (d:=.int (f x z)) rfl k) q1⟩
    . exact q1.elim
  . exact q.elim
abbrev mZq (te:DTE):DTE:=λ ρ G Q=>te ρ G λ x G1=>match x with
  | .ref l=>onL G1 l λ ds=>∀ p,G1 p=none->Q (.ref p) (up G1 p (.lst ds.reverse))
  | _=>False
theorem e5q (hgl:Gl X "list") (hml:X.mg "list" = none) (hg:Gl X "reversed") (hm:X.mg "reversed" = none) (he:AE X e te) (hc:X.calm=true:=by rfl) (hs:aXq e=true:=by rfl):AE X (.Call (.Name "list" p) [.Call (.Name "reversed" apos) [e] [] cpos] [] pos) (mZq te):=by
  obtain ⟨ce,je,re⟩:=he.run
  refine ⟨_,eLq hgl hml hg hm je hc hs,λ ρ G DQ σ H Q B q F=>re ρ G _ σ H _ B q λ x G1 v H1 g1 ax q1=>?_⟩
  split at q1
  . next l=>
    cases ax
    obtain ⟨ds,vs,k,s,r⟩:=b2q g1.vw q1
    exact ⟨l,vs,rfl,s,λ p hp=>F (.ref p) _ _ _ (g1.trans (Go.newL g1.vw hp r.reverse)) rfl (k p (g1.vw.none hp))⟩
  . exact q1.elim
def cFq:List D->Option (List Bool)
  | []=>some []
  | .bl i::r=>(cFq r).map (i::·)
  | _::_=>none
theorem e7q {K:PySem.W.Frag} {H:Hp}:∀ {ds:List D} {bs:List Bool} {vs:List V},cFq ds=some bs->AbsL K H ds vs->vs=bs.map V.bl
  | [],bs,vs,h,r=>by cases h;exact r
  | d::ds,bs,vs,h,⟨v,q,e,av,l⟩=>by
    cases d with
    | bl i=>
      simp only [cFq,Option.map_eq_some_iff] at h
      obtain ⟨ms,h1,rfl⟩:=h
      subst e
      cases av
      rw [e7q h1 l];rfl
    | _=>simp [cFq] at h
theorem eMq:∀ bs:List Bool,cFq (bs.map D.bl)=some bs
  | []=>rfl
  | b::bs=>by simp [cFq,eMq bs]
def allD:D->DV->DK->Prop:=λ x G Q=>match x with
  | .ref l=>onL G l λ ds=>∃ bs,cFq ds=some bs/\Q (.bl (bs.all id)) G
  | _=>False
theorem lKq (hc:X.calm=true):ACall X (.builtin "all") (oIq allD):=by
  refine ⟨_,⟨mDq hc⟩,λ xs vs G H DQ Q v a r F=>?_⟩
  obtain ⟨x,u,rfl,rfl,ax,r⟩:=bTq r a
  cases x with
  | ref l=>
    cases ax
    obtain ⟨ds,ws,⟨bs,e,k⟩,s,rl⟩:=b2q v r
    rw [e7q e rl] at s
    exact ⟨l,bs,rfl,s,F (.bl (bs.all id)) G _ H (.refl v) rfl k⟩
  | _=>exact (show False from r).elim
def tyN (x:D) (G:DV) (k:String->Prop):Prop:=match x with
  | .non=>k "NoneType"
  | .bl _=>k "bool"
  | .int _=>k "int"
  | .str _=>k "str"
  | .tup _=>k "tuple"
  | .ref l=>onL G l λ _=>k "list"
  | _=>False
def isTy (t T:String):Option Bool:=
  if (t = "NoneType"\/t = "bool"\/t = "int"\/t = "str"\/t = "tuple"\/t = "list")/\(T = "bool"\/T = "int"\/T = "str"\/T = "tuple"\/T = "list") then some (decide (t=T)||(decide (t = "bool")&&decide (T = "int"))) else none
theorem bKq {K:PySem.W.Frag} {t T:String} {b:Bool} (h:isTy t T=some b):PySem.W.kitOne K (.type t) (.type T)=some b:=by
  unfold isTy at h
  split at h
  . next c=>
    obtain ⟨c1,c2⟩:=c
    rcases c1 with rfl | rfl | rfl | rfl | rfl | rfl<;>rcases c2 with rfl | rfl | rfl | rfl | rfl<;>(simp at h;subst h;first | rfl | exact kit_other rfl (by decide))
  . cases h
def rIsI (K:PySem.W.Frag):List V->Hp->VK->Prop:=λ xs H Q=>∃ x T t b,xs=[x,.ty T]/\((TyOf K H x (.type t))\/(t = "tuple"/\∃ a vs,x=.ref a/\SqT K H a vs)\/(t = "list"/\∃ a vs,x=.ref a/\SqL K H a vs))/\PySem.W.kitOne K (.type t) (.type T)=some b/\Q (.bl b) H
theorem o3q:CallR X (.builtin "isinstance") (rIsI X.K):=by
  intro pins s σ H xs us Q I r h
  obtain ⟨x,T,t,b,rfl,ty,hk,hQ⟩:=h
  obtain ⟨u,v,rfl,ru,rv⟩:=Vals.two r
  cases rv
  rcases ty with ty | ⟨rfl,a,vs,rfl,sq⟩ | ⟨rfl,a,vs,rfl,sq⟩
  . exact lYq I ru ty hk λ tk=>⟨.bl b,H,I.tok tk,rfl,hQ⟩
  . cases ru
    obtain ⟨its,_,⟨o,h1,h2,_⟩,_⟩:=I.tuple sq
    exact PySem.W.kia_one PySem.W.kitx_tuple I.kIn ⟨o,h1,h2⟩ hk (λ z=>nomatch z) λ tk=>⟨.bl b,H,I.tok tk,rfl,hQ⟩
  . cases ru
    obtain ⟨its,_,⟨o,n,h1,h2,_⟩,_⟩:=I.list sq
    exact PySem.W.kia_one PySem.W.kitx_list I.kIn ⟨o,h1,h2⟩ hk (λ z=>nomatch z) λ tk=>⟨.bl b,H,I.tok tk,rfl,hQ⟩
def isID:D->D->DV->DK->Prop:=λ x y G Q=>match y with
  | .ty T=>tyN x G λ t=>∃ b,isTy t T=some b/\Q (.bl b) G
  | _=>False
theorem cLq:ACall X (.builtin "isinstance") (yOq isID):=by
  refine ⟨_,⟨o3q⟩,λ xs vs G H DQ Q v a r F=>?_⟩
  obtain ⟨x,y,u,w,rfl,rfl,ax,ay,r⟩:=k3q r a
  cases y with
  | ty T=>
    cases ay
    cases x with
    | non=>cases ax;obtain ⟨b,hb,q⟩:=r;exact ⟨_,T,_,b,rfl,.inl .non,bKq hb,F (.bl b) G _ H (.refl v) rfl q⟩
    | bl z=>cases ax;obtain ⟨b,hb,q⟩:=r;exact ⟨_,T,_,b,rfl,.inl (.bl z),bKq hb,F (.bl b) G _ H (.refl v) rfl q⟩
    | int z=>cases ax;obtain ⟨b,hb,q⟩:=r;exact ⟨_,T,_,b,rfl,.inl (.int z),bKq hb,F (.bl b) G _ H (.refl v) rfl q⟩
    | str z=>cases ax;obtain ⟨b,hb,q⟩:=r;exact ⟨_,T,_,b,rfl,.inl (.str z),bKq hb,F (.bl b) G _ H (.refl v) rfl q⟩
    | tup ds=>obtain ⟨l,ws,rfl,s,_⟩:=ax;obtain ⟨b,hb,q⟩:=r;exact ⟨_,T,"tuple", b,rfl,.inr (.inl ⟨rfl,l,ws,rfl,s⟩),bKq hb,F (.bl b) G _ H (.refl v) rfl q⟩
    | ref l=>
      cases ax
      obtain ⟨ds,ws,⟨b,hb,q⟩,s,_⟩:=b2q v r
      exact ⟨_,T,"list", b,rfl,.inr (.inr ⟨rfl,l,ws,rfl,s⟩),bKq hb,F (.bl b) G _ H (.refl v) rfl q⟩
    | ty z=>exact (show False from r).elim
    | frl z=>exact (show False from r).elim
  | _=>exact (show False from r).elim
end
end L3
namespace L3
open PySem PyProof L2
open PySem.MeetsSeq
theorem h4q {K:PySem.W.Frag} {H:Hp}:∀ ws:List Str,AbsL K H (ws.map D.str) (ws.map V.str)
  | []=>rfl
  | w::ws=>⟨_,_,rfl,rfl,h4q ws⟩
theorem n3q {a b:String} (h:Str.ofString a=Str.ofString b):a=b:=by
  rw [Str.ofString_eq_toList,Str.ofString_eq_toList] at h
  have h1:a.toList.map Char.toNat=b.toList.map Char.toNat:=by simpa using h
  have h2:a.toList=b.toList:=by
    generalize a.toList=x at h1
    generalize b.toList=y at h1
    induction x generalizing y with
    | nil=>cases y with
      | nil=>rfl
      | cons _ _=>simp at h1
    | cons c x ih=>cases y with
      | nil=>simp at h1
      | cons d y=>
        simp only [List.map_cons,List.cons.injEq] at h1
        rw [Char.ext (UInt32.toNat_inj.mp h1.1),ih y h1.2]
  exact String.toList_inj.mp h2
theorem cNq {a b:String}:(Str.ofString a=Str.ofString b)=(a=b):=propext ⟨n3q,λ h=>by rw [h]⟩
inductive Tm where
  | name (k:Nat) | whole (n:Int) | way (t:Tm) | give (t u:Tm) | pair (t u:Tm) | first (t:Tm) | second (t:Tm) | plus (t u:Tm) | look (t u v:Tm)
def Tm.inn:Tm->List Tm
  | .name _=>[]
  | .whole _=>[]
  | .way t=>[t]
  | .give t u=>[t,u]
  | .pair t u=>[t,u]
  | .first t=>[t]
  | .second t=>[t]
  | .plus t u=>[t,u]
  | .look t u v=>[t,u,v]
def Tm.word:Tm->Str
  | .name _=>"name" | .whole _=>"whole" | .way _=>"way" | .give _ _=>"give" | .pair _ _=>"pair" | .first _=>"first" | .second _=>"second" | .plus _ _=>"plus" | .look _ _ _=>"look"
def Tm.enc:Tm->D
  | .name k=>.tup [.str "name", .int k]
  | .whole n=>.tup [.str "whole", .int n]
  | .way t=>.tup [.str "way", t.enc]
  | .give t u=>.tup [.str "give", t.enc,u.enc]
  | .pair t u=>.tup [.str "pair", t.enc,u.enc]
  | .first t=>.tup [.str "first", t.enc]
  | .second t=>.tup [.str "second", t.enc]
  | .plus t u=>.tup [.str "plus", t.enc,u.enc]
  | .look t u v=>.tup [.str "look", t.enc,u.enc,v.enc]
def Tm.sz:Tm->Nat
  | .name _=>1
  | .whole _=>1
  | .way t=>1+t.sz
  | .give t u=>1+t.sz+u.sz
  | .pair t u=>1+t.sz+u.sz
  | .first t=>1+t.sz
  | .second t=>1+t.sz
  | .plus t u=>1+t.sz+u.sz
  | .look t u v=>1+t.sz+u.sz+v.sz
def Tm.dp:Tm->Nat
  | .name _=>0
  | .whole _=>0
  | .way t=>1+t.dp
  | .give t u=>1+max t.dp u.dp
  | .pair t u=>1+max t.dp u.dp
  | .first t=>1+t.dp
  | .second t=>1+t.dp
  | .plus t u=>1+max t.dp u.dp
  | .look t u v=>1+max t.dp (max u.dp v.dp)
theorem Tm.sz_pos (t:Tm):1<=t.sz:=by cases t<;>simp [Tm.sz]<;>omega
theorem Tm.enc_data (t:Tm):t.enc.data=true:=by
  induction t<;>simp_all [Tm.enc,D.data,cHq]
abbrev fed (x y:Int):DO:=.lst [.int x,.int y]
def Fd (G:DV) (a:Addr):Prop:=∃ x y,G a=some (fed x y)
theorem Fd.up {G:DV} {a:Addr} {x y:Int}:Fd (up G a (fed x y)) a:=⟨x,y,a6q⟩
theorem jUq {G:DV} {a l:Addr} {f o:DO} (n:up G a f l=none):up (up G a f) l o=up (up G l o) a f/\G l=none/\l≠a:=by
  have ne:l≠a:=by rintro rfl;rw [a6q] at n;cases n
  exact ⟨gJq (Ne.symm ne),by rw [a9q ne] at n;exact n,ne⟩
theorem Sub.new {G G1:DV} {p:Addr} {o:DO} (h:Sub G G1) (n:G p=Option.none):Sub G (up G1 p o):=λ b u e=>by
  rw [a9q (by rintro rfl;rw [n] at e;cases e)];exact h b u e
theorem Sub.put {G G1:DV} {a:Addr} {o:DO} (h:Sub G G1):Sub (up G a o) (up G1 a o):=λ b u e=>by
  by_cases c:b=a
  . subst c;rw [a6q] at e ⊢;exact e
  . rw [a9q c] at e ⊢;exact h b u e
def Fx (a:Addr) (G G':DV):Prop:=∃ x y,G'=up G a (fed x y)
theorem Fx.mk {a:Addr} {G:DV} {x y:Int}:Fx a G (up G a (fed x y)):=⟨x,y,rfl⟩
theorem Fx.trans {a:Addr} {G G1 G2:DV} (h:Fx a G G1) (k:Fx a G1 G2):Fx a G G2:=by
  obtain ⟨x,y,rfl⟩:=h
  obtain ⟨z,u,rfl⟩:=k
  exact ⟨z,u,dGq⟩
theorem Fx.fd {a:Addr} {G G':DV} (h:Fx a G G'):Fd G' a:=by obtain ⟨x,y,rfl⟩:=h;exact .up
def cMq:DSp:=λ ds G Q=>match ds with
  | [.ref a,.int m]=>Fd G a/\0 < m/\m < 2 ^ 62/\∀ d G',Fx a G G'->0<=d->d < m->Q (.int d) G'
  | _=>False
def h3q:DSp:=λ ds G Q=>match ds with
  | [.frl ss,.int k]=>∃ ns:List Int,ss=ns.map D.int/\ns.length<=63/\0<=k/\k < 2 ^ 32/\∀ r x y,G r=none->Q (.ref r) (up G r (fed x y))
  | _=>False
def qWq:DSp:=λ ds _ Q=>∃ ns:List Int,ds=[.frl (ns.map D.int)]/\ns.length<=63/\∀ G',Q (.bl true) G'
abbrev jRq (K:PySem.W.Frag):Sp:=aMq K qWq
theorem x3q {K:PySem.W.Frag} {H:Hp} {a:Addr} {ns:List Int} (hl:ns.length<=63) (o:yMq H) (h:SqL K H a (ns.map V.int)):jRq K [.ref a] H (λ v _=>v=.bl true) λ _ _ _=>False:=by
  have f:FrL K H a (ns.map V.int):=by
    rcases h with (h | h) | h
    . rcases o a with z | ⟨_,_,z⟩<;>(rw [h] at z;cases z)
    . exact .inl h
    . exact .inr h
  refine ⟨[.frl (ns.map D.int)],λ _=>none,λ d _=>d=.bl true,⟨.ref a,[],rfl,⟨a,_,rfl,f,AbsL.of_ints ns⟩,rfl⟩,(λ _ _ e=>by cases e),⟨ns,rfl,hl,λ _=>rfl⟩,λ d G' v H' g ad e=>?_⟩
  subst e
  exact ad
theorem zXq {P:Program} {w:World} {K:PySem.W.Frag} {mg:Str->Option Value} {base:Heap} {f:Addr} {fd:FuncData} {ps:List Str} {k:Nat} {dsp:DSp} (no:∀ ds G DQ,¬ dsp ds G DQ):FnOk P w K mg base CX0 k f fd ps (aMq K dsp):=
  ⟨λ vs H Q E ⟨ds,G,DQ,_,_,h,_⟩=>absurd h (no ds G DQ),λ A outer s H args us vs Q E _ _ _ _ ⟨ds,G,DQ,_,_,h,_⟩=>absurd h (no ds G DQ)⟩
theorem at4 {x y z u:D} {G:DV} {Q:DK} {i:Int} (h0:0<=i) (h1:i < 4) (hx:i=0->Q x G) (hy:i=1->Q y G) (hz:i=2->Q z G) (hu:i=3->Q u G):atS [x,y,z,u] i G Q:=by
  refine r7q ?_
  rcases (by omega:i=0\/i=1\/i=2\/i=3) with rfl | rfl | rfl | rfl
  . exact hx rfl
  . exact hy rfl
  . exact hz rfl
  . exact hu rfl
theorem at5 {x y z u v:D} {G:DV} {Q:DK} {i:Int} (h0:0<=i) (h1:i < 5) (hx:i=0->Q x G) (hy:i=1->Q y G) (hz:i=2->Q z G) (hu:i=3->Q u G) (hv:i=4->Q v G):atS [x,y,z,u,v] i G Q:=by
  refine r7q ?_
  rcases (by omega:i=0\/i=1\/i=2\/i=3\/i=4) with rfl | rfl | rfl | rfl | rfl
  . exact hx rfl
  . exact hy rfl
  . exact hz rfl
  . exact hu rfl
  . exact hv rfl
def s9q {α:Type} (enc:α->D) (inn:α->List α):DSp:=λ ds G Q=>∃ x,ds=[enc x]/\Q (.tup ((inn x).map enc)) G
section
variable {α:Type} {all:α->List (List Int × α)} {inn:α->List α}
theorem fSq {n:Nat} (h:n<=200000):n<=sizeLine:=by rw [sizeLine_eq];omega
theorem bCq {n:Nat} (h:n<=200000):n < sizeLine:=by rw [sizeLine_eq];omega
theorem up3 {G:DV} {p q:Addr} {x y z:DO} (h:p≠q):up (up (up G q x) p y) q z=up (up G q z) p y:=by
  rw [gJq h,dGq]
end
theorem Tm.dp_inn {t u:Tm} (h:u∈t.inn):u.dp+1<=t.dp:=by
  cases t<;>simp [Tm.inn] at h<;>simp only [Tm.dp]<;>first | (subst h;omega) | (rcases h with rfl | rfl<;>omega) | (rcases h with rfl | rfl | rfl<;>omega)
theorem Tm.sz_mem {t u:Tm} (h:u∈t.inn):u.sz+1<=t.sz:=by
  cases t<;>simp [Tm.inn] at h<;>simp only [Tm.sz]<;>first | (subst h;omega) | (rcases h with rfl | rfl<;>omega) | (rcases h with rfl | rfl | rfl<;>omega)
theorem Tm.inn_len (t:Tm):t.inn.length<=3:=by cases t<;>simp [Tm.inn]
theorem jLq:∀ {ds:List D} {d:D},d∈ds->d.dp<=jHq ds
  | d::ds,e,m=>by
    rcases List.mem_cons.mp m with rfl | m
    . simp only [jHq];omega
    . have:=jLq m
      simp only [jHq];omega
def FnAt (K:PySem.W.Frag) (x q:Str) (st:Stmt) (f:Addr) (cd:Value):Prop:=∃ (oc:Value) (od:Option Addr) (kV doc pm:Value) (an:Option Addr) (ct:Value) (osl:Array (Option Value)),
  K.lookup f=some ⟨oc,od,.func (PySem.W.fnOf x q (bOq st) (b0q st) (a5q st) .none kV doc pm an cd ct),osl⟩/\PySem.W.codeIn K cd q=true/\PySem.W.keepIn K (.ref f)=true
def DT (K:PySem.W.Frag) (x:Str) (st:Stmt):Prop:=∃ (f:Addr) (cd:Value),PySem.W.nsIn K mainGlobals x=some (some (.ref f))/\FnAt K x x st f cd
def DM (K:PySem.W.Frag) (C:Addr) (m q:Str) (st:Stmt):Prop:=∃ (f:Addr) (cd:Value),PySem.W.findIn K (.ref C) m=some (some (.ref f))/\PySem.W.isFn K (.ref f)=true/\FnAt K m q st f cd
section
variable {K:PySem.W.Frag} {x m q:Str} {st:Stmt} {C c:Addr}
theorem DT.mk {f:Addr} {cd oc kV doc pm ct:Value} {od an:Option Addr} {osl:Array (Option Value)} (a:PySem.W.nsIn K mainGlobals x=some (some (.ref f))) (l:K.lookup f=some ⟨oc,od,.func (PySem.W.fnOf x x (bOq st) (b0q st) (a5q st) .none kV doc pm an cd ct),osl⟩) (k:PySem.W.codeIn K cd x=true) (p:PySem.W.keepIn K (.ref f)=true):DT K x st:=⟨f,cd,a,_,_,_,_,_,_,_,_,l,k,p⟩
theorem DM.mk {f:Addr} {cd oc kV doc pm ct:Value} {od an:Option Addr} {osl:Array (Option Value)} (a:PySem.W.findIn K (.ref C) m=some (some (.ref f))) (i:PySem.W.isFn K (.ref f)=true) (l:K.lookup f=some ⟨oc,od,.func (PySem.W.fnOf m q (bOq st) (b0q st) (a5q st) .none kV doc pm an cd ct),osl⟩) (k:PySem.W.codeIn K cd q=true) (p:PySem.W.keepIn K (.ref f)=true):DM K C m q st:=⟨f,cd,a,i,_,_,_,_,_,_,_,_,l,k,p⟩
theorem DT.ok (h:DT K x st):∃ (f:Addr) (fd:FuncData),PySem.W.nsIn K mainGlobals x=some (some (.ref f))/\Fun K x x st f fd:=
  let ⟨f,_,a,_,_,_,_,_,_,_,_,l,k,p⟩:=h;⟨f,_,a,qUq l k p⟩
theorem DM.ok (h:DM K C m q st):∃ (f:Addr) (fd:FuncData),Meth K C m f/\Fun K m q st f fd:=
  let ⟨f,_,a,i,_,_,_,_,_,_,_,_,l,k,p⟩:=h;⟨f,_,⟨a,i,p⟩,qUq l k p⟩
end
end L3
namespace L3
open PySem PyProof L2
section
variable {K:PySem.W.Frag} {H:Hp}
def wRq (f:Str) (v:D):List (Str × D)->List (Str × D)
  | []=>[(f,v)]
  | (g,x)::r=>if g=f then (g,v)::r else (g,x)::wRq f v r
theorem AbsF.lookup {f:Str} {d:D}:∀ {fs:List (Str × D)} {gs:List (Str × V)},AbsF K H fs gs->fs.lookup f=some d->∃ v,gs.lookup f=some v/\Abs K H d v
  | [],_,_,e=>by cases e
  | (x,y)::r,[],⟨h,_⟩,_=>by cases h
  | (x,y)::r,(x',y')::s,⟨h1,h2⟩,e=>by
    simp only [List.map_cons,List.cons.injEq] at h1
    obtain ⟨v,us,e1,a1,a2⟩:=h2
    simp only [List.map_cons,List.cons.injEq] at e1
    obtain ⟨rfl,h1⟩:=h1
    obtain ⟨rfl,rfl⟩:=e1
    rw [List.lookup_cons] at e ⊢
    cases c:(f==x) with
    | true=>rw [c] at e;cases e;exact ⟨_,rfl,a1⟩
    | false=>rw [c] at e;exact AbsF.lookup (fs:=r) (gs:=s) ⟨h1,a2⟩ e
theorem AbsF.none {f:Str}:∀ {fs:List (Str × D)} {gs:List (Str × V)},AbsF K H fs gs->fs.lookup f=none->gs.lookup f=none
  | [],[],_,_=>rfl
  | [],_::_,⟨h,_⟩,_=>by cases h
  | (x,y)::r,[],⟨h,_⟩,_=>by cases h
  | (x,y)::r,(x',y')::s,⟨h1,h2⟩,e=>by
    simp only [List.map_cons,List.cons.injEq] at h1
    obtain ⟨v,us,e1,a1,a2⟩:=h2
    simp only [List.map_cons,List.cons.injEq] at e1
    obtain ⟨rfl,h1⟩:=h1
    obtain ⟨rfl,rfl⟩:=e1
    rw [List.lookup_cons] at e ⊢
    cases c:(f==x) with
    | true=>rw [c] at e;cases e
    | false=>rw [c] at e;exact AbsF.none (fs:=r) (gs:=s) ⟨h1,a2⟩ e
theorem AbsF.len {fs:List (Str × D)} {gs:List (Str × V)} (h:AbsF K H fs gs):gs.length=fs.length:=by
  have:=congrArg List.length h.1
  simpa using this.symm
theorem AbsF.put {f:Str} {d:D} {v:V} (hd:Abs K H d v):∀ {fs:List (Str × D)} {gs:List (Str × V)},AbsF K H fs gs->AbsF K H (wRq f d fs) (gWq f v gs)
  | [],[],_=>⟨rfl,v,[],rfl,hd,rfl⟩
  | [],_::_,⟨h,_⟩=>by cases h
  | (x,y)::r,[],⟨h,_⟩=>by cases h
  | (x,y)::r,(x',y')::s,⟨h1,h2⟩=>by
    simp only [List.map_cons,List.cons.injEq] at h1
    obtain ⟨u,us,e1,a1,a2⟩:=h2
    simp only [List.map_cons,List.cons.injEq] at e1
    obtain ⟨rfl,h1⟩:=h1
    obtain ⟨rfl,rfl⟩:=e1
    unfold wRq gWq
    by_cases c:x=f
    . rw [if_pos c,if_pos c]
      exact ⟨by simp [h1],v,_,rfl,hd,a2⟩
    . rw [if_neg c,if_neg c]
      obtain ⟨p1,p2⟩:=AbsF.put (f:=f) hd (fs:=r) (gs:=s) ⟨h1,a2⟩
      exact ⟨by simp [p1],_,_,rfl,a1,p2⟩
end
@[irreducible] def onI (G:DV) (a C:Addr) (k:List (Str × D)->Prop):Prop:=match G a with
  | some (.ins C' fs)=>C'=C/\k fs
  | _=>False
theorem aBq {G:DV} {a C:Addr} {k:List (Str × D)->Prop} {fs:List (Str × D)} (h:G a=some (.ins C fs)) (q:k fs):onI G a C k:=by unfold onI;rw [h];exact ⟨rfl,q⟩
theorem cEq {K:PySem.W.Frag} {G:DV} {H:Hp} {a C:Addr} {k:List (Str × D)->Prop} (v:Vw K G H) (h:onI G a C k):∃ fs dx gs,k fs/\G a=some (.ins C fs)/\H a=some (.ins C dx gs)/\AbsF K H fs gs:=by
  unfold onI at h
  split at h
  . next C' fs e=>
    obtain ⟨rfl,q⟩:=h
    obtain ⟨dx,gs,z,r⟩:=v _ _ e
    exact ⟨fs,dx,gs,q,e,z,r⟩
  . exact h.elim
def tGq (fs:List (Str × D)) (f:Str) (k:D->Prop):Prop:=match fs.lookup f with
  | some d=>k d
  | none=>False
section
variable {K:PySem.W.Frag} {G:DV} {H:Hp}
theorem gPq {p C dx:Addr} {gs:List (Str × V)} {o:HO} (h:H p=some (.ins C dx gs)):Mono K H (upd H p o):=dLq (λ ys=>by rintro (e | ⟨o,e⟩)<;>rw [h] at e<;>cases e) λ _ _ e=>by rw [h] at e;cases e
theorem Go.setI (v:Vw K G H) {p C dx:Addr} {fs0 fs:List (Str × D)} {gs0 gs:List (Str × V)} (h:G p=some (.ins C fs0)) (hp:H p=some (.ins C dx gs0)) (r:AbsF K H fs gs):Go K G H (up G p (.ins C fs)) (upd H p (.ins C dx gs)) where
  tup:=gPq hp
  dom:=λ a u e=>by
    by_cases c:a=p
    . subst c;exact ⟨_,aNq⟩
    . exact ⟨u,by rw [aHq c];exact e⟩
  same:=λ a u e n=>by
    have c:a≠p:=by rintro rfl;rw [h] at n;cases n
    rw [aHq c];exact e
  new:=λ a u e n=>by
    have c:a≠p:=by rintro rfl;rw [h] at n;cases n
    rw [a9q c];exact n
  vw:=λ a u e=>by
    by_cases c:a=p
    . subst c;rw [a6q] at e;cases e
      exact ⟨dx,gs,aNq,r.1,r.2.mono (gPq hp)⟩
    . rw [a9q c] at e
      exact (v a u e).mono (gPq hp) (aHq c)
theorem Go.newI (v:Vw K G H) {x dx C:Addr} (hx:H x=none) (hd:H dx=none) (ne:dx≠x):Go K G H (up G x (.ins C [])) (upd (upd H dx (.own x)) x (.ins C dx [])):=by
  have g1:=Go.newT (o:=.own x) v hd
  have hx1:upd H dx (.own x) x=none:=by rw [aHq (Ne.symm ne)];exact hx
  refine g1.trans ⟨bGq hx1,λ a u e=>⟨u,by rw [aHq (aIq e hx1)];exact e⟩,λ a u e _=>by rw [aHq (aIq e hx1)];exact e,λ a u e n=>by rw [a9q (aIq e hx1)];exact n,λ a u e=>?_⟩
  by_cases c:a=x
  . subst c;rw [a6q] at e;cases e
    exact ⟨dx,[],aNq,rfl,rfl⟩
  . rw [a9q c] at e
    exact (g1.vw a u e).mono (bGq hx1) (aHq c)
end
section
variable {X:Cx} {o e value:Expr} {es:List Expr} {f m:Str} {C:Addr} {pos pos' tpos apos p:Pos} {ta tv:DTE} {t:DTA}
abbrev dFld (C:Addr) (f:Str) (ta:DTE):DTE:=λ ρ G Q=>ta ρ G λ x G1=>match x with
  | .ref a=>onI G1 a C λ fs=>tGq fs f λ d=>Q d G1
  | _=>False
theorem bAq (c:Cls X.K C) (n:NoAttr X.K C f) (ha:AE X e ta) (hb:attributeBase e f X.env (eval e X.env)=eval e X.env:=by rfl):AE X (.Attribute e f pos) (dFld C f ta):=by
  obtain ⟨ca,ja,ra⟩:=ha.run
  refine ⟨_,⟨w8q ja.run hb⟩,λ ρ G DQ σ H Q B q F=>ra ρ G _ σ H _ B q λ x G1 v H1 g1 ax q1=>?_⟩
  cases x with
  | ref a=>
    cases ax
    obtain ⟨fs,dx,gs,q2,e1,e2,r⟩:=cEq g1.vw q1
    unfold tGq at q2
    split at q2
    . next d hl=>
      obtain ⟨u,h1,h2⟩:=r.lookup hl
      exact ⟨a,C,dx,gs,u,rfl,e2,c,n,h1,F d G1 u H1 g1 h2 q2⟩
    . exact q2.elim
  | _=>exact (show False from q1).elim
abbrev aE3q (C:Addr) (f:Str) (tv ta:DTE):DTS:=λ DD ρ G=>tv ρ G λ y G1=>ta ρ G1 λ x G2=>match x with
  | .ref a=>onI G2 a C λ fs=>fs.length < 1000/\DD.nx ρ (up G2 a (.ins C (wRq f y fs)))
  | _=>False
theorem bNq (c:Cls X.K C) (n:NoAttr X.K C f) (ha:AE X o ta) (hv:AE X value tv) (hs:swapsWith value (some (.Attribute o f pos')) pos.line X.env=pure false:=by rfl):AS X (.Assign [.Attribute o f pos'] value pos) (aE3q C f tv ta):=by
  obtain ⟨ca,ja,ra⟩:=ha.run
  obtain ⟨cv,jv,rv⟩:=hv.run
  refine ⟨_,⟨v0q ja.run jv.run hs⟩,λ DD Dc ρ G σ H B q F=>?_⟩
  refine rv ρ G _ σ H _ B q λ y G1 v H1 g1 ay q1=>ra ρ G1 _ σ H1 _ (B.go g1) q1 λ x G2 u H2 g2 ax q2=>?_
  cases x with
  | ref a=>
    cases ax
    obtain ⟨fs,dx,gs,⟨hl,q3⟩,e1,e2,r⟩:=cEq g2.vw q2
    have g3:=Go.setI g2.vw e1 e2 (r.put (f:=f) (ay.mono g2.tup))
    exact ⟨a,C,dx,gs,rfl,e2,c,n,by rw [r.len];exact hl,F.nx _ _ _ _ ((g1.trans g2).trans g3) (((B.go g1).go g2).go g3) q3⟩
  | _=>exact (show False from q2).elim
structure MGot (P:Program) (w:World) (K:PySem.W.Frag) (mg:Str->Option Value) (base:Heap) (k:Nat) (C:Addr) (m:Str) (ps:List Str) (sp:Sp):Prop where
  ex:∃ (f:Addr) (fd:FuncData),FnOk P w K mg base CX0 k f fd ps sp/\Meth K C m f/\Binds K fd ps []
abbrev aA3q (C:Addr) (m:Str) (dsp:DSp) (ta:DTE) (t:DTA):DTE:=λ ρ G Q=>ta ρ G λ x G1=>match x with
  | .ref a=>onI G1 a C (λ fs=>fs.lookup m=none)/\t ρ G1 λ ds G2=>dsp (.ref a::ds) G2 Q
  | _=>False
theorem bWq {k j:Nat} {ps:List Str} {dsp:DSp} {pl:Sem Bool} (c:Cls X.K C) (Gt:MGot X.prog X.w X.K X.mg X.base k C m ps (aMq X.K dsp)) (hr:Room j X.A) (hk:k<=j) (ho:AE X o ta) (ha:AA X (e::es) t) (hs:(e::es).all aXq=true:=by rfl)
    (ht:eval (.Call (.Attribute o m apos) (e::es) [] pos) X.env=(do
      let ov ← eval o X.env
      standAt apos.atName
      let (f,first) ← holding [ov] (getMethod ov m pl)
      callWith pos f first (backTo pos (starEach (e::es) X.env)) (backToKw pos (keywordEach [] X.env))):=by rfl):AE X (.Call (.Attribute o m apos) (e::es) [] pos) (aA3q C m dsp ta t):=by
  obtain ⟨co,jo,ro⟩:=ho.run
  obtain ⟨ca,ja,ra⟩:=ha.run
  obtain ⟨f,fd,Fk,hm,hb⟩:=Gt.ex
  have h:=hs
  rw [List.all_cons,Bool.and_eq_true] at h
  refine ⟨_,⟨rQq (pl:=pl) (dvs:=[]) jo.run c hm Fk (hr.mono hk) hb .nil p9q ja.run (aEq h.1) (bIq h.2) ht⟩,λ ρ G DQ σ H Q B q F=>ro ρ G _ σ H _ B q λ x G1 v H1 g1 ax q1=>?_⟩
  cases x with
  | ref a=>
    cases ax
    obtain ⟨q1,q2⟩:=q1
    obtain ⟨fs,dx,gs,hl,e1,e2,r⟩:=cEq g1.vw q1
    exact ⟨a,dx,gs,rfl,e2,r.none hl,ra ρ G1 _ σ H1 _ (B.go g1) q2 λ ds G2 vs H2 g2 al _ q3=>⟨.ref a::ds,G2,DQ,⟨_,_,rfl,rfl,by rw [List.append_nil];exact al⟩,g2.vw,q3,F.after (g1.trans g2)⟩⟩
  | _=>exact (show False from q1).elim
structure MkGot (P:Program) (w:World) (K:PySem.W.Frag) (mg:Str->Option Value) (base:Heap) (k:Nat) (C:Addr) (x:Str) (ps:List Str) (sp:Sp):Prop where
  ex:∃ (f:Addr) (fd:FuncData),FnOk P w K mg base CX0 k f fd ps sp/\Mk K C f/\mg x=some (.ref C)/\Binds K fd ps []
end
end L3
namespace L2
open PySem PySem.Spec PyProof.Rows
section
variable {X:Cx} {e:Expr} {te:TE} {p p2 pos pos2:Pos}
theorem i6q:∀ {ns:List Int} {us:List Value},Vals (ns.map V.int) us->IntsAre us ns
  | [],_,h=>by cases h;exact IntsAre.nil
  | n::ns,_,h=>by
    cases h with
    | cons r rr=>
      obtain ⟨t,rfl⟩:=r
      exact IntsAre.cons _ _ (i6q rr)
end
section
variable {X:Cx}
def rSrt (K:PySem.W.Frag):List V->Hp->VK->Prop:=λ xs H Q=>∃ (l:Addr) (ns:List Int),xs=[.ref l]/\SqL K H l (ns.map V.int)/\ns.length < 64/\∀ ms:List Int,ms.Perm ns->ms.Pairwise (·<=·)->∀ p,H p=none->Q (.ref p) (upd H p (.lst (ms.map V.int)))
theorem pSq:CallR X (.builtin "sorted") (rSrt X.K):=by
  intro pins s σ H xs us Q I r h
  obtain ⟨l,ns,rfl,hq,hl,q⟩:=h
  obtain ⟨u,rfl,rx⟩:=hPq r
  cases rx
  obtain ⟨its,rv,pl,hz⟩:=I.list hq
  have hlen:=rv.length
  rw [List.length_map] at hlen
  have sl:=sizeLine_eq
  refine sorted_ints (vs:=its) (ns:=ns) pl.isList (i6q rv) (by omega) λ out ms a1 a2 a3=>?_
  obtain ⟨c,hc⟩:=sortedAll_at s.heap its out
  have z:=a2.length_eq
  exact ⟨.ref _,_,I.laid (t':=s.toks) (λ b o e=>sortedAll_old e) (Nat.le_succ _) (show ObjOk X.prog X.w _ _ _ (.lst (ms.map V.int)) from ⟨by rw [List.length_map];omega,out.toList,c,eEq a1,by simpa using hc⟩),rfl,q ms a2 a3 _ (I.hok.fresh (Nat.le_succ _))⟩
end
end L2
namespace L3
open PySem PyProof L2
section
variable {X:Cx}
def srtD:D->DV->DK->Prop:=λ x G Q=>match x with
  | .ref l=>onL G l λ ds=>∃ ns,eFq ds=some ns/\ns.length < 64/\∀ ms:List Int,ms.Perm ns->ms.Pairwise (·<=·)->∀ p,G p=none->Q (.ref p) (up G p (.lst (ms.map D.int)))
  | _=>False
theorem hYq (_:X.calm=true):ACall X (.builtin "sorted") (oIq srtD):=by
  refine ⟨_,⟨pSq⟩,λ xs vs G H DQ Q v a r F=>?_⟩
  obtain ⟨x,u,rfl,rfl,ax,r⟩:=bTq r a
  cases x with
  | ref l=>
    cases ax
    obtain ⟨ds,ws,⟨ns,e,hl,k⟩,s,rl⟩:=b2q v r
    rw [hAq e] at rl
    rw [rl.ints] at s
    exact ⟨l,ns,rfl,s,hl,λ ms h1 h2 p hp=>F (.ref p) _ _ _ (Go.newL v hp (AbsL.of_ints ms)) rfl (k ms h1 h2 p (v.none hp))⟩
  | _=>exact (show False from r).elim
end
end L3
namespace L3
open PySem PyProof L2
section
variable {K:PySem.W.Frag} {H:Hp} {G:DV}
def kD:Key->D
  | .inl i=>.int i
  | .inr x=>.str x
theorem lQq {k:Key} {v:V} (h:Abs K H (kD k) v):v=kV k:=by cases k<;>exact h
def dIq (kvs:List (Key × D)) (k:Key):Option D:=(kvs.find? λ kv=>decide (kv.1=k)).map (·.2)
def putKD (kvs:List (Key × D)) (k:Key) (v:D):List (Key × D):=
  if (kvs.any λ kv=>decide (kv.1=k))=true then kvs.map (λ kv=>if kv.1=k then (kv.1,v) else kv) else kvs++[(k,v)]
theorem AbsF.cons_inv {κ:Type} {x:κ} {y:D} {r:List (κ × D)} {gs:List (κ × V)} (h:AbsF K H ((x,y)::r) gs):∃ v s,gs=(x,v)::s/\Abs K H y v/\AbsF K H r s:=by
  obtain ⟨h1,h2⟩:=h
  cases gs with
  | nil=>cases h1
  | cons g s=>
    obtain ⟨g1,g2⟩:=g
    simp only [List.map_cons,List.cons.injEq] at h1
    obtain ⟨v,us,e1,a1,a2⟩:=h2
    simp only [List.map_cons,List.cons.injEq] at e1
    obtain ⟨rfl,h1⟩:=h1
    obtain ⟨rfl,rfl⟩:=e1
    exact ⟨g2,s,rfl,a1,h1,a2⟩
theorem AbsF.nil_inv {κ:Type} {gs:List (κ × V)} (h:AbsF K H ([]:List (κ × D)) gs):gs=[]:=by
  cases gs with
  | nil=>rfl
  | cons g s=>cases h.1
theorem AbsF.consI {κ:Type} {x:κ} {y:D} {v:V} {r:List (κ × D)} {s:List (κ × V)} (h:Abs K H y v) (hr:AbsF K H r s):AbsF K H ((x,y)::r) ((x,v)::s):=⟨by simp [hr.1],v,_,rfl,h,hr.2⟩
theorem AbsF.append {κ:Type}:∀ {fs es:List (κ × D)} {gs hs:List (κ × V)},AbsF K H fs gs->AbsF K H es hs->AbsF K H (fs++es) (gs++hs)
  | [],_,_,_,r,s=>by rw [r.nil_inv];exact s
  | (x,y)::r,_,_,_,h,s=>by
    obtain ⟨v,t,rfl,a,hr⟩:=h.cons_inv
    exact AbsF.consI a (hr.append s)
theorem AbsF.val {k:Key}:∀ {fs:List (Key × D)} {gs:List (Key × V)},AbsF K H fs gs->(∀ d,dIq fs k=some d->∃ v,f0q gs k=some v/\Abs K H d v)/\(dIq fs k=Option.none->f0q gs k=Option.none)
  | [],_,h=>by rw [h.nil_inv];exact ⟨λ d e=>(by cases e),λ _=>rfl⟩
  | (x,y)::r,_,h=>by
    obtain ⟨v,t,rfl,a,hr⟩:=h.cons_inv
    obtain ⟨i1,i2⟩:=AbsF.val (k:=k) hr
    by_cases c:x=k
    . have e1:dIq ((x,y)::r) k=some y:=by simp [dIq,List.find?_cons,c]
      have e2:f0q ((x,v)::t) k=some v:=gDq c
      rw [e1,e2]
      exact ⟨λ d e=>⟨v,rfl,by cases e;exact a⟩,λ e=>by cases e⟩
    . have e1:dIq ((x,y)::r) k=dIq r k:=by simp [dIq,List.find?_cons,c]
      have e2:f0q ((x,v)::t) k=f0q t k:=g7q c
      rw [e1,e2]
      exact ⟨i1,i2⟩
theorem AbsF.anyK {k:Key}:∀ {fs:List (Key × D)} {gs:List (Key × V)},AbsF K H fs gs->(fs.any λ kv=>decide (kv.1=k))=gs.any λ kv=>decide (kv.1=k)
  | [],_,h=>by rw [h.nil_inv];rfl
  | (x,y)::r,_,h=>by
    obtain ⟨v,t,rfl,a,hr⟩:=h.cons_inv
    rw [List.any_cons,List.any_cons,AbsF.anyK hr]
theorem AbsF.mapK {k:Key} {d:D} {u:V} (hd:Abs K H d u):∀ {fs:List (Key × D)} {gs:List (Key × V)},AbsF K H fs gs->AbsF K H (fs.map λ kv=>if kv.1=k then (kv.1,d) else kv) (gs.map λ kv=>if kv.1=k then (kv.1,u) else kv)
  | [],_,h=>by rw [h.nil_inv];exact ⟨rfl,rfl⟩
  | (x,y)::r,_,h=>by
    obtain ⟨v,t,rfl,a,hr⟩:=h.cons_inv
    rw [List.map_cons,List.map_cons]
    by_cases c:x=k
    . simp only [c,if_true];exact AbsF.consI hd (AbsF.mapK hd hr)
    . simp only [if_neg c];exact AbsF.consI a (AbsF.mapK hd hr)
theorem AbsF.putKD {k:Key} {d:D} {u:V} (hd:Abs K H d u) {fs:List (Key × D)} {gs:List (Key × V)} (h:AbsF K H fs gs):AbsF K H (L3.putKD fs k d) (oVq gs k u):=by
  unfold L3.putKD oVq
  rw [h.anyK]
  split
  . exact AbsF.mapK hd h
  . exact h.append (AbsF.consI hd ⟨rfl,rfl⟩)
theorem pMq (kvs:List (Key × D)) (k j:Key) (y:D):dIq (putKD kvs k y) j=if j=k then some y else dIq kvs j:=by
  have key:∀ l:List (Key × D),dIq (l.map λ kv=>if kv.1=k then (kv.1,y) else kv) j=(dIq l j).map λ x=>if j=k then y else x:=λ l=>by
    induction l with
    | nil=>rfl
    | cons p r ih=>
      obtain ⟨p1,p2⟩:=p
      simp only [dIq,List.map_cons,List.find?_cons] at ih ⊢
      by_cases c:p1=k
      . subst c
        by_cases d:p1=j
        . subst d;simp
        . simp only [if_true,d,decide_false];exact ih
      . by_cases d:p1=j
        . subst d;simp [c]
        . simp only [if_neg c,d,decide_false];exact ih
  unfold putKD
  by_cases c:(kvs.any λ kv=>decide (kv.1=k))=true
  . rw [if_pos c,key]
    by_cases d:j=k
    . subst d
      have:(dIq kvs j).isSome=true:=by
        unfold dIq
        rw [Option.isSome_map,List.find?_isSome]
        obtain ⟨x,hx,e⟩:=List.any_eq_true.mp c
        exact ⟨x,hx,e⟩
      obtain ⟨z,e⟩:=Option.isSome_iff_exists.mp this
      rw [e];simp
    . simp [d]
  . rw [if_neg c]
    have no:∀ x∈kvs,x.1≠k:=λ x hx e=>c (List.any_eq_true.mpr ⟨x,hx,by simpa using e⟩)
    unfold dIq
    rw [List.find?_append]
    by_cases d:j=k
    . subst d
      have:kvs.find? (λ kv=>decide (kv.1=j))=none:=List.find?_eq_none.mpr λ x hx=>by simpa using no x hx
      rw [this];simp
    . rw [if_neg d]
      have e:([(k,y)]:List (Key × D)).find? (λ kv=>decide (kv.1=j))=none:=by simp [Ne.symm d]
      rw [e];simp
theorem lSq (kvs:List (Key × D)) (k:Key) (v:D):(putKD kvs k v).length<=kvs.length+1:=by
  unfold putKD;split<;>simp
@[irreducible] def onD (G:DV) (a:Addr) (k:List (Key × D)->Prop):Prop:=match G a with
  | some (.dK kvs)=>k kvs
  | _=>False
theorem hJq {a:Addr} {k:List (Key × D)->Prop} {kvs:List (Key × D)} (h:G a=some (.dK kvs)) (q:k kvs):onD G a k:=by unfold onD;rw [h];exact q
theorem e4q {a:Addr} {k:List (Key × D)->Prop} (v:Vw K G H) (h:onD G a k):∃ kvs gs,k kvs/\G a=some (.dK kvs)/\H a=some (.dK gs)/\AbsF K H kvs gs:=by
  unfold onD at h
  split at h
  . next kvs e=>obtain ⟨gs,z,r⟩:=v _ _ e;exact ⟨kvs,gs,h,e,z,r⟩
  . exact h.elim
theorem iUq {p:Addr} {gs:List (Key × V)} {o:HO} (h:H p=some (.dK gs)):Mono K H (upd H p o):=dLq (λ ys=>by rintro (e | ⟨o,e⟩)<;>rw [h] at e<;>cases e) λ _ _ e=>by rw [h] at e;cases e
theorem Go.newD (v:Vw K G H) {p:Addr} {kvs:List (Key × D)} {gs:List (Key × V)} (h:H p=none) (r:AbsF K H kvs gs):Go K G H (up G p (.dK kvs)) (upd H p (.dK gs)) where
  tup:=bGq h
  dom:=λ a u e=>⟨u,by rw [aHq (aIq e h)];exact e⟩
  same:=λ a u e _=>by rw [aHq (aIq e h)];exact e
  new:=λ a u e n=>by rw [a9q (aIq e h)];exact n
  vw:=λ a u e=>by
    by_cases c:a=p
    . subst c;rw [a6q] at e;cases e
      exact ⟨gs,aNq,r.1,r.2.mono (bGq h)⟩
    . rw [a9q c] at e
      exact (v a u e).mono (bGq h) (aHq c)
theorem Go.setD (v:Vw K G H) {p:Addr} {kvs0 kvs:List (Key × D)} {gs:List (Key × V)} (h:G p=some (.dK kvs0)) (r:AbsF K H kvs gs):Go K G H (up G p (.dK kvs)) (upd H p (.dK gs)):=by
  obtain ⟨us,hp,_⟩:=v p _ h
  exact {
    tup:=iUq hp
    dom:=λ a u e=>by
      by_cases c:a=p
      . subst c;exact ⟨_,aNq⟩
      . exact ⟨u,by rw [aHq c];exact e⟩
    same:=λ a u e n=>by
      have c:a≠p:=by rintro rfl;rw [h] at n;cases n
      rw [aHq c];exact e
    new:=λ a u e n=>by
      have c:a≠p:=by rintro rfl;rw [h] at n;cases n
      rw [a9q c];exact n
    vw:=λ a u e=>by
      by_cases c:a=p
      . subst c;rw [a6q] at e;cases e
        exact ⟨gs,aNq,r.1,r.2.mono (iUq hp)⟩
      . rw [a9q c] at e
        exact (v a u e).mono (iUq hp) (aHq c) }
def hIq:D->Option Key
  | .int i=>some (.inl i)
  | .str x=>some (.inr x)
  | _=>none
theorem dUq {d:D} {k:Key} (h:hIq d=some k):d=kD k:=by cases d<;>simp [hIq] at h<;>subst h<;>rfl
end
section
variable {X:Cx} {o i e value:Expr} {pos pos' tpos:Pos} {td ti tv:DTE}
abbrev aD3q (td ti:DTE):DTE:=λ ρ G Q=>td ρ G λ x G1=>ti ρ G1 λ y G2=>match x with
  | .ref a=>onD G2 a λ kvs=>∃ k d,hIq y=some k/\dIq kvs k=some d/\Q d G2
  | _=>False
theorem oPq (hu:X.A.units+200 < cLine) (ho:AE X o td) (hi:AE X i ti) (hs:w2q i):AE X (.Subscript o i pos) (aD3q td ti):=by
  obtain ⟨co,jo,ro⟩:=ho.run
  obtain ⟨ci,ji,ri⟩:=hi.run
  refine ⟨_,⟨sWq (by omega) jo.run ji.run hs⟩,λ ρ G DQ σ H Q B q F=>ro ρ G _ σ H _ B q λ x G1 v H1 g1 ax q1=>ri ρ G1 _ σ H1 _ (B.go g1) q1 λ y G2 u H2 g2 ay q2=>?_⟩
  cases x with
  | ref a=>
    cases ax
    obtain ⟨kvs,gs,⟨k,d,ek,ed,q3⟩,e1,e2,r⟩:=e4q g2.vw q2
    obtain ⟨w,hw,aw⟩:=(r.val (k:=k)).1 d ed
    rw [dUq ek] at ay
    have:=lQq ay
    subst this
    exact ⟨a,w,rfl,by rw [<- hw];exact DGet.k e2,F d G2 w H2 (g1.trans g2) aw q3⟩
  | _=>exact (show False from q2).elim
end
end L3
namespace L2
open PySem PySem.Spec PyProof.Rows
section
variable {X:Cx}
theorem yNq {x:Str} {ad:Addr} {tab:Str->Option V} {e f:Expr} {ty tx:TE} {p apos cpos:Pos} (hg:Gl X x) (hm:X.mg x=some (.ref ad)) (T:KTab X.K X.w ad tab) (he:PE X e ty) (hf:PE X f tx) (m:M2 X (.Name x p) "get" apos e f cpos) (hd:(x==("__debug__" : Str))=false:=by decide) :
    PE X (.Call (.Attribute (.Name x p) "get" apos) [e,f] [] cpos) (λ σ H Q=>ty σ H λ y H1=>tx σ H1 λ d H2=>∃ z,y=.str z/\Q ((tab z).getD d) H2):=by
  intro pins s σ H Q I h
  obtain ⟨⟨es,n,hl,hk,ht⟩,lo⟩:=T
  refine wpAny_Call_method m.base m.few m.line PySem.F.plainAttrs_dict PySem.F.slot_dict_get PySem.F.type_dict_get (thn (fTq (v:=.ref ad) hg hm rfl hd pins s σ H (λ v H1=>v=.ref ad/\H1=H) I ⟨rfl,rfl⟩) λ u s1 ⟨x1,H1,I1,rx,ex,eH⟩=>?_)
  subst ex eH
  obtain rfl:u=Value.ref ad:=rx
  have mp:∀ {s':Shared},X.K.In s'.heap->s'.heap.MapOf (strKind X.prog X.w) ad (λ k=>findBy Value.isStrOf es k):=λ k=>PySem.W.mapOf_K k hl hk
  refine ⟨(mp I1.kIn).typeIs,(mp I1.kIn).noDict,?_⟩
  rw [m.trees]
  refine Calls.callWith_builtin rfl (Calls.evalArgs_plain (Calls.spliced_cons (thn (he pins s1 σ H1 _ I1 h) λ iv s2 ⟨y,H2,I2,ry,q2⟩=>Calls.spliced_cons (thn (hf pins s2 σ H2 _ I2 q2) λ fv s3 ⟨d,H3,I3,rd,z,ey,q3⟩=>Calls.spliced_nil ?_))))
  subst ey
  obtain ⟨t,rfl⟩:=ry
  refine call_meetsIn PySem.F.slot_dict_get (mp I3.kIn).typeIs PySem.F.entry_dict_get (PySem.F.args_dict_get_3 _ _ _) (meets_dict_get_default (strKind X.prog X.w) ad (strKind_is X.prog X.w z t) lo fv) ⟨_,mp I3.kIn,(tab z).getD d,H3,I3.tok _,?_,q3⟩
  exact (ht z).getD rd
theorem xPq {x:Str} {ad:Addr} {tab:Str->Option V} {e:Expr} {ty:TE} {p pos:Pos} (hg:Gl X x) (hm:X.mg x=some (.ref ad)) (T:KTab X.K X.w ad tab) (he:PE X e ty) (hs:w2q e) (hd:(x==("__debug__" : Str))=false:=by decide) :
    PE X (.Subscript (.Name x p) e pos) (λ σ H Q=>ty σ H λ y H1=>∃ z v,y=.str z/\tab z=some v/\Q v H1):=by
  intro pins s σ H Q I h
  obtain ⟨⟨es,n,hl,hk,ht⟩,lo⟩:=T
  have mp:∀ {s':Shared},X.K.In s'.heap->s'.heap.MapOf (strKind X.prog X.w) ad (λ k=>findBy Value.isStrOf es k):=λ k=>PySem.W.mapOf_K k hl hk
  refine mKq PySem.F.slot_dict_getitem.lookup hs (thn (fTq (v:=.ref ad) hg hm rfl hd pins s σ H (λ v H1=>v=.ref ad/\H1=H) I ⟨rfl,rfl⟩) λ u s1 ⟨x1,H1,I1,rx,ex,eH⟩=>thn (he pins s1 σ H _ (eH ▸ I1) h) λ iv s2 ⟨y,H2,I2,ry,z,v,ey,ev,q2⟩=>?_)
  subst ex
  obtain rfl:u=Value.ref ad:=rx
  subst ey
  obtain ⟨t,rfl⟩:=ry
  obtain ⟨w',hw,rw'⟩:=RelO.some_of (v:=v) (o:=findBy Value.isStrOf es z) (by rw [<- ev];exact ht z)
  exact ⟨(mp I2.kIn).typeIs,wpAny_getItem_of (strKind_is X.prog X.w z t) (mp I2.kIn) hw ⟨v,H2,I2.tok _,rw',q2⟩⟩
end
end L2
namespace L3
open PySem PySem.Spec L2
structure KTabD (K:PySem.W.Frag) (w:World) (ad:Addr) (tab:Str->Option D):Prop where
  ex:∃ tv:Str->Option V,KTab K w ad tv/\(∀ z,tab z=none->tv z=none)/\∀ z d,tab z=some d->∃ v,tv z=some v/\∀ H,Abs K H d v
section
variable {X:Cx} {a b c e f o i tg iter value:Expr} {x:Str} {ad C:Addr} {tab:Str->Option D} {ta tv te tf to ti:DTE} {pos pos' tpos p apos cpos:Pos}
abbrev aF6q (tab:Str->Option D) (te tf:DTE):DTE:=λ ρ G Q=>te ρ G λ y G1=>tf ρ G1 λ d G2=>match y with
  | .str z=>Q ((tab z).getD d) G2
  | _=>False
abbrev dKIx (tab:Str->Option D) (te:DTE):DTE:=λ ρ G Q=>te ρ G λ y G1=>match y with
  | .str z=>∃ d,tab z=some d/\Q d G1
  | _=>False
theorem vVq (hg:Gl X x) (hm:X.mg x=some (.ref ad)) (T:KTabD X.K X.w ad tab) (he:AE X e te) (hs:w2q e) (hd:(x==("__debug__" : Str))=false:=by decide):AE X (.Subscript (.Name x p) e pos) (dKIx tab te):=by
  obtain ⟨tv,T,t1,t2⟩:=T
  obtain ⟨ce,je,re⟩:=he.run
  refine ⟨_,⟨xPq hg hm T je.run hs hd⟩,λ ρ G DQ σ H Q B q F=>re ρ G _ σ H _ B q λ y G1 v H1 g1 ay q1=>?_⟩
  cases y with
  | str z=>
    cases ay
    obtain ⟨d,ed,q2⟩:=q1
    obtain ⟨v',e1,e2⟩:=t2 z d ed
    exact ⟨z,v',rfl,e1,F d G1 v' H1 g1 (e2 _) q2⟩
  | _=>exact (show False from q1).elim
abbrev kAq (C:Addr) (f:Str) (ta te:DTE) (g:Int->Int->Int):DTS:=λ DD ρ G=>ta ρ G λ x G1=>match x with
  | .ref a=>onI G1 a C λ fs=>tGq fs f λ d=>te ρ G1 λ y G2=>match d,y with
    | .int i,.int j=>onI G2 a C λ fs'=>fs'.length < 1000/\DD.nx ρ (up G2 a (.ins C (wRq f (.int (g i j)) fs')))
    | _,_=>False
  | _=>False
theorem lDq {f:Str} (c:Cls X.K C) (n:NoAttr X.K C f) (ha:AE X o ta) (he:AE X value te):AS X (.AugAssign (.Attribute o f tpos) .Add value pos) (kAq C f ta te (·+·)):=by
  obtain ⟨ca,ja,ra⟩:=ha.run
  obtain ⟨ce,je,re⟩:=he.run
  refine ⟨_,⟨i0q ja.run je.run vHq⟩,λ DD Dc ρ G σ H B q F=>ra ρ G _ σ H _ B q λ x G1 v H1 g1 ax q1=>?_⟩
  cases x with
  | ref a=>
    cases ax
    obtain ⟨fs,dx,gs,q2,e1,e2,r⟩:=cEq g1.vw q1
    unfold tGq at q2
    split at q2
    . next d hl=>
      obtain ⟨u,h1,h2⟩:=r.lookup hl
      refine ⟨a,C,dx,gs,u,rfl,e2,c,n,h1,re ρ G1 _ σ H1 _ (B.go g1) q2 λ y G2 u2 H2 g2 ay q3=>?_⟩
      split at q3
      . next i j=>
        cases h2;cases ay
        obtain ⟨fs',dx',gs',⟨hl',q4⟩,e1',e2',r'⟩:=cEq g2.vw q3
        have g3:=Go.setI g2.vw e1' e2' (r'.put (f:=f) (d:=.int (i+j)) (v:=.int (i+j)) rfl)
        exact ⟨i,j,rfl,rfl,dx',gs',e2',by rw [r'.len];exact hl',F.nx _ _ _ _ ((g1.trans g2).trans g3) (((B.go g1).go g2).go g3) q4⟩
      . exact q3.elim
    . exact q2.elim
  | _=>exact (show False from q1).elim
theorem jEq {st:Stmt}:AS X st (λ _ _ _=>False):=⟨λ _ _ _=>False,⟨λ _ _ _ _ _ _ h=>h.elim⟩,λ DD Dc ρ G σ H B q F=>q.elim⟩
end
end L3
namespace L2
open PySem PySem.Spec PyProof.Rows
section
variable {X:Cx}
def repS (i:Str) (n:Nat):Str:=⟨(List.replicate n i.cps.toList).flatten.toArray⟩
def rSlS:V->Option Int->Option Int->Hp->VK->Prop:=λ x lo hi H Q=>∃ z:Str,x=.str z/\z.length<=sizeLine/\Q (.str (Txt.slice z lo hi)) H
theorem xMq:SlR X rSlS:=by
  intro pins s σ H x v vl vu lo hi sl Q I rx hs pl pu h
  obtain ⟨z,rfl,hz,q⟩:=h
  obtain ⟨t,rfl⟩:=rx
  refine ⟨"str", _,F.slot_str_getitem.lookup,typeIs_str _ _ _,?_⟩
  have fin:∀ t' k,EP X pins σ Q (.str (Txt.slice z lo hi) t') { s with toks:=k }:=λ t' k=>⟨.str _,H,I.tok _,⟨_,rfl⟩,q⟩
  cases pl with
  | none=>cases pu with
    | none=>exact wpAny_getItem_str_slice (l:=none) (u:=none) (st:=none) hs rfl (post_val_or_str ⟨Nat.le_trans (Txt.slice_le z _ _) hz,fin⟩)
    | int j u=>exact wpAny_getItem_str_slice (l:=none) (u:=some (j,u)) (st:=none) hs rfl (post_val_or_str ⟨Nat.le_trans (Txt.slice_le z _ _) hz,fin⟩)
  | int i t0=>cases pu with
    | none=>exact wpAny_getItem_str_slice (l:=some (i,t0)) (u:=none) (st:=none) hs rfl (post_val_or_str ⟨Nat.le_trans (Txt.slice_le z _ _) hz,fin⟩)
    | int j u=>exact wpAny_getItem_str_slice (l:=some (i,t0)) (u:=some (j,u)) (st:=none) hs rfl (post_val_or_str ⟨Nat.le_trans (Txt.slice_le z _ _) hz,fin⟩)
end
end L2
namespace L3
open PySem PySem.Spec L2
section
variable {X:Cx}
def aM4q:DR2:=λ x y G Q=>match x,y with
  | .str z,.int n=>0<=n/\n<=1000/\z.length<=1000/\Q (.str (repS z n.toNat)) G
  | _,_=>False
def slSD:D->Option Int->Option Int->DV->DK->Prop:=λ x lo hi G Q=>match x with
  | .str z=>z.length<=sizeLine/\Q (.str (Txt.slice z lo hi)) G
  | _=>False
theorem aslS:ASl X slSD:=by
  refine ⟨_,⟨xMq⟩,λ x vx lo hi G H DQ Q v ax r F=>?_⟩
  cases x with
  | str z=>cases ax;exact ⟨z,rfl,r.1,F (.str (Txt.slice z lo hi)) G _ H (.refl v) rfl r.2⟩
  | _=>exact (show False from r).elim
def lJq:D->DV->Prop:=λ x _=>match x with
  | .str _=>True
  | _=>False
theorem dJq {K:PySem.W.Frag} {x:D} {v:V} {G:DV} {H:Hp} (ax:Abs K H x v) (h:lJq x G):tyV K "str" v H:=by
  cases x with
  | str z=>cases ax;exact rfl
  | _=>exact (show False from h).elim
end
end L3
namespace L2
open PySem PySem.Spec PyProof.Rows
section
variable {X:Cx} {tg:Expr}
theorem gNq:MtR X "str.startswith" (λ x xs H Q=>∃ z y:Str,x=.str z/\xs=[.str y]/\Q (.bl (Txt.startswith z y)) H):=by
  intro pins s σ H x xs v us Q I rx rv h
  obtain ⟨z,y,rfl,rfl,q⟩:=h
  obtain ⟨t,rfl⟩:=rx
  obtain ⟨u,rfl,ru⟩:=rv.one
  obtain ⟨t',rfl⟩:=ru
  exact PySem.SC.startswith ⟨.bl _,H,I,rfl,q⟩
theorem p3q:MtR X "str.index" (λ x xs H Q=>∃ (z y:Str) (i:Nat) (r:List Nat),x=.str z/\xs=[.str y]/\Builtin.Str.occurrences z y 0 z.length 1=i::r/\Q (.int i) H):=by
  intro pins s σ H x xs v us Q I rx rv h
  obtain ⟨z,y,i,r,rfl,rfl,ho,q⟩:=h
  obtain ⟨t,rfl⟩:=rx
  obtain ⟨u,rfl,ru⟩:=rv.one
  obtain ⟨t',rfl⟩:=ru
  exact PySem.SC.index ho ⟨.int i,H,I.tok _,⟨_,rfl⟩,q⟩
theorem h8q:∀ {ys:List Str} {us:List Value},Vals (ys.map V.str) us->StrsAre us ys
  | [],_,h=>by cases h;exact .nil
  | y::ys,_,h=>by
    cases h with
    | cons r rr=>
      obtain ⟨t,rfl⟩:=r
      exact .cons _ _ (h8q rr)
theorem s1q (K:PySem.W.Frag) (hK:K=X.K):MtR X "str.join" (λ x xs H Q=>∃ (z:Str) (l:Addr) (ys:List Str),x=.str z/\xs=[.ref l]/\SqL K H l (ys.map V.str)/\z.length<=16/\(ys.map (·.length)).sum+ys.length<=1048576/\Q (.str (Txt.join z ys)) H):=by
  subst hK
  intro pins s σ H x xs v us Q I rx rv h
  obtain ⟨z,l,ys,rfl,rfl,hl,hz,hw,q⟩:=h
  obtain ⟨t,rfl⟩:=rx
  obtain ⟨u,rfl,ru⟩:=rv.one
  cases ru
  obtain ⟨its,r,p,_⟩:=I.list hl
  exact PyProof.Rows.join_listW p.isList (by simpa using h8q r) hz hw λ t' k=>⟨.str _,H,I.tok _,⟨_,rfl⟩,q⟩
def Its (z:Str):It:=⟨λ i _=>i < z.length,λ i H x H'=>H'=H/\∃ c,z.cps[i]?=some c/\x=.str ⟨#[c]⟩,λ i _=>z.length<=i⟩
theorem oJq {P:Program} {w:World} {K:PySem.W.Frag} {tg:Expr} (it:Addr) (z:Str) (t:Tok) (ty:String) (hty:ty = "str_ascii_iterator"\/ty = "str_iterator"):Turn P w K tg (Its z) [it] it (λ i h=>i<=z.length/\h.IsStrIter it ty z t i) where
  mem:=by simp
  obj:=λ i h st b hb=>by
    have e:b=it:=by simpa using hb
    subst e
    obtain ⟨_,o,e,c,d⟩:=st
    exact ⟨o,e,λ v z=>by rw [d] at z;cases z⟩
  keep:=λ i h h' st k=>⟨st.1,let ⟨o,ho,r⟩:=st.2;⟨o,k it (by simp) o ho,r⟩⟩
  item:=by
    intro X hP hw hK hc i pins s σ H E I hf st hg
    subst hP hw hK
    obtain ⟨f0,f1,f2,f3,f4,f5⟩:=hf it (by simp)
    have W:Walks X.prog X.w X.A it [it] [it] z.cps.size (SignAt z) (λ i h=>h.IsStrIter it ty z t i):=by
      rcases hty with rfl | rfl
      . exact Walks.strAscii (I.ok.hd hc) it z t
      . exact Walks.strWide (I.ok.hd hc) it z t
    refine W.item i s _ _ hg st.2 λ v h' tk hv st' kk=>?_
    obtain ⟨c,u,hc',rfl⟩:=hv
    have I1:Inv X pins σ H { s with heap:=h',toks:=tk }:=I.turned (λ b o hb e=>kk b o (by simpa using hb) e) f0 f1 f3 f4 f5
    obtain ⟨o,e,c1,d⟩:=id st'
    refine ⟨_,rfl,l5q (s:={ s with heap:=h',toks:=tk }) e c1 d (by rcases hty with rfl | rfl<;>decide) ⟨.str ⟨#[c]⟩,H,I1,⟨u,rfl⟩,⟨rfl,c,hc',rfl⟩,⟨hg,st'⟩,λ b hb=>(hf b hb).1⟩⟩
  done:=by
    intro X hP hw hK hc i pins s σ H E I hf st hg
    subst hP hw hK
    obtain ⟨f0,f1,f2,f3,f4,f5⟩:=hf it (by simp)
    have W:Walks X.prog X.w X.A it [it] [it] z.cps.size (SignAt z) (λ i h=>h.IsStrIter it ty z t i):=by
      rcases hty with rfl | rfl
      . exact Walks.strAscii (I.ok.hd hc) it z t
      . exact Walks.strWide (I.ok.hd hc) it z t
    have hi:i=z.cps.size:=Nat.le_antisymm st.1 hg
    subst hi
    exact W.done s _ _ st.2 λ h' tk kk=>⟨rfl,I.turned (λ b o hb e=>kk b o (by simpa using hb) e) f0 f1 f3 f4 f5⟩
  self:=λ _ _ _ _ _ st h=>by
    rcases hty with rfl | rfl
    . exact wpAny_pyIter_striter_ascii st.2 h
    . exact wpAny_pyIter_striter_wide st.2 h
theorem w5q {l:Expr} {tl:TE} (hl:PE X l tl):PI X tg l (λ σ H R=>tl σ H λ x H1=>∃ z,x=.str z/\R (Its z) H1):=by
  intro pins s σ H R I h
  refine thn (hl pins s σ H _ I h) λ v s1 ⟨x,H1,I1,r1,q1⟩=>?_
  obtain ⟨z,rfl,q⟩:=q1
  obtain ⟨t,rfl⟩:=r1
  have fin:∀ ty:String,(ty = "str_ascii_iterator"\/ty = "str_iterator")->PIE X pins σ tg R (.ref s1.heap.objs.size) { s1 with heap:=s1.heap.push { cls:=.type ty,data:=.fields #[.str z t,.int 0 0] } }:=λ ty hty=>by
    refine ⟨s1.heap.objs.size,[s1.heap.objs.size],_,_,H1,rfl,I1.kept (t':=s1.toks) λ b o e=>Heap.get?_push_of_some _ e,oJq _ z t ty hty,⟨Nat.zero_le _,_,Heap.get?_push_size _ rfl,rfl,rfl⟩,λ b hb=>?_,q⟩
    have e:b=s1.heap.objs.size:=by simpa using hb
    subst e
    exact I1.fpOk (Nat.le_refl _) (I1.hok.fresh (Nat.le_refl _))
  cases ha:z.cps.all (· < 128)
  . exact wpAny_pyIter_wide ha (fin _ (.inr rfl))
  . exact wpAny_pyIter_ascii ha (fin _ (.inl rfl))
end
section
variable {X:Cx} {tg:Expr}
structure KKeys (K:PySem.W.Frag) (w:World) (ad:Addr) (ks:List Str):Prop where
  ex:∃ (es:Array DictEntry) (n:Nat),K.lookup ad=some ⟨.type "dict", none,.dict es n,#[]⟩/\PySem.W.KeysLit w.params es.toList/\Paired (λ(k:Str) (e:DictEntry)=>∃ t1,e.key=.str k t1) ks es.toList
  low:(ad==sysModules)=false
  nd:ks.Nodup
theorem jYq {P:Program} {w:World}:∀ {ks:List Str} {es:List DictEntry},Paired (λ(k:Str) (e:DictEntry)=>∃ t1,e.key=.str k t1) ks es->∃ kvs:List (Str × Value),Pairs (strKind P w) es kvs/\kvs.map (·.1)=ks
  | _,_,.nil=>⟨[],.nil,rfl⟩
  | k::ks,e::es,.cons ⟨t,h⟩ r=>by
    obtain ⟨kvs,p,e2⟩:=jYq (P:=P) (w:=w) r
    exact ⟨(k,e.val)::kvs,.cons (by rw [h];exact strKind_is P w k t) rfl p,by rw [List.map_cons,e2]⟩
theorem KKeys.at {P:Program} {w:World} {K:PySem.W.Frag} {ad:Addr} {ks:List Str} (T:KKeys K w ad ks):∃ (kvs:List (Str × Value)) (n:Nat),kvs.map (·.1)=ks/\∀ h:Heap,K.In h->h.DictAt (strKind P w) ad kvs n:=by
  obtain ⟨⟨es,n,hl,hk,hp⟩,lo,nd⟩:=T
  obtain ⟨kvs,pr,e⟩:=jYq (P:=P) (w:=w) hp
  refine ⟨kvs,n,e,λ h X=>⟨_,es,X _ _ hl,⟨rfl,rfl,rfl⟩,rfl,λ e he=>?_,pr,by rw [e];exact nd⟩⟩
  obtain ⟨x,t,e1,e2⟩:=hk.all e (Array.mem_toList_iff.mpr he)
  exact ⟨x,by rw [e1];exact strKind_is P w x t,e2⟩
def Itk (ks:List Str):It:=⟨λ i _=>i < ks.length,λ i H x H'=>H'=H/\∃ k,ks[i]?=some k/\x=.str k,λ i _=>ks.length<=i⟩
theorem o0q {P:Program} {w:World} {K:PySem.W.Frag} {tg:Expr} {ad:Addr} (it:Addr) {kvs:List (Str × Value)} {n:Nat} (hne:ad≠it) (hD:∀ h:Heap,K.In h->h.DictAt (strKind P w) ad kvs n):Turn P w K tg (Itk (kvs.map (·.1))) [it] it (λ i h=>i<=kvs.length/\h.IsKeyIter it ad i kvs.length n) where
  mem:=by simp
  obj:=λ i h st b hb=>by
    have e:b=it:=by simpa using hb
    subst e
    obtain ⟨_,o,e,c,d⟩:=st
    exact ⟨o,e,λ v z=>by rw [d] at z;cases z⟩
  keep:=λ i h h' st k=>⟨st.1,st.2.at λ o e=>k it (by simp) o e⟩
  item:=by
    intro X hP hw hK hc i pins s σ H E I hf st hg
    subst hP hw hK
    obtain ⟨f0,f1,f2,f3,f4,f5⟩:=hf it (by simp)
    have hi:i < kvs.length:=by have z:i < (kvs.map (·.1)).length:=hg;rwa [List.length_map] at z
    have W:=Walks.dictKeys (knd:=strKind X.prog X.w) (I.ok.hd hc) it ad hne kvs n
    refine W.item i s _ _ hi ⟨st.2,hD _ I.kIn⟩ λ v h' tk hv st' kk=>?_
    obtain ⟨k,x,hkx,hkv⟩:=hv
    obtain ⟨u,rfl⟩:=Value.isStrOf_shape (show Value.isStrOf k v=true from hkv)
    have I1:Inv X pins σ H { s with heap:=h',toks:=tk }:=I.turned (λ b o hb e=>kk b o (by simpa using hb) e) f0 f1 f3 f4 f5
    obtain ⟨o,e,c1,d⟩:=id st'.1
    refine ⟨_,rfl,l5q (s:={ s with heap:=h',toks:=tk }) e c1 d (by decide) ⟨.str k,H,I1,⟨u,rfl⟩,⟨rfl,k,by rw [List.getElem?_map,hkx];rfl,rfl⟩,⟨hi,st'.1⟩,λ b hb=>(hf b hb).1⟩⟩
  done:=by
    intro X hP hw hK hc i pins s σ H E I hf st hg
    subst hP hw hK
    obtain ⟨f0,f1,f2,f3,f4,f5⟩:=hf it (by simp)
    have W:=Walks.dictKeys (knd:=strKind X.prog X.w) (I.ok.hd hc) it ad hne kvs n
    have hi:i=kvs.length:=Nat.le_antisymm st.1 (by have z:(kvs.map (·.1)).length<=i:=hg;rwa [List.length_map] at z)
    subst hi
    exact W.done s _ _ ⟨st.2,hD _ I.kIn⟩ λ h' tk kk=>⟨rfl,I.turned (λ b o hb e=>kk b o (by simpa using hb) e) f0 f1 f3 f4 f5⟩
  self:=λ _ _ _ _ _ st h=>wpAny_pyIter_keyiter st.2 h
theorem pOq {x:Str} {p:Pos} {ad:Addr} {ks:List Str} (hg:Gl X x) (hm:X.mg x=some (.ref ad)) (T:KKeys X.K X.w ad ks) (hd:(x==("__debug__" : Str))=false:=by decide):PI X tg (.Name x p) (λ _ H R=>R (Itk ks) H):=by
  intro pins s σ H R I h
  obtain ⟨kvs,n,e,hD⟩:=T.at (P:=X.prog)
  refine thn (fTq (v:=.ref ad) hg hm rfl hd pins s σ H (λ v H1=>v=.ref ad/\H1=H) I ⟨rfl,rfl⟩) λ u s1 ⟨x1,H1,I1,rx,ex,eH⟩=>?_
  subst ex eH
  obtain rfl:u=Value.ref ad:=rx
  refine wpAny_pyIter_dict T.low (hD _ I1.kIn) ?_
  refine ⟨s1.heap.objs.size,[s1.heap.objs.size],_,_,H1,rfl,I1.kept (t':=s1.toks) λ b o e=>Heap.get?_push_of_some _ e,o0q _ (Nat.ne_of_lt (hD _ I1.kIn).lt_size) hD,⟨Nat.zero_le _,_,Heap.get?_push_size _ rfl,rfl,rfl⟩,λ b hb=>?_,e.symm ▸ h⟩
  have e:b=s1.heap.objs.size:=by simpa using hb
  subst e
  exact I1.fpOk (Nat.le_refl _) (I1.hok.fresh (Nat.le_refl _))
end
section
variable {X:Cx}
def tEq (ad:Addr) (tab:Str->Option V):R2:=λ x y H Q=>∃ z,x=.str z/\y=.ref ad/\Q (.bl (!(tab z).isSome)) H
theorem nWq {ad:Addr} {tab:Str->Option V} (T:KTab X.K X.w ad tab):OpR X (compareOp .NotIn) (tEq ad tab):=by
  intro pins s σ H x y v u Q I rx ry h
  obtain ⟨⟨es,n,hl,hk,ht⟩,lo⟩:=T
  obtain ⟨z,rfl,rfl,q⟩:=h
  obtain ⟨t,rfl⟩:=rx
  cases ry
  refine wpAny_notIn_of (strKind_is X.prog X.w z t) lo (PySem.W.mapOf_K I.kIn hl hk) ?_
  rw [<- (ht z).isSome_eq]
  exact ⟨.bl _,H,I.tok _,rfl,q⟩
end
end L2
namespace L3
open PySem PySem.Spec L2
section
variable {X:Cx} {tg a b c:Expr} {ta tb tc:DTE} {pos p:Pos}
abbrev vEq (ad:Addr) (tab:Str->Option D):DR2:=λ x y G Q=>match x with
  | .str z=>y=.ref ad/\Q (.bl (!(tab z).isSome)) G
  | _=>False
theorem fDq {ad:Addr} {tab:Str->Option D} (T:KTabD X.K X.w ad tab):AOp X (compareOp .NotIn) (vEq ad tab):=by
  obtain ⟨tv,T,t1,t2⟩:=T
  refine ⟨_,⟨nWq T⟩,λ x y vx vy G H DQ Q v ax ay r F=>?_⟩
  cases x with
  | str z=>
    cases ax
    obtain ⟨rfl,q⟩:=r
    cases ay
    refine ⟨z,rfl,rfl,?_⟩
    have e:(tv z).isSome=(tab z).isSome:=by
      cases ez:tab z with
      | none=>rw [t1 z ez];rfl
      | some d=>obtain ⟨v',e1,_⟩:=t2 z d ez;rw [e1];rfl
    rw [e]
    exact F (.bl _) G _ H (.refl v) rfl q
  | _=>exact (show False from r).elim
def cJq (z:Str):List D:=z.cps.toList.map λ c=>.str ⟨#[c]⟩
abbrev z9q (ta:DTE):DTI:=λ ρ G R=>ta ρ G λ x G1=>match x with
  | .str z=>R ⟨cJq z,λ _=>True⟩ G1
  | _=>False
theorem wWq {K:PySem.W.Frag} {z:Str} {G1:DV} {H1:Hp} (v:Vw K G1 H1) :
    (∀ (i:Nat) (d:D),(cJq z)[i]?=some d->(Its z).go i H1/\∀ x H',(Its z).yld i H1 x H'->Go K G1 H1 G1 H'/\Abs K H' d x)/\∀ i,(cJq z).length<=i->(Its z).stop i H1:=by
  refine ⟨λ i d hd=>?_,λ i hi=>?_⟩
  . unfold cJq at hd
    rw [List.getElem?_map] at hd
    cases hc:z.cps.toList[i]? with
    | none=>rw [hc] at hd;cases hd
    | some c=>
      rw [hc] at hd;cases hd
      have hi:=(List.getElem?_eq_some_iff.mp hc).1
      refine ⟨hi,λ x H' y=>?_⟩
      obtain ⟨rfl,c',e,rfl⟩:=y
      have e':z.cps.toList[i]?=some c':=by simpa using e
      rw [hc] at e';cases e'
      exact ⟨.refl v,rfl⟩
  . unfold cJq at hi
    rw [List.length_map] at hi
    exact hi
theorem r0q (ha:AE X a ta):AI X tg a (z9q ta):=by
  obtain ⟨ca,ja,ra⟩:=ha.run
  refine ⟨_,⟨w5q ja.run⟩,λ ρ G DR σ H R B q F=>ra ρ G _ σ H _ B q λ x G1 v H1 g1 ax q1=>?_⟩
  cases x with
  | str z=>cases ax;exact ⟨z,rfl,F ⟨cJq z,λ _=>True⟩ _ G1 H1 g1 (λ G2 H2 g2 _=>wWq g2.vw) q1⟩
  | _=>exact (show False from q1).elim
theorem oXq {x:Str} {ad:Addr} {ks:List Str} (hg:Gl X x) (hm:X.mg x=some (.ref ad)) (T:KKeys X.K X.w ad ks) (hd:(x==("__debug__" : Str))=false:=by decide):AI X tg (.Name x p) (λ _ G R=>R ⟨ks.map D.str,λ _=>True⟩ G):=by
  refine ⟨_,⟨pOq hg hm T hd⟩,λ ρ G DR σ H R B q F=>F ⟨ks.map D.str,λ _=>True⟩ _ G H (.refl B.vw) (λ G2 H2 g2 _=>⟨λ i d hd=>?_,λ i hi=>?_⟩) q⟩
  . have hd':(ks.map D.str)[i]?=some d:=hd
    rw [List.getElem?_map] at hd'
    cases hc:ks[i]? with
    | none=>rw [hc] at hd';cases hd'
    | some k=>
      rw [hc] at hd';cases hd'
      refine ⟨(List.getElem?_eq_some_iff.mp hc).1,λ x H' y=>?_⟩
      obtain ⟨rfl,k',e,rfl⟩:=y
      rw [hc] at e;cases e
      exact ⟨.refl g2.vw,rfl⟩
  . have hi':(ks.map D.str).length<=i:=hi
    rw [List.length_map] at hi'
    exact hi'
abbrev rEq (r r':DR2) (ta tb tc:DTE):DTE:=λ ρ G Q=>ta ρ G λ x G1=>tb ρ G1 λ y G2=>r x y G2 λ z G3=>blD z λ k=>Br k (tc ρ G3 λ w G4=>r' y w G4 Q) (Q (.bl false) G3)
theorem qEq {op op':CmpOp} {r r':DR2} (ho:AOp X (compareOp op) r) (ho':AOp X (compareOp op') r') (ha:AE X a ta) (hb:AE X b tb) (hc:AE X c tc) (hm:lastMarks [op,op'] [b,c]=false:=by with_unfolding_all rfl):AE X (.Compare a [op,op'] [b,c] pos) (rEq r r' ta tb tc):=by
  obtain ⟨ca,ja,ra⟩:=ha.run
  obtain ⟨cb,jb,rb⟩:=hb.run
  obtain ⟨cc,jc,rc⟩:=hc.run
  obtain ⟨co,jo,uo⟩:=ho.run
  obtain ⟨co',jo',uo'⟩:=ho'.run
  refine ⟨_,⟨qBq jo.run jo'.run ja.run jb.run jc.run hm⟩,λ ρ G DQ σ H Q B q F=>ra ρ G _ σ H _ B q λ x G1 v H1 g1 ax q1=>rb ρ G1 _ σ H1 _ (B.go g1) q1 λ y G2 u H2 g2 ay q2=>uo x y v u G2 H2 _ _ g2.vw (ax.mono g2.tup) ay q2 λ z G3 vz H3 g3 az q3=>?_⟩
  cases z with
  | bl k=>
    cases az
    refine ⟨k,rfl,?_⟩
    cases k with
    | true=>
      rw [if_pos rfl]
      exact rc ρ G3 _ σ H3 _ (((B.go g1).go g2).go g3) (q3.1 rfl) λ w G4 vw H4 g4 aw q4=>uo' y w u vw G4 H4 _ _ g4.vw ((ay.mono g3.tup).mono g4.tup) aw q4 (F.after (((g1.trans g2).trans g3).trans g4))
    | false=>rw [if_neg (by decide)];exact F (.bl false) G3 _ H3 ((g1.trans g2).trans g3) rfl (q3.2 rfl)
  | _=>exact (show False from q3).elim
theorem q8q {op op':CmpOp} {r r':DR2} (ho:AOp X (compareOp op) r) (ho':AOp X (compareOp op') r') (ha:AE X a ta) (hb:AE X b tb) (hc:AE X c tc) (hm:lastMarks [op,op'] [b,c]=false:=by with_unfolding_all rfl):AT X (.Compare a [op,op'] [b,c] pos) (xCq (rEq r r' ta tb tc)):=by
  obtain ⟨ca,ja,ra⟩:=ha.run
  obtain ⟨cb,jb,rb⟩:=hb.run
  obtain ⟨cc,jc,rc⟩:=hc.run
  obtain ⟨co,jo,uo⟩:=ho.run
  obtain ⟨co',jo',uo'⟩:=ho'.run
  refine ⟨_,⟨pDq jo.run jo'.run ja.run jb.run jc.run hm⟩,λ ρ G DQ σ H Q B q F=>ra ρ G _ σ H _ B q λ x G1 v H1 g1 ax q1=>rb ρ G1 _ σ H1 _ (B.go g1) q1 λ y G2 u H2 g2 ay q2=>uo x y v u G2 H2 _ _ g2.vw (ax.mono g2.tup) ay q2 λ z G3 vz H3 g3 az q3=>?_⟩
  cases z with
  | bl k=>
    cases az
    refine ⟨k,rfl,?_⟩
    cases k with
    | true=>
      rw [if_pos rfl]
      refine rc ρ G3 _ σ H3 _ (((B.go g1).go g2).go g3) (q3.1 rfl) λ w G4 vw H4 g4 aw q4=>uo' y w u vw G4 H4 _ _ g4.vw ((ay.mono g3.tup).mono g4.tup) aw q4 λ z5 G5 v5 H5 g5 a5 q5=>?_
      cases z5 with
      | bl k5=>cases a5;exact ⟨k5,rfl,F k5 G5 H5 ((((g1.trans g2).trans g3).trans g4).trans g5) q5⟩
      | _=>exact (show False from q5).elim
    | false=>rw [if_neg (by decide)];exact ⟨false,rfl,F false G3 H3 ((g1.trans g2).trans g3) (q3.2 rfl)⟩
  | _=>exact (show False from q3).elim
def mNq:D->List D->DV->DK->Prop:=λ x xs G Q=>match x,xs with
  | .str z,[.str y]=>Q (.bl (Txt.startswith z y)) G
  | _,_=>False
theorem lRq {K:PySem.W.Frag} {H:Hp} {xs:List D} {vs:List V} {y:Str} (e:xs=[.str y]) (al:AbsL K H xs vs):vs=[.str y]:=by
  subst e
  obtain ⟨u,r',e,a,l⟩:=al
  subst e
  cases a
  cases (show r'=[] from l)
  rfl
theorem cAq:AMt X "str" "str.startswith" lJq mNq:=by
  refine ⟨_,⟨gNq⟩,λ x v G H _ ax h=>dJq ax h,λ x xs vx vs G H DQ Q v ax al r F=>?_⟩
  unfold mNq at r
  split at r
  . next z y=>cases ax;exact ⟨z,y,rfl,lRq rfl al,F (.bl _) G _ H (.refl v) rfl r⟩
  . exact r.elim
def r3q:D->List D->DV->DK->Prop:=λ x xs G Q=>match x,xs with
  | .str z,[.str y]=>∃ (i:Nat) (r:List Nat),Builtin.Str.occurrences z y 0 z.length 1=i::r/\Q (.int i) G
  | _,_=>False
theorem nQq:AMt X "str" "str.index" lJq r3q:=by
  refine ⟨_,⟨p3q⟩,λ x v G H _ ax h=>dJq ax h,λ x xs vx vs G H DQ Q v ax al r F=>?_⟩
  unfold r3q at r
  split at r
  . next z y=>cases ax;obtain ⟨i,r',h,q⟩:=r;exact ⟨z,y,i,r',rfl,lRq rfl al,h,F (.int i) G _ H (.refl v) rfl q⟩
  . exact r.elim
theorem AbsL.strs {K:PySem.W.Frag} {H:Hp} {ys:List Str}:∀ {vs:List V},AbsL K H (ys.map D.str) vs->vs=ys.map V.str:=by
  induction ys with
  | nil=>intro vs h;exact h
  | cons n ns ih=>rintro vs ⟨v,r,e,q,l⟩;subst e;rw [ih l,show v=V.str n from q];rfl
def wPq:D->List D->DV->DK->Prop:=λ x xs G Q=>match x,xs with
  | .str z,[.ref l]=>onL G l λ ds=>∃ ys:List Str,ds=ys.map D.str/\z.length<=16/\(ys.map (·.length)).sum+ys.length<=1048576/\Q (.str (Txt.join z ys)) G
  | _,_=>False
theorem q4q:AMt X "str" "str.join" lJq wPq:=by
  refine ⟨_,⟨s1q X.K rfl⟩,λ x v G H _ ax h=>dJq ax h,λ x xs vx vs G H DQ Q v ax al r F=>?_⟩
  unfold wPq at r
  split at r
  . next z l=>
    cases ax
    obtain ⟨u,r',e,a,e2⟩:=al
    subst e
    cases a
    cases (show r'=[] from e2)
    obtain ⟨ds,ws,⟨ys,rfl,h1,h2,q⟩,s,rl⟩:=b2q v r
    rw [rl.strs] at s
    exact ⟨z,l,ys,rfl,rfl,s,h1,h2,F (.str _) G _ H (.refl v) rfl q⟩
  . exact r.elim
def tVq:D->DV->DK->Prop:=λ x G Q=>match x with
  | .int i=>i.natAbs.log2 < 1920/\Q (.str (toString i)) G
  | _=>False
theorem hBq:ACall X (.type "str") (oIq tVq):=by
  refine ⟨_,⟨hWq⟩,λ xs vs G H DQ Q v a r F=>?_⟩
  obtain ⟨x,u,rfl,rfl,ax,r⟩:=bTq r a
  cases x with
  | int i=>cases ax;exact ⟨i,rfl,r.1,F (.str _) G _ H (.refl v) rfl r.2⟩
  | _=>exact (show False from r).elim
end
theorem zHq {p:Prop} (c:false=true):p:=nomatch c
theorem yKq {p:Prop} (c:true=false):p:=nomatch c
def Tm.leaf:Tm->Bool
  | .name _=>true
  | .whole _=>true
  | _=>false
def c4q:Stmt->List Stmt
  | .ClassDef _ _ _ b _ _ _ _ _ _ _=>b
  | _=>[]
theorem tTq {α:Type} (xs:List α) (y:α):atI (xs++[y]) (-1)=some y:=by
  unfold atI ixN
  rw [if_neg (by decide),List.length_append,List.length_singleton]
  rw [if_pos (by omega)]
  show (xs++[y])[((-1:Int)+((xs.length+1:Nat):Int)).toNat]?=some y
  rw [show ((-1:Int)+((xs.length+1:Nat):Int)).toNat=xs.length by omega]
  simp
theorem Tm.enc_node {t:Tm} (h:t.leaf=false):t.enc=.tup (.str t.word::t.inn.map Tm.enc):=by cases t<;>first | rfl | cases h
theorem aPq {fs:List (Str × D)} {f:Str} {d:D} {k:D->Prop} (h:fs.lookup f=some d) (q:k d):tGq fs f k:=by unfold tGq;rw [h];exact q
theorem cYq {β:Type} {k z:Str} {v:β} {r:List (Str × β)}:(((k,v)::r).find? λ kv=>decide (kv.1=z)).map (·.2)=if z=k then some v else (r.find? λ kv=>decide (kv.1=z)).map (·.2):=by
  by_cases h:k=z
  . simp [h]
  . rw [if_neg (Ne.symm h),List.find?_cons,decide_eq_false h]
theorem hKq:∀ {t:List (Str × V)} {es:List DictEntry},Paired (λ(kv:Str × V) (e:DictEntry)=>(∃ t1,e.key=.str kv.1 t1)/\RelV kv.2 e.val) t es →
    ∀ x,RelO ((t.find? λ kv=>decide (kv.1=x)).map (·.2)) ((es.find? λ d=>Value.isStrOf x d.key).map (·.val))
  | _,_,.nil,_=>trivial
  | p::t,e::es,.cons ⟨⟨t1,e1⟩,e2⟩ r,x=>by
    by_cases h:p.1=x
    . have z:Value.isStrOf x e.key=true:=by rw [e1,h];simp [Value.isStrOf]
      rw [List.find?_cons,decide_eq_true h,List.find?_cons,z]
      exact e2
    . have z:Value.isStrOf x e.key=false:=by
        rw [e1]
        simp only [Value.isStrOf]
        exact beq_false_of_ne h
      rw [List.find?_cons,decide_eq_false h,List.find?_cons,z]
      exact hKq r x
theorem t4q {K:PySem.W.Frag} {w:World} {ad:Addr} {es:Array DictEntry} {n:Nat} {LV:List (Str × V)} {L:List (Str × D)} {tab:Str->Option D} (h1:K.lookup ad=some ⟨.type "dict", none,.dict es n,#[]⟩) (h2:(ad==sysModules)=false) (h3:PySem.W.KeysLit w.params es.toList)
    (h4:Paired (λ(kv:Str × V) (e:DictEntry)=>(∃ t1,e.key=.str kv.1 t1)/\RelV kv.2 e.val) LV es.toList) (h5:∀ z,tab z=(L.find? λ kv=>decide (kv.1=z)).map (·.2)) (h6:Paired (λ(a:Str × D) (b:Str × V)=>a.1=b.1/\∀ H,Abs K H a.2 b.2) L LV):KTabD K w ad tab:=by
  have key:∀ {L:List (Str × D)} {LV:List (Str × V)},Paired (λ(a:Str × D) (b:Str × V)=>a.1=b.1/\∀ H,Abs K H a.2 b.2) L LV->∀ z,(((L.find? λ kv=>decide (kv.1=z)).map (·.2))=none->((LV.find? λ kv=>decide (kv.1=z)).map (·.2))=none)/\∀ d,((L.find? λ kv=>decide (kv.1=z)).map (·.2))=some d->∃ v,((LV.find? λ kv=>decide (kv.1=z)).map (·.2))=some v/\∀ H,Abs K H d v:=by
    intro L LV h
    induction h with
    | nil=>intro z;exact ⟨λ _=>rfl,λ d e=>by cases e⟩
    | @cons a b as bs q r ih=>
      intro z
      obtain ⟨a1,a2⟩:=a
      obtain ⟨b1,b2⟩:=b
      obtain ⟨q1,q2⟩:=q
      cases (show a1=b1 from q1)
      rw [cYq,cYq]
      by_cases c:z=a1
      . rw [if_pos c,if_pos c];exact ⟨λ e=>(by cases e),λ d e=>(by cases e;exact ⟨_,rfl,q2⟩)⟩
      . rw [if_neg c,if_neg c];exact ih z
  refine ⟨λ z=>(LV.find? λ kv=>decide (kv.1=z)).map (·.2),⟨⟨es,n,h1,h3,λ x=>?_⟩,h2⟩,λ z e=>((key h6 z).1 (by rw [<- h5];exact e)),λ z d e=>(key h6 z).2 d (by rw [<- h5];exact e)⟩
  have:=hKq h4 x
  unfold findBy
  obtain ⟨l⟩:=es
  rw [List.find?_toArray]
  exact this
abbrev letters:Str:="abcdefghijklmnopqrstuvwxyz"
abbrev figs:Str:="0123456789"
def words7:List Str:=["way", "give", "pair", "first", "second", "plus", "look"]
def e1q (z y:Str):Bool:=z.cps.toList.all λ c=>decide (c∈y.cps.toList)
theorem xZq (y:Str) (c:Nat):(!(Builtin.Str.occurrences y ⟨#[c]⟩ 0 y.length 1).isEmpty)=decide (c∈y.cps.toList):=by
  rw [PyProof.Rows.empty_one,Bool.not_not]
def s2q (z:Str):Bool:=decide (1<=(z.length:Int))&&(decide ((z.length:Int)<=8)&&(e1q z letters&&!(words7.contains z)))
def bare (z:Str):Str:=if Txt.startswith z "-" then Txt.slice z (some 1) none else z
def rBq (z:Str):Bool:=decide (1<=((bare z).length:Int))&&(decide (((bare z).length:Int)<=9)&&e1q (bare z) figs)&&(!Txt.startswith (bare z) "0"||z=="0")
def o7q (z:Str):Option D:=if z = "way" then some (.int 1) else if z = "give" then some (.int 2) else if z = "pair" then some (.int 2) else if z = "first" then some (.int 1) else if z = "second" then some (.int 1) else if z = "plus" then some (.int 2) else if z = "look" then some (.int 3) else none
theorem lPq (z:Str):(o7q z).isSome=words7.contains z:=by
  unfold o7q words7
  simp only [List.contains_cons,List.contains_nil,Bool.or_false]
  repeat' split
  all_goals simp_all
def dHq:DSp:=λ ds G Q=>∃ z y:Str,ds=[.str z,.str y]/\z.length<=1000/\Q (.bl (e1q z y)) G
def jZq:DSp:=λ ds G Q=>∃ z:Str,ds=[.str z]/\z.length<=1000/\Q (.bl (s2q z)) G
def sCq:DSp:=λ ds G Q=>∃ z:Str,ds=[.str z]/\z.length<=1000/\Q (.bl (rBq z)) G
def gSq:DSp:=λ ds G Q=>∃ z:Str,ds=[.str z,.int 9]/\z.length<=1000/\Q (.bl (rBq z)) G
def low (l:List Nat):Prop:=∀ c∈l,97<=c/\c<=122
def f1q (l:List Nat):Int:=l.foldl (λ r c=>r * 26+((c - 97:Nat):Int)+1) 0
def mFq:DSp:=λ ds G Q=>∃ z:Str,ds=[.str z]/\z.length<=8/\low z.cps.toList/\Q (.int (f1q z.cps.toList - 1)) G
def a8q (n:Nat):Str:=if n < 26 then ⟨#[97+n]⟩ else ⟨#[97+(n / 26 - 1),97+n % 26]⟩
def eQq:DSp:=λ ds G Q=>∃ n:Nat,ds=[.int n]/\n < 100/\Q (.str (a8q n)) G
def g0q:DSp:=λ ds G Q=>∃ n:Nat,ds=[.int n]/\n < 100/\Q (.str (a8q n)) G
theorem kEq:∀ c:Nat,97<=c->c<=122->Builtin.Str.occurrences letters ⟨#[c]⟩ 0 letters.length 1=[c - 97]:=by
  intro c h1 h2
  have key:∀ k < 26,Builtin.Str.occurrences letters ⟨#[97+k]⟩ 0 letters.length 1=[k]:=by decide +kernel
  have:=key (c - 97) (by omega)
  rw [show 97+(c - 97)=c by omega] at this
  exact this
theorem hVq:∀ z∈words7,z.length<=6/\1<=z.length/\(∀ c∈z.cps.toList,97<=c/\c<=122)/\100<=f1q z.cps.toList - 1/\(Txt.upper ⟨#[z.cps.toList.headD 0]⟩).length<=5:=by decide +kernel
theorem bUq (z:Str) (c:Nat):Txt.startswith z ⟨#[c]⟩=(z.cps.toList.head?==some c):=by
  obtain ⟨a⟩:=z
  obtain ⟨l⟩:=a
  unfold Txt.startswith Builtin.Str.subAt Str.length
  cases l with
  | nil=>simp
  | cons x l=>
    simp
theorem dash:(("-" : String):Str)=⟨#[45]⟩:=by decide +kernel
theorem r2q:(("0" : String):Str)=⟨#[48]⟩:=by decide +kernel
theorem sBq (z:Str):(bare z).length<=z.length:=by
  unfold bare
  split
  . exact Txt.slice_le z _ _
  . exact Nat.le_refl _
theorem d3q:∀ n < 100,s2q (a8q n)=true:=by decide +kernel
def LI (n:Nat) (x:Str) (k:Nat):Prop:=(k=n+1/\x = "")\/(26<=n/\k=n / 26/\x=⟨#[97+n % 26]⟩)\/(k=0/\x=a8q n)
theorem qVq:∀ k < 26,letters.cps.toList[k]?=some (97+k):=by decide +kernel
theorem rRq {n k:Nat} {x:Str} (hn:n < 100) (h:LI n x k) (hk:0 < k):∃ j,j=(k - 1) % 26/\atI letters.cps.toList (((k:Int) - 1) % 26)=some (97+j)/\(⟨#[97+j]⟩:Str).length+x.length<=200000/\LI n ((⟨#[97+j]⟩:Str)++x) ((k - 1) / 26):=by
  refine ⟨(k - 1) % 26,rfl,?_,?_,?_⟩
  . rw [show ((k:Int) - 1) % 26=(((k - 1) % 26:Nat):Int) by omega]
    exact cDq (qVq _ (Nat.mod_lt _ (by decide)))
  . rcases h with ⟨_,rfl⟩ | ⟨_,_,rfl⟩ | ⟨h,_⟩
    . show 1+_<=_;decide +kernel
    . show 1+1<=200000;decide
    . omega
  . have app:∀ a b:Nat,(⟨#[a]⟩:Str)++(⟨#[b]⟩:Str)=⟨#[a,b]⟩:=λ a b=>rfl
    have app0:∀ a:Nat,(⟨#[a]⟩:Str)++(("" : String):Str)=⟨#[a]⟩:=λ a=>by rw [show (("" : String):Str)=⟨#[]⟩ by decide +kernel];rfl
    rcases h with ⟨rfl,rfl⟩ | ⟨h1,rfl,rfl⟩ | ⟨h,_⟩
    . rw [app0,Nat.add_sub_cancel]
      by_cases c:n < 26
      . exact .inr (.inr ⟨by omega,by rw [a8q,if_pos c,Nat.mod_eq_of_lt c]⟩)
      . exact .inr (.inl ⟨by omega,rfl,rfl⟩)
    . rw [app]
      refine .inr (.inr ⟨by omega,?_⟩)
      rw [a8q,if_neg (by omega),show (n / 26 - 1) % 26=n / 26 - 1 by omega]
    . omega
theorem uQq {n:Nat} {x:Str} (h:LI n x 0):x=a8q n:=by
  rcases h with ⟨h,_⟩ | ⟨h1,h2,_⟩ | ⟨_,h⟩
  . omega
  . omega
  . exact h
theorem kJq (l:List Nat) (c:Nat):f1q (l++[c])=f1q l * 26+((c - 97:Nat):Int)+1:=by unfold f1q;rw [List.foldl_append];rfl
theorem bSq (n:Nat):(a8q n).length<=2:=by
  unfold a8q
  split
  . exact (by decide:1<=2)
  . exact Nat.le_refl 2
def cntL:List (Str × D):=[("way", .int 1),("give", .int 2),("pair", .int 2),("first", .int 1),("second", .int 1),("plus", .int 2),("look", .int 3)]
def uOq:List (Str × V):=[("way", .int 1),("give", .int 2),("pair", .int 2),("first", .int 1),("second", .int 1),("plus", .int 2),("look", .int 3)]
theorem u0q (z:Str):o7q z=(cntL.find? λ kv=>decide (kv.1=z)).map (·.2):=by
  unfold o7q cntL
  simp only [cYq]
  rfl
theorem cntP {K:PySem.W.Frag}:Paired (λ(a:Str × D) (b:Str × V)=>a.1=b.1/\∀ H,Abs K H a.2 b.2) cntL uOq:=
  .cons ⟨rfl,λ _=>rfl⟩ (.cons ⟨rfl,λ _=>rfl⟩ (.cons ⟨rfl,λ _=>rfl⟩ (.cons ⟨rfl,λ _=>rfl⟩ (.cons ⟨rfl,λ _=>rfl⟩ (.cons ⟨rfl,λ _=>rfl⟩ (.cons ⟨rfl,λ _=>rfl⟩ .nil))))))
theorem eYq:∀ {t:List (Str × V)} {es:List DictEntry},Paired (λ(kv:Str × V) (e:DictEntry)=>(∃ t1,e.key=.str kv.1 t1)/\RelV kv.2 e.val) t es->Paired (λ(k:Str) (e:DictEntry)=>∃ t1,e.key=.str k t1) (t.map (·.1)) es
  | _,_,.nil=>.nil
  | _,_,.cons h r=>.cons h.1 (eYq r)
theorem oUq {K:PySem.W.Frag} {w:World} {ad:Addr} {es:Array DictEntry} {n:Nat} {LV:List (Str × V)} {ks:List Str} (h1:K.lookup ad=some ⟨.type "dict", none,.dict es n,#[]⟩) (h2:(ad==sysModules)=false) (h3:PySem.W.KeysLit w.params es.toList)
    (h4:Paired (λ(kv:Str × V) (e:DictEntry)=>(∃ t1,e.key=.str kv.1 t1)/\RelV kv.2 e.val) LV es.toList) (e:LV.map (·.1)=ks) (nd:ks.Nodup):KKeys K w ad ks:=⟨⟨es,n,h1,h3,e ▸ eYq h4⟩,h2,nd⟩
theorem oSq {α:Type} {xs:List α} {k:Nat} (h:k+1<=xs.length):cut xs (some ((k:Int)+1)) none=xs.drop (k+1):=by
  unfold cut
  rw [show HT.sIx xs.length xs.length none=xs.length from rfl,show HT.sIx xs.length 0 (some ((k:Int)+1))=k+1 by unfold HT.sIx;simp only [];rw [if_neg (by omega)];omega]
  rw [List.take_of_length_le (by rw [List.length_drop];omega)]
end L3
namespace L2
open PySem PySem.Spec PyProof.Rows
section
variable {prog:Program} {w:World} {A:Around} {E:Value->Shared->Prop} {s:Shared} {e it:Addr} {i:Nat} {old:Value}
theorem l3q {R:Value->Prop} {P:Heap->Prop} {Q:Option Value->Shared->Prop} (he:IsEnum s.heap e it i old) (hne:e≠it) (hP:∀ h h',P h->(∀ o,h.get? it=some o->h'.get? it=some o)->P h')
    (hn:∀ (A:Around) (Q:Value->Shared->Prop) (E:Value->Shared->Prop),(∀ h₁ tk x,R x->Heap.SameBut it s.heap h₁->P h₁->Q x { s with heap:=h₁,toks:=tk })->wpAny (model prog w) A (Builtin.SmallTypes.nextOf (.ref it)) Q E s)
    (hQ:∀ h' tk x t,R x->IsEnumOut h' e it ((i:Int)+1) x s.heap.objs.size->P h'->h'.get? s.heap.objs.size=some { cls:=.type "tuple", data:=.seq #[.int i t,x] } →
      (∀ b o,b≠e->b≠it->s.heap.get? b=some o->h'.get? b=some o)->Q (some (.ref s.heap.objs.size)) { s with heap:=h',toks:=tk }) :
    wpAny (model prog w) A (pyNext (.ref e)) Q E s:=by
  have hT:s.TypeIs (.ref e) "enumerate":=⟨_,he,rfl⟩
  unfold pyNext
  refine wpAny_bind (wpAny_attempt (wpAny_callSpecial?_slot (name:=Str.ofString "__next__") hT PySem.F.slot_enumerate_next (wpAny_call_entry PySem.F.slot_enumerate_next hT PySem.F.entry_enumerate_next ?_ (PySem.F.args_enumerate_next_1 _))))
  obtain ⟨hp,g,d,tk,os⟩:=s
  refine (show wpAny _ _ (field (.ref e) 2 >>= _) _ _ _ from wpAny_bind (wpAny_field he rfl (x:=.ref it) rfl (wpAny_bind (hn _ _ _ λ h₁ tk1 x rx s1 p1=>?_))))
  replace s1:Heap.SameBut it hp h₁:=s1
  have e1:IsEnum h₁ e it i old:=(s1.2 e hne).trans he
  refine (show wpAny _ _ (field (.ref e) 3 >>= _) _ _ ⟨h₁,g,d,tk1,os⟩ from wpAny_bind (wpAny_field e1 rfl (x:=rawInt i) rfl ?_))
  refine (show wpAny _ _ (field (.ref e) 4 >>= _) _ _ ⟨h₁,g,d,tk1,os⟩ from wpAny_bind (wpAny_field e1 rfl (x:=.none) rfl ?_))
  refine (show wpAny _ _ (mkInt i >>= _) _ _ ⟨h₁,g,d,tk1,os⟩ from wpAny_bind (wpAny_mkInt ?_))
  refine (show wpAny _ _ (setField (.ref e) 3 (rawInt ((i:Int)+1)) >>= _) _ _ ⟨h₁,g,d,tk1+1,os⟩ from wpAny_bind (wpAny_setField_rec e1 (by simp) λ h₂ e2 s2=>?_))
  replace s2:Heap.SameBut e h₁ h₂:=s2
  replace e2:IsEnum h₂ e it ((i:Int)+1) old:=e2
  refine (show wpAny _ _ (setField (.ref e) 4 .none >>= _) _ _ ⟨h₂,g,d,tk1+1,os⟩ from wpAny_bind (wpAny_setField_rec e2 (by simp) λ h₃ e3 s3=>?_))
  replace s3:Heap.SameBut e h₂ h₃:=s3
  replace e3:IsEnum h₃ e it ((i:Int)+1) old:=e3
  refine (show wpAny _ _ (newTuple [.int i tk1,x] >>= _) _ _ ⟨h₃,g,d,tk1+1,os⟩ from wpAny_bind (wpAny_newTuple ?_))
  have e4:IsEnum (h₃.push { cls:=.type "tuple", data:=.seq #[.int i tk1,x] }) e it ((i:Int)+1) old:=Heap.get?_push_of_some _ e3
  have hsz:h₃.objs.size=hp.objs.size:=by rw [s3.1,s2.1,s1.1]
  have hel:e < hp.objs.size:=Heap.lt_size he
  have t4:(h₃.push { cls:=.type "tuple", data:=.seq #[.int i tk1,x] }).get? hp.objs.size=some { cls:=.type "tuple", data:=.seq #[.int i tk1,x] }:=by rw [<- hsz];exact Heap.get?_push_size _ rfl
  have k4:∀ b o,b≠e->b≠it->hp.get? b=some o->(h₃.push { cls:=.type "tuple", data:=.seq #[.int i tk1,x] }).get? b=some o:=λ b o hbe hbi hb=>Heap.get?_push_of_some _ (s3.extBut b o hbe (s2.extBut b o hbe (s1.extBut b o hbi hb)))
  have p4:P (h₃.push { cls:=.type "tuple", data:=.seq #[.int i tk1,x] }):=hP _ _ p1 λ o ho=>Heap.get?_push_of_some _ (s3.extBut _ _ (Ne.symm hne) (s2.extBut _ _ (Ne.symm hne) ho))
  rw [hsz]
  generalize h₃.push { cls:=.type "tuple", data:=.seq #[.int i tk1,x] }=h₄ at e4 t4 k4 p4 ⊢
  refine (show wpAny _ _ (Builtin.SmallTypes.ownedTupleIsFree (.ref e) >>= _) _ _ ⟨h₄,g,d,tk1+1,os⟩ from wpAny_bind ?_)
  unfold Builtin.SmallTypes.ownedTupleIsFree
  refine wpAny_bind (wpAny_field e4 rfl (x:=.none) rfl (wpAny_pure ?_))
  simp only [if_true]
  refine wpAny_bind (wpAny_rule (wpAny_bind (wpAny_field e4 rfl (x:=old) rfl (wpAny_bind (wpAny_setField_rec e4 (by simp) λ h₅ e5 s5=>?_)))))
  replace s5:Heap.SameBut e h₄ h₅:=s5
  replace e5:IsEnum h₅ e it ((i:Int)+1) x:=e5
  refine (show wpAny _ _ (Builtin.SmallTypes.ownedTupleHandOut (.ref e) (.ref hp.objs.size) >>= _) _ _ ⟨h₅,g,d,tk1+1,os⟩ from wpAny_bind ?_)
  unfold Builtin.SmallTypes.ownedTupleHandOut
  refine wpAny_bind (wpAny_setField_rec e5 (by simp) λ h₆ e6 s6=>?_)
  replace s6:Heap.SameBut e h₅ h₆:=s6
  replace e6:IsEnumOut h₆ e it ((i:Int)+1) x hp.objs.size:=e6
  refine wpAny_setField_rec e6 (by simp) λ h₇ e7 s7=>?_
  replace s7:Heap.SameBut e h₆ h₇:=s7
  replace e7:IsEnumOut h₇ e it ((i:Int)+1) x hp.objs.size:=e7
  have kk:∀ b o,b≠e->h₄.get? b=some o->h₇.get? b=some o:=λ b o hb q=>s7.extBut b o hb (s6.extBut b o hb (s5.extBut b o hb q))
  exact wpAny_bind (wpAny_letGo (wpAny_pure ⟨_,rfl,wpAny_pure (hQ h₇ _ x tk1 rx e7 (hP _ _ p4 λ o ho=>kk _ _ (Ne.symm hne) ho) (kk _ _ (Nat.ne_of_gt hel) t4) λ b o hb hi q=>kk b o hb (k4 b o hb hi q))⟩))
theorem q0q {Q:Option Value->Shared->Prop} (he:IsEnum s.heap e it i old)
    (hn:∀ (A:Around) (Q:Value->Shared->Prop) (E:Value->Shared->Prop),A.handled=none->(∀ h' x,Heap.ExtBut it s.heap h'->(∃ o,h'.get? x=some o/\o.cls=.type "StopIteration")->E (.ref x) { s with heap:=h' })->wpAny (model prog w) A (Builtin.SmallTypes.nextOf (.ref it)) Q E s)
    (hh:A.handled=none) (hQ:∀ h',Heap.ExtBut it s.heap h'->Q none { s with heap:=h' }):wpAny (model prog w) A (pyNext (.ref e)) Q E s:=by
  have hT:s.TypeIs (.ref e) "enumerate":=⟨_,he,rfl⟩
  unfold pyNext
  refine wpAny_bind (wpAny_attempt (wpAny_callSpecial?_slot (name:=Str.ofString "__next__") hT PySem.F.slot_enumerate_next (wpAny_call_entry PySem.F.slot_enumerate_next hT PySem.F.entry_enumerate_next ?_ (PySem.F.args_enumerate_next_1 _))))
  refine (show wpAny _ _ (field (.ref e) 2 >>= _) _ _ _ from wpAny_bind (wpAny_field he rfl (x:=.ref it) rfl (wpAny_bind (hn _ _ _ hh λ h' x e' hx=>?_))))
  obtain ⟨o,ho,hc⟩:=hx
  refine wpAny_bind (wpAny_isInstance (T:="StopIteration") (b:=true) ⟨o,ho,hc⟩ isSubtype_stop ?_)
  exact wpAny_pure (hQ _ e')
end
section
variable {X:Cx}
variable {e lo st:Expr} {te:TE} {tl tk:TO} {pos p2:Pos}
def aC3q:List V->Hp->VK->Prop:=λ xs H Q=>∃ z n,xs=[.str z]/\PySem.intText? z=some n/\z.length<=640/\Q (.int n) H
theorem lNq:CallR X (.type "int") aC3q:=by
  intro pins s σ H xs us Q I r h
  obtain ⟨z,n,rfl,hn,hl,q⟩:=h
  obtain ⟨u,rfl,rx⟩:=hPq r
  obtain ⟨t,rfl⟩:=rx
  exact PySem.W.KIN.call_text hn hl ⟨.int n,H,I.tok _,⟨_,rfl⟩,q⟩
end
end L2
namespace L3
open PySem PySem.Spec L2
section
variable {X:Cx} {e lo st:Expr} {te:DTE} {tl tk:DTO} {pos p2:Pos}
def z2q:D->DV->DK->Prop:=λ x G Q=>match x with
  | .str z=>∃ n,PySem.intText? z=some n/\z.length<=640/\Q (.int n) G
  | _=>False
theorem kOq:ACall X (.type "int") (oIq z2q):=by
  refine ⟨_,⟨lNq⟩,λ xs vs G H DQ Q v a r F=>?_⟩
  obtain ⟨x,u,rfl,rfl,ax,r⟩:=bTq r a
  cases x with
  | str z=>cases ax;obtain ⟨n,hn,hl,q⟩:=r;exact ⟨z,n,rfl,hn,hl,F (.int n) G _ H (.refl v) rfl q⟩
  | _=>exact (show False from r).elim
end
end L3
namespace L3
open PySem L2 PySem.NumText PyProof.Rows PySem.W PySem.W.KIN
abbrev bRq (n:Int):Str:=Str.ofString (toString n)
abbrev dg (m:Nat):List Nat:=(Nat.toDigits 10 m).map Char.toNat
theorem bPq (m:Nat):AllDigits (dg m):=by
  intro c hc
  obtain ⟨ch,hch,e⟩:=List.mem_map.mp hc
  rw [<- e]
  exact digit_range (Nat.isDigit_of_mem_toDigits (by decide) (by decide) hch)
theorem j9q (m:Nat):dg m≠[]:=by
  intro e
  have h:=toDigits_len_ge 10 m
  rw [List.map_eq_nil_iff.mp e] at h
  exact absurd h (by decide)
theorem qQq {m:Nat} (h:m < 10 ^ 12):(dg m).length<=12:=by
  rw [List.length_map];exact toDigits_len_pow (by decide) (by decide) h
theorem iJq (m:Nat):(bRq (m:Int)).cps.toList=dg m:=signs_num m
theorem iFq (m:Nat):(bRq (Int.negSucc m)).cps.toList=45::dg (m+1):=by
  rw [signs_ofString]
  show (("-"++Nat.repr (m+1)).toList.map Char.toNat)=_
  rw [String.toList_append,List.map_append,Nat.toList_repr]
  rfl
theorem jNq {n:Int} (h:n.natAbs < 10 ^ 12):PySem.intText? (bRq n)=some n/\(bRq n).length<=13:=by
  have hl:(bRq n).cps.toList.length=(bRq n).length:=Array.length_toList
  cases n with
  | ofNat m=>
    have e:=iJq m
    have l:=qQq h
    have hl:(bRq (m:Int)).cps.toList.length=(bRq (m:Int)).length:=Array.length_toList
    rw [e] at hl
    have le:(bRq (m:Int)).length<=12:=by rw [<- hl];exact l
    have z:=intText_digits (x:=bRq (m:Int)) (by rw [e];exact bPq m) (by rw [e];exact j9q m) (by omega)
    rw [e,val_back] at z
    exact ⟨z,by show (bRq (m:Int)).length<=13;omega⟩
  | negSucc m=>
    have e:=iFq m
    have l:=qQq (m:=m+1) h
    have le:(bRq (Int.negSucc m)).length<=13:=by rw [<- hl,e,List.length_cons];omega
    have z:=intText_neg (x:=bRq (Int.negSucc m)) e (bPq _) (j9q _) (by omega)
    rw [val_back] at z
    exact ⟨z,le⟩
theorem mWq (m:Nat) (h:0 < m):(dg m).head?≠some 48:=by
  induction m using Nat.strongRecOn with
  | _ m ih=>
    by_cases h1:m < 10
    . have key:∀ k < 10,0 < k->(dg k).head?≠some 48:=by decide +kernel
      exact key m h1 h
    . have hm:m % 10 < 10:=Nat.mod_lt m (by decide)
      have t:Nat.toDigits 10 (m / 10)++Nat.toDigits 10 (m % 10)=Nat.toDigits 10 (10 * (m / 10)+m % 10):=Nat.toDigits_append_toDigits (by decide) (by omega) hm
      rw [Nat.div_add_mod] at t
      have i:=ih (m / 10) (by omega) (by omega)
      have ne:=j9q (m / 10)
      show ((Nat.toDigits 10 m).map Char.toNat).head?≠_
      rw [<- t,List.map_append]
      cases e:dg (m / 10) with
      | nil=>exact absurd e ne
      | cons c r=>rw [show (Nat.toDigits 10 (m / 10)).map Char.toNat=c::r from e];rw [e] at i;simpa using i
theorem pWq:figs.cps.toList=[48,49,50,51,52,53,54,55,56,57]:=by decide +kernel
theorem jQq {z:Str} {m:Nat} (e:z.cps.toList=dg m):e1q z figs=true:=by
  unfold e1q
  rw [e,pWq,List.all_eq_true]
  intro c hc
  have:=bPq m c hc
  rw [decide_eq_true_iff]
  simp
  omega
theorem m1q (n:Int):(∀ c∈(bRq n).cps.toList,c=45\/48<=c/\c<=57)/\(bRq n).cps.toList≠[]:=by
  cases n with
  | ofNat m=>show (∀ c∈(bRq (m:Int)).cps.toList,_)/\(bRq (m:Int)).cps.toList≠[];rw [iJq];exact ⟨λ c hc=>.inr (bPq m c hc),j9q m⟩
  | negSucc m=>
    rw [iFq]
    refine ⟨λ c hc=>?_,by simp⟩
    rcases List.mem_cons.mp hc with rfl | hc
    . exact .inl rfl
    . exact .inr (bPq _ c hc)
def cat:List Str->List Nat
  | []=>[]
  | z::r=>z.cps.toList++cat r
theorem o2q:∀ x y:List Str,cat (x++y)=cat x++cat y
  | [],y=>rfl
  | z::x,y=>by rw [List.cons_append,cat,cat,o2q x y,List.append_assoc]
def ofL (l:List Nat):Str:=⟨l.toArray⟩
theorem u2q (l:List Nat):(ofL l).cps.toList=l:=rfl
theorem iDq {a b:Str} (h:a.cps.toList=b.cps.toList):a=b:=by
  obtain ⟨x⟩:=a;obtain ⟨y⟩:=b
  rw [show x=y from Array.toList_inj.mp h]
theorem gOq (a b:Str):(a++b).cps.toList=a.cps.toList++b.cps.toList:=PySem.W.KT.app_list a b
theorem oCq (ys:List Str):Txt.join "" ys=ofL (cat ys):=by
  rw [eq_of_beq (PyProof.Rows.join_plain_closes "" ys)]
  refine iDq ?_
  rw [u2q]
  have he:(("" : String):Str).cps.toList=[]:=by decide +kernel
  induction ys with
  | nil=>rfl
  | cons y ys ih=>
    cases ys with
    | nil=>simp [Str.join,cat]
    | cons z zs=>rw [show Str.join "" (y::z::zs)=y++""++Str.join "" (z::zs) from rfl,gOq,gOq,he,ih,List.append_nil];rfl
theorem qPq:((" " : String):Str).cps.toList=[32]:=by decide +kernel
inductive Ad:D->Prop
  | int (n:Int):Ad (.int n)
  | str (z:Str):Ad (.str z)
  | tup {ds:List D}:(∀ d∈ds,Ad d)->Ad (.tup ds)
theorem big {n:Nat} (h:n<=700000):n<=sizeLine:=by rw [sizeLine_eq];omega
theorem lFq:∀ ys:List Str,(ys.map (·.length)).sum=(cat ys).length
  | []=>rfl
  | y::ys=>by rw [List.map_cons,List.sum_cons,lFq ys,cat,List.length_append];rfl
theorem cBq (a b:Str):(a++b).length=a.length+b.length:=by
  show (a.cps++b.cps).size=_
  rw [Array.size_append];rfl
end L3
namespace L2
open PySem PySem.Spec PyProof.Rows
section
variable {X:Cx}
def rIsT (K:PySem.W.Frag):List V->Hp->VK->Prop:=λ xs H Q=>∃ x a,xs=[x,.ref a]/\SqT K H a [.ty "str", .ty "int"]/\((∃ n,x=.int n)\/∃ z,x=.str z)/\Q (.bl true) H
theorem nJq:CallR X (.builtin "isinstance") (rIsT X.K):=by
  intro pins s σ H xs us Q I r h
  obtain ⟨x,a,rfl,sq,hx,hQ⟩:=h
  obtain ⟨u,v,rfl,ru,rv⟩:=Vals.two r
  cases rv
  obtain ⟨its,vt,⟨⟨cls,dd,data,sl⟩,h1,h2,h3⟩,_⟩:=I.tuple sq
  obtain ⟨u1,u2,e,r1,r2⟩:=Vals.two vt
  simp only at h2 h3
  subst h2
  cases r1
  cases r2
  have e':its=[Value.type "str", Value.type "int"]:=e
  subst e'
  obtain ⟨n,rfl⟩:∃ n,data=.seq #[Value.type "str", Value.type "int"] n:=by
    first | exact ⟨_,h3⟩ | exact h3 | (obtain ⟨n,h3⟩:=h3;exact ⟨n,h3⟩)
  have k1:PySem.W.kitAny X.K (.type "int") [.type "str", .type "int"]=some true:=by
    unfold PySem.W.kitAny
    rw [L3.bKq (t:="int") (T:="str") (b:=false) rfl]
    unfold PySem.W.kitAny
    rw [L3.bKq (t:="int") (T:="int") (b:=true) rfl]
  have k2:PySem.W.kitAny X.K (.type "str") [.type "str", .type "int"]=some true:=by
    unfold PySem.W.kitAny
    rw [L3.bKq (t:="str") (T:="str") (b:=true) rfl]
  rcases hx with ⟨n,rfl⟩ | ⟨z,rfl⟩
  . obtain ⟨t,rfl⟩:=ru
    exact PySem.W.kia_tup (its:=[Value.type "str", Value.type "int"]) PySem.W.kitx_int I.kIn trivial h1 k1 (λ z=>nomatch z) λ tk=>⟨.bl true,H,I.tok tk,rfl,hQ⟩
  . obtain ⟨t,rfl⟩:=ru
    exact PySem.W.kia_tup (its:=[Value.type "str", Value.type "int"]) PySem.W.kitx_str I.kIn trivial h1 k2 (λ z=>nomatch z) λ tk=>⟨.bl true,H,I.tok tk,rfl,hQ⟩
end
end L2
namespace L3
open PySem PySem.Spec L2
section
variable {X:Cx}
def isSI:D->D->DV->DK->Prop:=λ x y G Q=>y=.tup [.ty "str", .ty "int"]/\match x with
  | .int _=>Q (.bl true) G
  | .str _=>Q (.bl true) G
  | _=>False
theorem kYq:ACall X (.builtin "isinstance") (yOq isSI):=by
  refine ⟨_,⟨nJq⟩,λ xs vs G H DQ Q v a r F=>?_⟩
  obtain ⟨x,y,u,w,rfl,rfl,ax,ay,r1⟩:=k3q r a
  clear r
  obtain ⟨rfl,r0⟩:=r1
  obtain ⟨l,ws,rfl,sq,rl⟩:=ay
  obtain ⟨v1,r3,rfl,a1,v2,r2,rfl,a2,e⟩:=rl
  cases a1;cases a2;cases e
  cases x with
  | int z=>cases ax;exact ⟨_,l,rfl,sq,.inl ⟨z,rfl⟩,F (.bl true) G _ H (.refl v) rfl r0⟩
  | str z=>cases ax;exact ⟨_,l,rfl,sq,.inr ⟨z,rfl⟩,F (.bl true) G _ H (.refl v) rfl r0⟩
  | _=>exact (show False from r0).elim
end
def cOq:List D->List D
  | []=>[]
  | d::ds=>.str " "::d::cOq ds
theorem cRq:∀ ds:List D,(cOq ds).length=2 * ds.length
  | []=>rfl
  | d::ds=>by rw [cOq,List.length_cons,List.length_cons,cRq ds,List.length_cons];omega
theorem h7q:∀ (xs:List D) (e:D),cOq (xs++[e])=cOq xs++[.str " ", e]
  | [],e=>rfl
  | d::xs,e=>by rw [List.cons_append,cOq,h7q xs e,cOq];rfl
def cKq (n:Nat):DSp:=λ ds G Q=>∃ d:D,ds=[d]/\Ad d/\d.dp < n/\Q (.bl true) G
end L3
namespace L2
open PySem PySem.Spec PyProof.Rows
section
variable {X:Cx}
def PET (X:Cx) (e:Expr) (t:TE):Prop:=
  ∀ (pins:List (Addr × Obj)) (s:Shared) (σ:St) (H:Hp) (Q:VK),Inv X pins σ H s->1<=s.toks->t σ H Q->wpAny (model X.prog X.w) X.A (eval e X.env) (λ u s'=>1<=s'.toks/\EP X pins σ Q u s') X.xe s
def PSsT (X:Cx) (st:List Stmt) (t:TS):Prop:=
  ∀ (pins:List (Addr × Obj)) (s:Shared) (σ:St) (H:Hp) (D:Ends),Inv X pins σ H s->1<=s.toks->t D σ H->wpAny (model X.prog X.w) X.A (execs st X.env) (SP X pins D) X.xe s
theorem wXq {e:Expr} {t:TE} (h:PE X e t):PET X e t:=λ pins s σ H Q I ht q=>
  wpAny_mono (wpAny_toks_of ht (h pins s σ H Q I q)) (λ _ _ z=>z) λ _ _ z=>z.2
def aB1q (a b:Str) (to:TE):TE:=λ σ H Q=>to σ H λ x H1=>∃ z:Str,x=.str z/\z.length+(z.length+1) * b.length<=1000000/\Q (.str (Txt.replace z a b)) H1
theorem pHq {o:Expr} {to:TE} {a b:Str} {k1 k2:Nat} {p1 p2 apos cpos:Pos} (ho:PET X o to) (hab:(a==b)=false) (hbase:attributeBase o "replace" X.env (eval o X.env)=eval o X.env:=by rfl) (hline:(apos.endLine==cpos.line)=true:=by rfl) :
    PET X (.Call (.Attribute o "replace" apos) [.Constant (.str a) k1 p1,.Constant (.str b) k2 p2] [] cpos) (aB1q a b to):=by
  intro pins s σ H Q I ht h
  refine wpAny_mono (wpAny_toks_of (Q:=EP X pins σ Q) (E:=X.xe) ht ?_) (λ _ _ z=>z) λ _ _ z=>z.2
  refine wpAny_Call_method_late hbase rfl hline rfl (thn (ho pins s σ H _ I ht h) λ v s1 ⟨ht1,x,H1,I1,r1,z,ez,hz,q1⟩=>?_)
  subst ez
  obtain ⟨h1,h2⟩:=mPq (T:="str") I1 r1 rfl
  obtain ⟨t,rfl⟩:=r1
  refine ⟨"str", "str.replace", PySem.F.plainAttrs_str,PySem.F.slot_str_replace,PySem.F.type_str_replace,h1,h2,?_⟩
  refine Calls.callWith_builtin rfl (Calls.evalArgs_plain ?_)
  refine Calls.spliced_cons (Calls.Constant_str (k:=k1) (pos:=p1) ?_)
  refine Calls.spliced_cons (Calls.Constant_str (k:=k2) (pos:=p2) ?_)
  refine Calls.spliced_nil ?_
  refine PySem.call_gives PySem.F.slot_str_replace (typeIs_str _ z t) PySem.F.entry_str_replace (PySem.F.args_str_replace_3 _ _ _) (gives_str_replace z a b t s1.toks (s1.toks+1) λ _=>⟨?_,?_,hab,?_⟩) ?_
  . rw [Bool.or_eq_false_iff]
    exact ⟨beq_eq_false_iff_ne.mpr (Nat.ne_of_gt ht1),beq_eq_false_iff_ne.mpr (Nat.succ_ne_zero _)⟩
  . exact beq_eq_false_iff_ne.mpr (Nat.ne_of_lt (Nat.lt_succ_self _))
  . unfold Builtin.Str.tooLong
    refine decide_eq_false ?_
    have h3:=StrLaws.occ_length_le z a 0 z.length (z.length+1)
    have h4:=Nat.mul_le_mul_right b.length h3
    rw [sizeLine_eq];omega
  . have e:Txt.replace z a b=if ((Builtin.Str.occurrences z a 0 z.length (z.length+1)).isEmpty||a.length==0&&b.length==0)=true then z else Builtin.Str.glued b (Builtin.Str.partsBetween z (Builtin.Str.occurrences z a 0 z.length (z.length+1)) a.length):=rfl
    rw [e] at q1
    split
    . next c=>rw [if_pos c] at q1;exact ⟨.str z,H1,I1.tok _,⟨_,rfl⟩,q1⟩
    . next c=>rw [if_neg c] at q1;exact ⟨fits_replaced a (by omega),.str _,H1,I1.tok _,⟨_,rfl⟩,q1⟩
theorem pYq {tg e:Expr} {te:TE} {g:TG} {rest:List Stmt} {u:TS} {pos:Pos} (he:PET X e te) (hg:PG X tg g) (hr:PSs X rest u) (hs:swapsWithSole [tg] e pos.line X.env=pure false:=by rfl) (hw:swappedStores [tg] e X.env=pure none:=by rfl)
    (h1:(assignEach [tg] X.env).map (·.2)=[assign tg X.env]:=by rfl):PSsT X (.Assign [tg] e pos::rest) (tSeq (vTq te g) u):=by
  intro pins s σ H D I ht h
  have key:wpAny (model X.prog X.w) X.A (exec (.Assign [tg] e pos) X.env) (SP X pins { D with nx:=u D }) X.xe s:=by
    refine wpAny_Assign_stores (thn (he pins s σ H _ I ht h) λ v s1 ⟨_,x,H1,I1,r1,q1⟩=>?_) hs hw
    rw [h1]
    exact thn (hg pins s1 σ H1 x v _ I1 r1 q1) λ _ s2 q=>q
  refine wpAny_execs_cons (thn key λ f s1 q=>?_)
  cases f with
  | next=>
    obtain ⟨σ',H',I',q⟩:=q
    exact hr pins s1 σ' H' D I' q
  | ret v=>exact q
  | brk=>exact q
  | cont=>exact q
theorem PSsT.nox {st:List Stmt} {t:TS} (h:PSsT X.nox st t):PSsT X st t:=λ pins s σ H D I ht hw=>
  wpAny_mono (h pins s σ H D (I.wish _) ht hw) (λ _ _ q=>q.unwish) λ _ _ z=>False.elim z
end
theorem kHq {M:Model} {A:Around} {E:Value->Shared->Prop} {s:Shared} {scope:Scope} {globals:Addr} {n:Str} {v:Value} {qual:Str} {func:Option Addr} {code:Value} {builtins:Addr} {Q:Env->Shared->Prop} (hk:scope.kind=.function) (hnc:∀ x∈scope.names,x.2≠.cell)
    (hcf:∀ k,cellsFrom k scope.names []=[]) (hl:scope.names.lookup n=some .local)
    (h:∀ env,env=newEnv scope s.heap.objs.size globals (cellsFrom (s.heap.objs.size+1) scope.names []) qual func code none builtins->∀ s',InCallC s env.locals (bindL env.kindOf [(n,v)] λ _=>none) env.cells (bindC env.kindOf [(n,v)] λ _=>none) s'->1<=s'.toks->Q env s') :
    wpAny M A (newFunctionEnv scope globals [] [(n,v)] qual func code none builtins) Q E s:=by
  refine wpAny_newFunctionEnv hnc (λ x hx=>by simp at hx;subst hx;exact hl) (λ h' hn hs=>?_) hk
  refine h _ (by rw [hcf]) _ ⟨⟨⟨h',_,rfl⟩,?_,λ b o e=>?_,Nat.le_refl _⟩,λ y c e=>?_,?_,λ y c e=>?_⟩ (by show 1<=s.toks+1;omega)
  . have e:(bindL (newEnv scope s.heap.objs.size globals [] qual func code none builtins).kindOf [(n,v)] λ _=>none)=λ x=>List.lookup x [(n,v)].reverse:=by
      have hk2:(newEnv scope s.heap.objs.size globals [] qual func code none builtins).kindOf n=some .local:=hl
      funext x
      by_cases c:x=n
      . subst c
        simp [bindL,hk2,List.lookup]
      . have c2:(x==n)=false:=beq_eq_false_iff_ne.mpr c
        simp [bindL,hk2,List.lookup,c,c2]
    show h'.Ns s.heap.objs.size _
    rw [e];exact hn
  . have hb:b≠s.heap.objs.size:=by
      rintro rfl
      exact Nat.lt_irrefl _ (Heap.lt_size e)
    rw [hs.2 b hb]
    exact Heap.get?_push_of_some _ e
  . cases e
  . exact List.Pairwise.nil
  . cases e
section
variable {P:Program} {w:World} {K:PySem.W.Frag} {mg:Str->Option Value} {base:Heap}
theorem Fun.okT {x qual p:Str} {st:Stmt} {f:Addr} {fd:FuncData} {N:List Str} {k:Nat} {sp:Sp} (F:Fun K x qual st f fd) (S:FnScope N [p] (a5q st)) (hnc:∀ x∈(a5q st).names,x.2≠.cell) (hcf:∀ k,cellsFrom k (a5q st).names []=[]) (hlo:(a5q st).names.lookup p=some .local)
    (len:∀ vs H Q E,sp vs H Q E->vs.length=[p].length)
    (hbody:∀ (cdv:Value) (A:Around) (outer:List Env) (s:Shared) (H:Hp) (vs:List V) (Q:VK) (E:XK),Room k (A.deeper (envOfC qual (a5q st) s.heap.objs.size f cdv))->sp vs H Q E →
      ∃ t,PSsT (kZq CX0 P w K mg base N qual (a5q st) f cdv A outer s H E).nox (b0q st) t/\t { nx:=λ _ H'=>Q .non H',rt:=Q } (c2q N vs) H):FnOk P w K mg base CX0 (k+1) f fd [p] sp:=by
  obtain ⟨oc,od,kV,doc,pm,an,cdv,ct,osl,rfl,lk,hcd⟩:=F.ex
  refine ⟨len,λ A outer s H args us vs Q E hr e0 hb r hsp=>?_⟩
  have hl:=len _ _ _ _ hsp
  have hul:us.length=1:=by rw [<- r.length,hl];rfl
  obtain ⟨u,rfl⟩:∃ u,us=[u]:=List.length_eq_one_iff.mp hul
  have KX:K.In s.heap:=e0.mod.kin.keeps λ b o e=>(e0.bs b o e).1
  have lim:s.heap.NoLimit:=e0.mod.nolimit.keeps λ b o e=>(e0.bs b o e).1
  refine codeAny_call_function hr.depth (KX _ _ lk) rfl S.co S.gen rfl (PySem.W.codeRec_of KX hcd) (hb _ _ _ _ ?_)
  refine kHq S.kind hnc hcf hlo λ env he s1 x ht=>?_
  subst he
  refine ⟨lim.keeps x.toInCall.keep,codeAny_func ?_⟩
  obtain ⟨t,ht2,hq⟩:=hbody cdv A outer s H vs Q E (hr.deeper _) hsp
  have I:Inv (kZq CX0 P w K mg base N qual (a5q st) f cdv A outer s H E) [] (c2q N vs) H s1:=hHq S hr.hd e0 hl r x
  refine wpAny_mono (ht2.nox [] s1 (c2q N vs) H _ I ht hq) (λ fl s' hs=>?_) λ e s' hs=>hs
  have fin:∀ {σ':St} {H':Hp} {v:V} {u:Value},Inv (kZq CX0 P w K mg base N qual (a5q st) f cdv A outer s H E) [] σ' H' s'->RelV v u->Q v H'->CE outer P w H s Q u s':=
    λ{σ' H' v u} J rv q=>⟨v,H',J.os,J.bare,J.base,J.hok,rv,q⟩
  cases fl with
  | ret u=>
    obtain ⟨v,σ',H',J,rv,q⟩:=hs
    exact fin J rv q
  | next=>
    obtain ⟨σ',H',J,q⟩:=hs
    exact fin (v:=V.non) (u:=Value.none) J rfl q
  | brk=>
    obtain ⟨_,_,_,q⟩:=hs
    exact False.elim q
  | cont=>
    obtain ⟨_,_,_,q⟩:=hs
    exact False.elim q
end
section
variable {X:Cx}
theorem i7q:∀ (ys:List Str) (n:Nat),Vals (ys.map V.str) (strsFrom n ys)
  | [],_=>.nil
  | y::ys,n=>.cons ⟨_,rfl⟩ (i7q ys _)
theorem qFq:MtR X "str.split" (λ x xs H Q=>∃ z y:Str,x=.str z/\xs=[.str y]/\(y.length==0)=false/\z.length<=1000000/\∀ p,H p=none->Q (.ref p) (upd H p (.lst ((Txt.split z y).map V.str)))):=by
  intro pins s σ H x xs v us Q I rx rv h
  obtain ⟨z,y,rfl,rfl,hy,hz,q⟩:=h
  obtain ⟨t,rfl⟩:=rx
  obtain ⟨u,rfl,ru⟩:=rv.one
  obtain ⟨t',rfl⟩:=ru
  have hf:H s.heap.objs.size=none:=I.hok.fresh (Nat.le_refl _)
  have hl:(Txt.split z y).length<=sizeLine:=by
    have:=(PyProof.Rows.fact_split z y).2
    rw [sizeLine_eq];omega
  have laid:∀ (its:List Value) (tk:Nat),Vals ((Txt.split z y).map V.str) its->EP X pins σ Q (.ref s.heap.objs.size) { s with heap:=s.heap.push { cls:=.type "list", data:=.seq its.toArray },toks:=tk }:=λ its tk hv=>by
    refine ⟨.ref s.heap.objs.size,_,I.laid (t':=tk) (λ b u e=>Heap.get?_push_of_some _ e) (Nat.le_refl _) (show ObjOk X.prog X.w _ _ _ (.lst ((Txt.split z y).map V.str)) from ⟨by rw [List.length_map];exact hl,its,0,hv,Heap.get?_push_size _ rfl⟩),rfl,q _ hf⟩
  have slot:=PySem.F.slot_str_split
  by_cases c1:(decide (z.length < y.length)||decide (Builtin.Str.strKind z < Builtin.Str.strKind y))=true
  . have e:Txt.split z y=[z]:=by unfold Txt.split;rw [if_pos c1]
    refine PySem.call_meets slot (typeIs_str _ z t) PySem.F.entry_str_split (PySem.F.args_str_split_2 _ _) (meets_str_split_cannot_occur z y t t' c1) ?_
    exact laid [.str z t] s.toks (by rw [e];exact .cons ⟨_,rfl⟩ .nil)
  . have c1':=Bool.eq_false_iff.mpr c1
    by_cases c2:(Builtin.Str.occurrences z y 0 z.length (z.length+1)).isEmpty=true
    . have e:Txt.split z y=[z]:=by unfold Txt.split;rw [if_neg c1,if_pos c2]
      refine PySem.call_meets slot (typeIs_str _ z t) PySem.F.entry_str_split (PySem.F.args_str_split_2 _ _) (meets_str_split_not_found z y t t' c1' hy c2) ?_
      exact laid [.str z t] s.toks (by rw [e];exact .cons ⟨_,rfl⟩ .nil)
    . have e:Txt.split z y=Builtin.Str.partsBetween z (Builtin.Str.occurrences z y 0 z.length (z.length+1)) y.length:=by unfold Txt.split;rw [if_neg c1,if_neg c2]
      rw [e] at hl
      refine PySem.call_meets slot (typeIs_str _ z t) PySem.F.entry_str_split (PySem.F.args_str_split_2 _ _) (meets_str_split_sep z y t t' c1' hy (Bool.eq_false_iff.mpr c2) (by rw [sizeLine_eq];omega) hl) ?_
      refine laid _ _ ?_
      rw [e];exact i7q _ _
end
end L2
namespace L3
open PySem PySem.Spec PyProof.Rows L2
section
variable {X:Cx}
structure AET (X:Cx) (e:Expr) (t:DTE):Prop where
  run:∃ tc:TE,PET X e tc/\∀ ρ G DQ σ H Q,Bears X.K ρ G σ H->t ρ G DQ->Fin X.K G H DQ Q->tc σ H Q
structure ABT (X:Cx) (st:List Stmt) (t:DTS):Prop where
  run:∃ tc:TS,PSsT X st tc/\∀ DD Dc ρ G σ H,Bears X.K ρ G σ H->t DD ρ G->EndsOk X.K G H DD Dc->tc Dc σ H
theorem uTq {e:Expr} {t:DTE} (h:AE X e t):AET X e t:=by
  obtain ⟨c,j,r⟩:=h.run
  exact ⟨c,wXq j.run,r⟩
abbrev aB6q (a b:Str) (to:DTE):DTE:=λ ρ G Q=>to ρ G λ x G1=>match x with
  | .str z=>z.length+(z.length+1) * b.length<=1000000/\Q (.str (Txt.replace z a b)) G1
  | _=>False
theorem g1q {o:Expr} {to:DTE} {a b:Str} {k1 k2:Nat} {p1 p2 apos cpos:Pos} (ho:AET X o to) (hab:(a==b)=false:=by decide) (hbase:attributeBase o "replace" X.env (eval o X.env)=eval o X.env:=by rfl) (hline:(apos.endLine==cpos.line)=true:=by rfl) :
    AET X (.Call (.Attribute o "replace" apos) [.Constant (.str a) k1 p1,.Constant (.str b) k2 p2] [] cpos) (aB6q a b to):=by
  obtain ⟨c,j,r⟩:=ho.run
  refine ⟨_,pHq j hab hbase hline,λ ρ G DQ σ H Q B q F=>r ρ G _ σ H _ B q λ x G1 v H1 g1 ax q1=>?_⟩
  cases x with
  | str z=>
    cases (show v=.str z from ax)
    exact ⟨z,rfl,q1.1,F (.str (Txt.replace z a b)) _ _ _ g1 rfl q1.2⟩
  | _=>exact (show False from q1).elim
theorem tIq {tg e:Expr} {te:DTE} {g:DTG} {rest:List Stmt} {u:DTS} {pos:Pos} (he:AET X e te) (hg:AG X tg g) (hr:AB X rest u) (hs:swapsWithSole [tg] e pos.line X.env=pure false:=by rfl) (hw:swappedStores [tg] e X.env=pure none:=by rfl)
    (h1:(assignEach [tg] X.env).map (·.2)=[assign tg X.env]:=by rfl):ABT X (.Assign [tg] e pos::rest) (dSeq (yYq te g) u):=by
  obtain ⟨c1,j1,r1⟩:=he.run
  obtain ⟨c2,j2,r2⟩:=hg.run
  obtain ⟨c3,j3,r3⟩:=hr.run
  exact ⟨_,pYq j1 j2.run j3.run hs hw h1,λ DD Dc ρ G σ H B q F=>r1 ρ G _ σ H _ B q λ d G1 v H1 g1 a q1=>r2 d v ρ G1 _ σ H1 _ (B.go g1) a q1 λ ρ' G' σ' H' g' b q'=>r3 DD Dc ρ' G' σ' H' b q' (F.after (g1.trans g'))⟩
def vBq:D->List D->DV->DK->Prop:=λ x xs G Q=>match x,xs with
  | .str z,[.str y]=>(y.length==0)=false/\z.length<=1000000/\∀ p,G p=none->Q (.ref p) (up G p (.lst ((Txt.split z y).map D.str)))
  | _,_=>False
theorem lXq:AMt X "str" "str.split" lJq vBq:=by
  refine ⟨_,⟨qFq⟩,λ x v G H _ ax h=>dJq ax h,λ x xs vx vs G H DQ Q v ax al r F=>?_⟩
  cases x with
  | str z=>
    cases ax
    rcases xs with _ | ⟨y,_ | ⟨_,_⟩⟩
    . exact (show False from r).elim
    . cases y with
      | str y=>
        obtain ⟨u,r',e,a,l⟩:=al
        subst e
        cases a
        cases (show r'=[] from l)
        obtain ⟨r1,r2,r3⟩:=r
        exact ⟨z,y,rfl,rfl,r1,r2,λ p hp=>F (.ref p) _ _ _ (Go.newL v hp (h4q _)) rfl (r3 p (v.none hp))⟩
      | _=>exact (show False from r).elim
    . exact (show False from by cases y<;>exact r).elim
  | _=>exact (show False from r).elim
end
theorem okDT {P:Program} {w:World} {K:PySem.W.Frag} {mg:Str->Option Value} {base:Heap} {x qual p:Str} {st:Stmt} {f:Addr} {fd:FuncData} {N:List Str} {k:Nat} {dsp:DSp} (F:Fun K x qual st f fd) (S:FnScope N [p] (a5q st)) (hnc:∀ x∈(a5q st).names,x.2≠.cell) (hcf:∀ k,cellsFrom k (a5q st).names []=[]) (hlo:(a5q st).names.lookup p=some .local)
    (len:∀ ds G DQ,dsp ds G DQ->ds.length=[p].length)
    (hbody:∀ (cdv:Value) (A:Around) (outer:List Env) (s:Shared) (H:Hp) (E:XK),Room k (A.deeper (PyProof.Rows.envOfC qual (a5q st) s.heap.objs.size f cdv))->∀ (ds:List D) (G:DV) (DQ:DK),dsp ds G DQ →
      ∃ t,ABT (kZq CX0 P w K mg base N qual (a5q st) f cdv A outer s H E).nox (b0q st) t/\t { nx:=λ _ G'=>Dr DQ .non G',rt:=Dr DQ } (eUq N ds) G):FnOk P w K mg base CX0 (k+1) f fd [p] (aMq K dsp):=by
  refine F.okT S hnc hcf hlo (λ vs H Q E h=>?_) (λ cdv A outer s H vs Q E hr h=>?_)
  . obtain ⟨ds,G,DQ,r,_,h,_⟩:=h
    rw [r.len];exact len ds G DQ h
  . obtain ⟨ds,G,DQ,r,v,h,Fn⟩:=h
    obtain ⟨t,⟨tc,j,imp⟩,q⟩:=hbody cdv A outer s H E hr ds G DQ h
    refine ⟨tc,j,imp _ _ (eUq N ds) G (L2.c2q N vs) H (dXq r v) q ⟨λ ρ' G' σ' H' g b ⟨G2,s2,q2⟩=>Fn .non G2 .non H' (g.sub s2) rfl q2,λ d G' v H' g a ⟨G2,s2,q2⟩=>Fn d G2 v H' (g.sub s2) a q2,λ _ _ _ _ _ _ z=>z.elim,λ _ _ _ _ _ _ z=>z.elim⟩⟩
end L3
namespace L3
open PySem PySem.Spec PyProof.Rows L2
def spl (c:Nat):List Nat->List Nat->List (List Nat)
  | cur,[]=>[cur]
  | cur,x::l=>if x=c then cur::spl c [] l else spl c (cur++[x]) l
def rep (c:Nat) (r:List Nat) (l:List Nat):List Nat:=l.flatMap λ x=>if x=c then r else [x]
def jn (r:List Nat):List (List Nat)->List Nat
  | []=>[]
  | [p]=>p
  | p::q::ps=>p++(r++jn r (q::ps))
theorem r4q (c:Nat):∀ l cur,spl c cur l≠[]
  | [],_=>by simp [spl]
  | x::l,cur=>by
    rw [spl];split
    . simp
    . exact r4q c l _
theorem rYq (r p:List Nat) {ps:List (List Nat)} (h:ps≠[]):jn r (p::ps)=p++(r++jn r ps):=by
  cases ps with
  | nil=>exact absurd rfl h
  | cons q ps=>rfl
theorem l4q (c:Nat) (r:List Nat):∀ l cur,jn r (spl c cur l)=cur++rep c r l
  | [],cur=>by simp [spl,jn,rep]
  | x::l,cur=>by
    rw [spl]
    split
    . next h=>rw [rYq _ _ (r4q c l _),l4q c r l []];simp [rep,h]
    . next h=>rw [l4q c r l];simp [rep,h]
theorem k1q (c:Nat):∀ (p cur:List Nat),c ∉ p->∀ l,spl c cur (p++c::l)=(cur++p)::spl c [] l
  | [],cur,_,l=>by rw [List.nil_append,spl,if_pos rfl,List.append_nil]
  | x::p,cur,h,l=>by
    have hx:x≠c:=λ e=>h (by simp [e])
    rw [List.cons_append,spl,if_neg hx,k1q c p _ (λ e=>h (List.mem_cons_of_mem _ e)) l]
    simp
theorem lGq (c:Nat):∀ (p cur:List Nat),c ∉ p->spl c cur p=[cur++p]
  | [],cur,_=>by simp [spl]
  | x::p,cur,h=>by
    have hx:x≠c:=λ e=>h (by simp [e])
    rw [spl,if_neg hx,lGq c p _ (λ e=>h (List.mem_cons_of_mem _ e))]
    simp
theorem qTq (c:Nat):∀ {ps:List (List Nat)},ps≠[]->(∀ p∈ps,c ∉ p)->spl c [] (jn [c] ps)=ps
  | [],h,_=>absurd rfl h
  | [p],_,h=>by rw [jn,lGq c p [] (h p (by simp))];rfl
  | p::q::ps,_,h=>by
    have:=qTq c (ps:=q::ps) (by simp) λ z hz=>h z (List.mem_cons_of_mem _ hz)
    rw [jn]
    show spl c [] (p++c::jn [c] (q::ps))=_
    rw [k1q c p [] (h p (by simp)),this];rfl
theorem iNq (y:Str):∀ ps:List Str,(y.join ps).cps.toList=jn y.cps.toList (ps.map λ p=>p.cps.toList)
  | []=>rfl
  | [p]=>rfl
  | p::q::ps=>by
    have ih:=iNq y (q::ps)
    show (p++y++y.join (q::ps)).cps.toList=_
    rw [PySem.W.KT.app_list,PySem.W.KT.app_list,ih]
    simp [jn]
theorem hUq (x:Str) (c:Nat):(Txt.split x ⟨#[c]⟩).map (λ p=>p.cps.toList)=spl c [] x.cps.toList:=by
  have h1:=StrLaws.join_split x ⟨#[c]⟩
  have h2:=iNq ⟨#[c]⟩ (Txt.split x ⟨#[c]⟩)
  rw [h1] at h2
  rw [h2]
  refine (qTq c (λ e=>?_) λ p hp=>?_).symm
  . have:=(fact_split x ⟨#[c]⟩).1
    rw [List.map_eq_nil_iff] at e
    rw [e] at this;simp at this
  . obtain ⟨q,hq,rfl⟩:=List.mem_map.mp hp
    exact StrLaws.split_free x c q hq
theorem dNq (x z:Str) (c:Nat):(Txt.replace x ⟨#[c]⟩ z).cps.toList=rep c z.cps.toList x.cps.toList:=by
  rw [StrLaws.replace_one,iNq,hUq,l4q];rfl
def wds:List Nat->List Nat->List (List Nat)
  | cur,[]=>if cur=[] then [] else [cur]
  | cur,c::l=>if c=40\/c=41 then (if cur=[] then [] else [cur])++[c]::wds [] l else if c=32\/c=10 then (if cur=[] then [] else [cur])++wds [] l else wds (cur++[c]) l
def sp3 (l:List Nat):List Nat:=rep 10 [32] (rep 41 [32,41,32] (rep 40 [32,40,32] l))
theorem dKq (c:Nat) (r:List Nat) (x:Nat) (l:List Nat):rep c r (x::l)=(if x=c then r else [x])++rep c r l:=rfl
theorem pLq (x:Nat) (l:List Nat):sp3 (x::l)=(if x=40 then [32,40,32] else if x=41 then [32,41,32] else if x=10 then [32] else [x])++sp3 l:=by
  unfold sp3
  rw [dKq]
  by_cases h1:x=40
  . subst h1;rfl
  . rw [if_neg h1,if_neg h1,List.singleton_append,dKq]
    by_cases h2:x=41
    . subst h2;rfl
    . rw [if_neg h2,if_neg h2,List.singleton_append,dKq]
theorem d1q:∀ l cur,(spl 32 cur (sp3 l)).filter (λ w=>!w.isEmpty)=wds cur l
  | [],cur=>by
    show (spl 32 cur []).filter _=_
    rw [spl,wds]
    cases cur<;>simp
  | x::l,cur=>by
    have hc:∀ (t:List (List Nat)),(cur::t).filter (λ w=>!w.isEmpty)=(if cur=[] then [] else [cur])++t.filter (λ w=>!w.isEmpty):=λ t=>by cases cur<;>simp
    rw [pLq,wds]
    by_cases h1:x=40
    . subst h1
      have:=d1q l []
      simp [spl,hc,this]
    . by_cases h2:x=41
      . subst h2
        have:=d1q l []
        simp [spl,hc,this]
      . by_cases h3:x=10
        . subst h3
          have:=d1q l []
          simp [spl,hc,this]
        . by_cases h4:x=32
          . subst h4
            have:=d1q l []
            simp [spl,hc,this]
          . have:=d1q l (cur++[x])
            simp [spl,h1,h2,h3,h4,this]
def Wd (w:List Nat):Prop:=w=[40]\/w=[41]\/(w≠[]/\∀ c∈w,c≠40/\c≠41/\c≠32/\c≠10)
def Brk (w:List Nat):Prop:=w=[40]\/w=[41]
def Bls (g:List Nat):Prop:=∀ c∈g,c=32\/c=10
def Hd4 (r:List Nat):Prop:=r=[]\/∃ c t,r=c::t/\(c=40\/c=41\/c=32\/c=10)
theorem nAq:∀ {g:List Nat} (r:List Nat),Bls g->wds [] (g++r)=wds [] r
  | [],r,_=>rfl
  | c::g,r,h=>by
    have hc:=h c (by simp)
    rw [List.cons_append,wds,if_neg (by omega),if_pos (by omega)]
    simpa using nAq r λ d hd=>h d (List.mem_cons_of_mem _ hd)
theorem mOq:∀ (w cur r:List Nat),(∀ c∈w,c≠40/\c≠41/\c≠32/\c≠10)->wds cur (w++r)=wds (cur++w) r
  | [],cur,r,_=>by simp
  | c::w,cur,r,h=>by
    have hc:=h c (by simp)
    rw [List.cons_append,wds,if_neg (by omega),if_neg (by omega),mOq w _ r λ d hd=>h d (List.mem_cons_of_mem _ hd)]
    simp
theorem y2q {w r:List Nat} (hw:w≠[]) (hr:Hd4 r):wds w r=w::wds [] r:=by
  rcases hr with rfl | ⟨c,t,rfl,hc⟩
  . simp [wds,hw]
  . rw [wds,wds]
    by_cases h1:c=40\/c=41
    . rw [if_pos h1,if_pos h1,if_neg hw];simp
    . have h2:c=32\/c=10:=by omega
      rw [if_neg h1,if_neg h1,if_pos h2,if_pos h2,if_neg hw];simp
theorem c8q {w r:List Nat} (h:Wd w) (hr:Hd4 r\/Brk w):wds [] (w++r)=w::wds [] r:=by
  rcases h with rfl | rfl | ⟨h1,h2⟩
  . rfl
  . rfl
  . rw [mOq w [] r h2,List.nil_append]
    refine y2q h1 ?_
    rcases hr with hr | hr | hr
    . exact hr
    . subst hr;have:=h2 40 (by simp);omega
    . subst hr;have:=h2 41 (by simp);omega
def wS (w:List Nat):Str:=⟨w.toArray⟩
def wD (w:List Nat):D:=.str (wS w)
theorem vCq (w:List Nat):(wS w).length=w.length:=by simp [wS,Str.length]
def gRq:DSp:=λ ds G Q=>∃ z:Str,ds=[.str z]/\z.length<=20000/\∀ l,G l=none->Q (.ref l) (up G l (.lst ((wds [] z.cps.toList).map wD)))
theorem nBq {c:Nat} {r:List Nat} (hr:r.length<=3):∀ l:List Nat,(rep c r l).length<=3 * l.length
  | []=>by simp [rep]
  | x::l=>by
    have:=nBq (c:=c) hr l
    rw [dKq,List.length_append,List.length_cons]
    split
    . omega
    . simp;omega
theorem s40:(("(" : String):Str)=⟨#[40]⟩:=by decide +kernel
theorem s41:((")" : String):Str)=⟨#[41]⟩:=by decide +kernel
theorem s10:(("\n" : String):Str)=⟨#[10]⟩:=by decide +kernel
theorem s32:((" " : String):Str)=⟨#[32]⟩:=by decide +kernel
theorem s340:((" ( " : String):Str)=⟨#[32,40,32]⟩:=by decide +kernel
theorem s341:((" ) " : String):Str)=⟨#[32,41,32]⟩:=by decide +kernel
theorem rep3 (z:Str):(Txt.replace (Txt.replace (Txt.replace z "(" " ( ") ")" " ) ") "\n" " ").cps.toList=sp3 z.cps.toList:=by
  rw [s40,s340,s41,s341,s10,s32,dNq,dNq,dNq];rfl
theorem l2q (z y:Str) (c:Nat) (hy:y.length<=3):(Txt.replace z ⟨#[c]⟩ y).length<=3 * z.length:=by
  have e:∀ x:Str,x.cps.toList.length=x.length:=λ x=>Array.length_toList
  rw [<- e,dNq,<- e z]
  exact nBq (by rw [e];exact hy) _
theorem pGq {x:Str} {l:List Nat} (h:x.cps.toList=sp3 l):(Txt.split x " ").filterMap (λ s:Str=>if s=="" then none else some (D.str s))=(wds [] l).map wD:=by
  have e:Txt.split x " " = (spl 32 [] (sp3 l)).map wS:=by
    rw [s32,<- h,<- hUq,List.map_map]
    exact (List.map_id _).symm
  rw [e,<- d1q]
  induction spl 32 [] (sp3 l) with
  | nil=>rfl
  | cons p ps ih=>
    rw [List.map_cons,List.filterMap_cons,ih]
    cases p with
    | nil=>rfl
    | cons c p=>
      have:(wS (c::p)==("" : Str))=false:=by
        rw [beq_eq_false_iff_ne]
        intro e
        have:=congrArg Str.length e
        have h0:(("" : String):Str).length=0:=by decide
        rw [vCq,h0] at this
        simp at this
      rw [this];rfl
end L3
set_option Elab.async false
set_option linter.all false
set_option maxRecDepth 100000
namespace L3
open PySem L2
abbrev cL (z:Str):List Nat:=z.cps.toList
def nmL (n:Nat):List Nat:=cL (a8q n)
def Tm.cl:Nat->Tm->Prop
  | w,.name n=>n < w
  | _,.whole k=>k.natAbs < 10 ^ 9
  | w,.way t=>t.cl (w+1)
  | w,.give t u=>t.cl w/\u.cl w
  | w,.pair t u=>t.cl w/\u.cl w
  | w,.first t=>t.cl w
  | w,.second t=>t.cl w
  | w,.plus t u=>t.cl w/\u.cl w
  | w,.look t u v=>t.cl w/\u.cl w/\v.cl w
def cIq:List (List Nat)->List Nat
  | []=>[41]
  | x::r=>32::(x++cIq r)
def Tm.tl:Nat->Tm->List Nat
  | _,.whole k=>cL (bRq k)
  | w,.name n=>nmL (w - 1 - n)
  | w,.way t=>cL "(way"++cIq [nmL w,t.tl (w+1)]
  | w,.give t u=>cL "(give"++cIq [t.tl w,u.tl w]
  | w,.pair t u=>cL "(pair"++cIq [t.tl w,u.tl w]
  | w,.first t=>cL "(first"++cIq [t.tl w]
  | w,.second t=>cL "(second"++cIq [t.tl w]
  | w,.plus t u=>cL "(plus"++cIq [t.tl w,u.tl w]
  | w,.look t u v=>cL "(look"++cIq [t.tl w,u.tl w,v.tl w]
def Tm.tk:Nat->Tm->List (List Nat)
  | _,.whole k=>[cL (bRq k)]
  | w,.name n=>[nmL (w - 1 - n)]
  | w,.way t=>[40]::cL "way"::nmL w::(t.tk (w+1)++[[41]])
  | w,.give t u=>[40]::cL "give"::(t.tk w++(u.tk w++[[41]]))
  | w,.pair t u=>[40]::cL "pair"::(t.tk w++(u.tk w++[[41]]))
  | w,.first t=>[40]::cL "first"::(t.tk w++[[41]])
  | w,.second t=>[40]::cL "second"::(t.tk w++[[41]])
  | w,.plus t u=>[40]::cL "plus"::(t.tk w++(u.tk w++[[41]]))
  | w,.look t u v=>[40]::cL "look"::(t.tk w++(u.tk w++(v.tk w++[[41]])))
theorem rNq (xs:List (List Nat)) (r:List Nat):Hd4 (cIq xs++r):=by cases xs<;>simp [cIq,Hd4]
theorem vKq {n:Nat} (h:n < 100):Wd (nmL n):=by
  refine .inr (.inr ?_)
  revert n
  decide +kernel
theorem v8q (k:Int):Wd (cL (bRq k)):=by
  refine .inr (.inr ⟨(m1q k).2,λ c hc=>?_⟩)
  have:=(m1q k).1 c hc
  omega
theorem aC2q:∀ z∈words7,Wd (cL z):=by
  intro z hz
  refine .inr (.inr ?_)
  revert z
  decide +kernel
theorem bEq {x:List Nat} {ks:List (List Nat)} (hx:∀ r,Hd4 r->wds [] (x++r)=ks++wds [] r) (xs:List (List Nat)) (r:List Nat):wds [] (cIq (x::xs)++r)=ks++wds [] (cIq xs++r):=by
  rw [cIq,List.cons_append,List.append_assoc]
  have z:=nAq (g:=[32]) (x++(cIq xs++r)) (by simp [Bls])
  rw [List.singleton_append] at z
  rw [z,hx _ (rNq xs r)]
theorem cCq (r:List Nat):wds [] (cIq []++r)=[41]::wds [] r:=c8q (w:=[41]) (.inr (.inl rfl)) (.inr (by simp [Brk]))
theorem bYq {z y:Str} (e:cL y=40::cL z) (hz:z∈words7) (xs:List (List Nat)) (r:List Nat):wds [] (cL y++(cIq xs++r))=[40]::cL z::wds [] (cIq xs++r):=by
  rw [e,show (40::cL z)++(cIq xs++r)=[40]++(cL z++(cIq xs++r)) from rfl,c8q (w:=[40]) (.inl rfl) (.inr (by simp [Brk])),c8q (aC2q z hz) (.inl (rNq xs r))]
theorem yIq:∀ (t:Tm) (w:Nat),t.cl w->w+t.dp < 100->∀ r,Hd4 r->wds [] (t.tl w++r)=t.tk w++wds [] r:=by
  intro t
  induction t with
  | name n=>intro w hc hd r hr;rw [Tm.tl,c8q (vKq (by simp only [Tm.dp] at hd;omega)) (.inl hr)];rfl
  | whole k=>intro w hc hd r hr;rw [Tm.tl,c8q (v8q k) (.inl hr)];rfl
  | way t ih=>
    intro w hc hd r hr
    simp only [Tm.dp] at hd
    rw [Tm.tl,List.append_assoc,bYq (z:="way") (by decide +kernel) (by decide +kernel),bEq (ks:=[nmL w]) (λ r hr=>by rw [c8q (vKq (by omega)) (.inl hr)];rfl),bEq (λ r hr=>ih (w+1) hc (by omega) r hr),cCq]
    simp [Tm.tk]
  | first t ih=>
    intro w hc hd r hr
    simp only [Tm.dp] at hd
    rw [Tm.tl,List.append_assoc,bYq (z:="first") (by decide +kernel) (by decide +kernel),bEq (λ r hr=>ih w hc (by omega) r hr),cCq]
    simp [Tm.tk]
  | second t ih=>
    intro w hc hd r hr
    simp only [Tm.dp] at hd
    rw [Tm.tl,List.append_assoc,bYq (z:="second") (by decide +kernel) (by decide +kernel),bEq (λ r hr=>ih w hc (by omega) r hr),cCq]
    simp [Tm.tk]
  | give t u i1 i2=>
    intro w hc hd r hr
    simp only [Tm.dp] at hd
    rw [Tm.tl,List.append_assoc,bYq (z:="give") (by decide +kernel) (by decide +kernel),bEq (λ r hr=>i1 w hc.1 (by omega) r hr),bEq (λ r hr=>i2 w hc.2 (by omega) r hr),cCq]
    simp [Tm.tk]
  | pair t u i1 i2=>
    intro w hc hd r hr
    simp only [Tm.dp] at hd
    rw [Tm.tl,List.append_assoc,bYq (z:="pair") (by decide +kernel) (by decide +kernel),bEq (λ r hr=>i1 w hc.1 (by omega) r hr),bEq (λ r hr=>i2 w hc.2 (by omega) r hr),cCq]
    simp [Tm.tk]
  | plus t u i1 i2=>
    intro w hc hd r hr
    simp only [Tm.dp] at hd
    rw [Tm.tl,List.append_assoc,bYq (z:="plus") (by decide +kernel) (by decide +kernel),bEq (λ r hr=>i1 w hc.1 (by omega) r hr),bEq (λ r hr=>i2 w hc.2 (by omega) r hr),cCq]
    simp [Tm.tk]
  | look t u v i1 i2 i3=>
    intro w hc hd r hr
    simp only [Tm.dp] at hd
    rw [Tm.tl,List.append_assoc,bYq (z:="look") (by decide +kernel) (by decide +kernel),bEq (λ r hr=>i1 w hc.1 (by omega) r hr),bEq (λ r hr=>i2 w hc.2.1 (by omega) r hr),bEq (λ r hr=>i3 w hc.2.2 (by omega) r hr),cCq]
    simp [Tm.tk]
structure FitC (p:Tm) (w:Nat) (z d:Int):Prop where
  cl:p.cl w
  sz:(p.sz:Int)<=z
  dp:(p.dp:Int)<=d
def fVq:DSp:=λ ds G Q=>∃ a,ds=[.ref a]/\Fd G a/\∀ n G',Fx a G G'->n.natAbs < 10 ^ 9->Q (Tm.enc (.whole n)) G'
def gHq:DSp:=λ ds G Q=>∃ (a:Addr) (w:Nat),ds=[.ref a,.int w]/\Fd G a/\w < 2 ^ 32/\∀ p G',Fx a G G'->FitC p w 1 0->Q p.enc G'
def fFq (n:Nat):DSp:=λ ds G Q=>∃ (a:Addr) (w:Nat) (room deep:Int),ds=[.ref a,.int w,.int room,.int deep]/\Fd G a/\(w:Int)+deep < 2 ^ 31/\room < 1000/\0<=deep/\deep < n/\∀ p G',Fx a G G'->FitC p w (max room 1) deep->Q p.enc G'
def n1q:DSp:=λ ds G Q=>∃ a,ds=[.ref a]/\Fd G a/\∀ p G',Fx a G G'->FitC p 0 61 30->Q p.enc G'
def n6q (w:Nat):List D:=(List.range w).reverse.map λ j=>D.str (a8q j)
def dPq:DSp:=λ ds G Q=>∃ n:Nat,ds=[.int n]/\n < 100/\Q (.str (a8q n)) G
def ePq (n:Nat):DSp:=λ ds G Q=>∃ (t:Tm) (l:Addr) (w:Nat),ds=[t.enc,.ref l]/\G l=some (.lst (n6q w))/\t.cl w/\t.dp < n/\w+t.dp < 100/\t.sz<=200/\Q (.str (ofL (t.tl w))) G
theorem i1q:∀ (t:Tm) (w:Nat),t.cl w->w+t.dp < 100->(t.tl w).length<=20 * t.sz:=by
  have hn:∀ n < 100,(nmL n).length<=2:=by decide +kernel
  have k1:(cL "(way").length=4/\(cL "(give").length=5/\(cL "(pair").length=5/\(cL "(first").length=6/\(cL "(second").length=7/\(cL "(plus").length=5/\(cL "(look").length=5:=by decide +kernel
  obtain ⟨k1,k2,k3,k4,k5,k6,k7⟩:=k1
  intro t
  induction t with
  | name n=>intro w hc hd;have:=hn (w - 1 - n) (by omega);simp only [Tm.tl,Tm.sz];omega
  | whole k=>
    intro w hc hd
    have:=(jNq (n:=k) (Nat.lt_of_lt_of_le hc (by decide))).2
    have e:(cL (bRq k)).length=(bRq k).length:=Array.length_toList
    simp only [Tm.tl,Tm.sz];omega
  | way t ih=>intro w hc hd;simp only [Tm.dp] at hd;have:=ih (w+1) hc (by omega);have:=hn w (by omega);simp only [Tm.tl,Tm.sz,cIq,List.length_append,List.length_cons,List.length_nil];omega
  | first t ih=>intro w hc hd;simp only [Tm.dp] at hd;have:=ih w hc (by omega);simp only [Tm.tl,Tm.sz,cIq,List.length_append,List.length_cons,List.length_nil];omega
  | second t ih=>intro w hc hd;simp only [Tm.dp] at hd;have:=ih w hc (by omega);simp only [Tm.tl,Tm.sz,cIq,List.length_append,List.length_cons,List.length_nil];omega
  | give t u i1 i2=>intro w hc hd;simp only [Tm.dp] at hd;have:=i1 w hc.1 (by omega);have:=i2 w hc.2 (by omega);simp only [Tm.tl,Tm.sz,cIq,List.length_append,List.length_cons,List.length_nil];omega
  | pair t u i1 i2=>intro w hc hd;simp only [Tm.dp] at hd;have:=i1 w hc.1 (by omega);have:=i2 w hc.2 (by omega);simp only [Tm.tl,Tm.sz,cIq,List.length_append,List.length_cons,List.length_nil];omega
  | plus t u i1 i2=>intro w hc hd;simp only [Tm.dp] at hd;have:=i1 w hc.1 (by omega);have:=i2 w hc.2 (by omega);simp only [Tm.tl,Tm.sz,cIq,List.length_append,List.length_cons,List.length_nil];omega
  | look t u v i1 i2 i3=>intro w hc hd;simp only [Tm.dp] at hd;have:=i1 w hc.1 (by omega);have:=i2 w hc.2.1 (by omega);have:=i3 w hc.2.2 (by omega);simp only [Tm.tl,Tm.sz,cIq,List.length_append,List.length_cons,List.length_nil];omega
theorem jIq:∀ k:Nat,k < 26->atI letters.cps.toList (k:Int)=some (97+k):=λ k h=>cDq (qVq k h)
def dFq:Nat->Tm->Tm
  | 0,t=>t
  | n+1,t=>.way (dFq n t)
theorem hXq (t:Tm):∀ n:Nat,(dFq n t).sz=n+t.sz/\(dFq n t).dp=n+t.dp/\∀ w,t.cl (n+w)->(dFq n t).cl w
  | 0=>⟨by simp [dFq],by simp [dFq],λ w h=>by simpa [dFq] using h⟩
  | n+1=>by
    obtain ⟨h1,h2,h3⟩:=hXq t n
    exact ⟨by simp only [dFq,Tm.sz];omega,by simp only [dFq,Tm.dp];omega,λ w h=>h3 (w+1) (by rwa [show n+(w+1)=n+1+w by omega])⟩
theorem k6q (w:Nat):(n6q w).length=w:=by simp [n6q]
theorem e6q (w:Nat):n6q (w+1)=.str (a8q w)::n6q w:=by simp [n6q,List.range_succ]
theorem qRq:∀ {w k:Nat},k < w->atI (n6q w) (k:Int)=some (.str (a8q (w - 1 - k)))
  | w+1,0,_=>by rw [e6q];exact cDq rfl
  | w+1,k+1,h=>by
    refine cDq ?_
    rw [e6q,List.getElem?_cons_succ]
    have z:=qRq (w:=w) (k:=k) (by omega)
    have e:atI (n6q w) (k:Int)=(n6q w)[k]?:=by
      have hl:k < (n6q w).length:=by rw [k6q];omega
      rw [List.getElem?_eq_getElem hl];exact cDq (List.getElem?_eq_getElem hl)
    rw [e] at z
    rw [z,show w - 1 - k=w+1 - 1 - (k+1) by omega]
def hSq:List (List Nat)->List Nat
  | []=>[]
  | x::r=>32::(x++hSq r)
theorem rIq:∀ xs,cIq xs=hSq xs++[41]
  | []=>rfl
  | x::r=>by simp [cIq,hSq,rIq r]
theorem gBq:∀ xs ys,hSq (xs++ys)=hSq xs++hSq ys
  | [],ys=>rfl
  | x::r,ys=>by simp [hSq,gBq r ys]
def Tm.node2:Tm->Bool
  | .name _=>false
  | .whole _=>false
  | .way _=>false
  | _=>true
theorem kw7:(cL "(give" = 40::cL "give"/\cL "(pair" = 40::cL "pair"/\cL "(first" = 40::cL "first"/\cL "(second" = 40::cL "second"/\cL "(plus" = 40::cL "plus"/\cL "(look" = 40::cL "look"):=by decide +kernel
theorem m5q {t:Tm} (h:t.node2=true) (w:Nat):t.tl w=40::(cL t.word++(hSq (t.inn.map λ u=>u.tl w)++[41])):=by
  obtain ⟨a,b,c,d,e,f⟩:=kw7
  cases t<;>first | cases h | skip
  all_goals simp only [Tm.tl,Tm.inn,List.map_cons,List.map_nil,<- rIq,Tm.word]
  . rw [a];rfl
  . rw [b];rfl
  . rw [c];rfl
  . rw [d];rfl
  . rw [e];rfl
  . rw [f];rfl
theorem qSq {t u:Tm} (h:t.node2=true) {w:Nat} (hc:t.cl w) (hu:u∈t.inn):u.cl w:=by
  cases t<;>first | cases h | skip
  all_goals simp only [Tm.inn,List.mem_cons,List.not_mem_nil,or_false] at hu
  all_goals simp only [Tm.cl] at hc
  . rcases hu with rfl | rfl;exact hc.1;exact hc.2
  . rcases hu with rfl | rfl;exact hc.1;exact hc.2
  . subst hu;exact hc
  . subst hu;exact hc
  . rcases hu with rfl | rfl;exact hc.1;exact hc.2
  . rcases hu with rfl | rfl | rfl;exact hc.1;exact hc.2.1;exact hc.2.2
theorem bZq (a b:List Nat):ofL a++ofL b=ofL (a++b):=by
  refine iDq ?_
  rw [gOq];rfl
theorem mCq (z:Str):ofL (cL z)=z:=iDq rfl
theorem b1q (a:List Nat):(ofL a).length=a.length:=by simp [ofL,Str.length]
theorem yLq:((("(" : String):Str)=ofL [40])/\(((")" : String):Str)=ofL [41])/\(((" " : String):Str)=ofL [32])/\((("(way " : String):Str)=ofL (cL "(way"++[32])):=by decide +kernel
theorem sIq (w:Nat) (t:Tm):((("(way " : String):Str)++a8q w++((" " : String):Str)++ofL (t.tl (w+1))++((")" : String):Str))=ofL ((Tm.way t).tl w):=by
  obtain ⟨_,b,c,d⟩:=yLq
  rw [b,c,d,<- mCq (a8q w),bZq,bZq,bZq,bZq]
  congr 1
  simp [Tm.tl,cIq,nmL]
theorem eZq {t:Tm} (h:t.node2=true):(t.word=="whole")=false/\(t.word=="name")=false/\(t.word=="way")=false/\t.leaf=false/\(cL t.word).length<=6:=by
  cases t<;>first | (refine ⟨?_,?_,?_,rfl,?_⟩<;>simp only [Tm.word]<;>decide +kernel) | (exact Bool.noConfusion h)
theorem nLq (xs:List (List Nat)) (i:Nat):(hSq (xs.take i)).length<=(hSq xs).length:=by
  have e:=gBq (xs.take i) (xs.drop i)
  rw [List.take_append_drop] at e
  rw [e,List.length_append];omega
def kWq (t:Tm) (w:Nat):D:=.tup [t.enc,.int w]
def m2q:Tm->Nat->List D
  | .whole k,_=>[.str (bRq k)]
  | .name n,w=>[.str (a8q (w - 1 - n))]
  | .way t,w=>[.str "(way ", .str (a8q w),.str " ", kWq t (w+1),.str ")"]
  | t,w=>.str (("(" : Str)++t.word)::(cOq (t.inn.map λ u=>kWq u w)++[.str ")"])
theorem i5q {t:Tm} (h:t.node2=true) (w:Nat):m2q t w=.str (("(" : Str)++t.word)::(cOq (t.inn.map λ u=>kWq u w)++[.str ")"]):=by
  cases t<;>first | rfl | exact Bool.noConfusion h
inductive ItsT:List D->List Nat->Nat->Prop
  | nil:ItsT [] [] 0
  | str {ps:List D} {l:List Nat} {m:Nat} (z:Str):ItsT ps l m->ItsT (.str z::ps) (cL z++l) (1+m)
  | tm {t:Tm} {w:Nat} {ps:List D} {l:List Nat} {m:Nat}:t.cl w->w+t.dp < 100->ItsT ps l m->ItsT (kWq t w::ps) (t.tl w++l) (10 * t.sz+m)
theorem ItsT.of {ps qs:List D} {l k:List Nat} {m:Nat} (h:ItsT ps l m) (e1:ps=qs) (e2:l=k):ItsT qs k m:=by subst e1 e2;exact h
theorem k5q {ps:List D} {l:List Nat} {m:Nat} (h:ItsT ps l m):ps.length<=m:=by
  induction h with
  | nil=>exact Nat.le_refl _
  | str z _ ih=>simp only [List.length_cons];omega
  | @tm t _ _ _ _ _ _ _ ih=>have:=t.sz_pos;simp only [List.length_cons];omega
theorem hTq {w:Nat} {rs:List D} {l:List Nat} {m:Nat} (h:ItsT rs l m):∀ us:List Tm,(∀ u∈us,u.cl w/\w+u.dp < 100)->∃ m',m'<=10 * (us.map Tm.sz).sum+us.length+m/\ItsT (cOq (us.map λ u=>kWq u w)++rs) (hSq (us.map λ u=>u.tl w)++l) m'
  | [],_=>⟨m,by simp,h⟩
  | u::us,hu=>by
    obtain ⟨m',h1,h2⟩:=hTq h us λ v hv=>hu v (List.mem_cons_of_mem _ hv)
    obtain ⟨c1,c2⟩:=hu u (List.mem_cons_self ..)
    refine ⟨_,?_,(ItsT.str " " (ItsT.tm c1 c2 h2)).of (by simp [cOq]) ?_⟩
    . simp only [List.map_cons,List.sum_cons,List.length_cons];omega
    . rw [show cL " " = [32] from qPq];simp [hSq]
theorem v5q (t:Tm) (h:t.node2=true):(t.inn.map Tm.sz).sum+1=t.sz/\t.inn.length<=3:=by
  cases t<;>first | exact Bool.noConfusion h | (simp [Tm.inn,Tm.sz];omega)
theorem p0q {t:Tm} {w:Nat} (hc:t.cl w) (hd:w+t.dp < 100):(m2q t w).length<=30/\∀ rs l m,ItsT rs l m->∃ m',m' < 10 * t.sz+m/\ItsT (m2q t w++rs) (t.tl w++l) m':=by
  by_cases hn:t.node2=true
  . obtain ⟨e1,e2⟩:=v5q t hn
    obtain ⟨L1,L2,_,_⟩:=yLq
    rw [i5q hn,m5q hn]
    refine ⟨by simp only [List.length_cons,List.length_append,cRq,List.length_map,List.length_nil];omega,λ rs l m h=>?_⟩
    obtain ⟨m',h1,h2⟩:=hTq (w:=w) (ItsT.str ")" h) t.inn λ u hu=>⟨qSq hn hc hu,by have:=Tm.dp_inn hu;omega⟩
    refine ⟨_,?_,(ItsT.str (("(" : Str)++t.word) h2).of (by simp) ?_⟩
    . omega
    . rw [show cL (("(" : Str)++t.word)=40::cL t.word by rw [show cL (("(" : Str)++t.word)=cL ("(" : Str)++cL t.word from gOq _ _,L1];rfl,show cL ")" = [41] by rw [L2];rfl]
      simp
  . cases t with
    | whole k=>exact ⟨by simp [m2q],λ rs l m h=>⟨_,by simp only [Tm.sz];omega,(ItsT.str (bRq k) h).of (by simp [m2q]) (by simp [Tm.tl])⟩⟩
    | name k=>exact ⟨by simp [m2q],λ rs l m h=>⟨_,by simp only [Tm.sz];omega,(ItsT.str (a8q (w - 1 - k)) h).of (by simp [m2q]) (by simp [Tm.tl,nmL])⟩⟩
    | way t=>
      obtain ⟨L1,L2,L3,L4⟩:=yLq
      simp only [Tm.dp] at hd
      refine ⟨by simp [m2q],λ rs l m h=>⟨_,?_,(ItsT.str "(way " (ItsT.str (a8q w) (ItsT.str " " (ItsT.tm (t:=t) (w:=w+1) hc (by omega) (ItsT.str ")" h))))).of (by simp [m2q]) ?_⟩⟩
      . simp only [Tm.sz];omega
      . rw [show cL "(way " = cL "(way"++[32] by rw [L4];rfl,show cL " " = [32] from qPq,show cL ")" = [41] by rw [L2];rfl]
        simp [Tm.tl,cIq,nmL]
    | _=>exact absurd rfl hn
def eHq:DSp:=λ ds G Q=>∃ (t:Tm) (w:Nat),ds=[kWq t w]/\t.cl w/\w+t.dp < 100/\∀ l,G l=none->Q (.ref l) (up G l (.lst (m2q t w)))
def lMq (f:Addr):DSp:=λ ds G Q=>∃ (t:Tm) (w:Nat),ds=[kWq t w,.ref f]/\t.cl w/\w+t.dp < 100/\t.sz<=200/\Q (.str (ofL (t.tl w))) G
def gKq:DSp:=λ ds G Q=>∃ t:Tm,ds=[t.enc]/\t.cl 0/\t.dp < 100/\t.sz<=200/\Q (.str (ofL (t.tl 0))) G
def m0q:DSp:=λ ds G Q=>∃ (w:Str) (a:Addr) (es:List D),ds=[.str w,.ref a]/\G a=some (.lst es)/\w.length<=10/\es.length<=10/\∀ l,G l=none->Q (.ref l) (up G l (.lst (.str (("(" : Str)++w)::(cOq es++[.str ")"]))))
end L3
set_option Elab.async false
set_option linter.all false
set_option maxRecDepth 100000
namespace L3
open PySem L2
structure Fmr where
  z:Str
  nm:Option Nat
  ps:List Tm
inductive Aw where | prog | word | name | brk | noth
def Aw.str:Aw->Str
  | .prog=>"program"
  | .word=>"word"
  | .name=>"name"
  | .brk=>"bracket"
  | .noth=>"nothing"
structure Rst where
  aw:Aw
  fs:List Fmr
  w:Nat
  res:Option Tm
def iAq (z:Str):Nat:=if z = "way" then 1 else if z = "give" then 2 else if z = "pair" then 2 else if z = "first" then 1 else if z = "second" then 1 else if z = "plus" then 2 else 3
def jKq (p:Tm) (fs:List Fmr) (w:Nat):Rst:=match fs with
  | []=>⟨.noth,[],w,some p⟩
  | f::r=>⟨if f.ps.length+1=iAq f.z then .brk else .prog,⟨f.z,f.nm,f.ps++[p]⟩::r,w,none⟩
inductive Stq:Rst->List Nat->Rst->Prop
  | opn {fs w}:Stq ⟨.prog,fs,w,none⟩ [40] ⟨.word,fs,w,none⟩
  | kw {fs w} (z:Str):z∈words7->z≠"way"->Stq ⟨.word,fs,w,none⟩ (cL z) ⟨.prog,⟨z,none,[]⟩::fs,w,none⟩
  | kway {fs w}:Stq ⟨.word,fs,w,none⟩ (cL "way") ⟨.name,fs,w,none⟩
  | nam {fs w}:w < 100->Stq ⟨.name,fs,w,none⟩ (nmL w) ⟨.prog,⟨"way", some w,[]⟩::fs,w+1,none⟩
  | whole {fs w} (k:Int):k.natAbs < 10 ^ 9->Stq ⟨.prog,fs,w,none⟩ (cL (bRq k)) (jKq (.whole k) fs w)
  | name {fs w} (j:Nat):j < w->w<=100->Stq ⟨.prog,fs,w,none⟩ (nmL (w - 1 - j)) (jKq (.name j) fs w)
  | cls {fs w} (t:Tm):t.node2=true->Stq ⟨.brk,⟨t.word,none,t.inn⟩::fs,w,none⟩ [41] (jKq t fs w)
  | clsW {fs w} (t:Tm):w < 100->Stq ⟨.brk,⟨"way", some w,[t]⟩::fs,w+1,none⟩ [41] (jKq (.way t) fs w)
inductive Chn:Rst->List (List Nat)->Rst->Prop
  | nil {a}:Chn a [] a
  | cons {a b c x r}:Stq a x b->Chn b r c->Chn a (x::r) c
theorem Chn.app {a b c:Rst} {x y:List (List Nat)} (h:Chn a x b) (k:Chn b y c):Chn a (x++y) c:=by
  induction h with
  | nil=>exact k
  | cons s _ ih=>exact .cons s (ih k)
theorem Chn.one {a b:Rst} {x:List Nat} (h:Stq a x b):Chn a [x] b:=.cons h .nil
theorem bLq {p:Tm} {z:Str} {nm:Option Nat} {ps:List Tm} {fs:List Fmr} {w:Nat} (h:ps.length+1≠iAq z):jKq p (⟨z,nm,ps⟩::fs) w=⟨.prog,⟨z,nm,ps++[p]⟩::fs,w,none⟩:=by
  simp only [jKq,if_neg h]
theorem b8q {p:Tm} {z:Str} {nm:Option Nat} {ps:List Tm} {fs:List Fmr} {w:Nat} (h:ps.length+1=iAq z):jKq p (⟨z,nm,ps⟩::fs) w=⟨.brk,⟨z,nm,ps++[p]⟩::fs,w,none⟩:=by
  simp only [jKq,if_pos h]
theorem wBq:∀ (t:Tm) (w:Nat),t.cl w->w+t.dp < 100->∀ fs,Chn ⟨.prog,fs,w,none⟩ (t.tk w) (jKq t fs w):=by
  intro t
  induction t with
  | name n=>intro w hc hd fs;exact .one (.name n hc (by omega))
  | whole k=>intro w hc hd fs;exact .one (.whole k hc)
  | way t ih=>
    intro w hc hd fs
    simp only [Tm.dp] at hd
    refine .cons .opn (.cons .kway (.cons (.nam (by omega)) ?_))
    have z:=ih (w+1) hc (by omega) (⟨"way", some w,[]⟩::fs)
    rw [b8q (by decide +kernel)] at z
    exact z.app (.one (.clsW t (by omega)))
  | first t ih=>
    intro w hc hd fs
    simp only [Tm.dp] at hd
    refine .cons .opn (.cons (.kw "first" (by decide +kernel) (by decide +kernel)) ?_)
    have z:=ih w hc (by omega) (⟨"first", none,[]⟩::fs)
    rw [b8q (by decide +kernel)] at z
    exact z.app (.one (.cls (.first t) rfl))
  | second t ih=>
    intro w hc hd fs
    simp only [Tm.dp] at hd
    refine .cons .opn (.cons (.kw "second" (by decide +kernel) (by decide +kernel)) ?_)
    have z:=ih w hc (by omega) (⟨"second", none,[]⟩::fs)
    rw [b8q (by decide +kernel)] at z
    exact z.app (.one (.cls (.second t) rfl))
  | give t u i1 i2=>
    intro w hc hd fs
    simp only [Tm.dp] at hd
    refine .cons .opn (.cons (.kw "give" (by decide +kernel) (by decide +kernel)) ?_)
    have z:=i1 w hc.1 (by omega) (⟨"give", none,[]⟩::fs)
    rw [bLq (by decide +kernel)] at z
    have y:=i2 w hc.2 (by omega) (⟨"give", none,[t]⟩::fs)
    rw [b8q (by show 1+1=_;decide +kernel)] at y
    exact z.app (y.app (.one (.cls (.give t u) rfl)))
  | pair t u i1 i2=>
    intro w hc hd fs
    simp only [Tm.dp] at hd
    refine .cons .opn (.cons (.kw "pair" (by decide +kernel) (by decide +kernel)) ?_)
    have z:=i1 w hc.1 (by omega) (⟨"pair", none,[]⟩::fs)
    rw [bLq (by decide +kernel)] at z
    have y:=i2 w hc.2 (by omega) (⟨"pair", none,[t]⟩::fs)
    rw [b8q (by show 1+1=_;decide +kernel)] at y
    exact z.app (y.app (.one (.cls (.pair t u) rfl)))
  | plus t u i1 i2=>
    intro w hc hd fs
    simp only [Tm.dp] at hd
    refine .cons .opn (.cons (.kw "plus" (by decide +kernel) (by decide +kernel)) ?_)
    have z:=i1 w hc.1 (by omega) (⟨"plus", none,[]⟩::fs)
    rw [bLq (by decide +kernel)] at z
    have y:=i2 w hc.2 (by omega) (⟨"plus", none,[t]⟩::fs)
    rw [b8q (by show 1+1=_;decide +kernel)] at y
    exact z.app (y.app (.one (.cls (.plus t u) rfl)))
  | look t u v i1 i2 i3=>
    intro w hc hd fs
    simp only [Tm.dp] at hd
    refine .cons .opn (.cons (.kw "look" (by decide +kernel) (by decide +kernel)) ?_)
    have z:=i1 w hc.1 (by omega) (⟨"look", none,[]⟩::fs)
    rw [bLq (by decide +kernel)] at z
    have y:=i2 w hc.2.1 (by omega) (⟨"look", none,[t]⟩::fs)
    rw [bLq (by show 1+1≠_;decide +kernel)] at y
    have x:=i3 w hc.2.2 (by omega) (⟨"look", none,[t,u]⟩::fs)
    rw [b8q (by show 2+1=_;decide +kernel)] at x
    exact z.app (y.app (x.app (.one (.cls (.look t u v) rfl))))
theorem sKq {t:Tm} (hc:t.cl 0) (hd:t.dp < 100):Chn ⟨.prog,[],0,none⟩ (wds [] (t.tl 0)) ⟨.noth,[],0,some t⟩:=by
  have e:=yIq t 0 hc (by omega) [] (.inl rfl)
  rw [List.append_nil,show wds [] []=[] from rfl,List.append_nil] at e
  rw [e]
  exact wBq t 0 hc (by omega) []
end L3
set_option Elab.async false
set_option linter.all false
set_option maxRecDepth 100000
namespace L2
open PySem PySem.Spec PyProof.Rows
section
variable {X:Cx} {pins:List (Addr × Obj)} {σ:St} {H:Hp} {s:Shared} {a:Addr} {v:V} {u r:Value} {kvs:List (Key × V)} {k:Key} {A:Around} {E:Value->Shared->Prop}
theorem pEq {Q:Value->Shared->Prop} (I:Inv X pins σ H s) (e:H a=some (.dK kvs)) (hl:kvs.length < sizeLine) (ry:RelV (kV k) u) (rv:RelV v r) (h1:∀ w d s',f0q kvs k=some d->Inv X pins σ H s'->RelV d w->Q w s')
    (h2:f0q kvs k=none->∀ s',Inv X pins σ (upd H a (.dK (oVq kvs k v))) s'->Q r s'):wpAny (model X.prog X.w) A (call (.builtin "dict.setdefault") [.ref a,u,r]) Q E s:=by
  obtain ⟨z,hd,vs,rel,dd⟩:=aE1q I.hok e
  refine call_meetsIn PySem.F.slot_dict_setdefault dd.typeIs PySem.F.entry_dict_setdefault (PySem.F.args_dict_setdefault_3 _ _ _) (kt_meets_setdefault (aZq X.prog X.w) a (qIq ry) hd r) ⟨vs,dd,by rw [<- rel.length];exact z,λ v' hv'=>?_,λ hn h' dd' hs=>?_⟩
  . have rr:=rel.val k
    rw [hv'] at rr
    cases hk:f0q kvs k with
    | none=>rw [hk] at rr;exact (show False from rr).elim
    | some d=>rw [hk] at rr;exact h1 v' d _ hk (I.tok _) rr
  . have rr:=rel.val k
    rw [hn] at rr
    cases hk:f0q kvs k with
    | some d=>rw [hk] at rr;exact (show False from rr).elim
    | none=>
      have he:∃ q,h'.get? a=some q:=let ⟨q,_,_,hq,_⟩:=dd';⟨q,hq⟩
      have hl':(oVq kvs k v).length<=sizeLine:=by have:=iYq kvs k v;omega
      exact h2 hk _ (tJq I (by rw [e];exact True.intro) hs he (uKq hl' hd (rel.put k rv) dd'))
end
def q9q (td ty tx:TE):TE:=λ σ H Q=>td σ H λ x H1=>∃ a,x=.ref a/\IsD H1 a/\ty σ H1 λ y H2=>tx σ H2 λ z H3=>∃ kvs k,H3 a=some (.dK kvs)/\y=kV k/\kvs.length < sizeLine/\(∀ d,f0q kvs k=some d->Q d H3)/\(f0q kvs k=none->Q z (upd H3 a (.dK (oVq kvs k z))))
section
variable {X:Cx} {o e f:Expr} {apos cpos:Pos} {td ty tx:TE}
theorem kPq (ho:PE X o td) (he:PE X e ty) (hf:PE X f tx) (m:M2 X o "setdefault" apos e f cpos):PE X (.Call (.Attribute o "setdefault" apos) [e,f] [] cpos) (q9q td ty tx):=by
  intro pins s σ H Q I h
  refine wpAny_Call_method m.base m.few m.line PySem.F.plainAttrs_dict PySem.F.slot_dict_setdefault PySem.F.type_dict_setdefault (thn (ho pins s σ H _ I h) λ u s1 ⟨x,H1,I1,rx,a,ex,d,q1⟩=>?_)
  subst ex
  obtain rfl:u=Value.ref a:=rx
  obtain ⟨t1,t2,_⟩:=r6q I1 d
  refine ⟨t1,t2,?_⟩
  rw [m.trees]
  refine Calls.callWith_builtin rfl (Calls.evalArgs_plain (Calls.spliced_cons (thn (he pins s1 σ H1 _ I1 q1) λ iv s2 ⟨y,H2,I2,ry,q2⟩=>
    Calls.spliced_cons (thn (hf pins s2 σ H2 _ I2 q2) λ fv s3 ⟨z,H3,I3,rz,kvs,k,ea,ey,hl,q3,q4⟩=>Calls.spliced_nil ?_))))
  subst ey
  exact pEq I3 ea hl ry rz (λ w d s' hk I4 rw'=>⟨d,H3,I4,rw',q3 d hk⟩) λ hk s' I4=>⟨z,_,I4,rz,q4 hk⟩
end
end L2
namespace L3
open PySem PySem.Spec L2
section
variable {X:Cx} {o e f:Expr} {apos cpos:Pos} {td ti tx:DTE}
def r5q:D->DV->Prop:=λ x G=>match x with
  | .ref a=>onD G a λ _=>True
  | _=>False
abbrev q3q (td ti tx:DTE):DTE:=λ ρ G Q=>td ρ G λ x G1=>r5q x G1/\ti ρ G1 λ y G2=>tx ρ G2 λ z G3=>match x with
  | .ref a=>onD G3 a λ kvs=>∃ k,hIq y=some k/\kvs.length < sizeLine/\(∀ d,dIq kvs k=some d->Q d G3)/\(dIq kvs k=none->Q z (up G3 a (.dK (putKD kvs k z))))
  | _=>False
abbrev y6q (td ti tx:DTE):DTE:=λ ρ G Q=>td ρ G λ x G1=>r5q x G1/\ti ρ G1 λ y G2=>tx ρ G2 λ z G3=>match x with
  | .ref a=>onD G3 a λ kvs=>∃ k,hIq y=some k/\Q ((dIq kvs k).getD z) G3
  | _=>False
theorem mGq (hu:X.A.units+200 < cLine) (ho:AE X o td) (he:AE X e ti) (hf:AE X f tx) (m:M2 X o "get" apos e f cpos):AE X (.Call (.Attribute o "get" apos) [e,f] [] cpos) (y6q td ti tx):=by
  obtain ⟨co,jo,ro⟩:=ho.run
  obtain ⟨ci,ji,ri⟩:=he.run
  obtain ⟨cx,jx,rx⟩:=hf.run
  refine ⟨_,⟨oOq (by omega) jo.run ji.run jx.run m⟩,λ ρ G DQ σ H Q B q F=>ro ρ G _ σ H _ B q λ x G1 v H1 g1 ax ⟨q0,q1⟩=>?_⟩
  cases x with
  | ref a=>
    cases ax
    obtain ⟨_,gs0,_,_,e0,_⟩:=e4q g1.vw q0
    refine ⟨a,rfl,.inl ⟨gs0,.inl e0⟩,ri ρ G1 _ σ H1 _ (B.go g1) q1 λ y G2 u H2 g2 ay q2=>rx ρ G2 _ σ H2 _ ((B.go g1).go g2) q2 λ z G3 uz H3 g3 az q3=>?_⟩
    obtain ⟨kvs,gs,⟨k,ek,q4⟩,e1,e2,r⟩:=e4q g3.vw q3
    have ay':=ay.mono g3.tup
    rw [dUq ek] at ay'
    have:=lQq ay'
    subst this
    refine ⟨_,DGet.k e2,?_⟩
    cases hd:dIq kvs k with
    | none=>
      rw [hd] at q4
      rw [(r.val (k:=k)).2 hd]
      exact F z G3 uz H3 ((g1.trans g2).trans g3) az q4
    | some d=>
      rw [hd] at q4
      obtain ⟨w,hw,aw⟩:=(r.val (k:=k)).1 d hd
      rw [hw]
      exact F d G3 w H3 ((g1.trans g2).trans g3) aw q4
  | _=>exact (show False from q0).elim
theorem kIq (ho:AE X o td) (he:AE X e ti) (hf:AE X f tx) (m:M2 X o "setdefault" apos e f cpos):AE X (.Call (.Attribute o "setdefault" apos) [e,f] [] cpos) (q3q td ti tx):=by
  obtain ⟨co,jo,ro⟩:=ho.run
  obtain ⟨ci,ji,ri⟩:=he.run
  obtain ⟨cx,jx,rx⟩:=hf.run
  refine ⟨_,⟨kPq jo.run ji.run jx.run m⟩,λ ρ G DQ σ H Q B q F=>ro ρ G _ σ H _ B q λ x G1 v H1 g1 ax ⟨q0,q1⟩=>?_⟩
  cases x with
  | ref a=>
    cases ax
    obtain ⟨_,gs0,_,_,e0,_⟩:=e4q g1.vw q0
    refine ⟨a,rfl,.inl ⟨gs0,.inl e0⟩,ri ρ G1 _ σ H1 _ (B.go g1) q1 λ y G2 u H2 g2 ay q2=>rx ρ G2 _ σ H2 _ ((B.go g1).go g2) q2 λ z G3 uz H3 g3 az q3=>?_⟩
    obtain ⟨kvs,gs,⟨k,ek,hl,q4,q5⟩,e1,e2,r⟩:=e4q g3.vw q3
    have ay':=ay.mono g3.tup
    rw [dUq ek] at ay'
    have:=lQq ay'
    subst this
    have len:gs.length=kvs.length:=by have:=congrArg List.length r.1;simpa using this.symm
    refine ⟨gs,k,e2,rfl,by omega,λ d hd=>?_,λ hn=>?_⟩
    . cases hk:dIq kvs k with
      | none=>rw [(r.val (k:=k)).2 hk] at hd;cases hd
      | some d'=>
        obtain ⟨w,hw,aw⟩:=(r.val (k:=k)).1 d' hk
        rw [hw] at hd;cases hd
        exact F d' G3 _ H3 ((g1.trans g2).trans g3) aw (q4 d' hk)
    . cases hk:dIq kvs k with
      | some d'=>
        obtain ⟨w,hw,aw⟩:=(r.val (k:=k)).1 d' hk
        rw [hw] at hn;cases hn
      | none=>
        have g4:=Go.setD g3.vw e1 (r.putKD (k:=k) az)
        exact F z _ _ _ (((g1.trans g2).trans g3).trans g4) (az.mono g4.tup) (q5 hk)
  | _=>exact (show False from q0).elim
end
section
variable {X:Cx} {C:Addr} {o value:Expr} {pos tpos:Pos} {ta te:DTE}
theorem lTq {f:Str} (c:Cls X.K C) (n:NoAttr X.K C f) (ha:AE X o ta) (he:AE X value te):AS X (.AugAssign (.Attribute o f tpos) .Sub value pos) (kAq C f ta te (· - ·)):=by
  obtain ⟨ca,ja,ra⟩:=ha.run
  obtain ⟨ce,je,re⟩:=he.run
  refine ⟨_,⟨i0q ja.run je.run w7q⟩,λ DD Dc ρ G σ H B q F=>ra ρ G _ σ H _ B q λ x G1 v H1 g1 ax q1=>?_⟩
  cases x with
  | ref a=>
    cases ax
    obtain ⟨fs,dx,gs,q2,e1,e2,r⟩:=cEq g1.vw q1
    unfold tGq at q2
    split at q2
    . next d hl=>
      obtain ⟨u,h1,h2⟩:=r.lookup hl
      refine ⟨a,C,dx,gs,u,rfl,e2,c,n,h1,re ρ G1 _ σ H1 _ (B.go g1) q2 λ y G2 u2 H2 g2 ay q3=>?_⟩
      split at q3
      . next i j=>
        cases h2;cases ay
        obtain ⟨fs',dx',gs',⟨hl',q4⟩,e1',e2',r'⟩:=cEq g2.vw q3
        have g3:=Go.setI g2.vw e1' e2' (r'.put (f:=f) (d:=.int (i - j)) (v:=.int (i - j)) rfl)
        exact ⟨i,j,rfl,rfl,dx',gs',e2',by rw [r'.len];exact hl',F.nx _ _ _ _ ((g1.trans g2).trans g3) (((B.go g1).go g2).go g3) q4⟩
      . exact q3.elim
    . exact q2.elim
  | _=>exact (show False from q1).elim
abbrev yFq:DTE:=λ _ G Q=>∀ p,G p=none->Q (.ref p) (up G p (.dK []))
theorem p5q:AE X (.Dict [] [] pos) yFq:=⟨_,⟨q2q⟩,λ ρ G DQ σ H Q B q F p hp=>by
  have hg:G p=none:=by
    cases z:G p with
    | none=>rfl
    | some o=>obtain ⟨u,hu⟩:=(B.vw p o z).some;rw [hp] at hu;cases hu
  exact F (.ref p) _ _ _ (Go.newD B.vw hp (kvs:=[]) (gs:=[]) ⟨rfl,rfl⟩) rfl (q p hg)⟩
end
end L3
set_option Elab.async false
set_option linter.all false
set_option maxRecDepth 100000
namespace L3
open PySem PyProof L2
section
variable {X:Cx} {C:Addr} {p pos:Pos}
abbrev wUq (C:Addr) (dsp:DSp):DTE:=λ ρ G Q=>∀ x,G x=none->dsp [.ref x] (up G x (.ins C [])) λ d G2=>d=.non/\Q (.ref x) G2
theorem pRq {k j:Nat} {x:Str} {ps:List Str} {dsp:DSp} (Gt:MkGot X.prog X.w X.K X.mg X.base k C x ps (aMq X.K dsp)) (hr:Room j X.A) (hk:k+1<=j) (hg:Gl X x) (hdb:(x==("__debug__" : Str))=false:=by decide) :
    AE X (.Call (.Name x p) [] [] pos) (wUq C dsp):=by
  obtain ⟨f,fd,Fk,M,hm,hb⟩:=Gt.ex
  refine ⟨_,⟨oQq (dvs:=[]) M Fk (hr.mono hk) hg hm hb .nil p9q hdb⟩,λ ρ G DQ σ H Q B q F z dx hz hd ne=>?_⟩
  have g2:=Go.newI (C:=C) B.vw hz hd ne
  refine ⟨[.ref z],_,_,⟨_,_,rfl,rfl,rfl⟩,g2.vw,q z (B.vw.none hz),λ d G3 v H3 g3 ad hq=>?_⟩
  obtain ⟨rfl,hq⟩:=hq
  cases ad
  exact ⟨rfl,F (.ref z) G3 _ H3 (g2.trans g3) rfl hq⟩
end
end L3
set_option Elab.async false
set_option linter.all false
set_option maxRecDepth 100000
namespace L2
open PySem PySem.Spec PyProof.Rows
def vPq (K:PySem.W.Frag) (a:Addr):It:=⟨λ i H=>∃ xs x,SqL K H a xs/\xs[i]?=some x,λ i H v H'=>∃ T x,v=.ref T/\H T=none/\H'=upd H T (.tup [.int i,x])/\∀ xs,SqL K H a xs->xs[i]?=some x,λ i H=>∃ xs,SqL K H a xs/\xs.length<=i⟩
theorem kUq {P:Program} {w:World} {K:PySem.W.Frag} {es:List Expr} {k:Nat} {pos:Pos} (e it a:Addr) (hne:e≠it) :
    Turn P w K (.Tuple es k pos) (vPq K a) [e,it] e (λ i h=>(∃ old,IsEnum h e it i old)/\h.IsListIter it a i) where
  mem:=by simp
  obj:=λ i h st b hb=>by
    obtain ⟨⟨old,a1⟩,o,a2,c,d⟩:=st
    simp only [List.mem_cons,List.not_mem_nil,or_false] at hb
    rcases hb with rfl | rfl
    . exact ⟨_,a1,λ v z=>by cases (show Data.fields _=Data.cell v from z)⟩
    . exact ⟨o,a2,λ v z=>by rw [d] at z;cases z⟩
  keep:=λ i h h' st kk=>⟨let ⟨old,a1⟩:=st.1;⟨old,kk _ (by simp) _ a1⟩,st.2.at λ o ho=>kk _ (by simp) _ ho⟩
  item:=by
    intro X hP hw hK hc i pins s σ H E I hf st hg
    subst hP hw hK
    obtain ⟨⟨old,a1⟩,a2⟩:=st
    obtain ⟨xs,v0,hq,hx⟩:=hg
    obtain ⟨its,rv,p,hz⟩:=I.list hq
    obtain ⟨u0,hu,ru⟩:=rv.get hx
    refine l3q (R:=λ y=>y=u0) (P:=λ h=>h.IsListIter it a (i+1)) a1 hne (λ h h' p k=>p.at k) (λ A Q E q=>wpAny_nextOf_list_item a2 p.isList (x:=u0) (by simpa using hu) λ h' st' sb=>q h' _ _ rfl sb st') λ h' tk x u rx Out p' hT kk=>?_
    subst rx
    refine ⟨_,rfl,wpAny_letOwnedTupleGo_enum (s:={ s with heap:=h',toks:=tk }) Out λ h2 J2 sb=>?_⟩
    have el:e < s.heap.objs.size:=Heap.lt_size a1
    have il:it < s.heap.objs.size:=let ⟨_,ho,_⟩:=a2;Heap.lt_size ho
    have I1:Inv X pins σ (upd H s.heap.objs.size (.tup [.int i,v0])) { s with heap:=s.heap.push { cls:=.type "tuple", data:=.seq #[.int i u,x] } }:=
      I.laid (t':=s.toks) (λ b o e=>Heap.get?_push_of_some _ e) (Nat.le_refl _) (show ObjOk X.prog X.w _ _ _ (.tup [.int i,v0]) from ⟨by show 2<=sizeLine;decide,[.int i u,x],.cons ⟨_,rfl⟩ (.cons ru .nil),IsTup.new _ _⟩)
    have lts:∀ b∈[e,it],b < s.heap.objs.size:=λ b hb=>by
      simp only [List.mem_cons,List.not_mem_nil,or_false] at hb
      rcases hb with rfl | rfl
      . exact el
      . exact il
    have I2:Inv X pins σ (upd H s.heap.objs.size (.tup [.int i,v0])) { s with heap:=h2,toks:=tk }:=
      Inv.turnedL (s:={ s with heap:=s.heap.push { cls:=.type "tuple", data:=.seq #[.int i u,x] } }) (h':=h2) (t':=tk) (fp:=[e,it]) I1 (λ b hb=>by
        obtain ⟨f0,fr⟩:=hf b hb
        exact ⟨by rw [aHq (Nat.ne_of_lt (lts b hb))];exact f0,fr⟩) (λ b o hb q=>by
        have hb':b≠e/\b≠it:=by simpa using hb
        rcases Heap.get?_push_cases q with ⟨z1,z2⟩ | q
        . rw [z1,z2];exact sb.extBut _ _ (Nat.ne_of_gt el) hT
        . exact sb.extBut _ _ hb'.1 (kk b o hb'.1 hb'.2 q))
    exact ⟨.ref s.heap.objs.size,_,I2,rfl,⟨_,v0,rfl,I.hok.fresh (Nat.le_refl _),rfl,λ xs' h=>by rw [I.list_inj h hq];exact hx⟩,⟨⟨_,J2⟩,p'.at λ o ho=>sb.extBut _ _ (Ne.symm hne) ho⟩,λ b hb=>by rw [aHq (Nat.ne_of_lt (lts b hb))];exact (hf b hb).1⟩
  done:=by
    intro X hP hw hK hc i pins s σ H E I hf st hg
    subst hP hw hK
    obtain ⟨⟨old,a1⟩,a2⟩:=st
    obtain ⟨xs,hq,hx⟩:=hg
    obtain ⟨its,rv,p,hz⟩:=I.list hq
    have hl:=rv.length
    refine q0q a1 (λ A Q E hh q=>wpAny_nextOf_list_end hh a2 p.isList (by simp;omega) q) (I.ok.hd hc) λ h' eb=>⟨rfl,?_⟩
    refine I.turnedL (t':=s.toks) (fp:=[e,it]) hf λ b o hb q=>?_
    have hb':b≠e/\b≠it:=by simpa using hb
    exact eb b o hb'.2 q
  self:=λ _ _ _ _ _ st h=>by
    obtain ⟨⟨old,a1⟩,_⟩:=st
    exact wpAny_pyIter_enum a1 h
section
variable {X:Cx}
def iEnL (K:PySem.W.Frag) (t:TA):TI:=λ σ H R=>t σ H λ vs H1=>∃ a xs,vs=[.ref a]/\SqL K H1 a xs/\R (vPq K a) H1
theorem q1q {es:List Expr} {k:Nat} {tp:Pos} {a:Expr} {ta:TA} {p pos:Pos} (hg:Gl X "enumerate") (hm:X.mg "enumerate" = none) (ha:PA X [a] ta) (hs:aXq a=true):PI X (.Tuple es k tp) (.Call (.Name "enumerate" p) [a] [] pos) (iEnL X.K ta):=by
  intro pins s σ H R I h
  refine Call_ (cSq I hg hm PyProof.Rows.boot_enumerate (PyProof.Rows.callWith_type1 (thn (ha pos pins s σ H _ I h) λ us s1 ⟨vs,H1,I1,r1,l,xs,ev,sq,q⟩=>?_) (aEq hs) rfl))
  subst ev
  cases r1 with
  | cons r rr=>
    cases rr
    cases r
    obtain ⟨its,rv,pl,_⟩:=I1.list sq
    refine call_enumerate_list pl.isList λ h' a1 a2 _ kk=>?_
    refine wpAny_pyIter_enum a1 ?_
    refine ⟨s1.heap.objs.size+1,[s1.heap.objs.size+1,s1.heap.objs.size],_,_,H1,rfl,I1.kept (t':=s1.toks) kk,kUq _ _ l (Nat.succ_ne_self _),⟨⟨_,a1⟩,a2⟩,λ b hb=>?_,q⟩
    have hb':s1.heap.objs.size<=b:=by
      simp only [List.mem_cons,List.not_mem_nil,or_false] at hb
      rcases hb with e | e<;>(rw [e];first | exact Nat.le_refl _ | exact Nat.le_add_right _ _)
    exact I1.fpOk hb' (I1.hok.fresh hb')
end
end L2
namespace L3
open PySem PySem.Spec L2
section
variable {X:Cx} {es:List Expr} {a:Expr} {t:DTA} {p pos:Pos}
def enL (xs:List D):List D:=xs.zipIdx.map λ c=>.tup [.int (c.2:Int),c.1]
abbrev aA0q (t:DTA):DTI:=λ ρ G R=>t ρ G λ ds G1=>match ds with
  | [.ref l]=>onL G1 l λ xs=>G1 l=some (.lst xs)/\R ⟨enL xs,λ G=>G l=some (.lst xs)⟩ G1
  | _=>False
theorem qMq {k:Nat} {tp:Pos} (hg:Gl X "enumerate") (hm:X.mg "enumerate" = none) (ha:AA X [a] t) (hs:aXq a=true:=by rfl):AI X (.Tuple es k tp) (.Call (.Name "enumerate" p) [a] [] pos) (aA0q t):=by
  obtain ⟨ca,ja,ra⟩:=ha.run
  refine ⟨_,⟨q1q hg hm ja.run hs⟩,λ ρ G DR σ H R B q F=>ra ρ G _ σ H _ B q λ ds G1 vs H1 g1 al hl q1=>?_⟩
  split at q1
  . next l=>
    obtain ⟨v,r,rfl,rfl,e⟩:=al
    cases e
    obtain ⟨xs,ws,⟨e1,q2⟩,s1,r1⟩:=b2q g1.vw q1
    refine ⟨l,ws,rfl,s1,F ⟨enL xs,λ G=>G l=some (.lst xs)⟩ _ G1 H1 g1 (λ G2 H2 g2 f1=>?_) q2⟩
    obtain ⟨ws',w1,t1⟩:=g2.vw _ _ f1
    have l1:=t1.len
    refine ⟨λ n d hd=>?_,λ n hn=>⟨ws',.of w1,?_⟩⟩
    . replace hd:(enL xs)[n]?=some d:=hd
      unfold enL at hd
      rw [List.getElem?_map,List.getElem?_zipIdx] at hd
      cases e:xs[n]? with
      | none=>rw [e] at hd;cases hd
      | some z=>
        rw [e] at hd
        simp at hd
        subst hd
        obtain ⟨v1,k1,a1⟩:=t1.get e
        refine ⟨⟨ws',v1,.of w1,k1⟩,λ x H' y=>?_⟩
        obtain ⟨T,x1,rfl,hT,rfl,hx⟩:=y
        have z1:=hx ws' (.of w1)
        rw [k1] at z1
        cases z1
        have g3:=Go.newT (o:=.tup [.int n,v1]) g2.vw hT
        exact ⟨g3,T,_,rfl,.of aNq,⟨_,_,rfl,rfl,.one (a1.mono g3.tup)⟩⟩
    . have hn':(enL xs).length<=n:=hn
      simp only [enL,List.length_map,List.length_zipIdx] at hn'
      omega
  . exact q1.elim
end
end L3
set_option Elab.async false
set_option linter.all false
set_option maxRecDepth 100000
namespace L3
open PySem L2
def nmD:Option Nat->D
  | some j=>.str (a8q j)
  | none=>.non
def frD (f:Fmr) (l:Addr):D:=.tup [.str f.z,nmD f.nm,.ref l]
def resD:Option Tm->D
  | some t=>t.enc
  | none=>.non
def nFq (C lb ld:Addr) (s:Rst):DO:=.ins C [("awaited", .str s.aw.str),("brackets", .ref lb),("ways_around", .int s.w),("bound", .ref ld),("unbound", .non),("result", resD s.res)]
structure Lay where
  lb:Addr
  ld:Addr
  ls:List Addr
  kvs:List (Key × D)
  bd:Nat->Option Addr
structure RAt (C r:Addr) (X:Addr->Prop) (G:DV) (s:Rst) (n:Nat) (L:Lay):Prop where
  ins:G r=some (nFq C L.lb L.ld s)
  stk:G L.lb=some (.lst ((s.fs.zip L.ls).reverse.map λ z=>frD z.1 z.2))
  len:L.ls.length=s.fs.length
  frs:∀ z∈s.fs.zip L.ls,G z.2=some (.lst (z.1.ps.map Tm.enc))
  dic:G L.ld=some (.dK L.kvs)
  key:∀ j < 100,dIq L.kvs (.inr (a8q j))=(L.bd j).map D.ref
  bnd:∀ j b,L.bd j=some b->G b=some (.lst (if j < s.w then [.int j] else []))
  has:∀ j < s.w,(L.bd j).isSome=true
  nd:(L.lb::L.ls).Nodup
  apb:∀ j b,L.bd j=some b->b ∉ L.lb::L.ls
  inj:∀ i j b,L.bd i=some b->L.bd j=some b->i=j
  apx:∀ x,X x->x≠r/\x≠L.lb/\x≠L.ld/\x ∉ L.ls/\∀ j,L.bd j≠some x
  liv:∀ x,X x->G x≠none
  few:L.kvs.length<=n/\s.fs.length<=n/\(∀ f∈s.fs,f.ps.length<=3)/\s.w<=100/\n<=20000
section
variable {C r:Addr} {X:Addr->Prop} {G:DV} {s:Rst} {n:Nat} {L:Lay}
theorem RAt.ne_lst (h:RAt C r X G s n L) {x:Addr} {ds:List D} (e:G x=some (.lst ds)):x≠r/\x≠L.ld:=by
  refine ⟨?_,?_⟩
  . rintro rfl;rw [h.ins] at e;cases e
  . rintro rfl;rw [h.dic] at e;cases e
theorem RAt.ld_r (h:RAt C r X G s n L):L.ld≠r:=by
  intro e
  have a:=h.dic
  rw [e,h.ins] at a;cases a
theorem RAt.fld (h:RAt C r X G s n L) {s':Rst} (e1:s'.fs=s.fs) (e2:s'.w=s.w):RAt C r X (up G r (nFq C L.lb L.ld s')) s' n L where
  ins:=a6q
  stk:=by rw [a9q (h.ne_lst h.stk).1,e1];exact h.stk
  len:=by rw [e1];exact h.len
  frs:=λ z hz=>by rw [e1] at hz;rw [a9q (h.ne_lst (h.frs z hz)).1];exact h.frs z hz
  dic:=by rw [a9q h.ld_r];exact h.dic
  key:=h.key
  bnd:=λ j b e=>by rw [a9q (h.ne_lst (h.bnd j b e)).1,e2];exact h.bnd j b e
  has:=by rw [e2];exact h.has
  nd:=h.nd
  apb:=h.apb
  inj:=h.inj
  apx:=h.apx
  liv:=λ x hx=>by rw [a9q (h.apx x hx).1];exact h.liv x hx
  few:=by rw [e1,e2];exact h.few
theorem RAt.app {aw:Aw} {f:Fmr} {fs:List Fmr} {w:Nat} {l:Addr} {ls:List Addr} {p:Tm} (h:RAt C r X G ⟨aw,f::fs,w,none⟩ n L) (el:L.ls=l::ls) (hp:f.ps.length < 3) :
    RAt C r X (up G l (.lst ((f.ps++[p]).map Tm.enc))) ⟨aw,⟨f.z,f.nm,f.ps++[p]⟩::fs,w,none⟩ n L:=by
  have hl:=h.frs (f,l) (by rw [el];simp)
  have ne:=h.ne_lst hl
  have nd:=h.nd
  rw [el] at nd
  obtain ⟨n1,n2⟩:=List.nodup_cons.mp nd
  obtain ⟨n3,n4⟩:=List.nodup_cons.mp n2
  have nlb:L.lb≠l:=λ e=>n1 (by rw [e];simp)
  refine ⟨by rw [a9q ne.1.symm];exact h.ins,?_,by rw [h.len];rfl,λ z hz=>?_,by rw [a9q ne.2.symm];exact h.dic,h.key,λ j b e=>?_,h.has,h.nd,h.apb,h.inj,h.apx,λ x hx=>by rw [a9q (by rintro rfl;exact (h.apx _ hx).2.2.2.1 (by rw [el];simp))];exact h.liv x hx,h.few.1,h.few.2.1,λ g hg=>?_,h.few.2.2.2⟩
  . rw [a9q nlb,h.stk,el]
    simp [frD]
  . rw [el] at hz
    rcases List.mem_cons.mp (show z∈(⟨f.z,f.nm,f.ps++[p]⟩,l)::fs.zip ls from hz) with rfl | hz
    . exact a6q
    . have hm:z.2∈ls:=(List.of_mem_zip hz).2
      rw [a9q (by rintro e;rw [e] at hm;exact n3 hm)]
      exact h.frs z (by rw [el];exact List.mem_cons_of_mem _ hz)
  . rw [a9q (by rintro rfl;exact h.apb j _ e (by rw [el];simp))]
    exact h.bnd j b e
  . rcases List.mem_cons.mp hg with rfl | hg
    . simp only [List.length_append,List.length_cons,List.length_nil];omega
    . exact h.few.2.2.1 g (List.mem_cons_of_mem _ hg)
theorem RAt.push {aw:Aw} {fs:List Fmr} {w:Nat} {l:Addr} (h:RAt C r X G ⟨aw,fs,w,none⟩ n L) (hl:G l=none) (hn:n+1<=20000) (f:Fmr) (hf:f.ps=[]) :
    RAt C r X (up (up G l (.lst [])) L.lb (.lst (((fs.zip L.ls).reverse.map λ z=>frD z.1 z.2)++[frD f l]))) ⟨aw,f::fs,w,none⟩ (n+1) { L with ls:=l::L.ls }:=by
  have nl:∀ {x:Addr} {o:DO},G x=some o->x≠l:=λ e=>by rintro rfl;rw [hl] at e;cases e
  have nb:=h.ne_lst h.stk
  obtain ⟨n1,n2⟩:=List.nodup_cons.mp h.nd
  have mem:∀ x∈L.ls,∃ ds,G x=some (.lst ds):=λ x hx=>by
    obtain ⟨i,hi,e⟩:=List.getElem_of_mem hx
    have hi2:i < fs.length:=by have:=h.len;simp only [] at this;omega
    refine ⟨_,h.frs (fs[i],x) ?_⟩
    rw [List.mem_iff_getElem]
    exact ⟨i,by rw [List.length_zip];simp only [];omega,by rw [List.getElem_zip,e]⟩
  have ll:l ∉ L.ls:=λ hx=>by obtain ⟨ds,e⟩:=mem l hx;rw [hl] at e;cases e
  have other:∀ {x:Addr} {o:DO},G x=some o->x≠L.lb->up (up G l (.lst [])) L.lb (.lst (((fs.zip L.ls).reverse.map λ z=>frD z.1 z.2)++[frD f l])) x=some o:=λ e ne=>by
    rw [a9q ne,a9q (nl e)];exact e
  refine ⟨other h.ins nb.1.symm,?_,by simp [h.len],λ z hz=>?_,other h.dic nb.2.symm,h.key,λ j b e=>?_,h.has,?_,λ j b e=>?_,h.inj,λ x hx=>?_,λ x hx=>?_,?_⟩
  . rw [a6q];simp
  . rcases List.mem_cons.mp (show z∈(f,l)::fs.zip L.ls from hz) with rfl | hz
    . rw [a9q (nl h.stk).symm,a6q,hf];rfl
    . have hm:z.2∈L.ls:=(List.of_mem_zip hz).2
      exact other (h.frs z hz) (λ e=>n1 (by rw [<- e];exact hm))
  . exact other (h.bnd j b e) (λ e2=>h.apb j b e (by rw [e2];simp))
  . refine List.nodup_cons.mpr ⟨λ hx=>?_,List.nodup_cons.mpr ⟨ll,n2⟩⟩
    rcases List.mem_cons.mp hx with e | e
    . exact nl h.stk e
    . exact n1 e
  . intro hx
    rcases List.mem_cons.mp hx with e2 | hx
    . exact h.apb j b e (by rw [e2];simp)
    . rcases List.mem_cons.mp hx with e2 | hx
      . exact nl (h.bnd j b e) e2
      . exact h.apb j b e (List.mem_cons_of_mem _ hx)
  . obtain ⟨a1,a2,a3,a4,a5⟩:=h.apx x hx
    refine ⟨a1,a2,a3,λ hm=>?_,a5⟩
    rcases List.mem_cons.mp hm with e | hm
    . subst e;exact h.liv _ hx hl
    . exact a4 hm
  . obtain ⟨a1,a2,a3,a4,a5⟩:=h.apx x hx
    have hne:x≠l:=by rintro rfl;exact h.liv _ hx hl
    rw [a9q a2,a9q hne];exact h.liv x hx
  . obtain ⟨f1,f2,f3,f4,f5⟩:=h.few
    refine ⟨by simp only [];omega,by simp only [List.length_cons] at *;omega,λ g hg=>?_,f4,hn⟩
    rcases List.mem_cons.mp hg with rfl | hg
    . rw [hf];simp
    . exact f3 g hg
end
def jJq (C:Addr):DSp:=λ ds G Q=>∃ (r:Addr) (X:Addr->Prop),ds=[.ref r]/\G r=some (.ins C [])/\(∀ x,X x->x≠r/\G x≠none)/\∀ G' L,RAt C r X G' ⟨.prog,[],0,none⟩ 0 L->(∀ x,X x->G' x=G x)->Q .non G'
def q7q (C:Addr):DSp:=λ ds G Q=>∃ (r:Addr) (X:Addr->Prop) (aw:Aw) (fs:List Fmr) (w n:Nat) (L:Lay) (p:Tm),ds=[.ref r,p.enc]/\RAt C r X G ⟨aw,fs,w,none⟩ n L/\(∀ f∈fs,f.z∈words7/\f.ps.length < iAq f.z) ∧
  ∀ G' L',RAt C r X G' (jKq p fs w) n L'->(∀ x,X x->G' x=G x)->Q .non G'
theorem jWq:∀ {z:Str},z∈words7->o7q z=some (.int (iAq z:Nat)):=by
  intro z hz
  simp only [words7,List.mem_cons,List.not_mem_nil,or_false] at hz
  rcases hz with rfl | rfl | rfl | rfl | rfl | rfl | rfl<;>rfl
def nKq (C:Addr):DSp:=λ ds G Q=>∃ (r:Addr) (X:Addr->Prop) (s:Rst) (n:Nat) (L:Lay) (i:Nat),ds=[.ref r,.str (a8q i)]/\RAt C r X G s n L/\i < s.w/\Q (.int ((s.w:Int) - 1 - i)) G
theorem RAt.more {C r:Addr} {X:Addr->Prop} {G:DV} {s:Rst} {n:Nat} {L:Lay} (h:RAt C r X G s n L) (hn:n+1<=20000):RAt C r X G s (n+1) L:=
  { h with few:=by obtain ⟨f1,f2,f3,f4,f5⟩:=h.few;exact ⟨by omega,by omega,f3,f4,hn⟩ }
def jBq (C:Addr):DSp:=λ ds G Q=>∃ (r:Addr) (X:Addr->Prop) (fs:List Fmr) (w n:Nat) (L:Lay) (z:Str),ds=[.ref r,.str z]/\RAt C r X G ⟨.word,fs,w,none⟩ n L/\n+1<=20000/\z∈words7 ∧
  (z = "way"->∀ G' L',RAt C r X G' ⟨.name,fs,w,none⟩ (n+1) L'->(∀ x,X x->G' x=G x)->Q (.bl true) G')/\(z≠"way"->∀ G' L',RAt C r X G' ⟨.prog,⟨z,none,[]⟩::fs,w,none⟩ (n+1) L'->(∀ x,X x->G' x=G x)->Q (.bl true) G')
section
variable {C r:Addr} {X:Addr->Prop} {G:DV} {n:Nat} {L:Lay} {aw aw':Aw} {fs:List Fmr} {w:Nat}
theorem RAt.ls_mem {s:Rst} (h:RAt C r X G s n L) {x:Addr} (hx:x∈L.ls):∃ ds,G x=some (.lst ds):=by
  obtain ⟨i,hi,e⟩:=List.getElem_of_mem hx
  have hi2:i < s.fs.length:=by have:=h.len;omega
  refine ⟨_,h.frs (s.fs[i],x) ?_⟩
  rw [List.mem_iff_getElem]
  exact ⟨i,by rw [List.length_zip];omega,by rw [List.getElem_zip,e]⟩
theorem RAt.bindOld (h:RAt C r X G ⟨aw,fs,w,none⟩ n L) (hw:w < 100) {b:Addr} (hb:L.bd w=some b):RAt C r X (up (up G b (.lst [.int w])) r (nFq C L.lb L.ld ⟨aw',fs,w+1,none⟩)) ⟨aw',fs,w+1,none⟩ n L:=by
  have gb:=h.bnd w b hb
  have nb:=h.ne_lst gb
  have other:∀ {x:Addr} {o:DO},G x=some o->x≠r->x≠b->up (up G b (.lst [.int w])) r (nFq C L.lb L.ld ⟨aw',fs,w+1,none⟩) x=some o:=λ e n1 n2=>by
    rw [a9q n1,a9q n2];exact e
  have lbb:L.lb≠b:=λ e=>h.apb w b hb (by rw [e];simp)
  refine ⟨a6q,other h.stk (h.ne_lst h.stk).1 lbb,h.len,λ z hz=>other (h.frs z hz) (h.ne_lst (h.frs z hz)).1 (λ e=>h.apb w b hb (by rw [<- e];exact List.mem_cons_of_mem _ (List.of_mem_zip hz).2)),other h.dic h.ld_r nb.2.symm,h.key,λ j b' e=>?_,λ j hj=>?_,h.nd,h.apb,h.inj,h.apx,λ x hx=>?_,?_⟩
  . by_cases c:j=w
    . subst c
      rw [hb] at e;cases e
      rw [a9q nb.1,a6q,if_pos (by simp)]
    . have nbb:b'≠b:=λ e2=>c (h.inj j w b (e2 ▸ e) hb)
      have z:=other (h.bnd j b' e) (h.ne_lst (h.bnd j b' e)).1 nbb
      rw [z]
      by_cases c2:j < w
      . rw [if_pos c2,if_pos (by show j < w+1;omega)]
      . rw [if_neg c2,if_neg (by show ¬ j < w+1;omega)]
  . by_cases c:j=w
    . subst c;rw [hb];rfl
    . exact h.has j (by have:j < w+1:=hj;show j < w;omega)
  . obtain ⟨a1,a2,a3,a4,a5⟩:=h.apx x hx
    rw [a9q a1,a9q (by rintro rfl;exact a5 w hb)];exact h.liv x hx
  . obtain ⟨f1,f2,f3,f4,f5⟩:=h.few
    exact ⟨f1,f2,f3,by show w+1<=100;omega,f5⟩
theorem iSq:∀ i < 100,∀ j < 100,a8q i=a8q j->i=j:=by decide +kernel
theorem RAt.bindNew (h:RAt C r X G ⟨aw,fs,w,none⟩ n L) (hw:w < 100) {p:Addr} (hp:G p=none) (hn:n+1<=20000) (hb:L.bd w=none) :
    RAt C r X (up (up G p (.lst [])) L.ld (.dK (putKD L.kvs (.inr (a8q w)) (.ref p)))) ⟨aw,fs,w,none⟩ (n+1) { L with kvs:=putKD L.kvs (.inr (a8q w)) (.ref p),bd:=λ j=>if j=w then some p else L.bd j }:=by
  have np:∀ {x:Addr} {o:DO},G x=some o->x≠p:=λ e=>by rintro rfl;rw [hp] at e;cases e
  have other:∀ {x:Addr} {o:DO},G x=some o->x≠L.ld->up (up G p (.lst [])) L.ld (.dK (putKD L.kvs (.inr (a8q w)) (.ref p))) x=some o:=λ e n1=>by
    rw [a9q n1,a9q (np e)];exact e
  have bdc:∀ {j:Nat} {b:Addr},(if j=w then some p else L.bd j)=some b->(j=w/\b=p)\/(j≠w/\L.bd j=some b):=λ{j b} e=>by
    split at e
    . next c=>cases e;exact .inl ⟨c,rfl⟩
    . next c=>exact .inr ⟨c,e⟩
  refine ⟨other h.ins h.ld_r.symm,other h.stk (h.ne_lst h.stk).2,h.len,λ z hz=>other (h.frs z hz) (h.ne_lst (h.frs z hz)).2,a6q,λ j hj=>?_,λ j b e=>?_,λ j hj=>?_,h.nd,λ j b e=>?_,λ i j b e1 e2=>?_,λ x hx=>?_,λ x hx=>?_,?_⟩
  . show dIq (putKD L.kvs (.inr (a8q w)) (.ref p)) _=(if j=w then some p else L.bd j).map D.ref
    rw [pMq]
    by_cases c:j=w
    . subst c;rw [if_pos rfl,if_pos rfl];rfl
    . rw [if_neg (λ e=>c (iSq j hj w hw (Sum.inr.inj e))),if_neg c];exact h.key j hj
  . rcases bdc e with ⟨rfl,rfl⟩ | ⟨c,e⟩
    . rw [a9q (np h.dic).symm,a6q,if_neg (Nat.lt_irrefl _)]
    . exact other (h.bnd j b e) (h.ne_lst (h.bnd j b e)).2
  . have hj':j < w:=hj
    show (if j=w then some p else L.bd j).isSome=true
    rw [if_neg (by omega)];exact h.has j hj
  . rcases bdc e with ⟨rfl,rfl⟩ | ⟨c,e⟩
    . intro hm
      rcases List.mem_cons.mp hm with e2 | hm
      . exact np h.stk e2.symm
      . obtain ⟨ds,e2⟩:=h.ls_mem hm;rw [hp] at e2;cases e2
    . exact h.apb j b e
  . rcases bdc e1 with ⟨ei,rfl⟩ | ⟨c1,e1⟩
    . rcases bdc e2 with ⟨ej,_⟩ | ⟨c2,e2⟩
      . exact ei.trans ej.symm
      . exact absurd rfl (np (h.bnd _ _ e2))
    . rcases bdc e2 with ⟨_,eb⟩ | ⟨c2,e2⟩
      . exact absurd eb (np (h.bnd _ _ e1))
      . exact h.inj i j b e1 e2
  . obtain ⟨a1,a2,a3,a4,a5⟩:=h.apx x hx
    refine ⟨a1,a2,a3,a4,λ j e=>?_⟩
    rcases bdc e with ⟨rfl,rfl⟩ | ⟨c,e⟩
    . exact h.liv _ hx hp
    . exact a5 j e
  . obtain ⟨a1,a2,a3,a4,a5⟩:=h.apx x hx
    have hne:x≠p:=by rintro rfl;exact h.liv _ hx hp
    rw [a9q a3,a9q hne];exact h.liv x hx
  . obtain ⟨f1,f2,f3,f4,f5⟩:=h.few
    have:=lSq L.kvs (.inr (a8q w)) (.ref p)
    exact ⟨by show (putKD L.kvs (.inr (a8q w)) (.ref p)).length<=n+1;omega,by omega,f3,f4,hn⟩
end
theorem RAt.new {C r:Addr} {X:Addr->Prop} {G:DV} {s:Rst} {n:Nat} {L:Lay} (h:RAt C r X G s n L) {p:Addr} (hp:G p=none) (o:DO):RAt C r X (up G p o) s n L:=by
  have other:∀ {x:Addr} {u:DO},G x=some u->up G p o x=some u:=λ e=>by
    rw [a9q (by rintro rfl;rw [hp] at e;cases e)];exact e
  exact { h with ins:=other h.ins,stk:=other h.stk,frs:=λ z hz=>other (h.frs z hz),dic:=other h.dic,bnd:=λ j b e=>other (h.bnd j b e),liv:=λ x hx=>by rw [a9q (by rintro rfl;exact h.liv _ hx hp)];exact h.liv x hx }
def iPq (C:Addr):DSp:=λ ds G Q=>∃ (r:Addr) (X:Addr->Prop) (fs:List Fmr) (w n:Nat) (L:Lay),ds=[.ref r,.str (a8q w)]/\RAt C r X G ⟨.name,fs,w,none⟩ n L/\n+2<=20000/\w < 100 ∧
  ∀ G' L',RAt C r X G' ⟨.prog,⟨"way", some w,[]⟩::fs,w+1,none⟩ (n+2) L'->(∀ x,X x->G' x=G x)->Q (.bl true) G'
section
variable {C r:Addr} {X:Addr->Prop} {G:DV} {n:Nat} {L:Lay} {aw:Aw} {fs:List Fmr} {w:Nat}
theorem RAt.pop {f:Fmr} {l:Addr} {ls:List Addr} (h:RAt C r X G ⟨aw,f::fs,w,none⟩ n L) (el:L.ls=l::ls) :
    RAt C r X (up G L.lb (.lst ((fs.zip ls).reverse.map λ z=>frD z.1 z.2))) ⟨aw,fs,w,none⟩ n { L with ls:=ls }:=by
  have nb:=h.ne_lst h.stk
  have nd:=h.nd
  rw [el] at nd
  obtain ⟨n1,n2⟩:=List.nodup_cons.mp nd
  obtain ⟨n3,n4⟩:=List.nodup_cons.mp n2
  have other:∀ {x:Addr} {o:DO},G x=some o->x≠L.lb->up G L.lb (.lst ((fs.zip ls).reverse.map λ z=>frD z.1 z.2)) x=some o:=λ e n1=>by rw [a9q n1];exact e
  have hl:=h.len
  rw [el] at hl
  refine ⟨other h.ins nb.1.symm,a6q,by simpa using hl,λ z hz=>?_,other h.dic nb.2.symm,h.key,λ j b e=>other (h.bnd j b e) (λ e2=>h.apb j b e (by rw [e2];simp)),h.has,List.nodup_cons.mpr ⟨λ hm=>n1 (List.mem_cons_of_mem _ hm),n4⟩,λ j b e hm=>?_,h.inj,λ x hx=>?_,λ x hx=>?_,?_⟩
  . have hm:z.2∈ls:=(List.of_mem_zip hz).2
    exact other (h.frs z (by rw [el];exact List.mem_cons_of_mem _ hz)) (λ e=>n1 (by rw [<- e];exact List.mem_cons_of_mem _ hm))
  . rcases List.mem_cons.mp hm with e2 | hm
    . exact h.apb j b e (by rw [e2];simp)
    . exact h.apb j b e (by rw [el];exact List.mem_cons_of_mem _ (List.mem_cons_of_mem _ hm))
  . obtain ⟨a1,a2,a3,a4,a5⟩:=h.apx x hx
    exact ⟨a1,a2,a3,λ hm=>a4 (by rw [el];exact List.mem_cons_of_mem _ hm),a5⟩
  . rw [a9q (h.apx x hx).2.1];exact h.liv x hx
  . obtain ⟨f1,f2,f3,f4,f5⟩:=h.few
    exact ⟨f1,by simp only [List.length_cons] at *;omega,λ g hg=>f3 g (List.mem_cons_of_mem _ hg),f4,f5⟩
theorem RAt.unbind (h:RAt C r X G ⟨aw,fs,w+1,none⟩ n L) {b:Addr} (hb:L.bd w=some b):RAt C r X (up (up G r (nFq C L.lb L.ld ⟨aw,fs,w,none⟩)) b (.lst [])) ⟨aw,fs,w,none⟩ n L:=by
  have gb:=h.bnd w b hb
  have nb:=h.ne_lst gb
  have other:∀ {x:Addr} {o:DO},G x=some o->x≠r->x≠b->up (up G r (nFq C L.lb L.ld ⟨aw,fs,w,none⟩)) b (.lst []) x=some o:=λ e n1 n2=>by
    rw [a9q n2,a9q n1];exact e
  have lbb:L.lb≠b:=λ e=>h.apb w b hb (by rw [e];simp)
  refine ⟨by rw [a9q nb.1.symm];exact a6q,other h.stk (h.ne_lst h.stk).1 lbb,h.len,λ z hz=>other (h.frs z hz) (h.ne_lst (h.frs z hz)).1 (λ e=>h.apb w b hb (by rw [<- e];exact List.mem_cons_of_mem _ (List.of_mem_zip hz).2)),other h.dic h.ld_r nb.2.symm,h.key,λ j b' e=>?_,λ j hj=>h.has j (by have:j < w:=hj;show j < w+1;omega),h.nd,h.apb,h.inj,h.apx,λ x hx=>?_,?_⟩
  . by_cases c:j=w
    . subst c
      rw [hb] at e;cases e
      rw [a6q,if_neg (Nat.lt_irrefl _)]
    . have nbb:b'≠b:=λ e2=>c (h.inj j w b (e2 ▸ e) hb)
      have z:=other (h.bnd j b' e) (h.ne_lst (h.bnd j b' e)).1 nbb
      rw [z]
      by_cases c2:j < w
      . rw [if_pos c2,if_pos (by show j < w+1;omega)]
      . rw [if_neg c2,if_neg (by show ¬ j < w+1;omega)]
  . obtain ⟨a1,a2,a3,a4,a5⟩:=h.apx x hx
    rw [a9q (by rintro rfl;exact a5 w hb),a9q a1];exact h.liv x hx
  . obtain ⟨f1,f2,f3,f4,f5⟩:=h.few
    exact ⟨f1,f2,f3,by have:w+1<=100:=f4;show w<=100;omega,f5⟩
end
def nGq (C:Addr):DSp:=λ ds G Q=>∃ (r:Addr) (X:Addr->Prop) (fs:List Fmr) (w n:Nat) (L:Lay) (t:Tm),ds=[.ref r,.str ")"]/\(∀ f∈fs,f.z∈words7/\f.ps.length < iAq f.z) ∧
  ((t.node2=true/\RAt C r X G ⟨.brk,⟨t.word,none,t.inn⟩::fs,w,none⟩ n L/\∀ G' L',RAt C r X G' (jKq t fs w) n L'->(∀ x,X x->G' x=G x)->Q (.bl true) G') ∨
   (w < 100/\RAt C r X G ⟨.brk,⟨"way", some w,[t]⟩::fs,w+1,none⟩ n L/\∀ G' L',RAt C r X G' (jKq (.way t) fs w) n L'->(∀ x,X x->G' x=G x)->Q (.bl true) G'))
end L3
set_option Elab.async false
set_option linter.all false
set_option maxRecDepth 100000
namespace L3
open PySem L2 PySem.NumText PyProof.Rows PySem.W PySem.W.KIN
theorem m6q {m:Nat} (h:m < 10 ^ 9):(dg m).length<=9:=by
  rw [List.length_map];exact toDigits_len_pow (by decide) (by decide) h
theorem qOq {n:Int} (h:n.natAbs < 10 ^ 9):rBq (bRq n)=true:=by
  cases n with
  | ofNat m=>
    have e:=iJq m
    have l:(dg m).length<=9:=m6q h
    have b:bare (bRq (m:Int))=bRq (m:Int):=by
      unfold bare
      rw [dash,bUq,e,if_neg]
      intro c
      have c:=eq_of_beq c
      cases hd:dg m with
      | nil=>exact j9q m hd
      | cons x r=>
        rw [hd] at c;cases c
        have:=bPq m 45 (by rw [hd];exact List.mem_cons_self ..)
        omega
    have hl:(bRq (m:Int)).cps.toList.length=(bRq (m:Int)).length:=Array.length_toList
    have l1:1<=(dg m).length:=List.length_pos_iff.mpr (j9q m)
    rw [e] at hl
    show rBq (bRq (m:Int))=true
    unfold rBq
    rw [b,jQq e,r2q,bUq,e,decide_eq_true (by omega),decide_eq_true (by omega)]
    by_cases h0:m=0
    . subst h0;decide +kernel
    . have:=mWq m (by omega)
      have hh:((dg m).head?==some 48)=false:=by rw [beq_eq_false_iff_ne];exact this
      rw [hh];rfl
  | negSucc m=>
    have e:=iFq m
    have l:=m6q (m:=m+1) h
    have hl:(bRq (Int.negSucc m)).cps.toList.length=(bRq (Int.negSucc m)).length:=Array.length_toList
    have b:(bare (bRq (Int.negSucc m))).cps.toList=dg (m+1):=by
      unfold bare
      rw [dash,bUq,e,if_pos (by rfl),PyProof.Rows.slice_from_eq (by decide) (by rw [<- hl,e,List.length_cons];omega) rfl]
      show (((bRq (Int.negSucc m)).cps.toList.drop 1).take _)=_
      rw [e,List.drop_succ_cons,List.drop_zero,List.take_of_length_le]
      rw [<- hl,e,List.length_cons]
      omega
    have hb:(bare (bRq (Int.negSucc m))).cps.toList.length=(bare (bRq (Int.negSucc m))).length:=Array.length_toList
    have l1:1<=(dg (m+1)).length:=List.length_pos_iff.mpr (j9q _)
    rw [b] at hb
    unfold rBq
    rw [jQq b,r2q,bUq,b,decide_eq_true (by omega),decide_eq_true (by omega)]
    have hh:((dg (m+1)).head?==some 48)=false:=by rw [beq_eq_false_iff_ne];exact mWq _ (by omega)
    rw [hh];rfl
theorem u8q {n:Int} {z:Str} {c:Nat} (e:z.cps.toList=[c]) (hc:c < 45):(bRq n==z)=false:=by
  rw [beq_eq_false_iff_ne]
  intro h
  have:=(m1q n).1 c (by rw [h,e];exact List.mem_cons_self ..)
  omega
theorem pTq:∀ n < 100,rBq (a8q n)=false/\(a8q n=="(")=false:=by decide +kernel
def okF (f:Fmr):Prop:=f.z∈words7/\f.ps.length < iAq f.z
def Gs (s:Rst):Prop:=match s.aw with
  | .brk=>∀ f r,s.fs=f::r->f.z∈words7/\∀ g∈r,okF g
  | _=>∀ g∈s.fs,okF g
theorem jSq {p:Tm} {fs:List Fmr} {w:Nat} (h:∀ g∈fs,okF g):Gs (jKq p fs w):=by
  cases fs with
  | nil=>exact λ g hg=>absurd hg List.not_mem_nil
  | cons f r=>
    obtain ⟨h1,h2⟩:=h f (List.mem_cons_self ..)
    have hr:∀ g∈r,okF g:=λ g hg=>h g (List.mem_cons_of_mem _ hg)
    by_cases c:f.ps.length+1=iAq f.z
    . have e:jKq p (f::r) w=⟨.brk,⟨f.z,f.nm,f.ps++[p]⟩::r,w,none⟩:=b8q c
      rw [e]
      intro f' r' e'
      cases e'
      exact ⟨h1,hr⟩
    . have e:jKq p (f::r) w=⟨.prog,⟨f.z,f.nm,f.ps++[p]⟩::r,w,none⟩:=bLq c
      rw [e]
      intro g hg
      rcases List.mem_cons.mp hg with rfl | hg
      . exact ⟨h1,by simp only [List.length_append,List.length_cons,List.length_nil];omega⟩
      . exact hr g hg
theorem rUq:∀ z∈words7,0 < iAq z:=by decide +kernel
theorem uWq {s s':Rst} {x:List Nat} (h:Stq s x s') (g:Gs s):Gs s':=by
  cases h with
  | opn=>exact g
  | kw z hz hw=>
    intro f hf
    rcases List.mem_cons.mp hf with rfl | hf
    . exact ⟨hz,rUq z hz⟩
    . exact g f hf
  | kway=>exact g
  | nam hw=>
    intro f hf
    rcases List.mem_cons.mp hf with rfl | hf
    . exact ⟨show ("way" : Str)∈words7 by decide +kernel,show 0 < iAq ("way" : Str) by decide +kernel⟩
    . exact g f hf
  | whole k hk=>exact jSq g
  | name j hj hw=>exact jSq g
  | cls t ht=>exact jSq (g _ _ rfl).2
  | clsW t ht=>exact jSq (g _ _ rfl).2
def iTq (C:Addr):DSp:=λ ds G Q=>∃ (r:Addr) (X:Addr->Prop) (s:Rst) (n:Nat) (L:Lay) (x:List Nat) (s':Rst),ds=[.ref r,wD x]/\RAt C r X G s n L/\n+2<=20000/\Gs s/\Stq s x s' ∧
  ∀ G' L',RAt C r X G' s' (n+2) L'->(∀ x,X x->G' x=G x)->Q (.bl true) G'
def iIq (C:Addr):DSp:=λ ds G Q=>∃ (r:Addr) (X:Addr->Prop) (fs:List Fmr) (w n:Nat) (L:Lay) (x:List Nat) (s':Rst),ds=[.ref r,wD x]/\RAt C r X G ⟨.prog,fs,w,none⟩ n L/\n+2<=20000/\(∀ f∈fs,okF f)/\Stq ⟨.prog,fs,w,none⟩ x s' ∧
  ∀ G' L',RAt C r X G' s' (n+2) L'->(∀ x,X x->G' x=G x)->Q (.bl true) G'
theorem RAt.more2 {C r:Addr} {X:Addr->Prop} {G:DV} {s:Rst} {n:Nat} {L:Lay} (h:RAt C r X G s n L) (hn:n+2<=20000):RAt C r X G s (n+2) L:=
  (h.more (by omega)).more (by omega)
def iXq:DSp:=λ ds G Q=>∃ t:Tm,ds=[.str (ofL (t.tl 0))]/\t.cl 0/\t.dp < 100/\t.sz<=200/\Q t.enc G
theorem zJq (t:Tm):Ad t.enc:=by
  induction t with
  | name n=>exact .tup λ e he=>by simp at he;rcases he with rfl | rfl<;>constructor
  | whole n=>exact .tup λ e he=>by simp at he;rcases he with rfl | rfl<;>constructor
  | way t h=>exact .tup λ e he=>by simp at he;rcases he with rfl | rfl;constructor;exact h
  | first t h=>exact .tup λ e he=>by simp at he;rcases he with rfl | rfl;constructor;exact h
  | second t h=>exact .tup λ e he=>by simp at he;rcases he with rfl | rfl;constructor;exact h
  | give t u h k=>exact .tup λ e he=>by simp at he;rcases he with rfl | rfl | rfl;constructor;exact h;exact k
  | pair t u h k=>exact .tup λ e he=>by simp at he;rcases he with rfl | rfl | rfl;constructor;exact h;exact k
  | plus t u h k=>exact .tup λ e he=>by simp at he;rcases he with rfl | rfl | rfl;constructor;exact h;exact k
  | look t u v h k l=>exact .tup λ e he=>by simp at he;rcases he with rfl | rfl | rfl | rfl;constructor;exact h;exact k;exact l
theorem aC0q (t:Tm):t.enc.dp<=t.dp+2:=by
  induction t<;>simp only [Tm.enc,Tm.dp,D.dp,jHq]<;>omega
def iKq:DSp:=λ ds G Q=>∃ t:Tm,ds=[t.enc,.str (ofL (t.tl 0))]/\t.cl 0/\t.dp<=90/\t.sz<=200/\Q (.bl true) G
theorem iQq:∀ (l cur:List Nat),(wds cur l).length<=l.length+(if cur=[] then 0 else 1)
  | [],cur=>by
    rw [wds]
    by_cases h:cur=[]
    . rw [if_pos h,if_pos h];simp
    . rw [if_neg h,if_neg h];simp
  | c::l,cur=>by
    have i0:=iQq l []
    have i1:=iQq l (cur++[c])
    rw [if_pos rfl] at i0
    have e:¬ cur++[c]=[]:=by simp
    rw [if_neg e] at i1
    rw [wds]
    by_cases h:cur=[]
    . rw [if_pos h,if_pos h]
      split
      . simp only [List.length_append,List.length_cons,List.length_nil];omega
      . split
        . simp only [List.length_append,List.length_cons,List.length_nil];omega
        . simp only [List.length_cons];omega
    . rw [if_neg h,if_neg h]
      split
      . simp only [List.length_append,List.length_cons,List.length_nil];omega
      . split
        . simp only [List.length_append,List.length_cons,List.length_nil];omega
        . simp only [List.length_cons];omega
end L3
namespace KB
open PySem L2
def top (i:Nat):Stmt:=PySem.Challenge.pw_kindbags_k13_whole_written_and_read.main.body.getD i (.Pass ⟨0,0,0,0⟩)
structure Blt (mg:Str->Option Value):Prop where
  len:mg "len" = none
  isinstance:mg "isinstance" = none
  range:mg "range" = none
  int:mg "int" = none
  bool:mg "bool" = none
  str:mg "str" = none
  tuple:mg "tuple" = none
  list:mg "list" = none
  zip:mg "zip" = none
  sorted:mg "sorted" = none
  all:mg "all" = none
  reversed:mg "reversed" = none
  enumerate:mg "enumerate" = none
end KB
namespace KB
open PySem
abbrev e0q:List Str:=["program"]
abbrev i2q:List Str:=["thing", "spelled"]
abbrev h2q:List Str:=["word", "things"]
abbrev dVq:List Str:=["text"]
abbrev dEq:List Str:=["text"]
abbrev e2q:List Str:=["text"]
abbrev fMq:List Str:=["text", "most"]
abbrev d7q:List Str:=["text", "signs"]
abbrev d8q:List Str:=["number"]
abbrev d6q:List Str:=["letters"]
abbrev c0q:List Str:=["rank"]
abbrev eXq:List Str:=["program"]
abbrev cTq:List Str:=["entry"]
abbrev fEq:List Str:=["text"]
abbrev dBq:List Str:=["self"]
abbrev d2q:List Str:=["self", "word"]
abbrev d4q:List Str:=["self", "word"]
abbrev d5q:List Str:=["self", "word"]
abbrev dAq:List Str:=["self", "word"]
abbrev dZq:List Str:=["self", "word"]
abbrev eWq:List Str:=["self", "name"]
abbrev e8q:List Str:=["self", "program"]
abbrev fNq:List Str:=["_law_script", "_law_k"]
abbrev fGq:List Str:=["_law_feed_here", "_law_many"]
abbrev dTq:List Str:=["_law_feed_here"]
abbrev f6q:List Str:=["_law_feed_here", "_law_ways"]
abbrev hLq:List Str:=["_law_feed_here", "_law_ways", "_law_room", "_law_deep"]
abbrev eCq:List Str:=["_law_number"]
abbrev eGq:List Str:=["_law_program", "_law_names"]
abbrev eKq:List Str:=["_law_found"]
abbrev f9q:List Str:=["_law_program", "_law_text_here"]
abbrev hQq:List Str:=["_law_feed_here"]
end KB
namespace KB
open PySem L2 L3
section
variable {P:Program} {w:World} {K:PySem.W.Frag} {mg:Str->Option Value} {base:Heap} {f:Addr} {fd:FuncData}
set_option maxHeartbeats 4000000
abbrev iWq:Stmt:=top 29
theorem sc_take:FnScope ["_law_feed_here", "_law_many", "_law_digit", "_law_one"] ["_law_feed_here", "_law_many"] (a5q iWq):=⟨rfl,rfl,rfl,by decide +kernel,rfl,by decide +kernel,by decide +kernel⟩
theorem sPq (F:Fun K "_law_take" "_law_take" iWq f fd):FnOk P w K mg base CX0 1 f fd ["_law_feed_here", "_law_many"] (aMq K cMq):=by
  refine okD (k:=0) F sc_take (λ ds G DQ h=>?_) (λ cdv A outer s H E hr ds G DQ h=>?_)
  . unfold cMq at h;split at h
    . rfl
    . exact h.elim
  unfold cMq at h;split at h
  case h_2=>exact h.elim
  next a m=>
  obtain ⟨⟨x,y,hF⟩,h0,h1,q⟩:=h
  refine ⟨_,(a3q (aTq (aKq fHq (aWq aix (a1q 0) a2q (λ _ _=>rfl)) a2q (aJq _)) (a3q (aGq (k:=2) sc_take.nd rfl (Or.inl rfl) (aFq bJq (aWq aix (a1q 0) a2q (λ _ _=>rfl)) (a1q 1)))
      (a3q (r8q (aFq dMq (aWq aix (a1q 0) a2q (λ _ _=>rfl)) (a1q 1)) (rHq (a1q 0) a2q))
      (a7q (aDq (a1q 2))))) aOq)
      (a3q (aGq (k:=3) sc_take.nd rfl (Or.inl rfl) (aFq bJq (aFq bXq (aWq aix (a1q 0) a2q (λ _ _=>rfl)) a2q) a2q))
      (a3q (r8q (aFq aLq (aFq bJq (aFq aLq (aFq bXq (a1q 3) a2q) a2q) a2q) a2q) (rHq (a1q 0) a2q))
      (a7q (aDq (aFq bJq (aFq dMq (aFq aLq (aFq bXq (a1q 3) a2q) (aWq aix (a1q 0) a2q (λ _ _=>rfl))) a2q) (a1q 1))))))),?_⟩
  refine aSq hF ⟨λ c=>?_,λ c=>?_⟩
  . refine aSq hF ⟨h0,aSq hF ⟨⟨h0,by omega⟩,b5q hF ⟨0,rfl,Dr.of (q _ _ .mk (Int.emod_nonneg _ (by omega)) (Int.emod_lt_of_pos _ h0))⟩⟩⟩
  . refine aSq hF ⟨.inr ⟨by decide,by decide⟩,by simp,.inr ⟨by decide,by decide⟩,by simp,b5q hF ⟨1,rfl,.inr ⟨by decide,by decide⟩,aSq a6q ⟨⟨by decide,by decide⟩,h0,Dr.of (q _ _ .mk (Int.emod_nonneg _ (by omega)) (Int.emod_lt_of_pos _ h0))⟩⟩⟩
abbrev iOq:Stmt:=top 28
theorem sc_feed:FnScope ["_law_script", "_law_k", "_law_cell", "_law_own"] ["_law_script", "_law_k"] (a5q iOq):=⟨rfl,rfl,rfl,by decide +kernel,rfl,by decide +kernel,by decide +kernel⟩
theorem rSq (B:Blt mg) (F:Fun K "_law_feed" "_law_feed" iOq f fd):FnOk P w K mg base CX0 1 f fd ["_law_script", "_law_k"] (aMq K h3q):=by
  refine okD (k:=0) F sc_feed (λ ds G DQ h=>?_) (λ cdv A outer s H E hr ds G DQ h=>?_)
  . unfold h3q at h;split at h
    . rfl
    . exact h.elim
  unfold h3q at h;split at h
  case h_2=>exact h.elim
  next ss k=>
  obtain ⟨ns,rfl,hl,h0,h1,q⟩:=h
  have fin:∀ x y:Int,∀ p,G p=none->Dr DQ (.ref p) (up G p (fed x y)):=λ x y p hp=>Dr.of (q p x y hp)
  have at_ok:∀ j:Int,0<=j->j < ns.length->∃ v,atI (ns.map D.int) j=some (.int v):=λ j j0 j1=>by
    refine ⟨ns[j.toNat],?_⟩
    have e:=cDq (xs:=ns.map D.int) (j:=j.toNat) (v:=D.int ns[j.toNat]) (by simp [show j.toNat < ns.length by omega])
    rwa [show ((j.toNat:Nat):Int)=j by omega] at e
  refine ⟨_,(a3q (aGq (k:=2) sc_feed.nd rfl (Or.inl rfl) (aFq aLq (aFq bXq a2q (a1q 1)) a2q))
      (a3q (aTq (aKq dDq (a1q 1) (aUq b7q rfl B.len PySem.boot_len (a0q (a1q 0) a4q)) (aJq _)) (a7q (aGq (k:=2) sc_feed.nd rfl (Or.inl rfl) (aWq aix (a1q 0) (a1q 1) (λ _ _=>rfl)))) (a7q (aTq (aKq fHq (aUq b7q rfl B.len PySem.boot_len (a0q (a1q 0) a4q)) a2q (aJq _)) (a7q (aGq (k:=2) sc_feed.nd rfl (Or.inl rfl) (aFq aLq (aFq bXq (aFq bJq (aWq aix (a1q 0) (aFq bJq (a1q 1) (aUq b7q rfl B.len PySem.boot_len (a0q (a1q 0) a4q))) (λ _ _=>rfl)) a2q) a2q) (aFq bXq a2q (a1q 1))))) aOq)))
      (a3q (aGq (k:=3) sc_feed.nd rfl (Or.inl rfl) a2q)
      (a3q (aTq (aKq w3q (a1q 2) (aFq sAq a2q a2q) (aJq _)) (a7q (aGq (k:=3) sc_feed.nd rfl (Or.inl rfl) (a1q 2))) aOq)
      (a7q (aDq (bMq (a0q (a1q 3) (a0q (aFq aLq (aFq bJq (aFq aLq (aFq bXq (aFq bJq (a1q 2) a2q) a2q) (aFq bXq a2q (a1q 1))) a2q) a2q) a4q))))))))),?_⟩
  refine ⟨.inl ⟨by decide,by decide⟩,⟨λ c=>?_,λ c=>?_⟩⟩
  . have c':k < ns.length:=by simpa using c
    obtain ⟨v,hv⟩:=at_ok k h0 c'
    refine (qYq hv ⟨⟨by decide,by decide,by decide⟩,λ c=>?_,λ c=>?_⟩)
    . exact ⟨by simp,.inr ⟨by decide,by decide⟩,.inl ⟨by decide,by decide⟩,by simp,λ p hp=>fin _ _ p hp⟩
    . exact ⟨by simp,.inr ⟨by decide,by decide⟩,.inl ⟨by decide,by decide⟩,by simp,λ p hp=>fin _ _ p hp⟩
  . refine ⟨λ c=>?_,λ c=>?_⟩
    . have c':0 < ns.length:=by
        have:(0:Int) < (ns.map D.int).length:=by simpa using c
        simpa using this
      obtain ⟨v,hv⟩:=at_ok (k % (ns.map D.int).length) (Int.emod_nonneg _ (show ((ns.map D.int).length:Int)≠0 by rw [List.length_map];omega)) (by have:=Int.emod_lt_of_pos k (show (0:Int) < (ns.map D.int).length by simpa using c');simpa using this)
      refine ⟨by simpa using c',?_⟩
      refine (qYq hv ⟨by simp,.inr ⟨by decide,by decide⟩,.inl ⟨by decide,by decide⟩,⟨by decide,by decide,by decide⟩,λ c=>?_,λ c=>?_⟩)
      . exact ⟨by simp,.inr ⟨by decide,by decide⟩,.inl ⟨by decide,by decide⟩,by simp,λ p hp=>fin _ _ p hp⟩
      . exact ⟨by simp,.inr ⟨by decide,by decide⟩,.inl ⟨by decide,by decide⟩,by simp,λ p hp=>fin _ _ p hp⟩
    . refine ⟨⟨by decide,by decide,by decide⟩,λ c=>?_,λ c=>?_⟩
      . exact ⟨by simp,.inr ⟨by decide,by decide⟩,.inl ⟨by decide,by decide⟩,by simp,λ p hp=>fin _ _ p hp⟩
      . exact ⟨by simp,.inr ⟨by decide,by decide⟩,.inl ⟨by decide,by decide⟩,by simp,λ p hp=>fin _ _ p hp⟩
abbrev h0q:Stmt:=top 2
theorem p4q:FnScope ["program"] ["program"] (a5q h0q):=⟨rfl,rfl,rfl,by decide +kernel,rfl,by decide +kernel,by decide +kernel⟩
theorem oAq (F:Fun K "inner" "inner" h0q f fd):FnOk P w K mg base CX0 1 f fd ["program"] (aMq K (s9q Tm.enc Tm.inn)):=by
  refine okD (k:=0) F p4q (λ ds G DQ h=>?_) (λ cdv A outer s H E hr ds G DQ h=>?_)
  . obtain ⟨t,rfl,_⟩:=h;rfl
  obtain ⟨t,rfl,q⟩:=h
  refine ⟨_,(a3q (aTq (AW.at (kBq (aKq (aYq (b6q hr)) (aWq aix (a1q 0) a2q (λ _ _=>rfl)) aCq (aJq _)) (hGq (aKq (aYq (b6q hr)) (aWq aix (a1q 0) a2q (λ _ _=>rfl)) aCq (aJq _))))) (a7q (aDq (bBq a4q))) aOq)
      (a7q (aDq (fZq asl (a1q 0) (jDq a2q) j0q)))),?_⟩
  cases t with
  | name k=>exact ⟨λ _=>⟨λ _=>Dr.of q,nofun⟩,λ c=>absurd c (by decide)⟩
  | whole k=>exact ⟨λ c=>absurd c (by decide),λ _=>⟨λ _=>Dr.of q,λ c=>absurd c (by decide)⟩⟩
  | _=>exact ⟨λ c=>absurd c (by decide),λ _=>⟨λ c=>absurd c (by decide),λ _=>Dr.of q⟩⟩
abbrev fRq:Stmt:=top 35
theorem sc_plain:FnScope ["_law_found", "_law_one"] ["_law_found"] (a5q fRq):=⟨rfl,rfl,rfl,by decide +kernel,rfl,by decide +kernel,by decide +kernel⟩
theorem p6q:FnOk P w K mg base CX0 1 f fd ["_law_found"] (aMq K (cKq 0)):=zXq λ ds G DQ h=>by obtain ⟨_,_,_,h,_⟩:=h;omega
theorem oLq {n:Nat} (B:Blt mg) (g_plain:Got P w K mg base (n+1) "_law_plain" ["_law_found"] (aMq K (cKq n))) (F:Fun K "_law_plain" "_law_plain" fRq f fd):FnOk P w K mg base CX0 (n+2) f fd ["_law_found"] (aMq K (cKq (n+1))):=by
  refine okD (k:=n+1) F sc_plain (λ ds G DQ h=>?_) (λ cdv A outer s H E hr ds G DQ h=>?_)
  . obtain ⟨_,rfl,_⟩:=h;rfl
  obtain ⟨d,rfl,ha,hd,q⟩:=h
  refine ⟨_,(a3q (aTq (b9q (aUq cLq rfl B.isinstance PyProof.Rows.boot_isinstance (a0q (a1q 0) (a0q (cXq rfl B.tuple PyProof.Rows.boot_tuple) a4q)))) (a3q (e9q PassesOwn.never rfl (f8q (a1q 0)) (bDq (k:=1) sc_plain.nd rfl (Or.inl rfl)) (a7q (aTq (i4q (b9q (aAq g_plain hr (by omega) rfl (a0q (a1q 1) a4q)))) (a7q (aDq cZq)) aOq)))
      (a7q (aDq cZq))) aOq)
      (a7q (aDq (fCq (aUq kYq rfl B.isinstance PyProof.Rows.boot_isinstance (a0q (a1q 0) (a0q (bBq (a0q (cXq rfl B.str PyProof.Rows.boot_str) (a0q (cXq rfl B.int PyProof.Rows.boot_int) a4q))) a4q))) (hNq (rJq (aUq cLq rfl B.isinstance PyProof.Rows.boot_isinstance (a0q (a1q 0) (a0q (cXq rfl B.bool PyProof.Rows.boot_bool) a4q))))))))),?_⟩
  cases ha with
  | int m=>exact ⟨false,rfl,⟨nofun,λ _=>⟨rfl,⟨λ _=>⟨false,rfl,Dr.of q⟩,nofun⟩⟩⟩⟩
  | str z=>exact ⟨false,rfl,⟨nofun,λ _=>⟨rfl,⟨λ _=>⟨false,rfl,Dr.of q⟩,nofun⟩⟩⟩⟩
  | @tup es hes=>
    refine ⟨true,rfl,⟨λ _=>?_,nofun⟩⟩
    refine ⟨λ i ρ G'=>∃ o1:Option D,ρ=[some (.tup es),o1]/\G=G',⟨_,rfl,rfl⟩,λ _ _ _ _ _=>trivial,?_,?_⟩
    . rintro i e ρ G' he ⟨o1,rfl,rfl⟩
      have he':es[i]?=some e:=he
      have hm:=List.mem_of_getElem? he'
      refine ⟨e,rfl,hes e hm,?_,⟨nofun,λ _=>Wk.of ⟨_,rfl,rfl⟩⟩⟩
      have:=jLq hm
      simp only [D.dp] at hd;omega
    . rintro ρ G' ⟨o1,rfl,rfl⟩
      exact Dr.of q
abbrev dOq:Stmt:=top 13
theorem nXq:FnScope ["text", "signs"] ["text", "signs"] (a5q dOq):=⟨rfl,rfl,rfl,by decide +kernel,rfl,by decide +kernel,by decide +kernel⟩
theorem m3q (B:Blt mg) (F:Fun K "made_of" "made_of" dOq f fd):FnOk P w K mg base CX0 1 f fd ["text", "signs"] (aMq K dHq):=by
  refine okD (k:=0) F nXq (λ ds G DQ h=>?_) (λ cdv A outer s H E hr ds G DQ h=>?_)
  . obtain ⟨_,_,rfl,_⟩:=h;rfl
  obtain ⟨z,y,rfl,hz,q⟩:=h
  refine ⟨_,(a7q (aDq (gZq (aUq (lKq rfl) rfl B.all PyProof.Rows.boot_all (a0q (iHq rfl (CompOk.of (N':=["sign", "signs"]) (nt:=1) (cap:=[1]) rfl (by kernel_rfl)) (c7q (k:=0) (by decide)) (r0q (a1q 0)) (λ _ _ _ _=>(bDq (k:=0) (show List.Nodup (["sign", "signs"]:List Str) by decide +kernel) rfl (Or.inl rfl))) (λ _ _ _ _=>(h5q vYq (a1q 0) (a1q 1) (by with_unfolding_all rfl)))) a4q))))),?_⟩
  refine fXq z.cps.toList (λ c=>.str ⟨#[c]⟩) (λ c=>.bl (decide (c∈y.cps.toList))) rfl (bCq ?_) trivial (λ c _ R hR=>?_) (λ p hp=>?_)
  . have:z.cps.toList.length=z.length:=rfl
    omega
  . show R (.bl (false ^^ !(Builtin.Str.occurrences y ⟨#[c]⟩ 0 y.length 1).isEmpty)) G
    rw [xZq,Bool.false_xor];exact hR
  . refine aSq a6q ⟨z.cps.toList.map λ c=>decide (c∈y.cps.toList),?_,G,Sub.new (Sub.refl _) hp,Dr.of ?_⟩
    . rw [show (z.cps.toList.map λ c=>D.bl (decide (c∈y.cps.toList)))=(z.cps.toList.map λ c=>decide (c∈y.cps.toList)).map D.bl by simp];exact eMq _
    . rw [List.all_map];exact q
abbrev eTq:Stmt:=top 10
theorem nDq:FnScope ["text"] ["text"] (a5q eTq):=⟨rfl,rfl,rfl,by decide +kernel,rfl,by decide +kernel,by decide +kernel⟩
theorem mSq {aI:Addr} (B:Blt mg) {tL:Tok} (m_LETTERS:mg "LETTERS" = some (.str letters tL)) (m_INNER_COUNTS:mg "INNER_COUNTS" = some (.ref aI)) (T_INNER_COUNTS:KTabD K w aI o7q) (g_madeof:Got P w K mg base 1 "made_of" ["text", "signs"] (aMq K dHq)) (F:Fun K "is_name" "is_name" eTq f fd):FnOk P w K mg base CX0 2 f fd ["text"] (aMq K jZq):=by
  refine okD (k:=1) F nDq (λ ds G DQ h=>?_) (λ cdv A outer s H E hr ds G DQ h=>?_)
  . obtain ⟨_,rfl,_⟩:=h;rfl
  obtain ⟨z,rfl,hz,q⟩:=h
  refine ⟨_,(a7q (aDq (fCq (qEq i9q i9q a2q (aUq b7q rfl B.len PySem.boot_len (a0q (a1q 0) a4q)) a2q) (fCq (aAq g_madeof hr (by omega) rfl (a0q (a1q 0) (a0q (cGq (d:=.str _) (v:=.str _) rfl m_LETTERS ⟨_,rfl⟩ (λ _=>rfl)) a4q))) (hNq (h5q (fDq T_INNER_COUNTS) (a1q 0) (cGq (d:=.ref _) (v:=.ref _) rfl m_INNER_COUNTS rfl (λ _=>rfl)) (by with_unfolding_all rfl))))))),?_⟩
  unfold s2q at q
  refine ⟨fSq (by omega),?_⟩
  refine ⟨λ c1=>⟨λ c2=>⟨z,letters,rfl,hz,⟨λ c3=>⟨rfl,Dr.of ?_⟩,λ c3=>Dr.of ?_⟩⟩,λ c2=>Dr.of ?_⟩,λ c1=>⟨λ c2=>zHq c2,λ _=>Dr.of ?_⟩⟩
  . rw [c1,c2,c3,<- lPq] at q;exact q
  . rw [c1,c2,c3] at q;exact q
  . rw [c1,c2] at q;exact q
  . rw [c1] at q;exact q
abbrev jAq:Stmt:=top 12
theorem sc_iswt:FnScope ["text", "most", "figures"] ["text", "most"] (a5q jAq):=⟨rfl,rfl,rfl,by decide +kernel,rfl,by decide +kernel,by decide +kernel⟩
theorem u6q (B:Blt mg) {tF:Tok} (m_FIGURES:mg "FIGURES" = some (.str figs tF)) (g_madeof:Got P w K mg base 1 "made_of" ["text", "signs"] (aMq K dHq)) (F:Fun K "is_whole_text" "is_whole_text" jAq f fd):FnOk P w K mg base CX0 2 f fd ["text", "most"] (aMq K gSq):=by
  refine okD (k:=1) F sc_iswt (λ ds G DQ h=>?_) (λ cdv A outer s H E hr ds G DQ h=>?_)
  . obtain ⟨_,rfl,_⟩:=h;rfl
  obtain ⟨z,rfl,hz,q⟩:=h
  refine ⟨_,(a3q (aGq (k:=2) sc_iswt.nd rfl (Or.inl rfl) (jOq (b9q (cQq PySem.F.plainAttrs_str PySem.F.slot_str_startswith PySem.F.type_str_startswith cAq (a1q 0) (a0q aCq a4q))) (fZq aslS (a1q 0) (jDq a2q) j0q) (a1q 0)))
      (a3q (aTq (i4q (AW.at (rGq (q8q i9q i9q a2q (aUq b7q rfl B.len PySem.boot_len (a0q (a1q 2) a4q)) (a1q 1)) (n5q (b9q (aAq g_madeof hr (by omega) rfl (a0q (a1q 2) (a0q (cGq (d:=.str _) (v:=.str _) rfl m_FIGURES ⟨_,rfl⟩ (λ _=>rfl)) a4q)))))))) (a7q (aDq cZq)) aOq)
      (a7q (aDq (zZq (rJq (cQq PySem.F.plainAttrs_str PySem.F.slot_str_startswith PySem.F.type_str_startswith cAq (a1q 2) (a0q aCq a4q))) (hNq (h5q (aYq (b6q hr)) (a1q 0) aCq (aJq _)))))))),?_⟩
  have hbl:=sBq z
  unfold rBq at q
  refine ⟨trivial,⟨λ hs=>⟨fSq (by omega),?_⟩,λ hs=>?_⟩⟩
  . rw [show Txt.slice z (some 1) none=bare z from (if_pos hs).symm]
    generalize bare z=y at q hbl ⊢
    refine ⟨fSq (by omega),⟨λ c1=>⟨λ c2=>⟨y,figs,rfl,by omega,⟨λ c3=>Dr.of ?_,λ c3=>⟨trivial,⟨λ c4=>Dr.of ?_,λ c4=>Dr.of ?_⟩⟩⟩⟩,λ c2=>⟨λ _=>Dr.of ?_,λ c=>yKq c⟩⟩,λ c1=>⟨λ c=>zHq c,λ _=>⟨λ _=>Dr.of ?_,λ c=>yKq c⟩⟩⟩⟩
    . rw [c1,c2,show e1q y figs=false by simpa using c3] at q;exact q
    . rw [c1,c2,show e1q y figs=true by simpa using c3,c4] at q;exact q
    . rw [c1,c2,show e1q y figs=true by simpa using c3,c4] at q;exact q
    . rw [c1,c2] at q;exact q
    . rw [c1] at q;exact q
  . rw [show bare z=z from if_neg (by rw [hs];decide)] at q
    refine ⟨fSq (by omega),⟨λ c1=>⟨λ c2=>⟨z,figs,rfl,by omega,⟨λ c3=>Dr.of ?_,λ c3=>⟨trivial,⟨λ c4=>Dr.of ?_,λ c4=>Dr.of ?_⟩⟩⟩⟩,λ c2=>⟨λ _=>Dr.of ?_,λ c=>yKq c⟩⟩,λ c1=>⟨λ c=>zHq c,λ _=>⟨λ _=>Dr.of ?_,λ c=>yKq c⟩⟩⟩⟩
    . rw [c1,c2,show e1q z figs=false by simpa using c3] at q;exact q
    . rw [c1,c2,show e1q z figs=true by simpa using c3,c4] at q;exact q
    . rw [c1,c2,show e1q z figs=true by simpa using c3,c4] at q;exact q
    . rw [c1,c2] at q;exact q
    . rw [c1] at q;exact q
abbrev gVq:Stmt:=top 11
theorem oTq:FnScope ["text"] ["text"] (a5q gVq):=⟨rfl,rfl,rfl,by decide +kernel,rfl,by decide +kernel,by decide +kernel⟩
theorem qGq (g_iswt:Got P w K mg base 2 "is_whole_text" ["text", "most"] (aMq K gSq)) (F:Fun K "is_figures" "is_figures" gVq f fd):FnOk P w K mg base CX0 3 f fd ["text"] (aMq K sCq):=by
  refine okD (k:=2) F oTq (λ ds G DQ h=>?_) (λ cdv A outer s H E hr ds G DQ h=>?_)
  . obtain ⟨_,rfl,_⟩:=h;rfl
  obtain ⟨z,rfl,hz,q⟩:=h
  exact ⟨_,(a7q (aDq (aAq g_iswt hr (by omega) rfl (a0q (a1q 0) (a0q a2q a4q))))),z,rfl,hz,Dr.of q⟩
abbrev dWq:Stmt:=top 15
theorem sc_rankof:FnScope ["letters", "rank", "letter"] ["letters"] (a5q dWq):=⟨rfl,rfl,rfl,by decide +kernel,rfl,by decide +kernel,by decide +kernel⟩
theorem n8q {tL:Tok} (m_LETTERS:mg "LETTERS" = some (.str letters tL)) (F:Fun K "rank_of" "rank_of" dWq f fd):FnOk P w K mg base CX0 1 f fd ["letters"] (aMq K mFq):=by
  refine okD (k:=0) F sc_rankof (λ ds G DQ h=>?_) (λ cdv A outer s H E hr ds G DQ h=>?_)
  . obtain ⟨_,rfl,_⟩:=h;rfl
  obtain ⟨z,rfl,hz,hlow,q⟩:=h
  refine ⟨_,(a3q (aGq (k:=1) sc_rankof.nd rfl (Or.inl rfl) a2q)
      (a3q (e9q PassesOwn.never rfl (r0q (a1q 0)) (bDq (k:=2) sc_rankof.nd rfl (Or.inl rfl)) (a7q (aGq (k:=1) sc_rankof.nd rfl (Or.inl rfl) (aFq aLq (aFq aLq (aFq bXq (a1q 1) a2q) (cQq PySem.F.plainAttrs_str PySem.F.slot_str_index PySem.F.type_str_index nQq (cGq (d:=.str _) (v:=.str _) rfl m_LETTERS ⟨_,rfl⟩ (λ _=>rfl)) (a0q (a1q 2) a4q))) a2q))))
      (a7q (aDq (aFq aQq (a1q 1) a2q))))),?_⟩
  refine ⟨λ i ρ G'=>∃ o2:Option D,ρ=[some (.str z),some (.int (f1q (z.cps.toList.take i))),o2]/\G=G',⟨_,rfl,rfl⟩,λ _ _ _ _ _=>trivial,?_,?_⟩
  . rintro i d ρ G' hd ⟨o2,rfl,rfl⟩
    have hd':(cJq z)[i]?=some d:=hd
    unfold cJq at hd'
    rw [List.getElem?_map] at hd'
    cases hc:z.cps.toList[i]? with
    | none=>rw [hc] at hd';cases hd'
    | some c=>
      rw [hc] at hd';cases hd'
      obtain ⟨h1,h2⟩:=hlow c (List.mem_of_getElem? hc)
      refine ⟨.inr (by decide),trivial,c - 97,[],kEq c h1 h2,Wk.of ⟨some (.str ⟨#[c]⟩),?_,rfl⟩⟩
      rw [List.take_add_one,hc,Option.toList_some,kJq]
      rfl
  . rintro ρ G' ⟨o2,rfl,rfl⟩
    refine Dr.of ?_
    rw [show (⟨cJq z,_⟩:DIt).items.length=z.cps.toList.length from List.length_map _,List.take_length]
    exact q
abbrev c5q:Stmt:=top 16
theorem sc_lettersof:FnScope ["rank", "letters", "rest"] ["rank"] (a5q c5q):=⟨rfl,rfl,rfl,by decide +kernel,rfl,by decide +kernel,by decide +kernel⟩
theorem hFq {tL:Tok} (m_LETTERS:mg "LETTERS" = some (.str letters tL)) (F:Fun K "letters_of" "letters_of" c5q f fd):FnOk P w K mg base CX0 1 f fd ["rank"] (aMq K eQq):=by
  refine okD (k:=0) F sc_lettersof (λ ds G DQ h=>?_) (λ cdv A outer s H E hr ds G DQ h=>?_)
  . obtain ⟨_,rfl,_⟩:=h;rfl
  obtain ⟨n,rfl,hn,q⟩:=h
  refine ⟨_,(a3q (aGq (k:=1) sc_lettersof.nd rfl (Or.inl rfl) aCq)
      (a3q (aGq (k:=2) sc_lettersof.nd rfl (Or.inl rfl) (aFq aLq (a1q 0) a2q))
      (a3q (k2q PassesOwn.never (aKq fHq (a1q 2) a2q (aJq _)) (a3q (aGq (k:=1) sc_lettersof.nd rfl (Or.inl rfl) (aFq aLq (aWq aix (cGq (d:=.str _) (v:=.str _) rfl m_LETTERS ⟨_,rfl⟩ (λ _=>rfl)) (aFq bJq (aFq aQq (a1q 2) a2q) a2q) (λ _ _=>rfl)) (a1q 1)))
      (a7q (aGq (k:=2) sc_lettersof.nd rfl (Or.inl rfl) (aFq dMq (aFq aQq (a1q 2) a2q) a2q)))))
      (a7q (aDq (a1q 1)))))),?_⟩
  refine ⟨λ μ ρ G'=>∃ (x:Str) (k:Nat),ρ=[some (.int n),some (.str x),some (.int k)]/\G=G'/\k=μ/\LI n x k,⟨_,"", n+1,rfl,rfl,rfl,.inl ⟨rfl,rfl⟩⟩,?_⟩
  rintro μ ρ G' ⟨x,k,rfl,rfl,rfl,hI⟩
  refine ⟨λ c=>?_,λ c=>?_⟩
  . have hk:0 < k:=by
      have:(0:Int) < k:=by simpa using c
      omega
    obtain ⟨j,hj,ha,hx,hn'⟩:=rRq hn hI hk
    refine ⟨(by decide:(0:Int) < 26),⟨by decide +kernel,97+j,ha,⟨fSq hx,⟨(by decide:(0:Int) < 26/\(26:Int) < 2 ^ 64),Wk.of ⟨(k - 1) / 26,by omega,_,(k - 1) / 26,?_,rfl,rfl,hn'⟩⟩⟩⟩⟩
    rw [show (((k - 1) / 26:Nat):Int)=((k:Int) - 1) / 26 by omega]
    rfl
  . have hk:k=0:=by
      have:¬ (0:Int) < k:=by simpa using c
      omega
    subst hk
    rw [uQq hI]
    exact Dr.of q
abbrev eNq:Stmt:=top 14
theorem sc_nameof:FnScope ["number", "rank", "left_out"] ["number"] (a5q eNq):=⟨rfl,rfl,rfl,by decide +kernel,rfl,by decide +kernel,by decide +kernel⟩
theorem n4q {aI:Addr} (B:Blt mg) (m_INNER_COUNTS:mg "INNER_COUNTS" = some (.ref aI)) (KK_INNER_COUNTS:KKeys K w aI words7) (g_rankof:Got P w K mg base 1 "rank_of" ["letters"] (aMq K mFq)) (g_lettersof:Got P w K mg base 1 "letters_of" ["rank"] (aMq K eQq)) (F:Fun K "name_of" "name_of" eNq f fd):FnOk P w K mg base CX0 2 f fd ["number"] (aMq K g0q):=by
  refine okD (k:=1) F sc_nameof (λ ds G DQ h=>?_) (λ cdv A outer s H E hr ds G DQ h=>?_)
  . obtain ⟨_,rfl,_⟩:=h;rfl
  obtain ⟨n,rfl,hn,q⟩:=h
  refine ⟨_,(a3q (aGq (k:=1) sc_nameof.nd rfl (Or.inl rfl) (a1q 0))
      (a3q (e9q PassesOwn.never rfl (f8q (gZq (aUq (hYq rfl) rfl B.sorted PyProof.Rows.boot_sorted (a0q (iHq rfl (CompOk.of (N':=["word"]) (nt:=1) (cap:=[]) rfl (by kernel_rfl)) (c7q (k:=0) (by decide)) (oXq rfl m_INNER_COUNTS KK_INNER_COUNTS) (λ _ _ _ _=>(bDq (k:=0) (show List.Nodup (["word"]:List Str) by decide +kernel) rfl (Or.inl rfl))) (λ _ _ _ _=>(aAq g_rankof hr (by omega) rfl (a0q (a1q 0) a4q)))) a4q)))) (bDq (k:=2) sc_nameof.nd rfl (Or.inl rfl)) (a7q (aTq (aKq i9q (a1q 2) (a1q 1) (aJq _)) (a7q (vWq (k:=1) sc_nameof.nd rfl (Or.inl rfl) a2q u9q)) aOq)))
      (a7q (aDq (aAq g_lettersof hr (by omega) rfl (a0q (a1q 1) a4q)))))),?_⟩
  refine fXq words7 D.str (λ k=>.int (f1q k.cps.toList - 1)) rfl (bCq (by decide)) trivial (λ k hk R hR=>?_) (λ p hp=>?_)
  . obtain ⟨h1,h2,h3,h4,_⟩:=hVq k hk
    exact ⟨k,rfl,by omega,h3,hR⟩
  . refine aSq a6q ⟨words7.map λ k:Str=>f1q k.cps.toList - 1,by rw [<- f5q (words7.map λ k:Str=>f1q k.cps.toList - 1),List.map_map];rfl,by decide,λ ms hm _ p2 hp2=>⟨up G p2 (.lst (ms.map D.int)),?_,?_⟩⟩
    . exact Sub.put (Sub.new (Sub.refl _) hp)
    refine j5q a6q ?_
    refine ⟨λ i ρ G'=>∃ o2:Option D,ρ=[some (.int n),some (.int n),o2]/\up G p2 (.lst (ms.map D.int))=G',⟨_,rfl,rfl⟩,λ _ _ _ _ h=>by obtain ⟨_,_,rfl⟩:=h;exact a6q,?_,?_⟩
    . rintro i d ρ G' hd ⟨o2,rfl,rfl⟩
      have hd':(ms.map D.int)[i]?=some d:=hd
      rw [List.getElem?_map] at hd'
      cases hv:ms[i]? with
      | none=>rw [hv] at hd';cases hd'
      | some v=>
        rw [hv] at hd';cases hd'
        have hv2:=(hm.mem_iff.mp (List.mem_of_getElem? hv))
        obtain ⟨k,hk,rfl⟩:=List.mem_map.mp hv2
        have h4:=(hVq k hk).2.2.2.1
        refine ⟨λ c=>?_,λ c=>Wk.of ⟨_,rfl,rfl⟩⟩
        have:f1q k.cps.toList - 1<=(n:Int):=by simpa using c
        omega
    . rintro ρ G' ⟨o2,rfl,rfl⟩
      have hg2:G p2=none:=by
        by_cases e:p2=p
        . rw [e];exact hp
        . rw [a9q e] at hp2;exact hp2
      exact ⟨n,rfl,hn,G,Sub.new (Sub.refl _) hg2,q⟩
abbrev gMq:Stmt:=top 9
theorem sc_words:FnScope ["text", "spaced"] ["text"] (a5q gMq):=⟨rfl,rfl,rfl,by decide +kernel,rfl,by decide +kernel,by decide +kernel⟩
theorem pZq (B:Blt mg) (F:Fun K "words_of" "words_of" gMq f fd):FnOk P w K mg base CX0 1 f fd ["text"] (aMq K gRq):=by
  refine okDT (k:=0) F sc_words (by decide +kernel) (λ _=>rfl) rfl (λ ds G DQ h=>?_) (λ cdv A outer s H E hr ds G DQ h=>?_)
  . obtain ⟨_,rfl,_⟩:=h;rfl
  obtain ⟨z,rfl,hz,q⟩:=h
  refine ⟨_,(tIq (g1q (g1q (g1q (uTq (a1q 0))))) (bDq (k:=1) sc_words.nd rfl (Or.inl rfl))
      (a7q (aDq (lEq rfl (CompOk.of (N':=["word"]) (nt:=1) (cap:=[]) rfl (by kernel_rfl)) (c7q (k:=0) (by decide)) (f8q (cQq PySem.F.plainAttrs_str PySem.F.slot_str_split PySem.F.type_str_split lXq (a1q 1) (a0q aCq a4q))) (λ _ _ _ _=>(bDq (k:=0) (show List.Nodup (["word"]:List Str) by decide +kernel) rfl (Or.inl rfl))) (λ _ _ _ _=>(aKq (k0q (b6q hr)) (a1q 0) aCq (aJq _))) (λ _ _ _ _=>(a1q 0)))))),?_⟩
  have l1:((" ( " : String):Str).length=3:=by decide
  have l2:((" ) " : String):Str).length=3:=by decide
  have l3:((" " : String):Str).length=1:=by decide
  have r1:=l2q z " ( " 40 (by decide)
  rw [<- s40] at r1
  have r2:=l2q (Txt.replace z "(" " ( ") " ) " 41 (by decide)
  rw [<- s41] at r2
  have r3:=l2q (Txt.replace (Txt.replace z "(" " ( ") ")" " ) ") " " 10 (by decide)
  rw [<- s10] at r3
  refine ⟨by rw [l1];omega,by rw [l2];omega,by rw [l3];omega,trivial,by decide,by omega,λ p hp=>?_⟩
  refine j5q a6q ?_
  refine kFq (Txt.split (Txt.replace (Txt.replace (Txt.replace z "(" " ( ") ")" " ) ") "\n" " ") " ") D.str (λ s:Str=>if s=="" then none else some (D.str s)) rfl ?_ a6q (λ x hx R S h1 h2=>?_) λ l hl=>?_
  . have:=(PyProof.Rows.fact_split (Txt.replace (Txt.replace (Txt.replace z "(" " ( ") ")" " ) ") "\n" " ") " ").2
    rw [sizeLine_eq];omega
  . refine r9q rfl rfl (show 0<=150 by decide) ⟨λ c=>h1 _ ?_,λ c=>h2 ?_⟩
    . have c':(!(x==""))=true:=c
      rw [if_neg (by rw [Bool.not_eq_true'] at c';rw [c'];decide)]
    . have c':(!(x==""))=false:=c
      rw [if_pos (by simpa using c')]
  . obtain ⟨-,g0,n0⟩:=jUq (o:=.lst []) hl
    refine ⟨up G l (.lst ((wds [] z.cps.toList).map wD)),?_,q l g0⟩
    rw [pGq (rep3 z)]
    exact Sub.put (Sub.new (Sub.refl _) hp)
abbrev gCq:Stmt:=top 30
theorem sc_whole:FnScope ["_law_feed_here", "_law_form"] ["_law_feed_here"] (a5q gCq):=⟨rfl,rfl,rfl,by decide +kernel,rfl,by decide +kernel,by decide +kernel⟩
theorem oZq (g_take:Got P w K mg base 1 "_law_take" ["_law_feed_here", "_law_many"] (aMq K cMq)) (F:Fun K "_law_whole" "_law_whole" gCq f fd):FnOk P w K mg base CX0 2 f fd ["_law_feed_here"] (aMq K fVq):=by
  refine okD (k:=1) F sc_whole (λ ds G DQ h=>?_) (λ cdv A outer s H E hr ds G DQ h=>?_)
  . obtain ⟨_,rfl,_⟩:=h;rfl
  obtain ⟨a,rfl,hF,q⟩:=h
  refine ⟨_,(a3q (aGq (k:=1) sc_whole.nd rfl (Or.inl rfl) (aAq g_take hr (by omega) rfl (a0q (a1q 0) (a0q a2q a4q))))
      (a3q (aTq (aKq dDq (a1q 1) a2q (aJq _)) (a7q (aDq (bBq (a0q aCq (a0q (e3q (a0q a2q (a0q a2q (a0q (t3q jGq a2q) (a0q a2q a4q)))) (a1q 1) (λ _ _=>rfl)) a4q))))) aOq)
      (a3q (aTq (aKq dDq (a1q 1) a2q (aJq _)) (a7q (aDq (bBq (a0q aCq (a0q (aFq aQq (aAq g_take hr (by omega) rfl (a0q (a1q 0) (a0q a2q a4q))) a2q) a4q))))) aOq)
      (a7q (aDq (bBq (a0q aCq (a0q (aFq aQq (aAq g_take hr (by omega) rfl (a0q (a1q 0) (a0q a2q a4q))) a2q) a4q)))))))),?_⟩
  refine ⟨hF,by decide,by decide,λ d G1 u1 d0 d1=>⟨λ c=>?_,λ c=>⟨λ c2=>?_,λ c2=>?_⟩⟩⟩
  . have c':d < 4:=by simpa using c
    exact at4 d0 c' (λ _=>Dr.of (q 0 G1 u1 (by decide))) (λ _=>Dr.of (q 1 G1 u1 (by decide))) (λ _=>Dr.of (q (-1) G1 u1 (by decide))) (λ _=>Dr.of (q 2 G1 u1 (by decide)))
  . exact ⟨u1.fd,by decide,by decide,λ e G2 u2 e0 e1=>Dr.of (q _ G2 (u1.trans u2) (by omega))⟩
  . exact ⟨u1.fd,by decide,by decide,λ e G2 u2 e0 e1=>Dr.of (q _ G2 (u1.trans u2) (by omega))⟩
abbrev j6q:Stmt:=top 31
theorem uAq:FnScope ["_law_feed_here", "_law_ways"] ["_law_feed_here", "_law_ways"] (a5q j6q):=⟨rfl,rfl,rfl,by decide +kernel,rfl,by decide +kernel,by decide +kernel⟩
theorem rWq (g_take:Got P w K mg base 1 "_law_take" ["_law_feed_here", "_law_many"] (aMq K cMq)) (g_whole:Got P w K mg base 2 "_law_whole" ["_law_feed_here"] (aMq K fVq)) (F:Fun K "_law_leaf" "_law_leaf" j6q f fd):FnOk P w K mg base CX0 3 f fd ["_law_feed_here", "_law_ways"] (aMq K gHq):=by
  refine okD (k:=2) F uAq (λ ds G DQ h=>?_) (λ cdv A outer s H E hr ds G DQ h=>?_)
  . obtain ⟨_,_,rfl,_⟩:=h;rfl
  obtain ⟨a,w,rfl,hF,hw,q⟩:=h
  refine ⟨_,(a3q (aTq (AW.at (rGq (aKq fHq (a1q 1) a2q (aJq _)) (n5q (aKq fHq (aAq g_take hr (by omega) rfl (a0q (a1q 0) (a0q a2q a4q))) a2q (aJq _))))) (a7q (aDq (bBq (a0q aCq (a0q (aAq g_take hr (by omega) rfl (a0q (a1q 0) (a0q (a1q 1) a4q))) a4q))))) aOq)
      (a7q (aDq (aAq g_whole hr (by omega) rfl (a0q (a1q 0) a4q))))),?_⟩
  refine ⟨λ c=>?_,λ c=>?_⟩
  . have c':0 < w:=by
      have:(0:Int) < w:=by simpa using c
      omega
    refine ⟨hF,by decide,by decide,λ d G1 u1 d0 d1=>⟨λ _=>⟨u1.fd,by omega,by omega,λ e G2 u2 e0 e1=>?_⟩,λ _=>⟨a,rfl,u1.fd,λ n G2 u2 hn=>Dr.of (q (.whole n) G2 (u1.trans u2) ⟨hn,by simp [Tm.sz],by simp [Tm.dp]⟩)⟩⟩⟩
    have z:=Dr.of (q (.name e.toNat) G2 (u1.trans u2) ⟨by show e.toNat < w;omega,by simp [Tm.sz],by simp [Tm.dp]⟩)
    rwa [Tm.enc,show ((e.toNat:Nat):Int)=e by omega] at z
  . exact Br.no rfl ⟨a,rfl,hF,λ n G2 u2 hn=>Dr.of (q (.whole n) G2 u2 ⟨hn,by simp [Tm.sz],by simp [Tm.dp]⟩)⟩
abbrev n0q:Stmt:=top 32
theorem sc_any:FnScope ["_law_feed_here", "_law_ways", "_law_room", "_law_deep", "_law_form", "_law_word", "_law_share", "_law_one", "_law_asked", "_law_left"] ["_law_feed_here", "_law_ways", "_law_room", "_law_deep"] (a5q n0q):=⟨rfl,rfl,rfl,by decide +kernel,rfl,by decide +kernel,by decide +kernel⟩
theorem xTq:FnOk P w K mg base CX0 4 f fd ["_law_feed_here", "_law_ways", "_law_room", "_law_deep"] (aMq K (fFq 0)):=zXq λ ds G DQ h=>by
  obtain ⟨_,_,_,_,_,_,_,_,h1,h2,_⟩:=h;omega
theorem x9q {n:Nat} (B:Blt mg) (g_take:Got P w K mg base 1 "_law_take" ["_law_feed_here", "_law_many"] (aMq K cMq)) (g_leaf:Got P w K mg base 3 "_law_leaf" ["_law_feed_here", "_law_ways"] (aMq K gHq)) (g_any:Got P w K mg base (n+4) "_law_any" ["_law_feed_here", "_law_ways", "_law_room", "_law_deep"] (aMq K (fFq n)))
    (F:Fun K "_law_any" "_law_any" n0q f fd):FnOk P w K mg base CX0 (n+5) f fd ["_law_feed_here", "_law_ways", "_law_room", "_law_deep"] (aMq K (fFq (n+1))):=by
  refine okD (k:=n+4) F sc_any (λ ds G DQ h=>?_) (λ cdv A outer s H E hr ds G DQ h=>?_)
  . obtain ⟨_,_,_,_,rfl,_⟩:=h;rfl
  obtain ⟨a,w,room,deep,rfl,hF,hw,r1,dp0,dp1,q⟩:=h
  refine ⟨_,(a3q (aGq (k:=4) sc_any.nd rfl (Or.inl rfl) (aAq g_take hr (by omega) rfl (a0q (a1q 0) (a0q a2q a4q))))
      (a3q (aTq (AW.at (kBq (aKq dDq (a1q 2) a2q (aJq _)) (kBq (aKq dDq (a1q 3) a2q (aJq _)) (hGq (aKq (aYq (b6q hr)) (a1q 4) a2q (aJq _)))))) (a7q (aDq (aAq g_leaf hr (by omega) rfl (a0q (a1q 0) (a0q (a1q 1) a4q))))) aOq)
      (a3q (aTq (AW.at (kBq (aKq dDq (a1q 4) a2q (aJq _)) (hGq (aKq (aYq (b6q hr)) (a1q 2) a2q (aJq _))))) (a3q (aGq (k:=5) sc_any.nd rfl (Or.inl rfl) (e3q (a0q aCq (a0q aCq (a0q aCq (a0q aCq (a0q aCq a4q))))) (aFq bJq (a1q 4) a2q) (λ _ _=>rfl)))
      (a7q (aDq (bBq (a0q (a1q 5) (a0q (aAq g_any hr (by omega) rfl (a0q (a1q 0) (a0q (aFq aLq (a1q 1) (c6q nUq rfl B.int PyProof.Rows.boot_int (a0q (h5q (aYq (b6q hr)) (a1q 5) aCq (aJq _)) a4q))) (a0q (aFq aQq (a1q 2) a2q) (a0q (aFq aQq (a1q 3) a2q) a4q))))) a4q)))))) aOq)
      (a3q (aTq (AW.at (kBq (aKq dDq (a1q 4) a2q (aJq _)) (hGq (aKq (aYq (b6q hr)) (a1q 2) a2q (aJq _))))) (a3q (aGq (k:=6) sc_any.nd rfl (Or.inl rfl) (aFq aLq a2q (aAq g_take hr (by omega) rfl (a0q (a1q 0) (a0q (aFq aQq (a1q 2) a2q) a4q)))))
      (a3q (aGq (k:=7) sc_any.nd rfl (Or.inl rfl) (aAq g_any hr (by omega) rfl (a0q (a1q 0) (a0q (a1q 1) (a0q (a1q 6) (a0q (aFq aQq (a1q 3) a2q) a4q))))))
      (a3q (aGq (k:=5) sc_any.nd rfl (Or.inl rfl) (e3q (a0q aCq (a0q aCq (a0q aCq (a0q aCq a4q)))) (aFq bJq (a1q 4) a2q) (λ _ _=>rfl)))
      (a7q (aDq (bBq (a0q (a1q 5) (a0q (a1q 7) (a0q (aAq g_any hr (by omega) rfl (a0q (a1q 0) (a0q (a1q 1) (a0q (aFq aQq (aFq aQq (a1q 2) a2q) (a1q 6)) (a0q (aFq aQq (a1q 3) a2q) a4q))))) a4q))))))))) aOq)
      (a3q (aGq (k:=6) sc_any.nd rfl (Or.inl rfl) (aFq aLq a2q (aAq g_take hr (by omega) rfl (a0q (a1q 0) (a0q (aFq aQq (a1q 2) a2q) a4q)))))
      (a3q (aGq (k:=8) sc_any.nd rfl (Or.inl rfl) (aAq g_any hr (by omega) rfl (a0q (a1q 0) (a0q (a1q 1) (a0q (a1q 6) (a0q (aFq aQq (a1q 3) a2q) a4q))))))
      (a3q (aGq (k:=9) sc_any.nd rfl (Or.inl rfl) (aFq aQq (aFq aQq (a1q 2) a2q) (a1q 6)))
      (a3q (aGq (k:=6) sc_any.nd rfl (Or.inl rfl) (aFq aLq a2q (aAq g_take hr (by omega) rfl (a0q (a1q 0) (a0q (aFq aQq (a1q 9) a2q) a4q)))))
      (a3q (aGq (k:=7) sc_any.nd rfl (Or.inl rfl) (aAq g_any hr (by omega) rfl (a0q (a1q 0) (a0q (a1q 1) (a0q (a1q 6) (a0q (aFq aQq (a1q 3) a2q) a4q))))))
      (a7q (aDq (bBq (a0q aCq (a0q (a1q 8) (a0q (a1q 7) (a0q (aAq g_any hr (by omega) rfl (a0q (a1q 0) (a0q (a1q 1) (a0q (aFq aQq (a1q 9) (a1q 6)) (a0q (aFq aQq (a1q 3) a2q) a4q))))) a4q)))))))))))))))),?_⟩
  have fin:∀ (p:Tm) (G':DV),Fx a G G'->FitC p w (max room 1) deep->Dr DQ p.enc G':=λ p G' u z=>Dr.of (q p G' u z)
  have leaf:∀ (G1:DV),Fx a G G1->gHq [.ref a,.int w] G1 (Dr DQ):=λ G1 u1=>⟨a,w,rfl,u1.fd,by omega,λ p G2 u2 z=>fin p G2 (u1.trans u2) ⟨z.cl,by have:=z.sz;omega,by have:=z.dp;omega⟩⟩
  refine ⟨hF,by decide,by decide,λ form G1 u1 f0 f1=>⟨λ c1=>Br.yes rfl (leaf G1 u1),λ c1=>⟨λ c2=>Br.yes rfl (leaf G1 u1),λ c2=>⟨λ c3=>leaf G1 u1,λ c3=>?_⟩⟩⟩⟩
  have d1:¬ room < 2:=by simpa using c1
  have d2:¬ deep < 1:=by simpa using c2
  refine ⟨λ c4=>Br.yes rfl ?p1,λ c4=>⟨λ c5=>?p2,λ c5=>?_⟩⟩
  case p1 | p2=>
    refine ⟨(by decide:(0:Int) < 5),at5 (i:=form % 5) (by omega) (by omega) (λ _=>?_) (λ _=>?_) (λ _=>?_) (λ _=>?_) (λ _=>?_)⟩
    . exact ⟨a,w+1,room - 1,deep - 1,by simp [cNq],u1.fd,by omega,by omega,by omega,by omega,λ p G2 u2 z=>fin (.way p) G2 (u1.trans u2) ⟨z.cl,by have:=z.sz;simp only [Tm.sz];omega,by have:=z.dp;simp only [Tm.dp];omega⟩⟩
    . exact ⟨a,w+1,room - 1,deep - 1,by simp [cNq],u1.fd,by omega,by omega,by omega,by omega,λ p G2 u2 z=>fin (.way p) G2 (u1.trans u2) ⟨z.cl,by have:=z.sz;simp only [Tm.sz];omega,by have:=z.dp;simp only [Tm.dp];omega⟩⟩
    . exact ⟨a,w,room - 1,deep - 1,by simp [cNq],u1.fd,by omega,by omega,by omega,by omega,λ p G2 u2 z=>fin (.first p) G2 (u1.trans u2) ⟨z.cl,by have:=z.sz;simp only [Tm.sz];omega,by have:=z.dp;simp only [Tm.dp];omega⟩⟩
    . exact ⟨a,w,room - 1,deep - 1,by simp [cNq],u1.fd,by omega,by omega,by omega,by omega,λ p G2 u2 z=>fin (.second p) G2 (u1.trans u2) ⟨z.cl,by have:=z.sz;simp only [Tm.sz];omega,by have:=z.dp;simp only [Tm.dp];omega⟩⟩
    . exact ⟨a,w+1,room - 1,deep - 1,by simp [cNq],u1.fd,by omega,by omega,by omega,by omega,λ p G2 u2 z=>fin (.way p) G2 (u1.trans u2) ⟨z.cl,by have:=z.sz;simp only [Tm.sz];omega,by have:=z.dp;simp only [Tm.dp];omega⟩⟩
  have d3:¬ room=2:=by simpa using c5
  refine ⟨λ c6=>Br.yes rfl ?q1,λ c6=>⟨λ c7=>?q2,λ c7=>?_⟩⟩
  case q1 | q2=>
    refine ⟨u1.fd,by omega,by omega,λ d G2 u2 d0 d1'=>⟨a,w,1+d,deep - 1,rfl,(u1.trans u2).fd,by omega,by omega,by omega,by omega,λ p G3 u3 z=>⟨(by decide:(0:Int) < 4),at4 (i:=form % 4) (by omega) (by omega) (λ _=>?_) (λ _=>?_) (λ _=>?_) (λ _=>?_)⟩⟩⟩
    . exact ⟨a,w,room - 1 - (1+d),deep - 1,rfl,((u1.trans u2).trans u3).fd,by omega,by omega,by omega,by omega,λ p2 G4 u4 y=>fin (.give p p2) G4 (((u1.trans u2).trans u3).trans u4) ⟨⟨z.cl,y.cl⟩,by have:=z.sz;have:=y.sz;simp only [Tm.sz];omega,by have:=z.dp;have:=y.dp;simp only [Tm.dp];omega⟩⟩
    . exact ⟨a,w,room - 1 - (1+d),deep - 1,rfl,((u1.trans u2).trans u3).fd,by omega,by omega,by omega,by omega,λ p2 G4 u4 y=>fin (.pair p p2) G4 (((u1.trans u2).trans u3).trans u4) ⟨⟨z.cl,y.cl⟩,by have:=z.sz;have:=y.sz;simp only [Tm.sz];omega,by have:=z.dp;have:=y.dp;simp only [Tm.dp];omega⟩⟩
    . exact ⟨a,w,room - 1 - (1+d),deep - 1,rfl,((u1.trans u2).trans u3).fd,by omega,by omega,by omega,by omega,λ p2 G4 u4 y=>fin (.plus p p2) G4 (((u1.trans u2).trans u3).trans u4) ⟨⟨z.cl,y.cl⟩,by have:=z.sz;have:=y.sz;simp only [Tm.sz];omega,by have:=z.dp;have:=y.dp;simp only [Tm.dp];omega⟩⟩
    . exact ⟨a,w,room - 1 - (1+d),deep - 1,rfl,((u1.trans u2).trans u3).fd,by omega,by omega,by omega,by omega,λ p2 G4 u4 y=>fin (.give p p2) G4 (((u1.trans u2).trans u3).trans u4) ⟨⟨z.cl,y.cl⟩,by have:=z.sz;have:=y.sz;simp only [Tm.sz];omega,by have:=z.dp;have:=y.dp;simp only [Tm.dp];omega⟩⟩
  have d4:¬ room=3:=by simpa using c7
  refine ⟨u1.fd,by omega,by omega,λ d G2 u2 d0 d1'=>⟨a,w,1+d,deep - 1,rfl,(u1.trans u2).fd,by omega,by omega,by omega,by omega,λ p G3 u3 z=>⟨((u1.trans u2).trans u3).fd,by omega,by omega,λ e G4 u4 e0 e1=>?_⟩⟩⟩
  have U4:=((u1.trans u2).trans u3).trans u4
  refine ⟨a,w,1+e,deep - 1,rfl,U4.fd,by omega,by omega,by omega,by omega,λ p2 G5 u5 y=>⟨a,w,room - 1 - (1+d) - (1+e),deep - 1,rfl,(U4.trans u5).fd,by omega,by omega,by omega,by omega,λ p3 G6 u6 x=>fin (.look p p2 p3) G6 ((U4.trans u5).trans u6) ⟨⟨z.cl,y.cl,x.cl⟩,?_,?_⟩⟩⟩
  . have:=z.sz;have:=y.sz;have:=x.sz;simp only [Tm.sz];omega
  . have:=z.dp;have:=y.dp;have:=x.dp;simp only [Tm.dp];omega
abbrev nHq:Stmt:=top 37
theorem sc_row:FnScope ["_law_feed_here", "_law_many", "_law_program", "_law_k"] ["_law_feed_here"] (a5q nHq):=⟨rfl,rfl,rfl,by decide +kernel,rfl,by decide +kernel,by decide +kernel⟩
theorem v2q (B:Blt mg) (g_take:Got P w K mg base 1 "_law_take" ["_law_feed_here", "_law_many"] (aMq K cMq)) (g_any:Got P w K mg base 35 "_law_any" ["_law_feed_here", "_law_ways", "_law_room", "_law_deep"] (aMq K (fFq 31))) (F:Fun K "_law_row" "_law_row" nHq f fd):FnOk P w K mg base CX0 36 f fd ["_law_feed_here"] (aMq K n1q):=by
  refine okD (k:=35) F sc_row (λ ds G DQ h=>?_) (λ cdv A outer s H E hr ds G DQ h=>?_)
  . obtain ⟨_,rfl,_⟩:=h;rfl
  obtain ⟨a,rfl,hF,q⟩:=h
  refine ⟨_,(a3q (aGq (k:=1) sc_row.nd rfl (Or.inl rfl) (aAq g_take hr (by omega) rfl (a0q (a1q 0) (a0q a2q a4q))))
      (a3q (aGq (k:=2) sc_row.nd rfl (Or.inl rfl) (aAq g_any hr (by omega) rfl (a0q (a1q 0) (a0q (a1q 1) (a0q (aFq aLq a2q (aAq g_take hr (by omega) rfl (a0q (a1q 0) (a0q a2q a4q)))) (a0q (aFq aQq a2q (a1q 1)) a4q))))))
      (a3q (e9q PassesOwn.never rfl (m9q rfl B.range (a0q (a1q 1) a4q)) (bDq (k:=3) sc_row.nd rfl (Or.inl rfl)) (a7q (aGq (k:=2) sc_row.nd rfl (Or.inl rfl) (bBq (a0q aCq (a0q (a1q 2) a4q))))))
      (a7q (aDq (a1q 2)))))),?_⟩
  refine ⟨hF,by decide,by decide,λ m G1 u1 m0 m1=>⟨u1.fd,by decide,by decide,λ r G2 u2 r0 r1=>?_⟩⟩
  obtain ⟨m,rfl⟩:∃ k:Nat,m=k:=⟨m.toNat,by omega⟩
  refine ⟨a,m,1+r,30 - m,rfl,(u1.trans u2).fd,by omega,by omega,by omega,by omega,λ p G3 u3 z=>?_⟩
  have U:=(u1.trans u2).trans u3
  refine tFq (by omega) ?_
  refine ⟨λ i ρ G'=>∃ o3:Option D,ρ=[some (.ref a),some (.int m),some (dFq i p).enc,o3]/\G'=G3,⟨_,rfl,rfl⟩,λ _ _ _ _ _=>trivial,?_,?_⟩
  . rintro i d ρ G' hd ⟨o3,rfl,rfl⟩
    exact Wk.of ⟨_,rfl,rfl⟩
  . rintro ρ G' ⟨o3,rfl,rfl⟩
    have e:(c1q 0 ((m:Int)).toNat).length=m:=by rw [fPq];omega
    obtain ⟨w1,w2,w3⟩:=hXq p m
    have z1:=z.sz
    have z2:=z.dp
    have zc:p.cl (m+0):=z.cl
    have fin:=q (dFq m p) _ U ⟨w3 0 zc,by omega,by omega⟩
    refine Dr.of ?_
    show DQ (dFq (c1q 0 ((m:Int)).toNat).length p).enc _
    rw [e];exact fin
abbrev gEq:Stmt:=top 33
theorem sc_rname:FnScope ["_law_number", "_law_letters"] ["_law_number"] (a5q gEq):=⟨rfl,rfl,rfl,by decide +kernel,rfl,by decide +kernel,by decide +kernel⟩
theorem qKq (F:Fun K "_law_row_name" "_law_row_name" gEq f fd):FnOk P w K mg base CX0 1 f fd ["_law_number"] (aMq K dPq):=by
  refine okD (k:=0) F sc_rname (λ ds G DQ h=>?_) (λ cdv A outer s H E hr ds G DQ h=>?_)
  . obtain ⟨_,rfl,_⟩:=h;rfl
  obtain ⟨n,rfl,hn,q⟩:=h
  refine ⟨_,(a3q (aGq (k:=1) sc_rname.nd rfl (Or.inl rfl) aCq)
      (a3q (aTq (aKq dDq (a1q 0) a2q (aJq _)) (a7q (aDq (aWq aix (a1q 1) (a1q 0) (λ _ _=>rfl)))) aOq)
      (a7q (aDq (aFq aLq (aWq aix (a1q 1) (aFq aQq (aFq dMq (a1q 0) a2q) a2q) (λ _ _=>rfl)) (aWq aix (a1q 1) (aFq bJq (a1q 0) a2q) (λ _ _=>rfl))))))),?_⟩
  refine ⟨λ c=>?_,λ c=>?_⟩
  . have c':n < 26:=by
      have:(n:Int) < 26:=by simpa using c
      omega
    rw [a8q,if_pos c'] at q
    exact ⟨by decide +kernel,97+n,jIq n c',Dr.of q⟩
  . have c':¬ n < 26:=by
      have:¬ (n:Int) < 26:=by simpa using c
      omega
    rw [a8q,if_neg c'] at q
    refine ⟨(by decide:(0:Int) < 26/\(26:Int) < 2 ^ 64),⟨by decide +kernel,97+(n / 26 - 1),?_,⟨(by decide:(0:Int) < 26),⟨by decide +kernel,97+n % 26,?_,⟨fSq (by show 1+1<=200000;omega),Dr.of q⟩⟩⟩⟩⟩
    . have z:=jIq (n / 26 - 1) (by omega)
      rwa [show ((n / 26 - 1:Nat):Int)=(n:Int) / 26 - 1 by omega] at z
    . have z:=jIq (n % 26) (by omega)
      rwa [show ((n % 26:Nat):Int)=(n:Int) % 26 by omega] at z
abbrev gFq:Stmt:=top 34
theorem sc_ltext:FnScope ["_law_program", "_law_names", "_law_name", "_law_text_here", "_law_one"] ["_law_program", "_law_names"] (a5q gFq):=⟨rfl,rfl,rfl,by decide +kernel,rfl,by decide +kernel,by decide +kernel⟩
theorem oFq:FnOk P w K mg base CX0 2 f fd ["_law_program", "_law_names"] (aMq K (ePq 0)):=zXq λ ds G DQ h=>by
  obtain ⟨_,_,_,_,_,_,h,_⟩:=h;omega
theorem pCq {n:Nat} (B:Blt mg) (g_rname:Got P w K mg base 1 "_law_row_name" ["_law_number"] (aMq K dPq)) (g_ltext:Got P w K mg base (n+2) "_law_text" ["_law_program", "_law_names"] (aMq K (ePq n))) (F:Fun K "_law_text" "_law_text" gFq f fd):FnOk P w K mg base CX0 (n+3) f fd ["_law_program", "_law_names"] (aMq K (ePq (n+1))):=by
  refine okD (k:=n+2) F sc_ltext (λ ds G DQ h=>?_) (λ cdv A outer s H E hr ds G DQ h=>?_)
  . obtain ⟨_,_,_,rfl,_⟩:=h;rfl
  obtain ⟨t,l,w,rfl,hl,hc,hd,hwd,hs,q⟩:=h
  refine ⟨_,(a3q (aTq (aKq (aYq (b6q hr)) (aWq aix (a1q 0) a2q (λ _ _=>rfl)) aCq (aJq _)) (a7q (aDq (c6q hBq rfl B.str PyProof.Rows.boot_str (a0q (aWq aix (a1q 0) a2q (λ _ _=>rfl)) a4q)))) aOq)
      (a3q (aTq (aKq (aYq (b6q hr)) (aWq aix (a1q 0) a2q (λ _ _=>rfl)) aCq (aJq _)) (a7q (aDq (aWq aix (a1q 1) (aWq aix (a1q 0) a2q (λ _ _=>rfl)) (λ _ _=>rfl)))) aOq)
      (a3q (aTq (aKq (aYq (b6q hr)) (aWq aix (a1q 0) a2q (λ _ _=>rfl)) aCq (aJq _)) (a3q (aGq (k:=2) sc_ltext.nd rfl (Or.inl rfl) (aAq g_rname hr (by omega) rfl (a0q (aUq b7q rfl B.len PySem.boot_len (a0q (a1q 1) a4q)) a4q)))
      (a7q (aDq (aFq aLq (aFq aLq (aFq aLq (aFq aLq aCq (a1q 2)) aCq) (aAq g_ltext hr (by omega) rfl (a0q (aWq aix (a1q 0) a2q (λ _ _=>rfl)) (a0q (gZq (aFq aLq (bMq (a0q (a1q 2) a4q)) (a1q 1))) a4q)))) aCq)))) aOq)
      (a3q (aGq (k:=3) sc_ltext.nd rfl (Or.inl rfl) (aFq aLq aCq (aWq aix (a1q 0) a2q (λ _ _=>rfl))))
      (a3q (e9q PassesOwn.never rfl (f8q (fZq asl (a1q 0) (jDq a2q) j0q)) (bDq (k:=4) sc_ltext.nd rfl (Or.inl rfl)) (a7q (aGq (k:=3) sc_ltext.nd rfl (Or.inl rfl) (aFq aLq (aFq aLq (a1q 3) aCq) (aAq g_ltext hr (by omega) rfl (a0q (a1q 4) (a0q (a1q 1) a4q)))))))
      (a7q (aDq (aFq aLq (a1q 3) aCq)))))))),?_⟩
  have hlw:(n6q w).length=w:=k6q w
  have tll:=i1q t w hc hwd
  obtain ⟨L1,L2,L3,L4⟩:=yLq
  have l5:(ofL (cL "(way"++[32])).length=5:=by decide +kernel
  by_cases hn2:t.node2=true
  . obtain ⟨n1,n2,n3,n4,n5⟩:=eZq hn2
    have tle:=m5q hn2 w
    rw [tle] at tll q
    simp only [List.length_cons,List.length_append,List.length_nil] at tll
    rw [Tm.enc_node n4]
    have hil:=t.inn_len
    have hwl:t.word.length=(cL t.word).length:=Array.length_toList.symm
    refine Br.no n1 (Br.no n2 (Br.no n3 ⟨big (by rw [L1,b1q];simp only [List.length_cons,List.length_nil];omega),?_⟩))
    have c0:cut (D.str t.word::t.inn.map Tm.enc) (some 1) none=t.inn.map Tm.enc:=oSq (k:=0) (by simp)
    have hpart:∀ i,(40::(cL t.word++hSq ((t.inn.take i).map λ u=>u.tl w))).length<=4000:=λ i=>by
      have:=nLq (t.inn.map λ u=>u.tl w) i
      rw [<- List.map_take] at this
      simp only [List.length_cons,List.length_append];omega
    refine ⟨λ i ρ G'=>∃ o4:Option D,ρ=[some (.tup (.str t.word::t.inn.map Tm.enc)),some (.ref l),none,some (.str (ofL (40::(cL t.word++hSq ((t.inn.take i).map λ u=>u.tl w))))),o4]/\G'=G,⟨none,?_,rfl⟩,λ _ _ _ _ _=>trivial,?_,?_⟩
    . rw [L1]
      show [some (D.tup (D.str t.word::t.inn.map Tm.enc)),some (D.ref l),none,some (D.str (ofL [40]++t.word)),none]=_
      rw [show t.word=ofL (cL t.word) from (mCq _).symm,bZq]
      simp [hSq,mCq]
    . rintro i d ρ G' hd' ⟨o4,rfl,rfl⟩
      have he:(cut (D.str t.word::t.inn.map Tm.enc) (some 1) none)[i]?=some d:=hd'
      rw [c0,List.getElem?_map] at he
      cases ex:t.inn[i]? with
      | none=>rw [ex] at he;cases he
      | some u=>
        rw [ex] at he;cases he
        have hm:=List.mem_of_getElem? ex
        have h1:=Tm.dp_inn hm
        have h2:=Tm.sz_mem hm
        have huc:=qSq hn2 hc hm
        have hul:=i1q u w huc (by omega)
        have hpi:=hpart i
        refine ⟨big (by rw [L3,b1q,b1q];simp only [List.length_cons,List.length_nil] at hpi ⊢;omega),u,l,w,rfl,hl,huc,by omega,by omega,by omega,⟨big (by rw [cBq,L3,b1q,b1q,b1q];simp only [List.length_cons,List.length_nil] at hpi ⊢;omega),Wk.of ⟨some u.enc,?_,rfl⟩⟩⟩
        rw [L3,bZq,bZq,List.take_add_one,ex,Option.toList_some,List.map_append,gBq]
        simp [hSq]
    . rintro ρ G' ⟨o4,hρ,rfl⟩
      have e9:t.inn.take (cut (D.str t.word::t.inn.map Tm.enc) (some 1) none).length=t.inn:=by rw [c0,List.length_map,List.take_length]
      have hρ2:ρ=[some (.tup (.str t.word::t.inn.map Tm.enc)),some (.ref l),none,some (.str (ofL (40::(cL t.word++hSq ((t.inn.take (cut (D.str t.word::t.inn.map Tm.enc) (some 1) none).length).map λ u=>u.tl w))))),o4]:=hρ
      rw [e9] at hρ2
      subst hρ2
      refine ⟨big (by rw [L2,b1q,b1q];simp only [List.length_cons,List.length_append,List.length_nil];omega),Dr.of ?_⟩
      rw [L2,bZq]
      simpa using q
  cases t with
  | whole k=>
    refine Br.yes rfl ⟨?_,Dr.of q⟩
    by_cases e:k.natAbs=0
    . rw [e];decide
    . have:=(Nat.log2_lt e (k:=40)).mpr (Nat.lt_trans hc (by decide));omega
  | name k=>
    have hk:k < w:=hc
    exact Br.no rfl (Br.yes rfl (mBq hl (qRq hk) (Dr.of q)))
  | way t=>
    simp only [Tm.dp] at hd hwd
    simp only [Tm.sz] at hs tll
    have l2:=bSq w
    have l7:=i1q t (w+1) hc (by omega)
    refine Br.no rfl (Br.no rfl (Br.yes rfl (aSq hl ⟨w,by rw [hlw],by omega,?_⟩)))
    refine ⟨big (by rw [L4,l5];omega),big (by rw [cBq,L4,l5,L3,b1q];simp only [List.length_cons,List.length_nil];omega),λ p1 hp1=>b5q a6q (b5q (by rw [a9q (by rintro rfl;rw [hl] at hp1;cases hp1)];exact hl) ⟨big (by rw [hlw];simp only [List.length_cons,List.length_nil];omega),λ p2 hp2=>?_⟩)⟩
    obtain ⟨_,m1,m2⟩:=jUq (o:=.lst []) hp2
    refine ⟨_,Sub.refl _,t,p2,w+1,rfl,by rw [e6q];exact a6q,hc,by omega,by omega,by omega,⟨big ?_,big ?_,⟨G,Sub.new (Sub.new (Sub.refl _) hp1) m1,?_⟩⟩⟩
    . rw [cBq,cBq,L4,l5,L3,b1q,b1q];simp only [List.length_cons,List.length_nil];omega
    . rw [cBq,cBq,cBq,L4,l5,L3,L2,b1q,b1q,b1q];simp only [List.length_cons,List.length_nil];omega
    . rw [sIq];exact q
  | _=>exact absurd rfl hn2
abbrev mUq:Stmt:=top 4
theorem sc_out:FnScope ["thing", "spelled", "pieces", "pending", "one"] ["thing", "spelled"] (a5q mUq):=⟨rfl,rfl,rfl,by decide +kernel,rfl,by decide +kernel,by decide +kernel⟩
theorem sNq (B:Blt mg) {fk:Addr} (G_spelled:FnV P w K mg base 4 fk (aMq K eHq)) (F:Fun K "spelled_out" "spelled_out" mUq f fd):FnOk P w K mg base CX0 5 f fd ["thing", "spelled"] (aMq K (lMq fk)):=by
  refine okD (k:=4) F sc_out (λ ds G DQ h=>?_) (λ cdv A outer s H E hr ds G DQ h=>?_)
  . obtain ⟨_,_,rfl,_⟩:=h;rfl
  obtain ⟨t0,w0,rfl,hc0,hd0,hs0,q⟩:=h
  refine ⟨_,(a3q (aGq (k:=2) sc_out.nd rfl (Or.inl rfl) (bMq a4q))
      (a3q (aGq (k:=3) sc_out.nd rfl (Or.inl rfl) (bMq (a0q (a1q 0) a4q)))
      (a3q (k2q PassesOwn.never (b9q (a1q 3)) (a3q (aGq (k:=4) sc_out.nd rfl (Or.inl rfl) (lWq PySem.F.plainAttrs_list PySem.F.slot_list_pop PySem.F.type_list_pop j2q (a1q 3)))
      (a7q (aTq (b9q (aUq cLq rfl B.isinstance PyProof.Rows.boot_isinstance (a0q (a1q 4) (a0q (cXq rfl B.str PyProof.Rows.boot_str) a4q)))) (a7q (bFq (cQq PySem.F.plainAttrs_list PySem.F.slot_list_append PySem.F.type_list_append b4q (a1q 2) (a0q (a1q 4) a4q)))) (a7q (bFq (cQq PySem.F.plainAttrs_list PySem.F.slot_list_extend PySem.F.type_list_extend kMq (a1q 3) (a0q (e5q rfl B.list rfl B.reversed (zMq 1 G_spelled hr (by omega) (a0q (a1q 4) a4q))) a4q))))))))
      (a7q (aDq (cQq PySem.F.plainAttrs_str PySem.F.slot_str_join PySem.F.type_str_join q4q aCq (a0q (a1q 2) a4q))))))),?_⟩
  intro a ha b hb
  obtain ⟨-,hb0,hne⟩:=jUq (o:=.lst []) hb
  have tll:=i1q t0 w0 hc0 hd0
  refine ⟨λ μ ρ G'=>∃ (ps:List D) (ys:List Str) (l:List Nat) (o4:Option D),ρ=[some (kWq t0 w0),some (.ref fk),some (.ref a),some (.ref b),o4]/\up (up G a (.lst (ys.map D.str))) b (.lst ps.reverse)=G'/\ItsT ps l μ/\cat ys++l=t0.tl w0/\ys.length+μ<=10 * t0.sz,⟨_,[kWq t0 w0],[],_,_,rfl,rfl,.tm hc0 hd0 .nil,by simp [cat],by simp⟩,?_⟩
  rintro μ ρ G' ⟨ps,ys,l,o4,rfl,rfl,hi,hc,hm⟩
  have ha1:∀ o,up (up G a (.lst (ys.map D.str))) b o a=some (.lst (ys.map D.str)):=λ o=>by rw [a9q (Ne.symm hne)];exact a6q
  refine aSq a6q ⟨λ c=>?_,λ c=>?_⟩
  . cases hi with
    | nil=>exact absurd c (by decide)
    | @str qs l m z hi=>
      have hql:=k5q hi
      refine ⟨aSq a6q trivial,b5q a6q ⟨qs.reverse,.str z,by simp,?_⟩⟩
      rw [dGq]
      refine ⟨true,rfl,⟨λ _=>⟨aSq (ha1 _) trivial,b5q (ha1 _) ⟨bCq (by rw [List.length_map];omega),?_⟩⟩,nofun⟩⟩
      rw [up3 hne]
      exact Wk.of ⟨m,by omega,qs,ys++[z],l,_,rfl,by rw [List.map_append];rfl,hi,by rw [o2q];simpa [cat] using hc,by simp only [List.length_append,List.length_cons,List.length_nil];omega⟩
    | @tm t v qs l m hc1 hd1 hi=>
      have hql:=k5q hi
      obtain ⟨h2,h3⟩:=p0q hc1 hd1
      obtain ⟨m',h4,h5⟩:=h3 _ _ _ hi
      refine ⟨aSq a6q trivial,b5q a6q ⟨qs.reverse,kWq t v,by simp,?_⟩⟩
      rw [dGq]
      refine ⟨false,rfl,⟨nofun,λ _=>⟨aSq a6q trivial,rfl,t,v,rfl,hc1,hd1,λ r hr=>aSq a6q λ r2 hr2=>?_⟩⟩⟩
      generalize m2q t v=rs at h2 h3 h5 hr2
      have hr0:=hr
      rw [a9q (by rintro rfl;rw [a6q] at hr;cases hr)] at hr0
      have nb:b≠r:=by rintro rfl;rw [a6q] at hr;cases hr
      have nb2:b≠r2:=by rintro rfl;rw [a9q nb,a6q] at hr2;cases hr2
      have hr20:=Sub.none (Sub.new (Sub.refl _) hr) hr2
      refine b5q (by rw [a9q nb2,a9q nb];exact a6q) (b5q a6q ⟨fSq (by simp only [List.length_reverse];omega),?_⟩)
      refine ⟨_,up (up G a (.lst (ys.map D.str))) b (.lst (rs++qs).reverse),.refl _,?_,m',by omega,rs++qs,ys,_,_,rfl,rfl,h5,hc,by omega⟩
      rw [List.reverse_append,gJq nb2.symm,gJq nb.symm,dGq]
      refine Sub.new (Sub.new (Sub.refl _) ?_) ?_
      . rw [a9q nb.symm];rw [a9q nb.symm] at hr;exact hr
      . rw [a9q nb2.symm];rw [a9q nb2.symm] at hr20;exact hr20
  . have e:ps=[]:=by
      cases ps with
      | nil=>rfl
      | cons _ _=>simp at c
    subst e
    cases hi
    rw [List.append_nil] at hc
    refine ⟨trivial,aSq (ha1 _) ⟨ys,rfl,by decide +kernel,?_,?_⟩⟩
    . rw [lFq,hc];omega
    . rw [oCq,hc]
      exact ⟨G,Sub.new (Sub.new (Sub.refl _) ha) hb0,q⟩
abbrev lBq:Stmt:=top 5
theorem sc_brk:FnScope ["word", "things", "row", "one"] ["word", "things"] (a5q lBq):=⟨rfl,rfl,rfl,by decide +kernel,rfl,by decide +kernel,by decide +kernel⟩
theorem u5q (F:Fun K "bracketed" "bracketed" lBq f fd):FnOk P w K mg base CX0 1 f fd ["word", "things"] (aMq K m0q):=by
  refine okD (k:=0) F sc_brk (λ ds G DQ h=>?_) (λ cdv A outer s H E hr ds G DQ h=>?_)
  . obtain ⟨_,_,_,rfl,_⟩:=h;rfl
  obtain ⟨z,b,es,rfl,hb,hz,he,q⟩:=h
  refine ⟨_,(a3q (aGq (k:=2) sc_brk.nd rfl (Or.inl rfl) (bMq (a0q (aFq aLq aCq (a1q 0)) a4q)))
      (a3q (e9q PassesOwn.never rfl (f8q (a1q 1)) (bDq (k:=3) sc_brk.nd rfl (Or.inl rfl)) (a3q (bFq (cQq PySem.F.plainAttrs_list PySem.F.slot_list_append PySem.F.type_list_append b4q (a1q 2) (a0q aCq a4q)))
      (a7q (bFq (cQq PySem.F.plainAttrs_list PySem.F.slot_list_append PySem.F.type_list_append b4q (a1q 2) (a0q (a1q 3) a4q))))))
      (a3q (bFq (cQq PySem.F.plainAttrs_list PySem.F.slot_list_append PySem.F.type_list_append b4q (a1q 2) (a0q aCq a4q)))
      (a7q (aDq (a1q 2)))))),?_⟩
  have l1:(("(" : String):Str).length=1:=by decide
  refine ⟨big (by omega),λ p hp=>?_⟩
  have hbp:b≠p:=by rintro rfl;rw [hb] at hp;cases hp
  have hb2:∀ o,up G p o b=some (.lst es):=λ o=>by rw [a9q hbp];exact hb
  refine j5q (hb2 _) ?_
  refine ⟨λ i ρ G'=>∃ o3:Option D,ρ=[some (.str z),some (.ref b),some (.ref p),o3]/\up G p (.lst (.str (("(" : Str)++z)::cOq (es.take i)))=G',⟨_,rfl,rfl⟩,λ i ρ G' _ ⟨_,_,e⟩=>by rw [<- e];exact hb2 _,?_,?_⟩
  . rintro i e ρ G' he' ⟨o3,rfl,rfl⟩
    have he2:es[i]?=some e:=he'
    have hlt:=(List.getElem?_eq_some_iff.mp he2).1
    have ht:es.take (i+1)=es.take i++[e]:=by rw [List.take_add_one,he2,Option.toList_some]
    have hl:(cOq (es.take i)).length<=20:=by rw [cRq,List.length_take];omega
    refine ⟨aSq a6q trivial,b5q a6q ⟨bCq (by simp only [List.length_cons];omega),?_⟩⟩
    rw [dGq]
    refine ⟨aSq a6q trivial,b5q a6q ⟨bCq (by simp only [List.length_cons,List.length_append,List.length_nil];omega),Wk.of ⟨_,rfl,?_⟩⟩⟩
    rw [dGq,ht,h7q]
    simp
  . rintro ρ G' ⟨o3,rfl,rfl⟩
    have e2:es.take (⟨es,λ G=>G b=some (.lst es)⟩:DIt).items.length=es:=List.take_length
    rw [e2]
    refine ⟨aSq a6q trivial,b5q a6q ⟨bCq (by simp only [List.length_cons,cRq];omega),?_⟩⟩
    rw [dGq]
    exact Dr.of (q p hp)
abbrev cWq:Stmt:=top 19
theorem sc_spelled:FnScope ["entry", "program", "ways"] ["entry"] (a5q cWq):=⟨rfl,rfl,rfl,by decide +kernel,rfl,by decide +kernel,by decide +kernel⟩
theorem kNq (B:Blt mg) (g_inner:Got P w K mg base 1 "inner" ["program"] (aMq K (s9q Tm.enc Tm.inn))) (g_nameof:Got P w K mg base 2 "name_of" ["number"] (aMq K g0q)) (g_brk:Got P w K mg base 1 "bracketed" ["word", "things"] (aMq K m0q)) (F:Fun K "spelled" "spelled" cWq f fd):FnOk P w K mg base CX0 4 f fd ["entry"] (aMq K eHq):=by
  refine okD (k:=3) F sc_spelled (λ ds G DQ h=>?_) (λ cdv A outer s H E hr ds G DQ h=>?_)
  . obtain ⟨_,_,rfl,_⟩:=h;rfl
  obtain ⟨t,w,rfl,hc,hd,q⟩:=h
  refine ⟨_,(a3q (aGq (k:=1) sc_spelled.nd rfl (Or.inl rfl) (aWq aix (a1q 0) a2q (λ _ _=>rfl)))
      (a3q (aGq (k:=2) sc_spelled.nd rfl (Or.inr rfl) (aWq aix (a1q 0) a2q (λ _ _=>rfl)))
      (a3q (aTq (aKq (aYq (b6q hr)) (aWq aix (a1q 1) a2q (λ _ _=>rfl)) aCq (aJq _)) (a7q (aDq (bMq (a0q (c6q hBq rfl B.str PyProof.Rows.boot_str (a0q (aWq aix (a1q 1) a2q (λ _ _=>rfl)) a4q)) a4q)))) aOq)
      (a3q (aTq (aKq (aYq (b6q hr)) (aWq aix (a1q 1) a2q (λ _ _=>rfl)) aCq (aJq _)) (a7q (aDq (bMq (a0q (aAq g_nameof hr (by omega) rfl (a0q (aFq aQq (aFq aQq (a1q 2) a2q) (aWq aix (a1q 1) a2q (λ _ _=>rfl))) a4q)) a4q)))) aOq)
      (a3q (aTq (aKq (aYq (b6q hr)) (aWq aix (a1q 1) a2q (λ _ _=>rfl)) aCq (aJq _)) (a7q (aDq (bMq (a0q aCq (a0q (aAq g_nameof hr (by omega) rfl (a0q (a1q 2) a4q)) (a0q aCq (a0q (bBq (a0q (aWq aix (a1q 1) a2q (λ _ _=>rfl)) (a0q (aFq aLq (a1q 2) a2q) a4q))) (a0q aCq a4q)))))))) aOq)
      (a7q (aDq (aAq g_brk hr (by omega) rfl (a0q (aWq aix (a1q 1) a2q (λ _ _=>rfl)) (a0q (iHq rfl (CompOk.of (N':=["one", "ways"]) (nt:=1) (cap:=[2]) rfl (by kernel_rfl)) (c7q (k:=0) (by decide)) (f8q (aAq g_inner hr (by omega) rfl (a0q (a1q 1) a4q))) (λ _ _ _ _=>(bDq (k:=0) (show List.Nodup (["one", "ways"]:List Str) by decide +kernel) rfl (Or.inl rfl))) (λ _ _ _ _=>(bBq (a0q (a1q 0) (a0q (a1q 1) a4q))))) a4q)))))))))),?_⟩
  by_cases hn2:t.node2=true
  . obtain ⟨n1,n2,n3,n4,n5⟩:=eZq hn2
    rw [kWq,Tm.enc_node n4]
    have hil:=t.inn_len
    have hwl:t.word.length=(cL t.word).length:=Array.length_toList.symm
    refine Br.no n1 (Br.no n2 (Br.no n3 ⟨t,by rw [Tm.enc_node n4],?_⟩))
    refine fXq t.inn Tm.enc (λ u=>kWq u w) rfl (bCq (by omega)) trivial (λ u hu R hR=>hR) (λ p hp=>?_)
    refine ⟨t.word,p,t.inn.map (λ u=>kWq u w),rfl,a6q,by omega,by rw [List.length_map];omega,λ l hl=>?_⟩
    obtain ⟨_,m1,m2⟩:=jUq (o:=.lst []) hl
    have z:=q l m1
    rw [i5q hn2] at z
    exact ⟨_,Sub.put (Sub.new (Sub.refl _) hp),z⟩
  cases t with
  | whole k=>
    refine Br.yes rfl ⟨?_,λ l hl=>Dr.of (q l hl)⟩
    by_cases e:k.natAbs=0
    . rw [e];decide
    . have:=(Nat.log2_lt e (k:=40)).mpr (Nat.lt_trans hc (by decide));omega
  | name k=>
    have hk:k < w:=hc
    refine Br.no rfl (Br.yes rfl ⟨w - 1 - k,?_,by omega,λ l hl=>Dr.of (q l hl)⟩)
    rw [show ((w - 1 - k:Nat):Int)=(w:Int) - 1 - k by omega]
  | way t=>
    simp only [Tm.dp] at hd
    exact Br.no rfl (Br.no rfl (Br.yes rfl ⟨w,rfl,by omega,λ l hl=>Dr.of (q l hl)⟩))
  | _=>exact absurd rfl hn2
abbrev g6q:Stmt:=top 18
theorem p2q:FnScope ["program"] ["program"] (a5q g6q):=⟨rfl,rfl,rfl,by decide +kernel,rfl,by decide +kernel,by decide +kernel⟩
theorem pUq {fp:Addr} (m_spelled:mg "spelled" = some (.ref fp)) (g_out:Got P w K mg base 5 "spelled_out" ["thing", "spelled"] (aMq K (lMq fp))) (F:Fun K "shown" "shown" g6q f fd):FnOk P w K mg base CX0 6 f fd ["program"] (aMq K gKq):=by
  refine okD (k:=5) F p2q (λ ds G DQ h=>?_) (λ cdv A outer s H E hr ds G DQ h=>?_)
  . obtain ⟨_,rfl,_⟩:=h;rfl
  obtain ⟨t,rfl,hc,hd,hs,q⟩:=h
  exact ⟨_,(a7q (aDq (aAq g_out hr (by omega) rfl (a0q (bBq (a0q (a1q 0) (a0q a2q a4q))) (a0q (cGq (d:=.ref _) (v:=.ref _) rfl m_spelled rfl (λ _=>rfl)) a4q))))),t,0,rfl,hc,by omega,hs,Dr.of q⟩
abbrev eVq:Stmt:=(c4q (top 26)).getD 0 (.Pass ⟨0,0,0,0⟩)
theorem l1q:FnScope ["self"] ["self"] (a5q eVq):=⟨rfl,rfl,rfl,by decide +kernel,rfl,by decide +kernel,by decide +kernel⟩
theorem mMq {C:Addr} (c_Reading:Cls K C) (n_awaited:NoAttr K C "awaited") (n_brackets:NoAttr K C "brackets") (n_ways_around:NoAttr K C "ways_around") (n_bound:NoAttr K C "bound") (n_unbound:NoAttr K C "unbound") (n_result:NoAttr K C "result") (F:Fun K "__init__" "Reading.__init__" eVq f fd):FnOk P w K mg base CX0 1 f fd ["self"] (aMq K (jJq C)):=by
  refine okD (k:=0) F l1q (λ ds G DQ h=>?_) (λ cdv A outer s H E hr ds G DQ h=>?_)
  . obtain ⟨_,_,rfl,_⟩:=h;rfl
  obtain ⟨r,X,rfl,hr0,hX,q⟩:=h
  refine ⟨_,(a3q (bNq c_Reading n_awaited (a1q 0) aCq)
      (a3q (bNq c_Reading n_brackets (a1q 0) (bMq a4q))
      (a3q (bNq c_Reading n_ways_around (a1q 0) a2q)
      (a3q (bNq c_Reading n_bound (a1q 0) p5q)
      (a3q (bNq c_Reading n_unbound (a1q 0) hRq)
      (a7q (bNq c_Reading n_result (a1q 0) hRq))))))),?_⟩
  refine aBq hr0 ⟨show 0 < 1000 by decide,?_⟩
  intro lb hlb
  have n1:lb≠r:=by rintro rfl;rw [a6q] at hlb;cases hlb
  have hlb0:G lb=none:=by rw [a9q n1] at hlb;exact hlb
  have k1:∀ (Y:DV) (fs:List (Str × D)),up (up Y r (.ins C fs)) lb (.lst []) r=some (.ins C fs):=λ Y fs=>by rw [a9q n1.symm];exact a6q
  refine aBq (k1 _ _) ⟨show 1 < 1000 by decide,aBq a6q ⟨show 2 < 1000 by decide,?_⟩⟩
  intro ld hld
  have n2:ld≠r:=by rintro rfl;rw [a6q] at hld;cases hld
  rw [a9q n2,a9q n2] at hld
  have n3:ld≠lb:=by rintro rfl;rw [a6q] at hld;cases hld
  have hld0:G ld=none:=by rw [a9q n3,a9q n2] at hld;exact hld
  have k2:∀ (Y:DV) (fs:List (Str × D)),up (up Y r (.ins C fs)) ld (.dK []) r=some (.ins C fs):=λ Y fs=>by rw [a9q n2.symm];exact a6q
  refine aBq (k2 _ _) ⟨show 3 < 1000 by decide,aBq a6q ⟨show 4 < 1000 by decide,aBq a6q ⟨show 5 < 1000 by decide,Dr.of ?_⟩⟩⟩
  simp only [dGq]
  refine q _ ⟨lb,ld,[],[],λ _=>none⟩ ⟨a6q,?_,rfl,λ z hz=>(by cases hz),?_,λ j _=>rfl,λ j b e=>(by cases e),λ j hj=>absurd hj (Nat.not_lt_zero _),by simp,λ j b e=>(by cases e),λ i j b e=>(by cases e),λ x hx=>⟨(hX x hx).1,?_,?_,by simp,λ j=>(by simp)⟩,λ x hx=>?_,Nat.le_refl _,Nat.le_refl _,λ f hf=>(by cases hf),by decide,by decide⟩ λ x hx=>?_
  . rw [a9q n1,a9q n3.symm,a9q n1];exact a6q
  . rw [a9q n2];exact a6q
  . rintro rfl;exact (hX _ hx).2 hlb0
  . rintro rfl;exact (hX _ hx).2 hld0
  all_goals
    have m1:=(hX x hx).1
    have m2:x≠lb:=by rintro rfl;exact (hX _ hx).2 hlb0
    have m3:x≠ld:=by rintro rfl;exact (hX _ hx).2 hld0
    rw [a9q m1,a9q m3,a9q m1,a9q m2,a9q m1]
  exact (hX x hx).2
abbrev gYq:Stmt:=(c4q (top 26)).getD 7 (.Pass ⟨0,0,0,0⟩)
theorem sc_r_fin:FnScope ["self", "program", "around"] ["self", "program"] (a5q gYq):=⟨rfl,rfl,rfl,by decide +kernel,rfl,by decide +kernel,by decide +kernel⟩
theorem qHq {C:Addr} (B:Blt mg) (c_Reading:Cls K C) (n_awaited:NoAttr K C "awaited") (n_brackets:NoAttr K C "brackets") (n_ways_around:NoAttr K C "ways_around") (n_bound:NoAttr K C "bound") (n_unbound:NoAttr K C "unbound") (n_result:NoAttr K C "result") {aI:Addr} (m_INNER_COUNTS:mg "INNER_COUNTS" = some (.ref aI)) (T_INNER_COUNTS:KTabD K w aI o7q) (F:Fun K "finish" "Reading.finish" gYq f fd):FnOk P w K mg base CX0 2 f fd ["self", "program"] (aMq K (q7q C)):=by
  refine okD (k:=1) F sc_r_fin (λ ds G DQ h=>?_) (λ cdv A outer s H E hr ds G DQ h=>?_)
  . obtain ⟨_,_,_,_,_,_,_,_,rfl,_⟩:=h;rfl
  obtain ⟨r,X,aw,fs,w,n,L,p,rfl,h,hfs,q⟩:=h
  refine ⟨_,(a3q (aTq (aKq (aYq (b6q hr)) (aUq b7q rfl B.len PySem.boot_len (a0q (bAq c_Reading n_brackets (a1q 0)) a4q)) a2q (aJq _)) (a3q (bNq c_Reading n_result (a1q 0) (a1q 1))
      (a3q (bNq c_Reading n_awaited (a1q 0) aCq)
      (a7q tZq))) aOq)
      (a3q (aGq (k:=2) sc_r_fin.nd rfl (Or.inl rfl) (aWq aix (bAq c_Reading n_brackets (a1q 0)) (t3q jGq a2q) (λ _ _=>rfl)))
      (a3q (bFq (cQq PySem.F.plainAttrs_list PySem.F.slot_list_append PySem.F.type_list_append b4q (aWq aix (a1q 2) a2q (λ _ _=>rfl)) (a0q (a1q 1) a4q)))
      (a7q (bNq c_Reading n_awaited (a1q 0) (jOq (aKq (aYq (b6q hr)) (aUq b7q rfl B.len PySem.boot_len (a0q (aWq aix (a1q 2) a2q (λ _ _=>rfl)) a4q)) (vVq rfl m_INNER_COUNTS T_INNER_COUNTS (aWq aix (a1q 2) a2q (λ _ _=>rfl)) (λ _ _=>rfl)) (aJq _)) aCq aCq)))))),?_⟩
  refine aBq h.ins (aPq rfl (aSq h.stk ?_))
  cases fs with
  | nil=>
    refine ⟨λ _=>aBq h.ins ⟨show 6 < 1000 by decide,aBq a6q ⟨show 6 < 1000 by decide,Dr.of ?_⟩⟩,λ c=>absurd c (by simp)⟩
    rw [dGq]
    exact q _ L (h.fld (s':=⟨.noth,[],w,some p⟩) rfl rfl) λ x hx=>a9q (h.apx x hx).1
  | cons f fs=>
    obtain ⟨hz,hcn⟩:=hfs f (List.mem_cons_self ..)
    have hlen:=h.len
    obtain ⟨l,ls,el⟩:∃ l ls,L.ls=l::ls:=by
      cases e:L.ls with
      | nil=>rw [e] at hlen;cases hlen
      | cons l ls=>exact ⟨l,ls,rfl⟩
    have hl:=h.frs (f,l) (by rw [el];simp)
    have hc3:iAq f.z<=3:=by unfold iAq;repeat (first | split | omega)
    have hap:=h.app (p:=p) el (by omega)
    refine ⟨λ c=>absurd c (by simp [el];omega),λ _=>aBq h.ins (aPq rfl (mBq h.stk (d:=frD f l) ?_ ?_))⟩
    . rw [el]
      show atI (((f,l)::fs.zip ls).reverse.map λ z=>frD z.1 z.2) (-1)=_
      rw [List.reverse_cons,List.map_append];exact tTq _ _
    have hps:=h.few.2.2.1 f (List.mem_cons_self ..)
    refine ⟨aSq hl trivial,b5q hl ⟨bCq (by rw [List.length_map];show f.ps.length<=200000;omega),?_⟩⟩
    rw [show f.ps.map Tm.enc++[p.enc]=(f.ps++[p]).map Tm.enc by simp]
    have keep:∀ (o:DO) (x:Addr),X x->up (up G l (.lst ((f.ps++[p]).map Tm.enc))) r o x=G x:=λ o x hx=>by
      obtain ⟨x1,_,_,x4,_⟩:=h.apx x hx
      rw [a9q x1,a9q (by rintro rfl;exact x4 (by rw [el];simp))]
    refine aSq a6q ⟨_,jWq hz,⟨λ c=>aBq hap.ins ⟨show 6 < 1000 by decide,Dr.of ?_⟩,λ c=>aBq hap.ins ⟨show 6 < 1000 by decide,Dr.of ?_⟩⟩⟩
    . have c':f.ps.length+1=iAq f.z:=by
        have c1:(((f.ps++[p]).map Tm.enc).length:Int)=(iAq f.z:Nat):=by simpa using c
        simp only [List.length_map,List.length_append,List.length_cons,List.length_nil] at c1
        omega
      exact q _ L (by rw [b8q c'];exact hap.fld (s':=⟨.brk,⟨f.z,f.nm,f.ps++[p]⟩::fs,w,none⟩) rfl rfl) (keep _)
    . have c':f.ps.length+1≠iAq f.z:=by
        have c1:¬ (((f.ps++[p]).map Tm.enc).length:Int)=(iAq f.z:Nat):=by simpa using c
        simp only [List.length_map,List.length_append,List.length_cons,List.length_nil] at c1
        omega
      exact q _ L (by rw [bLq c'];exact hap.fld (s':=⟨.prog,⟨f.z,f.nm,f.ps++[p]⟩::fs,w,none⟩) rfl rfl) (keep _)
abbrev gIq:Stmt:=(c4q (top 26)).getD 6 (.Pass ⟨0,0,0,0⟩)
theorem sc_r_num:FnScope ["self", "name", "levels"] ["self", "name"] (a5q gIq):=⟨rfl,rfl,rfl,by decide +kernel,rfl,by decide +kernel,by decide +kernel⟩
theorem oEq {C:Addr} (B:Blt mg) (c_Reading:Cls K C) (n_awaited:NoAttr K C "awaited") (n_brackets:NoAttr K C "brackets") (n_ways_around:NoAttr K C "ways_around") (n_bound:NoAttr K C "bound") (n_unbound:NoAttr K C "unbound") (n_result:NoAttr K C "result") (F:Fun K "number_of" "Reading.number_of" gIq f fd):FnOk P w K mg base CX0 2 f fd ["self", "name"] (aMq K (nKq C)):=by
  refine okD (k:=1) F sc_r_num (λ ds G DQ h=>?_) (λ cdv A outer s H E hr ds G DQ h=>?_)
  . obtain ⟨_,_,_,_,_,_,rfl,_⟩:=h;rfl
  obtain ⟨r,X,s,n,L,i,rfl,h,hi,q⟩:=h
  refine ⟨_,(a3q (aGq (k:=2) sc_r_num.nd rfl (Or.inl rfl) (mGq (b6q hr) (bAq c_Reading n_bound (a1q 0)) (a1q 1) (bMq a4q) ⟨rfl,rfl,rfl,rfl⟩))
      (a3q (aTq (aKq fHq (aUq b7q rfl B.len PySem.boot_len (a0q (a1q 2) a4q)) a2q (aJq _)) (a7q (aDq (aFq aQq (aFq aQq (bAq c_Reading n_ways_around (a1q 0)) a2q) (aWq aix (a1q 2) (t3q jGq a2q) (λ _ _=>rfl))))) aOq)
      (a3q (aTq (aKq vXq (bAq c_Reading n_unbound (a1q 0)) hRq (aJq _)) (a7q (bNq c_Reading n_unbound (a1q 0) (a1q 1))) aOq)
      (a7q (aDq a2q))))),?_⟩
  have hw:=h.few.2.2.2.1
  obtain ⟨b,hb⟩:=Option.isSome_iff_exists.mp (h.has i hi)
  have hk:=h.key i (by omega)
  rw [hb] at hk
  have hl:=h.bnd i b hb
  rw [if_pos hi] at hl
  refine aBq h.ins (aPq rfl ⟨hJq h.dic trivial,λ p hp=>?_⟩)
  have np:∀ {x:Addr} {o:DO},G x=some o->x≠p:=λ e=>by rintro rfl;rw [hp] at e;cases e
  refine hJq (by rw [a9q (np h.dic)];exact h.dic) ⟨_,rfl,?_⟩
  rw [hk]
  have hl2:∀ o,up G p o b=some (.lst [.int i]):=λ o=>by rw [a9q (np hl)];exact hl
  refine aSq (hl2 _) ⟨λ _=>?_,λ c=>absurd c (by simp)⟩
  have hi2:∀ o,up G p o r=some (nFq C L.lb L.ld s):=λ o=>by rw [a9q (np h.ins)];exact h.ins
  refine aBq (hi2 _) (aPq rfl ?_)
  refine mBq (hl2 _) (d:=.int i) rfl ?_
  exact ⟨G,Sub.new (Sub.refl _) hp,q⟩
abbrev g2q:Stmt:=(c4q (top 26)).getD 5 (.Pass ⟨0,0,0,0⟩)
theorem sc_r_brk:FnScope ["self", "word", "closed"] ["self", "word"] (a5q g2q):=⟨rfl,rfl,rfl,by decide +kernel,rfl,by decide +kernel,by decide +kernel⟩
theorem oDq {C:Addr} (B:Blt mg) (c_Reading:Cls K C) (n_awaited:NoAttr K C "awaited") (n_brackets:NoAttr K C "brackets") (n_ways_around:NoAttr K C "ways_around") (n_bound:NoAttr K C "bound") (n_unbound:NoAttr K C "unbound") (n_result:NoAttr K C "result") (g_r_fin:MGot P w K mg base 2 C "finish" ["self", "program"] (aMq K (q7q C))) (F:Fun K "take_bracket" "Reading.take_bracket" g2q f fd):FnOk P w K mg base CX0 3 f fd ["self", "word"] (aMq K (nGq C)):=by
  refine okD (k:=2) F sc_r_brk (λ ds G DQ h=>?_) (λ cdv A outer s H E hr ds G DQ h=>?_)
  . obtain ⟨_,_,_,_,_,_,_,rfl,_⟩:=h;rfl
  obtain ⟨r,X,fs,w,n,L,t,rfl,hfs,hc⟩:=h
  refine ⟨_,(a3q (aTq (aKq (k0q (b6q hr)) (a1q 1) aCq (aJq _)) (a7q (aDq cZq)) aOq)
      (a3q (aGq (k:=2) sc_r_brk.nd rfl (Or.inl rfl) (lWq PySem.F.plainAttrs_list PySem.F.slot_list_pop PySem.F.type_list_pop j2q (bAq c_Reading n_brackets (a1q 0))))
      (a3q (aTq (aKq (aYq (b6q hr)) (aWq aix (a1q 2) a2q (λ _ _=>rfl)) aCq (aJq _)) (a3q (lTq c_Reading n_ways_around (a1q 0) a2q)
      (a7q (bFq (lWq PySem.F.plainAttrs_list PySem.F.slot_list_pop PySem.F.type_list_pop j2q (oPq (b6q hr) (bAq c_Reading n_bound (a1q 0)) (aWq aix (a1q 2) a2q (λ _ _=>rfl)) (λ _ _=>rfl)))))) aOq)
      (a3q (bFq (bWq c_Reading g_r_fin hr (by omega) (a1q 0) (a0q (aFq aLq (bBq (a0q (aWq aix (a1q 2) a2q (λ _ _=>rfl)) a4q)) (c6q iLq rfl B.tuple PyProof.Rows.boot_tuple (a0q (aWq aix (a1q 2) a2q (λ _ _=>rfl)) a4q))) a4q)))
      (a7q (aDq cZq)))))),?_⟩
  refine Br.no (by decide +kernel) ?_
  rcases hc with ⟨hn2,h,q⟩ | ⟨hw,h,q⟩
  . obtain ⟨w1,w2,w3,w4,w5⟩:=eZq hn2
    have hlen:=h.len
    obtain ⟨l,ls,el⟩:∃ l ls,L.ls=l::ls:=by
      cases e:L.ls with
      | nil=>rw [e] at hlen;cases hlen
      | cons l ls=>exact ⟨l,ls,rfl⟩
    have hp:=h.pop el
    have nlb:l≠L.lb:=λ e=>by
      have z:=h.nd
      rw [el] at z
      exact (List.nodup_cons.mp z).1 (by rw [e];simp)
    have keep1:∀ x,X x->up G L.lb (.lst ((fs.zip ls).reverse.map λ z=>frD z.1 z.2)) x=G x:=λ x hx=>a9q (h.apx x hx).2.1
    have hl:=h.frs (⟨t.word,none,t.inn⟩,l) (by rw [el];simp)
    refine aBq h.ins (aPq rfl ⟨aSq h.stk trivial,b5q h.stk ⟨(fs.zip ls).reverse.map λ z=>frD z.1 z.2,frD ⟨t.word,none,t.inn⟩ l,by rw [el];simp,?_⟩⟩)
    refine Br.no w3 ?_
    have hl2:up G L.lb (.lst ((fs.zip ls).reverse.map λ z=>frD z.1 z.2)) l=some (.lst (t.inn.map Tm.enc)):=by rw [a9q nlb];exact hl
    have hil:=t.inn_len
    refine ⟨aBq hp.ins rfl,aSq hl2 ⟨fSq (by simp only [List.length_cons,List.length_nil,List.length_map];omega),r,X,.brk,fs,w,n,_,t,by rw [Tm.enc_node w4];rfl,hp,hfs,λ G' L' hR keep=>?_⟩⟩
    exact Dr.of (q G' L' hR λ x hx=>(keep x hx).trans (keep1 x hx))
  . have hlen:=h.len
    obtain ⟨l,ls,el⟩:∃ l ls,L.ls=l::ls:=by
      cases e:L.ls with
      | nil=>rw [e] at hlen;cases hlen
      | cons l ls=>exact ⟨l,ls,rfl⟩
    have hp:=h.pop el
    have nlb:l≠L.lb:=λ e=>by
      have z:=h.nd
      rw [el] at z
      exact (List.nodup_cons.mp z).1 (by rw [e];simp)
    have keep1:∀ x,X x->up G L.lb (.lst ((fs.zip ls).reverse.map λ z=>frD z.1 z.2)) x=G x:=λ x hx=>a9q (h.apx x hx).2.1
    have hl:=h.frs (⟨"way", some w,[t]⟩,l) (by rw [el];simp)
    refine aBq h.ins (aPq rfl ⟨aSq h.stk trivial,b5q h.stk ⟨(fs.zip ls).reverse.map λ z=>frD z.1 z.2,frD ⟨"way", some w,[t]⟩ l,by rw [el];simp,?_⟩⟩)
    refine Br.yes rfl ?_
    revert hp keep1
    generalize hG1:up G L.lb (.lst ((fs.zip ls).reverse.map λ z=>frD z.1 z.2))=G1
    intro hp keep1
    obtain ⟨b,hb⟩:=Option.isSome_iff_exists.mp (hp.has w (Nat.lt_succ_self w))
    have hk:=hp.key w hw
    rw [hb] at hk
    have gb:=hp.bnd w b hb
    rw [if_pos (Nat.lt_succ_self w)] at gb
    have nb:=hp.ne_lst gb
    have hu:=hp.unbind hb
    have ei:((w+1:Nat):Int) - 1=(w:Int):=by omega
    refine aBq hp.ins (aPq rfl (aBq hp.ins ⟨show 6 < 1000 by decide,?_⟩))
    have eI:DO.ins C [("awaited", .str "bracket"),("brackets", .ref L.lb),("ways_around", .int (((w+1:Nat):Int) - 1)),("bound", .ref L.ld),("unbound", .non),("result", .non)]=nFq C L.lb L.ld ⟨.brk,fs,w,none⟩:=by rw [ei];rfl
    have eU:up G1 r (DO.ins C [("awaited", .str "bracket"),("brackets", .ref L.lb),("ways_around", .int (((w+1:Nat):Int) - 1)),("bound", .ref L.ld),("unbound", .non),("result", .non)])=up G1 r (nFq C L.lb L.ld ⟨.brk,fs,w,none⟩):=by rw [eI]
    have gb2:∀ o,up G1 r o b=some (.lst [.int w]):=λ o=>by rw [a9q nb.1];exact gb
    have gd2:∀ o,up G1 r o L.ld=some (.dK L.kvs):=λ o=>by rw [a9q hp.ld_r];exact hp.dic
    refine aBq a6q (aPq rfl (hJq (gd2 _) ⟨.inr (a8q w),.ref b,rfl,hk,aSq (gb2 _) trivial,b5q (gb2 _) ⟨[],.int w,rfl,?_⟩⟩))
    refine Eq.mpr (congrArg (λ z=>_) (congrArg (λ y=>up y b (.lst [])) eU)) ?_
    have hl1:G1 l=some (.lst [t.enc]):=by rw [<- hG1,a9q nlb];exact hl
    have nlr:=hp.ne_lst hl1
    have nlb2:l≠b:=by
      rintro rfl
      exact h.apb w _ hb (by rw [el];simp)
    have hl3:∀ o o',up (up G1 r o) b o' l=some (.lst [t.enc]):=λ o o'=>by rw [a9q nlb2,a9q nlr.1];exact hl1
    refine ⟨aBq (by exact hu.ins) rfl,aSq (hl3 _ _) ⟨fSq (by simp),r,X,.brk,fs,w,n,_,.way t,rfl,hu,hfs,λ G' L' hR keep=>?_⟩⟩
    refine Dr.of (q G' L' hR λ x hx=>?_)
    rw [keep x hx,a9q (by rintro rfl;exact (hp.apx _ hx).2.2.2.2 w hb),a9q (hp.apx x hx).1]
    exact keep1 x hx
abbrev eRq:Stmt:=(c4q (top 26)).getD 4 (.Pass ⟨0,0,0,0⟩)
theorem l6q:FnScope ["self", "word"] ["self", "word"] (a5q eRq):=⟨rfl,rfl,rfl,by decide +kernel,rfl,by decide +kernel,by decide +kernel⟩
theorem nOq {C:Addr} (B:Blt mg) (c_Reading:Cls K C) (n_awaited:NoAttr K C "awaited") (n_brackets:NoAttr K C "brackets") (n_ways_around:NoAttr K C "ways_around") (n_bound:NoAttr K C "bound") (n_unbound:NoAttr K C "unbound") (n_result:NoAttr K C "result") (g_isname:Got P w K mg base 2 "is_name" ["text"] (aMq K jZq)) (F:Fun K "take_name" "Reading.take_name" eRq f fd):FnOk P w K mg base CX0 3 f fd ["self", "word"] (aMq K (iPq C)):=by
  refine okD (k:=2) F l6q (λ ds G DQ h=>?_) (λ cdv A outer s H E hr ds G DQ h=>?_)
  . obtain ⟨_,_,_,_,_,_,rfl,_⟩:=h;rfl
  obtain ⟨r,X,fs,w,n,L,rfl,h,hn,hw,q⟩:=h
  refine ⟨_,(a3q (aTq (i4q (b9q (aAq g_isname hr (by omega) rfl (a0q (a1q 1) a4q)))) (a7q (aDq cZq)) aOq)
      (a3q (bFq (cQq PySem.F.plainAttrs_list PySem.F.slot_list_append PySem.F.type_list_append b4q (bAq c_Reading n_brackets (a1q 0)) (a0q (bBq (a0q aCq (a0q (a1q 1) (a0q (bMq a4q) a4q)))) a4q)))
      (a3q (bFq (cQq PySem.F.plainAttrs_list PySem.F.slot_list_append PySem.F.type_list_append b4q (kIq (bAq c_Reading n_bound (a1q 0)) (a1q 1) (bMq a4q) ⟨rfl,rfl,rfl,rfl⟩) (a0q (bAq c_Reading n_ways_around (a1q 0)) a4q)))
      (a3q (lDq c_Reading n_ways_around (a1q 0) a2q)
      (a3q (bNq c_Reading n_awaited (a1q 0) aCq)
      (a7q (aDq cZq))))))),?_⟩
  have l2:=bSq w
  have hfl:=h.few.2.1
  refine ⟨a8q w,rfl,by omega,Br.no (by rw [d3q w hw];rfl) ?_⟩
  refine aBq h.ins (aPq rfl ⟨aSq h.stk trivial,λ l hl=>?_⟩)
  have nl:L.lb≠l:=by intro e;have a:=h.stk;rw [e,hl] at a;cases a
  have hp:=h.push hl (by omega) ⟨"way", some w,[]⟩ rfl
  have hlz:((fs.zip L.ls).reverse.map λ z=>frD z.1 z.2).length<=20000:=by
    simp only [List.length_map,List.length_reverse,List.length_zip]
    have:fs.length<=n:=hfl
    omega
  have hst:up G l (.lst []) L.lb=some (.lst ((fs.zip L.ls).reverse.map λ z=>frD z.1 z.2)):=by rw [a9q nl];exact h.stk
  refine b5q hst ⟨bCq (by omega),?_⟩
  have keep:∀ x,X x->up (up G l (.lst [])) L.lb (.lst (((fs.zip L.ls).reverse.map λ z=>frD z.1 z.2)++[frD ⟨"way", some w,[]⟩ l])) x=G x:=λ x hx=>by
    obtain ⟨a1,a2,a3,a4,a5⟩:=h.apx x hx
    have hne:x≠l:=by rintro rfl;exact h.liv _ hx hl
    rw [a9q a2,a9q hne]
  revert hp keep
  show ∀ hp keep,_
  generalize hG1:up (up G l (.lst [])) L.lb (.lst (((fs.zip L.ls).reverse.map λ z=>frD z.1 z.2)++[frD ⟨"way", some w,[]⟩ l]))=G1
  intro hp keep
  have hG1':up (up G l (.lst [])) L.lb (.lst (((fs.zip L.ls).reverse.map λ z=>frD z.1 z.2)++[.tup [.str "way", .str (a8q w),.ref l]]))=G1:=hG1
  rw [hG1']
  refine aBq hp.ins (aPq rfl ⟨hJq hp.dic trivial,λ p hp0=>?_⟩)
  have hq:=hp.new hp0 (.lst [])
  refine hJq hq.dic ⟨_,rfl,?_,λ d hd=>?_,λ hd=>?_⟩
  . exact bCq (by have:=hp.few.1;have:=hp.few.2.2.2.2;simp only [] at *;omega)
  . have hk:=hp.key w hw
    rw [hd] at hk
    cases hb:L.bd w with
    | none=>rw [show (({ L with ls:=l::L.ls }:Lay).bd w)=none from hb] at hk;cases hk
    | some b=>
    rw [show (({ L with ls:=l::L.ls }:Lay).bd w)=some b from hb] at hk
    cases hk
    have hR:=hq
    replace hb:({ L with ls:=l::L.ls }:Lay).bd w=some b:=hb
    have gb:=hR.bnd w b hb
    rw [if_neg (Nat.lt_irrefl _)] at gb
    have nb:=hR.ne_lst gb
    have hB:=hR.bindOld (aw':=.prog) hw hb
    refine ⟨aSq gb trivial,aBq hR.ins (aPq rfl (b5q gb ⟨bCq (by simp),?_⟩))⟩
    have hi3:∀ o,up (up G1 p (.lst [])) b o r=some (nFq C L.lb L.ld ⟨.name,⟨"way", some w,[]⟩::fs,w,none⟩):=λ o=>by rw [a9q nb.1.symm];exact hR.ins
    refine aBq (hi3 _) (aPq rfl (aBq (hi3 _) ⟨show 6 < 1000 by decide,aBq a6q ⟨show 6 < 1000 by decide,Dr.of ?_⟩⟩))
    rw [dGq]
    refine q _ _ (hB.more (by omega)) λ x hx=>?_
    obtain ⟨a1,a2,a3,a4,a5⟩:=hR.apx x hx
    rw [a9q a1,a9q (by rintro rfl;exact a5 w hb)]
    rw [a9q (by rintro rfl;exact hp.liv _ hx hp0)]
    exact keep x hx
  . have hk:=hp.key w hw
    rw [hd] at hk
    have hb0:({ L with ls:=l::L.ls }:Lay).bd w=none:=by
      cases e:({ L with ls:=l::L.ls }:Lay).bd w with
      | none=>rfl
      | some b=>rw [e] at hk;cases hk
    have hR:=hp.bindNew hw hp0 (by omega) hb0
    have hb:(if w=w then some p else ({ L with ls:=l::L.ls }:Lay).bd w)=some p:=if_pos rfl
    have gb:=hR.bnd w p hb
    rw [if_neg (Nat.lt_irrefl _)] at gb
    have nb:=hR.ne_lst gb
    have hB:=hR.bindOld (aw':=.prog) hw hb
    refine ⟨aSq gb trivial,aBq hR.ins (aPq rfl (b5q gb ⟨bCq (by simp),?_⟩))⟩
    have hi3:∀ o,up (up (up G1 p (.lst [])) L.ld (.dK (putKD L.kvs (.inr (a8q w)) (.ref p)))) p o r=some (nFq C L.lb L.ld ⟨.name,⟨"way", some w,[]⟩::fs,w,none⟩):=λ o=>by rw [a9q nb.1.symm];exact hR.ins
    refine aBq (hi3 _) (aPq rfl (aBq (hi3 _) ⟨show 6 < 1000 by decide,aBq a6q ⟨show 6 < 1000 by decide,Dr.of ?_⟩⟩))
    rw [dGq]
    refine q _ _ hB λ x hx=>?_
    obtain ⟨a1,a2,a3,a4,a5⟩:=hR.apx x hx
    have hne:x≠p:=by rintro rfl;exact hp.liv _ hx hp0
    have a3':x≠L.ld:=a3
    rw [a9q a1,a9q hne,a9q a3',a9q hne]
    exact keep x hx
abbrev eJq:Stmt:=(c4q (top 26)).getD 3 (.Pass ⟨0,0,0,0⟩)
theorem l9q:FnScope ["self", "word"] ["self", "word"] (a5q eJq):=⟨rfl,rfl,rfl,by decide +kernel,rfl,by decide +kernel,by decide +kernel⟩
theorem lUq {C:Addr} (B:Blt mg) (c_Reading:Cls K C) (n_awaited:NoAttr K C "awaited") (n_brackets:NoAttr K C "brackets") (n_ways_around:NoAttr K C "ways_around") (n_bound:NoAttr K C "bound") (n_unbound:NoAttr K C "unbound") (n_result:NoAttr K C "result") {aI:Addr} (m_INNER_COUNTS:mg "INNER_COUNTS" = some (.ref aI)) (T_INNER_COUNTS:KTabD K w aI o7q) (F:Fun K "take_word" "Reading.take_word" eJq f fd):FnOk P w K mg base CX0 2 f fd ["self", "word"] (aMq K (jBq C)):=by
  refine okD (k:=1) F l9q (λ ds G DQ h=>?_) (λ cdv A outer s H E hr ds G DQ h=>?_)
  . obtain ⟨_,_,_,_,_,_,_,rfl,_⟩:=h;rfl
  obtain ⟨r,X,fs,w,n,L,z,rfl,h,hn,hz,q1,q2⟩:=h
  refine ⟨_,(a3q (aTq (aKq (fDq T_INNER_COUNTS) (a1q 1) (cGq (d:=.ref _) (v:=.ref _) rfl m_INNER_COUNTS rfl (λ _=>rfl)) (by with_unfolding_all rfl)) (a7q (aDq cZq)) aOq)
      (a3q (aTq (aKq (aYq (b6q hr)) (a1q 1) aCq (aJq _)) (a7q (bNq c_Reading n_awaited (a1q 0) aCq)) (a3q (bFq (cQq PySem.F.plainAttrs_list PySem.F.slot_list_append PySem.F.type_list_append b4q (bAq c_Reading n_brackets (a1q 0)) (a0q (bBq (a0q (a1q 1) (a0q hRq (a0q (bMq a4q) a4q)))) a4q)))
      (a7q (bNq c_Reading n_awaited (a1q 0) aCq))))
      (a7q (aDq cZq)))),?_⟩
  have hzt:(o7q z).isSome=true:=by rw [jWq hz];rfl
  have hfl:=h.few.2.1
  refine ⟨rfl,Br.no (by rw [hzt];rfl) ⟨λ c=>?_,λ c=>?_⟩⟩
  . have c':z = "way":=by simpa using c
    exact aBq h.ins ⟨show 6 < 1000 by decide,Dr.of (q1 c' _ L ((h.fld (s':=⟨.name,fs,w,none⟩) rfl rfl).more hn) λ x hx=>a9q (h.apx x hx).1)⟩
  . have c':z≠"way":=by simpa using c
    refine aBq h.ins (aPq rfl ⟨aSq h.stk trivial,λ l hl=>?_⟩)
    have nl:L.lb≠l:=by intro e;have a:=h.stk;rw [e,hl] at a;cases a
    have hp:=h.push hl hn ⟨z,none,[]⟩ rfl
    have hlz:((fs.zip L.ls).reverse.map λ z=>frD z.1 z.2).length<=20000:=by
      simp only [List.length_map,List.length_reverse,List.length_zip]
      have:fs.length<=n:=hfl
      omega
    have hst:up G l (.lst []) L.lb=some (.lst ((fs.zip L.ls).reverse.map λ z=>frD z.1 z.2)):=by rw [a9q nl];exact h.stk
    refine b5q hst ⟨bCq (by omega),?_⟩
    refine aBq hp.ins ⟨show 6 < 1000 by decide,Dr.of (q2 c' _ _ (hp.fld (s':=⟨.prog,⟨z,none,[]⟩::fs,w,none⟩) rfl rfl) λ x hx=>?_)⟩
    obtain ⟨a1,a2,a3,a4,a5⟩:=h.apx x hx
    have hne:x≠l:=by rintro rfl;exact h.liv _ hx hl
    rw [a9q a1,a9q a2,a9q hne]
abbrev eSq:Stmt:=(c4q (top 26)).getD 2 (.Pass ⟨0,0,0,0⟩)
theorem mAq:FnScope ["self", "word"] ["self", "word"] (a5q eSq):=⟨rfl,rfl,rfl,by decide +kernel,rfl,by decide +kernel,by decide +kernel⟩
theorem nEq {C:Addr} (B:Blt mg) (c_Reading:Cls K C) (n_awaited:NoAttr K C "awaited") (n_brackets:NoAttr K C "brackets") (n_ways_around:NoAttr K C "ways_around") (n_bound:NoAttr K C "bound") (n_unbound:NoAttr K C "unbound") (n_result:NoAttr K C "result") (g_r_fin:MGot P w K mg base 2 C "finish" ["self", "program"] (aMq K (q7q C))) (g_r_num:MGot P w K mg base 2 C "number_of" ["self", "name"] (aMq K (nKq C))) (g_isname:Got P w K mg base 2 "is_name" ["text"] (aMq K jZq)) (g_isfig:Got P w K mg base 3 "is_figures" ["text"] (aMq K sCq)) (F:Fun K "take_program" "Reading.take_program" eSq f fd):FnOk P w K mg base CX0 4 f fd ["self", "word"] (aMq K (iIq C)):=by
  refine okD (k:=3) F mAq (λ ds G DQ h=>?_) (λ cdv A outer s H E hr ds G DQ h=>?_)
  . obtain ⟨_,_,_,_,_,_,_,_,rfl,_⟩:=h;rfl
  obtain ⟨r,X,fs,w,n,L,x,s',rfl,h,hn,hfs,hs,q⟩:=h
  refine ⟨_,(a3q (aTq (aKq (aYq (b6q hr)) (a1q 1) aCq (aJq _)) (a7q (bNq c_Reading n_awaited (a1q 0) aCq)) (a7q (aTq (b9q (aAq g_isfig hr (by omega) rfl (a0q (a1q 1) a4q))) (a7q (bFq (bWq c_Reading g_r_fin hr (by omega) (a1q 0) (a0q (bBq (a0q aCq (a0q (c6q kOq rfl B.int PyProof.Rows.boot_int (a0q (a1q 1) a4q)) a4q))) a4q)))) (a7q (aTq (b9q (aAq g_isname hr (by omega) rfl (a0q (a1q 1) a4q))) (a7q (bFq (bWq c_Reading g_r_fin hr (by omega) (a1q 0) (a0q (bBq (a0q aCq (a0q (bWq c_Reading g_r_num hr (by omega) (a1q 0) (a0q (a1q 1) a4q)) a4q))) a4q)))) (a7q (aDq cZq)))))))
      (a7q (aDq cZq))),?_⟩
  cases hs with
  | opn=>
    refine Br.yes (by decide +kernel) (aBq h.ins ⟨show 6 < 1000 by decide,Dr.of ?_⟩)
    exact q _ L ((h.fld (s':=⟨.word,fs,w,none⟩) rfl rfl).more2 hn) λ x hx=>a9q (h.apx x hx).1
  | whole k hk=>
    have hl:=(jNq (n:=k) (Nat.lt_trans hk (by decide)))
    refine Br.no (u8q (c:=40) (by decide +kernel) (by decide)) ⟨bRq k,rfl,by omega,Br.yes (qOq hk) ?_⟩
    exact ⟨aBq h.ins rfl,⟨k,hl.1,by show (bRq k).length<=640;omega,r,X,.prog,fs,w,n,L,.whole k,rfl,h,hfs,λ G' L' hR keep=>Dr.of (q G' L' (hR.more2 hn) keep)⟩⟩
  | name j hj hw=>
    have l2:=bSq (w - 1 - j)
    obtain ⟨z1,z2⟩:=pTq (w - 1 - j) (by omega)
    refine Br.no z2 ⟨a8q (w - 1 - j),rfl,by omega,Br.no z1 ⟨a8q (w - 1 - j),rfl,by omega,Br.yes (d3q (w - 1 - j) (by omega)) ?_⟩⟩
    refine ⟨aBq h.ins rfl,⟨aBq h.ins rfl,r,X,_,n,L,w - 1 - j,rfl,h,by show w - 1 - j < w;omega,r,X,.prog,fs,w,n,L,.name j,?_,h,hfs,λ G' L' hR keep=>Dr.of (q G' L' (hR.more2 hn) keep)⟩⟩
    rw [Tm.enc,show ((w:Nat):Int) - 1 - ((w - 1 - j:Nat):Int)=(j:Int) by omega]
abbrev dRq:Stmt:=(c4q (top 26)).getD 1 (.Pass ⟨0,0,0,0⟩)
theorem n7q:FnScope ["self", "word"] ["self", "word"] (a5q dRq):=⟨rfl,rfl,rfl,by decide +kernel,rfl,by decide +kernel,by decide +kernel⟩
theorem mVq {C:Addr} (B:Blt mg) (c_Reading:Cls K C) (n_awaited:NoAttr K C "awaited") (n_brackets:NoAttr K C "brackets") (n_ways_around:NoAttr K C "ways_around") (n_bound:NoAttr K C "bound") (n_unbound:NoAttr K C "unbound") (n_result:NoAttr K C "result") (g_r_prog:MGot P w K mg base 4 C "take_program" ["self", "word"] (aMq K (iIq C))) (g_r_word:MGot P w K mg base 2 C "take_word" ["self", "word"] (aMq K (jBq C))) (g_r_name:MGot P w K mg base 3 C "take_name" ["self", "word"] (aMq K (iPq C))) (g_r_brk:MGot P w K mg base 3 C "take_bracket" ["self", "word"] (aMq K (nGq C))) (F:Fun K "take" "Reading.take" dRq f fd):FnOk P w K mg base CX0 5 f fd ["self", "word"] (aMq K (iTq C)):=by
  refine okD (k:=4) F n7q (λ ds G DQ h=>?_) (λ cdv A outer s H E hr ds G DQ h=>?_)
  . obtain ⟨_,_,_,_,_,_,_,rfl,_⟩:=h;rfl
  obtain ⟨r,X,s,n,L,x,s',rfl,h,hn,g,hs,q⟩:=h
  refine ⟨_,(a3q (aTq (aKq (aYq (b6q hr)) (bAq c_Reading n_awaited (a1q 0)) aCq (aJq _)) (a7q (aDq (bWq c_Reading g_r_prog hr (by omega) (a1q 0) (a0q (a1q 1) a4q)))) aOq)
      (a3q (aTq (aKq (aYq (b6q hr)) (bAq c_Reading n_awaited (a1q 0)) aCq (aJq _)) (a7q (aDq (bWq c_Reading g_r_word hr (by omega) (a1q 0) (a0q (a1q 1) a4q)))) aOq)
      (a3q (aTq (aKq (aYq (b6q hr)) (bAq c_Reading n_awaited (a1q 0)) aCq (aJq _)) (a7q (aDq (bWq c_Reading g_r_name hr (by omega) (a1q 0) (a0q (a1q 1) a4q)))) aOq)
      (a3q (aTq (aKq (aYq (b6q hr)) (bAq c_Reading n_awaited (a1q 0)) aCq (aJq _)) (a7q (aDq (bWq c_Reading g_r_brk hr (by omega) (a1q 0) (a0q (a1q 1) a4q)))) aOq)
      (a7q (aDq cZq)))))),?_⟩
  cases hs with
  | @opn fs w=>exact aBq h.ins (aPq rfl (Br.yes rfl ⟨aBq h.ins rfl,r,X,fs,w,n,L,_,_,rfl,h,hn,g,.opn,λ G' L' hR keep=>Dr.of (q G' L' hR keep)⟩))
  | @whole fs w k hk=>exact aBq h.ins (aPq rfl (Br.yes rfl ⟨aBq h.ins rfl,r,X,fs,w,n,L,_,_,rfl,h,hn,g,.whole k hk,λ G' L' hR keep=>Dr.of (q G' L' hR keep)⟩))
  | @name fs w j hj hw=>exact aBq h.ins (aPq rfl (Br.yes rfl ⟨aBq h.ins rfl,r,X,fs,w,n,L,_,_,rfl,h,hn,g,.name j hj hw,λ G' L' hR keep=>Dr.of (q G' L' hR keep)⟩))
  | @kw fs w z hz hw=>
    refine aBq h.ins (aPq rfl (Br.no rfl (aBq h.ins (aPq rfl (Br.yes rfl ⟨aBq h.ins rfl,r,X,fs,w,n,L,z,rfl,h,by omega,hz,λ e=>absurd e hw,λ _ G' L' hR keep=>Dr.of (q G' L' (hR.more (by omega)) keep)⟩)))))
  | @kway fs w=>
    refine aBq h.ins (aPq rfl (Br.no rfl (aBq h.ins (aPq rfl (Br.yes rfl ⟨aBq h.ins rfl,r,X,fs,w,n,L,"way", rfl,h,by omega,by decide +kernel,λ _ G' L' hR keep=>Dr.of (q G' L' (hR.more (by omega)) keep),λ e=>absurd rfl e⟩)))))
  | @nam fs w hw=>
    refine aBq h.ins (aPq rfl (Br.no rfl (aBq h.ins (aPq rfl (Br.no rfl (aBq h.ins (aPq rfl (Br.yes rfl ⟨aBq h.ins rfl,r,X,fs,w,n,L,rfl,h,hn,hw,λ G' L' hR keep=>Dr.of (q G' L' hR keep)⟩))))))))
  | @cls fs w t ht=>
    refine aBq h.ins (aPq rfl (Br.no rfl (aBq h.ins (aPq rfl (Br.no rfl (aBq h.ins (aPq rfl (Br.no rfl (aBq h.ins (aPq rfl (Br.yes rfl ⟨aBq h.ins rfl,r,X,fs,w,n,L,t,rfl,(g _ _ rfl).2,.inl ⟨ht,h,λ G' L' hR keep=>Dr.of (q G' L' (hR.more2 hn) keep)⟩⟩)))))))))))
  | @clsW fs w t hw=>
    refine aBq h.ins (aPq rfl (Br.no rfl (aBq h.ins (aPq rfl (Br.no rfl (aBq h.ins (aPq rfl (Br.no rfl (aBq h.ins (aPq rfl (Br.yes rfl ⟨aBq h.ins rfl,r,X,fs,w,n,L,t,rfl,(g _ _ rfl).2,.inr ⟨hw,h,λ G' L' hR keep=>Dr.of (q G' L' (hR.more2 hn) keep)⟩⟩)))))))))))
abbrev jFq:Stmt:=top 25
theorem sc_read:FnScope ["text", "words", "reading", "at", "word"] ["text"] (a5q jFq):=⟨rfl,rfl,rfl,by decide +kernel,rfl,by decide +kernel,by decide +kernel⟩
theorem s4q {C:Addr} (B:Blt mg) (c_Reading:Cls K C) (n_awaited:NoAttr K C "awaited") (n_brackets:NoAttr K C "brackets") (n_ways_around:NoAttr K C "ways_around") (n_bound:NoAttr K C "bound") (n_unbound:NoAttr K C "unbound") (n_result:NoAttr K C "result") (g_words:Got P w K mg base 1 "words_of" ["text"] (aMq K gRq)) (g_Reading:MkGot P w K mg base 1 C "Reading" ["self"] (aMq K (jJq C))) (g_r_take:MGot P w K mg base 5 C "take" ["self", "word"] (aMq K (iTq C))) (F:Fun K "read" "read" jFq f fd):FnOk P w K mg base CX0 6 f fd ["text"] (aMq K iXq):=by
  refine okD (k:=5) F sc_read (λ ds G DQ h=>?_) (λ cdv A outer s H E hr ds G DQ h=>?_)
  . obtain ⟨_,rfl,_⟩:=h;rfl
  obtain ⟨t,rfl,hc,hd,hs,q⟩:=h
  refine ⟨_,(a3q (aGq (k:=1) sc_read.nd rfl (Or.inl rfl) (aAq g_words hr (by omega) rfl (a0q (a1q 0) a4q)))
      (a3q (aGq (k:=2) sc_read.nd rfl (Or.inl rfl) (pRq g_Reading hr (by omega) rfl))
      (a3q (e9q PassesOwn.never rfl (qMq rfl B.enumerate (a0q (a1q 1) a4q)) (vLq (n:=2) rfl (jTq (bDq (k:=3) sc_read.nd rfl (Or.inl rfl)) (jTq (bDq (k:=4) sc_read.nd rfl (Or.inl rfl)) tUq))) (a7q (aTq (i4q (b9q (bWq c_Reading g_r_take hr (by omega) (a1q 2) (a0q (a1q 4) a4q)))) (a7q jEq) aOq)))
      (a3q (aTq (aKq (k0q (b6q hr)) (bAq c_Reading n_awaited (a1q 2)) aCq (aJq _)) (a7q jEq) aOq)
      (a3q (aTq (aKq lLq (bAq c_Reading n_unbound (a1q 2)) hRq (aJq _)) (a7q jEq) aOq)
      (a7q (aDq (bAq c_Reading n_result (a1q 2))))))))),?_⟩
  have hl0:=i1q t 0 hc (by omega)
  have hwl:=iQq (t.tl 0) []
  rw [if_pos rfl] at hwl
  have hch:=sKq hc hd
  generalize hws:wds [] (t.tl 0)=ws at hwl hch
  refine ⟨ofL (t.tl 0),rfl,by rw [b1q];omega,λ l hl=>λ r hr=>?_⟩
  have hcp:(ofL (t.tl 0)).cps.toList=t.tl 0:=by simp [ofL]
  rw [hcp,hws] at hr ⊢
  refine ⟨r,λ x=>up G l (.lst (ws.map wD)) x≠none,rfl,a6q,λ x hx=>⟨?_,?_⟩,λ G1 L hR keep=>⟨rfl,?_⟩⟩
  . rintro rfl;exact hx hr
  . rw [a9q (by rintro rfl;exact hx hr)];exact hx
  have hlr:l≠r:=by rintro rfl;rw [a6q] at hr;cases hr
  have keep0:∀ x,up G l (.lst (ws.map wD)) x≠none->G1 x=up G l (.lst (ws.map wD)) x:=λ x hx=>by
    rw [keep x hx,a9q (by rintro rfl;exact hx hr)]
  have hG1:G1 l=some (.lst (ws.map wD)):=by rw [keep0 l (by rw [a6q];simp),a6q]
  refine aSq hG1 ⟨hG1,λ i ρ G'=>∃ (s:Rst) (L':Lay) (o3 o4:Option D),ρ=[some (.str (ofL (t.tl 0))),some (.ref l),some (.ref r),o3,o4]/\RAt C r (λ x=>up G l (.lst (ws.map wD)) x≠none) G' s (2 * i) L'/\Gs s/\Chn s (ws.drop i) ⟨.noth,[],0,some t⟩/\∀ x,up G l (.lst (ws.map wD)) x≠none->G' x=up G l (.lst (ws.map wD)) x,⟨_,L,none,none,rfl,hR,λ g hg=>absurd hg List.not_mem_nil,hch,keep0⟩,?_,?_,?_⟩
  . rintro i ρ G' hi ⟨s,L',o3,o4,rfl,hR',hg,hc',kp⟩
    show G' l=_
    rw [kp l (by rw [a6q];simp),a6q]
  . rintro i d ρ G' hd' ⟨s,L',o3,o4,rfl,hR',hg,hc',kp⟩
    have he:(enL (ws.map wD))[i]?=some d:=hd'
    unfold enL at he
    rw [List.getElem?_map,List.getElem?_zipIdx,List.getElem?_map] at he
    cases ex:ws[i]? with
    | none=>rw [ex] at he;cases he
    | some x=>
      rw [ex] at he;cases he
      have hi:i < ws.length:=(List.getElem?_eq_some_iff.mp ex).1
      rw [List.drop_eq_getElem_cons hi,(List.getElem?_eq_some_iff.mp ex).2] at hc'
      cases hc' with
      | cons hs hr'=>
      refine ⟨aBq hR'.ins rfl,r,_,s,2 * i,L',x,_,rfl,hR',by omega,hg,hs,λ G2 L2 hR2 kp2=>?_⟩
      refine Br.no rfl (Wk.of ⟨_,L2,_,_,rfl,hR2,uWq hs hg,hr',λ y hy=>(kp2 y hy).trans (kp y hy)⟩)
  . rintro ρ G' ⟨s,L',o3,o4,rfl,hR',hg,hc',kp⟩
    have e9:(enL (ws.map wD)).length=ws.length:=by simp [enL]
    have hc2:Chn s (ws.drop (enL (ws.map wD)).length) ⟨.noth,[],0,some t⟩:=hc'
    rw [e9,List.drop_length] at hc2
    cases hc2
    refine aBq hR'.ins (aPq rfl (Br.no rfl (aBq hR'.ins (aPq rfl (Br.no rfl (aBq hR'.ins (aPq rfl ?_)))))))
    refine ⟨G,λ a o e=>?_,q⟩
    have ne:a≠l:=by rintro rfl;rw [hl] at e;cases e
    rw [kp a (by rw [a9q ne,e];simp),a9q ne];exact e
abbrev j8q:Stmt:=top 36
theorem sc_good:FnScope ["_law_program", "_law_text_here", "_law_found", "_law_back"] ["_law_program", "_law_text_here"] (a5q j8q):=⟨rfl,rfl,rfl,by decide +kernel,rfl,by decide +kernel,by decide +kernel⟩
theorem t6q (B:Blt mg) (g_shown:Got P w K mg base 6 "shown" ["program"] (aMq K gKq)) (g_read:Got P w K mg base 6 "read" ["text"] (aMq K iXq)) (g_plain:Got P w K mg base 102 "_law_plain" ["_law_found"] (aMq K (cKq 101))) (F:Fun K "_law_good" "_law_good" j8q f fd):FnOk P w K mg base CX0 110 f fd ["_law_program", "_law_text_here"] (aMq K iKq):=by
  refine okD (k:=109) F sc_good (λ ds G DQ h=>?_) (λ cdv A outer s H E hr ds G DQ h=>?_)
  . obtain ⟨_,rfl,_⟩:=h;rfl
  obtain ⟨t,rfl,hc,hd,hs,q⟩:=h
  refine ⟨_,(a3q (aGq (k:=2) sc_good.nd rfl (Or.inl rfl) (aAq g_shown hr (by omega) rfl (a0q (a1q 0) a4q)))
      (a3q (aTq (AW.at (kBq (i4q (b9q (aUq cLq rfl B.isinstance PyProof.Rows.boot_isinstance (a0q (a1q 2) (a0q (cXq rfl B.str PyProof.Rows.boot_str) a4q))))) (hGq (aKq (k0q (b6q hr)) (a1q 2) (a1q 1) (aJq _))))) (a7q (aDq cZq)) aOq)
      (a3q (aGq (k:=3) sc_good.nd rfl (Or.inl rfl) (aAq g_read hr (by omega) rfl (a0q (a1q 1) a4q)))
      (a7q (aDq (fCq (aAq g_plain hr (by omega) rfl (a0q (a1q 3) a4q)) (hNq (h5q (aYq (b6q hr)) (a1q 3) (a1q 0) (aJq _))))))))),?_⟩
  have hdd:=aC0q t
  refine ⟨t,rfl,hc,by omega,hs,?_⟩
  refine ⟨true,rfl,⟨nofun,λ _=>⟨λ c=>absurd c (by simp),λ _=>⟨t,rfl,hc,by omega,hs,t.enc,rfl,zJq t,by omega,⟨λ _=>r9q t.enc_data t.enc_data (by omega) (Dr.of ?_),nofun⟩⟩⟩⟩⟩
  rw [g5q t.enc_data];exact q
abbrev fOq:Stmt:=top 38
theorem sc_law:FnScope ["_law_script", "_law_feed_here", "_law_program", "_law_other", "_law_text_here"] ["_law_script"] (a5q fOq):=⟨rfl,rfl,rfl,by decide +kernel,rfl,by decide +kernel,by decide +kernel⟩
theorem yAq (B:Blt mg) (g_feed:Got P w K mg base 1 "_law_feed" ["_law_script", "_law_k"] (aMq K h3q)) (g_take:Got P w K mg base 1 "_law_take" ["_law_feed_here", "_law_many"] (aMq K cMq)) (g_any:Got P w K mg base 35 "_law_any" ["_law_feed_here", "_law_ways", "_law_room", "_law_deep"] (aMq K (fFq 31))) (g_row:Got P w K mg base 36 "_law_row" ["_law_feed_here"] (aMq K n1q)) (g_ltext:Got P w K mg base 103 "_law_text" ["_law_program", "_law_names"] (aMq K (ePq 101))) (g_good:Got P w K mg base 110 "_law_good" ["_law_program", "_law_text_here"] (aMq K iKq)) (F:Fun K "law" "law" fOq f fd):FnOk P w K mg base CX0 120 f fd ["_law_script"] (aMq K qWq):=by
  refine okD (k:=119) F sc_law (λ ds G DQ h=>?_) (λ cdv A outer s H E hr ds G DQ h=>?_)
  . obtain ⟨_,rfl,_⟩:=h;rfl
  obtain ⟨ns,rfl,hl,q⟩:=h
  refine ⟨_,(a3q (aGq (k:=1) sc_law.nd rfl (Or.inl rfl) (aAq g_feed hr (by omega) rfl (a0q (a1q 0) (a0q a2q a4q))))
      (a3q (aGq (k:=2) sc_law.nd rfl (Or.inl rfl) (aAq g_any hr (by omega) rfl (a0q (a1q 1) (a0q a2q (a0q (aFq aLq a2q (aAq g_take hr (by omega) rfl (a0q (a1q 1) (a0q a2q a4q)))) (a0q a2q a4q))))))
      (a3q (aTq (aKq (aYq (b6q hr)) (aAq g_take hr (by omega) rfl (a0q (a1q 1) (a0q a2q a4q))) a2q (aJq _)) (a7q (aGq (k:=2) sc_law.nd rfl (Or.inl rfl) (aAq g_row hr (by omega) rfl (a0q (a1q 1) a4q)))) aOq)
      (a3q (aGq (k:=3) sc_law.nd rfl (Or.inl rfl) (aAq g_any hr (by omega) rfl (a0q (aAq g_feed hr (by omega) rfl (a0q (a1q 0) (a0q a2q a4q))) (a0q a2q (a0q a2q (a0q a2q a4q))))))
      (a3q (aGq (k:=4) sc_law.nd rfl (Or.inl rfl) (aAq g_ltext hr (by omega) rfl (a0q (a1q 2) (a0q (bMq a4q) a4q))))
      (a7q (aDq (fCq (aAq g_good hr (by omega) rfl (a0q (a1q 2) (a0q (a1q 4) a4q))) (fCq (aAq g_good hr (by omega) rfl (a0q (a1q 3) (a0q (aAq g_ltext hr (by omega) rfl (a0q (a1q 3) (a0q (bMq a4q) a4q))) a4q))) (hNq (aAq g_good hr (by omega) rfl (a0q (a1q 2) (a0q (a1q 4) a4q))))))))))))),?_⟩
  refine ⟨ns,rfl,hl,by omega,by omega,λ a xa ya ha=>⟨.up,by decide,by decide,λ m G1 u1 m0 m1=>⟨a,0,2+m,30,rfl,u1.fd,by decide,by omega,by omega,by omega,λ p G2 u2 z=>⟨(u1.trans u2).fd,by decide,by decide,λ c G3 u3 c0 c1=>⟨λ _=>⟨a,rfl,((u1.trans u2).trans u3).fd,λ p2 G4 u4 z2=>?_⟩,λ _=>?_⟩⟩⟩⟩⟩
  . exact ⟨ns,rfl,hl,by omega,by omega,λ a' xa' ya' ha'=>⟨a',0,12,8,rfl,.up,by decide,by omega,by omega,by omega,λ u G5 u5 y=>λ l1 hl1=>⟨p2,l1,0,rfl,a6q,(z2).cl,by have:=(z2).dp;omega,by have:=(z2).dp;omega,by have:=(z2).sz;omega,⟨p2,rfl,(z2).cl,by have:=(z2).dp;omega,by have:=(z2).sz;omega,⟨λ _=>λ l2 hl2=>⟨u,l2,0,rfl,a6q,y.cl,by have:=y.dp;omega,by have:=y.dp;omega,by have:=y.sz;omega,⟨u,rfl,y.cl,by have:=y.dp;omega,by have:=y.sz;omega,⟨λ _=>⟨p2,rfl,(z2).cl,by have:=(z2).dp;omega,by have:=(z2).sz;omega,Dr.of (q _)⟩,nofun⟩⟩⟩,nofun⟩⟩⟩⟩⟩
  . exact ⟨ns,rfl,hl,by omega,by omega,λ a' xa' ya' ha'=>⟨a',0,12,8,rfl,.up,by decide,by omega,by omega,by omega,λ u G5 u5 y=>λ l1 hl1=>⟨p,l1,0,rfl,a6q,(z).cl,by have:=(z).dp;omega,by have:=(z).dp;omega,by have:=(z).sz;omega,⟨p,rfl,(z).cl,by have:=(z).dp;omega,by have:=(z).sz;omega,⟨λ _=>λ l2 hl2=>⟨u,l2,0,rfl,a6q,y.cl,by have:=y.dp;omega,by have:=y.dp;omega,by have:=y.sz;omega,⟨u,rfl,y.cl,by have:=y.dp;omega,by have:=y.sz;omega,⟨λ _=>⟨p,rfl,(z).cl,by have:=(z).dp;omega,by have:=(z).sz;omega,Dr.of (q _)⟩,nofun⟩⟩⟩,nofun⟩⟩⟩⟩⟩
end
end KB
namespace KB
open PySem L2 L3
set_option maxHeartbeats 4000000
theorem v1q {l:PySem.W.OpenLaw} {w:World} {K:PySem.W.Frag} {h:Heap} {mg:Str->Option Value} {fa C_Reading:Addr} (X:K.In h) (G:h.Ns mainGlobals mg) (hfa:mg "law" = some (.ref fa))
 (aC_Reading:PySem.W.nsIn K mainGlobals "Reading" = some (some (.ref C_Reading))) (pg_Reading:PySem.W.plainGet K C_Reading Str.empty=true) (hd_Reading:PySem.W.hasDictIn K C_Reading=true) (po_Reading:PySem.W.plainOver K C_Reading=true) (sa_Reading:PySem.W.findIn K (.ref C_Reading) "__setattr__" = some (some (.builtin "object.__setattr__"))) (n_Reading_awaited:PySem.W.findIn K (.ref C_Reading) "awaited" = some none) (n_Reading_brackets:PySem.W.findIn K (.ref C_Reading) "brackets" = some none) (n_Reading_ways_around:PySem.W.findIn K (.ref C_Reading) "ways_around" = some none) (n_Reading_bound:PySem.W.findIn K (.ref C_Reading) "bound" = some none) (n_Reading_unbound:PySem.W.findIn K (.ref C_Reading) "unbound" = some none) (n_Reading_result:PySem.W.findIn K (.ref C_Reading) "result" = some none) (mk_Reading:PySem.W.makesIn K C_Reading=true) (kc_Reading:PySem.W.keepIn K (.ref C_Reading)=true) (d0:DT K "inner" h0q) (d1:DT K "spelled_out" mUq) (d2:DT K "bracketed" lBq) (d3:DT K "words_of" gMq) (d4:DT K "is_name" eTq) (d5:DT K "is_figures" gVq) (d6:DT K "is_whole_text" jAq) (d7:DT K "made_of" dOq) (d8:DT K "name_of" eNq) (d9:DT K "rank_of" dWq) (d10:DT K "letters_of" c5q) (d11:DT K "shown" g6q) (d12:DT K "spelled" cWq) (d13:DT K "read" jFq) (d14:DM K C_Reading "__init__" "Reading.__init__" eVq) (d15:DM K C_Reading "take" "Reading.take" dRq) (d16:DM K C_Reading "take_program" "Reading.take_program" eSq) (d17:DM K C_Reading "take_word" "Reading.take_word" eJq) (d18:DM K C_Reading "take_name" "Reading.take_name" eRq) (d19:DM K C_Reading "take_bracket" "Reading.take_bracket" g2q) (d20:DM K C_Reading "number_of" "Reading.number_of" gIq) (d21:DM K C_Reading "finish" "Reading.finish" gYq) (d22:DT K "_law_feed" iOq) (d23:DT K "_law_take" iWq) (d24:DT K "_law_whole" gCq) (d25:DT K "_law_leaf" j6q) (d26:DT K "_law_any" n0q) (d27:DT K "_law_row_name" gEq) (d28:DT K "_law_text" gFq) (d29:DT K "_law_plain" fRq) (d30:DT K "_law_good" j8q) (d31:DT K "_law_row" nHq) (d32:DT K "law" fOq) (z0:PySem.W.nsIn K mainGlobals "len" = some none) (z1:PySem.W.nsIn K mainGlobals "isinstance" = some none) (z2:PySem.W.nsIn K mainGlobals "range" = some none) (z3:PySem.W.nsIn K mainGlobals "int" = some none) (z4:PySem.W.nsIn K mainGlobals "bool" = some none) (z5:PySem.W.nsIn K mainGlobals "str" = some none) (z6:PySem.W.nsIn K mainGlobals "tuple" = some none) (z7:PySem.W.nsIn K mainGlobals "list" = some none) (z8:PySem.W.nsIn K mainGlobals "zip" = some none) (z9:PySem.W.nsIn K mainGlobals "sorted" = some none) (z10:PySem.W.nsIn K mainGlobals "all" = some none) (z11:PySem.W.nsIn K mainGlobals "reversed" = some none) (z12:PySem.W.nsIn K mainGlobals "enumerate" = some none)
    {aI:Addr} (aI0:PySem.W.nsIn K mainGlobals "INNER_COUNTS" = some (some (.ref aI)))
    {eaI:Array DictEntry} {jaI:Nat} (aI1:K.lookup aI=some ⟨.type "dict", none,.dict eaI jaI,#[]⟩)
    (aI2:(aI==sysModules)=false)
 (aI3:PySem.W.KeysLit w.params eaI.toList)
    (aI4:Paired (λ(kv:Str × V) (e:DictEntry)=>(∃ t1,e.key=.str kv.1 t1)/\RelV kv.2 e.val) uOq eaI.toList)
    {tL:Tok} (gL:PySem.W.nsIn K mainGlobals "LETTERS" = some (some (.str letters tL)))
    {tF:Tok} (gF:PySem.W.nsIn K mainGlobals "FIGURES" = some (some (.str figs tF)))
    : ∃ fd:FuncData,(∀ (s:Shared) (v:Value),BindsTo s fd ⟨[v],[]⟩ [("_law_script", v)])/\∀ base:Heap,K.In base->base.Ns mainGlobals mg->FnOk l.prog w K mg base CX0 120 fa fd ["_law_script"] (jRq K):=by
  have c_Reading:Cls K C_Reading:=⟨pg_Reading,hd_Reading,po_Reading,sa_Reading⟩
  have m_Reading:=PySem.W.mg_of X G aC_Reading
  obtain ⟨f0,_,a_inner,F_inner⟩:=d0.ok
  have b_inner:=F_inner.binds (ps:=e0q) λ _ _ _ _ _ _ us hl=>match us,hl with | [_],_=>rfl
  have m_inner:=PySem.W.mg_of X G a_inner
  have kp_inner:=F_inner.kp
  obtain ⟨f1,_,a_out,F_out⟩:=d1.ok
  have b_out:=F_out.binds (ps:=i2q) λ _ _ _ _ _ _ us hl=>match us,hl with | [_,_],_=>rfl
  have m_out:=PySem.W.mg_of X G a_out
  have kp_out:=F_out.kp
  obtain ⟨f2,_,a_brk,F_brk⟩:=d2.ok
  have b_brk:=F_brk.binds (ps:=h2q) λ _ _ _ _ _ _ us hl=>match us,hl with | [_,_],_=>rfl
  have m_brk:=PySem.W.mg_of X G a_brk
  have kp_brk:=F_brk.kp
  obtain ⟨f3,_,a_words,F_words⟩:=d3.ok
  have b_words:=F_words.binds (ps:=dVq) λ _ _ _ _ _ _ us hl=>match us,hl with | [_],_=>rfl
  have m_words:=PySem.W.mg_of X G a_words
  have kp_words:=F_words.kp
  obtain ⟨f4,_,a_isname,F_isname⟩:=d4.ok
  have b_isname:=F_isname.binds (ps:=dEq) λ _ _ _ _ _ _ us hl=>match us,hl with | [_],_=>rfl
  have m_isname:=PySem.W.mg_of X G a_isname
  have kp_isname:=F_isname.kp
  obtain ⟨f5,_,a_isfig,F_isfig⟩:=d5.ok
  have b_isfig:=F_isfig.binds (ps:=e2q) λ _ _ _ _ _ _ us hl=>match us,hl with | [_],_=>rfl
  have m_isfig:=PySem.W.mg_of X G a_isfig
  have kp_isfig:=F_isfig.kp
  obtain ⟨f6,_,a_iswt,F_iswt⟩:=d6.ok
  have b_iswt:=F_iswt.binds (ps:=fMq) λ _ _ _ _ _ _ us hl=>match us,hl with | [_,_],_=>rfl
  have m_iswt:=PySem.W.mg_of X G a_iswt
  have kp_iswt:=F_iswt.kp
  obtain ⟨f7,_,a_madeof,F_madeof⟩:=d7.ok
  have b_madeof:=F_madeof.binds (ps:=d7q) λ _ _ _ _ _ _ us hl=>match us,hl with | [_,_],_=>rfl
  have m_madeof:=PySem.W.mg_of X G a_madeof
  have kp_madeof:=F_madeof.kp
  obtain ⟨f8,_,a_nameof,F_nameof⟩:=d8.ok
  have b_nameof:=F_nameof.binds (ps:=d8q) λ _ _ _ _ _ _ us hl=>match us,hl with | [_],_=>rfl
  have m_nameof:=PySem.W.mg_of X G a_nameof
  have kp_nameof:=F_nameof.kp
  obtain ⟨f9,_,a_rankof,F_rankof⟩:=d9.ok
  have b_rankof:=F_rankof.binds (ps:=d6q) λ _ _ _ _ _ _ us hl=>match us,hl with | [_],_=>rfl
  have m_rankof:=PySem.W.mg_of X G a_rankof
  have kp_rankof:=F_rankof.kp
  obtain ⟨f10,_,a_lettersof,F_lettersof⟩:=d10.ok
  have b_lettersof:=F_lettersof.binds (ps:=c0q) λ _ _ _ _ _ _ us hl=>match us,hl with | [_],_=>rfl
  have m_lettersof:=PySem.W.mg_of X G a_lettersof
  have kp_lettersof:=F_lettersof.kp
  obtain ⟨f11,_,a_shown,F_shown⟩:=d11.ok
  have b_shown:=F_shown.binds (ps:=eXq) λ _ _ _ _ _ _ us hl=>match us,hl with | [_],_=>rfl
  have m_shown:=PySem.W.mg_of X G a_shown
  have kp_shown:=F_shown.kp
  obtain ⟨f12,_,a_spelled,F_spelled⟩:=d12.ok
  have b_spelled:=F_spelled.binds (ps:=cTq) λ _ _ _ _ _ _ us hl=>match us,hl with | [_],_=>rfl
  have m_spelled:=PySem.W.mg_of X G a_spelled
  have kp_spelled:=F_spelled.kp
  obtain ⟨f13,_,a_read,F_read⟩:=d13.ok
  have b_read:=F_read.binds (ps:=fEq) λ _ _ _ _ _ _ us hl=>match us,hl with | [_],_=>rfl
  have m_read:=PySem.W.mg_of X G a_read
  have kp_read:=F_read.kp
  obtain ⟨f14,_,mt_r_init,F_r_init⟩:=d14.ok
  have b_r_init:=F_r_init.binds (ps:=dBq) λ _ _ _ _ _ _ us hl=>match us,hl with | [_],_=>rfl
  obtain ⟨f15,_,mt_r_take,F_r_take⟩:=d15.ok
  have b_r_take:=F_r_take.binds (ps:=d2q) λ _ _ _ _ _ _ us hl=>match us,hl with | [_,_],_=>rfl
  obtain ⟨f16,_,mt_r_prog,F_r_prog⟩:=d16.ok
  have b_r_prog:=F_r_prog.binds (ps:=d4q) λ _ _ _ _ _ _ us hl=>match us,hl with | [_,_],_=>rfl
  obtain ⟨f17,_,mt_r_word,F_r_word⟩:=d17.ok
  have b_r_word:=F_r_word.binds (ps:=d5q) λ _ _ _ _ _ _ us hl=>match us,hl with | [_,_],_=>rfl
  obtain ⟨f18,_,mt_r_name,F_r_name⟩:=d18.ok
  have b_r_name:=F_r_name.binds (ps:=dAq) λ _ _ _ _ _ _ us hl=>match us,hl with | [_,_],_=>rfl
  obtain ⟨f19,_,mt_r_brk,F_r_brk⟩:=d19.ok
  have b_r_brk:=F_r_brk.binds (ps:=dZq) λ _ _ _ _ _ _ us hl=>match us,hl with | [_,_],_=>rfl
  obtain ⟨f20,_,mt_r_num,F_r_num⟩:=d20.ok
  have b_r_num:=F_r_num.binds (ps:=eWq) λ _ _ _ _ _ _ us hl=>match us,hl with | [_,_],_=>rfl
  obtain ⟨f21,_,mt_r_fin,F_r_fin⟩:=d21.ok
  have b_r_fin:=F_r_fin.binds (ps:=e8q) λ _ _ _ _ _ _ us hl=>match us,hl with | [_,_],_=>rfl
  obtain ⟨f22,_,a_feed,F_feed⟩:=d22.ok
  have b_feed:=F_feed.binds (ps:=fNq) λ _ _ _ _ _ _ us hl=>match us,hl with | [_,_],_=>rfl
  have m_feed:=PySem.W.mg_of X G a_feed
  have kp_feed:=F_feed.kp
  obtain ⟨f23,_,a_take,F_take⟩:=d23.ok
  have b_take:=F_take.binds (ps:=fGq) λ _ _ _ _ _ _ us hl=>match us,hl with | [_,_],_=>rfl
  have m_take:=PySem.W.mg_of X G a_take
  have kp_take:=F_take.kp
  obtain ⟨f24,_,a_whole,F_whole⟩:=d24.ok
  have b_whole:=F_whole.binds (ps:=dTq) λ _ _ _ _ _ _ us hl=>match us,hl with | [_],_=>rfl
  have m_whole:=PySem.W.mg_of X G a_whole
  have kp_whole:=F_whole.kp
  obtain ⟨f25,_,a_leaf,F_leaf⟩:=d25.ok
  have b_leaf:=F_leaf.binds (ps:=f6q) λ _ _ _ _ _ _ us hl=>match us,hl with | [_,_],_=>rfl
  have m_leaf:=PySem.W.mg_of X G a_leaf
  have kp_leaf:=F_leaf.kp
  obtain ⟨f26,_,a_any,F_any⟩:=d26.ok
  have b_any:=F_any.binds (ps:=hLq) λ _ _ _ _ _ _ us hl=>match us,hl with | [_,_,_,_],_=>rfl
  have m_any:=PySem.W.mg_of X G a_any
  have kp_any:=F_any.kp
  obtain ⟨f27,_,a_rname,F_rname⟩:=d27.ok
  have b_rname:=F_rname.binds (ps:=eCq) λ _ _ _ _ _ _ us hl=>match us,hl with | [_],_=>rfl
  have m_rname:=PySem.W.mg_of X G a_rname
  have kp_rname:=F_rname.kp
  obtain ⟨f28,_,a_ltext,F_ltext⟩:=d28.ok
  have b_ltext:=F_ltext.binds (ps:=eGq) λ _ _ _ _ _ _ us hl=>match us,hl with | [_,_],_=>rfl
  have m_ltext:=PySem.W.mg_of X G a_ltext
  have kp_ltext:=F_ltext.kp
  obtain ⟨f29,_,a_plain,F_plain⟩:=d29.ok
  have b_plain:=F_plain.binds (ps:=eKq) λ _ _ _ _ _ _ us hl=>match us,hl with | [_],_=>rfl
  have m_plain:=PySem.W.mg_of X G a_plain
  have kp_plain:=F_plain.kp
  obtain ⟨f30,_,a_good,F_good⟩:=d30.ok
  have b_good:=F_good.binds (ps:=f9q) λ _ _ _ _ _ _ us hl=>match us,hl with | [_,_],_=>rfl
  have m_good:=PySem.W.mg_of X G a_good
  have kp_good:=F_good.kp
  obtain ⟨f31,_,a_row,F_row⟩:=d31.ok
  have b_row:=F_row.binds (ps:=hQq) λ _ _ _ _ _ _ us hl=>match us,hl with | [_],_=>rfl
  have m_row:=PySem.W.mg_of X G a_row
  have kp_row:=F_row.kp
  have M_Reading:Mk K C_Reading f14:=⟨mk_Reading,mt_r_init.at_,mt_r_init.fn,kc_Reading⟩
  have B:Blt mg:=⟨PySem.W.mg_none_of X G z0,PySem.W.mg_none_of X G z1,PySem.W.mg_none_of X G z2,PySem.W.mg_none_of X G z3,PySem.W.mg_none_of X G z4,PySem.W.mg_none_of X G z5,PySem.W.mg_none_of X G z6,PySem.W.mg_none_of X G z7,PySem.W.mg_none_of X G z8,PySem.W.mg_none_of X G z9,PySem.W.mg_none_of X G z10,PySem.W.mg_none_of X G z11,PySem.W.mg_none_of X G z12⟩
  obtain ⟨f32,_,a_law,F_law⟩:=d32.ok
  cases hfa.symm.trans (PySem.W.mg_of X G a_law)
  obtain ⟨_,_,kV,dc,pm,an,cd,ct,_,rfl,l9,c9⟩:=F_law.ex
  refine ⟨PySem.W.fnOf "law" "law" (bOq fOq) (b0q fOq) (a5q fOq) .none kV dc pm an cd ct,λ s v=>.of_eq rfl,λ base _ _ =>?_⟩
  have m_INNER_COUNTS:=PySem.W.mg_of X G aI0
  have m_LETTERS:=PySem.W.mg_of X G gL
  have m_FIGURES:=PySem.W.mg_of X G gF
  have T_INNER_COUNTS:KTabD K w aI o7q:=t4q aI1 aI2 aI3 aI4 u0q cntP
  have KK_INNER_COUNTS:KKeys K w aI words7:=oUq aI1 aI2 aI3 aI4 rfl (by decide +kernel)
  have g_inner:Got l.prog w K mg base 1 "inner" e0q (aMq K (s9q Tm.enc Tm.inn)):=⟨_,_,oAq F_inner,m_inner,kp_inner,b_inner⟩
  have g_madeof:Got l.prog w K mg base 1 "made_of" d7q (aMq K dHq):=⟨_,_,m3q B F_madeof,m_madeof,kp_madeof,b_madeof⟩
  have g_isname:Got l.prog w K mg base 2 "is_name" dEq (aMq K jZq):=⟨_,_,mSq B m_LETTERS m_INNER_COUNTS T_INNER_COUNTS g_madeof F_isname,m_isname,kp_isname,b_isname⟩
  have g_iswt:Got l.prog w K mg base 2 "is_whole_text" fMq (aMq K gSq):=⟨_,_,u6q B m_FIGURES g_madeof F_iswt,m_iswt,kp_iswt,b_iswt⟩
  have g_isfig:Got l.prog w K mg base 3 "is_figures" e2q (aMq K sCq):=⟨_,_,qGq g_iswt F_isfig,m_isfig,kp_isfig,b_isfig⟩
  have g_rankof:Got l.prog w K mg base 1 "rank_of" d6q (aMq K mFq):=⟨_,_,n8q m_LETTERS F_rankof,m_rankof,kp_rankof,b_rankof⟩
  have g_lettersof:Got l.prog w K mg base 1 "letters_of" c0q (aMq K eQq):=⟨_,_,hFq m_LETTERS F_lettersof,m_lettersof,kp_lettersof,b_lettersof⟩
  have g_nameof:Got l.prog w K mg base 2 "name_of" d8q (aMq K g0q):=⟨_,_,n4q B m_INNER_COUNTS KK_INNER_COUNTS g_rankof g_lettersof F_nameof,m_nameof,kp_nameof,b_nameof⟩
  have g_words:Got l.prog w K mg base 1 "words_of" dVq (aMq K gRq):=⟨_,_,pZq B F_words,m_words,kp_words,b_words⟩
  have g_brk:Got l.prog w K mg base 1 "bracketed" h2q (aMq K m0q):=⟨_,_,u5q F_brk,m_brk,kp_brk,b_brk⟩
  have g_spelled:Got l.prog w K mg base 4 "spelled" cTq (aMq K eHq):=⟨_,_,kNq B g_inner g_nameof g_brk F_spelled,m_spelled,kp_spelled,b_spelled⟩
  obtain ⟨fp,m_spelledV,G_spelled⟩:=g_spelled.fnV
  have g_out:Got l.prog w K mg base 5 "spelled_out" i2q (aMq K (lMq fp)):=⟨_,_,sNq B G_spelled F_out,m_out,kp_out,b_out⟩
  have g_shown:Got l.prog w K mg base 6 "shown" eXq (aMq K gKq):=⟨_,_,pUq m_spelledV g_out F_shown,m_shown,kp_shown,b_shown⟩
  have g_Reading:MkGot l.prog w K mg base 1 C_Reading "Reading" dBq (aMq K (jJq C_Reading)):=⟨⟨f14,_,mMq c_Reading n_Reading_awaited n_Reading_brackets n_Reading_ways_around n_Reading_bound n_Reading_unbound n_Reading_result F_r_init,M_Reading,m_Reading,b_r_init⟩⟩
  have g_r_fin:MGot l.prog w K mg base 2 C_Reading "finish" e8q (aMq K (q7q C_Reading)):=⟨⟨_,_,qHq B c_Reading n_Reading_awaited n_Reading_brackets n_Reading_ways_around n_Reading_bound n_Reading_unbound n_Reading_result m_INNER_COUNTS T_INNER_COUNTS F_r_fin,mt_r_fin,b_r_fin⟩⟩
  have g_r_num:MGot l.prog w K mg base 2 C_Reading "number_of" eWq (aMq K (nKq C_Reading)):=⟨⟨_,_,oEq B c_Reading n_Reading_awaited n_Reading_brackets n_Reading_ways_around n_Reading_bound n_Reading_unbound n_Reading_result F_r_num,mt_r_num,b_r_num⟩⟩
  have g_r_brk:MGot l.prog w K mg base 3 C_Reading "take_bracket" dZq (aMq K (nGq C_Reading)):=⟨⟨_,_,oDq B c_Reading n_Reading_awaited n_Reading_brackets n_Reading_ways_around n_Reading_bound n_Reading_unbound n_Reading_result g_r_fin F_r_brk,mt_r_brk,b_r_brk⟩⟩
  have g_r_name:MGot l.prog w K mg base 3 C_Reading "take_name" dAq (aMq K (iPq C_Reading)):=⟨⟨_,_,nOq B c_Reading n_Reading_awaited n_Reading_brackets n_Reading_ways_around n_Reading_bound n_Reading_unbound n_Reading_result g_isname F_r_name,mt_r_name,b_r_name⟩⟩
  have g_r_word:MGot l.prog w K mg base 2 C_Reading "take_word" d5q (aMq K (jBq C_Reading)):=⟨⟨_,_,lUq B c_Reading n_Reading_awaited n_Reading_brackets n_Reading_ways_around n_Reading_bound n_Reading_unbound n_Reading_result m_INNER_COUNTS T_INNER_COUNTS F_r_word,mt_r_word,b_r_word⟩⟩
  have g_r_prog:MGot l.prog w K mg base 4 C_Reading "take_program" d4q (aMq K (iIq C_Reading)):=⟨⟨_,_,nEq B c_Reading n_Reading_awaited n_Reading_brackets n_Reading_ways_around n_Reading_bound n_Reading_unbound n_Reading_result g_r_fin g_r_num g_isname g_isfig F_r_prog,mt_r_prog,b_r_prog⟩⟩
  have g_r_take:MGot l.prog w K mg base 5 C_Reading "take" d2q (aMq K (iTq C_Reading)):=⟨⟨_,_,mVq B c_Reading n_Reading_awaited n_Reading_brackets n_Reading_ways_around n_Reading_bound n_Reading_unbound n_Reading_result g_r_prog g_r_word g_r_name g_r_brk F_r_take,mt_r_take,b_r_take⟩⟩
  have g_read:Got l.prog w K mg base 6 "read" fEq (aMq K iXq):=⟨_,_,s4q B c_Reading n_Reading_awaited n_Reading_brackets n_Reading_ways_around n_Reading_bound n_Reading_unbound n_Reading_result g_words g_Reading g_r_take F_read,m_read,kp_read,b_read⟩
  have g_feed:Got l.prog w K mg base 1 "_law_feed" fNq (aMq K h3q):=⟨_,_,rSq B F_feed,m_feed,kp_feed,b_feed⟩
  have g_take:Got l.prog w K mg base 1 "_law_take" fGq (aMq K cMq):=⟨_,_,sPq F_take,m_take,kp_take,b_take⟩
  have g_whole:Got l.prog w K mg base 2 "_law_whole" dTq (aMq K fVq):=⟨_,_,oZq g_take F_whole,m_whole,kp_whole,b_whole⟩
  have g_leaf:Got l.prog w K mg base 3 "_law_leaf" f6q (aMq K gHq):=⟨_,_,rWq g_take g_whole F_leaf,m_leaf,kp_leaf,b_leaf⟩
  have g_any:∀ n:Nat,Got l.prog w K mg base (n+4) "_law_any" hLq (aMq K (fFq n)):=λ n=>by
    induction n with
    | zero=>exact ⟨f26,_,xTq,m_any,kp_any,b_any⟩
    | succ n ih=>exact ⟨f26,_,x9q B g_take g_leaf ih F_any,m_any,kp_any,b_any⟩
  have g_row:Got l.prog w K mg base 36 "_law_row" hQq (aMq K n1q):=⟨_,_,v2q B g_take (g_any 31) F_row,m_row,kp_row,b_row⟩
  have g_rname:Got l.prog w K mg base 1 "_law_row_name" eCq (aMq K dPq):=⟨_,_,qKq F_rname,m_rname,kp_rname,b_rname⟩
  have g_ltext:∀ n:Nat,Got l.prog w K mg base (n+2) "_law_text" eGq (aMq K (ePq n)):=λ n=>by
    induction n with
    | zero=>exact ⟨f28,_,oFq,m_ltext,kp_ltext,b_ltext⟩
    | succ n ih=>exact ⟨f28,_,pCq B g_rname ih F_ltext,m_ltext,kp_ltext,b_ltext⟩
  have g_plain:∀ n:Nat,Got l.prog w K mg base (n+1) "_law_plain" eKq (aMq K (cKq n)):=λ n=>by
    induction n with
    | zero=>exact ⟨f29,_,p6q,m_plain,kp_plain,b_plain⟩
    | succ n ih=>exact ⟨f29,_,oLq B ih F_plain,m_plain,kp_plain,b_plain⟩
  have g_good:Got l.prog w K mg base 110 "_law_good" f9q (aMq K iKq):=⟨_,_,t6q B g_shown g_read (g_plain 101) F_good,m_good,kp_good,b_good⟩
  exact yAq B g_feed g_take (g_any 31) g_row (g_ltext 101) g_good F_law
theorem walk {l:PySem.W.OpenLaw} {q:Program} {loose:List Str} {XP:(Str->Option Value)->Heap->Prop} {YP:World->Heap->Prop} {d:DefRec} {K:Params->PySem.W.Frag} (hn:l.most=some 63) (hdf:d.params.defaults=[])
    (hY:∀ (w:World) (h:Heap),YP w h->(K w.params).In h)
    (F:∀ (w:World) (mg:Str->Option Value) (fa:Addr) (h:Heap),(K w.params).In h->h.Ns mainGlobals mg->mg d.name=some (.ref fa) →
      ∃ fd:FuncData,(∀ (s:Shared) (u:Value),BindsTo s fd ⟨[u],[]⟩ [("_law_script", u)])/\∀ base:Heap,(K w.params).In base->base.Ns mainGlobals mg->FnOk l.prog w (K w.params) mg base CX0 120 fa fd ["_law_script"] (jRq (K w.params))) :
    PySem.W.WalkO q loose XP YP l.row.toRowW d [] (λ f vs=>PySem.call f vs):=
  L2.s7q (n:=63) (k:=120) (x:="_law_script") (CX:=λ _=>CX0) (sp:=λ w=>jRq (K w.params)) hn (by decide) hdf ⟨rfl,by decide,by decide⟩ hY F (λ _ _ a ns hl o hS=>x3q hl o hS) λ _ _ _ _ _ z=>z
end KB
def PySem.W.Fast.tw4266587592636767237:=0
def PySem.W.Fast.tw12895136651052707149:=0
def PySem.W.Fast.tw6008309368522256042:=0
def PySem.W.Fast.tw15951591060572967944:=0
def PySem.W.Fast.tw8640182898628199752:=0
def PySem.W.Fast.tw4781917924507563326:=0
def PySem.W.Fast.tw18340552760434228728:=0
def PySem.W.Fast.tw8956483905747010419:=0
def PySem.W.Fast.tw93725517376682700:=0
def PySem.W.Fast.tw10973513818229887756:=0
def PySem.W.Fast.tw12622991055927544193:=0
def PySem.W.Fast.tw9295642342983661450:=0
def PySem.W.Fast.tw8460401233734007697:=0
def PySem.W.Fast.tw7484439329718603801:=0
def PySem.W.Fast.tw12147662064605808466:=0
def PySem.W.Fast.tw403928729098967736:=0
def PySem.W.Fast.tw6385927111463992642:=0
def PySem.W.Fast.tw7511952849890342610:=0
def PySem.W.Fast.tw4049426950308245141:=0
def PySem.W.Fast.tw3142617539719060225:=0
def PySem.W.Fast.tw3026107978890455677:=0
def PySem.W.Fast.tw215144775128658419:=0
def PySem.W.Fast.tw6402805792889495042:=0
def PySem.W.Fast.tw2476804237322937759:=0
def PySem.W.Fast.tw10108047908510995480:=0
def PySem.W.Fast.tw5827853040294408817:=0
def PySem.W.Fast.tw3932970226261573356:=0
def PySem.W.Fast.tw4236112019850554802:=0
def PySem.W.Fast.tw10013178141127794897:=0
def PySem.W.Fast.tw17678221953954609644:=0
def PySem.W.Fast.tw14969533976829565012:=0
def PySem.W.Fast.tw1164695006637020710:=0
def PySem.W.Fast.tw14847873710489266535:=0
def PySem.W.Fast.tw5375025259696235217:=0
def PySem.W.Fast.tw5913364774384131658:=0
def PySem.W.Fast.tw18106609362862823003:=0
def PySem.W.Fast.tw13808421671034489099:=0
def PySem.W.Fast.tw7952236776892281144:=0
def PySem.W.Fast.tw15297044768365589533:=0
def PySem.W.Fast.tw17488897087844547735:=0
open PySem PySem.W PyProof.Rows
set_option maxRecDepth 100000 in
set_option maxHeartbeats 0 in
theorem PySem.Challenge.cw_kindbags_k13_whole_written_and_read_holds : PySem.Challenge.rw_kindbags_k13_whole_written_and_read.Holds := by
  w_on; o_law; k_head; (case hw => w_witness2)
  k_fill
  refine KB.walk (l := PySem.Challenge.rw_kindbags_k13_whole_written_and_read) rfl rfl (fun w h Y => PySem.W.kIn_of Y) ?F
  case F =>
    intro w mg fa h KX G hmg
    refine' KB.v1q KX G hmg ?_ ?_ ?_ ?_ ?_ ?_ ?_ ?_ ?_ ?_ ?_ ?_ ?_ ?_ ?_ ?_ ?_ ?_ ?_ ?_ ?_ ?_ ?_ ?_ ?_ ?_ ?_ ?_ ?_ ?_ ?_ ?_ ?_ ?_ ?_ ?_ ?_ ?_ ?_ ?_ ?_ ?_ ?_ ?_ ?_ ?_ ?_ ?_ ?_ ?_ ?_ ?_ ?_ ?_ ?_ ?_ ?_ ?_ ?_ ?aI0 ?aI1 ?aI2 ?aI3 ?aI4 ?gL ?gF
    (case aI0 => k_is)
    (case aI1 => k_is)
    (case aI2 => rfl)
    (case aI3 => exact ⟨⟨_, _, rfl, rfl⟩, ⟨_, _, rfl, rfl⟩, ⟨_, _, rfl, rfl⟩, ⟨_, _, rfl, rfl⟩, ⟨_, _, rfl, rfl⟩, ⟨_, _, rfl, rfl⟩, ⟨_, _, rfl, rfl⟩, trivial⟩)
    (case aI4 => exact .cons ⟨⟨_, rfl⟩, ⟨_, rfl⟩⟩ (.cons ⟨⟨_, rfl⟩, ⟨_, rfl⟩⟩ (.cons ⟨⟨_, rfl⟩, ⟨_, rfl⟩⟩ (.cons ⟨⟨_, rfl⟩, ⟨_, rfl⟩⟩ (.cons ⟨⟨_, rfl⟩, ⟨_, rfl⟩⟩ (.cons ⟨⟨_, rfl⟩, ⟨_, rfl⟩⟩ (.cons ⟨⟨_, rfl⟩, ⟨_, rfl⟩⟩ (.nil))))))))
    (case gL => k_is)
    (case gF => k_is)
    all_goals first | k_is | (refine' L3.DT.mk ?_ ?_ ?_ ?_ <;> try k_is) | (refine' L3.DM.mk ?_ ?_ ?_ ?_ ?_ <;> try k_is) | (refine' L3.DTc.mk ?_ ?_ ?_ ?_ <;> try k_is) | (refine' L3.DMc.mk ?_ ?_ ?_ ?_ ?_ <;> try k_is) | skip
