import PyProof.Rows.All
import Wide.All
import OpenK.AllK
import Wide.FinOn
import Lean
import PyProof.EqAt
import PyProof.EqKinds
import PyProof.TupleCall
import PySem.Challenge.RW_kindbags_k15_texts_refused
set_option Elab.async false
set_option linter.all false
set_option maxRecDepth 100000
namespace L2
open PySem PySem.Spec PyProof.Rows
abbrev Key:=Sum Int Str
def lXq:Key->Value->Bool
  | .inl k,v=>Value.isInt k v
  | .inr x,v=>Value.isStrOf x v
def keyH (w:World):Key->Int
  | .inl k=>hashInt k
  | .inr x=>hashStr w x
theorem b2q:∀ {k:Key} {v:Value},lXq k v=true->(∃ i t,k=Sum.inl i/\v=Value.int i t)\/(∃ x t,k=Sum.inr x/\v=Value.str x t)
  | .inl i,v,h=>by
    obtain ⟨t,e⟩:=Value.isInt_shape (k:=i) (v:=v) h
    exact .inl ⟨i,t,rfl,e⟩
  | .inr x,v,h=>by
    obtain ⟨t,e⟩:=Value.isStrOf_shape (x:=x) (v:=v) h
    exact .inr ⟨x,t,rfl,e⟩
theorem nCq (i:Int) (t:Tok):lXq (.inl i) (.int i t)=true:=by simp [lXq,Value.isInt]
theorem mNq (x:Str) (t:Tok):lXq (.inr x) (.str x t)=true:=by simp [lXq,Value.isStrOf]
theorem yMq (a b:Int):decide ((Sum.inl a:Key)=Sum.inl b)=(a==b):=by
  by_cases e:a=b
  . subst e;simp
  . have h:¬ (Sum.inl a:Key)=Sum.inl b:=λ q=>e (Sum.inl.inj q)
    rw [decide_eq_false h]
    exact (beq_eq_false_iff_ne.mpr e).symm
theorem xCq (a b:Str):decide ((Sum.inr a:Key)=Sum.inr b)=decide (a=b):=by
  by_cases e:a=b
  . subst e;simp
  . have h:¬ (Sum.inr a:Key)=Sum.inr b:=λ q=>e (Sum.inr.inj q)
    rw [decide_eq_false h,decide_eq_false e]
theorem xKq (a:Int) (b:Str):decide ((Sum.inl a:Key)=Sum.inr b)=false:=decide_eq_false (λ q=>nomatch q)
theorem zNq (a:Str) (b:Int):decide ((Sum.inr a:Key)=Sum.inl b)=false:=decide_eq_false (λ q=>nomatch q)
def b3q (prog:Program) (w:World):PySem.KeyKind prog w Key where
  is:=lXq
  hash:=keyH w
  inj:=λ v a b ha hb=>by
    rcases b2q ha with ⟨i,t,rfl,rfl⟩ | ⟨x,t,rfl,rfl⟩
    . rcases b2q hb with ⟨j,u,rfl,e⟩ | ⟨y,u,rfl,e⟩
      . injection e with e1 _;rw [e1]
      . exact nomatch e
    . rcases b2q hb with ⟨j,u,rfl,e⟩ | ⟨y,u,rfl,e⟩
      . exact nomatch e
      . injection e with e1 _;rw [e1]
  byValue:=λ k v h=>by
    rcases b2q h with ⟨i,t,rfl,rfl⟩ | ⟨x,t,rfl,rfl⟩<;>rfl
  pyHash:=λ hv h=>by
    rcases b2q hv with ⟨i,t,rfl,rfl⟩ | ⟨x,t,rfl,rfl⟩
    . exact wpAny_pyHash_int h
    . exact wpAny_pyHash_str h
  eqBool:=λ hu hv h=>by
    rcases b2q hu with ⟨i,t,rfl,rfl⟩ | ⟨x,t,rfl,rfl⟩
    . rcases b2q hv with ⟨j,u,rfl,rfl⟩ | ⟨y,u,rfl,rfl⟩
      . rw [yMq] at h;exact wpAny_eqBool_int h
      . rw [xKq] at h;exact SeqAt.EqAt.int_str i t y u _ _ _ _ h
    . rcases b2q hv with ⟨j,u,rfl,rfl⟩ | ⟨y,u,rfl,rfl⟩
      . rw [zNq] at h;exact SeqAt.EqAt.str_int x t j u _ _ _ _ h
      . rw [xCq] at h;exact wpAny_eqBool_str h
  «strs»:=λ k x t v h=>by
    rcases b2q h with ⟨i,u,rfl,e⟩ | ⟨y,u,rfl,e⟩
    . exact nomatch e
    . injection e with e1 _
      subst e1
      cases v<;>rfl
theorem jIq (prog:Program) (w:World) (i:Int) (t:Tok):(b3q prog w).is (.inl i) (.int i t)=true:=nCq i t
theorem jAq (prog:Program) (w:World) (x:Str) (t:Tok):(b3q prog w).is (.inr x) (.str x t)=true:=mNq x t
inductive V where
  | non | bl (b:Bool) | int (i:Int) | str (x:Str) | byt (b:Array UInt8) | flt (b:UInt64) | ref (a:Addr) | ty (n:String)
  deriving DecidableEq
def RelV:V->Value->Prop
  | .non,u=>u=Value.none
  | .bl b,u=>u=Value.bool b
  | .int i,u=>∃ t,u=Value.int i t
  | .str x,u=>∃ t,u=Value.str x t
  | .byt b,u=>∃ t,u=Value.bytes b t
  | .flt b,u=>∃ t,u=Value.float b t
  | .ref a,u=>u=Value.ref a
  | .ty n,u=>u=Value.type n
abbrev Vals:List V->List Value->Prop:=Paired RelV
theorem Vals.length {xs:List V} {us:List Value} (r:Vals xs us):xs.length=us.length:=Paired.length r
theorem Vals.get:∀ {xs:List V} {us:List Value} {i:Nat} {x:V},Vals xs us->xs[i]?=some x->∃ u,us[i]?=some u/\RelV x u
  | _,_,_,_,.nil,e=>by simp at e
  | _,_,0,_,.cons r _,e=>by simp at e;subst e;exact ⟨_,rfl,r⟩
  | _,_,i+1,x,.cons _ t,e=>by
    obtain ⟨u,h1,h2⟩:=Vals.get (i:=i) (x:=x) t (by simpa using e)
    exact ⟨u,by simpa using h1,h2⟩
theorem Vals.set {x:V} {u:Value} (r:RelV x u):∀ {xs:List V} {us:List Value} (i:Nat),Vals xs us->Vals (xs.set i x) (us.set i u)
  | _,_,_,.nil=>.nil
  | _,_,0,.cons _ t=>.cons r t
  | _,_,i+1,.cons q t=>.cons q (Vals.set r i t)
theorem Vals.append:∀ {xs ys:List V} {us ws:List Value},Vals xs us->Vals ys ws->Vals (xs++ys) (us++ws)
  | _,_,_,_,.nil,s=>s
  | _,_,_,_,.cons r t,s=>.cons r (Vals.append t s)
theorem Vals.take:∀ {xs:List V} {us:List Value} (n:Nat),Vals xs us->Vals (xs.take n) (us.take n)
  | _,_,0,_=>.nil
  | _,_,_+1,.nil=>.nil
  | _,_,n+1,.cons r t=>.cons r (Vals.take n t)
theorem Vals.drop:∀ {xs:List V} {us:List Value} (n:Nat),Vals xs us->Vals (xs.drop n) (us.drop n)
  | _,_,0,r=>r
  | _,_,_+1,.nil=>.nil
  | _,_,n+1,.cons _ t=>Vals.drop n t
def RelO:Option V->Option Value->Prop
  | some v,some u=>RelV v u
  | none,none=>True
  | _,_=>False
def KV {κ:Type}:List (κ × V)->List (κ × Value)->Prop:=Paired λ(p:κ × V) (q:κ × Value)=>p.1=q.1/\RelV p.2 q.2
def kV:Key->V
  | .inl i=>.int i
  | .inr x=>.str x
inductive HO where
  | lst (xs:List V)
  | tup (xs:List V)
  | dK (kvs:List (Key × V)) | dT (kvs:List (List Key × V))
  | set (S:Int->Bool) (n:Nat)
  | ins (C dx:Addr) (fs:List (Str × V))
  | own (x:Addr)
  | xd (fs:List (Str × V))
  | met (f x:Addr)
  | rng (lo hi:Int)
  | frz (o:Obj) (u:HO)
  | tbl (ps:Array Value)
  | ext (φ:Heap->Prop)
abbrev Hp:=Addr->Option HO
def upd (H:Hp) (a:Addr) (o:HO):Hp:=λ b=>if b=a then some o else H b
theorem aBq {H:Hp} {a:Addr} {o:HO}:upd H a o a=some o:=by unfold upd;rw [if_pos rfl]
theorem aAq {H:Hp} {a b:Addr} {o:HO} (h:b≠a):upd H a o b=H b:=by unfold upd;rw [if_neg h]
theorem aEq {H:Hp} {a b:Addr} {o:HO} (h:H a=some o) (h':H b=none):a≠b:=by
  intro e;subst e;rw [h] at h';cases h'
section
variable (P:Program) (w:World)
def ObjOk (H:Hp) (h:Heap) (a:Addr):HO->Prop
  | .lst xs=>xs.length<=sizeLine/\∃ (its:List Value) (n:Nat),Vals xs its/\h.get? a=some { cls:=.type "list", data:=.seq its.toArray n }
  | .tup xs=>xs.length<=sizeLine/\∃ its:List Value,Vals xs its/\IsTup h a its.toArray
  | .dK kvs=>kvs.length<=sizeLine/\(a==sysModules)=false/\∃ vs,KV kvs vs/\h.DictOf (b3q P w) a vs
  | .dT kvs=>kvs.length<=sizeLine/\(a==sysModules)=false/\∃ xs:List (List Key × Addr × Value),
      Paired (λ(p:List Key × V) (q:List Key × Addr × Value)=>p.1=q.1/\H q.2.1=some (.tup (p.1.map kV))/\RelV p.2 q.2.2) kvs xs ∧
      ∃ o es ep,h.get? a=some o/\o.ExactDict/\o.data=.dict es ep/\es.toList=xs.map (entryOfKey (tupleKind (b3q P w)))/\(xs.map (·.1)).Nodup
  | .set S n=>h.SetOf (intKind P w) a S n
  | .ins C dx fs=>H dx=some (.own a)/\fs.length<=1000/\dx≠a/\h.get? a=some (PySem.W.instObj C dx) ∧
      ∃ mA,h.Ns1 dx mA/\(∀ f,RelO (fs.lookup f) (mA f))/\PySem.Within mA (fs.map (·.1))
  | .own _=>∃ o,h.get? a=some o
  | .xd fs=>∃ mA,h.Ns1 a mA/\∀ f,RelO (fs.lookup f) (mA f)
  | .rng lo hi=>∃ t u v,h.get? a=some { cls:=.type "range", data:=.fields #[.int lo t,.int hi u,.int 1 v] }
  | .frz o u=>h.get? a=some o/\ObjOk H h a u
  | .tbl ps=>h.get? a=some { cls:=.none,data:=.fields ps }
  | .met f x=>h.get? a=some (PySem.W.methodObj (.ref f) (.ref x))
  | .ext φ=>φ h/\(∃ o,h.get? a=some o)/\∀ h1 h2:Heap,φ h1->(∀ o,h1.get? a=some o->h2.get? a=some o)->φ h2
def HOk (H:Hp) (h:Heap):Prop:=∀ a o,H a=some o->ObjOk P w H h a o
end
section
variable {P:Program} {w:World} {H H':Hp} {h h':Heap} {a:Addr} {o:HO}
theorem ObjOk.lt (x:ObjOk P w H h a o):a < h.objs.size:=by
  cases o with
  | lst xs=>obtain ⟨_,_,_,_,e⟩:=x;exact Heap.lt_size e
  | tup xs=>obtain ⟨_,_,_,p⟩:=x;exact p.lt
  | dK kvs=>obtain ⟨_,_,_,_,o,_,_,e,_⟩:=x;exact Heap.lt_size e
  | dT kvs=>obtain ⟨_,_,_,_,o,_,_,e,_⟩:=x;exact Heap.lt_size e
  | set S n=>obtain ⟨o,_,_,_,e,_⟩:=x;exact Heap.lt_size e
  | ins C dx fs=>obtain ⟨_,_,_,e,_⟩:=x;exact Heap.lt_size e
  | own y=>obtain ⟨_,e⟩:=x;exact Heap.lt_size e
  | xd fs=>obtain ⟨_,⟨_,_,_,e,_⟩,_⟩:=x;exact Heap.lt_size e
  | rng lo hi=>obtain ⟨_,_,_,e⟩:=x;exact Heap.lt_size e
  | frz ob u=>obtain ⟨e,_⟩:=x;exact Heap.lt_size e
  | tbl ps=>exact Heap.lt_size (show h.get? a=some _ from x)
  | met f y=>exact Heap.lt_size (show h.get? a=some _ from x)
  | ext φ=>obtain ⟨_,⟨_,e⟩,_⟩:=x;exact Heap.lt_size e
theorem Paired.mapP {α β:Type} {F G:α->β->Prop}:∀ {l₁:List α} {l₂:List β},Paired F l₁ l₂->(∀ a b,F a b->G a b)->Paired G l₁ l₂
  | _,_,.nil,_=>.nil
  | _,_,.cons r t,f=>.cons (f _ _ r) (Paired.mapP t f)
theorem ObjOk.stay (x:ObjOk P w H h a o) (k:∀ b u,(b=a\/H b=some (.own a))->h.get? b=some u->h'.get? b=some u)
    (ho:∀ b,H b=some (.own a)->H' b=some (.own a)) (ht:∀ b xs,H b=some (.tup xs)->H' b=some (.tup xs)):ObjOk P w H' h' a o:=by
  induction o with
  | lst xs=>obtain ⟨z,its,n,r,e⟩:=x;exact ⟨z,its,n,r,k _ _ (.inl rfl) e⟩
  | tup xs=>obtain ⟨z,its,r,ob,e,c⟩:=x;exact ⟨z,its,r,ob,k _ _ (.inl rfl) e,c⟩
  | dK kvs=>obtain ⟨z,y,vs,r,ob,es,ep,e,c⟩:=x;exact ⟨z,y,vs,r,ob,es,ep,k _ _ (.inl rfl) e,c⟩
  | dT kvs=>
    obtain ⟨z,y,xs,r,ob,es,ep,e,c⟩:=x
    exact ⟨z,y,xs,Paired.mapP r λ p q z=>⟨z.1,ht _ _ z.2.1,z.2.2⟩,ob,es,ep,k _ _ (.inl rfl) e,c⟩
  | set S n=>obtain ⟨ob,es,ep,t,e,c⟩:=x;exact ⟨ob,es,ep,t,k _ _ (.inl rfl) e,c⟩
  | ins C dx fs=>
    obtain ⟨d,z,ne,e,mA,⟨od,es,ep,e2,c⟩,r⟩:=x
    exact ⟨ho _ d,z,ne,k _ _ (.inl rfl) e,mA,⟨od,es,ep,k _ _ (.inr d) e2,c⟩,r⟩
  | own y=>obtain ⟨ob,e⟩:=x;exact ⟨ob,k _ _ (.inl rfl) e⟩
  | xd fs=>obtain ⟨mA,⟨od,es,ep,e,c⟩,r⟩:=x;exact ⟨mA,⟨od,es,ep,k _ _ (.inl rfl) e,c⟩,r⟩
  | rng lo hi=>obtain ⟨t,u,v,e⟩:=x;exact ⟨t,u,v,k _ _ (.inl rfl) e⟩
  | frz ob u ih=>obtain ⟨e,q⟩:=x;exact ⟨k _ _ (.inl rfl) e,ih q⟩
  | tbl ps=>
    have e:h.get? a=some { cls:=.none,data:=.fields ps }:=x
    show h'.get? a=some { cls:=.none,data:=.fields ps }
    exact k a _ (.inl rfl) e
  | met f y=>
    have e:h.get? a=some (PySem.W.methodObj (.ref f) (.ref y)):=x
    show h'.get? a=some (PySem.W.methodObj (.ref f) (.ref y))
    exact k a _ (.inl rfl) e
  | ext φ=>obtain ⟨p,⟨o,e⟩,st⟩:=x;exact ⟨st _ _ p λ o q=>k _ _ (.inl rfl) q,⟨o,k _ _ (.inl rfl) e⟩,st⟩
theorem HOk.lt (x:HOk P w H h) (e:H a=some o):a < h.objs.size:=(x a o e).lt
theorem HOk.fresh (x:HOk P w H h) (e:h.objs.size<=a):H a=none:=by
  cases q:H a with
  | none=>rfl
  | some u=>exact absurd (Nat.lt_of_lt_of_le (x.lt q) e) (Nat.lt_irrefl _)
theorem HOk.kept (x:HOk P w H h) (k:∀ b u,h.get? b=some u->h'.get? b=some u):HOk P w H h':=λ a o e=>
  (x a o e).stay (λ b u _ q=>k b u q) (λ _ q=>q) λ _ _ q=>q
theorem HOk.laid (x:HOk P w H h) (k:∀ b u,h.get? b=some u->h'.get? b=some u) (hp:h.objs.size<=a) (new:ObjOk P w (upd H a o) h' a o):HOk P w (upd H a o) h':=λ b u e=>by
  have hn:=x.fresh hp
  by_cases hb:b=a
  . subst hb;rw [aBq] at e;cases e;exact new
  . rw [aAq hb] at e
    exact (x b u e).stay (λ c v _ q=>k c v q) (λ c q=>by rw [aAq (aEq q hn)];exact q) λ c xs q=>by rw [aAq (aEq q hn)];exact q
end
def Rd (H:Hp) (a:Addr) (u:HO):Prop:=H a=some u\/∃ o,H a=some (.frz o u)
theorem Rd.ok {P:Program} {w:World} {H:Hp} {h:Heap} {a:Addr} {u:HO} (r:Rd H a u) (x:HOk P w H h):ObjOk P w H h a u:=by
  rcases r with r | ⟨o,r⟩
  . exact x a u r
  . obtain ⟨_,q⟩:=x a _ r
    exact q
def Mut:Option HO->Prop
  | some (.lst _)=>True
  | some (.dK _)=>True
  | some (.dT _)=>True
  | some (.set _ _)=>True
  | some (.ins _ _ _)=>True
  | some (.ext _)=>True
  | _=>False
section
variable {P:Program} {w:World} {H:Hp} {h h':Heap} {x e:Addr} {o':HO}
theorem HOk.write (ok:HOk P w H h) (mu:Mut (H x)) (he:e=x\/H e=some (.own x)) (k:∀ b u,b≠e->h.get? b=some u->h'.get? b=some u) (heo:∃ u,h'.get? e=some u)
    (new:ObjOk P w (upd H x o') h' x o'):HOk P w (upd H x o') h':=λ b u q=>by
  have nown:∀ c y,H c=some (.own y)->c≠x:=λ c y r z=>by subst z;rw [r] at mu;exact mu
  have ntup:∀ c xs,H c=some (.tup xs)->c≠x:=λ c xs r z=>by subst z;rw [r] at mu;exact mu
  by_cases hb:b=x
  . subst hb;rw [aBq] at q;cases q;exact new
  . rw [aAq hb] at q
    by_cases hbe:b=e
    . have q':H b=some (.own x):=by
        rcases he with z | z
        . exact absurd (hbe.trans z) hb
        . rw [hbe];exact z
      rw [q] at q';cases q'
      obtain ⟨v,hv⟩:=heo
      exact ⟨v,by rw [hbe];exact hv⟩
    . refine (ok b u q).stay (λ c v hc r=>k c v ?_ r) (λ c r=>by rw [aAq (nown c b r)];exact r) λ c xs r=>by rw [aAq (ntup c xs r)];exact r
      rcases hc with rfl | hc
      . exact hbe
      . rintro rfl
        rcases he with z | z
        . exact nown c b hc z
        . rw [hc] at z;cases z;exact hb rfl
end
structure Un (fs ex:List Addr) (H H':Hp) (h h':Heap):Prop where
  keep:∀ b o,h.get? b=some o->H b=none->b ∉ fs->b ∉ ex->h'.get? b=some o
  slot:∀ b o,h.get? b=some o->H b=none->b∈fs->b ∉ ex->∃ sl,h'.get? b=some { o with slots:=sl }
  free:∀ b o,h.get? b=some o->H b=none->b ∉ ex->H' b=none
  there:∀ b o,h.get? b=some o->b ∉ ex->∃ o',h'.get? b=some o'
  tups:∀ b xs,H b=some (.tup xs)->H' b=some (.tup xs)
  frzs:∀ b o u,H b=some (.frz o u)->H' b=some (.frz o u)
  tbls:∀ b ps,H b=some (.tbl ps)->∃ more,H' b=some (.tbl (ps++more))
section
variable {fs fs' ex ex':List Addr} {H H1 H2:Hp} {h h1 h2 h':Heap} {a x e:Addr} {o:HO}
theorem Un.any (u:Un fs ex H H1 h h1) {b:Addr} {ob:Obj} (q:h.get? b=some ob) (n:H b=none) (hx:b ∉ ex):∃ sl,h1.get? b=some { ob with slots:=sl }:=by
  by_cases hb:b∈fs
  . exact u.slot b ob q n hb hx
  . exact ⟨ob.slots,u.keep b ob q n hb hx⟩
theorem Un.kept (k:∀ b u,h.get? b=some u->h'.get? b=some u):Un fs ex H H h h':=
  ⟨λ b ob q _ _ _=>k b ob q,λ b ob q _ _ _=>⟨ob.slots,k b ob q⟩,λ _ _ _ n _=>n,λ b ob q _=>⟨ob,k b ob q⟩,λ _ _ q=>q,λ _ _ _ q=>q,λ _ ps q=>⟨#[],by rw [q];simp⟩⟩
theorem Un.refl:Un fs ex H H h h:=Un.kept λ _ _ q=>q
theorem Un.laid (k:∀ b u,h.get? b=some u->h'.get? b=some u) (hp:h.objs.size<=a) (hn:H a=none):Un fs ex H (upd H a o) h h' where
  keep:=λ b u q _ _ _=>k b u q
  slot:=λ b u q _ _ _=>⟨u.slots,k b u q⟩
  free:=λ b u q n _=>by rw [aAq (Nat.ne_of_lt (Nat.lt_of_lt_of_le (Heap.lt_size q) hp))];exact n
  there:=λ b u q _=>⟨u,k b u q⟩
  tups:=λ b xs q=>by rw [aAq (aEq q hn)];exact q
  frzs:=λ b u xs q=>by rw [aAq (aEq q hn)];exact q
  tbls:=λ b ps q=>⟨#[],by rw [aAq (aEq q hn),q];simp⟩
theorem Un.write (mu:Mut (H x)) (he:e=x\/H e=some (.own x)) (k:∀ b u,b≠e->h.get? b=some u->h'.get? b=some u) (heo:∃ u,h'.get? e=some u):Un fs ex H (upd H x o) h h':=by
  have hx:∀ b,H b=none->b≠x:=λ b n z=>by subst z;rw [n] at mu;exact mu
  have hb:∀ b,H b=none->b≠e:=λ b n z=>by
    subst z
    rcases he with r | r
    . exact hx b n r
    . rw [n] at r;cases r
  have hm:∀ b u,H b=some u->¬ Mut (some u)->b≠x:=λ b u q nm z=>by subst z;rw [q] at mu;exact nm mu
  refine ⟨λ b u q n _ _=>k b u (hb b n) q,λ b u q n _ _=>⟨u.slots,k b u (hb b n) q⟩,λ b u q n _=>by rw [aAq (hx b n)];exact n,λ b u q _=>?_,
    λ b xs q=>by rw [aAq (hm b _ q λ z=>z)];exact q,λ b u xs q=>by rw [aAq (hm b _ q λ z=>z)];exact q,λ b ps q=>⟨#[],by rw [aAq (hm b _ q λ z=>z),q];simp⟩⟩
  by_cases hbe:b=e
  . subst hbe;exact heo
  . exact ⟨u,k b u hbe q⟩
end
def trk (h:Heap) (H:Hp):List Addr:=(List.range h.objs.size).filter λ a=>(H a).isSome
def rGq (h:Heap) (H:Hp):Heap:=PySem.W.hideAll h (trk h H)
theorem nKq (h:Heap) (H:Hp):(rGq h H).objs.size=h.objs.size:=PySem.W.hideAll_size _ _
theorem qHq {h:Heap} {H:Hp} {b:Addr} {o:Obj} (e:h.get? b=some o) (n:H b=none):(rGq h H).get? b=some o:=
  PySem.W.hideAll_get _ e λ hm=>by
    have q:(H b).isSome=true:=(List.mem_filter.mp hm).2
    rw [n] at q;simp at q
theorem uPq {h:Heap} {H:Hp} {b:Addr} {o:Obj} (e:(rGq h H).get? b=some o):h.get? b=some o/\H b=none:=by
  have e':h.get? b=some o:=PySem.W.of_hideAll (trk h H) e
  refine ⟨e',?_⟩
  cases q:H b with
  | none=>rfl
  | some x=>
    have hm:b∈trk h H:=List.mem_filter.mpr ⟨List.mem_range.mpr (Heap.lt_size e'),by simp [q]⟩
    have z:(rGq h H).get? b=none:=PySem.W.hideAll_none (trk h H) hm
    rw [z] at e;cases e
structure Mod (K:PySem.W.Frag) (mg:Str->Option Value) (base:Heap):Prop where
  kin:K.In base
  glob:base.Ns mainGlobals mg
  blt:∃ mb,base.Ns builtinsNs mb/\∀ x:Str,x≠"__name__"->mb x=bootBuiltins x
  nolimit:base.NoLimit
structure Cx where
  prog:Program
  w:World
  K:PySem.W.Frag
  mg:Str->Option Value
  base:Heap
  A:Around
  N:List Str
  s₀:Shared
  H₀:Hp
  env:Env
  outer:List Env
  stack:List Env
  ex:List Addr
  fn:Str->Bool
  calm:Bool
  pn:List (Addr × Obj)
  xe:Value->Shared->Prop
def frs (l:List Env):List Addr:=l.filterMap (·.frame)
abbrev Cx.fs (X:Cx):List Addr:=frs X.outer
def Vis (sc:Scope) (x:Str):Prop:=sc.names.lookup x=some .local\/sc.names.lookup x=some .cell\/sc.names.lookup x=some .free
def Loc (sc:Scope) (x:Str):Prop:=sc.names.lookup x=some .local\/sc.names.lookup x=some .cell
def Look (env:Env) (h:Heap) (m:Str->Option Value) (x:Str) (u:Value):Prop:=
  (env.kindOf x=some .local/\m x=some u)\/((env.kindOf x=some .cell\/env.kindOf x=some .free)/\∃ c,env.cells.lookup x=some c/\h.IsCell c (some u))
structure Cx.Ok (X:Cx):Prop where
  mod:Mod X.K X.mg X.base
  kind:X.env.scope.kind=.function
  glob:X.env.globals=mainGlobals
  blt:X.env.builtins=builtinsNs
  above:X.s₀.heap.objs.size<=X.env.locals
  inj:∀ x y c,X.env.cells.lookup x=some c->X.env.cells.lookup y=some c->x=y
  has:∀ x,(X.env.kindOf x=some .cell\/X.env.kindOf x=some .free)->∃ c,X.env.cells.lookup x=some c
  cab:∀ x c,X.fn x=true->X.env.cells.lookup x=some c->X.s₀.heap.objs.size<=c
  hd:X.calm=true->X.A.handled=none
  frames:X.A.frames=some X.stack
  stk:X.stack=X.outer\/(X.stack=X.env::X.outer/\X.env.frame=some X.env.locals)
  exf:∀ b∈X.ex,b≠X.env.locals/\∀ x c,X.env.cells.lookup x=some c->c≠b
  bs:∀ b o,X.base.get? b=some o->X.s₀.heap.get? b=some o/\X.H₀ b=none
  bsz:X.base.objs.size<=X.s₀.heap.objs.size
  noex:∀ b o,X.base.get? b=some o->b ∉ X.ex
  exfs:∀ b∈X.ex,b ∉ X.fs
  funs:X.s₀.heap.FunFrames X.base X.outer
  frf:∀ b∈X.fs,X.H₀ b=none
structure Inv (X:Cx) (pins:List (Addr × Obj)) (σ:List (Option V)) (H:Hp) (s:Shared):Prop where
  ok:X.Ok
  os:s.os=X.s₀.os
  bare:AllBare s.gens
  base:Un X.fs X.ex X.H₀ H X.s₀.heap s.heap
  loc:∃ m,s.heap.Ns X.env.locals m/\∀ (i:Nat) (x:Str) (v:V),X.N[i]?=some x->σ[i]?=some (some v)->Vis X.env.scope x->∃ u,RelV v u/\Look X.env s.heap m x u
  cell:∀ x c,X.env.cells.lookup x=some c->∃ v,s.heap.IsCell c v
  free:H X.env.locals=none
  freeC:∀ x c,X.env.cells.lookup x=some c->H c=none
  pin:∀ p∈X.pn++pins,s.heap.get? p.1=some p.2/\H p.1=none/\p.1≠X.env.locals/\p.1 ∉ X.fs/\∀ v,p.2.data≠.cell v
  hok:HOk X.prog X.w H s.heap
  len:σ.length=X.N.length
section
variable {X:Cx} {pins:List (Addr × Obj)} {σ:List (Option V)} {H H':Hp} {s:Shared} {h':Heap}
theorem Cx.Ok.nofr (ok:X.Ok) {b:Addr} {o:Obj} (e:X.base.get? b=some o):b ∉ X.fs:=λ hb=>by
  have:=(ok.funs.mem hb).1
  rw [e] at this;cases this
theorem Inv.bs (I:Inv X pins σ H s):∀ b o,X.base.get? b=some o->s.heap.get? b=some o/\H b=none:=λ b o e=>
  ⟨I.base.keep b o (I.ok.bs b o e).1 (I.ok.bs b o e).2 (I.ok.nofr e) (I.ok.noex b o e),I.base.free b o (I.ok.bs b o e).1 (I.ok.bs b o e).2 (I.ok.noex b o e)⟩
theorem Inv.bk (I:Inv X pins σ H s):∀ b o,X.base.get? b=some o->s.heap.get? b=some o:=λ b o e=>(I.bs b o e).1
theorem Inv.mod (I:Inv X pins σ H s):Mod X.K X.mg X.base:=I.ok.mod
theorem Inv.kIn (I:Inv X pins σ H s):X.K.In s.heap:=I.ok.mod.kin.keeps I.bk
theorem Inv.lt (I:Inv X pins σ H s):X.env.locals < s.heap.objs.size:=let ⟨_,hn,_⟩:=I.loc;hn.lt
theorem Inv.sz (I:Inv X pins σ H s):X.s₀.heap.objs.size<=s.heap.objs.size:=Nat.le_trans I.ok.above (Nat.le_of_lt I.lt)
theorem Inv.nofs (I:Inv X pins σ H s) {a:Addr} (h:s.heap.objs.size<=a):a ∉ X.fs:=λ hb=>by
  obtain ⟨_,o,ho,_⟩:=I.ok.funs.mem hb
  exact absurd (Nat.lt_of_lt_of_le (Heap.lt_size ho) (Nat.le_trans I.sz h)) (Nat.lt_irrefl _)
theorem Inv.cne (I:Inv X pins σ H s):∀ x c,X.env.cells.lookup x=some c->c≠X.env.locals:=λ x c e z=>by
  obtain ⟨v,o,ho,hd⟩:=I.cell x c e
  obtain ⟨m,⟨o',es,ep,ho',hd',_⟩,_⟩:=I.loc
  rw [z,ho'] at ho;cases ho;rw [hd'] at hd;cases hd
theorem Inv.funs (I:Inv X pins σ H s):s.heap.FunFrames X.base X.outer:=by
  have all:∀ (l:List Env),(∀ b∈frs l,b∈X.fs)->X.s₀.heap.FunFrames X.base l->s.heap.FunFrames X.base l:=by
    intro l
    induction l with
    | nil=>intro _ _;trivial
    | cons env r ih=>
      intro hs hl
      obtain ⟨hk,⟨L,o,hf,hn,ho,hd⟩,hr⟩:=hl
      have hL:L∈X.fs:=hs L (by unfold frs;rw [List.filterMap_cons,hf];exact List.mem_cons_self)
      obtain ⟨sl,e⟩:=I.base.slot L o ho (I.ok.frf L hL) hL λ z=>I.ok.exfs L z hL
      exact ⟨hk,⟨L,_,hf,hn,e,hd⟩,ih (λ b hb=>hs b (by unfold frs;rw [List.filterMap_cons,hf];exact List.mem_cons_of_mem _ hb)) hr⟩
  exact all X.outer (λ _ hb=>hb) I.ok.funs
theorem Inv.stack (I:Inv X pins σ H s):s.heap.FunFrames X.base X.stack:=by
  rcases I.ok.stk with e | ⟨e,hf⟩
  . rw [e];exact I.funs
  . rw [e]
    obtain ⟨m,hn,_⟩:=I.loc
    refine .cons (by rw [I.ok.kind];decide) hf hn ?_ I.funs
    exact Heap.get?_none_of_le (Nat.le_trans I.ok.bsz I.ok.above)
theorem Inv.stkSub (I:Inv X pins σ H s):∀ b∈frs X.stack,b∈X.env.locals::X.fs:=λ b hb=>by
  rcases I.ok.stk with e | ⟨e,hf⟩
  . rw [e] at hb;exact List.mem_cons_of_mem _ hb
  . rw [e] at hb
    unfold frs at hb
    rw [List.filterMap_cons,hf] at hb
    exact hb
theorem Inv.stkFree (I:Inv X pins σ H s):∀ b∈frs X.stack,H b=none:=λ b hb=>by
  rcases List.mem_cons.mp (I.stkSub b hb) with e | hb
  . rw [e];exact I.free
  . obtain ⟨_,o,ho,_⟩:=I.ok.funs.mem hb
    exact I.base.free b o ho (I.ok.frf b hb) λ z=>I.ok.exfs b z hb
theorem Inv.step {g':Array GenState} {t':Nat} {d':Drawn} {ch:List Addr} (I:Inv X pins σ H s)
    (hch:∀ b∈ch,(b∈X.ex\/X.s₀.heap.objs.size<=b)/\b≠X.env.locals/\(∀ x c,X.env.cells.lookup x=some c->c≠b)/\∀ p∈X.pn++pins,p.1≠b)
    (keep:∀ b o,b≠X.env.locals->b ∉ X.fs->b ∉ ch->s.heap.get? b=some o->H b=none->h'.get? b=some o)
    (slot:∀ b o,b≠X.env.locals->b∈X.fs->b ∉ ch->s.heap.get? b=some o->H b=none->∃ sl,h'.get? b=some { o with slots:=sl }) (free:∀ b o,b ∉ ch->s.heap.get? b=some o->H b=none->H' b=none)
    (there:∀ b o,b ∉ ch->s.heap.get? b=some o->∃ o',h'.get? b=some o')
    (tups:∀ b xs,H b=some (.tup xs)->H' b=some (.tup xs)) (frzs:∀ b o u,H b=some (.frz o u)->H' b=some (.frz o u)) (tbls:∀ b ps,H b=some (.tbl ps)->∃ more,H' b=some (.tbl (ps++more)))
    (ns:∀ m,s.heap.Ns X.env.locals m->h'.Ns X.env.locals m) (hok:HOk X.prog X.w H' h') (hg:AllBare g') :
    Inv X pins σ H' { s with heap:=h',gens:=g',drawn:=d',toks:=t' }:=by
  have neL:∀ b o,X.s₀.heap.get? b=some o->b≠X.env.locals:=λ b o e=>Nat.ne_of_lt (Nat.lt_of_lt_of_le (Heap.lt_size e) I.ok.above)
  have neC:∀ b o,X.s₀.heap.get? b=some o->b ∉ X.ex->b ∉ ch:=λ b o e hx hb=>by
    rcases (hch b hb).1 with z | z
    . exact hx z
    . exact absurd (Nat.lt_of_lt_of_le (Heap.lt_size e) z) (Nat.lt_irrefl _)
  have cellK:∀ x c,X.env.cells.lookup x=some c->∀ v,s.heap.IsCell c v->h'.IsCell c v:=λ x c e v ⟨o,ho,hd⟩=>by
    have nch:c ∉ ch:=λ z=>(hch c z).2.2.1 x c e rfl
    by_cases hc:c∈X.fs
    . obtain ⟨sl,q⟩:=slot c o (I.cne x c e) hc nch ho (I.freeC x c e)
      exact ⟨_,q,hd⟩
    . exact ⟨o,keep c o (I.cne x c e) hc nch ho (I.freeC x c e),hd⟩
  refine ⟨I.ok,I.os,hg,⟨λ b o e n hb hx=>?_,λ b o e n hb hx=>?_,λ b o e n hx=>?_,λ b o e hx=>?_,λ b xs e=>tups b xs (I.base.tups b xs e),λ b o xs e=>frzs b o xs (I.base.frzs b o xs e),λ b ps e=>?_⟩,?_,λ x c e=>?_,?_,λ x c e=>?_,λ p hp=>?_,hok,I.len⟩
  . exact keep b o (neL b o e) hb (neC b o e hx) (I.base.keep b o e n hb hx) (I.base.free b o e n hx)
  . obtain ⟨sl,e1⟩:=I.base.slot b o e n hb hx
    obtain ⟨sl',e2⟩:=slot b _ (neL b o e) hb (neC b o e hx) e1 (I.base.free b o e n hx)
    exact ⟨sl',e2⟩
  . obtain ⟨o',e1⟩:=I.base.there b o e hx
    exact free b o' (neC b o e hx) e1 (I.base.free b o e n hx)
  . obtain ⟨o',e1⟩:=I.base.there b o e hx
    exact there b o' (neC b o e hx) e1
  . obtain ⟨m1,e1⟩:=I.base.tbls b ps e
    obtain ⟨m2,e2⟩:=tbls b _ e1
    exact ⟨m1++m2,by rw [e2,Array.append_assoc]⟩
  . obtain ⟨m,hn,hl⟩:=I.loc
    refine ⟨m,ns m hn,λ i x v e1 e2 e3=>?_⟩
    obtain ⟨u,r,l⟩:=hl i x v e1 e2 e3
    refine ⟨u,r,?_⟩
    rcases l with l | ⟨k,c,e,z⟩
    . exact .inl l
    . exact .inr ⟨k,c,e,cellK x c e _ z⟩
  . obtain ⟨v,z⟩:=I.cell x c e
    exact ⟨v,cellK x c e v z⟩
  . obtain ⟨m,⟨o,_,_,ho,_⟩,_⟩:=I.loc
    exact free _ o (λ z=>(hch _ z).2.1 rfl) ho I.free
  . obtain ⟨v,o,ho,hd⟩:=I.cell x c e
    exact free c o (λ z=>(hch c z).2.2.1 x c e rfl) ho (I.freeC x c e)
  . obtain ⟨e,n,ne,nf,d⟩:=I.pin p hp
    have nch:p.1 ∉ ch:=λ z=>(hch p.1 z).2.2.2 p hp rfl
    exact ⟨keep p.1 p.2 ne nf nch e n,free p.1 p.2 nch e n,ne,nf,d⟩
theorem Inv.un {t':Nat} (I:Inv X pins σ H s) (u:Un X.fs [] H H' s.heap h') (hok:HOk X.prog X.w H' h'):Inv X pins σ H' { s with heap:=h',toks:=t' }:=by
  obtain ⟨m,⟨o,es,ep,ho,r⟩,_⟩:=id I.loc
  obtain ⟨sl,hL⟩:=u.any ho I.free (by simp)
  exact I.step (g':=s.gens) (d':=s.drawn) (ch:=[]) (λ _ z=>nomatch z) (λ b o _ hb _ e n=>u.keep b o e n hb (by simp)) (λ b o _ hb _ e n=>u.slot b o e n hb (by simp)) (λ b o _ e n=>u.free b o e n (by simp)) (λ b o _ e=>u.there b o e (by simp)) u.tups u.frzs u.tbls (λ m' hm=>by
    obtain ⟨o',es',ep',ho',r'⟩:=hm
    rw [ho] at ho';cases ho'
    exact ⟨_,es',ep',hL,r'⟩) hok I.bare
theorem Inv.call {g':Array GenState} {t':Nat} {d':Drawn} {ch:List Addr} (I:Inv X pins σ H s) (u:Un (frs X.stack) ch H H' s.heap h') (hok:HOk X.prog X.w H' h') (hg:AllBare g')
    (hch:∀ b∈ch,(b∈X.ex\/X.s₀.heap.objs.size<=b)/\b≠X.env.locals/\(∀ x c,X.env.cells.lookup x=some c->c≠b)/\∀ p∈X.pn++pins,p.1≠b) :
    Inv X pins σ H' { s with heap:=h',gens:=g',drawn:=d',toks:=t' }:=by
  obtain ⟨m,⟨o,es,ep,ho,r⟩,_⟩:=id I.loc
  obtain ⟨sl,hL⟩:=u.any ho I.free λ z=>(hch _ z).2.1 rfl
  exact I.step (ch:=ch) hch (λ b o hL hb hc e n=>u.keep b o e n (λ z=>(List.mem_cons.mp (I.stkSub b z)).elim hL hb) hc) (λ b o _ _ hc e n=>u.any e n hc) (λ b o hc e n=>u.free b o e n hc) (λ b o hc e=>u.there b o e hc) u.tups u.frzs u.tbls (λ m' hm=>by
    obtain ⟨o',es',ep',ho',r'⟩:=hm
    rw [ho] at ho';cases ho'
    exact ⟨_,es',ep',hL,r'⟩) hok hg
theorem Inv.turned {t':Nat} {it:Addr} (I:Inv X pins σ H s) (k:∀ b o,b≠it->s.heap.get? b=some o->h'.get? b=some o) (hn:H it=none) (hL:it≠X.env.locals)
    (h1:it∈X.ex\/X.s₀.heap.objs.size<=it) (h2:∀ x c,X.env.cells.lookup x=some c->c≠it) (h3:∀ p∈X.pn++pins,p.1≠it):Inv X pins σ H { s with heap:=h',toks:=t' }:=by
  have nit:∀ b u,H b=some u->b≠it:=λ b u e z=>by rw [z,hn] at e;cases e
  refine I.step (g':=s.gens) (d':=s.drawn) (ch:=[it]) (λ b hb=>?_) (λ b o _ _ hc e _=>k b o (λ z=>hc (by simp [z])) e) (λ b o _ _ hc e _=>⟨o.slots,k b o (λ z=>hc (by simp [z])) e⟩) (λ _ _ _ _ n=>n)
    (λ b o hc e=>⟨o,k b o (λ z=>hc (by simp [z])) e⟩) (λ _ _ e=>e) (λ _ _ _ e=>e) (λ b ps e=>⟨#[],by rw [e];simp⟩) (λ m hm=>?_) (λ b u e=>?_) I.bare
  . have e:b=it:=by simpa using hb
    subst e
    exact ⟨h1,hL,h2,h3⟩
  . obtain ⟨o,es,ep,ho,r⟩:=hm
    exact ⟨o,es,ep,k _ o (Ne.symm hL) ho,r⟩
  . refine (I.hok b u e).stay (λ c v hc q=>k c v ?_ q) (λ _ q=>q) λ _ _ q=>q
    rcases hc with z | z
    . rw [z];exact nit b u e
    . exact nit c _ z
theorem Inv.tok (I:Inv X pins σ H s) (t:Nat):Inv X pins σ H { s with toks:=t }:=I.un (h':=s.heap) (t':=t) Un.refl I.hok
theorem Inv.kept {t':Nat} (I:Inv X pins σ H s) (k:∀ b u,s.heap.get? b=some u->h'.get? b=some u):Inv X pins σ H { s with heap:=h',toks:=t' }:=I.un (Un.kept k) (I.hok.kept k)
theorem Inv.laid {a:Addr} {o:HO} {t':Nat} (I:Inv X pins σ H s) (k:∀ b u,s.heap.get? b=some u->h'.get? b=some u) (hp:s.heap.objs.size<=a) (new:ObjOk X.prog X.w (upd H a o) h' a o) :
    Inv X pins σ (upd H a o) { s with heap:=h',toks:=t' }:=I.un (Un.laid k hp (I.hok.fresh hp)) (I.hok.laid k hp new)
theorem Inv.write {x e:Addr} {o:HO} {t':Nat} (I:Inv X pins σ H s) (mu:Mut (H x)) (he:e=x\/H e=some (.own x)) (k:∀ b u,b≠e->s.heap.get? b=some u->h'.get? b=some u) (heo:∃ u,h'.get? e=some u)
    (new:ObjOk X.prog X.w (upd H x o) h' x o):Inv X pins σ (upd H x o) { s with heap:=h',toks:=t' }:=I.un (Un.write mu he k heo) (I.hok.write mu he k heo new)
theorem Inv.pins_of {pins':List (Addr × Obj)} (I:Inv X pins σ H s) (h:∀ p∈pins',s.heap.get? p.1=some p.2/\H p.1=none/\p.1≠X.env.locals/\p.1 ∉ X.fs/\∀ v,p.2.data≠.cell v):Inv X pins' σ H s:=
  ⟨I.ok,I.os,I.bare,I.base,I.loc,I.cell,I.free,I.freeC,λ p hp=>(List.mem_append.mp hp).elim (λ z=>I.pin p (List.mem_append_left _ z)) (h p),I.hok,I.len⟩
theorem gUq {N:List Str} (hN:N.Nodup) {i j:Nat} {x:Str} (a:N[i]?=some x) (b:N[j]?=some x):i=j:=by
  obtain ⟨h1,e1⟩:=List.getElem?_eq_some_iff.mp a
  obtain ⟨h2,e2⟩:=List.getElem?_eq_some_iff.mp b
  exact (List.getElem_inj hN).mp (e1.trans e2.symm)
theorem mYq {M:Model} {A:Around} {E:Value->Shared->Prop} {i:Nat} {x:Str} {v:V} {u:Value} {Q:Unit->Shared->Prop} (I:Inv X pins σ H s) (hN:X.N.Nodup) (hi:X.N[i]?=some x) (hx:Loc X.env.scope x) (r:RelV v u)
    (h:∀ s',Inv X pins (σ.set i (some v)) H s'->(∃ a,Heap.SameBut a s.heap s'.heap/\(a=X.env.locals\/X.env.cells.lookup x=some a))->Q () s') (hf:X.fn x=true\/X.env.scope.names.lookup x=some .local:=by first | exact .inl rfl | exact .inr rfl | assumption):wpAny M A (storeName X.env x u) Q E s:=by
  obtain ⟨m,hn,hl⟩:=id I.loc
  have hcls:(X.env.scope.kind==.class||(X.env.scope.kind==.module&&X.env.locals !=X.env.globals))=false:=by rw [I.ok.kind];rfl
  have hiσ:i < σ.length:=by rw [I.len];exact (List.getElem?_eq_some_iff.mp hi).1
  have cne:=I.cne
  have tracked:∀ {a:Addr} {h':Heap},(∃ o,s.heap.get? a=some o/\H a=none)->Heap.SameBut a s.heap h'->HOk X.prog X.w H h':=λ{a h'} ha hs b ob e=>by
    obtain ⟨_,_,hfree⟩:=ha
    refine (I.hok b ob e).stay (λ c w' hc q=>(hs.2 c ?_).trans q) (λ _ q=>q) λ _ _ q=>q
    rintro rfl
    rcases hc with rfl | hc
    . rw [hfree] at e;cases e
    . rw [hfree] at hc;cases hc
  rcases hx with hk | hk
  . refine wpAny_storeName_local hk hn (λ h' hn' hs=>?_) hcls
    obtain ⟨oL,_,_,hoL,_⟩:=id hn
    refine h _ ⟨I.ok,I.os,I.bare,⟨λ b o e n hb hx=>?_,λ b o e n hb hx=>?_,I.base.free,λ b o e hx=>?_,I.base.tups,I.base.frzs,I.base.tbls⟩,⟨_,hn',λ j y v' e1 e2 e3=>?_⟩,λ y c e=>?_,I.free,I.freeC,λ p hp=>?_,tracked ⟨oL,hoL,I.free⟩ hs,by simpa using I.len⟩ ⟨_,hs,.inl rfl⟩
    . exact (hs.2 b (Nat.ne_of_lt (Nat.lt_of_lt_of_le (Heap.lt_size e) I.ok.above))).trans (I.base.keep b o e n hb hx)
    . obtain ⟨sl,e1⟩:=I.base.slot b o e n hb hx
      exact ⟨sl,(hs.2 b (Nat.ne_of_lt (Nat.lt_of_lt_of_le (Heap.lt_size e) I.ok.above))).trans e1⟩
    . obtain ⟨o',e1⟩:=I.base.there b o e hx
      exact ⟨o',(hs.2 b (Nat.ne_of_lt (Nat.lt_of_lt_of_le (Heap.lt_size e) I.ok.above))).trans e1⟩
    . by_cases hj:j=i
      . subst hj
        rw [hi] at e1;cases e1
        rw [List.getElem?_set_self hiσ] at e2
        cases e2
        exact ⟨u,r,.inl ⟨hk,by simp⟩⟩
      . rw [List.getElem?_set_ne (Ne.symm hj)] at e2
        obtain ⟨u',r',q⟩:=hl j y v' e1 e2 e3
        refine ⟨u',r',?_⟩
        rcases q with ⟨k,e⟩ | ⟨k,c,e,z⟩
        . refine .inl ⟨k,?_⟩
          have:y≠x:=λ e=>hj (gUq hN e1 (e ▸ hi))
          simp [this,e]
        . exact .inr ⟨k,c,e,z.sameBut hs (cne y c e)⟩
    . obtain ⟨w',z⟩:=I.cell y c e
      exact ⟨w',z.sameBut hs (cne y c e)⟩
    . obtain ⟨e,n,ne,nf,d⟩:=I.pin p hp
      exact ⟨(hs.2 p.1 ne).trans e,n,ne,nf,d⟩
  . have hfn:X.fn x=true:=by
      rcases hf with z | z
      . exact z
      . rw [z] at hk;cases hk
    obtain ⟨c,hc⟩:=I.ok.has x (.inl hk)
    obtain ⟨w',z⟩:=I.cell x c hc
    refine wpAny_storeName_cell I.ok.kind hk hc z (λ h' hc' hs=>?_)
    obtain ⟨oc,hoc,hocd⟩:=id z
    refine h { s with heap:=h' } ⟨I.ok,I.os,I.bare,⟨λ b o e n hb hx=>?_,λ b o e n hb hx=>?_,I.base.free,λ b o e hx=>?_,I.base.tups,I.base.frzs,I.base.tbls⟩,⟨m,hn.sameBut hs (Ne.symm (cne x c hc)),λ j y v' e1 e2 e3=>?_⟩,λ y c' e=>?_,I.free,I.freeC,λ p hp=>?_,tracked ⟨oc,hoc,I.freeC x c hc⟩ hs,by simpa using I.len⟩ ⟨c,hs,.inr hc⟩
    . exact (hs.2 b (Nat.ne_of_lt (Nat.lt_of_lt_of_le (Heap.lt_size e) (I.ok.cab x c hfn hc)))).trans (I.base.keep b o e n hb hx)
    . obtain ⟨sl,e1⟩:=I.base.slot b o e n hb hx
      exact ⟨sl,(hs.2 b (Nat.ne_of_lt (Nat.lt_of_lt_of_le (Heap.lt_size e) (I.ok.cab x c hfn hc)))).trans e1⟩
    . obtain ⟨o',e1⟩:=I.base.there b o e hx
      exact ⟨o',(hs.2 b (Nat.ne_of_lt (Nat.lt_of_lt_of_le (Heap.lt_size e) (I.ok.cab x c hfn hc)))).trans e1⟩
    . by_cases hj:j=i
      . subst hj
        rw [hi] at e1;cases e1
        rw [List.getElem?_set_self hiσ] at e2
        cases e2
        exact ⟨u,r,.inr ⟨.inl hk,c,hc,hc'⟩⟩
      . rw [List.getElem?_set_ne (Ne.symm hj)] at e2
        obtain ⟨u',r',q⟩:=hl j y v' e1 e2 e3
        refine ⟨u',r',?_⟩
        rcases q with q | ⟨k,c',e,z'⟩
        . exact .inl q
        . refine .inr ⟨k,c',e,z'.sameBut hs ?_⟩
          rintro rfl
          exact hj (gUq hN e1 (I.ok.inj _ _ _ e hc ▸ hi))
    . by_cases hcc:c'=c
      . subst hcc;exact ⟨_,hc'⟩
      . obtain ⟨w2,z2⟩:=I.cell y c' e
        exact ⟨w2,z2.sameBut hs hcc⟩
    . obtain ⟨e,n,ne,nf,d⟩:=I.pin p hp
      refine ⟨(hs.2 p.1 ?_).trans e,n,ne,nf,d⟩
      intro q
      rw [q,hoc] at e
      have q':oc=p.2:=Option.some.inj e
      exact d w' (by rw [<- q'];exact hocd)
theorem hSq {M:Model} {A:Around} {E:Value->Shared->Prop} {i:Nat} {x:Str} {v:V} {u:Value} {Q:Unit->Shared->Prop} (I:Inv X pins σ H s) (hN:X.N.Nodup) (hi:X.N[i]?=some x) (hx:Loc X.env.scope x) (r:RelV v u)
    (h:∀ s',Inv X pins (σ.set i (some v)) H s'->Q () s') (hf:X.fn x=true\/X.env.scope.names.lookup x=some .local:=by first | exact .inl rfl | exact .inr rfl | assumption):wpAny M A (storeName X.env x u) Q E s:=
  mYq I hN hi hx r (λ s' I' _=>h s' I') hf
theorem Inv.call' {s':Shared} {ch:List Addr} (I:Inv X pins σ H s) (ho:s'.os=s.os) (u:Un (frs X.stack) ch H H' s.heap s'.heap) (hok:HOk X.prog X.w H' s'.heap) (hg:AllBare s'.gens)
    (hch:∀ b∈ch,(b∈X.ex\/X.s₀.heap.objs.size<=b)/\b≠X.env.locals/\(∀ x c,X.env.cells.lookup x=some c->c≠b)/\∀ p∈X.pn++pins,p.1≠b):Inv X pins σ H' s':=by
  obtain ⟨h',g',d',t',o'⟩:=s'
  have e:o'=s.os:=ho
  subst e
  exact I.call (g':=g') (t':=t') (d':=d') u hok hg hch
end
abbrev XK:=Value->Option Addr->Hp->Prop
abbrev St:=List (Option V)
abbrev VK:=V->Hp->Prop
abbrev TE:=St->Hp->VK->Prop
abbrev TT:=St->Hp->(Bool->Hp->Prop)->Prop
abbrev TA:=St->Hp->(List V->Hp->Prop)->Prop
structure Ends where
  nx:St->Hp->Prop
  rt:VK
  bk:St->Hp->Prop:=λ _ _=>False
  ct:St->Hp->Prop:=λ _ _=>False
abbrev TS:=Ends->St->Hp->Prop
def EP (X:Cx) (pins:List (Addr × Obj)) (σ:St) (Q:VK) (u:Value) (s':Shared):Prop:=∃ v H',Inv X pins σ H' s'/\RelV v u/\Q v H'
def TP (X:Cx) (pins:List (Addr × Obj)) (σ:St) (Q:Bool->Hp->Prop) (b:Bool) (s':Shared):Prop:=∃ H',Inv X pins σ H' s'/\Q b H'
def AP (X:Cx) (pins:List (Addr × Obj)) (σ:St) (Q:List V->Hp->Prop) (us:List Value) (s':Shared):Prop:=∃ vs H',Inv X pins σ H' s'/\Vals vs us/\Q vs H'
def SP (X:Cx) (pins:List (Addr × Obj)) (D:Ends) (f:Flow) (s':Shared):Prop:=
  match f with
  | .next=>∃ σ' H',Inv X pins σ' H' s'/\D.nx σ' H'
  | .brk=>∃ σ' H',Inv X pins σ' H' s'/\D.bk σ' H'
  | .cont=>∃ σ' H',Inv X pins σ' H' s'/\D.ct σ' H'
  | .ret u=>∃ v σ' H',Inv X pins σ' H' s'/\RelV v u/\D.rt v H'
def PE (X:Cx) (e:Expr) (t:TE):Prop:=
  ∀ (pins:List (Addr × Obj)) (s:Shared) (σ:St) (H:Hp) (Q:VK),Inv X pins σ H s->t σ H Q->wpAny (model X.prog X.w) X.A (eval e X.env) (EP X pins σ Q) X.xe s
def PT (X:Cx) (e:Expr) (t:TT):Prop:=
  ∀ (pins:List (Addr × Obj)) (s:Shared) (σ:St) (H:Hp) (Q:Bool->Hp->Prop),Inv X pins σ H s->t σ H Q->wpAny (model X.prog X.w) X.A (isTrue e X.env (eval e X.env)) (TP X pins σ Q) X.xe s
def PW (X:Cx) (e:Expr) (t:TT):Prop:=
  ∀ (whole:Sem Value) (pins:List (Addr × Obj)) (s:Shared) (σ:St) (H:Hp) (Q:Bool->Hp->Prop),Inv X pins σ H s->t σ H Q->wpAny (model X.prog X.w) X.A (isTrue e X.env whole) (TP X pins σ Q) X.xe s
theorem PW.pt {X:Cx} {e:Expr} {t:TT} (h:PW X e t):PT X e t:=h _
def PA (X:Cx) (es:List Expr) (t:TA):Prop:=
  ∀ (pos:Pos) (pins:List (Addr × Obj)) (s:Shared) (σ:St) (H:Hp) (Q:List V->Hp->Prop),Inv X pins σ H s->t σ H Q->wpAny (model X.prog X.w) X.A (spliced (backTo pos (starEach es X.env))) (AP X pins σ Q) X.xe s
def PS (X:Cx) (st:Stmt) (t:TS):Prop:=
  ∀ (pins:List (Addr × Obj)) (s:Shared) (σ:St) (H:Hp) (D:Ends),Inv X pins σ H s->t D σ H->wpAny (model X.prog X.w) X.A (exec st X.env) (SP X pins D) X.xe s
def PSs (X:Cx) (st:List Stmt) (t:TS):Prop:=
  ∀ (pins:List (Addr × Obj)) (s:Shared) (σ:St) (H:Hp) (D:Ends),Inv X pins σ H s->t D σ H->wpAny (model X.prog X.w) X.A (execs st X.env) (SP X pins D) X.xe s
theorem thn {α:Type} {t:Sem α} {Q Q':α->Shared->Prop} {M:Model} {A:Around} {E:Value->Shared->Prop} {s:Shared} (h:wpAny M A t Q E s) (hQ:∀ a s,Q a s->Q' a s):wpAny M A t Q' E s:=wpAny_mono h hQ λ _ _ x=>x
section
variable {X:Cx}
theorem bin {a b:Expr} {ta tb:TE} (ha:PE X a ta) (hb:PE X b tb) {pins:List (Addr × Obj)} {s:Shared} {σ:St} {H:Hp} {R:V->V->Hp->Prop} (I:Inv X pins σ H s) (h:ta σ H λ x H1=>tb σ H1 λ y H2=>R x y H2)
    {α:Type} {Q:α->Shared->Prop} {f:Value->Value->Sem α}
    (hf:∀ v u s2 x y H2,Inv X pins σ H2 s2->RelV x v->RelV y u->R x y H2->wpAny (model X.prog X.w) X.A (f v u) Q X.xe s2) :
    wpAny (model X.prog X.w) X.A (eval a X.env) (λ v s₁=>wpAny (model X.prog X.w) X.A (eval b X.env) (λ u s₂=>wpAny (model X.prog X.w) X.A (f v u) Q X.xe s₂) X.xe s₁) X.xe s:=by
  refine thn (ha pins s σ H _ I h) λ v s1 ⟨x,H1,I1,r1,q1⟩=>?_
  refine thn (hb pins s1 σ H1 _ I1 q1) λ u s2 ⟨y,H2,I2,r2,q2⟩=>?_
  exact hf v u s2 x y H2 I2 r1 r2 q2
def tVar (i:Nat):TE:=λ σ H Q=>∃ v,σ[i]?=some (some v)/\Q v H
def tC (v:V):TE:=λ _ H Q=>Q v H
theorem lKq {i:Nat} {x:Str} {pos:Pos} (hN:X.N[i]?=some x) (hv:Vis X.env.scope x) (hd:(x==("__debug__" : Str))=false:=by decide) (hcd:(x==("__classdict__" : Str))=false:=by decide):PE X (.Name x pos) (tVar i):=by
  intro pins s σ H Q I h
  obtain ⟨v,e,h⟩:=h
  obtain ⟨m,hn,hl⟩:=I.loc
  obtain ⟨u,r,l⟩:=hl i x v hN e hv
  have fin:EP X pins σ Q u s:=⟨v,H,I,r,h⟩
  rcases l with ⟨hk,hm⟩ | ⟨hk,c,hc,hcell⟩
  . exact wpAny_Name (wpAny_loadName_local I.ok.kind hk hn hm fin) hd
  . rcases hk with hk | hk
    . exact wpAny_Name (wpAny_loadName_cell I.ok.kind hk hc hcell fin) hd
    . exact wpAny_Name (wpAny_loadName_free I.ok.kind hk hc hcell fin hcd) hd
theorem tVq {i j pos}:PE X (.Constant (.int i) j pos) (tC (.int i)):=λ _ _ _ H _ I h=>wpAny_Constant_int ⟨.int i,H,I.tok _,⟨_,rfl⟩,h⟩
theorem aK4q {b j pos}:PE X (.Constant (.bool b) j pos) (tC (.bl b)):=λ _ _ _ H _ I h=>Constant_bool ⟨.bl b,H,I,rfl,h⟩
theorem y6q {j pos}:PE X (.Constant .none j pos) (tC .non):=λ _ _ _ H _ I h=>Constant_none ⟨.non,H,I,rfl,h⟩
theorem tSq {x j pos}:PE X (.Constant (.str x) j pos) (tC (.str x)):=λ _ _ _ H _ I h=>Calls.Constant_str ⟨.str x,H,I.tok _,⟨_,rfl⟩,h⟩
def Gl (X:Cx) (x:Str):Prop:=X.env.kindOf x=some .globalImplicit
theorem d3q {E:Value->Shared->Prop} {pins:List (Addr × Obj)} {s:Shared} {σ:St} {H:Hp} {x:Str} {u:Value} {pos:Pos} {Q:Value->Shared->Prop} (I:Inv X pins σ H s) (hg:Gl X x) (hm:X.mg x=some u) (h:Q u s)
    (hd:(x==("__debug__" : Str))=false:=by decide):wpAny (model X.prog X.w) X.A (eval (.Name x pos) X.env) Q E s:=
  Calls.Name_function_global I.ok.kind hg (Calls.loadGlobal_global (by rw [I.ok.glob];exact I.mod.glob.keeps I.bk) hm h) hd
theorem eZq {E:Value->Shared->Prop} {pins:List (Addr × Obj)} {s:Shared} {σ:St} {H:Hp} {x:Str} {u:Value} {pos:Pos} {Q:Value->Shared->Prop} (I:Inv X pins σ H s) (hg:Gl X x) (hm:X.mg x=none) (hv:bootBuiltins x=some u) (h:Q u s)
    (hn:x≠"__name__":=by decide) (hd:(x==("__debug__" : Str))=false:=by decide):wpAny (model X.prog X.w) X.A (eval (.Name x pos) X.env) Q E s:=by
  obtain ⟨mb,h1,h2⟩:=I.mod.blt
  exact Calls.Name_function_global I.ok.kind hg (Calls.loadGlobal_builtin (by rw [I.ok.glob];exact I.mod.glob.keeps I.bk) hm (by rw [I.ok.blt];exact h1.keeps I.bk) ((h2 x hn).trans hv) h) hd
theorem jHq {x:Str} {v:V} {u:Value} {pos:Pos} (hg:Gl X x) (hm:X.mg x=some u) (r:RelV v u) (hd:(x==("__debug__" : Str))=false:=by decide):PE X (.Name x pos) (tC v):=
  λ _ _ _ H _ I h=>d3q I hg hm ⟨v,H,I,r,h⟩ hd
theorem uUq {x:Str} {v:V} {u:Value} {pos:Pos} (hg:Gl X x) (hm:X.mg x=none) (hv:bootBuiltins x=some u) (r:RelV v u) (hn:x≠"__name__":=by decide) (hd:(x==("__debug__" : Str))=false:=by decide):PE X (.Name x pos) (tC v):=
  λ _ _ _ H _ I h=>eZq I hg hm hv ⟨v,H,I,r,h⟩ hn hd
variable {a b:Expr} {ta tb:TE} {pos:Pos}
variable {tA tB':TT} {rest:List Expr}
def tAnd (t u:TT):TT:=λ σ H Q=>t σ H λ c H1=>if c=true then u σ H1 Q else Q false H1
def tOr (t u:TT):TT:=λ σ H Q=>t σ H λ c H1=>if c=true then Q true H1 else u σ H1 Q
def tNot (t:TT):TT:=λ σ H Q=>t σ H λ c H1=>Q (!c) H1
theorem wQq (ha:PT X a tA):PW X (.BoolOp .And [a] pos) tA:=by
  intro wh pins s σ H Q I h
  refine isTrue_and (thn (ha pins s σ H Q I h) λ c s1 e=>?_)
  cases c with
  | true=>exact isTrue_and_nil e
  | false=>exact e
theorem aB3q (ha:PT X a tA):PW X (.BoolOp .Or [a] pos) tA:=by
  intro wh pins s σ H Q I h
  refine isTrue_or (thn (ha pins s σ H Q I h) λ c s1 e=>?_)
  cases c with
  | false=>exact isTrue_or_nil e
  | true=>exact e
theorem xLq (ha:PT X a tA) (hb:PW X (.BoolOp .And (b::rest) pos) tB'):PW X (.BoolOp .And (a::b::rest) pos) (tAnd tA tB'):=by
  intro wh pins s σ H Q I h
  refine isTrue_and (thn (ha pins s σ H _ I h) λ c s1 ⟨H1,I1,q1⟩=>?_)
  cases c with
  | true=>exact hb wh pins s1 σ H1 Q I1 q1
  | false=>exact ⟨H1,I1,q1⟩
theorem aM5q (ha:PT X a tA) (hb:PW X (.BoolOp .Or (b::rest) pos) tB'):PW X (.BoolOp .Or (a::b::rest) pos) (tOr tA tB'):=by
  intro wh pins s σ H Q I h
  refine isTrue_or (thn (ha pins s σ H _ I h) λ c s1 ⟨H1,I1,q1⟩=>?_)
  cases c with
  | true=>exact ⟨H1,I1,q1⟩
  | false=>exact hb wh pins s1 σ H1 Q I1 q1
theorem aB9q (ha:PT X a tA):PT X (.UnaryOp .Not a pos) (tNot tA):=by
  intro pins s σ H Q I h
  exact isTrue_not (ha pins s σ H (λ c H1=>Q (!c) H1) I h)
def zRq (ta tb:TE):TE:=λ σ H Q=>ta σ H λ x H1=>∃ c,x=.bl c/\if c=true then tb σ H1 Q else Q (.bl false) H1
def tOrV (ta tb:TE):TE:=λ σ H Q=>ta σ H λ x H1=>∃ c,x=.bl c/\if c=true then Q (.bl true) H1 else tb σ H1 Q
def aB1q (ta:TE):TE:=λ σ H Q=>ta σ H λ x H1=>∃ c,x=.bl c/\Q (.bl (!c)) H1
theorem yXq {op} {t:TE} (h:PE X a t):PE X (.BoolOp op [a] pos) t:=λ pins s σ H Q I hw=>BoolOp_one (h pins s σ H Q I hw)
theorem yIq (ha:PE X a ta) (hb:PE X (.BoolOp .And (b::rest) pos) tb):PE X (.BoolOp .And (a::b::rest) pos) (zRq ta tb):=by
  intro pins s σ H Q I h
  refine BoolOp_and (thn (ha pins s σ H _ I h) λ v s1 ⟨x,H1,I1,r1,q1⟩=>?_)
  obtain ⟨c,rfl,q1⟩:=q1
  cases r1
  refine wpAny_truthy_bool ?_
  cases c with
  | true=>exact hb pins s1 σ H1 Q I1 q1
  | false=>exact ⟨.bl false,H1,I1,rfl,q1⟩
theorem aG7q (ha:PE X a ta) (hb:PE X (.BoolOp .Or (b::rest) pos) tb):PE X (.BoolOp .Or (a::b::rest) pos) (tOrV ta tb):=by
  intro pins s σ H Q I h
  refine BoolOp_or (thn (ha pins s σ H _ I h) λ v s1 ⟨x,H1,I1,r1,q1⟩=>?_)
  obtain ⟨c,rfl,q1⟩:=q1
  cases r1
  refine wpAny_truthy_bool ?_
  cases c with
  | false=>exact hb pins s1 σ H1 Q I1 q1
  | true=>exact ⟨.bl true,H1,I1,rfl,q1⟩
theorem zTq (ha:PE X a ta):PE X (.UnaryOp .Not a pos) (aB1q ta):=by
  intro pins s σ H Q I h
  refine UnaryOp_ (thn (ha pins s σ H _ I h) λ v s1 ⟨x,H1,I1,r1,q1⟩=>?_)
  obtain ⟨c,rfl,q1⟩:=q1
  cases r1
  exact not_of (wpAny_truthy_bool ⟨.bl (!c),H1,I1,rfl,q1⟩)
def tIf (t:TT) (ta tb:TE):TE:=λ σ H Q=>t σ H λ c H1=>if c=true then ta σ H1 Q else tb σ H1 Q
theorem qIq {c:Expr} (hc:PT X c tA) (ha:PE X a ta) (hb:PE X b tb):PE X (.IfExp c a b pos) (tIf tA ta tb):=by
  intro pins s σ H Q I h
  refine wpAny_IfExp (thn (hc pins s σ H _ I h) λ d s1 ⟨H1,I1,q1⟩=>?_)
  cases d with
  | true=>exact ha pins s1 σ H1 Q I1 q1
  | false=>exact hb pins s1 σ H1 Q I1 q1
end
def SqL (K:PySem.W.Frag) (H:Hp) (a:Addr) (xs:List V):Prop:=
  Rd H a (.lst xs) ∨
    ∃ (o:Obj) (its:Array Value) (n:Nat),K.lookup a=some o/\o.cls=.type "list"/\o.dict=none/\o.data=.seq its n/\its.size<=sizeLine/\Vals xs its.toList
def SqT (K:PySem.W.Frag) (H:Hp) (a:Addr) (xs:List V):Prop:=
  Rd H a (.tup xs) ∨
    ∃ (o:Obj) (its:Array Value) (n:Nat),K.lookup a=some o/\o.cls=.type "tuple"/\o.data=.seq its n/\its.size<=sizeLine/\Vals xs its.toList
def absV:Value->Option V
  | .none=>some .non
  | .bool b=>some (.bl b)
  | .int i _=>some (.int i)
  | .str x _=>some (.str x)
  | .bytes b _=>some (.byt b)
  | .float b _=>some (.flt b)
  | .ref a=>some (.ref a)
  | .type n=>some (.ty n)
  | _=>none
theorem RelV.abs {x:V} {u:Value} (r:RelV x u):absV u=some x:=by
  cases x with
  | non=>cases r;rfl
  | bl _=>cases r;rfl
  | int _=>obtain ⟨t,rfl⟩:=r;rfl
  | str _=>obtain ⟨t,rfl⟩:=r;rfl
  | byt _=>obtain ⟨t,rfl⟩:=r;rfl
  | flt _=>obtain ⟨t,rfl⟩:=r;rfl
  | ref _=>cases r;rfl
  | ty _=>cases r;rfl
theorem RelV.inj {x y:V} {u:Value} (r:RelV x u) (q:RelV y u):x=y:=Option.some.inj (r.abs.symm.trans q.abs)
theorem Vals.inj:∀ {xs ys:List V} {us:List Value},Vals xs us->Vals ys us->xs=ys
  | _,_,_,.nil,.nil=>rfl
  | _,_,_,.cons r t,.cons r' t'=>by rw [r.inj r',Vals.inj t t']
section
variable {X:Cx} {pins:List (Addr × Obj)} {σ:St} {H:Hp} {s:Shared} {a:Addr} {xs ys:List V}
theorem SqL.of {K:PySem.W.Frag} (h:H a=some (.lst xs)):SqL K H a xs:=.inl (.inl h)
theorem SqT.of {K:PySem.W.Frag} (h:H a=some (.tup xs)):SqT K H a xs:=.inl (.inl h)
theorem Inv.list (I:Inv X pins σ H s) (h:SqL X.K H a xs):∃ its:List Value,Vals xs its/\PlainL s.heap a its.toArray/\xs.length<=sizeLine:=by
  rcases h with h | ⟨o,its,n,hk,hc,hd,hs,hz,r⟩
  . obtain ⟨z,its,n,r,e⟩:=h.ok I.hok
    exact ⟨its,r,⟨_,n,e,rfl,rfl,rfl⟩,z⟩
  . refine ⟨its.toList,r,⟨o,n,I.kIn a o hk,hc,hd,by simpa using hs⟩,?_⟩
    have e:=r.length
    simp only [Array.length_toList] at e
    omega
theorem Inv.tuple (I:Inv X pins σ H s) (h:SqT X.K H a xs):∃ its:List Value,Vals xs its/\IsTup s.heap a its.toArray/\xs.length<=sizeLine:=by
  rcases h with h | ⟨o,its,n,hk,hc,hs,hz,r⟩
  . obtain ⟨z,its,r,p⟩:=h.ok I.hok
    exact ⟨its,r,p,z⟩
  . refine ⟨its.toList,r,⟨o,I.kIn a o hk,hc,n,by simpa using hs⟩,?_⟩
    have e:=r.length
    simp only [Array.length_toList] at e
    omega
theorem Inv.list_inj (I:Inv X pins σ H s) (h:SqL X.K H a xs) (h':SqL X.K H a ys):xs=ys:=by
  obtain ⟨its,r,⟨o,n,e,_,_,d⟩,_⟩:=I.list h
  obtain ⟨its',r',⟨o',n',e',_,_,d'⟩,_⟩:=I.list h'
  rw [e] at e';cases e'
  rw [d] at d'
  injection d' with d1 _
  have:its=its':=by simpa using congrArg Array.toList d1
  subst this
  exact r.inj r'
theorem Inv.tuple_inj (I:Inv X pins σ H s) (h:SqT X.K H a xs) (h':SqT X.K H a ys):xs=ys:=by
  obtain ⟨its,r,⟨o,e,_,n,d⟩,_⟩:=I.tuple h
  obtain ⟨its',r',⟨o',e',_,n',d'⟩,_⟩:=I.tuple h'
  rw [e] at e';cases e'
  rw [d] at d'
  injection d' with d1 _
  have:its=its':=by simpa using congrArg Array.toList d1
  subst this
  exact r.inj r'
end
abbrev Cx.wish (X:Cx) (E:Value->Shared->Prop):Cx:={ X with xe:=E }
abbrev Cx.nox (X:Cx):Cx:=X.wish λ _ _=>False
theorem Cx.Ok.wish {X:Cx} (ok:X.Ok) (E:Value->Shared->Prop):(X.wish E).Ok:=
  ⟨ok.mod,ok.kind,ok.glob,ok.blt,ok.above,ok.inj,ok.has,ok.cab,ok.hd,ok.frames,ok.stk,ok.exf,ok.bs,ok.bsz,ok.noex,ok.exfs,ok.funs,ok.frf⟩
theorem Cx.Ok.unwish {X:Cx} {E:Value->Shared->Prop} (ok:(X.wish E).Ok):X.Ok:=
  ⟨ok.mod,ok.kind,ok.glob,ok.blt,ok.above,ok.inj,ok.has,ok.cab,ok.hd,ok.frames,ok.stk,ok.exf,ok.bs,ok.bsz,ok.noex,ok.exfs,ok.funs,ok.frf⟩
section
variable {X:Cx} {pins:List (Addr × Obj)} {σ:St} {H:Hp} {s:Shared} {E:Value->Shared->Prop}
theorem Inv.wish (I:Inv X pins σ H s) (E:Value->Shared->Prop):Inv (X.wish E) pins σ H s:=⟨I.ok.wish E,I.os,I.bare,I.base,I.loc,I.cell,I.free,I.freeC,I.pin,I.hok,I.len⟩
theorem Inv.unwish (I:Inv (X.wish E) pins σ H s):Inv X pins σ H s:=⟨I.ok.unwish,I.os,I.bare,I.base,I.loc,I.cell,I.free,I.freeC,I.pin,I.hok,I.len⟩
theorem SP.unwish {D:Ends} {f:Flow} {s':Shared} (h:SP (X.wish E) pins D f s'):SP X pins D f s':=by
  cases f with
  | next=>obtain ⟨σ',H',I,q⟩:=h;exact ⟨σ',H',I.unwish,q⟩
  | brk=>obtain ⟨σ',H',I,q⟩:=h;exact ⟨σ',H',I.unwish,q⟩
  | cont=>obtain ⟨σ',H',I,q⟩:=h;exact ⟨σ',H',I.unwish,q⟩
  | ret u=>obtain ⟨v,σ',H',I,r,q⟩:=h;exact ⟨v,σ',H',I.unwish,r,q⟩
theorem PSs.nox {st:List Stmt} {t:TS} (h:PSs X.nox st t):PSs X st t:=λ pins s σ H D I hw=>
  wpAny_mono (h pins s σ H D (I.wish _) hw) (λ _ _ q=>q.unwish) λ _ _ z=>False.elim z
end
section
variable {X:Cx} {st:Stmt} {rest:List Stmt} {t u:TS} {e:Expr} {te:TE} {pos:Pos}
def aD1q:TS:=λ D σ H=>D.nx σ H
def tSeq (t u:TS):TS:=λ D σ H=>t { D with nx:=u D } σ H
theorem v3q:PSs X [] aD1q:=λ _ _ σ H _ I h=>wpAny_execs_nil ⟨σ,H,I,h⟩
theorem kOq (h1:PS X st t) (h2:PSs X rest u):PSs X (st::rest) (tSeq t u):=by
  intro pins s σ H D I h
  refine wpAny_execs_cons (thn (h1 pins s σ H { D with nx:=u D } I h) λ f s1 q=>?_)
  cases f with
  | next=>
    obtain ⟨σ',H',I',q⟩:=q
    exact h2 pins s1 σ' H' D I' q
  | ret v=>exact q
  | brk=>exact q
  | cont=>exact q
theorem p6q (h1:PS X st t):PSs X [st] t:=by
  intro pins s σ H D I h
  refine wpAny_execs_cons (thn (h1 pins s σ H D I h) λ f s1 q=>?_)
  cases f with
  | next=>exact wpAny_execs_nil q
  | ret v=>exact q
  | brk=>exact q
  | cont=>exact q
theorem Inv.quiet {pins:List (Addr × Obj)} {σ:St} {H:Hp} {s:Shared} (I:Inv X pins σ H s):interactive X.env=false:=by simp [interactive,I.ok.kind]
def aE1q (te:TE):TS:=λ D σ H=>te σ H λ _ H1=>D.nx σ H1
theorem mLq (he:PE X e te) (hs:swapsWith e none pos.line X.env=pure false:=by rfl):PS X (.Expr e pos) (aE1q te):=by
  intro pins s σ H D I h
  exact wpAny_Expr_any (thn (he pins s σ H _ I h) λ v s1 ⟨x,H1,I1,r1,q1⟩=>⟨σ,H1,I1,q1⟩) I.quiet hs
def tRet (te:TE):TS:=λ D σ H=>te σ H D.rt
theorem y8q (he:PE X e te):PS X (.Return (some e) pos) (tRet te):=by
  intro pins s σ H D I h
  exact wpAny_Return_some (thn (he pins s σ H _ I h) λ v s1 ⟨x,H1,I1,r1,q1⟩=>⟨x,σ,H1,I1,r1,q1⟩)
def aE6q:TS:=λ D _ H=>D.rt .non H
theorem w1q:PS X (.Return none pos) aE6q:=λ _ _ σ H _ I h=>wpAny_Return_none ⟨.non,σ,H,I,rfl,h⟩
def tIfS (c:TT) (t u:TS):TS:=λ D σ H=>c σ H λ b H1=>if b=true then t D σ H1 else u D σ H1
theorem aK9q {c:Expr} {a b:List Stmt} {tc:TT} (hc:PT X c tc) (ha:PSs X a t) (hb:PSs X b u):PS X (.If c a b pos) (tIfS tc t u):=by
  intro pins s σ H D I h
  refine wpAny_If (thn (hc pins s σ H _ I h) λ d s1 ⟨H1,I1,q1⟩=>?_)
  cases d with
  | true=>exact ha pins s1 σ H1 D I1 q1
  | false=>exact hb pins s1 σ H1 D I1 q1
end
abbrev TG:=V->St->Hp->(St->Hp->Prop)->Prop
abbrev TGs:=List V->St->Hp->(St->Hp->Prop)->Prop
def PG (X:Cx) (target:Expr) (t:TG):Prop:=
  ∀ (pins:List (Addr × Obj)) (s:Shared) (σ:St) (H:Hp) (v:V) (u:Value) (Q:St->Hp->Prop),Inv X pins σ H s->RelV v u->t v σ H Q →
    wpAny (model X.prog X.w) X.A (assign target X.env u) (λ _ s'=>∃ σ' H',Inv X pins σ' H' s'/\Q σ' H') X.xe s
def PGs (X:Cx) (ts:List Expr) (t:TGs):Prop:=
  ∀ (pins:List (Addr × Obj)) (s:Shared) (σ:St) (H:Hp) (vs:List V) (us:List Value) (Q:St->Hp->Prop),Inv X pins σ H s->Vals vs us->t vs σ H Q →
    wpAny (model X.prog X.w) X.A (assignInOrder ((assignEach ts X.env).map (·.2)) us) (λ _ s'=>∃ σ' H',Inv X pins σ' H' s'/\Q σ' H') X.xe s
abbrev TSet:=V->V->V->Hp->(Hp->Prop)->Prop
def PSet (X:Cx) (t:TSet):Prop:=
  ∀ (pins:List (Addr × Obj)) (s:Shared) (σ:St) (H:Hp) (o i v:V) (ov iv u:Value) (Q:Hp->Prop),Inv X pins σ H s->RelV o ov->RelV i iv->RelV v u->t o i v H Q →
    wpAny (model X.prog X.w) X.A (setItem ov iv u) (λ _ s'=>∃ H',Inv X pins σ H' s'/\Q H') X.xe s
section
variable {X:Cx} {pos:Pos}
def r3q (i:Nat):TG:=λ v σ H Q=>Q (σ.set i (some v)) H
theorem u0q {i:Nat} {x:Str} (hN:X.N.Nodup) (hi:X.N[i]?=some x) (hx:Loc X.env.scope x) (hf:X.fn x=true\/X.env.scope.names.lookup x=some .local:=by first | exact .inl rfl | exact .inr rfl | assumption):PG X (.Name x pos) (r3q i):=by
  intro pins s σ H v u Q I r h
  exact wpAny_assign_Name (hSq I hN hi hx r (λ s' I'=>⟨_,H,I',h⟩) hf)
def gNil:TGs:=λ vs σ H Q=>vs=[]/\Q σ H
def xNq (t:TG) (u:TGs):TGs:=λ vs σ H Q=>∃ v r,vs=v::r/\t v σ H λ σ' H'=>u r σ' H' Q
theorem x0q:PGs X [] gNil:=by
  intro pins s σ H vs us Q I r h
  obtain ⟨e,h⟩:=h
  subst e
  cases r
  exact assignInOrder_nil ⟨σ,H,I,h⟩
theorem rZq {e:Expr} {es:List Expr} {t:TG} {u:TGs} (h1:PG X e t) (h2:PGs X es u)
    (hs:(assignEach (e::es) X.env).map (·.2)=assign e X.env::(assignEach es X.env).map (·.2):=by rfl):PGs X (e::es) (xNq t u):=by
  intro pins s σ H vs us Q I r h
  obtain ⟨v,vr,e1,h⟩:=h
  subst e1
  cases r with
  | cons r rr=>
    rw [hs]
    refine assignInOrder_cons (thn (h1 pins s σ H _ _ _ I r h) λ _ s1 ⟨σ1,H1,I1,q1⟩=>?_)
    exact h2 pins s1 σ1 H1 _ _ Q I1 rr q1
def gTup (K:PySem.W.Frag) (n:Nat) (t:TGs):TG:=λ v σ H Q=>∃ a xs,v=.ref a/\SqT K H a xs/\xs.length=n/\t xs σ H Q
theorem aA5q {es:List Expr} {k:Nat} {t:TGs} {n:Nat} (hc:X.calm=true) (h:PGs X es t)
    (hn:(assignEach es X.env).length=n:=by rfl) (hst:(assignEach es X.env).findIdx? (·.1)=none:=by rfl):PG X (.Tuple es k pos) (gTup X.K n t):=by
  intro pins s σ H v u Q I r hw
  obtain ⟨a,xs,e1,hq,hl,hw⟩:=hw
  subst e1
  cases r
  obtain ⟨its,rv,ht,hz⟩:=I.tuple hq
  refine assign_Tuple_tuple (I.ok.hd hc) ht (by simp [hn,<- hl,rv.length]) hst λ h' hx=>?_
  have I1:Inv X pins σ H { s with heap:=h' }:=I.kept (t':=s.toks) λ b o e=>hx b o (Nat.ne_of_lt (Heap.lt_size e)) e
  exact h pins _ σ H xs _ Q I1 (by simpa using rv) hw
def gSub (to ti:TE) (t:TSet):TG:=λ v σ H Q=>to σ H λ o H1=>ti σ H1 λ i H2=>t o i v H2 λ H3=>Q σ H3
theorem xVq {o i:Expr} {to ti:TE} {t:TSet} (ho:PE X o to) (hi:PE X i ti) (hs:PSet X t)
    (ha:∀ v,assign (.Subscript o i pos) X.env v=(do
      let ov ← holding [v] (eval o X.env)
      let iv ← holding [v,ov] (eval i X.env)
      standAt pos
      holding [v,ov,iv] (setItem ov iv v)
      release [v,ov,iv] []):=by intro _;rfl):PG X (.Subscript o i pos) (gSub to ti t):=by
  intro pins s σ H v u Q I r h
  rw [ha]
  refine wpAny_bind (wpAny_holding (thn (ho pins s σ H _ I h) λ ov s1 ⟨x,H1,I1,r1,q1⟩=>?_))
  refine wpAny_bind (wpAny_holding (thn (hi pins s1 σ H1 _ I1 q1) λ iv s2 ⟨y,H2,I2,r2,q2⟩=>?_))
  refine wpAny_bind (wpAny_standAt (wpAny_bind (wpAny_holding (thn (hs pins s2 σ H2 x y v ov iv u _ I2 r1 r2 r q2) λ _ s3 ⟨H3,I3,q3⟩=>?_))))
  exact wpAny_release ⟨σ,H3,I3,q3⟩
def tAsg (te:TE) (g:TG):TS:=λ D σ H=>te σ H λ x H1=>g x σ H1 D.nx
theorem aC0q {tg e:Expr} {te:TE} {g:TG} (he:PE X e te) (hg:PG X tg g) (hs:swapsWithSole [tg] e pos.line X.env=pure false:=by rfl) (hw:swappedStores [tg] e X.env=pure none:=by rfl)
    (h1:(assignEach [tg] X.env).map (·.2)=[assign tg X.env]:=by rfl):PS X (.Assign [tg] e pos) (tAsg te g):=by
  intro pins s σ H D I h
  refine wpAny_Assign_stores (thn (he pins s σ H _ I h) λ v s1 ⟨x,H1,I1,r1,q1⟩=>?_) hs hw
  rw [h1]
  exact thn (hg pins s1 σ H1 x v _ I1 r1 q1) λ _ s2 q=>q
theorem zVq {i:Nat} {x:Str} {e:Expr} {te:TE} {pos':Pos} (hN:X.N.Nodup) (hi:X.N[i]?=some x) (hx:Loc X.env.scope x) (he:PE X e te) (hs:swapsWith e (some (.Name x pos')) pos.line X.env=pure false:=by rfl) (hf:X.fn x=true\/X.env.scope.names.lookup x=some .local:=by first | exact .inl rfl | exact .inr rfl | assumption) :
    PS X (.Assign [.Name x pos'] e pos) (tAsg te (r3q i)):=by
  intro pins s σ H D I h
  refine wpAny_Assign_Name (thn (he pins s σ H _ I h) λ v s1 ⟨y,H1,I1,r1,q1⟩=>?_) hs
  exact hSq I1 hN hi hx r1 (λ s2 I2=>⟨_,H1,I2,q1⟩) hf
end
structure It where
  go:Nat->Hp->Prop
  yld:Nat->Hp->V->Hp->Prop
  stop:Nat->Hp->Prop
def j9q (X:Cx) (pins:List (Addr × Obj)) (H:Hp) (b:Addr):Prop:=
  H b=none/\b≠X.env.locals/\b ∉ X.fs/\(b∈X.ex\/X.s₀.heap.objs.size<=b)/\(∀ x c,X.env.cells.lookup x=some c->c≠b)/\∀ p∈X.pn++pins,p.1≠b
theorem Inv.fpOk {X:Cx} {pins:List (Addr × Obj)} {σ:St} {H H':Hp} {s:Shared} {b:Addr} (I:Inv X pins σ H s) (hb:s.heap.objs.size<=b) (hn:H' b=none):j9q X pins H' b:=by
  refine ⟨hn,Nat.ne_of_gt (Nat.lt_of_lt_of_le I.lt hb),I.nofs hb,.inr (Nat.le_trans I.sz hb),λ x c e z=>?_,λ p hp z=>?_⟩
  . obtain ⟨v,q⟩:=I.cell x c e
    exact absurd (Nat.lt_of_lt_of_le q.lt (by rw [z];exact hb)) (Nat.lt_irrefl _)
  . exact absurd (Nat.lt_of_lt_of_le (Heap.lt_size (I.pin p hp).1) (by rw [z];exact hb)) (Nat.lt_irrefl _)
structure Turn (P:Program) (w:World) (K:PySem.W.Frag) (tg:Expr) (J:It) (fp:List Addr) (it:Addr) (tn:Nat->Heap->Prop):Prop where
  mem:it∈fp
  obj:∀ i h,tn i h->∀ b∈fp,∃ o,h.get? b=some o/\∀ v,o.data≠.cell v
  keep:∀ i h h',tn i h->(∀ b∈fp,∀ o,h.get? b=some o->h'.get? b=some o)->tn i h'
  item:∀ (X:Cx),X.prog=P->X.w=w->X.K=K->X.calm=true->∀ (i:Nat) (pins:List (Addr × Obj)) (s:Shared) (σ:St) (H:Hp) (E:Value->Shared->Prop),Inv X pins σ H s->(∀ b∈fp,j9q X pins H b)->tn i s.heap->J.go i H →
    wpAny (model P w) X.A (pyNext (.ref it)) (λ r s1=>∃ u,r=some u ∧
      wpAny (model P w) X.A (letOwnedTupleGo tg (.ref it) u) (λ _ s2=>∃ x H',Inv X pins σ H' s2/\RelV x u/\J.yld i H x H'/\tn (i+1) s2.heap/\∀ b∈fp,H' b=none) E s1) E s
  done:∀ (X:Cx),X.prog=P->X.w=w->X.K=K->X.calm=true->∀ (i:Nat) (pins:List (Addr × Obj)) (s:Shared) (σ:St) (H:Hp) (E:Value->Shared->Prop),Inv X pins σ H s->(∀ b∈fp,j9q X pins H b)->tn i s.heap->J.stop i H →
    wpAny (model P w) X.A (pyNext (.ref it)) (λ r s1=>r=none/\Inv X pins σ H s1) E s
  self:∀ (A:Around) (i:Nat) (s:Shared) (Q:Value->Shared->Prop) (E:Value->Shared->Prop),tn i s.heap->Q (.ref it) s->wpAny (model P w) A (pyIter (.ref it)) Q E s
abbrev TI:=St->Hp->(It->Hp->Prop)->Prop
def PIE (X:Cx) (pins:List (Addr × Obj)) (σ:St) (tg:Expr) (R:It->Hp->Prop) (itv:Value) (s2:Shared):Prop:=
  ∃ (it:Addr) (fp:List Addr) (tn:Nat->Heap->Prop) (J:It) (H':Hp),itv=.ref it/\Inv X pins σ H' s2/\Turn X.prog X.w X.K tg J fp it tn/\tn 0 s2.heap/\(∀ b∈fp,j9q X pins H' b)/\R J H'
def PI (X:Cx) (tg iter:Expr) (wi:TI):Prop:=
  ∀ (pins:List (Addr × Obj)) (s:Shared) (σ:St) (H:Hp) (R:It->Hp->Prop),Inv X pins σ H s->wi σ H R →
    wpAny (model X.prog X.w) X.A (eval iter X.env) (λ v s1=>wpAny (model X.prog X.w) X.A (pyIter v) (PIE X pins σ tg R) X.xe s1) X.xe s
theorem rKq {M:Model} {A:Around} {E:Value->Shared->Prop} {s:Shared} {tg:Expr} {it:Addr} {u:Value} {o:Obj} {n:String} {vs:Array Value} {Q:Unit->Shared->Prop} (ho:s.heap.get? it=some o) (hc:o.cls=.type n) (hd:o.data=.fields vs)
    (hn:["enumerate", "zip", "dict_itemiterator", "dict_reverseitemiterator", "odict_iterator", "itertools.zip_longest", "itertools.pairwise"].contains n=false) (hQ:Q () s):wpAny M A (letOwnedTupleGo tg (.ref it) u) Q E s:=by
  unfold letOwnedTupleGo
  cases tg<;>first
    | exact wpAny_pure hQ
    | (cases u<;>first
        | exact wpAny_pure hQ
        | (refine wpAny_bind (wpAny_load ho ?_)
           rw [hc,hd]
           show wpAny M A (if (["enumerate", "zip", "dict_itemiterator", "dict_reverseitemiterator", "odict_iterator", "itertools.zip_longest", "itertools.pairwise"].contains n&&vs[0]?==some (rawInt _))=true then _ else _) Q E s
           rw [if_neg (by intro h;rw [hn,Bool.false_and] at h;cases h)]
           exact wpAny_pure hQ))
def Itl (K:PySem.W.Frag) (a:Addr):It:=
  ⟨λ i H=>∃ xs x,SqL K H a xs/\xs[i]?=some x,λ i H x H'=>H'=H/\∀ xs,SqL K H a xs->xs[i]?=some x,λ i H=>∃ xs,SqL K H a xs/\xs.length<=i⟩
def Itt (K:PySem.W.Frag) (a:Addr):It:=
  ⟨λ i H=>∃ xs x,SqT K H a xs/\xs[i]?=some x,λ i H x H'=>H'=H/\∀ xs,SqT K H a xs->xs[i]?=some x,λ i H=>∃ xs,SqT K H a xs/\xs.length<=i⟩
def Itr (lo:Int) (n:Nat):It:=⟨λ i _=>i < n,λ i H x H'=>H'=H/\x=.int (lo+i),λ i _=>n<=i⟩
theorem q5q {P:Program} {w:World} {K:PySem.W.Frag} {tg:Expr} (a it:Addr):Turn P w K tg (Itl K a) [it] it (λ i h=>h.IsListIter it a i) where
  mem:=by simp
  obj:=λ i h st b hb=>by
    have e:b=it:=by simpa using hb
    subst e
    obtain ⟨o,e,c,d⟩:=st
    exact ⟨o,e,λ v z=>by rw [d] at z;cases z⟩
  keep:=λ i h h' st k=>st.at λ o e=>k it (by simp) o e
  item:=by
    intro X hP hw hK hc i pins s σ H E I hf st hg
    subst hP hw hK
    obtain ⟨xs,x,hq,hx⟩:=hg
    obtain ⟨its,rv,p,hz⟩:=I.list hq
    obtain ⟨u,hu,ru⟩:=rv.get hx
    obtain ⟨f0,f1,f2,f3,f4,f5⟩:=hf it (by simp)
    refine wpAny_pyNext_list_item st p.isList (x:=u) (by simpa using hu) λ h' st' sb=>?_
    have I1:Inv X pins σ H { s with heap:=h' }:=I.turned (t':=s.toks) (λ b o hb e=>(sb.2 b hb).trans e) f0 f1 f3 f4 f5
    obtain ⟨o,e,c,d⟩:=id st'
    exact ⟨u,rfl,rKq (s:={ s with heap:=h' }) e c d (by decide) ⟨x,H,I1,ru,⟨rfl,λ ys hy=>by rw [I.list_inj hy hq];exact hx⟩,st',λ b hb=>(hf b hb).1⟩⟩
  done:=by
    intro X hP hw hK hc i pins s σ H E I hf st hg
    subst hP hw hK
    obtain ⟨xs,hq,hx⟩:=hg
    obtain ⟨its,rv,p,hz⟩:=I.list hq
    obtain ⟨f0,f1,f2,f3,f4,f5⟩:=hf it (by simp)
    have hl:=rv.length
    exact wpAny_pyNext_list_end (I.ok.hd hc) st p.isList (by simp;omega) λ h' eb=>⟨rfl,I.turned (t':=s.toks) (λ b o hb e=>eb b o hb e) f0 f1 f3 f4 f5⟩
  self:=λ _ _ _ _ _ st h=>wpAny_pyIter_listiter st h
theorem mDq {P:Program} {w:World} {K:PySem.W.Frag} {tg:Expr} (a it:Addr):Turn P w K tg (Itt K a) [it] it (λ i h=>h.IsTupleIter it a i) where
  mem:=by simp
  obj:=λ i h st b hb=>by
    have e:b=it:=by simpa using hb
    subst e
    obtain ⟨o,e,c,d⟩:=st
    exact ⟨o,e,λ v z=>by rw [d] at z;cases z⟩
  keep:=λ i h h' st k=>st.at λ o e=>k it (by simp) o e
  item:=by
    intro X hP hw hK hc i pins s σ H E I hf st hg
    subst hP hw hK
    obtain ⟨xs,x,hq,hx⟩:=hg
    obtain ⟨its,rv,p,hz⟩:=I.tuple hq
    obtain ⟨u,hu,ru⟩:=rv.get hx
    obtain ⟨f0,f1,f2,f3,f4,f5⟩:=hf it (by simp)
    refine wpAny_pyNext_tuple_item st (show s.heap.IsTuple a its.toArray from p) (x:=u) (by simpa using hu) λ h' st' sb=>?_
    have I1:Inv X pins σ H { s with heap:=h' }:=I.turned (t':=s.toks) (λ b o hb e=>(sb.2 b hb).trans e) f0 f1 f3 f4 f5
    obtain ⟨o,e,c,d⟩:=id st'
    exact ⟨u,rfl,rKq (s:={ s with heap:=h' }) e c d (by decide) ⟨x,H,I1,ru,⟨rfl,λ ys hy=>by rw [I.tuple_inj hy hq];exact hx⟩,st',λ b hb=>(hf b hb).1⟩⟩
  done:=by
    intro X hP hw hK hc i pins s σ H E I hf st hg
    subst hP hw hK
    obtain ⟨xs,hq,hx⟩:=hg
    obtain ⟨its,rv,p,hz⟩:=I.tuple hq
    obtain ⟨f0,f1,f2,f3,f4,f5⟩:=hf it (by simp)
    have hl:=rv.length
    exact wpAny_pyNext_tuple_end (I.ok.hd hc) st (show s.heap.IsTuple a its.toArray from p) (by simp;omega) λ h' eb=>⟨rfl,I.turned (t':=s.toks) (λ b o hb e=>eb b o hb e) f0 f1 f3 f4 f5⟩
  self:=λ _ _ _ _ _ st h=>wpAny_pyIter_tupleiter st h
theorem m8q {P:Program} {w:World} {K:PySem.W.Frag} {tg:Expr} (it:Addr) (lo:Int) (n:Nat):Turn P w K tg (Itr lo n) [it] it (λ i h=>IsRangeIter h it (lo+(i:Nat) * 1) ((n:Int) - (i:Nat)) 1) where
  mem:=by simp
  obj:=λ i h st b hb=>by
    have e:b=it:=by simpa using hb
    subst e
    exact ⟨_,st,λ v z=>by
      have z':Data.fields _=Data.cell v:=z
      cases z'⟩
  keep:=λ i h h' st k=>k it (by simp) _ st
  item:=by
    intro X hP hw hK hc i pins s σ H E I hf st hg
    subst hP hw hK
    obtain ⟨f0,f1,f2,f3,f4,f5⟩:=hf it (by simp)
    have W:=Walks.range (prog:=X.prog) (w:=X.w) (I.ok.hd hc) it lo 1 n
    refine W.item i s _ _ hg st λ v h' tk hv st' kk=>?_
    obtain ⟨t,rfl⟩:=hv
    have I1:Inv X pins σ H { s with heap:=h',toks:=tk }:=I.turned (λ b o hb e=>kk b o (by simpa using hb) e) f0 f1 f3 f4 f5
    refine ⟨_,rfl,rKq (s:={ s with heap:=h',toks:=tk }) (n:="range_iterator") st' rfl rfl (by decide) ⟨.int (lo+i),H,I1,⟨t,?_⟩,⟨rfl,rfl⟩,st',λ b hb=>(hf b hb).1⟩⟩
    rw [Int.mul_one]
  done:=by
    intro X hP hw hK hc i pins s σ H E I hf st hg
    subst hP hw hK
    obtain ⟨f0,f1,f2,f3,f4,f5⟩:=hf it (by simp)
    exact wpAny_pyNext_range_end (I.ok.hd hc) st (by have:n<=i:=hg;omega) λ h' eb=>⟨rfl,I.turned (t':=s.toks) (λ b o hb e=>eb b o hb e) f0 f1 f3 f4 f5⟩
  self:=λ _ _ _ _ _ st h=>wpAny_pyIter_rangeiter st h
section
variable {X:Cx} {tg:Expr}
theorem qGq {pins:List (Addr × Obj)} {σ:St} {H:Hp} {s:Shared} {R:It->Hp->Prop} {E:Value->Shared->Prop} {lo hi:Int} {t u v:Tok} {tk:Nat} (I:Inv X pins σ H s) (h1:-(2 ^ 62)<=lo) (h2:lo < 2 ^ 62) (h3:-(2 ^ 62)<=hi) (h4:hi < 2 ^ 62)
    (q:R (Itr lo (hi - lo).toNat) H):wpAny (model X.prog X.w) X.A (pyIter (.ref s.heap.objs.size)) (PIE X pins σ tg R) E { s with heap:=s.heap.push { cls:=.type "range", data:=.fields #[.int lo t,.int hi u,.int 1 v] },toks:=tk }:=by
  refine wpAny_pyIter_range (IsRange.new ..) (small_one h1 h2 h3 h4) ?_
  have I1:Inv X pins σ H { s with heap:=s.heap.push { cls:=.type "range", data:=.fields #[.int lo t,.int hi u,.int 1 v] },toks:=tk }:=I.kept λ b o e=>Heap.get?_push_of_some _ e
  refine ⟨(s.heap.push { cls:=.type "range", data:=.fields #[.int lo t,.int hi u,.int 1 v] }).objs.size,[(s.heap.push { cls:=.type "range", data:=.fields #[.int lo t,.int hi u,.int 1 v] }).objs.size],_,_,H,rfl,
    I1.kept (t':=tk) λ b o e=>Heap.get?_push_of_some _ e,m8q _ lo (hi - lo).toNat,?_,λ b hb=>?_,q⟩
  . have e1:lo+((0:Nat):Int) * 1=lo:=by simp
    have e2:(((hi - lo).toNat:Nat):Int) - ((0:Nat):Int)=Builtin.Range.rangeSize lo hi 1:=by rw [rangeSize_one];split<;>omega
    show IsRangeIter _ _ (lo+((0:Nat):Int) * 1) ((((hi - lo).toNat:Nat):Int) - ((0:Nat):Int)) 1
    rw [e1,e2]
    exact Heap.get?_push_size _ rfl
  . have e:b=(s.heap.push { cls:=.type "range", data:=.fields #[.int lo t,.int hi u,.int 1 v] }).objs.size:=by simpa using hb
    subst e
    exact I1.fpOk (Nat.le_refl _) (I1.hok.fresh (Nat.le_refl _))
def zGq (ta:TA):TI:=λ σ H R=>ta σ H λ vs H1=>∃ j:Int,vs=[.int j]/\-(2 ^ 62)<=j/\j < 2 ^ 62/\R (Itr 0 j.toNat) H1
theorem nAq {a:Expr} {ta:TA} {p pos:Pos} (hg:Gl X "range") (hm:X.mg "range" = none) (ha:PA X [a] ta) (hs:starEach [a] X.env=[(false,eval a X.env)]:=by rfl):PI X tg (.Call (.Name "range" p) [a] [] pos) (zGq ta):=by
  intro pins s σ H R I h
  refine Call_ (eZq I hg hm boot_range (PyProof.Rows.callWith_type1 (thn (ha pos pins s σ H _ I h) λ us s1 ⟨vs,H1,I1,r1,q1⟩=>?_) hs rfl))
  obtain ⟨j,e,q1,q2,q⟩:=q1
  subst e
  cases r1 with
  | cons r rr=>
    cases rr
    obtain ⟨t,rfl⟩:=r
    exact call_range_1 (qGq I1 (by omega) (by omega) q1 q2 (by simpa using q))
def tFor (wi:TI) (g:TG) (tb:TS):TS:=λ D σ H=>wi σ H λ J H1=>∃ W:Nat->Nat->St->Hp->Prop,(∃ m,W 0 m σ H1)/\∀ i m σ H,W i m σ H →
  (J.stop i H/\D.nx σ H)\/(J.go i H/\∃ N:St->Hp->Prop,(∀ σ' H',N σ' H'->∃ m',m' < m/\W (i+1) m' σ' H')/\∀ x H',J.yld i H x H'->g x σ H' λ σ2 H2=>tb { D with nx:=N,ct:=N,bk:=D.nx } σ2 H2)
def kPq (fp:List Addr) (h:Heap):List (Addr × Obj):=fp.filterMap λ b=>(h.get? b).map λ o=>(b,o)
theorem bAq {fp:List Addr} {h:Heap} {b:Addr} {o:Obj} (hb:b∈fp) (e:h.get? b=some o):(b,o)∈kPq fp h:=List.mem_filterMap.mpr ⟨b,hb,by rw [e];rfl⟩
theorem n8q {fp:List Addr} {h:Heap} {p:Addr × Obj} (hp:p∈kPq fp h):p.1∈fp/\h.get? p.1=some p.2:=by
  obtain ⟨b,hb,e⟩:=List.mem_filterMap.mp hp
  cases q:h.get? b with
  | none=>rw [q] at e;cases e
  | some o=>
    rw [q] at e
    have e':(b,o)=p:=Option.some.inj e
    subst e'
    exact ⟨hb,q⟩
theorem Inv.pinned {pins:List (Addr × Obj)} {σ:St} {H:Hp} {s:Shared} {fp:List Addr} (I:Inv X pins σ H s) (hf:∀ b∈fp,j9q X pins H b) (ho:∀ b∈fp,∃ o,s.heap.get? b=some o/\∀ v,o.data≠.cell v):Inv X (pins++kPq fp s.heap) σ H s:=
  I.pins_of λ p hp=>(List.mem_append.mp hp).elim (λ z=>I.pin p (List.mem_append_right _ z)) λ z=>by
    obtain ⟨hb,e⟩:=n8q z
    obtain ⟨f0,f1,f2,_⟩:=hf p.1 hb
    obtain ⟨o,e',d⟩:=ho p.1 hb
    rw [e] at e';cases e'
    exact ⟨e,f0,f1,f2,d⟩
theorem Inv.unpinned {pins pl:List (Addr × Obj)} {σ:St} {H:Hp} {s:Shared} (I:Inv X (pins++pl) σ H s):Inv X pins σ H s:=I.pins_of λ p hp=>I.pin p (List.mem_append_right _ (List.mem_append_left _ hp))
theorem y1q {iter:Expr} {body:List Stmt} {wi:TI} {g:TG} {tb:TS} {pos:Pos} (hp:PassesOwn (model X.prog X.w) X.A X.env X.xe) (hc:X.calm=true) (hi:PI X tg iter wi) (hg:PG X tg g) (hb:PSs X body tb)
    (hs:∀ x,foldedSetIterable iter X.env x=pure x:=by intro _;rfl):PS X (.For tg iter body [] pos) (tFor wi g tb):=by
  intro pins s σ H D I h
  refine wpAny_For (thn (hi pins s σ H _ I h) λ v s1 h1=>thn h1 λ itv s2 h2=>?_) hs
  obtain ⟨it,fp,tn,J,H2,e,I2,T,st2,f2,W,⟨m0,w0⟩,turn⟩:=h2
  subst e
  have stat:∀ {H':Hp},(∀ b∈fp,H' b=none)->∀ b∈fp,j9q X pins H' b:=λ hn b hb=>⟨hn b hb,(f2 b hb).2⟩
  refine codeAny_forLoop_any (λ n s'=>∃ i σ' H',Inv X pins σ' H' s'/\tn i s'.heap/\(∀ b∈fp,H' b=none)/\W i n σ' H') ?_ m0 ⟨0,σ,H2,I2,st2,λ b hb=>(f2 b hb).1,w0⟩
  rintro n s3 ⟨i,σ3,H3,I3,st3,fr3,w3⟩
  rcases turn i n σ3 H3 w3 with ⟨stop,qn⟩ | ⟨go,N,hN,step⟩
  . refine wpAny_passesOwn hp (thn (T.done X rfl rfl rfl hc i pins s3 σ3 H3 X.xe I3 (stat fr3) st3 stop) λ r s4 ⟨hr,I4⟩=>?_)
    subst hr
    exact wpAny_execs_nil ⟨σ3,H3,I4,qn⟩
  . refine wpAny_passesOwn hp (thn (T.item X rfl rfl rfl hc i pins s3 σ3 H3 X.xe I3 (stat fr3) st3 go) λ r s4 ⟨u,hr,h4⟩=>?_)
    subst hr
    refine wpAny_passesOwn hp (thn h4 λ _ s5 ⟨x,H5,I5,r5,y5,st5,fr5⟩=>?_)
    have I5':=I5.pinned (stat fr5) (T.obj _ _ st5)
    refine wpAny_passesOwn hp (thn (hg _ s5 σ3 H5 x u _ I5' r5 (step x H5 y5)) λ _ s6 ⟨σ6,H6,I6,q6⟩=>?_)
    refine wpAny_passesOwn hp (thn (hb _ s6 σ6 H6 _ I6 q6) λ f s7 q7=>?_)
    have again:∀ {σ7:St} {H7:Hp},Inv X (pins++kPq fp s5.heap) σ7 H7 s7->N σ7 H7->∃ m,m < n/\∃ i σ' H',Inv X pins σ' H' s7/\tn i s7.heap/\(∀ b∈fp,H' b=none)/\W i m σ' H':=λ{σ7 H7} I7 n7=>by
      obtain ⟨m',hm,w7⟩:=hN σ7 H7 n7
      refine ⟨m',hm,i+1,σ7,H7,I7.unpinned,T.keep _ _ _ st5 λ b hb o e=>(I7.pin (b,o) (List.mem_append_right _ (List.mem_append_right _ (bAq hb e)))).1,λ b hb=>?_,w7⟩
      obtain ⟨o,e,d⟩:=T.obj _ _ st5 b hb
      exact (I7.pin (b,o) (List.mem_append_right _ (List.mem_append_right _ (bAq hb e)))).2.1
    cases f with
    | next=>obtain ⟨σ7,H7,I7,n7⟩:=q7;exact again I7 n7
    | cont=>obtain ⟨σ7,H7,I7,n7⟩:=q7;exact again I7 n7
    | brk=>obtain ⟨σ7,H7,I7,q7⟩:=q7;exact ⟨σ7,H7,I7.unpinned,q7⟩
    | ret v=>obtain ⟨x7,σ7,H7,I7,r7,q7⟩:=q7;exact ⟨x7,σ7,H7,I7.unpinned,r7,q7⟩
end
abbrev R2:=V->V->Hp->VK->Prop
def OpR (X:Cx) (f:Value->Value->Sem Value) (r:R2):Prop:=
  ∀ (pins:List (Addr × Obj)) (s:Shared) (σ:St) (H:Hp) (x y:V) (v u:Value) (Q:VK),Inv X pins σ H s->RelV x v->RelV y u->r x y H Q →
    wpAny (model X.prog X.w) X.A (f v u) (EP X pins σ Q) X.xe s
def UnR (X:Cx) (f:Value->Sem Value) (r:V->Hp->VK->Prop):Prop:=
  ∀ (pins:List (Addr × Obj)) (s:Shared) (σ:St) (H:Hp) (x:V) (v:Value) (Q:VK),Inv X pins σ H s->RelV x v->r x H Q →
    wpAny (model X.prog X.w) X.A (f v) (EP X pins σ Q) X.xe s
def CallR (X:Cx) (f:Value) (r:List V->Hp->VK->Prop):Prop:=
  ∀ (pins:List (Addr × Obj)) (s:Shared) (σ:St) (H:Hp) (xs:List V) (us:List Value) (Q:VK),Inv X pins σ H s->Vals xs us->r xs H Q →
    wpAny (model X.prog X.w) X.A (call f us) (EP X pins σ Q) X.xe s
def TruR (X:Cx) (r:V->Hp->(Bool->Hp->Prop)->Prop):Prop:=
  ∀ (pins:List (Addr × Obj)) (s:Shared) (σ:St) (H:Hp) (x:V) (v:Value) (Q:Bool->Hp->Prop),Inv X pins σ H s->RelV x v->r x H Q →
    wpAny (model X.prog X.w) X.A (truthy v) (TP X pins σ Q) X.xe s
def tOp (r:R2) (ta tb:TE):TE:=λ σ H Q=>ta σ H λ x H1=>tb σ H1 λ y H2=>r x y H2 Q
def tUn (r:V->Hp->VK->Prop) (ta:TE):TE:=λ σ H Q=>ta σ H λ x H1=>r x H1 Q
def rI (C:Int->Int->Prop) (g:Int->Int->V):R2:=λ x y H Q=>∃ i j,x=.int i/\y=.int j/\C i j/\Q (g i j) H
def rI0 (g:Int->Int->V):R2:=λ x y H Q=>∃ i j,x=.int i/\y=.int j/\Q (g i j) H
def rU (g:Int->V):V->Hp->VK->Prop:=λ x H Q=>∃ i,x=.int i/\Q (g i) H
section
variable {X:Cx} {a b c:Expr} {ta tb tc:TE} {pos:Pos}
theorem binT (ha:PE X a ta) (hb:PE X b tb) {pins:List (Addr × Obj)} {s:Shared} {σ:St} {H:Hp} {R:V->V->Hp->Prop} (I:Inv X pins σ H s)
    (h:ta σ H λ x H1=>tb σ H1 λ y H2=>R x y H2) {Q:Value->Shared->Prop} {f:Value->Value->Sem Value}
    (hf:∀ v u s2 x y H2,Inv X pins σ H2 s2->RelV x v->RelV y u->R x y H2->wpAny (model X.prog X.w) X.A (f v u) Q X.xe s2) :
    wpAny (model X.prog X.w) X.A (eval a X.env) (λ v s₁=>wpAny (model X.prog X.w) X.A (eval b X.env) (λ u s₂=>wpAny (model X.prog X.w) X.A (f v u) Q X.xe s₂) X.xe s₁) X.xe s:=by
  refine thn (ha pins s σ H _ I h) λ v s1 ⟨x,H1,I1,r1,q1⟩=>?_
  refine thn (hb pins s1 σ H1 _ I1 q1) λ u s2 ⟨y,H2,I2,r2,q2⟩=>?_
  exact hf v u s2 x y H2 I2 r1 r2 q2
theorem aG6q {op:Operator} {r:R2} (ho:OpR X (binaryOp op) r) (ha:PE X a ta) (hb:PE X b tb):PE X (.BinOp a op b pos) (tOp r ta tb):=by
  intro pins s σ H Q I h
  exact wpAny_BinOp (binT ha hb I h λ v u s2 x y H2 I2 rx ry q=>ho pins s2 σ H2 x y v u Q I2 rx ry q)
theorem aJ6q {op:UnaryOp} {r:V->Hp->VK->Prop} (ho:UnR X (unaryOp op) r) (ha:PE X a ta):PE X (.UnaryOp op a pos) (tUn r ta):=by
  intro pins s σ H Q I h
  exact UnaryOp_ (thn (ha pins s σ H _ I h) λ v s1 ⟨x,H1,I1,r1,q1⟩=>ho pins s1 σ H1 x v Q I1 r1 q1)
theorem opI {f:Value->Value->Sem Value} {C:Int->Int->Prop} {g:Int->Int->Int}
    (rule:∀ (i j:Int) (t u:Tok) (s:Shared) (Q:Value->Shared->Prop) (E:Value->Shared->Prop),C i j->Q (.int (g i j) s.toks) { s with toks:=s.toks+1 }->wpAny (model X.prog X.w) X.A (f (.int i t) (.int j u)) Q E s) :
    OpR X f (rI C λ i j=>.int (g i j)):=by
  intro pins s σ H x y v u Q I rx ry h
  obtain ⟨i,j,rfl,rfl,hc,q⟩:=h
  obtain ⟨t,rfl⟩:=rx
  obtain ⟨t',rfl⟩:=ry
  exact rule i j t t' s _ _ hc ⟨.int (g i j),H,I.tok _,⟨_,rfl⟩,q⟩
theorem opI0 {f:Value->Value->Sem Value} {g:Int->Int->Int}
    (rule:∀ (i j:Int) (t u:Tok) (s:Shared) (Q:Value->Shared->Prop) (E:Value->Shared->Prop),Q (.int (g i j) s.toks) { s with toks:=s.toks+1 }->wpAny (model X.prog X.w) X.A (f (.int i t) (.int j u)) Q E s) :
    OpR X f (rI0 λ i j=>.int (g i j)):=by
  intro pins s σ H x y v u Q I rx ry h
  obtain ⟨i,j,rfl,rfl,q⟩:=h
  obtain ⟨t,rfl⟩:=rx
  obtain ⟨t',rfl⟩:=ry
  exact rule i j t t' s _ _ ⟨.int (g i j),H,I.tok _,⟨_,rfl⟩,q⟩
theorem opB0 {f:Value->Value->Sem Value} {g:Int->Int->Bool}
    (rule:∀ (i j:Int) (t u:Tok) (s:Shared) (Q:Value->Shared->Prop) (E:Value->Shared->Prop),Q (.bool (g i j)) s->wpAny (model X.prog X.w) X.A (f (.int i t) (.int j u)) Q E s) :
    OpR X f (rI0 λ i j=>.bl (g i j)):=by
  intro pins s σ H x y v u Q I rx ry h
  obtain ⟨i,j,rfl,rfl,q⟩:=h
  obtain ⟨t,rfl⟩:=rx
  obtain ⟨t',rfl⟩:=ry
  exact rule i j t t' s _ _ ⟨.bl (g i j),H,I,rfl,q⟩
def CPow (i j:Int):Prop:=0<=j/\j<=1000000/\i.natAbs < 2 ^ 64
def CMul (i j:Int):Prop:=(-(2 ^ 64) < i/\i < 2 ^ 64)\/(-(2 ^ 64) < j/\j < 2 ^ 64)
theorem CMul.ok {i j:Int} (h:CMul i j):IntMulOk i j:=by
  rcases h with ⟨h1,h2⟩ | ⟨h1,h2⟩
  . exact .of_left (intBits_le_64 h1 h2)
  . exact .of_right (intBits_le_64 h1 h2)
theorem op_add:OpR X (binaryOp .Add) (rI0 λ i j=>.int (i+j)):=opI0 λ _ _ _ _ _ _ _ q=>add_int q
theorem z4q:OpR X (binaryOp .Sub) (rI0 λ i j=>.int (i - j)):=opI0 λ _ _ _ _ _ _ _ q=>sub_int q
theorem xXq:OpR X (binaryOp .Mult) (rI CMul λ i j=>.int (i * j)):=opI λ _ _ _ _ _ _ _ hc q=>mul_int q hc.ok
theorem zKq:OpR X (binaryOp .Mod) (rI (λ _ j=>0 < j) λ i j=>.int (i % j)):=opI λ i j _ _ _ _ _ hc q=>by
  have h1:(0:Int) < j:=hc
  exact mod_int' (by omega) (by rw [Int.fmod_eq_emod_of_nonneg i (by omega)];exact q)
theorem zOq:OpR X (binaryOp .Pow) (rI CPow λ i j=>.int (i ^ j.toNat)):=opI λ _ _ _ _ _ _ _ hc q=>pow_int_small hc.1 hc.2.1 hc.2.2 q
theorem unI {f:Value->Sem Value} {g:Int->Int}
    (rule:∀ (i:Int) (t:Tok) (s:Shared) (Q:Value->Shared->Prop) (E:Value->Shared->Prop),Q (.int (g i) s.toks) { s with toks:=s.toks+1 }->wpAny (model X.prog X.w) X.A (f (.int i t)) Q E s) :
    UnR X f (rU λ i=>.int (g i)):=by
  intro pins s σ H x v Q I rx h
  obtain ⟨i,rfl,q⟩:=h
  obtain ⟨t,rfl⟩:=rx
  exact rule i t s _ _ ⟨.int (g i),H,I.tok _,⟨_,rfl⟩,q⟩
theorem yFq:UnR X (unaryOp .USub) (rU λ i=>.int (-i)):=unI λ _ _ _ _ _ q=>neg_int q
end
section
variable {X:Cx} {a b c:Expr} {ta tb tc:TE} {pos:Pos}
theorem mXq {pins:List (Addr × Obj)} {σ:St} {H:Hp} {s:Shared} {Q:VK} {k k':Bool} (I:Inv X pins σ H s) (q:Q (.bl k) H) (e:k=k'):EP X pins σ Q (.bool k') s:=by
  subst e
  exact ⟨.bl k,H,I,rfl,q⟩
theorem aK2q:OpR X (compareOp .Lt) (rI0 λ i j=>.bl (decide (i < j))):=opB0 λ _ _ _ _ _ _ _ q=>lt_int q
theorem aN1q:OpR X (compareOp .LtE) (rI0 λ i j=>.bl (decide (i<=j))):=opB0 λ _ _ _ _ _ _ _ q=>le_int q
theorem aM6q:OpR X (compareOp .Gt) (rI0 λ i j=>.bl (decide (j < i))):=opB0 λ _ _ _ _ _ _ _ q=>gt_int q
theorem aI7q:OpR X (compareOp .GtE) (rI0 λ i j=>.bl (decide (j<=i))):=opB0 λ _ _ _ _ _ _ _ q=>ge_int q
theorem oNq:OpR X (compareOp .In) (λ x y H Q=>∃ i j,x=.str i/\y=.str j/\Q (.bl (!(Builtin.Str.occurrences j i 0 j.length 1).isEmpty)) H):=by
  intro pins s σ H x y v u Q I rx ry h
  obtain ⟨i,j,rfl,rfl,q⟩:=h
  obtain ⟨t,rfl⟩:=rx
  obtain ⟨t',rfl⟩:=ry
  exact in_str (mXq I q rfl)
theorem zMq:OpR X (compareOp .Is) (λ x y H Q=>y=.non/\Q (.bl (decide (x=.non))) H):=by
  intro pins s σ H x y v u Q I rx ry h
  obtain ⟨rfl,q⟩:=h
  cases ry
  refine is_none_gen (mXq I q ?_)
  cases x<;>first
    | (cases rx;rfl)
    | (obtain ⟨t,rfl⟩:=rx;rfl)
theorem vUq:OpR X (compareOp .IsNot) (λ x y H Q=>y=.non/\Q (.bl (!decide (x=.non))) H):=by
  intro pins s σ H x y v u Q I rx ry h
  obtain ⟨rfl,q⟩:=h
  cases ry
  refine isnot_none_gen (mXq I q ?_)
  cases x<;>first
    | (cases rx;rfl)
    | (obtain ⟨t,rfl⟩:=rx;rfl)
theorem OpR.or {f:Value->Value->Sem Value} {r r':R2} (h:OpR X f r) (h':OpR X f r'):OpR X f (λ x y H Q=>r x y H Q\/r' x y H Q):=by
  intro pins s σ H x y v u Q I rx ry q
  rcases q with q | q
  . exact h pins s σ H x y v u Q I rx ry q
  . exact h' pins s σ H x y v u Q I rx ry q
theorem aGq (b:Expr) {op:CmpOp} (h:op≠.In:=by decide) (h2:op≠.NotIn:=by decide):behindInMarks op b=false:=by
  have e1:(op==CmpOp.In)=false:=by cases op<;>first | rfl | exact absurd rfl h
  have e2:(op==CmpOp.NotIn)=false:=by cases op<;>first | rfl | exact absurd rfl h2
  cases b<;>simp [behindInMarks,e1,e2]
theorem vIq {op:CmpOp} {r:R2} (ho:OpR X (compareOp op) r) (ha:PE X a ta) (hb:PE X b tb) (hm:behindInMarks op b=false):PE X (.Compare a [op] [b] pos) (tOp r ta tb):=by
  intro pins s σ H Q I h
  exact wpAny_Compare1 (binT ha hb I h λ v u s2 x y H2 I2 rx ry q=>ho pins s2 σ H2 x y v u Q I2 rx ry q) hm
def v7q (t:TE):TT:=λ σ H Q=>t σ H λ x H'=>∃ k,x=.bl k/\Q k H'
theorem x4q {op:CmpOp} {r:R2} (ho:OpR X (compareOp op) r) (ha:PE X a ta) (hb:PE X b tb) (hm:behindInMarks op b=false):PT X (.Compare a [op] [b] pos) (v7q (tOp r ta tb)):=by
  intro pins s σ H Q I h
  refine wpAny_isTrue_Compare1 (thn (ha pins s σ H _ I h) λ v s1 ⟨x,H1,I1,r1,q1⟩=>thn (hb pins s1 σ H1 _ I1 q1) λ u s2 ⟨y,H2,I2,r2,q2⟩=>
    thn (ho pins s2 σ H2 x y v u _ I2 r1 r2 q2) λ c s3 ⟨z,H3,I3,r3,k,e,q3⟩=>?_) hm
  subst e
  cases r3
  exact wpAny_truthy_bool ⟨H3,I3,q3⟩
def t0q (r r':R2) (ta tb tc:TE):TE:=λ σ H Q=>ta σ H λ x H1=>tb σ H1 λ y H2=>r x y H2 λ z H3=>∃ k,z=.bl k ∧
  (if k=true then tc σ H3 λ w' H4=>r' y w' H4 Q else Q (.bl false) H3)
theorem sPq {op op':CmpOp} {r r':R2} (ho:OpR X (compareOp op) r) (ho':OpR X (compareOp op') r') (ha:PE X a ta) (hb:PE X b tb) (hc:PE X c tc)
    (hm:lastMarks [op,op'] [b,c]=false:=by with_unfolding_all rfl):PE X (.Compare a [op,op'] [b,c] pos) (t0q r r' ta tb tc):=by
  intro pins s σ H Q I h
  refine Compare_chain (thn (ha pins s σ H _ I h) λ v s1 ⟨x,H1,I1,r1,q1⟩=>chain_link (thn (hb pins s1 σ H1 _ I1 q1) λ u s2 ⟨y,H2,I2,r2,q2⟩=>
    thn (ho pins s2 σ H2 x y v u _ I2 r1 r2 q2) λ d s3 ⟨z,H3,I3,r3,k,e,q3⟩=>?_)) hm
  subst e
  cases r3
  refine wpAny_truthy_bool ?_
  cases k with
  | false=>exact ite_ff ⟨.bl false,H3,I3,rfl,q3⟩
  | true=>exact ite_tt (chain_last (thn (hc pins s3 σ H3 _ I3 q3) λ w' s4 ⟨z',H4,I4,r4,q4⟩=>ho' pins s4 σ H4 y z' u w' Q I4 r2 r4 q4))
theorem qOq {op op':CmpOp} {r r':R2} (ho:OpR X (compareOp op) r) (ho':OpR X (compareOp op') r') (ha:PE X a ta) (hb:PE X b tb) (hc:PE X c tc)
    (hm:lastMarks [op,op'] [b,c]=false:=by with_unfolding_all rfl):PT X (.Compare a [op,op'] [b,c] pos) (v7q (t0q r r' ta tb tc)):=by
  intro pins s σ H Q I h
  refine isTrue_chain (thn (ha pins s σ H _ I h) λ v s1 ⟨x,H1,I1,r1,q1⟩=>test_link (thn (hb pins s1 σ H1 _ I1 q1) λ u s2 ⟨y,H2,I2,r2,q2⟩=>
    thn (ho pins s2 σ H2 x y v u _ I2 r1 r2 q2) λ d s3 ⟨z,H3,I3,r3,k,e,q3⟩=>?_)) hm
  subst e
  cases r3
  refine wpAny_truthy_bool ?_
  cases k with
  | false=>
    obtain ⟨k',e',q'⟩:=q3
    cases e'
    exact ite_ff ⟨H3,I3,q'⟩
  | true=>
    refine ite_tt (test_last (thn (hc pins s3 σ H3 _ I3 q3) λ w' s4 ⟨z',H4,I4,r4,q4⟩=>thn (ho' pins s4 σ H4 y z' u w' _ I4 r2 r4 q4) λ d' s5 ⟨z2,H5,I5,r5,k2,e2,q5⟩=>?_))
    subst e2
    cases r5
    exact wpAny_truthy_bool ⟨H5,I5,q5⟩
def TruV (K:PySem.W.Frag) (x:V) (H:Hp) (k:Bool):Prop:=
  match x with
  | .non=>k=false
  | .bl b=>k=b
  | .int i=>k=(i !=0)
  | .str y=>y.length<=sizeLine/\k=((y.length:Int) !=0)
  | .byt y=>y.size<=sizeLine/\k=((y.size:Int) !=0)
  | .ref p=>(∃ xs,SqL K H p xs/\k=!xs.isEmpty)\/(∃ xs,SqT K H p xs/\k=!xs.isEmpty)\/∃ kvs,H p=some (.dK kvs)/\k=!kvs.isEmpty
  | _=>False
theorem m3q {κ:Type} {kvs:List (κ × V)} {vs:List (κ × Value)} (r:KV kvs vs):(!vs.isEmpty)=!kvs.isEmpty:=by
  cases r<;>rfl
theorem g6q {xs:List V} {its:List Value} (r:Vals xs its):(!its.toArray.isEmpty)=!xs.isEmpty:=by
  cases r<;>simp
theorem eAq:(sizeLine:Nat) < 2 ^ 63:=by rw [sizeLine_eq];decide
theorem zHq:TruR X (λ x H Q=>∃ k,TruV X.K x H k/\Q k H):=by
  intro pins s σ H x v Q I rx h
  obtain ⟨k,e,q⟩:=h
  have hl:=eAq
  have hs:sizeLine=16777216:=sizeLine_eq
  cases x with
  | non=>
    cases rx
    have e':k=false:=e
    subst e'
    exact truthy_none ⟨H,I,q⟩
  | bl b=>
    cases rx
    have e':k=b:=e
    subst e'
    exact wpAny_truthy_bool ⟨H,I,q⟩
  | int i=>
    obtain ⟨t,rfl⟩:=rx
    have e':k=(i !=0):=e
    subst e'
    exact PySem.P.truthy_int ⟨H,I,q⟩
  | str y=>
    obtain ⟨t,rfl⟩:=rx
    obtain ⟨hy,e'⟩:y.length<=sizeLine/\k=((y.length:Int) !=0):=e
    subst e'
    exact PySem.P.truthy_str (by omega) ⟨H,I.tok _,q⟩
  | byt y=>
    obtain ⟨t,rfl⟩:=rx
    obtain ⟨hy,e'⟩:y.size<=sizeLine/\k=((y.size:Int) !=0):=e
    subst e'
    exact PySem.W.truthy_bytes (by omega) ⟨H,I.tok _,q⟩
  | ref p=>
    cases rx
    have e':(∃ xs,SqL X.K H p xs/\k=!xs.isEmpty)\/(∃ xs,SqT X.K H p xs/\k=!xs.isEmpty)\/∃ kvs,H p=some (.dK kvs)/\k=!kvs.isEmpty:=e
    rcases e' with ⟨xs,hx,e'⟩ | ⟨xs,hx,e'⟩ | ⟨kvs,hx,e'⟩
    . subst e'
      obtain ⟨its,r,pl,hz⟩:=I.list hx
      have hlen:=r.length
      exact wpAny_truthy_list pl.isList (by simp only [List.size_toArray];omega) ⟨H,I.tok _,by rw [g6q r];exact q⟩
    . subst e'
      obtain ⟨its,r,pl,hz⟩:=I.tuple hx
      have hlen:=r.length
      exact truthy_tuple pl (by simp only [List.size_toArray];omega) ⟨H,I.tok _,by rw [g6q r];exact q⟩
    . subst e'
      obtain ⟨hz,hS,vs,r,m⟩:kvs.length<=sizeLine/\(p==sysModules)=false/\∃ vs,KV kvs vs/\s.heap.DictOf (b3q X.prog X.w) p vs:=I.hok p _ hx
      have hlen:kvs.length=vs.length:=Paired.length r
      exact wpAny_truthy_dict hS m (by omega) ⟨H,I.tok _,by rw [m3q r];exact q⟩
  | _=>exact (show False from e).elim
theorem s1q (ha:PE X a ta) (he:∀ whole,isTrue a X.env whole=(do let v ← whole;standAt a.pos;holding [v] (truthy v))) :
    PT X a (λ σ H Q=>ta σ H λ x H'=>∃ k,TruV X.K x H' k/\Q k H'):=by
  intro pins s σ H Q I h
  exact isTrue_plain (thn (ha pins s σ H _ I h) λ v s1 ⟨x,H1,I1,r1,q1⟩=>zHq pins s1 σ H1 x v Q I1 r1 q1) (he _)
theorem op_add_str:OpR X (binaryOp .Add) (λ x y H Q=>∃ i j,x=.str i/\y=.str j/\i.length+j.length<=sizeLine/\Q (.str (i++j)) H):=by
  intro pins s σ H x y v u Q I rx ry h
  obtain ⟨i,j,rfl,rfl,hz,q⟩:=h
  obtain ⟨t,rfl⟩:=rx
  obtain ⟨t',rfl⟩:=ry
  exact add_str (λ t' tk=>⟨.str (i++j),H,I.tok _,⟨_,rfl⟩,q⟩) hz
theorem jQq {x:V} {us:List Value} (r:Vals [x] us):∃ u,us=[u]/\RelV x u:=by
  cases r with
  | cons r1 r2=>cases r2;exact ⟨_,rfl,r1⟩
theorem p3q:CallR X (.type "int") (λ xs H Q=>(∃ i,xs=[.int i]/\Q (.int i) H)\/∃ k,xs=[.bl k]/\Q (.int (if k then 1 else 0)) H):=by
  intro pins s σ H xs us Q I r h
  rcases h with ⟨i,rfl,q⟩ | ⟨k,rfl,q⟩
  . obtain ⟨u,rfl,t,rfl⟩:=jQq r
    exact call_int_int ⟨.int i,H,I,⟨_,rfl⟩,q⟩
  . obtain ⟨u,rfl,r1⟩:=jQq r
    cases r1
    exact call_int_bool ⟨.int (if k then 1 else 0),H,I.tok _,⟨_,rfl⟩,q⟩
theorem iAq:CallR X (.type "str") (λ xs H Q=>∃ i,xs=[.int i]/\i.natAbs.log2 < 1920/\Q (.str (toString i)) H):=by
  intro pins s σ H xs us Q I r h
  obtain ⟨i,rfl,hz,q⟩:=h
  obtain ⟨u,rfl,t,rfl⟩:=jQq r
  exact PySem.P.str_of_int hz ⟨.str _,H,I.tok _,⟨_,rfl⟩,q⟩
end
structure ObjM (h:Heap) (x dx C:Addr) (mA:Str->Option Value):Prop where
  obj:h.get? x=some (PySem.W.instObj C dx)
  ns:h.Ns1 dx mA
  ne:dx≠x
theorem j4q {h:Heap} {dx:Addr} {mA:Str->Option Value} (n:h.Ns1 dx mA):∃ od,h.get? dx=some od/\∀ name,PySem.W.lookIn name od=some (mA name):=by
  obtain ⟨o,es,ep,ho,hd,hk,_,hm⟩:=n
  refine ⟨o,ho,λ name=>?_⟩
  have e:=hm name
  unfold nsFind findBy at e
  rw [<- Array.find?_toList] at e
  unfold PySem.W.lookIn
  rw [hd]
  dsimp only
  split
  . rename_i y q
    rw [q] at e
    exact congrArg some e
  . rename_i q
    rw [q] at e
    have a:es.toList.any (·.refKey)=false:=by
      rw [List.any_eq_false]
      intro y hy
      obtain ⟨z,t,hkey⟩:=hk y (Array.mem_toList_iff.mp hy)
      simp [DictEntry.refKey,hkey]
    have a':¬ es.toList.any (·.refKey)=true:=by rw [a];exact Bool.false_ne_true
    rw [if_neg a']
    exact congrArg some e
theorem ObjM.look {h:Heap} {x dx C:Addr} {mA:Str->Option Value} (I:ObjM h x dx C mA):∃ od,PySem.W.InstAt h x (PySem.W.instObj C dx) C (some od)/\∀ name,PySem.W.lookIn name od=some (mA name):=
  let ⟨od,ho,hl⟩:=j4q I.ns
  ⟨od,⟨I.obj,rfl,rfl,ho⟩,hl⟩
section
variable {prog:Program} {w:World} {A:Around} {E:Value->Shared->Prop} {s:Shared} {K:PySem.W.Frag} {x dx C f:Addr} {mA:Str->Option Value} {name:Str} {v:Value}
theorem w9q {expr:Bool} {Q:Value->Shared->Prop} (X:K.In s.heap) (I:ObjM s.heap x dx C mA) (hg:PySem.W.plainGet K C name=true) (hh:PySem.W.hasDictIn K C=true)
 (ha:PySem.W.findIn K (.ref C) name=some none) (hv:mA name=some v) (hv':PySem.W.handedIn v=true) (h:Q v { s with toks:=s.toks+1 }) :
    wpAny (model prog w) A (getAttr (.ref x) name expr) Q E s:=by
  obtain ⟨od,J,hl⟩:=I.look
  exact PySem.W.get_value X J (PySem.W.plainGet_of hg).1 (PySem.W.findObj_own hh ha rfl (by rw [hl,hv])) hv' h
theorem sHq {pl:Sem Bool} {Q:Value × List Value->Shared->Prop} (X:K.In s.heap) (I:ObjM s.heap x dx C mA) (hg:PySem.W.plainGet K C name=true)
 (hf:PySem.W.findIn K (.ref C) name=some (some (.ref f))) (ht:PySem.W.isFn K (.ref f)=true) (hv:mA name=none) (h:Q (.ref f,[.ref x]) s) :
    wpAny (model prog w) A (getMethod (.ref x) name pl) Q E s:=by
  obtain ⟨od,J,hl⟩:=I.look
  exact PySem.W.method_fn X J (PySem.W.plainGet_of hg).1 (PySem.W.plainGet_of hg).2 hf (beq_iff_eq.mp ht) (by show (PySem.W.lookIn name od).map (·.isSome)=some false;rw [hl,hv];rfl) h
theorem w6q {ns:List Str} {Q:Unit->Shared->Prop} (X:K.In s.heap) (I:ObjM s.heap x dx C mA)
 (hs:PySem.W.findIn K (.ref C) "__setattr__" = some (some (.builtin "object.__setattr__"))) (hp:PySem.W.plainOver K C=true) (ht:PySem.W.takerIn K C name=some none) (hh:PySem.W.hasDictIn K C=true)
    (hw:PySem.Within mA ns) (hsz:ns.length<=sizeLine)
    (h:∀ h',ObjM h' x dx C (λ y=>if y=name then some v else mA y)->Heap.SameBut dx s.heap h'->Q () { s with heap:=h',toks:=s.toks+2 }) :
    wpAny (model prog w) A (setAttr (.ref x) name v) Q E s:=by
  obtain ⟨od,J,hl⟩:=I.look
  refine PySem.W.set_plain X J hs (PySem.W.osa_open (s:={ s with toks:=s.toks+1 }) (r:=none) X J hp ht λ b=>?_)
  obtain ⟨cd,hc,hd'⟩:=PySem.W.any_some hh
  have hx:s.heap.get? x=some ⟨.ref C,some dx,.plain,#[]⟩:=I.obj
  refine wpAny_bind (wpAny_pure (wpAny_bind (wpAny_bind (wpAny_loadPart hx (wpAny_bind (PySem.W.Looks.here (s:={ s with toks:=s.toks+1 }) (PySem.W.looks_clsIn X hc) ?_))))))
  rw [hd']
  refine wpAny_pure (a:=some dx) (wpAny_bind (wpAny_pure (wpAny_bind ?_)))
  refine wpAny_nsSet1 (s:={ s with toks:=s.toks+1 }) I.ns λ h' hn2 hs2=>?_
  obtain ⟨oD,esD,epD,hoD,hdD,hcD⟩:=hn2.count (PySem.Within.cons name v hw)
  refine wpAny_bind (wpAny_lookBehind hoD (by rw [hdD];exact pastItsLine_dict (Nat.le_trans hcD (by rw [List.length_cons];omega))) ?_)
  exact wpAny_pure (h _ ⟨(hs2.2 _ (Ne.symm I.ne)).trans I.obj,hn2,I.ne⟩ hs2)
theorem rJq {R:Result->Shared->Prop} {vs:List Value} {kw:List (Str × Value)} (X:K.In s.heap) (hm:PySem.W.makesIn K C=true)
 (hi:PySem.W.findIn K (.ref C) "__init__" = some (some (.ref f))) (hf:PySem.W.typeIn K (.ref f)=some (.type "function"))
    (h:codeAny (model prog w) (A.under (.builtin "type.__call__" ⟨.ref C::vs,kw⟩)) (.call (.ref f) ⟨.ref (s.heap.objs.size+1)::vs,kw⟩) (PySem.W.InitBack (s.heap.objs.size+1) R)
      { s with heap:=(s.heap.push PySem.W.emptyDict).push (PySem.W.instObj C s.heap.objs.size) }) :
    codeAny (model prog w) A (.call (.ref C) ⟨vs,kw⟩) R s:=by
  obtain ⟨hh,g,d,t,os⟩:=s
  exact PySem.W.make_core (PySem.W.makes_of X hm) (PySem.W.looks_findIn X hi) (λ self=>PySem.W.bind_fn X self hf) (.inl rfl) h
end
def hJq (f:Str) (v:V):List (Str × V)->List (Str × V)
  | []=>[(f,v)]
  | (g,x)::r=>if g=f then (g,v)::r else (g,x)::hJq f v r
theorem fMq (f g:Str) (v:V):∀ fs:List (Str × V),(hJq f v fs).lookup g=if g=f then some v else fs.lookup g
  | []=>by
    show List.lookup g [(f,v)]=_
    by_cases h:g=f
    . have hb:(g==f)=true:=beq_iff_eq.mpr h
      simp only [List.lookup,hb,if_pos h]
    . have hb:(g==f)=false:=beq_eq_false_iff_ne.mpr h
      simp only [List.lookup,hb,if_neg h]
  | (k,x)::r=>by
    have ih:=fMq f g v r
    rw [show hJq f v ((k,x)::r)=(if k=f then (k,v)::r else (k,x)::hJq f v r) from rfl]
    by_cases hk:k=f
    . rw [if_pos hk]
      by_cases h:g=k
      . have hb:(g==k)=true:=beq_iff_eq.mpr h
        simp only [List.lookup,hb,if_pos (h.trans hk)]
      . have hb:(g==k)=false:=beq_eq_false_iff_ne.mpr h
        simp only [List.lookup,hb,if_neg (λ e:g=f=>h (e.trans hk.symm))]
    . rw [if_neg hk]
      by_cases h:g=k
      . have hb:(g==k)=true:=beq_iff_eq.mpr h
        simp only [List.lookup,hb,if_neg (λ e:g=f=>hk (h.symm.trans e))]
      . have hb:(g==k)=false:=beq_eq_false_iff_ne.mpr h
        simp only [List.lookup,hb]
        exact ih
theorem eQq (f:Str) (v:V):∀ fs:List (Str × V),f∈(hJq f v fs).map (·.1)/\∀ g,g∈fs.map (·.1)->g∈(hJq f v fs).map (·.1)
  | []=>⟨by simp [hJq],λ g h=>by simp at h⟩
  | (k,x)::r=>by
    obtain ⟨i1,i2⟩:=eQq f v r
    rw [show hJq f v ((k,x)::r)=(if k=f then (k,v)::r else (k,x)::hJq f v r) from rfl]
    by_cases hk:k=f
    . rw [if_pos hk]
      subst hk
      exact ⟨by simp,λ g h=>by simpa using h⟩
    . rw [if_neg hk]
      refine ⟨?_,λ g h=>?_⟩
      . rw [List.map_cons]
        exact List.mem_cons_of_mem _ i1
      . rw [List.map_cons] at h ⊢
        rcases List.mem_cons.mp h with e | e
        . exact List.mem_cons.mpr (.inl e)
        . exact List.mem_cons_of_mem _ (i2 g e)
theorem eRq (f:Str) (v:V):∀ fs:List (Str × V),(hJq f v fs).length<=fs.length+1
  | []=>by simp [hJq]
  | (k,x)::r=>by
    have ih:=eRq f v r
    rw [show hJq f v ((k,x)::r)=(if k=f then (k,v)::r else (k,x)::hJq f v r) from rfl]
    by_cases hk:k=f
    . rw [if_pos hk,List.length_cons,List.length_cons];omega
    . rw [if_neg hk,List.length_cons,List.length_cons];omega
theorem RelO.some_of {v:V} {o:Option Value} (r:RelO (some v) o):∃ u,o=some u/\RelV v u:=by
  cases o with
  | none=>exact (show False from r).elim
  | some u=>exact ⟨u,rfl,r⟩
theorem RelO.none_of {o:Option Value} (r:RelO none o):o=none:=by
  cases o with
  | none=>rfl
  | some u=>exact (show False from r).elim
theorem iGq {v:V} {u:Value} (r:RelV v u):PySem.W.handedIn u=true:=by
  cases v with
  | non=>cases (show u=Value.none from r);rfl
  | bl b=>cases (show u=Value.bool b from r);rfl
  | int i=>obtain ⟨t,e⟩:=(show ∃ t,u=Value.int i t from r);cases e;rfl
  | str x=>obtain ⟨t,e⟩:=(show ∃ t,u=Value.str x t from r);cases e;rfl
  | byt b=>obtain ⟨t,e⟩:=(show ∃ t,u=Value.bytes b t from r);cases e;rfl
  | flt b=>obtain ⟨t,e⟩:=(show ∃ t,u=Value.float b t from r);cases e;rfl
  | ref a=>cases (show u=Value.ref a from r);rfl
  | ty n=>cases (show u=Value.type n from r);rfl
section
variable {P:Program} {w:World} {H H':Hp} {h h':Heap} {a C dx:Addr} {fs fs':List (Str × V)}
theorem hPq (hok:HOk P w H h) (e:H a=some (.ins C dx fs)):∃ mA,ObjM h a dx C mA/\(∀ f,RelO (fs.lookup f) (mA f))/\PySem.Within mA (fs.map (·.1))/\fs.length<=1000/\H dx=some (.own a):=by
  obtain ⟨d,z,ne,ob,mA,n,r,q⟩:=(show ObjOk P w H h a (.ins C dx fs) from hok a _ e)
  exact ⟨mA,⟨ob,n,ne⟩,r,q,z,d⟩
end
structure Cls (K:PySem.W.Frag) (C:Addr):Prop where
  pg:PySem.W.plainGet K C Str.empty=true
  hd:PySem.W.hasDictIn K C=true
  po:PySem.W.plainOver K C=true
  sa:PySem.W.findIn K (.ref C) "__setattr__" = some (some (.builtin "object.__setattr__"))
theorem Cls.get {K:PySem.W.Frag} {C:Addr} (c:Cls K C) (f:Str):PySem.W.plainGet K C f=true:=c.pg
def NoAttr (K:PySem.W.Frag) (C:Addr) (f:Str):Prop:=PySem.W.findIn K (.ref C) f=some none
theorem NoAttr.taker {K:PySem.W.Frag} {C:Addr} {f:Str} (n:NoAttr K C f):PySem.W.takerIn K C f=some none:=by
  unfold PySem.W.takerIn
  rw [show PySem.W.findIn K (.ref C) f=some none from n]
  rfl
structure Meth (K:PySem.W.Frag) (C:Addr) (m:Str) (f:Addr):Prop where
  at_:PySem.W.findIn K (.ref C) m=some (some (.ref f))
  fn:PySem.W.isFn K (.ref f)=true
  kp:PySem.W.keepIn K (.ref f)=true
section
variable {X:Cx} {pins:List (Addr × Obj)} {σ:St} {H:Hp} {s:Shared} {a C dx:Addr} {fs:List (Str × V)} {f:Str} {v:V} {A:Around} {E:Value->Shared->Prop}
theorem fSq {b:Bool} {Q:Value->Shared->Prop} (I:Inv X pins σ H s) (e:H a=some (.ins C dx fs)) (c:Cls X.K C) (n:NoAttr X.K C f) (l:fs.lookup f=some v)
    (h:∀ u s',Inv X pins σ H s'->RelV v u->Q u s'):wpAny (model X.prog X.w) A (getAttr (.ref a) f b) Q E s:=by
  obtain ⟨mA,O,r,_,_,_⟩:=hPq I.hok e
  obtain ⟨u,hu,ru⟩:=RelO.some_of (v:=v) (o:=mA f) (by rw [<- l];exact r f)
  exact w9q I.kIn O (c.get f) c.hd n hu (iGq ru) (h u _ (I.tok _) ru)
theorem fWq {m:Str} {g:Addr} {pl:Sem Bool} {Q:Value × List Value->Shared->Prop} (I:Inv X pins σ H s) (e:H a=some (.ins C dx fs)) (c:Cls X.K C) (k:Meth X.K C m g) (l:fs.lookup m=none)
    (h:Q (.ref g,[.ref a]) s):wpAny (model X.prog X.w) A (getMethod (.ref a) m pl) Q E s:=by
  obtain ⟨mA,O,r,_,_,_⟩:=hPq I.hok e
  have hn:mA m=none:=RelO.none_of (by rw [<- l];exact r m)
  exact sHq I.kIn O (c.get m) k.at_ k.fn hn h
theorem g0q {y:V} {u:Value} {Q:Unit->Shared->Prop} (I:Inv X pins σ H s) (e:H a=some (.ins C dx fs)) (c:Cls X.K C) (n:NoAttr X.K C f) (hl:fs.length < 1000) (ry:RelV y u)
    (h:∀ s',Inv X pins σ (upd H a (.ins C dx (hJq f y fs))) s'->Q () s'):wpAny (model X.prog X.w) A (setAttr (.ref a) f u) Q E s:=by
  obtain ⟨mA,O,r,wi,_,ho⟩:=hPq I.hok e
  have hz:(fs.map (·.1)).length<=sizeLine:=by rw [List.length_map,sizeLine_eq];omega
  refine w6q I.kIn O c.sa c.po n.taker c.hd wi hz λ h' O' sb=>h _ ?_
  have hd:∃ o,h'.get? dx=some o:=let ⟨o,_,_,e',_⟩:=O'.ns;⟨o,e'⟩
  refine I.write (x:=a) (e:=dx) (by rw [e];exact True.intro) (.inr ho) (λ b q hb z=>(sb.2 b hb).trans z) hd ?_
  refine ⟨by rw [aAq O.ne];exact ho,?_,O.ne,O'.obj,_,O'.ns,λ g=>?_,λ g hg=>?_⟩
  . have:=eRq f y fs;omega
  . show RelO ((hJq f y fs).lookup g) (if g=f then some u else mA g)
    rw [fMq]
    by_cases q:g=f
    . rw [if_pos q,if_pos q];exact ry
    . rw [if_neg q,if_neg q];exact r g
  . by_cases q:g=f
    . rw [q];exact (eQq f y fs).1
    . refine (eQq f y fs).2 g (wi g λ z=>hg ?_)
      show (if g=f then some u else mA g)=none
      rw [if_neg q];exact z
theorem Inv.made (I:Inv X pins σ H s):Inv X pins σ (upd (upd H s.heap.objs.size (.own (s.heap.objs.size+1))) (s.heap.objs.size+1) (.ins C s.heap.objs.size []))
    { s with heap:=(s.heap.push PySem.W.emptyDict).push (PySem.W.instObj C s.heap.objs.size) }:=by
  have e1:(s.heap.push PySem.W.emptyDict).get? s.heap.objs.size=some PySem.W.emptyDict:=Heap.get?_push_size s.heap rfl
  have e2:((s.heap.push PySem.W.emptyDict).push (PySem.W.instObj C s.heap.objs.size)).get? (s.heap.objs.size+1)=some (PySem.W.instObj C s.heap.objs.size):=by
    have:=Heap.get?_push_size (s.heap.push PySem.W.emptyDict) (o:=PySem.W.instObj C s.heap.objs.size) rfl
    rwa [Heap.size_push] at this
  have e3:(s.heap.push PySem.W.emptyDict).Ns s.heap.objs.size (λ _=>none):=⟨PySem.W.emptyDict,#[],_,e1,rfl,(λ e he=>absurd he (by simp)),λ _=>rfl⟩
  have I1:=I.laid (a:=s.heap.objs.size) (o:=.own (s.heap.objs.size+1)) (h':=s.heap.push PySem.W.emptyDict) (t':=s.toks) (λ b u q=>Heap.get?_push_of_some _ q) (Nat.le_refl _) ⟨_,e1⟩
  refine I1.laid (a:=s.heap.objs.size+1) (o:=.ins C s.heap.objs.size []) (t':=s.toks) (λ b u q=>Heap.get?_push_of_some _ q) (Nat.le_of_eq (Heap.size_push _ _)) ?_
  have ne:s.heap.objs.size≠s.heap.objs.size+1:=Nat.ne_of_lt (Nat.lt_succ_self _)
  refine ⟨by rw [aAq ne,aBq],Nat.zero_le _,ne,e2,λ _=>none,(Heap.Ns1.of_empty e3).at λ o q=>Heap.get?_push_of_some _ q,λ _=>True.intro,λ y hy=>absurd rfl hy⟩
theorem pPq {prog:Program} {w:World} {env:Env} {e:Expr} {f:Str} {pos:Pos} {s:Shared} {Q:Value->Shared->Prop} (hb:attributeBase e f env (eval e env)=eval e env)
    (h:wpAny (model prog w) A (eval e env) (λ o s₁=>wpAny (model prog w) A (getAttr o f true) Q E s₁) E s):wpAny (model prog w) A (eval (.Attribute e f pos) env) Q E s:=
  Attribute_any_ h (by rw [arm_eval_Attribute,hb])
end
def tFld (K:PySem.W.Frag) (ta:TE) (f:Str):TE:=λ σ H Q=>ta σ H λ x H1=>∃ a C dx fs v,x=.ref a/\H1 a=some (.ins C dx fs)/\Cls K C/\NoAttr K C f/\fs.lookup f=some v/\Q v H1
def sFld (K:PySem.W.Frag) (ta tv:TE) (f:Str):TS:=λ D σ H=>tv σ H λ y H1=>ta σ H1 λ x H2=>∃ a C dx fs,x=.ref a/\H2 a=some (.ins C dx fs)/\Cls K C/\NoAttr K C f/\fs.length < 1000 ∧
  D.nx σ (upd H2 a (.ins C dx (hJq f y fs)))
def InOp (X:Cx) (op:Operator) (rd:V->V->Hp->VK->Prop):Prop:=
  ∀ (pins:List (Addr × Obj)) (s:Shared) (σ:St) (H:Hp) (x y:V) (u v:Value) (Q:VK),Inv X pins σ H s->RelV x u->RelV y v->rd x y H Q->wpAny (model X.prog X.w) X.A (inplaceOp op u v) (EP X pins σ Q) X.xe s
def u5q (K:PySem.W.Frag) (ta tv:TE) (rd:V->V->Hp->VK->Prop) (f:Str):TS:=λ D σ H=>ta σ H λ x H1=>∃ a C dx fs v,x=.ref a/\H1 a=some (.ins C dx fs)/\Cls K C/\NoAttr K C f/\fs.lookup f=some v ∧
  tv σ H1 λ y H2=>rd v y H2 λ z H3=>∃ dx' fs',H3 a=some (.ins C dx' fs')/\fs'.length < 1000/\D.nx σ (upd H3 a (.ins C dx' (hJq f z fs')))
section
variable {X:Cx} {o e value:Expr} {f:Str} {pos pos' tpos:Pos} {ta tv:TE}
theorem xAq (he:PE X e ta) (hb:attributeBase e f X.env (eval e X.env)=eval e X.env):PE X (.Attribute e f pos) (tFld X.K ta f):=by
  intro pins s σ H Q I h
  refine pPq hb (thn (he pins s σ H _ I h) λ u s1 ⟨x,H1,I1,rx,a,C,dx,fs,v,ex,ea,c,n,l,q⟩=>?_)
  subst ex
  obtain rfl:u=Value.ref a:=rx
  exact fSq I1 ea c n l λ u' s2 I2 ru=>⟨v,H1,I2,ru,q⟩
theorem xMq (ha:PE X o ta) (hv:PE X value tv) (hs:swapsWith value (some (.Attribute o f pos')) pos.line X.env=pure false):PS X (.Assign [.Attribute o f pos'] value pos) (sFld X.K ta tv f):=by
  intro pins s σ H D I h
  refine plainObj_wpAny_Assign_Attribute (thn (hv pins s σ H _ I h) λ u s1 ⟨y,H1,I1,ry,q⟩=>thn (ha pins s1 σ H1 _ I1 q) λ ov s2 ⟨x,H2,I2,rx,a,C,dx,fs,ex,ea,c,n,l,q2⟩=>?_) hs
  subst ex
  obtain rfl:ov=Value.ref a:=rx
  exact g0q I2 ea c n l ry λ s3 I3=>⟨σ,_,I3,q2⟩
theorem iTq {op:Operator} {rd:V->V->Hp->VK->Prop} (ha:PE X o ta) (hv:PE X value tv) (hop:InOp X op rd):PS X (.AugAssign (.Attribute o f tpos) op value pos) (u5q X.K ta tv rd f):=by
  intro pins s σ H D I h
  refine wpAny_AugAssign_AttributeAny (thn (ha pins s σ H _ I h) λ ov s1 ⟨x,H1,I1,rx,a,C,dx,fs,v,ex,ea,c,n,l,q⟩=>?_)
  subst ex
  obtain rfl:ov=Value.ref a:=rx
  refine fSq I1 ea c n l λ u s2 I2 ru=>thn (hv pins s2 σ H1 _ I2 q) λ w3 s3 ⟨y,H2,I3,ry,q3⟩=>thn (hop pins s3 σ H2 v y u w3 _ I3 ru ry q3) λ w4 s4 ⟨z,H3,I4,rz,dx',fs',ea',l',q4⟩=>?_
  exact g0q I4 ea' c n l' rz λ s5 I5=>⟨σ,_,I5,q4⟩
def rAdd:V->V->Hp->VK->Prop:=λ x y H Q=>∃ i j,x=.int i/\y=.int j/\Q (.int (i+j)) H
def rSub:V->V->Hp->VK->Prop:=λ x y H Q=>∃ i j,x=.int i/\y=.int j/\Q (.int (i - j)) H
theorem z3q:InOp X .Add rAdd:=by
  rintro pins s σ H x y u v Q I rx ry ⟨i,j,rfl,rfl,q⟩
  obtain ⟨t,rfl⟩:=(show ∃ t,u=Value.int i t from rx)
  obtain ⟨t',rfl⟩:=(show ∃ t',v=Value.int j t' from ry)
  exact PyProof.Rows.iadd_int ⟨.int (i+j),H,I.tok _,⟨_,rfl⟩,q⟩
theorem xOq:InOp X .Sub rSub:=by
  rintro pins s σ H x y u v Q I rx ry ⟨i,j,rfl,rfl,q⟩
  obtain ⟨t,rfl⟩:=(show ∃ t,u=Value.int i t from rx)
  obtain ⟨t',rfl⟩:=(show ∃ t',v=Value.int j t' from ry)
  exact PyProof.Rows.isub_int ⟨.int (i - j),H,I.tok _,⟨_,rfl⟩,q⟩
theorem v9q {pl:Sem Bool} {m:Str} {apos:Pos} {args:List Expr} {pins:List (Addr × Obj)} {s:Shared} {σ:St} {H:Hp} {Q:Value->Shared->Prop} {te:TE} (he:PE X e te) (I:Inv X pins σ H s)
    (h:te σ H λ x H1=>∃ a C dx fs g,x=.ref a/\H1 a=some (.ins C dx fs)/\Cls X.K C/\Meth X.K C m g/\fs.lookup m=none ∧
      ∀ s1,Inv X pins σ H1 s1->wpAny (model X.prog X.w) X.A (callWith pos (.ref g) [.ref a] (backTo pos (starEach args X.env)) (backToKw pos (keywordEach [] X.env))) Q X.xe s1)
    (ht:eval (.Call (.Attribute e m apos) args [] pos) X.env=(do
      let ov ← eval e X.env
      standAt apos.atName
      let (f,first) ← holding [ov] (getMethod ov m pl)
      callWith pos f first (backTo pos (starEach args X.env)) (backToKw pos (keywordEach [] X.env)))) :
    wpAny (model X.prog X.w) X.A (eval (.Call (.Attribute e m apos) args [] pos) X.env) Q X.xe s:=by
  refine PySem.W.methodCall_KW (pl:=pl) (thn (he pins s σ H _ I h) λ u s1 ⟨x,H1,I1,rx,a,C,dx,fs,g,ex,ea,c,k,l,q⟩=>?_) ht
  subst ex
  obtain rfl:u=Value.ref a:=rx
  exact fWq I1 ea c k l (q s1 I1)
end
section
variable {X:Cx} {pins:List (Addr × Obj)} {σ:St} {H:Hp} {s:Shared} {A:Around} {E:Value->Shared->Prop} {Q:Value->Shared->Prop} {c:Value} {b:Bool}
inductive TyOf (K:PySem.W.Frag) (H:Hp):V->Value->Prop where
  | non:TyOf K H .non (.type "NoneType")
  | bl (x:Bool):TyOf K H (.bl x) (.type "bool")
  | int (i:Int):TyOf K H (.int i) (.type "int")
  | str (x:Str):TyOf K H (.str x) (.type "str")
  | flt (x:UInt64):TyOf K H (.flt x) (.type "float")
  | lst {a:Addr} {xs:List V} (e:H a=some (.lst xs)):TyOf K H (.ref a) (.type "list")
  | frz {a:Addr} {o:Obj} {xs:List V} (e:H a=some (.frz o (.lst xs))):TyOf K H (.ref a) (.type "list")
  | tup {a:Addr} {xs:List V} (e:H a=some (.tup xs)):TyOf K H (.ref a) (.type "tuple")
  | dK {a:Addr} {kvs:List (Key × V)} (e:H a=some (.dK kvs)):TyOf K H (.ref a) (.type "dict")
  | dT {a:Addr} {kvs:List (List Key × V)} (e:H a=some (.dT kvs)):TyOf K H (.ref a) (.type "dict")
  | ins {a C dx:Addr} {fs:List (Str × V)} (e:H a=some (.ins C dx fs)) (cl:Cls K C) (ha:PySem.W.findIn K (.ref C) "__class__" = some (some (.builtin "object.__class__")))
      (hn:PySem.W.specialIn K (.builtin "object.__class__") "__get__" = some (some (.builtin "getset_descriptor.__get__"))) (htk:PySem.W.takesIn K (.builtin "object.__class__")=some true)
      (hm:PySem.W.mroIn K C (.type "object")=some true):TyOf K H (.ref a) (.ref C)
theorem pNq {x:V} {u t:Value} (I:Inv X pins σ H s) (rx:RelV x u) (ty:TyOf X.K H x t) (e:PySem.W.kitOne X.K t c=some b) (h:∀ tk,Q (.bool b) { s with toks:=tk }) :
    wpAny (model X.prog X.w) A (call (.builtin "isinstance") [u,c]) Q E s:=by
  cases ty with
  | non=>cases (show u=Value.none from rx);exact PySem.W.kia_one PySem.W.kitx_none I.kIn True.intro e (λ z=>nomatch z) h
  | bl y=>cases (show u=Value.bool y from rx);exact PySem.W.kia_one PySem.W.kitx_bool I.kIn True.intro e (λ z=>nomatch z) h
  | int i=>obtain ⟨t,q⟩:=(show ∃ t,u=Value.int i t from rx);cases q;exact PySem.W.kia_one PySem.W.kitx_int I.kIn True.intro e (λ z=>nomatch z) h
  | str y=>obtain ⟨t,q⟩:=(show ∃ t,u=Value.str y t from rx);cases q;exact PySem.W.kia_one PySem.W.kitx_str I.kIn True.intro e (λ z=>nomatch z) h
  | flt y=>obtain ⟨t,q⟩:=(show ∃ t,u=Value.float y t from rx);cases q;exact PySem.W.kia_one PySem.W.kitx_float I.kIn True.intro e (λ z=>nomatch z) h
  | @lst a xs ea=>
    cases (show u=Value.ref a from rx)
    obtain ⟨_,_,n,_,h1⟩:=(show ObjOk X.prog X.w H s.heap a (.lst xs) from I.hok a _ ea)
    exact PySem.W.kia_one PySem.W.kitx_list I.kIn ⟨_,h1,rfl⟩ e (λ z=>nomatch z) h
  | @frz a ob xs ea=>
    cases (show u=Value.ref a from rx)
    obtain ⟨_,_,_,n,_,h1⟩:=(show ObjOk X.prog X.w H s.heap a (.frz ob (.lst xs)) from I.hok a _ ea)
    exact PySem.W.kia_one PySem.W.kitx_list I.kIn ⟨_,h1,rfl⟩ e (λ z=>nomatch z) h
  | @tup a xs ea=>
    cases (show u=Value.ref a from rx)
    obtain ⟨_,_,_,p⟩:=(show ObjOk X.prog X.w H s.heap a (.tup xs) from I.hok a _ ea)
    obtain ⟨o,h1,h2,_⟩:=p
    exact PySem.W.kia_one PySem.W.kitx_tuple I.kIn ⟨o,h1,h2⟩ e (λ z=>nomatch z) h
  | @dK a kvs ea=>
    cases (show u=Value.ref a from rx)
    obtain ⟨_,_,vs,_,p⟩:=(show ObjOk X.prog X.w H s.heap a (.dK kvs) from I.hok a _ ea)
    obtain ⟨o,es,ep,h1,h2,_⟩:=p
    exact PySem.W.kia_one PySem.W.kitx_dict I.kIn ⟨o,h1,h2.1⟩ e (λ z=>nomatch z) h
  | @dT a kvs ea=>
    cases (show u=Value.ref a from rx)
    obtain ⟨_,_,xs,_,o,es,ep,h1,h2,_⟩:=(show ObjOk X.prog X.w H s.heap a (.dT kvs) from I.hok a _ ea)
    exact PySem.W.kia_one PySem.W.kitx_dict I.kIn ⟨o,h1,h2.1⟩ e (λ z=>nomatch z) h
  | @ins a C dx fs ea cl ha hn htk hm=>
    cases (show u=Value.ref a from rx)
    obtain ⟨mA,O,_⟩:=hPq I.hok ea
    obtain ⟨od,J,_⟩:=O.look
    exact PySem.W.kia_one (PySem.W.kitx_own (cl.get _) cl.hd ha hn htk hm) I.kIn J e (λ z=>nomatch z) h
end
structure Room (k:Nat) (A:Around):Prop where
  hd:A.handled=none
  dp:A.depth+3 * k+5 < recursionLimit
  un:A.units+16 * k+200 < cLine
theorem Room.mono {j k:Nat} {A:Around} (r:Room k A) (h:j<=k):Room j A:=⟨r.hd,by have:=r.dp;omega,by have:=r.un;omega⟩
theorem Room.deeper {k:Nat} {A:Around} (r:Room (k+1) A) (env:Env):Room k (A.deeper env):=
  ⟨r.hd,by have:=r.dp;show A.depth+1+3 * k+5 < _;omega,by have:=r.un;show A.units+3+16 * k+200 < _;omega⟩
theorem lOq {A:Around} {C:Addr} {us:List Value} {kw:List (Str × Value)}:(A.under (.builtin "type.__call__" ⟨.ref C::us,kw⟩)).depth=A.depth+1:=by
  first | rfl | simp [Around.under,Code.weight,Code.isCreation,Code.isGuard,Code.isCaller,Code.frames,Code.isFrame,guardIds]
theorem mBq {A:Around} {C:Addr} {us:List Value} {kw:List (Str × Value)}:(A.under (.builtin "type.__call__" ⟨.ref C::us,kw⟩)).units=A.units+1:=by
  first | rfl | simp [Around.under,Code.cUnits,Code.frames,Code.isFrame]
theorem Room.make {k:Nat} {A:Around} (r:Room (k+1) A) (C:Addr) (us:List Value) (kw:List (Str × Value)):Room k (A.under (.builtin "type.__call__" ⟨.ref C::us,kw⟩)):=
  ⟨r.hd,by have:=r.dp;rw [lOq];omega,by have:=r.un;rw [mBq];omega⟩
theorem Room.depth {k:Nat} {A:Around} (r:Room k A):A.depth < recursionLimit:=by have:=r.dp;omega
def tNil:TA:=λ _ H Q=>Q [] H
def vVq (ta:TE) (tr:TA):TA:=λ σ H Q=>ta σ H λ x H1=>tr σ H1 λ xs H2=>Q (x::xs) H2
section
variable {X:Cx} {e:Expr} {es:List Expr} {te:TE} {t:TA} {pos:Pos}
theorem nQq:PA X [] tNil:=λ _ _ _ _ H Q I h=>Calls.spliced_nil ⟨[],H,I,.nil,h⟩
theorem oXq (ha:PE X e te) (hr:PA X es t) (hs:starEach (e::es) X.env=(false,eval e X.env)::starEach es X.env:=by rfl):PA X (e::es) (vVq te t):=by
  intro pos pins s σ H Q I h
  rw [hs]
  show wpAny _ _ (spliced ((false,eval e X.env)::backTo pos (starEach es X.env))) _ _ s
  refine Calls.spliced_cons (thn (ha pins s σ H _ I h) λ u s1 ⟨x,H1,I1,r1,q1⟩=>?_)
  exact thn (hr pos pins s1 σ H1 _ I1 q1) λ us s2 ⟨xs,H2,I2,r2,q2⟩=>⟨x::xs,H2,I2,.cons r1 r2,q2⟩
def tTup (t:TA):TE:=λ σ H Q=>t σ H λ xs H1=>xs.length<=sizeLine/\∀ p,H1 p=none->Q (.ref p) (upd H1 p (.tup xs))
def tLst (t:TA):TE:=λ σ H Q=>t σ H λ xs H1=>xs.length<=sizeLine/\∀ p,H1 p=none->Q (.ref p) (upd H1 p (.lst xs))
theorem yDq {x1} (h:PA X es t):PE X (.Tuple es x1 pos) (tTup t):=by
  intro pins s σ H Q I hq
  refine wpAny_Tuple_spliced (thn (h pos pins s σ H _ I hq) λ us s1 ⟨xs,H1,I1,r,z,q⟩=>⟨by rw [<- r.length];exact z,?_⟩)
  have hf:H1 s1.heap.objs.size=none:=I1.hok.fresh (Nat.le_refl _)
  refine ⟨.ref s1.heap.objs.size,upd H1 s1.heap.objs.size (.tup xs),I1.laid (t':=s1.toks) (λ b u e=>Heap.get?_push_of_some _ e) (Nat.le_refl _) ?_,rfl,q _ hf⟩
  exact ⟨z,us,r,⟨_,Heap.get?_push_size _ rfl,rfl,_,rfl⟩⟩
theorem aB7q (h:PA X es t):PE X (.List es pos) (tLst t):=by
  intro pins s σ H Q I hq
  refine wpAny_List_spliced (thn (h pos pins s σ H _ I hq) λ us s1 ⟨xs,H1,I1,r,z,q⟩=>⟨by rw [<- r.length];exact z,?_⟩)
  have hf:H1 s1.heap.objs.size=none:=I1.hok.fresh (Nat.le_refl _)
  refine ⟨.ref s1.heap.objs.size,upd H1 s1.heap.objs.size (.lst xs),I1.laid (t':=s1.toks) (λ b u e=>Heap.get?_push_of_some _ e) (Nat.le_refl _) ?_,rfl,q _ hf⟩
  exact ⟨z,us,0,r,Heap.get?_push_size _ rfl⟩
end
abbrev Sp:=List V->Hp->VK->XK->Prop
abbrev CXT:=List Env->Hp->Shared->XK->Value->Shared->Prop
structure Env0 (P:Program) (w:World) (K:PySem.W.Frag) (mg:Str->Option Value) (base:Heap) (A:Around) (outer:List Env) (s:Shared) (H:Hp):Prop where
  frames:A.frames=some outer
  mod:Mod K mg base
  bs:∀ b o,base.get? b=some o->s.heap.get? b=some o/\H b=none
  bsz:base.objs.size<=s.heap.objs.size
  funs:s.heap.FunFrames base outer
  frf:∀ b∈frs outer,H b=none
  hok:HOk P w H s.heap
  bare:AllBare s.gens
def CE (outer:List Env) (P:Program) (w:World) (H:Hp) (s:Shared) (Q:VK) (u:Value) (s':Shared):Prop:=
  ∃ v H',s'.os=s.os/\AllBare s'.gens/\Un (frs outer) [] H H' s.heap s'.heap/\HOk P w H' s'.heap/\RelV v u/\Q v H'
def CR (CX:CXT) (outer:List Env) (P:Program) (w:World) (H:Hp) (s:Shared) (Q:VK) (E:XK) (r:Result) (s':Shared):Prop:=
  match r with
  | .ok (.ret u)=>CE outer P w H s Q u s'
  | .ok _=>False
  | .error e=>CX outer H s E e s'
structure FnOk (P:Program) (w:World) (K:PySem.W.Frag) (mg:Str->Option Value) (base:Heap) (CX:CXT) (k:Nat) (f:Addr) (fd:FuncData) (ps:List Str) (sp:Sp):Prop where
  len:∀ vs H Q E,sp vs H Q E->vs.length=ps.length
  run:∀ (A:Around) (outer:List Env) (s:Shared) (H:Hp) (args:Args) (us:List Value) (vs:List V) (Q:VK) (E:XK),Room k A->Env0 P w K mg base A outer s H->BindsTo s fd args (ps.zip us)->Vals vs us->sp vs H Q E →
    codeAny (model P w) A (.call (.ref f) args) (CR CX outer P w H s Q E) s
theorem Env0.make {P:Program} {w:World} {K:PySem.W.Frag} {mg:Str->Option Value} {base:Heap} {A:Around} {outer:List Env} {s:Shared} {H:Hp} (e:Env0 P w K mg base A outer s H) (C:Addr) (us:List Value) (kw:List (Str × Value)) :
    Env0 P w K mg base (A.under (.builtin "type.__call__" ⟨.ref C::us,kw⟩)) outer s H:=⟨by first | exact e.frames | (simpa [Around.under,Code.envs,Code.isFrame,pushEnvs] using e.frames),e.mod,e.bs,e.bsz,e.funs,e.frf,e.hok,e.bare⟩
section
variable {X:Cx} {pins:List (Addr × Obj)} {σ:St} {H:Hp} {s s':Shared}
theorem Inv.env0 (I:Inv X pins σ H s):Env0 X.prog X.w X.K X.mg X.base X.A X.stack s H:=
  ⟨I.ok.frames,I.ok.mod,I.bs,Nat.le_trans I.ok.bsz I.sz,I.stack,I.stkFree,I.hok,I.bare⟩
theorem Inv.after {Q:VK} {u:Value} (I:Inv X pins σ H s) (h:CE X.stack X.prog X.w H s Q u s'):EP X pins σ Q u s':=by
  obtain ⟨v,H',os,bare,un,hok,r,q⟩:=h
  obtain ⟨hh,g,d,t,os'⟩:=s'
  obtain rfl:os'=s.os:=os
  exact ⟨v,H',I.call (h':=hh) (g':=g) (d':=d) (t':=t) (ch:=[]) un hok bare (λ b z=>absurd z (by simp)),r,q⟩
end
def rXq (sp:Sp) (dvs:List V) (E:XK) (t:TA):TE:=λ σ H Q=>t σ H λ vs H1=>sp (vs++dvs) H1 Q E
def aH3q (C:Addr) (m:Str) (sp:Sp) (dvs:List V) (E:XK) (ta:TE) (t:TA):TE:=λ σ H Q=>ta σ H λ x H1=>∃ a dx fs,x=.ref a/\H1 a=some (.ins C dx fs)/\fs.lookup m=none ∧
  t σ H1 λ vs H2=>sp (x::(vs++dvs)) H2 Q E
def aM0q (C:Addr) (sp:Sp) (dvs:List V) (E:XK) (t:TA):TE:=λ σ H Q=>t σ H λ vs H1=>∀ x dx,H1 x=none->H1 dx=none->dx≠x →
  sp (.ref x::(vs++dvs)) (upd (upd H1 dx (.own x)) x (.ins C dx [])) (λ v H2=>v=.non/\Q (.ref x) H2) E
def Binds (K:PySem.W.Frag) (fd:FuncData) (ps:List Str) (ds:List Value):Prop:=
  ∀ (s:Shared) (us:List Value),K.In s.heap->(us++ds).length=ps.length->BindsTo s fd ⟨us,[]⟩ (ps.zip (us++ds))
theorem Binds.all {K:PySem.W.Frag} {fd:FuncData} {ps:List Str} (h:∀ us:List Value,us.length=ps.length->bindArgs fd ⟨us,[]⟩=pure (ps.zip us)):Binds K fd ps []:=λ s us _ hl=>by
  rw [List.append_nil] at hl ⊢
  exact .of_eq (h us hl)
def fUq (CX:CXT) (X:Cx) (E:XK):Prop:=∀ (pins:List (Addr × Obj)) (σ:St) (H:Hp) (s:Shared) (e:Value) (s':Shared),Inv X pins σ H s->CX X.stack H s E e s'->X.xe e s'
section
variable {X:Cx} {CX:CXT} {k:Nat} {f C:Addr} {fd:FuncData} {ps:List Str} {sp:Sp} {dvs:List V} {ds:List Value} {E:XK} {x m:Str} {p pos apos:Pos} {e o:Expr} {es:List Expr} {ta:TE} {t:TA}
theorem sYq {pins:List (Addr × Obj)} {σ:St} {H:Hp} {s:Shared} {Q:VK} {us:List Value} {vs:List V} (F:FnOk X.prog X.w X.K X.mg X.base CX k f fd ps sp) (hr:Room k X.A) (hb:Binds X.K fd ps ds) (hd:Vals dvs ds) (hx:fUq CX X E)
    (I:Inv X pins σ H s) (r:Vals vs us) (h:sp (vs++dvs) H Q E):wpAny (model X.prog X.w) X.A (call (.ref f) us) (EP X pins σ Q) X.xe s:=by
  have r2:Vals (vs++dvs) (us++ds):=r.append hd
  have hl:(us++ds).length=ps.length:=by rw [<- r2.length];exact F.len _ _ _ _ h
  refine wpAny_call (codeAny_mono (F.run X.A X.stack s H ⟨us,[]⟩ (us++ds) (vs++dvs) Q E hr I.env0 (hb s us I.kIn hl) r2 h) λ r s' hq=>?_)
  cases r with
  | error e=>exact hx pins σ H s e s' I hq
  | ok fl=>
    cases fl with
    | ret u=>exact I.after hq
    | next=>exact False.elim hq
    | brk=>exact False.elim hq
    | cont=>exact False.elim hq
theorem uOq (F:FnOk X.prog X.w X.K X.mg X.base CX k f fd ps sp) (hr:Room k X.A) (hg:Gl X x) (hm:X.mg x=some (.ref f)) (hk:PySem.W.keepIn X.K (.ref f)=true) (hb:Binds X.K fd ps ds) (hd:Vals dvs ds) (hx:fUq CX X E)
    (ha:PA X (e::es) t) (hdb:(x==("__debug__" : Str))=false:=by decide) (he:starEach (e::es) X.env=(false,eval e X.env)::starEach es X.env:=by rfl) (hpl:(backTo pos (starEach es X.env)).any (·.1)=false:=by rfl) :
    PE X (.Call (.Name x p) (e::es) [] pos) (rXq sp dvs E t):=by
  intro pins s σ H Q I h
  refine wpAny_Call_Name_kw (d3q I hg hm ?_ hdb)
  refine PySem.W.callWith_K (h₀:=X.base) I.ok.mod.kin hk (thn (ha pos pins s σ H _ I h) λ us s1 ⟨vs,H1,I1,r,q⟩=>⟨I1.kIn,?_⟩) he hpl
  exact sYq F hr hb hd hx I1 r q
theorem vZq {pl:Sem Bool} (he:PE X o ta) (c:Cls X.K C) (hm:Meth X.K C m f) (F:FnOk X.prog X.w X.K X.mg X.base CX k f fd ps sp) (hr:Room k X.A) (hb:Binds X.K fd ps ds) (hd:Vals dvs ds) (hx:fUq CX X E) (ha:PA X (e::es) t)
    (hst:starEach (e::es) X.env=(false,eval e X.env)::starEach es X.env:=by rfl) (hpl:(backTo pos (starEach es X.env)).any (·.1)=false:=by rfl)
    (ht:eval (.Call (.Attribute o m apos) (e::es) [] pos) X.env=(do
      let ov ← eval o X.env
      standAt apos.atName
      let (f,first) ← holding [ov] (getMethod ov m pl)
      callWith pos f first (backTo pos (starEach (e::es) X.env)) (backToKw pos (keywordEach [] X.env))):=by rfl) :
    PE X (.Call (.Attribute o m apos) (e::es) [] pos) (aH3q C m sp dvs E ta t):=by
  intro pins s σ H Q I h
  refine PySem.W.methodCall_KW (pl:=pl) (thn (he pins s σ H _ I h) λ u s1 ⟨x,H1,I1,rx,a,dx,fs,ex,ea,l,q⟩=>?_) ht
  subst ex
  obtain rfl:u=Value.ref a:=rx
  refine fWq I1 ea c hm l ?_
  refine PySem.W.callWith_K (first:=[.ref a]) (h₀:=X.base) I.ok.mod.kin hm.kp (thn (ha pos pins s1 σ H1 _ I1 q) λ us s2 ⟨vs,H2,I2,r,q2⟩=>⟨I2.kIn,?_⟩) hst hpl
  exact sYq (us:=.ref a::us) (vs:=.ref a::vs) F hr hb hd hx I2 (.cons rfl r) q2
structure Mk (K:PySem.W.Frag) (C f:Addr):Prop where
  makes:PySem.W.makesIn K C=true
  init:PySem.W.findIn K (.ref C) "__init__" = some (some (.ref f))
  fn:PySem.W.isFn K (.ref f)=true
  kp:PySem.W.keepIn K (.ref C)=true
theorem rAq {pins:List (Addr × Obj)} {σ:St} {H:Hp} {s:Shared} {Q:VK} {us:List Value} {vs:List V} (M:Mk X.K C f) (F:FnOk X.prog X.w X.K X.mg X.base CX k f fd ps sp) (hr:Room (k+1) X.A) (hb:Binds X.K fd ps ds) (hd:Vals dvs ds)
    (hx:fUq CX X E) (I:Inv X pins σ H s) (r:Vals vs us)
    (h:∀ x dx,H x=none->H dx=none->dx≠x->sp (.ref x::(vs++dvs)) (upd (upd H dx (.own x)) x (.ins C dx [])) (λ v H2=>v=.non/\Q (.ref x) H2) E) :
    wpAny (model X.prog X.w) X.A (call (.ref C) us) (EP X pins σ Q) X.xe s:=by
  have hq:=h (s.heap.objs.size+1) s.heap.objs.size (I.hok.fresh (Nat.le_succ _)) (I.hok.fresh (Nat.le_refl _)) (Nat.ne_of_lt (Nat.lt_succ_self _))
  have I2:=Inv.made (C:=C) I
  have r2:Vals (V.ref (s.heap.objs.size+1)::(vs++dvs)) (Value.ref (s.heap.objs.size+1)::(us++ds)):=.cons rfl (r.append hd)
  have hl:(Value.ref (s.heap.objs.size+1)::us++ds).length=ps.length:=by
    have e:=r2.length
    rw [F.len _ _ _ _ hq] at e
    exact e.symm
  refine wpAny_call (rJq (f:=f) I.kIn M.makes M.init (beq_iff_eq.mp M.fn) (codeAny_mono (F.run _ X.stack _ _ ⟨Value.ref (s.heap.objs.size+1)::us,[]⟩ (Value.ref (s.heap.objs.size+1)::(us++ds)) _ _ E (hr.make C us [])
    (I2.env0.make C us []) (hb _ (Value.ref (s.heap.objs.size+1)::us) I2.kIn hl) r2 hq) λ r s' hq'=>?_))
  cases r with
  | error e=>exact hx pins σ _ _ e s' I2 hq'
  | ok fl=>
    cases fl with
    | ret u=>
      obtain ⟨v,H',I3,rv,ev,q3⟩:=I2.after hq'
      subst ev
      exact ⟨rv,⟨V.ref (s.heap.objs.size+1),H',I3,rfl,q3⟩⟩
    | next=>exact False.elim hq'
    | brk=>exact False.elim hq'
    | cont=>exact False.elim hq'
theorem rNq (M:Mk X.K C f) (F:FnOk X.prog X.w X.K X.mg X.base CX k f fd ps sp) (hr:Room (k+1) X.A) (hg:Gl X x) (hm:X.mg x=some (.ref C)) (hb:Binds X.K fd ps ds) (hd:Vals dvs ds) (hx:fUq CX X E)
    (hdb:(x==("__debug__" : Str))=false:=by decide):PE X (.Call (.Name x p) [] [] pos) (aM0q C sp dvs E tNil):=by
  intro pins s σ H Q I h
  refine wpAny_Call_Name_kw (d3q I hg hm ?_ hdb)
  exact PySem.W.callWith_K0 I.kIn M.kp (rAq (us:=[]) M F hr hb hd hx I .nil h)
end
structure FnScope (N P:List Str) (sc:Scope):Prop where
  kind:sc.kind=.function
  co:sc.isCoroutine=false
  gen:sc.isGenerator=false
  nd:N.Nodup
  pre:N.take P.length=P
  par:∀ x∈P,sc.names.lookup x=some .local\/sc.names.lookup x=some .cell
  nofree:∀ y∈sc.names,y.2≠.free
theorem iZq {kindOf:Str->Option NameKind} {x:Str}:∀ {binds:List (Str × Value)} {m:Str->Option Value},(∀ v,(x,v) ∉ binds)->bindL kindOf binds m x=m x
  | [],_,_=>rfl
  | (n,v)::r,m,h=>by
    unfold bindL
    rw [iZq λ w hw=>h w (List.mem_cons_of_mem _ hw)]
    split
    . have:x≠n:=by rintro rfl;exact h v List.mem_cons_self
      simp [this]
    . rfl
theorem iMq {kindOf:Str->Option NameKind} {x:Str}:∀ {binds:List (Str × Value)} {m:Str->Option Value},(∀ v,(x,v) ∉ binds)->bindC kindOf binds m x=m x
  | [],_,_=>rfl
  | (n,v)::r,m,h=>by
    unfold bindC
    rw [iMq λ w hw=>h w (List.mem_cons_of_mem _ hw)]
    split
    . rfl
    . have:x≠n:=by rintro rfl;exact h v List.mem_cons_self
      simp [this]
theorem iEq {kindOf:Str->Option NameKind} {x:Str} {v:Value}:∀ {P:List Str} {vs:List Value} {i:Nat} {m:Str->Option Value},P.Nodup->P[i]?=some x->vs[i]?=some v->kindOf x=some .local →
    bindL kindOf (P.zip vs) m x=some v
  | [],_,_,_,_,h,_,_=>by simp at h
  | _::_,[],_,_,_,_,h,_=>by simp at h
  | p::P,w::vs,0,m,nd,h1,h2,hk=>by
    simp at h1 h2;subst h1;subst h2
    show bindL kindOf ((p,w)::P.zip vs) m p=_
    unfold bindL
    rw [iZq λ v hv=>(List.nodup_cons.mp nd).1 (List.of_mem_zip hv).1,if_pos hk]
    simp
  | p::P,w::vs,i+1,m,nd,h1,h2,hk=>by
    show bindL kindOf ((p,w)::P.zip vs) m x=_
    unfold bindL
    exact iEq (i:=i) (List.nodup_cons.mp nd).2 (by simpa using h1) (by simpa using h2) hk
theorem j6q {kindOf:Str->Option NameKind} {x:Str} {v:Value}:∀ {P:List Str} {vs:List Value} {i:Nat} {m:Str->Option Value},P.Nodup->P[i]?=some x->vs[i]?=some v->kindOf x≠some .local →
    bindC kindOf (P.zip vs) m x=some v
  | [],_,_,_,_,h,_,_=>by simp at h
  | _::_,[],_,_,_,_,h,_=>by simp at h
  | p::P,w::vs,0,m,nd,h1,h2,hk=>by
    simp at h1 h2;subst h1;subst h2
    show bindC kindOf ((p,w)::P.zip vs) m p=_
    unfold bindC
    rw [iMq λ v hv=>(List.nodup_cons.mp nd).1 (List.of_mem_zip hv).1,if_neg hk]
    simp
  | p::P,w::vs,i+1,m,nd,h1,h2,hk=>by
    show bindC kindOf ((p,w)::P.zip vs) m x=_
    unfold bindC
    exact j6q (i:=i) (List.nodup_cons.mp nd).2 (by simpa using h1) (by simpa using h2) hk
def cJq (N:List Str) (vs:List V):St:=vs.map some++List.replicate (N.length - vs.length) none
def dIq (CX:CXT) (P:Program) (w:World) (K:PySem.W.Frag) (mg:Str->Option Value) (base:Heap) (N:List Str) (qual:Str) (scope:Scope) (f:Addr) (cd:Value) (A:Around) (outer:List Env) (s:Shared) (H:Hp) (E:XK):Cx where
  prog:=P
  w:=w
  K:=K
  mg:=mg
  base:=base
  A:=A.deeper (envOfC qual scope s.heap.objs.size f cd)
  N:=N
  s₀:=s
  H₀:=H
  env:=envOfC qual scope s.heap.objs.size f cd
  outer:=outer
  stack:=envOfC qual scope s.heap.objs.size f cd::outer
  ex:=[]
  calm:=true
  fn:=λ _=>true
  pn:=[]
  xe:=λ e s'=>wpAny (model P w) (A.deeper (envOfC qual scope s.heap.objs.size f cd)) (leaving (envOfC qual scope s.heap.objs.size f cd) e) (λ _ s''=>CX outer H s E e s'') (λ e' s''=>CX outer H s E e' s'') s'
theorem lJq {sc:Scope} {n:Nat} {x:Str} (h:sc.names.lookup x=some .cell):∃ c,(cellsFrom n sc.names []).lookup x=some c:=by
  have q:=PySem.W.cellsFrom_some sc.names n [] (.inl h)
  exact Option.isSome_iff_exists.mp q
theorem j1q {CX:CXT} {P:Program} {w:World} {K:PySem.W.Frag} {mg:Str->Option Value} {base:Heap} {N ps:List Str} {qual:Str} {scope:Scope} {f:Addr} {cd:Value} {A:Around} {outer:List Env} {s s1:Shared} {H:Hp} {E:XK} {us:List Value} {vs:List V}
    (S:FnScope N ps scope) (hd:A.handled=none) (e0:Env0 P w K mg base A outer s H) (hl:vs.length=ps.length) (r:Vals vs us)
    (x:InCallC s s.heap.objs.size (bindL (envOfC qual scope s.heap.objs.size f cd).kindOf (ps.zip us) λ _=>none) (cellsFrom (s.heap.objs.size+1) scope.names []) (bindC (envOfC qual scope s.heap.objs.size f cd).kindOf (ps.zip us) λ _=>none) s1) :
    Inv (dIq CX P w K mg base N qual scope f cd A outer s H E) [] (cJq N vs) H s1:=by
  have hpl:ps.length<=N.length:=by have:=congrArg List.length S.pre;rw [List.length_take] at this;omega
  obtain ⟨h1,tk,rfl,hk⟩:=x.done
  have noA:∀ b:Addr,b ∉ (dIq CX P w K mg base N qual scope f cd A outer s H E).ex:=λ b z=>absurd (show b∈([]:List Addr) from z) (by simp)
  refine ⟨⟨e0.mod,S.kind,rfl,rfl,Nat.le_refl _,λ y z c h1 h2=>?_,λ y hy=>?_,λ y c _ h=>?_,λ _=>hd,Around.frames_deeper e0.frames,.inr ⟨rfl,rfl⟩,λ b z=>absurd z (noA b),e0.bs,e0.bsz,λ b _ _=>noA b,λ b z=>absurd z (noA b),e0.funs,e0.frf⟩,
    rfl,e0.bare,Un.kept hk,⟨_,x.toInCall.ns,λ i y v h1 h2 h3=>?_⟩,λ y c h=>⟨_,x.cell y c h⟩,e0.hok.fresh (Nat.le_refl _),λ y c h=>?_,λ p hp=>absurd (show p∈([]:List (Addr × Obj)) from hp) (by simp),e0.hok.kept hk,?_⟩
  . exact name_of_addr x.apart (PySem.mem_of_lookup h1) (PySem.mem_of_lookup h2)
  . have hy:scope.names.lookup y=some .cell\/scope.names.lookup y=some .free:=hy
    rcases hy with hy | hy
    . exact lJq hy
    . exact absurd rfl (S.nofree _ (PySem.mem_of_lookup hy))
  . exact Nat.le_of_lt (x.above y c (PySem.mem_of_lookup h))
  . have hi:i < vs.length:=by
      unfold cJq at h2
      by_cases hi:i < vs.length
      . exact hi
      . rw [List.getElem?_append_right (by simpa using hi)] at h2
        rw [List.getElem?_replicate] at h2
        split at h2<;>cases h2
    have ha:vs[i]?=some v:=by
      unfold cJq at h2
      rw [List.getElem?_append_left (by simpa using hi),List.getElem?_map] at h2
      cases e:vs[i]? with
      | none=>rw [e] at h2;cases h2
      | some a=>rw [e] at h2;cases h2;rfl
    obtain ⟨u,hu,rv⟩:=r.get ha
    have hp:ps[i]?=some y:=by
      rw [<- S.pre,List.getElem?_take_of_lt (by omega)];exact h1
    have ndP:ps.Nodup:=by rw [<- S.pre];exact S.nd.sublist (List.take_sublist _ _)
    refine ⟨u,rv,?_⟩
    rcases S.par y (List.mem_of_getElem? hp) with k | k
    . exact .inl ⟨k,iEq ndP hp hu k⟩
    . obtain ⟨c,e⟩:=lJq (n:=s.heap.objs.size+1) k
      refine .inr ⟨.inl k,c,e,?_⟩
      have q:=x.cell y c e
      rw [j6q ndP hp hu (by show scope.names.lookup y≠_;rw [k];decide)] at q
      exact q
  . exact e0.hok.fresh (Nat.le_of_lt (x.above y c (PySem.mem_of_lookup h)))
  . unfold cJq
    show _=N.length
    rw [List.length_append,List.length_map,List.length_replicate]
    omega
theorem uNq {CX:CXT} {P:Program} {w:World} {K:PySem.W.Frag} {mg:Str->Option Value} {base:Heap} {k:Nat} {f:Addr} {name qual:Str} {params:Arguments} {body:List Stmt} {scope:Scope} {dV kV doc pm cdv ct oc:Value} {an od:Option Addr}
    {osl:Array (Option Value)} {N ps:List Str} {sp:Sp} (lk:K.lookup f=some ⟨oc,od,.func (PySem.W.fnOf name qual params body scope dV kV doc pm an cdv ct),osl⟩) (hcd:PySem.W.codeIn K cdv qual=true) (S:FnScope N ps scope)
    (len:∀ vs H Q E,sp vs H Q E->vs.length=ps.length)
    (hbody:∀ (A:Around) (outer:List Env) (s:Shared) (H:Hp) (vs:List V) (Q:VK) (E:XK),Room k (A.deeper (envOfC qual scope s.heap.objs.size f cdv))->sp vs H Q E →
      ∃ t,PSs (dIq CX P w K mg base N qual scope f cdv A outer s H E) body t/\t { nx:=λ _ H'=>Q .non H',rt:=Q } (cJq N vs) H) :
    FnOk P w K mg base CX (k+1) f (PySem.W.fnOf name qual params body scope dV kV doc pm an cdv ct) ps sp:=by
  refine ⟨len,λ A outer s H args us vs Q E hr e0 hb r hsp=>?_⟩
  have hl:=len _ _ _ _ hsp
  have KX:K.In s.heap:=e0.mod.kin.keeps λ b o e=>(e0.bs b o e).1
  have lim:s.heap.NoLimit:=e0.mod.nolimit.keeps λ b o e=>(e0.bs b o e).1
  have hkind:∀ y∈ps.zip us,scope.names.lookup y.1=some .local\/(scope.names.lookup y.1=some .cell/\((cellsFrom (s.heap.objs.size+1) scope.names []).lookup y.1).isSome=true):=λ⟨n,v⟩ hy=>by
    rcases S.par n (List.of_mem_zip hy).1 with q | q
    . exact .inl q
    . exact .inr ⟨q,PySem.W.cellsFrom_some _ _ _ (.inl q)⟩
  refine codeAny_call_function hr.depth (KX _ _ lk) rfl S.co S.gen rfl (PySem.W.codeRec_of KX hcd) (hb _ _ _ _ ?_)
  refine wpAny_newFunctionEnv_cells S.kind hkind λ env he s1 x=>?_
  subst he
  refine ⟨lim.keeps x.toInCall.keep,codeAny_func ?_⟩
  obtain ⟨t,ht,hq⟩:=hbody A outer s H vs Q E (hr.deeper _) hsp
  have I:Inv (dIq CX P w K mg base N qual scope f cdv A outer s H E) [] (cJq N vs) H s1:=j1q S hr.hd e0 hl r x
  refine wpAny_mono (ht [] s1 (cJq N vs) H _ I hq) (λ fl s' hs=>?_) λ e s' hs=>hs
  have fin:∀ {σ':St} {H':Hp} {v:V} {u:Value},Inv (dIq CX P w K mg base N qual scope f cdv A outer s H E) [] σ' H' s'->RelV v u->Q v H'->CE outer P w H s Q u s':=
    λ{σ' H' v u} J rv q=>⟨v,H',J.os,J.bare,J.base,J.hok,rv,q⟩
  cases fl with
  | ret u=>
    obtain ⟨v,σ',H',J,rv,q⟩:=hs
    exact fin J rv q
  | next=>
    obtain ⟨σ',H',J,q⟩:=hs
    exact fin (v:=V.non) (u:=Value.none) J rfl q
  | brk=>
    obtain ⟨_,_,_,q⟩:=hs
    exact False.elim q
  | cont=>
    obtain ⟨_,_,_,q⟩:=hs
    exact False.elim q
section
variable {X:Cx} {x:Str} {p pos:Pos} {e:Expr} {es:List Expr} {t:TA} {id T:String} {r:List V->Hp->VK->Prop}
def tCB (r:List V->Hp->VK->Prop) (t:TA):TE:=λ σ H Q=>t σ H λ vs H1=>r vs H1 Q
theorem sQq (hc:CallR X (.builtin id) r) (hg:Gl X x) (hm:X.mg x=none) (hv:bootBuiltins x=some (.builtin id)) (ha:PA X (e::es) t) (hn:x≠"__name__":=by decide) (hdb:(x==("__debug__" : Str))=false:=by decide)
    (he:starEach (e::es) X.env=(false,eval e X.env)::starEach es X.env:=by rfl) (hpl:(backTo pos (starEach es X.env)).any (·.1)=false:=by rfl):PE X (.Call (.Name x p) (e::es) [] pos) (tCB r t):=by
  intro pins s σ H Q I h
  refine wpAny_Call_Name_kw (eZq I hg hm hv ?_ hn hdb)
  exact PyProof.Rows.callWith_builtin1 (thn (ha pos pins s σ H _ I h) λ us s1 ⟨vs,H1,I1,r1,q1⟩=>hc pins s1 σ H1 vs us Q I1 r1 q1) he hpl
theorem oEq (hc:CallR X (.type T) r) (hg:Gl X x) (hm:X.mg x=none) (hv:bootBuiltins x=some (.type T)) (ha:PA X (e::es) t) (hn:x≠"__name__":=by decide) (hdb:(x==("__debug__" : Str))=false:=by decide)
    (he:starEach (e::es) X.env=(false,eval e X.env)::starEach es X.env:=by rfl) (hpl:(backTo pos (starEach es X.env)).any (·.1)=false:=by rfl):PE X (.Call (.Name x p) (e::es) [] pos) (tCB r t):=by
  intro pins s σ H Q I h
  refine wpAny_Call_Name_kw (eZq I hg hm hv ?_ hn hdb)
  exact PyProof.Rows.callWith_type1 (thn (ha pos pins s σ H _ I h) λ us s1 ⟨vs,H1,I1,r1,q1⟩=>hc pins s1 σ H1 vs us Q I1 r1 q1) he hpl
end
end L2
namespace HT
open PySem PyProof.Rows
section
variable {prog:Program} {w:World} {A:Around} {E:Value->Shared->Prop} {s:Shared}
theorem cat_tup {t b:Addr} {vs ws:List Value} {Q:Value->Shared->Prop} (ht:IsTup s.heap t vs.toArray) (hb:IsTup s.heap b ws.toArray) (hv:vs≠[])
    (h1:ws=[]->Q (.ref t) s) (h2:ws≠[]->Q (.ref s.heap.objs.size) { s with heap:=s.heap.push { cls:=.type "tuple", data:=.seq (vs++ws).toArray } })
    (hsz:vs.length+ws.length<=sizeLine):wpAny (model prog w) A (binaryOp .Add (.ref t) (.ref b)) Q E s:=by
  obtain ⟨⟨cls,dd,data,sl⟩,ho,hc,n,hd⟩:=id ht
  obtain ⟨⟨cls2,dd2,data2,sl2⟩,ho2,hc2,n2,hd2⟩:=id hb
  simp only at hc hd hc2 hd2
  subst hc hd hc2 hd2
  have e:vs.toArray++ws.toArray=(vs++ws).toArray:=by simp
  by_cases hw:ws=[]
  . exact concat_meets ⟨_,ho,rfl⟩ ⟨_,ho2,rfl⟩ noFill_tuple_add seq_tuple_add PySem.F.slot_tuple_add PySem.F.entry_tuple_add (PySem.F.args_tuple_add_2 _ _)
      (tuple_addW1 t b vs.toArray ws.toArray n n2 dd dd2 sl sl2 (by simpa using hv) (by simp [hw])) ⟨ho,ho2,h1 hw⟩
  . refine concat_meets ⟨_,ho,rfl⟩ ⟨_,ho2,rfl⟩ noFill_tuple_add seq_tuple_add PySem.F.slot_tuple_add PySem.F.entry_tuple_add (PySem.F.args_tuple_add_2 _ _)
      (tuple_addW2 t b vs.toArray ws.toArray n n2 dd dd2 sl sl2 (by simpa using hv) (by simpa using hw) (by rw [List.size_toArray,List.size_toArray];exact hsz)) ⟨ho,ho2,?_⟩
    rw [e]
    exact h2 hw
def sIx (n d:Nat):Option Int->Nat
  | none=>d
  | some v=>if v < 0 then (v+(n:Int)).toNat else min v.toNat n
theorem yUq (n d:Nat) (hd:d<=n) (o:Option Int):sIx n d o<=n:=by
  cases o with
  | none=>exact hd
  | some v=>
    show (if v < 0 then (v+(n:Int)).toNat else min v.toNat n)<=n
    by_cases hv:v < 0
    . rw [if_pos hv];omega
    . rw [if_neg hv];exact Nat.min_le_right _ _
theorem nWq (v:Int) (n d:Nat):(if v < 0 then max (v+(n:Int)) 0 else min v (n:Int))=((sIx n d (some v):Nat):Int):=by
  show (if v < 0 then max (v+(n:Int)) 0 else min v (n:Int))=(((if v < 0 then (v+(n:Int)).toNat else min v.toNat n):Nat):Int)
  by_cases hv:v < 0
  . simp only [if_pos hv];omega
  . simp only [if_neg hv];omega
theorem mGq (lo hi:Option Int) (n:Nat):Builtin.Slice.sliceAdjust lo hi 1 (n:Int)=(((sIx n 0 lo:Nat):Int),((sIx n n hi:Nat):Int)):=by
  have h1:¬ ((1:Int) < 0):=by omega
  unfold Builtin.Slice.sliceAdjust
  simp only [h1,if_false]
  refine Prod.ext ?_ ?_
  . cases lo with
    | none=>rfl
    | some v=>exact nWq v n 0
  . cases hi with
    | none=>rfl
    | some v=>exact nWq v n n
theorem lTq (i j:Nat):Builtin.Slice.slicePlaces (i:Int) (j:Int) 1=j - i:=by
  unfold Builtin.Slice.slicePlaces
  have h1:(1:Int) > 0:=by omega
  simp only [h1,if_true,Int.ediv_one]
  split<;>omega
theorem fYq {v:Value} {o:Option Int} {Q:Option Int->Shared->Prop} (p:IsPart v o) (h:Q o s):wpAny (model prog w) A (Builtin.Slice.slicePartIndex v) Q E s:=by
  cases p with
  | none=>exact slicePart_none h
  | int i t=>exact slicePart_int h
theorem sliceApplied_gen {sl:Addr} {vl vu:Value} {lo hi:Option Int} {n:Nat} {Q:Int × Int × Nat->Shared->Prop} (hs:s.heap.IsSliceOf sl vl vu .none) (pl:IsPart vl lo) (pu:IsPart vu hi)
    (h:Q (((sIx n 0 lo:Nat):Int),1,sIx n n hi - sIx n 0 lo) s):wpAny (model prog w) A (Builtin.Slice.sliceApplied (.ref sl) (pure (n:Int))) Q E s:=by
  obtain ⟨os,hos,hcs,hds⟩:=id hs
  unfold Builtin.Slice.sliceApplied Builtin.Slice.sliceFields
  refine wpAny_bind (wpAny_bind (wpAny_field hos hds (x:=vl) rfl (wpAny_bind (wpAny_field hos hds (x:=vu) rfl (wpAny_bind (wpAny_field hos hds (x:=.none) rfl (wpAny_pure ?_)))))))
  refine wpAny_bind (slicePart_none ?_)
  show wpAny _ _ (if ((1:Int)==0)=true then _ else _) _ _ s
  rw [if_neg (by decide)]
  refine wpAny_bind (fYq pl (wpAny_bind (fYq pu (wpAny_bind (wpAny_pure ?_)))))
  show wpAny _ _ (match Builtin.Slice.sliceAdjust lo hi 1 (n:Int) with | (lo,hi)=>pure (lo,(1:Int),Builtin.Slice.slicePlaces lo hi 1)) _ _ s
  rw [mGq lo hi n]
  show wpAny _ _ (pure (((sIx n 0 lo:Nat):Int),(1:Int),Builtin.Slice.slicePlaces ((sIx n 0 lo:Nat):Int) ((sIx n n hi:Nat):Int) 1)) _ _ s
  rw [lTq]
  exact wpAny_pure h
theorem qSq (xs:Array Value) (i k:Nat):((List.range k).filterMap λ(m:Nat)=>xs[((i:Int)+(m:Int) * 1).toNat]?).toArray=((xs.toList.drop i).take k).toArray:=by
  have e:(λ(m:Nat)=>xs[((i:Int)+(m:Int) * 1).toNat]?)=λ m=>xs[i+m]?:=by
    funext m
    have:((i:Int)+(m:Int) * 1).toNat=i+m:=by omega
    rw [this]
  rw [e]
  have:=pick_run xs i k
  rw [List.filterMap_map] at this
  have e2:((λ x=>xs[x]?) ∘ λ x=>i+x)=λ m=>xs[i+m]?:=rfl
  rw [e2] at this
  rw [this]
theorem getItem_tuple_cut {t sl:Addr} {items:Array Value} {vl vu:Value} {lo hi:Option Int} {Q:Value->Shared->Prop} (ht:IsTup s.heap t items) (hs:s.heap.IsSliceOf sl vl vu .none) (pl:IsPart vl lo) (pu:IsPart vu hi)
    (hw:¬ (sIx items.size 0 lo=0/\sIx items.size items.size hi=items.size))
    (h:Q (.ref s.heap.objs.size) { s with heap:=s.heap.push { cls:=.type "tuple", data:=.seq ((items.toList.drop (sIx items.size 0 lo)).take (sIx items.size items.size hi - sIx items.size 0 lo)).toArray } })
    (hsz:items.size<=sizeLine):wpAny (model prog w) A (getItem (.ref t) (.ref sl)) Q E s:=by
  have htake:sizeOk (.seq ((items.toList.drop (sIx items.size 0 lo)).take (sIx items.size items.size hi - sIx items.size 0 lo)).toArray):=by
    show ((items.toList.drop (sIx items.size 0 lo)).take (sIx items.size items.size hi - sIx items.size 0 lo)).toArray.size<=sizeLine
    rw [List.size_toArray,List.length_take,List.length_drop,Array.length_toList]
    omega
  have hj:sIx items.size items.size hi<=items.size:=yUq _ _ (Nat.le_refl _) hi
  obtain ⟨os,hos,hcs,hds⟩:=id hs
  have hTs:s.TypeIs (.ref sl) "slice":=⟨os,hos,hcs⟩
  unfold getItem
  try with_reducible refine wpAny_holding ?_
  first | refine wpAny_bind (wpAny_pure ?_) | skip
  refine wpAny_bind (wpAny_sequenceKey ht.typeIs (by decide) ?_)
  refine wpAny_bind (wpAny_callSpecial?_slot (name:=Str.ofString "__getitem__") ht.typeIs PyProof.Rows.slot_tuple_getitem
    (wpAny_call_entry PyProof.Rows.slot_tuple_getitem ht.typeIs entry_tuple_getitem ?_ (args_tuple_getitem _ _)))
  show wpAny _ _ (Builtin.Tuple.tupleItemsOf (.ref t) >>= _) _ _ s
  refine wpAny_bind (tupleItemsOf_ ht ?_)
  refine wpAny_bind (wpAny_typeOf hTs ?_)
  rw [if_pos (by decide)]
  refine wpAny_bind (sliceApplied_gen hs pl pu ?_)
  have hno:¬ ((((sIx items.size 0 lo:Nat):Int)==0&&(1:Int)==1&&(sIx items.size items.size hi - sIx items.size 0 lo)==items.size)=true):=by
    intro q
    rw [Bool.and_eq_true,Bool.and_eq_true] at q
    have q1:((sIx items.size 0 lo:Nat):Int)=0:=eq_of_beq q.1.1
    have q2:sIx items.size items.size hi - sIx items.size 0 lo=items.size:=eq_of_beq q.2
    exact hw ⟨by omega,by omega⟩
  show wpAny _ _ (if (((sIx items.size 0 lo:Nat):Int)==0&&(1:Int)==1&&(sIx items.size items.size hi - sIx items.size 0 lo)==items.size)=true then _ else _) _ _ s
  rw [if_neg hno,qSq]
  first
    | exact wpAny_bind (m:=Builtin.Tuple.tupleExact _) (wpAny_newObj_type (wpAny_pure ⟨_,rfl,wpAny_pure h⟩) htake)
    | exact wpAny_bind (m:=Builtin.Tuple.tupleExact _) (wpAny_newObj_type (wpAny_bind (wpAny_pure (wpAny_pure ⟨_,rfl,wpAny_pure h⟩))) htake)
    | exact wpAny_bind (wpAny_bind (m:=Builtin.Tuple.tupleExact _) (wpAny_newObj_type (wpAny_pure (wpAny_pure ⟨_,rfl,wpAny_pure h⟩)) htake))
    | exact wpAny_bind (wpAny_bind (m:=Builtin.Tuple.tupleExact _) (wpAny_newObj_type (wpAny_pure ⟨_,rfl,wpAny_pure h⟩) htake))
end
end HT
namespace L2
open PySem PySem.Spec PyProof.Rows
abbrev TO:=St->Hp->(Option Int->Hp->Prop)->Prop
def PO (X:Cx) (e:Option Expr) (t:TO):Prop:=
  ∀ (pins:List (Addr × Obj)) (s:Shared) (σ:St) (H:Hp) (Q:Option Int->Hp->Prop),Inv X pins σ H s->t σ H Q →
    wpAny (model X.prog X.w) X.A (evalPart e X.env) (λ u s'=>∃ o H',Inv X pins σ H' s'/\IsPart u o/\Q o H') X.xe s
def oSq:TO:=λ _ H Q=>Q none H
def yTq (t:TE):TO:=λ σ H Q=>t σ H λ x H1=>∃ i,x=.int i/\Q (some i) H1
section
variable {X:Cx} {e:Expr} {te:TE} {lo hi:Option Expr} {tl th:TO} {pos p2:Pos}
theorem wUq:PO X none oSq:=by
  intro pins s σ H Q I h
  rw [evalPart_none]
  exact wpAny_pure ⟨none,H,I,.none,h⟩
theorem vOq (h:PE X e te):PO X (some e) (yTq te):=by
  intro pins s σ H Q I hw
  rw [evalPart_some]
  refine thn (h pins s σ H _ I hw) λ u s1 ⟨x,H1,I1,r1,q1⟩=>?_
  obtain ⟨i,rfl,q⟩:=q1
  obtain ⟨t,rfl⟩:=r1
  exact ⟨some i,H1,I1,.int i t,q⟩
def SlR (X:Cx) (r:V->Option Int->Option Int->Hp->VK->Prop):Prop:=
  ∀ (pins:List (Addr × Obj)) (s:Shared) (σ:St) (H:Hp) (x:V) (v vl vu:Value) (lo hi:Option Int) (sl:Addr) (Q:VK),Inv X pins σ H s->RelV x v->s.heap.IsSliceOf sl vl vu .none->IsPart vl lo->IsPart vu hi->r x lo hi H Q →
    ∃ T id,typeLookup (.type T) "__getitem__" = pure (some (.builtin id))/\s.TypeIs v T/\wpAny (model X.prog X.w) X.A (getItem v (.ref sl)) (EP X pins σ Q) X.xe s
theorem SlR.or {r r':V->Option Int->Option Int->Hp->VK->Prop} (h:SlR X r) (h':SlR X r'):SlR X (λ x lo hi H Q=>r x lo hi H Q\/r' x lo hi H Q):=by
  intro pins s σ H x v vl vu lo hi sl Q I rx hs pl pu q
  rcases q with q | q
  . exact h pins s σ H x v vl vu lo hi sl Q I rx hs pl pu q
  . exact h' pins s σ H x v vl vu lo hi sl Q I rx hs pl pu q
def tSl (r:V->Option Int->Option Int->Hp->VK->Prop) (te:TE) (tl th:TO):TE:=λ σ H Q=>te σ H λ x H1=>tl σ H1 λ l H2=>th σ H2 λ u H3=>r x l u H3 Q
theorem qLq {r:V->Option Int->Option Int->Hp->VK->Prop} (hr:SlR X r) (he:PE X e te) (hl:PO X lo tl) (hu:PO X hi th):PE X (.Subscript e (.Slice lo hi none p2) pos) (tSl r te tl th):=by
  intro pins s σ H Q I h
  refine Subscript_ (thn (he pins s σ H _ I h) λ v s1 ⟨x,H1,I1,r1,q1⟩=>?_)
  refine wpAny_Slice (thn (hl pins s1 σ H1 _ I1 q1) λ vl s2 ⟨l,H2,I2,pl,q2⟩=>thn (hu pins s2 σ H2 _ I2 q2) λ vu s3 ⟨u,H3,I3,pu,q3⟩=>?_)
  rw [evalPart_none]
  refine wpAny_pure ?_
  have I4:Inv X pins σ H3 { s3 with heap:=s3.heap.push { cls:=.type "slice", data:=.fields #[vl,vu,.none] } }:=I3.kept (t':=s3.toks) λ b ob q=>Heap.get?_push_of_some _ q
  obtain ⟨T,id,hT,ht,hg⟩:=hr pins { s3 with heap:=s3.heap.push { cls:=.type "slice", data:=.fields #[vl,vu,.none] } } σ H3 x v vl vu l u s3.heap.objs.size Q I4 r1 (Heap.IsSliceOf.new ..) pl pu q3
  show wpAny (model X.prog X.w) X.A (subscriptTail e (.Slice lo hi none p2) v (.ref s3.heap.objs.size)) (EP X pins σ Q) X.xe { s3 with heap:=s3.heap.push { cls:=.type "slice", data:=.fields #[vl,vu,.none] } }
  exact tail_any (ops:=[.ref s3.heap.objs.size,v]) ht hT hg (by with_unfolding_all rfl)
def mJq (xs:List V) (lo hi:Option Int):List V:=(xs.drop (HT.sIx xs.length 0 lo)).take (HT.sIx xs.length xs.length hi - HT.sIx xs.length 0 lo)
theorem eXq (xs:List V) (lo hi:Option Int):(mJq xs lo hi).length<=xs.length:=by
  unfold mJq
  rw [List.length_take,List.length_drop]
  omega
def rSlT (K:PySem.W.Frag):V->Option Int->Option Int->Hp->VK->Prop:=λ x lo hi H Q=>∃ a xs,x=.ref a/\SqT K H a xs ∧
  ¬ (HT.sIx xs.length 0 lo=0/\HT.sIx xs.length xs.length hi=xs.length)/\∀ p,H p=none->Q (.ref p) (upd H p (.tup (mJq xs lo hi)))
theorem aA3q:SlR X (rSlT X.K):=by
  intro pins s σ H x v vl vu lo hi sl Q I rx hs pl pu h
  obtain ⟨a,xs,rfl,hx,hw,q⟩:=h
  cases rx
  obtain ⟨its,r,ht,hz⟩:=I.tuple hx
  have hlen:its.toArray.size=xs.length:=by rw [List.size_toArray];exact r.length.symm
  refine ⟨"tuple", _,PyProof.Rows.slot_tuple_getitem.lookup,ht.typeIs,?_⟩
  refine HT.getItem_tuple_cut ht hs pl pu (by rw [hlen];exact hw) ?_ (by rw [hlen];exact hz)
  rw [hlen]
  refine ⟨.ref s.heap.objs.size,_,I.laid (t':=s.toks) (o:=.tup (mJq xs lo hi)) (λ b ob q=>Heap.get?_push_of_some _ q) (Nat.le_refl _) ?_,rfl,q _ (I.hok.fresh (Nat.le_refl _))⟩
  exact ⟨Nat.le_trans (eXq xs lo hi) hz,_,(r.drop (HT.sIx xs.length 0 lo)).take (HT.sIx xs.length xs.length hi - HT.sIx xs.length 0 lo),IsTup.new _ _⟩
def aI6q (K:PySem.W.Frag):R2:=λ x y H Q=>∃ a b xs ys,x=.ref a/\y=.ref b/\SqT K H a xs/\SqT K H b ys/\xs≠[]/\xs.length+ys.length<=sizeLine ∧
  (ys=[]->Q (.ref a) H)/\(ys≠[]->∀ p,H p=none->Q (.ref p) (upd H p (.tup (xs++ys))))
theorem Vals.nil_iff {xs:List V} {us:List Value} (r:Vals xs us):us=[] ↔ xs=[]:=by
  cases r with
  | nil=>simp
  | cons _ _=>simp
theorem v6q:OpR X (binaryOp .Add) (aI6q X.K):=by
  intro pins s σ H x y v u Q I rx ry h
  obtain ⟨a,b,xs,ys,rfl,rfl,ha,hb,hx,hz,q1,q2⟩:=h
  cases rx
  cases ry
  obtain ⟨its,r1,p1,_⟩:=I.tuple ha
  obtain ⟨its2,r2,p2,_⟩:=I.tuple hb
  refine HT.cat_tup p1 p2 (λ z=>hx (r1.nil_iff.mp z)) (λ z=>⟨.ref a,H,I,rfl,q1 (r2.nil_iff.mp z)⟩) (λ z=>?_) (by rw [<- r1.length,<- r2.length];exact hz)
  refine ⟨.ref s.heap.objs.size,_,I.laid (t':=s.toks) (o:=.tup (xs++ys)) (λ b ob q=>Heap.get?_push_of_some _ q) (Nat.le_refl _) ?_,rfl,q2 (λ w=>z (r2.nil_iff.mpr w)) _ (I.hok.fresh (Nat.le_refl _))⟩
  exact ⟨by rw [List.length_append];exact hz,_,r1.append r2,IsTup.new _ _⟩
end
def ixN (n:Nat) (i:Int):Option Nat:=if 0<=i then (if i < n then some i.toNat else none) else if -(n:Int)<=i then some (i+n).toNat else none
def atI {α:Type} (xs:List α) (i:Int):Option α:=(ixN xs.length i).bind λ j=>xs[j]?
theorem oJq {n:Nat} {i:Int} {j:Nat} (h:ixN n i=some j):seqIndex? i n=some j/\j < n/\-(n:Int)<=i/\i < n:=by
  unfold ixN at h
  by_cases h0:0<=i
  . rw [if_pos h0] at h
    by_cases h1:i < n
    . rw [if_pos h1] at h
      have e:i.toNat=j:=Option.some.inj h
      exact ⟨by rw [seqIndex_of h0 h1,e],by omega,by omega,h1⟩
    . rw [if_neg h1] at h;cases h
  . rw [if_neg h0] at h
    by_cases h1:-(n:Int)<=i
    . rw [if_pos h1] at h
      have e:(i+n).toNat=j:=Option.some.inj h
      exact ⟨by rw [seqIndex_neg (by omega) h1,e],by omega,h1,by omega⟩
    . rw [if_neg h1] at h;cases h
theorem k9q {α:Type} {xs:List α} {i:Int} {v:α} (h:atI xs i=some v):∃ j,seqIndex? i xs.length=some j/\xs[j]?=some v/\j < xs.length/\-(xs.length:Int)<=i/\i < xs.length:=by
  unfold atI at h
  cases e:ixN xs.length i with
  | none=>rw [e] at h;cases h
  | some j=>
    rw [e] at h
    obtain ⟨h1,h2,h3,h4⟩:=oJq e
    exact ⟨j,h1,h,h2,h3,h4⟩
theorem cQq {α:Type} {xs:List α} {j:Nat} {v:α} (h:xs[j]?=some v):atI xs (j:Int)=some v:=by
  have hj:j < xs.length:=(List.getElem?_eq_some_iff.mp h).1
  have e:ixN xs.length (j:Int)=some j:=by
    unfold ixN
    rw [if_pos (by omega),if_pos (by omega)];simp
  unfold atI;rw [e];exact h
def hLq (b:Expr):Prop:=∀ o i,subscripted b false o i=operate [o,i] (getItem o i)
def IxR (X:Cx) (r:R2):Prop:=
  ∀ (value slice:Expr) (pins:List (Addr × Obj)) (s:Shared) (σ:St) (H:Hp) (x y:V) (v u:Value) (Q:VK),Inv X pins σ H s->RelV x v->RelV y u->r x y H Q →
    subscripted slice false v u=operate [v,u] (getItem v u)->wpAny (model X.prog X.w) X.A (subscriptTail value slice v u) (EP X pins σ Q) X.xe s
def MtR (X:Cx) (id:String) (r:V->List V->Hp->VK->Prop):Prop:=
  ∀ (pins:List (Addr × Obj)) (s:Shared) (σ:St) (H:Hp) (x:V) (xs:List V) (v:Value) (us:List Value) (Q:VK),Inv X pins σ H s->RelV x v->Vals xs us->r x xs H Q →
    wpAny (model X.prog X.w) X.A (call (.builtin id) (v::us)) (EP X pins σ Q) X.xe s
section
variable {X:Cx} {a b:Expr} {ta tb:TE} {pos:Pos}
theorem IxR.or {r r':R2} (h:IxR X r) (h':IxR X r'):IxR X (λ x y H Q=>r x y H Q\/r' x y H Q):=by
  intro value slice pins s σ H x y v u Q I rx ry q hs
  rcases q with q | q
  . exact h value slice pins s σ H x y v u Q I rx ry q hs
  . exact h' value slice pins s σ H x y v u Q I rx ry q hs
theorem MtR.or {id:String} {r r':V->List V->Hp->VK->Prop} (h:MtR X id r) (h':MtR X id r'):MtR X id (λ x xs H Q=>r x xs H Q\/r' x xs H Q):=by
  intro pins s σ H x xs v us Q I rx rs q
  rcases q with q | q
  . exact h pins s σ H x xs v us Q I rx rs q
  . exact h' pins s σ H x xs v us Q I rx rs q
theorem aG3q {r:R2} (hr:IxR X r) (ha:PE X a ta) (hb:PE X b tb) (hs:hLq b):PE X (.Subscript a b pos) (tOp r ta tb):=by
  intro pins s σ H Q I h
  exact Subscript_ (binT ha hb I h λ v u s2 x y H2 I2 rx ry q=>hr a b pins s2 σ H2 x y v u Q I2 rx ry q (hs _ _))
def rIxL (K:PySem.W.Frag):R2:=λ x y H Q=>∃ p xs i v,x=.ref p/\y=.int i/\SqL K H p xs/\atI xs i=some v/\Q v H
def rIxT (K:PySem.W.Frag):R2:=λ x y H Q=>∃ p xs i v,x=.ref p/\y=.int i/\SqT K H p xs/\atI xs i=some v/\Q v H
def rIxS:R2:=λ x y H Q=>∃ z i c,x=.str z/\y=.int i/\z.length<=sizeLine/\atI z.cps.toList i=some c/\Q (.str ⟨#[c]⟩) H
theorem ix_list:IxR X (rIxL X.K):=by
  intro value slice pins s σ H x y v u Q I rx ry h hs
  obtain ⟨p,xs,i,z,rfl,rfl,hq,he,q⟩:=h
  cases rx
  obtain ⟨t,rfl⟩:=ry
  obtain ⟨its,r,pl,hz⟩:=I.list hq
  obtain ⟨j,h1,h2,h3,h4,h5⟩:=k9q he
  obtain ⟨w,ew,rw'⟩:=r.get h2
  have hl:=r.length
  have hn:=eAq
  have fin:EP X pins σ Q w s:=⟨z,H,I,rw',q⟩
  by_cases h0:0<=i
  . have hj:i.toNat=j:=by
      rw [seqIndex_of h0 h5] at h1
      exact Option.some.inj h1
    exact item_listR pl.isList h0 (by omega) (by rw [hj];simpa using ew) fin hs
  . have hj:(i+(its.toArray.size:Int)).toNat=j:=by
      rw [seqIndex_neg (by omega) h4] at h1
      rw [List.size_toArray,<- hl]
      exact Option.some.inj h1
    exact subscriptTail_builtinR (x:=w) pl.isList.typeIs slot_list_getitem.lookup
      (wpAny_getItem_list_neg (Q:=λ r s'=>r=w/\EP X pins σ Q r s') pl.isList (by omega) (by rw [List.size_toArray]<;>omega) (by omega) (by rw [hj];simpa using ew) ⟨rfl,fin⟩) hs
theorem ix_tup:IxR X (rIxT X.K):=by
  intro value slice pins s σ H x y v u Q I rx ry h hs
  obtain ⟨p,xs,i,z,rfl,rfl,hq,he,q⟩:=h
  cases rx
  obtain ⟨t,rfl⟩:=ry
  obtain ⟨its,r,pl,hz⟩:=I.tuple hq
  obtain ⟨j,h1,h2,h3,h4,h5⟩:=k9q he
  obtain ⟨w,ew,rw'⟩:=r.get h2
  have hl:=r.length
  have hn:=eAq
  have fin:EP X pins σ Q w s:=⟨z,H,I,rw',q⟩
  exact subscriptTail_builtinR (x:=w) pl.typeIs slot_tuple_getitem.lookup
    (getItem_tuple (j:=j) (Q:=λ r s'=>r=w/\EP X pins σ Q r s') pl (by omega) (by omega) (by rw [List.size_toArray,<- hl];exact h1) (by simpa using ew) ⟨rfl,fin⟩) hs
theorem xUq:IxR X rIxS:=by
  intro value slice pins s σ H x y v u Q I rx ry h hs
  obtain ⟨z,i,c,rfl,rfl,hz,he,q⟩:=h
  obtain ⟨t,rfl⟩:=rx
  obtain ⟨t',rfl⟩:=ry
  obtain ⟨j,h1,h2,h3,h4,h5⟩:=k9q he
  have hl:z.cps.toList.length=z.length:=by simp [Str.length]
  rw [hl] at h1 h4 h5
  have hn:=eAq
  exact tail_any (typeIs_str s z t) slot_str_getitem.lookup (getItem_str (c:=c) (by
    have e1:decide (i < -(2 ^ 63:Int))=false:=decide_eq_false (by omega)
    have e2:decide (i ≥ 2 ^ 63)=false:=decide_eq_false (by omega)
    rw [e1,e2,Bool.or_false]) (by rw [h1];simpa using h2) ⟨.str ⟨#[c]⟩,H,I.tok _,⟨_,rfl⟩,q⟩) hs
def rIx (K:PySem.W.Frag):R2:=λ x y H Q=>rIxL K x y H Q\/rIxT K x y H Q\/rIxS x y H Q
theorem t1q:IxR X (rIx X.K):=ix_list.or (ix_tup.or xUq)
theorem lWq (its:List Value) (n j:Nat) (u:Value):Obj.mapSeq (·.setIfInBounds j u) { cls:=.type "list", data:=.seq its.toArray n }={ cls:=.type "list", data:=.seq (its.set j u).toArray n }:=by
  simp [Obj.mapSeq]
theorem Inv.lst {pins:List (Addr × Obj)} {σ:St} {H:Hp} {s:Shared} {p:Addr} {xs:List V} (I:Inv X pins σ H s) (h:H p=some (.lst xs)) :
    ∃ (its:List Value) (n:Nat),Vals xs its/\s.heap.get? p=some { cls:=.type "list", data:=.seq its.toArray n }/\xs.length<=sizeLine:=by
  obtain ⟨z,its,n,r,e⟩:=I.hok p _ h
  exact ⟨its,n,r,e,z⟩
theorem Inv.lstUpd {pins:List (Addr × Obj)} {σ:St} {H:Hp} {s:Shared} {p:Addr} {xs ys:List V} {its its':List Value} {n n':Nat} {f:Obj->Obj} (I:Inv X pins σ H s) (h:H p=some (.lst xs))
    (ho:s.heap.get? p=some { cls:=.type "list", data:=.seq its.toArray n }) (hf:f { cls:=.type "list", data:=.seq its.toArray n }={ cls:=.type "list", data:=.seq its'.toArray n' }) (r:Vals ys its') (hz:ys.length<=sizeLine) (t:Nat) :
    Inv X pins σ (upd H p (.lst ys)) { s with heap:=s.heap.update p f,toks:=t }:=by
  have e:(s.heap.update p f).get? p=some { cls:=.type "list", data:=.seq its'.toArray n' }:=by
    rw [Heap.get?_update_self f ho (by rw [hf]<;>rfl),hf]
  refine I.write (x:=p) (e:=p) (by rw [h];trivial) (.inl rfl) (λ b u hb q=>(Heap.get?_update_other _ _ (Ne.symm hb)).trans q) ⟨_,e⟩ ?_
  exact ⟨hz,its',n',r,e⟩
def aM4q:V->V->V->Hp->(Hp->Prop)->Prop:=λ o i v H Q=>∃ p xs k j,o=.ref p/\i=.int k/\H p=some (.lst xs)/\ixN xs.length k=some j/\Q (upd H p (.lst (xs.set j v)))
theorem sGq:PSet X aM4q:=by
  intro pins s σ H o i v ov iv u Q I ro ri rv h
  obtain ⟨p,xs,k,j,rfl,rfl,hp,hj,q⟩:=h
  cases ro
  obtain ⟨t,rfl⟩:=ri
  obtain ⟨its,n,r,ho,hz⟩:=I.lst hp
  obtain ⟨h1,h2,h3,h4⟩:=oJq hj
  have hl:=r.length
  have hn:=eAq
  have I':Inv X pins σ (upd H p (.lst (xs.set j v))) { s with heap:=s.heap.update p (Obj.mapSeq (·.setIfInBounds j u)) }:=
    I.lstUpd hp ho (lWq its n j u) (r.set rv j) (by rw [List.length_set];exact hz) s.toks
  by_cases h0:0<=k
  . have hk:k.toNat=j:=by
      rw [seqIndex_of h0 h4] at h1
      exact Option.some.inj h1
    exact PySem.W.ki_setAt ho h0 (by omega) (by rw [List.size_toArray,<- hl];exact h4) (by rw [hk];exact ⟨_,I',q⟩)
  . have hk:(k+(its.toArray.size:Int)).toNat=j:=by
      rw [seqIndex_neg (by omega) h3] at h1
      rw [List.size_toArray,<- hl]
      exact Option.some.inj h1
    exact PySem.W.ki_setBack ho (by omega) (by rw [List.size_toArray,<- hl];exact h3) (by omega) (by rw [hk];exact ⟨_,I',q⟩)
theorem j2q (lo hi:Option Int) (n:Nat):(sliceBounds lo hi none n).1=((HT.sIx n 0 lo:Nat):Int)/\(sliceBounds lo hi none n).2.1=((HT.sIx n n hi:Nat):Int)/\(sliceBounds lo hi none n).2.2=1:=by
  refine ⟨?_,?_,rfl⟩
  . cases lo with
    | none=>simp [sliceBounds,HT.sIx]
    | some i=>
      simp only [sliceBounds,HT.sIx,Option.getD_none,show (1:Int) > 0 by decide,if_true]
      by_cases h:i < 0
      . simp only [h,if_true]<;>omega
      . simp only [h,if_false]<;>omega
  . cases hi with
    | none=>simp [sliceBounds,HT.sIx]
    | some i=>
      simp only [sliceBounds,HT.sIx,Option.getD_none,show (1:Int) > 0 by decide,if_true]
      by_cases h:i < 0
      . simp only [h,if_true]<;>omega
      . simp only [h,if_false]<;>omega
theorem i2q (its:List Value) (lo hi:Option Int):slicePick its.toArray lo hi none=((its.drop (HT.sIx its.length 0 lo)).take (HT.sIx its.length its.length hi - HT.sIx its.length 0 lo)).toArray:=by
  obtain ⟨h1,h2,h3⟩:=j2q lo hi its.toArray.size
  unfold slicePick
  rw [h1,h2,h3]
  simp only [sliceRange_one,pick_run,List.size_toArray]<;>rfl
def rSlL (K:PySem.W.Frag):V->Option Int->Option Int->Hp->VK->Prop:=λ x lo hi H Q=>∃ a xs,x=.ref a/\SqL K H a xs/\∀ p,H p=none->Q (.ref p) (upd H p (.lst (mJq xs lo hi)))
theorem vXq:SlR X (rSlL X.K):=by
  intro pins s σ H x v vl vu lo hi sl Q I rx hs pl pu h
  obtain ⟨a,xs,rfl,hx,q⟩:=h
  cases rx
  obtain ⟨its,r,ht,hz⟩:=I.list hx
  have hlen:=r.length
  refine ⟨"list", _,slot_list_getitem.lookup,ht.isList.typeIs,?_⟩
  refine wpAny_getItem_list_slice ht.isList hs pl pu .none (by simp) ?_ (by rw [List.size_toArray]<;>omega)
  rw [i2q,<- hlen]
  refine ⟨.ref s.heap.objs.size,_,I.laid (t':=s.toks) (o:=.lst (mJq xs lo hi)) (λ b ob q=>Heap.get?_push_of_some _ q) (Nat.le_refl _) ?_,rfl,q _ (I.hok.fresh (Nat.le_refl _))⟩
  exact ⟨Nat.le_trans (eXq xs lo hi) hz,_,0,(r.drop (HT.sIx xs.length 0 lo)).take (HT.sIx xs.length xs.length hi - HT.sIx xs.length 0 lo),Heap.get?_push_size _ rfl⟩
def fRq:V->Bool
  | .non=>true
  | .bl _=>true
  | .int _=>true
  | .str _=>true
  | _=>false
def eqV:V->V->Bool
  | .non,.non=>true
  | .bl a,.bl b=>a==b
  | .bl a,.int b=>(if a then 1 else 0)==b
  | .int a,.bl b=>a==(if b then 1 else 0)
  | .int a,.int b=>a==b
  | .str a,.str b=>a==b
  | _,_=>false
theorem yNq {A:Around} {s:Shared} {y x:V} {u v:Value} (ry:RelV y u) (rx:RelV x v) (fy:fRq y=true) (fx:fRq x=true):SeqAt.EqAt A s u v (eqV y x):=by
  cases y with
  | non=>
    cases ry
    cases x with
    | non=>cases rx;exact SeqAt.EqAt.same _
    | bl b=>cases rx;exact SeqAt.EqAt.none_bool b
    | int b=>obtain ⟨t,rfl⟩:=rx;exact SeqAt.EqAt.none_int b t
    | str b=>obtain ⟨t,rfl⟩:=rx;exact SeqAt.EqAt.none_str b t
    | _=>exact absurd (show false=true from fx) Bool.false_ne_true
  | bl a=>
    cases ry
    cases x with
    | non=>cases rx;exact SeqAt.EqAt.bool_none a
    | bl b=>cases rx;exact SeqAt.EqAt.bool_bool a b
    | int b=>obtain ⟨t,rfl⟩:=rx;exact SeqAt.EqAt.bool_int a b t
    | str b=>obtain ⟨t,rfl⟩:=rx;exact SeqAt.EqAt.bool_str a b t
    | _=>exact absurd (show false=true from fx) Bool.false_ne_true
  | int a=>
    obtain ⟨t',rfl⟩:=ry
    cases x with
    | non=>cases rx;exact SeqAt.EqAt.int_none a t'
    | bl b=>cases rx;exact SeqAt.EqAt.int_bool a t' b
    | int b=>obtain ⟨t,rfl⟩:=rx;exact SeqAt.EqAt.int_int a t' b t
    | str b=>obtain ⟨t,rfl⟩:=rx;exact SeqAt.EqAt.int_str a t' b t
    | _=>exact absurd (show false=true from fx) Bool.false_ne_true
  | str a=>
    obtain ⟨t',rfl⟩:=ry
    cases x with
    | non=>cases rx;exact SeqAt.EqAt.str_none a t'
    | bl b=>cases rx;exact SeqAt.EqAt.str_bool a t' b
    | int b=>obtain ⟨t,rfl⟩:=rx;exact SeqAt.EqAt.str_int a t' b t
    | str b=>obtain ⟨t,rfl⟩:=rx;exact SeqAt.EqAt.str_str a t' b t
    | _=>exact absurd (show false=true from fx) Bool.false_ne_true
  | _=>exact absurd (show false=true from fy) Bool.false_ne_true
def eqU (x:V) (u:Value):Bool:=match u with
  | .none=>eqV .non x
  | .bool b=>eqV (.bl b) x
  | .int i _=>eqV (.int i) x
  | .str z _=>eqV (.str z) x
  | _=>false
theorem tTq {x y:V} {u:Value} (r:RelV y u) (f:fRq y=true):eqU x u=eqV y x:=by
  cases y with
  | non=>cases r;rfl
  | bl b=>cases r;rfl
  | int i=>obtain ⟨t,rfl⟩:=r;rfl
  | str z=>obtain ⟨t,rfl⟩:=r;rfl
  | _=>exact absurd (show false=true from f) Bool.false_ne_true
theorem f9q {x:V}:∀ {xs:List V} {us:List Value},Vals xs us->xs.all fRq=true->us.any (eqU x)=xs.any λ y=>eqV y x
  | _,_,.nil,_=>rfl
  | y::xs,u::us,.cons r t,f=>by
    rw [List.all_cons,Bool.and_eq_true] at f
    rw [List.any_cons,List.any_cons,tTq r f.1,f9q t f.2]
theorem d9q {A:Around} {s:Shared} {x:V} {v:Value} (rx:RelV x v) (fx:fRq x=true):∀ {xs:List V} {us:List Value},Vals xs us->xs.all fRq=true->∀ u∈us,SeqAt.EqAt A s u v (eqU x u)
  | _,_,.nil,_=>λ u hu=>by cases hu
  | y::xs,u::us,.cons r t,f=>λ u' hu=>by
    rw [List.all_cons,Bool.and_eq_true] at f
    rcases List.mem_cons.mp hu with rfl | hu
    . rw [tTq r f.1];exact yNq r rx f.1 fx
    . exact d9q rx fx t f.2 u' hu
def inV (x:V) (xs:List V):Bool:=xs.any λ y=>eqV y x
def rIn (K:PySem.W.Frag) (neg:Bool):R2:=λ x y H Q=>∃ p xs,y=.ref p/\(SqL K H p xs\/SqT K H p xs)/\fRq x=true/\xs.all fRq=true/\Q (.bl (if neg then !inV x xs else inV x xs)) H
theorem op_in_seq:OpR X (compareOp .In) (rIn X.K false):=by
  intro pins s σ H x y v u Q I rx ry h
  obtain ⟨p,xs,rfl,hq,fx,fs,q⟩:=h
  cases ry
  rcases hq with hq | hq
  . obtain ⟨its,r,pl,hz⟩:=I.list hq
    refine SeqAt.in_listAt (eqU x) pl.isList (λ w hw=>d9q rx fx r fs w (by simpa using hw)) ⟨.bl _,H,I,rfl,?_⟩
    rw [show its.toArray.any (eqU x)=its.any (eqU x) by simp,f9q r fs]
    exact q
  . obtain ⟨its,r,pl,hz⟩:=I.tuple hq
    refine SeqAt.in_tupleAt (eqU x) pl (λ w hw=>d9q rx fx r fs w (by simpa using hw)) ⟨.bl _,H,I,rfl,?_⟩
    rw [show its.toArray.any (eqU x)=its.any (eqU x) by simp,f9q r fs]
    exact q
theorem op_notIn_seq:OpR X (compareOp .NotIn) (rIn X.K true):=by
  intro pins s σ H x y v u Q I rx ry h
  obtain ⟨p,xs,rfl,hq,fx,fs,q⟩:=h
  cases ry
  rcases hq with hq | hq
  . obtain ⟨its,r,pl,hz⟩:=I.list hq
    refine SeqAt.notIn_listAt (eqU x) pl.isList (λ w hw=>d9q rx fx r fs w (by simpa using hw)) ⟨.bl _,H,I,rfl,?_⟩
    rw [show its.toArray.any (eqU x)=its.any (eqU x) by simp,f9q r fs]
    exact q
  . obtain ⟨its,r,pl,hz⟩:=I.tuple hq
    refine SeqAt.notIn_tupleAt (eqU x) pl (λ w hw=>d9q rx fx r fs w (by simpa using hw)) ⟨.bl _,H,I,rfl,?_⟩
    rw [show its.toArray.any (eqU x)=its.any (eqU x) by simp,f9q r fs]
    exact q
theorem iJq:OpR X (compareOp .NotIn) (λ x y H Q=>∃ i j,x=.str i/\y=.str j/\Q (.bl (!(!(Builtin.Str.occurrences j i 0 j.length 1).isEmpty))) H):=by
  intro pins s σ H x y v u Q I rx ry h
  obtain ⟨i,j,rfl,rfl,q⟩:=h
  obtain ⟨t,rfl⟩:=rx
  obtain ⟨t',rfl⟩:=ry
  exact notIn_str ⟨.bl _,H,I,rfl,q⟩
theorem call_len_seq:CallR X (.builtin "len") (λ xs H Q=>∃ p ys,xs=[.ref p]/\(SqL X.K H p ys\/SqT X.K H p ys)/\Q (.int ys.length) H):=by
  intro pins s σ H xs us Q I r h
  obtain ⟨p,ys,rfl,hq,q⟩:=h
  obtain ⟨u,rfl,rx⟩:=jQq r
  cases rx
  have hn:=eAq
  rcases hq with hq | hq
  . obtain ⟨its,r',pl,hz⟩:=I.list hq
    have hlen:=r'.length
    exact Calls.call_len_list pl.isList (by simp only [List.size_toArray]<;>omega) ⟨.int ys.length,H,I.tok _,⟨s.toks+1,by rw [List.size_toArray,hlen]⟩,q⟩
  . obtain ⟨its,r',pl,hz⟩:=I.tuple hq
    have hlen:=r'.length
    exact len_tuple pl (by simp only [List.size_toArray]<;>omega) ⟨.int ys.length,H,I.tok _,⟨s.toks+1,by rw [List.size_toArray,hlen]⟩,q⟩
theorem iXq:CallR X (.builtin "len") (λ xs H Q=>∃ z,xs=[.str z]/\z.length<=sizeLine/\Q (.int z.length) H):=by
  intro pins s σ H xs us Q I r h
  obtain ⟨z,rfl,hz,q⟩:=h
  obtain ⟨u,rfl,t,rfl⟩:=jQq r
  have hn:=eAq
  exact len_str (by omega) ⟨.int z.length,H,I.tok _,⟨_,rfl⟩,q⟩
theorem CallR.or {f:Value} {r r':List V->Hp->VK->Prop} (h:CallR X f r) (h':CallR X f r'):CallR X f (λ xs H Q=>r xs H Q\/r' xs H Q):=by
  intro pins s σ H xs us Q I rs q
  rcases q with q | q
  . exact h pins s σ H xs us Q I rs q
  . exact h' pins s σ H xs us Q I rs q
theorem hXq:CallR X (.type "tuple") (λ xs H Q=>∃ p ys,xs=[.ref p]/\((SqL X.K H p ys/\∀ l,H l=none->Q (.ref l) (upd H l (.tup ys)))\/(SqT X.K H p ys/\Q (.ref p) H))):=by
  intro pins s σ H xs us Q I r h
  obtain ⟨p,ys,rfl,h⟩:=h
  obtain ⟨u,rfl,rx⟩:=jQq r
  cases rx
  rcases h with ⟨hq,q⟩ | ⟨hq,q⟩
  . obtain ⟨its,r',pl,hz⟩:=I.list hq
    have hlen:=r'.length
    refine call_tuple_list pl.isList (λ h' kp=>?_) (by simp only [List.size_toArray]<;>omega)
    have I1:Inv X pins σ H { s with heap:=h' }:=I.kept (t':=s.toks) kp
    have I2:Inv X pins σ (upd H h'.objs.size (.tup ys)) { s with heap:=h'.push { cls:=.type "tuple", data:=.seq its.toArray } }:=
      I1.laid (t':=s.toks) (λ b o e=>Heap.get?_push_of_some _ e) (Nat.le_refl _) (show ObjOk X.prog X.w _ _ _ (.tup ys) from ⟨hz,its,r',IsTup.new _ _⟩)
    exact ⟨.ref h'.objs.size,_,I2,rfl,q _ (I1.hok.fresh (Nat.le_refl _))⟩
  . obtain ⟨its,r',pl,hz⟩:=I.tuple hq
    exact call_tuple_same pl ⟨.ref p,H,I,rfl,q⟩
def tyV (K:PySem.W.Frag) (T:String) (x:V) (H:Hp):Prop:=match x with
  | .str _=>T = "str"
  | .int _=>T = "int"
  | .ref p=>(T = "list"/\∃ xs,SqL K H p xs)\/(T = "tuple"/\∃ o,K.lookup p=some o/\o.cls=.type "tuple"/\o.dict=none) ∨
      (T = "dict"/\((∃ kvs,H p=some (.dK kvs))\/∃ kvs,H p=some (.dT kvs)))\/(T = "set"/\∃ S n,H p=some (.set S n))
  | _=>False
theorem oUq {pins:List (Addr × Obj)} {σ:St} {H:Hp} {s:Shared} {T:String} {x:V} {v:Value} (I:Inv X pins σ H s) (r:RelV x v) (ty:tyV X.K T x H) :
    s.TypeIs v T/\∀ a,v=.ref a->∃ ob,s.heap.get? a=some ob/\ob.dict=none:=by
  cases x with
  | str z=>
    obtain ⟨t,rfl⟩:=r
    cases (show T = "str" from ty)
    exact ⟨typeIs_str s z t,λ _ e=>nomatch e⟩
  | int i=>
    obtain ⟨t,rfl⟩:=r
    cases (show T = "int" from ty)
    exact ⟨typeIs_int s i t,λ _ e=>nomatch e⟩
  | ref p=>
    cases r
    rcases ty with ⟨rfl,xs,hq⟩ | ⟨rfl,o,hk,hc,hd⟩ | ⟨rfl,hk⟩ | ⟨rfl,S,n,hk⟩
    . obtain ⟨its,_,pl,_⟩:=I.list hq
      refine ⟨pl.isList.typeIs,λ a e=>?_⟩
      cases e
      obtain ⟨o,n,e,c,hd,_⟩:=pl
      exact ⟨o,e,hd⟩
    . refine ⟨⟨o,I.kIn p o hk,hc⟩,λ a e=>?_⟩
      cases e
      exact ⟨o,I.kIn _ o hk,hd⟩
    . have z:∃ o,s.heap.get? p=some o/\o.ExactDict:=by
        rcases hk with ⟨kvs,hk⟩ | ⟨kvs,hk⟩
        . obtain ⟨_,_,_,_,o,_,_,e,ex,_⟩:=I.hok p _ hk
          exact ⟨o,e,ex⟩
        . obtain ⟨_,_,_,_,o,_,_,e,ex,_⟩:=I.hok p _ hk
          exact ⟨o,e,ex⟩
      obtain ⟨o,e,ex⟩:=z
      refine ⟨⟨o,e,ex.1⟩,λ a e2=>?_⟩
      cases e2
      exact ⟨o,e,ex.2.1⟩
    . obtain ⟨o,_,_,_,e,ex,_⟩:=I.hok p _ hk
      refine ⟨⟨o,e,ex.1⟩,λ a e2=>?_⟩
      cases e2
      exact ⟨o,e,ex.2.1⟩
  | _=>exact False.elim ty
def tBM0 (K:PySem.W.Frag) (T:String) (r:V->List V->Hp->VK->Prop) (to:TE):TE:=λ σ H Q=>to σ H λ x H1=>tyV K T x H1/\r x [] H1 Q
def tBM (K:PySem.W.Frag) (T:String) (r:V->List V->Hp->VK->Prop) (to:TE) (t:TA):TE:=λ σ H Q=>to σ H λ x H1=>tyV K T x H1/\t σ H1 λ xs H2=>r x xs H2 Q
variable {o e:Expr} {es:List Expr} {to:TE} {t:TA} {name:Str} {apos cpos:Pos} {T id:String} {r:V->List V->Hp->VK->Prop}
theorem aA7q (pa:PlainAttrs T) (slot:Slot T name id) (hty:typeOf (.builtin id)=pure (.type "method_descriptor")) (hm:MtR X id r) (ho:PE X o to)
    (hbase:attributeBase o name X.env (eval o X.env)=eval o X.env:=by rfl) (hline:(apos.endLine==cpos.line)=true:=by rfl):PE X (.Call (.Attribute o name apos) [] [] cpos) (tBM0 X.K T r to):=by
  intro pins s σ H Q I h
  refine wpAny_Call_method0_late hbase hline (thn (ho pins s σ H _ I h) λ v s1 ⟨x,H1,I1,r1,ty,q1⟩=>?_)
  obtain ⟨h1,h2⟩:=oUq I1 r1 ty
  exact ⟨T,id,pa,slot,hty,h1,h2,Calls.callWith_builtin rfl (PySem.evalArgs_none (hm pins s1 σ H1 x [] v [] Q I1 r1 .nil q1))⟩
theorem aL3q (pa:PlainAttrs T) (slot:Slot T name id) (hty:typeOf (.builtin id)=pure (.type "method_descriptor")) (hm:MtR X id r) (ho:PE X o to) (ha:PA X (e::es) t)
    (hbase:attributeBase o name X.env (eval o X.env)=eval o X.env:=by rfl)
    (hfew:((backTo cpos (starEach (e::es) X.env)).all (λ x=>!x.1)&&(backToKw cpos (keywordEach [] X.env)).all (λ x=>x.1.isSome)
     &&decide ((e::es).length+([]:List Keyword).length+(if ([]:List Keyword).isEmpty then 0 else 1) < 30))=true:=by rfl)
    (hline:(apos.endLine==cpos.line)=true:=by rfl) (hs:starEach (e::es) X.env=(false,eval e X.env)::starEach es X.env:=by rfl) (hplain:(backTo cpos (starEach es X.env)).any (·.1)=false:=by rfl) :
    PE X (.Call (.Attribute o name apos) (e::es) [] cpos) (tBM X.K T r to t):=by
  intro pins s σ H Q I h
  refine wpAny_Call_method_late hbase hfew hline rfl (thn (ho pins s σ H _ I h) λ v s1 ⟨x,H1,I1,r1,ty,q1⟩=>?_)
  obtain ⟨h1,h2⟩:=oUq I1 r1 ty
  refine ⟨T,id,pa,slot,hty,h1,h2,?_⟩
  have hA:=ha cpos pins s1 σ H1 _ I1 q1
  rw [hs] at hA ⊢
  refine Calls.callWith_builtin (by show (false||(backTo cpos (starEach es X.env)).any (·.1))=false;rw [hplain]<;>rfl) (Calls.evalArgs_plain ?_)
  exact thn hA λ us s2 ⟨vs,H2,I2,r2,q2⟩=>hm pins s2 σ H2 x vs v us Q I2 r1 r2 q2
end
def MtM (X:Cx) (id:String) (r:V->List V->Hp->VK->Prop):Prop:=
  ∀ (pins:List (Addr × Obj)) (s:Shared) (σ:St) (H:Hp) (x:V) (xs:List V) (v:Value) (us:List Value) (Q:VK),Inv X pins σ H s->RelV x v->Vals xs us->r x xs H Q →
    wpAny (model X.prog X.w) X.A (call (.builtin id) (v::us)) (EP X pins σ Q) X.xe s
theorem Vals.one:∀ {x:V} {us:List Value},Vals [x] us->∃ u,us=[u]/\RelV x u
  | _,_,.cons r .nil=>⟨_,rfl,r⟩
theorem Vals.two:∀ {x y:V} {us:List Value},Vals [x,y] us->∃ u v,us=[u,v]/\RelV x u/\RelV y v
  | _,_,_,.cons r (.cons q .nil)=>⟨_,_,rfl,r,q⟩
theorem Vals.zero:∀ {us:List Value},Vals [] us->us=[]
  | _,.nil=>rfl
theorem Vals.dropLast {xs:List V} {us:List Value} (h:Vals xs us):Vals xs.dropLast us.dropLast:=by
  induction h with
  | nil=>exact .nil
  | cons r t ih=>
    cases t with
    | nil=>exact .nil
    | cons q t'=>exact .cons r ih
theorem m2q {α:Type} (l:List α):l.eraseIdx (l.length - 1)=l.dropLast:=by
  induction l with
  | nil=>rfl
  | cons a r ih=>
    cases r with
    | nil=>rfl
    | cons b r=>
      have e:(a::b::r).length - 1=((b::r).length - 1)+1:=by
        have h1:(a::b::r).length=r.length+2:=rfl
        have h2:(b::r).length=r.length+1:=rfl
        omega
      rw [e,List.eraseIdx_cons_succ,ih]
      all_goals rfl
section
variable {X:Cx} {pins:List (Addr × Obj)} {σ:St} {H:Hp} {s:Shared} {l b:Addr} {xs ys zs:List V}
theorem Inv.lset {its its':List Value} {n:Nat} {f:Array Value->Array Value} {t':Nat} (I:Inv X pins σ H s) (hH:H l=some (.lst xs))
    (e:s.heap.get? l=some { cls:=.type "list", data:=.seq its.toArray n }) (hf:f its.toArray=its'.toArray) (hv:Vals ys its') (hz:ys.length<=sizeLine) :
    Inv X pins σ (upd H l (.lst ys)) { s with heap:=s.heap.update l (Obj.mapSeq f),toks:=t' }:=by
  have q:=PySem.IsL.update e f
  rw [hf] at q
  refine I.write (x:=l) (e:=l) (by rw [hH];exact trivial) (.inl rfl) (λ b' u hb hu=>(Heap.get?_update_other s.heap (Obj.mapSeq f) (Ne.symm hb)).trans hu) ⟨_,q⟩ ?_
  exact ⟨hz,its',_,hv,q⟩
theorem Inv.lnew {its:List Value} {t':Nat} (I:Inv X pins σ H s) (hv:Vals ys its) (hz:ys.length<=sizeLine) :
    Inv X pins σ (upd H s.heap.objs.size (.lst ys)) { s with heap:=s.heap.push { cls:=.type "list", data:=.seq its.toArray },toks:=t' }:=
  I.laid (λ _ _ q=>Heap.get?_push_of_some _ q) (Nat.le_refl _) ⟨hz,its,0,hv,Heap.get?_push_size _ rfl⟩
theorem Inv.fresh (I:Inv X pins σ H s):H s.heap.objs.size=none:=I.hok.fresh (Nat.le_refl _)
theorem Inv.lstM (I:Inv X pins σ H s) (hH:H l=some (.lst xs)):xs.length<=sizeLine/\∃ (its:List Value) (n:Nat),Vals xs its/\xs.length=its.length/\s.heap.get? l=some { cls:=.type "list", data:=.seq its.toArray n }:=by
  obtain ⟨z,its,n,r,e⟩:=I.hok l _ hH
  exact ⟨z,its,n,r,r.length,e⟩
theorem kHq {n:Nat} (h:n<=sizeLine):Builtin.List.listTooLong n=false:=by
  unfold Builtin.List.listTooLong
  exact decide_eq_false (by omega)
end
section
variable {X:Cx}
def vCq:V->List V->Hp->VK->Prop:=λ x vs H Q=>∃ l xs y,x=.ref l/\vs=[y]/\H l=some (.lst xs)/\xs.length < sizeLine/\Q .non (upd H l (.lst (xs++[y])))
theorem f1q:MtM X "list.append" vCq:=by
  intro pins s σ H x vs v us Q I rx rv h
  obtain ⟨l,xs,y,rfl,rfl,hH,hz,q⟩:=h
  cases rx
  obtain ⟨u,rfl,ru⟩:=rv.one
  obtain ⟨z,its,n,r,hl,e⟩:=I.lstM hH
  refine call_meets F.slot_list_append ⟨_,e,rfl⟩ F.entry_list_append (F.args_list_append_2 _ _) (PySem.list_append l its.toArray n u (by rw [List.size_toArray];omega)) ⟨e,?_⟩
  refine ⟨.non,_,I.lset (its':=its++[u]) hH e (by simp) (r.append (.cons ru .nil)) ?_,rfl,q⟩
  rw [List.length_append,List.length_singleton]
  omega
def x3q:V->List V->Hp->VK->Prop:=λ x vs H Q=>∃ l b xs zs,x=.ref l/\vs=[.ref b]/\H l=some (.lst xs)/\H b=some (.lst zs)/\xs.length+zs.length<=sizeLine/\Q .non (upd H l (.lst (xs++zs)))
theorem oDq:MtM X "list.extend" x3q:=by
  intro pins s σ H x vs v us Q I rx rv h
  obtain ⟨l,b,xs,zs,rfl,rfl,hH,hB,hz,q⟩:=h
  cases rx
  obtain ⟨u,rfl,ru⟩:=rv.one
  cases ru
  obtain ⟨z,its,n,r,hl,e⟩:=I.lstM hH
  obtain ⟨z2,its2,n2,r2,hl2,e2⟩:=I.lstM hB
  have hsz:its.toArray.size+its2.toArray.size<=sizeLine:=by rw [List.size_toArray,List.size_toArray];omega
  have hlong:¬ (!its.toArray.isEmpty&&Builtin.List.listTooLong (its.toArray.size+its2.toArray.size))=true:=by
    rw [kHq hsz,Bool.and_false]
    exact Bool.false_ne_true
  refine call_meets F.slot_list_extend ⟨_,e,rfl⟩ F.entry_list_extend (F.args_list_extend_2 _ _)
    (AutoSeq1.list_extend_list_list_0 l its.toArray n b its2.toArray n2 hlong (by rw [List.size_toArray];omega) (by omega)) ⟨e,e2,?_⟩
  refine ⟨.non,_,I.lset (its':=its++its2) hH e (by simp) (r.append r2) ?_,rfl,q⟩
  rw [List.length_append]
  omega
def rPop:V->List V->Hp->VK->Prop:=λ x vs H Q=>∃ l xs y,x=.ref l/\vs=[]/\H l=some (.lst xs)/\xs[xs.length - 1]?=some y/\Q y (upd H l (.lst xs.dropLast))
theorem yLq:MtM X "list.pop" rPop:=by
  intro pins s σ H x vs v us Q I rx rv h
  obtain ⟨l,xs,y,rfl,rfl,hH,hy,q⟩:=h
  cases rx
  have hus:=rv.zero
  subst hus
  obtain ⟨z,its,n,r,hl,e⟩:=I.lstM hH
  obtain ⟨u,hu,ru⟩:=r.get hy
  have hy':its.toArray[its.toArray.size - 1]?=some u:=by
    show its.toArray[its.length - 1]?=some u
    rw [<- Array.getElem?_toList,<- hl]
    exact hu
  refine call_meets F.slot_list_pop ⟨_,e,rfl⟩ F.entry_list_pop (F.args_list_pop_1 _) (MeetsSeq.list_pop_last l its.toArray n u hy' (by rw [List.size_toArray];omega)) ⟨e,?_⟩
  refine ⟨y,_,I.lset (its':=its.dropLast) hH e ?_ r.dropLast ?_,ru,q⟩
  . show its.toArray.eraseIdxIfInBounds (its.toArray.size - 1)=its.dropLast.toArray
    rw [List.size_toArray,List.eraseIdxIfInBounds_toArray,m2q]
  . rw [List.length_dropLast]
    omega
def rCat:R2:=λ x y H Q=>∃ l b xs zs,x=.ref l/\y=.ref b/\H l=some (.lst xs)/\H b=some (.lst zs)/\xs.length+zs.length<=sizeLine/\∀ p,H p=none->Q (.ref p) (upd H p (.lst (xs++zs)))
theorem aC6q:OpR X (binaryOp .Add) rCat:=by
  intro pins s σ H x y v u Q I rx ry h
  obtain ⟨l,b,xs,zs,rfl,rfl,hH,hB,hz,q⟩:=h
  cases rx
  cases ry
  obtain ⟨z,its,n,r,hl,e⟩:=I.lstM hH
  obtain ⟨z2,its2,n2,r2,hl2,e2⟩:=I.lstM hB
  refine PySem.P.add_list e e2 ?_ (by rw [List.size_toArray,List.size_toArray];omega)
  have ea:its.toArray++its2.toArray=(its++its2).toArray:=by simp
  rw [ea]
  exact ⟨.ref _,_,I.lnew (t':=s.toks) (r.append r2) (by rw [List.length_append];omega),rfl,q _ I.fresh⟩
end
end L2
namespace Att
open PySem PySem.W PySem.Calls PyProof.Rows
theorem fJq {P:Params} {h:Heap}:∀ (ns:List Int) (vs:List Value),WellAll P h vs (ns.map WData.int)->IntsAre vs ns:=by
  intro ns
  induction ns with
  | nil=>
    intro vs w
    rw [List.map_nil] at w
    cases w
    exact .nil
  | cons n ns ih=>
    intro vs w
    rw [List.map_cons] at w
    cases w with
    | cons a b=>
      cases a
      exact .cons _ _ (ih _ b)
theorem nLq {l:OpenLaw} {n:Nat} (hn:l.most=some n) {P:Params} {h:Heap} {args:List WData} {vals:List Value}
    (hpre:l.row.toRowW.claim.pre args=true) (hwl:WellAll P h vals args) :
    ∃ a vs ns,vals=[Value.ref a]/\args=[WData.list (ns.map WData.int)]/\h.get? a=some { cls:=.type "list", data:=.seq vs.toArray }/\IntsAre vs ns/\ns.length<=n:=by
  have hsh:WShape.hasAll [] args [.list .int]=true:=(pre_splitW hpre).1
  have hc:l.pre.holds [] { args:=args }=true:=(pre_splitW hpre).2
  obtain ⟨d,r,rfl,h1,h2⟩:=hasAllW_cons hsh
  obtain rfl:=hasAllW_nil h2
  obtain ⟨xs,rfl,h3⟩:=hasW_list h1
  obtain ⟨ns,rfl⟩:=items_int h3
  have hlen:ns.length<=n:=by
    unfold OpenLaw.pre at hc
    have h4:(WTm.not (.lt (.lit (.int (n:Int))) (.len (.arg 0)))).holds [] { args:=[.list (ns.map .int)] }=true:=by
      have h4:=(holds_andW hc).1
      rw [hn] at h4
      exact h4
    have h5:=condW_of h4 (w_not (w_lt w_lit (w_len_list (w_arg rfl))))
    rw [List.length_map] at h5
    refine Nat.le_of_not_lt λ q=>?_
    have q':(n:Int) < ((ns.length:Nat):Int):=by omega
    first
      | (rw [decide_eq_true q'] at h5;exact absurd h5 (by decide))
      | (simp at h5;omega)
  cases hwl with
  | cons w1 w2=>
    cases w2
    cases w1 with
    | list ho hall=>exact ⟨_,_,ns,rfl,rfl,ho,fJq ns _ hall,hlen⟩
theorem oWq (l:OpenLaw) (args:List WData):l.row.toRowW.claim.post args (.bool true) args=true:=
  postW_of (r:=l.row.toRowW) (X:=(true==true))
    (show WShape.has [] (.bool true) .bool=true by first | rfl | decide | simp [WShape.has,WShape.arms,WShape.armsAll])
    (show (WTm.eq .res (.lit (.bool true))).value [] { args:=args,res:=some (.bool true),after:=args }=some (.bool (true==true)) from w_eq_bool (w_res rfl) w_lit) rfl
theorem attach_call {l:OpenLaw} {n:Nat} {q:Program} {loose:List Str} {XP:(Str->Option Value)->Heap->Prop} {YP:World->Heap->Prop} {d:DefRec}
    (hn:l.most=some n) (hdf:d.params.defaults=[])
    (call:∀ (w:World) (s₀ s₁:Shared) (mg mb:Str->Option Value) (fa:Addr) (o:Obj) (pm cd doc:Value) (a:Addr) (vs:List Value) (ns:List Int),
      Ground q loose [] XP w s₀ mg mb s₁.heap->YP w s₁.heap →
      s₁.heap.get? fa=some o->o.data=.func (docDef d.name d.params d.body d.scope pm cd doc)->s₁.heap.CodeRec cd d.name->mg d.name=some (.ref fa) →
      s₁.heap.get? a=some { cls:=.type "list", data:=.seq vs.toArray }->IntsAre vs ns->ns.length<=n->s₁.gens=#[] →
      codeAny (model l.prog w) callerA (.call (.ref fa) ⟨[.ref a],[]⟩) (λ r s'=>r=.ok (.ret (.bool true))/\OldK s₁.heap s'.heap/\s'.os=s₁.os/\AllBare s'.gens) s₁) :
    WalkO q loose XP YP l.row.toRowW d [] (λ f vs=>PySem.call f vs):=by
  intro w s₀ s₁ mg mb G Y fa o pm cd doc dV kV ho hd hcd hD hmg hg args vals as hpre hlay hrd hwl hlo
  obtain rfl:dV=.none:=Dflts.none hD hdf
  obtain rfl:kV=.none:=Dflts.noKw hD
  obtain ⟨a,vs,ns,rfl,rfl,hobj,hints,hlen⟩:=nLq hn hpre hwl
  refine enter_call (codeAny_mono (call w s₀ s₁ mg mb fa o pm cd doc a vs ns G Y ho (fd_plain hd) hcd hmg hobj hints hlen hg) λ r s' hq=>?_)
  obtain ⟨rfl,h2,h3,h4⟩:=hq
  exact ⟨.inl ⟨.bool true,.bool true,[],rfl,λ _=>rfl,.bool true,oWq l _,λ _=>⟨List.Pairwise.nil,λ _ hm=>(nomatch hm)⟩⟩,h2,h3,h4⟩
end Att
namespace L2
open PySem PySem.Spec PyProof.Rows
theorem iKq:∀ {vs:List Value} {ns:List Int},IntsAre vs ns->Vals (ns.map V.int) vs
  | _,_,.nil=>.nil
  | _,_,.cons n t h=>.cons ⟨t,rfl⟩ (iKq h)
def Only (H:Hp):Prop:=∀ b,H b=none\/∃ o xs,H b=some (.frz o (.lst xs))
theorem qPq {P:Program} {w:World} {K:PySem.W.Frag} {mg mb:Str->Option Value} {CX:CXT} {k:Nat} {fa a:Addr} {fd:FuncData} {x:Str} {sp:Sp} {s₁:Shared} {vs:List Value} {ns:List Int}
    (KX:K.In s₁.heap) (hns:s₁.heap.Ns mainGlobals mg) (hb:s₁.heap.Ns builtinsNs mb) (hbb:∀ x:Str,x≠"__name__"->mb x=bootBuiltins x) (hlim:s₁.heap.NoLimit) (hg:s₁.gens=#[])
    (ha:s₁.heap.get? a=some { cls:=.type "list", data:=.seq vs.toArray }) (hi:IntsAre vs ns) (hl:ns.length<=sizeLine) (hr:Room k callerA)
    (F:∀ base:Heap,K.In base->base.Ns mainGlobals mg->FnOk P w K mg base CX k fa fd [x] sp) (hbind:∀ (s:Shared) (u:Value),BindsTo s fd ⟨[u],[]⟩ [(x,u)])
    (hsp:∀ H:Hp,Only H->SqL K H a (ns.map V.int)->sp [.ref a] H (λ v _=>v=.bl true) λ _ _ _=>False)
    (hCX:∀ H e s',CX [] H s₁ (λ _ _ _=>False) e s'->False) :
    codeAny (model P w) callerA (.call (.ref fa) ⟨[.ref a],[]⟩) (λ r s'=>r=.ok (.ret (.bool true))/\OldK s₁.heap s'.heap/\s'.os=s₁.os/\AllBare s'.gens) s₁:=by
  have rv:=iKq hi
  have lenV:=hi.length
  have core:∀ H:Hp,Only H->SqL K H a (ns.map V.int)->HOk P w H s₁.heap->(∀ b,H b≠none->b=a)->(H a≠none->K.lookup a=none) →
      codeAny (model P w) callerA (.call (.ref fa) ⟨[.ref a],[]⟩) (λ r s'=>r=.ok (.ret (.bool true))/\OldK s₁.heap s'.heap/\s'.os=s₁.os/\AllBare s'.gens) s₁:=by
    intro H hO hS hok hA hK
    have base_of:∀ {b:Addr} {o:Obj},s₁.heap.get? b=some o->H b=none->(rGq s₁.heap H).get? b=some o:=λ e n=>qHq e n
    have noA:∀ {b:Addr} {o:Obj} {es:Array DictEntry} {ep:Nat},s₁.heap.get? b=some o->o.data=.dict es ep->H b=none:=λ{b o es ep} e d=>by
      cases q:H b with
      | none=>rfl
      | some u=>
        have e':b=a:=hA b (by rw [q];simp)
        subst e'
        rw [ha] at e;cases e
        have d':Data.seq vs.toArray _=Data.dict es ep:=d
        cases d'
    have nsK:∀ {b:Addr} {m:Str->Option Value},s₁.heap.Ns b m->(rGq s₁.heap H).Ns b m:=λ{b m} ⟨o,es,ep,e,d,r⟩=>⟨o,es,ep,base_of e (noA e d),d,r⟩
    have hKb:K.In (rGq s₁.heap H):=λ b o e=>base_of (KX b o e) (by
      cases q:H b with
      | none=>rfl
      | some u=>
        have e':b=a:=hA b (by rw [q];simp)
        subst e'
        rw [hK (by rw [q];simp)] at e;cases e)
    have hM:Mod K mg (rGq s₁.heap H):=⟨hKb,nsK hns,⟨mb,nsK hb,hbb⟩,let ⟨mc,h1,h2⟩:=hlim;⟨mc,nsK h1,h2⟩⟩
    have e0:Env0 P w K mg (rGq s₁.heap H) callerA [] s₁ H:=⟨rfl,hM,λ b o e=>uPq e,Nat.le_of_eq (nKq _ _),trivial,λ b hb=>absurd (show b∈([]:List Addr) from hb) (by simp),hok,.of_eq hg⟩
    refine codeAny_mono ((F _ hKb (nsK hns)).run callerA [] s₁ H ⟨[.ref a],[]⟩ [.ref a] [.ref a] _ _ hr e0 (hbind s₁ (.ref a)) (.cons rfl .nil) (hsp H hO hS)) λ r s' h=>?_
    cases r with
    | error e=>exact (hCX H e s' h).elim
    | ok fl=>
      cases fl with
      | next=>exact False.elim h
      | brk=>exact False.elim h
      | cont=>exact False.elim h
      | ret u=>
        obtain ⟨v,H',os,bare,un,hok',r',q⟩:=h
        have q':v=.bl true:=q
        subst q'
        obtain rfl:u=Value.bool true:=r'
        refine ⟨rfl,OldK.of_keep λ b o e=>?_,os,bare⟩
        cases q:H b with
        | none=>exact un.keep b o e q (by intro z;exact absurd (show b∈([]:List Addr) from z) (by simp)) (by simp)
        | some u=>
          rcases hO b with z | ⟨ob,xs,z⟩
          . rw [q] at z;cases z
          . have z2:=un.frzs b ob _ z
            obtain ⟨e1,_⟩:=hok b _ z
            obtain ⟨e2,_⟩:=hok' b _ z2
            rw [e] at e1;cases e1
            exact e2
  cases hk:K.lookup a with
  | some o=>
    have e:=KX a o hk
    rw [ha] at e
    cases e
    refine core (λ _=>none) (λ _=>.inl rfl) (.inr ⟨_,vs.toArray,_,hk,rfl,rfl,rfl,by rw [List.size_toArray,lenV];exact hl,by simpa using rv⟩) (λ b u z=>by have z':(none:Option HO)=some u:=z;cases z') (λ b z=>absurd rfl z) λ z=>absurd rfl z
  | none=>
    refine core (λ b=>if b=a then some (.frz { cls:=.type "list", data:=.seq vs.toArray } (.lst (ns.map V.int))) else none) (λ b=>?_) (.inl (.inr ⟨{ cls:=.type "list", data:=.seq vs.toArray },if_pos rfl⟩)) (λ b u z=>?_) (λ b z=>?_) λ _=>hk
    . by_cases hb:b=a
      . exact .inr ⟨_,_,if_pos hb⟩
      . exact .inl (if_neg hb)
    . by_cases hb:b=a
      . have z':=(if_pos hb).symm.trans z
        cases z'
        subst hb
        exact ⟨ha,by rw [List.length_map];exact hl,vs,_,rv,ha⟩
      . have z':=(if_neg hb).symm.trans z
        cases z'
    . by_cases hb:b=a
      . exact hb
      . exact absurd (if_neg hb) z
theorem uFq {l:PySem.W.OpenLaw} {n k:Nat} {q:Program} {loose:List Str} {XP:(Str->Option Value)->Heap->Prop} {YP:World->Heap->Prop} {d:DefRec} {K:Params->PySem.W.Frag} {CX:World->CXT} {sp:World->Sp} {x:Str}
    (hn:l.most=some n) (hn2:n<=sizeLine) (hdf:d.params.defaults=[]) (hr:Room k callerA)
    (hY:∀ (w:World) (h:Heap),YP w h->(K w.params).In h)
    (F:∀ (w:World) (mg:Str->Option Value) (fa:Addr) (h:Heap),(K w.params).In h->h.Ns mainGlobals mg->mg d.name=some (.ref fa) →
      ∃ fd:FuncData,(∀ (s:Shared) (u:Value),BindsTo s fd ⟨[u],[]⟩ [(x,u)]) ∧
        ∀ base:Heap,(K w.params).In base->base.Ns mainGlobals mg->FnOk l.prog w (K w.params) mg base (CX w) k fa fd [x] (sp w))
    (hsp:∀ (w:World) (H:Hp) (a:Addr) (ns:List Int),ns.length<=n->Only H->SqL (K w.params) H a (ns.map V.int)->sp w [.ref a] H (λ v _=>v=.bl true) λ _ _ _=>False)
    (hCX:∀ (w:World) (H:Hp) (s:Shared) (e:Value) (s':Shared),CX w [] H s (λ _ _ _=>False) e s'->False) :
    PySem.W.WalkO q loose XP YP l.row.toRowW d [] (λ f vs=>PySem.call f vs):=by
  refine Att.attach_call hn hdf λ w s₀ s₁ mg mb fa o pm cd doc a vs ns G Y ho hd hcd hmg hobj hints hlen hg=>?_
  have KX:=hY w _ Y
  obtain ⟨fd,hb,hF⟩:=F w mg fa _ KX G.T.g hmg
  exact qPq KX G.T.g G.T.b G.T.builtins G.T.nolimit hg hobj hints (Nat.le_trans hlen hn2) hr hF hb (λ H hO hS=>hsp w H a ns hlen hO hS) λ H e s'=>hCX w H s₁ e s'
def bNq (s:Stmt):Arguments:=match s with
  | .FunctionDef _ a _ _ _ _ _ _ _ _=>a
  | _=>{ posonlyargs:=[],args:=[],vararg:=none,kwonlyargs:=[],kw_defaults:=[],kwarg:=none,defaults:=[] }
def b0q (s:Stmt):List Stmt:=match s with
  | .FunctionDef _ _ b _ _ _ _ _ _ _=>b
  | _=>[]
def a6q (s:Stmt):Scope:=match s with
  | .FunctionDef _ _ _ _ _ _ sc _ _ _=>sc
  | _=>{ kind:=.function,names:=[],isGenerator:=false,isCoroutine:=false }
abbrev CX0:CXT:=λ _ _ _ _ _ _=>False
abbrev E0:XK:=λ _ _ _=>False
theorem wNq {X:Cx}:fUq CX0 X E0:=λ _ _ _ _ _ _ _ h=>h.elim
structure Fun (K:PySem.W.Frag) (x qual:Str) (st:Stmt) (f:Addr) (fd:FuncData):Prop where
  ex:∃ (oc:Value) (od:Option Addr) (kV doc pm:Value) (an:Option Addr) (cdv ct:Value) (osl:Array (Option Value)),
    fd=PySem.W.fnOf x qual (bNq st) (b0q st) (a6q st) .none kV doc pm an cdv ct/\K.lookup f=some ⟨oc,od,.func fd,osl⟩/\PySem.W.codeIn K cdv qual=true
  kp:PySem.W.keepIn K (.ref f)=true
section
variable {P:Program} {w:World} {K:PySem.W.Frag} {mg:Str->Option Value} {base:Heap}
theorem Fun.ok {x qual:Str} {st:Stmt} {f:Addr} {fd:FuncData} {N ps:List Str} {k:Nat} {sp:Sp} (F:Fun K x qual st f fd) (S:FnScope N ps (a6q st)) (len:∀ vs H Q E,sp vs H Q E->vs.length=ps.length)
    (hbody:∀ (cdv:Value) (A:Around) (outer:List Env) (s:Shared) (H:Hp) (vs:List V) (Q:VK) (E:XK),Room k (A.deeper (envOfC qual (a6q st) s.heap.objs.size f cdv))->sp vs H Q E →
      ∃ t,PSs (dIq CX0 P w K mg base N qual (a6q st) f cdv A outer s H E).nox (b0q st) t/\t { nx:=λ _ H'=>Q .non H',rt:=Q } (cJq N vs) H):FnOk P w K mg base CX0 (k+1) f fd ps sp:=by
  obtain ⟨oc,od,kV,doc,pm,an,cdv,ct,osl,rfl,lk,hcd⟩:=F.ex
  refine uNq lk hcd S len λ A outer s H vs Q E hr hsp=>?_
  obtain ⟨t,h,q⟩:=hbody cdv A outer s H vs Q E hr hsp
  exact ⟨t,h.nox,q⟩
theorem Fun.binds {x qual:Str} {st:Stmt} {f:Addr} {fd:FuncData} {ps:List Str} (F:Fun K x qual st f fd)
    (h:∀ (kV doc pm:Value) (an:Option Addr) (cdv ct:Value) (us:List Value),us.length=ps.length->bindArgs (PySem.W.fnOf x qual (bNq st) (b0q st) (a6q st) .none kV doc pm an cdv ct) ⟨us,[]⟩=pure (ps.zip us)):Binds K fd ps []:=by
  obtain ⟨oc,od,kV,doc,pm,an,cdv,ct,osl,rfl,lk,hcd⟩:=F.ex
  exact .all (h kV doc pm an cdv ct)
theorem kYq {x qual:Str} {st:Stmt} {f:Addr} {oc:Value} {od an:Option Addr} {osl:Array (Option Value)} {kV doc pm cdv ct:Value} (l:K.lookup f=some ⟨oc,od,.func (PySem.W.fnOf x qual (bNq st) (b0q st) (a6q st) .none kV doc pm an cdv ct),osl⟩)
 (c:PySem.W.codeIn K cdv qual=true) (k:PySem.W.keepIn K (.ref f)=true):Fun K x qual st f (PySem.W.fnOf x qual (bNq st) (b0q st) (a6q st) .none kV doc pm an cdv ct):=⟨⟨oc,od,kV,doc,pm,an,cdv,ct,osl,rfl,l,c⟩,k⟩
end
def Same (H H':Hp):Prop:=∀ b o,H b=some o->H' b=some o
theorem Same.refl (H:Hp):Same H H:=λ _ _ h=>h
def cFq (cells:List (Str × Addr)):List (Str × NameKind)->List (Str × Addr)->List (Str × Addr)
  | [],acc=>acc
  | (n,k)::r,acc=>cFq cells r (if k=.free then (n,(cells.lookup n).getD 0)::acc else acc)
theorem fVq {α β:Type} {f:α->β->Sem (ForInStep β)} (g:β->α->β):∀ (l:List α) (c:β),(∀ x∈l,∀ c,f x c=pure (.yield (g c x)))->forIn l c f=pure (l.foldl g c)
  | [],_,_=>rfl
  | x::l,c,h=>by
    rw [List.forIn_cons,h x List.mem_cons_self,pure_bind]
    exact fVq g l _ λ y hy=>h y (List.mem_cons_of_mem _ hy)
theorem gFq (cells:List (Str × Addr)):∀ (names:List (Str × NameKind)) (acc:List (Str × Addr)),
    names.foldl (λ c y=>if y.2=.free then (y.1,(cells.lookup y.1).getD 0)::c else c) acc=cFq cells names acc
  | [],_=>rfl
  | (n,k)::r,acc=>by
    rw [List.foldl_cons,cFq]
    exact gFq cells r _
theorem o4q {scope:Scope} {env:Env} (h:∀ y∈scope.names,y.2=.free->∃ c,env.cells.lookup y.1=some c):closureFor scope env=pure (cFq env.cells scope.names []):=by
  rw [<- gFq]
  simp only [closureFor]
  rw [fVq (λ c y=>if y.2=.free then (y.1,(env.cells.lookup y.1).getD 0)::c else c) scope.names [] λ x hx c=>?_]
  . rfl
  . obtain ⟨n,k⟩:=x
    by_cases hk:k=.free
    . subst hk
      obtain ⟨a,e⟩:=h _ hx rfl
      have e':env.cells.lookup n=some a:=e
      simp [cellOf,e']
    . have hb:(k==NameKind.free)=false:=by simpa using hk
      simp [hb,hk]
theorem kMq {cells:List (Str × Addr)}:∀ (names:List (Str × NameKind)) (acc:List (Str × Addr)),(∀ y∈names,y.2=.free->∃ c,cells.lookup y.1=some c)->(∀ x c,acc.lookup x=some c->cells.lookup x=some c) →
    ∀ x c,(cFq cells names acc).lookup x=some c->cells.lookup x=some c
  | [],_,_,ha=>ha
  | (n,k)::r,acc,h,ha=>by
    rw [cFq]
    refine kMq r _ (λ y hy=>h y (List.mem_cons_of_mem _ hy)) λ x c e=>?_
    by_cases hk:k=.free
    . rw [if_pos hk] at e
      obtain ⟨a,ea⟩:=h (n,k) List.mem_cons_self hk
      have ea':cells.lookup n=some a:=ea
      rw [List.lookup_cons] at e
      cases hx:x==n with
      | true=>
        rw [hx] at e
        have e2:some ((cells.lookup n).getD 0)=some c:=e
        rw [ea'] at e2
        have e3:a=c:=Option.some.inj e2
        rw [eq_of_beq hx,ea',e3]
      | false=>
        rw [hx] at e
        exact ha x c e
    . rw [if_neg hk] at e
      exact ha x c e
theorem iDq {cells:List (Str × Addr)} {x:Str}:∀ (names:List (Str × NameKind)) (acc:List (Str × Addr)),(acc.lookup x).isSome=true->((cFq cells names acc).lookup x).isSome=true
  | [],_,h=>h
  | (n,k)::r,acc,h=>by
    rw [cFq]
    refine iDq r _ ?_
    by_cases hk:k=.free
    . rw [if_pos hk,List.lookup_cons]
      cases hx:x==n with
      | true=>rfl
      | false=>exact h
    . rw [if_neg hk];exact h
theorem f0q {cells:List (Str × Addr)} {x:Str}:∀ (names:List (Str × NameKind)) (acc:List (Str × Addr)),(x,NameKind.free)∈names->((cFq cells names acc).lookup x).isSome=true
  | [],_,h=>nomatch h
  | (n,k)::r,acc,h=>by
    rw [cFq]
    rcases List.mem_cons.mp h with e | h
    . cases e
      refine iDq r _ ?_
      rw [if_pos rfl,List.lookup_cons,beq_self_eq_true];rfl
    . exact f0q r _ h
theorem gJq {g:Str->NameKind->NameKind} {x:Str}:∀ names:List (Str × NameKind),(names.map λ y=>(y.1,g y.1 y.2)).lookup x=(names.lookup x).map (g x)
  | []=>rfl
  | (n,k)::r=>by
    rw [List.map_cons,List.lookup_cons,List.lookup_cons]
    cases hx:x==n with
    | true=>
      have e:=eq_of_beq hx
      subst e;rfl
    | false=>exact gJq r
theorem gOq (scope:Scope) (env:Env):(relabel scope env).names=scope.names.map λ y=>(y.1,if (y.2==.free&&env.scope.kind==.function&&env.kindOf y.1==some .cell)=true then NameKind.cell else y.2):=by
  unfold relabel
  refine List.map_congr_left λ y _=>?_
  obtain ⟨n,k⟩:=y
  show (if (k==.free&&env.scope.kind==.function&&env.kindOf n==some .cell)=true then (n,NameKind.cell) else (n,k))=_
  split<;>simp_all
theorem e2q (scope:Scope) (env:Env) (x:Str):(relabel scope env).names.lookup x=(scope.names.lookup x).map λ k=>if (k==.free&&env.scope.kind==.function&&env.kindOf x==some .cell)=true then NameKind.cell else k:=by
  rw [gOq]
  exact gJq (g:=λ n k=>if (k==.free&&env.scope.kind==.function&&env.kindOf n==some .cell)=true then NameKind.cell else k) scope.names
def aTq (X:Cx) (scope:Scope) (N':List Str) (C:Addr) (ex:List Addr) (s:Shared) (H:Hp):Cx:=
  { X with N:=N',s₀:=s,H₀:=H,env:=compEnvC scope (cFq X.env.cells scope.names []) C X.env,outer:=X.stack,stack:=X.stack,ex:=ex,fn:=λ _=>false,pn:=[],xe:=λ _ _=>False }
def cZq (nt:Nat) (cap:List Nat) (σ:St):St:=List.replicate nt none++cap.map λ i=>(σ[i]?).join
structure CompOk (X:Cx) (scope:Scope) (N':List Str) (nt:Nat) (cap:List Nat):Prop where
  kind:scope.kind=.function
  nocell:∀ y∈scope.names,y.2≠.cell
  locs:∀ y∈scope.names,y.2=.local->scope.names.lookup y.1=some .local
  frees:∀ y∈scope.names,y.2=.free->X.env.scope.names.lookup y.1=some .cell\/X.env.scope.names.lookup y.1=some .free
  len:N'.length=nt+cap.length
  caps:∀ (j i:Nat) (x:Str),cap[j]?=some i->N'[nt+j]?=some x->X.N[i]?=some x/\scope.names.lookup x=some .free
section
variable {X:Cx} {scope:Scope} {N':List Str} {nt:Nat} {cap:List Nat} {pins:List (Addr × Obj)} {σ:St} {H:Hp} {s:Shared}
theorem CompOk.has (c:CompOk X scope N' nt cap) (ok:X.Ok):∀ y∈scope.names,y.2=.free->∃ a,X.env.cells.lookup y.1=some a:=λ y hy hk=>ok.has y.1 (c.frees y hy hk)
theorem CompOk.cells (c:CompOk X scope N' nt cap) (ok:X.Ok) {x:Str} {a:Addr} (e:(cFq X.env.cells scope.names []).lookup x=some a):X.env.cells.lookup x=some a:=
  kMq scope.names [] (c.has ok) (λ _ _ z=>by simp at z) x a e
theorem CompOk.free_of (c:CompOk X scope N' nt cap) {x:Str} (h:(relabel scope X.env).names.lookup x=some .cell\/(relabel scope X.env).names.lookup x=some .free):(x,NameKind.free)∈scope.names:=by
  rw [e2q] at h
  cases q:scope.names.lookup x with
  | none=>rw [q] at h;simp at h
  | some k=>
    have hm:=PySem.mem_of_lookup q
    have nc:k≠.cell:=c.nocell _ hm
    rw [q] at h
    by_cases hk:k=.free
    . subst hk;exact hm
    . have hb:(k==NameKind.free)=false:=by simpa using hk
      simp only [Option.map_some,hb,Bool.false_and,Bool.false_eq_true,if_false,Option.some.injEq] at h
      rcases h with h | h
      . exact absurd h nc
      . exact absurd h hk
theorem Inv.comp (I:Inv X pins σ H s) (c:CompOk X scope N' nt cap) {fp:List Addr} (hf:∀ b∈fp,j9q X pins H b) (hfs:∀ b∈fp,b < s.heap.objs.size) {h':Heap} {m:Str->Option Value} {t':Nat}
    (hk:∀ b o,s.heap.get? b=some o->h'.get? b=some o) (hn:h'.Ns s.heap.objs.size m) :
    Inv (aTq X scope N' s.heap.objs.size fp s H) [] (cZq nt cap σ) H { s with heap:=h',toks:=t' }:=by
  have cl:=λ{x:Str} {a:Addr} (e:(cFq X.env.cells scope.names []).lookup x=some a)=>c.cells I.ok e
  have cellLt:∀ x a,X.env.cells.lookup x=some a->a < s.heap.objs.size:=λ x a e=>by
    obtain ⟨v,q⟩:=I.cell x a e
    exact q.lt
  refine ⟨⟨I.ok.mod,c.kind,I.ok.glob,I.ok.blt,Nat.le_refl _,λ x y a e1 e2=>I.ok.inj x y a (cl e1) (cl e2),λ x hx=>?_,λ x a hx=>absurd hx Bool.false_ne_true,I.ok.hd,I.ok.frames,.inl rfl,λ b hb=>⟨?_,λ x a e=>?_⟩,
      λ b o e=>I.bs b o e,Nat.le_trans I.ok.bsz I.sz,λ b o e hb=>?_,λ b hb hbf=>?_,I.stack,λ b hb=>I.stkFree b hb⟩,
    rfl,I.bare,Un.kept hk,⟨m,hn,λ i x v e1 e2 e3=>?_⟩,λ x a e=>?_,I.hok.fresh (Nat.le_refl _),λ x a e=>I.freeC x a (cl e),λ p hp=>absurd (show p∈([]:List (Addr × Obj)) from hp) (by simp),I.hok.kept hk,?_⟩
  . exact Option.isSome_iff_exists.mp (f0q scope.names [] (c.free_of hx))
  . exact Nat.ne_of_lt (hfs b hb)
  . exact (hf b hb).2.2.2.2.1 x a (cl e)
  . obtain ⟨f0,f1,f2,f3,_⟩:=hf b hb
    rcases f3 with z | z
    . exact I.ok.noex b o e z
    . exact absurd (Nat.lt_of_lt_of_le (Heap.lt_size e) (Nat.le_trans I.ok.bsz z)) (Nat.lt_irrefl _)
  . obtain ⟨f0,f1,f2,_⟩:=hf b hb
    rcases List.mem_cons.mp (I.stkSub b hbf) with z | z
    . exact f1 z
    . exact f2 z
  .
    have e1':N'[i]?=some x:=e1
    have hi:nt<=i:=by
      refine Nat.le_of_not_lt λ q=>?_
      unfold cZq at e2
      rw [List.getElem?_append_left (by simpa using q),List.getElem?_replicate,if_pos q] at e2
      cases e2
    obtain ⟨j,rfl⟩:=Nat.exists_eq_add_of_le hi
    unfold cZq at e2
    rw [List.getElem?_append_right (by simp),List.length_replicate,Nat.add_sub_cancel_left,List.getElem?_map] at e2
    cases q:cap[j]? with
    | none=>rw [q] at e2;cases e2
    | some k=>
      rw [q] at e2
      have e2':(σ[k]?).join=some v:=Option.some.inj e2
      have e4:σ[k]?=some (some v):=by
        cases z:σ[k]? with
        | none=>rw [z] at e2';cases e2'
        | some w'=>rw [z] at e2';exact congrArg some e2'
      obtain ⟨n1,n2⟩:=c.caps j k x q e1'
      have hmem:=PySem.mem_of_lookup n2
      have hkind:=c.frees _ hmem rfl
      obtain ⟨m0,_,hl⟩:=I.loc
      obtain ⟨u,r,lk⟩:=hl k x v n1 e4 (.inr hkind)
      refine ⟨u,r,.inr ⟨?_,?_⟩⟩
      . show (relabel scope X.env).names.lookup x=some .cell\/(relabel scope X.env).names.lookup x=some .free
        rw [e2q,n2]
        by_cases z:((NameKind.free==.free&&X.env.scope.kind==.function&&X.env.kindOf x==some .cell)=true)
        . exact .inl (by rw [Option.map_some,if_pos z])
        . exact .inr (by rw [Option.map_some,if_neg z])
      . rcases lk with ⟨k1,_⟩ | ⟨_,a,e,z⟩
        . have k1':X.env.scope.names.lookup x=some .local:=k1
          rcases hkind with y | y<;>(rw [k1'] at y;cases y)
        . obtain ⟨a',ea⟩:=Option.isSome_iff_exists.mp (f0q (cells:=X.env.cells) scope.names [] hmem)
          have e':=cl ea
          rw [e] at e';cases e'
          obtain ⟨o,ho,hd⟩:=z
          exact ⟨a,ea,o,hk _ _ ho,hd⟩
  . obtain ⟨v,o,ho,hd⟩:=I.cell x a (cl e)
    exact ⟨v,o,hk _ _ ho,hd⟩
  . show (cZq nt cap σ).length=N'.length
    unfold cZq
    rw [List.length_append,List.length_replicate,List.length_map,c.len]
theorem Inv.uncomp {C:Addr} {fp:List Addr} {σ':St} {H':Hp} {s':Shared} (I:Inv X pins σ H s) (hC:C=s.heap.objs.size) (hf:∀ b∈fp,j9q X pins H b) {N':List Str} (J:Inv (aTq X scope N' C fp s H) [] σ' H' s') :
    ∃ m,s'.heap.Ns C m/\∀ h',Heap.SameBut C s'.heap h'->Inv X pins σ H' { s' with heap:=h' }:=by
  subst hC
  obtain ⟨m,hn,_⟩:=J.loc
  refine ⟨m,hn,λ h' hs=>?_⟩
  have ne:∀ b o,s.heap.get? b=some o->b≠s.heap.objs.size:=λ b o e=>Nat.ne_of_lt (Heap.lt_size e)
  have B:=J.base
  refine I.call' (ch:=fp) J.os ⟨λ b o e n hb hx=>?_,λ b o e n hb hx=>?_,B.free,λ b o e hx=>?_,B.tups,B.frzs,B.tbls⟩ (λ b u e=>?_) J.bare λ b hb=>?_
  . exact (hs.2 b (ne b o e)).trans (B.keep b o e n hb hx)
  . obtain ⟨sl,q⟩:=B.slot b o e n hb hx
    exact ⟨sl,(hs.2 b (ne b o e)).trans q⟩
  . obtain ⟨o',q⟩:=B.there b o e hx
    exact ⟨o',(hs.2 b (ne b o e)).trans q⟩
  . have hCn:H' s.heap.objs.size=none:=J.free
    refine (J.hok b u e).stay (λ d w' hd q=>(hs.2 d ?_).trans q) (λ _ q=>q) λ _ _ q=>q
    intro z
    subst z
    rcases hd with z | z
    . rw [<- z,hCn] at e;cases e
    . rw [hCn] at z;cases z
  . obtain ⟨f0,f1,f2,f3,f4,f5⟩:=hf b hb
    exact ⟨f3,f1,f4,f5⟩
end
def tYq (wi:TI) (g:TG) (te:TE) (nt:Nat) (cap:List Nat):TE:=λ σ H Q=>wi σ H λ J H1=>∀ acc,H1 acc=none →
  ∃ W:Nat->Nat->List V->St->Hp->Prop,(∃ m,W 0 m [] (cZq nt cap σ) (upd H1 acc (.lst [])))/\∀ i m ys σ' H',W i m ys σ' H' →
    (J.stop i H'/\Q (.ref acc) H')\/(J.go i H'/\∀ x H2,J.yld i H' x H2->g x σ' H2 λ σ3 H3=>te σ3 H3 λ y H4=>
      H4 acc=some (.lst ys)/\ys.length < sizeLine/\∃ m',m' < m/\W (i+1) m' (ys++[y]) σ3 (upd H4 acc (.lst (ys++[y]))))
def k6q (wi:TI) (g:TG) (tc:TT) (te:TE) (nt:Nat) (cap:List Nat):TE:=λ σ H Q=>wi σ H λ J H1=>∀ acc,H1 acc=none →
  ∃ W:Nat->Nat->List V->St->Hp->Prop,(∃ m,W 0 m [] (cZq nt cap σ) (upd H1 acc (.lst [])))/\∀ i m ys σ' H',W i m ys σ' H' →
    (J.stop i H'/\Q (.ref acc) H')\/(J.go i H'/\∀ x H2,J.yld i H' x H2->g x σ' H2 λ σ3 H3=>tc σ3 H3 λ b H5=>if b=true then te σ3 H5 λ y H4=>
      H4 acc=some (.lst ys)/\ys.length < sizeLine/\∃ m',m' < m/\W (i+1) m' (ys++[y]) σ3 (upd H4 acc (.lst (ys++[y])))
      else ∃ m',m' < m/\W (i+1) m' ys σ3 H5)
theorem j5q (elt target iter c:Expr) (scope:Scope) (pos:Pos) (it acc:Value) (env:Env) :
    compTurn (.ListComp elt [⟨target,iter,[c],0⟩] scope pos) 0 it acc env=(standAt iter.pos >>= λ _=>pyNext it >>= λ r=>match r with
      | none=>pure (.done .next)
      | some v=>letOwnedTupleGo target it v >>= λ _=>assign target env v >>= λ _=>(forIn [c] true λ c r=>if r=true then do let ok ← isTrue c env (eval c env);pure (ForInStep.yield ok) else pure (ForInStep.yield r)) >>= λ ok=>
        if ok=true then (eval elt env >>= λ x=>call (.builtin "list.append") [acc,x] >>= λ _=>pure ()) >>= λ _=>again (.compLoop (.ListComp elt [⟨target,iter,[c],0⟩] scope pos) 0 it acc env)
        else again (.compLoop (.ListComp elt [⟨target,iter,[c],0⟩] scope pos) 0 it acc env)):=by
  rfl
theorem nZq (c:Expr) (env:Env):(forIn [c] true λ c r=>if r=true then do let ok ← isTrue c env (eval c env);pure (ForInStep.yield ok) else pure (ForInStep.yield r))=isTrue c env (eval c env):=by
  rw [List.forIn_cons,if_pos rfl]
  simp only [bind_assoc,pure_bind,List.forIn_nil,bind_pure]
theorem iNq (elt target iter c:Expr) (scope:Scope) (pos:Pos) (it acc:Value) (env:Env) :
    compTurn (.ListComp elt [⟨target,iter,[c],0⟩] scope pos) 0 it acc env=(standAt iter.pos >>= λ _=>pyNext it >>= λ r=>match r with
      | none=>pure (.done .next)
      | some v=>letOwnedTupleGo target it v >>= λ _=>assign target env v >>= λ _=>isTrue c env (eval c env) >>= λ ok=>
        if ok=true then (eval elt env >>= λ x=>call (.builtin "list.append") [acc,x] >>= λ _=>pure ()) >>= λ _=>again (.compLoop (.ListComp elt [⟨target,iter,[c],0⟩] scope pos) 0 it acc env)
        else again (.compLoop (.ListComp elt [⟨target,iter,[c],0⟩] scope pos) 0 it acc env)):=by
  rw [j5q,nZq]
section
variable {X:Cx} {scope:Scope} {N':List Str} {nt:Nat} {cap:List Nat} {elt iter tg:Expr} {pos:Pos} {wi:TI} {g:TG} {te:TE}
theorem vQq (hc:X.calm=true) (c:CompOk X scope N' nt cap) (hi:PI X tg iter wi) (hg:∀ C ex s H,PG (aTq X scope N' C ex s H) tg g) (he:∀ C ex s H,PE (aTq X scope N' C ex s H) elt te)
    (hs:∀ x,foldedSetIterable iter X.env x=pure x:=by intro _;rfl):PE X (.ListComp elt [⟨tg,iter,[],0⟩] scope pos) (tYq wi g te nt cap):=by
  intro pins s σ H Q I h
  rw [eval_ListComp]
  refine wpAny_comprehension_free (use:=none) rfl hs (o4q (c.has I.ok)) c.kind c.locs (thn (hi pins s σ H _ I h) λ v s1 h1=>thn h1 λ itv s2 h2=>?_)
  obtain ⟨it,fp,tn,J,H2,rfl,I2,T,st2,f2,R⟩:=h2
  have hD:H2 s2.heap.objs.size=none:=I2.hok.fresh (Nat.le_refl _)
  obtain ⟨W,⟨m0,w0⟩,turn⟩:=R _ hD
  have I3:Inv X pins σ (upd H2 s2.heap.objs.size (.lst [])) { s2 with heap:=s2.heap.push { cls:=.type "list", dict:=none,data:=.seq ([]:List Value).toArray } }:=
    I2.laid (t':=s2.toks) (λ b u e=>Heap.get?_push_of_some _ e) (Nat.le_refl _) ⟨Nat.zero_le _,[],0,.nil,Heap.get?_push_size _ rfl⟩
  have fpLt:∀ b∈fp,b < s2.heap.objs.size:=λ b hb=>by
    obtain ⟨o,e,_⟩:=T.obj _ _ st2 b hb
    exact Heap.lt_size e
  have f3:∀ b∈fp,j9q X pins (upd H2 s2.heap.objs.size (.lst [])) b:=λ b hb=>⟨by rw [aAq (Nat.ne_of_lt (fpLt b hb))];exact (f2 b hb).1,(f2 b hb).2⟩
  have st3:tn 0 (s2.heap.push { cls:=.type "list", dict:=none,data:=.seq ([]:List Value).toArray }):=T.keep _ _ _ st2 λ b _ o e=>Heap.get?_push_of_some _ e
  generalize hh3:s2.heap.push { cls:=.type "list", dict:=none,data:=.seq ([]:List Value).toArray }=h3 at I3 st3
  have sz3:s2.heap.objs.size < h3.objs.size:=by rw [<- hh3,Heap.size_push];exact Nat.lt_succ_self _
  generalize hDD:s2.heap.objs.size=D at I3 f3 hD w0 turn sz3 fpLt
  refine wpAny_newObj_type ?_
  rw [hDD,hh3]
  refine wpAny_newFunctionEnv c.nocell (by intro y hy;simp at hy) (λ h4 hns4 hsb4=>?_) c.kind
  dsimp only at hns4 hsb4 ⊢
  have keep4:∀ b o,h3.get? b=some o->h4.get? b=some o:=λ b o e=>(hsb4.2 b (Nat.ne_of_lt (Heap.lt_size e))).trans (Heap.get?_push_of_some _ e)
  have I4:=I3.comp (t':=s2.toks+([]:List (Str × Value)).length) c f3 (λ b hb=>Nat.lt_trans (fpLt b hb) sz3) keep4 hns4
  have st4:tn 0 h4:=T.keep _ _ _ st3 λ b _ o e=>keep4 b o e
  dsimp only at I4
  have fin:∀ {σ':St} {H':Hp} {s':Shared},Inv (aTq X scope N' h3.objs.size fp { s2 with heap:=h3 } (upd H2 D (.lst []))) [] σ' H' s'->Q (.ref D) H' →
      compPost (model X.prog X.w) X.A X.xe none (EP X pins σ Q) (.ref D) h3.objs.size (.ok .next) s':=λ{σ' H' s'} J' q=>by
    obtain ⟨m,hn,hh⟩:=I3.uncomp rfl f3 J'
    exact ⟨m,hn,λ h' hs'=>⟨.ref D,H',hh h' hs',rfl,q⟩⟩
  have stat:∀ {H':Hp},(∀ b∈fp,H' b=none)->∀ b∈fp,j9q (aTq X scope N' h3.objs.size fp { s2 with heap:=h3 } (upd H2 D (.lst []))) [] H' b:=λ{H'} hn b hb=>by
    refine ⟨hn b hb,Nat.ne_of_lt (Nat.lt_trans (fpLt b hb) sz3),λ z=>?_,.inl hb,λ x a e=>(f3 b hb).2.2.2.2.1 x a (c.cells I.ok e),λ p hp=>absurd (show p∈([]:List (Addr × Obj)) from hp) (by simp)⟩
    rcases List.mem_cons.mp (I.stkSub b z) with y | y
    . exact (f3 b hb).2.1 y
    . exact (f3 b hb).2.2.1 y
  have loop:codeAny (model X.prog X.w) X.A (.compLoop (.ListComp elt [⟨tg,iter,[],0⟩] scope pos) 0 (.ref it) (.ref D) (compEnvC scope (cFq X.env.cells scope.names []) h3.objs.size X.env))
      (compPost (model X.prog X.w) X.A X.xe none (EP X pins σ Q) (.ref D) h3.objs.size) { s2 with heap:=h4,toks:=s2.toks+([]:List (Str × Value)).length }:=by
    refine codeAny_loop rfl (λ n s'=>∃ i ys σ' H',Inv (aTq X scope N' h3.objs.size fp { s2 with heap:=h3 } (upd H2 D (.lst []))) [] σ' H' s'/\tn i s'.heap/\(∀ b∈fp,H' b=none)/\W i n ys σ' H') (λ n s5 hI=>?_) m0 ⟨0,[],_,_,I4,st4,λ b hb=>(f3 b hb).1,w0⟩
    obtain ⟨i,ys,σ5,H5,I5,st5,fr5,w5⟩:=hI
    show wpAny _ X.A ((compTurn (.ListComp elt [⟨tg,iter,[],0⟩] scope pos) 0 (.ref it) (.ref D) (compEnvC scope (cFq X.env.cells scope.names []) h3.objs.size X.env)).onRaise (λ x=>do noteFrame x (compEnvC scope (cFq X.env.cells scope.names []) h3.objs.size X.env);theTreesLotGoes x)) _ _ s5
    refine wpAny_noted ?_
    rw [compTurn_list1]
    rcases turn i n ys σ5 H5 w5 with ⟨stop,qn⟩ | ⟨go,step⟩
    . refine wpAny_bind (wpAny_standAt (wpAny_bind (wpAny_mono (T.done (aTq X scope N' h3.objs.size fp { s2 with heap:=h3 } (upd H2 D (.lst []))) rfl rfl rfl hc i [] s5 σ5 H5 (λ _ _=>False) I5 (stat fr5) st5 stop) (λ r s6 ⟨hr,I6⟩=>?_) λ _ _ z=>z.elim)))
      subst hr
      exact wpAny_pure (fin I6 qn)
    . refine wpAny_bind (wpAny_standAt (wpAny_bind (wpAny_mono (T.item (aTq X scope N' h3.objs.size fp { s2 with heap:=h3 } (upd H2 D (.lst []))) rfl rfl rfl hc i [] s5 σ5 H5 (λ _ _=>False) I5 (stat fr5) st5 go) (λ r s6 ⟨u,hr,h6⟩=>?_) λ _ _ z=>z.elim)))
      subst hr
      refine wpAny_bind (wpAny_mono h6 (λ _ s7 ⟨x,H7,I7,r7,y7,st7,fr7⟩=>?_) λ _ _ z=>z.elim)
      have I7':=I7.pinned (stat fr7) (T.obj _ _ st7)
      refine wpAny_bind (wpAny_mono (hg _ _ _ _ _ s7 σ5 H7 x u _ I7' r7 (step x H7 y7)) (λ _ s8 ⟨σ8,H8,I8,q8⟩=>?_) λ _ _ z=>z.elim)
      refine wpAny_bind (wpAny_bind (wpAny_mono (he _ _ _ _ _ s8 σ8 H8 _ I8 q8) (λ yv s9 ⟨y,H9,I9,r9,e9,z9,m',hm',w9⟩=>?_) λ _ _ z=>z.elim))
      refine wpAny_bind (wpAny_mono (f1q (X:=aTq X scope N' h3.objs.size fp { s2 with heap:=h3 } (upd H2 D (.lst []))) _ s9 σ8 H9 (.ref D) [y] (.ref D) [yv] (λ v H10=>v=.non/\H10=upd H9 D (.lst (ys++[y]))) I9 rfl (.cons r9 .nil) ⟨D,ys,y,rfl,rfl,e9,z9,rfl,rfl⟩)
        (λ _ s10 ⟨v10,H10,I10,_,_,e10⟩=>?_) λ _ _ z=>z.elim)
      subst e10
      refine wpAny_pure (wpAny_pure ⟨rfl,m',hm',i+1,ys++[y],σ8,_,I10.unpinned,?_,λ b hb=>?_,w9⟩)
      . exact T.keep _ _ _ st7 λ b hb o e=>(I10.pin (b,o) (List.mem_append_right _ (List.mem_append_right _ (bAq hb e)))).1
      . obtain ⟨o,e,d⟩:=T.obj _ _ st7 b hb
        exact (I10.pin (b,o) (List.mem_append_right _ (List.mem_append_right _ (bAq hb e)))).2.1
  exact codeAny_compStart_list loop (T.self _ 0 _ _ _ st4 loop)
end
structure Got (P:Program) (w:World) (K:PySem.W.Frag) (mg:Str->Option Value) (base:Heap) (k:Nat) (x:Str) (ps:List Str) (sp:Sp):Prop where
  ex:∃ (f:Addr) (fd:FuncData),FnOk P w K mg base CX0 k f fd ps sp/\mg x=some (.ref f)/\PySem.W.keepIn K (.ref f)=true/\Binds K fd ps []
section
variable {X:Cx} {k j:Nat} {x:Str} {ps:List Str} {sp:Sp} {p pos:Pos} {e:Expr} {es:List Expr} {t:TA}
theorem aJ9q (G:Got X.prog X.w X.K X.mg X.base k x ps sp) (hr:Room j X.A) (hk:k<=j) (hg:Gl X x) (ha:PA X (e::es) t) (hdb:(x==("__debug__" : Str))=false:=by decide)
    (he:starEach (e::es) X.env=(false,eval e X.env)::starEach es X.env:=by rfl) (hpl:(backTo pos (starEach es X.env)).any (·.1)=false:=by rfl) :
    PE X (.Call (.Name x p) (e::es) [] pos) (rXq sp [] E0 t):=by
  obtain ⟨f,fd,F,hm,kp,b⟩:=G.ex
  exact uOq F (hr.mono hk) hg hm kp b .nil wNq ha hdb he hpl
end
section
variable {X:Cx}
theorem rFq:OpR X (binaryOp .FloorDiv) (rI (λ _ j=>0 < j/\j < 2 ^ 64) λ i j=>.int (i / j)):=opI λ i j t u s E Q hc q=>by
  have h0:j≠0:=by omega
  have h1:j.natAbs.log2 < 9000:=by
    have e1:j.natAbs < 2 ^ 64:=by omega
    exact Nat.lt_trans ((Nat.log2_lt (by omega)).mpr e1) (by decide)
  have e:i.fdiv j=i / j:=Int.fdiv_eq_ediv_of_nonneg i (by omega)
  exact floordiv_int h0 (by rw [e];exact q) (.inl (PyProof.noPylong_of_log2 h1))
theorem uQq (l b:Addr) (items items2:Array Value) (n n2:Nat) (dd2:Option Addr) (sl2:Array (Option Value)) (h0:¬(!items.isEmpty&&Builtin.List.listTooLong (items.size+items2.size))=true) (h1:items.size<=sizeLine) (h2:items.size+items2.size<=sizeLine+1) :
    Meets (Builtin.«list.extend» ⟨[.ref l,.ref b],[]⟩) (λ _ R s=>s.heap.get? l=some { cls:=.type "list", dict:=none,data:=.seq items n,slots:=#[] } ∧
      s.heap.get? b=some { cls:=.type "tuple", dict:=dd2,data:=.seq items2 n2,slots:=sl2 }/\R (.ok (.ret Value.none)) { s with heap:=s.heap.update l (Obj.mapSeq λ x=>x++items2),toks:=s.toks }):=
  .of_wp λ prog w A R s h=>by
    obtain ⟨hp,g,d,tk,os⟩:=s
    obtain ⟨hl,hb,h⟩:=h
    have f1:=AutoSeq1.idx_int
    have f2:=AutoSeq1.sub_tuple_tuple
    have f3:=AutoSeq1.sub_list_list
    have f4:=AutoSeq1.sub_tuple_list
    have f5:=AutoSeq1.sub_list_tuple
    have hz':(items++items2).size<=sizeLine+1:=by rw [Array.size_append];exact h2
    wp_walk using (wpAny_updateSeq hl rfl (hz:=h1) (_hz':=hz')),wpAny_loadPart' hl,wpAny_loadPart' hb
    exact ⟨_,rfl,h⟩
def aI4q (K:PySem.W.Frag):V->List V->Hp->VK->Prop:=λ x vs H Q=>∃ l b xs zs,x=.ref l/\vs=[.ref b]/\H l=some (.lst xs)/\SqT K H b zs/\xs.length+zs.length<=sizeLine/\Q .non (upd H l (.lst (xs++zs)))
theorem vFq:MtM X "list.extend" (aI4q X.K):=by
  intro pins s σ H x vs v us Q I rx rv h
  obtain ⟨l,b,xs,zs,rfl,rfl,hH,hB,hz,q⟩:=h
  cases rx
  obtain ⟨u,rfl,ru⟩:=rv.one
  cases ru
  obtain ⟨z,its,n,r,hl,e⟩:=I.lstM hH
  obtain ⟨its2,r2,⟨⟨c2,dd2,da2,sl2⟩,e2,hc2,n2,hd2⟩,hz2⟩:=I.tuple hB
  simp only at hc2 hd2
  subst hc2 hd2
  have hl2:=r2.length
  have hsz:its.toArray.size+its2.toArray.size<=sizeLine:=by rw [List.size_toArray,List.size_toArray];omega
  have hlong:¬ (!its.toArray.isEmpty&&Builtin.List.listTooLong (its.toArray.size+its2.toArray.size))=true:=by
    rw [kHq hsz,Bool.and_false]
    exact Bool.false_ne_true
  refine call_meets F.slot_list_extend ⟨_,e,rfl⟩ F.entry_list_extend (F.args_list_extend_2 _ _) (uQq l b its.toArray its2.toArray n n2 dd2 sl2 hlong (by rw [List.size_toArray];omega) (by omega)) ⟨e,e2,?_⟩
  refine ⟨.non,_,I.lset (its':=its++its2) hH e (by simp) (r.append r2) ?_,rfl,q⟩
  rw [List.length_append]
  omega
end
section
variable {X:Cx} {scope:Scope} {N':List Str} {nt:Nat} {cap:List Nat} {elt iter tg:Expr} {pos:Pos} {wi:TI} {g:TG} {te:TE}
theorem pQq {ct:Expr} {tc:TT} (hc:X.calm=true) (c:CompOk X scope N' nt cap) (hi:PI X tg iter wi) (hg:∀ C ex s H,PG (aTq X scope N' C ex s H) tg g) (ht:∀ C ex s H,PT (aTq X scope N' C ex s H) ct tc) (he:∀ C ex s H,PE (aTq X scope N' C ex s H) elt te)
    (hs:∀ x,foldedSetIterable iter X.env x=pure x:=by intro _;rfl):PE X (.ListComp elt [⟨tg,iter,[ct],0⟩] scope pos) (k6q wi g tc te nt cap):=by
  intro pins s σ H Q I h
  rw [eval_ListComp]
  refine wpAny_comprehension_free (use:=none) rfl hs (o4q (c.has I.ok)) c.kind c.locs (thn (hi pins s σ H _ I h) λ v s1 h1=>thn h1 λ itv s2 h2=>?_)
  obtain ⟨it,fp,tn,J,H2,rfl,I2,T,st2,f2,R⟩:=h2
  have hD:H2 s2.heap.objs.size=none:=I2.hok.fresh (Nat.le_refl _)
  obtain ⟨W,⟨m0,w0⟩,turn⟩:=R _ hD
  have I3:Inv X pins σ (upd H2 s2.heap.objs.size (.lst [])) { s2 with heap:=s2.heap.push { cls:=.type "list", dict:=none,data:=.seq ([]:List Value).toArray } }:=
    I2.laid (t':=s2.toks) (λ b u e=>Heap.get?_push_of_some _ e) (Nat.le_refl _) ⟨Nat.zero_le _,[],0,.nil,Heap.get?_push_size _ rfl⟩
  have fpLt:∀ b∈fp,b < s2.heap.objs.size:=λ b hb=>by
    obtain ⟨o,e,_⟩:=T.obj _ _ st2 b hb
    exact Heap.lt_size e
  have f3:∀ b∈fp,j9q X pins (upd H2 s2.heap.objs.size (.lst [])) b:=λ b hb=>⟨by rw [aAq (Nat.ne_of_lt (fpLt b hb))];exact (f2 b hb).1,(f2 b hb).2⟩
  have st3:tn 0 (s2.heap.push { cls:=.type "list", dict:=none,data:=.seq ([]:List Value).toArray }):=T.keep _ _ _ st2 λ b _ o e=>Heap.get?_push_of_some _ e
  generalize hh3:s2.heap.push { cls:=.type "list", dict:=none,data:=.seq ([]:List Value).toArray }=h3 at I3 st3
  have sz3:s2.heap.objs.size < h3.objs.size:=by rw [<- hh3,Heap.size_push];exact Nat.lt_succ_self _
  generalize hDD:s2.heap.objs.size=D at I3 f3 hD w0 turn sz3 fpLt
  refine wpAny_newObj_type ?_
  rw [hDD,hh3]
  refine wpAny_newFunctionEnv c.nocell (by intro y hy;simp at hy) (λ h4 hns4 hsb4=>?_) c.kind
  dsimp only at hns4 hsb4 ⊢
  have keep4:∀ b o,h3.get? b=some o->h4.get? b=some o:=λ b o e=>(hsb4.2 b (Nat.ne_of_lt (Heap.lt_size e))).trans (Heap.get?_push_of_some _ e)
  have I4:=I3.comp (t':=s2.toks+([]:List (Str × Value)).length) c f3 (λ b hb=>Nat.lt_trans (fpLt b hb) sz3) keep4 hns4
  have st4:tn 0 h4:=T.keep _ _ _ st3 λ b _ o e=>keep4 b o e
  dsimp only at I4
  have fin:∀ {σ':St} {H':Hp} {s':Shared},Inv (aTq X scope N' h3.objs.size fp { s2 with heap:=h3 } (upd H2 D (.lst []))) [] σ' H' s'->Q (.ref D) H' →
      compPost (model X.prog X.w) X.A X.xe none (EP X pins σ Q) (.ref D) h3.objs.size (.ok .next) s':=λ{σ' H' s'} J' q=>by
    obtain ⟨m,hn,hh⟩:=I3.uncomp rfl f3 J'
    exact ⟨m,hn,λ h' hs'=>⟨.ref D,H',hh h' hs',rfl,q⟩⟩
  have stat:∀ {H':Hp},(∀ b∈fp,H' b=none)->∀ b∈fp,j9q (aTq X scope N' h3.objs.size fp { s2 with heap:=h3 } (upd H2 D (.lst []))) [] H' b:=λ{H'} hn b hb=>by
    refine ⟨hn b hb,Nat.ne_of_lt (Nat.lt_trans (fpLt b hb) sz3),λ z=>?_,.inl hb,λ x a e=>(f3 b hb).2.2.2.2.1 x a (c.cells I.ok e),λ p hp=>absurd (show p∈([]:List (Addr × Obj)) from hp) (by simp)⟩
    rcases List.mem_cons.mp (I.stkSub b z) with y | y
    . exact (f3 b hb).2.1 y
    . exact (f3 b hb).2.2.1 y
  have loop:codeAny (model X.prog X.w) X.A (.compLoop (.ListComp elt [⟨tg,iter,[ct],0⟩] scope pos) 0 (.ref it) (.ref D) (compEnvC scope (cFq X.env.cells scope.names []) h3.objs.size X.env))
      (compPost (model X.prog X.w) X.A X.xe none (EP X pins σ Q) (.ref D) h3.objs.size) { s2 with heap:=h4,toks:=s2.toks+([]:List (Str × Value)).length }:=by
    refine codeAny_loop rfl (λ n s'=>∃ i ys σ' H',Inv (aTq X scope N' h3.objs.size fp { s2 with heap:=h3 } (upd H2 D (.lst []))) [] σ' H' s'/\tn i s'.heap/\(∀ b∈fp,H' b=none)/\W i n ys σ' H') (λ n s5 hI=>?_) m0 ⟨0,[],_,_,I4,st4,λ b hb=>(f3 b hb).1,w0⟩
    obtain ⟨i,ys,σ5,H5,I5,st5,fr5,w5⟩:=hI
    show wpAny _ X.A ((compTurn (.ListComp elt [⟨tg,iter,[ct],0⟩] scope pos) 0 (.ref it) (.ref D) (compEnvC scope (cFq X.env.cells scope.names []) h3.objs.size X.env)).onRaise (λ x=>do noteFrame x (compEnvC scope (cFq X.env.cells scope.names []) h3.objs.size X.env);theTreesLotGoes x)) _ _ s5
    refine wpAny_noted ?_
    rw [iNq]
    rcases turn i n ys σ5 H5 w5 with ⟨stop,qn⟩ | ⟨go,step⟩
    . refine wpAny_bind (wpAny_standAt (wpAny_bind (wpAny_mono (T.done (aTq X scope N' h3.objs.size fp { s2 with heap:=h3 } (upd H2 D (.lst []))) rfl rfl rfl hc i [] s5 σ5 H5 (λ _ _=>False) I5 (stat fr5) st5 stop) (λ r s6 ⟨hr,I6⟩=>?_) λ _ _ z=>z.elim)))
      subst hr
      exact wpAny_pure (fin I6 qn)
    . refine wpAny_bind (wpAny_standAt (wpAny_bind (wpAny_mono (T.item (aTq X scope N' h3.objs.size fp { s2 with heap:=h3 } (upd H2 D (.lst []))) rfl rfl rfl hc i [] s5 σ5 H5 (λ _ _=>False) I5 (stat fr5) st5 go) (λ r s6 ⟨u,hr,h6⟩=>?_) λ _ _ z=>z.elim)))
      subst hr
      refine wpAny_bind (wpAny_mono h6 (λ _ s7 ⟨x,H7,I7,r7,y7,st7,fr7⟩=>?_) λ _ _ z=>z.elim)
      have I7':=I7.pinned (stat fr7) (T.obj _ _ st7)
      refine wpAny_bind (wpAny_mono (hg _ _ _ _ _ s7 σ5 H7 x u _ I7' r7 (step x H7 y7)) (λ _ s8 ⟨σ8,H8,I8,q8⟩=>?_) λ _ _ z=>z.elim)
      refine wpAny_bind (wpAny_mono (ht _ _ _ _ _ s8 σ8 H8 _ I8 q8) (λ bb s9 ⟨H9,I9,q9⟩=>?_) λ _ _ z=>z.elim)
      cases bb with
      | true=>
        rw [if_pos rfl]
        rw [if_pos rfl] at q9
        refine wpAny_bind (wpAny_bind (wpAny_mono (he _ _ _ _ _ s9 σ8 H9 _ I9 q9) (λ yv sA ⟨y,HA,IA,rA,eA,zA,m',hm',wA⟩=>?_) λ _ _ z=>z.elim))
        refine wpAny_bind (wpAny_mono (f1q (X:=aTq X scope N' h3.objs.size fp { s2 with heap:=h3 } (upd H2 D (.lst []))) _ sA σ8 HA (.ref D) [y] (.ref D) [yv] (λ v H10=>v=.non/\H10=upd HA D (.lst (ys++[y]))) IA rfl (.cons rA .nil) ⟨D,ys,y,rfl,rfl,eA,zA,rfl,rfl⟩)
          (λ _ s10 ⟨v10,H10,I10,_,_,e10⟩=>?_) λ _ _ z=>z.elim)
        subst e10
        refine wpAny_pure (wpAny_pure ⟨rfl,m',hm',i+1,ys++[y],σ8,_,I10.unpinned,?_,λ b hb=>?_,wA⟩)
        . exact T.keep _ _ _ st7 λ b hb o e=>(I10.pin (b,o) (List.mem_append_right _ (List.mem_append_right _ (bAq hb e)))).1
        . obtain ⟨o,e,d⟩:=T.obj _ _ st7 b hb
          exact (I10.pin (b,o) (List.mem_append_right _ (List.mem_append_right _ (bAq hb e)))).2.1
      | false=>
        rw [if_neg Bool.false_ne_true]
        rw [if_neg Bool.false_ne_true] at q9
        obtain ⟨m',hm',w9⟩:=q9
        refine wpAny_pure ⟨rfl,m',hm',i+1,ys,σ8,_,I9.unpinned,?_,λ b hb=>?_,w9⟩
        . exact T.keep _ _ _ st7 λ b hb o e=>(I9.pin (b,o) (List.mem_append_right _ (List.mem_append_right _ (bAq hb e)))).1
        . obtain ⟨o,e,d⟩:=T.obj _ _ st7 b hb
          exact (I9.pin (b,o) (List.mem_append_right _ (List.mem_append_right _ (bAq hb e)))).2.1
  exact codeAny_compStart_list loop (T.self _ 0 _ _ _ st4 loop)
end
def b6q:Expr->Bool
  | .Starred ..=>false
  | _=>true
theorem aLq {e:Expr} {es:List Expr} {env:Env} (h:b6q e=true):starEach (e::es) env=(false,eval e env)::starEach es env:=by
  cases e<;>first | rfl | cases h
theorem pc {X:Cx} {e:Expr} {es:List Expr} {te:TE} {t:TA} (ha:PE X e te) (hr:PA X es t) (hs:b6q e=true:=by rfl):PA X (e::es) (vVq te t):=oXq ha hr (aLq hs)
section
variable {κ:Type} [DecidableEq κ]
def cSq (kvs:List (κ × V)) (k:κ):Option V:=(kvs.find? λ kv=>decide (kv.1=k)).map (·.2)
def hCq (kvs:List (κ × V)) (k:κ) (v:V):List (κ × V):=
  if (kvs.any λ kv=>decide (kv.1=k))=true then kvs.map (λ kv=>if kv.1=k then (kv.1,v) else kv) else kvs++[(k,v)]
theorem b8q {p:κ × V} {r:List (κ × V)} {k:κ} (e:p.1=k):cSq (p::r) k=some p.2:=by simp [cSq,List.find?_cons,e]
theorem b9q {p:κ × V} {r:List (κ × V)} {k:κ} (e:¬ p.1=k):cSq (p::r) k=cSq r k:=by simp [cSq,List.find?_cons,e]
theorem eLq (k:κ):∀ kvs:List (κ × V),(kvs.any λ kv=>decide (kv.1=k))=(cSq kvs k).isSome
  | []=>rfl
  | p::r=>by
    rw [List.any_cons]
    by_cases e:p.1=k
    . simp only [b8q e,decide_eq_true e,Bool.true_or,Option.isSome_some]
    . rw [b9q e,decide_eq_false e,Bool.false_or];exact eLq k r
theorem kLq (k j:κ) (y:V):∀ kvs:List (κ × V),cSq (kvs.map λ kv=>if kv.1=k then (kv.1,y) else kv) j=(cSq kvs j).map λ x=>if j=k then y else x
  | []=>rfl
  | p::r=>by
    have ih:=kLq k j y r
    rw [List.map_cons]
    by_cases h:p.1=k
    . rw [if_pos h]
      by_cases e:p.1=j
      . rw [b8q (p:=(p.1,y)) e,b8q e,Option.map_some,if_pos (e.symm.trans h)]
      . rw [b9q (p:=(p.1,y)) e,b9q e,ih]
    . rw [if_neg h]
      by_cases e:p.1=j
      . rw [b8q (p:=p) e,b8q e,Option.map_some,if_neg (λ z=>h (e.trans z))]
      . rw [b9q (p:=p) e,b9q e,ih]
theorem iOq (k j:κ) (y:V):∀ kvs:List (κ × V),cSq kvs k=none->cSq (kvs++[(k,y)]) j=if j=k then some y else cSq kvs j
  | [],_=>by
    by_cases e:k=j
    . rw [if_pos e.symm];exact b8q (p:=(k,y)) e
    . rw [if_neg (λ z=>e z.symm)];exact b9q (p:=(k,y)) e
  | p::r,hn=>by
    rw [List.cons_append]
    have hk:¬ p.1=k:=λ z=>by rw [b8q z] at hn;cases hn
    rw [b9q hk] at hn
    have ih:=iOq k j y r hn
    by_cases e:p.1=j
    . rw [b8q e,b8q e,if_neg (λ z=>hk (e.trans z))]
    . rw [b9q e,b9q e,ih]
theorem rPq (kvs:List (κ × V)) (k j:κ) (y:V):cSq (hCq kvs k y) j=if j=k then some y else cSq kvs j:=by
  unfold hCq
  by_cases a:(kvs.any λ kv=>decide (kv.1=k))=true
  . rw [if_pos a,kLq]
    rw [eLq] at a
    by_cases e:j=k
    . obtain ⟨x,hx⟩:=Option.isSome_iff_exists.mp a
      rw [if_pos e,e,hx,Option.map_some,if_pos rfl]
    . rw [if_neg e]
      cases cSq kvs j with
      | none=>rfl
      | some x=>rw [Option.map_some,if_neg e]
  . rw [if_neg a]
    refine iOq k j y kvs ?_
    rw [eLq] at a
    cases q:cSq kvs k with
    | none=>rfl
    | some x=>rw [q] at a;exact (a rfl).elim
theorem eOq (kvs:List (κ × V)) (k:κ) (v:V):(hCq kvs k v).length<=kvs.length+1:=by
  unfold hCq
  split
  . rw [List.length_map];omega
  . rw [List.length_append,List.length_cons,List.length_nil];omega
theorem rEq {kvs:List (κ × V)} {k:κ} (v:V) (h:cSq kvs k=none):hCq kvs k v=kvs++[(k,v)]:=by
  unfold hCq
  rw [eLq,h]
  exact if_neg (by decide)
theorem RelO.isSome_eq {o:Option V} {u:Option Value} (r:RelO o u):o.isSome=u.isSome:=by
  cases o with
  | none=>cases u with
    | none=>rfl
    | some _=>exact (show False from r).elim
  | some _=>cases u with
    | none=>exact (show False from r).elim
    | some _=>rfl
theorem RelO.getD {o:Option V} {u:Option Value} {d:V} {d':Value} (r:RelO o u) (rd:RelV d d'):RelV (o.getD d) (u.getD d'):=by
  cases o with
  | none=>cases u with
    | none=>exact rd
    | some _=>exact (show False from r).elim
  | some _=>cases u with
    | none=>exact (show False from r).elim
    | some _=>exact r
theorem KV.val {kvs:List (κ × V)} {vs:List (κ × Value)} (r:KV kvs vs) (k:κ):RelO (cSq kvs k) (valueAt vs k):=by
  unfold KV at r
  induction r with
  | nil=>exact True.intro
  | @cons p q ps qs h t ih=>
    obtain ⟨h1,h2⟩:=h
    by_cases e:p.1=k
    . have e':q.1=k:=h1.symm.trans e
      have b:valueAt (q::qs) k=some q.2:=by simp [valueAt,List.find?_cons,e']
      rw [b8q e,b];exact h2
    . have e':¬ q.1=k:=λ z=>e (h1.trans z)
      have b:valueAt (q::qs) k=valueAt qs k:=by simp [valueAt,List.find?_cons,e']
      rw [b9q e,b];exact ih
theorem KV.any {kvs:List (κ × V)} {vs:List (κ × Value)} (r:KV kvs vs) (k:κ):(kvs.any λ kv=>decide (kv.1=k))=vs.any λ kv=>decide (kv.1=k):=by
  unfold KV at r
  induction r with
  | nil=>rfl
  | cons h t ih=>rw [List.any_cons,List.any_cons,ih,h.1]
theorem KV.repl {kvs:List (κ × V)} {vs:List (κ × Value)} (r:KV kvs vs) (k:κ) {y:V} {u:Value} (ry:RelV y u) :
    KV (kvs.map λ kv=>if kv.1=k then (kv.1,y) else kv) (vs.map λ kv=>if kv.1=k then (kv.1,u) else kv):=by
  unfold KV at r ⊢
  induction r with
  | nil=>exact .nil
  | @cons p q ps qs h t ih=>
    rw [List.map_cons,List.map_cons]
    refine .cons ?_ ih
    obtain ⟨h1,h2⟩:=h
    by_cases e:p.1=k
    . rw [if_pos e,if_pos (h1.symm.trans e)];exact ⟨h1,ry⟩
    . rw [if_neg e,if_neg (λ z=>e (h1.trans z))];exact ⟨h1,h2⟩
theorem KV.put {kvs:List (κ × V)} {vs:List (κ × Value)} (r:KV kvs vs) (k:κ) {y:V} {u:Value} (ry:RelV y u):KV (hCq kvs k y) (stored vs k u):=by
  unfold hCq stored
  rw [r.any k]
  by_cases e:(vs.any λ kv=>decide (kv.1=k))=true
  . rw [if_pos e,if_pos e];exact r.repl k ry
  . rw [if_neg e,if_neg e];exact Paired.snoc r ⟨rfl,ry⟩
theorem KV.length {kvs:List (κ × V)} {vs:List (κ × Value)} (r:KV kvs vs):kvs.length=vs.length:=Paired.length r
end
theorem mEq {P:Program} {w:World} {k:Key} {u:Value} (r:RelV (kV k) u):(b3q P w).is k u=true:=by
  cases k with
  | inl i=>obtain ⟨t,e⟩:=(show ∃ t,u=Value.int i t from r);subst e;exact jIq P w i t
  | inr x=>obtain ⟨t,e⟩:=(show ∃ t,u=Value.str x t from r);subst e;exact jAq P w x t
theorem iBq {P:Program} {w:World}:∀ {ks:List Key} {us:List Value},Vals (ks.map kV) us->ItemsAre (b3q P w) ks us
  | [],_,r=>by rw [List.map_nil] at r;cases r;exact .nil
  | k::ks,_,r=>by
    rw [List.map_cons] at r
    cases r with
    | cons h t=>exact .cons (mEq h) (iBq t)
abbrev KT (H:Hp):List (List Key × V)->List (List Key × Addr × Value)->Prop:=Paired λ p q=>p.1=q.1/\H q.2.1=some (.tup (p.1.map kV))/\RelV p.2 q.2.2
theorem KT.val {H:Hp} {kvs:List (List Key × V)} {xs:List (List Key × Addr × Value)} (r:KT H kvs xs) (k:List Key):RelO (cSq kvs k) ((atKey xs k).map (·.2)):=by
  induction r with
  | nil=>exact True.intro
  | @cons p q ps qs h t ih=>
    obtain ⟨h1,_,h2⟩:=h
    by_cases e:p.1=k
    . have e':q.1=k:=h1.symm.trans e
      have b:atKey (q::qs) k=some q.2:=by simp [atKey,List.find?_cons,e']
      rw [b8q e,b];exact h2
    . have e':¬ q.1=k:=λ z=>e (h1.trans z)
      have b:atKey (q::qs) k=atKey qs k:=by simp [atKey,List.find?_cons,e']
      rw [b9q e,b];exact ih
section
variable {P:Program} {w:World} {H:Hp} {h:Heap} {a:Addr}
theorem xEq {u:HO} (ok:HOk P w H h) (e:Rd H a u):ObjOk P w H h a u:=e.ok ok
theorem lVq {kvs:List (Key × V)} (ok:HOk P w H h) (e:Rd H a (.dK kvs)):kvs.length<=sizeLine/\(a==sysModules)=false/\∃ vs,KV kvs vs/\h.DictOf (b3q P w) a vs:=
  show ObjOk P w H h a (.dK kvs) from xEq ok e
theorem y5q {kvs:List (Key × V)} (ok:HOk P w H h) (e:H a=some (.dK kvs)):kvs.length<=sizeLine/\(a==sysModules)=false/\∃ vs,KV kvs vs/\h.DictOf (b3q P w) a vs:=lVq ok (.inl e)
theorem lGq {ks:List Key} (ok:HOk P w H h) (e:H a=some (.tup (ks.map kV))):(tupleKind (b3q P w)).is h ks a:=by
  obtain ⟨_,its,r,o,h1,h2,n,h3⟩:=(show ObjOk P w H h a (.tup (ks.map kV)) from ok a _ e)
  exact ⟨o,its.toArray,n,h1,h2,h3,by simpa using iBq r⟩
theorem mVq {kvs:List (List Key × V)} (ok:HOk P w H h) (e:Rd H a (.dT kvs)):kvs.length<=sizeLine/\(a==sysModules)=false ∧
    ∃ xs,KT H kvs xs/\h.DictOfH (tupleKind (b3q P w)) a xs:=by
  obtain ⟨z,y,xs,r,o,es,ep,h1,h2,h3,h4,h5⟩:=(show ObjOk P w H h a (.dT kvs) from xEq ok e)
  refine ⟨z,y,xs,r,o,es,ep,h1,h2,h3,h4,λ x hx=>?_,h5⟩
  have all:∀ {l:List (List Key × V)} {m:List (List Key × Addr × Value)},KT H l m->∀ x∈m,(tupleKind (b3q P w)).is h x.1 x.2.1:=by
    intro l m q
    induction q with
    | nil=>intro x hx;exact nomatch hx
    | @cons p q ps qs hq t ih=>
      intro x hx
      rcases List.mem_cons.mp hx with e | hx
      . subst e
        exact lGq ok (by rw [<- hq.1];exact hq.2.1)
      . exact ih x hx
  exact all r x hx
end
def DGet (H:Hp) (a:Addr) (y:V) (r:Option V):Prop:=
  (∃ kvs k,Rd H a (.dK kvs)/\y=kV k/\r=cSq kvs k)\/∃ kvs k b,Rd H a (.dT kvs)/\y=.ref b/\H b=some (.tup (k.map kV))/\r=cSq kvs k
theorem DGet.k {H:Hp} {a:Addr} {kvs:List (Key × V)} {k:Key} (e:H a=some (.dK kvs)):DGet H a (kV k) (cSq kvs k):=.inl ⟨kvs,k,.inl e,rfl,rfl⟩
section
variable {X:Cx} {pins:List (Addr × Obj)} {σ:St} {H:Hp} {s:Shared} {a:Addr} {y v:V} {u r:Value} {o:Option V} {A:Around} {E:Value->Shared->Prop}
theorem Inv.big (I:Inv X pins σ H s):sysModules < s.heap.objs.size:=by
  have h:mainGlobals < s.heap.objs.size:=(I.mod.glob.keeps I.bk).lt
  exact Nat.lt_trans (by decide) h
theorem pRq {Q:Value->Shared->Prop} (hu:A.units+1 < cLine) (I:Inv X pins σ H s) (g:DGet H a y (some v)) (ry:RelV y u) (h:∀ w' s',Inv X pins σ H s'->RelV v w'->Q w' s') :
    wpAny (model X.prog X.w) A (getItem (.ref a) u) Q E s:=by
  rcases g with ⟨kvs,k,e,ey,l⟩ | ⟨kvs,k,b,e,ey,eb,l⟩
  . subst ey
    obtain ⟨z,hd,vs,rel,dd⟩:=lVq I.hok e
    obtain ⟨w',hw,rw'⟩:=RelO.some_of (v:=v) (o:=valueAt vs k) (by rw [l];exact rel.val k)
    exact wpAny_getItem_of (mEq ry) dd.mapOf hw (h w' _ (I.tok _) rw')
  . subst ey
    cases (show u=Value.ref b from ry)
    obtain ⟨z,hd,xs,rel,dd⟩:=mVq I.hok e
    obtain ⟨w',hw,rw'⟩:=RelO.some_of (v:=v) (o:=(atKey xs k).map (·.2)) (by rw [l];exact rel.val k)
    obtain ⟨p,hp,hp2⟩:=Option.map_eq_some_iff.mp hw
    refine wpAny_getItem_heap (tupleKind_room_in1 hu) (lGq I.hok eb) dd hp ?_
    rw [hp2]
    exact h w' _ (I.tok _) rw'
theorem vMq {Q:Value->Shared->Prop} (hu:A.units+1 < cLine) (I:Inv X pins σ H s) (g:DGet H a y o) (ry:RelV y u) (h:∀ s',Inv X pins σ H s'->Q (.bool (!o.isSome)) s') :
    wpAny (model X.prog X.w) A (compareOp .NotIn u (.ref a)) Q E s:=by
  rcases g with ⟨kvs,k,e,ey,l⟩ | ⟨kvs,k,b,e,ey,eb,l⟩
  . subst ey
    obtain ⟨z,hd,vs,rel,dd⟩:=lVq I.hok e
    refine wpAny_notIn_of (mEq ry) hd dd.mapOf ?_
    rw [<- (rel.val k).isSome_eq,<- l]
    exact h _ (I.tok _)
  . subst ey
    cases (show u=Value.ref b from ry)
    obtain ⟨z,hd,xs,rel,dd⟩:=mVq I.hok e
    refine wpAny_notIn_heap (tupleKind_room_in1 hu) (lGq I.hok eb) hd dd ?_
    have q:=(rel.val k).isSome_eq
    rw [Option.isSome_map] at q
    rw [<- q,<- l]
    exact h _ (I.tok _)
theorem pAq {h':Heap} {t':Nat} {ob:HO} (I:Inv X pins σ H s) (mu:Mut (H a)) (hs:Heap.SameBut a s.heap h') (he:∃ q,h'.get? a=some q) (new:ObjOk X.prog X.w (upd H a ob) h' a ob) :
    Inv X pins σ (upd H a ob) { s with heap:=h',toks:=t' }:=
  I.write (x:=a) (e:=a) mu (.inl rfl) (λ b q hb z=>(hs.2 b hb).trans z) he new
theorem tNq {P:Program} {w:World} {H':Hp} {h':Heap} {kvs:List (Key × V)} {vs:List (Key × Value)} (z:kvs.length<=sizeLine) (hd:(a==sysModules)=false) (rel:KV kvs vs) (dd:h'.DictOf (b3q P w) a vs) :
    ObjOk P w H' h' a (.dK kvs):=⟨z,hd,vs,rel,dd⟩
end
def zQq (i:Expr):Prop:=∀ ov iv,subscripted i false ov iv=operate [ov,iv] (getItem ov iv)
theorem nVq {prog:Program} {w:World} {A:Around} {E:Value->Shared->Prop} {s:Shared} {env:Env} {value slice:Expr} {pos:Pos} {T id:String} {Q:Value->Shared->Prop}
    (hl:typeLookup (.type T) "__getitem__" = pure (some (.builtin id))) (hs:zQq slice)
    (h:wpAny (model prog w) A (eval value env) (λ o s₁=>wpAny (model prog w) A (eval slice env) (λ i s₂=>s₂.TypeIs o T/\wpAny (model prog w) A (getItem o i) Q E s₂) E s₁) E s) :
    wpAny (model prog w) A (eval (.Subscript value slice pos) env) Q E s:=by
  refine Subscript_ (wpAny_mono h (λ o s₁ h₁=>wpAny_mono h₁ (λ i s₂ h₂=>?_) λ _ _ x=>x) λ _ _ x=>x)
  obtain ⟨hT,h₂⟩:=h₂
  unfold subscriptTail
  refine wpAny_bind ?_
  rw [getitemInPython_of_ne hT.not_modules]
  refine wpAny_bind (wpAny_specialOf hT hl ?_)
  have fin:wpAny (model prog w) A (subscripted slice false o i) (λ r s₃=>wpAny (model prog w) A (letTemporaryGo value o r >>= λ _=>pure r) Q E s₃) E s₂:=by
    rw [hs o i]
    exact wpAny_operating (wpAny_mono h₂ (λ r s₃ h₃=>wpAny_bind (wpAny_letTemporaryGo (wpAny_pure h₃))) λ _ _ x=>x)
  first
    | exact wpAny_pure (wpAny_bind fin)
    | exact wpAny_bind (wpAny_pure (wpAny_bind fin))
    | exact wpAny_bind fin
theorem kCq {X:Cx} {pins:List (Addr × Obj)} {σ:St} {H:Hp} {s:Shared} {a:Addr} {y:V} {o:Option V} (I:Inv X pins σ H s) (g:DGet H a y o):s.TypeIs (.ref a) "dict":=by
  rcases g with ⟨kvs,k,e,_,_⟩ | ⟨kvs,k,b,e,_,_,_⟩
  . obtain ⟨_,_,vs,_,dd⟩:=lVq I.hok e
    exact dd.typeIs
  . obtain ⟨_,_,xs,_,dd⟩:=mVq I.hok e
    exact dd.typeIs
def aM8q (td ty:TE):TE:=λ σ H Q=>td σ H λ x H1=>ty σ H1 λ y H2=>∃ a v,x=.ref a/\DGet H2 a y (some v)/\Q v H2
section
variable {X:Cx} {o i e value:Expr} {pos pos' tpos:Pos} {td ty tv:TE}
theorem uTq (hu:X.A.units+1 < cLine) (ho:PE X o td) (hi:PE X i ty) (hs:zQq i):PE X (.Subscript o i pos) (aM8q td ty):=by
  intro pins s σ H Q I h
  refine nVq PySem.F.slot_dict_getitem.lookup hs (thn (ho pins s σ H _ I h) λ u s1 ⟨x,H1,I1,rx,q1⟩=>thn (hi pins s1 σ H1 _ I1 q1) λ iv s2 ⟨y,H2,I2,ry,a,v,ex,g,q2⟩=>?_)
  subst ex
  obtain rfl:u=Value.ref a:=rx
  exact ⟨kCq I2 g,pRq hu I2 g ry λ w' s3 I3 rw'=>⟨v,H2,I3,rw',q2⟩⟩
end
theorem kZq {P:Program} {w:World} {H:Hp} (h:Heap) (hb:sysModules < h.objs.size):ObjOk P w H (h.push { cls:=.type "dict", data:=.dict #[] }) h.objs.size (.dK []):=
  ⟨Nat.zero_le _,beq_eq_false_iff_ne.mpr (Ne.symm (Nat.ne_of_lt hb)),[],.nil,Heap.DictOf.new h⟩
def zZq:TE:=λ _ H Q=>∀ p,H p=none->Q (.ref p) (upd H p (.dK []))
section
variable {X:Cx} {pos:Pos}
theorem r9q:PE X (.Dict [] [] pos) zZq:=λ pins s σ H Q I h=>
  wpAny_Dict_empty ⟨.ref s.heap.objs.size,_,I.laid (a:=s.heap.objs.size) (o:=.dK []) (t':=s.toks) (λ _ _ q=>Heap.get?_push_of_some _ q) (Nat.le_refl _) (kZq s.heap I.big),rfl,h _ (I.hok.fresh (Nat.le_refl _))⟩
end
def kUq:List (TE × TE)->St->Hp->(List (V × V)->Hp->Prop)->Prop
  | [],_,H,Q=>Q [] H
  | (tk,tv)::r,σ,H,Q=>tk σ H λ x H1=>tv σ H1 λ y H2=>kUq r σ H2 λ ps H3=>Q ((x,y)::ps) H3
abbrev VV:List (V × V)->List (Value × Value)->Prop:=Paired λ p q=>RelV p.1 q.1/\RelV p.2 q.2
def PPs (X:Cx) (pos:Pos) (keys:List (Option Expr)) (values:List Expr) (trs:List (TE × TE)):Prop:=
  ∀ (pins:List (Addr × Obj)) (s:Shared) (σ:St) (H:Hp) (Q:List (V × V)->Hp->Prop),Inv X pins σ H s->kUq trs σ H Q →
    wpAny (model X.prog X.w) X.A (evalPairs (pairTrees keys values X.env pos)) (λ vs s'=>∃ ps H',Inv X pins σ H' s'/\VV ps vs/\Q ps H') X.xe s
theorem wOq {X:Cx} {pos:Pos}:PPs X pos [] [] []:=λ pins s σ H Q I h=>pairTrees_nil_walk ⟨[],H,I,.nil,h⟩
theorem rWq {X:Cx} {pos:Pos} {k v:Expr} {ks:List (Option Expr)} {vs:List Expr} {tk tv:TE} {trs:List (TE × TE)} (hk:PE X k tk) (hv:PE X v tv) (hr:PPs X pos ks vs trs) :
    PPs X pos (some k::ks) (v::vs) ((tk,tv)::trs):=λ pins s σ H Q I h=>
  pairTrees_cons_walk (thn (hk pins s σ H _ I h) λ u s1 ⟨x,H1,I1,rx,q1⟩=>thn (hv pins s1 σ H1 _ I1 q1) λ w2 s2 ⟨y,H2,I2,ry,q2⟩=>
    thn (hr pins s2 σ H2 _ I2 q2) λ ws s3 ⟨ps,H3,I3,rel,q3⟩=>⟨(x,y)::ps,H3,I3,.cons ⟨rx,ry⟩ rel,q3⟩)
def fDq (kvs more:List (Key × V)):List (Key × V):=more.foldl (λ acc kv=>hCq acc kv.1 kv.2) kvs
theorem KV.merge:∀ {more:List (Key × V)} {rs:List (Key × Value)} {kvs:List (Key × V)} {vs:List (Key × Value)},KV more rs->KV kvs vs->KV (fDq kvs more) (merged vs rs):=by
  intro more rs kvs vs r
  unfold KV at r
  induction r generalizing kvs vs with
  | nil=>intro q;exact q
  | @cons p q ps qs h t ih=>
    intro r0
    have e:KV (hCq kvs p.1 p.2) (stored vs q.1 q.2):=by
      have:=r0.put p.1 h.2
      rw [<- h.1];exact this
    exact ih e
theorem dNq:∀ (more kvs:List (Key × V)),(fDq kvs more).length<=kvs.length+more.length
  | [],kvs=>by show kvs.length<=kvs.length+0;omega
  | p::r,kvs=>by
    have h1:=dNq r (hCq kvs p.1 p.2)
    have h2:=eOq kvs p.1 p.2
    show (fDq (hCq kvs p.1 p.2) r).length<=_
    rw [List.length_cons];omega
theorem g1q {P:Program} {w:World}:∀ {kvs:List (Key × V)} {ws:List (Value × Value)},VV (kvs.map λ kv=>(kV kv.1,kv.2)) ws->∃ rs,Carries (b3q P w) ws rs/\KV kvs rs
  | [],_,r=>by rw [List.map_nil] at r;cases r;exact ⟨[],True.intro,.nil⟩
  | p::kvs,_,r=>by
    rw [List.map_cons] at r
    cases r with
    | @cons a b as bs h t=>
      obtain ⟨rs,c,q⟩:=g1q (P:=P) (w:=w) t
      obtain ⟨b1,b2⟩:=b
      exact ⟨(p.1,b2)::rs,⟨mEq h.1,rfl,c⟩,.cons ⟨rfl,h.2⟩ q⟩
def aJ8q (trs:List (TE × TE)):TE:=λ σ H Q=>∀ p,H p=none->kUq trs σ (upd H p (.dK [])) λ ps H2=>H2 p=some (.dK [])/\∃ kvs:List (Key × V),ps=kvs.map (λ kv=>(kV kv.1,kv.2))/\kvs.length<=15/\Q (.ref p) (upd H2 p (.dK (fDq [] kvs)))
theorem u8q {X:Cx} {pos:Pos} {keys:List (Option Expr)} {values:List Expr} {trs:List (TE × TE)} (h:PPs X pos keys values trs) (hall:keys.all (·.isSome)=true) (hl:keys.length=values.length) (h0:keys≠[])
    (h15:keys.length<=15):PE X (.Dict keys values pos) (aJ8q trs):=by
  intro pins s σ H Q I q
  have hn:=I.hok.fresh (Nat.le_refl s.heap.objs.size)
  have I1:=I.laid (a:=s.heap.objs.size) (o:=.dK []) (h':=s.heap.push { cls:=.type "dict", data:=.dict #[] }) (t':=s.toks) (λ _ _ q=>Heap.get?_push_of_some _ q) (Nat.le_refl _) (kZq s.heap I.big)
  refine wpAny_Dict_walk (knd:=b3q X.prog X.w) hall hl h0 h15 (thn (h pins _ σ _ _ I1 (q _ hn)) λ ws s2 ⟨ps,H2,I2,rel,e,kvs,ep,lk,q2⟩=>?_)
  subst ep
  obtain ⟨rs,c,rk⟩:=g1q (P:=X.prog) (w:=X.w) rel
  obtain ⟨z,hd,vs0,r0,dd⟩:=y5q I2.hok e
  cases r0
  refine ⟨rs,c,dd,λ h' dd' hs=>⟨.ref s.heap.objs.size,_,?_,rfl,q2⟩⟩
  have hz:(fDq [] kvs).length<=sizeLine:=by
    have h1:=dNq kvs []
    rw [List.length_nil] at h1
    rw [sizeLine_eq];omega
  have he:∃ q,h'.get? s.heap.objs.size=some q:=let ⟨q,_,_,hq,_⟩:=dd';⟨q,hq⟩
  exact pAq I2 (by rw [e];exact True.intro) hs he (tNq hz hd (rk.merge .nil) dd')
structure M2 (X:Cx) (o:Expr) (m:Str) (apos:Pos) (e f:Expr) (cpos:Pos):Prop where
  base:attributeBase o m X.env (eval o X.env)=eval o X.env
  few:((backTo cpos (starEach [e,f] X.env)).all (λ x=>!x.1)&&(backToKw cpos (keywordEach [] X.env)).all (λ x=>x.1.isSome)
   &&decide (([e,f]:List Expr).length+([]:List Keyword).length+(if ([]:List Keyword).isEmpty then 0 else 1) < 30))=true
  line:(apos.endLine==cpos.line)=true
  trees:backTo cpos (starEach [e,f] X.env)=[(false,eval e X.env),(false,eval f X.env)]
def IsD (H:Hp) (a:Addr):Prop:=(∃ kvs,Rd H a (.dK kvs))\/∃ kvs,Rd H a (.dT kvs)
theorem tIq {X:Cx} {pins:List (Addr × Obj)} {σ:St} {H:Hp} {s:Shared} {a:Addr} (I:Inv X pins σ H s) (d:IsD H a) :
    s.TypeIs (.ref a) "dict"/\(∀ b,Value.ref a=.ref b->∃ ob,s.heap.get? b=some ob/\ob.dict=none)/\(a==sysModules)=false:=by
  rcases d with ⟨kvs,e⟩ | ⟨kvs,e⟩
  . obtain ⟨_,hd,vs,_,dd⟩:=lVq I.hok e
    refine ⟨dd.typeIs,λ b q=>?_,hd⟩
    cases q
    obtain ⟨ob,_,_,h1,h2,_⟩:=dd
    exact ⟨ob,h1,h2.2.1⟩
  . obtain ⟨_,hd,xs,_,dd⟩:=mVq I.hok e
    refine ⟨dd.typeIs,λ b q=>?_,hd⟩
    cases q
    obtain ⟨ob,_,_,h1,h2,_⟩:=dd
    exact ⟨ob,h1,h2.2.1⟩
section
variable {X:Cx} {pins:List (Addr × Obj)} {σ:St} {H:Hp} {s:Shared} {a:Addr} {y d:V} {u r:Value} {o:Option V} {A:Around} {E:Value->Shared->Prop}
theorem zWq {Q:Value->Shared->Prop} (hu:A.units+1 < cLine) (I:Inv X pins σ H s) (g:DGet H a y o) (ry:RelV y u) (rd:RelV d r) (h:∀ w' s',Inv X pins σ H s'->RelV (o.getD d) w'->Q w' s') :
    wpAny (model X.prog X.w) A (call (.builtin "dict.get") [.ref a,u,r]) Q E s:=by
  rcases g with ⟨kvs,k,e,ey,l⟩ | ⟨kvs,k,b,e,ey,eb,l⟩
  . subst ey
    obtain ⟨z,hd,vs,rel,dd⟩:=lVq I.hok e
    refine call_meetsIn PySem.F.slot_dict_get dd.typeIs PySem.F.entry_dict_get (PySem.F.args_dict_get_3 _ _ _) (meets_dict_get_default (b3q X.prog X.w) a (mEq ry) hd r) ⟨_,dd.mapOf,h _ _ (I.tok _) ?_⟩
    rw [l]
    exact (rel.val k).getD rd
  . subst ey
    cases (show u=Value.ref b from ry)
    obtain ⟨z,hd,xs,rel,dd⟩:=mVq I.hok e
    refine call_meetsIn PySem.F.slot_dict_get dd.typeIs PySem.F.entry_dict_get (PySem.F.args_dict_get_3 _ _ _) (meetsH_dict_get_default (tupleKind (b3q X.prog X.w)) a b hd r) ⟨tupleKind_room_in1 hu,k,xs,lGq I.hok eb,dd,h _ _ (I.tok _) ?_⟩
    rw [l]
    exact (rel.val k).getD rd
end
def yJq (td ty tx:TE):TE:=λ σ H Q=>td σ H λ x H1=>∃ a,x=.ref a/\IsD H1 a/\ty σ H1 λ y H2=>tx σ H2 λ z H3=>∃ o,DGet H3 a y o/\Q (o.getD z) H3
section
variable {X:Cx} {o e f:Expr} {apos cpos:Pos} {td ty tx:TE}
theorem sUq (hu:X.A.units+1 < cLine) (ho:PE X o td) (he:PE X e ty) (hf:PE X f tx) (m:M2 X o "get" apos e f cpos):PE X (.Call (.Attribute o "get" apos) [e,f] [] cpos) (yJq td ty tx):=by
  intro pins s σ H Q I h
  refine wpAny_Call_method m.base m.few m.line PySem.F.plainAttrs_dict PySem.F.slot_dict_get PySem.F.type_dict_get (thn (ho pins s σ H _ I h) λ u s1 ⟨x,H1,I1,rx,a,ex,d,q1⟩=>?_)
  subst ex
  obtain rfl:u=Value.ref a:=rx
  obtain ⟨t1,t2,_⟩:=tIq I1 d
  refine ⟨t1,t2,?_⟩
  rw [m.trees]
  refine Calls.callWith_builtin rfl (Calls.evalArgs_plain (Calls.spliced_cons (thn (he pins s1 σ H1 _ I1 q1) λ iv s2 ⟨y,H2,I2,ry,q2⟩=>
    Calls.spliced_cons (thn (hf pins s2 σ H2 _ I2 q2) λ fv s3 ⟨z,H3,I3,rz,ov,g,q3⟩=>Calls.spliced_nil ?_))))
  exact zWq hu I3 g ry rz λ w' s4 I4 rw'=>⟨_,H3,I4,rw',q3⟩
end
section
variable {prog:Program} {w:World} {A:Around} {E:Value->Shared->Prop} {s:Shared}
theorem dFq {t sl:Addr} {items:Array Value} {vl vu:Value} {lo hi:Option Int} {Q:Value->Shared->Prop} (ht:IsTup s.heap t items) (hs:s.heap.IsSliceOf sl vl vu .none) (pl:IsPart vl lo) (pu:IsPart vu hi)
    (hw:HT.sIx items.size 0 lo=0/\HT.sIx items.size items.size hi=items.size) (h:Q (.ref t) s):wpAny (model prog w) A (getItem (.ref t) (.ref sl)) Q E s:=by
  obtain ⟨os,hos,hcs,hds⟩:=id hs
  have hTs:s.TypeIs (.ref sl) "slice":=⟨os,hos,hcs⟩
  unfold getItem
  try with_reducible refine wpAny_holding ?_
  first | refine wpAny_bind (wpAny_pure ?_) | skip
  refine wpAny_bind (wpAny_sequenceKey ht.typeIs (by decide) ?_)
  refine wpAny_bind (wpAny_callSpecial?_slot (name:=Str.ofString "__getitem__") ht.typeIs PyProof.Rows.slot_tuple_getitem (wpAny_call_entry PyProof.Rows.slot_tuple_getitem ht.typeIs entry_tuple_getitem ?_ (args_tuple_getitem _ _)))
  show wpAny _ _ (Builtin.Tuple.tupleItemsOf (.ref t) >>= _) _ _ s
  refine wpAny_bind (tupleItemsOf_ ht ?_)
  refine wpAny_bind (wpAny_typeOf hTs ?_)
  rw [if_pos (by decide)]
  refine wpAny_bind (HT.sliceApplied_gen hs pl pu ?_)
  have hyes:(((HT.sIx items.size 0 lo:Nat):Int)==0&&(1:Int)==1&&(HT.sIx items.size items.size hi - HT.sIx items.size 0 lo)==items.size)=true:=by
    rw [hw.1,hw.2];simp
  show wpAny _ _ (if (((HT.sIx items.size 0 lo:Nat):Int)==0&&(1:Int)==1&&(HT.sIx items.size items.size hi - HT.sIx items.size 0 lo)==items.size)=true then _ else _) _ _ s
  rw [if_pos hyes]
  have ex:∀ {Q':Bool->Shared->Prop},Q' true s->wpAny (model prog w) A.in1 (Builtin.Tuple.tupleIsExact (.ref t)) Q' E s:=λ{Q'} q=>by
    unfold Builtin.Tuple.tupleIsExact
    refine wpAny_bind (wpAny_typeOf ht.typeIs (wpAny_pure ?_))
    have e:(Value.type "tuple"==Value.type "tuple")=true:=beq_self_eq_true _
    rw [e];exact q
  first
    | exact wpAny_bind (ex (wpAny_bind (wpAny_rule (wpAny_pure ⟨_,rfl,wpAny_pure h⟩))))
    | (unfold Builtin.Tuple.tupleIsExact
       refine wpAny_bind (wpAny_bind (wpAny_typeOf ht.typeIs (wpAny_pure ?_)))
       have e:(Value.type "tuple"==Value.type "tuple")=true:=beq_self_eq_true _
       rw [e,if_pos rfl]
       first
         | exact wpAny_bind (wpAny_rule (wpAny_pure ⟨_,rfl,wpAny_pure h⟩))
         | exact wpAny_bind (wpAny_rule (wpAny_bind (wpAny_pure (wpAny_pure ⟨_,rfl,wpAny_pure h⟩))))
         | exact wpAny_bind (wpAny_rule (wpAny_bind (wpAny_bind (wpAny_pure (wpAny_pure ⟨_,rfl,wpAny_pure h⟩))))))
end
section
variable {X:Cx}
def aN6q (K:PySem.W.Frag):V->Option Int->Option Int->Hp->VK->Prop:=λ x lo hi H Q=>∃ a xs,x=.ref a/\SqT K H a xs ∧
  ((HT.sIx xs.length 0 lo=0/\HT.sIx xs.length xs.length hi=xs.length)->Q (.ref a) H)/\(¬ (HT.sIx xs.length 0 lo=0/\HT.sIx xs.length xs.length hi=xs.length)->∀ p,H p=none->Q (.ref p) (upd H p (.tup (mJq xs lo hi))))
theorem wWq:SlR X (aN6q X.K):=by
  intro pins s σ H x v vl vu lo hi sl Q I rx hs pl pu h
  obtain ⟨a,xs,rfl,hx,q1,q2⟩:=h
  by_cases hw:HT.sIx xs.length 0 lo=0/\HT.sIx xs.length xs.length hi=xs.length
  . cases rx
    obtain ⟨its,r,ht,hz⟩:=I.tuple hx
    have hlen:its.toArray.size=xs.length:=by rw [List.size_toArray];exact r.length.symm
    refine ⟨"tuple", _,PyProof.Rows.slot_tuple_getitem.lookup,ht.typeIs,?_⟩
    exact dFq ht hs pl pu (by rw [hlen];exact hw) ⟨.ref a,H,I,rfl,q1 hw⟩
  . exact aA3q pins s σ H _ v vl vu lo hi sl Q I rx hs pl pu ⟨a,xs,rfl,hx,hw,q2 hw⟩
def aK5q (K:PySem.W.Frag):R2:=λ x y H Q=>∃ a b xs ys,x=.ref a/\y=.ref b/\SqT K H a xs/\SqT K H b ys/\xs.length+ys.length<=sizeLine ∧
  (xs=[]->Q (.ref b) H)/\(xs≠[]->ys=[]->Q (.ref a) H)/\(xs≠[]->ys≠[]->∀ p,H p=none->Q (.ref p) (upd H p (.tup (xs++ys))))
theorem op_catW:OpR X (binaryOp .Add) (aK5q X.K):=by
  intro pins s σ H x y v u Q I rx ry h
  obtain ⟨a,b,xs,ys,rfl,rfl,ha,hb,hz,q0,q1,q2⟩:=h
  by_cases hx:xs=[]
  . cases rx;cases ry
    obtain ⟨its,r,ht,_⟩:=I.tuple ha
    obtain ⟨its2,r2,ht2,_⟩:=I.tuple hb
    subst hx
    cases r
    obtain ⟨⟨cls,dd,data,sl⟩,ho,hc,n,hd⟩:=id ht
    obtain ⟨⟨cls2,dd2,data2,sl2⟩,ho2,hc2,n2,hd2⟩:=id ht2
    simp only at hc hd hc2 hd2
    subst hc hd hc2 hd2
    refine concat_meets ⟨_,ho,rfl⟩ ⟨_,ho2,rfl⟩ noFill_tuple_add seq_tuple_add PySem.F.slot_tuple_add PySem.F.entry_tuple_add (PySem.F.args_tuple_add_2 _ _) (tuple_addW0 a b _ its2.toArray n n2 dd dd2 sl sl2 (by simp)) ⟨ho,ho2,?_⟩
    exact ⟨.ref b,H,I,rfl,q0 rfl⟩
  . exact v6q pins s σ H _ _ v u Q I rx ry ⟨a,b,xs,ys,rfl,rfl,ha,hb,hx,hz,q1 hx,q2 hx⟩
structure KTab (K:PySem.W.Frag) (w:World) (ad:Addr) (tab:Str->Option V):Prop where
  ex:∃ (es:Array DictEntry) (n:Nat),K.lookup ad=some ⟨.type "dict", none,.dict es n,#[]⟩/\PySem.W.KeysLit w.params es.toList/\∀ x,RelO (tab x) (findBy Value.isStrOf es x)
  low:(ad==sysModules)=false
end
section
variable {X:Cx}
def aG4q (K:PySem.W.Frag):V->Option Int->Option Int->Hp->VK->Prop:=λ x lo hi H Q=>∃ a xs,x=.ref a/\SqT K H a xs/\∀ t H2,Same H H2->SqT K H2 t (mJq xs lo hi)->Q (.ref t) H2
theorem qDq {xs:List V} {lo hi:Option Int} (h:HT.sIx xs.length 0 lo=0/\HT.sIx xs.length xs.length hi=xs.length):mJq xs lo hi=xs:=by
  unfold mJq
  rw [h.1,h.2,List.drop_zero,Nat.sub_zero,List.take_length]
theorem sl_tupU:SlR X (aG4q X.K):=by
  intro pins s σ H x v vl vu lo hi sl Q I rx hs pl pu h
  obtain ⟨a,xs,rfl,hx,q⟩:=h
  refine wWq pins s σ H _ v vl vu lo hi sl Q I rx hs pl pu ⟨a,xs,rfl,hx,λ w=>q a H (Same.refl _) (by rw [qDq w];exact hx),λ _ p hp=>q p _ (λ b u e=>by rw [aAq (aEq e hp)];exact e) (SqT.of aBq)⟩
end
structure JE (X:Cx) (e:Expr) (t:TE):Prop where
  run:PE X e t
structure JT (X:Cx) (e:Expr) (t:TT):Prop where
  run:PT X e t
structure JW (X:Cx) (e:Expr) (t:TT):Prop where
  run:PW X e t
structure JA (X:Cx) (es:List Expr) (t:TA):Prop where
  run:PA X es t
structure JS (X:Cx) (st:Stmt) (t:TS):Prop where
  run:PS X st t
structure JB (X:Cx) (st:List Stmt) (t:TS):Prop where
  run:PSs X st t
structure JG (X:Cx) (e:Expr) (t:TG):Prop where
  run:PG X e t
structure JGs (X:Cx) (es:List Expr) (t:TGs):Prop where
  run:PGs X es t
structure JI (X:Cx) (tg iter:Expr) (wi:TI):Prop where
  run:PI X tg iter wi
structure JO (X:Cx) (e:Option Expr) (t:TO):Prop where
  run:PO X e t
structure JOp (X:Cx) (f:Value->Value->Sem Value) (r:R2):Prop where
  run:OpR X f r
structure JUn (X:Cx) (f:Value->Sem Value) (r:V->Hp->VK->Prop):Prop where
  run:UnR X f r
structure JCall (X:Cx) (f:Value) (r:List V->Hp->VK->Prop):Prop where
  run:CallR X f r
structure JIx (X:Cx) (r:R2):Prop where
  run:IxR X r
structure JSl (X:Cx) (r:V->Option Int->Option Int->Hp->VK->Prop):Prop where
  run:SlR X r
structure JMt (X:Cx) (id:String) (r:V->List V->Hp->VK->Prop):Prop where
  run:MtR X id r
structure JSet (X:Cx) (t:TSet):Prop where
  run:PSet X t
section
variable {X:Cx} {a b c e o i:Expr} {es:List Expr} {ta tb te to ti:TE} {t tr:TA} {pos p apos cpos:Pos}
theorem aA0q {n:Int} {j}:JE X (.Constant (.int n) j pos) (tC (.int n)):=⟨tVq⟩
theorem aG9q {n:Bool} {j}:JE X (.Constant (.bool n) j pos) (tC (.bl n)):=⟨aK4q⟩
theorem y9q {j}:JE X (.Constant .none j pos) (tC .non):=⟨y6q⟩
theorem yVq {x:Str} {j}:JE X (.Constant (.str x) j pos) (tC (.str x)):=⟨tSq⟩
theorem jv (k:Nat) {x:Str} (hN:X.N[k]?=some x:=by rfl) (hv:Vis X.env.scope x:=by first | exact Or.inl rfl | exact Or.inr (Or.inl rfl) | exact Or.inr (Or.inr rfl)) (hd:(x==("__debug__" : Str))=false:=by decide)
    (hcd:(x==("__classdict__" : Str))=false:=by decide):JE X (.Name x pos) (tVar k):=⟨lKq hN hv hd hcd⟩
theorem vSq {x:Str} {v:V} {u:Value} (hg:Gl X x) (hm:X.mg x=none) (hv:bootBuiltins x=some u) (r:RelV v u) (hn:x≠"__name__":=by decide) (hd:(x==("__debug__" : Str))=false:=by decide):JE X (.Name x pos) (tC v):=⟨uUq hg hm hv r hn hd⟩
theorem vRq {x:Str} {v:V} {u:Value} (hg:Gl X x) (hm:X.mg x=some u) (r:RelV v u) (hd:(x==("__debug__" : Str))=false:=by decide):JE X (.Name x pos) (tC v):=⟨jHq hg hm r hd⟩
theorem y4q:JA X [] tNil:=⟨nQq⟩
theorem wPq (ha:JE X e te) (hr:JA X es t) (hs:b6q e=true:=by rfl):JA X (e::es) (vVq te t):=⟨oXq ha.run hr.run (aLq hs)⟩
theorem aB2q {x1} (h:JA X es t):JE X (.Tuple es x1 pos) (tTup t):=⟨yDq h.run⟩
theorem tXq (h:JA X es t):JE X (.List es pos) (tLst t):=⟨aB7q h.run⟩
theorem aM2q {op:Operator} {r:R2} (ho:JOp X (binaryOp op) r) (ha:JE X a ta) (hb:JE X b tb):JE X (.BinOp a op b pos) (tOp r ta tb):=⟨aG6q ho.run ha.run hb.run⟩
theorem aM9q {op:UnaryOp} {r:V->Hp->VK->Prop} (ho:JUn X (unaryOp op) r) (ha:JE X a ta):JE X (.UnaryOp op a pos) (tUn r ta):=⟨aJ6q ho.run ha.run⟩
theorem xFq (ha:JE X a ta):JE X (.UnaryOp .Not a pos) (aB1q ta):=⟨zTq ha.run⟩
theorem vEq {op:CmpOp} {r:R2} (ho:JOp X (compareOp op) r) (ha:JE X a ta) (hb:JE X b tb) (hm:behindInMarks op b=false):JE X (.Compare a [op] [b] pos) (tOp r ta tb):=⟨vIq ho.run ha.run hb.run hm⟩
theorem aE7q {op} (h:JE X a ta):JE X (.BoolOp op [a] pos) ta:=⟨yXq h.run⟩
theorem yZq {rest:List Expr} (ha:JE X a ta) (hb:JE X (.BoolOp .And (b::rest) pos) tb):JE X (.BoolOp .And (a::b::rest) pos) (zRq ta tb):=⟨yIq ha.run hb.run⟩
theorem aI9q {rest:List Expr} (ha:JE X a ta) (hb:JE X (.BoolOp .Or (b::rest) pos) tb):JE X (.BoolOp .Or (a::b::rest) pos) (tOrV ta tb):=⟨aG7q ha.run hb.run⟩
theorem r6q {tc:TT} (hc:JT X c tc) (ha:JE X a ta) (hb:JE X b tb):JE X (.IfExp c a b pos) (tIf tc ta tb):=⟨qIq hc.run ha.run hb.run⟩
theorem w4q:JO X none oSq:=⟨wUq⟩
theorem w3q (h:JE X e te):JO X (some e) (yTq te):=⟨vOq h.run⟩
theorem qWq {r:V->Option Int->Option Int->Hp->VK->Prop} {lo hi:Option Expr} {tl th:TO} {p2:Pos} (hr:JSl X r) (he:JE X e te) (hl:JO X lo tl) (hu:JO X hi th):JE X (.Subscript e (.Slice lo hi none p2) pos) (tSl r te tl th):=⟨qLq hr.run he.run hl.run hu.run⟩
theorem z0q {r:R2} (hr:JIx X r) (ha:JE X a ta) (hb:JE X b tb) (hs:hLq b):JE X (.Subscript a b pos) (tOp r ta tb):=⟨aG3q hr.run ha.run hb.run hs⟩
theorem bUq {es:List Expr} {env:Env} (h:es.all b6q=true):(backTo pos (starEach es env)).any (·.1)=false:=by
  induction es with
  | nil=>rfl
  | cons x r ih=>
    rw [List.all_cons,Bool.and_eq_true] at h
    rw [aLq h.1]
    exact ih h.2
theorem aH1q {k j:Nat} {x:Str} {ps:List Str} {sp:Sp} (G:Got X.prog X.w X.K X.mg X.base k x ps sp) (hr:Room j X.A) (hk:k<=j) (hg:Gl X x) (ha:JA X (e::es) t) (hdb:(x==("__debug__" : Str))=false:=by decide)
    (hs:(e::es).all b6q=true:=by rfl):JE X (.Call (.Name x p) (e::es) [] pos) (rXq sp [] E0 t):=by
  have h:=hs
  rw [List.all_cons,Bool.and_eq_true] at h
  exact ⟨aJ9q G hr hk hg ha.run hdb (aLq h.1) (bUq h.2)⟩
theorem sSq {x:Str} {id:String} {r:List V->Hp->VK->Prop} (hc:JCall X (.builtin id) r) (hg:Gl X x) (hm:X.mg x=none) (hv:bootBuiltins x=some (.builtin id)) (ha:JA X (e::es) t) (hn:x≠"__name__":=by decide) (hdb:(x==("__debug__" : Str))=false:=by decide)
    (hs:(e::es).all b6q=true:=by rfl):JE X (.Call (.Name x p) (e::es) [] pos) (tCB r t):=by
  have h:=hs
  rw [List.all_cons,Bool.and_eq_true] at h
  exact ⟨sQq hc.run hg hm hv ha.run hn hdb (aLq h.1) (bUq h.2)⟩
theorem oTq {x:Str} {T:String} {r:List V->Hp->VK->Prop} (hc:JCall X (.type T) r) (hg:Gl X x) (hm:X.mg x=none) (hv:bootBuiltins x=some (.type T)) (ha:JA X (e::es) t) (hn:x≠"__name__":=by decide) (hdb:(x==("__debug__" : Str))=false:=by decide)
    (hs:(e::es).all b6q=true:=by rfl):JE X (.Call (.Name x p) (e::es) [] pos) (tCB r t):=by
  have h:=hs
  rw [List.all_cons,Bool.and_eq_true] at h
  exact ⟨oEq hc.run hg hm hv ha.run hn hdb (aLq h.1) (bUq h.2)⟩
theorem aJ2q {name:Str} {T id:String} {r:V->List V->Hp->VK->Prop} (pa:PlainAttrs T) (slot:Slot T name id) (hty:typeOf (.builtin id)=pure (.type "method_descriptor")) (hm:JMt X id r) (ho:JE X o to) (ha:JA X [e] t)
    (hbase:attributeBase o name X.env (eval o X.env)=eval o X.env:=by rfl) (hline:(apos.endLine==cpos.line)=true:=by rfl) (hs:b6q e=true:=by rfl):JE X (.Call (.Attribute o name apos) [e] [] cpos) (tBM X.K T r to t):=
  ⟨aL3q pa slot hty hm.run ho.run ha.run hbase (by rw [aLq hs];rfl) hline (aLq hs) rfl⟩
theorem zSq {name:Str} {T id:String} {r:V->List V->Hp->VK->Prop} (pa:PlainAttrs T) (slot:Slot T name id) (hty:typeOf (.builtin id)=pure (.type "method_descriptor")) (hm:JMt X id r) (ho:JE X o to)
    (hbase:attributeBase o name X.env (eval o X.env)=eval o X.env:=by rfl) (hline:(apos.endLine==cpos.line)=true:=by rfl):JE X (.Call (.Attribute o name apos) [] [] cpos) (tBM0 X.K T r to):=⟨aA7q pa slot hty hm.run ho.run hbase hline⟩
theorem vDq {op:CmpOp} {r:R2} (ho:JOp X (compareOp op) r) (ha:JE X a ta) (hb:JE X b tb) (hm:behindInMarks op b=false):JT X (.Compare a [op] [b] pos) (v7q (tOp r ta tb)):=⟨x4q ho.run ha.run hb.run hm⟩
theorem yGq {tc:TT} (ha:JT X a tc):JT X (.UnaryOp .Not a pos) (tNot tc):=⟨aB9q ha.run⟩
theorem qTq (ha:JE X a ta) (he:∀ whole,isTrue a X.env whole=(do let v ← whole;standAt a.pos;holding [v] (truthy v))):JT X a (λ σ H Q=>ta σ H λ x H'=>∃ k,TruV X.K x H' k/\Q k H'):=⟨s1q ha.run he⟩
theorem vHq {tA:TT} (ha:JT X a tA):JW X (.BoolOp .And [a] pos) tA:=⟨wQq ha.run⟩
theorem aD9q {tA:TT} (ha:JT X a tA):JW X (.BoolOp .Or [a] pos) tA:=⟨aB3q ha.run⟩
theorem aB8q {tA tB':TT} {rest:List Expr} (ha:JT X a tA) (hb:JW X (.BoolOp .And (b::rest) pos) tB'):JW X (.BoolOp .And (a::b::rest) pos) (tAnd tA tB'):=⟨xLq ha.run hb.run⟩
theorem aJ3q {tA tB':TT} {rest:List Expr} (ha:JT X a tA) (hb:JW X (.BoolOp .Or (b::rest) pos) tB'):JW X (.BoolOp .Or (a::b::rest) pos) (tOr tA tB'):=⟨aM5q ha.run hb.run⟩
theorem JW.pt {tA:TT} (h:JW X e tA):JT X e tA:=⟨PW.pt h.run⟩
theorem uZq {k:Nat} {x:Str} (hN:X.N.Nodup) (hi:X.N[k]?=some x) (hx:Loc X.env.scope x) (hf:X.fn x=true\/X.env.scope.names.lookup x=some .local:=by first | exact .inl rfl | exact .inr rfl | assumption):JG X (.Name x pos) (r3q k):=⟨u0q hN hi hx hf⟩
theorem u6q:JGs X [] gNil:=⟨x0q⟩
theorem rTq {tg:TG} {u:TGs} (h1:JG X e tg) (h2:JGs X es u) (hs:(assignEach (e::es) X.env).map (·.2)=assign e X.env::(assignEach es X.env).map (·.2):=by rfl):JGs X (e::es) (xNq tg u):=⟨rZq h1.run h2.run hs⟩
theorem z9q {k n:Nat} {tg:TGs} (hc:X.calm=true) (h:JGs X es tg) (hn:(assignEach es X.env).length=n:=by rfl) (hst:(assignEach es X.env).findIdx? (·.1)=none:=by rfl):JG X (.Tuple es k pos) (gTup X.K n tg):=⟨aA5q hc h.run hn hst⟩
theorem xJq {tset:TSet} (ho:JE X o to) (hi:JE X i ti) (hs:JSet X tset) (ha:∀ v,assign (.Subscript o i pos) X.env v=(do
      let ov ← holding [v] (eval o X.env)
      let iv ← holding [v,ov] (eval i X.env)
      standAt pos
      holding [v,ov,iv] (setItem ov iv v)
      release [v,ov,iv] []):=by intro _;rfl):JG X (.Subscript o i pos) (gSub to ti tset):=⟨xVq ho.run hi.run hs.run ha⟩
theorem mQq {tg:Expr} (hg:Gl X "range") (hm:X.mg "range" = none) (ha:JA X [a] t) (hs:b6q a=true:=by rfl):JI X tg (.Call (.Name "range" p) [a] [] pos) (zGq t):=⟨nAq hg hm ha.run (aLq hs)⟩
theorem tMq:JB X [] aD1q:=⟨v3q⟩
theorem q9q {st:Stmt} {rest:List Stmt} {ts us:TS} (h1:JS X st ts) (h2:JB X rest us):JB X (st::rest) (tSeq ts us):=⟨kOq h1.run h2.run⟩
theorem tKq {st:Stmt} {ts:TS} (h1:JS X st ts):JB X [st] ts:=⟨p6q h1.run⟩
theorem uWq (he:JE X e te) (hs:swapsWith e none pos.line X.env=pure false:=by rfl):JS X (.Expr e pos) (aE1q te):=⟨mLq he.run hs⟩
theorem xDq (he:JE X e te):JS X (.Return (some e) pos) (tRet te):=⟨y8q he.run⟩
theorem uGq:JS X (.Return none pos) aE6q:=⟨w1q⟩
theorem xQq {ss us:List Stmt} {tc:TT} {ts tu:TS} (hc:JT X c tc) (ha:JB X ss ts) (hb:JB X us tu):JS X (.If c ss us pos) (tIfS tc ts tu):=⟨aK9q hc.run ha.run hb.run⟩
theorem aC2q {k:Nat} {x:Str} {pos':Pos} (hN:X.N.Nodup) (hi:X.N[k]?=some x) (hx:Loc X.env.scope x) (he:JE X e te) (hs:swapsWith e (some (.Name x pos')) pos.line X.env=pure false:=by rfl) (hf:X.fn x=true\/X.env.scope.names.lookup x=some .local:=by first | exact .inl rfl | exact .inr rfl | assumption) :
    JS X (.Assign [.Name x pos'] e pos) (tAsg te (r3q k)):=⟨zVq hN hi hx he.run hs hf⟩
theorem aD6q {tg:Expr} {g:TG} (he:JE X e te) (hg:JG X tg g) (hs:swapsWithSole [tg] e pos.line X.env=pure false:=by rfl) (hw:swappedStores [tg] e X.env=pure none:=by rfl) (h1:(assignEach [tg] X.env).map (·.2)=[assign tg X.env]:=by rfl):JS X (.Assign [tg] e pos) (tAsg te g):=⟨aC0q he.run hg.run hs hw h1⟩
theorem tGq {tg iter:Expr} {body:List Stmt} {wi:TI} {g:TG} {tb':TS} (hp:PassesOwn (model X.prog X.w) X.A X.env X.xe) (hc:X.calm=true) (hi:JI X tg iter wi) (hg:JG X tg g) (hb:JB X body tb') (hs:∀ x,foldedSetIterable iter X.env x=pure x:=by intro _;rfl) :
    JS X (.For tg iter body [] pos) (tFor wi g tb'):=⟨y1q hp hc hi.run hg.run hb.run hs⟩
theorem w8q {scope:Scope} {N':List Str} {nt:Nat} {cap:List Nat} {elt iter tg:Expr} {wi:TI} {g:TG} (hc:X.calm=true) (ok:CompOk X scope N' nt cap) (hi:JI X tg iter wi) (hg:∀ C ex s H,JG (aTq X scope N' C ex s H) tg g) (he:∀ C ex s H,JE (aTq X scope N' C ex s H) elt te)
    (hs:∀ x,foldedSetIterable iter X.env x=pure x:=by intro _;rfl):JE X (.ListComp elt [⟨tg,iter,[],0⟩] scope pos) (tYq wi g te nt cap):=⟨vQq hc ok hi.run (λ C ex s H=>(hg C ex s H).run) (λ C ex s H=>(he C ex s H).run) hs⟩
theorem pFq {ct:Expr} {tc:TT} {scope:Scope} {N':List Str} {nt:Nat} {cap:List Nat} {elt iter tg:Expr} {wi:TI} {g:TG} (hc:X.calm=true) (ok:CompOk X scope N' nt cap) (hi:JI X tg iter wi) (hg:∀ C ex s H,JG (aTq X scope N' C ex s H) tg g)
    (ht:∀ C ex s H,JT (aTq X scope N' C ex s H) ct tc) (he:∀ C ex s H,JE (aTq X scope N' C ex s H) elt te) (hs:∀ x,foldedSetIterable iter X.env x=pure x:=by intro _;rfl):JE X (.ListComp elt [⟨tg,iter,[ct],0⟩] scope pos) (k6q wi g tc te nt cap):=
  ⟨pQq hc ok hi.run (λ C ex s H=>(hg C ex s H).run) (λ C ex s H=>(ht C ex s H).run) (λ C ex s H=>(he C ex s H).run) hs⟩
end
theorem Fun.okJ {P:Program} {w:World} {K:PySem.W.Frag} {mg:Str->Option Value} {base:Heap} {x qual:Str} {st:Stmt} {f:Addr} {fd:FuncData} {N ps:List Str} {k:Nat} {sp:Sp} (F:Fun K x qual st f fd) (S:FnScope N ps (a6q st)) (len:∀ vs H Q E,sp vs H Q E->vs.length=ps.length)
    (hbody:∀ (cdv:Value) (A:Around) (outer:List Env) (s:Shared) (H:Hp) (vs:List V) (Q:VK) (E:XK),Room k (A.deeper (envOfC qual (a6q st) s.heap.objs.size f cdv))->sp vs H Q E →
      ∃ t,JB (dIq CX0 P w K mg base N qual (a6q st) f cdv A outer s H E).nox (b0q st) t/\t { nx:=λ _ H'=>Q .non H',rt:=Q } (cJq N vs) H):FnOk P w K mg base CX0 (k+1) f fd ps sp:=
  F.ok S len λ cdv A outer s H vs Q E hr h=>let ⟨t,j,q⟩:=hbody cdv A outer s H vs Q E hr h;⟨t,j.run,q⟩
end L2
namespace KRv
open PySem PyProof.Rows
theorem aN7q:Slot "reversed" "__init__" "object.__init__":=.of (owner:="object") (n:="__init__") (by rw [typeLookup_type,builtinLookup_eq_fast];kernel_rfl) (by decide +kernel) (by decide +kernel) (by decide +kernel) (by first | exact .inl (by decide +kernel) | exact .inr (by decide +kernel)) (by rw [isSubtype_type];kernel_rfl)
theorem yPq:TypeCalled "reversed" "reversed.__new__" "object.__init__":=⟨by decide +kernel,by decide +kernel,⟨_,_,F.mro_reversed⟩,F.made_reversed,by decide +kernel,by rw [isSubtype_type];kernel_rfl,aN7q⟩
theorem aO3q:typeLookup (.type "tuple") "__reversed__" = pure none:=by rw [typeLookup_type,builtinLookup_eq_fast];kernel_rfl
theorem aC1q:isSubtype (.type "tuple") (.type "dict")=pure false:=by rw [isSubtype_type];kernel_rfl
abbrev IsRev (h:Heap) (it t:Addr) (k:Int):Prop:=h.get? it=some { cls:=.type "reversed", dict:=none,data:=.fields #[.ref t,rawInt k],slots:=#[] }
theorem newT (t:Addr) (items:Array Value) (hz:(items.size:Int) < 2 ^ 63) :
    Meets (Builtin.«reversed.__new__» ⟨[.type "reversed", .ref t],[]⟩) (λ _ R s=>IsTup s.heap t items ∧
      ∀ tk,R (.ok (.ret (.ref s.heap.objs.size))) { s with heap:=s.heap.push { cls:=.type "reversed", data:=.fields #[.ref t,rawInt ((items.size:Int) - 1)] },toks:=tk }):=
  .of_wp λ prog w A R s ⟨ht,h⟩=>by
    unfold Builtin.«reversed.__new__»
    refine wpAny_bind (wpAny_of_eq (newClass_reversed _) (wpAny_bind (m:=Builtin.SmallTypes.refuseKeywords _ _ _) (wpAny_pure ?_)))
    refine wpAny_bind (wpAny_of_eq (a:=()) (by rfl) (wpAny_bind (wpAny_specialOf ht.typeIs aO3q (wpAny_bind ?_))))
    refine (show wpAny (model prog w) A.in1 (isInstance (Value.ref t) (.type "dict") >>= _) _ _ s from wpAny_bind (wpAny_isInstance (T:="tuple") (b:=false) ht.typeIs aC1q ?_))
    rw [if_neg (by decide)]
    refine wpAny_bind (wpAny_specialOf ht.typeIs slot_tuple_getitem.lookup ?_)
    refine (show wpAny (model prog w) A.in1 (if (["tuple.__getitem__", "str.__getitem__", "bytes.__getitem__", "bytearray.__getitem__", "memoryview.__getitem__", "numpy.ndarray.__getitem__", "sqlite3.Row.__getitem__"].contains "tuple.__getitem__")=true then _ else _) _ _ s from ?_)
    rw [if_pos (by decide)]
    refine wpAny_pure ?_
    rw [if_neg (by decide)]
    refine (show wpAny (model prog w) A.in1 (call (.builtin "len") [.ref t] >>= _) _ _ s from wpAny_bind (len_tuple ht hz ?_))
    refine wpAny_bind (m:=asInt? (.int (items.size:Int) _)) (wpAny_pure ?_)
    refine (show wpAny (model prog w) A.in1 (newObj (.type "reversed") (.fields #[.ref t,rawInt ((items.size:Int) - 1)]) >>= _) _ _ _ from wpAny_bind (wpAny_newObj_type ?_ (by size_fits)))
    exact wpAny_pure ⟨_,rfl,h _⟩
theorem callT {prog:Program} {w:World} {A:Around} {E:Value->Shared->Prop} {s:Shared} {t:Addr} {items:Array Value} {Q:Value->Shared->Prop} (ht:IsTup s.heap t items) (hz:(items.size:Int) < 2 ^ 63)
    (h:∀ tk,Q (.ref s.heap.objs.size) { s with heap:=s.heap.push { cls:=.type "reversed", data:=.fields #[.ref t,rawInt ((items.size:Int) - 1)] },toks:=tk }):wpAny (model prog w) A (call (.type "reversed") [.ref t]) Q E s:=
  callType_new yPq (by decide) (F.typeCall_reversed_1 _) (F.newCall_reversed_1 _) (λ obj=>F.args_object_init_2 obj _) F.entry_reversed_new (newT t items hz) ⟨ht,λ tk=>⟨⟨_,Heap.get?_push_size _ rfl,rfl⟩,h tk⟩⟩
section
variable {prog:Program} {w:World} {A:Around} {E:Value->Shared->Prop} {s:Shared} {R:Result->Shared->Prop} {I S:Addr} {fp wr:List Addr} {n:Nat} {P:Nat->Value->Prop} {St:Nat->Shared->Prop}
abbrev listAt (acc:Array Value) (c:Nat):Obj:={ cls:=.type "list", dict:=none,data:=.seq acc c,slots:=#[] }
end
theorem moved_eq {wr:List Addr} {s s':Shared} (hm:Moved wr (λ a b=>b=a) s s'):s'={ s with heap:=s'.heap,toks:=s'.toks }:=by
  obtain ⟨h',g',d',tk',os'⟩:=s'
  cases (show g'=s.gens from hm.gens)
  cases (show d'=s.drawn from hm.drawn)
  cases (show os'=s.os from hm.os)
  rfl
end KRv
namespace L2
open PySem PySem.Spec PyProof.Rows
section
variable {X:Cx} {e:Expr} {te:TE} {p p2 pos pos2:Pos}
def RevT (X:Cx) (pins:List (Addr × Obj)) (σ:St) (R:Addr->List V->Hp->Prop) (v:Value) (s:Shared):Prop:=
  ∃ (a it:Addr) (xs:List V) (its:List Value) (H:Hp),v=.ref it/\Inv X pins σ H s/\KRv.IsRev s.heap it a ((its.toArray.size:Int) - 1)/\IsTup s.heap a its.toArray/\a≠it/\Vals xs its/\its.toArray.size<=sizeLine/\SqT X.K H a xs/\j9q X pins H it/\R a xs H
def RevL (X:Cx) (pins:List (Addr × Obj)) (σ:St) (R:Addr->List V->Hp->Prop) (v:Value) (s:Shared):Prop:=
  ∃ (a it:Addr) (xs:List V) (its:List Value) (H:Hp),v=.ref it/\Inv X pins σ H s/\s.heap.IsRevIter it a ((its.toArray.size:Int) - 1)/\s.heap.IsList a its.toArray/\a≠it/\Vals xs its/\its.toArray.size<=sizeLine/\SqL X.K H a xs/\j9q X pins H it/\R a xs H
theorem aH9q {pins:List (Addr × Obj)} {s:Shared} {σ:St} {H:Hp} {R:Addr->List V->Hp->Prop} (hg:Gl X "reversed") (hm:X.mg "reversed" = none) (he:PE X e te) (hs:b6q e=true) (I:Inv X pins σ H s)
    (h:te σ H λ x H1=>∃ a xs,x=.ref a/\SqT X.K H1 a xs/\R a xs H1):wpAny (model X.prog X.w) X.A (eval (.Call (.Name "reversed" p2) [e] [] pos2) X.env) (RevT X pins σ R) X.xe s:=by
  refine wpAny_Call_Name_kw (eZq I hg hm PyProof.Rows.boot_reversed ?_)
  refine PyProof.Rows.callWith_type1 ?_ (aLq hs) rfl
  rw [aLq hs]
  show wpAny _ _ (spliced ((false,eval e X.env)::backTo pos2 (starEach [] X.env))) _ _ s
  refine Calls.spliced_cons (thn (he pins s σ H _ I h) λ u s1 ⟨x,H1,I1,r1,a,xs,ex,hq,q⟩=>Calls.spliced_nil ?_)
  subst ex
  cases r1
  obtain ⟨its,rv,pl,hz⟩:=I1.tuple hq
  have hl:=rv.length
  have h63:=eAq
  refine KRv.callT pl (by rw [List.size_toArray];omega) λ tk=>?_
  exact ⟨a,s1.heap.objs.size,xs,its,H1,rfl,I1.kept λ b o e=>Heap.get?_push_of_some _ e,Heap.get?_push_size _ rfl,pl.push _,Nat.ne_of_lt pl.lt,rv,by rw [List.size_toArray];omega,hq,I1.fpOk (Nat.le_refl _) (I1.hok.fresh (Nat.le_refl _)),q⟩
theorem aH6q {pins:List (Addr × Obj)} {s:Shared} {σ:St} {H:Hp} {R:Addr->List V->Hp->Prop} (hg:Gl X "reversed") (hm:X.mg "reversed" = none) (he:PE X e te) (hs:b6q e=true) (I:Inv X pins σ H s)
    (h:te σ H λ x H1=>∃ a xs,x=.ref a/\SqL X.K H1 a xs/\R a xs H1):wpAny (model X.prog X.w) X.A (eval (.Call (.Name "reversed" p2) [e] [] pos2) X.env) (RevL X pins σ R) X.xe s:=by
  refine wpAny_Call_Name_kw (eZq I hg hm PyProof.Rows.boot_reversed ?_)
  refine PyProof.Rows.callWith_type1 ?_ (aLq hs) rfl
  rw [aLq hs]
  show wpAny _ _ (spliced ((false,eval e X.env)::backTo pos2 (starEach [] X.env))) _ _ s
  refine Calls.spliced_cons (thn (he pins s σ H _ I h) λ u s1 ⟨x,H1,I1,r1,a,xs,ex,hq,q⟩=>Calls.spliced_nil ?_)
  subst ex
  cases r1
  obtain ⟨its,rv,pl,hz⟩:=I1.list hq
  have hl:=rv.length
  have hlt:a < s1.heap.objs.size:=by obtain ⟨o,ho,_⟩:=pl.isList;exact Heap.lt_size ho
  refine call_reversed_list pl.isList ?_
  exact ⟨a,s1.heap.objs.size,xs,its,H1,rfl,I1.kept (t':=s1.toks) λ b o e=>Heap.get?_push_of_some _ e,⟨_,Heap.get?_push_size _ rfl,rfl,rfl⟩,let ⟨o,ho,r⟩:=pl.isList;⟨o,Heap.get?_push_of_some _ ho,r⟩,Nat.ne_of_lt hlt,rv,by rw [List.size_toArray];omega,hq,I1.fpOk (Nat.le_refl _) (I1.hok.fresh (Nat.le_refl _)),q⟩
theorem aM7q {pins:List (Addr × Obj)} {σ:St} {H:Hp} {s s':Shared} {it:Addr} {acc:Array Value} {c:Nat} {ys:List V} {Q:VK} (I:Inv X pins σ H s) (fp:j9q X pins H it) (hit:it < s.heap.objs.size)
    (hm:Moved (s.heap.objs.size::[it]) (λ a b=>b=a) { s with heap:=s.heap.push (KRv.listAt #[] 0) } s') (hS:s'.heap.get? s.heap.objs.size=some (KRv.listAt acc c))
    (rv:Vals ys acc.toList) (hz:ys.length<=sizeLine) (q:∀ l,H l=none->Q (.ref l) (upd H l (.lst ys))):EP X pins σ Q (.ref s.heap.objs.size) s':=by
  have I2:Inv X pins σ (upd H s.heap.objs.size (.lst ys)) { s with heap:=s.heap.push { cls:=.type "list", dict:=none,data:=.seq acc c,slots:=#[] } }:=
    I.laid (t':=s.toks) (λ b o e=>Heap.get?_push_of_some _ e) (Nat.le_refl _) (show ObjOk X.prog X.w _ _ _ (.lst ys) from ⟨hz,acc.toList,c,rv,by simpa using Heap.get?_push_size s.heap (o:={ cls:=.type "list", dict:=none,data:=.seq acc c,slots:=#[] }) rfl⟩)
  obtain ⟨f0,f1,f2,f3,f4,f5⟩:=fp
  have I3:=I2.turned (h':=s'.heap) (t':=s'.toks) (it:=it) (λ b o hb e=>?_) (by rw [aAq (Nat.ne_of_lt hit)];exact f0) f1 f3 f4 f5
  . rw [KRv.moved_eq hm]
    exact ⟨.ref s.heap.objs.size,_,I3,rfl,q _ (I.hok.fresh (Nat.le_refl _))⟩
  . rcases Heap.get?_push_cases e with ⟨z1,z2⟩ | e
    . rw [z1,z2];exact hS
    . refine hm.heap b o (λ z=>?_) (Heap.get?_push_of_some _ e)
      simp only [List.mem_cons,List.not_mem_nil,or_false] at z
      rcases z with z | z
      . rw [z] at e;exact absurd (Heap.lt_size e) (Nat.lt_irrefl _)
      . exact hb z
theorem nJq:∀ (bs:List Bool),(List.range bs.length).all (λ i=>bs.getD i true)=bs.all id:=by
  intro bs
  rw [Bool.eq_iff_iff,List.all_eq_true,List.all_eq_true]
  constructor
  . intro h x hx
    obtain ⟨i,hi,e⟩:=List.getElem_of_mem hx
    have:=h i (List.mem_range.mpr hi)
    rw [List.getD_eq_getElem?_getD,List.getElem?_eq_getElem hi,Option.getD_some,e] at this
    exact this
  . intro h i hi
    have hi':=List.mem_range.mp hi
    rw [List.getD_eq_getElem?_getD,List.getElem?_eq_getElem hi',Option.getD_some]
    exact h _ (List.getElem_mem hi')
def aG5q (K:PySem.W.Frag):List V->Hp->VK->Prop:=λ xs H Q=>∃ (p:Addr) (bs:List Bool),xs=[.ref p]/\SqL K H p (bs.map V.bl)/\Q (.bl (bs.all id)) H
theorem q0q (hc:X.calm=true):CallR X (.builtin "all") (aG5q X.K):=by
  intro pins s σ H xs us Q I r h
  obtain ⟨p,bs,rfl,hp,hQ⟩:=h
  obtain ⟨u,rfl,ru⟩:=r.one
  cases ru
  obtain ⟨its,rv,pl,hz⟩:=I.list hp
  have hlen:=rv.length
  rw [List.length_map] at hlen
  have hlt:p < s.heap.objs.size:=by obtain ⟨o,ho,_⟩:=pl.isList;exact Heap.lt_size ho
  refine call_all_walk (wpAny_pyIter_list pl.isList ?_)
  refine ⟨s.heap.objs.size,[s.heap.objs.size,p],[s.heap.objs.size],its.toArray.size,_,_,λ i=>bs.getD i true,rfl,Walks.list (A:=X.A.in1) (I.ok.hd hc) _ p (Nat.ne_of_lt hlt) its.toArray,⟨⟨_,Heap.get?_push_size _ rfl,rfl,rfl⟩,let ⟨o,ho,r⟩:=pl.isList;⟨o,Heap.get?_push_of_some _ ho,r⟩⟩,?_,λ h' tk kk=>?_⟩
  . intro i v s' Q' E' hv hq
    have hi:i < its.length:=by
      have:=(Array.getElem?_eq_some_iff.mp hv).1
      simpa using this
    obtain ⟨v1,e1,e2⟩:=rv.get (i:=i) (x:=V.bl bs[i]) (by rw [List.getElem?_map,List.getElem?_eq_getElem (by omega)];rfl)
    have e3:its[i]?=some v:=by simpa using hv
    rw [e1] at e3
    cases e3
    have e4:v=Value.bool bs[i]:=e2
    subst e4
    refine wpAny_truthy_bool ?_
    have e5:bs.getD i true=bs[i]:=by rw [List.getD_eq_getElem?_getD,List.getElem?_eq_getElem (by omega)];rfl
    rw [<- e5]
    exact hq
  . refine ⟨.bl (bs.all id),H,I.kept λ b o e=>kk b o ?_ (Heap.get?_push_of_some _ e),?_,hQ⟩
    . simp only [List.mem_cons,List.not_mem_nil,or_false]
      exact Nat.ne_of_lt (Heap.lt_size e)
    . show Value.bool _=Value.bool _
      rw [List.size_toArray,<- hlen,nJq]
end
theorem Inv.turnedL {X:Cx} {pins:List (Addr × Obj)} {σ:St} {H:Hp} {s:Shared} {h':Heap} {t':Nat} {fp:List Addr} (I:Inv X pins σ H s) (hf:∀ b∈fp,j9q X pins H b) (k:∀ b o,b ∉ fp->s.heap.get? b=some o->h'.get? b=some o):Inv X pins σ H { s with heap:=h',toks:=t' }:=by
  have nit:∀ b u,H b=some u->b ∉ fp:=λ b u e z=>by rw [(hf b z).1] at e;cases e
  refine I.step (g':=s.gens) (d':=s.drawn) (ch:=fp) (λ b hb=>?_) (λ b o _ _ hc e _=>k b o hc e) (λ b o _ _ hc e _=>⟨o.slots,k b o hc e⟩) (λ _ _ _ _ n=>n)
    (λ b o hc e=>⟨o,k b o hc e⟩) (λ _ _ e=>e) (λ _ _ _ e=>e) (λ b ps e=>⟨#[],by rw [e];simp⟩) (λ m hm=>?_) (λ b u e=>?_) I.bare
  . obtain ⟨f0,f1,f2,f3,f4,f5⟩:=hf b hb
    exact ⟨f3,f1,f4,f5⟩
  . obtain ⟨o,es,ep,ho,r⟩:=hm
    exact ⟨o,es,ep,k _ o (λ z=>(hf _ z).2.1 rfl) ho,r⟩
  . refine (I.hok b u e).stay (λ c v hc q=>k c v ?_ q) (λ _ q=>q) λ _ _ q=>q
    rcases hc with z | z
    . rw [z];exact nit b u e
    . exact nit c _ z
def fzn (o:Obj):HO:=.frz o (.ext λ _=>True)
structure CloAt (H:Hp) (f:Addr) (name qual:Str) (st:Stmt) (cl:List (Str × Addr)) (fvs:List V):Prop where
  fn:∃ (oc:Value) (od:Option Addr) (doc pm cdv ct:Value) (sl:Array (Option Value)),H f=some (fzn ⟨oc,od,.func (PySem.W.fnX name qual (bNq st) (b0q st) (a6q st) cl .none .none doc pm none cdv ct),sl⟩) ∧
    ∃ c o vs t,cdv=.ref c/\H c=some (fzn o)/\o.data=.fields vs/\vs[1]?=some (.str qual t)
  cells:∀ (i:Nat) (x:Str) (c:Addr),cl[i]?=some (x,c)->∃ v u o,fvs[i]?=some v/\RelV v u/\H c=some (fzn o)/\o.data=.cell (some u)
  len:cl.length=fvs.length
  nda:(cl.map (·.2)).Nodup
def clOf (env:Env) (fr:List Str):List (Str × Addr):=fr.map λ x=>(x,(env.cells.lookup x).getD 0)
structure MadeAt (env:Env) (H:Hp) (f:Addr) (name qual:Str) (st:Stmt) (fr:List Str):Prop where
  fn:∃ (oc:Value) (od:Option Addr) (doc pm cdv ct:Value) (sl:Array (Option Value)),H f=some (fzn ⟨oc,od,.func (PySem.W.fnX name qual (bNq st) (b0q st) (a6q st) (clOf env fr) .none .none doc pm none cdv ct),sl⟩) ∧
    ∃ c o vs t,cdv=.ref c/\H c=some (fzn o)/\o.data=.fields vs/\vs[1]?=some (.str qual t)
def Tab (H:Hp) (T:Addr) (pos:Pos) (qual:Str):Prop:=∃ ps,H T=some (.tbl ps)/\TriplesOk ps.toList/\(codeAmong pos ps.toList=none\/∃ c o vs t,codeAmong pos ps.toList=some (.ref c)/\H c=some (fzn o)/\o.data=.fields vs/\vs[1]?=some (.str qual t))
end L2
namespace L3
open PySem PySem.Spec L2
inductive D where
  | non | bl (b:Bool) | int (i:Int) | str (x:Str) | ref (a:Addr) | ty (n:String) | tup (ds:List D) | frl (ds:List D)
def FrL (K:PySem.W.Frag) (H:Hp) (a:Addr) (xs:List V):Prop:=
  (∃ o,H a=some (.frz o (.lst xs)))\/∃ (o:Obj) (its:Array Value) (n:Nat),K.lookup a=some o/\o.cls=.type "list"/\o.dict=none/\o.data=.seq its n/\its.size<=sizeLine/\Vals xs its.toList
theorem FrL.sq {K:PySem.W.Frag} {H:Hp} {a:Addr} {xs:List V} (h:FrL K H a xs):SqL K H a xs:=by
  rcases h with h | h
  . exact .inl (.inr h)
  . exact .inr h
mutual
def Abs (K:PySem.W.Frag) (H:Hp):D->V->Prop
  | .non,v=>v=.non
  | .bl b,v=>v=.bl b
  | .int i,v=>v=.int i
  | .str x,v=>v=.str x
  | .ref a,v=>v=.ref a
  | .ty n,v=>v=.ty n
  | .tup ds,v=>∃ a vs,v=.ref a/\SqT K H a vs/\AbsL K H ds vs
  | .frl ds,v=>∃ a vs,v=.ref a/\FrL K H a vs/\AbsL K H ds vs
def AbsL (K:PySem.W.Frag) (H:Hp):List D->List V->Prop
  | [],vs=>vs=[]
  | d::ds,vs=>∃ v r,vs=v::r/\Abs K H d v/\AbsL K H ds r
end
structure Mono (K:PySem.W.Frag) (H H':Hp):Prop where
  tp:∀ a xs,SqT K H a xs->SqT K H' a xs
  fr:∀ a xs,FrL K H a xs->FrL K H' a xs
  fz:∀ a o,H a=some (fzn o)->H' a=some (fzn o)
section
variable {K:PySem.W.Frag} {H H':Hp}
mutual
theorem Abs.mono (h:Mono K H H'):∀ {d:D} {v:V},Abs K H d v->Abs K H' d v
  | .non,_,r=>r
  | .bl _,_,r=>r
  | .int _,_,r=>r
  | .str _,_,r=>r
  | .ref _,_,r=>r
  | .ty _,_,r=>r
  | .tup _,_,⟨a,vs,e,q,l⟩=>⟨a,vs,e,h.tp a vs q,AbsL.mono h l⟩
  | .frl _,_,⟨a,vs,e,q,l⟩=>⟨a,vs,e,h.fr a vs q,AbsL.mono h l⟩
theorem AbsL.mono (h:Mono K H H'):∀ {ds:List D} {vs:List V},AbsL K H ds vs->AbsL K H' ds vs
  | [],_,r=>r
  | _::_,_,⟨v,r,e,q,l⟩=>⟨v,r,e,Abs.mono h q,AbsL.mono h l⟩
end
theorem AbsL.len:∀ {ds:List D} {vs:List V},AbsL K H ds vs->vs.length=ds.length
  | [],_,r=>by cases r;rfl
  | _::_,_,⟨v,r,e,_,l⟩=>by subst e;simp [l.len]
theorem AbsL.append:∀ {ds es:List D} {vs us:List V},AbsL K H ds vs->AbsL K H es us->AbsL K H (ds++es) (vs++us)
  | [],_,_,_,r,s=>by cases r;exact s
  | _::_,_,_,_,⟨v,r,e,q,l⟩,s=>by subst e;exact ⟨v,_,rfl,q,l.append s⟩
theorem AbsL.one {d:D} {v:V} (h:Abs K H d v):AbsL K H [d] [v]:=⟨v,[],rfl,h,rfl⟩
theorem AbsL.get:∀ {ds:List D} {vs:List V} {i:Nat} {d:D},AbsL K H ds vs->ds[i]?=some d->∃ v,vs[i]?=some v/\Abs K H d v
  | [],_,_,_,_,e=>by simp at e
  | _::_,_,0,_,⟨v,r,e',q,l⟩,e=>by simp at e;subst e e';exact ⟨v,rfl,q⟩
  | _::_,_,i+1,d,⟨v,r,e',q,l⟩,e=>by
    subst e'
    obtain ⟨u,h1,h2⟩:=AbsL.get (i:=i) (d:=d) l (by simpa using e)
    exact ⟨u,by simpa using h1,h2⟩
theorem AbsL.take:∀ {ds:List D} {vs:List V} (n:Nat),AbsL K H ds vs->AbsL K H (ds.take n) (vs.take n)
  | _,_,0,_=>by simp [AbsL]
  | [],_,n+1,r=>by cases r;simp [AbsL]
  | _::_,_,n+1,⟨v,r,e,q,l⟩=>by subst e;exact ⟨v,_,rfl,q,l.take n⟩
theorem AbsL.drop:∀ {ds:List D} {vs:List V} (n:Nat),AbsL K H ds vs->AbsL K H (ds.drop n) (vs.drop n)
  | _,_,0,r=>r
  | [],_,n+1,r=>by cases r;simp [AbsL]
  | _::_,_,n+1,⟨v,r,e,q,l⟩=>by subst e;exact l.drop n
theorem AbsL.reverse:∀ {ds:List D} {vs:List V},AbsL K H ds vs->AbsL K H ds.reverse vs.reverse
  | [],_,r=>by cases r;simp [AbsL]
  | _::_,_,⟨v,r,e,q,l⟩=>by subst e;rw [List.reverse_cons,List.reverse_cons];exact l.reverse.append (.one q)
theorem AbsL.set {d:D} {v:V} (h:Abs K H d v):∀ {ds:List D} {vs:List V} (i:Nat),AbsL K H ds vs->AbsL K H (ds.set i d) (vs.set i v)
  | [],_,_,r=>by cases r;simp [AbsL]
  | _::_,_,0,⟨u,r,e,q,l⟩=>by subst e;exact ⟨v,r,rfl,h,l⟩
  | _::_,_,i+1,⟨u,r,e,q,l⟩=>by subst e;exact ⟨u,_,rfl,q,l.set h i⟩
theorem AbsL.of_ints:∀ (ns:List Int),AbsL K H (ns.map D.int) (ns.map V.int)
  | []=>rfl
  | n::ns=>⟨_,_,rfl,rfl,AbsL.of_ints ns⟩
end
def cut {α:Type} (xs:List α) (lo hi:Option Int):List α:=(xs.drop (HT.sIx xs.length 0 lo)).take (HT.sIx xs.length xs.length hi - HT.sIx xs.length 0 lo)
theorem AbsL.cut {K:PySem.W.Frag} {H:Hp} {ds:List D} {vs:List V} (h:AbsL K H ds vs) (lo hi:Option Int):AbsL K H (L3.cut ds lo hi) (mJq vs lo hi):=by
  have e:=h.len
  rw [L3.cut,mJq,e]
  exact (h.drop _).take _
inductive DO where
  | lst (ds:List D)
  | ins (C:Addr) (fs:List (Str × D))
  | dK (kvs:List (Key × D))
  | dT (kvs:List (List Key × D))
  | frT (kvs:List (List Key × D))
  | tab (pos:Pos) (qual:Str) | made (env:Env) (name qual:Str) (st:Stmt) (fr:List Str) | clo (name qual:Str) (st:Stmt) (fr:List Str) (vals:List D)
abbrev DV:=Addr->Option DO
abbrev DSt:=List (Option D)
def up (G:DV) (a:Addr) (o:DO):DV:=λ b=>if b=a then some o else G b
theorem a4q {G:DV} {a:Addr} {o:DO}:up G a o a=some o:=by unfold up;rw [if_pos rfl]
theorem a8q {G:DV} {a b:Addr} {o:DO} (h:b≠a):up G a o b=G b:=by unfold up;rw [if_neg h]
theorem k7q {G:DV} {a:Addr} {o u:DO}:up (up G a o) a u=up G a u:=by funext b;unfold up;split<;>rfl
theorem wDq {G:DV} {a b:Addr} {o u:DO} (h:a≠b):up (up G a o) b u=up (up G b u) a o:=by
  funext c;unfold up;split<;>split<;>simp_all
def AbsF {κ:Type} (K:PySem.W.Frag) (H:Hp) (fs:List (κ × D)) (gs:List (κ × V)):Prop:=fs.map (·.1)=gs.map (·.1)/\AbsL K H (fs.map (·.2)) (gs.map (·.2))
def BearO (K:PySem.W.Frag) (H:Hp) (a:Addr):DO->Prop
  | .lst ds=>∃ vs,H a=some (.lst vs)/\AbsL K H ds vs
  | .ins C fs=>∃ dx gs,H a=some (.ins C dx gs)/\AbsF K H fs gs
  | .dK kvs=>∃ gs,H a=some (.dK gs)/\AbsF K H kvs gs
  | .dT kvs=>∃ gs,H a=some (.dT gs)/\AbsF K H kvs gs
  | .frT kvs=>∃ o gs,H a=some (.frz o (.dT gs))/\AbsF K H kvs gs
  | .tab pos qual=>Tab H a pos qual
  | .made env name qual st fr=>MadeAt env H a name qual st fr
  | .clo name qual st fr vals=>∃ cl fvs,CloAt H a name qual st cl fvs/\cl.map (·.1)=fr/\AbsL K H vals fvs
def Vw (K:PySem.W.Frag) (G:DV) (H:Hp):Prop:=∀ a o,G a=some o->BearO K H a o
theorem BearO.some {K:PySem.W.Frag} {H:Hp} {a:Addr} {o:DO} (h:BearO K H a o):∃ u,H a=.some u:=by
  cases o with
  | lst ds=>obtain ⟨_,e,_⟩:=h;exact ⟨_,e⟩
  | ins C fs=>obtain ⟨_,_,e,_⟩:=h;exact ⟨_,e⟩
  | dK kvs=>obtain ⟨_,e,_⟩:=h;exact ⟨_,e⟩
  | dT kvs=>obtain ⟨_,e,_⟩:=h;exact ⟨_,e⟩
  | frT kvs=>obtain ⟨_,_,e,_⟩:=h;exact ⟨_,e⟩
  | tab pos qual=>obtain ⟨_,e,_⟩:=h;exact ⟨_,e⟩
  | made env name qual st fr=>obtain ⟨_,_,_,_,_,_,_,e,_⟩:=h.fn;exact ⟨_,e⟩
  | clo name qual st fr vals=>obtain ⟨_,_,h,_⟩:=h;obtain ⟨_,_,_,_,_,_,_,e,_⟩:=h.fn;exact ⟨_,e⟩
theorem Vw.none {K:PySem.W.Frag} {G:DV} {H:Hp} (h:Vw K G H) {a:Addr} (e:H a=.none):G a=.none:=by
  cases q:G a with
  | none=>rfl
  | some o=>obtain ⟨u,z⟩:=(h a o q).some;rw [e] at z;cases z
theorem BearO.mono {K:PySem.W.Frag} {H H':Hp} {a:Addr} {o:DO} (ht:Mono K H H') (e:H' a=H a) (h:BearO K H a o):BearO K H' a o:=by
  cases o with
  | lst ds=>obtain ⟨vs,q,l⟩:=h;exact ⟨vs,by rw [e];exact q,l.mono ht⟩
  | ins C fs=>obtain ⟨dx,gs,q,l⟩:=h;exact ⟨dx,gs,by rw [e];exact q,l.1,l.2.mono ht⟩
  | dK kvs=>obtain ⟨gs,q,l⟩:=h;exact ⟨gs,by rw [e];exact q,l.1,l.2.mono ht⟩
  | dT kvs=>obtain ⟨gs,q,l⟩:=h;exact ⟨gs,by rw [e];exact q,l.1,l.2.mono ht⟩
  | frT kvs=>obtain ⟨o,gs,q,l⟩:=h;exact ⟨o,gs,by rw [e];exact q,l.1,l.2.mono ht⟩
  | tab pos qual=>
    obtain ⟨ps,h1,h2,h3⟩:=h
    refine ⟨ps,by rw [e];exact h1,h2,?_⟩
    rcases h3 with h3 | ⟨c,o,vs,t,h3,h4,h5⟩
    . exact .inl h3
    . exact .inr ⟨c,o,vs,t,h3,ht.fz _ _ h4,h5⟩
  | made env name qual st fr=>
    obtain ⟨oc,od,doc,pm,cdv,ct,sl,h1,c,o,vs,t,h2,h3,h4⟩:=h.fn
    exact ⟨oc,od,doc,pm,cdv,ct,sl,ht.fz _ _ h1,c,o,vs,t,h2,ht.fz _ _ h3,h4⟩
  | clo name qual st fr vals=>
    obtain ⟨cl,fvs,C,h1,h2⟩:=h
    obtain ⟨oc,od,doc,pm,cdv,ct,sl,h3,c,o,vs,t,h4,h5,h6⟩:=C.fn
    exact ⟨cl,fvs,⟨⟨oc,od,doc,pm,cdv,ct,sl,ht.fz _ _ h3,c,o,vs,t,h4,ht.fz _ _ h5,h6⟩,λ i x c hi=>let ⟨v,u,o,z1,z2,z3,z4⟩:=C.cells i x c hi;⟨v,u,o,z1,z2,ht.fz _ _ z3,z4⟩,C.len,C.nda⟩,h1,h2.mono ht⟩
structure Go (K:PySem.W.Frag) (G:DV) (H:Hp) (G':DV) (H':Hp):Prop where
  tup:Mono K H H'
  dom:∀ a o,H a=some o->∃ o',H' a=some o'
  same:∀ a o,H a=some o->G a=none->H' a=some o
  new:∀ a o,H a=some o->G a=none->G' a=none
  vw:Vw K G' H'
section
variable {K:PySem.W.Frag} {G G1 G2 G':DV} {H H1 H2 H':Hp}
theorem Go.refl (v:Vw K G H):Go K G H G H:=⟨⟨λ _ _ h=>h,λ _ _ h=>h,λ _ _ h=>h⟩,λ _ o e=>⟨o,e⟩,λ _ _ e _=>e,λ _ _ _ e=>e,v⟩
theorem Go.trans (a:Go K G H G1 H1) (b:Go K G1 H1 G2 H2):Go K G H G2 H2:=
  ⟨⟨λ x xs h=>b.tup.tp x xs (a.tup.tp x xs h),λ x xs h=>b.tup.fr x xs (a.tup.fr x xs h),λ x o h=>b.tup.fz x o (a.tup.fz x o h)⟩,λ x o e=>let ⟨o',e'⟩:=a.dom x o e;b.dom x o' e',λ x o e n=>b.same x o (a.same x o e n) (a.new x o e n),
   λ x o e n=>b.new x o (a.same x o e n) (a.new x o e n),b.vw⟩
def Sub (G G':DV):Prop:=∀ a o,G a=some o->G' a=some o
theorem Sub.refl (G:DV):Sub G G:=λ _ _ e=>e
theorem Sub.trans {G G1 G2:DV} (a:Sub G G1) (b:Sub G1 G2):Sub G G2:=λ x o e=>b x o (a x o e)
theorem Sub.none {G G':DV} (h:Sub G G') {a:Addr} (e:G' a=.none):G a=.none:=by
  cases q:G a with
  | none=>rfl
  | some o=>rw [h a o q] at e;cases e
theorem Vw.sub (v:Vw K G' H) (h:Sub G G'):Vw K G H:=λ a o e=>v a o (h a o e)
theorem Go.sub (g:Go K G H G1 H1) (h:Sub G2 G1):Go K G H G2 H1:=⟨g.tup,g.dom,g.same,λ x o e n=>h.none (g.new x o e n),g.vw.sub h⟩
theorem wZq {a p:Addr} {o:HO} {xs:List V} (hp:∀ ys,¬ Rd H p (.tup ys)) (h:SqT K H a xs):SqT K (upd H p o) a xs:=by
  rcases h with h | h
  . have ne:a≠p:=by rintro rfl;exact hp _ h
    refine .inl ?_
    unfold Rd at h ⊢
    rw [aAq ne];exact h
  . exact .inr h
theorem w7q {p:Addr} {ys:List V} (h:H p=none):¬ Rd H p (.tup ys):=by
  rintro (e | ⟨o,e⟩)<;>rw [h] at e<;>cases e
theorem yKq {p:Addr} {xs ys:List V} (h:H p=some (.lst xs)):¬ Rd H p (.tup ys):=by
  rintro (e | ⟨o,e⟩)<;>rw [h] at e<;>cases e
theorem eIq {p:Addr} {o:HO} (hp:∀ ys,¬ Rd H p (.tup ys)) (hl:∀ o ys,H p≠some (.frz o ys)):Mono K H (upd H p o) where
  tp:=λ _ _ q=>wZq hp q
  fr:=λ a xs q=>by
    rcases q with ⟨z,q⟩ | q
    . exact .inl ⟨z,by rw [aAq (by rintro rfl;exact hl _ _ q)];exact q⟩
    . exact .inr q
  fz:=λ a u q=>by rw [aAq (by rintro rfl;exact hl _ _ q)];exact q
theorem bLq {p:Addr} {o:HO} (h:H p=none):Mono K H (upd H p o):=eIq (λ _=>w7q h) λ _ _ e=>by rw [h] at e;cases e
theorem bKq {p:Addr} {o:HO} {xs:List V} (h:H p=some (.lst xs)):Mono K H (upd H p o):=eIq (λ _=>yKq h) λ _ _ e=>by rw [h] at e;cases e
theorem Go.newT (v:Vw K G H) {p:Addr} {o:HO} (h:H p=none):Go K G H G (upd H p o) where
  tup:=bLq h
  dom:=λ a u e=>⟨u,by rw [aAq (aEq e h)];exact e⟩
  same:=λ a u e _=>by rw [aAq (aEq e h)];exact e
  new:=λ _ _ _ e=>e
  vw:=λ a u e=>(v a u e).mono (bLq h) (aAq (by rintro rfl;obtain ⟨z,q⟩:=(v _ _ e).some;rw [h] at q;cases q))
theorem Go.newL (v:Vw K G H) {p:Addr} {ds:List D} {vs:List V} (h:H p=none) (r:AbsL K H ds vs):Go K G H (up G p (.lst ds)) (upd H p (.lst vs)) where
  tup:=bLq h
  dom:=λ a u e=>⟨u,by rw [aAq (aEq e h)];exact e⟩
  same:=λ a u e _=>by rw [aAq (aEq e h)];exact e
  new:=λ a u e n=>by rw [a8q (aEq e h)];exact n
  vw:=λ a u e=>by
    by_cases c:a=p
    . subst c;rw [a4q] at e;cases e
      exact ⟨vs,aBq,r.mono (bLq h)⟩
    . rw [a8q c] at e
      exact (v a u e).mono (bLq h) (aAq c)
theorem Go.setL (v:Vw K G H) {p:Addr} {ds0 ds:List D} {vs:List V} (h:G p=some (.lst ds0)) (r:AbsL K H ds vs):Go K G H (up G p (.lst ds)) (upd H p (.lst vs)):=by
  obtain ⟨us,hp,_⟩:=v p _ h
  exact {
    tup:=bKq hp
    dom:=λ a u e=>by
      by_cases c:a=p
      . subst c;exact ⟨_,aBq⟩
      . exact ⟨u,by rw [aAq c];exact e⟩
    same:=λ a u e n=>by
      have c:a≠p:=by rintro rfl;rw [h] at n;cases n
      rw [aAq c];exact e
    new:=λ a u e n=>by
      have c:a≠p:=by rintro rfl;rw [h] at n;cases n
      rw [a8q c];exact n
    vw:=λ a u e=>by
      by_cases c:a=p
      . subst c;rw [a4q] at e;cases e
        exact ⟨vs,aBq,r.mono (bKq hp)⟩
      . rw [a8q c] at e
        exact (v a u e).mono (bKq hp) (aAq c) }
theorem Go.grow (v:Vw K G H) (h:Same H H'):Go K G H G H':=by
  have ht:Mono K H H':=⟨λ b xs q=>by
    rcases q with q | q
    . rcases q with q | ⟨o,q⟩
      . exact .inl (.inl (h _ _ q))
      . exact .inl (.inr ⟨o,h _ _ q⟩)
    . exact .inr q,λ b xs q=>by
    rcases q with ⟨o,q⟩ | q
    . exact .inl ⟨o,h _ _ q⟩
    . exact .inr q,λ b o q=>h _ _ q⟩
  exact ⟨ht,λ a o e=>⟨o,h a o e⟩,λ a o e _=>h a o e,λ _ _ _ e=>e,λ a u e=>by
    obtain ⟨z,q⟩:=(v a u e).some
    exact (v a u e).mono ht (by rw [q];exact h _ _ q)⟩
end
structure Bears (K:PySem.W.Frag) (ρ:DSt) (G:DV) (σ:St) (H:Hp):Prop where
  len:ρ.length=σ.length
  st:∀ (i:Nat) (d:D),ρ[i]?=some (some d)->∃ v,σ[i]?=some (some v)/\Abs K H d v
  vw:Vw K G H
theorem Bears.go {K:PySem.W.Frag} {ρ:DSt} {G G':DV} {σ:St} {H H':Hp} (b:Bears K ρ G σ H) (g:Go K G H G' H'):Bears K ρ G' σ H':=
  ⟨b.len,λ i d e=>let ⟨v,h1,h2⟩:=b.st i d e;⟨v,h1,h2.mono g.tup⟩,g.vw⟩
theorem Bears.set {K:PySem.W.Frag} {ρ:DSt} {G:DV} {σ:St} {H:Hp} {d:D} {v:V} (b:Bears K ρ G σ H) (h:Abs K H d v) (i:Nat):Bears K (ρ.set i (some d)) G (σ.set i (some v)) H where
  len:=by simp [b.len]
  vw:=b.vw
  st:=λ j e he=>by
    by_cases c:j=i
    . subst c
      rw [List.getElem?_set] at he ⊢
      have l:=b.len
      simp only [if_true] at he ⊢
      split at he
      . next q=>rw [if_pos (by omega)];simp at he;subst he;exact ⟨v,rfl,h⟩
      . cases he
    . rw [List.getElem?_set_ne (by omega)] at he ⊢
      exact b.st j e he
def StSub (ρ ρ':DSt):Prop:=ρ.length=ρ'.length/\∀ (i:Nat) (d:D),ρ[i]?=some (some d)->ρ'[i]?=some (some d)
theorem StSub.refl (ρ:DSt):StSub ρ ρ:=⟨rfl,λ _ _ e=>e⟩
theorem Bears.weak {K:PySem.W.Frag} {ρ ρ':DSt} {G G':DV} {σ:St} {H:Hp} (b:Bears K ρ' G' σ H) (s:StSub ρ ρ') (g:Sub G G'):Bears K ρ G σ H:=
  ⟨s.1.trans b.len,λ i d e=>b.st i d (s.2 i d e),b.vw.sub g⟩
abbrev DK:=D->DV->Prop
abbrev DTE:=DSt->DV->DK->Prop
abbrev DTT:=DSt->DV->(Bool->DV->Prop)->Prop
abbrev DTA:=DSt->DV->(List D->DV->Prop)->Prop
abbrev DTO:=DSt->DV->(Option Int->DV->Prop)->Prop
structure DEnds where
  nx:DSt->DV->Prop
  rt:DK
  bk:DSt->DV->Prop:=λ _ _=>False
  ct:DSt->DV->Prop:=λ _ _=>False
abbrev DTS:=DEnds->DSt->DV->Prop
abbrev Fin (K:PySem.W.Frag) (G:DV) (H:Hp) (DQ:DK) (Q:VK):Prop:=∀ d G' v H',Go K G H G' H'->Abs K H' d v->DQ d G'->Q v H'
abbrev FinB (K:PySem.W.Frag) (G:DV) (H:Hp) (DQ:Bool->DV->Prop) (Q:Bool->Hp->Prop):Prop:=∀ b G' H',Go K G H G' H'->DQ b G'->Q b H'
abbrev FinO (K:PySem.W.Frag) (G:DV) (H:Hp) (DQ:Option Int->DV->Prop) (Q:Option Int->Hp->Prop):Prop:=∀ b G' H',Go K G H G' H'->DQ b G'->Q b H'
abbrev FinL (K:PySem.W.Frag) (n:Nat) (G:DV) (H:Hp) (DQ:List D->DV->Prop) (Q:List V->Hp->Prop):Prop:=∀ ds G' vs H',Go K G H G' H'->AbsL K H' ds vs->ds.length=n->DQ ds G'->Q vs H'
structure AE (X:Cx) (e:Expr) (t:DTE):Prop where
  run:∃ tc:TE,JE X e tc/\∀ ρ G DQ σ H Q,Bears X.K ρ G σ H->t ρ G DQ->Fin X.K G H DQ Q->tc σ H Q
structure AT (X:Cx) (e:Expr) (t:DTT):Prop where
  run:∃ tc:TT,JT X e tc/\∀ ρ G DQ σ H Q,Bears X.K ρ G σ H->t ρ G DQ->FinB X.K G H DQ Q->tc σ H Q
structure AW (X:Cx) (e:Expr) (t:DTT):Prop where
  run:∃ tc:TT,JW X e tc/\∀ ρ G DQ σ H Q,Bears X.K ρ G σ H->t ρ G DQ->FinB X.K G H DQ Q->tc σ H Q
structure AA (X:Cx) (es:List Expr) (t:DTA):Prop where
  run:∃ tc:TA,JA X es tc/\∀ ρ G DQ σ H Q,Bears X.K ρ G σ H->t ρ G DQ->FinL X.K es.length G H DQ Q->tc σ H Q
structure AO (X:Cx) (e:Option Expr) (t:DTO):Prop where
  run:∃ tc:TO,JO X e tc/\∀ ρ G DQ σ H Q,Bears X.K ρ G σ H->t ρ G DQ->FinO X.K G H DQ Q->tc σ H Q
structure EndsOk (K:PySem.W.Frag) (G:DV) (H:Hp) (DD:DEnds) (Dc:Ends):Prop where
  nx:∀ ρ G' σ H',Go K G H G' H'->Bears K ρ G' σ H'->DD.nx ρ G'->Dc.nx σ H'
  rt:Fin K G H DD.rt Dc.rt
  bk:∀ ρ G' σ H',Go K G H G' H'->Bears K ρ G' σ H'->DD.bk ρ G'->Dc.bk σ H'
  ct:∀ ρ G' σ H',Go K G H G' H'->Bears K ρ G' σ H'->DD.ct ρ G'->Dc.ct σ H'
structure AS (X:Cx) (st:Stmt) (t:DTS):Prop where
  run:∃ tc:TS,JS X st tc/\∀ DD Dc ρ G σ H,Bears X.K ρ G σ H->t DD ρ G->EndsOk X.K G H DD Dc->tc Dc σ H
structure AB (X:Cx) (st:List Stmt) (t:DTS):Prop where
  run:∃ tc:TS,JB X st tc/\∀ DD Dc ρ G σ H,Bears X.K ρ G σ H->t DD ρ G->EndsOk X.K G H DD Dc->tc Dc σ H
abbrev DTG:=D->DSt->DV->(DSt->DV->Prop)->Prop
abbrev vYq:=List D->DSt->DV->(DSt->DV->Prop)->Prop
abbrev FinS (K:PySem.W.Frag) (G:DV) (H:Hp) (DQ:DSt->DV->Prop) (Q:St->Hp->Prop):Prop:=∀ ρ G' σ H',Go K G H G' H'->Bears K ρ G' σ H'->DQ ρ G'->Q σ H'
structure AG (X:Cx) (tg:Expr) (t:DTG):Prop where
  run:∃ tc:TG,JG X tg tc/\∀ d v ρ G DQ σ H Q,Bears X.K ρ G σ H->Abs X.K H d v->t d ρ G DQ->FinS X.K G H DQ Q->tc v σ H Q
structure AGs (X:Cx) (tgs:List Expr) (t:vYq):Prop where
  run:∃ tc:TGs,JGs X tgs tc/\∀ ds vs ρ G DQ σ H Q,Bears X.K ρ G σ H->AbsL X.K H ds vs->t ds ρ G DQ->FinS X.K G H DQ Q->tc vs σ H Q
abbrev DR1:=D->DV->DK->Prop
abbrev DR2:=D->D->DV->DK->Prop
abbrev DRL:=List D->DV->DK->Prop
structure AOp (X:Cx) (f:Value->Value->Sem Value) (r:DR2):Prop where
  run:∃ rc:R2,JOp X f rc/\∀ x y vx vy G H DQ Q,Vw X.K G H->Abs X.K H x vx->Abs X.K H y vy->r x y G DQ->Fin X.K G H DQ Q->rc vx vy H Q
structure AUn (X:Cx) (f:Value->Sem Value) (r:DR1):Prop where
  run:∃ rc:V->Hp->VK->Prop,JUn X f rc/\∀ x vx G H DQ Q,Vw X.K G H->Abs X.K H x vx->r x G DQ->Fin X.K G H DQ Q->rc vx H Q
structure ACall (X:Cx) (f:Value) (r:DRL):Prop where
  run:∃ rc:List V->Hp->VK->Prop,JCall X f rc/\∀ xs vs G H DQ Q,Vw X.K G H->AbsL X.K H xs vs->r xs G DQ->Fin X.K G H DQ Q->rc vs H Q
structure AIx (X:Cx) (r:DR2):Prop where
  run:∃ rc:R2,JIx X rc/\∀ x y vx vy G H DQ Q,Vw X.K G H->Abs X.K H x vx->Abs X.K H y vy->r x y G DQ->Fin X.K G H DQ Q->rc vx vy H Q
structure ASl (X:Cx) (r:D->Option Int->Option Int->DV->DK->Prop):Prop where
  run:∃ rc,JSl X rc/\∀ x vx lo hi G H DQ Q,Vw X.K G H->Abs X.K H x vx->r x lo hi G DQ->Fin X.K G H DQ Q->rc vx lo hi H Q
theorem Fin.after {K:PySem.W.Frag} {G G1:DV} {H H1:Hp} {DQ:DK} {Q:VK} (F:Fin K G H DQ Q) (g:Go K G H G1 H1):Fin K G1 H1 DQ Q:=λ d G' v H' g' a q=>F d G' v H' (g.trans g') a q
theorem EndsOk.after {K:PySem.W.Frag} {G G1:DV} {H H1:Hp} {DD:DEnds} {Dc:Ends} (F:EndsOk K G H DD Dc) (g:Go K G H G1 H1):EndsOk K G1 H1 DD Dc:=
  ⟨λ ρ G' σ H' g' b q=>F.nx ρ G' σ H' (g.trans g') b q,λ d G' v H' g' a q=>F.rt d G' v H' (g.trans g') a q,λ ρ G' σ H' g' b q=>F.bk ρ G' σ H' (g.trans g') b q,λ ρ G' σ H' g' b q=>F.ct ρ G' σ H' (g.trans g') b q⟩
end L3
namespace L3
open PySem PySem.Spec L2
section
variable {X:Cx} {a b c e o i:Expr} {es:List Expr} {ta tb te to ti:DTE} {t:DTA} {pos p apos cpos:Pos}
abbrev dC (d:D):DTE:=λ _ G Q=>Q d G
abbrev sZq (k:Nat):DTE:=λ ρ G Q=>match ρ[k]? with
  | some (some d)=>Q d G
  | _=>False
theorem x6q {v:V} {d:D} (h:JE X e (tC v)) (r:∀ H,Abs X.K H d v):AE X e (dC d):=⟨_,h,λ ρ G DQ σ H Q B q F=>F d G v H (.refl B.vw) (r H) q⟩
theorem a3q {n:Int} {j}:AE X (.Constant (.int n) j pos) (dC (.int n)):=x6q aA0q λ _=>rfl
theorem bRq {n:Bool} {j}:AE X (.Constant (.bool n) j pos) (dC (.bl n)):=x6q aG9q λ _=>rfl
theorem iUq {j}:AE X (.Constant .none j pos) (dC .non):=x6q y9q λ _=>rfl
theorem a7q {x:Str} {j}:AE X (.Constant (.str x) j pos) (dC (.str x)):=x6q yVq λ _=>rfl
theorem a1q (k:Nat) {x:Str} (hN:X.N[k]?=some x:=by rfl) (hv:Vis X.env.scope x:=by first | exact Or.inl rfl | exact Or.inr (Or.inl rfl) | exact Or.inr (Or.inr rfl)) (hd:(x==("__debug__" : Str))=false:=by decide)
    (hcd:(x==("__classdict__" : Str))=false:=by decide):AE X (.Name x pos) (sZq k):=⟨_,jv k hN hv hd hcd,λ ρ G DQ σ H Q B q F=>by
  unfold sZq at q
  split at q
  . next d h=>
    obtain ⟨v,h1,h2⟩:=B.st k d h
    exact ⟨v,h1,F d G v H (.refl B.vw) h2 q⟩
  . exact q.elim⟩
theorem i1q {x:Str} {n:String} (hg:Gl X x) (hm:X.mg x=none) (hv:bootBuiltins x=some (.type n)) (hn:x≠"__name__":=by decide) (hd:(x==("__debug__" : Str))=false:=by decide):AE X (.Name x pos) (dC (.ty n)):=
  x6q (vSq (v:=.ty n) hg hm hv rfl hn hd) λ _=>rfl
theorem cNq {x:Str} {v:V} {u:Value} {d:D} (hg:Gl X x) (hm:X.mg x=some u) (r:RelV v u) (ha:∀ H,Abs X.K H d v) (hd:(x==("__debug__" : Str))=false:=by decide):AE X (.Name x pos) (dC d):=x6q (vRq hg hm r hd) ha
abbrev dNil:DTA:=λ _ G Q=>Q [] G
abbrev p1q (ta:DTE) (tr:DTA):DTA:=λ ρ G Q=>ta ρ G λ x G1=>tr ρ G1 λ xs G2=>Q (x::xs) G2
theorem a2q:AA X [] dNil:=⟨_,y4q,λ ρ G DQ σ H Q B q F=>F [] G [] H (.refl B.vw) rfl rfl q⟩
theorem a0q (ha:AE X e te) (hr:AA X es t) (hs:b6q e=true:=by rfl):AA X (e::es) (p1q te t):=by
  obtain ⟨ca,ja,ra⟩:=ha.run
  obtain ⟨cr,jr,rr⟩:=hr.run
  refine ⟨_,wPq ja jr hs,λ ρ G DQ σ H Q B q F=>?_⟩
  refine ra ρ G _ σ H _ B q λ x G1 v H1 g1 ax q1=>rr ρ G1 _ σ H1 _ (B.go g1) q1 λ xs G2 vs H2 g2 axs hl q2=>?_
  exact F (x::xs) G2 (v::vs) H2 (g1.trans g2) ⟨v,vs,rfl,ax.mono g2.tup,axs⟩ (by simp [hl]) q2
abbrev dTup (t:DTA):DTE:=λ ρ G Q=>t ρ G λ ds G1=>Q (.tup ds) G1
abbrev dLst (t:DTA):DTE:=λ ρ G Q=>t ρ G λ ds G1=>∀ p,G1 p=none->Q (.ref p) (up G1 p (.lst ds))
theorem jNq {n:Nat} (h:Nat.ble n 1000=true):n<=sizeLine:=by
  have:=Nat.le_of_ble_eq_true h
  rw [sizeLine_eq];omega
theorem bFq {x1} (h:AA X es t) (hl:Nat.ble es.length 1000=true:=by rfl):AE X (.Tuple es x1 pos) (dTup t):=by
  obtain ⟨ca,ja,ra⟩:=h.run
  refine ⟨_,aB2q ja,λ ρ G DQ σ H Q B q F=>ra ρ G _ σ H _ B q λ ds G1 vs H1 g1 al hn q1=>⟨by rw [al.len,hn];exact jNq hl,λ p hp=>?_⟩⟩
  have g2:=Go.newT (o:=.tup vs) g1.vw hp
  exact F (.tup ds) G1 _ _ (g1.trans g2) ⟨p,vs,rfl,.of aBq,al.mono g2.tup⟩ q1
theorem bCq (h:AA X es t) (hl:Nat.ble es.length 1000=true:=by rfl):AE X (.List es pos) (dLst t):=by
  obtain ⟨ca,ja,ra⟩:=h.run
  refine ⟨_,tXq ja,λ ρ G DQ σ H Q B q F=>ra ρ G _ σ H _ B q λ ds G1 vs H1 g1 al hn q1=>⟨by rw [al.len,hn];exact jNq hl,λ p hp=>?_⟩⟩
  exact F (.ref p) _ _ _ (g1.trans (Go.newL g1.vw hp al)) rfl (q1 p (g1.vw.none hp))
def atN (ds:List D):Int->Option D
  | .ofNat k=>ds[k]?
  | .negSucc k=>atI ds (.negSucc k)
theorem t4q (ds:List D) (i:Int):atN ds i=atI ds i:=by
  cases i with
  | negSucc k=>rfl
  | ofNat k=>
    show ds[k]?=atI ds (k:Int)
    by_cases h:k < ds.length
    . rw [List.getElem?_eq_getElem h]
      exact (cQq (List.getElem?_eq_getElem h)).symm
    . rw [List.getElem?_eq_none (by omega)]
      unfold atI ixN
      rw [if_pos (by omega),if_neg (by omega)];rfl
def atD (ds:List D) (i:Int) (G:DV) (Q:DK):Prop:=match atN ds i with
  | some d=>Q d G
  | none=>False
theorem nHq {ds:List D} {i:Int} {G:DV} {Q:DK} {d:D} (h:atI ds i=some d) (q:Q d G):atD ds i G Q:=by unfold atD;rw [t4q,h];exact q
@[irreducible] def onL (G:DV) (l:Addr) (k:List D->Prop):Prop:=match G l with
  | some (.lst ds)=>k ds
  | _=>False
@[irreducible] def onM (G:DV) (l:Addr) (k:List D->Prop):Prop:=match G l with
  | some (.lst ds)=>k ds
  | _=>False
theorem aIq {G:DV} {l:Addr} {k:List D->Prop} {ds:List D} (h:G l=some (.lst ds)) (q:k ds):onL G l k:=by unfold onL;rw [h];exact q
theorem b4q {G:DV} {l:Addr} {k:List D->Prop} {ds:List D} (h:G l=some (.lst ds)) (q:k ds):onM G l k:=by unfold onM;rw [h];exact q
theorem bDq {K:PySem.W.Frag} {G:DV} {H:Hp} {l:Addr} {k:List D->Prop} (v:Vw K G H) (h:onL G l k):∃ ds vs,k ds/\SqL K H l vs/\AbsL K H ds vs:=by
  unfold onL at h
  split at h
  . next ds e=>obtain ⟨vs,z,r⟩:=v _ _ e;exact ⟨ds,vs,h,.of z,r⟩
  . exact h.elim
theorem cAq {K:PySem.W.Frag} {G:DV} {H:Hp} {l:Addr} {k:List D->Prop} (v:Vw K G H) (h:onM G l k):∃ ds vs,k ds/\G l=some (.lst ds)/\H l=some (.lst vs)/\AbsL K H ds vs:=by
  unfold onM at h
  split at h
  . next ds e=>obtain ⟨vs,z,r⟩:=v _ _ e;exact ⟨ds,vs,h,e,z,r⟩
  . exact h.elim
abbrev dOp (r:DR2) (ta tb:DTE):DTE:=λ ρ G Q=>ta ρ G λ x G1=>tb ρ G1 λ y G2=>r x y G2 Q
abbrev dUn (r:DR1) (ta:DTE):DTE:=λ ρ G Q=>ta ρ G λ x G1=>r x G1 Q
theorem aJq {op:Operator} {r:DR2} (ho:AOp X (binaryOp op) r) (ha:AE X a ta) (hb:AE X b tb):AE X (.BinOp a op b pos) (dOp r ta tb):=by
  obtain ⟨ca,ja,ra⟩:=ha.run
  obtain ⟨cb,jb,rb⟩:=hb.run
  obtain ⟨co,jo,ro⟩:=ho.run
  refine ⟨_,aM2q jo ja jb,λ ρ G DQ σ H Q B q F=>?_⟩
  exact ra ρ G _ σ H _ B q λ x G1 v H1 g1 ax q1=>rb ρ G1 _ σ H1 _ (B.go g1) q1 λ y G2 u H2 g2 ay q2=>ro x y v u G2 H2 DQ Q g2.vw (ax.mono g2.tup) ay q2 (F.after (g1.trans g2))
theorem dDq {op:CmpOp} {r:DR2} (ho:AOp X (compareOp op) r) (ha:AE X a ta) (hb:AE X b tb) (hm:behindInMarks op b=false):AE X (.Compare a [op] [b] pos) (dOp r ta tb):=by
  obtain ⟨ca,ja,ra⟩:=ha.run
  obtain ⟨cb,jb,rb⟩:=hb.run
  obtain ⟨co,jo,ro⟩:=ho.run
  refine ⟨_,vEq jo ja jb hm,λ ρ G DQ σ H Q B q F=>?_⟩
  exact ra ρ G _ σ H _ B q λ x G1 v H1 g1 ax q1=>rb ρ G1 _ σ H1 _ (B.go g1) q1 λ y G2 u H2 g2 ay q2=>ro x y v u G2 H2 DQ Q g2.vw (ax.mono g2.tup) ay q2 (F.after (g1.trans g2))
theorem gSq {op:UnaryOp} {r:DR1} (ho:AUn X (unaryOp op) r) (ha:AE X a ta):AE X (.UnaryOp op a pos) (dUn r ta):=by
  obtain ⟨ca,ja,ra⟩:=ha.run
  obtain ⟨co,jo,ro⟩:=ho.run
  refine ⟨_,aM9q jo ja,λ ρ G DQ σ H Q B q F=>?_⟩
  exact ra ρ G _ σ H _ B q λ x G1 v H1 g1 ax q1=>ro x v G1 H1 DQ Q g1.vw ax q1 (F.after g1)
theorem bBq {r:DR2} (hr:AIx X r) (ha:AE X a ta) (hb:AE X b tb) (hs:hLq b):AE X (.Subscript a b pos) (dOp r ta tb):=by
  obtain ⟨ca,ja,ra⟩:=ha.run
  obtain ⟨cb,jb,rb⟩:=hb.run
  obtain ⟨co,jo,ro⟩:=hr.run
  refine ⟨_,z0q jo ja jb hs,λ ρ G DQ σ H Q B q F=>?_⟩
  exact ra ρ G _ σ H _ B q λ x G1 v H1 g1 ax q1=>rb ρ G1 _ σ H1 _ (B.go g1) q1 λ y G2 u H2 g2 ay q2=>ro x y v u G2 H2 DQ Q g2.vw (ax.mono g2.tup) ay q2 (F.after (g1.trans g2))
def Br (c:Bool) (A B:Prop):Prop:=(c=true->A)/\(c=false->B)
theorem Br.yes {c:Bool} {A B:Prop} (h:c=true) (q:A):Br c A B:=⟨λ _=>q,λ z=>absurd (h.symm.trans z) (by decide)⟩
theorem Br.no {c:Bool} {A B:Prop} (h:c=false) (q:B):Br c A B:=⟨λ z=>absurd (h.symm.trans z) (by decide),λ _=>q⟩
abbrev blD (x:D) (k:Bool->Prop):Prop:=match x with
  | .bl c=>k c
  | _=>False
theorem gZq {K:PySem.W.Frag} {H:Hp} {x:D} {v:V} {k:Bool->Prop} (h:blD x k) (r:Abs K H x v):∃ c,v=.bl c/\x=.bl c/\k c:=by
  unfold blD at h
  split at h
  . exact ⟨_,r,rfl,h⟩
  . exact h.elim
abbrev aK8q (ta tb:DTE):DTE:=λ ρ G Q=>ta ρ G λ x G1=>blD x λ c=>Br c (tb ρ G1 Q) (Q (.bl false) G1)
abbrev dOrV (ta tb:DTE):DTE:=λ ρ G Q=>ta ρ G λ x G1=>blD x λ c=>Br c (Q (.bl true) G1) (tb ρ G1 Q)
abbrev aI2q (ta:DTE):DTE:=λ ρ G Q=>ta ρ G λ x G1=>blD x λ c=>Q (.bl (!c)) G1
theorem g4q {op} (h:AE X a ta):AE X (.BoolOp op [a] pos) ta:=by
  obtain ⟨ca,ja,ra⟩:=h.run
  exact ⟨_,aE7q ja,ra⟩
theorem lMq {rest:List Expr} (ha:AE X a ta) (hb:AE X (.BoolOp .And (b::rest) pos) tb):AE X (.BoolOp .And (a::b::rest) pos) (aK8q ta tb):=by
  obtain ⟨ca,ja,ra⟩:=ha.run
  obtain ⟨cb,jb,rb⟩:=hb.run
  refine ⟨_,yZq ja jb,λ ρ G DQ σ H Q B q F=>ra ρ G _ σ H _ B q λ x G1 v H1 g1 ax q1=>?_⟩
  obtain ⟨c,e1,e2,q2⟩:=gZq q1 ax
  refine ⟨c,e1,?_⟩
  cases c with
  | true=>exact rb ρ G1 _ σ H1 _ (B.go g1) (q2.1 rfl) (F.after g1)
  | false=>exact F (.bl false) _ _ _ g1 rfl (q2.2 rfl)
theorem u1q {rest:List Expr} (ha:AE X a ta) (hb:AE X (.BoolOp .Or (b::rest) pos) tb):AE X (.BoolOp .Or (a::b::rest) pos) (dOrV ta tb):=by
  obtain ⟨ca,ja,ra⟩:=ha.run
  obtain ⟨cb,jb,rb⟩:=hb.run
  refine ⟨_,aI9q ja jb,λ ρ G DQ σ H Q B q F=>ra ρ G _ σ H _ B q λ x G1 v H1 g1 ax q1=>?_⟩
  obtain ⟨c,e1,e2,q2⟩:=gZq q1 ax
  refine ⟨c,e1,?_⟩
  cases c with
  | false=>exact rb ρ G1 _ σ H1 _ (B.go g1) (q2.2 rfl) (F.after g1)
  | true=>exact F (.bl true) _ _ _ g1 rfl (q2.1 rfl)
theorem oMq (ha:AE X a ta):AE X (.UnaryOp .Not a pos) (aI2q ta):=by
  obtain ⟨ca,ja,ra⟩:=ha.run
  refine ⟨_,xFq ja,λ ρ G DQ σ H Q B q F=>ra ρ G _ σ H _ B q λ x G1 v H1 g1 ax q1=>?_⟩
  obtain ⟨c,e1,e2,q2⟩:=gZq q1 ax
  exact ⟨c,e1,F (.bl (!c)) _ _ _ g1 rfl q2⟩
abbrev dIf (tc:DTT) (ta tb:DTE):DTE:=λ ρ G Q=>tc ρ G λ c G1=>Br c (ta ρ G1 Q) (tb ρ G1 Q)
theorem kNq {tc:DTT} (hc:AT X c tc) (ha:AE X a ta) (hb:AE X b tb):AE X (.IfExp c a b pos) (dIf tc ta tb):=by
  obtain ⟨cc,jc,rc⟩:=hc.run
  obtain ⟨ca,ja,ra⟩:=ha.run
  obtain ⟨cb,jb,rb⟩:=hb.run
  refine ⟨_,r6q jc ja jb,λ ρ G DQ σ H Q B q F=>rc ρ G _ σ H _ B q λ c G1 H1 g1 q1=>?_⟩
  cases c with
  | true=>exact ra ρ G1 _ σ H1 _ (B.go g1) (q1.1 rfl) (F.after g1)
  | false=>exact rb ρ G1 _ σ H1 _ (B.go g1) (q1.2 rfl) (F.after g1)
abbrev aD0q (t:DTE):DTT:=λ ρ G Q=>t ρ G λ x G1=>blD x λ c=>Q c G1
theorem aHq {op:CmpOp} {r:DR2} (ho:AOp X (compareOp op) r) (ha:AE X a ta) (hb:AE X b tb) (hm:behindInMarks op b=false):AT X (.Compare a [op] [b] pos) (aD0q (dOp r ta tb)):=by
  obtain ⟨ca,ja,ra⟩:=ha.run
  obtain ⟨cb,jb,rb⟩:=hb.run
  obtain ⟨co,jo,ro⟩:=ho.run
  refine ⟨_,vDq jo ja jb hm,λ ρ G DQ σ H Q B q F=>?_⟩
  refine ra ρ G _ σ H _ B q λ x G1 v H1 g1 ax q1=>rb ρ G1 _ σ H1 _ (B.go g1) q1 λ y G2 u H2 g2 ay q2=>ro x y v u G2 H2 _ _ g2.vw (ax.mono g2.tup) ay q2 λ z G3 w H3 g3 az q3=>?_
  obtain ⟨c,e1,e2,q4⟩:=gZq q3 az
  exact ⟨c,e1,F c G3 H3 ((g1.trans g2).trans g3) q4⟩
abbrev dNot (tc:DTT):DTT:=λ ρ G Q=>tc ρ G λ c G1=>Q (!c) G1
abbrev dAnd (tc td:DTT):DTT:=λ ρ G Q=>tc ρ G λ c G1=>Br c (td ρ G1 Q) (Q false G1)
abbrev dOr (tc td:DTT):DTT:=λ ρ G Q=>tc ρ G λ c G1=>Br c (Q true G1) (td ρ G1 Q)
theorem dXq {tc:DTT} (ha:AT X a tc):AT X (.UnaryOp .Not a pos) (dNot tc):=by
  obtain ⟨ca,ja,ra⟩:=ha.run
  exact ⟨_,yGq ja,λ ρ G DQ σ H Q B q F=>ra ρ G _ σ H _ B q λ c G1 H1 g1 q1=>F _ _ _ g1 q1⟩
theorem h0q {tc:DTT} (ha:AT X a tc):AW X (.BoolOp .And [a] pos) tc:=by
  obtain ⟨ca,ja,ra⟩:=ha.run
  exact ⟨_,vHq ja,ra⟩
theorem gDq {tc:DTT} (ha:AT X a tc):AW X (.BoolOp .Or [a] pos) tc:=by
  obtain ⟨ca,ja,ra⟩:=ha.run
  exact ⟨_,aD9q ja,ra⟩
theorem iHq {tc td:DTT} {rest:List Expr} (ha:AT X a tc) (hb:AW X (.BoolOp .And (b::rest) pos) td):AW X (.BoolOp .And (a::b::rest) pos) (dAnd tc td):=by
  obtain ⟨ca,ja,ra⟩:=ha.run
  obtain ⟨cb,jb,rb⟩:=hb.run
  refine ⟨_,aB8q ja jb,λ ρ G DQ σ H Q B q F=>ra ρ G _ σ H _ B q λ c G1 H1 g1 q1=>?_⟩
  cases c with
  | true=>exact rb ρ G1 _ σ H1 _ (B.go g1) (q1.1 rfl) λ c G' H' g'=>F c G' H' (g1.trans g')
  | false=>exact F _ _ _ g1 (q1.2 rfl)
theorem i7q {tc td:DTT} {rest:List Expr} (ha:AT X a tc) (hb:AW X (.BoolOp .Or (b::rest) pos) td):AW X (.BoolOp .Or (a::b::rest) pos) (dOr tc td):=by
  obtain ⟨ca,ja,ra⟩:=ha.run
  obtain ⟨cb,jb,rb⟩:=hb.run
  refine ⟨_,aJ3q ja jb,λ ρ G DQ σ H Q B q F=>ra ρ G _ σ H _ B q λ c G1 H1 g1 q1=>?_⟩
  cases c with
  | false=>exact rb ρ G1 _ σ H1 _ (B.go g1) (q1.2 rfl) λ c G' H' g'=>F c G' H' (g1.trans g')
  | true=>exact F _ _ _ g1 (q1.1 rfl)
theorem AW.at {tc:DTT} (h:AW X e tc):AT X e tc:=by
  obtain ⟨ca,ja,ra⟩:=h.run
  exact ⟨_,ja.pt,ra⟩
def truD (x:D) (G:DV) (k:Bool->Prop):Prop:=match x with
  | .non=>k false
  | .bl b=>k b
  | .int i=>k (i !=0)
  | .str y=>y.length<=sizeLine/\k ((y.length:Int) !=0)
  | .tup ds=>k (!ds.isEmpty)
  | .ref p=>onL G p λ ds=>k (!ds.isEmpty)
  | _=>False
theorem AbsL.isEmpty {K:PySem.W.Frag} {H:Hp} {ds:List D} {vs:List V} (h:AbsL K H ds vs):vs.isEmpty=ds.isEmpty:=by
  have:=h.len
  cases ds<;>cases vs<;>simp_all
abbrev zEq (t:DTE):DTT:=λ ρ G Q=>t ρ G λ x G1=>truD x G1 λ c=>Q c G1
theorem bMq (ha:AE X a ta) (he:∀ whole,isTrue a X.env whole=(do let v ← whole;standAt a.pos;holding [v] (truthy v)):=by intro _;rfl):AT X a (zEq ta):=by
  obtain ⟨ca,ja,ra⟩:=ha.run
  refine ⟨_,qTq ja he,λ ρ G DQ σ H Q B q F=>ra ρ G _ σ H _ B q λ x G1 v H1 g1 ax q1=>?_⟩
  cases x with
  | non=>cases ax;exact ⟨_,rfl,F _ _ _ g1 q1⟩
  | bl b=>cases ax;exact ⟨_,rfl,F _ _ _ g1 q1⟩
  | int i=>cases ax;exact ⟨_,rfl,F _ _ _ g1 q1⟩
  | str y=>cases ax;exact ⟨_,⟨q1.1,rfl⟩,F _ _ _ g1 q1.2⟩
  | ref l=>
    cases ax
    obtain ⟨ds,vs,k,s,r⟩:=bDq g1.vw q1
    exact ⟨_,.inl ⟨vs,s,rfl⟩,by rw [r.isEmpty];exact F _ _ _ g1 k⟩
  | tup ds=>
    obtain ⟨l,vs,rfl,s,r⟩:=ax
    exact ⟨_,.inr (.inl ⟨vs,s,rfl⟩),by rw [r.isEmpty];exact F _ _ _ g1 q1⟩
  | ty n=>exact (show False from q1).elim
  | frl ds=>exact (show False from q1).elim
abbrev hGq:DTO:=λ _ G Q=>Q none G
abbrev sLq (t:DTE):DTO:=λ ρ G Q=>t ρ G λ x G1=>match x with
  | .int i=>Q (some i) G1
  | _=>False
theorem bGq:AO X none hGq:=⟨_,w4q,λ ρ G DQ σ H Q B q F=>F none G H (.refl B.vw) q⟩
theorem b7q (h:AE X e te):AO X (some e) (sLq te):=by
  obtain ⟨ca,ja,ra⟩:=h.run
  refine ⟨_,w3q ja,λ ρ G DQ σ H Q B q F=>ra ρ G _ σ H _ B q λ x G1 v H1 g1 ax q1=>?_⟩
  split at q1
  . next i=>exact ⟨i,ax,F _ _ _ g1 q1⟩
  . exact q1.elim
abbrev dSl (r:D->Option Int->Option Int->DV->DK->Prop) (te:DTE) (tl th:DTO):DTE:=λ ρ G Q=>te ρ G λ x G1=>tl ρ G1 λ l G2=>th ρ G2 λ u G3=>r x l u G3 Q
theorem b1q {r:D->Option Int->Option Int->DV->DK->Prop} {lo hi:Option Expr} {tl th:DTO} {p2:Pos} (hr:ASl X r) (he:AE X e te) (hl:AO X lo tl) (hu:AO X hi th):AE X (.Subscript e (.Slice lo hi none p2) pos) (dSl r te tl th):=by
  obtain ⟨ce,je,re⟩:=he.run
  obtain ⟨cl,jl,rl⟩:=hl.run
  obtain ⟨cu,ju,ru⟩:=hu.run
  obtain ⟨cr,jr,rr⟩:=hr.run
  refine ⟨_,qWq jr je jl ju,λ ρ G DQ σ H Q B q F=>re ρ G _ σ H _ B q λ x G1 v H1 g1 ax q1=>rl ρ G1 _ σ H1 _ (B.go g1) q1 λ l G2 H2 g2 q2=>ru ρ G2 _ σ H2 _ ((B.go g1).go g2) q2 λ u G3 H3 g3 q3=>?_⟩
  exact rr x v l u G3 H3 DQ Q g3.vw ((ax.mono g2.tup).mono g3.tup) q3 (F.after ((g1.trans g2).trans g3))
abbrev aC8q:DTS:=λ D ρ G=>D.nx ρ G
abbrev dSeq (t u:DTS):DTS:=λ D ρ G=>t { D with nx:=u D } ρ G
abbrev aB0q (te:DTE):DTS:=λ D ρ G=>te ρ G λ _ G1=>D.nx ρ G1
abbrev dRet (te:DTE):DTS:=λ D ρ G=>te ρ G D.rt
abbrev aJ4q:DTS:=λ D _ G=>D.rt .non G
abbrev dIfS (c:DTT) (t u:DTS):DTS:=λ D ρ G=>c ρ G λ b G1=>Br b (t D ρ G1) (u D ρ G1)
theorem aPq:AB X [] aC8q:=⟨_,tMq,λ DD Dc ρ G σ H B q F=>F.nx ρ G σ H (.refl B.vw) B q⟩
theorem a5q {st:Stmt} {rest:List Stmt} {ts us:DTS} (h1:AS X st ts) (h2:AB X rest us):AB X (st::rest) (dSeq ts us):=by
  obtain ⟨c1,j1,r1⟩:=h1.run
  obtain ⟨c2,j2,r2⟩:=h2.run
  refine ⟨_,q9q j1 j2,λ DD Dc ρ G σ H B q F=>r1 _ _ ρ G σ H B q ⟨λ ρ' G' σ' H' g b q=>r2 DD Dc ρ' G' σ' H' b q (F.after g),F.rt,F.bk,F.ct⟩⟩
theorem a9q {st:Stmt} {ts:DTS} (h1:AS X st ts):AB X [st] ts:=by
  obtain ⟨c1,j1,r1⟩:=h1.run
  exact ⟨_,tKq j1,r1⟩
theorem bJq (he:AE X e te) (hs:swapsWith e none pos.line X.env=pure false:=by rfl):AS X (.Expr e pos) (aB0q te):=by
  obtain ⟨c1,j1,r1⟩:=he.run
  exact ⟨_,uWq j1 hs,λ DD Dc ρ G σ H B q F=>r1 ρ G _ σ H _ B q λ d G' v H' g _ q=>F.nx ρ G' σ H' g (B.go g) q⟩
theorem aFq (he:AE X e te):AS X (.Return (some e) pos) (dRet te):=by
  obtain ⟨c1,j1,r1⟩:=he.run
  exact ⟨_,xDq j1,λ DD Dc ρ G σ H B q F=>r1 ρ G _ σ H _ B q F.rt⟩
theorem wGq:AS X (.Return none pos) aJ4q:=⟨_,uGq,λ DD Dc ρ G σ H B q F=>F.rt .non G .non H (.refl B.vw) rfl q⟩
theorem aVq {ss us:List Stmt} {tc:DTT} {ts tu:DTS} (hc:AT X c tc) (ha:AB X ss ts) (hb:AB X us tu):AS X (.If c ss us pos) (dIfS tc ts tu):=by
  obtain ⟨cc,jc,rc⟩:=hc.run
  obtain ⟨ca,ja,ra⟩:=ha.run
  obtain ⟨cb,jb,rb⟩:=hb.run
  refine ⟨_,xQq jc ja jb,λ DD Dc ρ G σ H B q F=>rc ρ G _ σ H _ B q λ c G1 H1 g1 q1=>?_⟩
  cases c with
  | true=>exact ra DD Dc ρ G1 σ H1 (B.go g1) (q1.1 rfl) (F.after g1)
  | false=>exact rb DD Dc ρ G1 σ H1 (B.go g1) (q1.2 rfl) (F.after g1)
abbrev lIq (k:Nat):DTG:=λ d ρ G Q=>Q (ρ.set k (some d)) G
abbrev aI1q:vYq:=λ ds ρ G Q=>match ds with
  | []=>Q ρ G
  | _=>False
abbrev aD3q (t:DTG) (u:vYq):vYq:=λ ds ρ G Q=>match ds with
  | d::r=>t d ρ G λ ρ' G'=>u r ρ' G' Q
  | []=>False
abbrev aO1q (t:vYq):DTG:=λ d ρ G Q=>match d with
  | .tup ds=>t ds ρ G Q
  | _=>False
theorem bYq {k:Nat} {x:Str} (hN:X.N.Nodup) (hi:X.N[k]?=some x) (hx:Loc X.env.scope x) (hf:X.fn x=true\/X.env.scope.names.lookup x=some .local:=by first | exact .inl rfl | exact .inr rfl | assumption):AG X (.Name x pos) (lIq k):=
  ⟨_,uZq hN hi hx hf,λ d v ρ G DQ σ H Q B a q F=>F _ G _ H (.refl B.vw) (B.set a k) q⟩
abbrev dAsg (te:DTE) (g:DTG):DTS:=λ D ρ G=>te ρ G λ x G1=>g x ρ G1 D.nx
theorem nNq {tg:Expr} {g:DTG} (he:AE X e te) (hg:AG X tg g) (hs:swapsWithSole [tg] e pos.line X.env=pure false:=by rfl) (hw:swappedStores [tg] e X.env=pure none:=by rfl) (h1:(assignEach [tg] X.env).map (·.2)=[assign tg X.env]:=by rfl):AS X (.Assign [tg] e pos) (dAsg te g):=by
  obtain ⟨c1,j1,r1⟩:=he.run
  obtain ⟨c2,j2,r2⟩:=hg.run
  exact ⟨_,aD6q j1 j2 hs hw h1,λ DD Dc ρ G σ H B q F=>r1 ρ G _ σ H _ B q λ d G1 v H1 g1 a q1=>r2 d v ρ G1 _ σ H1 _ (B.go g1) a q1 λ ρ' G' σ' H' g' b q'=>F.nx ρ' G' σ' H' (g1.trans g') b q'⟩
theorem aKq {k:Nat} {x:Str} {pos':Pos} (hN:X.N.Nodup) (hi:X.N[k]?=some x) (hx:Loc X.env.scope x) (he:AE X e te) (hs:swapsWith e (some (.Name x pos')) pos.line X.env=pure false:=by rfl) (hf:X.fn x=true\/X.env.scope.names.lookup x=some .local:=by first | exact .inl rfl | exact .inr rfl | assumption) :
    AS X (.Assign [.Name x pos'] e pos) (dAsg te (lIq k)):=by
  obtain ⟨c1,j1,r1⟩:=he.run
  exact ⟨_,aC2q hN hi hx j1 hs hf,λ DD Dc ρ G σ H B q F=>r1 ρ G _ σ H _ B q λ d G1 v H1 g1 a q1=>F.nx _ G1 _ H1 g1 ((B.go g1).set a k) q1⟩
theorem pSq:AGs X [] aI1q:=⟨_,u6q,λ ds vs ρ G DQ σ H Q B a q F=>by
  cases ds with
  | nil=>cases a;exact ⟨rfl,F ρ G σ H (.refl B.vw) B q⟩
  | cons d r=>exact (show False from q).elim⟩
theorem eHq {tg:DTG} {u:vYq} (h1:AG X e tg) (h2:AGs X es u) (hs:(assignEach (e::es) X.env).map (·.2)=assign e X.env::(assignEach es X.env).map (·.2):=by rfl):AGs X (e::es) (aD3q tg u):=by
  obtain ⟨c1,j1,r1⟩:=h1.run
  obtain ⟨c2,j2,r2⟩:=h2.run
  refine ⟨_,rTq j1 j2 hs,λ ds vs ρ G DQ σ H Q B a q F=>?_⟩
  cases ds with
  | nil=>exact (show False from q).elim
  | cons d r=>
    obtain ⟨v,us,rfl,ad,ar⟩:=a
    exact ⟨v,us,rfl,r1 d v ρ G _ σ H _ B ad q λ ρ' G' σ' H' g b q'=>r2 r us ρ' G' _ σ' H' _ b (ar.mono g.tup) q' λ ρ2 G2 σ2 H2 g2 b2 q2=>F ρ2 G2 σ2 H2 (g.trans g2) b2 q2⟩
theorem tPq {k n:Nat} {tg:vYq} (hc:X.calm=true) (h:AGs X es tg) (hl:es.length=n:=by rfl) (hn:(assignEach es X.env).length=n:=by rfl) (hst:(assignEach es X.env).findIdx? (·.1)=none:=by rfl)
    (hlen:∀ ds ρ G Q,tg ds ρ G Q->ds.length=n:=by intro ds ρ G Q h;match ds,h with | [],h=>(first | rfl | exact (show False from h).elim) | [_],h=>(first | rfl | exact (show False from h).elim) | [_,_],h=>(first | rfl | exact (show False from h).elim) | [_,_,_],h=>(first | rfl | exact (show False from h).elim) | _::_::_::_::_,h=>exact (show False from h).elim):AG X (.Tuple es k pos) (aO1q tg):=by
  obtain ⟨c1,j1,r1⟩:=h.run
  refine ⟨_,z9q (n:=n) hc j1 hn hst,λ d v ρ G DQ σ H Q B a q F=>?_⟩
  cases d with
  | tup ds=>
    obtain ⟨l,vs,rfl,s,r⟩:=a
    exact ⟨l,vs,rfl,s,by rw [r.len];exact hlen _ _ _ _ q,r1 ds vs ρ G DQ σ H Q B r q F⟩
  | _=>exact (show False from q).elim
end
end L3
namespace L3
open PySem PySem.Spec L2
section
variable {X:Cx}
def addD:DR2:=λ x y G Q=>match x,y with
  | .int i,.int j=>Q (.int (i+j)) G
  | .str i,.str j=>i.length+j.length<=sizeLine/\Q (.str (i++j)) G
  | .tup xs,.tup ys=>xs.length+ys.length<=sizeLine/\Q (.tup (xs++ys)) G
  | .ref l,.ref m=>onM G l λ xs=>onM G m λ ys=>xs.length+ys.length<=sizeLine/\∀ p,G p=none->Q (.ref p) (up G p (.lst (xs++ys)))
  | _,_=>False
theorem aOq:AOp X (binaryOp .Add) addD:=by
  refine ⟨_,⟨op_add.or (op_add_str.or (op_catW.or aC6q))⟩,λ x y vx vy G H DQ Q v ax ay r F=>?_⟩
  cases x with
  | int i=>
    cases y with
    | int j=>cases ax;cases ay;exact .inl ⟨i,j,rfl,rfl,F (.int (i+j)) G _ H (.refl v) rfl r⟩
    | _=>exact (show False from r).elim
  | str i=>
    cases y with
    | str j=>cases ax;cases ay;exact .inr (.inl ⟨i,j,rfl,rfl,r.1,F (.str (i++j)) G _ H (.refl v) rfl r.2⟩)
    | _=>exact (show False from r).elim
  | tup xs=>
    cases y with
    | tup ys=>
      obtain ⟨l,vs,rfl,s1,r1⟩:=ax
      obtain ⟨m,us,rfl,s2,r2⟩:=ay
      have l1:=r1.len
      have l2:=r2.len
      refine .inr (.inr (.inl ⟨l,m,vs,us,rfl,rfl,s1,s2,by rw [l1,l2];exact r.1,λ e=>?_,λ e e2=>?_,λ e e2 p hp=>?_⟩))
      . subst e
        have e':xs=[]:=by cases xs<;>simp_all
        subst e'
        exact F (.tup ys) G _ H (.refl v) ⟨m,us,rfl,s2,r2⟩ (by simpa using r.2)
      . subst e2
        have e':ys=[]:=by cases ys<;>simp_all
        subst e'
        exact F (.tup xs) G _ H (.refl v) ⟨l,vs,rfl,s1,r1⟩ (by simpa using r.2)
      . have g:=Go.newT (o:=.tup (vs++us)) v hp
        exact F (.tup (xs++ys)) G _ _ g ⟨p,_,rfl,.of aBq,(r1.append r2).mono g.tup⟩ r.2
    | _=>exact (show False from r).elim
  | ref l=>
    cases y with
    | ref m=>
      cases ax;cases ay
      obtain ⟨xs,vs,k1,e1,h1,r1⟩:=cAq v r
      obtain ⟨ys,us,k2,e2,h2,r2⟩:=cAq v k1
      have l1:=r1.len
      have l2:=r2.len
      exact .inr (.inr (.inr ⟨l,m,vs,us,rfl,rfl,h1,h2,by rw [l1,l2];exact k2.1,λ p hp=>F (.ref p) _ _ _ (Go.newL v hp (r1.append r2)) rfl (k2.2 p (v.none hp))⟩))
    | _=>exact (show False from r).elim
  | _=>exact (show False from r).elim
def zAq (C:Int->Int->Prop) (g:Int->Int->D):DR2:=λ x y G Q=>match x,y with
  | .int i,.int j=>C i j/\Q (g i j) G
  | _,_=>False
def k1q (g:Int->Int->D):DR2:=λ x y G Q=>match x,y with
  | .int i,.int j=>Q (g i j) G
  | _,_=>False
theorem r7q {f:Value->Value->Sem Value} {C:Int->Int->Prop} {g:Int->Int->Int} (h:OpR X f (rI C λ i j=>.int (g i j))):AOp X f (zAq C λ i j=>.int (g i j)):=by
  refine ⟨_,⟨h⟩,λ x y vx vy G H DQ Q v ax ay r F=>?_⟩
  cases x with
  | int i=>
    cases y with
    | int j=>cases ax;cases ay;exact ⟨i,j,rfl,rfl,r.1,F (.int (g i j)) G _ H (.refl v) rfl r.2⟩
    | _=>exact (show False from r).elim
  | _=>exact (show False from r).elim
theorem yEq {f:Value->Value->Sem Value} {g:Int->Int->Int} (h:OpR X f (rI0 λ i j=>.int (g i j))):AOp X f (k1q λ i j=>.int (g i j)):=by
  refine ⟨_,⟨h⟩,λ x y vx vy G H DQ Q v ax ay r F=>?_⟩
  cases x with
  | int i=>
    cases y with
    | int j=>cases ax;cases ay;exact ⟨i,j,rfl,rfl,F (.int (g i j)) G _ H (.refl v) rfl r⟩
    | _=>exact (show False from r).elim
  | _=>exact (show False from r).elim
theorem l8q {f:Value->Value->Sem Value} {g:Int->Int->Bool} (h:OpR X f (rI0 λ i j=>.bl (g i j))):AOp X f (k1q λ i j=>.bl (g i j)):=by
  refine ⟨_,⟨h⟩,λ x y vx vy G H DQ Q v ax ay r F=>?_⟩
  cases x with
  | int i=>
    cases y with
    | int j=>cases ax;cases ay;exact ⟨i,j,rfl,rfl,F (.bl (g i j)) G _ H (.refl v) rfl r⟩
    | _=>exact (show False from r).elim
  | _=>exact (show False from r).elim
theorem aYq:AOp X (binaryOp .Sub) (k1q λ i j=>.int (i - j)):=yEq z4q
theorem cMq:AOp X (binaryOp .Mult) (zAq CMul λ i j=>.int (i * j)):=r7q xXq
theorem lHq:AOp X (binaryOp .FloorDiv) (zAq (λ _ j=>0 < j/\j < 2 ^ 64) λ i j=>.int (i / j)):=r7q rFq
theorem bPq:AOp X (binaryOp .Mod) (zAq (λ _ j=>0 < j) λ i j=>.int (i % j)):=r7q zKq
theorem wAq:AOp X (binaryOp .Pow) (zAq CPow λ i j=>.int (i ^ j.toNat)):=r7q zOq
theorem cIq:AOp X (compareOp .Lt) (k1q λ i j=>.bl (decide (i < j))):=l8q aK2q
theorem g5q:AOp X (compareOp .LtE) (k1q λ i j=>.bl (decide (i<=j))):=l8q aN1q
theorem j7q:AOp X (compareOp .Gt) (k1q λ i j=>.bl (decide (j < i))):=l8q aM6q
theorem aC3q:AOp X (compareOp .GtE) (k1q λ i j=>.bl (decide (j<=i))):=l8q aI7q
def negD:DR1:=λ x G Q=>match x with
  | .int i=>Q (.int (-i)) G
  | _=>False
theorem cEq:AUn X (unaryOp .USub) negD:=by
  refine ⟨_,⟨yFq⟩,λ x vx G H DQ Q v ax r F=>?_⟩
  cases x with
  | int i=>cases ax;exact ⟨i,rfl,F (.int (-i)) G _ H (.refl v) rfl r⟩
  | _=>exact (show False from r).elim
def rRq:D->Bool
  | .non=>true
  | _=>false
def isN (neg:Bool):DR2:=λ x y G Q=>match y with
  | .non=>Q (.bl (neg ^^ rRq x)) G
  | _=>False
theorem pCq {K:PySem.W.Frag} {H:Hp} {x:D} {v:V} (a:Abs K H x v):decide (v=.non)=rRq x:=by
  cases x with
  | tup ds=>obtain ⟨_,_,rfl,_⟩:=a;rfl
  | frl ds=>obtain ⟨_,_,rfl,_⟩:=a;rfl
  | _=>cases a;rfl
theorem aD4q:AOp X (compareOp .Is) (isN false):=by
  refine ⟨_,⟨zMq⟩,λ x y vx vy G H DQ Q v ax ay r F=>?_⟩
  cases y with
  | non=>cases ay;exact ⟨rfl,by rw [pCq ax];exact F (.bl _) G _ H (.refl v) rfl (by simpa [isN] using r)⟩
  | _=>exact (show False from r).elim
theorem o3q:AOp X (compareOp .IsNot) (isN true):=by
  refine ⟨_,⟨vUq⟩,λ x y vx vy G H DQ Q v ax ay r F=>?_⟩
  cases y with
  | non=>cases ay;exact ⟨rfl,by rw [pCq ax];exact F (.bl _) G _ H (.refl v) rfl (by simpa [isN] using r)⟩
  | _=>exact (show False from r).elim
theorem hZq {K:PySem.W.Frag} {H:Hp} {ds:List D} {vs:List V} {i:Int} {d:D} (r:AbsL K H ds vs) (h:atI ds i=some d):∃ v,atI vs i=some v/\Abs K H d v:=by
  unfold atI at h ⊢
  rw [r.len]
  cases e:ixN ds.length i with
  | none=>rw [e] at h;cases h
  | some j=>
    rw [e] at h
    exact r.get h
theorem hAq {ds:List D} {i:Int} {G:DV} {Q:DK} (h:atD ds i G Q):∃ d,atI ds i=some d/\Q d G:=by
  unfold atD at h
  rw [t4q] at h
  split at h
  . next d e=>exact ⟨d,e,h⟩
  . exact h.elim
def ixD:DR2:=λ x y G Q=>match x,y with
  | .tup ds,.int i=>atD ds i G Q
  | .ref l,.int i=>onL G l λ ds=>atD ds i G Q
  | .frl ds,.int i=>atD ds i G Q
  | .str z,.int i=>z.length<=sizeLine/\∃ c,atI z.cps.toList i=some c/\Q (.str ⟨#[c]⟩) G
  | _,_=>False
theorem t7q {ds:List D} {i:Int} {G:DV} {Q:DK} {d:D} (h:atI ds i=some d) (q:Q d G):ixD (.frl ds) (.int i) G Q:=nHq h q
theorem e7q {l:Addr} {ds:List D} {i:Int} {G:DV} {Q:DK} {d:D} (hl:G l=some (.lst ds)) (h:atI ds i=some d) (q:Q d G):ixD (.ref l) (.int i) G Q:=aIq hl (nHq h q)
theorem aix:AIx X ixD:=by
  refine ⟨_,⟨t1q⟩,λ x y vx vy G H DQ Q v ax ay r F=>?_⟩
  cases x with
  | tup ds=>
    cases y with
    | int i=>
      cases ay
      obtain ⟨l,vs,rfl,s,rl⟩:=ax
      obtain ⟨d,hd,q⟩:=hAq r
      obtain ⟨u,hu,ad⟩:=hZq rl hd
      exact .inr (.inl ⟨l,vs,i,u,rfl,rfl,s,hu,F d G u H (.refl v) ad q⟩)
    | _=>exact (show False from r).elim
  | ref l=>
    cases y with
    | int i=>
      cases ax;cases ay
      obtain ⟨ds,vs,k,s,rl⟩:=bDq v r
      obtain ⟨d,hd,q⟩:=hAq k
      obtain ⟨u,hu,ad⟩:=hZq rl hd
      exact .inl ⟨l,vs,i,u,rfl,rfl,s,hu,F d G u H (.refl v) ad q⟩
    | _=>exact (show False from r).elim
  | frl ds=>
    cases y with
    | int i=>
      cases ay
      obtain ⟨l,vs,rfl,s,rl⟩:=ax
      obtain ⟨d,hd,q⟩:=hAq r
      obtain ⟨u,hu,ad⟩:=hZq rl hd
      exact .inl ⟨l,vs,i,u,rfl,rfl,s.sq,hu,F d G u H (.refl v) ad q⟩
    | _=>exact (show False from r).elim
  | str z=>
    cases y with
    | int i=>
      cases ax;cases ay
      obtain ⟨hz,c,hc,q⟩:=r
      exact .inr (.inr ⟨z,i,c,rfl,rfl,hz,hc,F (.str ⟨#[c]⟩) G _ H (.refl v) rfl q⟩)
    | _=>exact (show False from r).elim
  | _=>exact (show False from r).elim
def slD:D->Option Int->Option Int->DV->DK->Prop:=λ x lo hi G Q=>match x with
  | .tup ds=>Q (.tup (cut ds lo hi)) G
  | .ref l=>onL G l λ ds=>∀ p,G p=none->Q (.ref p) (up G p (.lst (cut ds lo hi)))
  | .frl ds=>∀ p,G p=none->Q (.ref p) (up G p (.lst (cut ds lo hi)))
  | _=>False
theorem asl:ASl X slD:=by
  refine ⟨_,⟨sl_tupU.or vXq⟩,λ x vx lo hi G H DQ Q v ax r F=>?_⟩
  cases x with
  | tup ds=>
    obtain ⟨l,vs,rfl,s,rl⟩:=ax
    refine .inl ⟨l,vs,rfl,s,λ t H2 sm st=>?_⟩
    have g:=Go.grow v sm
    exact F (.tup (cut ds lo hi)) G _ _ g ⟨t,_,rfl,st,(rl.cut lo hi).mono g.tup⟩ r
  | ref l=>
    cases ax
    obtain ⟨ds,vs,k,s,rl⟩:=bDq v r
    exact .inr ⟨l,vs,rfl,s,λ p hp=>F (.ref p) _ _ _ (Go.newL v hp (rl.cut lo hi)) rfl (k p (v.none hp))⟩
  | frl ds=>
    obtain ⟨l,vs,rfl,s,rl⟩:=ax
    exact .inr ⟨l,vs,rfl,s.sq,λ p hp=>F (.ref p) _ _ _ (Go.newL v hp (rl.cut lo hi)) rfl (r p (v.none hp))⟩
  | _=>exact (show False from r).elim
def dPq:D->Bool
  | .non=>true
  | .bl _=>true
  | .int _=>true
  | .str _=>true
  | _=>false
def toV:D->V
  | .non=>.non
  | .bl b=>.bl b
  | .int i=>.int i
  | .str x=>.str x
  | _=>.non
theorem iLq {K:PySem.W.Frag} {H:Hp} {d:D} {v:V} (a:Abs K H d v) (h:dPq d=true):v=toV d/\fRq v=true:=by
  cases d with
  | non=>cases a;exact ⟨rfl,rfl⟩
  | bl b=>cases a;exact ⟨rfl,rfl⟩
  | int b=>cases a;exact ⟨rfl,rfl⟩
  | str b=>cases a;exact ⟨rfl,rfl⟩
  | _=>exact absurd h (by simp [dPq])
theorem toVs {K:PySem.W.Frag} {H:Hp}:∀ {ds:List D} {vs:List V},AbsL K H ds vs->ds.all dPq=true->vs=ds.map toV/\vs.all fRq=true
  | [],_,r,_=>by cases r;exact ⟨rfl,rfl⟩
  | _::_,_,⟨v,r,e,q,l⟩,h=>by
    subst e
    rw [List.all_cons,Bool.and_eq_true] at h
    obtain ⟨h1,h2⟩:=iLq q h.1
    obtain ⟨h3,h4⟩:=toVs l h.2
    exact ⟨by rw [List.map_cons,<- h1,<- h3],by rw [List.all_cons,h2,h4];rfl⟩
def eqF:D->D->Bool
  | .non,.non=>true
  | .bl a,.bl b=>a==b
  | .bl a,.int b=>(if a then 1 else 0)==b
  | .int a,.bl b=>a==(if b then 1 else 0)
  | .int a,.int b=>a==b
  | .str a,.str b=>a==b
  | _,_=>false
theorem aK0q {x y:D} (hx:dPq x=true) (hy:dPq y=true):eqV (toV x) (toV y)=eqF x y:=by
  cases x<;>cases y<;>first | rfl | (simp [dPq] at hx;done) | (simp [dPq] at hy;done)
def inL (x:D) (ds:List D):Bool:=ds.any λ y=>eqF y x
theorem oRq {x:D} (hx:dPq x=true):∀ {ds:List D},ds.all dPq=true->inV (toV x) (ds.map toV)=inL x ds
  | [],_=>rfl
  | d::ds,h=>by
    rw [List.all_cons,Bool.and_eq_true] at h
    have ih:=oRq hx h.2
    unfold inV inL at *
    rw [List.map_cons,List.any_cons,List.any_cons,ih,aK0q h.1 hx]
def inD (neg:Bool):DR2:=λ x y G Q=>match y with
  | .tup ds=>dPq x=true/\ds.all dPq=true/\Q (.bl (neg ^^ inL x ds)) G
  | .ref l=>onL G l λ ds=>dPq x=true/\ds.all dPq=true/\Q (.bl (neg ^^ inL x ds)) G
  | .str j=>(match x with
      | .str i=>Q (.bl (neg ^^ !(Builtin.Str.occurrences j i 0 j.length 1).isEmpty)) G
      | _=>False)
  | _=>False
theorem tJq:AOp X (compareOp .In) (inD false):=by
  refine ⟨_,⟨op_in_seq.or oNq⟩,λ x y vx vy G H DQ Q v ax ay r F=>?_⟩
  cases y with
  | tup ds=>
    obtain ⟨h1,h2,q⟩:=r
    obtain ⟨l,vs,rfl,s,rl⟩:=ay
    obtain ⟨e1,f1⟩:=iLq ax h1
    obtain ⟨e2,f2⟩:=toVs rl h2
    refine .inl ⟨l,vs,rfl,.inr s,f1,f2,?_⟩
    rw [e1,e2,oRq h1 h2]
    exact F (.bl _) G _ H (.refl v) rfl (by simpa using q)
  | ref l=>
    cases ay
    obtain ⟨ds,vs,⟨h1,h2,q⟩,s,rl⟩:=bDq v r
    obtain ⟨e1,f1⟩:=iLq ax h1
    obtain ⟨e2,f2⟩:=toVs rl h2
    refine .inl ⟨l,vs,rfl,.inl s,f1,f2,?_⟩
    rw [e1,e2,oRq h1 h2]
    exact F (.bl _) G _ H (.refl v) rfl (by simpa using q)
  | str j=>
    cases x with
    | str i=>cases ax;cases ay;exact .inr ⟨i,j,rfl,rfl,F (.bl _) G _ H (.refl v) rfl (by simpa [inD] using r)⟩
    | _=>exact (show False from r).elim
  | _=>exact (show False from r).elim
theorem mRq:AOp X (compareOp .NotIn) (inD true):=by
  refine ⟨_,⟨op_notIn_seq.or iJq⟩,λ x y vx vy G H DQ Q v ax ay r F=>?_⟩
  cases y with
  | tup ds=>
    obtain ⟨h1,h2,q⟩:=r
    obtain ⟨l,vs,rfl,s,rl⟩:=ay
    obtain ⟨e1,f1⟩:=iLq ax h1
    obtain ⟨e2,f2⟩:=toVs rl h2
    refine .inl ⟨l,vs,rfl,.inr s,f1,f2,?_⟩
    rw [e1,e2,oRq h1 h2]
    exact F (.bl _) G _ H (.refl v) rfl (by simpa using q)
  | ref l=>
    cases ay
    obtain ⟨ds,vs,⟨h1,h2,q⟩,s,rl⟩:=bDq v r
    obtain ⟨e1,f1⟩:=iLq ax h1
    obtain ⟨e2,f2⟩:=toVs rl h2
    refine .inl ⟨l,vs,rfl,.inl s,f1,f2,?_⟩
    rw [e1,e2,oRq h1 h2]
    exact F (.bl _) G _ H (.refl v) rfl (by simpa using q)
  | str j=>
    cases x with
    | str i=>cases ax;cases ay;exact .inr ⟨i,j,rfl,rfl,F (.bl _) G _ H (.refl v) rfl (by simpa [inD] using r)⟩
    | _=>exact (show False from r).elim
  | _=>exact (show False from r).elim
variable {e o:Expr} {es:List Expr} {te to:DTE} {t:DTA} {pos p apos cpos:Pos}
abbrev dCB (r:DRL) (t:DTA):DTE:=λ ρ G Q=>t ρ G λ ds G1=>r ds G1 Q
theorem aMq {x:Str} {id:String} {r:DRL} (hc:ACall X (.builtin id) r) (hg:Gl X x) (hm:X.mg x=none) (hv:bootBuiltins x=some (.builtin id)) (ha:AA X (e::es) t) (hn:x≠"__name__":=by decide) (hdb:(x==("__debug__" : Str))=false:=by decide)
    (hs:(e::es).all b6q=true:=by rfl):AE X (.Call (.Name x p) (e::es) [] pos) (dCB r t):=by
  obtain ⟨ca,ja,ra⟩:=ha.run
  obtain ⟨cc,jc,rc⟩:=hc.run
  exact ⟨_,sSq jc hg hm hv ja hn hdb hs,λ ρ G DQ σ H Q B q F=>ra ρ G _ σ H _ B q λ ds G1 vs H1 g1 al _ q1=>rc ds vs G1 H1 DQ Q g1.vw al q1 (F.after g1)⟩
theorem cRq {x:Str} {T:String} {r:DRL} (hc:ACall X (.type T) r) (hg:Gl X x) (hm:X.mg x=none) (hv:bootBuiltins x=some (.type T)) (ha:AA X (e::es) t) (hn:x≠"__name__":=by decide) (hdb:(x==("__debug__" : Str))=false:=by decide)
    (hs:(e::es).all b6q=true:=by rfl):AE X (.Call (.Name x p) (e::es) [] pos) (dCB r t):=by
  obtain ⟨ca,ja,ra⟩:=ha.run
  obtain ⟨cc,jc,rc⟩:=hc.run
  exact ⟨_,oTq jc hg hm hv ja hn hdb hs,λ ρ G DQ σ H Q B q F=>ra ρ G _ σ H _ B q λ ds G1 vs H1 g1 al _ q1=>rc ds vs G1 H1 DQ Q g1.vw al q1 (F.after g1)⟩
abbrev tUq (r:D->DV->DK->Prop):DRL:=λ xs G Q=>match xs with
  | [x]=>r x G Q
  | _=>False
abbrev two2 (r:D->D->DV->DK->Prop):DRL:=λ xs G Q=>match xs with
  | [x,y]=>r x y G Q
  | _=>False
theorem cUq {K:PySem.W.Frag} {H:Hp} {r:D->DV->DK->Prop} {xs:List D} {vs:List V} {G:DV} {Q:DK} (h:tUq r xs G Q) (a:AbsL K H xs vs):∃ x v,xs=[x]/\vs=[v]/\Abs K H x v/\r x G Q:=by
  unfold tUq at h
  split at h
  . obtain ⟨v,r,rfl,q,l⟩:=a;cases l;exact ⟨_,v,rfl,rfl,q,h⟩
  . exact h.elim
theorem l3q {K:PySem.W.Frag} {H:Hp} {r:D->D->DV->DK->Prop} {xs:List D} {vs:List V} {G:DV} {Q:DK} (h:two2 r xs G Q) (a:AbsL K H xs vs):∃ x y v u,xs=[x,y]/\vs=[v,u]/\Abs K H x v/\Abs K H y u/\r x y G Q:=by
  unfold two2 at h
  split at h
  . obtain ⟨v,r,rfl,q,u,r2,rfl,q2,l⟩:=a;cases l;exact ⟨_,_,v,u,rfl,rfl,q,q2,h⟩
  . exact h.elim
def lenD:D->DV->DK->Prop:=λ x G Q=>match x with
  | .tup ds=>Q (.int ds.length) G
  | .ref l=>onL G l λ ds=>Q (.int ds.length) G
  | .frl ds=>Q (.int ds.length) G
  | .str z=>z.length<=sizeLine/\Q (.int z.length) G
  | _=>False
theorem aUq:ACall X (.builtin "len") (tUq lenD):=by
  refine ⟨_,⟨call_len_seq.or iXq⟩,λ xs vs G H DQ Q v a r F=>?_⟩
  obtain ⟨x,u,rfl,rfl,ax,r⟩:=cUq r a
  cases x with
  | tup ds=>
    obtain ⟨l,ws,rfl,s,rl⟩:=ax
    exact .inl ⟨l,ws,rfl,.inr s,by rw [rl.len];exact F (.int ds.length) G _ H (.refl v) rfl r⟩
  | ref l=>
    cases ax
    obtain ⟨ds,ws,k,s,rl⟩:=bDq v r
    exact .inl ⟨l,ws,rfl,.inl s,by rw [rl.len];exact F (.int ds.length) G _ H (.refl v) rfl k⟩
  | frl ds=>
    obtain ⟨l,ws,rfl,s,rl⟩:=ax
    exact .inl ⟨l,ws,rfl,.inl s.sq,by rw [rl.len];exact F (.int ds.length) G _ H (.refl v) rfl r⟩
  | str z=>cases ax;exact .inr ⟨z,rfl,r.1,F (.int z.length) G _ H (.refl v) rfl r.2⟩
  | _=>exact (show False from r).elim
def intD:D->DV->DK->Prop:=λ x G Q=>match x with
  | .int i=>Q (.int i) G
  | .bl k=>Q (.int (if k then 1 else 0)) G
  | _=>False
theorem iVq:ACall X (.type "int") (tUq intD):=by
  refine ⟨_,⟨p3q⟩,λ xs vs G H DQ Q v a r F=>?_⟩
  obtain ⟨x,u,rfl,rfl,ax,r⟩:=cUq r a
  cases x with
  | int i=>cases ax;exact .inl ⟨i,rfl,F (.int i) G _ H (.refl v) rfl r⟩
  | bl k=>cases ax;exact .inr ⟨k,rfl,F (.int (if k then 1 else 0)) G _ H (.refl v) rfl r⟩
  | _=>exact (show False from r).elim
def tupD:D->DV->DK->Prop:=λ x G Q=>match x with
  | .tup ds=>Q (.tup ds) G
  | .ref l=>onL G l λ ds=>Q (.tup ds) G
  | _=>False
theorem k5q:ACall X (.type "tuple") (tUq tupD):=by
  refine ⟨_,⟨hXq⟩,λ xs vs G H DQ Q v a r F=>?_⟩
  obtain ⟨x,u,rfl,rfl,ax,r⟩:=cUq r a
  cases x with
  | tup ds=>
    obtain ⟨l,ws,rfl,s,rl⟩:=ax
    exact ⟨l,ws,rfl,.inr ⟨s,F (.tup ds) G _ H (.refl v) ⟨l,ws,rfl,s,rl⟩ r⟩⟩
  | ref l=>
    cases ax
    obtain ⟨ds,ws,k,s,rl⟩:=bDq v r
    refine ⟨l,ws,rfl,.inl ⟨s,λ p hp=>?_⟩⟩
    have g:=Go.newT (o:=.tup ws) v hp
    exact F (.tup ds) G _ _ g ⟨p,ws,rfl,.of aBq,rl.mono g.tup⟩ k
  | _=>exact (show False from r).elim
end
end L3
namespace L2
open PySem PySem.Spec PyProof.Rows
def iSeq (K:PySem.W.Frag) (tl:TE):TI:=λ σ H R=>tl σ H λ x H1=>∃ a,x=.ref a/\(((∃ xs,SqL K H1 a xs)/\R (Itl K a) H1)\/((∃ xs,SqT K H1 a xs)/\R (Itt K a) H1))
theorem y0q {X:Cx} {tg l:Expr} {tl:TE} (hl:PE X l tl):PI X tg l (iSeq X.K tl):=by
  intro pins s σ H R I h
  refine thn (hl pins s σ H _ I h) λ v s1 ⟨x,H1,I1,r1,q1⟩=>?_
  obtain ⟨a,e,q1⟩:=q1
  subst e
  cases r1
  rcases q1 with ⟨⟨xs,hq⟩,q⟩ | ⟨⟨xs,hq⟩,q⟩
  . obtain ⟨its,rv,p,hz⟩:=I1.list hq
    refine wpAny_pyIter_list p.isList ?_
    refine ⟨s1.heap.objs.size,[s1.heap.objs.size],_,_,H1,rfl,I1.kept (t':=s1.toks) λ b o e=>Heap.get?_push_of_some _ e,q5q a _,⟨_,Heap.get?_push_size _ rfl,rfl,rfl⟩,λ b hb=>?_,q⟩
    have e:b=s1.heap.objs.size:=by simpa using hb
    subst e
    exact I1.fpOk (Nat.le_refl _) (I1.hok.fresh (Nat.le_refl _))
  . obtain ⟨its,rv,p,hz⟩:=I1.tuple hq
    refine wpAny_pyIter_tuple (show s1.heap.IsTuple a its.toArray from p) ?_
    refine ⟨s1.heap.objs.size,[s1.heap.objs.size],_,_,H1,rfl,I1.kept (t':=s1.toks) λ b o e=>Heap.get?_push_of_some _ e,mDq a _,⟨_,Heap.get?_push_size _ rfl,rfl,rfl⟩,λ b hb=>?_,q⟩
    have e:b=s1.heap.objs.size:=by simpa using hb
    subst e
    exact I1.fpOk (Nat.le_refl _) (I1.hok.fresh (Nat.le_refl _))
end L2
namespace L3
open PySem PySem.Spec L2
section
variable {X:Cx} {a b c e o i tg iter:Expr} {es:List Expr} {ta tb te to ti:DTE} {t:DTA} {pos p apos cpos:Pos}
structure DIt where
  items:List D
  held:DV->Prop
abbrev DTI:=DSt->DV->(DIt->DV->Prop)->Prop
def ItOk (K:PySem.W.Frag) (J:DIt) (Jc:It) (G:DV) (H:Hp):Prop:=∀ G1 H1,Go K G H G1 H1->J.held G1 →
  (∀ (i:Nat) (d:D),J.items[i]?=some d->Jc.go i H1/\∀ x H',Jc.yld i H1 x H'->Go K G1 H1 G1 H'/\Abs K H' d x)/\∀ i,J.items.length<=i->Jc.stop i H1
structure AI (X:Cx) (tg iter:Expr) (wi:DTI):Prop where
  run:∃ wc:TI,JI X tg iter wc/\∀ ρ G DR σ H R,Bears X.K ρ G σ H->wi ρ G DR->(∀ J Jc G' H',Go X.K G H G' H'->ItOk X.K J Jc G' H'->DR J G'->R Jc H')->wc σ H R
@[irreducible] def zIq (G:DV) (l:Addr) (k:DIt->Prop):Prop:=match G l with
  | some (.lst ds)=>k ⟨ds,λ G=>G l=some (.lst ds)⟩
  | _=>False
abbrev aA1q (ta:DTE):DTI:=λ ρ G R=>ta ρ G λ x G1=>match x with
  | .tup ds=>R ⟨ds,λ _=>True⟩ G1
  | .ref l=>zIq G1 l λ J=>R J G1
  | .frl ds=>R ⟨ds,λ _=>True⟩ G1
  | _=>False
theorem u7q {G:DV} {l:Addr} {k:DIt->Prop} {ds:List D} (h:G l=some (.lst ds)) (q:k ⟨ds,λ G=>G l=some (.lst ds)⟩):zIq G l k:=by unfold zIq;rw [h];exact q
theorem zCq {K:PySem.W.Frag} {ds:List D} {vs:List V} {l:Addr} {G1:DV} {H1:Hp} (v:Vw K G1 H1) (s:SqT K H1 l vs) (r:AbsL K H1 ds vs) :
    (∀ (i:Nat) (d:D),ds[i]?=some d->(Itt K l).go i H1/\∀ x H',(Itt K l).yld i H1 x H'->Go K G1 H1 G1 H'/\Abs K H' d x)/\∀ i,ds.length<=i->(Itt K l).stop i H1:=by
  refine ⟨λ i d hd=>?_,λ i hi=>⟨vs,s,by rw [r.len];exact hi⟩⟩
  obtain ⟨w,hw,aw⟩:=r.get hd
  refine ⟨⟨vs,w,s,hw⟩,λ x H' y=>?_⟩
  obtain ⟨rfl,y⟩:=y
  have z:=y vs s
  rw [hw] at z
  cases z
  exact ⟨.refl v,aw⟩
theorem pDq {K:PySem.W.Frag} {ds:List D} {vs:List V} {l:Addr} {G1:DV} {H1:Hp} (v:Vw K G1 H1) (s:SqL K H1 l vs) (r:AbsL K H1 ds vs) :
    (∀ (i:Nat) (d:D),ds[i]?=some d->(Itl K l).go i H1/\∀ x H',(Itl K l).yld i H1 x H'->Go K G1 H1 G1 H'/\Abs K H' d x)/\∀ i,ds.length<=i->(Itl K l).stop i H1:=by
  refine ⟨λ i d hd=>?_,λ i hi=>⟨vs,s,by rw [r.len];exact hi⟩⟩
  obtain ⟨w,hw,aw⟩:=r.get hd
  refine ⟨⟨vs,w,s,hw⟩,λ x H' y=>?_⟩
  obtain ⟨rfl,y⟩:=y
  have z:=y vs s
  rw [hw] at z
  cases z
  exact ⟨.refl v,aw⟩
theorem aC7q {tc:TE} (hl:JE X a tc):JI X tg a (iSeq X.K tc):=⟨y0q hl.run⟩
theorem tWq (ha:AE X a ta):AI X tg a (aA1q ta):=by
  obtain ⟨ca,ja,ra⟩:=ha.run
  refine ⟨_,aC7q ja,λ ρ G DR σ H R B q F=>ra ρ G _ σ H _ B q λ x G1 v H1 g1 ax q1=>?_⟩
  cases x with
  | tup ds=>
    obtain ⟨l,vs,rfl,s,r⟩:=ax
    exact ⟨l,rfl,.inr ⟨⟨vs,s⟩,F ⟨ds,λ _=>True⟩ _ G1 H1 g1 (λ G2 H2 g2 _=>zCq g2.vw (g2.tup.tp _ _ s) (r.mono g2.tup)) q1⟩⟩
  | ref l=>
    cases ax
    refine ⟨l,rfl,.inl ?_⟩
    replace q1:zIq G1 l λ J=>DR J G1:=q1
    unfold zIq at q1
    split at q1
    . next ds hd=>
      obtain ⟨vs,z,r⟩:=g1.vw _ _ hd
      refine ⟨⟨vs,.of z⟩,F ⟨ds,λ G=>G l=some (.lst ds)⟩ _ G1 H1 g1 (λ G2 H2 g2 h2=>?_) q1⟩
      obtain ⟨us,z2,r2⟩:=g2.vw _ _ h2
      exact pDq g2.vw (.of z2) r2
    . exact q1.elim
  | frl ds=>
    obtain ⟨l,vs,rfl,s,r⟩:=ax
    exact ⟨l,rfl,.inl ⟨⟨vs,s.sq⟩,F ⟨ds,λ _=>True⟩ _ G1 H1 g1 (λ G2 H2 g2 _=>pDq g2.vw (g2.tup.fr _ _ s).sq (r.mono g2.tup)) q1⟩⟩
  | _=>exact (show False from q1).elim
def c2q (lo:Int) (n:Nat):List D:=(List.range n).map λ(i:Nat)=>D.int (lo+(i:Int))
theorem m4q {lo:Int} {n i:Nat} {d:D} (h:(c2q lo n)[i]?=some d):i < n/\d=.int (lo+i):=by
  unfold c2q at h
  rw [List.getElem?_map] at h
  by_cases c:i < n
  . rw [List.getElem?_range c] at h
    simp at h
    exact ⟨c,h.symm⟩
  . rw [List.getElem?_eq_none (by simpa using c)] at h
    cases h
theorem lQq {lo:Int} {n:Nat}:(c2q lo n).length=n:=by simp [c2q]
@[irreducible] def onR (r:List D->Option (Int × Nat)) (ds:List D) (k:Int->Nat->Prop):Prop:=match r ds with
  | some (lo,n)=>k lo n
  | none=>False
abbrev uJq (r:List D->Option (Int × Nat)) (t:DTA):DTI:=λ ρ G R=>t ρ G λ ds G1=>onR r ds λ lo n=>R ⟨c2q lo n,λ _=>True⟩ G1
def jFq (i:Int):Bool:=decide (-(2 ^ 62)<=i)&&decide (i < 2 ^ 62)
def rng1:List D->Option (Int × Nat)
  | [.int j]=>if jFq j=true then some (0,j.toNat) else none
  | _=>none
theorem small62_iff {i:Int}:jFq i=true ↔ -(2 ^ 62)<=i/\i < 2 ^ 62:=by unfold jFq;simp
theorem xWq {K:PySem.W.Frag} {lo:Int} {n:Nat} {G1:DV} {H1:Hp} (v:Vw K G1 H1) :
    (∀ (i:Nat) (d:D),(c2q lo n)[i]?=some d->(Itr lo n).go i H1/\∀ x H',(Itr lo n).yld i H1 x H'->Go K G1 H1 G1 H'/\Abs K H' d x)/\∀ i,(c2q lo n).length<=i->(Itr lo n).stop i H1:=by
  refine ⟨λ i d hd=>?_,λ i hi=>by rw [lQq] at hi;exact hi⟩
  obtain ⟨h1,rfl⟩:=m4q hd
  refine ⟨h1,λ x H' y=>?_⟩
  obtain ⟨rfl,rfl⟩:=y
  exact ⟨.refl v,rfl⟩
theorem r2q {ds:List D} {lo:Int} {n:Nat} (h:rng1 ds=some (lo,n)):∃ j,ds=[.int j]/\(-(2 ^ 62)<=j/\j < 2 ^ 62)/\lo=0/\n=j.toNat:=by
  unfold rng1 at h
  split at h
  . next j=>
    split at h
    . next c=>cases h;exact ⟨j,rfl,small62_iff.mp c,rfl,rfl⟩
    . cases h
  . cases h
theorem vTq {j:Int} {k:Int->Nat->Prop} (h:-(2 ^ 62)<=j/\j < 2 ^ 62) (q:k 0 j.toNat):onR rng1 [.int j] k:=by
  have e:rng1 [.int j]=some (0,j.toNat):=if_pos (small62_iff.mpr h)
  unfold onR;rw [e];exact q
theorem jEq {r:List D->Option (Int × Nat)} {ds:List D} {R:DIt->DV->Prop} {G:DV} (h:onR r ds λ lo n=>R ⟨c2q lo n,λ _=>True⟩ G):∃ lo n,r ds=some (lo,n)/\R ⟨c2q lo n,λ _=>True⟩ G:=by
  unfold onR at h
  split at h
  . next lo n e=>exact ⟨lo,n,e,h⟩
  . exact h.elim
theorem pUq (hg:Gl X "range") (hm:X.mg "range" = none) (ha:AA X [a] t) (hs:b6q a=true:=by rfl):AI X tg (.Call (.Name "range" p) [a] [] pos) (uJq rng1 t):=by
  obtain ⟨ca,ja,ra⟩:=ha.run
  refine ⟨_,mQq hg hm ja hs,λ ρ G DR σ H R B q F=>ra ρ G _ σ H _ B q λ ds G1 vs H1 g1 al hl q1=>?_⟩
  obtain ⟨lo,n,e,q2⟩:=jEq q1
  obtain ⟨j,rfl,c,rfl,rfl⟩:=r2q e
  obtain ⟨v,r,rfl,av,l⟩:=al
  cases l;cases av
  exact ⟨j,rfl,c.1,c.2,F _ _ G1 H1 g1 (λ G2 H2 g2 _=>xWq g2.vw) q2⟩
def Wk (P:DSt->DV->Prop):DSt->DV->Prop:=λ ρ G=>∃ ρ' G',StSub ρ' ρ/\Sub G' G/\P ρ' G'
theorem Wk.of {P:DSt->DV->Prop} {ρ:DSt} {G:DV} (h:P ρ G):Wk P ρ G:=⟨ρ,G,.refl _,.refl _,h⟩
abbrev dFor (wi:DTI) (g:DTG) (tb:DTS):DTS:=λ DD ρ G=>wi ρ G λ J G1=>∃ P:Nat->DSt->DV->Prop,P 0 ρ G1/\(∀ i ρ G,i<=J.items.length->P i ρ G->J.held G) ∧
  (∀ (i:Nat) (d:D) (ρ:DSt) (G:DV),J.items[i]?=some d->P i ρ G->g d ρ G λ ρ' G'=>tb { DD with nx:=Wk (P (i+1)),ct:=Wk (P (i+1)),bk:=DD.nx } ρ' G')/\∀ ρ G,P J.items.length ρ G->DD.nx ρ G
theorem kVq {body:List Stmt} {wi:DTI} {g:DTG} {tb:DTS} (hp:PassesOwn (model X.prog X.w) X.A X.env X.xe) (hc:X.calm=true) (hi:AI X tg iter wi) (hg:AG X tg g) (hb:AB X body tb) (hs:∀ x,foldedSetIterable iter X.env x=pure x:=by intro _;rfl) :
    AS X (.For tg iter body [] pos) (dFor wi g tb):=by
  obtain ⟨ci,ji,ri⟩:=hi.run
  obtain ⟨cg,jg,rg⟩:=hg.run
  obtain ⟨cb,jb,rb⟩:=hb.run
  refine ⟨_,tGq hp hc ji jg jb hs,λ DD Dc ρ G σ H B q F=>ri ρ G _ σ H _ B q λ J Jc G1 H1 g1 ok q1=>?_⟩
  obtain ⟨P,p0,held,turn,done⟩:=q1
  refine ⟨λ i m σ' H'=>m=J.items.length - i/\i<=J.items.length/\∃ ρ' G',P i ρ' G'/\Bears X.K ρ' G' σ' H'/\Go X.K G1 H1 G' H',⟨_,rfl,Nat.zero_le _,ρ,G1,p0,B.go g1,.refl g1.vw⟩,?_⟩
  rintro i m σ2 H2 ⟨rfl,hi,ρ2,G2,p2,b2,g2⟩
  have k2:=ok G2 H2 g2 (held i ρ2 G2 hi p2)
  by_cases hlt:i < J.items.length
  . have hd:J.items[i]?=some J.items[i]:=by simp [hlt]
    obtain ⟨go,yl⟩:=k2.1 i _ hd
    refine .inr ⟨go,λ σ' H'=>∃ ρ' G',P (i+1) ρ' G'/\Bears X.K ρ' G' σ' H'/\Go X.K G1 H1 G' H',λ σ' H' ⟨ρ',G',z1,z2,z3⟩=>⟨J.items.length - (i+1),by omega,rfl,hlt,ρ',G',z1,z2,z3⟩,λ x H' y=>?_⟩
    obtain ⟨g3,ax⟩:=yl x H' y
    refine rg _ x ρ2 G2 _ σ2 H' _ (b2.go g3) ax (turn i _ ρ2 G2 hd p2) λ ρ4 G4 σ4 H4 g4 b4 q4=>?_
    have gg:=(g2.trans g3).trans g4
    have again:∀ ρ' G' σ' H',Go X.K G4 H4 G' H'->Bears X.K ρ' G' σ' H'->Wk (P (i+1)) ρ' G'->∃ ρ' G',P (i+1) ρ' G'/\Bears X.K ρ' G' σ' H'/\Go X.K G1 H1 G' H':=λ ρ' G' σ' H' g' b' ⟨ρ5,G5,s1,s2,w⟩=>
      ⟨ρ5,G5,w,b'.weak s1 s2,(gg.trans g').sub s2⟩
    exact rb _ _ ρ4 G4 σ4 H4 b4 q4 ⟨λ ρ' G' σ' H' g' b' w=>again ρ' G' σ' H' g' b' w,(F.after ((g1.trans gg))).rt,λ ρ' G' σ' H' g' b' w=>F.nx ρ' G' σ' H' ((g1.trans gg).trans g') b' w,λ ρ' G' σ' H' g' b' w=>again ρ' G' σ' H' g' b' w⟩
  . have e:i=J.items.length:=by omega
    subst e
    exact .inl ⟨k2.2 _ (Nat.le_refl _),F.nx ρ2 G2 σ2 H2 (g1.trans g2) b2 (done ρ2 G2 p2)⟩
end
end L3
namespace L2
open PySem PySem.Spec PyProof.Rows
theorem JE.imp {X:Cx} {e:Expr} {t t':TE} (h:JE X e t) (i:∀ σ H Q,t' σ H Q->t σ H Q):JE X e t':=⟨λ pins s σ H Q I q=>h.run pins s σ H Q I (i σ H Q q)⟩
theorem JT.imp {X:Cx} {e:Expr} {t t':TT} (h:JT X e t) (i:∀ σ H Q,t' σ H Q->t σ H Q):JT X e t':=⟨λ pins s σ H Q I q=>h.run pins s σ H Q I (i σ H Q q)⟩
theorem JG.imp {X:Cx} {e:Expr} {t t':TG} (h:JG X e t) (i:∀ v σ H Q,t' v σ H Q->t v σ H Q):JG X e t':=⟨λ pins s σ H x v Q I r q=>h.run pins s σ H x v Q I r (i _ _ _ _ q)⟩
end L2
namespace L3
open PySem PySem.Spec L2
section
variable {X:Cx} {a b c e o i tg iter elt ct:Expr} {es:List Expr} {ta tb te to ti:DTE} {t:DTA} {pos p apos cpos:Pos}
abbrev x8q (K:PySem.W.Frag) (tc:TE) (t:DTE):Prop:=∀ ρ G DQ σ H Q,Bears K ρ G σ H->t ρ G DQ->Fin K G H DQ Q->tc σ H Q
abbrev ImpT (K:PySem.W.Frag) (tc:TT) (t:DTT):Prop:=∀ ρ G DQ σ H Q,Bears K ρ G σ H->t ρ G DQ->FinB K G H DQ Q->tc σ H Q
abbrev ImpG (K:PySem.W.Frag) (tc:TG) (t:DTG):Prop:=∀ d v ρ G DQ σ H Q,Bears K ρ G σ H->Abs K H d v->t d ρ G DQ->FinS K G H DQ Q->tc v σ H Q
theorem AE.uni {ι:Type} {cx:ι->Cx} {K:PySem.W.Frag} (hK:∀ z,(cx z).K=K) (h:∀ z,AE (cx z) e te):∃ tc:TE,(∀ z,JE (cx z) e tc)/\x8q K tc te:=by
  have h':∀ z,∃ tc,JE (cx z) e tc/\x8q K tc te:=λ z=>by
    have q:=(h z).run
    rw [hK z] at q
    exact q
  exact ⟨λ σ H Q=>∀ z,Classical.choose (h' z) σ H Q,λ z=>(Classical.choose_spec (h' z)).1.imp λ σ H Q q=>q z,λ ρ G DQ σ H Q B q F z=>(Classical.choose_spec (h' z)).2 ρ G DQ σ H Q B q F⟩
theorem AT.uni {ι:Type} {cx:ι->Cx} {K:PySem.W.Frag} {te:DTT} (hK:∀ z,(cx z).K=K) (h:∀ z,AT (cx z) e te):∃ tc:TT,(∀ z,JT (cx z) e tc)/\ImpT K tc te:=by
  have h':∀ z,∃ tc,JT (cx z) e tc/\ImpT K tc te:=λ z=>by
    have q:=(h z).run
    rw [hK z] at q
    exact q
  exact ⟨λ σ H Q=>∀ z,Classical.choose (h' z) σ H Q,λ z=>(Classical.choose_spec (h' z)).1.imp λ σ H Q q=>q z,λ ρ G DQ σ H Q B q F z=>(Classical.choose_spec (h' z)).2 ρ G DQ σ H Q B q F⟩
theorem AG.uni {ι:Type} {cx:ι->Cx} {K:PySem.W.Frag} {te:DTG} (hK:∀ z,(cx z).K=K) (h:∀ z,AG (cx z) e te):∃ tc:TG,(∀ z,JG (cx z) e tc)/\ImpG K tc te:=by
  have h':∀ z,∃ tc,JG (cx z) e tc/\ImpG K tc te:=λ z=>by
    have q:=(h z).run
    rw [hK z] at q
    exact q
  exact ⟨λ v σ H Q=>∀ z,Classical.choose (h' z) v σ H Q,λ z=>(Classical.choose_spec (h' z)).1.imp λ v σ H Q q=>q z,λ d v ρ G DQ σ H Q B ad q F z=>(Classical.choose_spec (h' z)).2 d v ρ G DQ σ H Q B ad q F⟩
def d8q (nt:Nat) (cap:List Nat) (ρ:DSt):DSt:=List.replicate nt none++cap.map λ i=>(ρ[i]?).join
theorem dGq {nt:Nat} {cap:List Nat} {ρ:DSt} {i:Nat} {d:D} (h:(d8q nt cap ρ)[i]?=some (some d)):nt<=i:=by
  by_cases c:nt<=i
  . exact c
  . unfold d8q at h
    rw [List.getElem?_append_left (by simpa using c),List.getElem?_replicate] at h
    rw [if_pos (by omega)] at h
    cases h
theorem Bears.comp {K:PySem.W.Frag} {ρ:DSt} {G:DV} {σ:St} {H:Hp} (B:Bears K ρ G σ H) (nt:Nat) (cap:List Nat):Bears K (d8q nt cap ρ) G (cZq nt cap σ) H:=by
  refine ⟨by simp [d8q,cZq],λ i d h=>?_,B.vw⟩
  have hi:=dGq h
  unfold d8q at h
  unfold cZq
  rw [List.getElem?_append_right (by simpa using hi)] at h ⊢
  rw [List.length_replicate,List.getElem?_map] at h ⊢
  cases e:cap[i - nt]? with
  | none=>rw [e] at h;cases h
  | some k=>
    rw [e] at h
    have h':(ρ[k]?).join=some d:=by simpa using h
    have h2:ρ[k]?=some (some d):=by
      cases q:ρ[k]? with
      | none=>rw [q] at h';cases h'
      | some z=>rw [q] at h';cases z with
        | none=>cases h'
        | some y=>simp at h';rw [h']
    obtain ⟨v,h3,h4⟩:=B.st k d h2
    exact ⟨v,by simp [h3],h4⟩
def p0q (nt:Nat) (g:DTG):Prop:=∀ d ρ G Q,g d ρ G Q->g d ρ G λ ρ' G'=>Q ρ' G'/\ρ'.length=ρ.length/\∀ i,nt<=i->ρ'[i]?=ρ[i]?
theorem gHq {nt k:Nat} (h:k < nt):p0q nt (lIq k):=λ d ρ G Q q=>⟨q,by simp,λ i hi=>List.getElem?_set_ne (by omega)⟩
def WkV (P:DV->Prop):DV->Prop:=λ G=>∃ G',Sub G' G/\P G'
theorem WkV.of {P:DV->Prop} {G:DV} (h:P G):WkV P G:=⟨G,.refl _,h⟩
@[irreducible] def qYq (g:DTG) (te:DTE) (nt:Nat) (cap:List Nat) (ρ:DSt) (Q:DK) (J:DIt) (G1:DV):Prop:=J.items.length < sizeLine/\∃ P:Nat->List D->DV->Prop,P 0 [] G1/\(∀ i ds G,i<=J.items.length->P i ds G->J.held G) ∧
  (∀ (i:Nat) (d:D) (ds:List D) (G:DV),J.items[i]?=some d->P i ds G->g d (d8q nt cap ρ) G λ ρ3 G3=>te ρ3 G3 λ y G4=>WkV (P (i+1) (ds++[y])) G4)/\∀ ds G,P J.items.length ds G->∀ p,G p=none->Q (.ref p) (up G p (.lst ds))
@[irreducible] def h5q (g:DTG) (tc:DTT) (te:DTE) (nt:Nat) (cap:List Nat) (ρ:DSt) (Q:DK) (J:DIt) (G1:DV):Prop:=J.items.length < sizeLine/\∃ P:Nat->List D->DV->Prop,P 0 [] G1/\(∀ i ds G,i<=J.items.length->P i ds G->J.held G) ∧
  (∀ (i:Nat) (d:D) (ds:List D) (G:DV),J.items[i]?=some d->P i ds G->g d (d8q nt cap ρ) G λ ρ3 G3=>tc ρ3 G3 λ b G5=>Br b (te ρ3 G5 λ y G4=>WkV (P (i+1) (ds++[y])) G4) (WkV (P (i+1) ds) G5))/\∀ ds G,P J.items.length ds G->∀ p,G p=none->Q (.ref p) (up G p (.lst ds))
abbrev yCq (wi:DTI) (g:DTG) (te:DTE) (nt:Nat) (cap:List Nat):DTE:=λ ρ G Q=>wi ρ G (qYq g te nt cap ρ Q)
abbrev oBq (wi:DTI) (g:DTG) (tc:DTT) (te:DTE) (nt:Nat) (cap:List Nat):DTE:=λ ρ G Q=>wi ρ G (h5q g tc te nt cap ρ Q)
theorem s7q {α:Type} {J:DIt} {G1:DV} {g:DTG} {te:DTE} {nt:Nat} {cap:List Nat} {ρ:DSt} {Q:DK} (xs:List α) (en fn:α->D) (he:J.items=xs.map en) (hz:xs.length < sizeLine) (held:J.held G1)
    (turn:∀ x∈xs,∀ R:DK,R (fn x) G1->g (en x) (d8q nt cap ρ) G1 λ ρ3 G3=>te ρ3 G3 R) (q:∀ p,G1 p=none->Q (.ref p) (up G1 p (.lst (xs.map fn)))) :
    qYq g te nt cap ρ Q J G1:=by
  unfold qYq
  refine ⟨by rw [he,List.length_map];exact hz,λ i ds G=>G=G1/\ds=(xs.take i).map fn,⟨rfl,rfl⟩,λ i ds G _ h=>h.1 ▸ held,?_,?_⟩
  . rintro i d ds G hd ⟨rfl,rfl⟩
    rw [he,List.getElem?_map] at hd
    cases e:xs[i]? with
    | none=>rw [e] at hd;cases hd
    | some x=>
      rw [e] at hd
      cases hd
      refine turn x (List.mem_of_getElem? e) _ (WkV.of ⟨rfl,?_⟩)
      rw [List.take_add_one,e,List.map_append];rfl
  . rintro ds G ⟨rfl,rfl⟩ p hp
    rw [he,List.length_map,List.take_length]
    exact q p hp
theorem lUq {α:Type} {J:DIt} {G1:DV} {g:DTG} {tc:DTT} {te:DTE} {nt:Nat} {cap:List Nat} {ρ:DSt} {Q:DK} (xs:List α) (en:α->D) (fn:α->Option D) (he:J.items=xs.map en) (hz:xs.length < sizeLine) (held:J.held G1)
    (turn:∀ x∈xs,∀ (R:DK) (S:DV->Prop),(∀ y,fn x=some y->R y G1)->(fn x=none->S G1)->g (en x) (d8q nt cap ρ) G1 λ ρ3 G3=>tc ρ3 G3 λ b G5=>Br b (te ρ3 G5 R) (S G5)) (q:∀ p,G1 p=none->Q (.ref p) (up G1 p (.lst (xs.filterMap fn)))) :
    h5q g tc te nt cap ρ Q J G1:=by
  unfold h5q
  refine ⟨by rw [he,List.length_map];exact hz,λ i ds G=>G=G1/\ds=(xs.take i).filterMap fn,⟨rfl,rfl⟩,λ i ds G _ h=>h.1 ▸ held,?_,?_⟩
  . rintro i d ds G hd ⟨rfl,rfl⟩
    rw [he,List.getElem?_map] at hd
    cases e:xs[i]? with
    | none=>rw [e] at hd;cases hd
    | some x=>
      rw [e] at hd
      cases hd
      refine turn x (List.mem_of_getElem? e) _ _ (λ y hy=>WkV.of ⟨rfl,?_⟩) (λ hy=>WkV.of ⟨rfl,?_⟩)
      . rw [List.take_add_one,e,List.filterMap_append];simp [hy]
      . rw [List.take_add_one,e,List.filterMap_append];simp [hy]
  . rintro ds G ⟨rfl,rfl⟩ p hp
    rw [he,List.length_map,List.take_length]
    exact q p hp
theorem Vw.priv {K:PySem.W.Frag} {G:DV} {H:Hp} {acc:Addr} {ys zs:List V} (v:Vw K G H) (h:H acc=some (.lst ys)) (n:G acc=Option.none):Vw K G (upd H acc (.lst zs)):=λ a o e=>
  (v a o e).mono (bKq h) (aAq (by rintro rfl;rw [n] at e;cases e))
theorem Go.priv {K:PySem.W.Frag} {G G':DV} {H H':Hp} {acc:Addr} {ys zs:List V} (g:Go K G H G' H') (h0:H acc=none) (h:H' acc=some (.lst ys)) (n:G' acc=none):Go K G H G' (upd H' acc (.lst zs)) where
  tup:=⟨λ a xs q=>(bKq h).tp a xs (g.tup.tp a xs q),λ a xs q=>(bKq h).fr a xs (g.tup.fr a xs q),λ a o q=>(bKq (K:=K) h).fz a o (g.tup.fz a o q)⟩
  dom:=λ a o e=>by
    obtain ⟨o',e'⟩:=g.dom a o e
    exact ⟨o',by rw [aAq (aEq e h0)];exact e'⟩
  same:=λ a o e z=>by rw [aAq (aEq e h0)];exact g.same a o e z
  new:=g.new
  vw:=g.vw.priv h n
theorem Bears.priv {K:PySem.W.Frag} {ρ:DSt} {G:DV} {σ:St} {H:Hp} {acc:Addr} {ys zs:List V} (B:Bears K ρ G σ H) (h:H acc=some (.lst ys)) (n:G acc=none):Bears K ρ G σ (upd H acc (.lst zs)):=
  ⟨B.len,λ i d e=>let ⟨v,h1,h2⟩:=B.st i d e;⟨v,h1,h2.mono (bKq h)⟩,B.vw.priv h n⟩
theorem Go.held {K:PySem.W.Frag} {G G':DV} {H H':Hp} {acc:Addr} {ds:List D} {ys:List V} (g:Go K G H G' H') (h0:H acc=none) (h:H' acc=some (.lst ys)) (r:AbsL K H' ds ys):Go K G H (up G' acc (.lst ds)) H' where
  tup:=g.tup
  dom:=g.dom
  same:=g.same
  new:=λ a o e z=>by rw [a8q (aEq e h0)];exact g.new a o e z
  vw:=λ a o e=>by
    by_cases c:a=acc
    . subst c;rw [a4q] at e;cases e;exact ⟨ys,h,r⟩
    . rw [a8q c] at e;exact g.vw a o e
theorem o6q {K:PySem.W.Frag} {ci:TI} {cg:TG} {ce:TE} {wi:DTI} {g:DTG} {te:DTE} {nt:Nat} {cap:List Nat} (hk:p0q nt g)
    (ri:∀ ρ G DR σ H R,Bears K ρ G σ H->wi ρ G DR->(∀ J Jc G' H',Go K G H G' H'->ItOk K J Jc G' H'->DR J G'->R Jc H')->ci σ H R) (rg:ImpG K cg g) (re:x8q K ce te):x8q K (tYq ci cg ce nt cap) (yCq wi g te nt cap):=by
  intro ρ G DQ σ H Q B q F
  refine ri ρ G _ σ H _ B q λ J Jc G1 H1 g1 ok q1=>?_
  unfold qYq at q1
  obtain ⟨hsz,P,p0,held,turn,done⟩:=q1
  intro acc hacc
  have n1:=g1.vw.none hacc
  have gN:=Go.newT (o:=.lst []) g1.vw hacc
  refine ⟨λ i m ys σ' H'=>m=J.items.length - i/\i<=J.items.length/\∃ ds G',P i ds G'/\AbsL K H' ds ys/\ds.length<=i/\Bears K (d8q nt cap ρ) G' σ' H'/\Go K G1 H1 G' H'/\G' acc=none/\H' acc=some (.lst ys),
    ⟨_,rfl,Nat.zero_le _,[],G1,p0,rfl,Nat.le_refl _,((B.go g1).comp nt cap).go gN,gN,n1,aBq⟩,?_⟩
  rintro i m ys σ2 H2 ⟨rfl,hi,ds,G2,p2,r2,l2,b2,g2,n2,h2⟩
  have k2:=ok G2 H2 g2 (held i ds G2 hi p2)
  by_cases hlt:i < J.items.length
  . have hd:J.items[i]?=some J.items[i]:=by simp [hlt]
    obtain ⟨go,yl⟩:=k2.1 i _ hd
    refine .inr ⟨go,λ x H' y=>?_⟩
    obtain ⟨g3,ax⟩:=yl x H' y
    refine rg _ x _ G2 _ σ2 H' _ (b2.go g3) ax (hk _ _ _ _ (turn i _ ds G2 hd p2)) λ ρ4 G4 σ4 H4 g4 b4 ⟨q4,hl4,hs4⟩=>?_
    refine re ρ4 G4 _ σ4 H4 _ b4 q4 λ z G5 u H5 g5 az q5=>?_
    obtain ⟨G6,s6,p6⟩:=q5
    have gg:=(g3.trans g4).trans g5
    have h5:=gg.same acc _ h2 n2
    have n5:=gg.new acc _ h2 n2
    have n6:=s6.none n5
    have b5:Bears K (d8q nt cap ρ) G6 σ4 H5:=(b4.go g5).weak ⟨hl4.symm,λ j d e=>by rw [hs4 j (dGq e)];exact e⟩ s6
    refine ⟨h5,by rw [r2.len];omega,J.items.length - (i+1),by omega,rfl,hlt,ds++[z],G6,p6,((r2.mono gg.tup).append (.one az)).mono (bKq h5),by simp;omega,b5.priv h5 n6,(((g2.trans gg).sub s6)).priv hacc h5 n6,n6,aBq⟩
  . have e:i=J.items.length:=by omega
    subst e
    refine .inl ⟨k2.2 _ (Nat.le_refl _),F (.ref acc) (up G2 acc (.lst ds)) _ _ ((g1.trans g2).held ?_ h2 r2) rfl (done ds G2 p2 acc n2)⟩
    cases z:H acc with
    | none=>rfl
    | some o=>obtain ⟨o',e'⟩:=g1.dom acc o z;rw [hacc] at e';cases e'
theorem jZq {K:PySem.W.Frag} {ci:TI} {cg:TG} {cc:TT} {ce:TE} {wi:DTI} {g:DTG} {tc:DTT} {te:DTE} {nt:Nat} {cap:List Nat} (hk:p0q nt g)
    (ri:∀ ρ G DR σ H R,Bears K ρ G σ H->wi ρ G DR->(∀ J Jc G' H',Go K G H G' H'->ItOk K J Jc G' H'->DR J G'->R Jc H')->ci σ H R) (rg:ImpG K cg g) (rt:ImpT K cc tc) (re:x8q K ce te):x8q K (k6q ci cg cc ce nt cap) (oBq wi g tc te nt cap):=by
  intro ρ G DQ σ H Q B q F
  refine ri ρ G _ σ H _ B q λ J Jc G1 H1 g1 ok q1=>?_
  unfold h5q at q1
  obtain ⟨hsz,P,p0,held,turn,done⟩:=q1
  intro acc hacc
  have n1:=g1.vw.none hacc
  have gN:=Go.newT (o:=.lst []) g1.vw hacc
  refine ⟨λ i m ys σ' H'=>m=J.items.length - i/\i<=J.items.length/\∃ ds G',P i ds G'/\AbsL K H' ds ys/\ds.length<=i/\Bears K (d8q nt cap ρ) G' σ' H'/\Go K G1 H1 G' H'/\G' acc=none/\H' acc=some (.lst ys),
    ⟨_,rfl,Nat.zero_le _,[],G1,p0,rfl,Nat.le_refl _,((B.go g1).comp nt cap).go gN,gN,n1,aBq⟩,?_⟩
  rintro i m ys σ2 H2 ⟨rfl,hi,ds,G2,p2,r2,l2,b2,g2,n2,h2⟩
  have k2:=ok G2 H2 g2 (held i ds G2 hi p2)
  by_cases hlt:i < J.items.length
  . have hd:J.items[i]?=some J.items[i]:=by simp [hlt]
    obtain ⟨go,yl⟩:=k2.1 i _ hd
    refine .inr ⟨go,λ x H' y=>?_⟩
    obtain ⟨g3,ax⟩:=yl x H' y
    refine rg _ x _ G2 _ σ2 H' _ (b2.go g3) ax (hk _ _ _ _ (turn i _ ds G2 hd p2)) λ ρ4 G4 σ4 H4 g4 b4 ⟨q4,hl4,hs4⟩=>?_
    refine rt ρ4 G4 _ σ4 H4 _ b4 q4 λ bb G7 H7 g7 q7=>?_
    cases bb with
    | true=>
      refine re ρ4 G7 _ σ4 H7 _ (b4.go g7) (q7.1 rfl) λ z G5 u H5 g5 az q5=>?_
      obtain ⟨G6,s6,p6⟩:=q5
      have gg:=((g3.trans g4).trans g7).trans g5
      have h5:=gg.same acc _ h2 n2
      have n5:=gg.new acc _ h2 n2
      have n6:=s6.none n5
      have b5:Bears K (d8q nt cap ρ) G6 σ4 H5:=((b4.go g7).go g5).weak ⟨hl4.symm,λ j d e=>by rw [hs4 j (dGq e)];exact e⟩ s6
      exact ⟨h5,by rw [r2.len];omega,J.items.length - (i+1),by omega,rfl,hlt,ds++[z],G6,p6,((r2.mono gg.tup).append (.one az)).mono (bKq h5),by simp;omega,b5.priv h5 n6,(((g2.trans gg).sub s6)).priv hacc h5 n6,n6,aBq⟩
    | false=>
      obtain ⟨G6,s6,p6⟩:=q7.2 rfl
      have gg:=(g3.trans g4).trans g7
      have h5:=gg.same acc _ h2 n2
      have n5:=gg.new acc _ h2 n2
      have n6:=s6.none n5
      have b5:Bears K (d8q nt cap ρ) G6 σ4 H7:=(b4.go g7).weak ⟨hl4.symm,λ j d e=>by rw [hs4 j (dGq e)];exact e⟩ s6
      exact ⟨J.items.length - (i+1),by omega,rfl,hlt,ds,G6,p6,r2.mono gg.tup,by omega,b5,(g2.trans gg).sub s6,n6,h5⟩
  . have e:i=J.items.length:=by omega
    subst e
    refine .inl ⟨k2.2 _ (Nat.le_refl _),F (.ref acc) (up G2 acc (.lst ds)) _ _ ((g1.trans g2).held ?_ h2 r2) rfl (done ds G2 p2 acc n2)⟩
    cases z:H acc with
    | none=>rfl
    | some o=>obtain ⟨o',e'⟩:=g1.dom acc o z;rw [hacc] at e';cases e'
theorem uAq {scope:Scope} {N':List Str} {nt:Nat} {cap:List Nat} {wi:DTI} {g:DTG} (hc:X.calm=true) (ok:CompOk X scope N' nt cap) (hk:p0q nt g) (hi:AI X tg iter wi) (hg:∀ C ex s H,AG (aTq X scope N' C ex s H) tg g) (he:∀ C ex s H,AE (aTq X scope N' C ex s H) elt te)
    (hs:∀ x,foldedSetIterable iter X.env x=pure x:=by intro _;rfl):AE X (.ListComp elt [⟨tg,iter,[],0⟩] scope pos) (yCq wi g te nt cap):=by
  obtain ⟨ci,ji,ri⟩:=hi.run
  obtain ⟨cg,jg,rg⟩:=AG.uni (ι:=Addr × List Addr × Shared × Hp) (cx:=λ z=>aTq X scope N' z.1 z.2.1 z.2.2.1 z.2.2.2) (K:=X.K) (λ _=>rfl) λ z=>hg _ _ _ _
  obtain ⟨ce,je,re⟩:=AE.uni (ι:=Addr × List Addr × Shared × Hp) (cx:=λ z=>aTq X scope N' z.1 z.2.1 z.2.2.1 z.2.2.2) (K:=X.K) (λ _=>rfl) λ z=>he _ _ _ _
  exact ⟨_,w8q hc ok ji (λ C ex s H=>jg (C,ex,s,H)) (λ C ex s H=>je (C,ex,s,H)) hs,o6q hk ri rg re⟩
theorem n7q {scope:Scope} {N':List Str} {nt:Nat} {cap:List Nat} {wi:DTI} {g:DTG} {tc:DTT} (hc:X.calm=true) (ok:CompOk X scope N' nt cap) (hk:p0q nt g) (hi:AI X tg iter wi) (hg:∀ C ex s H,AG (aTq X scope N' C ex s H) tg g) (ht:∀ C ex s H,AT (aTq X scope N' C ex s H) ct tc) (he:∀ C ex s H,AE (aTq X scope N' C ex s H) elt te)
    (hs:∀ x,foldedSetIterable iter X.env x=pure x:=by intro _;rfl):AE X (.ListComp elt [⟨tg,iter,[ct],0⟩] scope pos) (oBq wi g tc te nt cap):=by
  obtain ⟨ci,ji,ri⟩:=hi.run
  obtain ⟨cg,jg,rg⟩:=AG.uni (ι:=Addr × List Addr × Shared × Hp) (cx:=λ z=>aTq X scope N' z.1 z.2.1 z.2.2.1 z.2.2.2) (K:=X.K) (λ _=>rfl) λ z=>hg _ _ _ _
  obtain ⟨cc,jt,rt⟩:=AT.uni (ι:=Addr × List Addr × Shared × Hp) (cx:=λ z=>aTq X scope N' z.1 z.2.1 z.2.2.1 z.2.2.2) (K:=X.K) (λ _=>rfl) λ z=>ht _ _ _ _
  obtain ⟨ce,je,re⟩:=AE.uni (ι:=Addr × List Addr × Shared × Hp) (cx:=λ z=>aTq X scope N' z.1 z.2.1 z.2.2.1 z.2.2.2) (K:=X.K) (λ _=>rfl) λ z=>he _ _ _ _
  exact ⟨_,pFq hc ok ji (λ C ex s H=>jg (C,ex,s,H)) (λ C ex s H=>jt (C,ex,s,H)) (λ C ex s H=>je (C,ex,s,H)) hs,jZq hk ri rg rt re⟩
structure AMt (X:Cx) (T id:String) (ty:D->DV->Prop) (r:D->List D->DV->DK->Prop):Prop where
  run:∃ rc:V->List V->Hp->VK->Prop,JMt X id rc/\(∀ x v G H,Vw X.K G H->Abs X.K H x v->ty x G->tyV X.K T v H) ∧
    ∀ x xs vx vs G H DQ Q,Vw X.K G H->Abs X.K H x vx->AbsL X.K H xs vs->r x xs G DQ->Fin X.K G H DQ Q->rc vx vs H Q
abbrev dBM (ty:D->DV->Prop) (r:D->List D->DV->DK->Prop) (to:DTE) (t:DTA):DTE:=λ ρ G Q=>to ρ G λ x G1=>ty x G1/\t ρ G1 λ xs G2=>r x xs G2 Q
abbrev dBM0 (ty:D->DV->Prop) (r:D->List D->DV->DK->Prop) (to:DTE):DTE:=λ ρ G Q=>to ρ G λ x G1=>ty x G1/\r x [] G1 Q
theorem fLq {name:Str} {T id:String} {ty:D->DV->Prop} {r:D->List D->DV->DK->Prop} (pa:PlainAttrs T) (slot:Slot T name id) (hty:typeOf (.builtin id)=pure (.type "method_descriptor")) (hm:AMt X T id ty r) (ho:AE X o to) (ha:AA X [e] t)
    (hbase:attributeBase o name X.env (eval o X.env)=eval o X.env:=by rfl) (hline:(apos.endLine==cpos.line)=true:=by rfl) (hs:b6q e=true:=by rfl):AE X (.Call (.Attribute o name apos) [e] [] cpos) (dBM ty r to t):=by
  obtain ⟨co,jo,ro⟩:=ho.run
  obtain ⟨ca,ja,ra⟩:=ha.run
  obtain ⟨cm,jm,hy,rm⟩:=hm.run
  refine ⟨_,aJ2q pa slot hty jm jo ja hbase hline hs,λ ρ G DQ σ H Q B q F=>ro ρ G _ σ H _ B q λ x G1 v H1 g1 ax ⟨h1,q1⟩=>⟨hy x v G1 H1 g1.vw ax h1,?_⟩⟩
  exact ra ρ G1 _ σ H1 _ (B.go g1) q1 λ xs G2 vs H2 g2 al _ q2=>rm x xs v vs G2 H2 DQ Q g2.vw (ax.mono g2.tup) al q2 (F.after (g1.trans g2))
theorem kKq {name:Str} {T id:String} {ty:D->DV->Prop} {r:D->List D->DV->DK->Prop} (pa:PlainAttrs T) (slot:Slot T name id) (hty:typeOf (.builtin id)=pure (.type "method_descriptor")) (hm:AMt X T id ty r) (ho:AE X o to)
    (hbase:attributeBase o name X.env (eval o X.env)=eval o X.env:=by rfl) (hline:(apos.endLine==cpos.line)=true:=by rfl):AE X (.Call (.Attribute o name apos) [] [] cpos) (dBM0 ty r to):=by
  obtain ⟨co,jo,ro⟩:=ho.run
  obtain ⟨cm,jm,hy,rm⟩:=hm.run
  exact ⟨_,zSq pa slot hty jm jo hbase hline,λ ρ G DQ σ H Q B q F=>ro ρ G _ σ H _ B q λ x G1 v H1 g1 ax ⟨h1,q1⟩=>⟨hy x v G1 H1 g1.vw ax h1,rm x [] v [] G1 H1 DQ Q g1.vw ax rfl q1 (F.after g1)⟩⟩
def lYq:D->DV->Prop:=λ x G=>match x with
  | .ref l=>onL G l λ _=>True
  | _=>False
theorem eGq {K:PySem.W.Frag} {x:D} {v:V} {G:DV} {H:Hp} (w:Vw K G H) (ax:Abs K H x v) (h:lYq x G):tyV K "list" v H:=by
  cases x with
  | ref l=>cases ax;obtain ⟨ds,vs,_,s,_⟩:=bDq w h;exact .inl ⟨rfl,vs,s⟩
  | _=>exact (show False from h).elim
def appD:D->List D->DV->DK->Prop:=λ x xs G Q=>match x,xs with
  | .ref l,[y]=>onM G l λ ds=>ds.length < sizeLine/\Q .non (up G l (.lst (ds++[y])))
  | _,_=>False
theorem bOq:AMt X "list" "list.append" lYq appD:=by
  refine ⟨_,⟨f1q⟩,λ x v G H w ax h=>eGq w ax h,λ x xs vx vs G H DQ Q v ax al r F=>?_⟩
  unfold appD at r
  split at r
  . next l y=>
    cases ax
    obtain ⟨u,us,rfl,au,z⟩:=al
    cases z
    obtain ⟨ds,ws,k,e1,h1,r1⟩:=cAq v r
    exact ⟨l,ws,u,rfl,rfl,h1,by rw [r1.len];exact k.1,F .non _ _ _ (Go.setL v e1 (r1.append (.one au))) rfl k.2⟩
  . exact r.elim
def extD:D->List D->DV->DK->Prop:=λ x xs G Q=>match x,xs with
  | .ref l,[.tup es]=>onM G l λ ds=>ds.length+es.length<=sizeLine/\Q .non (up G l (.lst (ds++es)))
  | .ref l,[.ref m]=>onM G l λ ds=>onM G m λ es=>ds.length+es.length<=sizeLine/\Q .non (up G l (.lst (ds++es)))
  | _,_=>False
theorem JMt.or {id:String} {r r':V->List V->Hp->VK->Prop} (h:JMt X id r) (h':JMt X id r'):JMt X id (λ x xs H Q=>r x xs H Q\/r' x xs H Q):=⟨h.run.or h'.run⟩
theorem m9q:AMt X "list" "list.extend" lYq extD:=by
  refine ⟨_,JMt.or ⟨vFq⟩ ⟨oDq⟩,λ x v G H w ax h=>eGq w ax h,λ x xs vx vs G H DQ Q v ax al r F=>?_⟩
  unfold extD at r
  split at r
  . next l es'=>
    cases ax
    obtain ⟨u,us,rfl,⟨m,zs,rfl,s,rz⟩,z⟩:=al
    cases z
    obtain ⟨ds,ws,k,e1,h1,r1⟩:=cAq v r
    exact .inl ⟨l,m,ws,zs,rfl,rfl,h1,s,by rw [r1.len,rz.len];exact k.1,F .non _ _ _ (Go.setL v e1 (r1.append rz)) rfl k.2⟩
  . next l m=>
    cases ax
    obtain ⟨u,us,rfl,au,z⟩:=al
    cases z;cases au
    obtain ⟨ds,ws,k,e1,h1,r1⟩:=cAq v r
    obtain ⟨es',zs,k2,e2,h2,r2⟩:=cAq v k
    exact .inr ⟨l,m,ws,zs,rfl,rfl,h1,h2,by rw [r1.len,r2.len];exact k2.1,F .non _ _ _ (Go.setL v e1 (r1.append r2)) rfl k2.2⟩
  . exact r.elim
def popD:D->List D->DV->DK->Prop:=λ x xs G Q=>match x,xs with
  | .ref l,[]=>onM G l λ ds=>∃ es d,ds=es++[d]/\Q d (up G l (.lst es))
  | _,_=>False
theorem k8q:AMt X "list" "list.pop" lYq popD:=by
  refine ⟨_,⟨yLq⟩,λ x v G H w ax h=>eGq w ax h,λ x xs vx vs G H DQ Q v ax al r F=>?_⟩
  unfold popD at r
  split at r
  . next l=>
    cases ax;cases al
    obtain ⟨ds,ws,⟨es',d,rfl,k⟩,e1,h1,r1⟩:=cAq v r
    have hl:=r1.len
    have hd:(es'++[d])[es'.length]?=some d:=by simp
    obtain ⟨u,hu,au⟩:=r1.get hd
    have e:ws.length - 1=es'.length:=by rw [hl];simp
    have r2:AbsL X.K H es' ws.dropLast:=by
      have z:=r1.take es'.length
      rw [List.take_left] at z
      rw [List.dropLast_eq_take,e];exact z
    have g:=Go.setL v e1 r2
    exact ⟨l,ws,u,rfl,rfl,h1,by rw [e];exact hu,F d _ _ _ g (au.mono g.tup) k⟩
  . exact r.elim
abbrev DSp:=List D->DV->DK->Prop
def aSq (K:PySem.W.Frag) (dsp:DSp):Sp:=λ vs H Q _=>∃ ds G DQ,AbsL K H ds vs/\Vw K G H/\dsp ds G DQ/\Fin K G H DQ Q
abbrev zXq (dsp:DSp) (t:DTA):DTE:=λ ρ G Q=>t ρ G λ ds G1=>dsp ds G1 Q
theorem aDq {k j:Nat} {x:Str} {ps:List Str} {dsp:DSp} (Gt:Got X.prog X.w X.K X.mg X.base k x ps (aSq X.K dsp)) (hr:Room j X.A) (hk:k<=j) (hg:Gl X x) (ha:AA X (e::es) t) (hdb:(x==("__debug__" : Str))=false:=by decide)
    (hs:(e::es).all b6q=true:=by rfl):AE X (.Call (.Name x p) (e::es) [] pos) (zXq dsp t):=by
  obtain ⟨ca,ja,ra⟩:=ha.run
  exact ⟨_,aH1q Gt hr hk hg ja hdb hs,λ ρ G DQ σ H Q B q F=>ra ρ G _ σ H _ B q λ ds G1 vs H1 g1 al _ q1=>⟨ds,G1,DQ,by rw [List.append_nil];exact al,g1.vw,q1,F.after g1⟩⟩
def Dr (DQ:DK):DK:=λ d G=>∃ G',Sub G' G/\DQ d G'
theorem Dr.of {DQ:DK} {d:D} {G:DV} (h:DQ d G):Dr DQ d G:=⟨G,.refl _,h⟩
def dEq (N:List Str) (ds:List D):DSt:=ds.map some++List.replicate (N.length - ds.length) none
theorem d5q {K:PySem.W.Frag} {N:List Str} {ds:List D} {vs:List V} {G:DV} {H:Hp} (r:AbsL K H ds vs) (v:Vw K G H):Bears K (dEq N ds) G (L2.cJq N vs) H:=by
  have hl:=r.len
  refine ⟨by simp [dEq,L2.cJq,hl],λ i d h=>?_,v⟩
  unfold dEq at h
  unfold L2.cJq
  by_cases c:i < ds.length
  . rw [List.getElem?_append_left (by simpa using c),List.getElem?_map] at h
    rw [List.getElem?_append_left (by simpa [hl] using c),List.getElem?_map]
    cases e:ds[i]? with
    | none=>rw [e] at h;cases h
    | some z=>
      rw [e] at h
      simp at h
      subst h
      obtain ⟨u,h1,h2⟩:=r.get e
      exact ⟨u,by rw [h1];rfl,h2⟩
  . rw [List.getElem?_append_right (by simpa using c),List.getElem?_replicate] at h
    split at h<;>cases h
theorem okD {P:Program} {w:World} {K:PySem.W.Frag} {mg:Str->Option Value} {base:Heap} {x qual:Str} {st:Stmt} {f:Addr} {fd:FuncData} {N ps:List Str} {k:Nat} {dsp:DSp} (F:Fun K x qual st f fd) (S:FnScope N ps (a6q st)) (len:∀ ds G DQ,dsp ds G DQ->ds.length=ps.length)
    (hbody:∀ (cdv:Value) (A:Around) (outer:List Env) (s:Shared) (H:Hp) (E:XK),Room k (A.deeper (PyProof.Rows.envOfC qual (a6q st) s.heap.objs.size f cdv))->∀ (ds:List D) (G:DV) (DQ:DK),dsp ds G DQ →
      ∃ t,AB (dIq CX0 P w K mg base N qual (a6q st) f cdv A outer s H E).nox (b0q st) t/\t { nx:=λ _ G'=>Dr DQ .non G',rt:=Dr DQ } (dEq N ds) G):FnOk P w K mg base CX0 (k+1) f fd ps (aSq K dsp):=by
  refine F.okJ S (λ vs H Q E h=>?_) (λ cdv A outer s H vs Q E hr h=>?_)
  . obtain ⟨ds,G,DQ,r,_,h,_⟩:=h
    rw [r.len];exact len ds G DQ h
  . obtain ⟨ds,G,DQ,r,v,h,Fn⟩:=h
    obtain ⟨t,⟨tc,j,imp⟩,q⟩:=hbody cdv A outer s H E hr ds G DQ h
    refine ⟨tc,j,imp _ _ (dEq N ds) G (L2.cJq N vs) H (d5q r v) q ⟨λ ρ' G' σ' H' g b ⟨G2,s2,q2⟩=>Fn .non G2 .non H' (g.sub s2) rfl q2,λ d G' v H' g a ⟨G2,s2,q2⟩=>Fn d G2 v H' (g.sub s2) a q2,λ _ _ _ _ _ _ z=>z.elim,λ _ _ _ _ _ _ z=>z.elim⟩⟩
end
end L3
namespace L3
open PySem PySem.Spec L2
mutual
def eqD:D->D->Bool
  | .non,.non=>true
  | .bl a,.bl b=>a==b
  | .bl a,.int b=>(if a then 1 else 0)==b
  | .int a,.bl b=>a==(if b then 1 else 0)
  | .int a,.int b=>a==b
  | .str a,.str b=>a==b
  | .tup xs,.tup ys=>gGq xs ys
  | _,_=>false
def gGq:List D->List D->Bool
  | [],[]=>true
  | x::xs,y::ys=>eqD x y&&gGq xs ys
  | _,_=>false
end
mutual
def D.data:D->Bool
  | .ref _=>false
  | .ty _=>false
  | .frl _=>false
  | .tup ds=>cVq ds
  | _=>true
def cVq:List D->Bool
  | []=>true
  | d::ds=>d.data&&cVq ds
end
mutual
def D.dp:D->Nat
  | .tup ds=>1+jJq ds
  | _=>0
def jJq:List D->Nat
  | []=>0
  | d::ds=>max d.dp (jJq ds)
end
def eqJ (ds es:List D) (j:Nat):Bool:=match ds[j]?,es[j]? with
  | some d,some e=>eqD d e
  | _,_=>false
theorem c7q:∀ (ds es:List D),((List.range (min ds.length es.length)).all (eqJ ds es)&&ds.length==es.length)=gGq ds es
  | [],[]=>by simp [gGq]
  | [],e::es=>by simp [gGq]
  | d::ds,[]=>by simp [gGq]
  | d::ds,e::es=>by
    rw [gGq,<- c7q ds es,List.length_cons,List.length_cons,Nat.succ_min_succ,List.range_succ_eq_map,List.all_cons,List.all_map]
    have h1:eqJ (d::ds) (e::es) 0=eqD d e:=rfl
    have h2:(eqJ (d::ds) (e::es) ∘ Nat.succ)=eqJ ds es:=by funext j;simp [eqJ]
    rw [h1,h2,Bool.and_assoc]
    congr 2
    rw [Bool.eq_iff_iff];simp
section
variable {X:Cx} {pins:List (Addr × Obj)} {σ:L2.St} {H:Hp} {s:Shared}
mutual
theorem uDq (I:Inv X pins σ H s):∀ {d e:D} {v:V},d.data=true->e.data=true->Abs X.K H d v->Abs X.K H e v->d=e
  | .non,e,v,_,h,a,b=>by
    cases a
    cases e<;>first | rfl | (cases b;done) | (obtain ⟨_,_,z,_⟩:=b;cases z)
  | .bl _,e,v,_,h,a,b=>by
    cases a
    cases e<;>first | (cases b;rfl) | (cases b;done) | (obtain ⟨_,_,z,_⟩:=b;cases z)
  | .int _,e,v,_,h,a,b=>by
    cases a
    cases e<;>first | (cases b;rfl) | (cases b;done) | (obtain ⟨_,_,z,_⟩:=b;cases z)
  | .str _,e,v,_,h,a,b=>by
    cases a
    cases e<;>first | (cases b;rfl) | (cases b;done) | (obtain ⟨_,_,z,_⟩:=b;cases z)
  | .ref _,_,_,h,_,_,_=>by simp [D.data] at h
  | .ty _,_,_,h,_,_,_=>by simp [D.data] at h
  | .frl _,_,_,h,_,_,_=>by simp [D.data] at h
  | .tup ds,e,v,h0,h,a,b=>by
    obtain ⟨l,vs,rfl,s1,r1⟩:=a
    cases e with
    | tup es=>
      obtain ⟨m,us,z,s2,r2⟩:=b
      cases z
      have e:=I.tuple_inj s1 s2
      subst e
      rw [gYq I (by simpa [D.data] using h0) (by simpa [D.data] using h) r1 r2]
    | ref m=>simp [D.data] at h
    | frl m=>simp [D.data] at h
    | _=>cases b
theorem gYq (I:Inv X pins σ H s):∀ {ds es:List D} {vs:List V},cVq ds=true->cVq es=true->AbsL X.K H ds vs->AbsL X.K H es vs->ds=es
  | [],[],_,_,_,_,_=>rfl
  | [],e::es,_,_,_,a,b=>by cases a;obtain ⟨_,_,z,_⟩:=b;cases z
  | d::ds,[],_,_,_,a,b=>by cases b;obtain ⟨_,_,z,_⟩:=a;cases z
  | d::ds,e::es,vs,h1,h2,⟨v,r,e1,a1,l1⟩,⟨u,q,e2,a2,l2⟩=>by
    subst e1
    cases e2
    simp only [cVq,Bool.and_eq_true] at h1 h2
    rw [uDq I h1.1 h2.1 a1 a2,gYq I h1.2 h2.2 l1 l2]
end
mutual
theorem hQq:∀ {d:D},d.data=true->eqD d d=true
  | .non,_=>rfl
  | .bl _,_=>by simp [eqD]
  | .int _,_=>by simp [eqD]
  | .str _,_=>by simp [eqD]
  | .ref _,h=>by simp [D.data] at h
  | .ty _,h=>by simp [D.data] at h
  | .frl _,h=>by simp [D.data] at h
  | .tup ds,h=>by rw [eqD];exact iWq (by simpa [D.data] using h)
theorem iWq:∀ {ds:List D},cVq ds=true->gGq ds ds=true
  | [],_=>rfl
  | d::ds,h=>by
    simp only [cVq,Bool.and_eq_true] at h
    rw [gGq,hQq h.1,iWq h.2];rfl
end
mutual
theorem aN0q (I:Inv X pins σ H s):∀ (d e:D) (A:Around) (x y:V) (u v:Value),d.data=true->e.data=true->Abs X.K H d x->Abs X.K H e y->RelV x u->RelV y v->A.units+d.dp < cLine->SeqAt.EqAt A s u v (eqD d e)
  | .tup ds,e,A,x,y,u,v,hd,he,ax,ay,ru,rv,hu=>by
    obtain ⟨a,vs,rfl,s1,r1⟩:=ax
    cases ru
    obtain ⟨its,rr,t1,_⟩:=I.tuple s1
    have hu0:A.units < cLine:=by omega
    cases e with
    | non=>cases ay;cases rv;exact SeqAt.EqAt.tuple_none t1 hu0
    | bl b=>cases ay;cases rv;exact SeqAt.EqAt.tuple_bool b t1 hu0
    | int b=>cases ay;obtain ⟨t,rfl⟩:=rv;exact SeqAt.EqAt.tuple_int b t t1 hu0
    | str b=>cases ay;obtain ⟨t,rfl⟩:=rv;exact SeqAt.EqAt.tuple_str b t t1 hu0
    | ref b=>simp [D.data] at he
    | ty b=>simp [D.data] at he
    | frl b=>simp [D.data] at he
    | tup es=>
      obtain ⟨b,us,rfl,s2,r2⟩:=ay
      cases rv
      by_cases hab:a=b
      . subst hab
        have e1:=I.tuple_inj s1 s2
        subst e1
        have e2:=gYq I (by simpa [D.data] using hd) (by simpa [D.data] using he) r1 r2
        subst e2
        rw [hQq hd]
        exact SeqAt.EqAt.same _
      . obtain ⟨its2,rr2,t2,_⟩:=I.tuple s2
        have l1:=rr.length
        have l2:=rr2.length
        have l3:=r1.len
        have l4:=r2.len
        simp only [D.dp] at hu
        have z:=SeqAt.RcAt.tuples (A:=A) (e:=eqJ ds es) t1 t2 hu0 (λ j h1 h2=>by
          have q:=g7q I ds es A.in1 vs us its its2 (by simpa [D.data] using hd) (by simpa [D.data] using he) r1 r2 rr rr2 (by show A.units+1+jJq ds < cLine;omega) j (by simpa using h1) (by simpa using h2)
          simpa using q)
        have ez:((List.range (min its.toArray.size its2.toArray.size)).all (eqJ ds es)&&its.toArray.size==its2.toArray.size)=eqD (.tup ds) (.tup es):=by
          rw [List.size_toArray,List.size_toArray,<- l1,<- l2,l3,l4,c7q];rfl
        rw [ez] at z
        exact SeqAt.EqAt.of_refs hab z
  | .ref _,_,_,_,_,_,_,hd,_,_,_,_,_,_=>by simp [D.data] at hd
  | .ty _,_,_,_,_,_,_,hd,_,_,_,_,_,_=>by simp [D.data] at hd
  | .frl _,_,_,_,_,_,_,hd,_,_,_,_,_,_=>by simp [D.data] at hd
  | .non,e,A,x,y,u,v,hd,he,ax,ay,ru,rv,hu=>by
    cases ax;cases ru
    have hu0:A.units < cLine:=by omega
    cases e with
    | non=>cases ay;cases rv;exact SeqAt.EqAt.same _
    | bl b=>cases ay;cases rv;exact SeqAt.EqAt.none_bool b
    | int b=>cases ay;obtain ⟨t,rfl⟩:=rv;exact SeqAt.EqAt.none_int b t
    | str b=>cases ay;obtain ⟨t,rfl⟩:=rv;exact SeqAt.EqAt.none_str b t
    | ref b=>simp [D.data] at he
    | ty b=>simp [D.data] at he
    | frl b=>simp [D.data] at he
    | tup es=>obtain ⟨b,us,rfl,s2,r2⟩:=ay;cases rv;obtain ⟨its2,rr2,t2,_⟩:=I.tuple s2;exact SeqAt.EqAt.none_tuple t2 hu0
  | .bl a,e,A,x,y,u,v,hd,he,ax,ay,ru,rv,hu=>by
    cases ax;cases ru
    have hu0:A.units < cLine:=by omega
    cases e with
    | non=>cases ay;cases rv;exact SeqAt.EqAt.bool_none a
    | bl b=>cases ay;cases rv;exact SeqAt.EqAt.bool_bool a b
    | int b=>cases ay;obtain ⟨t,rfl⟩:=rv;exact SeqAt.EqAt.bool_int a b t
    | str b=>cases ay;obtain ⟨t,rfl⟩:=rv;exact SeqAt.EqAt.bool_str a b t
    | ref b=>simp [D.data] at he
    | ty b=>simp [D.data] at he
    | frl b=>simp [D.data] at he
    | tup es=>obtain ⟨b,us,rfl,s2,r2⟩:=ay;cases rv;obtain ⟨its2,rr2,t2,_⟩:=I.tuple s2;exact SeqAt.EqAt.bool_tuple a t2 hu0
  | .int a,e,A,x,y,u,v,hd,he,ax,ay,ru,rv,hu=>by
    cases ax;obtain ⟨t',rfl⟩:=ru
    have hu0:A.units < cLine:=by omega
    cases e with
    | non=>cases ay;cases rv;exact SeqAt.EqAt.int_none a t'
    | bl b=>cases ay;cases rv;exact SeqAt.EqAt.int_bool a t' b
    | int b=>cases ay;obtain ⟨t,rfl⟩:=rv;exact SeqAt.EqAt.int_int a t' b t
    | str b=>cases ay;obtain ⟨t,rfl⟩:=rv;exact SeqAt.EqAt.int_str a t' b t
    | ref b=>simp [D.data] at he
    | ty b=>simp [D.data] at he
    | frl b=>simp [D.data] at he
    | tup es=>obtain ⟨b,us,rfl,s2,r2⟩:=ay;cases rv;obtain ⟨its2,rr2,t2,_⟩:=I.tuple s2;exact SeqAt.EqAt.int_tuple a t' t2 hu0
  | .str a,e,A,x,y,u,v,hd,he,ax,ay,ru,rv,hu=>by
    cases ax;obtain ⟨t',rfl⟩:=ru
    have hu0:A.units < cLine:=by omega
    cases e with
    | non=>cases ay;cases rv;exact SeqAt.EqAt.str_none a t'
    | bl b=>cases ay;cases rv;exact SeqAt.EqAt.str_bool a t' b
    | int b=>cases ay;obtain ⟨t,rfl⟩:=rv;exact SeqAt.EqAt.str_int a t' b t
    | str b=>cases ay;obtain ⟨t,rfl⟩:=rv;exact SeqAt.EqAt.str_str a t' b t
    | ref b=>simp [D.data] at he
    | ty b=>simp [D.data] at he
    | frl b=>simp [D.data] at he
    | tup es=>obtain ⟨b,us,rfl,s2,r2⟩:=ay;cases rv;obtain ⟨its2,rr2,t2,_⟩:=I.tuple s2;exact SeqAt.EqAt.str_tuple a t' t2 hu0
theorem g7q (I:Inv X pins σ H s):∀ (ds es:List D) (A:Around) (vs us:List V) (its its2:List Value),cVq ds=true->cVq es=true->AbsL X.K H ds vs->AbsL X.K H es us->Vals vs its->Vals us its2->A.units+jJq ds < cLine →
    ∀ j (h1:j < its.length) (h2:j < its2.length),SeqAt.EqAt A s its[j] its2[j] (eqJ ds es j)
  | [],es,A,vs,us,its,its2,_,_,e,e',rr,rr2,_,j,h1,h2=>by
    rw [show vs=[] from e] at rr
    cases rr
    exact absurd h1 (by simp)
  | d::ds,[],A,vs,us,its,its2,_,_,e,e',rr,rr2,_,j,h1,h2=>by
    rw [show us=[] from e'] at rr2
    cases rr2
    exact absurd h2 (by simp)
  | d::ds,e0::es,A,vs,us,its,its2,hd,he,⟨v,r,e,q,t⟩,⟨v',r',e',q',t'⟩,rr,rr2,hu,j,h1,h2=>by
    subst e e'
    cases rr with
    | cons r1 rt=>
      cases rr2 with
      | cons r2 rt2=>
        simp only [jJq] at hu
        simp only [cVq,Bool.and_eq_true] at hd he
        cases j with
        | zero=>exact aN0q I d e0 A _ _ _ _ hd.1 he.1 q q' r1 r2 (by omega)
        | succ j=>
          have z:=g7q I ds es A _ _ _ _ hd.2 he.2 t t' rt rt2 (by omega) j (by simpa using h1) (by simpa using h2)
          simpa [eqJ] using z
end
theorem aL7q (I:Inv X pins σ H s) (d e:D) (A:Around) (x y:V) (u v:Value) (hd:d.data=true) (he:e.data=true) (ax:Abs X.K H d x) (ay:Abs X.K H e y) (ru:RelV x u) (rv:RelV y v) (hu:A.units+d.dp < cLine):SeqAt.RcAt A s u v (eqD d e):=by
  have hu0:A.units < cLine:=by omega
  cases d with
  | tup ds=>
    obtain ⟨a,vs,rfl,s1,r1⟩:=ax
    cases ru
    obtain ⟨its,rr,t1,_⟩:=I.tuple s1
    cases e with
    | non=>cases ay;cases rv;exact SeqAt.RcAt.tuple_none t1 hu0
    | bl b=>cases ay;cases rv;exact SeqAt.RcAt.tuple_bool b t1 hu0
    | int b=>cases ay;obtain ⟨t,rfl⟩:=rv;exact SeqAt.RcAt.tuple_int b t t1 hu0
    | str b=>cases ay;obtain ⟨t,rfl⟩:=rv;exact SeqAt.RcAt.tuple_str b t t1 hu0
    | ref b=>simp [D.data] at he
    | ty b=>simp [D.data] at he
    | frl b=>simp [D.data] at he
    | tup es=>
      obtain ⟨b,us,rfl,s2,r2⟩:=ay
      cases rv
      obtain ⟨its2,rr2,t2,_⟩:=I.tuple s2
      have l1:=rr.length
      have l2:=rr2.length
      have l3:=r1.len
      have l4:=r2.len
      simp only [D.dp] at hu
      have z:=SeqAt.RcAt.tuples (A:=A) (e:=eqJ ds es) t1 t2 hu0 (λ j h1 h2=>by
        have q:=g7q I ds es A.in1 vs us its its2 (by simpa [D.data] using hd) (by simpa [D.data] using he) r1 r2 rr rr2 (by show A.units+1+jJq ds < cLine;omega) j (by simpa using h1) (by simpa using h2)
        simpa using q)
      have ez:((List.range (min its.toArray.size its2.toArray.size)).all (eqJ ds es)&&its.toArray.size==its2.toArray.size)=eqD (.tup ds) (.tup es):=by
        rw [List.size_toArray,List.size_toArray,<- l1,<- l2,l3,l4,c7q];rfl
      rw [ez] at z
      exact z
  | ref a=>simp [D.data] at hd
  | ty a=>simp [D.data] at hd
  | frl a=>simp [D.data] at hd
  | non=>
    cases ax;cases ru
    cases e with
    | non=>cases ay;cases rv;exact SeqAt.RcAt.none_none
    | bl b=>cases ay;cases rv;exact SeqAt.RcAt.none_bool b
    | int b=>cases ay;obtain ⟨t,rfl⟩:=rv;exact SeqAt.RcAt.none_int b t
    | str b=>cases ay;obtain ⟨t,rfl⟩:=rv;exact SeqAt.RcAt.none_str b t
    | ref b=>simp [D.data] at he
    | ty b=>simp [D.data] at he
    | frl b=>simp [D.data] at he
    | tup es=>obtain ⟨b,us,rfl,s2,r2⟩:=ay;cases rv;obtain ⟨its2,rr2,t2,_⟩:=I.tuple s2;exact SeqAt.RcAt.none_tuple t2 hu0
  | bl a=>
    cases ax;cases ru
    cases e with
    | non=>cases ay;cases rv;exact SeqAt.RcAt.bool_none a
    | bl b=>cases ay;cases rv;exact SeqAt.RcAt.bool_bool a b
    | int b=>cases ay;obtain ⟨t,rfl⟩:=rv;exact SeqAt.RcAt.bool_int a b t
    | str b=>cases ay;obtain ⟨t,rfl⟩:=rv;exact SeqAt.RcAt.bool_str a b t
    | ref b=>simp [D.data] at he
    | ty b=>simp [D.data] at he
    | frl b=>simp [D.data] at he
    | tup es=>obtain ⟨b,us,rfl,s2,r2⟩:=ay;cases rv;obtain ⟨its2,rr2,t2,_⟩:=I.tuple s2;exact SeqAt.RcAt.bool_tuple a t2 hu0
  | int a=>
    cases ax;obtain ⟨t',rfl⟩:=ru
    cases e with
    | non=>cases ay;cases rv;exact SeqAt.RcAt.int_none a t'
    | bl b=>cases ay;cases rv;exact SeqAt.RcAt.int_bool a t' b
    | int b=>cases ay;obtain ⟨t,rfl⟩:=rv;exact SeqAt.RcAt.int_int a t' b t
    | str b=>cases ay;obtain ⟨t,rfl⟩:=rv;exact SeqAt.RcAt.int_str a t' b t
    | ref b=>simp [D.data] at he
    | ty b=>simp [D.data] at he
    | frl b=>simp [D.data] at he
    | tup es=>obtain ⟨b,us,rfl,s2,r2⟩:=ay;cases rv;obtain ⟨its2,rr2,t2,_⟩:=I.tuple s2;exact SeqAt.RcAt.int_tuple a t' t2 hu0
  | str a=>
    cases ax;obtain ⟨t',rfl⟩:=ru
    cases e with
    | non=>cases ay;cases rv;exact SeqAt.RcAt.str_none a t'
    | bl b=>cases ay;cases rv;exact SeqAt.RcAt.str_bool a t' b
    | int b=>cases ay;obtain ⟨t,rfl⟩:=rv;exact SeqAt.RcAt.str_int a t' b t
    | str b=>cases ay;obtain ⟨t,rfl⟩:=rv;exact SeqAt.RcAt.str_str a t' b t
    | ref b=>simp [D.data] at he
    | ty b=>simp [D.data] at he
    | frl b=>simp [D.data] at he
    | tup es=>obtain ⟨b,us,rfl,s2,r2⟩:=ay;cases rv;obtain ⟨its2,rr2,t2,_⟩:=I.tuple s2;exact SeqAt.RcAt.str_tuple a t' t2 hu0
end
end L3
namespace L3
open PySem PySem.Spec L2
section
variable {X:Cx} {pins:List (Addr × Obj)} {σ:L2.St} {H:Hp} {s:Shared}
theorem aH4q (I:Inv X pins σ H s) (d e:D) (A:Around) (x y:V) (u v:Value) (hd:d.data=true) (he:e.data=true) (ax:Abs X.K H d x) (ay:Abs X.K H e y) (ru:RelV x u) (rv:RelV y v) (hu:A.units+d.dp < cLine):SeqAt.RcNeAt A s u v (!eqD d e):=by
  have hu0:A.units < cLine:=by omega
  cases d with
  | tup ds=>
    obtain ⟨a,vs,rfl,s1,r1⟩:=ax
    cases ru
    obtain ⟨its,rr,t1,_⟩:=I.tuple s1
    cases e with
    | non=>cases ay;cases rv;exact SeqAt.RcNeAt.tuple_none t1 hu0
    | bl b=>cases ay;cases rv;exact SeqAt.RcNeAt.tuple_bool b t1 hu0
    | int b=>cases ay;obtain ⟨t,rfl⟩:=rv;exact SeqAt.RcNeAt.tuple_int b t t1 hu0
    | str b=>cases ay;obtain ⟨t,rfl⟩:=rv;exact SeqAt.RcNeAt.tuple_str b t t1 hu0
    | ref b=>simp [D.data] at he
    | ty b=>simp [D.data] at he
    | frl b=>simp [D.data] at he
    | tup es=>
      obtain ⟨b,us,rfl,s2,r2⟩:=ay
      cases rv
      obtain ⟨its2,rr2,t2,_⟩:=I.tuple s2
      have l1:=rr.length
      have l2:=rr2.length
      have l3:=r1.len
      have l4:=r2.len
      simp only [D.dp] at hu
      have z:=SeqAt.RcNeAt.tuples (A:=A) (e:=eqJ ds es) t1 t2 hu0 (λ j h1 h2=>by
        have q:=g7q I ds es A.in1 vs us its its2 (by simpa [D.data] using hd) (by simpa [D.data] using he) r1 r2 rr rr2 (by show A.units+1+jJq ds < cLine;omega) j (by simpa using h1) (by simpa using h2)
        simpa using q)
      have ez:((List.range (min its.toArray.size its2.toArray.size)).all (eqJ ds es)&&its.toArray.size==its2.toArray.size)=eqD (.tup ds) (.tup es):=by
        rw [List.size_toArray,List.size_toArray,<- l1,<- l2,l3,l4,c7q];rfl
      rw [ez] at z
      exact z
  | ref a=>simp [D.data] at hd
  | ty a=>simp [D.data] at hd
  | frl a=>simp [D.data] at hd
  | non=>
    cases ax;cases ru
    cases e with
    | non=>cases ay;cases rv;exact SeqAt.RcNeAt.none_none
    | bl b=>cases ay;cases rv;exact SeqAt.RcNeAt.none_bool b
    | int b=>cases ay;obtain ⟨t,rfl⟩:=rv;exact SeqAt.RcNeAt.none_int b t
    | str b=>cases ay;obtain ⟨t,rfl⟩:=rv;exact SeqAt.RcNeAt.none_str b t
    | ref b=>simp [D.data] at he
    | ty b=>simp [D.data] at he
    | frl b=>simp [D.data] at he
    | tup es=>obtain ⟨b,us,rfl,s2,r2⟩:=ay;cases rv;obtain ⟨its2,rr2,t2,_⟩:=I.tuple s2;exact SeqAt.RcNeAt.none_tuple t2 hu0
  | bl a=>
    cases ax;cases ru
    cases e with
    | non=>cases ay;cases rv;exact SeqAt.RcNeAt.bool_none a
    | bl b=>cases ay;cases rv;exact SeqAt.RcNeAt.bool_bool a b
    | int b=>cases ay;obtain ⟨t,rfl⟩:=rv;exact SeqAt.RcNeAt.bool_int a b t
    | str b=>cases ay;obtain ⟨t,rfl⟩:=rv;exact SeqAt.RcNeAt.bool_str a b t
    | ref b=>simp [D.data] at he
    | ty b=>simp [D.data] at he
    | frl b=>simp [D.data] at he
    | tup es=>obtain ⟨b,us,rfl,s2,r2⟩:=ay;cases rv;obtain ⟨its2,rr2,t2,_⟩:=I.tuple s2;exact SeqAt.RcNeAt.bool_tuple a t2 hu0
  | int a=>
    cases ax;obtain ⟨t',rfl⟩:=ru
    cases e with
    | non=>cases ay;cases rv;exact SeqAt.RcNeAt.int_none a t'
    | bl b=>cases ay;cases rv;exact SeqAt.RcNeAt.int_bool a t' b
    | int b=>cases ay;obtain ⟨t,rfl⟩:=rv;exact SeqAt.RcNeAt.int_int a t' b t
    | str b=>cases ay;obtain ⟨t,rfl⟩:=rv;exact SeqAt.RcNeAt.int_str a t' b t
    | ref b=>simp [D.data] at he
    | ty b=>simp [D.data] at he
    | frl b=>simp [D.data] at he
    | tup es=>obtain ⟨b,us,rfl,s2,r2⟩:=ay;cases rv;obtain ⟨its2,rr2,t2,_⟩:=I.tuple s2;exact SeqAt.RcNeAt.int_tuple a t' t2 hu0
  | str a=>
    cases ax;obtain ⟨t',rfl⟩:=ru
    cases e with
    | non=>cases ay;cases rv;exact SeqAt.RcNeAt.str_none a t'
    | bl b=>cases ay;cases rv;exact SeqAt.RcNeAt.str_bool a t' b
    | int b=>cases ay;obtain ⟨t,rfl⟩:=rv;exact SeqAt.RcNeAt.str_int a t' b t
    | str b=>cases ay;obtain ⟨t,rfl⟩:=rv;exact SeqAt.RcNeAt.str_str a t' b t
    | ref b=>simp [D.data] at he
    | ty b=>simp [D.data] at he
    | frl b=>simp [D.data] at he
    | tup es=>obtain ⟨b,us,rfl,s2,r2⟩:=ay;cases rv;obtain ⟨its2,rr2,t2,_⟩:=I.tuple s2;exact SeqAt.RcNeAt.str_tuple a t' t2 hu0
end
end L3
namespace L3
open PySem PySem.Spec L2
section
variable {X:Cx} {a b c e o i tg iter:Expr} {es:List Expr} {ta tb te to ti tc:DTE} {t:DTA} {pos p apos cpos:Pos}
theorem aZq {A:Around} {k:Nat} (hr:Room k A):A.units+200 < cLine:=by have:=hr.un;omega
def rEqD (K:PySem.W.Frag) (f:Bool->Bool):R2:=λ x y H Q=>∃ d e,Abs K H d x/\Abs K H e y/\d.data=true/\e.data=true/\d.dp<=150/\Q (.bl (f (eqD d e))) H
def uVq (K:PySem.W.Frag) (f:Bool->Bool):R2:=λ x y H Q=>∃ l m vs us ds es,x=.ref l/\y=.ref m/\SqL K H l vs/\SqL K H m us/\AbsL K H ds vs/\AbsL K H es us/\cVq ds=true/\cVq es=true/\jJq ds<=150/\Q (.bl (f (gGq ds es))) H
theorem z5q (hu:X.A.units+200 < cLine):OpR X (compareOp .Eq) (rEqD X.K id):=by
  intro pins s σ H x y v u Q I rx ry h
  obtain ⟨d,e,ax,ay,hd,he,hz,q⟩:=h
  exact aL7q I d e X.A x y v u hd he ax ay rx ry (by omega) X.prog X.w X.xe _ ⟨.bl _,H,I,rfl,q⟩
theorem z1q (hu:X.A.units+200 < cLine):OpR X (compareOp .NotEq) (rEqD X.K (!·)):=by
  intro pins s σ H x y v u Q I rx ry h
  obtain ⟨d,e,ax,ay,hd,he,hz,q⟩:=h
  exact aH4q I d e X.A x y v u hd he ax ay rx ry (by omega) X.prog X.w X.xe _ ⟨.bl _,H,I,rfl,q⟩
theorem gWq:∀ {ds es:List D},ds.length≠es.length->gGq ds es=false
  | [],[],h=>absurd rfl h
  | [],_::_,_=>rfl
  | _::_,[],_=>rfl
  | d::ds,e::es,h=>by rw [gGq,gWq (by simpa using h),Bool.and_false]
theorem kXq {ds es:List D} (h:ds.length=es.length):(List.range ds.length).all (eqJ ds es)=gGq ds es:=by
  rw [<- c7q,<- h,Nat.min_self];simp
theorem u4q (hu:X.A.units+200 < cLine):OpR X (compareOp .Eq) (uVq X.K id):=by
  intro pins s σ H x y v u Q I rx ry h
  obtain ⟨l,m,vs,us,ds,es,rfl,rfl,s1,s2,r1,r2,hd,he,hz,q⟩:=h
  cases rx;cases ry
  obtain ⟨its,rr,t1,_⟩:=I.list s1
  obtain ⟨its2,rr2,t2,_⟩:=I.list s2
  have l1:=rr.length
  have l2:=rr2.length
  have l3:=r1.len
  have l4:=r2.len
  by_cases hl:ds.length=es.length
  . refine SeqAt.RcAt.lists (e:=eqJ ds es) t1.isList t2.isList (by rw [List.size_toArray,List.size_toArray];omega) (by omega) (λ j h1 h2=>?_) X.prog X.w X.xe _ ⟨.bl _,H,I,?_,q⟩
    . have q:=g7q I ds es X.A.in1 vs us its its2 hd he r1 r2 rr rr2 (by show X.A.units+1+jJq ds < cLine;omega) j (by simpa using h1) (by simpa using h2)
      simpa using q
    . show Value.bool _=Value.bool _
      rw [List.size_toArray,<- l1,l3,kXq hl];rfl
  . refine SeqAt.RcAt.lists_lengths t1.isList t2.isList (by rw [List.size_toArray,List.size_toArray];simp;omega) (by omega) X.prog X.w X.xe _ ⟨.bl _,H,I,?_,q⟩
    rw [gWq hl];rfl
theorem uCq (hu:X.A.units+200 < cLine):OpR X (compareOp .NotEq) (uVq X.K (!·)):=by
  intro pins s σ H x y v u Q I rx ry h
  obtain ⟨l,m,vs,us,ds,es,rfl,rfl,s1,s2,r1,r2,hd,he,hz,q⟩:=h
  cases rx;cases ry
  obtain ⟨its,rr,t1,_⟩:=I.list s1
  obtain ⟨its2,rr2,t2,_⟩:=I.list s2
  have l1:=rr.length
  have l2:=rr2.length
  have l3:=r1.len
  have l4:=r2.len
  by_cases hl:ds.length=es.length
  . refine SeqAt.RcNeAt.lists (e:=eqJ ds es) t1.isList t2.isList (by rw [List.size_toArray,List.size_toArray];omega) (by omega) (λ j h1 h2=>?_) X.prog X.w X.xe _ ⟨.bl _,H,I,?_,q⟩
    . have q:=g7q I ds es X.A.in1 vs us its its2 hd he r1 r2 rr rr2 (by show X.A.units+1+jJq ds < cLine;omega) j (by simpa using h1) (by simpa using h2)
      simpa using q
    . show Value.bool _=Value.bool _
      rw [List.size_toArray,<- l1,l3,kXq hl]
  . refine SeqAt.RcNeAt.lists_lengths t1.isList t2.isList (by rw [List.size_toArray,List.size_toArray];simp;omega) (by omega) X.prog X.w X.xe _ ⟨.bl _,H,I,?_,q⟩
    rw [gWq hl];rfl
def eqR (f:Bool->Bool):DR2:=λ x y G Q=>match x,y with
  | .int i,.int j=>Q (.bl (f (i==j))) G
  | .str i,.str j=>Q (.bl (f (i==j))) G
  | .tup _,.str _=>Q (.bl (f false)) G
  | .str _,.tup _=>Q (.bl (f false)) G
  | .ref l,.ref m=>onL G l λ ds=>onL G m λ es=>cVq ds=true/\cVq es=true/\jJq ds<=150/\Q (.bl (f (gGq ds es))) G
  | x,y=>x.data=true/\y.data=true/\x.dp<=150/\Q (.bl (f (eqD x y))) G
theorem nPq {f:Bool->Bool} {x y:D} {G:DV} {Q:DK} (hx:x.data=true) (hy:y.data=true) (hd:x.dp<=150) (q:Q (.bl (f (eqD x y))) G):eqR f x y G Q:=by
  cases x<;>cases y<;>first | exact q | exact ⟨hx,hy,hd,q⟩ | (simp [D.data] at hx;done) | (simp [D.data] at hy;done)
def rTS (K:PySem.W.Frag) (f:Bool->Bool):R2:=λ x y H Q=>(∃ a vs z,x=.ref a/\SqT K H a vs/\y=.str z/\Q (.bl (f false)) H)\/∃ a vs z,y=.ref a/\SqT K H a vs/\x=.str z/\Q (.bl (f false)) H
theorem wIq (hu:X.A.units+200 < cLine):OpR X (compareOp .Eq) (rTS X.K id):=by
  intro pins s σ H x y v u Q I rx ry h
  rcases h with ⟨a,vs,z,rfl,sq,rfl,q⟩ | ⟨a,vs,z,rfl,sq,rfl,q⟩
  . cases rx;obtain ⟨t,rfl⟩:=ry
    obtain ⟨its,rr,t1,_⟩:=I.tuple sq
    exact SeqAt.RcAt.tuple_str z t t1 (by omega) X.prog X.w X.xe _ ⟨.bl false,H,I,rfl,q⟩
  . cases ry;obtain ⟨t,rfl⟩:=rx
    obtain ⟨its,rr,t1,_⟩:=I.tuple sq
    exact SeqAt.RcAt.str_tuple z t t1 (by omega) X.prog X.w X.xe _ ⟨.bl false,H,I,rfl,q⟩
theorem uLq (hu:X.A.units+200 < cLine):OpR X (compareOp .NotEq) (rTS X.K (!·)):=by
  intro pins s σ H x y v u Q I rx ry h
  rcases h with ⟨a,vs,z,rfl,sq,rfl,q⟩ | ⟨a,vs,z,rfl,sq,rfl,q⟩
  . cases rx;obtain ⟨t,rfl⟩:=ry
    obtain ⟨its,rr,t1,_⟩:=I.tuple sq
    exact SeqAt.RcNeAt.tuple_str z t t1 (by omega) X.prog X.w X.xe _ ⟨.bl true,H,I,rfl,q⟩
  . cases ry;obtain ⟨t,rfl⟩:=rx
    obtain ⟨its,rr,t1,_⟩:=I.tuple sq
    exact SeqAt.RcNeAt.str_tuple z t t1 (by omega) X.prog X.w X.xe _ ⟨.bl true,H,I,rfl,q⟩
theorem t3q {f:Bool->Bool} {op:CmpOp} (h1:OpR X (compareOp op) (rEqD X.K f)) (h2:OpR X (compareOp op) (uVq X.K f)) (h3:OpR X (compareOp op) (rTS X.K f)):AOp X (compareOp op) (eqR f):=by
  refine ⟨_,⟨h1.or (h2.or h3)⟩,λ x y vx vy G H DQ Q v ax ay r F=>?_⟩
  have fin:∀ b:Bool,DQ (.bl b) G->Q (.bl b) H:=λ b q=>F (.bl b) G _ H (.refl v) rfl q
  have gen:x.data=true/\y.data=true/\x.dp<=150/\DQ (.bl (f (eqD x y))) G->rEqD X.K f vx vy H Q:=λ⟨z1,z2,z3,z4⟩=>⟨x,y,ax,ay,z1,z2,z3,fin _ z4⟩
  unfold eqR at r
  split at r
  . exact .inl (gen ⟨rfl,rfl,Nat.zero_le _,r⟩)
  . exact .inl (gen ⟨rfl,rfl,Nat.zero_le _,r⟩)
  . obtain ⟨l,vs,rfl,s1,_⟩:=ax
    cases ay
    exact .inr (.inr (.inl ⟨l,vs,_,rfl,s1,rfl,fin _ r⟩))
  . obtain ⟨l,vs,rfl,s1,_⟩:=ay
    cases ax
    exact .inr (.inr (.inr ⟨l,vs,_,rfl,s1,rfl,fin _ r⟩))
  . cases ax;cases ay
    obtain ⟨ds,vs,k1,s1,r1⟩:=bDq v r
    obtain ⟨es,us,⟨z1,z2,z3,k2⟩,s2,r2⟩:=bDq v k1
    exact .inr (.inl ⟨_,_,vs,us,ds,es,rfl,rfl,s1,s2,r1,r2,z1,z2,z3,fin _ k2⟩)
  . exact .inl (gen r)
theorem aXq (hu:X.A.units+200 < cLine):AOp X (compareOp .Eq) (eqR id):=t3q (z5q hu) (u4q hu) (wIq hu)
theorem dOq (hu:X.A.units+200 < cLine):AOp X (compareOp .NotEq) (eqR (!·)):=t3q (z1q hu) (uCq hu) (uLq hu)
abbrev sWq (t:DTE):DTE:=λ ρ G Q=>t ρ G λ d G'=>∃ G2,Sub G2 G'/\Q d G2
theorem c9q (h:AE X e te):AE X e (sWq te):=by
  obtain ⟨ca,ja,ra⟩:=h.run
  exact ⟨_,ja,λ ρ G DQ σ H Q B q F=>ra ρ G _ σ H _ B q λ d G' v H' g a ⟨G2,s2,q2⟩=>F d G2 v H' (g.sub s2) a q2⟩
@[irreducible] def atS (ds:List D) (i:Int) (G:DV) (Q:DK):Prop:=atD ds i G Q
theorem gEq {ds:List D} {i:Int} {G:DV} {Q:DK} (h:atD ds i G Q):atS ds i G Q:=by unfold atS;exact h
abbrev dIxD (t:DTA) (tb:DTE):DTE:=λ ρ G Q=>t ρ G λ ds G1=>tb ρ G1 λ y G2=>match y with
  | .int i=>atS ds i G2 Q
  | _=>False
theorem c4q {lp:Pos} (h:AA X es t) (hb:AE X b tb) (hs:hLq b) (hl:Nat.ble es.length 1000=true:=by rfl):AE X (.Subscript (.List es lp) b pos) (dIxD t tb):=by
  obtain ⟨ca,ja,ra⟩:=h.run
  obtain ⟨cb,jb,rb⟩:=hb.run
  refine ⟨_,z0q ⟨t1q⟩ (tXq ja) jb hs,λ ρ G DQ σ H Q B q F=>ra ρ G _ σ H _ B q λ ds G1 vs H1 g1 al hn q1=>⟨by rw [al.len,hn];exact jNq hl,λ p hp=>?_⟩⟩
  have g2:=Go.newT (o:=.lst vs) g1.vw hp
  have n1:=g1.vw.none hp
  refine rb ρ G1 _ σ _ _ ((B.go g1).go g2) q1 λ y G3 u H3 g3 ay q3=>?_
  have h3:=g3.same p _ aBq n1
  split at q3
  . next i=>
    cases ay
    unfold atS at q3
    obtain ⟨d,hd,q4⟩:=hAq q3
    obtain ⟨w,hw,aw⟩:=hZq ((al.mono g2.tup).mono g3.tup) hd
    exact .inl ⟨p,vs,i,w,rfl,rfl,.of h3,hw,F d G3 w H3 ((g1.trans g2).trans g3) aw q4⟩
  . exact q3.elim
def oPq (sc:Scope) (N:List Str) (scope:Scope) (N':List Str) (nt:Nat) (cap:List Nat):Bool:=
  scope.names.all (λ y=>y.2 !=.cell)&&scope.names.all (λ y=>y.2 !=.local||scope.names.lookup y.1==some .local) &&
  scope.names.all (λ y=>y.2 !=.free||(sc.names.lookup y.1==some .cell||sc.names.lookup y.1==some .free))&&N'.length==nt+cap.length &&
  (List.range cap.length).all λ j=>match cap[j]?,N'[nt+j]? with
    | some i,some x=>N[i]?==some x&&scope.names.lookup x==some .free
    | _,_=>true
theorem CompOk.of {scope:Scope} {N':List Str} {nt:Nat} {cap:List Nat} (hk:scope.kind=.function) (h:oPq X.env.scope X.N scope N' nt cap=true):CompOk X scope N' nt cap:=by
  unfold oPq at h
  simp only [Bool.and_eq_true,List.all_eq_true] at h
  obtain ⟨⟨⟨⟨h1,h2⟩,h3⟩,h4⟩,h5⟩:=h
  refine ⟨hk,λ y hy=>by simpa using h1 y hy,λ y hy e=>?_,λ y hy e=>?_,by simpa using h4,λ j i x hj hx=>?_⟩
  . have z:=h2 y hy
    rw [e] at z
    simpa using z
  . have z:=h3 y hy
    rw [e] at z
    simpa using z
  . have lt:j < cap.length:=by
      rcases Nat.lt_or_ge j cap.length with z | z
      . exact z
      . rw [List.getElem?_eq_none z] at hj;cases hj
    have z:=h5 j (List.mem_range.mpr lt)
    rw [hj,hx] at z
    simpa using z
abbrev aK3q (to ti:DTE):DTG:=λ d ρ G Q=>to ρ G λ x G1=>ti ρ G1 λ y G2=>match x,y with
  | .ref l,.int k=>onM G2 l λ ds=>∃ j,ixN ds.length k=some j/\Q ρ (up G2 l (.lst (ds.set j d)))
  | _,_=>False
theorem mOq (ho:AE X o to) (hi:AE X i ti) (ha:∀ v,assign (.Subscript o i pos) X.env v=(do
      let ov ← holding [v] (eval o X.env)
      let iv ← holding [v,ov] (eval i X.env)
      standAt pos
      holding [v,ov,iv] (setItem ov iv v)
      release [v,ov,iv] []):=by intro _;rfl):AG X (.Subscript o i pos) (aK3q to ti):=by
  obtain ⟨co,jo,ro⟩:=ho.run
  obtain ⟨ci,ji,ri⟩:=hi.run
  refine ⟨_,xJq jo ji ⟨sGq⟩ ha,λ d v ρ G DQ σ H Q B ad q F=>ro ρ G _ σ H _ B q λ x G1 vx H1 g1 ax q1=>ri ρ G1 _ σ H1 _ (B.go g1) q1 λ y G2 vy H2 g2 ay q2=>?_⟩
  split at q2
  . next l k=>
    cases ax;cases ay
    obtain ⟨ds,vs,⟨j,hj,q3⟩,e1,h1,r1⟩:=cAq g2.vw q2
    have ad2:=(ad.mono g1.tup).mono g2.tup
    have g3:=Go.setL g2.vw e1 (r1.set ad2 j)
    have gg:=(g1.trans g2).trans g3
    exact ⟨l,vs,k,j,rfl,rfl,h1,by rw [r1.len];exact hj,F ρ _ σ _ gg (B.go gg) q3⟩
  . exact q2.elim
abbrev z8q (te:DTE):DTE:=λ ρ G Q=>te ρ G λ x G1=>match x with
  | .ref l=>onL G1 l λ ds=>∀ p,G1 p=none->Q (.ref p) (up G1 p (.lst ds.reverse))
  | _=>False
def d1q:List D->Option (List Bool)
  | []=>some []
  | .bl i::r=>(d1q r).map (i::·)
  | _::_=>none
theorem fFq {K:PySem.W.Frag} {H:Hp}:∀ {ds:List D} {bs:List Bool} {vs:List V},d1q ds=some bs->AbsL K H ds vs->vs=bs.map V.bl
  | [],bs,vs,h,r=>by cases h;exact r
  | d::ds,bs,vs,h,⟨v,q,e,av,l⟩=>by
    cases d with
    | bl i=>
      simp only [d1q,Option.map_eq_some_iff] at h
      obtain ⟨ms,h1,rfl⟩:=h
      subst e
      cases av
      rw [fFq h1 l];rfl
    | _=>simp [d1q] at h
theorem eYq:∀ bs:List Bool,d1q (bs.map D.bl)=some bs
  | []=>rfl
  | b::bs=>by simp [d1q,eYq bs]
def allD:D->DV->DK->Prop:=λ x G Q=>match x with
  | .ref l=>onL G l λ ds=>∃ bs,d1q ds=some bs/\Q (.bl (bs.all id)) G
  | _=>False
theorem oVq (hc:X.calm=true):ACall X (.builtin "all") (tUq allD):=by
  refine ⟨_,⟨q0q hc⟩,λ xs vs G H DQ Q v a r F=>?_⟩
  obtain ⟨x,u,rfl,rfl,ax,r⟩:=cUq r a
  cases x with
  | ref l=>
    cases ax
    obtain ⟨ds,ws,⟨bs,e,k⟩,s,rl⟩:=bDq v r
    rw [fFq e rl] at s
    exact ⟨l,bs,rfl,s,F (.bl (bs.all id)) G _ H (.refl v) rfl k⟩
  | _=>exact (show False from r).elim
def tyN (x:D) (G:DV) (k:String->Prop):Prop:=match x with
  | .non=>k "NoneType"
  | .bl _=>k "bool"
  | .int _=>k "int"
  | .str _=>k "str"
  | .tup _=>k "tuple"
  | .ref l=>onL G l λ _=>k "list"
  | _=>False
def isTy (t T:String):Option Bool:=
  if (t = "NoneType"\/t = "bool"\/t = "int"\/t = "str"\/t = "tuple"\/t = "list")/\(T = "bool"\/T = "int"\/T = "str"\/T = "tuple"\/T = "list") then some (decide (t=T)||(decide (t = "bool")&&decide (T = "int"))) else none
theorem cTq {K:PySem.W.Frag} {t T:String} {b:Bool} (h:isTy t T=some b):PySem.W.kitOne K (.type t) (.type T)=some b:=by
  unfold isTy at h
  split at h
  . next c=>
    obtain ⟨c1,c2⟩:=c
    rcases c1 with rfl | rfl | rfl | rfl | rfl | rfl<;>rcases c2 with rfl | rfl | rfl | rfl | rfl<;>(simp at h;subst h;first | rfl | exact kit_other rfl (by decide))
  . cases h
def rIsI (K:PySem.W.Frag):List V->Hp->VK->Prop:=λ xs H Q=>∃ x T t b,xs=[x,.ty T]/\((TyOf K H x (.type t))\/(t = "tuple"/\∃ a vs,x=.ref a/\SqT K H a vs)\/(t = "list"/\∃ a vs,x=.ref a/\SqL K H a vs))/\PySem.W.kitOne K (.type t) (.type T)=some b/\Q (.bl b) H
theorem mPq:CallR X (.builtin "isinstance") (rIsI X.K):=by
  intro pins s σ H xs us Q I r h
  obtain ⟨x,T,t,b,rfl,ty,hk,hQ⟩:=h
  obtain ⟨u,v,rfl,ru,rv⟩:=Vals.two r
  cases rv
  rcases ty with ty | ⟨rfl,a,vs,rfl,sq⟩ | ⟨rfl,a,vs,rfl,sq⟩
  . exact pNq I ru ty hk λ tk=>⟨.bl b,H,I.tok tk,rfl,hQ⟩
  . cases ru
    obtain ⟨its,_,⟨o,h1,h2,_⟩,_⟩:=I.tuple sq
    exact PySem.W.kia_one PySem.W.kitx_tuple I.kIn ⟨o,h1,h2⟩ hk (λ z=>nomatch z) λ tk=>⟨.bl b,H,I.tok tk,rfl,hQ⟩
  . cases ru
    obtain ⟨its,_,⟨o,n,h1,h2,_⟩,_⟩:=I.list sq
    exact PySem.W.kia_one PySem.W.kitx_list I.kIn ⟨o,h1,h2⟩ hk (λ z=>nomatch z) λ tk=>⟨.bl b,H,I.tok tk,rfl,hQ⟩
def isID:D->D->DV->DK->Prop:=λ x y G Q=>match y with
  | .ty T=>tyN x G λ t=>∃ b,isTy t T=some b/\Q (.bl b) G
  | _=>False
theorem f3q:ACall X (.builtin "isinstance") (two2 isID):=by
  refine ⟨_,⟨mPq⟩,λ xs vs G H DQ Q v a r F=>?_⟩
  obtain ⟨x,y,u,w,rfl,rfl,ax,ay,r⟩:=l3q r a
  cases y with
  | ty T=>
    cases ay
    cases x with
    | non=>cases ax;obtain ⟨b,hb,q⟩:=r;exact ⟨_,T,_,b,rfl,.inl .non,cTq hb,F (.bl b) G _ H (.refl v) rfl q⟩
    | bl z=>cases ax;obtain ⟨b,hb,q⟩:=r;exact ⟨_,T,_,b,rfl,.inl (.bl z),cTq hb,F (.bl b) G _ H (.refl v) rfl q⟩
    | int z=>cases ax;obtain ⟨b,hb,q⟩:=r;exact ⟨_,T,_,b,rfl,.inl (.int z),cTq hb,F (.bl b) G _ H (.refl v) rfl q⟩
    | str z=>cases ax;obtain ⟨b,hb,q⟩:=r;exact ⟨_,T,_,b,rfl,.inl (.str z),cTq hb,F (.bl b) G _ H (.refl v) rfl q⟩
    | tup ds=>obtain ⟨l,ws,rfl,s,_⟩:=ax;obtain ⟨b,hb,q⟩:=r;exact ⟨_,T,"tuple", b,rfl,.inr (.inl ⟨rfl,l,ws,rfl,s⟩),cTq hb,F (.bl b) G _ H (.refl v) rfl q⟩
    | ref l=>
      cases ax
      obtain ⟨ds,ws,⟨b,hb,q⟩,s,_⟩:=bDq v r
      exact ⟨_,T,"list", b,rfl,.inr (.inr ⟨rfl,l,ws,rfl,s⟩),cTq hb,F (.bl b) G _ H (.refl v) rfl q⟩
    | ty z=>exact (show False from r).elim
    | frl z=>exact (show False from r).elim
  | _=>exact (show False from r).elim
end
end L3
namespace L3
open PySem PyProof L2
open PySem.MeetsSeq
theorem i6q {K:PySem.W.Frag} {H:Hp}:∀ ws:List Str,AbsL K H (ws.map D.str) (ws.map V.str)
  | []=>rfl
  | w::ws=>⟨_,_,rfl,rfl,i6q ws⟩
theorem n9q {a b:String} (h:Str.ofString a=Str.ofString b):a=b:=by
  rw [Str.ofString_eq_toList,Str.ofString_eq_toList] at h
  have h1:a.toList.map Char.toNat=b.toList.map Char.toNat:=by simpa using h
  have h2:a.toList=b.toList:=by
    generalize a.toList=x at h1
    generalize b.toList=y at h1
    induction x generalizing y with
    | nil=>cases y with
      | nil=>rfl
      | cons _ _=>simp at h1
    | cons c x ih=>cases y with
      | nil=>simp at h1
      | cons d y=>
        simp only [List.map_cons,List.cons.injEq] at h1
        rw [Char.ext (UInt32.toNat_inj.mp h1.1),ih y h1.2]
  exact String.toList_inj.mp h2
theorem dCq {a b:String}:(Str.ofString a=Str.ofString b)=(a=b):=propext ⟨n9q,λ h=>by rw [h]⟩
inductive Tm where
  | name (k:Nat) | whole (n:Int) | way (t:Tm) | give (t u:Tm) | pair (t u:Tm) | first (t:Tm) | second (t:Tm) | plus (t u:Tm) | look (t u v:Tm)
def Tm.inn:Tm->List Tm
  | .name _=>[]
  | .whole _=>[]
  | .way t=>[t]
  | .give t u=>[t,u]
  | .pair t u=>[t,u]
  | .first t=>[t]
  | .second t=>[t]
  | .plus t u=>[t,u]
  | .look t u v=>[t,u,v]
def Tm.word:Tm->Str
  | .name _=>"name" | .whole _=>"whole" | .way _=>"way" | .give _ _=>"give" | .pair _ _=>"pair" | .first _=>"first" | .second _=>"second" | .plus _ _=>"plus" | .look _ _ _=>"look"
def Tm.enc:Tm->D
  | .name k=>.tup [.str "name", .int k]
  | .whole n=>.tup [.str "whole", .int n]
  | .way t=>.tup [.str "way", t.enc]
  | .give t u=>.tup [.str "give", t.enc,u.enc]
  | .pair t u=>.tup [.str "pair", t.enc,u.enc]
  | .first t=>.tup [.str "first", t.enc]
  | .second t=>.tup [.str "second", t.enc]
  | .plus t u=>.tup [.str "plus", t.enc,u.enc]
  | .look t u v=>.tup [.str "look", t.enc,u.enc,v.enc]
def Tm.sz:Tm->Nat
  | .name _=>1
  | .whole _=>1
  | .way t=>1+t.sz
  | .give t u=>1+t.sz+u.sz
  | .pair t u=>1+t.sz+u.sz
  | .first t=>1+t.sz
  | .second t=>1+t.sz
  | .plus t u=>1+t.sz+u.sz
  | .look t u v=>1+t.sz+u.sz+v.sz
def Tm.dp:Tm->Nat
  | .name _=>0
  | .whole _=>0
  | .way t=>1+t.dp
  | .give t u=>1+max t.dp u.dp
  | .pair t u=>1+max t.dp u.dp
  | .first t=>1+t.dp
  | .second t=>1+t.dp
  | .plus t u=>1+max t.dp u.dp
  | .look t u v=>1+max t.dp (max u.dp v.dp)
abbrev fed (x y:Int):DO:=.lst [.int x,.int y]
def Fd (G:DV) (a:Addr):Prop:=∃ x y,G a=some (fed x y)
theorem Fd.up {G:DV} {a:Addr} {x y:Int}:Fd (up G a (fed x y)) a:=⟨x,y,a4q⟩
theorem Fd.new {G:DV} {a l:Addr} {o:DO} (h:Fd G a) (n:G l=none):Fd (L3.up G l o) a:=by
  obtain ⟨x,y,e⟩:=h
  exact ⟨x,y,by rw [a8q (by rintro rfl;rw [n] at e;cases e)];exact e⟩
theorem Fd.ne {G:DV} {a l:Addr} (h:Fd G a) (n:G l=none):l≠a:=by
  obtain ⟨x,y,e⟩:=h
  rintro rfl
  rw [n] at e;cases e
theorem c6q {G:DV} {a l:Addr} {f o:DO} (n:up G a f l=none):up (up G a f) l o=up (up G l o) a f/\G l=none/\l≠a:=by
  have ne:l≠a:=by rintro rfl;rw [a4q] at n;cases n
  exact ⟨wDq (Ne.symm ne),by rw [a8q ne] at n;exact n,ne⟩
theorem Sub.new {G G1:DV} {p:Addr} {o:DO} (h:Sub G G1) (n:G p=Option.none):Sub G (up G1 p o):=λ b u e=>by
  rw [a8q (by rintro rfl;rw [n] at e;cases e)];exact h b u e
theorem Sub.put {G G1:DV} {a:Addr} {o:DO} (h:Sub G G1):Sub (up G a o) (up G1 a o):=λ b u e=>by
  by_cases c:b=a
  . subst c;rw [a4q] at e ⊢;exact e
  . rw [a8q c] at e ⊢;exact h b u e
def Fx (a:Addr) (G G':DV):Prop:=∃ x y,G'=up G a (fed x y)
theorem Fx.mk {a:Addr} {G:DV} {x y:Int}:Fx a G (up G a (fed x y)):=⟨x,y,rfl⟩
theorem Fx.trans {a:Addr} {G G1 G2:DV} (h:Fx a G G1) (k:Fx a G1 G2):Fx a G G2:=by
  obtain ⟨x,y,rfl⟩:=h
  obtain ⟨z,u,rfl⟩:=k
  exact ⟨z,u,k7q⟩
theorem Fx.fd {a:Addr} {G G':DV} (h:Fx a G G'):Fd G' a:=by obtain ⟨x,y,rfl⟩:=h;exact .up
theorem Fx.other {a l:Addr} {G G':DV} (h:Fx a G G') (n:l≠a):G' l=G l:=by obtain ⟨x,y,rfl⟩:=h;exact a8q n
theorem Fx.drop {a l:Addr} {G G':DV} {o:DO} (n:G l=Option.none) (h:Fx a (up G l o) G') (F:Fd G a):∃ G2,Sub G2 G'/\Fx a G G2:=by
  obtain ⟨x,y,rfl⟩:=h
  exact ⟨up G a (fed x y),Sub.put (Sub.new (Sub.refl _) n),x,y,rfl⟩
def cWq:DSp:=λ ds G Q=>match ds with
  | [.ref a,.int m]=>Fd G a/\0 < m/\m < 2 ^ 62/\∀ d G',Fx a G G'->0<=d->d < m->Q (.int d) G'
  | _=>False
def iSq:DSp:=λ ds G Q=>match ds with
  | [.frl ss,.int k]=>∃ ns:List Int,ss=ns.map D.int/\ns.length<=63/\0<=k/\k < 2 ^ 32/\∀ r x y,G r=none->Q (.ref r) (up G r (fed x y))
  | _=>False
def t2q:DSp:=λ ds _ Q=>∃ ns:List Int,ds=[.frl (ns.map D.int)]/\ns.length<=63/\∀ G',Q (.bl true) G'
abbrev lDq (K:PySem.W.Frag):Sp:=aSq K t2q
theorem aB6q {K:PySem.W.Frag} {H:Hp} {a:Addr} {ns:List Int} (hl:ns.length<=63) (o:Only H) (h:SqL K H a (ns.map V.int)):lDq K [.ref a] H (λ v _=>v=.bl true) λ _ _ _=>False:=by
  have f:FrL K H a (ns.map V.int):=by
    rcases h with (h | h) | h
    . rcases o a with z | ⟨_,_,z⟩<;>(rw [h] at z;cases z)
    . exact .inl h
    . exact .inr h
  refine ⟨[.frl (ns.map D.int)],λ _=>none,λ d _=>d=.bl true,⟨.ref a,[],rfl,⟨a,_,rfl,f,AbsL.of_ints ns⟩,rfl⟩,(λ _ _ e=>by cases e),⟨ns,rfl,hl,λ _=>rfl⟩,λ d G' v H' g ad e=>?_⟩
  subst e
  exact ad
theorem okNo {P:Program} {w:World} {K:PySem.W.Frag} {mg:Str->Option Value} {base:Heap} {f:Addr} {fd:FuncData} {ps:List Str} {k:Nat} {dsp:DSp} (no:∀ ds G DQ,¬ dsp ds G DQ):FnOk P w K mg base CX0 k f fd ps (aSq K dsp):=
  ⟨λ vs H Q E ⟨ds,G,DQ,_,_,h,_⟩=>absurd h (no ds G DQ),λ A outer s H args us vs Q E _ _ _ _ ⟨ds,G,DQ,_,_,h,_⟩=>absurd h (no ds G DQ)⟩
theorem at4 {x y z u:D} {G:DV} {Q:DK} {i:Int} (h0:0<=i) (h1:i < 4) (hx:i=0->Q x G) (hy:i=1->Q y G) (hz:i=2->Q z G) (hu:i=3->Q u G):atS [x,y,z,u] i G Q:=by
  refine gEq ?_
  rcases (by omega:i=0\/i=1\/i=2\/i=3) with rfl | rfl | rfl | rfl
  . exact hx rfl
  . exact hy rfl
  . exact hz rfl
  . exact hu rfl
theorem at5 {x y z u v:D} {G:DV} {Q:DK} {i:Int} (h0:0<=i) (h1:i < 5) (hx:i=0->Q x G) (hy:i=1->Q y G) (hz:i=2->Q z G) (hu:i=3->Q u G) (hv:i=4->Q v G):atS [x,y,z,u,v] i G Q:=by
  refine gEq ?_
  rcases (by omega:i=0\/i=1\/i=2\/i=3\/i=4) with rfl | rfl | rfl | rfl | rfl
  . exact hx rfl
  . exact hy rfl
  . exact hz rfl
  . exact hu rfl
  . exact hv rfl
section
variable {α:Type} {all:α->List (List Int × α)} {inn:α->List α}
theorem cOq {n:Nat} (h:n<=200000):n<=sizeLine:=by rw [sizeLine_eq];omega
theorem cLq {n:Nat} (h:n<=200000):n < sizeLine:=by rw [sizeLine_eq];omega
end
theorem Tm.dp_inn {t u:Tm} (h:u∈t.inn):u.dp+1<=t.dp:=by
  cases t<;>simp [Tm.inn] at h<;>simp only [Tm.dp]<;>first | (subst h;omega) | (rcases h with rfl | rfl<;>omega) | (rcases h with rfl | rfl | rfl<;>omega)
theorem Tm.inn_len (t:Tm):t.inn.length<=3:=by cases t<;>simp [Tm.inn]
def FnAt (K:PySem.W.Frag) (x q:Str) (st:Stmt) (f:Addr) (cd:Value):Prop:=∃ (oc:Value) (od:Option Addr) (kV doc pm:Value) (an:Option Addr) (ct:Value) (osl:Array (Option Value)),
  K.lookup f=some ⟨oc,od,.func (PySem.W.fnOf x q (bNq st) (b0q st) (a6q st) .none kV doc pm an cd ct),osl⟩/\PySem.W.codeIn K cd q=true/\PySem.W.keepIn K (.ref f)=true
def DT (K:PySem.W.Frag) (x:Str) (st:Stmt):Prop:=∃ (f:Addr) (cd:Value),PySem.W.nsIn K mainGlobals x=some (some (.ref f))/\FnAt K x x st f cd
def DM (K:PySem.W.Frag) (C:Addr) (m q:Str) (st:Stmt):Prop:=∃ (f:Addr) (cd:Value),PySem.W.findIn K (.ref C) m=some (some (.ref f))/\PySem.W.isFn K (.ref f)=true/\FnAt K m q st f cd
section
variable {K:PySem.W.Frag} {x m q:Str} {st:Stmt} {C c:Addr}
theorem DT.mk {f:Addr} {cd oc kV doc pm ct:Value} {od an:Option Addr} {osl:Array (Option Value)} (a:PySem.W.nsIn K mainGlobals x=some (some (.ref f))) (l:K.lookup f=some ⟨oc,od,.func (PySem.W.fnOf x x (bNq st) (b0q st) (a6q st) .none kV doc pm an cd ct),osl⟩) (k:PySem.W.codeIn K cd x=true) (p:PySem.W.keepIn K (.ref f)=true):DT K x st:=⟨f,cd,a,_,_,_,_,_,_,_,_,l,k,p⟩
theorem DM.mk {f:Addr} {cd oc kV doc pm ct:Value} {od an:Option Addr} {osl:Array (Option Value)} (a:PySem.W.findIn K (.ref C) m=some (some (.ref f))) (i:PySem.W.isFn K (.ref f)=true) (l:K.lookup f=some ⟨oc,od,.func (PySem.W.fnOf m q (bNq st) (b0q st) (a6q st) .none kV doc pm an cd ct),osl⟩) (k:PySem.W.codeIn K cd q=true) (p:PySem.W.keepIn K (.ref f)=true):DM K C m q st:=⟨f,cd,a,i,_,_,_,_,_,_,_,_,l,k,p⟩
theorem DT.ok (h:DT K x st):∃ (f:Addr) (fd:FuncData),PySem.W.nsIn K mainGlobals x=some (some (.ref f))/\Fun K x x st f fd:=
  let ⟨f,_,a,_,_,_,_,_,_,_,_,l,k,p⟩:=h;⟨f,_,a,kYq l k p⟩
theorem DM.ok (h:DM K C m q st):∃ (f:Addr) (fd:FuncData),Meth K C m f/\Fun K m q st f fd:=
  let ⟨f,_,a,i,_,_,_,_,_,_,_,_,l,k,p⟩:=h;⟨f,_,⟨a,i,p⟩,kYq l k p⟩
end
end L3
namespace L3
open PySem PyProof L2
section
variable {K:PySem.W.Frag} {H:Hp}
def xPq (f:Str) (v:D):List (Str × D)->List (Str × D)
  | []=>[(f,v)]
  | (g,x)::r=>if g=f then (g,v)::r else (g,x)::xPq f v r
theorem AbsF.lookup {f:Str} {d:D}:∀ {fs:List (Str × D)} {gs:List (Str × V)},AbsF K H fs gs->fs.lookup f=some d->∃ v,gs.lookup f=some v/\Abs K H d v
  | [],_,_,e=>by cases e
  | (x,y)::r,[],⟨h,_⟩,_=>by cases h
  | (x,y)::r,(x',y')::s,⟨h1,h2⟩,e=>by
    simp only [List.map_cons,List.cons.injEq] at h1
    obtain ⟨v,us,e1,a1,a2⟩:=h2
    simp only [List.map_cons,List.cons.injEq] at e1
    obtain ⟨rfl,h1⟩:=h1
    obtain ⟨rfl,rfl⟩:=e1
    rw [List.lookup_cons] at e ⊢
    cases c:(f==x) with
    | true=>rw [c] at e;cases e;exact ⟨_,rfl,a1⟩
    | false=>rw [c] at e;exact AbsF.lookup (fs:=r) (gs:=s) ⟨h1,a2⟩ e
theorem AbsF.none {f:Str}:∀ {fs:List (Str × D)} {gs:List (Str × V)},AbsF K H fs gs->fs.lookup f=none->gs.lookup f=none
  | [],[],_,_=>rfl
  | [],_::_,⟨h,_⟩,_=>by cases h
  | (x,y)::r,[],⟨h,_⟩,_=>by cases h
  | (x,y)::r,(x',y')::s,⟨h1,h2⟩,e=>by
    simp only [List.map_cons,List.cons.injEq] at h1
    obtain ⟨v,us,e1,a1,a2⟩:=h2
    simp only [List.map_cons,List.cons.injEq] at e1
    obtain ⟨rfl,h1⟩:=h1
    obtain ⟨rfl,rfl⟩:=e1
    rw [List.lookup_cons] at e ⊢
    cases c:(f==x) with
    | true=>rw [c] at e;cases e
    | false=>rw [c] at e;exact AbsF.none (fs:=r) (gs:=s) ⟨h1,a2⟩ e
theorem AbsF.len {fs:List (Str × D)} {gs:List (Str × V)} (h:AbsF K H fs gs):gs.length=fs.length:=by
  have:=congrArg List.length h.1
  simpa using this.symm
theorem AbsF.put {f:Str} {d:D} {v:V} (hd:Abs K H d v):∀ {fs:List (Str × D)} {gs:List (Str × V)},AbsF K H fs gs->AbsF K H (xPq f d fs) (hJq f v gs)
  | [],[],_=>⟨rfl,v,[],rfl,hd,rfl⟩
  | [],_::_,⟨h,_⟩=>by cases h
  | (x,y)::r,[],⟨h,_⟩=>by cases h
  | (x,y)::r,(x',y')::s,⟨h1,h2⟩=>by
    simp only [List.map_cons,List.cons.injEq] at h1
    obtain ⟨u,us,e1,a1,a2⟩:=h2
    simp only [List.map_cons,List.cons.injEq] at e1
    obtain ⟨rfl,h1⟩:=h1
    obtain ⟨rfl,rfl⟩:=e1
    unfold xPq hJq
    by_cases c:x=f
    . rw [if_pos c,if_pos c]
      exact ⟨by simp [h1],v,_,rfl,hd,a2⟩
    . rw [if_neg c,if_neg c]
      obtain ⟨p1,p2⟩:=AbsF.put (f:=f) hd (fs:=r) (gs:=s) ⟨h1,a2⟩
      exact ⟨by simp [p1],_,_,rfl,a1,p2⟩
end
@[irreducible] def onI (G:DV) (a C:Addr) (k:List (Str × D)->Prop):Prop:=match G a with
  | some (.ins C' fs)=>C'=C/\k fs
  | _=>False
theorem aCq {G:DV} {a C:Addr} {k:List (Str × D)->Prop} {fs:List (Str × D)} (h:G a=some (.ins C fs)) (q:k fs):onI G a C k:=by unfold onI;rw [h];exact ⟨rfl,q⟩
theorem d7q {K:PySem.W.Frag} {G:DV} {H:Hp} {a C:Addr} {k:List (Str × D)->Prop} (v:Vw K G H) (h:onI G a C k):∃ fs dx gs,k fs/\G a=some (.ins C fs)/\H a=some (.ins C dx gs)/\AbsF K H fs gs:=by
  unfold onI at h
  split at h
  . next C' fs e=>
    obtain ⟨rfl,q⟩:=h
    obtain ⟨dx,gs,z,r⟩:=v _ _ e
    exact ⟨fs,dx,gs,q,e,z,r⟩
  . exact h.elim
def wEq (fs:List (Str × D)) (f:Str) (k:D->Prop):Prop:=match fs.lookup f with
  | some d=>k d
  | none=>False
section
variable {K:PySem.W.Frag} {G:DV} {H:Hp}
theorem hEq {p C dx:Addr} {gs:List (Str × V)} {o:HO} (h:H p=some (.ins C dx gs)):Mono K H (upd H p o):=eIq (λ ys=>by rintro (e | ⟨o,e⟩)<;>rw [h] at e<;>cases e) λ _ _ e=>by rw [h] at e;cases e
theorem Go.setI (v:Vw K G H) {p C dx:Addr} {fs0 fs:List (Str × D)} {gs0 gs:List (Str × V)} (h:G p=some (.ins C fs0)) (hp:H p=some (.ins C dx gs0)) (r:AbsF K H fs gs):Go K G H (up G p (.ins C fs)) (upd H p (.ins C dx gs)) where
  tup:=hEq hp
  dom:=λ a u e=>by
    by_cases c:a=p
    . subst c;exact ⟨_,aBq⟩
    . exact ⟨u,by rw [aAq c];exact e⟩
  same:=λ a u e n=>by
    have c:a≠p:=by rintro rfl;rw [h] at n;cases n
    rw [aAq c];exact e
  new:=λ a u e n=>by
    have c:a≠p:=by rintro rfl;rw [h] at n;cases n
    rw [a8q c];exact n
  vw:=λ a u e=>by
    by_cases c:a=p
    . subst c;rw [a4q] at e;cases e
      exact ⟨dx,gs,aBq,r.1,r.2.mono (hEq hp)⟩
    . rw [a8q c] at e
      exact (v a u e).mono (hEq hp) (aAq c)
theorem Go.newI (v:Vw K G H) {x dx C:Addr} (hx:H x=none) (hd:H dx=none) (ne:dx≠x):Go K G H (up G x (.ins C [])) (upd (upd H dx (.own x)) x (.ins C dx [])):=by
  have g1:=Go.newT (o:=.own x) v hd
  have hx1:upd H dx (.own x) x=none:=by rw [aAq (Ne.symm ne)];exact hx
  refine g1.trans ⟨bLq hx1,λ a u e=>⟨u,by rw [aAq (aEq e hx1)];exact e⟩,λ a u e _=>by rw [aAq (aEq e hx1)];exact e,λ a u e n=>by rw [a8q (aEq e hx1)];exact n,λ a u e=>?_⟩
  by_cases c:a=x
  . subst c;rw [a4q] at e;cases e
    exact ⟨dx,[],aBq,rfl,rfl⟩
  . rw [a8q c] at e
    exact (g1.vw a u e).mono (bLq hx1) (aAq c)
end
section
variable {X:Cx} {o e value:Expr} {es:List Expr} {f m:Str} {C:Addr} {pos pos' tpos apos p:Pos} {ta tv:DTE} {t:DTA}
abbrev dFld (C:Addr) (f:Str) (ta:DTE):DTE:=λ ρ G Q=>ta ρ G λ x G1=>match x with
  | .ref a=>onI G1 a C λ fs=>wEq fs f λ d=>Q d G1
  | _=>False
theorem bEq (c:Cls X.K C) (n:NoAttr X.K C f) (ha:AE X e ta) (hb:attributeBase e f X.env (eval e X.env)=eval e X.env:=by rfl):AE X (.Attribute e f pos) (dFld C f ta):=by
  obtain ⟨ca,ja,ra⟩:=ha.run
  refine ⟨_,⟨xAq ja.run hb⟩,λ ρ G DQ σ H Q B q F=>ra ρ G _ σ H _ B q λ x G1 v H1 g1 ax q1=>?_⟩
  cases x with
  | ref a=>
    cases ax
    obtain ⟨fs,dx,gs,q2,e1,e2,r⟩:=d7q g1.vw q1
    unfold wEq at q2
    split at q2
    . next d hl=>
      obtain ⟨u,h1,h2⟩:=r.lookup hl
      exact ⟨a,C,dx,gs,u,rfl,e2,c,n,h1,F d G1 u H1 g1 h2 q2⟩
    . exact q2.elim
  | _=>exact (show False from q1).elim
abbrev aH8q (C:Addr) (f:Str) (tv ta:DTE):DTS:=λ DD ρ G=>tv ρ G λ y G1=>ta ρ G1 λ x G2=>match x with
  | .ref a=>onI G2 a C λ fs=>fs.length < 1000/\DD.nx ρ (up G2 a (.ins C (xPq f y fs)))
  | _=>False
theorem bWq (c:Cls X.K C) (n:NoAttr X.K C f) (ha:AE X o ta) (hv:AE X value tv) (hs:swapsWith value (some (.Attribute o f pos')) pos.line X.env=pure false:=by rfl):AS X (.Assign [.Attribute o f pos'] value pos) (aH8q C f tv ta):=by
  obtain ⟨ca,ja,ra⟩:=ha.run
  obtain ⟨cv,jv,rv⟩:=hv.run
  refine ⟨_,⟨xMq ja.run jv.run hs⟩,λ DD Dc ρ G σ H B q F=>?_⟩
  refine rv ρ G _ σ H _ B q λ y G1 v H1 g1 ay q1=>ra ρ G1 _ σ H1 _ (B.go g1) q1 λ x G2 u H2 g2 ax q2=>?_
  cases x with
  | ref a=>
    cases ax
    obtain ⟨fs,dx,gs,⟨hl,q3⟩,e1,e2,r⟩:=d7q g2.vw q2
    have g3:=Go.setI g2.vw e1 e2 (r.put (f:=f) (ay.mono g2.tup))
    exact ⟨a,C,dx,gs,rfl,e2,c,n,by rw [r.len];exact hl,F.nx _ _ _ _ ((g1.trans g2).trans g3) (((B.go g1).go g2).go g3) q3⟩
  | _=>exact (show False from q2).elim
structure MGot (P:Program) (w:World) (K:PySem.W.Frag) (mg:Str->Option Value) (base:Heap) (k:Nat) (C:Addr) (m:Str) (ps:List Str) (sp:Sp):Prop where
  ex:∃ (f:Addr) (fd:FuncData),FnOk P w K mg base CX0 k f fd ps sp/\Meth K C m f/\Binds K fd ps []
abbrev aM1q (C:Addr) (m:Str) (dsp:DSp) (ta:DTE) (t:DTA):DTE:=λ ρ G Q=>ta ρ G λ x G1=>match x with
  | .ref a=>onI G1 a C (λ fs=>fs.lookup m=none)/\t ρ G1 λ ds G2=>dsp (.ref a::ds) G2 Q
  | _=>False
theorem cCq {k j:Nat} {ps:List Str} {dsp:DSp} {pl:Sem Bool} (c:Cls X.K C) (Gt:MGot X.prog X.w X.K X.mg X.base k C m ps (aSq X.K dsp)) (hr:Room j X.A) (hk:k<=j) (ho:AE X o ta) (ha:AA X (e::es) t) (hs:(e::es).all b6q=true:=by rfl)
    (ht:eval (.Call (.Attribute o m apos) (e::es) [] pos) X.env=(do
      let ov ← eval o X.env
      standAt apos.atName
      let (f,first) ← holding [ov] (getMethod ov m pl)
      callWith pos f first (backTo pos (starEach (e::es) X.env)) (backToKw pos (keywordEach [] X.env))):=by rfl):AE X (.Call (.Attribute o m apos) (e::es) [] pos) (aM1q C m dsp ta t):=by
  obtain ⟨co,jo,ro⟩:=ho.run
  obtain ⟨ca,ja,ra⟩:=ha.run
  obtain ⟨f,fd,Fk,hm,hb⟩:=Gt.ex
  have h:=hs
  rw [List.all_cons,Bool.and_eq_true] at h
  refine ⟨_,⟨vZq (pl:=pl) (dvs:=[]) jo.run c hm Fk (hr.mono hk) hb .nil wNq ja.run (aLq h.1) (bUq h.2) ht⟩,λ ρ G DQ σ H Q B q F=>ro ρ G _ σ H _ B q λ x G1 v H1 g1 ax q1=>?_⟩
  cases x with
  | ref a=>
    cases ax
    obtain ⟨q1,q2⟩:=q1
    obtain ⟨fs,dx,gs,hl,e1,e2,r⟩:=d7q g1.vw q1
    exact ⟨a,dx,gs,rfl,e2,r.none hl,ra ρ G1 _ σ H1 _ (B.go g1) q2 λ ds G2 vs H2 g2 al _ q3=>⟨.ref a::ds,G2,DQ,⟨_,_,rfl,rfl,by rw [List.append_nil];exact al⟩,g2.vw,q3,F.after (g1.trans g2)⟩⟩
  | _=>exact (show False from q1).elim
structure MkGot (P:Program) (w:World) (K:PySem.W.Frag) (mg:Str->Option Value) (base:Heap) (k:Nat) (C:Addr) (x:Str) (ps:List Str) (sp:Sp):Prop where
  ex:∃ (f:Addr) (fd:FuncData),FnOk P w K mg base CX0 k f fd ps sp/\Mk K C f/\mg x=some (.ref C)/\Binds K fd ps []
end
end L3
namespace L3
open PySem PyProof L2
section
variable {K:PySem.W.Frag} {H:Hp} {G:DV}
def kD:Key->D
  | .inl i=>.int i
  | .inr x=>.str x
theorem l5q {k:Key} {v:V} (h:Abs K H (kD k) v):v=kV k:=by cases k<;>exact h
def d4q (kvs:List (Key × D)) (k:Key):Option D:=(kvs.find? λ kv=>decide (kv.1=k)).map (·.2)
def putKD (kvs:List (Key × D)) (k:Key) (v:D):List (Key × D):=
  if (kvs.any λ kv=>decide (kv.1=k))=true then kvs.map (λ kv=>if kv.1=k then (kv.1,v) else kv) else kvs++[(k,v)]
theorem AbsF.cons_inv {κ:Type} {x:κ} {y:D} {r:List (κ × D)} {gs:List (κ × V)} (h:AbsF K H ((x,y)::r) gs):∃ v s,gs=(x,v)::s/\Abs K H y v/\AbsF K H r s:=by
  obtain ⟨h1,h2⟩:=h
  cases gs with
  | nil=>cases h1
  | cons g s=>
    obtain ⟨g1,g2⟩:=g
    simp only [List.map_cons,List.cons.injEq] at h1
    obtain ⟨v,us,e1,a1,a2⟩:=h2
    simp only [List.map_cons,List.cons.injEq] at e1
    obtain ⟨rfl,h1⟩:=h1
    obtain ⟨rfl,rfl⟩:=e1
    exact ⟨g2,s,rfl,a1,h1,a2⟩
theorem AbsF.nil_inv {κ:Type} {gs:List (κ × V)} (h:AbsF K H ([]:List (κ × D)) gs):gs=[]:=by
  cases gs with
  | nil=>rfl
  | cons g s=>cases h.1
theorem AbsF.consI {κ:Type} {x:κ} {y:D} {v:V} {r:List (κ × D)} {s:List (κ × V)} (h:Abs K H y v) (hr:AbsF K H r s):AbsF K H ((x,y)::r) ((x,v)::s):=⟨by simp [hr.1],v,_,rfl,h,hr.2⟩
theorem AbsF.append {κ:Type}:∀ {fs es:List (κ × D)} {gs hs:List (κ × V)},AbsF K H fs gs->AbsF K H es hs->AbsF K H (fs++es) (gs++hs)
  | [],_,_,_,r,s=>by rw [r.nil_inv];exact s
  | (x,y)::r,_,_,_,h,s=>by
    obtain ⟨v,t,rfl,a,hr⟩:=h.cons_inv
    exact AbsF.consI a (hr.append s)
theorem AbsF.val {k:Key}:∀ {fs:List (Key × D)} {gs:List (Key × V)},AbsF K H fs gs->(∀ d,d4q fs k=some d->∃ v,cSq gs k=some v/\Abs K H d v)/\(d4q fs k=Option.none->cSq gs k=Option.none)
  | [],_,h=>by rw [h.nil_inv];exact ⟨λ d e=>(by cases e),λ _=>rfl⟩
  | (x,y)::r,_,h=>by
    obtain ⟨v,t,rfl,a,hr⟩:=h.cons_inv
    obtain ⟨i1,i2⟩:=AbsF.val (k:=k) hr
    by_cases c:x=k
    . have e1:d4q ((x,y)::r) k=some y:=by simp [d4q,List.find?_cons,c]
      have e2:cSq ((x,v)::t) k=some v:=b8q c
      rw [e1,e2]
      exact ⟨λ d e=>⟨v,rfl,by cases e;exact a⟩,λ e=>by cases e⟩
    . have e1:d4q ((x,y)::r) k=d4q r k:=by simp [d4q,List.find?_cons,c]
      have e2:cSq ((x,v)::t) k=cSq t k:=b9q c
      rw [e1,e2]
      exact ⟨i1,i2⟩
theorem AbsF.anyK {k:Key}:∀ {fs:List (Key × D)} {gs:List (Key × V)},AbsF K H fs gs->(fs.any λ kv=>decide (kv.1=k))=gs.any λ kv=>decide (kv.1=k)
  | [],_,h=>by rw [h.nil_inv];rfl
  | (x,y)::r,_,h=>by
    obtain ⟨v,t,rfl,a,hr⟩:=h.cons_inv
    rw [List.any_cons,List.any_cons,AbsF.anyK hr]
theorem AbsF.mapK {k:Key} {d:D} {u:V} (hd:Abs K H d u):∀ {fs:List (Key × D)} {gs:List (Key × V)},AbsF K H fs gs->AbsF K H (fs.map λ kv=>if kv.1=k then (kv.1,d) else kv) (gs.map λ kv=>if kv.1=k then (kv.1,u) else kv)
  | [],_,h=>by rw [h.nil_inv];exact ⟨rfl,rfl⟩
  | (x,y)::r,_,h=>by
    obtain ⟨v,t,rfl,a,hr⟩:=h.cons_inv
    rw [List.map_cons,List.map_cons]
    by_cases c:x=k
    . simp only [c,if_true];exact AbsF.consI hd (AbsF.mapK hd hr)
    . simp only [if_neg c];exact AbsF.consI a (AbsF.mapK hd hr)
theorem AbsF.putKD {k:Key} {d:D} {u:V} (hd:Abs K H d u) {fs:List (Key × D)} {gs:List (Key × V)} (h:AbsF K H fs gs):AbsF K H (L3.putKD fs k d) (hCq gs k u):=by
  unfold L3.putKD hCq
  rw [h.anyK]
  split
  . exact AbsF.mapK hd h
  . exact h.append (AbsF.consI hd ⟨rfl,rfl⟩)
theorem sTq (kvs:List (Key × D)) (k j:Key) (y:D):d4q (putKD kvs k y) j=if j=k then some y else d4q kvs j:=by
  have key:∀ l:List (Key × D),d4q (l.map λ kv=>if kv.1=k then (kv.1,y) else kv) j=(d4q l j).map λ x=>if j=k then y else x:=λ l=>by
    induction l with
    | nil=>rfl
    | cons p r ih=>
      obtain ⟨p1,p2⟩:=p
      simp only [d4q,List.map_cons,List.find?_cons] at ih ⊢
      by_cases c:p1=k
      . subst c
        by_cases d:p1=j
        . subst d;simp
        . simp only [if_true,d,decide_false];exact ih
      . by_cases d:p1=j
        . subst d;simp [c]
        . simp only [if_neg c,d,decide_false];exact ih
  unfold putKD
  by_cases c:(kvs.any λ kv=>decide (kv.1=k))=true
  . rw [if_pos c,key]
    by_cases d:j=k
    . subst d
      have:(d4q kvs j).isSome=true:=by
        unfold d4q
        rw [Option.isSome_map,List.find?_isSome]
        obtain ⟨x,hx,e⟩:=List.any_eq_true.mp c
        exact ⟨x,hx,e⟩
      obtain ⟨z,e⟩:=Option.isSome_iff_exists.mp this
      rw [e];simp
    . simp [d]
  . rw [if_neg c]
    have no:∀ x∈kvs,x.1≠k:=λ x hx e=>c (List.any_eq_true.mpr ⟨x,hx,by simpa using e⟩)
    unfold d4q
    rw [List.find?_append]
    by_cases d:j=k
    . subst d
      have:kvs.find? (λ kv=>decide (kv.1=j))=none:=List.find?_eq_none.mpr λ x hx=>by simpa using no x hx
      rw [this];simp
    . rw [if_neg d]
      have e:([(k,y)]:List (Key × D)).find? (λ kv=>decide (kv.1=j))=none:=by simp [Ne.symm d]
      rw [e];simp
theorem oYq (kvs:List (Key × D)) (k:Key) (v:D):(putKD kvs k v).length<=kvs.length+1:=by
  unfold putKD;split<;>simp
@[irreducible] def onD (G:DV) (a:Addr) (k:List (Key × D)->Prop):Prop:=match G a with
  | some (.dK kvs)=>k kvs
  | _=>False
theorem e9q {a:Addr} {k:List (Key × D)->Prop} {kvs:List (Key × D)} (h:G a=some (.dK kvs)) (q:k kvs):onD G a k:=by unfold onD;rw [h];exact q
theorem dRq {a:Addr} {k:List (Key × D)->Prop} (v:Vw K G H) (h:onD G a k):∃ kvs gs,k kvs/\G a=some (.dK kvs)/\H a=some (.dK gs)/\AbsF K H kvs gs:=by
  unfold onD at h
  split at h
  . next kvs e=>obtain ⟨gs,z,r⟩:=v _ _ e;exact ⟨kvs,gs,h,e,z,r⟩
  . exact h.elim
theorem jSq {p:Addr} {gs:List (Key × V)} {o:HO} (h:H p=some (.dK gs)):Mono K H (upd H p o):=eIq (λ ys=>by rintro (e | ⟨o,e⟩)<;>rw [h] at e<;>cases e) λ _ _ e=>by rw [h] at e;cases e
theorem Go.newD (v:Vw K G H) {p:Addr} {kvs:List (Key × D)} {gs:List (Key × V)} (h:H p=none) (r:AbsF K H kvs gs):Go K G H (up G p (.dK kvs)) (upd H p (.dK gs)) where
  tup:=bLq h
  dom:=λ a u e=>⟨u,by rw [aAq (aEq e h)];exact e⟩
  same:=λ a u e _=>by rw [aAq (aEq e h)];exact e
  new:=λ a u e n=>by rw [a8q (aEq e h)];exact n
  vw:=λ a u e=>by
    by_cases c:a=p
    . subst c;rw [a4q] at e;cases e
      exact ⟨gs,aBq,r.1,r.2.mono (bLq h)⟩
    . rw [a8q c] at e
      exact (v a u e).mono (bLq h) (aAq c)
theorem Go.setD (v:Vw K G H) {p:Addr} {kvs0 kvs:List (Key × D)} {gs:List (Key × V)} (h:G p=some (.dK kvs0)) (r:AbsF K H kvs gs):Go K G H (up G p (.dK kvs)) (upd H p (.dK gs)):=by
  obtain ⟨us,hp,_⟩:=v p _ h
  exact {
    tup:=jSq hp
    dom:=λ a u e=>by
      by_cases c:a=p
      . subst c;exact ⟨_,aBq⟩
      . exact ⟨u,by rw [aAq c];exact e⟩
    same:=λ a u e n=>by
      have c:a≠p:=by rintro rfl;rw [h] at n;cases n
      rw [aAq c];exact e
    new:=λ a u e n=>by
      have c:a≠p:=by rintro rfl;rw [h] at n;cases n
      rw [a8q c];exact n
    vw:=λ a u e=>by
      by_cases c:a=p
      . subst c;rw [a4q] at e;cases e
        exact ⟨gs,aBq,r.1,r.2.mono (jSq hp)⟩
      . rw [a8q c] at e
        exact (v a u e).mono (jSq hp) (aAq c) }
def fPq:D->Option Key
  | .int i=>some (.inl i)
  | .str x=>some (.inr x)
  | _=>none
theorem dMq {d:D} {k:Key} (h:fPq d=some k):d=kD k:=by cases d<;>simp [fPq] at h<;>subst h<;>rfl
end
section
variable {X:Cx} {o i e value:Expr} {pos pos' tpos:Pos} {td ti tv:DTE}
abbrev aH5q (td ti:DTE):DTE:=λ ρ G Q=>td ρ G λ x G1=>ti ρ G1 λ y G2=>match x with
  | .ref a=>onD G2 a λ kvs=>∃ k d,fPq y=some k/\d4q kvs k=some d/\Q d G2
  | _=>False
theorem l7q (hu:X.A.units+200 < cLine) (ho:AE X o td) (hi:AE X i ti) (hs:zQq i):AE X (.Subscript o i pos) (aH5q td ti):=by
  obtain ⟨co,jo,ro⟩:=ho.run
  obtain ⟨ci,ji,ri⟩:=hi.run
  refine ⟨_,⟨uTq (by omega) jo.run ji.run hs⟩,λ ρ G DQ σ H Q B q F=>ro ρ G _ σ H _ B q λ x G1 v H1 g1 ax q1=>ri ρ G1 _ σ H1 _ (B.go g1) q1 λ y G2 u H2 g2 ay q2=>?_⟩
  cases x with
  | ref a=>
    cases ax
    obtain ⟨kvs,gs,⟨k,d,ek,ed,q3⟩,e1,e2,r⟩:=dRq g2.vw q2
    obtain ⟨w,hw,aw⟩:=(r.val (k:=k)).1 d ed
    rw [dMq ek] at ay
    have:=l5q ay
    subst this
    exact ⟨a,w,rfl,by rw [<- hw];exact DGet.k e2,F d G2 w H2 (g1.trans g2) aw q3⟩
  | _=>exact (show False from q2).elim
end
end L3
namespace L2
open PySem PySem.Spec PyProof.Rows
section
variable {X:Cx}
theorem aF2q {x:Str} {ad:Addr} {tab:Str->Option V} {e f:Expr} {ty tx:TE} {p apos cpos:Pos} (hg:Gl X x) (hm:X.mg x=some (.ref ad)) (T:KTab X.K X.w ad tab) (he:PE X e ty) (hf:PE X f tx) (m:M2 X (.Name x p) "get" apos e f cpos) (hd:(x==("__debug__" : Str))=false:=by decide) :
    PE X (.Call (.Attribute (.Name x p) "get" apos) [e,f] [] cpos) (λ σ H Q=>ty σ H λ y H1=>tx σ H1 λ d H2=>∃ z,y=.str z/\Q ((tab z).getD d) H2):=by
  intro pins s σ H Q I h
  obtain ⟨⟨es,n,hl,hk,ht⟩,lo⟩:=T
  refine wpAny_Call_method m.base m.few m.line PySem.F.plainAttrs_dict PySem.F.slot_dict_get PySem.F.type_dict_get (thn (jHq (v:=.ref ad) hg hm rfl hd pins s σ H (λ v H1=>v=.ref ad/\H1=H) I ⟨rfl,rfl⟩) λ u s1 ⟨x1,H1,I1,rx,ex,eH⟩=>?_)
  subst ex eH
  obtain rfl:u=Value.ref ad:=rx
  have mp:∀ {s':Shared},X.K.In s'.heap->s'.heap.MapOf (strKind X.prog X.w) ad (λ k=>findBy Value.isStrOf es k):=λ k=>PySem.W.mapOf_K k hl hk
  refine ⟨(mp I1.kIn).typeIs,(mp I1.kIn).noDict,?_⟩
  rw [m.trees]
  refine Calls.callWith_builtin rfl (Calls.evalArgs_plain (Calls.spliced_cons (thn (he pins s1 σ H1 _ I1 h) λ iv s2 ⟨y,H2,I2,ry,q2⟩=>Calls.spliced_cons (thn (hf pins s2 σ H2 _ I2 q2) λ fv s3 ⟨d,H3,I3,rd,z,ey,q3⟩=>Calls.spliced_nil ?_))))
  subst ey
  obtain ⟨t,rfl⟩:=ry
  refine call_meetsIn PySem.F.slot_dict_get (mp I3.kIn).typeIs PySem.F.entry_dict_get (PySem.F.args_dict_get_3 _ _ _) (meets_dict_get_default (strKind X.prog X.w) ad (strKind_is X.prog X.w z t) lo fv) ⟨_,mp I3.kIn,(tab z).getD d,H3,I3.tok _,?_,q3⟩
  exact (ht z).getD rd
theorem xTq {x:Str} {ad:Addr} {tab:Str->Option V} {e:Expr} {ty:TE} {p pos:Pos} (hg:Gl X x) (hm:X.mg x=some (.ref ad)) (T:KTab X.K X.w ad tab) (he:PE X e ty) (hs:zQq e) (hd:(x==("__debug__" : Str))=false:=by decide) :
    PE X (.Subscript (.Name x p) e pos) (λ σ H Q=>ty σ H λ y H1=>∃ z v,y=.str z/\tab z=some v/\Q v H1):=by
  intro pins s σ H Q I h
  obtain ⟨⟨es,n,hl,hk,ht⟩,lo⟩:=T
  have mp:∀ {s':Shared},X.K.In s'.heap->s'.heap.MapOf (strKind X.prog X.w) ad (λ k=>findBy Value.isStrOf es k):=λ k=>PySem.W.mapOf_K k hl hk
  refine nVq PySem.F.slot_dict_getitem.lookup hs (thn (jHq (v:=.ref ad) hg hm rfl hd pins s σ H (λ v H1=>v=.ref ad/\H1=H) I ⟨rfl,rfl⟩) λ u s1 ⟨x1,H1,I1,rx,ex,eH⟩=>thn (he pins s1 σ H _ (eH ▸ I1) h) λ iv s2 ⟨y,H2,I2,ry,z,v,ey,ev,q2⟩=>?_)
  subst ex
  obtain rfl:u=Value.ref ad:=rx
  subst ey
  obtain ⟨t,rfl⟩:=ry
  obtain ⟨w',hw,rw'⟩:=RelO.some_of (v:=v) (o:=findBy Value.isStrOf es z) (by rw [<- ev];exact ht z)
  exact ⟨(mp I2.kIn).typeIs,wpAny_getItem_of (strKind_is X.prog X.w z t) (mp I2.kIn) hw ⟨v,H2,I2.tok _,rw',q2⟩⟩
end
end L2
namespace L3
open PySem PySem.Spec L2
structure KTabD (K:PySem.W.Frag) (w:World) (ad:Addr) (tab:Str->Option D):Prop where
  ex:∃ tv:Str->Option V,KTab K w ad tv/\(∀ z,tab z=none->tv z=none)/\∀ z d,tab z=some d->∃ v,tv z=some v/\∀ H,Abs K H d v
section
variable {X:Cx} {a b c e f o i tg iter value:Expr} {x:Str} {ad C:Addr} {tab:Str->Option D} {ta tv te tf to ti:DTE} {pos pos' tpos p apos cpos:Pos}
abbrev aQ2q (tab:Str->Option D) (te tf:DTE):DTE:=λ ρ G Q=>te ρ G λ y G1=>tf ρ G1 λ d G2=>match y with
  | .str z=>Q ((tab z).getD d) G2
  | _=>False
abbrev dKIx (tab:Str->Option D) (te:DTE):DTE:=λ ρ G Q=>te ρ G λ y G1=>match y with
  | .str z=>∃ d,tab z=some d/\Q d G1
  | _=>False
theorem yBq (hg:Gl X x) (hm:X.mg x=some (.ref ad)) (T:KTabD X.K X.w ad tab) (he:AE X e te) (hs:zQq e) (hd:(x==("__debug__" : Str))=false:=by decide):AE X (.Subscript (.Name x p) e pos) (dKIx tab te):=by
  obtain ⟨tv,T,t1,t2⟩:=T
  obtain ⟨ce,je,re⟩:=he.run
  refine ⟨_,⟨xTq hg hm T je.run hs hd⟩,λ ρ G DQ σ H Q B q F=>re ρ G _ σ H _ B q λ y G1 v H1 g1 ay q1=>?_⟩
  cases y with
  | str z=>
    cases ay
    obtain ⟨d,ed,q2⟩:=q1
    obtain ⟨v',e1,e2⟩:=t2 z d ed
    exact ⟨z,v',rfl,e1,F d G1 v' H1 g1 (e2 _) q2⟩
  | _=>exact (show False from q1).elim
abbrev l0q (C:Addr) (f:Str) (ta te:DTE) (g:Int->Int->Int):DTS:=λ DD ρ G=>ta ρ G λ x G1=>match x with
  | .ref a=>onI G1 a C λ fs=>wEq fs f λ d=>te ρ G1 λ y G2=>match d,y with
    | .int i,.int j=>onI G2 a C λ fs'=>fs'.length < 1000/\DD.nx ρ (up G2 a (.ins C (xPq f (.int (g i j)) fs')))
    | _,_=>False
  | _=>False
theorem oIq {f:Str} (c:Cls X.K C) (n:NoAttr X.K C f) (ha:AE X o ta) (he:AE X value te):AS X (.AugAssign (.Attribute o f tpos) .Add value pos) (l0q C f ta te (·+·)):=by
  obtain ⟨ca,ja,ra⟩:=ha.run
  obtain ⟨ce,je,re⟩:=he.run
  refine ⟨_,⟨iTq ja.run je.run z3q⟩,λ DD Dc ρ G σ H B q F=>ra ρ G _ σ H _ B q λ x G1 v H1 g1 ax q1=>?_⟩
  cases x with
  | ref a=>
    cases ax
    obtain ⟨fs,dx,gs,q2,e1,e2,r⟩:=d7q g1.vw q1
    unfold wEq at q2
    split at q2
    . next d hl=>
      obtain ⟨u,h1,h2⟩:=r.lookup hl
      refine ⟨a,C,dx,gs,u,rfl,e2,c,n,h1,re ρ G1 _ σ H1 _ (B.go g1) q2 λ y G2 u2 H2 g2 ay q3=>?_⟩
      split at q3
      . next i j=>
        cases h2;cases ay
        obtain ⟨fs',dx',gs',⟨hl',q4⟩,e1',e2',r'⟩:=d7q g2.vw q3
        have g3:=Go.setI g2.vw e1' e2' (r'.put (f:=f) (d:=.int (i+j)) (v:=.int (i+j)) rfl)
        exact ⟨i,j,rfl,rfl,dx',gs',e2',by rw [r'.len];exact hl',F.nx _ _ _ _ ((g1.trans g2).trans g3) (((B.go g1).go g2).go g3) q4⟩
      . exact q3.elim
    . exact q2.elim
  | _=>exact (show False from q1).elim
end
end L3
namespace L2
open PySem PySem.Spec PyProof.Rows
section
variable {X:Cx} {e st:Expr} {te:TE} {tk:TO} {pos p2:Pos}
theorem e0q:∀ {xs:List V} {us:List Value},Vals xs us->Vals xs.reverse us.reverse
  | _,_,.nil=>.nil
  | _,_,.cons r t=>by
    rw [List.reverse_cons,List.reverse_cons]
    exact (e0q t).append (.cons r .nil)
end
section
variable {X:Cx}
def repS (i:Str) (n:Nat):Str:=⟨(List.replicate n i.cps.toList).flatten.toArray⟩
def rSlS:V->Option Int->Option Int->Hp->VK->Prop:=λ x lo hi H Q=>∃ z:Str,x=.str z/\z.length<=sizeLine/\Q (.str (Txt.slice z lo hi)) H
theorem aE2q:SlR X rSlS:=by
  intro pins s σ H x v vl vu lo hi sl Q I rx hs pl pu h
  obtain ⟨z,rfl,hz,q⟩:=h
  obtain ⟨t,rfl⟩:=rx
  refine ⟨"str", _,F.slot_str_getitem.lookup,typeIs_str _ _ _,?_⟩
  have fin:∀ t' k,EP X pins σ Q (.str (Txt.slice z lo hi) t') { s with toks:=k }:=λ t' k=>⟨.str _,H,I.tok _,⟨_,rfl⟩,q⟩
  cases pl with
  | none=>cases pu with
    | none=>exact wpAny_getItem_str_slice (l:=none) (u:=none) (st:=none) hs rfl (post_val_or_str ⟨Nat.le_trans (Txt.slice_le z _ _) hz,fin⟩)
    | int j u=>exact wpAny_getItem_str_slice (l:=none) (u:=some (j,u)) (st:=none) hs rfl (post_val_or_str ⟨Nat.le_trans (Txt.slice_le z _ _) hz,fin⟩)
  | int i t0=>cases pu with
    | none=>exact wpAny_getItem_str_slice (l:=some (i,t0)) (u:=none) (st:=none) hs rfl (post_val_or_str ⟨Nat.le_trans (Txt.slice_le z _ _) hz,fin⟩)
    | int j u=>exact wpAny_getItem_str_slice (l:=some (i,t0)) (u:=some (j,u)) (st:=none) hs rfl (post_val_or_str ⟨Nat.le_trans (Txt.slice_le z _ _) hz,fin⟩)
end
end L2
namespace L3
open PySem PySem.Spec L2
section
variable {X:Cx}
def aS4q:DR2:=λ x y G Q=>match x,y with
  | .str z,.int n=>0<=n/\n<=1000/\z.length<=1000/\Q (.str (repS z n.toNat)) G
  | _,_=>False
def slSD:D->Option Int->Option Int->DV->DK->Prop:=λ x lo hi G Q=>match x with
  | .str z=>z.length<=sizeLine/\Q (.str (Txt.slice z lo hi)) G
  | _=>False
theorem aslS:ASl X slSD:=by
  refine ⟨_,⟨aE2q⟩,λ x vx lo hi G H DQ Q v ax r F=>?_⟩
  cases x with
  | str z=>cases ax;exact ⟨z,rfl,r.1,F (.str (Txt.slice z lo hi)) G _ H (.refl v) rfl r.2⟩
  | _=>exact (show False from r).elim
def qCq:D->DV->Prop:=λ x _=>match x with
  | .str _=>True
  | _=>False
theorem h9q {K:PySem.W.Frag} {x:D} {v:V} {G:DV} {H:Hp} (ax:Abs K H x v) (h:qCq x G):tyV K "str" v H:=by
  cases x with
  | str z=>cases ax;exact rfl
  | _=>exact (show False from h).elim
end
end L3
namespace L2
open PySem PySem.Spec PyProof.Rows
section
variable {X:Cx} {tg:Expr}
theorem h6q:MtR X "str.startswith" (λ x xs H Q=>∃ z y:Str,x=.str z/\xs=[.str y]/\Q (.bl (Txt.startswith z y)) H):=by
  intro pins s σ H x xs v us Q I rx rv h
  obtain ⟨z,y,rfl,rfl,q⟩:=h
  obtain ⟨t,rfl⟩:=rx
  obtain ⟨u,rfl,ru⟩:=rv.one
  obtain ⟨t',rfl⟩:=ru
  exact PySem.SC.startswith ⟨.bl _,H,I,rfl,q⟩
theorem j8q:∀ {ys:List Str} {us:List Value},Vals (ys.map V.str) us->StrsAre us ys
  | [],_,h=>by cases h;exact .nil
  | y::ys,_,h=>by
    cases h with
    | cons r rr=>
      obtain ⟨t,rfl⟩:=r
      exact .cons _ _ (j8q rr)
theorem u3q (K:PySem.W.Frag) (hK:K=X.K):MtR X "str.join" (λ x xs H Q=>∃ (z:Str) (l:Addr) (ys:List Str),x=.str z/\xs=[.ref l]/\SqL K H l (ys.map V.str)/\z.length<=16/\(ys.map (·.length)).sum+ys.length<=1048576/\Q (.str (Txt.join z ys)) H):=by
  subst hK
  intro pins s σ H x xs v us Q I rx rv h
  obtain ⟨z,l,ys,rfl,rfl,hl,hz,hw,q⟩:=h
  obtain ⟨t,rfl⟩:=rx
  obtain ⟨u,rfl,ru⟩:=rv.one
  cases ru
  obtain ⟨its,r,p,_⟩:=I.list hl
  exact PyProof.Rows.join_listW p.isList (by simpa using j8q r) hz hw λ t' k=>⟨.str _,H,I.tok _,⟨_,rfl⟩,q⟩
def Its (z:Str):It:=⟨λ i _=>i < z.length,λ i H x H'=>H'=H/\∃ c,z.cps[i]?=some c/\x=.str ⟨#[c]⟩,λ i _=>z.length<=i⟩
theorem qJq {P:Program} {w:World} {K:PySem.W.Frag} {tg:Expr} (it:Addr) (z:Str) (t:Tok) (ty:String) (hty:ty = "str_ascii_iterator"\/ty = "str_iterator"):Turn P w K tg (Its z) [it] it (λ i h=>i<=z.length/\h.IsStrIter it ty z t i) where
  mem:=by simp
  obj:=λ i h st b hb=>by
    have e:b=it:=by simpa using hb
    subst e
    obtain ⟨_,o,e,c,d⟩:=st
    exact ⟨o,e,λ v z=>by rw [d] at z;cases z⟩
  keep:=λ i h h' st k=>⟨st.1,let ⟨o,ho,r⟩:=st.2;⟨o,k it (by simp) o ho,r⟩⟩
  item:=by
    intro X hP hw hK hc i pins s σ H E I hf st hg
    subst hP hw hK
    obtain ⟨f0,f1,f2,f3,f4,f5⟩:=hf it (by simp)
    have W:Walks X.prog X.w X.A it [it] [it] z.cps.size (SignAt z) (λ i h=>h.IsStrIter it ty z t i):=by
      rcases hty with rfl | rfl
      . exact Walks.strAscii (I.ok.hd hc) it z t
      . exact Walks.strWide (I.ok.hd hc) it z t
    refine W.item i s _ _ hg st.2 λ v h' tk hv st' kk=>?_
    obtain ⟨c,u,hc',rfl⟩:=hv
    have I1:Inv X pins σ H { s with heap:=h',toks:=tk }:=I.turned (λ b o hb e=>kk b o (by simpa using hb) e) f0 f1 f3 f4 f5
    obtain ⟨o,e,c1,d⟩:=id st'
    refine ⟨_,rfl,rKq (s:={ s with heap:=h',toks:=tk }) e c1 d (by rcases hty with rfl | rfl<;>decide) ⟨.str ⟨#[c]⟩,H,I1,⟨u,rfl⟩,⟨rfl,c,hc',rfl⟩,⟨hg,st'⟩,λ b hb=>(hf b hb).1⟩⟩
  done:=by
    intro X hP hw hK hc i pins s σ H E I hf st hg
    subst hP hw hK
    obtain ⟨f0,f1,f2,f3,f4,f5⟩:=hf it (by simp)
    have W:Walks X.prog X.w X.A it [it] [it] z.cps.size (SignAt z) (λ i h=>h.IsStrIter it ty z t i):=by
      rcases hty with rfl | rfl
      . exact Walks.strAscii (I.ok.hd hc) it z t
      . exact Walks.strWide (I.ok.hd hc) it z t
    have hi:i=z.cps.size:=Nat.le_antisymm st.1 hg
    subst hi
    exact W.done s _ _ st.2 λ h' tk kk=>⟨rfl,I.turned (λ b o hb e=>kk b o (by simpa using hb) e) f0 f1 f3 f4 f5⟩
  self:=λ _ _ _ _ _ st h=>by
    rcases hty with rfl | rfl
    . exact wpAny_pyIter_striter_ascii st.2 h
    . exact wpAny_pyIter_striter_wide st.2 h
theorem aD7q {l:Expr} {tl:TE} (hl:PE X l tl):PI X tg l (λ σ H R=>tl σ H λ x H1=>∃ z,x=.str z/\R (Its z) H1):=by
  intro pins s σ H R I h
  refine thn (hl pins s σ H _ I h) λ v s1 ⟨x,H1,I1,r1,q1⟩=>?_
  obtain ⟨z,rfl,q⟩:=q1
  obtain ⟨t,rfl⟩:=r1
  have fin:∀ ty:String,(ty = "str_ascii_iterator"\/ty = "str_iterator")->PIE X pins σ tg R (.ref s1.heap.objs.size) { s1 with heap:=s1.heap.push { cls:=.type ty,data:=.fields #[.str z t,.int 0 0] } }:=λ ty hty=>by
    refine ⟨s1.heap.objs.size,[s1.heap.objs.size],_,_,H1,rfl,I1.kept (t':=s1.toks) λ b o e=>Heap.get?_push_of_some _ e,qJq _ z t ty hty,⟨Nat.zero_le _,_,Heap.get?_push_size _ rfl,rfl,rfl⟩,λ b hb=>?_,q⟩
    have e:b=s1.heap.objs.size:=by simpa using hb
    subst e
    exact I1.fpOk (Nat.le_refl _) (I1.hok.fresh (Nat.le_refl _))
  cases ha:z.cps.all (· < 128)
  . exact wpAny_pyIter_wide ha (fin _ (.inr rfl))
  . exact wpAny_pyIter_ascii ha (fin _ (.inl rfl))
end
section
variable {X:Cx}
def vPq (ad:Addr) (tab:Str->Option V):R2:=λ x y H Q=>∃ z,x=.str z/\y=.ref ad/\Q (.bl (!(tab z).isSome)) H
theorem q2q {ad:Addr} {tab:Str->Option V} (T:KTab X.K X.w ad tab):OpR X (compareOp .NotIn) (vPq ad tab):=by
  intro pins s σ H x y v u Q I rx ry h
  obtain ⟨⟨es,n,hl,hk,ht⟩,lo⟩:=T
  obtain ⟨z,rfl,rfl,q⟩:=h
  obtain ⟨t,rfl⟩:=rx
  cases ry
  refine wpAny_notIn_of (strKind_is X.prog X.w z t) lo (PySem.W.mapOf_K I.kIn hl hk) ?_
  rw [<- (ht z).isSome_eq]
  exact ⟨.bl _,H,I.tok _,rfl,q⟩
end
end L2
namespace L3
open PySem PySem.Spec L2
section
variable {X:Cx} {tg a b c:Expr} {ta tb tc:DTE} {pos p:Pos}
abbrev aA2q (ad:Addr) (tab:Str->Option D):DR2:=λ x y G Q=>match x with
  | .str z=>y=.ref ad/\Q (.bl (!(tab z).isSome)) G
  | _=>False
theorem gBq {ad:Addr} {tab:Str->Option D} (T:KTabD X.K X.w ad tab):AOp X (compareOp .NotIn) (aA2q ad tab):=by
  obtain ⟨tv,T,t1,t2⟩:=T
  refine ⟨_,⟨q2q T⟩,λ x y vx vy G H DQ Q v ax ay r F=>?_⟩
  cases x with
  | str z=>
    cases ax
    obtain ⟨rfl,q⟩:=r
    cases ay
    refine ⟨z,rfl,rfl,?_⟩
    have e:(tv z).isSome=(tab z).isSome:=by
      cases ez:tab z with
      | none=>rw [t1 z ez];rfl
      | some d=>obtain ⟨v',e1,_⟩:=t2 z d ez;rw [e1];rfl
    rw [e]
    exact F (.bl _) G _ H (.refl v) rfl q
  | _=>exact (show False from r).elim
def dKq (z:Str):List D:=z.cps.toList.map λ c=>.str ⟨#[c]⟩
abbrev aN8q (ta:DTE):DTI:=λ ρ G R=>ta ρ G λ x G1=>match x with
  | .str z=>R ⟨dKq z,λ _=>True⟩ G1
  | _=>False
theorem aA6q {K:PySem.W.Frag} {z:Str} {G1:DV} {H1:Hp} (v:Vw K G1 H1) :
    (∀ (i:Nat) (d:D),(dKq z)[i]?=some d->(Its z).go i H1/\∀ x H',(Its z).yld i H1 x H'->Go K G1 H1 G1 H'/\Abs K H' d x)/\∀ i,(dKq z).length<=i->(Its z).stop i H1:=by
  refine ⟨λ i d hd=>?_,λ i hi=>?_⟩
  . unfold dKq at hd
    rw [List.getElem?_map] at hd
    cases hc:z.cps.toList[i]? with
    | none=>rw [hc] at hd;cases hd
    | some c=>
      rw [hc] at hd;cases hd
      have hi:=(List.getElem?_eq_some_iff.mp hc).1
      refine ⟨hi,λ x H' y=>?_⟩
      obtain ⟨rfl,c',e,rfl⟩:=y
      have e':z.cps.toList[i]?=some c':=by simpa using e
      rw [hc] at e';cases e'
      exact ⟨.refl v,rfl⟩
  . unfold dKq at hi
    rw [List.length_map] at hi
    exact hi
theorem t6q (ha:AE X a ta):AI X tg a (aN8q ta):=by
  obtain ⟨ca,ja,ra⟩:=ha.run
  refine ⟨_,⟨aD7q ja.run⟩,λ ρ G DR σ H R B q F=>ra ρ G _ σ H _ B q λ x G1 v H1 g1 ax q1=>?_⟩
  cases x with
  | str z=>cases ax;exact ⟨z,rfl,F ⟨dKq z,λ _=>True⟩ _ G1 H1 g1 (λ G2 H2 g2 _=>aA6q g2.vw) q1⟩
  | _=>exact (show False from q1).elim
abbrev tEq (r r':DR2) (ta tb tc:DTE):DTE:=λ ρ G Q=>ta ρ G λ x G1=>tb ρ G1 λ y G2=>r x y G2 λ z G3=>blD z λ k=>Br k (tc ρ G3 λ w G4=>r' y w G4 Q) (Q (.bl false) G3)
theorem qQq {op op':CmpOp} {r r':DR2} (ho:AOp X (compareOp op) r) (ho':AOp X (compareOp op') r') (ha:AE X a ta) (hb:AE X b tb) (hc:AE X c tc) (hm:lastMarks [op,op'] [b,c]=false:=by with_unfolding_all rfl):AE X (.Compare a [op,op'] [b,c] pos) (tEq r r' ta tb tc):=by
  obtain ⟨ca,ja,ra⟩:=ha.run
  obtain ⟨cb,jb,rb⟩:=hb.run
  obtain ⟨cc,jc,rc⟩:=hc.run
  obtain ⟨co,jo,uo⟩:=ho.run
  obtain ⟨co',jo',uo'⟩:=ho'.run
  refine ⟨_,⟨sPq jo.run jo'.run ja.run jb.run jc.run hm⟩,λ ρ G DQ σ H Q B q F=>ra ρ G _ σ H _ B q λ x G1 v H1 g1 ax q1=>rb ρ G1 _ σ H1 _ (B.go g1) q1 λ y G2 u H2 g2 ay q2=>uo x y v u G2 H2 _ _ g2.vw (ax.mono g2.tup) ay q2 λ z G3 vz H3 g3 az q3=>?_⟩
  cases z with
  | bl k=>
    cases az
    refine ⟨k,rfl,?_⟩
    cases k with
    | true=>
      rw [if_pos rfl]
      exact rc ρ G3 _ σ H3 _ (((B.go g1).go g2).go g3) (q3.1 rfl) λ w G4 vw H4 g4 aw q4=>uo' y w u vw G4 H4 _ _ g4.vw ((ay.mono g3.tup).mono g4.tup) aw q4 (F.after (((g1.trans g2).trans g3).trans g4))
    | false=>rw [if_neg (by decide)];exact F (.bl false) G3 _ H3 ((g1.trans g2).trans g3) rfl (q3.2 rfl)
  | _=>exact (show False from q3).elim
theorem l4q {op op':CmpOp} {r r':DR2} (ho:AOp X (compareOp op) r) (ho':AOp X (compareOp op') r') (ha:AE X a ta) (hb:AE X b tb) (hc:AE X c tc) (hm:lastMarks [op,op'] [b,c]=false:=by with_unfolding_all rfl):AT X (.Compare a [op,op'] [b,c] pos) (aD0q (tEq r r' ta tb tc)):=by
  obtain ⟨ca,ja,ra⟩:=ha.run
  obtain ⟨cb,jb,rb⟩:=hb.run
  obtain ⟨cc,jc,rc⟩:=hc.run
  obtain ⟨co,jo,uo⟩:=ho.run
  obtain ⟨co',jo',uo'⟩:=ho'.run
  refine ⟨_,⟨qOq jo.run jo'.run ja.run jb.run jc.run hm⟩,λ ρ G DQ σ H Q B q F=>ra ρ G _ σ H _ B q λ x G1 v H1 g1 ax q1=>rb ρ G1 _ σ H1 _ (B.go g1) q1 λ y G2 u H2 g2 ay q2=>uo x y v u G2 H2 _ _ g2.vw (ax.mono g2.tup) ay q2 λ z G3 vz H3 g3 az q3=>?_⟩
  cases z with
  | bl k=>
    cases az
    refine ⟨k,rfl,?_⟩
    cases k with
    | true=>
      rw [if_pos rfl]
      refine rc ρ G3 _ σ H3 _ (((B.go g1).go g2).go g3) (q3.1 rfl) λ w G4 vw H4 g4 aw q4=>uo' y w u vw G4 H4 _ _ g4.vw ((ay.mono g3.tup).mono g4.tup) aw q4 λ z5 G5 v5 H5 g5 a5 q5=>?_
      cases z5 with
      | bl k5=>cases a5;exact ⟨k5,rfl,F k5 G5 H5 ((((g1.trans g2).trans g3).trans g4).trans g5) q5⟩
      | _=>exact (show False from q5).elim
    | false=>rw [if_neg (by decide)];exact ⟨false,rfl,F false G3 H3 ((g1.trans g2).trans g3) (q3.2 rfl)⟩
  | _=>exact (show False from q3).elim
def nUq:D->List D->DV->DK->Prop:=λ x xs G Q=>match x,xs with
  | .str z,[.str y]=>Q (.bl (Txt.startswith z y)) G
  | _,_=>False
theorem vJq {K:PySem.W.Frag} {H:Hp} {xs:List D} {vs:List V} {y:Str} (e:xs=[.str y]) (al:AbsL K H xs vs):vs=[.str y]:=by
  subst e
  obtain ⟨u,r',e,a,l⟩:=al
  subst e
  cases a
  cases (show r'=[] from l)
  rfl
theorem cXq:AMt X "str" "str.startswith" qCq nUq:=by
  refine ⟨_,⟨h6q⟩,λ x v G H _ ax h=>h9q ax h,λ x xs vx vs G H DQ Q v ax al r F=>?_⟩
  unfold nUq at r
  split at r
  . next z y=>cases ax;exact ⟨z,y,rfl,vJq rfl al,F (.bl _) G _ H (.refl v) rfl r⟩
  . exact r.elim
theorem AbsL.strs {K:PySem.W.Frag} {H:Hp} {ys:List Str}:∀ {vs:List V},AbsL K H (ys.map D.str) vs->vs=ys.map V.str:=by
  induction ys with
  | nil=>intro vs h;exact h
  | cons n ns ih=>rintro vs ⟨v,r,e,q,l⟩;subst e;rw [ih l,show v=V.str n from q];rfl
def aA4q:D->List D->DV->DK->Prop:=λ x xs G Q=>match x,xs with
  | .str z,[.ref l]=>onL G l λ ds=>∃ ys:List Str,ds=ys.map D.str/\z.length<=16/\(ys.map (·.length)).sum+ys.length<=1048576/\Q (.str (Txt.join z ys)) G
  | _,_=>False
theorem rHq:AMt X "str" "str.join" qCq aA4q:=by
  refine ⟨_,⟨u3q X.K rfl⟩,λ x v G H _ ax h=>h9q ax h,λ x xs vx vs G H DQ Q v ax al r F=>?_⟩
  unfold aA4q at r
  split at r
  . next z l=>
    cases ax
    obtain ⟨u,r',e,a,e2⟩:=al
    subst e
    cases a
    cases (show r'=[] from e2)
    obtain ⟨ds,ws,⟨ys,rfl,h1,h2,q⟩,s,rl⟩:=bDq v r
    rw [rl.strs] at s
    exact ⟨z,l,ys,rfl,rfl,s,h1,h2,F (.str _) G _ H (.refl v) rfl q⟩
  . exact r.elim
def wSq:D->DV->DK->Prop:=λ x G Q=>match x with
  | .int i=>i.natAbs.log2 < 1920/\Q (.str (toString i)) G
  | _=>False
theorem nGq:ACall X (.type "str") (tUq wSq):=by
  refine ⟨_,⟨iAq⟩,λ xs vs G H DQ Q v a r F=>?_⟩
  obtain ⟨x,u,rfl,rfl,ax,r⟩:=cUq r a
  cases x with
  | int i=>cases ax;exact ⟨i,rfl,r.1,F (.str _) G _ H (.refl v) rfl r.2⟩
  | _=>exact (show False from r).elim
end
theorem noFT {p:Prop} (c:false=true):p:=nomatch c
theorem qAq {p:Prop} (c:true=false):p:=nomatch c
def Tm.leaf:Tm->Bool
  | .name _=>true
  | .whole _=>true
  | _=>false
def c0q:Stmt->List Stmt
  | .ClassDef _ _ _ b _ _ _ _ _ _ _=>b
  | _=>[]
theorem dWq {α:Type} (xs:List α) (y:α):atI (xs++[y]) (-1)=some y:=by
  unfold atI ixN
  rw [if_neg (by decide),List.length_append,List.length_singleton]
  rw [if_pos (by omega)]
  show (xs++[y])[((-1:Int)+((xs.length+1:Nat):Int)).toNat]?=some y
  rw [show ((-1:Int)+((xs.length+1:Nat):Int)).toNat=xs.length by omega]
  simp
section
variable {C T:Addr} {tp:Pos} {G G':DV} {lp ld:Addr} {as:List Addr} {us:List Tm} {S:Sls} {rk:Addr->Nat} {told:Addr->Bool}
theorem jPq {α:Type} {xs:List α} {lo hi:Option Int} {d:α} (h:d∈cut xs lo hi):d∈xs:=List.mem_of_mem_drop (List.mem_of_mem_take h)
theorem oCq {α:Type} {xs:List α} {lo hi:Option Int}:(cut xs lo hi).length<=xs.length:=by
  unfold cut;exact Nat.le_trans (by rw [List.length_take];exact Nat.min_le_right _ _) (by rw [List.length_drop];omega)
end
theorem Tm.enc_node {t:Tm} (h:t.leaf=false):t.enc=.tup (.str t.word::t.inn.map Tm.enc):=by cases t<;>first | rfl | cases h
theorem Fx.kp {a b:Addr} {G G':DV} {u:DO} (h:Fx a G G') (n:b≠a) (e:G b=some u):G' b=some u:=by rw [h.other n];exact e
theorem aQq {fs:List (Str × D)} {f:Str} {d:D} {k:D->Prop} (h:fs.lookup f=some d) (q:k d):wEq fs f k:=by unfold wEq;rw [h];exact q
theorem dUq {β:Type} {k z:Str} {v:β} {r:List (Str × β)}:(((k,v)::r).find? λ kv=>decide (kv.1=z)).map (·.2)=if z=k then some v else (r.find? λ kv=>decide (kv.1=z)).map (·.2):=by
  by_cases h:k=z
  . simp [h]
  . rw [if_neg (Ne.symm h),List.find?_cons,decide_eq_false h]
theorem iRq:∀ {t:List (Str × V)} {es:List DictEntry},Paired (λ(kv:Str × V) (e:DictEntry)=>(∃ t1,e.key=.str kv.1 t1)/\RelV kv.2 e.val) t es →
    ∀ x,RelO ((t.find? λ kv=>decide (kv.1=x)).map (·.2)) ((es.find? λ d=>Value.isStrOf x d.key).map (·.val))
  | _,_,.nil,_=>trivial
  | p::t,e::es,.cons ⟨⟨t1,e1⟩,e2⟩ r,x=>by
    by_cases h:p.1=x
    . have z:Value.isStrOf x e.key=true:=by rw [e1,h];simp [Value.isStrOf]
      rw [List.find?_cons,decide_eq_true h,List.find?_cons,z]
      exact e2
    . have z:Value.isStrOf x e.key=false:=by
        rw [e1]
        simp only [Value.isStrOf]
        exact beq_false_of_ne h
      rw [List.find?_cons,decide_eq_false h,List.find?_cons,z]
      exact iRq r x
theorem x1q {K:PySem.W.Frag} {w:World} {ad:Addr} {es:Array DictEntry} {n:Nat} {LV:List (Str × V)} {L:List (Str × D)} {tab:Str->Option D} (h1:K.lookup ad=some ⟨.type "dict", none,.dict es n,#[]⟩) (h2:(ad==sysModules)=false) (h3:PySem.W.KeysLit w.params es.toList)
    (h4:Paired (λ(kv:Str × V) (e:DictEntry)=>(∃ t1,e.key=.str kv.1 t1)/\RelV kv.2 e.val) LV es.toList) (h5:∀ z,tab z=(L.find? λ kv=>decide (kv.1=z)).map (·.2)) (h6:Paired (λ(a:Str × D) (b:Str × V)=>a.1=b.1/\∀ H,Abs K H a.2 b.2) L LV):KTabD K w ad tab:=by
  have key:∀ {L:List (Str × D)} {LV:List (Str × V)},Paired (λ(a:Str × D) (b:Str × V)=>a.1=b.1/\∀ H,Abs K H a.2 b.2) L LV->∀ z,(((L.find? λ kv=>decide (kv.1=z)).map (·.2))=none->((LV.find? λ kv=>decide (kv.1=z)).map (·.2))=none)/\∀ d,((L.find? λ kv=>decide (kv.1=z)).map (·.2))=some d->∃ v,((LV.find? λ kv=>decide (kv.1=z)).map (·.2))=some v/\∀ H,Abs K H d v:=by
    intro L LV h
    induction h with
    | nil=>intro z;exact ⟨λ _=>rfl,λ d e=>by cases e⟩
    | @cons a b as bs q r ih=>
      intro z
      obtain ⟨a1,a2⟩:=a
      obtain ⟨b1,b2⟩:=b
      obtain ⟨q1,q2⟩:=q
      cases (show a1=b1 from q1)
      rw [dUq,dUq]
      by_cases c:z=a1
      . rw [if_pos c,if_pos c];exact ⟨λ e=>(by cases e),λ d e=>(by cases e;exact ⟨_,rfl,q2⟩)⟩
      . rw [if_neg c,if_neg c];exact ih z
  refine ⟨λ z=>(LV.find? λ kv=>decide (kv.1=z)).map (·.2),⟨⟨es,n,h1,h3,λ x=>?_⟩,h2⟩,λ z e=>((key h6 z).1 (by rw [<- h5];exact e)),λ z d e=>(key h6 z).2 d (by rw [<- h5];exact e)⟩
  have:=iRq h4 x
  unfold findBy
  obtain ⟨l⟩:=es
  rw [List.find?_toArray]
  exact this
abbrev letters:Str:="abcdefghijklmnopqrstuvwxyz"
abbrev figs:Str:="0123456789"
def words7:List Str:=["way", "give", "pair", "first", "second", "plus", "look"]
def bSq (z y:Str):Bool:=z.cps.toList.all λ c=>decide (c∈y.cps.toList)
theorem pZq (y:Str) (c:Nat):(!(Builtin.Str.occurrences y ⟨#[c]⟩ 0 y.length 1).isEmpty)=decide (c∈y.cps.toList):=by
  rw [PyProof.Rows.empty_one,Bool.not_not]
def bHq (z:Str):Bool:=decide (1<=(z.length:Int))&&(decide ((z.length:Int)<=8)&&(bSq z letters&&!(words7.contains z)))
def bare (z:Str):Str:=if Txt.startswith z "-" then Txt.slice z (some 1) none else z
def hMq (z:Str):Bool:=decide (1<=((bare z).length:Int))&&(decide (((bare z).length:Int)<=9)&&bSq (bare z) figs)&&(!Txt.startswith (bare z) "0"||z=="0")
def oOq (z:Str):Option D:=if z = "way" then some (.int 1) else if z = "give" then some (.int 2) else if z = "pair" then some (.int 2) else if z = "first" then some (.int 1) else if z = "second" then some (.int 1) else if z = "plus" then some (.int 2) else if z = "look" then some (.int 3) else none
theorem i8q (z:Str):(oOq z).isSome=words7.contains z:=by
  unfold oOq words7
  simp only [List.contains_cons,List.contains_nil,Bool.or_false]
  repeat' split
  all_goals simp_all
def bVq:DSp:=λ ds G Q=>∃ z y:Str,ds=[.str z,.str y]/\z.length<=1000/\Q (.bl (bSq z y)) G
def kWq:DSp:=λ ds G Q=>∃ z:Str,ds=[.str z]/\z.length<=1000/\Q (.bl (bHq z)) G
def uIq:DSp:=λ ds G Q=>∃ z:Str,ds=[.str z]/\z.length<=1000/\Q (.bl (hMq z)) G
def hBq:DSp:=λ ds G Q=>∃ z:Str,ds=[.str z,.int 9]/\z.length<=1000/\Q (.bl (hMq z)) G
theorem jXq {ds:List D} {i:Int} {G:DV} {Q:DK} (h0:0<=i) (h1:i < ds.length) (h:∀ d∈ds,Q d G):atD ds i G Q:=by
  obtain ⟨n,rfl⟩:∃ n:Nat,i=n:=⟨i.toNat,by omega⟩
  have hl:n < ds.length:=by omega
  exact nHq (d:=ds[n]) (cQq (List.getElem?_eq_getElem hl)) (h _ (List.getElem_mem hl))
theorem o9q (x:Str) (c:Nat):(x==⟨#[c]⟩)=(x.cps.toList==[c]):=by
  obtain ⟨a⟩:=x
  rw [Bool.eq_iff_iff,beq_iff_eq,beq_iff_eq]
  constructor
  . intro h;cases h;rfl
  . intro h
    have:a=#[c]:=Array.toList_inj.mp h
    rw [this]
theorem b5q (z:Str) (c:Nat):Txt.startswith z ⟨#[c]⟩=(z.cps.toList.head?==some c):=by
  obtain ⟨a⟩:=z
  obtain ⟨l⟩:=a
  unfold Txt.startswith Builtin.Str.subAt Str.length
  cases l with
  | nil=>simp
  | cons x l=>
    simp
theorem zLq:(("-" : String):Str)=⟨#[45]⟩:=by decide +kernel
theorem pTq:(("0" : String):Str)=⟨#[48]⟩:=by decide +kernel
theorem oHq (z:Str):(bare z).length<=z.length:=by
  unfold bare
  split
  . exact Txt.slice_le z _ _
  . exact Nat.le_refl _
theorem lLq:∀ (ws:List Str) (z:Str),inL (.str z) (ws.map D.str)=ws.contains z
  | [],_=>rfl
  | w::ws,z=>by
    have ih:=lLq ws z
    unfold inL at ih ⊢
    rw [List.map_cons,List.any_cons,ih,List.contains_cons]
    congr 1
    show (w==z)=(z==w)
    rw [Bool.eq_iff_iff,beq_iff_eq,beq_iff_eq];exact eq_comm
theorem j3q (z:Str):inL (.str z) (words7.map D.str)=words7.contains z:=lLq _ _
theorem tLq {z:Str} {i:Int} (h0:0<=i) (h1:i < z.length):∃ c,atI z.cps.toList i=some c:=by
  obtain ⟨n,rfl⟩:∃ n:Nat,i=n:=⟨i.toNat,by omega⟩
  have e:z.cps.toList.length=z.length:=rfl
  have h:n < z.cps.toList.length:=by omega
  exact ⟨_,cQq (List.getElem?_eq_getElem h)⟩
theorem i9q {y:Str} {c:Nat} (h:atI y.cps.toList 0=some c):(!((⟨#[c]⟩:Str)=="0"))=(!Txt.startswith y "0"||false):=by
  rw [pTq,b5q,o9q,Bool.or_false]
  cases e:y.cps.toList with
  | nil=>rw [e] at h;cases h
  | cons x l=>
    rw [e] at h
    rw [show atI (x::l) 0=some x from cQq (j:=0) rfl] at h
    cases h
    simp
def cntL:List (Str × D):=[("way", .int 1),("give", .int 2),("pair", .int 2),("first", .int 1),("second", .int 1),("plus", .int 2),("look", .int 3)]
def aC9q:List (Str × V):=[("way", .int 1),("give", .int 2),("pair", .int 2),("first", .int 1),("second", .int 1),("plus", .int 2),("look", .int 3)]
theorem wXq (z:Str):oOq z=(cntL.find? λ kv=>decide (kv.1=z)).map (·.2):=by
  unfold oOq cntL
  simp only [dUq]
  rfl
theorem cntP {K:PySem.W.Frag}:Paired (λ(a:Str × D) (b:Str × V)=>a.1=b.1/\∀ H,Abs K H a.2 b.2) cntL aC9q:=
  .cons ⟨rfl,λ _=>rfl⟩ (.cons ⟨rfl,λ _=>rfl⟩ (.cons ⟨rfl,λ _=>rfl⟩ (.cons ⟨rfl,λ _=>rfl⟩ (.cons ⟨rfl,λ _=>rfl⟩ (.cons ⟨rfl,λ _=>rfl⟩ (.cons ⟨rfl,λ _=>rfl⟩ .nil))))))
theorem ySq {α:Type} {xs:List α} {k:Nat} (h:k<=xs.length):cut xs none (some (k:Int))=xs.take k:=by
  unfold cut
  rw [show HT.sIx xs.length 0 none=0 from rfl,show HT.sIx xs.length xs.length (some (k:Int))=k by unfold HT.sIx;simp only [];rw [if_neg (by omega)];omega,List.drop_zero,Nat.sub_zero]
theorem qXq {α:Type} {xs:List α} {k:Nat} (h:k+1<=xs.length):cut xs (some ((k:Int)+1)) none=xs.drop (k+1):=by
  unfold cut
  rw [show HT.sIx xs.length xs.length none=xs.length from rfl,show HT.sIx xs.length 0 (some ((k:Int)+1))=k+1 by unfold HT.sIx;simp only [];rw [if_neg (by omega)];omega]
  rw [List.take_of_length_le (by rw [List.length_drop];omega)]
theorem aJ1q {a:Addr} {G G1 G0 G9:DV} (h:∀ b o,b≠a->G b=some o->G1 b=some o) (u:Fx a G1 G0) (s:Sub G0 G9):∃ G0,Fx a G G0/\Sub G0 G9:=by
  obtain ⟨x,y,rfl⟩:=u
  refine ⟨_,.mk (x:=x) (y:=y),λ b o e=>?_⟩
  by_cases c:b=a
  . subst c;rw [a4q] at e;exact s _ _ (by rw [a4q];exact e)
  . rw [a8q c] at e;exact s _ _ (by rw [a8q c];exact h b o c e)
def Dw (a:Addr) (G G':DV):Prop:=∃ G0,Fx a G G0/\Sub G0 G'
theorem Dw.of {a:Addr} {G G':DV} (h:Fx a G G'):Dw a G G':=⟨G',h,.refl _⟩
theorem Dw.kp {a:Addr} {G G':DV} (h:Dw a G G') {b:Addr} {o:DO} (hb:b≠a) (e:G b=some o):G' b=some o:=by
  obtain ⟨G0,u,s⟩:=h
  exact s _ _ (u.kp hb e)
theorem Dw.fd {a:Addr} {G G':DV} (h:Dw a G G'):Fd G' a:=by
  obtain ⟨G0,u,s⟩:=h
  obtain ⟨x,y,e⟩:=u.fd
  exact ⟨x,y,s _ _ e⟩
theorem Dw.trans {a:Addr} {G G1 G2:DV} (h:Dw a G G1) (g:Dw a G1 G2):Dw a G G2:=by
  obtain ⟨G0,u,s⟩:=g
  exact aJ1q (λ b o nb e=>h.kp nb e) u s
theorem Dw.new {a p:Addr} {G G':DV} {o:DO} (h:Dw a G G') (hp:G' p=none):Dw a G (up G' p o):=by
  obtain ⟨G0,u,s⟩:=h
  exact ⟨G0,u,Sub.trans s (Sub.new (Sub.refl _) hp)⟩
theorem q1q {α:Type} {xs:List α} {k:Nat} (h:k<=xs.length):cut xs (some (k:Int)) none=xs.drop k:=by
  unfold cut
  rw [show HT.sIx xs.length xs.length none=xs.length from rfl,show HT.sIx xs.length 0 (some (k:Int))=k by unfold HT.sIx;simp only [];rw [if_neg (by omega)];omega]
  rw [List.take_of_length_le (by rw [List.length_drop];omega)]
end L3
namespace L2
open PySem PySem.Spec PyProof.Rows
section
variable {prog:Program} {w:World} {A:Around} {E:Value->Shared->Prop} {s:Shared} {e it:Addr} {i:Nat} {old:Value}
theorem o2q {R:Value->Prop} {P:Heap->Prop} {Q:Option Value->Shared->Prop} (he:IsEnum s.heap e it i old) (hne:e≠it) (hP:∀ h h',P h->(∀ o,h.get? it=some o->h'.get? it=some o)->P h')
    (hn:∀ (A:Around) (Q:Value->Shared->Prop) (E:Value->Shared->Prop),(∀ h₁ tk x,R x->Heap.SameBut it s.heap h₁->P h₁->Q x { s with heap:=h₁,toks:=tk })->wpAny (model prog w) A (Builtin.SmallTypes.nextOf (.ref it)) Q E s)
    (hQ:∀ h' tk x t,R x->IsEnumOut h' e it ((i:Int)+1) x s.heap.objs.size->P h'->h'.get? s.heap.objs.size=some { cls:=.type "tuple", data:=.seq #[.int i t,x] } →
      (∀ b o,b≠e->b≠it->s.heap.get? b=some o->h'.get? b=some o)->Q (some (.ref s.heap.objs.size)) { s with heap:=h',toks:=tk }) :
    wpAny (model prog w) A (pyNext (.ref e)) Q E s:=by
  have hT:s.TypeIs (.ref e) "enumerate":=⟨_,he,rfl⟩
  unfold pyNext
  refine wpAny_bind (wpAny_attempt (wpAny_callSpecial?_slot (name:=Str.ofString "__next__") hT PySem.F.slot_enumerate_next (wpAny_call_entry PySem.F.slot_enumerate_next hT PySem.F.entry_enumerate_next ?_ (PySem.F.args_enumerate_next_1 _))))
  obtain ⟨hp,g,d,tk,os⟩:=s
  refine (show wpAny _ _ (field (.ref e) 2 >>= _) _ _ _ from wpAny_bind (wpAny_field he rfl (x:=.ref it) rfl (wpAny_bind (hn _ _ _ λ h₁ tk1 x rx s1 p1=>?_))))
  replace s1:Heap.SameBut it hp h₁:=s1
  have e1:IsEnum h₁ e it i old:=(s1.2 e hne).trans he
  refine (show wpAny _ _ (field (.ref e) 3 >>= _) _ _ ⟨h₁,g,d,tk1,os⟩ from wpAny_bind (wpAny_field e1 rfl (x:=rawInt i) rfl ?_))
  refine (show wpAny _ _ (field (.ref e) 4 >>= _) _ _ ⟨h₁,g,d,tk1,os⟩ from wpAny_bind (wpAny_field e1 rfl (x:=.none) rfl ?_))
  refine (show wpAny _ _ (mkInt i >>= _) _ _ ⟨h₁,g,d,tk1,os⟩ from wpAny_bind (wpAny_mkInt ?_))
  refine (show wpAny _ _ (setField (.ref e) 3 (rawInt ((i:Int)+1)) >>= _) _ _ ⟨h₁,g,d,tk1+1,os⟩ from wpAny_bind (wpAny_setField_rec e1 (by simp) λ h₂ e2 s2=>?_))
  replace s2:Heap.SameBut e h₁ h₂:=s2
  replace e2:IsEnum h₂ e it ((i:Int)+1) old:=e2
  refine (show wpAny _ _ (setField (.ref e) 4 .none >>= _) _ _ ⟨h₂,g,d,tk1+1,os⟩ from wpAny_bind (wpAny_setField_rec e2 (by simp) λ h₃ e3 s3=>?_))
  replace s3:Heap.SameBut e h₂ h₃:=s3
  replace e3:IsEnum h₃ e it ((i:Int)+1) old:=e3
  refine (show wpAny _ _ (newTuple [.int i tk1,x] >>= _) _ _ ⟨h₃,g,d,tk1+1,os⟩ from wpAny_bind (wpAny_newTuple ?_))
  have e4:IsEnum (h₃.push { cls:=.type "tuple", data:=.seq #[.int i tk1,x] }) e it ((i:Int)+1) old:=Heap.get?_push_of_some _ e3
  have hsz:h₃.objs.size=hp.objs.size:=by rw [s3.1,s2.1,s1.1]
  have hel:e < hp.objs.size:=Heap.lt_size he
  have t4:(h₃.push { cls:=.type "tuple", data:=.seq #[.int i tk1,x] }).get? hp.objs.size=some { cls:=.type "tuple", data:=.seq #[.int i tk1,x] }:=by rw [<- hsz];exact Heap.get?_push_size _ rfl
  have k4:∀ b o,b≠e->b≠it->hp.get? b=some o->(h₃.push { cls:=.type "tuple", data:=.seq #[.int i tk1,x] }).get? b=some o:=λ b o hbe hbi hb=>Heap.get?_push_of_some _ (s3.extBut b o hbe (s2.extBut b o hbe (s1.extBut b o hbi hb)))
  have p4:P (h₃.push { cls:=.type "tuple", data:=.seq #[.int i tk1,x] }):=hP _ _ p1 λ o ho=>Heap.get?_push_of_some _ (s3.extBut _ _ (Ne.symm hne) (s2.extBut _ _ (Ne.symm hne) ho))
  rw [hsz]
  generalize h₃.push { cls:=.type "tuple", data:=.seq #[.int i tk1,x] }=h₄ at e4 t4 k4 p4 ⊢
  refine (show wpAny _ _ (Builtin.SmallTypes.ownedTupleIsFree (.ref e) >>= _) _ _ ⟨h₄,g,d,tk1+1,os⟩ from wpAny_bind ?_)
  unfold Builtin.SmallTypes.ownedTupleIsFree
  refine wpAny_bind (wpAny_field e4 rfl (x:=.none) rfl (wpAny_pure ?_))
  simp only [if_true]
  refine wpAny_bind (wpAny_rule (wpAny_bind (wpAny_field e4 rfl (x:=old) rfl (wpAny_bind (wpAny_setField_rec e4 (by simp) λ h₅ e5 s5=>?_)))))
  replace s5:Heap.SameBut e h₄ h₅:=s5
  replace e5:IsEnum h₅ e it ((i:Int)+1) x:=e5
  refine (show wpAny _ _ (Builtin.SmallTypes.ownedTupleHandOut (.ref e) (.ref hp.objs.size) >>= _) _ _ ⟨h₅,g,d,tk1+1,os⟩ from wpAny_bind ?_)
  unfold Builtin.SmallTypes.ownedTupleHandOut
  refine wpAny_bind (wpAny_setField_rec e5 (by simp) λ h₆ e6 s6=>?_)
  replace s6:Heap.SameBut e h₅ h₆:=s6
  replace e6:IsEnumOut h₆ e it ((i:Int)+1) x hp.objs.size:=e6
  refine wpAny_setField_rec e6 (by simp) λ h₇ e7 s7=>?_
  replace s7:Heap.SameBut e h₆ h₇:=s7
  replace e7:IsEnumOut h₇ e it ((i:Int)+1) x hp.objs.size:=e7
  have kk:∀ b o,b≠e->h₄.get? b=some o->h₇.get? b=some o:=λ b o hb q=>s7.extBut b o hb (s6.extBut b o hb (s5.extBut b o hb q))
  exact wpAny_bind (wpAny_letGo (wpAny_pure ⟨_,rfl,wpAny_pure (hQ h₇ _ x tk1 rx e7 (hP _ _ p4 λ o ho=>kk _ _ (Ne.symm hne) ho) (kk _ _ (Nat.ne_of_gt hel) t4) λ b o hb hi q=>kk b o hb (k4 b o hb hi q))⟩))
theorem sMq {Q:Option Value->Shared->Prop} (he:IsEnum s.heap e it i old)
    (hn:∀ (A:Around) (Q:Value->Shared->Prop) (E:Value->Shared->Prop),A.handled=none->(∀ h' x,Heap.ExtBut it s.heap h'->(∃ o,h'.get? x=some o/\o.cls=.type "StopIteration")->E (.ref x) { s with heap:=h' })->wpAny (model prog w) A (Builtin.SmallTypes.nextOf (.ref it)) Q E s)
    (hh:A.handled=none) (hQ:∀ h',Heap.ExtBut it s.heap h'->Q none { s with heap:=h' }):wpAny (model prog w) A (pyNext (.ref e)) Q E s:=by
  have hT:s.TypeIs (.ref e) "enumerate":=⟨_,he,rfl⟩
  unfold pyNext
  refine wpAny_bind (wpAny_attempt (wpAny_callSpecial?_slot (name:=Str.ofString "__next__") hT PySem.F.slot_enumerate_next (wpAny_call_entry PySem.F.slot_enumerate_next hT PySem.F.entry_enumerate_next ?_ (PySem.F.args_enumerate_next_1 _))))
  refine (show wpAny _ _ (field (.ref e) 2 >>= _) _ _ _ from wpAny_bind (wpAny_field he rfl (x:=.ref it) rfl (wpAny_bind (hn _ _ _ hh λ h' x e' hx=>?_))))
  obtain ⟨o,ho,hc⟩:=hx
  refine wpAny_bind (wpAny_isInstance (T:="StopIteration") (b:=true) ⟨o,ho,hc⟩ isSubtype_stop ?_)
  exact wpAny_pure (hQ _ e')
end
section
variable {X:Cx}
def aJ5q:V->List V->Hp->VK->Prop:=λ x vs H Q=>∃ l xs,x=.ref l/\vs=[]/\H l=some (.lst xs)/\Q .non (upd H l (.lst xs.reverse))
theorem uBq:MtM X "list.reverse" aJ5q:=by
  intro pins s σ H x vs v us Q I rx rv h
  obtain ⟨l,xs,rfl,rfl,hH,q⟩:=h
  cases rx
  have hus:=rv.zero
  subst hus
  obtain ⟨z,its,n,r,hl,e⟩:=I.lstM hH
  refine call_meets PySem.F.slot_list_reverse ⟨_,e,rfl⟩ PySem.F.entry_list_reverse (PySem.F.args_list_reverse_1 _) (AutoSeq1.list_reverse_list_0 l its.toArray n (by rw [List.size_toArray];omega)) ⟨e,?_⟩
  have hlen:=r.length
  exact ⟨.non,_,I.lset (its':=its.reverse) (ys:=xs.reverse) hH e (by simp) (e0q r) (by rw [List.length_reverse];omega),rfl,q⟩
variable {e lo st:Expr} {te:TE} {tl tk:TO} {pos p2:Pos}
def aK1q:List V->Hp->VK->Prop:=λ xs H Q=>∃ z n,xs=[.str z]/\PySem.intText? z=some n/\z.length<=640/\Q (.int n) H
theorem pWq:CallR X (.type "int") aK1q:=by
  intro pins s σ H xs us Q I r h
  obtain ⟨z,n,rfl,hn,hl,q⟩:=h
  obtain ⟨u,rfl,rx⟩:=jQq r
  obtain ⟨t,rfl⟩:=rx
  exact PySem.W.KIN.call_text hn hl ⟨.int n,H,I.tok _,⟨_,rfl⟩,q⟩
end
end L2
namespace L3
open PySem PySem.Spec L2
section
variable {X:Cx} {e lo st:Expr} {te:DTE} {tl tk:DTO} {pos p2:Pos}
def zJq:D->List D->DV->DK->Prop:=λ x xs G Q=>match x,xs with
  | .ref l,[]=>onM G l λ ds=>Q .non (up G l (.lst ds.reverse))
  | _,_=>False
theorem k0q:AMt X "list" "list.reverse" lYq zJq:=by
  refine ⟨_,⟨uBq⟩,λ x v G H w ax h=>eGq w ax h,λ x xs vx vs G H DQ Q v ax al r F=>?_⟩
  unfold zJq at r
  split at r
  . next l=>
    cases ax;cases al
    obtain ⟨ds,ws,k,e1,h1,r1⟩:=cAq v r
    exact ⟨l,ws,rfl,rfl,h1,F .non _ _ _ (Go.setL v e1 r1.reverse) rfl k⟩
  . exact r.elim
def aL9q:D->DV->DK->Prop:=λ x G Q=>match x with
  | .str z=>∃ n,PySem.intText? z=some n/\z.length<=640/\Q (.int n) G
  | _=>False
theorem m1q:ACall X (.type "int") (tUq aL9q):=by
  refine ⟨_,⟨pWq⟩,λ xs vs G H DQ Q v a r F=>?_⟩
  obtain ⟨x,u,rfl,rfl,ax,r⟩:=cUq r a
  cases x with
  | str z=>cases ax;obtain ⟨n,hn,hl,q⟩:=r;exact ⟨z,n,rfl,hn,hl,F (.int n) G _ H (.refl v) rfl q⟩
  | _=>exact (show False from r).elim
end
end L3
namespace L3
open PySem L2 PySem.NumText PyProof.Rows PySem.W PySem.W.KIN
abbrev cHq (n:Int):Str:=Str.ofString (toString n)
abbrev dg (m:Nat):List Nat:=(Nat.toDigits 10 m).map Char.toNat
theorem c3q (m:Nat):AllDigits (dg m):=by
  intro c hc
  obtain ⟨ch,hch,e⟩:=List.mem_map.mp hc
  rw [<- e]
  exact digit_range (Nat.isDigit_of_mem_toDigits (by decide) (by decide) hch)
theorem jBq (m:Nat):dg m≠[]:=by
  intro e
  have h:=toDigits_len_ge 10 m
  rw [List.map_eq_nil_iff.mp e] at h
  exact absurd h (by decide)
theorem tOq {m:Nat} (h:m < 10 ^ 12):(dg m).length<=12:=by
  rw [List.length_map];exact toDigits_len_pow (by decide) (by decide) h
theorem jOq (m:Nat):(cHq (m:Int)).cps.toList=dg m:=signs_num m
theorem kAq (m:Nat):(cHq (Int.negSucc m)).cps.toList=45::dg (m+1):=by
  rw [signs_ofString]
  show (("-"++Nat.repr (m+1)).toList.map Char.toNat)=_
  rw [String.toList_append,List.map_append,Nat.toList_repr]
  rfl
theorem kQq {n:Int} (h:n.natAbs < 10 ^ 12):PySem.intText? (cHq n)=some n/\(cHq n).length<=13:=by
  have hl:(cHq n).cps.toList.length=(cHq n).length:=Array.length_toList
  cases n with
  | ofNat m=>
    have e:=jOq m
    have l:=tOq h
    have hl:(cHq (m:Int)).cps.toList.length=(cHq (m:Int)).length:=Array.length_toList
    rw [e] at hl
    have le:(cHq (m:Int)).length<=12:=by rw [<- hl];exact l
    have z:=intText_digits (x:=cHq (m:Int)) (by rw [e];exact c3q m) (by rw [e];exact jBq m) (by omega)
    rw [e,val_back] at z
    exact ⟨z,by show (cHq (m:Int)).length<=13;omega⟩
  | negSucc m=>
    have e:=kAq m
    have l:=tOq (m:=m+1) h
    have le:(cHq (Int.negSucc m)).length<=13:=by rw [<- hl,e,List.length_cons];omega
    have z:=intText_neg (x:=cHq (Int.negSucc m)) e (c3q _) (jBq _) (by omega)
    rw [val_back] at z
    exact ⟨z,le⟩
theorem nOq (m:Nat) (h:0 < m):(dg m).head?≠some 48:=by
  induction m using Nat.strongRecOn with
  | _ m ih=>
    by_cases h1:m < 10
    . have key:∀ k < 10,0 < k->(dg k).head?≠some 48:=by decide +kernel
      exact key m h1 h
    . have hm:m % 10 < 10:=Nat.mod_lt m (by decide)
      have t:Nat.toDigits 10 (m / 10)++Nat.toDigits 10 (m % 10)=Nat.toDigits 10 (10 * (m / 10)+m % 10):=Nat.toDigits_append_toDigits (by decide) (by omega) hm
      rw [Nat.div_add_mod] at t
      have i:=ih (m / 10) (by omega) (by omega)
      have ne:=jBq (m / 10)
      show ((Nat.toDigits 10 m).map Char.toNat).head?≠_
      rw [<- t,List.map_append]
      cases e:dg (m / 10) with
      | nil=>exact absurd e ne
      | cons c r=>rw [show (Nat.toDigits 10 (m / 10)).map Char.toNat=c::r from e];rw [e] at i;simpa using i
theorem kTq:figs.cps.toList=[48,49,50,51,52,53,54,55,56,57]:=by decide +kernel
theorem kRq {z:Str} {m:Nat} (e:z.cps.toList=dg m):bSq z figs=true:=by
  unfold bSq
  rw [e,kTq,List.all_eq_true]
  intro c hc
  have:=c3q m c hc
  rw [decide_eq_true_iff]
  simp
  omega
theorem p5q (n:Int):(∀ c∈(cHq n).cps.toList,c=45\/48<=c/\c<=57)/\(cHq n).cps.toList≠[]:=by
  cases n with
  | ofNat m=>show (∀ c∈(cHq (m:Int)).cps.toList,_)/\(cHq (m:Int)).cps.toList≠[];rw [jOq];exact ⟨λ c hc=>.inr (c3q m c hc),jBq m⟩
  | negSucc m=>
    rw [kAq]
    refine ⟨λ c hc=>?_,by simp⟩
    rcases List.mem_cons.mp hc with rfl | hc
    . exact .inl rfl
    . exact .inr (c3q _ c hc)
theorem Sub.ext' {G G1:DV} {p:Addr} {o:DO} (h:Sub G G1) (n:G1 p=Option.none):Sub G (up G1 p o):=λ b u e=>Sub.new (Sub.refl _) n b u (h b u e)
end L3
namespace L2
open PySem PySem.Spec PyProof.Rows
section
variable {X:Cx}
def PET (X:Cx) (e:Expr) (t:TE):Prop:=
  ∀ (pins:List (Addr × Obj)) (s:Shared) (σ:St) (H:Hp) (Q:VK),Inv X pins σ H s->1<=s.toks->t σ H Q->wpAny (model X.prog X.w) X.A (eval e X.env) (λ u s'=>1<=s'.toks/\EP X pins σ Q u s') X.xe s
def PSsT (X:Cx) (st:List Stmt) (t:TS):Prop:=
  ∀ (pins:List (Addr × Obj)) (s:Shared) (σ:St) (H:Hp) (D:Ends),Inv X pins σ H s->1<=s.toks->t D σ H->wpAny (model X.prog X.w) X.A (execs st X.env) (SP X pins D) X.xe s
theorem zFq {e:Expr} {t:TE} (h:PE X e t):PET X e t:=λ pins s σ H Q I ht q=>
  wpAny_mono (wpAny_toks_of ht (h pins s σ H Q I q)) (λ _ _ z=>z) λ _ _ z=>z.2
def aN4q (a b:Str) (to:TE):TE:=λ σ H Q=>to σ H λ x H1=>∃ z:Str,x=.str z/\z.length+(z.length+1) * b.length<=1000000/\Q (.str (Txt.replace z a b)) H1
theorem s5q {o:Expr} {to:TE} {a b:Str} {k1 k2:Nat} {p1 p2 apos cpos:Pos} (ho:PET X o to) (hab:(a==b)=false) (hbase:attributeBase o "replace" X.env (eval o X.env)=eval o X.env:=by rfl) (hline:(apos.endLine==cpos.line)=true:=by rfl) :
    PET X (.Call (.Attribute o "replace" apos) [.Constant (.str a) k1 p1,.Constant (.str b) k2 p2] [] cpos) (aN4q a b to):=by
  intro pins s σ H Q I ht h
  refine wpAny_mono (wpAny_toks_of (Q:=EP X pins σ Q) (E:=X.xe) ht ?_) (λ _ _ z=>z) λ _ _ z=>z.2
  refine wpAny_Call_method_late hbase rfl hline rfl (thn (ho pins s σ H _ I ht h) λ v s1 ⟨ht1,x,H1,I1,r1,z,ez,hz,q1⟩=>?_)
  subst ez
  obtain ⟨h1,h2⟩:=oUq (T:="str") I1 r1 rfl
  obtain ⟨t,rfl⟩:=r1
  refine ⟨"str", "str.replace", PySem.F.plainAttrs_str,PySem.F.slot_str_replace,PySem.F.type_str_replace,h1,h2,?_⟩
  refine Calls.callWith_builtin rfl (Calls.evalArgs_plain ?_)
  refine Calls.spliced_cons (Calls.Constant_str (k:=k1) (pos:=p1) ?_)
  refine Calls.spliced_cons (Calls.Constant_str (k:=k2) (pos:=p2) ?_)
  refine Calls.spliced_nil ?_
  refine PySem.call_gives PySem.F.slot_str_replace (typeIs_str _ z t) PySem.F.entry_str_replace (PySem.F.args_str_replace_3 _ _ _) (gives_str_replace z a b t s1.toks (s1.toks+1) λ _=>⟨?_,?_,hab,?_⟩) ?_
  . rw [Bool.or_eq_false_iff]
    exact ⟨beq_eq_false_iff_ne.mpr (Nat.ne_of_gt ht1),beq_eq_false_iff_ne.mpr (Nat.succ_ne_zero _)⟩
  . exact beq_eq_false_iff_ne.mpr (Nat.ne_of_lt (Nat.lt_succ_self _))
  . unfold Builtin.Str.tooLong
    refine decide_eq_false ?_
    have h3:=StrLaws.occ_length_le z a 0 z.length (z.length+1)
    have h4:=Nat.mul_le_mul_right b.length h3
    rw [sizeLine_eq];omega
  . have e:Txt.replace z a b=if ((Builtin.Str.occurrences z a 0 z.length (z.length+1)).isEmpty||a.length==0&&b.length==0)=true then z else Builtin.Str.glued b (Builtin.Str.partsBetween z (Builtin.Str.occurrences z a 0 z.length (z.length+1)) a.length):=rfl
    rw [e] at q1
    split
    . next c=>rw [if_pos c] at q1;exact ⟨.str z,H1,I1.tok _,⟨_,rfl⟩,q1⟩
    . next c=>rw [if_neg c] at q1;exact ⟨fits_replaced a (by omega),.str _,H1,I1.tok _,⟨_,rfl⟩,q1⟩
theorem s4q {tg e:Expr} {te:TE} {g:TG} {rest:List Stmt} {u:TS} {pos:Pos} (he:PET X e te) (hg:PG X tg g) (hr:PSs X rest u) (hs:swapsWithSole [tg] e pos.line X.env=pure false:=by rfl) (hw:swappedStores [tg] e X.env=pure none:=by rfl)
    (h1:(assignEach [tg] X.env).map (·.2)=[assign tg X.env]:=by rfl):PSsT X (.Assign [tg] e pos::rest) (tSeq (tAsg te g) u):=by
  intro pins s σ H D I ht h
  have key:wpAny (model X.prog X.w) X.A (exec (.Assign [tg] e pos) X.env) (SP X pins { D with nx:=u D }) X.xe s:=by
    refine wpAny_Assign_stores (thn (he pins s σ H _ I ht h) λ v s1 ⟨_,x,H1,I1,r1,q1⟩=>?_) hs hw
    rw [h1]
    exact thn (hg pins s1 σ H1 x v _ I1 r1 q1) λ _ s2 q=>q
  refine wpAny_execs_cons (thn key λ f s1 q=>?_)
  cases f with
  | next=>
    obtain ⟨σ',H',I',q⟩:=q
    exact hr pins s1 σ' H' D I' q
  | ret v=>exact q
  | brk=>exact q
  | cont=>exact q
theorem PSsT.nox {st:List Stmt} {t:TS} (h:PSsT X.nox st t):PSsT X st t:=λ pins s σ H D I ht hw=>
  wpAny_mono (h pins s σ H D (I.wish _) ht hw) (λ _ _ q=>q.unwish) λ _ _ z=>False.elim z
end
theorem mAq {M:Model} {A:Around} {E:Value->Shared->Prop} {s:Shared} {scope:Scope} {globals:Addr} {n:Str} {v:Value} {qual:Str} {func:Option Addr} {code:Value} {builtins:Addr} {Q:Env->Shared->Prop} (hk:scope.kind=.function) (hnc:∀ x∈scope.names,x.2≠.cell)
    (hcf:∀ k,cellsFrom k scope.names []=[]) (hl:scope.names.lookup n=some .local)
    (h:∀ env,env=newEnv scope s.heap.objs.size globals (cellsFrom (s.heap.objs.size+1) scope.names []) qual func code none builtins->∀ s',InCallC s env.locals (bindL env.kindOf [(n,v)] λ _=>none) env.cells (bindC env.kindOf [(n,v)] λ _=>none) s'->1<=s'.toks->Q env s') :
    wpAny M A (newFunctionEnv scope globals [] [(n,v)] qual func code none builtins) Q E s:=by
  refine wpAny_newFunctionEnv hnc (λ x hx=>by simp at hx;subst hx;exact hl) (λ h' hn hs=>?_) hk
  refine h _ (by rw [hcf]) _ ⟨⟨⟨h',_,rfl⟩,?_,λ b o e=>?_,Nat.le_refl _⟩,λ y c e=>?_,?_,λ y c e=>?_⟩ (by show 1<=s.toks+1;omega)
  . have e:(bindL (newEnv scope s.heap.objs.size globals [] qual func code none builtins).kindOf [(n,v)] λ _=>none)=λ x=>List.lookup x [(n,v)].reverse:=by
      have hk2:(newEnv scope s.heap.objs.size globals [] qual func code none builtins).kindOf n=some .local:=hl
      funext x
      by_cases c:x=n
      . subst c
        simp [bindL,hk2,List.lookup]
      . have c2:(x==n)=false:=beq_eq_false_iff_ne.mpr c
        simp [bindL,hk2,List.lookup,c,c2]
    show h'.Ns s.heap.objs.size _
    rw [e];exact hn
  . have hb:b≠s.heap.objs.size:=by
      rintro rfl
      exact Nat.lt_irrefl _ (Heap.lt_size e)
    rw [hs.2 b hb]
    exact Heap.get?_push_of_some _ e
  . cases e
  . exact List.Pairwise.nil
  . cases e
section
variable {P:Program} {w:World} {K:PySem.W.Frag} {mg:Str->Option Value} {base:Heap}
theorem Fun.okT {x qual p:Str} {st:Stmt} {f:Addr} {fd:FuncData} {N:List Str} {k:Nat} {sp:Sp} (F:Fun K x qual st f fd) (S:FnScope N [p] (a6q st)) (hnc:∀ x∈(a6q st).names,x.2≠.cell) (hcf:∀ k,cellsFrom k (a6q st).names []=[]) (hlo:(a6q st).names.lookup p=some .local)
    (len:∀ vs H Q E,sp vs H Q E->vs.length=[p].length)
    (hbody:∀ (cdv:Value) (A:Around) (outer:List Env) (s:Shared) (H:Hp) (vs:List V) (Q:VK) (E:XK),Room k (A.deeper (envOfC qual (a6q st) s.heap.objs.size f cdv))->sp vs H Q E →
      ∃ t,PSsT (dIq CX0 P w K mg base N qual (a6q st) f cdv A outer s H E).nox (b0q st) t/\t { nx:=λ _ H'=>Q .non H',rt:=Q } (cJq N vs) H):FnOk P w K mg base CX0 (k+1) f fd [p] sp:=by
  obtain ⟨oc,od,kV,doc,pm,an,cdv,ct,osl,rfl,lk,hcd⟩:=F.ex
  refine ⟨len,λ A outer s H args us vs Q E hr e0 hb r hsp=>?_⟩
  have hl:=len _ _ _ _ hsp
  have hul:us.length=1:=by rw [<- r.length,hl];rfl
  obtain ⟨u,rfl⟩:∃ u,us=[u]:=List.length_eq_one_iff.mp hul
  have KX:K.In s.heap:=e0.mod.kin.keeps λ b o e=>(e0.bs b o e).1
  have lim:s.heap.NoLimit:=e0.mod.nolimit.keeps λ b o e=>(e0.bs b o e).1
  refine codeAny_call_function hr.depth (KX _ _ lk) rfl S.co S.gen rfl (PySem.W.codeRec_of KX hcd) (hb _ _ _ _ ?_)
  refine mAq S.kind hnc hcf hlo λ env he s1 x ht=>?_
  subst he
  refine ⟨lim.keeps x.toInCall.keep,codeAny_func ?_⟩
  obtain ⟨t,ht2,hq⟩:=hbody cdv A outer s H vs Q E (hr.deeper _) hsp
  have I:Inv (dIq CX0 P w K mg base N qual (a6q st) f cdv A outer s H E) [] (cJq N vs) H s1:=j1q S hr.hd e0 hl r x
  refine wpAny_mono (ht2.nox [] s1 (cJq N vs) H _ I ht hq) (λ fl s' hs=>?_) λ e s' hs=>hs
  have fin:∀ {σ':St} {H':Hp} {v:V} {u:Value},Inv (dIq CX0 P w K mg base N qual (a6q st) f cdv A outer s H E) [] σ' H' s'->RelV v u->Q v H'->CE outer P w H s Q u s':=
    λ{σ' H' v u} J rv q=>⟨v,H',J.os,J.bare,J.base,J.hok,rv,q⟩
  cases fl with
  | ret u=>
    obtain ⟨v,σ',H',J,rv,q⟩:=hs
    exact fin J rv q
  | next=>
    obtain ⟨σ',H',J,q⟩:=hs
    exact fin (v:=V.non) (u:=Value.none) J rfl q
  | brk=>
    obtain ⟨_,_,_,q⟩:=hs
    exact False.elim q
  | cont=>
    obtain ⟨_,_,_,q⟩:=hs
    exact False.elim q
end
section
variable {X:Cx}
theorem iIq:∀ (ys:List Str) (n:Nat),Vals (ys.map V.str) (strsFrom n ys)
  | [],_=>.nil
  | y::ys,n=>.cons ⟨_,rfl⟩ (iIq ys _)
theorem qNq:MtR X "str.split" (λ x xs H Q=>∃ z y:Str,x=.str z/\xs=[.str y]/\(y.length==0)=false/\z.length<=1000000/\∀ p,H p=none->Q (.ref p) (upd H p (.lst ((Txt.split z y).map V.str)))):=by
  intro pins s σ H x xs v us Q I rx rv h
  obtain ⟨z,y,rfl,rfl,hy,hz,q⟩:=h
  obtain ⟨t,rfl⟩:=rx
  obtain ⟨u,rfl,ru⟩:=rv.one
  obtain ⟨t',rfl⟩:=ru
  have hf:H s.heap.objs.size=none:=I.hok.fresh (Nat.le_refl _)
  have hl:(Txt.split z y).length<=sizeLine:=by
    have:=(PyProof.Rows.fact_split z y).2
    rw [sizeLine_eq];omega
  have laid:∀ (its:List Value) (tk:Nat),Vals ((Txt.split z y).map V.str) its->EP X pins σ Q (.ref s.heap.objs.size) { s with heap:=s.heap.push { cls:=.type "list", data:=.seq its.toArray },toks:=tk }:=λ its tk hv=>by
    refine ⟨.ref s.heap.objs.size,_,I.laid (t':=tk) (λ b u e=>Heap.get?_push_of_some _ e) (Nat.le_refl _) (show ObjOk X.prog X.w _ _ _ (.lst ((Txt.split z y).map V.str)) from ⟨by rw [List.length_map];exact hl,its,0,hv,Heap.get?_push_size _ rfl⟩),rfl,q _ hf⟩
  have slot:=PySem.F.slot_str_split
  by_cases c1:(decide (z.length < y.length)||decide (Builtin.Str.strKind z < Builtin.Str.strKind y))=true
  . have e:Txt.split z y=[z]:=by unfold Txt.split;rw [if_pos c1]
    refine PySem.call_meets slot (typeIs_str _ z t) PySem.F.entry_str_split (PySem.F.args_str_split_2 _ _) (meets_str_split_cannot_occur z y t t' c1) ?_
    exact laid [.str z t] s.toks (by rw [e];exact .cons ⟨_,rfl⟩ .nil)
  . have c1':=Bool.eq_false_iff.mpr c1
    by_cases c2:(Builtin.Str.occurrences z y 0 z.length (z.length+1)).isEmpty=true
    . have e:Txt.split z y=[z]:=by unfold Txt.split;rw [if_neg c1,if_pos c2]
      refine PySem.call_meets slot (typeIs_str _ z t) PySem.F.entry_str_split (PySem.F.args_str_split_2 _ _) (meets_str_split_not_found z y t t' c1' hy c2) ?_
      exact laid [.str z t] s.toks (by rw [e];exact .cons ⟨_,rfl⟩ .nil)
    . have e:Txt.split z y=Builtin.Str.partsBetween z (Builtin.Str.occurrences z y 0 z.length (z.length+1)) y.length:=by unfold Txt.split;rw [if_neg c1,if_neg c2]
      rw [e] at hl
      refine PySem.call_meets slot (typeIs_str _ z t) PySem.F.entry_str_split (PySem.F.args_str_split_2 _ _) (meets_str_split_sep z y t t' c1' hy (Bool.eq_false_iff.mpr c2) (by rw [sizeLine_eq];omega) hl) ?_
      refine laid _ _ ?_
      rw [e];exact iIq _ _
end
end L2
namespace L3
open PySem PySem.Spec PyProof.Rows L2
section
variable {X:Cx}
structure AET (X:Cx) (e:Expr) (t:DTE):Prop where
  run:∃ tc:TE,PET X e tc/\∀ ρ G DQ σ H Q,Bears X.K ρ G σ H->t ρ G DQ->Fin X.K G H DQ Q->tc σ H Q
structure ABT (X:Cx) (st:List Stmt) (t:DTS):Prop where
  run:∃ tc:TS,PSsT X st tc/\∀ DD Dc ρ G σ H,Bears X.K ρ G σ H->t DD ρ G->EndsOk X.K G H DD Dc->tc Dc σ H
theorem yAq {e:Expr} {t:DTE} (h:AE X e t):AET X e t:=by
  obtain ⟨c,j,r⟩:=h.run
  exact ⟨c,zFq j.run,r⟩
abbrev aK6q (a b:Str) (to:DTE):DTE:=λ ρ G Q=>to ρ G λ x G1=>match x with
  | .str z=>z.length+(z.length+1) * b.length<=1000000/\Q (.str (Txt.replace z a b)) G1
  | _=>False
theorem hFq {o:Expr} {to:DTE} {a b:Str} {k1 k2:Nat} {p1 p2 apos cpos:Pos} (ho:AET X o to) (hab:(a==b)=false:=by decide) (hbase:attributeBase o "replace" X.env (eval o X.env)=eval o X.env:=by rfl) (hline:(apos.endLine==cpos.line)=true:=by rfl) :
    AET X (.Call (.Attribute o "replace" apos) [.Constant (.str a) k1 p1,.Constant (.str b) k2 p2] [] cpos) (aK6q a b to):=by
  obtain ⟨c,j,r⟩:=ho.run
  refine ⟨_,s5q j hab hbase hline,λ ρ G DQ σ H Q B q F=>r ρ G _ σ H _ B q λ x G1 v H1 g1 ax q1=>?_⟩
  cases x with
  | str z=>
    cases (show v=.str z from ax)
    exact ⟨z,rfl,q1.1,F (.str (Txt.replace z a b)) _ _ _ g1 rfl q1.2⟩
  | _=>exact (show False from q1).elim
theorem uEq {tg e:Expr} {te:DTE} {g:DTG} {rest:List Stmt} {u:DTS} {pos:Pos} (he:AET X e te) (hg:AG X tg g) (hr:AB X rest u) (hs:swapsWithSole [tg] e pos.line X.env=pure false:=by rfl) (hw:swappedStores [tg] e X.env=pure none:=by rfl)
    (h1:(assignEach [tg] X.env).map (·.2)=[assign tg X.env]:=by rfl):ABT X (.Assign [tg] e pos::rest) (dSeq (dAsg te g) u):=by
  obtain ⟨c1,j1,r1⟩:=he.run
  obtain ⟨c2,j2,r2⟩:=hg.run
  obtain ⟨c3,j3,r3⟩:=hr.run
  exact ⟨_,s4q j1 j2.run j3.run hs hw h1,λ DD Dc ρ G σ H B q F=>r1 ρ G _ σ H _ B q λ d G1 v H1 g1 a q1=>r2 d v ρ G1 _ σ H1 _ (B.go g1) a q1 λ ρ' G' σ' H' g' b q'=>r3 DD Dc ρ' G' σ' H' b q' (F.after (g1.trans g'))⟩
def z7q:D->List D->DV->DK->Prop:=λ x xs G Q=>match x,xs with
  | .str z,[.str y]=>(y.length==0)=false/\z.length<=1000000/\∀ p,G p=none->Q (.ref p) (up G p (.lst ((Txt.split z y).map D.str)))
  | _,_=>False
theorem mSq:AMt X "str" "str.split" qCq z7q:=by
  refine ⟨_,⟨qNq⟩,λ x v G H _ ax h=>h9q ax h,λ x xs vx vs G H DQ Q v ax al r F=>?_⟩
  cases x with
  | str z=>
    cases ax
    rcases xs with _ | ⟨y,_ | ⟨_,_⟩⟩
    . exact (show False from r).elim
    . cases y with
      | str y=>
        obtain ⟨u,r',e,a,l⟩:=al
        subst e
        cases a
        cases (show r'=[] from l)
        obtain ⟨r1,r2,r3⟩:=r
        exact ⟨z,y,rfl,rfl,r1,r2,λ p hp=>F (.ref p) _ _ _ (Go.newL v hp (i6q _)) rfl (r3 p (v.none hp))⟩
      | _=>exact (show False from r).elim
    . exact (show False from by cases y<;>exact r).elim
  | _=>exact (show False from r).elim
end
theorem okDT {P:Program} {w:World} {K:PySem.W.Frag} {mg:Str->Option Value} {base:Heap} {x qual p:Str} {st:Stmt} {f:Addr} {fd:FuncData} {N:List Str} {k:Nat} {dsp:DSp} (F:Fun K x qual st f fd) (S:FnScope N [p] (a6q st)) (hnc:∀ x∈(a6q st).names,x.2≠.cell) (hcf:∀ k,cellsFrom k (a6q st).names []=[]) (hlo:(a6q st).names.lookup p=some .local)
    (len:∀ ds G DQ,dsp ds G DQ->ds.length=[p].length)
    (hbody:∀ (cdv:Value) (A:Around) (outer:List Env) (s:Shared) (H:Hp) (E:XK),Room k (A.deeper (PyProof.Rows.envOfC qual (a6q st) s.heap.objs.size f cdv))->∀ (ds:List D) (G:DV) (DQ:DK),dsp ds G DQ →
      ∃ t,ABT (dIq CX0 P w K mg base N qual (a6q st) f cdv A outer s H E).nox (b0q st) t/\t { nx:=λ _ G'=>Dr DQ .non G',rt:=Dr DQ } (dEq N ds) G):FnOk P w K mg base CX0 (k+1) f fd [p] (aSq K dsp):=by
  refine F.okT S hnc hcf hlo (λ vs H Q E h=>?_) (λ cdv A outer s H vs Q E hr h=>?_)
  . obtain ⟨ds,G,DQ,r,_,h,_⟩:=h
    rw [r.len];exact len ds G DQ h
  . obtain ⟨ds,G,DQ,r,v,h,Fn⟩:=h
    obtain ⟨t,⟨tc,j,imp⟩,q⟩:=hbody cdv A outer s H E hr ds G DQ h
    refine ⟨tc,j,imp _ _ (dEq N ds) G (L2.cJq N vs) H (d5q r v) q ⟨λ ρ' G' σ' H' g b ⟨G2,s2,q2⟩=>Fn .non G2 .non H' (g.sub s2) rfl q2,λ d G' v H' g a ⟨G2,s2,q2⟩=>Fn d G2 v H' (g.sub s2) a q2,λ _ _ _ _ _ _ z=>z.elim,λ _ _ _ _ _ _ z=>z.elim⟩⟩
end L3
namespace L3
open PySem PySem.Spec PyProof.Rows L2
def spl (c:Nat):List Nat->List Nat->List (List Nat)
  | cur,[]=>[cur]
  | cur,x::l=>if x=c then cur::spl c [] l else spl c (cur++[x]) l
def rep (c:Nat) (r:List Nat) (l:List Nat):List Nat:=l.flatMap λ x=>if x=c then r else [x]
def jn (r:List Nat):List (List Nat)->List Nat
  | []=>[]
  | [p]=>p
  | p::q::ps=>p++(r++jn r (q::ps))
theorem sVq (c:Nat):∀ l cur,spl c cur l≠[]
  | [],_=>by simp [spl]
  | x::l,cur=>by
    rw [spl];split
    . simp
    . exact sVq c l _
theorem uSq (r p:List Nat) {ps:List (List Nat)} (h:ps≠[]):jn r (p::ps)=p++(r++jn r ps):=by
  cases ps with
  | nil=>exact absurd rfl h
  | cons q ps=>rfl
theorem o0q (c:Nat) (r:List Nat):∀ l cur,jn r (spl c cur l)=cur++rep c r l
  | [],cur=>by simp [spl,jn,rep]
  | x::l,cur=>by
    rw [spl]
    split
    . next h=>rw [uSq _ _ (sVq c l _),o0q c r l []];simp [rep,h]
    . next h=>rw [o0q c r l];simp [rep,h]
theorem l6q (c:Nat):∀ (p cur:List Nat),c ∉ p->∀ l,spl c cur (p++c::l)=(cur++p)::spl c [] l
  | [],cur,_,l=>by rw [List.nil_append,spl,if_pos rfl,List.append_nil]
  | x::p,cur,h,l=>by
    have hx:x≠c:=λ e=>h (by simp [e])
    rw [List.cons_append,spl,if_neg hx,l6q c p _ (λ e=>h (List.mem_cons_of_mem _ e)) l]
    simp
theorem n3q (c:Nat):∀ (p cur:List Nat),c ∉ p->spl c cur p=[cur++p]
  | [],cur,_=>by simp [spl]
  | x::p,cur,h=>by
    have hx:x≠c:=λ e=>h (by simp [e])
    rw [spl,if_neg hx,n3q c p _ (λ e=>h (List.mem_cons_of_mem _ e))]
    simp
theorem tQq (c:Nat):∀ {ps:List (List Nat)},ps≠[]->(∀ p∈ps,c ∉ p)->spl c [] (jn [c] ps)=ps
  | [],h,_=>absurd rfl h
  | [p],_,h=>by rw [jn,n3q c p [] (h p (by simp))];rfl
  | p::q::ps,_,h=>by
    have:=tQq c (ps:=q::ps) (by simp) λ z hz=>h z (List.mem_cons_of_mem _ hz)
    rw [jn]
    show spl c [] (p++c::jn [c] (q::ps))=_
    rw [l6q c p [] (h p (by simp)),this];rfl
theorem gXq (y:Str):∀ ps:List Str,(y.join ps).cps.toList=jn y.cps.toList (ps.map λ p=>p.cps.toList)
  | []=>rfl
  | [p]=>rfl
  | p::q::ps=>by
    have ih:=gXq y (q::ps)
    show (p++y++y.join (q::ps)).cps.toList=_
    rw [PySem.W.KT.app_list,PySem.W.KT.app_list,ih]
    simp [jn]
theorem iPq (x:Str) (c:Nat):(Txt.split x ⟨#[c]⟩).map (λ p=>p.cps.toList)=spl c [] x.cps.toList:=by
  have h1:=StrLaws.join_split x ⟨#[c]⟩
  have h2:=gXq ⟨#[c]⟩ (Txt.split x ⟨#[c]⟩)
  rw [h1] at h2
  rw [h2]
  refine (tQq c (λ e=>?_) λ p hp=>?_).symm
  . have:=(fact_split x ⟨#[c]⟩).1
    rw [List.map_eq_nil_iff] at e
    rw [e] at this;simp at this
  . obtain ⟨q,hq,rfl⟩:=List.mem_map.mp hp
    exact StrLaws.split_free x c q hq
theorem eKq (x z:Str) (c:Nat):(Txt.replace x ⟨#[c]⟩ z).cps.toList=rep c z.cps.toList x.cps.toList:=by
  rw [StrLaws.replace_one,gXq,iPq,o0q];rfl
def wds:List Nat->List Nat->List (List Nat)
  | cur,[]=>if cur=[] then [] else [cur]
  | cur,c::l=>if c=40\/c=41 then (if cur=[] then [] else [cur])++[c]::wds [] l else if c=32\/c=10 then (if cur=[] then [] else [cur])++wds [] l else wds (cur++[c]) l
def sp3 (l:List Nat):List Nat:=rep 10 [32] (rep 41 [32,41,32] (rep 40 [32,40,32] l))
theorem eJq (c:Nat) (r:List Nat) (x:Nat) (l:List Nat):rep c r (x::l)=(if x=c then r else [x])++rep c r l:=rfl
theorem qKq (x:Nat) (l:List Nat):sp3 (x::l)=(if x=40 then [32,40,32] else if x=41 then [32,41,32] else if x=10 then [32] else [x])++sp3 l:=by
  unfold sp3
  rw [eJq]
  by_cases h1:x=40
  . subst h1;rfl
  . rw [if_neg h1,if_neg h1,List.singleton_append,eJq]
    by_cases h2:x=41
    . subst h2;rfl
    . rw [if_neg h2,if_neg h2,List.singleton_append,eJq]
theorem dTq:∀ l cur,(spl 32 cur (sp3 l)).filter (λ w=>!w.isEmpty)=wds cur l
  | [],cur=>by
    show (spl 32 cur []).filter _=_
    rw [spl,wds]
    cases cur<;>simp
  | x::l,cur=>by
    have hc:∀ (t:List (List Nat)),(cur::t).filter (λ w=>!w.isEmpty)=(if cur=[] then [] else [cur])++t.filter (λ w=>!w.isEmpty):=λ t=>by cases cur<;>simp
    rw [qKq,wds]
    by_cases h1:x=40
    . subst h1
      have:=dTq l []
      simp [spl,hc,this]
    . by_cases h2:x=41
      . subst h2
        have:=dTq l []
        simp [spl,hc,this]
      . by_cases h3:x=10
        . subst h3
          have:=dTq l []
          simp [spl,hc,this]
        . by_cases h4:x=32
          . subst h4
            have:=dTq l []
            simp [spl,hc,this]
          . have:=dTq l (cur++[x])
            simp [spl,h1,h2,h3,h4,this]
def Wd (w:List Nat):Prop:=w=[40]\/w=[41]\/(w≠[]/\∀ c∈w,c≠40/\c≠41/\c≠32/\c≠10)
def Brk (w:List Nat):Prop:=w=[40]\/w=[41]
def Bls (g:List Nat):Prop:=∀ c∈g,c=32\/c=10
def Hd4 (r:List Nat):Prop:=r=[]\/∃ c t,r=c::t/\(c=40\/c=41\/c=32\/c=10)
theorem nXq:∀ {g:List Nat} (r:List Nat),Bls g->wds [] (g++r)=wds [] r
  | [],r,_=>rfl
  | c::g,r,h=>by
    have hc:=h c (by simp)
    rw [List.cons_append,wds,if_neg (by omega),if_pos (by omega)]
    simpa using nXq r λ d hd=>h d (List.mem_cons_of_mem _ hd)
theorem n1q:∀ (w cur r:List Nat),(∀ c∈w,c≠40/\c≠41/\c≠32/\c≠10)->wds cur (w++r)=wds (cur++w) r
  | [],cur,r,_=>by simp
  | c::w,cur,r,h=>by
    have hc:=h c (by simp)
    rw [List.cons_append,wds,if_neg (by omega),if_neg (by omega),n1q w _ r λ d hd=>h d (List.mem_cons_of_mem _ hd)]
    simp
theorem aE3q {w r:List Nat} (hw:w≠[]) (hr:Hd4 r):wds w r=w::wds [] r:=by
  rcases hr with rfl | ⟨c,t,rfl,hc⟩
  . simp [wds,hw]
  . rw [wds,wds]
    by_cases h1:c=40\/c=41
    . rw [if_pos h1,if_pos h1,if_neg hw];simp
    . have h2:c=32\/c=10:=by omega
      rw [if_neg h1,if_neg h1,if_pos h2,if_pos h2,if_neg hw];simp
theorem lBq {w r:List Nat} (h:Wd w) (hr:Hd4 r\/Brk w):wds [] (w++r)=w::wds [] r:=by
  rcases h with rfl | rfl | ⟨h1,h2⟩
  . rfl
  . rfl
  . rw [n1q w [] r h2,List.nil_append]
    refine aE3q h1 ?_
    rcases hr with hr | hr | hr
    . exact hr
    . subst hr;have:=h2 40 (by simp);omega
    . subst hr;have:=h2 41 (by simp);omega
def wS (w:List Nat):Str:=⟨w.toArray⟩
def wD (w:List Nat):D:=.str (wS w)
theorem t9q (w:List Nat):(wS w).length=w.length:=by simp [wS,Str.length]
def i0q:DSp:=λ ds G Q=>∃ z:Str,ds=[.str z]/\z.length<=20000/\∀ l,G l=none->Q (.ref l) (up G l (.lst ((wds [] z.cps.toList).map wD)))
theorem nYq {c:Nat} {r:List Nat} (hr:r.length<=3):∀ l:List Nat,(rep c r l).length<=3 * l.length
  | []=>by simp [rep]
  | x::l=>by
    have:=nYq (c:=c) hr l
    rw [eJq,List.length_append,List.length_cons]
    split
    . omega
    . simp;omega
theorem s40:(("(" : String):Str)=⟨#[40]⟩:=by decide +kernel
theorem s41:((")" : String):Str)=⟨#[41]⟩:=by decide +kernel
theorem s10:(("\n" : String):Str)=⟨#[10]⟩:=by decide +kernel
theorem s32:((" " : String):Str)=⟨#[32]⟩:=by decide +kernel
theorem s340:((" ( " : String):Str)=⟨#[32,40,32]⟩:=by decide +kernel
theorem s341:((" ) " : String):Str)=⟨#[32,41,32]⟩:=by decide +kernel
theorem rep3 (z:Str):(Txt.replace (Txt.replace (Txt.replace z "(" " ( ") ")" " ) ") "\n" " ").cps.toList=sp3 z.cps.toList:=by
  rw [s40,s340,s41,s341,s10,s32,eKq,eKq,eKq];rfl
theorem mUq (z y:Str) (c:Nat) (hy:y.length<=3):(Txt.replace z ⟨#[c]⟩ y).length<=3 * z.length:=by
  have e:∀ x:Str,x.cps.toList.length=x.length:=λ x=>Array.length_toList
  rw [<- e,eKq,<- e z]
  exact nYq (by rw [e];exact hy) _
theorem rBq {x:Str} {l:List Nat} (h:x.cps.toList=sp3 l):(Txt.split x " ").filterMap (λ s:Str=>if s=="" then none else some (D.str s))=(wds [] l).map wD:=by
  have e:Txt.split x " " = (spl 32 [] (sp3 l)).map wS:=by
    rw [s32,<- h,<- iPq,List.map_map]
    exact (List.map_id _).symm
  rw [e,<- dTq]
  induction spl 32 [] (sp3 l) with
  | nil=>rfl
  | cons p ps ih=>
    rw [List.map_cons,List.filterMap_cons,ih]
    cases p with
    | nil=>rfl
    | cons c p=>
      have:(wS (c::p)==("" : Str))=false:=by
        rw [beq_eq_false_iff_ne]
        intro e
        have:=congrArg Str.length e
        have h0:(("" : String):Str).length=0:=by decide
        rw [t9q,h0] at this
        simp at this
      rw [this];rfl
end L3
set_option Elab.async false
set_option linter.all false
set_option maxRecDepth 100000
namespace L3
open PySem L2
abbrev cL (z:Str):List Nat:=z.cps.toList
def Tm.cl:Nat->Tm->Prop
  | w,.name n=>n < w
  | _,.whole k=>k.natAbs < 10 ^ 9
  | w,.way t=>t.cl (w+1)
  | w,.give t u=>t.cl w/\u.cl w
  | w,.pair t u=>t.cl w/\u.cl w
  | w,.first t=>t.cl w
  | w,.second t=>t.cl w
  | w,.plus t u=>t.cl w/\u.cl w
  | w,.look t u v=>t.cl w/\u.cl w/\v.cl w
theorem z2q (k:Int):Wd (cL (cHq k)):=by
  refine .inr (.inr ⟨(p5q k).2,λ c hc=>?_⟩)
  have:=(p5q k).1 c hc
  omega
theorem aG8q:∀ z∈words7,Wd (cL z):=by
  intro z hz
  refine .inr (.inr ?_)
  revert z
  decide +kernel
structure FitC (p:Tm) (w:Nat) (z d:Int):Prop where
  cl:p.cl w
  sz:(p.sz:Int)<=z
  dp:(p.dp:Int)<=d
def hUq:DSp:=λ ds G Q=>∃ a,ds=[.ref a]/\Fd G a/\∀ n G',Fx a G G'->n.natAbs < 10 ^ 9->Q (Tm.enc (.whole n)) G'
def hNq:DSp:=λ ds G Q=>∃ (a:Addr) (w:Nat),ds=[.ref a,.int w]/\Fd G a/\w < 2 ^ 32/\∀ p G',Fx a G G'->FitC p w 1 0->Q p.enc G'
def i4q (n:Nat):DSp:=λ ds G Q=>∃ (a:Addr) (w:Nat) (room deep:Int),ds=[.ref a,.int w,.int room,.int deep]/\Fd G a/\(w:Int)+deep < 2 ^ 31/\room < 1000/\0<=deep/\deep < n/\∀ p G',Fx a G G'->FitC p w (max room 1) deep->Q p.enc G'
def Tm.node2:Tm->Bool
  | .name _=>false
  | .whole _=>false
  | .way _=>false
  | _=>true
theorem aE5q {t u:Tm} (h:t.node2=true) {w:Nat} (hc:t.cl w) (hu:u∈t.inn):u.cl w:=by
  cases t<;>first | cases h | skip
  all_goals simp only [Tm.inn,List.mem_cons,List.not_mem_nil,or_false] at hu
  all_goals simp only [Tm.cl] at hc
  . rcases hu with rfl | rfl;exact hc.1;exact hc.2
  . rcases hu with rfl | rfl;exact hc.1;exact hc.2
  . subst hu;exact hc
  . subst hu;exact hc
  . rcases hu with rfl | rfl;exact hc.1;exact hc.2
  . rcases hu with rfl | rfl | rfl;exact hc.1;exact hc.2.1;exact hc.2.2
theorem pOq {t:Tm} (h:t.node2=true):(t.word=="whole")=false/\(t.word=="name")=false/\(t.word=="way")=false/\t.leaf=false/\(cL t.word).length<=6:=by
  cases t<;>first | (refine ⟨?_,?_,?_,rfl,?_⟩<;>simp only [Tm.word]<;>decide +kernel) | (exact Bool.noConfusion h)
end L3
set_option Elab.async false
set_option linter.all false
set_option maxRecDepth 100000
namespace L3
open PySem L2
inductive Aw where | prog | word | name | brk | noth
def Aw.str:Aw->Str
  | .prog=>"program"
  | .word=>"word"
  | .name=>"name"
  | .brk=>"bracket"
  | .noth=>"nothing"
def cGq (z:Str):Nat:=if z = "way" then 1 else if z = "give" then 2 else if z = "pair" then 2 else if z = "first" then 1 else if z = "second" then 1 else if z = "plus" then 2 else 3
end L3
set_option Elab.async false
set_option linter.all false
set_option maxRecDepth 100000
namespace L2
open PySem PySem.Spec PyProof.Rows
section
variable {X:Cx} {pins:List (Addr × Obj)} {σ:St} {H:Hp} {s:Shared} {a:Addr} {v:V} {u r:Value} {kvs:List (Key × V)} {k:Key} {A:Around} {E:Value->Shared->Prop}
theorem rCq {Q:Value->Shared->Prop} (I:Inv X pins σ H s) (e:H a=some (.dK kvs)) (hl:kvs.length < sizeLine) (ry:RelV (kV k) u) (rv:RelV v r) (h1:∀ w d s',cSq kvs k=some d->Inv X pins σ H s'->RelV d w->Q w s')
    (h2:cSq kvs k=none->∀ s',Inv X pins σ (upd H a (.dK (hCq kvs k v))) s'->Q r s'):wpAny (model X.prog X.w) A (call (.builtin "dict.setdefault") [.ref a,u,r]) Q E s:=by
  obtain ⟨z,hd,vs,rel,dd⟩:=y5q I.hok e
  refine call_meetsIn PySem.F.slot_dict_setdefault dd.typeIs PySem.F.entry_dict_setdefault (PySem.F.args_dict_setdefault_3 _ _ _) (kt_meets_setdefault (b3q X.prog X.w) a (mEq ry) hd r) ⟨vs,dd,by rw [<- rel.length];exact z,λ v' hv'=>?_,λ hn h' dd' hs=>?_⟩
  . have rr:=rel.val k
    rw [hv'] at rr
    cases hk:cSq kvs k with
    | none=>rw [hk] at rr;exact (show False from rr).elim
    | some d=>rw [hk] at rr;exact h1 v' d _ hk (I.tok _) rr
  . have rr:=rel.val k
    rw [hn] at rr
    cases hk:cSq kvs k with
    | some d=>rw [hk] at rr;exact (show False from rr).elim
    | none=>
      have he:∃ q,h'.get? a=some q:=let ⟨q,_,_,hq,_⟩:=dd';⟨q,hq⟩
      have hl':(hCq kvs k v).length<=sizeLine:=by have:=eOq kvs k v;omega
      exact h2 hk _ (pAq I (by rw [e];exact True.intro) hs he (tNq hl' hd (rel.put k rv) dd'))
end
def s2q (td ty tx:TE):TE:=λ σ H Q=>td σ H λ x H1=>∃ a,x=.ref a/\IsD H1 a/\ty σ H1 λ y H2=>tx σ H2 λ z H3=>∃ kvs k,H3 a=some (.dK kvs)/\y=kV k/\kvs.length < sizeLine/\(∀ d,cSq kvs k=some d->Q d H3)/\(cSq kvs k=none->Q z (upd H3 a (.dK (hCq kvs k z))))
section
variable {X:Cx} {o e f:Expr} {apos cpos:Pos} {td ty tx:TE}
theorem m7q (ho:PE X o td) (he:PE X e ty) (hf:PE X f tx) (m:M2 X o "setdefault" apos e f cpos):PE X (.Call (.Attribute o "setdefault" apos) [e,f] [] cpos) (s2q td ty tx):=by
  intro pins s σ H Q I h
  refine wpAny_Call_method m.base m.few m.line PySem.F.plainAttrs_dict PySem.F.slot_dict_setdefault PySem.F.type_dict_setdefault (thn (ho pins s σ H _ I h) λ u s1 ⟨x,H1,I1,rx,a,ex,d,q1⟩=>?_)
  subst ex
  obtain rfl:u=Value.ref a:=rx
  obtain ⟨t1,t2,_⟩:=tIq I1 d
  refine ⟨t1,t2,?_⟩
  rw [m.trees]
  refine Calls.callWith_builtin rfl (Calls.evalArgs_plain (Calls.spliced_cons (thn (he pins s1 σ H1 _ I1 q1) λ iv s2 ⟨y,H2,I2,ry,q2⟩=>
    Calls.spliced_cons (thn (hf pins s2 σ H2 _ I2 q2) λ fv s3 ⟨z,H3,I3,rz,kvs,k,ea,ey,hl,q3,q4⟩=>Calls.spliced_nil ?_))))
  subst ey
  exact rCq I3 ea hl ry rz (λ w d s' hk I4 rw'=>⟨d,H3,I4,rw',q3 d hk⟩) λ hk s' I4=>⟨z,_,I4,rz,q4 hk⟩
end
end L2
namespace L3
open PySem PySem.Spec L2
section
variable {X:Cx} {o e f:Expr} {apos cpos:Pos} {td ti tx:DTE}
def tFq:D->DV->Prop:=λ x G=>match x with
  | .ref a=>onD G a λ _=>True
  | _=>False
abbrev sBq (td ti tx:DTE):DTE:=λ ρ G Q=>td ρ G λ x G1=>tFq x G1/\ti ρ G1 λ y G2=>tx ρ G2 λ z G3=>match x with
  | .ref a=>onD G3 a λ kvs=>∃ k,fPq y=some k/\kvs.length < sizeLine/\(∀ d,d4q kvs k=some d->Q d G3)/\(d4q kvs k=none->Q z (up G3 a (.dK (putKD kvs k z))))
  | _=>False
abbrev aE4q (td ti tx:DTE):DTE:=λ ρ G Q=>td ρ G λ x G1=>tFq x G1/\ti ρ G1 λ y G2=>tx ρ G2 λ z G3=>match x with
  | .ref a=>onD G3 a λ kvs=>∃ k,fPq y=some k/\Q ((d4q kvs k).getD z) G3
  | _=>False
theorem oLq (hu:X.A.units+200 < cLine) (ho:AE X o td) (he:AE X e ti) (hf:AE X f tx) (m:M2 X o "get" apos e f cpos):AE X (.Call (.Attribute o "get" apos) [e,f] [] cpos) (aE4q td ti tx):=by
  obtain ⟨co,jo,ro⟩:=ho.run
  obtain ⟨ci,ji,ri⟩:=he.run
  obtain ⟨cx,jx,rx⟩:=hf.run
  refine ⟨_,⟨sUq (by omega) jo.run ji.run jx.run m⟩,λ ρ G DQ σ H Q B q F=>ro ρ G _ σ H _ B q λ x G1 v H1 g1 ax ⟨q0,q1⟩=>?_⟩
  cases x with
  | ref a=>
    cases ax
    obtain ⟨_,gs0,_,_,e0,_⟩:=dRq g1.vw q0
    refine ⟨a,rfl,.inl ⟨gs0,.inl e0⟩,ri ρ G1 _ σ H1 _ (B.go g1) q1 λ y G2 u H2 g2 ay q2=>rx ρ G2 _ σ H2 _ ((B.go g1).go g2) q2 λ z G3 uz H3 g3 az q3=>?_⟩
    obtain ⟨kvs,gs,⟨k,ek,q4⟩,e1,e2,r⟩:=dRq g3.vw q3
    have ay':=ay.mono g3.tup
    rw [dMq ek] at ay'
    have:=l5q ay'
    subst this
    refine ⟨_,DGet.k e2,?_⟩
    cases hd:d4q kvs k with
    | none=>
      rw [hd] at q4
      rw [(r.val (k:=k)).2 hd]
      exact F z G3 uz H3 ((g1.trans g2).trans g3) az q4
    | some d=>
      rw [hd] at q4
      obtain ⟨w,hw,aw⟩:=(r.val (k:=k)).1 d hd
      rw [hw]
      exact F d G3 w H3 ((g1.trans g2).trans g3) aw q4
  | _=>exact (show False from q0).elim
theorem m0q (ho:AE X o td) (he:AE X e ti) (hf:AE X f tx) (m:M2 X o "setdefault" apos e f cpos):AE X (.Call (.Attribute o "setdefault" apos) [e,f] [] cpos) (sBq td ti tx):=by
  obtain ⟨co,jo,ro⟩:=ho.run
  obtain ⟨ci,ji,ri⟩:=he.run
  obtain ⟨cx,jx,rx⟩:=hf.run
  refine ⟨_,⟨m7q jo.run ji.run jx.run m⟩,λ ρ G DQ σ H Q B q F=>ro ρ G _ σ H _ B q λ x G1 v H1 g1 ax ⟨q0,q1⟩=>?_⟩
  cases x with
  | ref a=>
    cases ax
    obtain ⟨_,gs0,_,_,e0,_⟩:=dRq g1.vw q0
    refine ⟨a,rfl,.inl ⟨gs0,.inl e0⟩,ri ρ G1 _ σ H1 _ (B.go g1) q1 λ y G2 u H2 g2 ay q2=>rx ρ G2 _ σ H2 _ ((B.go g1).go g2) q2 λ z G3 uz H3 g3 az q3=>?_⟩
    obtain ⟨kvs,gs,⟨k,ek,hl,q4,q5⟩,e1,e2,r⟩:=dRq g3.vw q3
    have ay':=ay.mono g3.tup
    rw [dMq ek] at ay'
    have:=l5q ay'
    subst this
    have len:gs.length=kvs.length:=by have:=congrArg List.length r.1;simpa using this.symm
    refine ⟨gs,k,e2,rfl,by omega,λ d hd=>?_,λ hn=>?_⟩
    . cases hk:d4q kvs k with
      | none=>rw [(r.val (k:=k)).2 hk] at hd;cases hd
      | some d'=>
        obtain ⟨w,hw,aw⟩:=(r.val (k:=k)).1 d' hk
        rw [hw] at hd;cases hd
        exact F d' G3 _ H3 ((g1.trans g2).trans g3) aw (q4 d' hk)
    . cases hk:d4q kvs k with
      | some d'=>
        obtain ⟨w,hw,aw⟩:=(r.val (k:=k)).1 d' hk
        rw [hw] at hn;cases hn
      | none=>
        have g4:=Go.setD g3.vw e1 (r.putKD (k:=k) az)
        exact F z _ _ _ (((g1.trans g2).trans g3).trans g4) (az.mono g4.tup) (q5 hk)
  | _=>exact (show False from q0).elim
end
section
variable {X:Cx} {C:Addr} {o value:Expr} {pos tpos:Pos} {ta te:DTE}
theorem q7q {f:Str} (c:Cls X.K C) (n:NoAttr X.K C f) (ha:AE X o ta) (he:AE X value te):AS X (.AugAssign (.Attribute o f tpos) .Sub value pos) (l0q C f ta te (· - ·)):=by
  obtain ⟨ca,ja,ra⟩:=ha.run
  obtain ⟨ce,je,re⟩:=he.run
  refine ⟨_,⟨iTq ja.run je.run xOq⟩,λ DD Dc ρ G σ H B q F=>ra ρ G _ σ H _ B q λ x G1 v H1 g1 ax q1=>?_⟩
  cases x with
  | ref a=>
    cases ax
    obtain ⟨fs,dx,gs,q2,e1,e2,r⟩:=d7q g1.vw q1
    unfold wEq at q2
    split at q2
    . next d hl=>
      obtain ⟨u,h1,h2⟩:=r.lookup hl
      refine ⟨a,C,dx,gs,u,rfl,e2,c,n,h1,re ρ G1 _ σ H1 _ (B.go g1) q2 λ y G2 u2 H2 g2 ay q3=>?_⟩
      split at q3
      . next i j=>
        cases h2;cases ay
        obtain ⟨fs',dx',gs',⟨hl',q4⟩,e1',e2',r'⟩:=d7q g2.vw q3
        have g3:=Go.setI g2.vw e1' e2' (r'.put (f:=f) (d:=.int (i - j)) (v:=.int (i - j)) rfl)
        exact ⟨i,j,rfl,rfl,dx',gs',e2',by rw [r'.len];exact hl',F.nx _ _ _ _ ((g1.trans g2).trans g3) (((B.go g1).go g2).go g3) q4⟩
      . exact q3.elim
    . exact q2.elim
  | _=>exact (show False from q1).elim
abbrev xBq:DTE:=λ _ G Q=>∀ p,G p=none->Q (.ref p) (up G p (.dK []))
theorem rOq:AE X (.Dict [] [] pos) xBq:=⟨_,⟨r9q⟩,λ ρ G DQ σ H Q B q F p hp=>by
  have hg:G p=none:=by
    cases z:G p with
    | none=>rfl
    | some o=>obtain ⟨u,hu⟩:=(B.vw p o z).some;rw [hp] at hu;cases hu
  exact F (.ref p) _ _ _ (Go.newD B.vw hp (kvs:=[]) (gs:=[]) ⟨rfl,rfl⟩) rfl (q p hg)⟩
end
end L3
set_option Elab.async false
set_option linter.all false
set_option maxRecDepth 100000
namespace L3
open PySem PyProof L2
section
variable {X:Cx} {C:Addr} {p pos:Pos}
abbrev aD5q (C:Addr) (dsp:DSp):DTE:=λ ρ G Q=>∀ x,G x=none->dsp [.ref x] (up G x (.ins C [])) λ d G2=>d=.non/\Q (.ref x) G2
theorem qVq {k j:Nat} {x:Str} {ps:List Str} {dsp:DSp} (Gt:MkGot X.prog X.w X.K X.mg X.base k C x ps (aSq X.K dsp)) (hr:Room j X.A) (hk:k+1<=j) (hg:Gl X x) (hdb:(x==("__debug__" : Str))=false:=by decide) :
    AE X (.Call (.Name x p) [] [] pos) (aD5q C dsp):=by
  obtain ⟨f,fd,Fk,M,hm,hb⟩:=Gt.ex
  refine ⟨_,⟨rNq (dvs:=[]) M Fk (hr.mono hk) hg hm hb .nil wNq hdb⟩,λ ρ G DQ σ H Q B q F z dx hz hd ne=>?_⟩
  have g2:=Go.newI (C:=C) B.vw hz hd ne
  refine ⟨[.ref z],_,_,⟨_,_,rfl,rfl,rfl⟩,g2.vw,q z (B.vw.none hz),λ d G3 v H3 g3 ad hq=>?_⟩
  obtain ⟨rfl,hq⟩:=hq
  cases ad
  exact ⟨rfl,F (.ref z) G3 _ H3 (g2.trans g3) rfl hq⟩
end
end L3
set_option Elab.async false
set_option linter.all false
set_option maxRecDepth 100000
namespace L2
open PySem PySem.Spec PyProof.Rows
def zPq (K:PySem.W.Frag) (a:Addr):It:=⟨λ i H=>∃ xs x,SqL K H a xs/\xs[i]?=some x,λ i H v H'=>∃ T x,v=.ref T/\H T=none/\H'=upd H T (.tup [.int i,x])/\∀ xs,SqL K H a xs->xs[i]?=some x,λ i H=>∃ xs,SqL K H a xs/\xs.length<=i⟩
theorem mCq {P:Program} {w:World} {K:PySem.W.Frag} {es:List Expr} {k:Nat} {pos:Pos} (e it a:Addr) (hne:e≠it) :
    Turn P w K (.Tuple es k pos) (zPq K a) [e,it] e (λ i h=>(∃ old,IsEnum h e it i old)/\h.IsListIter it a i) where
  mem:=by simp
  obj:=λ i h st b hb=>by
    obtain ⟨⟨old,a1⟩,o,a2,c,d⟩:=st
    simp only [List.mem_cons,List.not_mem_nil,or_false] at hb
    rcases hb with rfl | rfl
    . exact ⟨_,a1,λ v z=>by cases (show Data.fields _=Data.cell v from z)⟩
    . exact ⟨o,a2,λ v z=>by rw [d] at z;cases z⟩
  keep:=λ i h h' st kk=>⟨let ⟨old,a1⟩:=st.1;⟨old,kk _ (by simp) _ a1⟩,st.2.at λ o ho=>kk _ (by simp) _ ho⟩
  item:=by
    intro X hP hw hK hc i pins s σ H E I hf st hg
    subst hP hw hK
    obtain ⟨⟨old,a1⟩,a2⟩:=st
    obtain ⟨xs,v0,hq,hx⟩:=hg
    obtain ⟨its,rv,p,hz⟩:=I.list hq
    obtain ⟨u0,hu,ru⟩:=rv.get hx
    refine o2q (R:=λ y=>y=u0) (P:=λ h=>h.IsListIter it a (i+1)) a1 hne (λ h h' p k=>p.at k) (λ A Q E q=>wpAny_nextOf_list_item a2 p.isList (x:=u0) (by simpa using hu) λ h' st' sb=>q h' _ _ rfl sb st') λ h' tk x u rx Out p' hT kk=>?_
    subst rx
    refine ⟨_,rfl,wpAny_letOwnedTupleGo_enum (s:={ s with heap:=h',toks:=tk }) Out λ h2 J2 sb=>?_⟩
    have el:e < s.heap.objs.size:=Heap.lt_size a1
    have il:it < s.heap.objs.size:=let ⟨_,ho,_⟩:=a2;Heap.lt_size ho
    have I1:Inv X pins σ (upd H s.heap.objs.size (.tup [.int i,v0])) { s with heap:=s.heap.push { cls:=.type "tuple", data:=.seq #[.int i u,x] } }:=
      I.laid (t':=s.toks) (λ b o e=>Heap.get?_push_of_some _ e) (Nat.le_refl _) (show ObjOk X.prog X.w _ _ _ (.tup [.int i,v0]) from ⟨by show 2<=sizeLine;decide,[.int i u,x],.cons ⟨_,rfl⟩ (.cons ru .nil),IsTup.new _ _⟩)
    have lts:∀ b∈[e,it],b < s.heap.objs.size:=λ b hb=>by
      simp only [List.mem_cons,List.not_mem_nil,or_false] at hb
      rcases hb with rfl | rfl
      . exact el
      . exact il
    have I2:Inv X pins σ (upd H s.heap.objs.size (.tup [.int i,v0])) { s with heap:=h2,toks:=tk }:=
      Inv.turnedL (s:={ s with heap:=s.heap.push { cls:=.type "tuple", data:=.seq #[.int i u,x] } }) (h':=h2) (t':=tk) (fp:=[e,it]) I1 (λ b hb=>by
        obtain ⟨f0,fr⟩:=hf b hb
        exact ⟨by rw [aAq (Nat.ne_of_lt (lts b hb))];exact f0,fr⟩) (λ b o hb q=>by
        have hb':b≠e/\b≠it:=by simpa using hb
        rcases Heap.get?_push_cases q with ⟨z1,z2⟩ | q
        . rw [z1,z2];exact sb.extBut _ _ (Nat.ne_of_gt el) hT
        . exact sb.extBut _ _ hb'.1 (kk b o hb'.1 hb'.2 q))
    exact ⟨.ref s.heap.objs.size,_,I2,rfl,⟨_,v0,rfl,I.hok.fresh (Nat.le_refl _),rfl,λ xs' h=>by rw [I.list_inj h hq];exact hx⟩,⟨⟨_,J2⟩,p'.at λ o ho=>sb.extBut _ _ (Ne.symm hne) ho⟩,λ b hb=>by rw [aAq (Nat.ne_of_lt (lts b hb))];exact (hf b hb).1⟩
  done:=by
    intro X hP hw hK hc i pins s σ H E I hf st hg
    subst hP hw hK
    obtain ⟨⟨old,a1⟩,a2⟩:=st
    obtain ⟨xs,hq,hx⟩:=hg
    obtain ⟨its,rv,p,hz⟩:=I.list hq
    have hl:=rv.length
    refine sMq a1 (λ A Q E hh q=>wpAny_nextOf_list_end hh a2 p.isList (by simp;omega) q) (I.ok.hd hc) λ h' eb=>⟨rfl,?_⟩
    refine I.turnedL (t':=s.toks) (fp:=[e,it]) hf λ b o hb q=>?_
    have hb':b≠e/\b≠it:=by simpa using hb
    exact eb b o hb'.2 q
  self:=λ _ _ _ _ _ st h=>by
    obtain ⟨⟨old,a1⟩,_⟩:=st
    exact wpAny_pyIter_enum a1 h
section
variable {X:Cx}
def iEnL (K:PySem.W.Frag) (t:TA):TI:=λ σ H R=>t σ H λ vs H1=>∃ a xs,vs=[.ref a]/\SqL K H1 a xs/\R (zPq K a) H1
theorem qFq {es:List Expr} {k:Nat} {tp:Pos} {a:Expr} {ta:TA} {p pos:Pos} (hg:Gl X "enumerate") (hm:X.mg "enumerate" = none) (ha:PA X [a] ta) (hs:b6q a=true):PI X (.Tuple es k tp) (.Call (.Name "enumerate" p) [a] [] pos) (iEnL X.K ta):=by
  intro pins s σ H R I h
  refine Call_ (eZq I hg hm PyProof.Rows.boot_enumerate (PyProof.Rows.callWith_type1 (thn (ha pos pins s σ H _ I h) λ us s1 ⟨vs,H1,I1,r1,l,xs,ev,sq,q⟩=>?_) (aLq hs) rfl))
  subst ev
  cases r1 with
  | cons r rr=>
    cases rr
    cases r
    obtain ⟨its,rv,pl,_⟩:=I1.list sq
    refine call_enumerate_list pl.isList λ h' a1 a2 _ kk=>?_
    refine wpAny_pyIter_enum a1 ?_
    refine ⟨s1.heap.objs.size+1,[s1.heap.objs.size+1,s1.heap.objs.size],_,_,H1,rfl,I1.kept (t':=s1.toks) kk,mCq _ _ l (Nat.succ_ne_self _),⟨⟨_,a1⟩,a2⟩,λ b hb=>?_,q⟩
    have hb':s1.heap.objs.size<=b:=by
      simp only [List.mem_cons,List.not_mem_nil,or_false] at hb
      rcases hb with e | e<;>(rw [e];first | exact Nat.le_refl _ | exact Nat.le_add_right _ _)
    exact I1.fpOk hb' (I1.hok.fresh hb')
end
end L2
namespace L3
open PySem PySem.Spec L2
section
variable {X:Cx} {es:List Expr} {a:Expr} {t:DTA} {p pos:Pos}
def enL (xs:List D):List D:=xs.zipIdx.map λ c=>.tup [.int (c.2:Int),c.1]
abbrev aJ0q (t:DTA):DTI:=λ ρ G R=>t ρ G λ ds G1=>match ds with
  | [.ref l]=>onL G1 l λ xs=>G1 l=some (.lst xs)/\R ⟨enL xs,λ G=>G l=some (.lst xs)⟩ G1
  | _=>False
theorem l1q {k:Nat} {tp:Pos} (hg:Gl X "enumerate") (hm:X.mg "enumerate" = none) (ha:AA X [a] t) (hs:b6q a=true:=by rfl):AI X (.Tuple es k tp) (.Call (.Name "enumerate" p) [a] [] pos) (aJ0q t):=by
  obtain ⟨ca,ja,ra⟩:=ha.run
  refine ⟨_,⟨qFq hg hm ja.run hs⟩,λ ρ G DR σ H R B q F=>ra ρ G _ σ H _ B q λ ds G1 vs H1 g1 al hl q1=>?_⟩
  split at q1
  . next l=>
    obtain ⟨v,r,rfl,rfl,e⟩:=al
    cases e
    obtain ⟨xs,ws,⟨e1,q2⟩,s1,r1⟩:=bDq g1.vw q1
    refine ⟨l,ws,rfl,s1,F ⟨enL xs,λ G=>G l=some (.lst xs)⟩ _ G1 H1 g1 (λ G2 H2 g2 f1=>?_) q2⟩
    obtain ⟨ws',w1,t1⟩:=g2.vw _ _ f1
    have l1:=t1.len
    refine ⟨λ n d hd=>?_,λ n hn=>⟨ws',.of w1,?_⟩⟩
    . replace hd:(enL xs)[n]?=some d:=hd
      unfold enL at hd
      rw [List.getElem?_map,List.getElem?_zipIdx] at hd
      cases e:xs[n]? with
      | none=>rw [e] at hd;cases hd
      | some z=>
        rw [e] at hd
        simp at hd
        subst hd
        obtain ⟨v1,k1,a1⟩:=t1.get e
        refine ⟨⟨ws',v1,.of w1,k1⟩,λ x H' y=>?_⟩
        obtain ⟨T,x1,rfl,hT,rfl,hx⟩:=y
        have z1:=hx ws' (.of w1)
        rw [k1] at z1
        cases z1
        have g3:=Go.newT (o:=.tup [.int n,v1]) g2.vw hT
        exact ⟨g3,T,_,rfl,.of aBq,⟨_,_,rfl,rfl,.one (a1.mono g3.tup)⟩⟩
    . have hn':(enL xs).length<=n:=hn
      simp only [enL,List.length_map,List.length_zipIdx] at hn'
      omega
  . exact q1.elim
end
end L3
set_option Elab.async false
set_option linter.all false
set_option maxRecDepth 100000
namespace L3
open PySem L2
def resD:Option Tm->D
  | some t=>t.enc
  | none=>.non
theorem kEq:∀ {z:Str},z∈words7->oOq z=some (.int (cGq z:Nat)):=by
  intro z hz
  simp only [words7,List.mem_cons,List.not_mem_nil,or_false] at hz
  rcases hz with rfl | rfl | rfl | rfl | rfl | rfl | rfl<;>rfl
end L3
set_option Elab.async false
set_option linter.all false
set_option maxRecDepth 100000
namespace L3
open PySem L2 PySem.NumText PyProof.Rows PySem.W PySem.W.KIN
theorem q8q {m:Nat} (h:m < 10 ^ 9):(dg m).length<=9:=by
  rw [List.length_map];exact toDigits_len_pow (by decide) (by decide) h
theorem lEq {n:Int} (h:n.natAbs < 10 ^ 9):hMq (cHq n)=true:=by
  cases n with
  | ofNat m=>
    have e:=jOq m
    have l:(dg m).length<=9:=q8q h
    have b:bare (cHq (m:Int))=cHq (m:Int):=by
      unfold bare
      rw [zLq,b5q,e,if_neg]
      intro c
      have c:=eq_of_beq c
      cases hd:dg m with
      | nil=>exact jBq m hd
      | cons x r=>
        rw [hd] at c;cases c
        have:=c3q m 45 (by rw [hd];exact List.mem_cons_self ..)
        omega
    have hl:(cHq (m:Int)).cps.toList.length=(cHq (m:Int)).length:=Array.length_toList
    have l1:1<=(dg m).length:=List.length_pos_iff.mpr (jBq m)
    rw [e] at hl
    show hMq (cHq (m:Int))=true
    unfold hMq
    rw [b,kRq e,pTq,b5q,e,decide_eq_true (by omega),decide_eq_true (by omega)]
    by_cases h0:m=0
    . subst h0;decide +kernel
    . have:=nOq m (by omega)
      have hh:((dg m).head?==some 48)=false:=by rw [beq_eq_false_iff_ne];exact this
      rw [hh];rfl
  | negSucc m=>
    have e:=kAq m
    have l:=q8q (m:=m+1) h
    have hl:(cHq (Int.negSucc m)).cps.toList.length=(cHq (Int.negSucc m)).length:=Array.length_toList
    have b:(bare (cHq (Int.negSucc m))).cps.toList=dg (m+1):=by
      unfold bare
      rw [zLq,b5q,e,if_pos (by rfl),PyProof.Rows.slice_from_eq (by decide) (by rw [<- hl,e,List.length_cons];omega) rfl]
      show (((cHq (Int.negSucc m)).cps.toList.drop 1).take _)=_
      rw [e,List.drop_succ_cons,List.drop_zero,List.take_of_length_le]
      rw [<- hl,e,List.length_cons]
      omega
    have hb:(bare (cHq (Int.negSucc m))).cps.toList.length=(bare (cHq (Int.negSucc m))).length:=Array.length_toList
    have l1:1<=(dg (m+1)).length:=List.length_pos_iff.mpr (jBq _)
    rw [b] at hb
    unfold hMq
    rw [kRq b,pTq,b5q,b,decide_eq_true (by omega),decide_eq_true (by omega)]
    have hh:((dg (m+1)).head?==some 48)=false:=by rw [beq_eq_false_iff_ne];exact nOq _ (by omega)
    rw [hh];rfl
theorem wKq {n:Int} {z:Str} {c:Nat} (e:z.cps.toList=[c]) (hc:c < 45):(cHq n==z)=false:=by
  rw [beq_eq_false_iff_ne]
  intro h
  have:=(p5q n).1 c (by rw [h,e];exact List.mem_cons_self ..)
  omega
theorem x5q:∀ z∈words7,0 < cGq z:=by decide +kernel
theorem k4q:∀ (l cur:List Nat),(wds cur l).length<=l.length+(if cur=[] then 0 else 1)
  | [],cur=>by
    rw [wds]
    by_cases h:cur=[]
    . rw [if_pos h,if_pos h];simp
    . rw [if_neg h,if_neg h];simp
  | c::l,cur=>by
    have i0:=k4q l []
    have i1:=k4q l (cur++[c])
    rw [if_pos rfl] at i0
    have e:¬ cur++[c]=[]:=by simp
    rw [if_neg e] at i1
    rw [wds]
    by_cases h:cur=[]
    . rw [if_pos h,if_pos h]
      split
      . simp only [List.length_append,List.length_cons,List.length_nil];omega
      . split
        . simp only [List.length_append,List.length_cons,List.length_nil];omega
        . simp only [List.length_cons];omega
    . rw [if_neg h,if_neg h]
      split
      . simp only [List.length_append,List.length_cons,List.length_nil];omega
      . split
        . simp only [List.length_append,List.length_cons,List.length_nil];omega
        . simp only [List.length_cons];omega
end L3
namespace L2
open PySem PySem.Spec PyProof.Rows
theorem hYq {P:Program} {w:World} {H:Hp} {h h':Heap} (k:HOk P w H h) (hk:∀ b u,H b≠none->h.get? b=some u->h'.get? b=some u):HOk P w H h':=λ a o e=>
  (k a o e).stay (λ b u hb q=>hk b u (by rcases hb with rfl | hb;rw [e];simp;rw [hb];simp) q) (λ _ q=>q) λ _ _ q=>q
theorem jYq {P:Program} {w:World} {H:Hp} {h:Heap} {a:Addr} {o:HO} (x:ObjOk P w H h a o):∃ u,h.get? a=some u:=by
  cases o with
  | lst xs=>obtain ⟨_,_,_,_,e⟩:=x;exact ⟨_,e⟩
  | tup xs=>obtain ⟨_,_,_,o,e,_⟩:=x;exact ⟨_,e⟩
  | dK kvs=>obtain ⟨_,_,_,_,o,_,_,e,_⟩:=x;exact ⟨_,e⟩
  | dT kvs=>obtain ⟨_,_,_,_,o,_,_,e,_⟩:=x;exact ⟨_,e⟩
  | set S n=>obtain ⟨o,_,_,_,e,_⟩:=x;exact ⟨_,e⟩
  | ins C dx fs=>obtain ⟨_,_,_,e,_⟩:=x;exact ⟨_,e⟩
  | own y=>obtain ⟨_,e⟩:=x;exact ⟨_,e⟩
  | xd fs=>obtain ⟨_,⟨_,_,_,e,_⟩,_⟩:=x;exact ⟨_,e⟩
  | rng lo hi=>obtain ⟨_,_,_,e⟩:=x;exact ⟨_,e⟩
  | frz ob u=>obtain ⟨e,_⟩:=x;exact ⟨_,e⟩
  | tbl ps=>exact ⟨_,show h.get? a=some _ from x⟩
  | met f y=>exact ⟨_,show h.get? a=some _ from x⟩
  | ext φ=>obtain ⟨_,⟨_,e⟩,_⟩:=x;exact ⟨_,e⟩
theorem lAq {P:Program} {w:World} {H:Hp} {h:Heap} (k:HOk P w H h) {b:Addr} (hb:h.get? b=none):H b=none:=by
  cases e:H b with
  | none=>rfl
  | some o=>
    obtain ⟨u,hu⟩:=jYq (k b o e)
    rw [hb] at hu;cases hu
section
variable {X:Cx} {pins:List (Addr × Obj)} {σ:St} {H:Hp} {s:Shared} {h':Heap} {e T:Addr} {cls:Value}
theorem jUq (I:Inv X pins σ H s) {b:Addr} (hb:b∈X.fs):b∈frs X.stack:=by
  rcases I.ok.stk with z | ⟨z,hf⟩
  . rw [z];exact hb
  . rw [z]
    unfold frs
    rw [List.filterMap_cons,hf]
    exact List.mem_cons_of_mem _ hb
theorem tZq (I:Inv X pins σ H s) (keep:∀ b u,b ∉ frs X.stack->b≠e->b≠T->s.heap.get? b=some u->h'.get? b=some u) (slot:∀ b u,b∈frs X.stack->s.heap.get? b=some u->∃ sl,h'.get? b=some { u with slots:=sl })
    (de:∃ oe vs,s.heap.get? e=some oe/\oe.data=Data.fields vs) (dT:∃ oT vs,s.heap.get? T=some oT/\oT.data=Data.fields vs) (ne:X.s₀.heap.get? e=none) (nT:X.s₀.heap.get? T=none) (pe:∀ p∈X.pn++pins,p.1≠e/\p.1≠T) (he:H e=none) (hT:H T=none) :
    Inv X pins σ H { s with heap:=h' }:=by
  have nd:∀ {b:Addr} {o:Obj},s.heap.get? b=some o->(∀ vs,o.data≠Data.fields vs)->b≠e/\b≠T:=λ{b o} z hd=>by
    obtain ⟨oe,vs,z1,d1⟩:=de
    obtain ⟨oT,vt,z2,d2⟩:=dT
    refine ⟨?_,?_⟩
    . rintro rfl;rw [z] at z1;cases z1;exact hd _ d1
    . rintro rfl;rw [z] at z2;cases z2;exact hd _ d2
  have any:∀ b u,b≠e->b≠T->s.heap.get? b=some u->∃ sl,h'.get? b=some { u with slots:=sl }:=λ b u n1 n2 z=>by
    by_cases hb:b∈frs X.stack
    . exact slot b u hb z
    . exact ⟨u.slots,keep b u hb n1 n2 z⟩
  have nf:∀ b,b≠X.env.locals->b ∉ X.fs->b ∉ frs X.stack:=λ b h1 h2 h3=>by
    rcases List.mem_cons.mp (I.stkSub b h3) with z | z
    . exact h1 z
    . exact h2 z
  have n0:∀ b o,X.s₀.heap.get? b=some o->b≠X.env.locals/\b≠e/\b≠T:=λ b o z=>by
    refine ⟨?_,?_,?_⟩
    . rintro rfl;exact absurd (Heap.lt_size z) (Nat.not_lt.mpr I.ok.above)
    . rintro rfl;rw [z] at ne;cases ne
    . rintro rfl;rw [z] at nT;cases nT
  have cellK:∀ c v,s.heap.IsCell c v->h'.IsCell c v:=λ c v ⟨o,z,d⟩=>by
    obtain ⟨n1,n2⟩:=nd z (λ vs hd=>by rw [d] at hd;cases hd)
    obtain ⟨sl,z2⟩:=any c o n1 n2 z
    exact ⟨_,z2,d⟩
  have ub:=I.base
  refine ⟨I.ok,I.os,I.bare,⟨λ b o z n hb hx=>?_,λ b o z n hb hx=>?_,ub.free,λ b o z hx=>?_,ub.tups,ub.frzs,ub.tbls⟩,?_,λ x c z=>let ⟨v,hv⟩:=I.cell x c z;⟨v,cellK c v hv⟩,I.free,I.freeC,λ p hp=>?_,hYq I.hok λ b u hb z=>keep b u (λ h2=>hb (I.stkFree b h2)) (by rintro rfl;exact hb he) (by rintro rfl;exact hb hT) z,I.len⟩
  . obtain ⟨m1,m2,m3⟩:=n0 b o z
    exact keep b o (nf b m1 hb) m2 m3 (ub.keep b o z n hb hx)
  . obtain ⟨sl,z1⟩:=ub.slot b o z n hb hx
    obtain ⟨sl',z2⟩:=slot b _ (jUq I hb) z1
    exact ⟨sl',z2⟩
  . obtain ⟨o',z1⟩:=ub.there b o z hx
    obtain ⟨m1,m2,m3⟩:=n0 b o z
    obtain ⟨sl,z2⟩:=any b o' m2 m3 z1
    exact ⟨_,z2⟩
  . obtain ⟨m,⟨o,es,ep,ho,r⟩,hl⟩:=I.loc
    obtain ⟨n1,n2⟩:=nd ho (λ vs hd=>by rw [r.1] at hd;cases hd)
    obtain ⟨sl,z2⟩:=any _ o n1 n2 ho
    refine ⟨m,⟨_,es,ep,z2,r⟩,λ i x v e1 e2 e3=>?_⟩
    obtain ⟨u,ru,l⟩:=hl i x v e1 e2 e3
    refine ⟨u,ru,?_⟩
    rcases l with l | ⟨k,c,z,hc⟩
    . exact .inl l
    . exact .inr ⟨k,c,z,cellK c _ hc⟩
  . obtain ⟨z,n,m1,m2,d⟩:=I.pin p hp
    obtain ⟨q1,q2⟩:=pe p hp
    exact ⟨keep p.1 p.2 (nf p.1 m1 m2) q1 q2 z,n,m1,m2,d⟩
end
section
variable {X:Cx} {pins:List (Addr × Obj)} {σ:St} {H:Hp} {s:Shared}
theorem eFq {M:Model} {A:Around} {E:Value->Shared->Prop} {i:Nat} {n:Str} {pos:Pos} {Q:Unit->Shared->Prop} (I:Inv X pins σ H s) (hN:X.N.Nodup) (hi:X.N[i]?=some n) (hlo:X.env.scope.names.lookup n=some .local) (h:∀ s',Inv X pins (σ.set i none) H s'->Q () s') :
    wpAny M A (do bindName X.env n Value.none;unbindBehindTheSuite X.env n pos) Q E s:=by
  obtain ⟨m,hn,hl⟩:=id I.loc
  have hcls:(X.env.scope.kind==.class||(X.env.scope.kind==.module&&X.env.locals !=X.env.globals))=false:=by rw [I.ok.kind];rfl
  refine wpAny_nameGoes_keeps hlo hn hcls λ h' v hn' sb=>h _ ?_
  have oth:∀ b u,b≠X.env.locals->s.heap.get? b=some u->h'.get? b=some u:=λ b u nb z=>by rw [sb.2 b nb];exact z
  have n0:∀ b o,X.s₀.heap.get? b=some o->b≠X.env.locals:=λ b o z=>by
    rintro rfl;exact absurd (Heap.lt_size z) (Nat.not_lt.mpr I.ok.above)
  have nc:∀ c v,s.heap.IsCell c v->c≠X.env.locals:=λ c v ⟨o,z,d⟩=>by
    rintro rfl
    obtain ⟨o',es,ep,z',r⟩:=hn
    rw [z] at z';cases z'
    rw [d] at r;cases r.1
  have cellK:∀ c v,s.heap.IsCell c v->h'.IsCell c v:=λ c v hc=>by
    have ne:=nc c v hc
    obtain ⟨o,z,d⟩:=hc
    exact ⟨o,oth c o ne z,d⟩
  have ub:=I.base
  have nL:∀ b,b∈X.fs->b≠X.env.locals:=λ b hb=>by
    obtain ⟨_,o,ho,_⟩:=I.ok.funs.mem hb
    exact n0 b o ho
  refine ⟨I.ok,I.os,I.bare,⟨λ b o z n hb hx=>oth b o (n0 b o z) (ub.keep b o z n hb hx),λ b o z n hb hx=>?_,ub.free,λ b o z hx=>?_,ub.tups,ub.frzs,ub.tbls⟩,⟨_,hn',λ i' x w e1 e2 e3=>?_⟩,λ x c z=>let ⟨v,hv⟩:=I.cell x c z;⟨v,cellK c v hv⟩,I.free,I.freeC,λ p hp=>?_,hYq I.hok λ b u hb z=>oth b u (by rintro rfl;exact hb I.free) z,by rw [List.length_set];exact I.len⟩
  . obtain ⟨sl,z1⟩:=ub.slot b o z n hb hx
    exact ⟨sl,oth b _ (n0 b o z) z1⟩
  . obtain ⟨o',z1⟩:=ub.there b o z hx
    exact ⟨o',oth b o' (n0 b o z) z1⟩
  . have hne:i≠i':=by
      rintro rfl
      rw [List.getElem?_set] at e2
      split at e2
      . split at e2<;>cases e2
      . next c=>exact c rfl
    rw [List.getElem?_set_ne hne] at e2
    have hxn:x≠n:=by
      rintro rfl
      exact hne (gUq hN hi e1)
    obtain ⟨u,ru,l⟩:=hl i' x w e1 e2 e3
    refine ⟨u,ru,?_⟩
    rcases l with ⟨k,hm⟩ | ⟨k,c,z,hc⟩
    . exact .inl ⟨k,by show (if x=n then v else m x)=some u;rw [if_neg hxn];exact hm⟩
    . exact .inr ⟨k,c,z,cellK c _ hc⟩
  . obtain ⟨z,n,m1,m2,d⟩:=I.pin p hp
    exact ⟨oth p.1 p.2 m1 z,n,m1,m2,d⟩
def offE (i:Nat) (D:Ends):Ends:=⟨λ σ H=>D.nx (σ.set i none) H,D.rt,λ σ H=>D.bk (σ.set i none) H,λ σ H=>D.ct (σ.set i none) H⟩
end
end L2
set_option Elab.async false
set_option linter.all false
set_option maxRecDepth 100000
namespace L2
open PySem PySem.Spec PyProof.Rows PySem.W PySem.Calls Builtin Builtin.ObjectAttr Builtin.Getset_descriptor
structure ExcK (K:Frag) (C:Addr):Prop where
  ga:findIn K (.ref C) "__getattribute__" = some (some (.builtin "BaseException.__getattribute__"))
  gr:findIn K (.ref C) "__getattr__" = some none
  ca:findIn K (.ref C) "__class__" = some (some (.builtin "object.__class__"))
  gt:specialIn K (.builtin "object.__class__") "__get__" = some (some (.builtin "getset_descriptor.__get__"))
  tk:takesIn K (.builtin "object.__class__")=some true
  mo:mroIn K C (.type "object")=some true
  mb:subIn K (.ref C) (.type "BaseException")=some true
  cl:(clsIn K C).isSome=true
def ExcAt (e C:Addr) (h:Heap):Prop:=∃ oe,h.get? e=some oe/\oe.cls=.ref C
theorem ExcAt.ty {M:Model} {e C:Addr} {h:Heap} (x:ExcAt e C h):Looks M h (typeOf (.ref e)) (.ref C):=by
  obtain ⟨oe,h1,h2⟩:=x
  exact h2 ▸ (Looks.ld h1).andThen .now
section
variable {prog:Program} {w:World} {A:Around} {E:Value->Shared->Prop} {s:Shared} {K:Frag} {e C:Addr}
theorem hKq {R:Result->Shared->Prop} {tp:Value} (F:ExcK K C) (X:K.In s.heap) (I:ExcAt e C s.heap)
    (h:R (.ok (.ret (.ref C))) s):codeAny (model prog w) A (.call (.builtin "getset_descriptor.__get__") ⟨[.builtin "object.__class__", .ref e,tp],[]⟩) R s:=by
  obtain ⟨hh,g,dr,t,os⟩:=s
  have L0:=I.ty (M:=model prog w)
  have L1:=looks_mroIn (M:=model prog w) X F.mo
  refine codeAny_call_builtin KF.slot_gs.plain KF.entry_gs (KF.slot_gs.check _ _ _ _ _ _ _ _ KF.type_class (KF.args_gs _ _ _) ?_)
  unfold Builtin.«getset_descriptor.__get__» descrGet
  rw [dga_obj]
  refine wpAny_bind (wpAny_pure ?_)
  unfold descrGetter descrCheckInstance descrNameAndClass isInstance
  simp only [KF.owner_class]
  repeat lk
  refine ⟨Code.quiet_builtin _ (by decide +kernel),codeAny_builtin KF.entry_class ?_⟩
  unfold Builtin.«object.__class__» shownTypeOf
  repeat lk
  exact h
theorem p2q (x:Value):bindSpecial (.builtin "BaseException.__getattribute__") x=pure (.builtin "BaseException.__getattribute__", [x]):=by kernel_rfl
theorem rVq {M:Model} {h:Heap} (F:ExcK K C) (X:K.In h):Looks M h (find (.ref e) (.ref C) "__class__") (.bind (.builtin "getset_descriptor.__get__") (.builtin "object.__class__")):=by
  have L1:=looks_findIn (M:=M) X F.ca
  have L2:Looks M h (getOf (some (.builtin "object.__class__"))) (some (.builtin "getset_descriptor.__get__")):=looks_specialIn X F.gt
  have L3:=looks_takesIn (M:=M) X F.tk
  refine L1.andThen (L2.andThen ?_)
  exact (show Looks M h (dataDescriptor? (some (.builtin "object.__class__")) (some (.builtin "getset_descriptor.__get__"))) (some (.builtin "getset_descriptor.__get__", .builtin "object.__class__")) from L3.andThen .now).andThen (Looks.tag .now)
theorem xRq {Q:Option Value->Shared->Prop} (F:ExcK K C) (X:K.In s.heap) (I:ExcAt e C s.heap) (h:Q (some (.ref C)) { s with toks:=s.toks+1 }):wpAny (model prog w) A (getAttr? (.ref e) "__class__") Q E s:=by
  obtain ⟨hh,g,d,t,os⟩:=s
  have L0:=I.ty (M:=model prog w)
  have L1:=looks_findIn (M:=model prog w) X F.ga
  have L2:=looks_findIn (M:=model prog w) X F.gr
  have L3:=rVq (M:=model prog w) (e:=e) F X
  unfold getAttr? getAttrBy? getAttrBy
  refine wpAny_bind (wpAny_mkText (wpAny_bind (wpAny_attempt (wpAny_holding (wpAny_bind (L0.at (wpAny_bind (L1.at ?_))))))))
  dsimp only
  rw [show (onTheHeap (.ref C)&&Value.builtin "BaseException.__getattribute__"==Value.builtin "object.__getattribute__")=false from by rw [show (Value.builtin "BaseException.__getattribute__"==Value.builtin "object.__getattribute__")=false from by decide +kernel,Bool.and_false],if_neg (by decide)]
  refine wpAny_bind ((show Looks (model prog w) hh (hookBefore (.ref C)) none from L2).at (wpAny_bind (wpAny_attempt (wpAny_holding ?_))))
  unfold callGetattribute
  rw [show (false&&onTheHeap (Value.builtin "BaseException.__getattribute__"))=false from rfl,if_neg (by decide)]
  unfold boundAndCalled
  rw [p2q]
  refine wpAny_bind (wpAny_pure ?_)
  show wpAny _ _ (call (.builtin "BaseException.__getattribute__") [.ref e,.str "__class__" t]) _ _ _
  refine wpAny_call ?_
  refine codeAny_call_builtin (by first | exact Code.quiet_builtin _ (by decide +kernel) | decide +kernel) PySem.F.entry_bexc_ga ?_
  refine @check_slot (model prog w) _ _ _ "BaseException.__getattribute__" "BaseException" "__getattribute__" (.ref e) [.str "__class__" t] [] _ (by decide +kernel) (by decide +kernel) (L0.andThen (looks_subIn X F.mb)) (PySem.F.args_bexc_ga (.ref e) (.str "__class__" t)) ?_
  refine wpAny_bind (wpAny_pure (wpAny_bind (wpAny_pure (wpAny_bind (L0.at (wpAny_bind (L3.at ?_)))))))
  show wpAny _ _ (holding [.builtin "object.__class__"] (call (.builtin "getset_descriptor.__get__") [.builtin "object.__class__", .ref e,.ref C]) >>= ret) _ _ _
  refine wpAny_bind (wpAny_holding (wpAny_call (hKq F X I ?_)))
  refine wpAny_pure ?_
  exact handed_on rfl (wpAny_pure h)
theorem gKq (F:ExcK K C):KitX K (.ref e) (.ref C) (ExcAt e C) where
  ty:=λ M h _ p=>p.ty
  it:=λ M h X _=>by
    have e1:=F.cl
    unfold clsIn at e1
    split at e1
    . rename_i c' d' cd' sl' ho
      intro A' Q' E' s' k q
      unfold isType loadHead
      exact wpAny_bind (wpAny_loadPart (k _ _ (X _ _ ho)) (wpAny_pure q))
    . cases e1
  ne:=λ h tp dd its n sl X htp=>Bool.eq_false_iff.mpr λ q=>by
    cases beq_iff_eq.mp q
    have e1:=F.cl
    unfold clsIn at e1
    split at e1
    . rename_i c' d' cd' sl' ho
      have:=X _ _ ho
      rw [htp] at this;cases this
    . cases e1
  ca:=λ X p k=>xRq F X p k
end
end L2
set_option Elab.async false
set_option linter.all false
set_option maxRecDepth 100000
namespace L2
open PySem PySem.Spec PyProof.Rows
def xSq (e:Addr) (C:Addr) (K:PySem.W.Frag):List V->Hp->VK->Prop:=λ xs H Q=>∃ y,xs=[.ref e,y]/\((∃ c b,y=.ref c/\PySem.W.kitOne K (.ref C) (.ref c)=some b/\Q (.bl b) H)\/(∃ T b,y=.ty T/\PySem.W.kitOne K (.ref C) (.type T)=some b/\Q (.bl b) H) ∨
  ∃ (a:Addr) (cs:List Addr) (b:Bool),y=.ref a/\SqT K H a (cs.map V.ref)/\PySem.W.kitAny K (.ref C) (cs.map Value.ref)=some b/\Q (.bl b) H)
theorem iFq:∀ {cs:List Addr} {its:List Value},Vals (cs.map V.ref) its->its=cs.map Value.ref
  | [],its,h=>by cases h;rfl
  | c::cs,its,h=>by
    cases h with
    | cons r h=>rw [List.map_cons,<- iFq h];cases r;rfl
end L2
namespace L3
open PySem PySem.Spec L2
section
variable {X:Cx}
def offD (i:Nat) (DD:DEnds):DEnds:=⟨λ ρ G=>DD.nx (ρ.set i none) G,DD.rt,λ ρ G=>DD.bk (ρ.set i none) G,λ ρ G=>DD.ct (ρ.set i none) G⟩
theorem Bears.off {K:PySem.W.Frag} {ρ:DSt} {G:DV} {σ:St} {H:Hp} (b:Bears K ρ G σ H) (i:Nat):Bears K (ρ.set i none) G (σ.set i none) H where
  len:=by simp [b.len]
  vw:=b.vw
  st:=λ j e he=>by
    by_cases c:j=i
    . subst c
      rw [List.getElem?_set] at he
      split at he
      . split at he<;>cases he
      . next z=>exact absurd rfl z
    . rw [List.getElem?_set_ne (Ne.symm c)] at he
      rw [List.getElem?_set_ne (Ne.symm c)]
      exact b.st j e he
theorem EndsOk.off {K:PySem.W.Frag} {G:DV} {H:Hp} {DD:DEnds} {Dc:Ends} (F:EndsOk K G H DD Dc) (i:Nat):EndsOk K G H (offD i DD) (offE i Dc):=
  ⟨λ ρ G' σ H' g b q=>F.nx _ G' _ H' g (b.off i) q,F.rt,λ ρ G' σ H' g b q=>F.bk _ G' _ H' g (b.off i) q,λ ρ G' σ H' g b q=>F.ct _ G' _ H' g (b.off i) q⟩
def m6q:List D->Option (List Addr)
  | []=>some []
  | .ref a::ds=>(m6q ds).map (a::·)
  | _=>none
theorem iQq {K:PySem.W.Frag} {H:Hp}:∀ {ds:List D} {vs:List V} {cs:List Addr},m6q ds=some cs->AbsL K H ds vs->vs=cs.map V.ref
  | [],vs,cs,h,a=>by cases h;cases a;rfl
  | .ref x::ds,vs,cs,h,a=>by
    unfold m6q at h
    cases z:m6q ds with
    | none=>rw [z] at h;cases h
    | some l=>
      rw [z] at h;cases h
      obtain ⟨v,r,rfl,a1,a2⟩:=a
      rw [iQq z a2];cases a1;rfl
  | .non::_,_,_,h,_=>by cases h
  | .bl _::_,_,_,h,_=>by cases h
  | .int _::_,_,_,h,_=>by cases h
  | .str _::_,_,_,h,_=>by cases h
  | .ty _::_,_,_,h,_=>by cases h
  | .tup _::_,_,_,h,_=>by cases h
  | .frl _::_,_,_,h,_=>by cases h
def kitD (K:PySem.W.Frag) (C:Addr):D->Option Bool
  | .ref c=>PySem.W.kitOne K (.ref C) (.ref c)
  | .ty T=>PySem.W.kitOne K (.ref C) (.type T)
  | .tup ds=>match m6q ds with
    | some cs=>PySem.W.kitAny K (.ref C) (cs.map Value.ref)
    | none=>none
  | _=>none
@[irreducible] def isE (K:PySem.W.Frag) (C e:Addr):D->D->DV->DK->Prop:=λ x y G Q=>x=.ref e/\∃ b,kitD K C y=some b/\Q (.bl b) G
theorem t8q {K:PySem.W.Frag} {C e:Addr} {x y:D} {G:DV} {Q:DK}:isE K C e x y G Q=(x=.ref e/\∃ b,kitD K C y=some b/\Q (.bl b) G):=by unfold isE;rfl
theorem gIq {K:PySem.W.Frag} {C e:Addr} {y:D} {G:DV} {Q:DK} {b:Bool} (k:kitD K C y=some b) (q:Q (.bl b) G):isE K C e (.ref e) y G Q:=by rw [t8q];exact ⟨rfl,b,k,q⟩
end
end L3
set_option Elab.async false
set_option linter.all false
set_option maxRecDepth 100000
namespace L2
open PySem PySem.Spec PyProof.Rows PySem.W
abbrev sNq:List Value:=[.type "ValueError", .type "Exception", .type "BaseException", .type "object"]
def tRq:Value->Bool
  | .str _ _=>true
  | _=>false
def esOk (es:Array DictEntry):Bool:=es.toList.all (λ e=>tRq e.key)&&quietNames.all λ n=>(nsFind es n).isNone
theorem wFq {es:Array DictEntry} (h:esOk es=true):StrKeys es/\∀ n∈quietNames,nsFind es n=none:=by
  unfold esOk at h
  rw [Bool.and_eq_true,List.all_eq_true,List.all_eq_true] at h
  refine ⟨λ e he=>?_,λ n hn=>Option.isNone_iff_eq_none.mp (h.2 n hn)⟩
  have z:=h.1 e (Array.mem_toList_iff.mpr he)
  cases k:e.key with
  | str n t=>exact ⟨n,t,rfl⟩
  | _=>rw [k] at z;cases z
theorem dLq {K:Frag} {C c:Addr} {cd:ClassData} {b:Bool} (h0:(C==c)=false) (h1:clsIn K c=some cd) (h2:typeIn K (.ref c)=some (.type "type")) (h3:subIn K (.ref C) (.ref c)=some b):kitOne K (.ref C) (.ref c)=some b:=by
  unfold kitOne
  rw [if_neg (λ q=>by cases beq_iff_eq.mp q;rw [beq_self_eq_true] at h0;cases h0)]
  unfold kitCls
  simp only [h1,h2,h3,Option.isSome_some,Bool.true_and,beq_self_eq_true,if_true]
theorem u9q:kitMeta "ValueError" = true:=by decide +kernel
theorem rQq {K:Frag} {C:Addr} {b:Bool} (h3:subIn K (.ref C) (.type "ValueError")=some b):kitOne K (.ref C) (.type "ValueError")=some b:=by
  unfold kitOne
  rw [if_neg (λ q=>by cases beq_iff_eq.mp q)]
  unfold kitCls
  simp only [u9q,h3,if_true]
theorem v2q:bootBuiltins "ValueError" = some (.type "ValueError"):=by decide +kernel
end L2
set_option Elab.async false
set_option linter.all false
set_option maxRecDepth 100000
namespace L2
open PySem PySem.Spec PyProof.Rows
def oQq (C:Addr) (dx:Option Addr) (t:Addr):Obj:={ cls:=.ref C,dict:=dx,data:=.fields #[.ref t,.none,.none,.none,.bool false,.none] }
section
variable {A:Around} {E:Value->Shared->Prop} {nm q:Str} {C N:Addr} {bs bm bmB:List Value} {hdct:Bool} {sn:List Str} {sub:List Value} {ab:Bool} {col:Option Bool} {dd:Option Addr} {k0 k1 k2 k3 k5:Option Value} {B newId initId:String}
theorem rUq {M:Model} {s:Shared} {env:Env} {x:Sem Value} {Q:Flow->Shared->Prop} (hb:bm.contains (.type "BaseException")=true) (hh:A.handled=none)
    (h:wpAny M A x (λ v s₁=>∃ e t dx,v=.ref e/\s₁.heap.get? C=some (excClassObj nm q C N bs bm hdct sn sub ab col dd k0 k1 k2 k3 k5 newId)/\s₁.heap.get? e=some (oQq C dx t)/\E (.ref e) s₁) E s) :
    wpAny M A (raiseStmt env (some x) none) Q E s:=by
  have c1:(Value.ref C::bm).contains (.type "BaseException")=true:=by rw [List.contains_cons,hb,Bool.or_true]
  unfold raiseStmt
  refine wpAny_bind (wpAny_mono h (λ v s₁ z=>?_) λ _ _ y=>y)
  obtain ⟨e,t,dx,rfl,hC,he,hE⟩:=z
  unfold oQq at he
  obtain ⟨hp,g,d,tk,os⟩:=s₁
  repeat (first | with_reducible refine wpAny_loadPart_at he ?_ | with_reducible refine wpAny_loadPart_at hC ?_ | (with_reducible refine wpAny_isSubtype_exc hC ?_;rw [c1]) | wp_step)
  exact wpAny_raiseNew_none hh hE
variable {prog:Program} {w:World} {h:Heap} {g:Array GenState} {d:Drawn} {t:Nat} {os:OsState}
theorem u2q (F:ExcBaseFacts B newId initId bmB) (T:OwnTail h bmB bm) {mN:Str->Option Value} {rest:List Value} {fI:Addr} {oI:Obj} {Q:Value->Shared->Prop}
    (hC:h.get? C=some (excClassObj nm q C N bs bm hdct sn sub ab col dd k0 k1 k2 k3 k5 newId)) (hn:h.Ns N mN) (hi:mN "__init__" = some (.ref fI)) (hfI:h.get? fI=some oI) (hfc:oI.cls=.type "function")
    (hq:∀ h' e,Heap.MadeExcOf h h' e (.ref C) rest->h.objs.size<=e->wpAny (model prog w) (A.under (.builtin "type.__call__" ⟨.ref C::rest,[]⟩)) (call (.ref fI) (.ref e::rest)) (λ r s'=>r=.none/\Q (.ref e) s') E ⟨h',g,d,t,os⟩)
    (hrest:rest.length<=sizeLine):wpAny (model prog w) A (call (.ref C) rest) Q E ⟨h,g,d,t,os⟩:=by
  have f1:=tc_lookup
  have f2:=tc_bind (.ref C)
  have hT:(⟨h,g,d,t,os⟩:Shared).TypeIs (.ref C) "type":=⟨_,hC,rfl⟩
  refine wpAny_call (codeAny_of_tree ?_)
  show wpAny _ _ (callAny (.ref C) _) _ _ _
  repeat (any_goals (first | assumption | with_reducible refine wpAny_loadPart_at hC ?_ | wp_step))
  refine ⟨rfl,codeAny_call_builtin_at (Code.quiet_builtin _ (by decide +kernel)) entry_typeCall (wpAny_check_type_call_sub hC ?_)⟩
  repeat (first | with_reducible refine wpAny_loadPart_at hC ?_ | with_reducible refine wpAny_madeBy_exc hC ?_ | wp_step)
  refine codeAny_call_builtin_code (Code.quiet_builtin _ F.quiet) (wpAny_check_new_subT F T hC (codeAny_exc_new_subT F T hC ?_ hrest))
  show wpAny _ _ _ _ _ ⟨(h.push { cls:=.type "tuple", data:=.seq rest.toArray }).push { cls:=.ref C,data:=.fields #[.ref h.objs.size,.none,.none,.none,.bool false,.none] },g,d,t,os⟩
  generalize hh1:(h.push { cls:=.type "tuple", data:=.seq rest.toArray }).push { cls:=.ref C,data:=.fields #[.ref h.objs.size,.none,.none,.none,.bool false,.none] }=h1
  have keep:∀ b o,h.get? b=some o->h1.get? b=some o:=λ b o z=>by rw [<- hh1];exact Heap.get?_push_of_some _ (Heap.get?_push_of_some _ z)
  have he:h1.get? (h.objs.size+1)=some { cls:=.ref C,data:=.fields #[.ref h.objs.size,.none,.none,.none,.bool false,.none] }:=by rw [<- hh1];heap_get
  have ht:h1.get? h.objs.size=some { cls:=.type "tuple", data:=.seq rest.toArray }:=by rw [<- hh1];exact Heap.get?_push_of_some _ (Heap.get?_push_at rfl rfl)
  have hC1:=keep _ _ hC
  have c1:(Value.ref C::bm).contains (.ref C)=true:=by simp
  unfold isInstance
  repeat (first | with_reducible refine wpAny_loadPart_at he ?_ | (show wpAny _ _ (isSubtype (.ref C) (.ref C)) _ _ _;refine wpAny_isSubtype_exc hC1 ?_;rw [c1]) | wp_step)
  show wpAny _ _ (typeLookup (.ref C) _) _ _ _
  refine wpAny_typeLookup_tail hC1 (hn.keeps keep) (T.keeps keep) F.mroIs F.init.lookup ?_
  rw [hi]
  refine wpAny_holding (wpAny_bind ?_)
  unfold bindSpecial
  refine wpAny_bind (wpAny_typeOf (T:="function") ⟨_,keep _ _ hfI,hfc⟩ ?_)
  rw [if_pos (by decide)]
  refine wpAny_pure (wpAny_bind (wpAny_mono (hq h1 (h.objs.size+1) ⟨keep,Heap.get?_none_of_le (Nat.le_succ _),h.objs.size,he,Heap.get?_none_of_le (Nat.le_refl _),ht⟩ (Nat.le_succ _)) (λ r s' hr=>?_) λ _ _ x=>x))
  obtain ⟨rfl,hQ⟩:=hr
  wp_walk
  exact hQ
end
abbrev y3q:List Value:=[.type "ValueError", .type "Exception", .type "BaseException", .type "object"]
section
open Builtin Builtin.ObjectAttr
variable {prog:Program} {w:World} {A:Around} {E:Value->Shared->Prop} {s:Shared} {K:PySem.W.Frag} {C B e t:Addr} {name:Str} {v:Value} {cd:ClassData}
theorem xZq {Q:Unit->Shared->Prop} (X:K.In s.heap) (he:s.heap.get? e=some (oQq C none t)) (hs:PySem.W.findIn K (.ref C) "__setattr__" = some (some (.builtin "object.__setattr__"))) (hc:PySem.W.clsIn K C=some cd) (hm:cd.mro=.ref C::.ref B::y3q) (hd:cd.hasDict=true)
 (ht:PySem.W.takerIn K C name=some none)
    (h:∀ h' tk,h'.get? e=some (oQq C (some s.heap.objs.size) t)->h'.Ns1 s.heap.objs.size (λ y=>if y=name then some v else none)->(∀ b o,b≠e->s.heap.get? b=some o->h'.get? b=some o)->Q () { s with heap:=h',toks:=tk }) :
    wpAny (model prog w) A (setAttr (.ref e) name v) Q E s:=by
  have J:PySem.W.InstAt s.heap e (oQq C none t) C none:=⟨he,rfl,rfl,trivial⟩
  refine PySem.W.set_plain X J hs ?_
  have SF:=PySem.F.store_object
  have ne:cd.mro.isEmpty=false:=by rw [hm];rfl
  have sub:PySem.W.Looks (model prog w) s.heap (isInstance (.ref e) (.type "object")) true:=J.type.andThen (PySem.W.looks_mroIn X (by unfold PySem.W.mroIn;rw [hc,Option.bind_some,if_neg (by rw [ne];decide),hm];rfl))
  have hmro:PySem.W.Looks (model prog w) s.heap (mroOf (.ref C)) cd.mro:=(PySem.W.looks_clsIn X hc).andThen .now
  obtain ⟨attr,ha,hr⟩:=Option.bind_eq_some_iff.mp ht
  have L3:PySem.W.Looks (model prog w) s.heap (storeTaker? attr) none:=by
    cases attr with
    | none=>exact .now
    | some a=>
      obtain ⟨b,hb,z⟩:=Option.map_eq_some_iff.mp hr
      refine (PySem.W.looks_takesIn X hb).andThen ?_
      cases b with
      | true=>cases z
      | false=>exact .now
  refine codeAny_call_builtin SF.slot.plain SF.entry (@PySem.W.check_slot (model prog w) _ _ { s with toks:=s.toks+1 } "object.__setattr__" "object" "__setattr__" (.ref e) [.str name s.toks,v] [] _ SF.kind SF.split sub (SF.args (.ref e) (.str name s.toks) v) ?_)
  rw [PySem.W.osa_eq,refuse_eq]
  refine wpAny_bind (wpAny_bind (J.type.here (s:={ s with toks:=s.toks+1 }) (wpAny_bind (hmro.here (s:={ s with toks:=s.toks+1 }) ?_))))
  rw [hm,refuseLoop_ref,refuseLoop_ref,PySem.F.store_ValueError.passes]
  refine wpAny_pure (wpAny_bind (J.type.here (s:={ s with toks:=s.toks+1 }) (wpAny_bind ((PySem.W.looks_findIn X ha).here (s:={ s with toks:=s.toks+1 }) (wpAny_bind (L3.here (s:={ s with toks:=s.toks+1 }) ?_))))))
  show wpAny _ _ (storeInOwnDict _ _ _ _ _ _) _ _ _
  unfold storeInOwnDict
  refine wpAny_bind (wpAny_pure (wpAny_bind (wpAny_bind (wpAny_loadPart he (wpAny_bind (PySem.W.Looks.here (s:={ s with toks:=s.toks+1 }) (PySem.W.looks_clsIn X hc) ?_))))))
  rw [hd,if_neg (by decide)]
  show wpAny _ _ (if (!true||!typeHasDict (.ref C))=true then pure none else do let d ← alloc { cls:=.type "dict", data:=.dict #[] };update e λ o=>{ cls:=o.cls,dict:=some d,data:=o.data,slots:=o.slots };dictMade (.ref C) e d) _ _ _
  rw [if_neg (by simp [typeHasDict])]
  have he1:(s.heap.push { cls:=.type "dict", data:=.dict #[] }).get? e=some (oQq C none t):=Heap.get?_push_of_some _ he
  have ns:e≠s.heap.objs.size:=Nat.ne_of_lt (Heap.lt_size he)
  refine wpAny_bind (wpAny_alloc' (wpAny_bind (wpAny_update' he1 (wpAny_pure ?_))))
  generalize hh1:(s.heap.push { cls:=.type "dict", data:=.dict #[] }).update e (λ o=>{ cls:=o.cls,dict:=some s.heap.objs.size,data:=o.data,slots:=o.slots })=h1
  have g1:h1.get? s.heap.objs.size=some { cls:=.type "dict", data:=.dict #[] }:=by
    rw [<- hh1];exact (Heap.get?_update_ne _ _ _ _ ns.symm).trans (Heap.get?_push_at rfl rfl)
  have g2:h1.get? e=some (oQq C (some s.heap.objs.size) t):=by rw [<- hh1];exact Heap.get?_update_self _ he1 rfl
  have n1:h1.Ns s.heap.objs.size (λ _=>none):=⟨_,#[],_,g1,rfl,λ e he=>absurd he (by simp),λ _=>rfl⟩
  show wpAny _ _ (storeInDict s.heap.objs.size (.str name s.toks) name v) _ _ _
  unfold storeInDict newKeyGuard
  refine wpAny_bind (wpAny_pure (wpAny_bind (wpAny_nsSet1 (Heap.Ns1.of_empty n1) λ h' hn' hs=>?_)))
  obtain ⟨oD,esD,epD,hoD,hdD,hcD⟩:=hn'.count (Within.cons name v Within.nil)
  refine wpAny_bind (wpAny_lookBehind hoD (by rw [hdD];exact pastItsLine_dict (Nat.le_trans hcD (by rw [List.length_cons,List.length_nil,sizeLine_eq];omega))) ?_)
  wp_walk
  refine h h' _ ((hs.2 e ns).trans g2) hn' λ b o hb z=>?_
  rw [hs.2 b (Nat.ne_of_lt (Heap.lt_size z)),<- hh1,Heap.get?_update_ne _ _ _ _ hb]
  exact Heap.get?_push_of_some _ z
end
def xO (e C:Addr) (dx:Option Addr):Heap->Prop:=λ h=>∃ t,h.get? e=some (oQq C dx t)
theorem vKq {P:Program} {w:World} {H:Hp} {h:Heap} {e C:Addr} {dx:Option Addr} (x:xO e C dx h):ObjOk P w H h e (.ext (xO e C dx)):=
  ⟨x,let ⟨_,z⟩:=x;⟨_,z⟩,λ _ _ ⟨t,z⟩ k=>⟨t,k _ z⟩⟩
structure ExcI (K:PySem.W.Frag) (C fI:Addr):Prop where
  ex:∃ (bm:List Value) (N:Addr) (nm q:Str) (bs:List Value) (hdct:Bool) (sn:List Str) (sub:List Value) (ab:Bool) (col:Option Bool) (dd:Option Addr) (k0 k1 k2 k3 k5:Option Value) (mN:Str->Option Value) (oI:Obj),
    bm.contains (.type "BaseException")=true/\mN "__init__" = some (.ref fI)/\oI.cls=.type "function"/\∀ h:Heap,K.In h->h.get? C=some (excClassObj nm q C N bs bm hdct sn sub ab col dd k0 k1 k2 k3 k5 "ValueError.__new__")/\h.Ns N mN/\h.get? fI=some oI/\OwnTail h y3q bm
structure ExcS (K:PySem.W.Frag) (C:Addr) (name:Str):Prop where
  sa:PySem.W.findIn K (.ref C) "__setattr__" = some (some (.builtin "object.__setattr__"))
  cls:∃ (cd:ClassData) (B:Addr),PySem.W.clsIn K C=some cd/\cd.mro=.ref C::.ref B::y3q/\cd.hasDict=true
  tk:PySem.W.takerIn K C name=some none
structure BInit (K:PySem.W.Frag) (B:Addr):Prop where
  hg:PySem.W.specialIn K (.ref B) "__getattribute__" = some (some (.builtin "type.__getattribute__"))
  hr:PySem.W.readsIn K B (.type "type")=true
  hf:PySem.W.findCls K (.ref B) (.type "type") "__init__" = some (.val (.builtin "ValueError.__init__"))
def zBq (C:Addr) (t:TA):TE:=λ σ H Q=>t σ H λ vs H1=>∃ a v,vs=[.ref a,v]/\H1 a=some (.ext (xO a C none))/\Q .non H1
section
variable {X:Cx} {pins:List (Addr × Obj)} {σ:St} {H:Hp} {s:Shared} {C fI B:Addr} {name:Str}
theorem yWq {H:Hp} {a:Addr} {o:HO} (h:H a=some o):upd H a o=H:=by
  funext b
  by_cases c:b=a
  . subst c;rw [aBq,h]
  . rw [aAq c]
theorem qEq {A:Around} {E:Value->Shared->Prop} {a:Addr} {u:Value} {Q:Value->Shared->Prop} (EI:ExcI X.K C fI) (I:Inv X pins σ H s) (hH:H a=some (.ext (xO a C none))) (hq:∀ s',Inv X pins σ H s'->Q .none s') :
    wpAny (model X.prog X.w) A (call (.builtin "ValueError.__init__") [.ref a,u]) Q E s:=by
  obtain ⟨bm,N,nm,q,bs,hdct,sn,sub,ab,col,dd,k0,k1,k2,k3,k5,mN,oI,f1,f2,f3,f4⟩:=EI.ex
  obtain ⟨g1,g2,g3,g4⟩:=f4 s.heap I.kIn
  obtain ⟨⟨t,he⟩,_⟩:=I.hok a _ hH
  have F:=PySem.F.excBase_ValueError
  obtain ⟨hp,g,d,tk,os⟩:=s
  refine wpAny_call (codeAny_call_builtin F.init.plain F.initEntry (wpAny_check_init_subT F g4 g1 he rfl ?_))
  have he':=he
  unfold oQq at he'
  wp_walk
  refine hq _ ?_
  have he2:((hp.push { cls:=.type "tuple", data:=.seq #[u] }).update a (Obj.mapFields λ x=>x.setIfInBounds 0 (.ref hp.objs.size))).get? a=some (oQq C none hp.objs.size):=Heap.get?_update_self _ (Heap.get?_push_of_some _ he) rfl
  have J:=I.write (x:=a) (e:=a) (o:=.ext (xO a C none)) (h':=(hp.push { cls:=.type "tuple", data:=.seq #[u] }).update a (Obj.mapFields λ x=>x.setIfInBounds 0 (.ref hp.objs.size))) (t':=tk) (by rw [hH];exact True.intro) (.inl rfl)
    (λ b o hb z=>by rw [Heap.get?_update_ne _ _ _ _ hb];exact Heap.get?_push_of_some _ z) ⟨_,he2⟩ (vKq ⟨_,he2⟩)
  rw [yWq hH] at J
  exact J
theorem sIq {bx:Str} {p1 apos cpos:Pos} {e1 e2:Expr} {t:TA} {pl:Sem Bool} (EI:ExcI X.K C fI) (BI:BInit X.K B) (hg:Gl X bx) (hm:X.mg bx=some (.ref B)) (ha:PA X [e1,e2] t) (hdb:(bx==("__debug__" : Str))=false:=by decide)
    (hst:starEach [e1,e2] X.env=(false,eval e1 X.env)::starEach [e2] X.env:=by rfl) (hpl:(backTo cpos (starEach [e2] X.env)).any (·.1)=false:=by rfl)
    (ht:eval (.Call (.Attribute (.Name bx p1) "__init__" apos) [e1,e2] [] cpos) X.env=(do
      let ov ← eval (.Name bx p1) X.env
      standAt apos.atName
      let (f,first) ← holding [ov] (getMethod ov "__init__" pl)
      callWith cpos f first (backTo cpos (starEach [e1,e2] X.env)) (backToKw cpos (keywordEach [] X.env))):=by rfl) :
    PE X (.Call (.Attribute (.Name bx p1) "__init__" apos) [e1,e2] [] cpos) (zBq C t):=by
  intro pins s σ H Q I h
  refine PySem.W.methodCall_KW (pl:=pl) (d3q I hg hm ?_ hdb) ht
  refine PySem.W.method_cls I.kIn BI.hg (PySem.W.cls_value I.kIn BI.hr BI.hf (by decide) ?_)
  show wpAny _ _ (callWith cpos (.builtin "ValueError.__init__") [] (backTo cpos (starEach [e1,e2] X.env)) []) _ _ _
  refine PyProof.Rows.callWith_builtin1 (thn (ha cpos pins _ σ H _ (I.tok _) h) λ us s1 ⟨vs,H1,I1,r,a,v,ev,ea,q⟩=>?_) hst hpl
  subst ev
  obtain ⟨u1,u2,rfl,r1,r2⟩:=Vals.two r
  cases r1
  exact qEq EI I1 ea λ s2 I2=>⟨.non,H1,I2,rfl,q⟩
theorem Inv.writeNew {a dx:Addr} {o u:HO} {h':Heap} {t':Nat} (I:Inv X pins σ H s) (mu:Mut (H a)) (k:∀ b u,b≠a->s.heap.get? b=some u->h'.get? b=some u) (heo:∃ u,h'.get? a=some u) (hd:s.heap.objs.size<=dx) (hda:dx≠a)
    (newA:∀ H',ObjOk X.prog X.w H' h' a o) (newD:∀ H',ObjOk X.prog X.w H' h' dx u):Inv X pins σ (upd (upd H dx u) a o) { s with heap:=h',toks:=t' }:=by
  have hn:H dx=none:=I.hok.fresh hd
  have u1:Un X.fs [] H (upd H a o) s.heap h':=Un.write mu (.inl rfl) k heo
  have h1:HOk X.prog X.w (upd H a o) h':=I.hok.write mu (.inl rfl) k heo (newA _)
  have e0:upd (upd H dx u) a o=upd (upd H a o) dx u:=by
    funext b
    by_cases c:b=a
    . subst c;rw [aBq,aAq hda.symm,aBq]
    . rw [aAq c]
      by_cases c2:b=dx
      . subst c2;rw [aBq,aBq]
      . rw [aAq c2,aAq c2,aAq c]
  have hn1:upd H a o dx=none:=by rw [aAq hda];exact hn
  rw [e0]
  refine I.un ⟨u1.keep,u1.slot,λ b ob z n hx=>?_,u1.there,λ b xs z=>?_,λ b ob v z=>?_,λ b ps z=>?_⟩ λ b v z=>?_
  . rw [aAq (Nat.ne_of_lt (Nat.lt_of_lt_of_le (Heap.lt_size z) hd))];exact u1.free b ob z n hx
  . have e:=u1.tups b xs z;rw [aAq (aEq e hn1)];exact e
  . have e:=u1.frzs b ob v z;rw [aAq (aEq e hn1)];exact e
  . obtain ⟨m,e⟩:=u1.tbls b ps z;exact ⟨m,by rw [aAq (aEq e hn1)];exact e⟩
  . by_cases hb:b=dx
    . subst hb;rw [aBq] at z;cases z;exact newD _
    . rw [aAq hb] at z
      exact (h1 b v z).stay (λ _ _ _ q=>q) (λ c q=>by rw [aAq (aEq q hn1)];exact q) λ c xs q=>by rw [aAq (aEq q hn1)];exact q
def aH7q (C:Addr) (ta tv:TE) (name:Str):TS:=λ D σ H=>tv σ H λ y H1=>ta σ H1 λ x H2=>∃ a,x=.ref a/\H2 a=some (.ext (xO a C none))/\∀ dx,H2 dx=none->dx≠a->D.nx σ (upd (upd H2 dx (.xd [(name,y)])) a (.ext (xO a C (some dx))))
theorem wTq {o value:Expr} {pos pos':Pos} {ta tv:TE} (ES:ExcS X.K C name) (ha:PE X o ta) (hv:PE X value tv) (hs:swapsWith value (some (.Attribute o name pos')) pos.line X.env=pure false):PS X (.Assign [.Attribute o name pos'] value pos) (aH7q C ta tv name):=by
  intro pins s σ H D I h
  refine plainObj_wpAny_Assign_Attribute (thn (hv pins s σ H _ I h) λ u s1 ⟨y,H1,I1,ry,q⟩=>thn (ha pins s1 σ H1 _ I1 q) λ ov s2 ⟨x,H2,I2,rx,a,ex,ea,q2⟩=>?_) hs
  subst ex
  obtain rfl:ov=Value.ref a:=rx
  obtain ⟨⟨t,he⟩,_⟩:=I2.hok a _ ea
  obtain ⟨cd,B,c1,c2,c3⟩:=ES.cls
  have hn:H2 s2.heap.objs.size=none:=I2.hok.fresh (Nat.le_refl _)
  have na:s2.heap.objs.size≠a:=Nat.ne_of_gt (Heap.lt_size he)
  refine xZq I2.kIn he ES.sa c1 c2 c3 ES.tk λ h' tk e1 e2 e3=>⟨σ,_,?_,q2 s2.heap.objs.size hn na⟩
  refine I2.writeNew (by rw [ea];exact True.intro) e3 ⟨_,e1⟩ (Nat.le_refl _) na (λ _=>vKq ⟨t,e1⟩) λ _=>⟨_,e2,λ f=>?_⟩
  by_cases c:f=name
  . subst c;simp only [List.lookup_cons,beq_self_eq_true,if_true];exact ry
  . have c':(f==name)=false:=beq_eq_false_iff_ne.mpr c
    simp only [List.lookup_cons,c',if_neg c,List.lookup_nil];exact True.intro
def x9q (C:Addr) (name:Str):Sp:=λ vs H Q _=>∃ a v,vs=[.ref a,v]/\H a=some (.ext (xO a C none))/\∀ dx,H dx=none->dx≠a->Q .non (upd (upd H dx (.xd [(name,v)])) a (.ext (xO a C (some dx))))
end
theorem okXI {P:Program} {w:World} {K:PySem.W.Frag} {mg:Str->Option Value} {base:Heap} {x qual p1 name:Str} {st:Stmt} {f C B fI:Addr} {fd:FuncData} {q1 q2 q3 q4 q5 q6 q7 q8 q9 q10:Pos}
    (F:Fun K x qual st f fd) (S:FnScope ["self", p1] ["self", p1] (a6q st)) (EI:ExcI K C fI) (BI:BInit K B) (ES:ExcS K C name) (hm:mg "BagError" = some (.ref B))
    (hb:b0q st=[.Expr (.Call (.Attribute (.Name "BagError" q1) "__init__" q2) [.Name "self" q3,.Name p1 q4] [] q5) q6,.Assign [.Attribute (.Name "self" q7) name q8] (.Name p1 q9) q10])
    (hgl:∀ (cdv:Value) (A:Around) (outer:List Env) (s:Shared) (H:Hp) (E:XK),Gl (dIq CX0 P w K mg base ["self", p1] qual (a6q st) f cdv A outer s H E) "BagError") (ht:∀ (cdv:Value) (A:Around) (outer:List Env) (s:Shared) (H:Hp) (E:XK),∃ pl:Sem Bool,eval (.Call (.Attribute (.Name "BagError" q1) "__init__" q2) [.Name "self" q3,.Name p1 q4] [] q5) (dIq CX0 P w K mg base ["self", p1] qual (a6q st) f cdv A outer s H E).env=(do
      let ov ← eval (.Name "BagError" q1) (dIq CX0 P w K mg base ["self", p1] qual (a6q st) f cdv A outer s H E).env
      standAt q2.atName
      let (ff,first) ← holding [ov] (getMethod ov "__init__" pl)
      callWith q5 ff first (backTo q5 (starEach [.Name "self" q3,.Name p1 q4] (dIq CX0 P w K mg base ["self", p1] qual (a6q st) f cdv A outer s H E).env)) (backToKw q5 (keywordEach [] (dIq CX0 P w K mg base ["self", p1] qual (a6q st) f cdv A outer s H E).env))))
    (hv0:Vis (a6q st) "self") (hv1:Vis (a6q st) p1)
    (hsw:∀ {env:Env},swapsWith (.Call (.Attribute (.Name "BagError" q1) "__init__" q2) [.Name "self" q3,.Name p1 q4] [] q5) none q6.line env=pure false) (hsx:∀ {env:Env},swapsWith (.Name p1 q9) (some (.Attribute (.Name "self" q7) name q8)) q10.line env=pure false) (hd1:(p1==("__debug__" : Str))=false:=by decide) (hc1:(p1==("__classdict__" : Str))=false:=by decide) :
    FnOk P w K mg base CX0 1 f fd ["self", p1] (x9q C name):=by
  obtain ⟨oc,od,kV,doc,pm,an,cdv,ct,osl,rfl,lk,hcd⟩:=F.ex
  refine uNq (k:=0) lk hcd S (λ vs H Q E h=>?_) λ A outer s H vs Q E hr hsp=>?_
  . obtain ⟨_,_,rfl,_⟩:=h;rfl
  . obtain ⟨a,v,rfl,hH,q⟩:=hsp
    rw [hb]
    have v0:∀ {q:Pos},PE (dIq CX0 P w K mg base ["self", p1] qual (a6q st) f cdv A outer s H E) (.Name "self" q) (tVar 0):=lKq rfl hv0 (by decide) (by decide)
    have v1:∀ {q:Pos},PE (dIq CX0 P w K mg base ["self", p1] qual (a6q st) f cdv A outer s H E) (.Name p1 q) (tVar 1):=lKq rfl hv1 hd1 hc1
    obtain ⟨pl,ht⟩:=ht cdv A outer s H E
    refine ⟨_,kOq (mLq (sIq (C:=C) (pl:=pl) EI BI (hgl cdv A outer s H E) hm (pc v0 (pc v1 nQq)) (by decide) rfl rfl ht) hsw) (p6q (wTq ES v0 v1 hsx)),?_⟩
    exact ⟨_,rfl,_,rfl,a,v,rfl,hH,_,rfl,_,rfl,a,rfl,hH,λ dx h1 h2=>q dx h1 h2⟩
section
variable {X:Cx} {C fI:Addr} {name cx:Str} {fd:FuncData} {ps:List Str} {e:Expr} {te:TE} {W:V->Hp->Prop} {np cpos pos:Pos}
theorem p4q {k:Nat} (EI:ExcI X.K C fI) (F:FnOk X.prog X.w X.K X.mg X.base CX0 k fI fd ps (x9q C name)) (hr:Room (k+1) X.A) (hg:Gl X cx) (hm:X.mg cx=some (.ref C)) (hk:PySem.W.keepIn X.K (.ref C)=true) (hb:Binds X.K fd ps []) (ha:PE X e te) (hc:X.calm=true) (hex:X.ex=[])
    (hx:∀ (pins:List (Addr × Obj)) (σ:St) (H:Hp) (s:Shared) (a dx:Addr) (v:V),Inv X pins σ (upd (upd H dx (.xd [(name,v)])) a (.ext (xO a C (some dx)))) s->H a=none->H dx=none->dx≠a->X.s₀.heap.get? a=none->X.s₀.heap.get? dx=none->W v H->X.xe (.ref a) s)
    (hu:b6q e=true:=by rfl) (hdb:(cx==("__debug__" : Str))=false:=by decide) (he:starEach [e] X.env=(false,eval e X.env)::starEach [] X.env:=by rfl) (hpl:(backTo cpos (starEach [] X.env)).any (·.1)=false:=by rfl) :
    PS X (.Raise (some (.Call (.Name cx np) [e] [] cpos)) none pos) (λ _ σ H=>te σ H λ x H1=>∃ v,[x]=[v]/\W v H1):=by
  intro pins s σ H D I h
  obtain ⟨bm,N,nm,q,bs,hdct,sn,sub,ab,col,dd,k0,k1,k2,k3,k5,mN,oI,f1,f2,f3,f4⟩:=EI.ex
  rw [arm_exec_Raise]
  refine wpAny_bind (wpAny_standAt (rUq (C:=C) (nm:=nm) (q:=q) (N:=N) (bs:=bs) (bm:=bm) (hdct:=hdct) (sn:=sn) (sub:=sub) (ab:=ab) (col:=col) (dd:=dd) (k0:=k0) (k1:=k1) (k2:=k2) (k3:=k3) (k5:=k5) (newId:="ValueError.__new__") f1 (I.ok.hd hc) ?_))
  refine wpAny_bind (thn (Q:=λ v s₁=>∃ e t dx,v=.ref e/\s₁.heap.get? C=some (excClassObj nm q C N bs bm hdct sn sub ab col dd k0 k1 k2 k3 k5 "ValueError.__new__")/\s₁.heap.get? e=some (oQq C dx t)/\X.xe (.ref e) s₁) ?_ λ v s₃ h₃=>wpAny_bind (wpAny_standAt (wpAny_pure h₃)))
  refine wpAny_Call_Name_kw (d3q I hg hm ?_ hdb)
  refine PySem.W.callWith_K (h₀:=X.base) I.ok.mod.kin hk (thn (pc ha nQq hu cpos pins s σ H (λ vs H1=>∃ v,vs=[v]/\W v H1) I h) λ us s1 ⟨vs,H1,I1,r,v,ev,hW⟩=>⟨I1.kIn,?_⟩) he hpl
  subst ev
  obtain ⟨u,rfl,ru⟩:=Vals.one r
  obtain ⟨g1,g2,g3,g4⟩:=f4 s1.heap I1.kIn
  show wpAny _ _ (call (.ref C) [u]) _ _ _
  obtain ⟨hp,gg,d,tk,os⟩:=s1
  refine u2q PySem.F.excBase_ValueError g4 g1 g2 f2 g3 f3 (λ h' a hm sz=>?_) (by show 1<=sizeLine;decide)
  obtain ⟨t,z1,z2,z3⟩:=hm.there
  have I2:Inv X pins σ (upd H1 a (.ext (xO a C none))) ⟨h',gg,d,tk,os⟩:=I1.laid (t':=tk) hm.keeps sz (vKq ⟨t,z1⟩)
  have hn1:H1 a=none:=I1.hok.fresh sz
  have r2:Vals [V.ref a,v] [Value.ref a,u]:=.cons rfl (.cons ru .nil)
  have hq:x9q C name [.ref a,v] (upd H1 a (.ext (xO a C none))) (λ y H'=>y=.non/\∃ dx,H1 dx=none/\dx≠a/\H'=upd (upd H1 dx (.xd [(name,v)])) a (.ext (xO a C (some dx)))) E0:=
    ⟨a,v,rfl,aBq,λ dx h1 h2=>⟨rfl,dx,by rw [aAq h2] at h1;exact h1,h2,by
      funext b
      by_cases c:b=a
      . subst c;rw [aBq,aBq]
      . rw [aAq c,aAq c]
        by_cases c2:b=dx
        . subst c2;rw [aBq,aBq]
        . rw [aAq c2,aAq c2,aAq c]⟩⟩
  have hl:[Value.ref a,u].length=ps.length:=F.len _ _ _ _ hq
  have hb':=hb ⟨h',gg,d,tk,os⟩ [Value.ref a,u] I2.kIn (by rw [List.append_nil];exact hl)
  rw [List.append_nil] at hb'
  refine wpAny_call (codeAny_mono (F.run _ X.stack _ _ ⟨[Value.ref a,u],[]⟩ [Value.ref a,u] [V.ref a,v] _ E0 (hr.make C [u] []) (I2.env0.make C [u] []) hb' r2 hq) λ r s' hq'=>?_)
  cases r with
  | error e=>exact (show False from hq').elim
  | ok fl=>
    cases fl with
    | ret y=>
      obtain ⟨y1,H',os',bare',un,hok',ry,rfl,dx,n1,n2,rfl⟩:=hq'
      cases ry
      have I3:=I2.call' (ch:=[]) os' un hok' bare' (λ b z=>absurd z (by simp))
      have nd:X.s₀.heap.get? dx=none:=by
        cases z:X.s₀.heap.get? dx with
        | none=>rfl
        | some o=>
          obtain ⟨o',z1⟩:=I2.base.there dx o z (by rw [hex];simp)
          have z2:=un.free dx o' z1 (by rw [aAq n2];exact n1) (by simp)
          rw [aAq n2,aBq] at z2;cases z2
      have na:X.s₀.heap.get? a=none:=Heap.get?_none_of_le (Nat.le_trans I1.sz sz)
      obtain ⟨⟨t',w1⟩,_⟩:=I3.hok a _ aBq
      exact ⟨rfl,a,t',some dx,rfl,(f4 s'.heap I3.kIn).1,w1,hx pins σ H1 s' a dx v I3 hn1 n1 n2 na nd hW⟩
    | next=>exact False.elim hq'
    | brk=>exact False.elim hq'
    | cont=>exact False.elim hq'
end
end L2
set_option Elab.async false
set_option linter.all false
set_option maxRecDepth 100000
namespace L2
open PySem PySem.Spec PyProof.Rows
def Fl (h:Heap) (e T:Addr) (cls:Value) (dd:Option Addr) (fl:Value):Prop:=
  ∃ oe vs oT ts,h.get? e=some oe/\oe.cls=cls/\oe.dict=dd/\oe.data=Data.fields vs/\vs[1]?=some (Value.ref T)/\T≠e/\h.get? T=some oT/\oT.data=Data.fields ts/\ts[3]?=some fl
def Fl0 (h:Heap) (e:Addr) (cls:Value) (dd:Option Addr):Prop:=
  ∃ oe vs,h.get? e=some oe/\oe.cls=cls/\oe.dict=dd/\oe.data=Data.fields vs/\vs[1]?=some Value.none
section
variable {M:Model} {A:Around} {E:Value->Shared->Prop} {s:Shared} {e T L:Addr} {cls fl:Value} {dd:Option Addr} {base:Heap} {env:Env} {outer:List Env} {Q:Unit->Shared->Prop}
theorem kBq (f:Fl s.heap e T cls dd fl) (hq:∀ h',Fl h' e T cls dd .none->(∀ b,b≠T->h'.get? b=s.heap.get? b)->Q () { s with heap:=h' }):wpAny M A (setFlight (.ref e) none) Q E s:=by
  obtain ⟨oe,vs,oT,ts,f1,f2,f3,f4,f5,f6,f7,f8,f9⟩:=f
  have z3:3 < ts.size:=(Array.getElem?_eq_some_iff.mp f9).1
  unfold setFlight
  refine wpAny_bind (wpAny_field f1 f4 f5 ?_)
  rw [if_pos (show (Value.ref T !=Value.none)=true from by simp)]
  have oth:∀ b,b≠T->(s.heap.update T (Obj.mapFields (·.setIfInBounds 3 ((none:Option Addr).elim Value.none λ f=>rawInt f)))).get? b=s.heap.get? b:=λ b hb=>Heap.get?_update_other _ _ hb.symm
  exact wpAny_setField f7 f8 z3 (hq _ ⟨oe,vs,_,_,(oth e f6.symm).trans f1,f2,f3,f4,f5,f6,Heap.get?_update_self _ f7 (Obj.isFreed_of_fields (Obj.data_mapFields f8 _)),Obj.data_mapFields f8 _,by simp [z3]⟩ oth)
theorem fQq (o:Obj) (g:Array Value->Array Value):(Obj.mapFields g o).dict=o.dict:=by
  obtain ⟨c,d,dt,sl⟩:=o
  cases dt<;>rfl
theorem l9q {oe:Obj} {vs:Array Value} {head:Value} {hn:Bool} (hfr:A.frames=some (env::outer)) (hl:s.heap.FunFrames base (env::outer)) (hf:env.frame=some L) (he:s.heap.get? e=some oe) (hd:oe.data=Data.fields vs) (hz:1 < vs.size)
    (hq:∀ h' T',Fl h' e T' oe.cls oe.dict (rawInt L)->s.heap.get? T'=none->(∀ b o,b ∉ frs (env::outer)->b≠e->s.heap.get? b=some o->h'.get? b=some o)->(∀ b o,b≠e->s.heap.get? b=some o->∃ sl,h'.get? b=some { o with slots:=sl })->Q () { s with heap:=h' }) :
    wpAny M A (do let a ← frameOf env;let pl ← entryPlaceOf L hn;let b ← EntryCells.newEntry head a .none (rawInt L) .none pl;setField (.ref e) 1 b) Q E s:=by
  have ne:e ∉ (env::outer).filterMap (·.frame):=λ hm=>by
    obtain ⟨_,o,ho,hx⟩:=hl.mem hm
    rw [he] at ho;cases ho
    exact hx vs hd
  refine wpAny_bind (wpAny_frameOf_fun hfr hl hf λ h1 hs1=>wpAny_bind (wpAny_entryPlaceOf λ pl hpl=>?_))
  unfold EntryCells.newEntry newFields
  refine wpAny_bind (wpAny_newObj_type ?_ (hpl.sizeOk5 _ _ _ _ _))
  have e1:h1.get? e=some oe:=(hs1.2.1 e ne).trans he
  generalize hT:({ cls:=.type "traceback", dict:=none,data:=.fields ([head,.ref L,.none,rawInt L,.none]++(if pl.isEmpty then List.replicate 6 Value.none else pl)).toArray }:Obj)=oT
  have e2:(h1.push oT).get? e=some oe:=Heap.get?_push_of_some _ e1
  refine wpAny_setField e2 hd hz ?_
  have nT:h1.objs.size≠e:=Nat.ne_of_gt (Heap.lt_size e1)
  have d3:=Obj.data_mapFields hd (·.setIfInBounds 1 (Value.ref h1.objs.size))
  have oth:∀ b,b≠e->((h1.push oT).update e (Obj.mapFields (·.setIfInBounds 1 (Value.ref h1.objs.size)))).get? b=(h1.push oT).get? b:=λ b hb=>Heap.get?_update_other _ _ hb.symm
  have gT:(h1.push oT).get? h1.objs.size=some oT:=Heap.get?_push_size h1 (by rw [<- hT];rfl)
  have fresh:s.heap.get? h1.objs.size=none:=by
    cases z:s.heap.get? h1.objs.size with
    | none=>rfl
    | some o=>
      obtain ⟨sl,z1⟩:=hs1.2.2 _ o z
      exact absurd (Heap.lt_size z1) (Nat.lt_irrefl _)
  refine hq _ h1.objs.size ⟨_,_,oT,_,Heap.get?_update_self _ e2 (Obj.isFreed_of_fields d3),Obj.cls_mapFields _ _,fQq _ _,d3,by simp [hz],nT,(oth _ nT).trans gT,by rw [<- hT],?_⟩ fresh (λ b o n1 n2 z=>?_) λ b o n2 z=>?_
  . first | (simp;done) | (rcases hpl with rfl | ⟨_,_,_,_,_,_,_,rfl⟩<;>simp)
  . rw [oth b n2]
    exact Heap.get?_push_of_some _ ((hs1.2.1 b n1).trans z)
  . rw [oth b n2]
    obtain ⟨sl,z1⟩:=hs1.2.2 b o z
    exact ⟨sl,Heap.get?_push_of_some _ z1⟩
end
section
variable {M:Model} {A:Around} {E:Value->Shared->Prop} {s:Shared} {e T L:Addr} {cls fl:Value} {dd:Option Addr} {base:Heap} {env:Env} {outer:List Env} {Q:Unit->Shared->Prop}
theorem s3q (hfr:A.frames=some (env::outer)) (hl:s.heap.FunFrames base (env::outer)) (hf:env.frame=some L) (f:Fl0 s.heap e cls dd)
    (hq:∀ h' T',Fl h' e T' cls dd (rawInt L)->s.heap.get? T'=none->(∀ b o,b ∉ frs (env::outer)->b≠e->s.heap.get? b=some o->h'.get? b=some o)->(∀ b o,b≠e->s.heap.get? b=some o->∃ sl,h'.get? b=some { o with slots:=sl })->Q () { s with heap:=h' }) :
    wpAny M A (noteFrame (.ref e) env) Q E s:=by
  obtain ⟨oe,vs,f1,rfl,rfl,f4,f5⟩:=f
  unfold noteFrame
  simp only [hf]
  refine wpAny_bind (wpAny_field f1 f4 f5 ?_)
  rw [if_neg (by decide)]
  exact l9q hfr hl hf f1 f4 (Array.getElem?_eq_some_iff.mp f5).1 hq
theorem x2q (hfr:A.frames=some (env::outer)) (hl:s.heap.FunFrames base (env::outer)) (hf:env.frame=some L) (f:Fl s.heap e T cls dd .none)
    (hq:∀ h' T',Fl h' e T' cls dd (rawInt L)->s.heap.get? T'=none->(∀ b o,b ∉ frs (env::outer)->b≠e->b≠T->s.heap.get? b=some o->h'.get? b=some o)->(∀ b o,b≠e->b≠T->s.heap.get? b=some o->∃ sl,h'.get? b=some { o with slots:=sl })->Q () { s with heap:=h' }) :
    wpAny M A (noteFrame (.ref e) env) Q E s:=by
  obtain ⟨oe,vs,oT,ts,f1,rfl,rfl,f4,f5,f6,f7,f8,f9⟩:=f
  unfold noteFrame
  simp only [hf]
  refine wpAny_bind (wpAny_field f1 f4 f5 ?_)
  rw [if_pos (show (Value.ref T !=Value.none)=true from by simp)]
  refine wpAny_bind (wpAny_field f7 f8 f9 ?_)
  rw [if_neg (show ¬ ((Value.none==rawInt L)=true) from by simp [rawInt])]
  refine wpAny_bind (wpAny_setField f7 f8 (Array.getElem?_eq_some_iff.mp f9).1 ?_)
  have oth:∀ b,b≠T->(s.heap.update T (Obj.mapFields (·.setIfInBounds 3 Value.none))).get? b=s.heap.get? b:=λ b hb=>Heap.get?_update_other _ _ hb.symm
  have nr:∀ b o,s.heap.get? b=some o->(∀ vs,o.data≠.fields vs)->b≠T:=λ b o z hx q=>by
    rw [q,f7] at z;cases z
    exact hx ts f8
  have gT:(s.heap.update T (Obj.mapFields (·.setIfInBounds 3 Value.none))).get? T=some _:=Heap.get?_update_self _ f7 (Obj.isFreed_of_fields (Obj.data_mapFields f8 _))
  refine l9q (s:={ s with heap:=s.heap.update T (Obj.mapFields (·.setIfInBounds 3 Value.none)) }) hfr (hl.of_keeps λ b o z hx=>⟨o,(oth b (nr b o z hx)).trans z,rfl⟩) hf ((oth e f6.symm).trans f1) f4 (Array.getElem?_eq_some_iff.mp f5).1 λ h' T' k1 k2 k3 k4=>?_
  have nT:T'≠T:=by
    rintro rfl
    have z:(s.heap.update T' (Obj.mapFields (·.setIfInBounds 3 Value.none))).get? T'=none:=k2
    rw [gT] at z;cases z
  exact hq h' T' k1 ((oth T' nT).symm.trans k2) (λ b o n1 n2 n3 z=>k3 b o n1 n2 ((oth b n3).trans z)) λ b o n2 n3 z=>k4 b o n2 ((oth b n3).trans z)
theorem p9q (hfr:A.frames=some (env::outer)) (hl:s.heap.FunFrames base (env::outer)) (hf:env.frame=some L) (f:Fl0 s.heap e cls dd)
    (hq:∀ h' T',Fl h' e T' cls dd .none->s.heap.get? T'=none->(∀ b o,b ∉ frs (env::outer)->b≠e->s.heap.get? b=some o->h'.get? b=some o)->(∀ b o,b≠e->s.heap.get? b=some o->∃ sl,h'.get? b=some { o with slots:=sl })->Q () { s with heap:=h' }) :
    wpAny M A (leaving env (.ref e)) Q E s:=by
  unfold leaving
  refine wpAny_bind (s3q hfr hl hf f λ h1 T' k1 k2 k3 k4=>?_)
  refine kBq (s:={ s with heap:=h1 }) k1 λ h2 k5 k6=>hq h2 T' k5 k2 (λ b o n1 n2 z=>?_) λ b o n2 z=>?_
  . have nb:b≠T':=by rintro rfl;rw [k2] at z;cases z
    exact (k6 b nb).trans (k3 b o n1 n2 z)
  . have nb:b≠T':=by rintro rfl;rw [k2] at z;cases z
    obtain ⟨sl,z1⟩:=k4 b o n2 z
    exact ⟨sl,(k6 b nb).trans z1⟩
end
abbrev yHq (H:Hp) (dd:Option Addr) (fs:List (Str × V)):Hp:=match dd with
  | some dx=>upd H dx (.xd fs)
  | none=>H
def XDict (h:Heap) (dd:Option Addr) (fs:List (Str × V)):Prop:=match dd with
  | some dx=>∃ mA,h.Ns1 dx mA/\∀ f,RelO (fs.lookup f) (mA f)
  | none=>fs=[]
structure XLie (P:Program) (w:World) (outer:List Env) (H:Hp) (s:Shared) (a T:Addr) (C:Addr) (dd:Option Addr) (fs:List (Str × V)) (H':Hp) (s':Shared):Prop where
  os:s'.os=s.os
  bare:AllBare s'.gens
  un:Un (frs outer) [] H H' s.heap s'.heap
  hok:HOk P w H' s'.heap
  fl:Fl s'.heap a T (.ref C) dd .none
  dict:XDict s'.heap dd fs
  ha:H' a=none
  hT:H' T=none
  hd:∀ dx,dd=some dx->H' dx=none/\s.heap.get? dx=none/\dx≠a/\dx≠T
  na:s.heap.get? a=none
  nT:s.heap.get? T=none
def CXD (P:Program) (w:World):CXT:=λ outer H s E e s'=>∃ (a T C:Addr) (dd:Option Addr) (fs:List (Str × V)) (H':Hp),e=.ref a/\XLie P w outer H s a T C dd fs H' s'/\E (.ref C) dd (yHq H' dd fs)
def Lone:HO->Prop
  | .ext _=>True
  | .xd _=>True
  | _=>False
section
variable {P:Program} {w:World} {H H1:Hp} {h h':Heap} {x:Addr} {o:HO} {fs ex:List Addr}
theorem kFq (u:Un fs ex H (upd H1 x o) h h') (hl:Lone o) (hn:H1 x=none) (hx:h.get? x=none):Un fs ex H H1 h h':=by
  have ne:∀ b ob,h.get? b=some ob->b≠x:=λ b ob z=>by rintro rfl;rw [hx] at z;cases z
  refine ⟨u.keep,u.slot,λ b ob z n hb=>?_,u.there,λ b xs z=>?_,λ b ob v z=>?_,λ b ps z=>?_⟩
  . have e:=u.free b ob z n hb;rw [aAq (ne b ob z)] at e;exact e
  . have e:=u.tups b xs z
    by_cases c:b=x
    . subst c;rw [aBq] at e;cases e;exact hl.elim
    . rw [aAq c] at e;exact e
  . have e:=u.frzs b ob v z
    by_cases c:b=x
    . subst c;rw [aBq] at e;cases e;exact hl.elim
    . rw [aAq c] at e;exact e
  . obtain ⟨m,e⟩:=u.tbls b ps z
    by_cases c:b=x
    . subst c;rw [aBq] at e;cases e;exact hl.elim
    . rw [aAq c] at e;exact ⟨m,e⟩
theorem j0q (k:HOk P w (upd H1 x o) h) (hl:Lone o) (hn:H1 x=none):HOk P w H1 h:=λ b u e=>by
  have nb:b≠x:=aEq e hn
  refine (k b u (by rw [aAq nb];exact e)).stay (λ _ _ _ q=>q) (λ c q=>?_) λ c xs q=>?_
  . by_cases z:c=x
    . subst z;rw [aBq] at q;cases q;exact hl.elim
    . rw [aAq z] at q;exact q
  . by_cases z:c=x
    . subst z;rw [aBq] at q;cases q;exact hl.elim
    . rw [aAq z] at q;exact q
end
section
variable {P:Program} {w:World} {K:PySem.W.Frag} {mg:Str->Option Value} {base:Heap} {N:List Str} {qual:Str} {scope:Scope} {f:Addr} {cd:Value} {A:Around} {outer:List Env} {s s1:Shared} {H H1 H':Hp} {E:XK} {pins:List (Addr × Obj)} {σ:St} {h':Heap} {a T T' C dx:Addr} {dd:Option Addr} {fs:List (Str × V)}
theorem XDict.keeps {h h':Heap} (x:XDict h dd fs) (k:∀ dx o,dd=some dx->h.get? dx=some o->h'.get? dx=some o):XDict h' dd fs:=by
  cases dd with
  | none=>exact x
  | some dx=>obtain ⟨mA,n,r⟩:=x;exact ⟨mA,n.at λ o z=>k dx o rfl z,r⟩
theorem wYq (un:Un (frs outer) [] H H' s.heap s1.heap) (hok:HOk P w H' s1.heap) (os:s1.os=s.os) (bare:AllBare s1.gens) (hfrees:∀ b∈frs (envOfC qual scope s.heap.objs.size f cd::outer),H' b=none)
    (keep:∀ b o,b ∉ frs (envOfC qual scope s.heap.objs.size f cd::outer)->b≠a->b≠T->s1.heap.get? b=some o->h'.get? b=some o) (slot:∀ b o,b≠a->b≠T->s1.heap.get? b=some o->∃ sl,h'.get? b=some { o with slots:=sl })
    (fl:Fl h' a T' (.ref C) dd .none) (hT':s1.heap.get? T'=none) (ha:H' a=none) (hT:H' T=none) (na:s.heap.get? a=none) (nT:s.heap.get? T=none) (dict:XDict s1.heap dd fs)
    (hd:∀ dx,dd=some dx->H' dx=none/\s.heap.get? dx=none/\dx≠a/\dx≠T/\dx ∉ frs (envOfC qual scope s.heap.objs.size f cd::outer)):XLie P w outer H s a T' C dd fs H' { s1 with heap:=h' }:=by
  have n0:∀ b o,s.heap.get? b=some o->b≠a/\b≠T:=λ b o z=>⟨(by rintro rfl;rw [na] at z;cases z),(by rintro rfl;rw [nT] at z;cases z)⟩
  have mem2:∀ b,b∈frs (envOfC qual scope s.heap.objs.size f cd::outer)->b=s.heap.objs.size\/b∈frs outer:=λ b hb=>by
    have hb':b∈s.heap.objs.size::frs outer:=hb
    exact List.mem_cons.mp hb'
  refine ⟨os,bare,⟨λ b o z n hb hx=>?_,λ b o z n hb hx=>?_,un.free,λ b o z hx=>?_,un.tups,un.frzs,un.tbls⟩,hYq hok λ b u hb z=>?_,fl,dict.keeps λ dx o e z=>?_,ha,lAq hok hT',λ dx e=>?_,na,?_⟩
  . obtain ⟨m1,m2⟩:=n0 b o z
    refine keep b o (λ hm=>?_) m1 m2 (un.keep b o z n hb hx)
    rcases mem2 b hm with r | r
    . exact absurd (Heap.lt_size z) (by rw [r];exact Nat.lt_irrefl _)
    . exact hb r
  . obtain ⟨sl,z1⟩:=un.slot b o z n hb hx
    obtain ⟨m1,m2⟩:=n0 b o z
    obtain ⟨sl',z2⟩:=slot b _ m1 m2 z1
    exact ⟨sl',z2⟩
  . obtain ⟨o',z1⟩:=un.there b o z hx
    obtain ⟨m1,m2⟩:=n0 b o z
    obtain ⟨sl,z2⟩:=slot b o' m1 m2 z1
    exact ⟨_,z2⟩
  . exact keep b u (λ hm=>hb (hfrees b hm)) (by rintro rfl;exact hb ha) (by rintro rfl;exact hb hT) z
  . obtain ⟨_,_,m1,m2,m3⟩:=hd dx e
    exact keep dx o m3 m1 m2 z
  . obtain ⟨m0,m1,m2,m3,m4⟩:=hd dx e
    refine ⟨m0,m1,m2,?_⟩
    rintro rfl
    subst e
    obtain ⟨mA,⟨o,_,_,z,_⟩,_⟩:=dict
    rw [hT'] at z;cases z
  . cases z:s.heap.get? T' with
    | none=>rfl
    | some o=>
      obtain ⟨o',z1⟩:=un.there T' o z (by simp)
      rw [hT'] at z1;cases z1
theorem nMq (I:Inv (dIq (CXD P w) P w K mg base N qual scope f cd A outer s H E) pins σ (upd (upd H1 dx (.xd fs)) a (.ext (xO a C (some dx)))) s1) (ha:H1 a=none) (hd:H1 dx=none) (hda:dx≠a) (na:s.heap.get? a=none) (nd:s.heap.get? dx=none)
    (q:E (.ref C) (some dx) (upd H1 dx (.xd fs))):(dIq (CXD P w) P w K mg base N qual scope f cd A outer s H E).xe (.ref a) s1:=by
  have hstk:s1.heap.FunFrames base (envOfC qual scope s.heap.objs.size f cd::outer):=I.stack
  have hfr:(A.deeper (envOfC qual scope s.heap.objs.size f cd)).frames=some (envOfC qual scope s.heap.objs.size f cd::outer):=I.ok.frames
  obtain ⟨⟨t,he⟩,_⟩:=I.hok a _ aBq
  have ub:Un (frs outer) [] H (upd (upd H1 dx (.xd fs)) a (.ext (xO a C (some dx)))) s.heap s1.heap:=I.base
  have hxa:upd H1 dx (.xd fs) a=none:=by rw [aAq hda.symm];exact ha
  have u1:=kFq (kFq ub True.intro hxa na) True.intro hd nd
  have k0:=j0q I.hok True.intro hxa
  have k1:=j0q k0 True.intro hd
  obtain ⟨mA,ns,rel⟩:=k0 dx _ aBq
  have frees:∀ b∈frs (envOfC qual scope s.heap.objs.size f cd::outer),upd (upd H1 dx (.xd fs)) a (.ext (xO a C (some dx))) b=none:=I.stkFree
  have fr1:∀ b∈frs (envOfC qual scope s.heap.objs.size f cd::outer),b≠dx/\H1 b=none:=λ b hb=>by
    have e:=frees b hb
    have n1:b≠a:=by rintro rfl;rw [aBq] at e;cases e
    rw [aAq n1] at e
    have n2:b≠dx:=by rintro rfl;rw [aBq] at e;cases e
    rw [aAq n2] at e
    exact ⟨n2,e⟩
  show wpAny (model P w) (A.deeper (envOfC qual scope s.heap.objs.size f cd)) (leaving (envOfC qual scope s.heap.objs.size f cd) (.ref a)) _ _ _
  refine p9q (dd:=some dx) (cls:=.ref C) hfr hstk rfl ⟨_,_,he,rfl,rfl,rfl,rfl⟩ λ h' T' f1 f2 f3 f4=>?_
  refine ⟨a,T',C,some dx,fs,H1,rfl,wYq (T:=a) u1 k1 I.os I.bare (λ b hb=>(fr1 b hb).2) (λ b o n1 n2 _ z=>f3 b o n1 n2 z) (λ b o n1 _ z=>f4 b o n1 z) f1 f2 ha ha na na ⟨mA,ns,rel⟩ (λ dx' e=>?_),q⟩
  cases e
  exact ⟨hd,nd,hda,hda,λ hb=>(fr1 dx hb).1 rfl⟩
end
end L2
set_option Elab.async false
set_option linter.all false
set_option maxRecDepth 100000
namespace L2
open PySem PySem.Spec PyProof.Rows
structure ExcH (K:PySem.W.Frag) (D:Addr):Prop where
  ty:PySem.W.typeIn K (.ref D)=some (.type "type")
  cls:∃ c0 d0 cd sl,K.lookup D=some ⟨c0,d0,.cls cd,sl⟩
  sub:PySem.W.subIn K (.ref D) (.type "BaseException")=some true
theorem r0q {prog:Program} {w:World} {A:Around} {E:Value->Shared->Prop} {s:Shared} {K:PySem.W.Frag} {C D e:Addr} {oe:Obj} {b:Bool} {Q:Bool->Shared->Prop} (X:K.In s.heap) (he:s.heap.get? e=some oe) (hc:oe.cls=.ref C) (EH:ExcH K D) (h4:PySem.W.subIn K (.ref C) (.ref D)=some b) (hq:Q b s) :
    wpAny (model prog w) A (excMatches (.ref e) (.ref D)) Q E s:=by
  obtain ⟨c0,d0,cd,sl,hcd⟩:=EH.cls
  have hD:=X _ _ hcd
  have L1:=PySem.W.looks_typeIn (M:=model prog w) X EH.ty
  have L2:=PySem.W.looks_subIn (M:=model prog w) X EH.sub
  have L3:=PySem.W.looks_subIn (M:=model prog w) X h4
  have f:=tc_notTuple
  obtain ⟨hp,g,d,tk,os⟩:=s
  dsimp only at he hD L1 L2 L3
  have L0:PySem.W.Looks (model prog w) hp (typeOf (.ref e)) (.ref C):=by
    rw [<- hc]
    exact (PySem.W.Looks.ld (part:=some headPart) he).andThen .now
  have L4:PySem.W.Looks (model prog w) hp (isType (.ref D)) true:=(PySem.W.Looks.ld (part:=some headPart) hD).andThen .now
  unfold excMatches isInstance
  refine wpAny_bind (wpAny_bind (L1.at ?_))
  rw [f]
  refine wpAny_pure ?_
  rw [if_neg (by decide)]
  refine wpAny_bind (wpAny_pure (wpAny_bind ?_))
  simp only [List.forIn_cons,List.forIn_nil]
  refine wpAny_bind (wpAny_bind ?_)
  unfold isExcClass
  refine wpAny_bind (L4.at ?_)
  rw [if_pos rfl]
  refine L2.at ?_
  rw [if_neg (by decide)]
  refine wpAny_pure (wpAny_pure (wpAny_bind (L0.at (wpAny_bind (wpAny_bind (wpAny_bind (L3.at ?_)))))))
  cases b with
  | true=>exact wpAny_pure (wpAny_pure (wpAny_pure hq))
  | false=>exact wpAny_pure (wpAny_pure (wpAny_pure hq))
end L2
namespace L2
open PySem PySem.Spec PyProof.Rows PySem.W PySem.Calls Builtin Builtin.ObjectAttr
section
variable {prog:Program} {w:World} {A:Around} {E:Value->Shared->Prop} {s:Shared} {K:Frag} {e C:Addr} {oe odx:Obj} {cd:ClassData} {name:Str} {v:Value} {expr:Bool}
theorem zUq {Q:Value->Shared->Prop} (F:ExcK K C) (X:K.In s.heap) (I:InstAt s.heap e oe C (some odx)) (hc:clsIn K C=some cd) (hd:cd.hasDict=true) (hn:findIn K (.ref C) name=some none) (hl:lookIn name odx=some (some v)) (hh:handedIn v=true)
    (h:Q v { s with toks:=s.toks+1 }):wpAny (model prog w) A (getAttr (.ref e) name expr) Q E s:=by
  obtain ⟨hp,g,d,t,os⟩:=s
  have L0:=I.type (M:=model prog w)
  have L1:=looks_findIn (M:=model prog w) X F.ga
  have L2:=looks_findIn (M:=model prog w) X F.gr
  have L3:Looks (model prog w) hp (find (.ref e) (.ref C) name) (.value v):=looks_find X I (by unfold findObj;rw [hc,hn];simp [PySem.W.ownOf,hd,hl])
  unfold getAttr getAttrBy
  refine wpAny_bind (wpAny_mkText (wpAny_holding (wpAny_bind (L0.at (wpAny_bind (L1.at ?_))))))
  dsimp only
  rw [show (onTheHeap (.ref C)&&Value.builtin "BaseException.__getattribute__"==Value.builtin "object.__getattribute__")=false from by rw [show (Value.builtin "BaseException.__getattribute__"==Value.builtin "object.__getattribute__")=false from by decide +kernel,Bool.and_false],if_neg (by decide)]
  refine wpAny_bind ((show Looks (model prog w) hp (hookBefore (.ref C)) none from L2).at (wpAny_bind (wpAny_attempt (wpAny_holding ?_))))
  unfold callGetattribute
  rw [show (expr&&onTheHeap (Value.builtin "BaseException.__getattribute__"))=false from Bool.and_false _,if_neg (by decide)]
  unfold boundAndCalled
  rw [p2q]
  refine wpAny_bind (wpAny_pure ?_)
  show wpAny _ _ (call (.builtin "BaseException.__getattribute__") [.ref e,.str name t]) _ _ _
  refine wpAny_call ?_
  refine codeAny_call_builtin (by first | exact Code.quiet_builtin _ (by decide +kernel) | decide +kernel) PySem.F.entry_bexc_ga ?_
  refine @check_slot (model prog w) _ _ _ "BaseException.__getattribute__" "BaseException" "__getattribute__" (.ref e) [.str name t] [] _ (by decide +kernel) (by decide +kernel) (L0.andThen (looks_subIn X F.mb)) (PySem.F.args_bexc_ga (.ref e) (.str name t)) ?_
  refine wpAny_bind (wpAny_pure (wpAny_bind (wpAny_pure (wpAny_bind (L0.at (wpAny_bind (L3.at ?_)))))))
  refine wpAny_pure ?_
  exact handed_on hh h
end
structure XHeld (X:Cx) (pins:List (Addr × Obj)) (H:Hp) (a T C:Addr) (dd:Option Addr) (fs:List (Str × V)) (h:Heap):Prop where
  fl:Fl h a T (.ref C) dd .none
  dict:XDict h dd fs
  ha:H a=none
  hT:H T=none
  na:X.s₀.heap.get? a=none
  nT:X.s₀.heap.get? T=none
  pe:∀ p∈X.pn++pins,p.1≠a/\p.1≠T
  hd:∀ dx,dd=some dx->H dx=none/\dx≠a/\dx≠T/\dx ∉ frs X.stack
section
variable {X:Cx} {pins:List (Addr × Obj)} {σ:St} {H:Hp} {s:Shared} {h':Heap} {a T T' C:Addr} {dd:Option Addr} {fs:List (Str × V)}
theorem XHeld.step (I:Inv X pins σ H s) (x:XHeld X pins H a T C dd fs s.heap) (hex:X.ex=[]) (keep:∀ b o,b ∉ frs X.stack->b≠a->b≠T->s.heap.get? b=some o->h'.get? b=some o) (slot:∀ b o,b≠a->b≠T->s.heap.get? b=some o->∃ sl,h'.get? b=some { o with slots:=sl })
    (fl:Fl h' a T' (.ref C) dd .none) (hT':T'=T\/s.heap.get? T'=none):Inv X pins σ H { s with heap:=h' }/\XHeld X pins H a T' C dd fs h':=by
  obtain ⟨oe,vs,oT,ts,f1,f2,f3,f4,f5,f6,f7,f8,f9⟩:=x.fl
  have nf:∀ b,b∈frs X.stack->b≠a/\b≠T:=λ b hb=>by
    obtain ⟨_,o,z,hx⟩:=I.stack.mem hb
    refine ⟨?_,?_⟩
    . rintro rfl;rw [f1] at z;cases z;exact hx _ f4
    . rintro rfl;rw [f7] at z;cases z;exact hx _ f8
  have J:=tZq I keep (λ b u hb z=>slot b u (nf b hb).1 (nf b hb).2 z) ⟨oe,vs,f1,f4⟩ ⟨oT,ts,f7,f8⟩ x.na x.nT x.pe x.ha x.hT
  refine ⟨J,fl,x.dict.keeps λ dx o e z=>?_,x.ha,?_,x.na,?_,λ p hp=>⟨(x.pe p hp).1,?_⟩,λ dx e=>?_⟩
  . obtain ⟨_,m2,m3,m4⟩:=x.hd dx e
    exact keep dx o m4 m2 m3 z
  . rcases hT' with rfl | z
    . exact x.hT
    . exact lAq I.hok z
  . rcases hT' with rfl | z
    . exact x.nT
    . cases q:X.s₀.heap.get? T' with
      | none=>rfl
      | some o=>
        obtain ⟨o',z1⟩:=I.base.there T' o q (by rw [hex];simp)
        rw [z] at z1;cases z1
  . rcases hT' with rfl | z
    . exact (x.pe p hp).2
    . rintro rfl;rw [(I.pin p hp).1] at z;cases z
  . obtain ⟨m1,m2,m3,m4⟩:=x.hd dx e
    refine ⟨m1,m2,?_,m4⟩
    rcases hT' with rfl | z
    . exact m3
    . rintro rfl
      subst e
      obtain ⟨mA,⟨o,_,_,z1,_⟩,_⟩:=x.dict
      rw [z] at z1;cases z1
abbrev Cx.inP (X:Cx) (a:Addr) (pn:List (Addr × Obj)):Cx:={ X with A:=X.A.mark (some (.ref a)),calm:=false,pn:=pn++X.pn,xe:=λ _ _=>False }
structure XPin (a C:Addr) (fs:List (Str × V)) (pn:List (Addr × Obj)):Prop where
  obj:∃ oe vs,(a,oe)∈pn/\oe.cls=.ref C/\oe.data=Data.fields vs/\((oe.dict=none/\fs=[])\/∃ (dx:Addr) (odx:Obj) (mA:Str->Option Value),oe.dict=some dx/\(dx,odx)∈pn/\(∀ n,PySem.W.lookIn n odx=some (mA n))/\∀ f,RelO (fs.lookup f) (mA f))
theorem Inv.inP (I:Inv X pins σ H s) (hst:X.stack=X.env::X.outer) (hfr:X.env.frame=some X.env.locals) (x:XHeld X pins H a T C dd fs s.heap):∃ pn,XPin a C fs pn/\Inv (X.inP a pn) pins σ H s:=by
  obtain ⟨oe,vs,oT,ts,f1,f2,f3,f4,f5,f6,f7,f8,f9⟩:=x.fl
  have ok:=I.ok
  have mk:∀ pn:List (Addr × Obj),(∀ p∈pn,s.heap.get? p.1=some p.2/\H p.1=none/\p.1≠X.env.locals/\p.1 ∉ X.fs/\∀ v,p.2.data≠.cell v)->Inv (X.inP a pn) pins σ H s:=λ pn hpn=>by
    refine ⟨⟨ok.mod,ok.kind,ok.glob,ok.blt,ok.above,ok.inj,ok.has,ok.cab,λ z=>(by cases z),ok.frames,ok.stk,ok.exf,ok.bs,ok.bsz,ok.noex,ok.exfs,ok.funs,ok.frf⟩,I.os,I.bare,I.base,I.loc,I.cell,I.free,I.freeC,λ p hp=>?_,I.hok,I.len⟩
    have hp':p∈(pn++X.pn)++pins:=hp
    rw [List.append_assoc] at hp'
    rcases List.mem_append.mp hp' with hp | hp
    . exact hpn p hp
    . exact I.pin p hp
  have nl:∀ b o,s.heap.get? b=some o->(∀ es n,o.data≠.dict es n)->b≠X.env.locals:=λ b o z hx=>by
    rintro rfl
    obtain ⟨m,⟨o',es',ep,z',r'⟩,_⟩:=I.loc
    rw [z] at z';cases z'
    exact hx _ _ r'.1
  have pa:s.heap.get? a=some oe/\H a=none/\a≠X.env.locals/\a ∉ X.fs/\∀ v,oe.data≠.cell v:=by
    refine ⟨f1,x.ha,nl a oe f1 (λ es n q=>by rw [f4] at q;cases q),λ hb=>?_,λ v q=>by rw [f4] at q;cases q⟩
    obtain ⟨_,o',z',hx⟩:=I.stack.mem (jUq I hb)
    rw [f1] at z';cases z'
    exact hx _ f4
  cases dd with
  | none=>exact ⟨[(a,oe)],⟨⟨oe,vs,List.mem_cons_self ..,f2,f4,.inl ⟨f3,x.dict⟩⟩⟩,mk _ λ p hp=>by rcases List.mem_cons.mp hp with rfl | hp;exact pa;cases hp⟩
  | some dx=>
    obtain ⟨mA,ns,rel⟩:=x.dict
    obtain ⟨m1,m2,m3,m4⟩:=x.hd dx rfl
    obtain ⟨odx,ho,hl⟩:=j4q ns
    have nL:dx≠X.env.locals:=by
      rintro rfl
      refine m4 ?_
      rw [hst]
      exact List.mem_filterMap.mpr ⟨X.env,List.mem_cons_self ..,hfr⟩
    have nC:∀ v,odx.data≠.cell v:=λ v q=>by
      obtain ⟨o,es,ep,z,hd,_⟩:=ns
      rw [ho] at z;cases z
      rw [hd] at q;cases q
    refine ⟨[(a,oe),(dx,odx)],⟨⟨oe,vs,List.mem_cons_self ..,f2,f4,.inr ⟨dx,odx,mA,f3,List.mem_cons_of_mem _ (List.mem_cons_self ..),hl,rel⟩⟩⟩,mk _ λ p hp=>?_⟩
    rcases List.mem_cons.mp hp with rfl | hp
    . exact pa
    . rcases List.mem_cons.mp hp with rfl | hp
      . exact ⟨ho,m1,nL,λ hb=>m4 (jUq I hb),nC⟩
      . cases hp
theorem Inv.outP {pn:List (Addr × Obj)} (ok:X.Ok) (I:Inv (X.inP a pn) pins σ H s):Inv X pins σ H s:=
  ⟨ok,I.os,I.bare,I.base,I.loc,I.cell,I.free,I.freeC,λ p hp=>I.pin p (by
    have:p∈(pn++X.pn)++pins:=by rw [List.append_assoc];exact List.mem_append_right _ hp
    exact this),I.hok,I.len⟩
abbrev XRd:=Addr->List (Str × V)->Ends->St->Hp->Prop
def HB (X:Cx) (hs:List ExceptHandler) (rd:XRd):Prop:=∀ (pins:List (Addr × Obj)) (s:Shared) (σ:St) (H:Hp) (D:Ends) (a T C:Addr) (dd:Option Addr) (fs:List (Str × V)),Inv X pins σ H s->XHeld X pins H a T C dd fs s.heap->rd C fs D σ H →
  wpAny (model X.prog X.w) X.A (handleBy (.ref a) X.env hs) (SP X pins D) X.xe s
def rdAs (K:PySem.W.Frag) (D:Addr) (i:Nat) (u:Addr->Addr->List (Str × V)->TS) (rd:XRd):XRd:=λ C fs DD σ H=>∃ b,PySem.W.subIn K (.ref C) (.ref D)=some b/\(b=true->∀ e,H e=none->u e C fs (offE i DD) (σ.set i (some (.ref e))) H)/\(b=false->rd C fs DD σ H)
theorem yOq:HB X [] (λ _ _ _ _ _=>False):=λ _ _ _ _ _ _ _ _ _ _ _ _ h=>h.elim
variable {D:Addr} {cx n:Str} {np hpos:Pos} {b₀:Stmt} {suite:List Stmt} {rest:List ExceptHandler} {u:Addr->Addr->List (Str × V)->TS} {rd:XRd} {i:Nat}
theorem aI0q (hex:X.ex=[]) (hst:X.stack=X.env::X.outer) (hfr:X.env.frame=some X.env.locals) (EH:ExcH X.K D) (hgc:Gl X cx) (hmc:X.mg cx=some (.ref D)) (hN:X.N.Nodup) (hi:X.N[i]?=some n) (hlo:X.env.scope.names.lookup n=some .local)
    (hs:∀ e C fs pn,XPin e C fs pn->PSs (X.inP e pn) (b₀::suite) (u e C fs)) (hr:HB X rest rd) (hdc:(cx==("__debug__" : Str))=false:=by decide):HB X (.ExceptHandler (some (.Name cx np)) (some n) (b₀::suite) hpos::rest) (rdAs X.K D i u rd):=by
  intro pins s σ H DD a T C dd fs I x h
  obtain ⟨b,hb,h1,h2⟩:=h
  obtain ⟨pn,XP,J⟩:=I.inP hst hfr x
  obtain ⟨oe,vs,oT,ts,f1,f2,f3,f4,f5,f6,f7,f8,f9⟩:=id x.fl
  refine wpAny_handleBy_cons (codeAny_handlers_test (d3q (X:=X.inP a pn) J hgc hmc (r0q I.kIn f1 f2 EH hb ?_) hdc)) (by intro q;cases q)
  cases b with
  | false=>exact hr pins s σ H DD a T C dd fs I x (h2 rfl)
  | true=>
    refine codeAny_handlers_suite_as (kBq x.fl λ h3 k1 k2=>?_)
    obtain ⟨J3,x3⟩:=x.step I hex (λ b o _ _ n3 z=>(k2 b n3).trans z) (λ b o _ n3 z=>⟨o.slots,(k2 b n3).trans z⟩) k1 (.inl rfl)
    obtain ⟨pn3,XP3,J3x⟩:=J3.inP hst hfr x3
    refine hSq (X:=X.inP a pn3) (v:=.ref a) J3x hN hi (.inl hlo) rfl (λ s5 J5=>?_) (.inr hlo)
    refine wpAny_mono (hs a C fs pn3 XP3 pins s5 _ H (offE i DD) J5 (h1 rfl a x.ha)) (λ fl s6 q=>?_) (λ _ _ z=>z.elim)
    cases fl with
    | next=>obtain ⟨σ',H6,J6,q6⟩:=q;exact eFq (J6.outP I.ok) hN hi hlo λ s7 J7=>⟨_,H6,J7,q6⟩
    | brk=>obtain ⟨σ',H6,J6,q6⟩:=q;exact eFq (J6.outP I.ok) hN hi hlo λ s7 J7=>⟨_,H6,J7,q6⟩
    | cont=>obtain ⟨σ',H6,J6,q6⟩:=q;exact eFq (J6.outP I.ok) hN hi hlo λ s7 J7=>⟨_,H6,J7,q6⟩
    | ret uv=>obtain ⟨v,σ',H6,J6,rv,q6⟩:=q;exact eFq (J6.outP I.ok) hN hi hlo λ s7 J7=>⟨v,_,H6,J7,rv,q6⟩
end
end L2
set_option Elab.async false
set_option linter.all false
set_option maxRecDepth 100000
namespace L2
open PySem PySem.Spec PyProof.Rows
def eeOf (rd:XRd) (D:Ends) (σ:St):XK:=λ cls dd HH=>∃ (C:Addr) (fs:List (Str × V)) (H':Hp),cls=.ref C/\HH=yHq H' dd fs/\(∀ dx,dd=some dx->H' dx=none)/\(dd=none->fs=[])/\rd C fs D σ H'
theorem rLq {H H':Hp} {dd:Option Addr} {fs fs':List (Str × V)} (e:yHq H dd fs=yHq H' dd fs') (h:∀ dx,dd=some dx->H dx=none) (h':∀ dx,dd=some dx->H' dx=none) (n:dd=none->fs=[]) (n':dd=none->fs'=[]):H=H'/\fs=fs':=by
  cases dd with
  | none=>exact ⟨e,(n rfl).trans (n' rfl).symm⟩
  | some dx=>
    have e1:upd H dx (.xd fs)=upd H' dx (.xd fs'):=e
    refine ⟨funext λ b=>?_,?_⟩
    . by_cases c:b=dx
      . subst c;rw [h b rfl,h' b rfl]
      . have:=congrFun e1 b;rw [aAq c,aAq c] at this;exact this
    . have:=congrFun e1 dx;rw [aBq,aBq] at this;cases this;rfl
def PEx (X:Cx) (e:Expr) (t:XK->TE):Prop:=∀ (pins:List (Addr × Obj)) (s:Shared) (σ:St) (H:Hp) (Q:VK) (EE:XK) (E':Value->Shared->Prop),Inv X pins σ H s->t EE σ H Q->(∀ H1 s1 ev s',Inv X pins σ H1 s1->CXD X.prog X.w X.stack H1 s1 EE ev s'->E' ev s') →
  wpAny (model X.prog X.w) X.A (eval e X.env) (EP X pins σ Q) E' s
section
variable {X:Cx} {pins:List (Addr × Obj)} {σ:St} {H:Hp} {s:Shared}
theorem r1q {k:Nat} {fx:Str} {ps:List Str} {f:Addr} {fd:FuncData} {sp:Sp} {p0 cpos:Pos} {e:Expr} {es:List Expr} {t:TA}
    (F:FnOk X.prog X.w X.K X.mg X.base (CXD X.prog X.w) k f fd ps sp) (hr:Room k X.A) (hg:Gl X fx) (hm:X.mg fx=some (.ref f)) (hk:PySem.W.keepIn X.K (.ref f)=true) (hb:Binds X.K fd ps []) (ha:∀ E',PA (X.wish E') (e::es) t)
    (hdb:(fx==("__debug__" : Str))=false:=by decide) (he:starEach (e::es) X.env=(false,eval e X.env)::starEach es X.env:=by rfl) (hpl:(backTo cpos (starEach es X.env)).any (·.1)=false:=by rfl) :
    PEx X (.Call (.Name fx p0) (e::es) [] cpos) (λ EE=>rXq sp [] EE t):=by
  intro pins s σ H Q EE E' I h hE
  refine wpAny_Call_Name_kw (d3q I hg hm ?_ hdb)
  refine PySem.W.callWith_K (h₀:=X.base) I.ok.mod.kin hk (thn (ha E' cpos pins s σ H _ (I.wish E') h) λ us s1 ⟨vs,H1,I1,r,q⟩=>⟨I1.kIn,?_⟩) he hpl
  replace q:sp (vs++[]) H1 Q EE:=q
  rw [List.append_nil] at q
  have I1':=I1.unwish
  have hl:(us++[]).length=ps.length:=by rw [List.append_nil,<- r.length];exact F.len _ _ _ _ q
  refine wpAny_call (codeAny_mono (F.run X.A X.stack s1 H1 ⟨us,[]⟩ (us++[]) vs _ _ hr I1'.env0 (hb s1 us I1'.kIn hl) (by rw [List.append_nil];exact r) q) λ rs s' hq=>?_)
  cases rs with
  | ok fl=>
    cases fl with
    | ret v=>exact I1'.after hq
    | next=>exact False.elim hq
    | brk=>exact False.elim hq
    | cont=>exact False.elim hq
  | error ev=>exact hE H1 s1 ev s' I1' hq
theorem z6q {hs:List ExceptHandler} {rd:XRd} {D:Ends} {ev:Value} {s':Shared} (hex:X.ex=[]) (hst:X.stack=X.env::X.outer) (hfr:X.env.frame=some X.env.locals) (hh:HB X hs rd) (I:Inv X pins σ H s) (hx:CXD X.prog X.w X.stack H s (eeOf rd D σ) ev s') :
    wpAny (model X.prog X.w) X.A (noteFrame ev X.env) (λ _ s₂=>wpAny (model X.prog X.w) X.A (setFlight ev none) (λ _ s₃=>wpAny (model X.prog X.w) X.A (handleBy ev X.env hs) (SP X pins D) X.xe s₃) X.xe s₂) X.xe s':=by
  obtain ⟨a,T,C,dd,fs,H',rfl,x,C',fs',H'',e1,e2,e3,e4,q⟩:=hx
  cases e1
  have nfs:dd=none->fs=[]:=by rintro rfl;exact x.dict
  obtain ⟨rfl,rfl⟩:=rLq e2 (λ dx e=>(x.hd dx e).1) e3 nfs e4
  have J:Inv X pins σ H' s':=I.call' (ch:=[]) x.os x.un x.hok x.bare (λ b z=>absurd z (by simp))
  have n0:∀ b,s.heap.get? b=none->X.s₀.heap.get? b=none:=λ b z=>by
    cases q0:X.s₀.heap.get? b with
    | none=>rfl
    | some o=>
      obtain ⟨o',z1⟩:=I.base.there b o q0 (by rw [hex];simp)
      rw [z] at z1;cases z1
  have XH:XHeld X pins H' a T C dd fs s'.heap:=⟨x.fl,x.dict,x.ha,x.hT,n0 a x.na,n0 T x.nT,λ p hp=>⟨(by rintro rfl;have:=x.na;rw [(I.pin p hp).1] at this;cases this),(by rintro rfl;have:=x.nT;rw [(I.pin p hp).1] at this;cases this)⟩,λ dx e=>by
    obtain ⟨m1,m2,m3,m4⟩:=x.hd dx e
    refine ⟨m1,m3,m4,λ hb=>?_⟩
    obtain ⟨_,o,z,_⟩:=I.stack.mem hb
    rw [m2] at z;cases z⟩
  have hfs:X.A.frames=some (X.env::X.outer):=by rw [J.ok.frames,hst]
  have hstk:s'.heap.FunFrames X.base (X.env::X.outer):=by rw [<- hst];exact J.stack
  refine x2q hfs hstk hfr x.fl λ h2 T2 k1 k2 k3 k4=>?_
  refine kBq (s:={ s' with heap:=h2 }) k1 λ h3 k5 k6=>?_
  have ne:∀ b o,s'.heap.get? b=some o->b≠T2:=λ b o z=>by rintro rfl;rw [k2] at z;cases z
  obtain ⟨J3,x3⟩:=XH.step J hex (h':=h3) (λ b o n1 n2 n3 z=>(k6 b (ne b o z)).trans (k3 b o (by rw [<- hst];exact n1) n2 n3 z)) (λ b o n2 n3 z=>let ⟨sl,z1⟩:=k4 b o n2 n3 z;⟨sl,(k6 b (ne b o z)).trans z1⟩) k5 (.inr k2)
  exact hh pins _ σ H' D a T2 C dd fs J3 x3 q
variable {hs:List ExceptHandler} {h₀:ExceptHandler} {rd:XRd} {e:Expr} {t:XK->TE} {epos pos:Pos}
theorem vWq (hex:X.ex=[]) (hst:X.stack=X.env::X.outer) (hfr:X.env.frame=some X.env.locals) (he:PEx X e t) (hh:HB X (h₀::hs) rd) (hsw:swapsWith e none epos.line X.env=pure false:=by rfl) :
    PS X (.Try [.Expr e epos] (h₀::hs) [] [] pos) (λ D σ H=>t (eeOf rd D σ) σ H λ _ H2=>D.nx σ H2):=by
  intro pins s σ H D I h
  refine wpAny_Try_except (wpAny_execs_cons (thn (wpAny_Expr_any (Q:=SP X pins D) (he pins s σ H (λ _ H2=>D.nx σ H2) _ _ I h (λ H1 s1 ev s' I1 hx=>z6q hex hst hfr hh I1 hx) |> λ z=>thn z λ v s1 ⟨x,H2,J,_,q⟩=>⟨σ,H2,J,q⟩) I.quiet hsw) λ fl s1 q=>?_))
  cases fl with
  | next=>exact wpAny_execs_nil (wpAny_execs_nil q)
  | ret v=>exact q
  | brk=>exact q
  | cont=>exact q
end
end L2
set_option Elab.async false
set_option linter.all false
set_option maxRecDepth 100000
namespace L3
open PySem PySem.Spec L2
abbrev DXK:=Addr->List (Str × D)->DV->Prop
abbrev x7q:=List D->DV->DK->DXK->Prop
def FsA (K:PySem.W.Frag):List (Str × D)->List (Str × V)->Prop:=Paired λ p q=>p.1=q.1/\∀ H,Abs K H p.2 q.2
def tHq:D->Bool
  | .int _=>true
  | .str _=>true
  | .non=>true
  | .bl _=>true
  | _=>false
theorem pXq {K:PySem.W.Frag} {H:Hp} {d:D} {v:V} (h:tHq d=true) (a:Abs K H d v):∀ H',Abs K H' d v:=by
  intro H'
  cases d with
  | int i=>exact a
  | str x=>exact a
  | non=>exact a
  | bl b=>exact a
  | _=>cases h
def XOk (K:PySem.W.Frag) (G0:DV) (H0:Hp) (DX:DXK) (E:XK):Prop:=∀ C dd fs fs' G' H',Go K G0 H0 G' H'->FsA K fs fs'->(∀ dx,dd=some dx->H' dx=none)->(dd=none->fs=[])->DX C fs G'->E (.ref C) dd (yHq H' dd fs')
def tBq (K:PySem.W.Frag) (dsp:x7q):Sp:=λ vs H Q E=>∃ ds G DQ DX,AbsL K H ds vs/\Vw K G H/\dsp ds G DQ DX/\Fin K G H DQ Q/\XOk K G H DX E
structure GotX (P:Program) (w:World) (K:PySem.W.Frag) (mg:Str->Option Value) (base:Heap) (k:Nat) (x:Str) (ps:List Str) (sp:Sp):Prop where
  ex:∃ (f:Addr) (fd:FuncData),FnOk P w K mg base (CXD P w) k f fd ps sp/\mg x=some (.ref f)/\PySem.W.keepIn K (.ref f)=true/\Binds K fd ps []
structure ASx (X:Cx) (G0:DV) (H0:Hp) (st:Stmt) (t:DTS):Prop where
  run:∃ tc:TS,JS X st tc/\∀ DD Dc ρ G σ H,Bears X.K ρ G σ H->Go X.K G0 H0 G H->t DD ρ G->EndsOk X.K G H DD Dc->tc Dc σ H
structure ABx (X:Cx) (G0:DV) (H0:Hp) (st:List Stmt) (t:DTS):Prop where
  run:∃ tc:TS,JB X st tc/\∀ DD Dc ρ G σ H,Bears X.K ρ G σ H->Go X.K G0 H0 G H->t DD ρ G->EndsOk X.K G H DD Dc->tc Dc σ H
section
variable {X:Cx} {G0:DV} {H0:Hp} {st:Stmt} {rest ss us body:List Stmt} {ts tu tb:DTS} {e c tg iter:Expr} {te:DTE} {tc:DTT} {pos:Pos}
theorem AS.x (h:AS X st ts):ASx X G0 H0 st ts:=let ⟨t,j,r⟩:=h.run;⟨t,j,λ DD Dc ρ G σ H B _ q F=>r DD Dc ρ G σ H B q F⟩
theorem k2q:ABx X G0 H0 [] aC8q:=⟨_,tMq,λ DD Dc ρ G σ H B _ q F=>F.nx ρ G σ H (.refl B.vw) B q⟩
theorem dBq (h1:ASx X G0 H0 st ts) (h2:ABx X G0 H0 rest tu):ABx X G0 H0 (st::rest) (dSeq ts tu):=by
  obtain ⟨c1,j1,r1⟩:=h1.run
  obtain ⟨c2,j2,r2⟩:=h2.run
  exact ⟨_,q9q j1 j2,λ DD Dc ρ G σ H B g0 q F=>r1 _ _ ρ G σ H B g0 q ⟨λ ρ' G' σ' H' g b q=>r2 DD Dc ρ' G' σ' H' b (g0.trans g) q (F.after g),F.rt,F.bk,F.ct⟩⟩
theorem f5q (h1:ASx X G0 H0 st ts):ABx X G0 H0 [st] ts:=by
  obtain ⟨c1,j1,r1⟩:=h1.run
  exact ⟨_,tKq j1,r1⟩
theorem oZq (hc:AT X c tc) (ha:ABx X G0 H0 ss ts) (hb:ABx X G0 H0 us tu):ASx X G0 H0 (.If c ss us pos) (dIfS tc ts tu):=by
  obtain ⟨cc,jc,rc⟩:=hc.run
  obtain ⟨ca,ja,ra⟩:=ha.run
  obtain ⟨cb,jb,rb⟩:=hb.run
  refine ⟨_,xQq jc ja jb,λ DD Dc ρ G σ H B g0 q F=>rc ρ G _ σ H _ B q λ k G1 H1 g1 q1=>?_⟩
  cases k with
  | true=>exact ra DD Dc ρ G1 σ H1 (B.go g1) (g0.trans g1) (q1.1 rfl) (F.after g1)
  | false=>exact rb DD Dc ρ G1 σ H1 (B.go g1) (g0.trans g1) (q1.2 rfl) (F.after g1)
theorem vNq {wi:DTI} {g:DTG} (hp:PassesOwn (model X.prog X.w) X.A X.env X.xe) (hc:X.calm=true) (hi:AI X tg iter wi) (hg:AG X tg g) (hb:ABx X G0 H0 body tb) (hs:∀ x,foldedSetIterable iter X.env x=pure x:=by intro _;rfl) :
    ASx X G0 H0 (.For tg iter body [] pos) (dFor wi g tb):=by
  obtain ⟨ci,ji,ri⟩:=hi.run
  obtain ⟨cg,jg,rg⟩:=hg.run
  obtain ⟨cb,jb,rb⟩:=hb.run
  refine ⟨_,tGq hp hc ji jg jb hs,λ DD Dc ρ G σ H B g0 q F=>ri ρ G _ σ H _ B q λ J Jc G1 H1 g1 ok q1=>?_⟩
  obtain ⟨P,p0,held,turn,done⟩:=q1
  refine ⟨λ i m σ' H'=>m=J.items.length - i/\i<=J.items.length/\∃ ρ' G',P i ρ' G'/\Bears X.K ρ' G' σ' H'/\Go X.K G1 H1 G' H',⟨_,rfl,Nat.zero_le _,ρ,G1,p0,B.go g1,.refl g1.vw⟩,?_⟩
  rintro i m σ2 H2 ⟨rfl,hi,ρ2,G2,p2,b2,g2⟩
  have k2:=ok G2 H2 g2 (held i ρ2 G2 hi p2)
  by_cases hlt:i < J.items.length
  . have hd:J.items[i]?=some J.items[i]:=by simp [hlt]
    obtain ⟨go,yl⟩:=k2.1 i _ hd
    refine .inr ⟨go,λ σ' H'=>∃ ρ' G',P (i+1) ρ' G'/\Bears X.K ρ' G' σ' H'/\Go X.K G1 H1 G' H',λ σ' H' ⟨ρ',G',z1,z2,z3⟩=>⟨J.items.length - (i+1),by omega,rfl,hlt,ρ',G',z1,z2,z3⟩,λ x H' y=>?_⟩
    obtain ⟨g3,ax⟩:=yl x H' y
    refine rg _ x ρ2 G2 _ σ2 H' _ (b2.go g3) ax (turn i _ ρ2 G2 hd p2) λ ρ4 G4 σ4 H4 g4 b4 q4=>?_
    have gg:=(g2.trans g3).trans g4
    have again:∀ ρ' G' σ' H',Go X.K G4 H4 G' H'->Bears X.K ρ' G' σ' H'->Wk (P (i+1)) ρ' G'->∃ ρ' G',P (i+1) ρ' G'/\Bears X.K ρ' G' σ' H'/\Go X.K G1 H1 G' H':=λ ρ' G' σ' H' g' b' ⟨ρ5,G5,s1,s2,w⟩=>
      ⟨ρ5,G5,w,b'.weak s1 s2,(gg.trans g').sub s2⟩
    exact rb _ _ ρ4 G4 σ4 H4 b4 (g0.trans (g1.trans gg)) q4 ⟨λ ρ' G' σ' H' g' b' w=>again ρ' G' σ' H' g' b' w,(F.after ((g1.trans gg))).rt,λ ρ' G' σ' H' g' b' w=>F.nx ρ' G' σ' H' ((g1.trans gg).trans g') b' w,λ ρ' G' σ' H' g' b' w=>again ρ' G' σ' H' g' b' w⟩
  . have e:i=J.items.length:=by omega
    subst e
    exact .inl ⟨k2.2 _ (Nat.le_refl _),F.nx ρ2 G2 σ2 H2 (g1.trans g2) b2 (done ρ2 G2 p2)⟩
end
end L3
namespace L3
open PySem PySem.Spec L2
theorem zDq {K:PySem.W.Frag} {G0:DV} {H0:Hp} {DX:DXK} {E:XK} (x:XOk K G0 H0 DX E):XOk K G0 H0 (λ C fs G=>∃ G',Sub G' G/\DX C fs G') E:=λ C dd fs fs' G' H' g f h1 h2 ⟨G2,s2,q⟩=>x C dd fs fs' G2 H' (g.sub s2) f h1 h2 q
abbrev DrX (DX:DXK):DXK:=λ C fs G=>∃ G',Sub G' G/\DX C fs G'
theorem okDX {P:Program} {w:World} {K:PySem.W.Frag} {mg:Str->Option Value} {base:Heap} {x qual:Str} {st:Stmt} {f:Addr} {fd:FuncData} {N ps:List Str} {k:Nat} {dsp:x7q} (F:Fun K x qual st f fd) (S:FnScope N ps (a6q st)) (len:∀ ds G DQ DX,dsp ds G DQ DX->ds.length=ps.length)
    (hbody:∀ (cdv:Value) (A:Around) (outer:List Env) (s:Shared) (H:Hp) (E:XK),Room k (A.deeper (PyProof.Rows.envOfC qual (a6q st) s.heap.objs.size f cdv))->∀ (ds:List D) (G:DV) (DQ:DK) (DX:DXK),dsp ds G DQ DX->XOk K G H (DrX DX) E →
      ∃ t,ABx (dIq (CXD P w) P w K mg base N qual (a6q st) f cdv A outer s H E) G H (b0q st) t/\t { nx:=λ _ G'=>Dr DQ .non G',rt:=Dr DQ } (dEq N ds) G):FnOk P w K mg base (CXD P w) (k+1) f fd ps (tBq K dsp):=by
  obtain ⟨oc,od,kV,doc,pm,an,cdv,ct,osl,rfl,lk,hcd⟩:=F.ex
  refine uNq lk hcd S (λ vs H Q E h=>?_) λ A outer s H vs Q E hr hsp=>?_
  . obtain ⟨ds,G,DQ,DX,r,_,h,_⟩:=h
    rw [r.len];exact len ds G DQ DX h
  . obtain ⟨ds,G,DQ,DX,r,v,h,Fn,XO⟩:=hsp
    obtain ⟨t,⟨tc,j,imp⟩,q⟩:=hbody cdv A outer s H E hr ds G DQ DX h (zDq XO)
    refine ⟨tc,j.run,imp _ _ (dEq N ds) G (L2.cJq N vs) H (d5q r v) (.refl v) q ⟨λ ρ' G' σ' H' g b ⟨G2,s2,q2⟩=>Fn .non G2 .non H' (g.sub s2) rfl q2,λ d G' v H' g a ⟨G2,s2,q2⟩=>Fn d G2 v H' (g.sub s2) a q2,λ _ _ _ _ _ _ z=>z.elim,λ _ _ _ _ _ _ z=>z.elim⟩⟩
section
variable {P:Program} {w:World} {K:PySem.W.Frag} {mg:Str->Option Value} {base:Heap} {N:List Str} {qual:Str} {scope:Scope} {f:Addr} {cd:Value} {A:Around} {outer:List Env} {s:Shared} {Hs:Hp} {E:XK} {G0:DV} {H0:Hp} {DX:DXK} {C fI:Addr} {fd:FuncData} {ps:List Str} {cx name:Str} {e:Expr} {es:List Expr} {te:DTE} {t:DTA} {np cpos pos p:Pos}
abbrev uYq (C:Addr) (name:Str) (DX:DXK) (te:DTE):DTS:=λ _ ρ G=>te ρ G λ d G1=>tHq d=true/\DX C [(name,d)] G1
structure RaiseI (P:Program) (w:World) (K:PySem.W.Frag) (mg:Str->Option Value) (base:Heap) (k:Nat) (cx:Str) (C:Addr) (name:Str):Prop where
  ex:∃ (fI:Addr) (fd:FuncData) (ps:List Str),ExcI K C fI/\FnOk P w K mg base CX0 k fI fd ps (x9q C name)/\mg cx=some (.ref C)/\PySem.W.keepIn K (.ref C)=true/\Binds K fd ps []
theorem dSq {k j:Nat} (XO:XOk K G0 H0 DX E) (R:RaiseI P w K mg base k cx C name) (hr:Room j (dIq (CXD P w) P w K mg base N qual scope f cd A outer s Hs E).A) (hk:k+1<=j) (hg:Gl (dIq (CXD P w) P w K mg base N qual scope f cd A outer s Hs E) cx) (ha:AE (dIq (CXD P w) P w K mg base N qual scope f cd A outer s Hs E) e te) (hu:b6q e=true:=by rfl) (hdb:(cx==("__debug__" : Str))=false:=by decide)
    (he:starEach [e] (dIq (CXD P w) P w K mg base N qual scope f cd A outer s Hs E).env=(false,eval e (dIq (CXD P w) P w K mg base N qual scope f cd A outer s Hs E).env)::starEach [] (dIq (CXD P w) P w K mg base N qual scope f cd A outer s Hs E).env:=by rfl) :
    ASx (dIq (CXD P w) P w K mg base N qual scope f cd A outer s Hs E) G0 H0 (.Raise (some (.Call (.Name cx np) [e] [] cpos)) none pos) (uYq C name DX te):=by
  obtain ⟨fI,fd,ps,EI,F,hm,hkp,hb⟩:=R.ex
  obtain ⟨c1,j1,r1⟩:=ha.run
  refine ⟨_,⟨p4q (C:=C) (name:=name) (W:=λ v H1=>∀ dx,H1 dx=none->E (.ref C) (some dx) (upd H1 dx (.xd [(name,v)]))) EI F (hr.mono hk) hg hm hkp hb j1.run rfl rfl (λ pins σ H s1 a dx v I h1 h2 h3 n1 n2 hW=>nMq I h1 h2 h3 n1 n2 (hW dx h2)) hu hdb he rfl⟩,λ DD Dc ρ G σ H B g0 q F=>?_⟩
  refine r1 ρ G _ σ H _ B q λ d G1 v H1 g1 ad q1=>⟨v,rfl,λ dx hdx=>?_⟩
  exact XO C (some dx) [(name,d)] [(name,v)] G1 H1 (g0.trans g1) (.cons ⟨rfl,pXq q1.1 ad⟩ .nil) (λ dx' e=>by cases e;exact hdx) (λ e=>by cases e) q1.2
end
structure AH (X:Cx) (hs:List ExceptHandler) (rdD:Addr->List (Str × D)->DTS):Prop where
  run:∃ rd:XRd,HB X hs rd/\∀ C fs fs' DD Dc ρ G σ H,Bears X.K ρ G σ H->FsA X.K fs fs'->rdD C fs DD ρ G->EndsOk X.K G H DD Dc->rd C fs' Dc σ H
abbrev DHd:=Addr->List (Str × D)->DTS
abbrev dAs (K:PySem.W.Frag) (D0:Addr) (i:Nat) (u:Addr->DHd) (rd:DHd):DHd:=λ C fs DD ρ G=>∃ b,PySem.W.subIn K (.ref C) (.ref D0)=some b/\(b=true->ExcK K C/\∀ e,G e=none->u e C fs (offD i DD) (ρ.set i (some (.ref e))) G)/\(b=false->rd C fs DD ρ G)
section
variable {X:Cx} {D0:Addr} {cx n:Str} {np hpos:Pos} {b₀:Stmt} {suite:List Stmt} {rest:List ExceptHandler} {u:Addr->DHd} {rd:DHd} {i:Nat}
theorem t5q:AH X [] (λ _ _ _ _ _=>False):=⟨_,yOq,λ _ _ _ _ _ _ _ _ _ _ _ q _=>q⟩
theorem uRq (hex:X.ex=[]) (hst:X.stack=X.env::X.outer) (hfr:X.env.frame=some X.env.locals) (EH:ExcH X.K D0) (hgc:Gl X cx) (hmc:X.mg cx=some (.ref D0)) (hN:X.N.Nodup) (hi:X.N[i]?=some n) (hlo:X.env.scope.names.lookup n=some .local)
    (hs:∀ e C fs fs' pn,FsA X.K fs fs'->XPin e C fs' pn->ExcK X.K C->AB (X.inP e pn) (b₀::suite) (u e C fs)) (hr:AH X rest rd) (hdc:(cx==("__debug__" : Str))=false:=by decide):AH X (.ExceptHandler (some (.Name cx np)) (some n) (b₀::suite) hpos::rest) (dAs X.K D0 i u rd):=by
  obtain ⟨rc,hrc,rr⟩:=hr.run
  refine ⟨_,aI0q (i:=i) (u:=λ e C fs' D σ H=>∃ fs,FsA X.K fs fs'/\ExcK X.K C/\∀ pn h1 h2 h3,Classical.choose (hs e C fs fs' pn h1 h2 h3).run D σ H) hex hst hfr EH hgc hmc hN hi hlo (λ e C fs' pn xp=>λ pins s σ H D I ⟨fs,h1,h3,h⟩=>(Classical.choose_spec (hs e C fs fs' pn h1 xp h3).run).1.run pins s σ H D I (h pn h1 xp h3)) hrc hdc,λ C fs fs' DD Dc ρ G σ H B fa q F=>?_⟩
  obtain ⟨b,hb,q1,q2⟩:=q
  refine ⟨b,hb,λ eb e he=>?_,λ eb=>rr C fs fs' DD Dc ρ G σ H B fa (q2 eb) F⟩
  obtain ⟨ek,q1⟩:=q1 eb
  refine ⟨fs,fa,ek,λ pn h1 h2 h3=>(Classical.choose_spec (hs e C fs fs' pn h1 h2 h3).run).2 (offD i DD) (offE i Dc) _ G _ H (B.set (show Abs X.K H (.ref e) (.ref e) from rfl) i) (q1 e ?_) (F.off i)⟩
  cases z:G e with
  | none=>rfl
  | some o=>
    obtain ⟨u',hu'⟩:=(B.vw e o z).some
    rw [he] at hu';cases hu'
end
end L3
namespace L3
open PySem PySem.Spec L2
section
variable {X:Cx} {hs:List ExceptHandler} {h₀:ExceptHandler} {rd:DHd} {p0 cpos epos pos ypos:Pos} {e:Expr} {es:List Expr} {t:DTA} {dsp:x7q} {ps:List Str} {fx:Str}
abbrev aK7q (dsp:x7q) (t:DTA) (rd:DHd):DTS:=λ DD ρ G=>t ρ G λ ds G1=>dsp ds G1 (λ _ G2=>DD.nx ρ G2) λ C fs G2=>rd C fs DD ρ G2
theorem wCq {K:PySem.W.Frag} {fs:List (Str × D)} {fs':List (Str × V)} (h:FsA K fs fs') (e:fs=[]):fs'=[]:=by subst e;cases h;rfl
theorem oKq {k j:Nat} (Gt:GotX X.prog X.w X.K X.mg X.base k fx ps (tBq X.K dsp)) (hr:Room j X.A) (hk:k<=j) (hg:Gl X fx) (ha:∀ E',AA (X.wish E') (e::es) t) (hh:AH X (h₀::hs) rd) (hex:X.ex=[]:=by rfl) (hst:X.stack=X.env::X.outer:=by rfl) (hfr:X.env.frame=some X.env.locals:=by rfl)
    (hdb:(fx==("__debug__" : Str))=false:=by decide) (he:starEach (e::es) X.env=(false,eval e X.env)::starEach es X.env:=by rfl) (hpl:(backTo cpos (starEach es X.env)).any (·.1)=false:=by rfl) (hsw:swapsWith (.Call (.Name fx p0) (e::es) [] cpos) none epos.line X.env=pure false:=by rfl) :
    AS X (.Try [.Expr (.Call (.Name fx p0) (e::es) [] cpos) epos] (h₀::hs) [] [] pos) (aK7q dsp t rd):=by
  obtain ⟨f,fd,F,hm,kp,b⟩:=Gt.ex
  obtain ⟨rc,hrc,rr⟩:=hh.run
  have ca:∀ E',∃ tc:TA,JA (X.wish E') (e::es) tc/\∀ ρ G DQ σ H Q,Bears X.K ρ G σ H->t ρ G DQ->FinL X.K (e::es).length G H DQ Q->tc σ H Q:=λ E'=>(ha E').run
  obtain ⟨ta,hta⟩:=Classical.axiomOfChoice ca
  refine ⟨_,⟨vWq hex hst hfr (r1q (t:=λ σ H Q=>∀ E',ta E' σ H Q) F (hr.mono hk) hg hm kp b (λ E'=>λ cp pins s σ H Q I h=>(hta E').1.run cp pins s σ H Q I (h E')) hdb he hpl) hrc hsw⟩,λ DD Dc ρ G σ H B q Fe=>?_⟩
  intro E'
  refine (hta E').2 ρ G _ σ H _ B q λ ds G1 vs H1 g1 al _ q1=>⟨ds,G1,_,_,by rw [List.append_nil];exact al,g1.vw,q1,λ d G2 v H2 g2 ad q2=>Fe.nx ρ G2 σ H2 (g1.trans g2) (B.go (g1.trans g2)) q2,λ C dd fs fs' G' H' g fa n1 n2 qx=>?_⟩
  exact ⟨C,fs',H',rfl,rfl,n1,λ e=>wCq fa (n2 e),rr C fs fs' DD Dc ρ G' σ H' (B.go (g1.trans g)) fa qx (Fe.after (g1.trans g))⟩
end
structure ExcN (K:PySem.W.Frag) (C:Addr) (name:Str):Prop where
  cls:∃ cd,PySem.W.clsIn K C=some cd/\cd.hasDict=true
  no:PySem.W.findIn K (.ref C) name=some none
section
variable {X:Cx} {a C:Addr} {fs:List (Str × D)} {fs':List (Str × V)} {pn:List (Addr × Obj)} {n name:Str} {i:Nat} {p pos:Pos}
theorem wVq (xp:XPin a C fs' pn) {pins:List (Addr × Obj)} {σ:St} {H:Hp} {s:Shared} (I:Inv (X.inP a pn) pins σ H s):ExcAt a C s.heap:=by
  obtain ⟨oe,vs,m,c,_⟩:=xp.obj
  exact ⟨oe,(I.pin (a,oe) (List.mem_append_left _ (List.mem_append_left _ m))).1,c⟩
abbrev dXat (K:PySem.W.Frag) (i:Nat) (a C:Addr) (fs:List (Str × D)) (name:Str):DTE:=λ ρ G Q=>ρ[i]?=some (some (.ref a))/\ExcN K C name/\∃ d,fs.lookup name=some d/\Q d G
theorem wLq {K:PySem.W.Frag} {fs:List (Str × D)} {fs':List (Str × V)} (h:FsA K fs fs') {d:D} (e:fs.lookup name=some d):∃ v,fs'.lookup name=some v/\∀ H,Abs K H d v:=by
  induction h with
  | nil=>cases e
  | @cons p q fs fs' hp _ ih=>
    obtain ⟨f,d'⟩:=p
    obtain ⟨f',v'⟩:=q
    obtain ⟨h1,h2⟩:=hp
    simp only at h1 h2
    subst h1
    rw [List.lookup_cons] at e ⊢
    split at e
    . cases e;exact ⟨v',rfl,h2⟩
    . exact ih e
theorem lCq (FK:ExcK X.K C) (fa:FsA X.K fs fs') (xp:XPin a C fs' pn) (hN:X.N[i]?=some n) (hv:Vis X.env.scope n) (hb:attributeBase (.Name n p) name X.env (eval (.Name n p) X.env)=eval (.Name n p) X.env:=by rfl) (hd:(n==("__debug__" : Str))=false:=by decide) (hcd:(n==("__classdict__" : Str))=false:=by decide) :
    AE (X.inP a pn) (.Attribute (.Name n p) name pos) (dXat X.K i a C fs name):=by
  refine ⟨λ σ H Q=>σ[i]?=some (some (.ref a))/\ExcN X.K C name/\∃ v,fs'.lookup name=some v/\Q v H,⟨λ pins s σ H Q I h=>?_⟩,λ ρ G DQ σ H Q B q F=>?_⟩
  . obtain ⟨h1,h2,v,h3,h4⟩:=h
    refine pPq hb (thn (lKq (X:=X.inP a pn) (i:=i) hN hv hd hcd pins s σ H (λ x H1=>x=.ref a/\H1=H) I ⟨_,h1,rfl,rfl⟩) λ u s1 ⟨x,H1,I1,rx,ex,eH⟩=>?_)
    subst ex eH
    obtain rfl:u=Value.ref a:=rx
    obtain ⟨oe,vs,m,c,dt,hdc⟩:=xp.obj
    obtain ⟨cd,c1,c2⟩:=h2.cls
    rcases hdc with ⟨_,rfl⟩ | ⟨dx,odx,mA,d1,d2,d3,d4⟩
    . cases h3
    . have rr:=d4 name
      rw [h3] at rr
      cases hm:mA name with
      | none=>rw [hm] at rr;exact (show False from rr).elim
      | some u=>
        rw [hm] at rr
        have g1:=(I1.pin (a,oe) (List.mem_append_left _ (List.mem_append_left _ m))).1
        have g2:=(I1.pin (dx,odx) (List.mem_append_left _ (List.mem_append_left _ d2))).1
        have II:PySem.W.InstAt s1.heap a oe C (some odx):=⟨g1,c,by unfold PySem.W.notCls;rw [dt],by rw [d1];exact g2⟩
        exact zUq FK I1.kIn II c1 c2 h2.no (by rw [d3,hm]) (iGq rr) ⟨v,_,I1.tok _,rr,h4⟩
  . obtain ⟨q1,q2,d,q3,q4⟩:=q
    obtain ⟨v,e1,e2⟩:=wLq fa q3
    obtain ⟨v0,s1,a1⟩:=B.st i _ q1
    cases a1
    exact ⟨s1,q2,v,e1,F d G v H (.refl B.vw) (e2 H) q4⟩
theorem sKq (FK:ExcK X.K C) (xp:XPin a C fs' pn):CallR (X.inP a pn) (.builtin "isinstance") (xSq a C X.K):=by
  intro pins s σ H xs us Q I r h
  obtain ⟨y,rfl,h⟩:=h
  obtain ⟨u,v,rfl,ru,rv⟩:=Vals.two r
  cases ru
  have hat:ExcAt a C s.heap:=wVq xp I
  rcases h with ⟨c,b,rfl,k,q⟩ | ⟨T,b,rfl,k,q⟩ | ⟨l,cs,b,rfl,sq,k,q⟩
  . cases rv
    exact PySem.W.kia_one (gKq FK) I.kIn hat k (λ z=>nomatch z) λ tk=>⟨.bl b,H,I.tok tk,rfl,q⟩
  . cases rv
    exact PySem.W.kia_one (gKq FK) I.kIn hat k (λ z=>nomatch z) λ tk=>⟨.bl b,H,I.tok tk,rfl,q⟩
  . cases rv
    obtain ⟨its,vt,⟨⟨cls,dd,data,sl⟩,h1,h2,h3⟩,_⟩:=I.tuple sq
    have e':=iFq vt
    subst e'
    simp only at h2 h3
    subst h2
    obtain ⟨n,rfl⟩:∃ n,data=.seq (cs.map Value.ref).toArray n:=by
      first | exact ⟨_,h3⟩ | exact h3 | (obtain ⟨n,h3⟩:=h3;exact ⟨n,h3⟩)
    exact PySem.W.kia_tup (gKq FK) I.kIn hat h1 k (λ z=>nomatch z) λ tk=>⟨.bl b,H,I.tok tk,rfl,q⟩
theorem cKq (FK:ExcK X.K C) (xp:XPin a C fs' pn):ACall (X.inP a pn) (.builtin "isinstance") (two2 (isE X.K C a)):=by
  refine ⟨_,⟨sKq FK xp⟩,λ xs vs G H DQ Q v al r F=>?_⟩
  obtain ⟨x,y,u,w,rfl,rfl,ax,ay,r1⟩:=l3q r al
  clear r
  rw [t8q] at r1
  obtain ⟨rfl,b,k,q⟩:=r1
  cases ax
  refine ⟨w,rfl,?_⟩
  have fin:=F (.bl b) G _ H (.refl v) rfl q
  cases y with
  | ref c=>cases ay;exact .inl ⟨c,b,rfl,k,fin⟩
  | ty T=>cases ay;exact .inr (.inl ⟨T,b,rfl,k,fin⟩)
  | tup ds=>
    obtain ⟨l,ws,rfl,sq,rl⟩:=ay
    dsimp only [kitD] at k
    cases z:m6q ds with
    | none=>rw [z] at k;cases k
    | some cs=>
      rw [z] at k
      rw [iQq z rl] at sq
      exact .inr (.inr ⟨l,cs,b,rfl,sq,k,fin⟩)
  | _=>cases k
end
end L3
set_option Elab.async false
set_option linter.all false
set_option maxRecDepth 100000
namespace L2
open PySem PySem.Spec PyProof.Rows PySem.W
def iYq (es:Array DictEntry):Bool:=es.toList.all λ e=>tRq e.key
theorem p7q {es:Array DictEntry} (h:iYq es=true):StrKeys es:=by
  unfold iYq at h
  rw [List.all_eq_true] at h
  intro e he
  have z:=h e (Array.mem_toList_iff.mpr he)
  cases k:e.key with
  | str n t=>exact ⟨n,t,rfl⟩
  | _=>rw [k] at z;cases z
theorem o8q {K:Frag} {C B N N2 fI:Addr} {nm q:Str} {bs:List Value} {hdct:Bool} {sn:List Str} {sub:List Value} {ab:Bool} {col:Option Bool} {dd:Option Addr} {k0 k1 k2 k3 k5:Option Value}
    {nc:Value} {nd:Option Addr} {es es2:Array DictEntry} {ep ep2:Nat} {nsl nsl2:Array (Option Value)} {c0 nc2:Value} {dd2 nd2 od:Option Addr} {cd:ClassData} {sl2 osl:Array (Option Value)} {fdt:Data}
    (x1:List.lookup C K=some (excClassObj nm q C N bs (.ref B::sNq) hdct sn sub ab col dd k0 k1 k2 k3 k5 "ValueError.__new__")) (x2:List.lookup N K=some ⟨nc,nd,.dict es ep,nsl⟩) (x3:iYq es=true) (x8:nsFind es "__init__" = some (.ref fI)) (x9:List.lookup fI K=some ⟨.type "function", od,fdt,osl⟩)
    (x4:List.lookup B K=some ⟨c0,dd2,.cls cd,sl2⟩) (x5:cd.ns=N2) (x6:List.lookup N2 K=some ⟨nc2,nd2,.dict es2 ep2,nsl2⟩) (x7:esOk es2=true):ExcI K C fI:=by
  have a1:=p7q x3
  obtain ⟨b1,b2⟩:=wFq x7
  refine ⟨⟨.ref B::sNq,N,nm,q,bs,hdct,sn,sub,ab,col,dd,k0,k1,k2,k3,k5,nsFind es,_,by rfl,x8,rfl,λ h X=>⟨X _ _ x1,⟨_,es,ep,X _ _ x2,rfl,a1,λ _=>rfl⟩,X _ _ x9,?_⟩⟩⟩
  exact .own (X _ _ x4) (mA:=nsFind es2) (by rw [x5];exact ⟨_,es2,ep2,X _ _ x6,rfl,b1,λ _=>rfl⟩) (b2 _ (by simp [quietNames])) .base
theorem kGq {K:Frag} {C:Addr} {a:Str} (h:findIn K (.ref C) a=some none):takerIn K C a=some none:=by unfold takerIn;rw [h];rfl
theorem jGq {K:Frag} {C:Addr}:kitOne K (.ref C) (.ref C)=some true:=by unfold kitOne;rw [if_pos (by simp)]
end L2
set_option Elab.async false
set_option linter.all false
set_option maxRecDepth 100000
namespace L3
open PySem L2
structure Fmg where
  z:Str
  nm:Option Str
  ps:List Tm
structure Rsg where
  aw:Aw
  fs:List Fmg
  ns:List Str
  unb:Option Str
  res:Option Tm
def lvD:List Str->Str->List D
  | [],_=>[]
  | y::r,x=>if y=x then lvD r x++[.int r.length] else lvD r x
theorem hOq (r:List Str) (x:Str):lvD (x::r) x=lvD r x++[.int r.length]:=by rw [lvD,if_pos rfl]
theorem kIq {r:List Str} {x y:Str} (h:y≠x):lvD (y::r) x=lvD r x:=by rw [lvD,if_neg h]
theorem f6q:∀ {r:List Str} {x:Str},x ∉ r->lvD r x=[]
  | [],_,_=>rfl
  | y::r,x,h=>by rw [kIq (λ e=>h (by rw [e];exact List.mem_cons_self ..)),f6q λ m=>h (List.mem_cons_of_mem _ m)]
theorem o5q:∀ (r:List Str) (x:Str),(lvD r x).length<=r.length
  | [],_=>Nat.le_refl _
  | y::r,x=>by
    have:=o5q r x
    rw [lvD];split
    . simp only [List.length_append,List.length_cons,List.length_nil];omega
    . simp only [List.length_cons];omega
def ixN:List Str->Str->Nat
  | [],_=>0
  | y::r,x=>if y=x then 0 else ixN r x+1
theorem l2q:∀ {r:List Str} {x:Str},x∈r->∃ l,lvD r x=l++[.int ((r.length:Int) - 1 - ixN r x)]/\ixN r x < r.length
  | y::r,x,h=>by
    by_cases c:y=x
    . subst c
      refine ⟨lvD r y,?_,?_⟩
      . rw [hOq,ixN,if_pos rfl,List.length_cons]
        have:(((r.length+1:Nat):Int) - 1 - ((0:Nat):Int))=(r.length:Int):=by omega
        rw [this]
      . rw [ixN,if_pos rfl,List.length_cons];omega
    . rcases List.mem_cons.mp h with e | h
      . exact absurd e.symm c
      . obtain ⟨l,e1,e2⟩:=l2q h
        refine ⟨l,?_,?_⟩
        . rw [kIq c,e1,ixN,if_neg c,List.length_cons]
          have:(((r.length+1:Nat):Int) - 1 - ((ixN r x+1:Nat):Int))=(r.length:Int) - 1 - (ixN r x:Int):=by omega
          rw [this]
        . rw [ixN,if_neg c,List.length_cons];omega
def eDq (p:Tm) (s:Rsg):Rsg:=match s.fs with
  | []=>⟨.noth,[],s.ns,s.unb,some p⟩
  | f::r=>⟨if f.ps.length+1=cGq f.z then .brk else .prog,⟨f.z,f.nm,f.ps++[p]⟩::r,s.ns,s.unb,none⟩
def vBq (z:Str) (ps:List Tm):Tm:=
  if z = "way" then .way (ps.getD 0 (.whole 0)) else if z = "give" then .give (ps.getD 0 (.whole 0)) (ps.getD 1 (.whole 0)) else if z = "pair" then .pair (ps.getD 0 (.whole 0)) (ps.getD 1 (.whole 0)) else
  if z = "first" then .first (ps.getD 0 (.whole 0)) else if z = "second" then .second (ps.getD 0 (.whole 0)) else if z = "plus" then .plus (ps.getD 0 (.whole 0)) (ps.getD 1 (.whole 0)) else .look (ps.getD 0 (.whole 0)) (ps.getD 1 (.whole 0)) (ps.getD 2 (.whole 0))
theorem rYq {z:Str} {ps:List Tm} (hz:z∈words7) (hl:ps.length=cGq z):(vBq z ps).enc=.tup (.str z::ps.map Tm.enc):=by
  have l1:ps.length=1->∃ a,ps=[a]:=λ h=>by
    match ps,h with
    | [a],_=>exact ⟨a,rfl⟩
  have l2:ps.length=2->∃ a b,ps=[a,b]:=λ h=>by
    match ps,h with
    | [a,b],_=>exact ⟨a,b,rfl⟩
  have l3:ps.length=3->∃ a b c,ps=[a,b,c]:=λ h=>by
    match ps,h with
    | [a,b,c],_=>exact ⟨a,b,c,rfl⟩
  simp only [words7,List.mem_cons,List.not_mem_nil,or_false] at hz
  rcases hz with rfl | rfl | rfl | rfl | rfl | rfl | rfl
  all_goals first
    | (obtain ⟨a,rfl⟩:=l1 hl;rfl)
    | (obtain ⟨a,b,rfl⟩:=l2 hl;rfl)
    | (obtain ⟨a,b,c,rfl⟩:=l3 hl;rfl)
def tDq (x:Str):Int:=(PySem.intText? x).getD 0
def aWq (s:Rsg) (x:Str):Option Rsg:=match s.aw with
  | .prog=>if x = "(" then some ⟨.word,s.fs,s.ns,s.unb,none⟩ else if hMq x=true then some (eDq (.whole (tDq x)) s) else if bHq x=true then (if x∈s.ns then some (eDq (.name (ixN s.ns x)) s) else some (eDq (.name 0) ⟨s.aw,s.fs,s.ns,s.unb.or (some x),none⟩)) else none
  | .word=>if x∈words7 then (if x = "way" then some ⟨.name,s.fs,s.ns,s.unb,none⟩ else some ⟨.prog,⟨x,none,[]⟩::s.fs,s.ns,s.unb,none⟩) else none
  | .name=>if bHq x=true then some ⟨.prog,⟨"way", some x,[]⟩::s.fs,x::s.ns,s.unb,none⟩ else none
  | .brk=>if x = ")" then (match s.fs with
    | f::r=>some (eDq (vBq f.z f.ps) ⟨s.aw,r,if f.z = "way" then s.ns.tail else s.ns,s.unb,none⟩)
    | []=>none) else none
  | .noth=>none
def nmG:Option Str->D
  | some x=>.str x
  | none=>.non
def frG (f:Fmg) (l:Addr):D:=.tup [.str f.z,nmG f.nm,.ref l]
def nDq (C lb ld:Addr) (s:Rsg):DO:=.ins C [("awaited", .str s.aw.str),("brackets", .ref lb),("ways_around", .int s.ns.length),("bound", .ref ld),("unbound", nmG s.unb),("result", resD s.res)]
structure Lag where
  lb:Addr
  ld:Addr
  ls:List Addr
  kvs:List (Key × D)
  bd:Str->Option Addr
structure RAg (C r:Addr) (X:Addr->Prop) (G:DV) (s:Rsg) (n:Nat) (L:Lag):Prop where
  ins:G r=some (nDq C L.lb L.ld s)
  stk:G L.lb=some (.lst ((s.fs.zip L.ls).reverse.map λ z=>frG z.1 z.2))
  len:L.ls.length=s.fs.length
  frs:∀ z∈s.fs.zip L.ls,G z.2=some (.lst (z.1.ps.map Tm.enc))
  dic:G L.ld=some (.dK L.kvs)
  key:∀ x,d4q L.kvs (.inr x)=(L.bd x).map D.ref
  bnd:∀ j b,L.bd j=some b->G b=some (.lst (lvD s.ns j))
  has:∀ x∈s.ns,(L.bd x).isSome=true
  nd:(L.lb::L.ls).Nodup
  apb:∀ j b,L.bd j=some b->b ∉ L.lb::L.ls
  inj:∀ i j b,L.bd i=some b->L.bd j=some b->i=j
  apx:∀ x,X x->x≠r/\x≠L.lb/\x≠L.ld/\x ∉ L.ls/\∀ j,L.bd j≠some x
  liv:∀ x,X x->G x≠none
  few:L.kvs.length<=n/\s.fs.length<=n/\(∀ f∈s.fs,f.ps.length<=3)/\s.ns.length<=n/\n<=20000
section
variable {C r:Addr} {X:Addr->Prop} {G:DV} {s:Rsg} {n:Nat} {L:Lag}
theorem RAg.ne_lst (h:RAg C r X G s n L) {x:Addr} {ds:List D} (e:G x=some (.lst ds)):x≠r/\x≠L.ld:=by
  refine ⟨?_,?_⟩
  . rintro rfl;rw [h.ins] at e;cases e
  . rintro rfl;rw [h.dic] at e;cases e
theorem RAg.ld_r (h:RAg C r X G s n L):L.ld≠r:=by
  intro e
  have a:=h.dic
  rw [e,h.ins] at a;cases a
theorem RAg.fld (h:RAg C r X G s n L) {s':Rsg} (e1:s'.fs=s.fs) (e2:s'.ns=s.ns):RAg C r X (up G r (nDq C L.lb L.ld s')) s' n L where
  ins:=a4q
  stk:=by rw [a8q (h.ne_lst h.stk).1,e1];exact h.stk
  len:=by rw [e1];exact h.len
  frs:=λ z hz=>by rw [e1] at hz;rw [a8q (h.ne_lst (h.frs z hz)).1];exact h.frs z hz
  dic:=by rw [a8q h.ld_r];exact h.dic
  key:=h.key
  bnd:=λ j b e=>by rw [a8q (h.ne_lst (h.bnd j b e)).1,e2];exact h.bnd j b e
  has:=by rw [e2];exact h.has
  nd:=h.nd
  apb:=h.apb
  inj:=h.inj
  apx:=h.apx
  liv:=λ x hx=>by rw [a8q (h.apx x hx).1];exact h.liv x hx
  few:=by rw [e1,e2];exact h.few
theorem RAg.app {aw:Aw} {f:Fmg} {fs:List Fmg} {ns:List Str} {ub:Option Str} {l:Addr} {ls:List Addr} {p:Tm} (h:RAg C r X G ⟨aw,f::fs,ns,ub,none⟩ n L) (el:L.ls=l::ls) (hp:f.ps.length < 3) :
    RAg C r X (up G l (.lst ((f.ps++[p]).map Tm.enc))) ⟨aw,⟨f.z,f.nm,f.ps++[p]⟩::fs,ns,ub,none⟩ n L:=by
  have hl:=h.frs (f,l) (by rw [el];simp)
  have ne:=h.ne_lst hl
  have nd:=h.nd
  rw [el] at nd
  obtain ⟨n1,n2⟩:=List.nodup_cons.mp nd
  obtain ⟨n3,n4⟩:=List.nodup_cons.mp n2
  have nlb:L.lb≠l:=λ e=>n1 (by rw [e];simp)
  refine ⟨by rw [a8q ne.1.symm];exact h.ins,?_,by rw [h.len];rfl,λ z hz=>?_,by rw [a8q ne.2.symm];exact h.dic,h.key,λ j b e=>?_,h.has,h.nd,h.apb,h.inj,h.apx,λ x hx=>by rw [a8q (by rintro rfl;exact (h.apx _ hx).2.2.2.1 (by rw [el];simp))];exact h.liv x hx,h.few.1,h.few.2.1,λ g hg=>?_,h.few.2.2.2⟩
  . rw [a8q nlb,h.stk,el]
    simp [frG]
  . rw [el] at hz
    rcases List.mem_cons.mp (show z∈(⟨f.z,f.nm,f.ps++[p]⟩,l)::fs.zip ls from hz) with rfl | hz
    . exact a4q
    . have hm:z.2∈ls:=(List.of_mem_zip hz).2
      rw [a8q (by rintro e;rw [e] at hm;exact n3 hm)]
      exact h.frs z (by rw [el];exact List.mem_cons_of_mem _ hz)
  . rw [a8q (by rintro rfl;exact h.apb j _ e (by rw [el];simp))]
    exact h.bnd j b e
  . rcases List.mem_cons.mp hg with rfl | hg
    . simp only [List.length_append,List.length_cons,List.length_nil];omega
    . exact h.few.2.2.1 g (List.mem_cons_of_mem _ hg)
theorem RAg.push {aw:Aw} {fs:List Fmg} {ns:List Str} {ub:Option Str} {l:Addr} (h:RAg C r X G ⟨aw,fs,ns,ub,none⟩ n L) (hl:G l=none) (hn:n+1<=20000) (f:Fmg) (hf:f.ps=[]) :
    RAg C r X (up (up G l (.lst [])) L.lb (.lst (((fs.zip L.ls).reverse.map λ z=>frG z.1 z.2)++[frG f l]))) ⟨aw,f::fs,ns,ub,none⟩ (n+1) { L with ls:=l::L.ls }:=by
  have nl:∀ {x:Addr} {o:DO},G x=some o->x≠l:=λ e=>by rintro rfl;rw [hl] at e;cases e
  have nb:=h.ne_lst h.stk
  obtain ⟨n1,n2⟩:=List.nodup_cons.mp h.nd
  have mem:∀ x∈L.ls,∃ ds,G x=some (.lst ds):=λ x hx=>by
    obtain ⟨i,hi,e⟩:=List.getElem_of_mem hx
    have hi2:i < fs.length:=by have:=h.len;simp only [] at this;omega
    refine ⟨_,h.frs (fs[i],x) ?_⟩
    rw [List.mem_iff_getElem]
    exact ⟨i,by rw [List.length_zip];simp only [];omega,by rw [List.getElem_zip,e]⟩
  have ll:l ∉ L.ls:=λ hx=>by obtain ⟨ds,e⟩:=mem l hx;rw [hl] at e;cases e
  have other:∀ {x:Addr} {o:DO},G x=some o->x≠L.lb->up (up G l (.lst [])) L.lb (.lst (((fs.zip L.ls).reverse.map λ z=>frG z.1 z.2)++[frG f l])) x=some o:=λ e ne=>by
    rw [a8q ne,a8q (nl e)];exact e
  refine ⟨other h.ins nb.1.symm,?_,by simp [h.len],λ z hz=>?_,other h.dic nb.2.symm,h.key,λ j b e=>?_,h.has,?_,λ j b e=>?_,h.inj,λ x hx=>?_,λ x hx=>?_,?_⟩
  . rw [a4q];simp
  . rcases List.mem_cons.mp (show z∈(f,l)::fs.zip L.ls from hz) with rfl | hz
    . rw [a8q (nl h.stk).symm,a4q,hf];rfl
    . have hm:z.2∈L.ls:=(List.of_mem_zip hz).2
      exact other (h.frs z hz) (λ e=>n1 (by rw [<- e];exact hm))
  . exact other (h.bnd j b e) (λ e2=>h.apb j b e (by rw [e2];simp))
  . refine List.nodup_cons.mpr ⟨λ hx=>?_,List.nodup_cons.mpr ⟨ll,n2⟩⟩
    rcases List.mem_cons.mp hx with e | e
    . exact nl h.stk e
    . exact n1 e
  . intro hx
    rcases List.mem_cons.mp hx with e2 | hx
    . exact h.apb j b e (by rw [e2];simp)
    . rcases List.mem_cons.mp hx with e2 | hx
      . exact nl (h.bnd j b e) e2
      . exact h.apb j b e (List.mem_cons_of_mem _ hx)
  . obtain ⟨a1,a2,a3,a4,a5⟩:=h.apx x hx
    refine ⟨a1,a2,a3,λ hm=>?_,a5⟩
    rcases List.mem_cons.mp hm with e | hm
    . subst e;exact h.liv _ hx hl
    . exact a4 hm
  . obtain ⟨a1,a2,a3,a4,a5⟩:=h.apx x hx
    have hne:x≠l:=by rintro rfl;exact h.liv _ hx hl
    rw [a8q a2,a8q hne];exact h.liv x hx
  . obtain ⟨f1,f2,f3,f4,f5⟩:=h.few
    refine ⟨by simp only [];omega,by simp only [List.length_cons] at *;omega,λ g hg=>?_,(by have:ns.length<=n:=f4;show ns.length<=n+1;omega),hn⟩
    rcases List.mem_cons.mp hg with rfl | hg
    . rw [hf];simp
    . exact f3 g hg
end
section
variable {C r:Addr} {X:Addr->Prop} {G:DV} {n:Nat} {L:Lag} {aw aw':Aw} {fs:List Fmg} {ns:List Str} {ub:Option Str}
theorem RAg.more {s:Rsg} (h:RAg C r X G s n L) (hn:n+1<=20000):RAg C r X G s (n+1) L:=
  { h with few:=by obtain ⟨f1,f2,f3,f4,f5⟩:=h.few;exact ⟨by omega,by omega,f3,by omega,hn⟩ }
theorem RAg.more2 {s:Rsg} (h:RAg C r X G s n L) (hn:n+2<=20000):RAg C r X G s (n+2) L:=(h.more (by omega)).more (by omega)
theorem RAg.ls_mem {s:Rsg} (h:RAg C r X G s n L) {x:Addr} (hx:x∈L.ls):∃ ds,G x=some (.lst ds):=by
  obtain ⟨i,hi,e⟩:=List.getElem_of_mem hx
  have hi2:i < s.fs.length:=by have:=h.len;omega
  refine ⟨_,h.frs (s.fs[i],x) ?_⟩
  rw [List.mem_iff_getElem]
  exact ⟨i,by rw [List.length_zip];omega,by rw [List.getElem_zip,e]⟩
theorem RAg.bindOld (h:RAg C r X G ⟨aw,fs,ns,ub,none⟩ n L) (hn:n+1<=20000) {x:Str} {b:Addr} (hb:L.bd x=some b):RAg C r X (up (up G b (.lst (lvD ns x++[.int ns.length]))) r (nDq C L.lb L.ld ⟨aw',fs,x::ns,ub,none⟩)) ⟨aw',fs,x::ns,ub,none⟩ (n+1) L:=by
  have gb:=h.bnd x b hb
  have nb:=h.ne_lst gb
  have other:∀ {y:Addr} {o:DO},G y=some o->y≠r->y≠b->up (up G b (.lst (lvD ns x++[.int ns.length]))) r (nDq C L.lb L.ld ⟨aw',fs,x::ns,ub,none⟩) y=some o:=λ e n1 n2=>by
    rw [a8q n1,a8q n2];exact e
  have lbb:L.lb≠b:=λ e=>h.apb x b hb (by rw [e];simp)
  refine ⟨a4q,other h.stk (h.ne_lst h.stk).1 lbb,h.len,λ z hz=>other (h.frs z hz) (h.ne_lst (h.frs z hz)).1 (λ e=>h.apb x b hb (by rw [<- e];exact List.mem_cons_of_mem _ (List.of_mem_zip hz).2)),other h.dic h.ld_r nb.2.symm,h.key,λ j b' e=>?_,λ j hj=>?_,h.nd,h.apb,h.inj,h.apx,λ y hy=>?_,?_⟩
  . by_cases c:j=x
    . subst c
      rw [hb] at e;cases e
      rw [a8q nb.1,a4q,hOq]
    . have nbb:b'≠b:=λ e2=>c (h.inj j x b (e2 ▸ e) hb)
      rw [kIq (Ne.symm c)]
      exact other (h.bnd j b' e) (h.ne_lst (h.bnd j b' e)).1 nbb
  . rcases List.mem_cons.mp hj with rfl | hj
    . rw [hb];rfl
    . exact h.has j hj
  . obtain ⟨a1,a2,a3,a4,a5⟩:=h.apx y hy
    rw [a8q a1,a8q (by rintro rfl;exact a5 x hb)];exact h.liv y hy
  . obtain ⟨f1,f2,f3,f4,f5⟩:=h.few
    exact ⟨by omega,by show fs.length<=n+1;have:fs.length<=n:=f2;omega,f3,by show ns.length+1<=n+1;have:ns.length<=n:=f4;omega,hn⟩
theorem RAg.bindNew (h:RAg C r X G ⟨aw,fs,ns,ub,none⟩ n L) {x:Str} {p:Addr} (hp:G p=none) (hn:n+1<=20000) (hb:L.bd x=none) :
    RAg C r X (up (up G p (.lst [])) L.ld (.dK (putKD L.kvs (.inr x) (.ref p)))) ⟨aw,fs,ns,ub,none⟩ (n+1) { L with kvs:=putKD L.kvs (.inr x) (.ref p),bd:=λ j=>if j=x then some p else L.bd j }:=by
  have np:∀ {y:Addr} {o:DO},G y=some o->y≠p:=λ e=>by rintro rfl;rw [hp] at e;cases e
  have other:∀ {y:Addr} {o:DO},G y=some o->y≠L.ld->up (up G p (.lst [])) L.ld (.dK (putKD L.kvs (.inr x) (.ref p))) y=some o:=λ e n1=>by
    rw [a8q n1,a8q (np e)];exact e
  have nx:x ∉ ns:=λ hm=>by have:=h.has x hm;rw [hb] at this;cases this
  have bdc:∀ {j:Str} {b:Addr},(if j=x then some p else L.bd j)=some b->(j=x/\b=p)\/(j≠x/\L.bd j=some b):=λ{j b} e=>by
    split at e
    . next c=>cases e;exact .inl ⟨c,rfl⟩
    . next c=>exact .inr ⟨c,e⟩
  refine ⟨other h.ins h.ld_r.symm,other h.stk (h.ne_lst h.stk).2,h.len,λ z hz=>other (h.frs z hz) (h.ne_lst (h.frs z hz)).2,a4q,λ j=>?_,λ j b e=>?_,λ j hj=>?_,h.nd,λ j b e=>?_,λ i j b e1 e2=>?_,λ y hy=>?_,λ y hy=>?_,?_⟩
  . show d4q (putKD L.kvs (.inr x) (.ref p)) _=(if j=x then some p else L.bd j).map D.ref
    rw [sTq]
    by_cases c:j=x
    . subst c;rw [if_pos rfl,if_pos rfl];rfl
    . rw [if_neg (λ e=>c (Sum.inr.inj e)),if_neg c];exact h.key j
  . rcases bdc e with ⟨rfl,rfl⟩ | ⟨c,e⟩
    . rw [a8q (np h.dic).symm,a4q,f6q nx]
    . exact other (h.bnd j b e) (h.ne_lst (h.bnd j b e)).2
  . show (if j=x then some p else L.bd j).isSome=true
    split
    . rfl
    . exact h.has j hj
  . rcases bdc e with ⟨rfl,rfl⟩ | ⟨c,e⟩
    . intro hm
      rcases List.mem_cons.mp hm with e2 | hm
      . exact np h.stk e2.symm
      . obtain ⟨ds,e2⟩:=h.ls_mem hm;rw [hp] at e2;cases e2
    . exact h.apb j b e
  . rcases bdc e1 with ⟨ei,rfl⟩ | ⟨c1,e1⟩
    . rcases bdc e2 with ⟨ej,_⟩ | ⟨c2,e2⟩
      . exact ei.trans ej.symm
      . exact absurd rfl (np (h.bnd _ _ e2))
    . rcases bdc e2 with ⟨_,eb⟩ | ⟨c2,e2⟩
      . exact absurd eb (np (h.bnd _ _ e1))
      . exact h.inj i j b e1 e2
  . obtain ⟨a1,a2,a3,a4,a5⟩:=h.apx y hy
    refine ⟨a1,a2,a3,a4,λ j e=>?_⟩
    rcases bdc e with ⟨rfl,rfl⟩ | ⟨c,e⟩
    . exact h.liv _ hy hp
    . exact a5 j e
  . obtain ⟨a1,a2,a3,a4,a5⟩:=h.apx y hy
    have hne:y≠p:=by rintro rfl;exact h.liv _ hy hp
    rw [a8q a3,a8q hne];exact h.liv y hy
  . obtain ⟨f1,f2,f3,f4,f5⟩:=h.few
    have:=oYq L.kvs (.inr x) (.ref p)
    exact ⟨by show (putKD L.kvs (.inr x) (.ref p)).length<=n+1;omega,by show fs.length<=n+1;have:fs.length<=n:=f2;omega,f3,by show ns.length<=n+1;have:ns.length<=n:=f4;omega,hn⟩
theorem RAg.new {s:Rsg} (h:RAg C r X G s n L) {p:Addr} (hp:G p=none) (o:DO):RAg C r X (up G p o) s n L:=by
  have other:∀ {x:Addr} {u:DO},G x=some u->up G p o x=some u:=λ e=>by
    rw [a8q (by rintro rfl;rw [hp] at e;cases e)];exact e
  exact { h with ins:=other h.ins,stk:=other h.stk,frs:=λ z hz=>other (h.frs z hz),dic:=other h.dic,bnd:=λ j b e=>other (h.bnd j b e),liv:=λ x hx=>by rw [a8q (by rintro rfl;exact h.liv _ hx hp)];exact h.liv x hx }
theorem RAg.pop {f:Fmg} {l:Addr} {ls:List Addr} (h:RAg C r X G ⟨aw,f::fs,ns,ub,none⟩ n L) (el:L.ls=l::ls) :
    RAg C r X (up G L.lb (.lst ((fs.zip ls).reverse.map λ z=>frG z.1 z.2))) ⟨aw,fs,ns,ub,none⟩ n { L with ls:=ls }:=by
  have nb:=h.ne_lst h.stk
  have nd:=h.nd
  rw [el] at nd
  obtain ⟨n1,n2⟩:=List.nodup_cons.mp nd
  obtain ⟨n3,n4⟩:=List.nodup_cons.mp n2
  have other:∀ {x:Addr} {o:DO},G x=some o->x≠L.lb->up G L.lb (.lst ((fs.zip ls).reverse.map λ z=>frG z.1 z.2)) x=some o:=λ e n1=>by rw [a8q n1];exact e
  have hl:=h.len
  rw [el] at hl
  refine ⟨other h.ins nb.1.symm,a4q,by simpa using hl,λ z hz=>?_,other h.dic nb.2.symm,h.key,λ j b e=>other (h.bnd j b e) (λ e2=>h.apb j b e (by rw [e2];simp)),h.has,List.nodup_cons.mpr ⟨λ hm=>n1 (List.mem_cons_of_mem _ hm),n4⟩,λ j b e hm=>?_,h.inj,λ x hx=>?_,λ x hx=>?_,?_⟩
  . have hm:z.2∈ls:=(List.of_mem_zip hz).2
    exact other (h.frs z (by rw [el];exact List.mem_cons_of_mem _ hz)) (λ e=>n1 (by rw [<- e];exact List.mem_cons_of_mem _ hm))
  . rcases List.mem_cons.mp hm with e2 | hm
    . exact h.apb j b e (by rw [e2];simp)
    . exact h.apb j b e (by rw [el];exact List.mem_cons_of_mem _ (List.mem_cons_of_mem _ hm))
  . obtain ⟨a1,a2,a3,a4,a5⟩:=h.apx x hx
    exact ⟨a1,a2,a3,λ hm=>a4 (by rw [el];exact List.mem_cons_of_mem _ hm),a5⟩
  . rw [a8q (h.apx x hx).2.1];exact h.liv x hx
  . obtain ⟨f1,f2,f3,f4,f5⟩:=h.few
    exact ⟨f1,by simp only [List.length_cons] at *;omega,λ g hg=>f3 g (List.mem_cons_of_mem _ hg),f4,f5⟩
theorem RAg.unbind {x:Str} (h:RAg C r X G ⟨aw,fs,x::ns,ub,none⟩ n L) {b:Addr} (hb:L.bd x=some b):RAg C r X (up (up G r (nDq C L.lb L.ld ⟨aw,fs,ns,ub,none⟩)) b (.lst (lvD ns x))) ⟨aw,fs,ns,ub,none⟩ n L:=by
  have gb:=h.bnd x b hb
  have nb:=h.ne_lst gb
  have other:∀ {y:Addr} {o:DO},G y=some o->y≠r->y≠b->up (up G r (nDq C L.lb L.ld ⟨aw,fs,ns,ub,none⟩)) b (.lst (lvD ns x)) y=some o:=λ e n1 n2=>by
    rw [a8q n2,a8q n1];exact e
  have lbb:L.lb≠b:=λ e=>h.apb x b hb (by rw [e];simp)
  refine ⟨by rw [a8q nb.1.symm];exact a4q,other h.stk (h.ne_lst h.stk).1 lbb,h.len,λ z hz=>other (h.frs z hz) (h.ne_lst (h.frs z hz)).1 (λ e=>h.apb x b hb (by rw [<- e];exact List.mem_cons_of_mem _ (List.of_mem_zip hz).2)),other h.dic h.ld_r nb.2.symm,h.key,λ j b' e=>?_,λ j hj=>h.has j (List.mem_cons_of_mem _ hj),h.nd,h.apb,h.inj,h.apx,λ y hy=>?_,?_⟩
  . by_cases c:j=x
    . subst c
      rw [hb] at e;cases e
      rw [a4q]
    . have nbb:b'≠b:=λ e2=>c (h.inj j x b (e2 ▸ e) hb)
      have z:=other (h.bnd j b' e) (h.ne_lst (h.bnd j b' e)).1 nbb
      rw [z]
      show some (DO.lst (lvD (x::ns) j))=_
      rw [kIq (Ne.symm c)]
  . obtain ⟨a1,a2,a3,a4,a5⟩:=h.apx y hy
    rw [a8q (by rintro rfl;exact a5 x hb),a8q a1];exact h.liv y hy
  . obtain ⟨f1,f2,f3,f4,f5⟩:=h.few
    exact ⟨f1,f2,f3,by have:ns.length+1<=n:=f4;show ns.length<=n;omega,f5⟩
end
end L3
set_option Elab.async false
set_option linter.all false
set_option maxRecDepth 100000
namespace L3
open PySem L2 PySem.NumText PyProof.Rows PySem.W PySem.W.KIN
theorem oGq {x:Str} {r:List Nat} (h:x.cps.toList=45::r):(bare x).cps.toList=r:=by
  have hl:x.cps.toList.length=x.length:=Array.length_toList
  unfold bare
  rw [zLq,b5q,h,if_pos (by rfl),PyProof.Rows.slice_from_eq (by decide) (by rw [<- hl,h,List.length_cons];omega) rfl]
  show ((x.cps.toList.drop 1).take _)=_
  rw [h,List.drop_succ_cons,List.drop_zero,List.take_of_length_le]
  rw [<- hl,h,List.length_cons];omega
theorem mWq {x:Str} (h:x.cps.toList.head?≠some 45):bare x=x:=by
  unfold bare
  rw [zLq,b5q,if_neg]
  intro c
  exact h (eq_of_beq c)
theorem dYq {z:Str} (h:bSq z figs=true):AllDigits z.cps.toList:=by
  unfold bSq at h
  rw [kTq,List.all_eq_true] at h
  intro c hc
  have:=h c hc
  rw [decide_eq_true_iff] at this
  simp at this
  omega
theorem pLq {x:Str} (h:hMq x=true):PySem.intText? x=some (tDq x)/\x.length<=10:=by
  unfold hMq at h
  rw [Bool.and_eq_true,Bool.and_eq_true,Bool.and_eq_true,decide_eq_true_iff,decide_eq_true_iff] at h
  obtain ⟨⟨h1,h2,h3⟩,h4⟩:=h
  have hd:=dYq h3
  have hl:x.cps.toList.length=x.length:=Array.length_toList
  have hb:(bare x).cps.toList.length=(bare x).length:=Array.length_toList
  have fin:∀ {v:Int},PySem.intText? x=some v->PySem.intText? x=some (tDq x):=λ e=>by unfold tDq;rw [e];rfl
  by_cases c:x.cps.toList.head?=some 45
  . cases e:x.cps.toList with
    | nil=>rw [e] at c;cases c
    | cons a r=>
      rw [e] at c;cases c
      have eb:=oGq e
      rw [eb] at hd hb
      have ne:r≠[]:=by rintro rfl;rw [List.length_nil] at hb;omega
      have lx:x.length=r.length+1:=by rw [<- hl,e,List.length_cons]
      exact ⟨fin (intText_neg (x:=x) e hd ne (by omega)),by omega⟩
  . have eb:=mWq c
    rw [eb] at hd h1 h2
    have ne:x.cps.toList≠[]:=by intro z;rw [z,List.length_nil] at hl;omega
    exact ⟨fin (intText_digits (x:=x) hd ne (by omega)),by omega⟩
def OkG (f:Fmg):Prop:=f.z∈words7/\f.ps.length < cGq f.z/\(f.nm.isSome=true ↔ f.z = "way")
def GsG (s:Rsg):Prop:=s.fs.filterMap (·.nm)=s.ns/\match s.aw with
  | .brk=>∃ f r,s.fs=f::r/\f.z∈words7/\f.ps.length=cGq f.z/\(f.nm.isSome=true ↔ f.z = "way")/\(∀ g∈r,OkG g)/\s.res=none
  | .noth=>s.res.isSome=true
  | _=>(∀ g∈s.fs,OkG g)/\s.res=none
theorem gLq {p:Tm} {aw:Aw} {fs:List Fmg} {ns:List Str} {ub:Option Str} (hn:fs.filterMap (·.nm)=ns) (h:∀ g∈fs,OkG g):GsG (eDq p ⟨aw,fs,ns,ub,none⟩):=by
  cases fs with
  | nil=>exact ⟨hn,rfl⟩
  | cons f r=>
    obtain ⟨h1,h2,h3⟩:=h f (List.mem_cons_self ..)
    have hr:∀ g∈r,OkG g:=λ g hg=>h g (List.mem_cons_of_mem _ hg)
    by_cases c:f.ps.length+1=cGq f.z
    . have e:eDq p ⟨aw,f::r,ns,ub,none⟩=⟨.brk,⟨f.z,f.nm,f.ps++[p]⟩::r,ns,ub,none⟩:=by simp only [eDq,if_pos c]
      rw [e]
      exact ⟨hn,_,_,rfl,h1,by simp only [List.length_append,List.length_cons,List.length_nil];omega,h3,hr,rfl⟩
    . have e:eDq p ⟨aw,f::r,ns,ub,none⟩=⟨.prog,⟨f.z,f.nm,f.ps++[p]⟩::r,ns,ub,none⟩:=by simp only [eDq,if_neg c]
      rw [e]
      refine ⟨hn,λ g hg=>?_,rfl⟩
      rcases List.mem_cons.mp hg with rfl | hg
      . exact ⟨h1,by simp only [List.length_append,List.length_cons,List.length_nil];omega,h3⟩
      . exact hr g hg
theorem n2q {s s':Rsg} {x:Str} (h:aWq s x=some s') (g:GsG s):GsG s':=by
  obtain ⟨aw,fs,ns,ub,res⟩:=s
  obtain ⟨gn,g⟩:=g
  cases aw with
  | prog=>
    obtain ⟨g,rfl⟩:=g
    simp only [aWq] at h
    split at h
    . cases h;exact ⟨gn,g,rfl⟩
    . split at h
      . cases h;exact gLq gn g
      . split at h
        . split at h
          . cases h;exact gLq gn g
          . cases h;exact gLq gn g
        . cases h
  | word=>
    obtain ⟨g,rfl⟩:=g
    simp only [aWq] at h
    split at h
    . next hz=>
      split at h
      . cases h;exact ⟨gn,g,rfl⟩
      . next hw=>
        cases h
        refine ⟨gn,λ f hf=>?_,rfl⟩
        rcases List.mem_cons.mp hf with rfl | hf
        . exact ⟨hz,x5q x hz,⟨(λ z=>by cases z),λ z=>absurd z hw⟩⟩
        . exact g f hf
    . cases h
  | name=>
    obtain ⟨g,rfl⟩:=g
    simp only [aWq] at h
    split at h
    . cases h
      refine ⟨by simp only [List.filterMap_cons];rw [gn],λ f hf=>?_,rfl⟩
      rcases List.mem_cons.mp hf with rfl | hf
      . exact ⟨show ("way" : Str)∈words7 by decide +kernel,show 0 < cGq ("way" : Str) by decide +kernel,⟨λ _=>rfl,λ _=>rfl⟩⟩
      . exact g f hf
    . cases h
  | brk=>
    obtain ⟨f,r,e,h1,h2,h3,h4,rfl⟩:=g
    simp only at e
    subst e
    simp only [aWq] at h
    split at h
    . cases h
      refine gLq ?_ h4
      simp only [List.filterMap_cons] at gn
      split
      . next c=>
        have:=h3.mpr c
        cases hm:f.nm with
        | none=>rw [hm] at this;cases this
        | some y=>rw [hm] at gn;simp only at gn;rw [<- gn];rfl
      . next c=>
        cases hm:f.nm with
        | none=>rw [hm] at gn;exact gn
        | some y=>exact absurd (h3.mp (by rw [hm];rfl)) c
    . cases h
  | noth=>simp only [aWq] at h;cases h
theorem RAg.more3 {C r:Addr} {X:Addr->Prop} {G:DV} {n:Nat} {L:Lag} {s:Rsg} (h:RAg C r X G s n L) (hn:n+3<=20000):RAg C r X G s (n+3) L:=(h.more2 (by omega)).more (by omega)
section
variable (C:Addr)
def jKq:DSp:=λ ds G Q=>∃ (r:Addr) (X:Addr->Prop),ds=[.ref r]/\G r=some (.ins C [])/\(∀ x,X x->x≠r/\G x≠none)/\∀ G' L,RAg C r X G' ⟨.prog,[],[],none,none⟩ 0 L->(∀ x,X x->G' x=G x)->Q .non G'
def lFq:DSp:=λ ds G Q=>∃ (r:Addr) (X:Addr->Prop) (aw:Aw) (fs:List Fmg) (ns:List Str) (ub:Option Str) (n:Nat) (L:Lag) (p:Tm),ds=[.ref r,p.enc]/\RAg C r X G ⟨aw,fs,ns,ub,none⟩ n L/\(∀ f∈fs,OkG f) ∧
  ∀ G' L',RAg C r X G' (eDq p ⟨aw,fs,ns,ub,none⟩) n L'->(∀ x,X x->G' x=G x)->Q .non G'
def pEq:DSp:=λ ds G Q=>∃ (r:Addr) (X:Addr->Prop) (aw:Aw) (fs:List Fmg) (ns:List Str) (ub:Option Str) (n:Nat) (L:Lag) (x:Str),ds=[.ref r,.str x]/\RAg C r X G ⟨aw,fs,ns,ub,none⟩ n L ∧
  (x∈ns->Q (.int (ixN ns x)) G)/\(x ∉ ns->∀ G' L',RAg C r X G' ⟨aw,fs,ns,ub.or (some x),none⟩ n L'->(∀ y,X y->G' y=G y)->Q (.int (0:Nat)) G')
def d2q (P:Aw->Prop):DSp:=λ ds G Q=>∃ (r:Addr) (X:Addr->Prop) (s:Rsg) (n:Nat) (L:Lag) (x:Str),ds=[.ref r,.str x]/\RAg C r X G s n L/\n+3<=20000/\GsG s/\P s.aw/\x.length<=1000 ∧
  (∀ s',aWq s x=some s'->∀ G' L',RAg C r X G' s' (n+3) L'->(∀ y,X y->G' y=G y)->Q (.bl true) G')/\(aWq s x=none->Q (.bl false) G)
end
def i3q:Rsg->List (List Nat)->Nat->Sum Nat Rsg
  | s,[],_=>.inr s
  | s,x::r,i=>match aWq s (wS x) with
    | some s'=>i3q s' r (i+1)
    | none=>.inl i
inductive ROut where
  | text (i:Nat) | name (x:Str) | ok (t:Tm)
def e4q:Rsg:=⟨.prog,[],[],none,none⟩
def qBq (ws:List (List Nat)):ROut:=match i3q e4q ws 0 with
  | .inl i=>.text i
  | .inr s=>match s.aw with
    | .noth=>match s.unb with
      | some x=>.name x
      | none=>.ok (s.res.getD (.whole 0))
    | _=>.text ws.length
def eEq (z:Str):ROut:=qBq (wds [] z.cps.toList)
def eTq (cT cN:Addr):x7q:=λ ds G DQ DX=>∃ z:Str,ds=[.str z]/\z.length<=6000/\(∀ x∈wds [] z.cps.toList,x.length<=1000) ∧
  (∀ i,eEq z=.text i->DX cT [("at", .int i)] G)/\(∀ x,eEq z=.name x->DX cN [("name", .str x)] G)/\(∀ t,eEq z=.ok t->DQ t.enc G)
end L3
set_option Elab.async false
set_option linter.all false
set_option maxRecDepth 100000
namespace L3
open PySem L2
inductive Wr:List Str->Tm->List Str->Tm->List Str->Prop
  | whole {xs} (k:Int):k.natAbs < 10 ^ 9->Wr xs (.whole k) [cHq k] (.whole k) []
  | nin {xs} (n:Nat) (y:Str):bHq y=true->y∈xs->Wr xs (.name n) [y] (.name (ixN xs y)) []
  | nout {xs} (n:Nat) (y:Str):bHq y=true->y ∉ xs->Wr xs (.name n) [y] (.name 0) [y]
  | way {xs t ks u bs} (y:Str):bHq y=true->Wr (y::xs) t ks u bs->Wr xs (.way t) (("(" : Str)::"way"::y::(ks++[(")" : Str)])) (.way u) bs
  | first {xs t ks u bs}:Wr xs t ks u bs->Wr xs (.first t) (("(" : Str)::"first"::(ks++[(")" : Str)])) (.first u) bs
  | second {xs t ks u bs}:Wr xs t ks u bs->Wr xs (.second t) (("(" : Str)::"second"::(ks++[(")" : Str)])) (.second u) bs
  | give {xs t ks u bs t2 ks2 u2 bs2}:Wr xs t ks u bs->Wr xs t2 ks2 u2 bs2->Wr xs (.give t t2) (("(" : Str)::"give"::(ks++ks2++[(")" : Str)])) (.give u u2) (bs++bs2)
  | pair {xs t ks u bs t2 ks2 u2 bs2}:Wr xs t ks u bs->Wr xs t2 ks2 u2 bs2->Wr xs (.pair t t2) (("(" : Str)::"pair"::(ks++ks2++[(")" : Str)])) (.pair u u2) (bs++bs2)
  | plus {xs t ks u bs t2 ks2 u2 bs2}:Wr xs t ks u bs->Wr xs t2 ks2 u2 bs2->Wr xs (.plus t t2) (("(" : Str)::"plus"::(ks++ks2++[(")" : Str)])) (.plus u u2) (bs++bs2)
  | look {xs t ks u bs t2 ks2 u2 bs2 t3 ks3 u3 bs3}:Wr xs t ks u bs->Wr xs t2 ks2 u2 bs2->Wr xs t3 ks3 u3 bs3->Wr xs (.look t t2 t3) (("(" : Str)::"look"::(ks++ks2++ks3++[(")" : Str)])) (.look u u2 u3) (bs++bs2++bs3)
theorem dVq {y:Str} (h:bHq y=true):(∀ c∈y.cps.toList,97<=c/\c<=122)/\y.cps.toList≠[]/\y.length<=8/\y ∉ words7:=by
  unfold bHq at h
  rw [Bool.and_eq_true,Bool.and_eq_true,Bool.and_eq_true,decide_eq_true_iff,decide_eq_true_iff] at h
  obtain ⟨h1,h2,h3,h4⟩:=h
  have hl:y.cps.toList.length=y.length:=Array.length_toList
  refine ⟨λ c hc=>?_,λ e=>by rw [e,List.length_nil] at hl;omega,by omega,by simpa using h4⟩
  unfold bSq at h3
  rw [List.all_eq_true] at h3
  have h5:=h3 c hc
  rw [decide_eq_true_iff] at h5
  have:∀ c∈letters.cps.toList,97<=c/\c<=122:=by decide +kernel
  exact this c h5
theorem pHq {y z:Str} {c:Nat} (h:bHq y=true) (e:z.cps.toList=[c]) (hc:c < 97):y≠z:=by
  rintro rfl
  have:=(dVq h).1 c (by rw [e];exact List.mem_cons_self ..)
  omega
theorem lNq {y:Str} (h:bHq y=true):hMq y=false:=by
  obtain ⟨h1,h2,_,_⟩:=dVq h
  cases e:hMq y with
  | false=>rfl
  | true=>
    exfalso
    cases hc:y.cps.toList with
    | nil=>exact h2 hc
    | cons c r=>
      have r1:=h1 c (by rw [hc];exact List.mem_cons_self ..)
      have hb:bare y=y:=mWq (by rw [hc];simp;omega)
      unfold hMq at e
      rw [hb,Bool.and_eq_true,Bool.and_eq_true,Bool.and_eq_true] at e
      have:=dYq e.1.2.2 c (by rw [hc];exact List.mem_cons_self ..)
      omega
theorem jWq {y:Str} (h:bHq y=true):Wd (cL y)/\(cL y).length<=12:=by
  obtain ⟨h1,h2,h3,_⟩:=dVq h
  refine ⟨.inr (.inr ⟨h2,λ c hc=>?_⟩),?_⟩
  . have:=h1 c hc;omega
  . rw [show (cL y).length=y.length from Array.length_toList];omega
section
variable {fs:List Fmg} {ns:List Str} {ub:Option Str}
theorem d6q:aWq ⟨.prog,fs,ns,ub,none⟩ "(" = some ⟨.word,fs,ns,ub,none⟩:=by simp only [aWq,if_true]
theorem gCq {z:Str} (h:z∈words7) (hw:z≠"way"):aWq ⟨.word,fs,ns,ub,none⟩ z=some ⟨.prog,⟨z,none,[]⟩::fs,ns,ub,none⟩:=by simp only [aWq];rw [if_pos h,if_neg hw]
theorem xYq:aWq ⟨.word,fs,ns,ub,none⟩ "way" = some ⟨.name,fs,ns,ub,none⟩:=by
  simp only [aWq];rw [if_pos (by decide +kernel)];simp
theorem v1q {y:Str} (h:bHq y=true):aWq ⟨.name,fs,ns,ub,none⟩ y=some ⟨.prog,⟨"way", some y,[]⟩::fs,y::ns,ub,none⟩:=by simp only [aWq];rw [if_pos h]
theorem r4q {k:Int} (h:k.natAbs < 10 ^ 9):tDq (cHq k)=k:=by
  unfold tDq;rw [(kQq (n:=k) (Nat.lt_trans h (by decide))).1];rfl
theorem qMq {k:Int} (h:k.natAbs < 10 ^ 9):aWq ⟨.prog,fs,ns,ub,none⟩ (cHq k)=some (eDq (.whole k) ⟨.prog,fs,ns,ub,none⟩):=by
  simp only [aWq]
  rw [if_neg (λ e=>by have:=wKq (n:=k) (z:="(") (c:=40) (by decide +kernel) (by decide);rw [e] at this;simp at this),if_pos (lEq h),r4q h]
theorem y7q {y:Str} (h:bHq y=true) (hm:y∈ns):aWq ⟨.prog,fs,ns,ub,none⟩ y=some (eDq (.name (ixN ns y)) ⟨.prog,fs,ns,ub,none⟩):=by
  simp only [aWq]
  rw [if_neg (pHq h (c:=40) (by decide +kernel) (by decide)),if_neg (by rw [lNq h];decide),if_pos h,if_pos hm]
theorem wMq {y:Str} (h:bHq y=true) (hm:y ∉ ns):aWq ⟨.prog,fs,ns,ub,none⟩ y=some (eDq (.name 0) ⟨.prog,fs,ns,ub.or (some y),none⟩):=by
  simp only [aWq]
  rw [if_neg (pHq h (c:=40) (by decide +kernel) (by decide)),if_neg (by rw [lNq h];decide),if_pos h,if_neg hm]
theorem cDq {z:Str} {nm:Option Str} {ps:List Tm}:aWq ⟨.brk,⟨z,nm,ps⟩::fs,ns,ub,none⟩ ")" = some (eDq (vBq z ps) ⟨.brk,fs,if z = "way" then ns.tail else ns,ub,none⟩):=by simp only [aWq,if_true]
theorem aNq {s s':Rsg} {z:Str} {r:List (List Nat)} {i:Nat} (h:aWq s z=some s'):i3q s (cL z::r) i=i3q s' r (i+1):=by
  rw [i3q,show wS (cL z)=z from rfl,h]
theorem cPq {p:Tm} {z:Str} {nm:Option Str} {ps:List Tm} {aw:Aw} (h:ps.length+1≠cGq z):eDq p ⟨aw,⟨z,nm,ps⟩::fs,ns,ub,none⟩=⟨.prog,⟨z,nm,ps++[p]⟩::fs,ns,ub,none⟩:=by simp only [eDq,if_neg h]
theorem bQq {p:Tm} {z:Str} {nm:Option Str} {ps:List Tm} {aw:Aw} (h:ps.length+1=cGq z):eDq p ⟨aw,⟨z,nm,ps⟩::fs,ns,ub,none⟩=⟨.brk,⟨z,nm,ps++[p]⟩::fs,ns,ub,none⟩:=by simp only [eDq,if_pos h]
end
theorem h4q (a:Option Str) (bs cs:List Str):(a.or bs.head?).or cs.head?=a.or (bs++cs).head?:=by
  cases a with
  | some x=>rfl
  | none=>cases bs<;>rfl
theorem aB5q {xs:List Str} {t:Tm} {ks:List Str} {u:Tm} {bs:List Str} (h:Wr xs t ks u bs):∀ (fs:List Fmg) (ub:Option Str) (r:List (List Nat)) (i:Nat),i3q ⟨.prog,fs,xs,ub,none⟩ (ks.map cL++r) i=i3q (eDq u ⟨.prog,fs,xs,ub.or bs.head?,none⟩) r (i+ks.length):=by
  induction h with
  | whole k hk=>intro fs ub r i;rw [List.map_cons,List.map_nil,List.cons_append,List.nil_append,aNq (qMq hk)];simp
  | nin n y hy hm=>intro fs ub r i;rw [List.map_cons,List.map_nil,List.cons_append,List.nil_append,aNq (y7q hy hm)];simp
  | nout n y hy hm=>intro fs ub r i;rw [List.map_cons,List.map_nil,List.cons_append,List.nil_append,aNq (wMq hy hm)];simp
  | @way xs t ks u bs y hy _ ih=>
    intro fs ub r i
    simp only [List.map_cons,List.map_append,List.map_nil,List.cons_append,List.append_assoc,List.nil_append]
    rw [aNq d6q,aNq xYq,aNq (v1q hy),ih,bQq (by decide +kernel),aNq cDq]
    simp only [List.length_cons,List.length_append,List.length_nil,if_true,List.tail_cons]
    rw [show i+1+1+1+ks.length+1=i+(ks.length+(0+1)+1+1+1) by omega]
    rfl
  | @first xs t ks u bs _ ih=>
    intro fs ub r i
    simp only [List.map_cons,List.map_append,List.map_nil,List.cons_append,List.append_assoc,List.nil_append]
    rw [aNq d6q,aNq (gCq (by decide +kernel) (by decide +kernel)),ih,bQq (by decide +kernel),aNq cDq]
    simp only [List.length_cons,List.length_append,List.length_nil]
    rw [show i+1+1+ks.length+1=i+(ks.length+(0+1)+1+1) by omega]
    rfl
  | @second xs t ks u bs _ ih=>
    intro fs ub r i
    simp only [List.map_cons,List.map_append,List.map_nil,List.cons_append,List.append_assoc,List.nil_append]
    rw [aNq d6q,aNq (gCq (by decide +kernel) (by decide +kernel)),ih,bQq (by decide +kernel),aNq cDq]
    simp only [List.length_cons,List.length_append,List.length_nil]
    rw [show i+1+1+ks.length+1=i+(ks.length+(0+1)+1+1) by omega]
    rfl
  | @give xs t ks u bs t2 ks2 u2 bs2 _ _ ih ih2=>
    intro fs ub r i
    simp only [List.map_cons,List.map_append,List.map_nil,List.cons_append,List.append_assoc,List.nil_append]
    rw [aNq d6q,aNq (gCq (by decide +kernel) (by decide +kernel)),ih,cPq (by decide +kernel),ih2,bQq (by show 1+1=_;decide +kernel),aNq cDq]
    simp only [List.length_cons,List.length_append,List.length_nil,h4q]
    rw [show i+1+1+ks.length+ks2.length+1=i+(ks.length+ks2.length+(0+1)+1+1) by omega]
    rfl
  | @pair xs t ks u bs t2 ks2 u2 bs2 _ _ ih ih2=>
    intro fs ub r i
    simp only [List.map_cons,List.map_append,List.map_nil,List.cons_append,List.append_assoc,List.nil_append]
    rw [aNq d6q,aNq (gCq (by decide +kernel) (by decide +kernel)),ih,cPq (by decide +kernel),ih2,bQq (by show 1+1=_;decide +kernel),aNq cDq]
    simp only [List.length_cons,List.length_append,List.length_nil,h4q]
    rw [show i+1+1+ks.length+ks2.length+1=i+(ks.length+ks2.length+(0+1)+1+1) by omega]
    rfl
  | @plus xs t ks u bs t2 ks2 u2 bs2 _ _ ih ih2=>
    intro fs ub r i
    simp only [List.map_cons,List.map_append,List.map_nil,List.cons_append,List.append_assoc,List.nil_append]
    rw [aNq d6q,aNq (gCq (by decide +kernel) (by decide +kernel)),ih,cPq (by decide +kernel),ih2,bQq (by show 1+1=_;decide +kernel),aNq cDq]
    simp only [List.length_cons,List.length_append,List.length_nil,h4q]
    rw [show i+1+1+ks.length+ks2.length+1=i+(ks.length+ks2.length+(0+1)+1+1) by omega]
    rfl
  | @look xs t ks u bs t2 ks2 u2 bs2 t3 ks3 u3 bs3 _ _ _ ih ih2 ih3=>
    intro fs ub r i
    simp only [List.map_cons,List.map_append,List.map_nil,List.cons_append,List.append_assoc,List.nil_append]
    rw [aNq d6q,aNq (gCq (by decide +kernel) (by decide +kernel)),ih,cPq (by decide +kernel),ih2,cPq (by show 1+1≠_;decide +kernel),ih3,bQq (by show 2+1=_;decide +kernel),aNq cDq]
    simp only [List.length_cons,List.length_append,List.length_nil,h4q,List.append_assoc]
    rw [show i+1+1+ks.length+ks2.length+ks3.length+1=i+(ks.length+(ks2.length+(ks3.length+(0+1)))+1+1) by omega]
    rfl
theorem xGq {t:Tm} {ks:List Str} {u:Tm} {bs:List Str} (h:Wr [] t ks u bs):qBq (ks.map cL)=match bs with | []=>.ok u | x::_=>.name x:=by
  have e:=aB5q h [] none [] 0
  rw [List.append_nil] at e
  unfold qBq e4q
  rw [e]
  cases bs<;>rfl
theorem sXq {xs:List Str} {t:Tm} {ks:List Str} {u:Tm} {bs:List Str} (h:Wr xs t ks u bs):ks.length<=4 * t.sz/\(∀ k∈ks,Wd (cL k)/\(cL k).length<=12)/\u.dp=t.dp:=by
  have p1:Wd (cL "(")/\(cL "(").length<=12:=⟨.inl (by decide +kernel),by decide +kernel⟩
  have p2:Wd (cL ")")/\(cL ")").length<=12:=⟨.inr (.inl (by decide +kernel)),by decide +kernel⟩
  have pk:∀ z∈words7,Wd (cL z)/\(cL z).length<=12:=λ z hz=>⟨aG8q z hz,by revert z;decide +kernel⟩
  have nd:∀ {z:Str} {l:List Str},z∈words7->(∀ k∈l,Wd (cL k)/\(cL k).length<=12)->∀ k∈("(" : Str)::z::(l++[(")" : Str)]),Wd (cL k)/\(cL k).length<=12:=λ{z l} hz hl k hk=>by
    rcases List.mem_cons.mp hk with rfl | hk
    . exact p1
    . rcases List.mem_cons.mp hk with rfl | hk
      . exact pk _ hz
      . rcases List.mem_append.mp hk with hk | hk
        . exact hl k hk
        . simp at hk;subst hk;exact p2
  induction h with
  | whole k hk=>exact ⟨by simp [Tm.sz],λ z hz=>by simp at hz;subst hz;exact ⟨z2q k,by have:=(kQq (n:=k) (Nat.lt_trans hk (by decide))).2;have h9:=lEq hk;have:=(pLq h9).2;rw [show (cL (cHq k)).length=(cHq k).length from Array.length_toList];omega⟩,rfl⟩
  | nin n y hy hm=>exact ⟨by simp [Tm.sz],λ z hz=>by simp at hz;subst hz;exact jWq hy,rfl⟩
  | nout n y hy hm=>exact ⟨by simp [Tm.sz],λ z hz=>by simp at hz;subst hz;exact jWq hy,rfl⟩
  | way y hy _ ih=>
    obtain ⟨i1,i2,i3⟩:=ih
    refine ⟨by simp only [List.length_cons,List.length_append,List.length_nil,Tm.sz];omega,λ k hk=>?_,by simp only [Tm.dp,i3]⟩
    rcases List.mem_cons.mp hk with rfl | hk
    . exact p1
    . rcases List.mem_cons.mp hk with rfl | hk
      . exact pk _ (by decide +kernel)
      . rcases List.mem_cons.mp hk with rfl | hk
        . exact jWq hy
        . rcases List.mem_append.mp hk with hk | hk
          . exact i2 k hk
          . simp at hk;subst hk;exact p2
  | first _ ih=>obtain ⟨i1,i2,i3⟩:=ih;exact ⟨by simp only [List.length_cons,List.length_append,List.length_nil,Tm.sz];omega,nd (by decide +kernel) i2,by simp only [Tm.dp,i3]⟩
  | second _ ih=>obtain ⟨i1,i2,i3⟩:=ih;exact ⟨by simp only [List.length_cons,List.length_append,List.length_nil,Tm.sz];omega,nd (by decide +kernel) i2,by simp only [Tm.dp,i3]⟩
  | give _ _ ih jh=>obtain ⟨i1,i2,i3⟩:=ih;obtain ⟨j1,j2,j3⟩:=jh;exact ⟨by simp only [List.length_cons,List.length_append,List.length_nil,Tm.sz];omega,nd (by decide +kernel) (λ k hk=>(List.mem_append.mp hk).elim (i2 k) (j2 k)),by simp only [Tm.dp,i3,j3]⟩
  | pair _ _ ih jh=>obtain ⟨i1,i2,i3⟩:=ih;obtain ⟨j1,j2,j3⟩:=jh;exact ⟨by simp only [List.length_cons,List.length_append,List.length_nil,Tm.sz];omega,nd (by decide +kernel) (λ k hk=>(List.mem_append.mp hk).elim (i2 k) (j2 k)),by simp only [Tm.dp,i3,j3]⟩
  | plus _ _ ih jh=>obtain ⟨i1,i2,i3⟩:=ih;obtain ⟨j1,j2,j3⟩:=jh;exact ⟨by simp only [List.length_cons,List.length_append,List.length_nil,Tm.sz];omega,nd (by decide +kernel) (λ k hk=>(List.mem_append.mp hk).elim (i2 k) (j2 k)),by simp only [Tm.dp,i3,j3]⟩
  | look _ _ _ ih jh kh=>obtain ⟨i1,i2,i3⟩:=ih;obtain ⟨j1,j2,j3⟩:=jh;obtain ⟨k1,k2,k3⟩:=kh;exact ⟨by simp only [List.length_cons,List.length_append,List.length_nil,Tm.sz];omega,nd (by decide +kernel) (λ k hk=>(List.mem_append.mp hk).elim (λ hk=>(List.mem_append.mp hk).elim (i2 k) (j2 k)) (k2 k)),by simp only [Tm.dp,i3,j3,k3]⟩
end L3
set_option Elab.async false
set_option linter.all false
set_option maxRecDepth 100000
set_option Elab.async false
set_option linter.all false
set_option maxRecDepth 100000
namespace L2
open PySem PySem.Spec PyProof.Rows
section
variable {X:Cx}
def uXq:R2:=λ x y H Q=>∃ a o,y=.ref a/\DGet H a x o/\Q (.bl (!o.isSome)) H
theorem mKq (hu:X.A.units+1 < cLine):OpR X (compareOp .NotIn) uXq:=by
  intro pins s σ H x y v u Q I rx ry h
  obtain ⟨a,o,rfl,g,q⟩:=h
  cases ry
  exact vMq hu I g rx λ s' I'=>⟨.bl _,H,I',rfl,q⟩
def kvV (l:List (Str × Int)):List (Key × V):=l.map λ p=>(.inr p.1,.int p.2)
def CPs (X:Cx) (pos:Pos) (keys:List (Option Expr)) (values:List Expr) (l:List (Str × Int)):Prop:=∃ trs,PPs X pos keys values trs/\∀ σ H Q,Q ((kvV l).map λ kv=>(kV kv.1,kv.2)) H->kUq trs σ H Q
theorem uKq {pos:Pos}:CPs X pos [] [] []:=⟨[],wOq,λ _ _ _ q=>q⟩
theorem cBq {pos p1 p2:Pos} {j1 j2} {x:Str} {i:Int} {ks:List (Option Expr)} {vs:List Expr} {l:List (Str × Int)} (h:CPs X pos ks vs l):CPs X pos (some (.Constant (.str x) j1 p1)::ks) (.Constant (.int i) j2 p2::vs) ((x,i)::l):=by
  obtain ⟨trs,h1,h2⟩:=h
  exact ⟨_,rWq tSq tVq h1,λ σ H Q q=>h2 σ H _ q⟩
theorem i5q:∀ (l:List (Str × Int)) (acc:List (Key × V)),(l.map (·.1)).Nodup->(∀ p∈l,cSq acc (.inr p.1)=none)->fDq acc (kvV l)=acc++kvV l
  | [],acc,_,_=>(List.append_nil _).symm
  | p::l,acc,hn,ha=>by
    rw [List.map_cons,List.nodup_cons] at hn
    have e:hCq acc (.inr p.1) (.int p.2)=acc++[((.inr p.1:Key),V.int p.2)]:=rEq _ (ha p (List.mem_cons_self ..))
    show fDq (hCq acc (.inr p.1) (.int p.2)) (kvV l)=_
    rw [i5q l _ hn.2 (λ q hq=>?_),e]
    . show _=acc++((.inr p.1,.int p.2)::kvV l);rw [List.append_assoc];rfl
    . rw [rPq,if_neg,ha q (List.mem_cons_of_mem _ hq)]
      intro z
      injection z with z
      exact hn.1 (z ▸ List.mem_map_of_mem hq)
end
end L2
namespace L3
open PySem PySem.Spec L2
section
variable {X:Cx} {pos:Pos}
abbrev aE0q:DR2:=λ x y G Q=>match y with
  | .ref a=>onD G a λ kvs=>∃ k,fPq x=some k/\Q (.bl (!(d4q kvs k).isSome)) G
  | _=>False
theorem m5q (hu:X.A.units+200 < cLine):AOp X (compareOp .NotIn) aE0q:=by
  refine ⟨_,⟨mKq (by omega)⟩,λ x y vx vy G H DQ Q v ax ay r F=>?_⟩
  cases y with
  | ref a=>
    cases ay
    obtain ⟨kvs,gs,⟨k,ek,q⟩,e1,e2,rl⟩:=dRq v r
    rw [dMq ek] at ax
    have:=l5q ax
    subst this
    have hs:(cSq gs k).isSome=(d4q kvs k).isSome:=by
      obtain ⟨z1,z2⟩:=rl.val (k:=k)
      cases e:d4q kvs k with
      | none=>rw [z2 e];rfl
      | some d=>obtain ⟨u,hu,_⟩:=z1 d e;rw [hu];rfl
    exact ⟨a,_,rfl,DGet.k e2,by rw [hs];exact F (.bl _) G _ H (.refl v) rfl q⟩
  | _=>exact (show False from r).elim
def kvD (l:List (Str × Int)):List (Key × D):=l.map λ p=>(.inr p.1,.int p.2)
theorem q6q {K:PySem.W.Frag} {H:Hp}:∀ l:List (Str × Int),AbsF K H (kvD l) (kvV l)
  | []=>⟨rfl,rfl⟩
  | p::l=>AbsF.consI rfl (q6q l)
abbrev xIq (l:List (Str × Int)):DTE:=λ _ G Q=>∀ p,G p=none->Q (.ref p) (up G p (.dK (kvD l)))
theorem qZq {keys:List (Option Expr)} {values:List Expr} {l:List (Str × Int)} (h:CPs X pos keys values l) (hall:keys.all (·.isSome)=true) (hl:keys.length=values.length) (h0:keys≠[]) (h15:keys.length<=15) (hn:(l.map (·.1)).Nodup) (hl2:l.length<=15):AE X (.Dict keys values pos) (xIq l):=by
  obtain ⟨trs,h1,h2⟩:=h
  refine ⟨_,⟨u8q h1 hall hl h0 h15⟩,λ ρ G DQ σ H Q B q F p hp=>?_⟩
  refine h2 _ _ _ ⟨aBq,kvV l,rfl,by rw [kvV,List.length_map];exact hl2,?_⟩
  rw [i5q l [] hn (λ _ _=>rfl),List.nil_append]
  have g:=Go.newD (kvs:=kvD l) (gs:=kvV l) B.vw hp (q6q l)
  have e:upd (upd H p (.dK [])) p (.dK (kvV l))=upd H p (.dK (kvV l)):=by
    funext b;by_cases c:b=p
    . subst c;rw [aBq,aBq]
    . rw [aAq c,aAq c,aAq c]
  rw [e]
  exact F (.ref p) _ _ _ g rfl (q p (B.vw.none hp))
theorem oFq (x:Str):∀ l:List (Str × Int),d4q (kvD l) (.inr x)=(l.find? λ p=>decide (p.1=x)).map λ p=>D.int p.2
  | []=>rfl
  | p::l=>by
    have ih:=oFq x l
    unfold d4q kvD at ih ⊢
    rw [List.map_cons,List.find?_cons,List.find?_cons]
    by_cases c:p.1=x
    . have:((.inr p.1:Key)=.inr x):=by rw [c]
      simp only [this,c,decide_true];rfl
    . have:¬ ((.inr p.1:Key)=.inr x):=λ z=>c (by injection z)
      simp only [this,c,decide_false];exact ih
end
end L3
set_option Elab.async false
set_option linter.all false
set_option maxRecDepth 100000
namespace L3
open PySem L2
theorem yYq {t:Tm} (h:t.leaf=false):t.sz=1+(t.inn.map Tm.sz).sum:=by
  cases t<;>first | (cases h;done) | (simp [Tm.sz,Tm.inn];try omega)
theorem h7q:∀ {ts:List Tm} {i:Nat} {u:Tm},ts[i]?=some u->((ts.take i).map Tm.sz).sum+u.sz<=(ts.map Tm.sz).sum
  | [],i,u,h=>by cases h
  | t::ts,0,u,h=>by cases h;simp
  | t::ts,i+1,u,h=>by
    have:=h7q (ts:=ts) (i:=i) (u:=u) h
    simp only [List.take_succ_cons,List.map_cons,List.sum_cons];omega
theorem sCq {t:Tm} (h:t.node2=true):t.inn.length=cGq t.word/\t.word∈words7:=by
  cases t with
  | name n=>cases h
  | whole k=>cases h
  | way t=>cases h
  | first t=>exact ⟨show 1=cGq ("first" : Str) by decide +kernel,show ("first" : Str)∈words7 by decide +kernel⟩
  | second t=>exact ⟨show 1=cGq ("second" : Str) by decide +kernel,show ("second" : Str)∈words7 by decide +kernel⟩
  | give t u=>exact ⟨show 2=cGq ("give" : Str) by decide +kernel,show ("give" : Str)∈words7 by decide +kernel⟩
  | pair t u=>exact ⟨show 2=cGq ("pair" : Str) by decide +kernel,show ("pair" : Str)∈words7 by decide +kernel⟩
  | plus t u=>exact ⟨show 2=cGq ("plus" : Str) by decide +kernel,show ("plus" : Str)∈words7 by decide +kernel⟩
  | look t u v=>exact ⟨show 3=cGq ("look" : Str) by decide +kernel,show ("look" : Str)∈words7 by decide +kernel⟩
def outB (u:Tm):List Str->ROut
  | []=>.ok u
  | x::_=>.name x
theorem w5q {t:Tm} {ks:List Str} {u:Tm} {bs:List Str} (h:Wr [] t ks u bs):qBq (ks.map cL)=outB u bs:=by
  rw [xGq h];cases bs<;>rfl
end L3
set_option Elab.async false
set_option linter.all false
set_option maxRecDepth 100000
namespace L3
open PySem L2
theorem wHq {P:Program} {w:World} {K:PySem.W.Frag} {mg:Str->Option Value} {base:Heap} {k:Nat} {x:Str} {ps:List Str} {dsp:x7q} {sp:DSp} (g:GotX P w K mg base k x ps (tBq K dsp)) (h:∀ ds G Q,sp ds G Q->dsp ds G Q (λ _ _ _=>False)):Got P w K mg base k x ps (aSq K sp):=by
  obtain ⟨f,fd,F,m,kp,b⟩:=g.ex
  refine ⟨f,fd,⟨λ vs H Q E ⟨ds,G,DQ,a,v,s,fi⟩=>F.len vs H Q (λ _ _ _=>False) ⟨ds,G,DQ,_,a,v,h _ _ _ s,fi,λ _ _ _ _ _ _ _ _ _ _ hx=>hx.elim⟩,λ A outer s H args us vs Q E hr he hb hv ⟨ds,G,DQ,a,v,sp',fi⟩=>codeAny_mono (F.run A outer s H args us vs Q (λ _ _ _=>False) hr he hb hv ⟨ds,G,DQ,_,a,v,h _ _ _ sp',fi,λ _ _ _ _ _ _ _ _ _ _ hx=>hx.elim⟩) λ r s' hq=>?_⟩,m,kp,b⟩
  cases r with
  | ok u=>cases u<;>exact hq
  | error e=>obtain ⟨_,_,_,_,_,_,_,_,z⟩:=hq;exact z.elim
inductive Wn where
  | one | key | name
deriving DecidableEq
def Wn.str:Wn->Str
  | .one=>"one"
  | .key=>"key"
  | .name=>"name"
def bIq (s:Wn × List Nat) (x:Str):Option (Wn × List Nat):=match s.1 with
  | .key=>if x∈words7 then some (if x = "way" then .name else .one,cGq x::s.2) else none
  | .name=>if bHq x=true then some (.one,s.2) else none
  | .one=>match s.2 with
    | 0::r=>if x = ")"/\r≠[] then some (.one,r) else none
    | (n+1)::r=>if x = "(" then some (.key,n::r) else if hMq x=true\/bHq x=true then some (.one,n::r) else none
    | []=>none
def nEq:List Fmg->List Nat
  | []=>[0]
  | f::r=>(cGq f.z - f.ps.length - 1)::nEq r
def s6q:List Fmg->List Nat
  | []=>[1]
  | f::r=>(cGq f.z - f.ps.length)::nEq r
def rwS (s:Rsg):Wn × List Nat:=match s.aw with
  | .prog=>(.one,s6q s.fs)
  | .word=>(.key,nEq s.fs)
  | .name=>(.name,1::nEq s.fs)
  | .brk=>(.one,s6q s.fs)
  | .noth=>(.one,[0])
theorem n6q (fs:List Fmg):nEq fs≠[]:=by cases fs<;>exact List.cons_ne_nil _ _
theorem kSq (p:Tm) (s:Rsg):rwS (eDq p s)=(.one,nEq s.fs):=by
  obtain ⟨aw,fs,ns,ub,res⟩:=s
  cases fs with
  | nil=>rfl
  | cons f r=>
    have e:∀ aw',(aw'=Aw.brk\/aw'=.prog)->rwS ⟨aw',⟨f.z,f.nm,f.ps++[p]⟩::r,ns,ub,none⟩=(.one,nEq (f::r)):=by
      rintro aw' (rfl | rfl)<;>(simp only [rwS,s6q,nEq,List.length_append,List.length_cons,List.length_nil];rw [show cGq f.z - (f.ps.length+(0+1))=cGq f.z - f.ps.length - 1 by omega])
    exact e _ (by split;exact .inl rfl;exact .inr rfl)
theorem w0q {fs:List Fmg} (h:∀ g∈fs,OkG g):∃ k r,s6q fs=(k+1)::r/\nEq fs=k::r:=by
  cases fs with
  | nil=>exact ⟨0,[],rfl,rfl⟩
  | cons f r=>
    obtain ⟨_,h2,_⟩:=h f (List.mem_cons_self ..)
    exact ⟨cGq f.z - f.ps.length - 1,nEq r,by rw [s6q,show cGq f.z - f.ps.length - 1+1=cGq f.z - f.ps.length by omega],rfl⟩
theorem sDq {s:Rsg} (g:GsG s) (x:Str):bIq (rwS s) x=(aWq s x).map rwS:=by
  obtain ⟨aw,fs,ns,ub,res⟩:=s
  obtain ⟨gn,g⟩:=g
  cases aw with
  | prog=>
    obtain ⟨g,rfl⟩:=g
    obtain ⟨k,r,e1,e2⟩:=w0q g
    have e:rwS ⟨.prog,fs,ns,ub,none⟩=(.one,(k+1)::r):=by rw [<- e1];rfl
    rw [e]
    simp only [bIq,aWq]
    by_cases c1:x = "("
    . rw [if_pos c1,if_pos c1,Option.map_some];simp only [rwS];rw [e2]
    . rw [if_neg c1,if_neg c1]
      by_cases c2:hMq x=true
      . rw [if_pos (.inl c2),if_pos c2,Option.map_some,kSq,e2]
      . rw [if_neg c2]
        by_cases c3:bHq x=true
        . rw [if_pos (.inr c3),if_pos c3]
          split
          . rw [Option.map_some,kSq,e2]
          . rw [Option.map_some,kSq,e2]
        . rw [if_neg c3,if_neg (by rintro (z | z);exact c2 z;exact c3 z)];rfl
  | word=>
    simp only [rwS,bIq,aWq]
    by_cases c:x∈words7
    . rw [if_pos c,if_pos c]
      by_cases c2:x = "way"
      . subst c2
        rw [if_pos rfl,if_pos rfl];rfl
      . rw [if_neg c2,if_neg c2];rfl
    . rw [if_neg c,if_neg c];rfl
  | name=>
    simp only [rwS,bIq,aWq]
    by_cases c:bHq x=true
    . rw [if_pos c,if_pos c];rfl
    . rw [if_neg c,if_neg c];rfl
  | brk=>
    obtain ⟨f,r,e,h1,h2,h3,h4,rfl⟩:=g
    simp only at e
    subst e
    have e:rwS ⟨.brk,f::r,ns,ub,none⟩=(.one,0::nEq r):=by simp only [rwS,s6q];rw [h2,Nat.sub_self]
    rw [e]
    simp only [bIq,aWq]
    by_cases c:x = ")"
    . rw [if_pos ⟨c,n6q r⟩,if_pos c,Option.map_some,kSq]
    . rw [if_neg (λ z=>c z.1),if_neg c];rfl
  | noth=>
    show (if x = ")"/\([]:List Nat)≠[] then _ else none)=none
    rw [if_neg (λ z=>z.2 rfl)]
def mIq:Wn × List Nat->List Str->Nat->Sum Nat (Wn × List Nat)
  | s,[],_=>.inr s
  | s,x::r,i=>match bIq s x with
    | some s'=>mIq s' r (i+1)
    | none=>.inl i
def endW (n:Nat):Sum Nat (Wn × List Nat)->Int
  | .inl i=>i
  | .inr s=>if s=(.one,[0]) then -1 else n
def dJq (ws:List Str):Int:=endW ws.length (mIq (.one,[1]) ws 0)
def lSq:ROut->Int
  | .text i=>i
  | _=>-1
theorem o7q:∀ (ws:List Str) (s:Rsg) (i:Nat),GsG s->(∀ j,i3q s (ws.map cL) i=.inl j->mIq (rwS s) ws i=.inl j)/\∀ s',i3q s (ws.map cL) i=.inr s'->mIq (rwS s) ws i=.inr (rwS s')/\GsG s'
  | [],s,i,g=>⟨(λ j e=>by cases e),λ s' e=>by cases e;exact ⟨rfl,g⟩⟩
  | x::r,s,i,g=>by
    have h:=sDq g x
    rw [List.map_cons,i3q,mIq,h]
    have ex:wS (cL x)=x:=rfl
    rw [ex]
    cases e:aWq s x with
    | none=>exact ⟨λ j e=>by cases e;rfl,λ s' e=>by cases e⟩
    | some s1=>exact o7q r s1 (i+1) (n2q e g)
theorem yRq {s:Rsg} (g:GsG s) (h:s.aw≠.noth):rwS s≠(.one,[0]):=by
  obtain ⟨aw,fs,ns,ub,res⟩:=s
  have two:∀ fs:List Fmg,fs≠[]->s6q fs≠[0]:=λ fs hf e=>by
    cases fs with
    | nil=>exact hf rfl
    | cons f r=>rw [s6q] at e;injection e with _ e;exact n6q r e
  cases aw with
  | prog=>
    intro e
    have e2:s6q fs=[0]:=congrArg Prod.snd e
    cases fs with
    | nil=>cases e2
    | cons f r=>exact two _ (List.cons_ne_nil _ _) e2
  | word=>intro e;cases (congrArg Prod.fst e:Wn.key=.one)
  | name=>intro e;cases (congrArg Prod.fst e:Wn.name=.one)
  | brk=>
    obtain ⟨_,f,r,e,_⟩:=g
    simp only at e
    subst e
    intro e
    exact two _ (List.cons_ne_nil _ _) (congrArg Prod.snd e)
  | noth=>exact absurd rfl h
theorem s9q:GsG e4q:=⟨rfl,λ _ h=>absurd h List.not_mem_nil,rfl⟩
theorem pJq (ws:List Str):lSq (qBq (ws.map cL))=dJq ws:=by
  obtain ⟨h1,h2⟩:=o7q ws e4q 0 s9q
  have e0:rwS e4q=(.one,[1]):=rfl
  rw [e0] at h1 h2
  unfold qBq dJq
  cases e:i3q e4q (ws.map cL) 0 with
  | inl i=>rw [h1 i e];rfl
  | inr s=>
    obtain ⟨e1,g⟩:=h2 s e
    rw [e1]
    simp only [endW]
    cases ea:s.aw with
    | noth=>
      have:rwS s=(.one,[0]):=by unfold rwS;rw [ea]
      rw [if_pos this]
      simp only
      cases s.unb<;>rfl
    | _=>rw [if_neg (yRq g (by rw [ea];exact Aw.noConfusion))];simp [lSq]
def Gw (x:Str):Prop:=Wd (cL x)/\x.length<=12
def Gws (ws:List Str):Prop:=∀ x∈ws,Gw x
def c8q (n:Nat):DSp:=λ ds G Q=>∃ (t:Tm) (l:Addr) (xs:List Str),ds=[t.enc,.ref l]/\G l=some (.lst (xs.map D.str))/\xs.length=5/\(∀ x∈xs,bHq x=true)/\(∃ w,t.cl w)/\t.dp < n/\t.sz<=100 ∧
  ∀ (p:Addr) (ws:List Str) G',Sub G G'->G p=none->G' p=some (.lst (ws.map D.str))->Gws ws->ws.length<=4 * t.sz->Q (.ref p) G'
def hHq:DSp:=λ ds G Q=>∃ a,ds=[.ref a]/\Fd G a/\∀ x G',Dw a G G'->Gw x->Q (.str x) G'
def d0q:DSp:=λ ds G Q=>∃ (a l:Addr) (ws:List Str),ds=[.ref a,.ref l]/\Fd G a/\l≠a/\G l=some (.lst (ws.map D.str))/\Gws ws/\ws.length<=400/\∀ (p:Addr) (ws':List Str) G',Dw a G G'->p≠a->G' p=some (.lst (ws'.map D.str))->Gws ws'->ws'.length<=ws.length+2->Q (.ref p) G'
def hDq:DSp:=λ ds G Q=>∃ z:Str,ds=[.str z]/\1<=z.length/\z.length<=1000/\Q (.bl (bHq z)) G
def jVq:DSp:=λ ds G Q=>∃ z:Str,ds=[.str z]/\1<=z.length/\z.length<=1000/\Q (.bl (hMq z)) G
def f7q:DSp:=λ ds G Q=>∃ (l:Addr) (ws:List Str),ds=[.ref l]/\G l=some (.lst (ws.map D.str))/\Gws ws/\ws.length<=400/\Q (.int (dJq ws)) G
def hRq:DSp:=λ ds G Q=>∃ z:Str,ds=[.str z]/\z.length<=6000/\(∀ x∈wds [] z.cps.toList,x.length<=1000)/\Q (.tup [.int (lSq (eEq z)),.bl true,.bl false,.bl true]) G
def isTx:ROut->Bool
  | .text _=>true
  | _=>false
def hTq:DSp:=λ ds G Q=>∃ z:Str,ds=[.str z]/\z.length<=6000/\(∀ x∈wds [] z.cps.toList,x.length<=1000)/\Q (.bl (isTx (eEq z))) G
def kJq:DSp:=λ ds G Q=>∃ (z:Str) (t:Tm),ds=[.str z]/\z.length<=6000/\(∀ x∈wds [] z.cps.toList,x.length<=1000)/\eEq z=.ok t/\Q t.enc G
theorem yQq {P:Program} {w:World} {K:PySem.W.Frag} {mg:Str->Option Value} {base:Heap} {k:Nat} {x:Str} {ps:List Str} {cT cN:Addr} (g:GotX P w K mg base k x ps (tBq K (eTq cT cN))):Got P w K mg base k x ps (aSq K kJq):=
  wHq g λ ds G Q ⟨z,t,e,h1,h2,h3,q⟩=>⟨z,e,h1,h2,(λ i e=>by rw [h3] at e;cases e),(λ i e=>by rw [h3] at e;cases e),λ u e=>by rw [h3] at e;cases e;exact q⟩
def gwB (x:Str):Bool:=Nat.ble x.length 12&&(cL x==[40]||cL x==[41]||(!(cL x).isEmpty&&(cL x).all λ c=>!(c==40)&&!(c==41)&&!(c==32)&&!(c==10)))
theorem p8q {x:Str} (h:gwB x=true):Gw x:=by
  unfold gwB at h
  rw [Bool.and_eq_true,Bool.or_eq_true,Bool.or_eq_true,Bool.and_eq_true] at h
  obtain ⟨h1,h2⟩:=h
  refine ⟨?_,Nat.le_of_ble_eq_true h1⟩
  rcases h2 with (h | h) | ⟨h,k⟩
  . exact .inl (eq_of_beq h)
  . exact .inr (.inl (eq_of_beq h))
  . refine .inr (.inr ⟨?_,λ c hc=>?_⟩)
    . intro e;rw [e] at h;cases h
    . have:=List.all_eq_true.mp k c hc
      simp at this
      omega
def aM3q (ds:List D):Bool:=ds.all λ d=>match d with
  | .str z=>gwB z
  | _=>false
theorem aE9q {ds:List D} {i:Int} {G:DV} {Q:DK} (h:aM3q ds=true) (h0:0<=i) (h1:i < ds.length) (k:∀ z:Str,Gw z->Q (.str z) G):atD ds i G Q:=by
  refine jXq h0 h1 λ d hd=>?_
  have:=List.all_eq_true.mp h d hd
  cases d with
  | str z=>exact k z (p8q this)
  | _=>cases this
theorem cYq {G G1:DV} {p1 p2:Addr} {xs ys:List D} {Q:DK} (h1:G1 p1=some (.lst xs)) (h2:G1 p2=some (.lst ys)) (hl:xs.length+ys.length<=200000) (s:Sub G G1) (q:∀ p,G p=none->Q (.ref p) (up G p (.lst (xs++ys)))):addD (.ref p1) (.ref p2) G1 λ d G'=>∃ G2,Sub G2 G'/\Q d G2:=
  b4q h1 (b4q h2 ⟨cOq hl,λ p hp=>⟨up G p _,Sub.put s,q p (s.none hp)⟩⟩)
theorem aRq (ws:List Str) (lo hi:Option Int):cut (ws.map D.str) lo hi=(cut ws lo hi).map D.str:=by
  unfold cut;rw [List.length_map,List.map_take,List.map_drop]
theorem bXq {ws:List Str} (h:Gws ws) (lo hi:Option Int):Gws (cut ws lo hi):=λ x hx=>h x (jPq hx)
theorem bZq {a b:List Str} (h:Gws a) (k:Gws b):Gws (a++b):=λ x hx=>by
  rcases List.mem_append.mp hx with z | z
  . exact h x z
  . exact k x z
theorem v5q {ws:List Str} {i:Int} (h0:0<=i) (h1:i<=ws.length):(cut ws none (some i)).length<=i.toNat:=by
  obtain ⟨n,rfl⟩:∃ n:Nat,i=n:=⟨i.toNat,by omega⟩
  rw [ySq (by omega),List.length_take];omega
theorem dHq {ws:List Str} {i:Int} (h0:0<=i):(cut ws (some i) none).length<=ws.length - i.toNat:=by
  obtain ⟨n,rfl⟩:∃ n:Nat,i=n:=⟨i.toNat,by omega⟩
  by_cases c:n<=ws.length
  . rw [q1q c,List.length_drop];omega
  . unfold cut HT.sIx
    simp only [List.length_take,List.length_drop]
    split<;>omega
theorem sOq {ws:List Str} {i:Int} (h0:0<=i) (h1:i<=ws.length):(cut ws (some i) (some (i+2))).length<=2:=by
  obtain ⟨n,rfl⟩:∃ n:Nat,i=n:=⟨i.toNat,by omega⟩
  unfold cut HT.sIx
  simp only [List.length_take,List.length_drop]
  repeat (first | omega | split)
theorem tCq {g:List Nat} (hg:Bls g) (h0:g≠[]):∀ {ps:List (List Nat)},(∀ p∈ps,Wd p)->wds [] (jn g ps)=ps
  | [],_=>rfl
  | [p],h=>by
    have:=lBq (w:=p) (r:=[]) (h p (by simp)) (.inl (.inl rfl))
    rw [List.append_nil] at this
    rw [jn,this];rfl
  | p::q::ps,h=>by
    obtain ⟨c,t,rfl⟩:∃ c t,g=c::t:=by cases g with
      | nil=>exact absurd rfl h0
      | cons c t=>exact ⟨c,t,rfl⟩
    have hc:=hg c (by simp)
    rw [jn,lBq (r:=c::t++jn (c::t) (q::ps)) (h p (by simp)) (.inl (.inr ⟨c,t++jn (c::t) (q::ps),rfl,by omega⟩)),nXq _ hg,tCq hg h0 λ z hz=>h z (List.mem_cons_of_mem _ hz)]
theorem tAq {g:List Nat}:∀ {ps:List (List Nat)},g.length<=3->(∀ p∈ps,p.length<=12)->(jn g ps).length<=15 * ps.length
  | [],_,_=>Nat.le_refl _
  | [p],_,h=>by have:=h p (by simp);rw [jn];simp;omega
  | p::q::ps,hg,h=>by
    have:=tAq (ps:=q::ps) hg λ z hz=>h z (List.mem_cons_of_mem _ hz)
    have:=h p (by simp)
    rw [jn]
    simp only [List.length_append,List.length_cons] at *
    omega
def pVq (g:Str):Bool:=(cL g).all (λ c=>c==32||c==10)&&!(cL g).isEmpty&&Nat.ble g.length 3
theorem pIq {g:Str} {ws:List Str} (hs:pVq g=true) (h:Gws ws):wds [] (Txt.join g ws).cps.toList=ws.map cL/\(Txt.join g ws).length<=15 * ws.length:=by
  unfold pVq at hs
  rw [Bool.and_eq_true,Bool.and_eq_true] at hs
  obtain ⟨⟨h1,h2⟩,h3⟩:=hs
  have hb:Bls g.cps.toList:=λ c hc=>by have:=List.all_eq_true.mp h1 c hc;simpa using this
  have h0:g.cps.toList≠[]:=by intro e;rw [show cL g=g.cps.toList from rfl,e] at h2;cases h2
  have e:(Txt.join g ws).cps.toList=jn g.cps.toList (ws.map cL):=by rw [eq_of_beq (PyProof.Rows.join_plain_closes g ws)];exact gXq g ws
  have hw:∀ p∈ws.map cL,Wd p:=λ p hp=>by obtain ⟨x,hx,rfl⟩:=List.mem_map.mp hp;exact (h x hx).1
  have hl:∀ p∈ws.map cL,p.length<=12:=λ p hp=>by obtain ⟨x,hx,rfl⟩:=List.mem_map.mp hp;exact (h x hx).2
  have h3':g.cps.toList.length<=3:=Nat.le_of_ble_eq_true h3
  refine ⟨by rw [e,tCq hb h0 hw],?_⟩
  have:=tAq h3' hl
  rw [<- e,List.length_map] at this
  exact this
theorem sRq:eEq "(way x x)" = .ok (.way (.name 0)):=by
  have hx:bHq ("x" : Str)=true:=by decide +kernel
  have e:wds [] (("(way x x)" : String):Str).cps.toList=([("(" : Str),("way" : Str),("x" : Str),("x" : Str),(")" : Str)]).map cL:=by decide +kernel
  unfold eEq
  rw [e]
  have:=w5q (Wr.way (xs:=[]) (t:=.name 0) "x" hx (Wr.nin 0 "x" hx (List.mem_cons_self ..)))
  exact this
theorem mTq {x:Str} (h:bHq x=true):Gw x:=by
  obtain ⟨_,k,_⟩:=sXq (Wr.nout (xs:=[]) 0 x h List.not_mem_nil)
  exact k x (List.mem_singleton.mpr rfl)
theorem aD2q {k:Int} (h:k.natAbs < 10 ^ 9):Gw (cHq k):=by
  obtain ⟨_,z,_⟩:=sXq (Wr.whole (xs:=[]) k h)
  exact z _ (List.mem_singleton.mpr rfl)
theorem vGq {x:Str} (h:x∈words7):Gw x:=p8q ((show ∀ x∈words7,gwB x=true by decide +kernel) x h)
theorem rot5 {xs:List Str} (h:xs.length=5):(cut xs (some 1) none++cut xs none (some 1)).length=5:=by
  match xs,h with
  | [a,b,c,d,e],_=>rfl
theorem w2q {k:Int} (h:k.natAbs < 10 ^ 9):k.natAbs.log2 < 1920:=by
  by_cases e:k.natAbs=0
  . rw [e];decide
  . have:=(Nat.log2_lt e (k:=40)).mpr (Nat.lt_trans h (by decide));omega
def tab15:List (Str × Int):=[("way", 1),("give", 2),("pair", 2),("first", 1),("second", 1),("plus", 2),("look", 3)]
theorem jTq (x:Str):d4q (kvD tab15) (.inr x)=if x∈words7 then some (.int (cGq x)) else none:=by
  rw [oFq]
  by_cases h:x∈words7
  . rw [if_pos h]
    have key:∀ x∈words7,tab15.find? (λ p=>decide (p.1=x))=some (x,(cGq x:Int)):=by decide +kernel
    rw [key x h];rfl
  . rw [if_neg h]
    have key:∀ p∈tab15,p.1∈words7:=by decide +kernel
    rw [List.find?_eq_none.mpr λ p hp e=>h (by have:=key p hp;rwa [of_decide_eq_true e] at this)];rfl
theorem aB4q {ws:List Str} {i:Nat} {d:D} (h:(enL (ws.map D.str))[i]?=some d):∃ x,ws[i]?=some x/\d=.tup [.int i,.str x]/\ws.drop i=x::ws.drop (i+1):=by
  unfold enL at h
  rw [List.getElem?_map,List.getElem?_zipIdx,List.getElem?_map] at h
  cases e:ws[i]? with
  | none=>rw [e] at h;cases h
  | some x=>
    rw [e] at h
    simp at h
    refine ⟨x,rfl,h.symm,?_⟩
    obtain ⟨hi,e⟩:=List.getElem?_eq_some_iff.mp e
    rw [List.drop_eq_getElem_cons hi,e]
def lfD (lf:List Nat):List D:=lf.reverse.map λ n:Nat=>D.int (n:Int)
theorem bTq (n:Nat) (r:List Nat):lfD (n::r)=lfD r++[.int (n:Int)]:=by simp [lfD]
theorem nFq (r:List Nat):(lfD r).length=r.length:=by simp [lfD]
theorem gMq (xs:List D) (y:D):L2.ixN (xs++[y]).length (-1)=some xs.length:=by
  unfold L2.ixN
  rw [if_neg (by decide),List.length_append,List.length_singleton,if_pos (by omega)]
  rw [show ((-1:Int)+((xs.length+1:Nat):Int)).toNat=xs.length by omega]
theorem eUq (xs:List D) (y d:D):(xs++[y]).set xs.length d=xs++[d]:=by simp
theorem aL1q:∀ lf:List Nat,gGq (lfD lf) [.int 0]=decide (lf=[0])
  | []=>rfl
  | [n]=>by
    show (((n:Int)==0)&&true)=_
    rw [Bool.and_true,Bool.eq_iff_iff];simp
  | n::m::r=>by
    rw [bTq,bTq]
    have e:decide (n::m::r=[0])=false:=by simp
    rw [e]
    have nil:∀ (a:D) (b:List D),gGq (a::b) []=false:=λ _ _=>rfl
    cases lfD r with
    | nil=>show (_&&gGq [.int (n:Int)] [])=false;rw [nil,Bool.and_false]
    | cons a b=>
      show (_&&gGq (b++[.int (m:Int)]++[.int (n:Int)]) [])=false
      cases b with
      | nil=>show (_&&gGq (_::_) [])=false;rw [nil,Bool.and_false]
      | cons c d=>show (_&&gGq (_::_) [])=false;rw [nil,Bool.and_false]
theorem vLq (lf:List Nat):cVq (lfD lf)=true:=by
  unfold lfD
  induction lf.reverse with
  | nil=>rfl
  | cons n r ih=>rw [List.map_cons];simp only [cVq,D.data,Bool.true_and];exact ih
theorem aL8q (lf:List Nat):jJq (lfD lf)<=150:=by
  have:jJq (lfD lf)=0:=by
    unfold lfD
    induction lf.reverse with
    | nil=>rfl
    | cons n r ih=>rw [List.map_cons];simp only [jJq,D.dp];rw [ih];rfl
  omega
theorem zYq {x:Str} (h:Gw x):1<=x.length:=by
  have e:(cL x).length=x.length:=rfl
  rcases h.1 with z | z | ⟨z,_⟩
  . rw [z] at e;simp at e;omega
  . rw [z] at e;simp at e;omega
  . cases k:cL x with
    | nil=>exact absurd k z
    | cons a b=>rw [k] at e;simp at e;omega
theorem pKq:∀ {ws:List Str},Gws ws->(ws.map (·.length)).sum<=12 * ws.length
  | [],_=>Nat.le_refl _
  | x::r,h=>by
    have h1:=(h x (List.mem_cons_self ..)).2
    have h2:=pKq λ y hy=>h y (List.mem_cons_of_mem x hy)
    rw [List.map_cons,List.sum_cons,List.length_cons];omega
theorem vAq {o:ROut} (h:0<=lSq o):isTx o=true:=by
  cases o with
  | text i=>rfl
  | name x=>exact absurd (show (0:Int)<=-1 from h) (by decide)
  | ok t=>exact absurd (show (0:Int)<=-1 from h) (by decide)
theorem oAq:∀ x∈wds [] (("(way x x)" : String):Str).cps.toList,x.length<=1000:=by decide +kernel
theorem uMq:(("(way x x)" : String):Str).length<=6000:=by decide +kernel
def duD (i:Int):D:=.tup [.int i,.bl true,.bl false,.bl true]
theorem aN3q (i:Int):(duD i).dp<=150:=by simp [duD,D.dp,jJq]
theorem seps:∀ g∈([" ", "\n", "  ", " \n "]:List Str),pVq g=true:=by decide +kernel
end L3
namespace KB
open PySem L2
def top (i:Nat):Stmt:=PySem.Challenge.pw_kindbags_k15_texts_refused.main.body.getD i (.Pass ⟨0,0,0,0⟩)
structure Blt (mg:Str->Option Value):Prop where
  len:mg "len" = none
  isinstance:mg "isinstance" = none
  range:mg "range" = none
  int:mg "int" = none
  bool:mg "bool" = none
  str:mg "str" = none
  tuple:mg "tuple" = none
  list:mg "list" = none
  zip:mg "zip" = none
  sorted:mg "sorted" = none
  all:mg "all" = none
  max:mg "max" = none
  reversed:mg "reversed" = none
  enumerate:mg "enumerate" = none
  ValueError:mg "ValueError" = none
end KB
namespace KB
open PySem
abbrev hWq:List Str:=["self", "at"]
abbrev h8q:List Str:=["self", "name"]
abbrev fNq:List Str:=["text"]
abbrev e8q:List Str:=["text"]
abbrev fOq:List Str:=["text"]
abbrev fZq:List Str:=["text", "most"]
abbrev e3q:List Str:=["text", "signs"]
abbrev g9q:List Str:=["text"]
abbrev eCq:List Str:=["self"]
abbrev dZq:List Str:=["self", "word"]
abbrev e1q:List Str:=["self", "word"]
abbrev eBq:List Str:=["self", "word"]
abbrev e6q:List Str:=["self", "word"]
abbrev f4q:List Str:=["self", "word"]
abbrev fIq:List Str:=["self", "name"]
abbrev eSq:List Str:=["self", "program"]
abbrev fTq:List Str:=["_law_script", "_law_k"]
abbrev g2q:List Str:=["_law_feed_here", "_law_many"]
abbrev f8q:List Str:=["_law_feed_here"]
abbrev g3q:List Str:=["_law_feed_here", "_law_ways"]
abbrev iCq:List Str:=["_law_feed_here", "_law_ways", "_law_room", "_law_deep"]
abbrev e5q:List Str:=["_law_program", "_law_names"]
abbrev fCq:List Str:=["_law_feed_here"]
abbrev dAq:List Str:=["_law_feed_here", "_law_words_here"]
abbrev fKq:List Str:=["_law_text", "_law_signs"]
abbrev f2q:List Str:=["_law_word_here"]
abbrev g8q:List Str:=["_law_word_here"]
abbrev fAq:List Str:=["_law_words_here"]
abbrev gAq:List Str:=["_law_text"]
abbrev eWq:List Str:=["_law_text"]
end KB
namespace KB
open PySem L2 L3
section
variable {P:Program} {w:World} {K:PySem.W.Frag} {mg:Str->Option Value} {base:Heap} {f:Addr} {fd:FuncData}
set_option maxHeartbeats 4000000
abbrev jLq:Stmt:=top 18
theorem sc_take:FnScope ["_law_feed_here", "_law_many", "_law_digit", "_law_one"] ["_law_feed_here", "_law_many"] (a6q jLq):=⟨rfl,rfl,rfl,by decide +kernel,rfl,by decide +kernel,by decide +kernel⟩
theorem wRq (F:Fun K "_law_take" "_law_take" jLq f fd):FnOk P w K mg base CX0 1 f fd ["_law_feed_here", "_law_many"] (aSq K cWq):=by
  refine okD (k:=0) F sc_take (λ ds G DQ h=>?_) (λ cdv A outer s H E hr ds G DQ h=>?_)
  . unfold cWq at h;split at h
    . rfl
    . exact h.elim
  unfold cWq at h;split at h
  case h_2=>exact h.elim
  next a m=>
  obtain ⟨⟨x,y,hF⟩,h0,h1,q⟩:=h
  refine ⟨_,(a5q (aVq (aHq j7q (bBq aix (a1q 0) a3q (λ _ _=>rfl)) a3q (aGq _)) (a5q (aKq (k:=2) sc_take.nd rfl (Or.inl rfl) (aJq bPq (bBq aix (a1q 0) a3q (λ _ _=>rfl)) (a1q 1)))
      (a5q (nNq (aJq lHq (bBq aix (a1q 0) a3q (λ _ _=>rfl)) (a1q 1)) (mOq (a1q 0) a3q))
      (a9q (aFq (a1q 2))))) aPq)
      (a5q (aKq (k:=3) sc_take.nd rfl (Or.inl rfl) (aJq bPq (aJq cMq (bBq aix (a1q 0) a3q (λ _ _=>rfl)) a3q) a3q))
      (a5q (nNq (aJq aOq (aJq bPq (aJq aOq (aJq cMq (a1q 3) a3q) a3q) a3q) a3q) (mOq (a1q 0) a3q))
      (a9q (aFq (aJq bPq (aJq lHq (aJq aOq (aJq cMq (a1q 3) a3q) (bBq aix (a1q 0) a3q (λ _ _=>rfl))) a3q) (a1q 1))))))),?_⟩
  refine aIq hF ⟨λ c=>?_,λ c=>?_⟩
  . refine aIq hF ⟨h0,aIq hF ⟨⟨h0,by omega⟩,b4q hF ⟨0,rfl,Dr.of (q _ _ .mk (Int.emod_nonneg _ (by omega)) (Int.emod_lt_of_pos _ h0))⟩⟩⟩
  . refine aIq hF ⟨.inr ⟨by decide,by decide⟩,by simp,.inr ⟨by decide,by decide⟩,by simp,b4q hF ⟨1,rfl,.inr ⟨by decide,by decide⟩,aIq a4q ⟨⟨by decide,by decide⟩,h0,Dr.of (q _ _ .mk (Int.emod_nonneg _ (by omega)) (Int.emod_lt_of_pos _ h0))⟩⟩⟩
abbrev jMq:Stmt:=top 17
theorem sc_feed:FnScope ["_law_script", "_law_k", "_law_cell", "_law_own"] ["_law_script", "_law_k"] (a6q jMq):=⟨rfl,rfl,rfl,by decide +kernel,rfl,by decide +kernel,by decide +kernel⟩
theorem v0q (B:Blt mg) (F:Fun K "_law_feed" "_law_feed" jMq f fd):FnOk P w K mg base CX0 1 f fd ["_law_script", "_law_k"] (aSq K iSq):=by
  refine okD (k:=0) F sc_feed (λ ds G DQ h=>?_) (λ cdv A outer s H E hr ds G DQ h=>?_)
  . unfold iSq at h;split at h
    . rfl
    . exact h.elim
  unfold iSq at h;split at h
  case h_2=>exact h.elim
  next ss k=>
  obtain ⟨ns,rfl,hl,h0,h1,q⟩:=h
  have fin:∀ x y:Int,∀ p,G p=none->Dr DQ (.ref p) (up G p (fed x y)):=λ x y p hp=>Dr.of (q p x y hp)
  have at_ok:∀ j:Int,0<=j->j < ns.length->∃ v,atI (ns.map D.int) j=some (.int v):=λ j j0 j1=>by
    refine ⟨ns[j.toNat],?_⟩
    have e:=cQq (xs:=ns.map D.int) (j:=j.toNat) (v:=D.int ns[j.toNat]) (by simp [show j.toNat < ns.length by omega])
    rwa [show ((j.toNat:Nat):Int)=j by omega] at e
  refine ⟨_,(a5q (aKq (k:=2) sc_feed.nd rfl (Or.inl rfl) (aJq aOq (aJq cMq a3q (a1q 1)) a3q))
      (a5q (aVq (aHq cIq (a1q 1) (aMq aUq rfl B.len PySem.boot_len (a0q (a1q 0) a2q)) (aGq _)) (a9q (aKq (k:=2) sc_feed.nd rfl (Or.inl rfl) (bBq aix (a1q 0) (a1q 1) (λ _ _=>rfl)))) (a9q (aVq (aHq j7q (aMq aUq rfl B.len PySem.boot_len (a0q (a1q 0) a2q)) a3q (aGq _)) (a9q (aKq (k:=2) sc_feed.nd rfl (Or.inl rfl) (aJq aOq (aJq cMq (aJq bPq (bBq aix (a1q 0) (aJq bPq (a1q 1) (aMq aUq rfl B.len PySem.boot_len (a0q (a1q 0) a2q))) (λ _ _=>rfl)) a3q) a3q) (aJq cMq a3q (a1q 1))))) aPq)))
      (a5q (aKq (k:=3) sc_feed.nd rfl (Or.inl rfl) a3q)
      (a5q (aVq (aHq aC3q (a1q 2) (aJq wAq a3q a3q) (aGq _)) (a9q (aKq (k:=3) sc_feed.nd rfl (Or.inl rfl) (a1q 2))) aPq)
      (a9q (aFq (bCq (a0q (a1q 3) (a0q (aJq aOq (aJq bPq (aJq aOq (aJq cMq (aJq bPq (a1q 2) a3q) a3q) (aJq cMq a3q (a1q 1))) a3q) a3q) a2q))))))))),?_⟩
  refine ⟨.inl ⟨by decide,by decide⟩,⟨λ c=>?_,λ c=>?_⟩⟩
  . have c':k < ns.length:=by simpa using c
    obtain ⟨v,hv⟩:=at_ok k h0 c'
    refine (t7q hv ⟨⟨by decide,by decide,by decide⟩,λ c=>?_,λ c=>?_⟩)
    . exact ⟨by simp,.inr ⟨by decide,by decide⟩,.inl ⟨by decide,by decide⟩,by simp,λ p hp=>fin _ _ p hp⟩
    . exact ⟨by simp,.inr ⟨by decide,by decide⟩,.inl ⟨by decide,by decide⟩,by simp,λ p hp=>fin _ _ p hp⟩
  . refine ⟨λ c=>?_,λ c=>?_⟩
    . have c':0 < ns.length:=by
        have:(0:Int) < (ns.map D.int).length:=by simpa using c
        simpa using this
      obtain ⟨v,hv⟩:=at_ok (k % (ns.map D.int).length) (Int.emod_nonneg _ (show ((ns.map D.int).length:Int)≠0 by rw [List.length_map];omega)) (by have:=Int.emod_lt_of_pos k (show (0:Int) < (ns.map D.int).length by simpa using c');simpa using this)
      refine ⟨by simpa using c',?_⟩
      refine (t7q hv ⟨by simp,.inr ⟨by decide,by decide⟩,.inl ⟨by decide,by decide⟩,⟨by decide,by decide,by decide⟩,λ c=>?_,λ c=>?_⟩)
      . exact ⟨by simp,.inr ⟨by decide,by decide⟩,.inl ⟨by decide,by decide⟩,by simp,λ p hp=>fin _ _ p hp⟩
      . exact ⟨by simp,.inr ⟨by decide,by decide⟩,.inl ⟨by decide,by decide⟩,by simp,λ p hp=>fin _ _ p hp⟩
    . refine ⟨⟨by decide,by decide,by decide⟩,λ c=>?_,λ c=>?_⟩
      . exact ⟨by simp,.inr ⟨by decide,by decide⟩,.inl ⟨by decide,by decide⟩,by simp,λ p hp=>fin _ _ p hp⟩
      . exact ⟨by simp,.inr ⟨by decide,by decide⟩,.inl ⟨by decide,by decide⟩,by simp,λ p hp=>fin _ _ p hp⟩
abbrev eVq:Stmt:=top 12
theorem pGq:FnScope ["text", "signs"] ["text", "signs"] (a6q eVq):=⟨rfl,rfl,rfl,by decide +kernel,rfl,by decide +kernel,by decide +kernel⟩
theorem pBq (B:Blt mg) (F:Fun K "made_of" "made_of" eVq f fd):FnOk P w K mg base CX0 1 f fd ["text", "signs"] (aSq K bVq):=by
  refine okD (k:=0) F pGq (λ ds G DQ h=>?_) (λ cdv A outer s H E hr ds G DQ h=>?_)
  . obtain ⟨_,_,rfl,_⟩:=h;rfl
  obtain ⟨z,y,rfl,hz,q⟩:=h
  refine ⟨_,(a9q (aFq (c9q (aMq (oVq rfl) rfl B.all PyProof.Rows.boot_all (a0q (uAq rfl (CompOk.of (N':=["sign", "signs"]) (nt:=1) (cap:=[1]) rfl (by kernel_rfl)) (gHq (k:=0) (by decide)) (t6q (a1q 0)) (λ _ _ _ _=>(bYq (k:=0) (show List.Nodup (["sign", "signs"]:List Str) by decide +kernel) rfl (Or.inl rfl))) (λ _ _ _ _=>(dDq tJq (a1q 0) (a1q 1) (by with_unfolding_all rfl)))) a2q))))),?_⟩
  refine s7q z.cps.toList (λ c=>.str ⟨#[c]⟩) (λ c=>.bl (decide (c∈y.cps.toList))) rfl (cLq ?_) trivial (λ c _ R hR=>?_) (λ p hp=>?_)
  . have:z.cps.toList.length=z.length:=rfl
    omega
  . show R (.bl (false ^^ !(Builtin.Str.occurrences y ⟨#[c]⟩ 0 y.length 1).isEmpty)) G
    rw [pZq,Bool.false_xor];exact hR
  . refine aIq a4q ⟨z.cps.toList.map λ c=>decide (c∈y.cps.toList),?_,G,Sub.new (Sub.refl _) hp,Dr.of ?_⟩
    . rw [show (z.cps.toList.map λ c=>D.bl (decide (c∈y.cps.toList)))=(z.cps.toList.map λ c=>decide (c∈y.cps.toList)).map D.bl by simp];exact eYq _
    . rw [List.all_map];exact q
abbrev eMq:Stmt:=top 9
theorem q3q:FnScope ["text"] ["text"] (a6q eMq):=⟨rfl,rfl,rfl,by decide +kernel,rfl,by decide +kernel,by decide +kernel⟩
theorem n5q {aI:Addr} (B:Blt mg) {tL:Tok} (m_LETTERS:mg "LETTERS" = some (.str letters tL)) (m_INNER_COUNTS:mg "INNER_COUNTS" = some (.ref aI)) (T_INNER_COUNTS:KTabD K w aI oOq) (g_madeof:Got P w K mg base 1 "made_of" ["text", "signs"] (aSq K bVq)) (F:Fun K "is_name" "is_name" eMq f fd):FnOk P w K mg base CX0 2 f fd ["text"] (aSq K kWq):=by
  refine okD (k:=1) F q3q (λ ds G DQ h=>?_) (λ cdv A outer s H E hr ds G DQ h=>?_)
  . obtain ⟨_,rfl,_⟩:=h;rfl
  obtain ⟨z,rfl,hz,q⟩:=h
  refine ⟨_,(a9q (aFq (lMq (qQq g5q g5q a3q (aMq aUq rfl B.len PySem.boot_len (a0q (a1q 0) a2q)) a3q) (lMq (aDq g_madeof hr (by omega) rfl (a0q (a1q 0) (a0q (cNq (d:=.str _) (v:=.str _) rfl m_LETTERS ⟨_,rfl⟩ (λ _=>rfl)) a2q))) (g4q (dDq (gBq T_INNER_COUNTS) (a1q 0) (cNq (d:=.ref _) (v:=.ref _) rfl m_INNER_COUNTS rfl (λ _=>rfl)) (by with_unfolding_all rfl))))))),?_⟩
  unfold bHq at q
  refine ⟨cOq (by omega),?_⟩
  refine ⟨λ c1=>⟨λ c2=>⟨z,letters,rfl,hz,⟨λ c3=>⟨rfl,Dr.of ?_⟩,λ c3=>Dr.of ?_⟩⟩,λ c2=>Dr.of ?_⟩,λ c1=>⟨λ c2=>noFT c2,λ _=>Dr.of ?_⟩⟩
  . rw [c1,c2,c3,<- i8q] at q;exact q
  . rw [c1,c2,c3] at q;exact q
  . rw [c1,c2] at q;exact q
  . rw [c1] at q;exact q
abbrev jDq:Stmt:=top 11
theorem sc_iswt:FnScope ["text", "most", "figures"] ["text", "most"] (a6q jDq):=⟨rfl,rfl,rfl,by decide +kernel,rfl,by decide +kernel,by decide +kernel⟩
theorem v4q (B:Blt mg) {tF:Tok} (m_FIGURES:mg "FIGURES" = some (.str figs tF)) (g_madeof:Got P w K mg base 1 "made_of" ["text", "signs"] (aSq K bVq)) (F:Fun K "is_whole_text" "is_whole_text" jDq f fd):FnOk P w K mg base CX0 2 f fd ["text", "most"] (aSq K hBq):=by
  refine okD (k:=1) F sc_iswt (λ ds G DQ h=>?_) (λ cdv A outer s H E hr ds G DQ h=>?_)
  . obtain ⟨_,rfl,_⟩:=h;rfl
  obtain ⟨z,rfl,hz,q⟩:=h
  refine ⟨_,(a5q (aKq (k:=2) sc_iswt.nd rfl (Or.inl rfl) (kNq (bMq (fLq PySem.F.plainAttrs_str PySem.F.slot_str_startswith PySem.F.type_str_startswith cXq (a1q 0) (a0q a7q a2q))) (b1q aslS (a1q 0) (b7q a3q) bGq) (a1q 0)))
      (a5q (aVq (dXq (AW.at (iHq (l4q g5q g5q a3q (aMq aUq rfl B.len PySem.boot_len (a0q (a1q 2) a2q)) (a1q 1)) (h0q (bMq (aDq g_madeof hr (by omega) rfl (a0q (a1q 2) (a0q (cNq (d:=.str _) (v:=.str _) rfl m_FIGURES ⟨_,rfl⟩ (λ _=>rfl)) a2q)))))))) (a9q (aFq bRq)) aPq)
      (a9q (aFq (u1q (oMq (fLq PySem.F.plainAttrs_str PySem.F.slot_str_startswith PySem.F.type_str_startswith cXq (a1q 2) (a0q a7q a2q))) (g4q (dDq (aXq (aZq hr)) (a1q 0) a7q (aGq _)))))))),?_⟩
  have hbl:=oHq z
  unfold hMq at q
  refine ⟨trivial,⟨λ hs=>⟨cOq (by omega),?_⟩,λ hs=>?_⟩⟩
  . rw [show Txt.slice z (some 1) none=bare z from (if_pos hs).symm]
    generalize bare z=y at q hbl ⊢
    refine ⟨cOq (by omega),⟨λ c1=>⟨λ c2=>⟨y,figs,rfl,by omega,⟨λ c3=>Dr.of ?_,λ c3=>⟨trivial,⟨λ c4=>Dr.of ?_,λ c4=>Dr.of ?_⟩⟩⟩⟩,λ c2=>⟨λ _=>Dr.of ?_,λ c=>qAq c⟩⟩,λ c1=>⟨λ c=>noFT c,λ _=>⟨λ _=>Dr.of ?_,λ c=>qAq c⟩⟩⟩⟩
    . rw [c1,c2,show bSq y figs=false by simpa using c3] at q;exact q
    . rw [c1,c2,show bSq y figs=true by simpa using c3,c4] at q;exact q
    . rw [c1,c2,show bSq y figs=true by simpa using c3,c4] at q;exact q
    . rw [c1,c2] at q;exact q
    . rw [c1] at q;exact q
  . rw [show bare z=z from if_neg (by rw [hs];decide)] at q
    refine ⟨cOq (by omega),⟨λ c1=>⟨λ c2=>⟨z,figs,rfl,by omega,⟨λ c3=>Dr.of ?_,λ c3=>⟨trivial,⟨λ c4=>Dr.of ?_,λ c4=>Dr.of ?_⟩⟩⟩⟩,λ c2=>⟨λ _=>Dr.of ?_,λ c=>qAq c⟩⟩,λ c1=>⟨λ c=>noFT c,λ _=>⟨λ _=>Dr.of ?_,λ c=>qAq c⟩⟩⟩⟩
    . rw [c1,c2,show bSq z figs=false by simpa using c3] at q;exact q
    . rw [c1,c2,show bSq z figs=true by simpa using c3,c4] at q;exact q
    . rw [c1,c2,show bSq z figs=true by simpa using c3,c4] at q;exact q
    . rw [c1,c2] at q;exact q
    . rw [c1] at q;exact q
abbrev gPq:Stmt:=top 10
theorem s8q:FnScope ["text"] ["text"] (a6q gPq):=⟨rfl,rfl,rfl,by decide +kernel,rfl,by decide +kernel,by decide +kernel⟩
theorem rIq (g_iswt:Got P w K mg base 2 "is_whole_text" ["text", "most"] (aSq K hBq)) (F:Fun K "is_figures" "is_figures" gPq f fd):FnOk P w K mg base CX0 3 f fd ["text"] (aSq K uIq):=by
  refine okD (k:=2) F s8q (λ ds G DQ h=>?_) (λ cdv A outer s H E hr ds G DQ h=>?_)
  . obtain ⟨_,rfl,_⟩:=h;rfl
  obtain ⟨z,rfl,hz,q⟩:=h
  exact ⟨_,(a9q (aFq (aDq g_iswt hr (by omega) rfl (a0q (a1q 0) (a0q a3q a2q))))),z,rfl,hz,Dr.of q⟩
abbrev gRq:Stmt:=top 25
theorem sc_allin:FnScope ["_law_text", "_law_signs", "_law_sign"] ["_law_text", "_law_signs"] (a6q gRq):=⟨rfl,rfl,rfl,by decide +kernel,rfl,by decide +kernel,by decide +kernel⟩
theorem sAq (F:Fun K "_law_all_in" "_law_all_in" gRq f fd):FnOk P w K mg base CX0 1 f fd ["_law_text", "_law_signs"] (aSq K bVq):=by
  refine okD (k:=0) F sc_allin (λ ds G DQ h=>?_) (λ cdv A outer s H E hr ds G DQ h=>?_)
  . obtain ⟨_,_,rfl,_⟩:=h;rfl
  obtain ⟨z,y,rfl,hz,q⟩:=h
  refine ⟨_,(a5q (kVq PassesOwn.never rfl (t6q (a1q 0)) (bYq (k:=2) sc_allin.nd rfl (Or.inl rfl)) (a9q (aVq (aHq mRq (a1q 2) (a1q 1) (by with_unfolding_all rfl)) (a9q (aFq bRq)) aPq)))
      (a9q (aFq bRq))),?_⟩
  refine ⟨λ i ρ G'=>∃ o2:Option D,ρ=[some (.str z),some (.str y),o2]/\G=G'/\∀ c∈z.cps.toList.take i,c∈y.cps.toList,⟨_,rfl,rfl,λ c hc=>by cases hc⟩,λ _ _ _ _ _=>trivial,?_,?_⟩
  . rintro i d ρ G' hd ⟨o2,rfl,rfl,hI⟩
    have hd':(dKq z)[i]?=some d:=hd
    unfold dKq at hd'
    rw [List.getElem?_map] at hd'
    cases hc:z.cps.toList[i]? with
    | none=>rw [hc] at hd';cases hd'
    | some c=>
      rw [hc] at hd';cases hd'
      refine ⟨λ c1=>?_,λ c1=>?_⟩
      . have c2:(true ^^ !(Builtin.Str.occurrences y ⟨#[c]⟩ 0 y.length 1).isEmpty)=true:=c1
        rw [pZq] at c2
        have c3:¬ c∈y.cps.toList:=by simpa using c2
        have e:bSq z y=false:=by
          unfold bSq
          rw [List.all_eq_false]
          exact ⟨c,List.mem_of_getElem? hc,by simpa using c3⟩
        rw [e] at q
        exact Dr.of q
      . have c2:(true ^^ !(Builtin.Str.occurrences y ⟨#[c]⟩ 0 y.length 1).isEmpty)=false:=c1
        rw [pZq] at c2
        have c3:c∈y.cps.toList:=by simpa using c2
        refine Wk.of ⟨some (.str ⟨#[c]⟩),rfl,rfl,λ b hb=>?_⟩
        rw [List.take_add_one,hc,Option.toList_some] at hb
        rcases List.mem_append.mp hb with hb | hb
        . exact hI b hb
        . simp at hb;subst hb;exact c3
  . rintro ρ G' ⟨o2,rfl,rfl,hI⟩
    rw [show (⟨dKq z,_⟩:DIt).items.length=z.cps.toList.length from List.length_map _,List.take_length] at hI
    have e:bSq z y=true:=by
      unfold bSq
      rw [List.all_eq_true]
      exact λ c hc=>by simpa using hI c hc
    rw [e] at q
    exact Dr.of q
abbrev h2q:Stmt:=top 8
theorem sc_words:FnScope ["text", "spaced"] ["text"] (a6q h2q):=⟨rfl,rfl,rfl,by decide +kernel,rfl,by decide +kernel,by decide +kernel⟩
theorem s0q (B:Blt mg) (F:Fun K "words_of" "words_of" h2q f fd):FnOk P w K mg base CX0 1 f fd ["text"] (aSq K i0q):=by
  refine okDT (k:=0) F sc_words (by decide +kernel) (λ _=>rfl) rfl (λ ds G DQ h=>?_) (λ cdv A outer s H E hr ds G DQ h=>?_)
  . obtain ⟨_,rfl,_⟩:=h;rfl
  obtain ⟨z,rfl,hz,q⟩:=h
  refine ⟨_,(uEq (hFq (hFq (hFq (yAq (a1q 0))))) (bYq (k:=1) sc_words.nd rfl (Or.inl rfl))
      (a9q (aFq (n7q rfl (CompOk.of (N':=["word"]) (nt:=1) (cap:=[]) rfl (by kernel_rfl)) (gHq (k:=0) (by decide)) (tWq (fLq PySem.F.plainAttrs_str PySem.F.slot_str_split PySem.F.type_str_split mSq (a1q 1) (a0q a7q a2q))) (λ _ _ _ _=>(bYq (k:=0) (show List.Nodup (["word"]:List Str) by decide +kernel) rfl (Or.inl rfl))) (λ _ _ _ _=>(aHq (dOq (aZq hr)) (a1q 0) a7q (aGq _))) (λ _ _ _ _=>(a1q 0)))))),?_⟩
  have l1:((" ( " : String):Str).length=3:=by decide
  have l2:((" ) " : String):Str).length=3:=by decide
  have l3:((" " : String):Str).length=1:=by decide
  have r1:=mUq z " ( " 40 (by decide)
  rw [<- s40] at r1
  have r2:=mUq (Txt.replace z "(" " ( ") " ) " 41 (by decide)
  rw [<- s41] at r2
  have r3:=mUq (Txt.replace (Txt.replace z "(" " ( ") ")" " ) ") " " 10 (by decide)
  rw [<- s10] at r3
  refine ⟨by rw [l1];omega,by rw [l2];omega,by rw [l3];omega,trivial,by decide,by omega,λ p hp=>?_⟩
  refine u7q a4q ?_
  refine lUq (Txt.split (Txt.replace (Txt.replace (Txt.replace z "(" " ( ") ")" " ) ") "\n" " ") " ") D.str (λ s:Str=>if s=="" then none else some (D.str s)) rfl ?_ a4q (λ x hx R S h1 h2=>?_) λ l hl=>?_
  . have:=(PyProof.Rows.fact_split (Txt.replace (Txt.replace (Txt.replace z "(" " ( ") ")" " ) ") "\n" " ") " ").2
    rw [sizeLine_eq];omega
  . refine nPq rfl rfl (show 0<=150 by decide) ⟨λ c=>h1 _ ?_,λ c=>h2 ?_⟩
    . have c':(!(x==""))=true:=c
      rw [if_neg (by rw [Bool.not_eq_true'] at c';rw [c'];decide)]
    . have c':(!(x==""))=false:=c
      rw [if_pos (by simpa using c')]
  . obtain ⟨-,g0,n0⟩:=c6q (o:=.lst []) hl
    refine ⟨up G l (.lst ((wds [] z.cps.toList).map wD)),?_,q l g0⟩
    rw [rBq (rep3 z)]
    exact Sub.put (Sub.new (Sub.refl _) hp)
abbrev gTq:Stmt:=top 19
theorem sc_whole:FnScope ["_law_feed_here", "_law_form"] ["_law_feed_here"] (a6q gTq):=⟨rfl,rfl,rfl,by decide +kernel,rfl,by decide +kernel,by decide +kernel⟩
theorem qUq (g_take:Got P w K mg base 1 "_law_take" ["_law_feed_here", "_law_many"] (aSq K cWq)) (F:Fun K "_law_whole" "_law_whole" gTq f fd):FnOk P w K mg base CX0 2 f fd ["_law_feed_here"] (aSq K hUq):=by
  refine okD (k:=1) F sc_whole (λ ds G DQ h=>?_) (λ cdv A outer s H E hr ds G DQ h=>?_)
  . obtain ⟨_,rfl,_⟩:=h;rfl
  obtain ⟨a,rfl,hF,q⟩:=h
  refine ⟨_,(a5q (aKq (k:=1) sc_whole.nd rfl (Or.inl rfl) (aDq g_take hr (by omega) rfl (a0q (a1q 0) (a0q a3q a2q))))
      (a5q (aVq (aHq cIq (a1q 1) a3q (aGq _)) (a9q (aFq (bFq (a0q a7q (a0q (c4q (a0q a3q (a0q a3q (a0q (gSq cEq a3q) (a0q a3q a2q)))) (a1q 1) (λ _ _=>rfl)) a2q))))) aPq)
      (a5q (aVq (aHq cIq (a1q 1) a3q (aGq _)) (a9q (aFq (bFq (a0q a7q (a0q (aJq aYq (aDq g_take hr (by omega) rfl (a0q (a1q 0) (a0q a3q a2q))) a3q) a2q))))) aPq)
      (a9q (aFq (bFq (a0q a7q (a0q (aJq aYq (aDq g_take hr (by omega) rfl (a0q (a1q 0) (a0q a3q a2q))) a3q) a2q)))))))),?_⟩
  refine ⟨hF,by decide,by decide,λ d G1 u1 d0 d1=>⟨λ c=>?_,λ c=>⟨λ c2=>?_,λ c2=>?_⟩⟩⟩
  . have c':d < 4:=by simpa using c
    exact at4 d0 c' (λ _=>Dr.of (q 0 G1 u1 (by decide))) (λ _=>Dr.of (q 1 G1 u1 (by decide))) (λ _=>Dr.of (q (-1) G1 u1 (by decide))) (λ _=>Dr.of (q 2 G1 u1 (by decide)))
  . exact ⟨u1.fd,by decide,by decide,λ e G2 u2 e0 e1=>Dr.of (q _ G2 (u1.trans u2) (by omega))⟩
  . exact ⟨u1.fd,by decide,by decide,λ e G2 u2 e0 e1=>Dr.of (q _ G2 (u1.trans u2) (by omega))⟩
abbrev jCq:Stmt:=top 20
theorem uHq:FnScope ["_law_feed_here", "_law_ways"] ["_law_feed_here", "_law_ways"] (a6q jCq):=⟨rfl,rfl,rfl,by decide +kernel,rfl,by decide +kernel,by decide +kernel⟩
theorem wJq (g_take:Got P w K mg base 1 "_law_take" ["_law_feed_here", "_law_many"] (aSq K cWq)) (g_whole:Got P w K mg base 2 "_law_whole" ["_law_feed_here"] (aSq K hUq)) (F:Fun K "_law_leaf" "_law_leaf" jCq f fd):FnOk P w K mg base CX0 3 f fd ["_law_feed_here", "_law_ways"] (aSq K hNq):=by
  refine okD (k:=2) F uHq (λ ds G DQ h=>?_) (λ cdv A outer s H E hr ds G DQ h=>?_)
  . obtain ⟨_,_,rfl,_⟩:=h;rfl
  obtain ⟨a,w,rfl,hF,hw,q⟩:=h
  refine ⟨_,(a5q (aVq (AW.at (iHq (aHq j7q (a1q 1) a3q (aGq _)) (h0q (aHq j7q (aDq g_take hr (by omega) rfl (a0q (a1q 0) (a0q a3q a2q))) a3q (aGq _))))) (a9q (aFq (bFq (a0q a7q (a0q (aDq g_take hr (by omega) rfl (a0q (a1q 0) (a0q (a1q 1) a2q))) a2q))))) aPq)
      (a9q (aFq (aDq g_whole hr (by omega) rfl (a0q (a1q 0) a2q))))),?_⟩
  refine ⟨λ c=>?_,λ c=>?_⟩
  . have c':0 < w:=by
      have:(0:Int) < w:=by simpa using c
      omega
    refine ⟨hF,by decide,by decide,λ d G1 u1 d0 d1=>⟨λ _=>⟨u1.fd,by omega,by omega,λ e G2 u2 e0 e1=>?_⟩,λ _=>⟨a,rfl,u1.fd,λ n G2 u2 hn=>Dr.of (q (.whole n) G2 (u1.trans u2) ⟨hn,by simp [Tm.sz],by simp [Tm.dp]⟩)⟩⟩⟩
    have z:=Dr.of (q (.name e.toNat) G2 (u1.trans u2) ⟨by show e.toNat < w;omega,by simp [Tm.sz],by simp [Tm.dp]⟩)
    rwa [Tm.enc,show ((e.toNat:Nat):Int)=e by omega] at z
  . exact Br.no rfl ⟨a,rfl,hF,λ n G2 u2 hn=>Dr.of (q (.whole n) G2 u2 ⟨hn,by simp [Tm.sz],by simp [Tm.dp]⟩)⟩
abbrev mMq:Stmt:=top 21
theorem sc_any:FnScope ["_law_feed_here", "_law_ways", "_law_room", "_law_deep", "_law_form", "_law_word_here", "_law_share", "_law_one", "_law_asked", "_law_left"] ["_law_feed_here", "_law_ways", "_law_room", "_law_deep"] (a6q mMq):=⟨rfl,rfl,rfl,by decide +kernel,rfl,by decide +kernel,by decide +kernel⟩
theorem aA8q:FnOk P w K mg base CX0 4 f fd ["_law_feed_here", "_law_ways", "_law_room", "_law_deep"] (aSq K (i4q 0)):=okNo λ ds G DQ h=>by
  obtain ⟨_,_,_,_,_,_,_,_,h1,h2,_⟩:=h;omega
theorem y2q {n:Nat} (B:Blt mg) (g_take:Got P w K mg base 1 "_law_take" ["_law_feed_here", "_law_many"] (aSq K cWq)) (g_leaf:Got P w K mg base 3 "_law_leaf" ["_law_feed_here", "_law_ways"] (aSq K hNq)) (g_any:Got P w K mg base (n+4) "_law_any" ["_law_feed_here", "_law_ways", "_law_room", "_law_deep"] (aSq K (i4q n)))
    (F:Fun K "_law_any" "_law_any" mMq f fd):FnOk P w K mg base CX0 (n+5) f fd ["_law_feed_here", "_law_ways", "_law_room", "_law_deep"] (aSq K (i4q (n+1))):=by
  refine okD (k:=n+4) F sc_any (λ ds G DQ h=>?_) (λ cdv A outer s H E hr ds G DQ h=>?_)
  . obtain ⟨_,_,_,_,rfl,_⟩:=h;rfl
  obtain ⟨a,w,room,deep,rfl,hF,hw,r1,dp0,dp1,q⟩:=h
  refine ⟨_,(a5q (aKq (k:=4) sc_any.nd rfl (Or.inl rfl) (aDq g_take hr (by omega) rfl (a0q (a1q 0) (a0q a3q a2q))))
      (a5q (aVq (AW.at (i7q (aHq cIq (a1q 2) a3q (aGq _)) (i7q (aHq cIq (a1q 3) a3q (aGq _)) (gDq (aHq (aXq (aZq hr)) (a1q 4) a3q (aGq _)))))) (a9q (aFq (aDq g_leaf hr (by omega) rfl (a0q (a1q 0) (a0q (a1q 1) a2q))))) aPq)
      (a5q (aVq (AW.at (i7q (aHq cIq (a1q 4) a3q (aGq _)) (gDq (aHq (aXq (aZq hr)) (a1q 2) a3q (aGq _))))) (a5q (aKq (k:=5) sc_any.nd rfl (Or.inl rfl) (c4q (a0q a7q (a0q a7q (a0q a7q (a0q a7q (a0q a7q a2q))))) (aJq bPq (a1q 4) a3q) (λ _ _=>rfl)))
      (a9q (aFq (bFq (a0q (a1q 5) (a0q (aDq g_any hr (by omega) rfl (a0q (a1q 0) (a0q (aJq aOq (a1q 1) (cRq iVq rfl B.int PyProof.Rows.boot_int (a0q (dDq (aXq (aZq hr)) (a1q 5) a7q (aGq _)) a2q))) (a0q (aJq aYq (a1q 2) a3q) (a0q (aJq aYq (a1q 3) a3q) a2q))))) a2q)))))) aPq)
      (a5q (aVq (AW.at (i7q (aHq cIq (a1q 4) a3q (aGq _)) (gDq (aHq (aXq (aZq hr)) (a1q 2) a3q (aGq _))))) (a5q (aKq (k:=6) sc_any.nd rfl (Or.inl rfl) (aJq aOq a3q (aDq g_take hr (by omega) rfl (a0q (a1q 0) (a0q (aJq aYq (a1q 2) a3q) a2q)))))
      (a5q (aKq (k:=7) sc_any.nd rfl (Or.inl rfl) (aDq g_any hr (by omega) rfl (a0q (a1q 0) (a0q (a1q 1) (a0q (a1q 6) (a0q (aJq aYq (a1q 3) a3q) a2q))))))
      (a5q (aKq (k:=5) sc_any.nd rfl (Or.inl rfl) (c4q (a0q a7q (a0q a7q (a0q a7q (a0q a7q a2q)))) (aJq bPq (a1q 4) a3q) (λ _ _=>rfl)))
      (a9q (aFq (bFq (a0q (a1q 5) (a0q (a1q 7) (a0q (aDq g_any hr (by omega) rfl (a0q (a1q 0) (a0q (a1q 1) (a0q (aJq aYq (aJq aYq (a1q 2) a3q) (a1q 6)) (a0q (aJq aYq (a1q 3) a3q) a2q))))) a2q))))))))) aPq)
      (a5q (aKq (k:=6) sc_any.nd rfl (Or.inl rfl) (aJq aOq a3q (aDq g_take hr (by omega) rfl (a0q (a1q 0) (a0q (aJq aYq (a1q 2) a3q) a2q)))))
      (a5q (aKq (k:=8) sc_any.nd rfl (Or.inl rfl) (aDq g_any hr (by omega) rfl (a0q (a1q 0) (a0q (a1q 1) (a0q (a1q 6) (a0q (aJq aYq (a1q 3) a3q) a2q))))))
      (a5q (aKq (k:=9) sc_any.nd rfl (Or.inl rfl) (aJq aYq (aJq aYq (a1q 2) a3q) (a1q 6)))
      (a5q (aKq (k:=6) sc_any.nd rfl (Or.inl rfl) (aJq aOq a3q (aDq g_take hr (by omega) rfl (a0q (a1q 0) (a0q (aJq aYq (a1q 9) a3q) a2q)))))
      (a5q (aKq (k:=7) sc_any.nd rfl (Or.inl rfl) (aDq g_any hr (by omega) rfl (a0q (a1q 0) (a0q (a1q 1) (a0q (a1q 6) (a0q (aJq aYq (a1q 3) a3q) a2q))))))
      (a9q (aFq (bFq (a0q a7q (a0q (a1q 8) (a0q (a1q 7) (a0q (aDq g_any hr (by omega) rfl (a0q (a1q 0) (a0q (a1q 1) (a0q (aJq aYq (a1q 9) (a1q 6)) (a0q (aJq aYq (a1q 3) a3q) a2q))))) a2q)))))))))))))))),?_⟩
  have fin:∀ (p:Tm) (G':DV),Fx a G G'->FitC p w (max room 1) deep->Dr DQ p.enc G':=λ p G' u z=>Dr.of (q p G' u z)
  have leaf:∀ (G1:DV),Fx a G G1->hNq [.ref a,.int w] G1 (Dr DQ):=λ G1 u1=>⟨a,w,rfl,u1.fd,by omega,λ p G2 u2 z=>fin p G2 (u1.trans u2) ⟨z.cl,by have:=z.sz;omega,by have:=z.dp;omega⟩⟩
  refine ⟨hF,by decide,by decide,λ form G1 u1 f0 f1=>⟨λ c1=>Br.yes rfl (leaf G1 u1),λ c1=>⟨λ c2=>Br.yes rfl (leaf G1 u1),λ c2=>⟨λ c3=>leaf G1 u1,λ c3=>?_⟩⟩⟩⟩
  have d1:¬ room < 2:=by simpa using c1
  have d2:¬ deep < 1:=by simpa using c2
  refine ⟨λ c4=>Br.yes rfl ?p1,λ c4=>⟨λ c5=>?p2,λ c5=>?_⟩⟩
  case p1 | p2=>
    refine ⟨(by decide:(0:Int) < 5),at5 (i:=form % 5) (by omega) (by omega) (λ _=>?_) (λ _=>?_) (λ _=>?_) (λ _=>?_) (λ _=>?_)⟩
    . exact ⟨a,w+1,room - 1,deep - 1,by simp [dCq],u1.fd,by omega,by omega,by omega,by omega,λ p G2 u2 z=>fin (.way p) G2 (u1.trans u2) ⟨z.cl,by have:=z.sz;simp only [Tm.sz];omega,by have:=z.dp;simp only [Tm.dp];omega⟩⟩
    . exact ⟨a,w+1,room - 1,deep - 1,by simp [dCq],u1.fd,by omega,by omega,by omega,by omega,λ p G2 u2 z=>fin (.way p) G2 (u1.trans u2) ⟨z.cl,by have:=z.sz;simp only [Tm.sz];omega,by have:=z.dp;simp only [Tm.dp];omega⟩⟩
    . exact ⟨a,w,room - 1,deep - 1,by simp [dCq],u1.fd,by omega,by omega,by omega,by omega,λ p G2 u2 z=>fin (.first p) G2 (u1.trans u2) ⟨z.cl,by have:=z.sz;simp only [Tm.sz];omega,by have:=z.dp;simp only [Tm.dp];omega⟩⟩
    . exact ⟨a,w,room - 1,deep - 1,by simp [dCq],u1.fd,by omega,by omega,by omega,by omega,λ p G2 u2 z=>fin (.second p) G2 (u1.trans u2) ⟨z.cl,by have:=z.sz;simp only [Tm.sz];omega,by have:=z.dp;simp only [Tm.dp];omega⟩⟩
    . exact ⟨a,w+1,room - 1,deep - 1,by simp [dCq],u1.fd,by omega,by omega,by omega,by omega,λ p G2 u2 z=>fin (.way p) G2 (u1.trans u2) ⟨z.cl,by have:=z.sz;simp only [Tm.sz];omega,by have:=z.dp;simp only [Tm.dp];omega⟩⟩
  have d3:¬ room=2:=by simpa using c5
  refine ⟨λ c6=>Br.yes rfl ?q1,λ c6=>⟨λ c7=>?q2,λ c7=>?_⟩⟩
  case q1 | q2=>
    refine ⟨u1.fd,by omega,by omega,λ d G2 u2 d0 d1'=>⟨a,w,1+d,deep - 1,rfl,(u1.trans u2).fd,by omega,by omega,by omega,by omega,λ p G3 u3 z=>⟨(by decide:(0:Int) < 4),at4 (i:=form % 4) (by omega) (by omega) (λ _=>?_) (λ _=>?_) (λ _=>?_) (λ _=>?_)⟩⟩⟩
    . exact ⟨a,w,room - 1 - (1+d),deep - 1,rfl,((u1.trans u2).trans u3).fd,by omega,by omega,by omega,by omega,λ p2 G4 u4 y=>fin (.give p p2) G4 (((u1.trans u2).trans u3).trans u4) ⟨⟨z.cl,y.cl⟩,by have:=z.sz;have:=y.sz;simp only [Tm.sz];omega,by have:=z.dp;have:=y.dp;simp only [Tm.dp];omega⟩⟩
    . exact ⟨a,w,room - 1 - (1+d),deep - 1,rfl,((u1.trans u2).trans u3).fd,by omega,by omega,by omega,by omega,λ p2 G4 u4 y=>fin (.pair p p2) G4 (((u1.trans u2).trans u3).trans u4) ⟨⟨z.cl,y.cl⟩,by have:=z.sz;have:=y.sz;simp only [Tm.sz];omega,by have:=z.dp;have:=y.dp;simp only [Tm.dp];omega⟩⟩
    . exact ⟨a,w,room - 1 - (1+d),deep - 1,rfl,((u1.trans u2).trans u3).fd,by omega,by omega,by omega,by omega,λ p2 G4 u4 y=>fin (.plus p p2) G4 (((u1.trans u2).trans u3).trans u4) ⟨⟨z.cl,y.cl⟩,by have:=z.sz;have:=y.sz;simp only [Tm.sz];omega,by have:=z.dp;have:=y.dp;simp only [Tm.dp];omega⟩⟩
    . exact ⟨a,w,room - 1 - (1+d),deep - 1,rfl,((u1.trans u2).trans u3).fd,by omega,by omega,by omega,by omega,λ p2 G4 u4 y=>fin (.give p p2) G4 (((u1.trans u2).trans u3).trans u4) ⟨⟨z.cl,y.cl⟩,by have:=z.sz;have:=y.sz;simp only [Tm.sz];omega,by have:=z.dp;have:=y.dp;simp only [Tm.dp];omega⟩⟩
  have d4:¬ room=3:=by simpa using c7
  refine ⟨u1.fd,by omega,by omega,λ d G2 u2 d0 d1'=>⟨a,w,1+d,deep - 1,rfl,(u1.trans u2).fd,by omega,by omega,by omega,by omega,λ p G3 u3 z=>⟨((u1.trans u2).trans u3).fd,by omega,by omega,λ e G4 u4 e0 e1=>?_⟩⟩⟩
  have U4:=((u1.trans u2).trans u3).trans u4
  refine ⟨a,w,1+e,deep - 1,rfl,U4.fd,by omega,by omega,by omega,by omega,λ p2 G5 u5 y=>⟨a,w,room - 1 - (1+d) - (1+e),deep - 1,rfl,(U4.trans u5).fd,by omega,by omega,by omega,by omega,λ p3 G6 u6 x=>fin (.look p p2 p3) G6 ((U4.trans u5).trans u6) ⟨⟨z.cl,y.cl,x.cl⟩,?_,?_⟩⟩⟩
  . have:=z.sz;have:=y.sz;have:=x.sz;simp only [Tm.sz];omega
  . have:=z.dp;have:=y.dp;have:=x.dp;simp only [Tm.dp];omega
abbrev eNq:Stmt:=(c0q (top 15)).getD 0 (.Pass ⟨0,0,0,0⟩)
theorem o1q:FnScope ["self"] ["self"] (a6q eNq):=⟨rfl,rfl,rfl,by decide +kernel,rfl,by decide +kernel,by decide +kernel⟩
theorem pMq {C:Addr} (c_Reading:Cls K C) (n_awaited:NoAttr K C "awaited") (n_brackets:NoAttr K C "brackets") (n_ways_around:NoAttr K C "ways_around") (n_bound:NoAttr K C "bound") (n_unbound:NoAttr K C "unbound") (n_result:NoAttr K C "result") (F:Fun K "__init__" "Reading.__init__" eNq f fd):FnOk P w K mg base CX0 1 f fd ["self"] (aSq K (jKq C)):=by
  refine okD (k:=0) F o1q (λ ds G DQ h=>?_) (λ cdv A outer s H E hr ds G DQ h=>?_)
  . obtain ⟨_,_,rfl,_⟩:=h;rfl
  obtain ⟨r,X,rfl,hr0,hX,q⟩:=h
  refine ⟨_,(a5q (bWq c_Reading n_awaited (a1q 0) a7q)
      (a5q (bWq c_Reading n_brackets (a1q 0) (bCq a2q))
      (a5q (bWq c_Reading n_ways_around (a1q 0) a3q)
      (a5q (bWq c_Reading n_bound (a1q 0) rOq)
      (a5q (bWq c_Reading n_unbound (a1q 0) iUq)
      (a9q (bWq c_Reading n_result (a1q 0) iUq))))))),?_⟩
  refine aCq hr0 ⟨show 0 < 1000 by decide,?_⟩
  intro lb hlb
  have n1:lb≠r:=by rintro rfl;rw [a4q] at hlb;cases hlb
  have hlb0:G lb=none:=by rw [a8q n1] at hlb;exact hlb
  have k1:∀ (Y:DV) (fs:List (Str × D)),up (up Y r (.ins C fs)) lb (.lst []) r=some (.ins C fs):=λ Y fs=>by rw [a8q n1.symm];exact a4q
  refine aCq (k1 _ _) ⟨show 1 < 1000 by decide,aCq a4q ⟨show 2 < 1000 by decide,?_⟩⟩
  intro ld hld
  have n2:ld≠r:=by rintro rfl;rw [a4q] at hld;cases hld
  rw [a8q n2,a8q n2] at hld
  have n3:ld≠lb:=by rintro rfl;rw [a4q] at hld;cases hld
  have hld0:G ld=none:=by rw [a8q n3,a8q n2] at hld;exact hld
  have k2:∀ (Y:DV) (fs:List (Str × D)),up (up Y r (.ins C fs)) ld (.dK []) r=some (.ins C fs):=λ Y fs=>by rw [a8q n2.symm];exact a4q
  refine aCq (k2 _ _) ⟨show 3 < 1000 by decide,aCq a4q ⟨show 4 < 1000 by decide,aCq a4q ⟨show 5 < 1000 by decide,Dr.of ?_⟩⟩⟩
  simp only [k7q]
  refine q _ ⟨lb,ld,[],[],λ _=>none⟩ ⟨a4q,?_,rfl,λ z hz=>(by cases hz),?_,λ j=>rfl,λ j b e=>(by cases e),λ j hj=>absurd hj List.not_mem_nil,by simp,λ j b e=>(by cases e),λ i j b e=>(by cases e),λ x hx=>⟨(hX x hx).1,?_,?_,by simp,λ j=>(by simp)⟩,λ x hx=>?_,Nat.le_refl _,Nat.le_refl _,λ f hf=>(by cases hf),Nat.le_refl _,by decide⟩ λ x hx=>?_
  . rw [a8q n1,a8q n3.symm,a8q n1];exact a4q
  . rw [a8q n2];exact a4q
  . rintro rfl;exact (hX _ hx).2 hlb0
  . rintro rfl;exact (hX _ hx).2 hld0
  all_goals
    have m1:=(hX x hx).1
    have m2:x≠lb:=by rintro rfl;exact (hX _ hx).2 hlb0
    have m3:x≠ld:=by rintro rfl;exact (hX _ hx).2 hld0
    rw [a8q m1,a8q m3,a8q m1,a8q m2,a8q m1]
  exact (hX x hx).2
abbrev hVq:Stmt:=(c0q (top 15)).getD 7 (.Pass ⟨0,0,0,0⟩)
theorem sc_r_fin:FnScope ["self", "program", "around"] ["self", "program"] (a6q hVq):=⟨rfl,rfl,rfl,by decide +kernel,rfl,by decide +kernel,by decide +kernel⟩
theorem sEq {C:Addr} (B:Blt mg) (c_Reading:Cls K C) (n_awaited:NoAttr K C "awaited") (n_brackets:NoAttr K C "brackets") (n_ways_around:NoAttr K C "ways_around") (n_bound:NoAttr K C "bound") (n_unbound:NoAttr K C "unbound") (n_result:NoAttr K C "result") {aI:Addr} (m_INNER_COUNTS:mg "INNER_COUNTS" = some (.ref aI)) (T_INNER_COUNTS:KTabD K w aI oOq) (F:Fun K "finish" "Reading.finish" hVq f fd):FnOk P w K mg base CX0 2 f fd ["self", "program"] (aSq K (lFq C)):=by
  refine okD (k:=1) F sc_r_fin (λ ds G DQ h=>?_) (λ cdv A outer s H E hr ds G DQ h=>?_)
  . obtain ⟨_,_,_,_,_,_,_,_,_,rfl,_⟩:=h;rfl
  obtain ⟨r,X,aw,fs,ns,ub,n,L,p,rfl,h,hfs,q⟩:=h
  refine ⟨_,(a5q (aVq (aHq (aXq (aZq hr)) (aMq aUq rfl B.len PySem.boot_len (a0q (bEq c_Reading n_brackets (a1q 0)) a2q)) a3q (aGq _)) (a5q (bWq c_Reading n_result (a1q 0) (a1q 1))
      (a5q (bWq c_Reading n_awaited (a1q 0) a7q)
      (a9q wGq))) aPq)
      (a5q (aKq (k:=2) sc_r_fin.nd rfl (Or.inl rfl) (bBq aix (bEq c_Reading n_brackets (a1q 0)) (gSq cEq a3q) (λ _ _=>rfl)))
      (a5q (bJq (fLq PySem.F.plainAttrs_list PySem.F.slot_list_append PySem.F.type_list_append bOq (bBq aix (a1q 2) a3q (λ _ _=>rfl)) (a0q (a1q 1) a2q)))
      (a9q (bWq c_Reading n_awaited (a1q 0) (kNq (aHq (aXq (aZq hr)) (aMq aUq rfl B.len PySem.boot_len (a0q (bBq aix (a1q 2) a3q (λ _ _=>rfl)) a2q)) (yBq rfl m_INNER_COUNTS T_INNER_COUNTS (bBq aix (a1q 2) a3q (λ _ _=>rfl)) (λ _ _=>rfl)) (aGq _)) a7q a7q)))))),?_⟩
  refine aCq h.ins (aQq rfl (aIq h.stk ?_))
  cases fs with
  | nil=>
    refine ⟨λ _=>aCq h.ins ⟨show 6 < 1000 by decide,aCq a4q ⟨show 6 < 1000 by decide,Dr.of ?_⟩⟩,λ c=>absurd c (by simp)⟩
    rw [k7q]
    exact q _ L (h.fld (s':=⟨.noth,[],ns,ub,some p⟩) rfl rfl) λ x hx=>a8q (h.apx x hx).1
  | cons f fs=>
    obtain ⟨hz,hcn,_⟩:=hfs f (List.mem_cons_self ..)
    have hlen:=h.len
    obtain ⟨l,ls,el⟩:∃ l ls,L.ls=l::ls:=by
      cases e:L.ls with
      | nil=>rw [e] at hlen;cases hlen
      | cons l ls=>exact ⟨l,ls,rfl⟩
    have hl:=h.frs (f,l) (by rw [el];simp)
    have hc3:cGq f.z<=3:=by unfold cGq;repeat (first | split | omega)
    have hap:=h.app (p:=p) el (by omega)
    refine ⟨λ c=>absurd c (by simp [el];omega),λ _=>aCq h.ins (aQq rfl (e7q h.stk (d:=frG f l) ?_ ?_))⟩
    . rw [el]
      show atI (((f,l)::fs.zip ls).reverse.map λ z=>frG z.1 z.2) (-1)=_
      rw [List.reverse_cons,List.map_append];exact dWq _ _
    have hps:=h.few.2.2.1 f (List.mem_cons_self ..)
    refine ⟨aIq hl trivial,b4q hl ⟨cLq (by rw [List.length_map];show f.ps.length<=200000;omega),?_⟩⟩
    rw [show f.ps.map Tm.enc++[p.enc]=(f.ps++[p]).map Tm.enc by simp]
    have keep:∀ (o:DO) (x:Addr),X x->up (up G l (.lst ((f.ps++[p]).map Tm.enc))) r o x=G x:=λ o x hx=>by
      obtain ⟨x1,_,_,x4,_⟩:=h.apx x hx
      rw [a8q x1,a8q (by rintro rfl;exact x4 (by rw [el];simp))]
    refine aIq a4q ⟨_,kEq hz,⟨λ c=>aCq hap.ins ⟨show 6 < 1000 by decide,Dr.of ?_⟩,λ c=>aCq hap.ins ⟨show 6 < 1000 by decide,Dr.of ?_⟩⟩⟩
    . have c':f.ps.length+1=cGq f.z:=by
        have c1:(((f.ps++[p]).map Tm.enc).length:Int)=(cGq f.z:Nat):=by simpa using c
        simp only [List.length_map,List.length_append,List.length_cons,List.length_nil] at c1
        omega
      exact q _ L (by rw [show eDq p ⟨aw,f::fs,ns,ub,none⟩=⟨.brk,⟨f.z,f.nm,f.ps++[p]⟩::fs,ns,ub,none⟩ by simp only [eDq,if_pos c']];exact hap.fld (s':=⟨.brk,⟨f.z,f.nm,f.ps++[p]⟩::fs,ns,ub,none⟩) rfl rfl) (keep _)
    . have c':f.ps.length+1≠cGq f.z:=by
        have c1:¬ (((f.ps++[p]).map Tm.enc).length:Int)=(cGq f.z:Nat):=by simpa using c
        simp only [List.length_map,List.length_append,List.length_cons,List.length_nil] at c1
        omega
      exact q _ L (by rw [show eDq p ⟨aw,f::fs,ns,ub,none⟩=⟨.prog,⟨f.z,f.nm,f.ps++[p]⟩::fs,ns,ub,none⟩ by simp only [eDq,if_neg c']];exact hap.fld (s':=⟨.prog,⟨f.z,f.nm,f.ps++[p]⟩::fs,ns,ub,none⟩) rfl rfl) (keep _)
abbrev hIq:Stmt:=(c0q (top 15)).getD 6 (.Pass ⟨0,0,0,0⟩)
theorem sc_r_num:FnScope ["self", "name", "levels"] ["self", "name"] (a6q hIq):=⟨rfl,rfl,rfl,by decide +kernel,rfl,by decide +kernel,by decide +kernel⟩
theorem rMq {C:Addr} (B:Blt mg) (c_Reading:Cls K C) (n_awaited:NoAttr K C "awaited") (n_brackets:NoAttr K C "brackets") (n_ways_around:NoAttr K C "ways_around") (n_bound:NoAttr K C "bound") (n_unbound:NoAttr K C "unbound") (n_result:NoAttr K C "result") (F:Fun K "number_of" "Reading.number_of" hIq f fd):FnOk P w K mg base CX0 2 f fd ["self", "name"] (aSq K (pEq C)):=by
  refine okD (k:=1) F sc_r_num (λ ds G DQ h=>?_) (λ cdv A outer s H E hr ds G DQ h=>?_)
  . obtain ⟨_,_,_,_,_,_,_,_,_,rfl,_⟩:=h;rfl
  obtain ⟨r,X,aw,fs,ns,ub,n,L,x,rfl,h,q1,q2⟩:=h
  refine ⟨_,(a5q (aKq (k:=2) sc_r_num.nd rfl (Or.inl rfl) (oLq (aZq hr) (bEq c_Reading n_bound (a1q 0)) (a1q 1) (bCq a2q) ⟨rfl,rfl,rfl,rfl⟩))
      (a5q (aVq (aHq j7q (aMq aUq rfl B.len PySem.boot_len (a0q (a1q 2) a2q)) a3q (aGq _)) (a9q (aFq (aJq aYq (aJq aYq (bEq c_Reading n_ways_around (a1q 0)) a3q) (bBq aix (a1q 2) (gSq cEq a3q) (λ _ _=>rfl))))) aPq)
      (a5q (aVq (aHq aD4q (bEq c_Reading n_unbound (a1q 0)) iUq (aGq _)) (a9q (bWq c_Reading n_unbound (a1q 0) (a1q 1))) aPq)
      (a9q (aFq a3q))))),?_⟩
  refine aCq h.ins (aQq rfl ⟨e9q h.dic trivial,λ p hp=>?_⟩)
  have np:∀ {y:Addr} {o:DO},G y=some o->y≠p:=λ e=>by rintro rfl;rw [hp] at e;cases e
  refine e9q (by rw [a8q (np h.dic)];exact h.dic) ⟨_,rfl,?_⟩
  have hk:=h.key x
  have hi2:∀ o,up G p o r=some (nDq C L.lb L.ld ⟨aw,fs,ns,ub,none⟩):=λ o=>by rw [a8q (np h.ins)];exact h.ins
  by_cases hx:x∈ns
  . obtain ⟨b,hb⟩:=Option.isSome_iff_exists.mp (h.has x hx)
    rw [hb] at hk
    have hl:=h.bnd x b hb
    obtain ⟨l,e1,e2⟩:=l2q hx
    have hl:G b=some (.lst (l++[.int ((ns.length:Int) - 1 - ixN ns x)])):=by rw [hl];show some (DO.lst (lvD ns x))=_;rw [e1]
    rw [hk]
    have hl2:∀ o,up G p o b=some (.lst (l++[.int ((ns.length:Int) - 1 - ixN ns x)])):=λ o=>by rw [a8q (np hl)];exact hl
    refine aIq (hl2 _) ⟨λ _=>?_,λ c=>absurd c (by simp)⟩
    refine aCq (hi2 _) (aQq rfl ?_)
    refine e7q (hl2 _) (d:=.int ((ns.length:Int) - 1 - ixN ns x)) (dWq _ _) ?_
    refine ⟨G,Sub.new (Sub.refl _) hp,?_⟩
    have e3:((ns.length:Nat):Int) - 1 - ((ns.length:Int) - 1 - (ixN ns x:Int))=(ixN ns x:Int):=by omega
    show DQ (.int (((ns.length:Nat):Int) - 1 - ((ns.length:Int) - 1 - (ixN ns x:Int)))) G
    rw [e3];exact q1 hx
  . obtain ⟨y,ey,hy⟩:∃ y,((d4q L.kvs (.inr x)).getD (.ref p))=.ref y/\(y=p\/G y=some (.lst [])):=by
      rw [hk]
      cases hb:L.bd x with
      | none=>exact ⟨p,rfl,.inl rfl⟩
      | some b=>exact ⟨b,rfl,.inr (by rw [h.bnd x b hb];show some (DO.lst (lvD ns x))=_;rw [f6q hx])⟩
    rw [ey]
    have hl2:up G p (.lst []) y=some (.lst []):=by
      rcases hy with rfl | hy
      . exact a4q
      . rw [a8q (np hy)];exact hy
    refine aIq hl2 ⟨λ c=>absurd c (by simp),λ _=>?_⟩
    have hR:=h.new hp (.lst [])
    refine aCq (hi2 _) (aQq rfl ?_)
    cases ub with
    | none=>
      refine ⟨λ _=>aCq (hi2 _) ⟨show 6 < 1000 by decide,Dr.of (q2 hx _ L (hR.fld (s':=⟨aw,fs,ns,some x,none⟩) rfl rfl) λ z hz=>?_)⟩,λ c=>absurd c (by simp [rRq,nmG])⟩
      rw [a8q (h.apx z hz).1,a8q (by rintro rfl;exact h.liv _ hz hp)]
    | some u=>
      refine ⟨λ c=>absurd c (by simp [rRq,nmG]),λ _=>Dr.of (q2 hx _ L hR λ z hz=>?_)⟩
      rw [a8q (by rintro rfl;exact h.liv _ hz hp)]
abbrev fHq:Stmt:=(c0q (top 15)).getD 3 (.Pass ⟨0,0,0,0⟩)
theorem pYq:FnScope ["self", "word"] ["self", "word"] (a6q fHq):=⟨rfl,rfl,rfl,by decide +kernel,rfl,by decide +kernel,by decide +kernel⟩
theorem nSq {C:Addr} (B:Blt mg) (c_Reading:Cls K C) (n_awaited:NoAttr K C "awaited") (n_brackets:NoAttr K C "brackets") (n_ways_around:NoAttr K C "ways_around") (n_bound:NoAttr K C "bound") (n_unbound:NoAttr K C "unbound") (n_result:NoAttr K C "result") {aI:Addr} (m_INNER_COUNTS:mg "INNER_COUNTS" = some (.ref aI)) (T_INNER_COUNTS:KTabD K w aI oOq) (F:Fun K "take_word" "Reading.take_word" fHq f fd):FnOk P w K mg base CX0 2 f fd ["self", "word"] (aSq K (d2q C (·=.word))):=by
  refine okD (k:=1) F pYq (λ ds G DQ h=>?_) (λ cdv A outer s H E hr ds G DQ h=>?_)
  . obtain ⟨_,_,_,_,_,_,rfl,_⟩:=h;rfl
  obtain ⟨r,X,s,n,L,z,rfl,h,hn,hg,ha,hx,q1,q2⟩:=h
  obtain ⟨aw,fs,ns,ub,res⟩:=s
  have ha:aw=.word:=ha
  subst ha
  obtain ⟨gn,go,gr⟩:=hg
  have gr:res=none:=gr
  subst gr
  refine ⟨_,(a5q (aVq (aHq (gBq T_INNER_COUNTS) (a1q 1) (cNq (d:=.ref _) (v:=.ref _) rfl m_INNER_COUNTS rfl (λ _=>rfl)) (by with_unfolding_all rfl)) (a9q (aFq bRq)) aPq)
      (a5q (aVq (aHq (aXq (aZq hr)) (a1q 1) a7q (aGq _)) (a9q (bWq c_Reading n_awaited (a1q 0) a7q)) (a5q (bJq (fLq PySem.F.plainAttrs_list PySem.F.slot_list_append PySem.F.type_list_append bOq (bEq c_Reading n_brackets (a1q 0)) (a0q (bFq (a0q (a1q 1) (a0q iUq (a0q (bCq a2q) a2q)))) a2q)))
      (a9q (bWq c_Reading n_awaited (a1q 0) a7q))))
      (a9q (aFq bRq)))),?_⟩
  have hfl:=h.few.2.1
  by_cases hz:z∈words7
  . have hzt:(oOq z).isSome=true:=by rw [kEq hz];rfl
    refine ⟨rfl,Br.no (by rw [hzt];rfl) ⟨λ c=>?_,λ c=>?_⟩⟩
    . have c':z = "way":=by simpa using c
      exact aCq h.ins ⟨show 6 < 1000 by decide,Dr.of (q1 ⟨.name,fs,ns,ub,none⟩ (by simp only [aWq];rw [if_pos hz,if_pos c']) _ L ((h.fld (s':=⟨.name,fs,ns,ub,none⟩) rfl rfl).more3 hn) λ x hx=>a8q (h.apx x hx).1)⟩
    . have c':z≠"way":=by simpa using c
      refine aCq h.ins (aQq rfl ⟨aIq h.stk trivial,λ l hl=>?_⟩)
      have nl:L.lb≠l:=by intro e;have a:=h.stk;rw [e,hl] at a;cases a
      have hp:=h.push hl (by omega) ⟨z,none,[]⟩ rfl
      have hlz:((fs.zip L.ls).reverse.map λ z=>frG z.1 z.2).length<=20000:=by
        simp only [List.length_map,List.length_reverse,List.length_zip]
        have:fs.length<=n:=hfl
        omega
      have hst:up G l (.lst []) L.lb=some (.lst ((fs.zip L.ls).reverse.map λ z=>frG z.1 z.2)):=by rw [a8q nl];exact h.stk
      refine b4q hst ⟨cLq (by omega),?_⟩
      refine aCq hp.ins ⟨show 6 < 1000 by decide,Dr.of (q1 ⟨.prog,⟨z,none,[]⟩::fs,ns,ub,none⟩ (by simp only [aWq];rw [if_pos hz,if_neg c']) _ _ ((hp.fld (s':=⟨.prog,⟨z,none,[]⟩::fs,ns,ub,none⟩) rfl rfl).more2 (by omega)) λ x hx=>?_)⟩
      obtain ⟨a1,a2,a3,a4,a5⟩:=h.apx x hx
      have hne:x≠l:=by rintro rfl;exact h.liv _ hx hl
      rw [a8q a1,a8q a2,a8q hne]
  . have hzt:(oOq z).isSome=false:=by rw [i8q];simpa using hz
    exact ⟨rfl,Br.yes (by rw [hzt];rfl) (Dr.of (q2 (by simp only [aWq];rw [if_neg hz])))⟩
abbrev fBq:Stmt:=(c0q (top 15)).getD 4 (.Pass ⟨0,0,0,0⟩)
theorem mZq:FnScope ["self", "word"] ["self", "word"] (a6q fBq):=⟨rfl,rfl,rfl,by decide +kernel,rfl,by decide +kernel,by decide +kernel⟩
theorem q4q {C:Addr} (B:Blt mg) (c_Reading:Cls K C) (n_awaited:NoAttr K C "awaited") (n_brackets:NoAttr K C "brackets") (n_ways_around:NoAttr K C "ways_around") (n_bound:NoAttr K C "bound") (n_unbound:NoAttr K C "unbound") (n_result:NoAttr K C "result") (g_isname:Got P w K mg base 2 "is_name" ["text"] (aSq K kWq)) (F:Fun K "take_name" "Reading.take_name" fBq f fd):FnOk P w K mg base CX0 3 f fd ["self", "word"] (aSq K (d2q C (·=.name))):=by
  refine okD (k:=2) F mZq (λ ds G DQ h=>?_) (λ cdv A outer s H E hr ds G DQ h=>?_)
  . obtain ⟨_,_,_,_,_,_,rfl,_⟩:=h;rfl
  obtain ⟨r,X,s,n,L,x,rfl,h,hn,hg,ha,hx,q1,q2⟩:=h
  obtain ⟨aw,fs,ns,ub,res⟩:=s
  have ha:aw=.name:=ha
  subst ha
  obtain ⟨gn,go,gr⟩:=hg
  have gr:res=none:=gr
  subst gr
  refine ⟨_,(a5q (aVq (dXq (bMq (aDq g_isname hr (by omega) rfl (a0q (a1q 1) a2q)))) (a9q (aFq bRq)) aPq)
      (a5q (bJq (fLq PySem.F.plainAttrs_list PySem.F.slot_list_append PySem.F.type_list_append bOq (bEq c_Reading n_brackets (a1q 0)) (a0q (bFq (a0q a7q (a0q (a1q 1) (a0q (bCq a2q) a2q)))) a2q)))
      (a5q (bJq (fLq PySem.F.plainAttrs_list PySem.F.slot_list_append PySem.F.type_list_append bOq (m0q (bEq c_Reading n_bound (a1q 0)) (a1q 1) (bCq a2q) ⟨rfl,rfl,rfl,rfl⟩) (a0q (bEq c_Reading n_ways_around (a1q 0)) a2q)))
      (a5q (oIq c_Reading n_ways_around (a1q 0) a3q)
      (a5q (bWq c_Reading n_awaited (a1q 0) a7q)
      (a9q (aFq bRq))))))),?_⟩
  have hfl:=h.few.2.1
  have hnl:ns.length<=n:=h.few.2.2.2.1
  refine ⟨x,rfl,hx,?_⟩
  cases hb9:bHq x with
  | false=>exact Br.yes rfl (Dr.of (q2 (by simp only [aWq];rw [if_neg (by rw [hb9];decide)])))
  | true=>
  have q:=q1 ⟨.prog,⟨"way", some x,[]⟩::fs,x::ns,ub,none⟩ (by simp only [aWq];rw [if_pos hb9])
  refine Br.no rfl ?_
  refine aCq h.ins (aQq rfl ⟨aIq h.stk trivial,λ l hl=>?_⟩)
  have nl:L.lb≠l:=by intro e;have a:=h.stk;rw [e,hl] at a;cases a
  have hp:=h.push hl (by omega) ⟨"way", some x,[]⟩ rfl
  have hlz:((fs.zip L.ls).reverse.map λ z=>frG z.1 z.2).length<=20000:=by
    simp only [List.length_map,List.length_reverse,List.length_zip]
    have:fs.length<=n:=hfl
    omega
  have hst:up G l (.lst []) L.lb=some (.lst ((fs.zip L.ls).reverse.map λ z=>frG z.1 z.2)):=by rw [a8q nl];exact h.stk
  refine b4q hst ⟨cLq (by omega),?_⟩
  have keep:∀ y,X y->up (up G l (.lst [])) L.lb (.lst (((fs.zip L.ls).reverse.map λ z=>frG z.1 z.2)++[frG ⟨"way", some x,[]⟩ l])) y=G y:=λ y hy=>by
    obtain ⟨a1,a2,a3,a4,a5⟩:=h.apx y hy
    have hne:y≠l:=by rintro rfl;exact h.liv _ hy hl
    rw [a8q a2,a8q hne]
  revert hp keep
  show ∀ hp keep,_
  generalize hG1:up (up G l (.lst [])) L.lb (.lst (((fs.zip L.ls).reverse.map λ z=>frG z.1 z.2)++[frG ⟨"way", some x,[]⟩ l]))=G1
  intro hp keep
  have hG1':up (up G l (.lst [])) L.lb (.lst (((fs.zip L.ls).reverse.map λ z=>frG z.1 z.2)++[.tup [.str "way", .str x,.ref l]]))=G1:=hG1
  rw [hG1']
  refine aCq hp.ins (aQq rfl ⟨e9q hp.dic trivial,λ p hp0=>?_⟩)
  have hq:=hp.new hp0 (.lst [])
  refine e9q hq.dic ⟨_,rfl,?_,λ d hd=>?_,λ hd=>?_⟩
  . exact cLq (by have:=hp.few.1;have:=hp.few.2.2.2.2;simp only [] at *;omega)
  . have hk:=hp.key x
    rw [hd] at hk
    cases hb:L.bd x with
    | none=>rw [show (({ L with ls:=l::L.ls }:Lag).bd x)=none from hb] at hk;cases hk
    | some b=>
    rw [show (({ L with ls:=l::L.ls }:Lag).bd x)=some b from hb] at hk
    cases hk
    have hR:=hq
    replace hb:({ L with ls:=l::L.ls }:Lag).bd x=some b:=hb
    have gb:=hR.bnd x b hb
    have nb:=hR.ne_lst gb
    have hB:=hR.bindOld (aw':=.prog) (by omega) hb
    have hll:=o5q ns x
    refine ⟨aIq gb trivial,aCq hR.ins (aQq rfl (b4q gb ⟨cLq (by show (lvD ns x).length<=200000;omega),?_⟩))⟩
    have hi3:∀ o,up (up G1 p (.lst [])) b o r=some (nDq C L.lb L.ld ⟨.name,⟨"way", some x,[]⟩::fs,ns,ub,none⟩):=λ o=>by rw [a8q nb.1.symm];exact hR.ins
    refine aCq (hi3 _) (aQq rfl (aCq (hi3 _) ⟨show 6 < 1000 by decide,aCq a4q ⟨show 6 < 1000 by decide,Dr.of ?_⟩⟩))
    rw [k7q]
    refine q _ _ (hB.more (by omega)) λ y hy=>?_
    obtain ⟨a1,a2,a3,a4,a5⟩:=hR.apx y hy
    rw [a8q a1,a8q (by rintro rfl;exact a5 x hb)]
    rw [a8q (by rintro rfl;exact hp.liv _ hy hp0)]
    exact keep y hy
  . have hk:=hp.key x
    rw [hd] at hk
    have hb0:({ L with ls:=l::L.ls }:Lag).bd x=none:=by
      cases e:({ L with ls:=l::L.ls }:Lag).bd x with
      | none=>rfl
      | some b=>rw [e] at hk;cases hk
    have hR:=hp.bindNew hp0 (by omega) hb0
    have hb:(if x=x then some p else ({ L with ls:=l::L.ls }:Lag).bd x)=some p:=if_pos rfl
    have nx:x ∉ ns:=λ hm=>by have:=hp.has x hm;rw [hb0] at this;cases this
    have gb:=hR.bnd x p hb
    have gb:up (up G1 p (.lst [])) L.ld (.dK (putKD L.kvs (.inr x) (.ref p))) p=some (.lst []):=by rw [gb];show some (DO.lst (lvD ns x))=_;rw [f6q nx]
    have nb:=hR.ne_lst gb
    have hB:=RAg.bindOld (aw':=.prog) hR (by omega) hb
    have el:lvD ns x++[D.int ns.length]=[.int ns.length]:=by rw [f6q nx];rfl
    rw [el] at hB
    refine ⟨aIq gb trivial,aCq hR.ins (aQq rfl (b4q gb ⟨cLq (by simp),?_⟩))⟩
    have hi3:∀ o,up (up (up G1 p (.lst [])) L.ld (.dK (putKD L.kvs (.inr x) (.ref p)))) p o r=some (nDq C L.lb L.ld ⟨.name,⟨"way", some x,[]⟩::fs,ns,ub,none⟩):=λ o=>by rw [a8q nb.1.symm];exact hR.ins
    refine aCq (hi3 _) (aQq rfl (aCq (hi3 _) ⟨show 6 < 1000 by decide,aCq a4q ⟨show 6 < 1000 by decide,Dr.of ?_⟩⟩))
    rw [k7q]
    refine q _ _ hB λ y hy=>?_
    obtain ⟨a1,a2,a3,a4,a5⟩:=hR.apx y hy
    have hne:y≠p:=by rintro rfl;exact hp.liv _ hy hp0
    have a3':y≠L.ld:=a3
    rw [a8q a1,a8q hne,a8q a3',a8q hne]
    exact keep y hy
abbrev h3q:Stmt:=(c0q (top 15)).getD 5 (.Pass ⟨0,0,0,0⟩)
theorem sc_r_brk:FnScope ["self", "word", "closed"] ["self", "word"] (a6q h3q):=⟨rfl,rfl,rfl,by decide +kernel,rfl,by decide +kernel,by decide +kernel⟩
theorem r5q {C:Addr} (B:Blt mg) (c_Reading:Cls K C) (n_awaited:NoAttr K C "awaited") (n_brackets:NoAttr K C "brackets") (n_ways_around:NoAttr K C "ways_around") (n_bound:NoAttr K C "bound") (n_unbound:NoAttr K C "unbound") (n_result:NoAttr K C "result") (g_r_fin:MGot P w K mg base 2 C "finish" ["self", "program"] (aSq K (lFq C))) (F:Fun K "take_bracket" "Reading.take_bracket" h3q f fd):FnOk P w K mg base CX0 3 f fd ["self", "word"] (aSq K (d2q C (·=.brk))):=by
  refine okD (k:=2) F sc_r_brk (λ ds G DQ h=>?_) (λ cdv A outer s H E hr ds G DQ h=>?_)
  . obtain ⟨_,_,_,_,_,_,rfl,_⟩:=h;rfl
  obtain ⟨r,X,s,n,L,x,rfl,h,hn,hg,ha,hx,q1,q2⟩:=h
  obtain ⟨aw,fs,ns,ub,res⟩:=s
  have ha:aw=.brk:=ha
  subst ha
  obtain ⟨gn,f,fs',e,z1,z2,z3,z4,gr⟩:=hg
  have gr:res=none:=gr
  subst gr
  have e:fs=f::fs':=e
  subst e
  refine ⟨_,(a5q (aVq (aHq (dOq (aZq hr)) (a1q 1) a7q (aGq _)) (a9q (aFq bRq)) aPq)
      (a5q (aKq (k:=2) sc_r_brk.nd rfl (Or.inl rfl) (kKq PySem.F.plainAttrs_list PySem.F.slot_list_pop PySem.F.type_list_pop k8q (bEq c_Reading n_brackets (a1q 0))))
      (a5q (aVq (aHq (aXq (aZq hr)) (bBq aix (a1q 2) a3q (λ _ _=>rfl)) a7q (aGq _)) (a5q (q7q c_Reading n_ways_around (a1q 0) a3q)
      (a9q (bJq (kKq PySem.F.plainAttrs_list PySem.F.slot_list_pop PySem.F.type_list_pop k8q (l7q (aZq hr) (bEq c_Reading n_bound (a1q 0)) (bBq aix (a1q 2) a3q (λ _ _=>rfl)) (λ _ _=>rfl)))))) aPq)
      (a5q (bJq (cCq c_Reading g_r_fin hr (by omega) (a1q 0) (a0q (aJq aOq (bFq (a0q (bBq aix (a1q 2) a3q (λ _ _=>rfl)) a2q)) (cRq k5q rfl B.tuple PyProof.Rows.boot_tuple (a0q (bBq aix (a1q 2) a3q (λ _ _=>rfl)) a2q))) a2q)))
      (a9q (aFq bRq)))))),?_⟩
  by_cases hb:x = ")"
  . subst hb
    have q:=q1 (eDq (vBq f.z f.ps) ⟨.brk,fs',if f.z = "way" then ns.tail else ns,ub,none⟩) (by simp only [aWq,if_true])
    refine Br.no (by decide +kernel) ?_
    have hlen:=h.len
    obtain ⟨l,ls,el⟩:∃ l ls,L.ls=l::ls:=by
      cases e:L.ls with
      | nil=>rw [e] at hlen;cases hlen
      | cons l ls=>exact ⟨l,ls,rfl⟩
    have hp:=h.pop el
    have nlb:l≠L.lb:=λ e=>by
      have z:=h.nd
      rw [el] at z
      exact (List.nodup_cons.mp z).1 (by rw [e];simp)
    have keep1:∀ x,X x->up G L.lb (.lst ((fs'.zip ls).reverse.map λ z=>frG z.1 z.2)) x=G x:=λ x hx=>a8q (h.apx x hx).2.1
    have hl:=h.frs (f,l) (by rw [el];simp)
    have hc3:cGq f.z<=3:=by unfold cGq;repeat (first | split | omega)
    refine aCq h.ins (aQq rfl ⟨aIq h.stk trivial,b4q h.stk ⟨(fs'.zip ls).reverse.map λ z=>frG z.1 z.2,frG f l,by rw [el];simp,?_⟩⟩)
    revert hp keep1
    generalize hG1:up G L.lb (.lst ((fs'.zip ls).reverse.map λ z=>frG z.1 z.2))=G1
    intro hp keep1
    have hl1:G1 l=some (.lst (f.ps.map Tm.enc)):=by rw [<- hG1,a8q nlb];exact hl
    have hen:=rYq z1 z2
    by_cases hw:f.z = "way"
    . rw [if_pos hw] at q
      have hnm:=z3.mpr hw
      obtain ⟨y,hy⟩:=Option.isSome_iff_exists.mp hnm
      simp only [List.filterMap_cons] at gn
      rw [hy] at gn
      simp only at gn
      obtain ⟨ns',ens⟩:∃ ns',ns=y::ns':=⟨_,gn.symm⟩
      subst ens
      have q:∀ G' L',RAg C r X G' (eDq (vBq f.z f.ps) ⟨.brk,fs',ns',ub,none⟩) (n+3) L'->(∀ y,X y->G' y=G y)->DQ (.bl true) G':=q
      refine Br.yes (by rw [hw];rfl) ?_
      obtain ⟨b,hb⟩:=Option.isSome_iff_exists.mp (hp.has y (List.mem_cons_self ..))
      have hk:=hp.key y
      rw [hb] at hk
      have gb:=hp.bnd y b hb
      have gb:G1 b=some (.lst (lvD ns' y++[.int ns'.length])):=by rw [gb];show some (DO.lst (lvD (y::ns') y))=_;rw [hOq]
      have nb:=hp.ne_lst gb
      have hu:=hp.unbind hb
      have ei:((ns'.length+1:Nat):Int) - 1=(ns'.length:Int):=by omega
      refine aCq hp.ins (aQq rfl (aCq hp.ins ⟨show 6 < 1000 by decide,?_⟩))
      have eI:DO.ins C [("awaited", .str "bracket"),("brackets", .ref L.lb),("ways_around", .int (((ns'.length+1:Nat):Int) - 1)),("bound", .ref L.ld),("unbound", nmG ub),("result", .non)]=nDq C L.lb L.ld ⟨.brk,fs',ns',ub,none⟩:=by rw [ei];rfl
      have eU:up G1 r (DO.ins C [("awaited", .str "bracket"),("brackets", .ref L.lb),("ways_around", .int (((ns'.length+1:Nat):Int) - 1)),("bound", .ref L.ld),("unbound", nmG ub),("result", .non)])=up G1 r (nDq C L.lb L.ld ⟨.brk,fs',ns',ub,none⟩):=by rw [eI]
      have gb2:∀ o,up G1 r o b=some (.lst (lvD ns' y++[.int ns'.length])):=λ o=>by rw [a8q nb.1];exact gb
      have gd2:∀ o,up G1 r o L.ld=some (.dK L.kvs):=λ o=>by rw [a8q hp.ld_r];exact hp.dic
      refine aCq a4q (aQq rfl (e9q (gd2 _) ⟨.inr y,.ref b,by show fPq (nmG f.nm)=_;rw [hy];rfl,hk,aIq (gb2 _) trivial,b4q (gb2 _) ⟨lvD ns' y,.int ns'.length,rfl,?_⟩⟩))
      refine Eq.mpr (congrArg (λ z=>_) (congrArg (λ v=>up v b (.lst (lvD ns' y))) eU)) ?_
      have nlr:=hp.ne_lst hl1
      have nlb2:l≠b:=by
        rintro rfl
        exact h.apb y _ hb (by rw [el];simp)
      have hl3:∀ o o',up (up G1 r o) b o' l=some (.lst (f.ps.map Tm.enc)):=λ o o'=>by rw [a8q nlb2,a8q nlr.1];exact hl1
      refine ⟨aCq (by exact hu.ins) rfl,aIq (hl3 _ _) ⟨cOq (by simp only [List.length_cons,List.length_nil,List.length_map];omega),r,X,.brk,fs',ns',ub,n,_,vBq f.z f.ps,by rw [hen];rfl,hu,z4,λ G' L' hR keep=>?_⟩⟩
      refine Dr.of (q G' L' (hR.more3 hn) λ x hx=>?_)
      rw [keep x hx,a8q (by rintro rfl;exact (hp.apx _ hx).2.2.2.2 y hb),a8q (hp.apx x hx).1]
      exact keep1 x hx
    . rw [if_neg hw] at q
      refine Br.no (by simpa using hw) ?_
      refine ⟨aCq hp.ins rfl,aIq hl1 ⟨cOq (by simp only [List.length_cons,List.length_nil,List.length_map];omega),r,X,.brk,fs',ns,ub,n,_,vBq f.z f.ps,by rw [hen];rfl,hp,z4,λ G' L' hR keep=>?_⟩⟩
      exact Dr.of (q G' L' (hR.more3 hn) λ x hx=>(keep x hx).trans (keep1 x hx))
  . exact Br.yes (by simpa using hb) (Dr.of (q2 (by simp only [aWq];rw [if_neg hb])))
abbrev fGq:Stmt:=(c0q (top 15)).getD 2 (.Pass ⟨0,0,0,0⟩)
theorem nRq:FnScope ["self", "word"] ["self", "word"] (a6q fGq):=⟨rfl,rfl,rfl,by decide +kernel,rfl,by decide +kernel,by decide +kernel⟩
theorem nIq {C:Addr} (B:Blt mg) (c_Reading:Cls K C) (n_awaited:NoAttr K C "awaited") (n_brackets:NoAttr K C "brackets") (n_ways_around:NoAttr K C "ways_around") (n_bound:NoAttr K C "bound") (n_unbound:NoAttr K C "unbound") (n_result:NoAttr K C "result") (g_r_fin:MGot P w K mg base 2 C "finish" ["self", "program"] (aSq K (lFq C))) (g_r_num:MGot P w K mg base 2 C "number_of" ["self", "name"] (aSq K (pEq C))) (g_isname:Got P w K mg base 2 "is_name" ["text"] (aSq K kWq)) (g_isfig:Got P w K mg base 3 "is_figures" ["text"] (aSq K uIq)) (F:Fun K "take_program" "Reading.take_program" fGq f fd):FnOk P w K mg base CX0 4 f fd ["self", "word"] (aSq K (d2q C (·=.prog))):=by
  refine okD (k:=3) F nRq (λ ds G DQ h=>?_) (λ cdv A outer s H E hr ds G DQ h=>?_)
  . obtain ⟨_,_,_,_,_,_,rfl,_⟩:=h;rfl
  obtain ⟨r,X,s,n,L,x,rfl,h,hn,hg,ha,hx,q1,q2⟩:=h
  obtain ⟨aw,fs,ns,ub,res⟩:=s
  have ha:aw=.prog:=ha
  subst ha
  obtain ⟨gn,go,gr⟩:=hg
  have gr:res=none:=gr
  subst gr
  refine ⟨_,(a5q (aVq (aHq (aXq (aZq hr)) (a1q 1) a7q (aGq _)) (a9q (bWq c_Reading n_awaited (a1q 0) a7q)) (a9q (aVq (bMq (aDq g_isfig hr (by omega) rfl (a0q (a1q 1) a2q))) (a9q (bJq (cCq c_Reading g_r_fin hr (by omega) (a1q 0) (a0q (bFq (a0q a7q (a0q (cRq m1q rfl B.int PyProof.Rows.boot_int (a0q (a1q 1) a2q)) a2q))) a2q)))) (a9q (aVq (bMq (aDq g_isname hr (by omega) rfl (a0q (a1q 1) a2q))) (a9q (bJq (cCq c_Reading g_r_fin hr (by omega) (a1q 0) (a0q (bFq (a0q a7q (a0q (cCq c_Reading g_r_num hr (by omega) (a1q 0) (a0q (a1q 1) a2q)) a2q))) a2q)))) (a9q (aFq bRq)))))))
      (a9q (aFq bRq))),?_⟩
  by_cases c1:x = "("
  . refine Br.yes (by simpa using c1) (aCq h.ins ⟨show 6 < 1000 by decide,Dr.of ?_⟩)
    exact q1 ⟨.word,fs,ns,ub,none⟩ (by simp only [aWq];rw [if_pos c1]) _ L ((h.fld (s':=⟨.word,fs,ns,ub,none⟩) rfl rfl).more3 hn) λ x hx=>a8q (h.apx x hx).1
  refine Br.no (by simpa using c1) ⟨x,rfl,hx,?_⟩
  cases c2:hMq x with
  | true=>
    obtain ⟨v1,v2⟩:=pLq c2
    refine Br.yes rfl ⟨aCq h.ins rfl,⟨tDq x,v1,by show x.length<=640;omega,r,X,.prog,fs,ns,ub,n,L,.whole (tDq x),rfl,h,go,λ G' L' hR keep=>Dr.of (q1 _ (by simp only [aWq];rw [if_neg c1,if_pos c2]) G' L' (hR.more3 hn) keep)⟩⟩
  | false=>
    refine Br.no rfl ⟨x,rfl,hx,?_⟩
    cases c3:bHq x with
    | false=>exact Br.no rfl (Dr.of (q2 (by simp only [aWq];rw [if_neg c1,if_neg (by rw [c2];decide),if_neg (by rw [c3];decide)])))
    | true=>
      refine Br.yes rfl ⟨aCq h.ins rfl,⟨aCq h.ins rfl,r,X,.prog,fs,ns,ub,n,L,x,rfl,h,λ hm=>?_,λ hm G1 L1 hR1 keep1=>?_⟩⟩
      . exact ⟨r,X,.prog,fs,ns,ub,n,L,.name (ixN ns x),rfl,h,go,λ G' L' hR keep=>Dr.of (q1 _ (by simp only [aWq];rw [if_neg c1,if_neg (by rw [c2];decide),if_pos c3,if_pos hm]) G' L' (hR.more3 hn) keep)⟩
      . exact ⟨r,X,.prog,fs,ns,ub.or (some x),n,L1,.name 0,rfl,hR1,go,λ G' L' hR keep=>Dr.of (q1 _ (by simp only [aWq];rw [if_neg c1,if_neg (by rw [c2];decide),if_pos c3,if_neg hm]) G' L' (hR.more3 hn) λ y hy=>(keep y hy).trans (keep1 y hy))⟩
abbrev fEq:Stmt:=(c0q (top 15)).getD 1 (.Pass ⟨0,0,0,0⟩)
theorem n0q:FnScope ["self", "word"] ["self", "word"] (a6q fEq):=⟨rfl,rfl,rfl,by decide +kernel,rfl,by decide +kernel,by decide +kernel⟩
theorem n4q {C:Addr} (B:Blt mg) (c_Reading:Cls K C) (n_awaited:NoAttr K C "awaited") (n_brackets:NoAttr K C "brackets") (n_ways_around:NoAttr K C "ways_around") (n_bound:NoAttr K C "bound") (n_unbound:NoAttr K C "unbound") (n_result:NoAttr K C "result") (g_r_prog:MGot P w K mg base 4 C "take_program" ["self", "word"] (aSq K (d2q C (·=.prog)))) (g_r_word:MGot P w K mg base 2 C "take_word" ["self", "word"] (aSq K (d2q C (·=.word)))) (g_r_name:MGot P w K mg base 3 C "take_name" ["self", "word"] (aSq K (d2q C (·=.name)))) (g_r_brk:MGot P w K mg base 3 C "take_bracket" ["self", "word"] (aSq K (d2q C (·=.brk)))) (F:Fun K "take" "Reading.take" fEq f fd):FnOk P w K mg base CX0 5 f fd ["self", "word"] (aSq K (d2q C λ _=>True)):=by
  refine okD (k:=4) F n0q (λ ds G DQ h=>?_) (λ cdv A outer s H E hr ds G DQ h=>?_)
  . obtain ⟨_,_,_,_,_,_,rfl,_⟩:=h;rfl
  obtain ⟨r,X,s,n,L,x,rfl,h,hn,hg,_,hx,q1,q2⟩:=h
  obtain ⟨aw,fs,ns,ub,res⟩:=s
  refine ⟨_,(a5q (aVq (aHq (aXq (aZq hr)) (bEq c_Reading n_awaited (a1q 0)) a7q (aGq _)) (a9q (aFq (cCq c_Reading g_r_prog hr (by omega) (a1q 0) (a0q (a1q 1) a2q)))) aPq)
      (a5q (aVq (aHq (aXq (aZq hr)) (bEq c_Reading n_awaited (a1q 0)) a7q (aGq _)) (a9q (aFq (cCq c_Reading g_r_word hr (by omega) (a1q 0) (a0q (a1q 1) a2q)))) aPq)
      (a5q (aVq (aHq (aXq (aZq hr)) (bEq c_Reading n_awaited (a1q 0)) a7q (aGq _)) (a9q (aFq (cCq c_Reading g_r_name hr (by omega) (a1q 0) (a0q (a1q 1) a2q)))) aPq)
      (a5q (aVq (aHq (aXq (aZq hr)) (bEq c_Reading n_awaited (a1q 0)) a7q (aGq _)) (a9q (aFq (cCq c_Reading g_r_brk hr (by omega) (a1q 0) (a0q (a1q 1) a2q)))) aPq)
      (a9q (aFq bRq)))))),?_⟩
  have k1:∀ s',aWq ⟨aw,fs,ns,ub,res⟩ x=some s'->∀ G' L',RAg C r X G' s' (n+3) L'->(∀ y,X y->G' y=G y)->Dr DQ (.bl true) G':=λ s' e G' L' hR kp=>Dr.of (q1 s' e G' L' hR kp)
  have k2:aWq ⟨aw,fs,ns,ub,res⟩ x=none->Dr DQ (.bl false) G:=λ e=>Dr.of (q2 e)
  cases aw with
  | prog=>exact aCq h.ins (aQq rfl (Br.yes rfl ⟨aCq h.ins rfl,r,X,_,n,L,x,rfl,h,hn,hg,rfl,hx,k1,k2⟩))
  | word=>exact aCq h.ins (aQq rfl (Br.no rfl (aCq h.ins (aQq rfl (Br.yes rfl ⟨aCq h.ins rfl,r,X,_,n,L,x,rfl,h,hn,hg,rfl,hx,k1,k2⟩)))))
  | name=>exact aCq h.ins (aQq rfl (Br.no rfl (aCq h.ins (aQq rfl (Br.no rfl (aCq h.ins (aQq rfl (Br.yes rfl ⟨aCq h.ins rfl,r,X,_,n,L,x,rfl,h,hn,hg,rfl,hx,k1,k2⟩))))))))
  | brk=>exact aCq h.ins (aQq rfl (Br.no rfl (aCq h.ins (aQq rfl (Br.no rfl (aCq h.ins (aQq rfl (Br.no rfl (aCq h.ins (aQq rfl (Br.yes rfl ⟨aCq h.ins rfl,r,X,_,n,L,x,rfl,h,hn,hg,rfl,hx,k1,k2⟩)))))))))))
  | noth=>exact aCq h.ins (aQq rfl (Br.no rfl (aCq h.ins (aQq rfl (Br.no rfl (aCq h.ins (aQq rfl (Br.no rfl (aCq h.ins (aQq rfl (Br.no rfl (k2 rfl))))))))))))
abbrev jRq:Stmt:=top 14
theorem sc_read:FnScope ["text", "words", "reading", "at", "word"] ["text"] (a6q jRq):=⟨rfl,rfl,rfl,by decide +kernel,rfl,by decide +kernel,by decide +kernel⟩
theorem rDq {C:Addr} (B:Blt mg) (c_Reading:Cls K C) (n_awaited:NoAttr K C "awaited") (n_brackets:NoAttr K C "brackets") (n_ways_around:NoAttr K C "ways_around") (n_bound:NoAttr K C "bound") (n_unbound:NoAttr K C "unbound") (n_result:NoAttr K C "result") {cT cN:Addr} (R_NoText:RaiseI P w K mg base 1 "NoText" cT "at") (R_NoName:RaiseI P w K mg base 1 "NoName" cN "name") (g_words:Got P w K mg base 1 "words_of" ["text"] (aSq K i0q)) (g_Reading:MkGot P w K mg base 1 C "Reading" ["self"] (aSq K (jKq C))) (g_r_take:MGot P w K mg base 5 C "take" ["self", "word"] (aSq K (d2q C λ _=>True))) (F:Fun K "read" "read" jRq f fd):FnOk P w K mg base (CXD P w) 6 f fd ["text"] (tBq K (eTq cT cN)):=by
  refine okDX (k:=5) F sc_read (λ ds G DQ DX h=>?_) (λ cdv A outer s H E hr ds G DQ DX h XO=>?_)
  . obtain ⟨_,rfl,_⟩:=h;rfl
  obtain ⟨z,rfl,hz,hlw,o1,o2,o3⟩:=h
  refine ⟨_,(dBq (AS.x (aKq (k:=1) sc_read.nd rfl (Or.inl rfl) (aDq g_words hr (by omega) rfl (a0q (a1q 0) a2q))))
      (dBq (AS.x (aKq (k:=2) sc_read.nd rfl (Or.inl rfl) (qVq g_Reading hr (by omega) rfl)))
      (dBq (vNq PassesOwn.leaving rfl (l1q rfl B.enumerate (a0q (a1q 1) a2q)) (tPq (n:=2) rfl (eHq (bYq (k:=3) sc_read.nd rfl (Or.inl rfl)) (eHq (bYq (k:=4) sc_read.nd rfl (Or.inl rfl)) pSq))) (f5q (oZq (dXq (bMq (cCq c_Reading g_r_take hr (by omega) (a1q 2) (a0q (a1q 4) a2q)))) (f5q (dSq XO R_NoText hr (by omega) rfl (a1q 3))) k2q)))
      (dBq (oZq (aHq (dOq (aZq hr)) (bEq c_Reading n_awaited (a1q 2)) a7q (aGq _)) (f5q (dSq XO R_NoText hr (by omega) rfl (aMq aUq rfl B.len PySem.boot_len (a0q (a1q 1) a2q)))) k2q)
      (dBq (oZq (aHq o3q (bEq c_Reading n_unbound (a1q 2)) iUq (aGq _)) (f5q (dSq XO R_NoName hr (by omega) rfl (bEq c_Reading n_unbound (a1q 2)))) k2q)
      (f5q (AS.x (aFq (bEq c_Reading n_result (a1q 2)))))))))),?_⟩
  have hwl:=k4q z.cps.toList []
  rw [if_pos rfl,show z.cps.toList.length=z.length from Array.length_toList] at hwl
  unfold eEq at o1 o2 o3
  generalize hws:wds [] z.cps.toList=ws at hwl hlw o1 o2 o3
  refine ⟨z,rfl,by omega,λ l hl=>λ r hr=>?_⟩
  rw [hws] at hr ⊢
  refine ⟨r,λ x=>up G l (.lst (ws.map wD)) x≠none,rfl,a4q,λ x hx=>⟨?_,?_⟩,λ G1 L hR keep=>⟨rfl,?_⟩⟩
  . rintro rfl;exact hx hr
  . rw [a8q (by rintro rfl;exact hx hr)];exact hx
  have hlr:l≠r:=by rintro rfl;rw [a4q] at hr;cases hr
  have keep0:∀ x,up G l (.lst (ws.map wD)) x≠none->G1 x=up G l (.lst (ws.map wD)) x:=λ x hx=>by
    rw [keep x hx,a8q (by rintro rfl;exact hx hr)]
  have hG1:G1 l=some (.lst (ws.map wD)):=by rw [keep0 l (by rw [a4q];simp),a4q]
  have back:∀ G':DV,(∀ x,up G l (.lst (ws.map wD)) x≠none->G' x=up G l (.lst (ws.map wD)) x)->Sub G G':=λ G' kp a o e=>by
    have ne:a≠l:=by rintro rfl;rw [hl] at e;cases e
    rw [kp a (by rw [a8q ne,e];simp),a8q ne];exact e
  refine aIq hG1 ⟨hG1,λ i ρ G'=>∃ (s:Rsg) (L':Lag) (o3 o4:Option D),ρ=[some (.str z),some (.ref l),some (.ref r),o3,o4]/\RAg C r (λ x=>up G l (.lst (ws.map wD)) x≠none) G' s (3 * i) L'/\GsG s/\i3q s (ws.drop i) i=i3q e4q ws 0/\∀ x,up G l (.lst (ws.map wD)) x≠none->G' x=up G l (.lst (ws.map wD)) x,⟨_,L,none,none,rfl,hR,⟨rfl,λ g hg=>absurd hg List.not_mem_nil,rfl⟩,rfl,keep0⟩,?_,?_,?_⟩
  . rintro i ρ G' hi ⟨s,L',o3,o4,rfl,hR',hg,hc',kp⟩
    show G' l=_
    rw [kp l (by rw [a4q];simp),a4q]
  . rintro i d ρ G' hd' ⟨s,L',o3',o4',rfl,hR',hg,hc',kp⟩
    have he:(enL (ws.map wD))[i]?=some d:=hd'
    unfold enL at he
    rw [List.getElem?_map,List.getElem?_zipIdx,List.getElem?_map] at he
    cases ex:ws[i]? with
    | none=>rw [ex] at he;cases he
    | some x=>
      rw [ex] at he;cases he
      have hi:i < ws.length:=(List.getElem?_eq_some_iff.mp ex).1
      rw [List.drop_eq_getElem_cons hi,(List.getElem?_eq_some_iff.mp ex).2] at hc'
      have hxl:=hlw x (List.mem_of_getElem? ex)
      refine ⟨aCq hR'.ins rfl,r,_,s,3 * i,L',wS x,rfl,hR',by omega,hg,trivial,by rw [t9q];exact hxl,λ s' e G2 L2 hR2 kp2=>?_,λ e=>?_⟩
      . refine Br.no rfl (Wk.of ⟨s',L2,_,_,rfl,hR2,n2q e hg,?_,λ y hy=>(kp2 y hy).trans (kp y hy)⟩)
        rw [i3q,e] at hc';exact hc'
      . refine Br.yes rfl ⟨rfl,G,back _ kp,?_⟩
        rw [i3q,e] at hc'
        show DX cT [("at", .int ((0+i:Nat):Int))] G
        rw [Nat.zero_add]
        exact o1 i (by unfold qBq;rw [<- hc'])
  . rintro ρ G' ⟨s,L',o3',o4',rfl,hR',hg,hc',kp⟩
    have e9:(enL (ws.map wD)).length=ws.length:=by simp [enL]
    have hc2:i3q s (ws.drop (enL (ws.map wD)).length) (enL (ws.map wD)).length=i3q e4q ws 0:=hc'
    rw [e9,List.drop_length,i3q] at hc2
    have hG':G' l=some (.lst (ws.map wD)):=by rw [kp l (by rw [a4q];simp),a4q]
    obtain ⟨aw,fs,ns,ub,res⟩:=s
    have txt:aw≠.noth->DX cT [("at", .int ws.length)] G:=λ hne=>o1 ws.length (by
      unfold qBq;rw [<- hc2];cases aw<;>first | rfl | exact absurd rfl hne)
    have hlen:((ws.map wD).length:Int)=(ws.length:Int):=by simp
    cases aw with
    | noth=>
      obtain ⟨t,rfl⟩:=Option.isSome_iff_exists.mp (show res.isSome=true from hg.2)
      refine aCq hR'.ins (aQq rfl (Br.no rfl (aCq hR'.ins (aQq rfl ?_))))
      cases ub with
      | none=>
        refine Br.no rfl (aCq hR'.ins (aQq rfl ⟨G,back _ kp,o3 t ?_⟩))
        unfold qBq;rw [<- hc2];rfl
      | some x=>
        refine Br.yes rfl (aCq hR'.ins (aQq rfl ⟨rfl,G,back _ kp,o2 x ?_⟩))
        unfold qBq;rw [<- hc2]
    | prog=>refine aCq hR'.ins (aQq rfl (Br.yes rfl (aIq hG' ⟨rfl,G,back _ kp,?_⟩)));rw [hlen];exact txt (λ e=>by cases e)
    | word=>refine aCq hR'.ins (aQq rfl (Br.yes rfl (aIq hG' ⟨rfl,G,back _ kp,?_⟩)));rw [hlen];exact txt (λ e=>by cases e)
    | name=>refine aCq hR'.ins (aQq rfl (Br.yes rfl (aIq hG' ⟨rfl,G,back _ kp,?_⟩)));rw [hlen];exact txt (λ e=>by cases e)
    | brk=>refine aCq hR'.ins (aQq rfl (Br.yes rfl (aIq hG' ⟨rfl,G,back _ kp,?_⟩)));rw [hlen];exact txt (λ e=>by cases e)
abbrev c5q:Stmt:=(c0q (top 2)).getD 0 (.Pass ⟨0,0,0,0⟩)
theorem lPq:FnScope ["self", "at"] ["self", "at"] (a6q c5q):=⟨rfl,rfl,rfl,by decide +kernel,rfl,by decide +kernel,by decide +kernel⟩
theorem lRq {C B fI:Addr} (EI:ExcI K C fI) (BI:BInit K B) (ES:ExcS K C "at") (m_BagError:mg "BagError" = some (.ref B)) (F:Fun K "__init__" "NoText.__init__" c5q f fd):FnOk P w K mg base CX0 1 f fd ["self", "at"] (x9q C "at"):=
  okXI F lPq EI BI ES m_BagError rfl (λ _ _ _ _ _ _=>rfl) (λ _ _ _ _ _ _=>⟨_,rfl⟩) (Or.inl rfl) (Or.inl rfl) rfl rfl
abbrev c1q:Stmt:=(c0q (top 3)).getD 0 (.Pass ⟨0,0,0,0⟩)
theorem mFq:FnScope ["self", "name"] ["self", "name"] (a6q c1q):=⟨rfl,rfl,rfl,by decide +kernel,rfl,by decide +kernel,by decide +kernel⟩
theorem mHq {C B fI:Addr} (EI:ExcI K C fI) (BI:BInit K B) (ES:ExcS K C "name") (m_BagError:mg "BagError" = some (.ref B)) (F:Fun K "__init__" "NoName.__init__" c1q f fd):FnOk P w K mg base CX0 1 f fd ["self", "name"] (x9q C "name"):=
  okXI F mFq EI BI ES m_BagError rfl (λ _ _ _ _ _ _=>rfl) (λ _ _ _ _ _ _=>⟨_,rfl⟩) (Or.inl rfl) (Or.inl rfl) rfl rfl
abbrev ePq:Stmt:=top 22
theorem sc_lwords:FnScope ["_law_program", "_law_names", "_law_words_here", "_law_one"] ["_law_program", "_law_names"] (a6q ePq):=⟨rfl,rfl,rfl,by decide +kernel,rfl,by decide +kernel,by decide +kernel⟩
theorem nBq:FnOk P w K mg base CX0 1 f fd ["_law_program", "_law_names"] (aSq K (c8q 0)):=okNo λ ds G DQ h=>by obtain ⟨_,_,_,_,_,_,_,_,h,_⟩:=h;omega
theorem nTq (B:Blt mg) {n:Nat} (g_lwords:Got P w K mg base (n+1) "_law_words" ["_law_program", "_law_names"] (aSq K (c8q n))) (F:Fun K "_law_words" "_law_words" ePq f fd):FnOk P w K mg base CX0 (n+2) f fd ["_law_program", "_law_names"] (aSq K (c8q (n+1))):=by
  refine okD (k:=n+1) F sc_lwords (λ ds G DQ h=>?_) (λ cdv A outer s H E hr ds G DQ h=>?_)
  . obtain ⟨_,_,_,rfl,_⟩:=h;rfl
  obtain ⟨t,l,xs,rfl,hl,hxl,hxs,⟨w',hc⟩,hd,hz,q⟩:=h
  refine ⟨_,(a5q (aVq (aHq (aXq (aZq hr)) (bBq aix (a1q 0) a3q (λ _ _=>rfl)) a7q (aGq _)) (a9q (aFq (bCq (a0q (cRq nGq rfl B.str PyProof.Rows.boot_str (a0q (bBq aix (a1q 0) a3q (λ _ _=>rfl)) a2q)) a2q)))) aPq)
      (a5q (aVq (aHq (aXq (aZq hr)) (bBq aix (a1q 0) a3q (λ _ _=>rfl)) a7q (aGq _)) (a9q (aFq (bCq (a0q (bBq aix (a1q 1) (aJq bPq (bBq aix (a1q 0) a3q (λ _ _=>rfl)) (aMq aUq rfl B.len PySem.boot_len (a0q (a1q 1) a2q))) (λ _ _=>rfl)) a2q)))) aPq)
      (a5q (aKq (k:=2) sc_lwords.nd rfl (Or.inl rfl) (bCq (a0q a7q (a0q (bBq aix (a1q 0) a3q (λ _ _=>rfl)) a2q))))
      (a5q (aVq (aHq (aXq (aZq hr)) (bBq aix (a1q 0) a3q (λ _ _=>rfl)) a7q (aGq _)) (a9q (bJq (fLq PySem.F.plainAttrs_list PySem.F.slot_list_append PySem.F.type_list_append bOq (a1q 2) (a0q (bBq aix (a1q 1) a3q (λ _ _=>rfl)) a2q)))) aPq)
      (a5q (kVq PassesOwn.never rfl (tWq (b1q asl (a1q 0) (b7q a3q) bGq)) (bYq (k:=3) sc_lwords.nd rfl (Or.inl rfl)) (a9q (bJq (fLq PySem.F.plainAttrs_list PySem.F.slot_list_extend PySem.F.type_list_extend m9q (a1q 2) (a0q (aDq g_lwords hr (by omega) rfl (a0q (a1q 3) (a0q (aJq aOq (b1q asl (a1q 1) (b7q a3q) bGq) (b1q asl (a1q 1) bGq (b7q a3q))) a2q))) a2q)))))
      (a9q (aFq (c9q (aJq aOq (a1q 2) (bCq (a0q a7q a2q))))))))))),?_⟩
  have tail:∀ (z:Str) (ts:List Tm) (ws0:List Str) (G0:DV) (p1:Addr),Sub G G0->G p1=none->G0 p1=some (.lst (ws0.map D.str))->Gws ws0->ws0.length<=3->(∀ u∈ts,(∃ w,u.cl w)/\u.dp < n/\u.sz<=100)->ts.length<=3->ws0.length+4 * (ts.map Tm.sz).sum+1<=4 * t.sz →
      dSeq (dFor (aA1q (dSl slD (sZq 0) (sLq (dC (.int 1))) hGq)) (lIq 3) (aB0q (dBM lYq extD (sZq 2) (p1q (zXq (c8q n) (p1q (sZq 3) (p1q (dOp addD (dSl slD (sZq 1) (sLq (dC (.int 1))) hGq) (dSl slD (sZq 1) hGq (sLq (dC (.int 1))))) dNil))) dNil)))) (dRet (sWq (dOp addD (sZq 2) (dLst (p1q (dC (.str ")")) dNil))))) { nx:=λ _ G'=>Dr DQ .non G',rt:=Dr DQ } [some (.tup (.str z::ts.map Tm.enc)),some (.ref l),some (.ref p1),none] G0:=by
    intro z ts ws0 G0 p1 hs hp1 e1 hw0 hl3 hin hts hsz
    have c0:cut (D.str z::ts.map Tm.enc) (some 1) none=ts.map Tm.enc:=qXq (k:=0) (by simp)
    refine ⟨λ i ρ G'=>∃ (o:Option D) (ks:List Str),ρ=[some (.tup (.str z::ts.map Tm.enc)),some (.ref l),some (.ref p1),o]/\Sub G G'/\G' p1=some (.lst ((ws0++ks).map D.str))/\Gws ks/\ks.length<=4 * ((ts.take i).map Tm.sz).sum,⟨none,[],rfl,hs,by rw [List.append_nil];exact e1,λ x hx=>absurd hx List.not_mem_nil,Nat.zero_le _⟩,λ _ _ _ _ _=>trivial,?_,?_⟩
    . rintro i d ρ G' hd' ⟨o,ks,rfl,hsi,ei,gi,li⟩
      have he:(cut (D.str z::ts.map Tm.enc) (some 1) none)[i]?=some d:=hd'
      rw [c0,List.getElem?_map] at he
      cases ex:ts[i]? with
      | none=>rw [ex] at he;cases he
      | some u=>
        rw [ex] at he;cases he
        obtain ⟨b1,b2,b3⟩:=hin u (List.mem_of_getElem? ex)
        have hst:=h7q ex
        have hli:=hsi _ _ hl
        refine ⟨aIq ei trivial,aIq hli λ q1 hq1=>aIq (ds:=xs.map D.str) (by rw [a8q (by rintro rfl;rw [hli] at hq1;cases hq1)];exact hli) λ q2 hq2=>?_⟩
        obtain ⟨-,g2,n21⟩:=c6q (o:=.lst []) hq2
        refine b4q (by rw [a8q (Ne.symm n21)];exact a4q) (b4q a4q ⟨cOq (by rw [aRq,aRq,List.length_map,List.length_map];have a1:=oCq (xs:=xs) (lo:=some 1) (hi:=none);have a2:=oCq (xs:=xs) (lo:=none) (hi:=some 1);omega),λ q3 hq3=>?_⟩)
        have e3:cut (xs.map D.str) (some 1) none++cut (xs.map D.str) none (some 1)=(cut xs (some 1) none++cut xs none (some 1)).map D.str:=by rw [aRq,aRq,List.map_append]
        rw [e3]
        refine ⟨u,q3,_,rfl,a4q,rot5 hxl,λ x hx=>?_,b1,b2,b3,λ p2 kw G2 s2 np2 e2 gk lk=>?_⟩
        . rcases List.mem_append.mp hx with h | h
          . exact hxs x (jPq h)
          . exact hxs x (jPq h)
        . obtain ⟨-,g3a,n32⟩:=c6q (o:=.lst []) hq3
          have s1:=Sub.trans (Sub.ext' (o:=.lst ((cut xs (some 1) none++cut xs none (some 1)).map D.str)) (Sub.ext' (o:=.lst (cut (xs.map D.str) none (some 1))) (Sub.ext' (o:=.lst (cut (xs.map D.str) (some 1) none)) (Sub.refl G') hq1) hq2) hq3) s2
          have ei2:=s1 _ _ ei
          refine b4q ei2 (b4q e2 ⟨cOq (by rw [List.length_map,List.length_map,List.length_append];omega),Wk.of ⟨some u.enc,ks++kw,rfl,Sub.new (Sub.trans hsi s1) hp1,?_,bZq gi gk,?_⟩⟩)
          . rw [a4q];simp
          . rw [List.take_add_one,ex,List.length_append]
            simp only [List.map_append,List.sum_append,Option.toList,List.map_cons,List.map_nil,List.sum_cons,List.sum_nil]
            omega
    . rintro ρ G' ⟨o,ks,hρ,hsi,ei,gi,li⟩
      have e9:ts.take (cut (D.str z::ts.map Tm.enc) (some 1) none).length=ts:=by rw [c0,List.length_map,List.take_length]
      have li2:ks.length<=4 * ((ts.take (cut (D.str z::ts.map Tm.enc) (some 1) none).length).map Tm.sz).sum:=li
      rw [e9] at li2
      subst hρ
      refine λ p3 hp3=>cYq (G:=G') (xs:=(ws0++ks).map D.str) (ys:=[.str ")"]) (by rw [a8q (by rintro rfl;rw [ei] at hp3;cases hp3)];exact ei) a4q (by rw [List.length_map,List.length_append];simp only [List.length_cons,List.length_nil];omega) (Sub.new (Sub.refl _) hp3) λ p hp=>Dr.of ?_
      have e:(ws0++ks).map D.str++[D.str ")"]=(ws0++ks++[(")" : Str)]).map D.str:=by simp
      rw [e]
      refine q p _ _ (Sub.ext' hsi hp) (hsi.none hp) a4q (bZq (bZq hw0 gi) λ y hy=>by rw [List.mem_singleton] at hy;subst hy;exact p8q (by decide +kernel)) ?_
      simp only [List.length_append,List.length_cons,List.length_nil];omega
  have gpar:Gw ("(" : Str):=p8q (by decide +kernel)
  by_cases hn2:t.node2=true
  . obtain ⟨w1,w2,w3,w4,w5⟩:=pOq hn2
    have hss:=yYq w4
    have hil:=t.inn_len
    obtain ⟨hcnt,hz7⟩:=sCq hn2
    have hin:∀ u∈t.inn,(∃ w,u.cl w)/\u.dp < n/\u.sz<=100:=λ u hu=>⟨⟨_,aE5q hn2 hc hu⟩,by have:=Tm.dp_inn hu;omega,by
      obtain ⟨i,hi⟩:=List.getElem?_of_mem hu
      have:=h7q hi
      omega⟩
    have tl:=tail t.word t.inn [("(" : Str),t.word]
    clear tail
    rw [Tm.enc_node w4]
    refine Br.no w1 (Br.no w2 λ p1 hp1=>Br.no w3 (tl _ p1 (Sub.ext' (Sub.refl _) hp1) hp1 a4q (λ x hx=>?_) (by simp) hin (by omega) ?_))
    . simp only [List.mem_cons,List.not_mem_nil,or_false] at hx
      rcases hx with rfl | rfl
      . exact gpar
      . exact vGq hz7
    . simp only [List.length_cons,List.length_nil];omega
  cases t with
  | whole k=>
    exact Br.yes rfl ⟨w2q hc,λ p hp=>Dr.of (q p [cHq k] _ (Sub.ext' (Sub.refl _) hp) hp a4q (λ x hx=>by rw [List.mem_singleton] at hx;subst hx;exact aD2q hc) (by simp [Tm.sz]))⟩
  | name k=>
    obtain ⟨j,hj,ej⟩:∃ j:Nat,j < 5/\((k:Int) % 5)=j:=⟨((k:Int) % 5).toNat,by omega,by omega⟩
    have hjx:j < xs.length:=by omega
    refine Br.no rfl (Br.yes rfl (aIq hl ⟨by rw [List.length_map,hxl];show (0:Int) < 5;decide,e7q hl (d:=.str xs[j]) ?_ λ p hp=>Dr.of (q p [xs[j]] _ (Sub.ext' (Sub.refl _) hp) hp a4q (λ x hx=>by rw [List.mem_singleton] at hx;subst hx;exact mTq (hxs _ (List.getElem_mem hjx))) (by simp [Tm.sz]))⟩))
    rw [List.length_map,hxl,show ((k:Int) % ((5:Nat):Int))=j from ej]
    exact cQq (by rw [List.getElem?_map,List.getElem?_eq_getElem hjx];rfl)
  | way t=>
    simp only [Tm.dp] at hd
    simp only [Tm.sz] at hz tail
    have h0:0 < xs.length:=by omega
    refine Br.no rfl (Br.no rfl λ p1 hp1=>Br.yes rfl ⟨aIq a4q trivial,e7q (ds:=xs.map D.str) (d:=.str xs[0]) (by rw [a8q (by rintro rfl;rw [hl] at hp1;cases hp1)];exact hl) (cQq (j:=0) (by rw [List.getElem?_map,List.getElem?_eq_getElem h0];rfl)) (b4q a4q ⟨by decide,?_⟩)⟩)
    rw [k7q]
    refine tail "way" [t] [("(" : Str),"way", xs[0]] _ p1 (Sub.ext' (Sub.refl _) hp1) hp1 a4q (λ x hx=>?_) (by simp) (λ u hu=>?_) (by simp) ?_
    . simp only [List.mem_cons,List.not_mem_nil,or_false] at hx
      rcases hx with rfl | rfl | rfl
      . exact gpar
      . exact p8q (by decide +kernel)
      . exact mTq (hxs _ (List.getElem_mem h0))
    . rw [List.mem_singleton] at hu;subst hu
      exact ⟨⟨_,hc⟩,by omega,by omega⟩
    . simp only [List.length_cons,List.length_nil,List.map_cons,List.map_nil,List.sum_cons,List.sum_nil];omega
  | _=>exact absurd rfl hn2
abbrev gVq:Stmt:=top 23
theorem sc_lword:FnScope ["_law_feed_here", "_law_some"] ["_law_feed_here"] (a6q gVq):=⟨rfl,rfl,rfl,by decide +kernel,rfl,by decide +kernel,by decide +kernel⟩
theorem sJq (B:Blt mg) (g_take:Got P w K mg base 1 "_law_take" ["_law_feed_here", "_law_many"] (aSq K cWq)) (F:Fun K "_law_word" "_law_word" gVq f fd):FnOk P w K mg base CX0 2 f fd ["_law_feed_here"] (aSq K hHq):=by
  refine okD (k:=1) F sc_lword (λ ds G DQ h=>?_) (λ cdv A outer s H E hr ds G DQ h=>?_)
  . obtain ⟨_,rfl,_⟩:=h;rfl
  obtain ⟨a,rfl,hF,q⟩:=h
  refine ⟨_,(a5q (aKq (k:=1) sc_lword.nd rfl (Or.inl rfl) (bCq (a0q a7q (a0q a7q (a0q a7q (a0q a7q (a0q a7q (a0q a7q (a0q a7q (a0q a7q (a0q a7q (a0q a7q (a0q a7q (a0q a7q (a0q a7q (a0q a7q (a0q a7q a2q)))))))))))))))))
      (a5q (aKq (k:=1) sc_lword.nd rfl (Or.inl rfl) (c9q (aJq aOq (a1q 1) (bCq (a0q a7q (a0q a7q (a0q a7q (a0q a7q (a0q a7q (a0q a7q (a0q a7q (a0q a7q (a0q a7q (a0q a7q a2q))))))))))))))
      (a5q (aKq (k:=1) sc_lword.nd rfl (Or.inl rfl) (c9q (aJq aOq (a1q 1) (bCq (a0q a7q (a0q a7q a2q))))))
      (a5q (aKq (k:=1) sc_lword.nd rfl (Or.inl rfl) (c9q (aJq aOq (a1q 1) (bCq (a0q a7q (a0q a7q (a0q a7q (a0q a7q (a0q a7q (a0q a7q (a0q a7q (a0q a7q (a0q a7q (a0q a7q (a0q a7q (a0q a7q (a0q a7q (a0q a7q (a0q a7q a2q)))))))))))))))))))
      (a9q (aFq (bBq aix (a1q 1) (aDq g_take hr (by omega) rfl (a0q (a1q 0) (a0q (aMq aUq rfl B.len PySem.boot_len (a0q (a1q 1) a2q)) a2q))) (λ _ _=>rfl)))))))),?_⟩
  intro p1 hp1 p2 hp2
  obtain ⟨-,g2,n21⟩:=c6q (o:=.lst []) hp2
  refine cYq (G:=G) (by rw [a8q (Ne.symm n21)];exact a4q) a4q (by decide) (Sub.new (Sub.new (Sub.refl _) hp1) g2) λ p3 hp3=>?_
  intro p4 hp4
  obtain ⟨-,g4,n43⟩:=c6q (o:=.lst []) hp4
  refine cYq (G:=G) (by rw [a8q (Ne.symm n43)];exact a4q) a4q (by decide) (Sub.new (Sub.new (Sub.refl _) hp3) g4) λ p5 hp5=>?_
  intro p6 hp6
  obtain ⟨-,g6,n65⟩:=c6q (o:=.lst []) hp6
  refine cYq (G:=G) (by rw [a8q (Ne.symm n65)];exact a4q) a4q (by decide) (Sub.new (Sub.new (Sub.refl _) hp5) g6) λ p7 hp7=>?_
  refine aIq a4q ⟨hF.new hp7,by decide,by decide,λ d G8 u8 d0 d1=>?_⟩
  obtain ⟨G9,s9,u9⟩:=Fx.drop hp7 u8 hF
  refine aIq (by rw [u8.other (hF.ne hp7)];exact a4q) (aE9q (by decide +kernel) d0 d1 λ z hz=>Dr.of (q z G8 ⟨G9,u9,s9⟩ hz))
abbrev dQq:Stmt:=top 24
theorem sc_changed:FnScope ["_law_feed_here", "_law_words_here", "_law_at", "_law_form", "_law_pair"] ["_law_feed_here", "_law_words_here"] (a6q dQq):=⟨rfl,rfl,rfl,by decide +kernel,rfl,by decide +kernel,by decide +kernel⟩
theorem lZq (B:Blt mg) (g_take:Got P w K mg base 1 "_law_take" ["_law_feed_here", "_law_many"] (aSq K cWq)) (g_lword:Got P w K mg base 2 "_law_word" ["_law_feed_here"] (aSq K hHq)) (F:Fun K "_law_changed" "_law_changed" dQq f fd):FnOk P w K mg base CX0 3 f fd ["_law_feed_here", "_law_words_here"] (aSq K d0q):=by
  refine okD (k:=2) F sc_changed (λ ds G DQ h=>?_) (λ cdv A outer s H E hr ds G DQ h=>?_)
  . obtain ⟨_,_,_,rfl,_⟩:=h;rfl
  obtain ⟨a,l,ws,rfl,hF,hla,hl,hg,hn,q⟩:=h
  refine ⟨_,(a5q (aKq (k:=2) sc_changed.nd rfl (Or.inl rfl) (aDq g_take hr (by omega) rfl (a0q (a1q 0) (a0q (aJq aOq (aMq aUq rfl B.len PySem.boot_len (a0q (a1q 1) a2q)) a3q) a2q))))
      (a5q (aKq (k:=3) sc_changed.nd rfl (Or.inl rfl) (aDq g_take hr (by omega) rfl (a0q (a1q 0) (a0q a3q a2q))))
      (a5q (aVq (aHq cIq (a1q 3) a3q (aGq _)) (a9q (aFq (aJq aOq (b1q asl (a1q 1) bGq (b7q (a1q 2))) (b1q asl (a1q 1) (b7q (aJq aOq (a1q 2) a3q)) bGq)))) aPq)
      (a5q (aVq (aHq cIq (a1q 3) a3q (aGq _)) (a9q (aFq (aJq aOq (c9q (aJq aOq (b1q asl (a1q 1) bGq (b7q (a1q 2))) (bCq (a0q (aDq g_lword hr (by omega) rfl (a0q (a1q 0) a2q)) a2q)))) (b1q asl (a1q 1) (b7q (a1q 2)) bGq)))) aPq)
      (a5q (aVq (aHq cIq (a1q 3) a3q (aGq _)) (a9q (aFq (aJq aOq (c9q (aJq aOq (b1q asl (a1q 1) bGq (b7q (a1q 2))) (bCq (a0q (aDq g_lword hr (by omega) rfl (a0q (a1q 0) a2q)) a2q)))) (b1q asl (a1q 1) (b7q (aJq aOq (a1q 2) a3q)) bGq)))) aPq)
      (a5q (aVq (aHq (aXq (aZq hr)) (a1q 3) a3q (aGq _)) (a9q (aFq (b1q asl (a1q 1) bGq (b7q (a1q 2))))) aPq)
      (a5q (aKq (k:=4) sc_changed.nd rfl (Or.inl rfl) (b1q asl (a1q 1) (b7q (a1q 2)) (b7q (aJq aOq (a1q 2) a3q))))
      (a5q (bJq (kKq PySem.F.plainAttrs_list PySem.F.slot_list_reverse PySem.F.type_list_reverse k0q (a1q 4)))
      (a9q (aFq (aJq aOq (aJq aOq (b1q asl (a1q 1) bGq (b7q (a1q 2))) (a1q 4)) (b1q asl (a1q 1) (b7q (aJq aOq (a1q 2) a3q)) bGq)))))))))))),?_⟩
  refine aIq hl ⟨hF,by rw [List.length_map];omega,by rw [List.length_map];omega,λ i G1 u1 i0 i1=>⟨u1.fd,by decide,by decide,λ d G2 u2 d0 d1=>?_⟩⟩
  have w2:Dw a G G2:=(Dw.of u1).trans (.of u2)
  have hl2:=w2.kp hla hl
  rw [List.length_map] at i1
  have hi:i<=ws.length:=by omega
  have hF2:=w2.fd
  have L1:=v5q i0 hi
  clear u1 u2 d0 d1
  have nw:∀ {G':DV} {p:Addr},Fd G' a->G' p=none->p≠a:=λ h e=>by rintro rfl;obtain ⟨x,y,z⟩:=h;rw [e] at z;cases z
  refine ⟨λ c=>?_,λ c=>⟨λ c=>?_,λ c=>⟨λ c=>?_,λ c=>⟨λ c=>?_,λ c=>?_⟩⟩⟩⟩
  . have L2:=dHq (ws:=ws) (i:=i+1) (by omega)
    refine aIq hl2 λ p1 hp1=>aIq (ds:=ws.map D.str) (by rw [a8q (by rintro rfl;rw [hl2] at hp1;cases hp1)];exact hl2) λ p2 hp2=>?_
    obtain ⟨-,g2,n21⟩:=c6q (o:=.lst []) hp2
    refine cYq (G:=G2) (by rw [a8q (Ne.symm n21)];exact a4q) a4q ?_ (Sub.new (Sub.new (Sub.refl _) hp1) g2) λ p hp=>?_
    . rw [aRq,aRq,List.length_map,List.length_map];omega
    . have e:cut (ws.map D.str) none (some i)++cut (ws.map D.str) (some (i+1)) none=(cut ws none (some i)++cut ws (some (i+1)) none).map D.str:=by rw [aRq,aRq,List.map_append]
      rw [e]
      refine q p _ _ (w2.new hp) (nw hF2 hp) a4q (bZq (bXq hg _ _) (bXq hg _ _)) ?_
      rw [List.length_append];omega
  . have L2:=dHq (ws:=ws) (i:=i) (by omega)
    refine aIq hl2 λ p1 hp1=>⟨a,rfl,hF2.new hp1,λ x G3 w3 gx=>λ p2 hp2=>?_⟩
    have e1:G3 p1=some (.lst (cut (ws.map D.str) none (some i))):=w3.kp (nw hF2 hp1) a4q
    have w4:Dw a G G3:=(w2.new hp1).trans w3
    have hl3:=w4.kp hla hl
    refine cYq (G:=G3) (by rw [a8q (by rintro rfl;rw [e1] at hp2;cases hp2)];exact e1) a4q (by rw [aRq,List.length_map];simp only [List.length_cons,List.length_nil];omega) (Sub.new (Sub.refl _) hp2) λ p3 hp3=>?_
    refine aIq (ds:=ws.map D.str) (by rw [a8q (by rintro rfl;rw [hl3] at hp3;cases hp3)];exact hl3) λ p4 hp4=>?_
    obtain ⟨-,g4,n43⟩:=c6q (o:=.lst []) hp4
    refine cYq (G:=G3) (by rw [a8q (Ne.symm n43)];exact a4q) a4q ?_ (Sub.new (Sub.new (Sub.refl _) hp3) g4) λ p hp=>?_
    . rw [aRq,aRq];simp only [List.length_append,List.length_map,List.length_cons,List.length_nil];omega
    . have e:cut (ws.map D.str) none (some i)++[D.str x]++cut (ws.map D.str) (some (i)) none=(cut ws none (some i)++[x]++cut ws (some (i)) none).map D.str:=by rw [aRq,aRq];simp
      rw [e]
      refine q p _ _ (w4.new hp) (nw w4.fd hp) a4q (bZq (bZq (bXq hg _ _) λ y hy=>by rw [List.mem_singleton] at hy;subst hy;exact gx) (bXq hg _ _)) ?_
      simp only [List.length_append,List.length_cons,List.length_nil];omega
  . have L2:=dHq (ws:=ws) (i:=i+1) (by omega)
    refine aIq hl2 λ p1 hp1=>⟨a,rfl,hF2.new hp1,λ x G3 w3 gx=>λ p2 hp2=>?_⟩
    have e1:G3 p1=some (.lst (cut (ws.map D.str) none (some i))):=w3.kp (nw hF2 hp1) a4q
    have w4:Dw a G G3:=(w2.new hp1).trans w3
    have hl3:=w4.kp hla hl
    refine cYq (G:=G3) (by rw [a8q (by rintro rfl;rw [e1] at hp2;cases hp2)];exact e1) a4q (by rw [aRq,List.length_map];simp only [List.length_cons,List.length_nil];omega) (Sub.new (Sub.refl _) hp2) λ p3 hp3=>?_
    refine aIq (ds:=ws.map D.str) (by rw [a8q (by rintro rfl;rw [hl3] at hp3;cases hp3)];exact hl3) λ p4 hp4=>?_
    obtain ⟨-,g4,n43⟩:=c6q (o:=.lst []) hp4
    refine cYq (G:=G3) (by rw [a8q (Ne.symm n43)];exact a4q) a4q ?_ (Sub.new (Sub.new (Sub.refl _) hp3) g4) λ p hp=>?_
    . rw [aRq,aRq];simp only [List.length_append,List.length_map,List.length_cons,List.length_nil];omega
    . have e:cut (ws.map D.str) none (some i)++[D.str x]++cut (ws.map D.str) (some (i+1)) none=(cut ws none (some i)++[x]++cut ws (some (i+1)) none).map D.str:=by rw [aRq,aRq];simp
      rw [e]
      refine q p _ _ (w4.new hp) (nw w4.fd hp) a4q (bZq (bZq (bXq hg _ _) λ y hy=>by rw [List.mem_singleton] at hy;subst hy;exact gx) (bXq hg _ _)) ?_
      simp only [List.length_append,List.length_cons,List.length_nil];omega
  . refine aIq hl2 λ p hp=>?_
    rw [aRq]
    exact Dr.of (q p _ _ (w2.new hp) (nw hF2 hp) a4q (bXq hg _ _) (by omega))
  . have L2:=dHq (ws:=ws) (i:=i+2) (by omega)
    have L3:=sOq i0 hi
    refine aIq hl2 λ p1 hp1=>⟨aIq a4q trivial,b4q a4q ?_⟩
    rw [k7q]
    have w3:Dw a G (up G2 p1 (.lst (cut (ws.map D.str) (some i) (some (i+2))).reverse)):=w2.new hp1
    revert w3
    generalize hG3:up G2 p1 (.lst (cut (ws.map D.str) (some i) (some (i+2))).reverse)=G3
    intro w3
    have hl3:=w3.kp hla hl
    have e1:G3 p1=some (.lst (cut (ws.map D.str) (some i) (some (i+2))).reverse):=by rw [<- hG3];exact a4q
    refine aIq hl3 λ p2 hp2=>?_
    refine b4q a4q (b4q (by rw [a8q (by intro z;rw [<- z,e1] at hp2;cases hp2)];exact e1) ⟨cOq (by rw [aRq,aRq,List.length_reverse,List.length_map,List.length_map];omega),λ p3 hp3=>?_⟩)
    obtain ⟨-,g3,n32⟩:=c6q (o:=.lst []) hp3
    refine aIq (ds:=ws.map D.str) (by rw [a8q (by rintro rfl;rw [hl3] at g3;cases g3),a8q (by rintro rfl;rw [hl3] at hp2;cases hp2)];exact hl3) λ p4 hp4=>?_
    obtain ⟨-,g4,n43⟩:=c6q (o:=.lst []) hp4
    obtain ⟨-,g5,n42⟩:=c6q (o:=.lst []) g4
    refine cYq (G:=G3) (by rw [a8q (Ne.symm n43)];exact a4q) a4q ?_ (Sub.new (Sub.new (Sub.new (Sub.refl _) hp2) g3) g5) λ p hp=>?_
    . rw [aRq,aRq,aRq];simp only [List.length_append,List.length_map,List.length_reverse];omega
    . have e:cut (ws.map D.str) none (some i)++(cut (ws.map D.str) (some i) (some (i+2))).reverse++cut (ws.map D.str) (some (i+2)) none=(cut ws none (some i)++(cut ws (some i) (some (i+2))).reverse++cut ws (some (i+2)) none).map D.str:=by rw [aRq,aRq,aRq];simp
      rw [e]
      refine q p _ _ (w3.new hp) (nw w3.fd hp) a4q (bZq (bZq (bXq hg _ _) λ y hy=>bXq hg _ _ y (List.mem_reverse.mp hy)) (bXq hg _ _)) ?_
      simp only [List.length_append,List.length_reverse];omega
abbrev h1q:Stmt:=top 26
theorem qRq:FnScope ["_law_word_here"] ["_law_word_here"] (a6q h1q):=⟨rfl,rfl,rfl,by decide +kernel,rfl,by decide +kernel,by decide +kernel⟩
theorem rSq (B:Blt mg) (g_allin:Got P w K mg base 1 "_law_all_in" ["_law_text", "_law_signs"] (aSq K bVq)) (F:Fun K "_law_name" "_law_name" h1q f fd):FnOk P w K mg base CX0 2 f fd ["_law_word_here"] (aSq K hDq):=by
  refine okD (k:=1) F qRq (λ ds G DQ h=>?_) (λ cdv A outer s H E hr ds G DQ h=>?_)
  . obtain ⟨_,rfl,_⟩:=h;rfl
  obtain ⟨z,rfl,h1,h2,q⟩:=h
  refine ⟨_,(a5q (aVq (aHq tJq (a1q 0) (bFq (a0q a7q (a0q a7q (a0q a7q (a0q a7q (a0q a7q (a0q a7q (a0q a7q a2q)))))))) (by with_unfolding_all rfl)) (a9q (aFq bRq)) aPq)
      (a9q (aFq (lMq (dDq cIq (aMq aUq rfl B.len PySem.boot_len (a0q (a1q 0) a2q)) a3q (aGq _)) (g4q (aDq g_allin hr (by omega) rfl (a0q (a1q 0) (a0q a7q a2q)))))))),?_⟩
  unfold bHq at q
  rw [show decide (1<=(z.length:Int))=true by simp;omega] at q
  refine ⟨rfl,rfl,⟨λ c0=>?_,λ c0=>?_⟩⟩
  . have c:words7.contains z=true:=by rw [<- j3q];rw [Bool.false_xor] at c0;exact c0
    rw [c] at q
    refine Dr.of ?_
    simpa using q
  . have c:words7.contains z=false:=by rw [<- j3q];rw [Bool.false_xor] at c0;exact c0
    rw [c] at q
    refine ⟨cOq (by omega),⟨λ c1=>⟨z,letters,rfl,by omega,Dr.of ?_⟩,λ c1=>Dr.of ?_⟩⟩
    . rw [show decide ((z.length:Int)<=8)=true by have:=of_decide_eq_true c1;simp;omega] at q;simpa using q
    . rw [show decide ((z.length:Int)<=8)=false by have:=of_decide_eq_false c1;simp;omega] at q;exact q
abbrev kDq:Stmt:=top 27
theorem sc_lfig:FnScope ["_law_word_here", "_law_figures_here"] ["_law_word_here"] (a6q kDq):=⟨rfl,rfl,rfl,by decide +kernel,rfl,by decide +kernel,by decide +kernel⟩
theorem v8q (B:Blt mg) (g_allin:Got P w K mg base 1 "_law_all_in" ["_law_text", "_law_signs"] (aSq K bVq)) (F:Fun K "_law_figures" "_law_figures" kDq f fd):FnOk P w K mg base CX0 2 f fd ["_law_word_here"] (aSq K jVq):=by
  refine okD (k:=1) F sc_lfig (λ ds G DQ h=>?_) (λ cdv A outer s H E hr ds G DQ h=>?_)
  . obtain ⟨_,rfl,_⟩:=h;rfl
  obtain ⟨z,rfl,h1,h2,q⟩:=h
  refine ⟨_,(a5q (aKq (k:=1) sc_lfig.nd rfl (Or.inl rfl) (a1q 0))
      (a5q (aVq (aHq (aXq (aZq hr)) (bBq aix (a1q 0) a3q (λ _ _=>rfl)) a7q (aGq _)) (a9q (aKq (k:=1) sc_lfig.nd rfl (Or.inl rfl) (b1q aslS (a1q 0) (b7q a3q) bGq))) aPq)
      (a5q (aVq (AW.at (i7q (dXq (l4q g5q g5q a3q (aMq aUq rfl B.len PySem.boot_len (a0q (a1q 1) a2q)) a3q)) (gDq (dXq (bMq (aDq g_allin hr (by omega) rfl (a0q (a1q 1) (a0q a7q a2q)))))))) (a9q (aFq bRq)) aPq)
      (a9q (aFq (u1q (dDq (dOq (aZq hr)) (bBq aix (a1q 1) a3q (λ _ _=>rfl)) a7q (aGq _)) (g4q (dDq (aXq (aZq hr)) (a1q 0) a7q (aGq _))))))))),?_⟩
  have hbl:=oHq z
  unfold hMq at q
  obtain ⟨c0,hc0⟩:=tLq (z:=z) (i:=0) (by decide) (by omega)
  have hst:((⟨#[c0]⟩:Str)=="-")=Txt.startswith z "-":=by
    rw [zLq,b5q,o9q]
    cases e:z.cps.toList with
    | nil=>rw [e] at hc0;cases hc0
    | cons x l=>
      rw [e,show atI (x::l) 0=some x from cQq (j:=0) rfl] at hc0
      cases hc0
      simp
  refine ⟨cOq (by omega),c0,hc0,⟨λ hs=>⟨cOq (by omega),?_⟩,λ hs=>?_⟩⟩
  . have hs:Txt.startswith z "-" = true:=by rw [<- hst];exact hs
    rw [show Txt.slice z (some 1) none=bare z from (if_pos hs).symm]
    generalize bare z=y at q hbl ⊢
    refine ⟨cOq (by omega),⟨λ c1=>⟨λ c2=>⟨λ _=>Dr.of ?_,λ c=>qAq c⟩,λ c2=>⟨y,figs,rfl,by omega,⟨λ c3=>Dr.of ?_,λ c3=>?_⟩⟩⟩,λ c1=>⟨λ _=>⟨λ _=>Dr.of ?_,λ c=>qAq c⟩,λ c=>qAq c⟩⟩⟩
    . rw [c1,show decide ((y.length:Int)<=9)=false by simpa using c2] at q;exact q
    . rw [c1,show decide ((y.length:Int)<=9)=true by simpa using c2,show bSq y figs=false by simpa using c3] at q;exact q
    . rw [c1,show decide ((y.length:Int)<=9)=true by simpa using c2,show bSq y figs=true by simpa using c3] at q
      obtain ⟨ch,hch⟩:=tLq (z:=y) (i:=0) (by decide) (by have z1:=of_decide_eq_true c1;omega)
      have hn:=i9q hch
      rw [Bool.or_false] at hn
      rw [<- hn] at q
      refine ⟨cOq (by omega),ch,hch,⟨λ c4=>Dr.of ?_,λ c4=>Dr.of ?_⟩⟩
      . rw [show (!((⟨#[ch]⟩:Str)=="0"))=true from c4] at q;exact q
      . rw [show (!((⟨#[ch]⟩:Str)=="0"))=false from c4] at q;exact q
    . rw [c1] at q;exact q
  . have hs:Txt.startswith z "-" = false:=by rw [<- hst];exact hs
    rw [show bare z=z from if_neg (by rw [hs];decide)] at q
    refine ⟨cOq (by omega),⟨λ c1=>⟨λ c2=>⟨λ _=>Dr.of ?_,λ c=>qAq c⟩,λ c2=>⟨z,figs,rfl,by omega,⟨λ c3=>Dr.of ?_,λ c3=>?_⟩⟩⟩,λ c1=>⟨λ _=>⟨λ _=>Dr.of ?_,λ c=>qAq c⟩,λ c=>qAq c⟩⟩⟩
    . rw [c1,show decide ((z.length:Int)<=9)=false by simpa using c2] at q;exact q
    . rw [c1,show decide ((z.length:Int)<=9)=true by simpa using c2,show bSq z figs=false by simpa using c3] at q;exact q
    . rw [c1,show decide ((z.length:Int)<=9)=true by simpa using c2,show bSq z figs=true by simpa using c3] at q
      have hn:=i9q hc0
      rw [Bool.or_false] at hn
      rw [<- hn] at q
      refine ⟨cOq (by omega),c0,hc0,⟨λ c4=>Dr.of ?_,λ c4=>Dr.of ?_⟩⟩
      . rw [show (!((⟨#[c0]⟩:Str)=="0"))=true from c4] at q;exact q
      . rw [show (!((⟨#[c0]⟩:Str)=="0"))=false from c4] at q;exact q
    . rw [c1] at q;exact q
abbrev gQq:Stmt:=top 28
theorem sc_wrong:FnScope ["_law_words_here", "_law_many", "_law_left", "_law_want", "_law_at", "_law_word_here"] ["_law_words_here"] (a6q gQq):=⟨rfl,rfl,rfl,by decide +kernel,rfl,by decide +kernel,by decide +kernel⟩
theorem sFq (B:Blt mg) (g_lname:Got P w K mg base 2 "_law_name" ["_law_word_here"] (aSq K hDq)) (g_lfig:Got P w K mg base 2 "_law_figures" ["_law_word_here"] (aSq K jVq)) (F:Fun K "_law_wrong" "_law_wrong" gQq f fd):FnOk P w K mg base CX0 3 f fd ["_law_words_here"] (aSq K f7q):=by
  refine okD (k:=2) F sc_wrong (λ ds G DQ h=>?_) (λ cdv A outer s H E hr ds G DQ h=>?_)
  . obtain ⟨_,_,rfl,_⟩:=h;rfl
  obtain ⟨l,ws,rfl,hl,hg,hn,q⟩:=h
  refine ⟨_,(a5q (aKq (k:=1) sc_wrong.nd rfl (Or.inl rfl) (qZq (cBq (cBq (cBq (cBq (cBq (cBq (cBq uKq))))))) rfl rfl (by simp) (by simp) (by decide +kernel) (by decide)))
      (a5q (aKq (k:=2) sc_wrong.nd rfl (Or.inl rfl) (bCq (a0q a3q a2q)))
      (a5q (aKq (k:=3) sc_wrong.nd rfl (Or.inl rfl) a7q)
      (a5q (kVq PassesOwn.never rfl (l1q rfl B.enumerate (a0q (a1q 0) a2q)) (tPq (n:=2) rfl (eHq (bYq (k:=4) sc_wrong.nd rfl (Or.inl rfl)) (eHq (bYq (k:=5) sc_wrong.nd rfl (Or.inl rfl)) pSq))) (a9q (aVq (aHq (aXq (aZq hr)) (a1q 3) a7q (aGq _)) (a5q (aVq (aHq (m5q (aZq hr)) (a1q 5) (a1q 1) (by with_unfolding_all rfl)) (a9q (aFq (a1q 4))) aPq)
      (a5q (bJq (fLq PySem.F.plainAttrs_list PySem.F.slot_list_append PySem.F.type_list_append bOq (a1q 2) (a0q (l7q (aZq hr) (a1q 1) (a1q 5) (λ _ _=>rfl)) a2q)))
      (a9q (aKq (k:=3) sc_wrong.nd rfl (Or.inl rfl) (c4q (a0q a7q (a0q a7q a2q)) (cRq iVq rfl B.int PyProof.Rows.boot_int (a0q (dDq (aXq (aZq hr)) (a1q 5) a7q (aGq _)) a2q)) (λ _ _=>rfl)))))) (a9q (aVq (aHq (aXq (aZq hr)) (a1q 3) a7q (aGq _)) (a5q (aVq (dXq (bMq (aDq g_lname hr (by omega) rfl (a0q (a1q 5) a2q)))) (a9q (aFq (a1q 4))) aPq)
      (a9q (aKq (k:=3) sc_wrong.nd rfl (Or.inl rfl) a7q))) (a9q (aVq (aHq (aXq (aZq hr)) (bBq aix (a1q 2) (gSq cEq a3q) (λ _ _=>rfl)) a3q (aGq _)) (a5q (aVq (AW.at (i7q (aHq (dOq (aZq hr)) (a1q 5) a7q (aGq _)) (gDq (aHq (aXq (aZq hr)) (aMq aUq rfl B.len PySem.boot_len (a0q (a1q 2) a2q)) a3q (aGq _))))) (a9q (aFq (a1q 4))) aPq)
      (a9q (bJq (kKq PySem.F.plainAttrs_list PySem.F.slot_list_pop PySem.F.type_list_pop k8q (a1q 2))))) (a5q (aVq (AW.at (iHq (aHq (dOq (aZq hr)) (a1q 5) a7q (aGq _)) (iHq (dXq (bMq (aDq g_lname hr (by omega) rfl (a0q (a1q 5) a2q)))) (h0q (dXq (bMq (aDq g_lfig hr (by omega) rfl (a0q (a1q 5) a2q)))))))) (a9q (aFq (a1q 4))) aPq)
      (a5q (nNq (aJq aYq (bBq aix (a1q 2) (gSq cEq a3q) (λ _ _=>rfl)) a3q) (mOq (a1q 2) (gSq cEq a3q)))
      (a9q (aVq (aHq (aXq (aZq hr)) (a1q 5) a7q (aGq _)) (a9q (aKq (k:=3) sc_wrong.nd rfl (Or.inl rfl) a7q)) aPq)))))))))))
      (a5q (aVq (AW.at (iHq (aHq (aXq (aZq hr)) (a1q 3) a7q (aGq _)) (h0q (aHq (aXq (aZq hr)) (a1q 2) (bCq (a0q a3q a2q)) (aGq _))))) (a9q (aFq (gSq cEq a3q))) aPq)
      (a9q (aFq (aMq aUq rfl B.len PySem.boot_len (a0q (a1q 0) a2q))))))))),?_⟩
  intro p1 hp1 p2 hp2
  obtain ⟨-,g2,n21⟩:=c6q (o:=.lst []) hp2
  have hl1:up (up G p1 (.dK (kvD tab15))) p2 (.lst [.int 1]) l=some (.lst (ws.map D.str)):=by rw [a8q (by rintro rfl;rw [hl] at g2;cases g2),a8q (by rintro rfl;rw [hl] at hp1;cases hp1)];exact hl
  have p12:p1≠p2:=Ne.symm n21
  have wr:∀ {j:Nat},mIq (.one,[1]) ws 0=.inl j->DQ (.int (j:Int)) G:=λ{j} e=>by
    have z:dJq ws=(j:Int):=by unfold dJq;rw [e];rfl
    rw [z] at q;exact q
  refine aIq hl1 ⟨hl1,λ i ρ G'=>∃ (w:Wn) (n:Nat) (r:List Nat) (o4 o5:Option D),ρ=[some (.ref l),some (.ref p1),some (.ref p2),some (.str w.str),o4,o5]/\Sub G G'/\G' p1=some (.dK (kvD tab15))/\G' p2=some (.lst (lfD r++[.int (n:Int)]))/\r.length<=i/\mIq (.one,[1]) ws 0=mIq (w,n::r) (ws.drop i) i,⟨.one,1,[],none,none,rfl,Sub.new (Sub.new (Sub.refl _) hp1) g2,by rw [a8q p12];exact a4q,a4q,Nat.le_refl _,rfl⟩,?_,?_,?_⟩
  . rintro i ρ G' _ ⟨w,n,r,o4,o5,rfl,hs,_⟩
    exact hs _ _ hl
  . rintro i d ρ G' hd' ⟨w,n,r,o4,o5,rfl,hs,e1,e2,hr',hrun⟩
    obtain ⟨x,hx,rfl,hdr⟩:=aB4q (ws:=ws) hd'
    have gx:=hg x (List.mem_of_getElem? hx)
    have gl:=zYq gx
    have gl2:=gx.2
    have hi:i < ws.length:=(List.getElem?_eq_some_iff.mp hx).1
    rw [hdr,mIq] at hrun
    have e2':∀ (ds:List D),up G' p2 (.lst ds) p1=some (.dK (kvD tab15)):=λ ds=>by rw [a8q p12];exact e1
    have hs':∀ (ds:List D),Sub G (up G' p2 (.lst ds)):=λ ds=>Sub.new hs g2
    cases w with
    | key=>
      refine Br.yes rfl ?_
      by_cases hx7:x∈words7
      . refine e9q e1 ⟨.inr x,rfl,Br.no (by rw [jTq,if_pos hx7];rfl) ⟨aIq e2 trivial,e9q e1 ⟨.inr x,.int (cGq x),rfl,by rw [jTq,if_pos hx7],b4q e2 ⟨cLq (by rw [List.length_append,nFq,List.length_singleton];omega),?_⟩⟩⟩⟩
        have st:bIq (.key,n::r) x=some (if x = "way" then .name else .one,cGq x::n::r):=by simp only [bIq];rw [if_pos hx7]
        rw [st] at hrun
        by_cases hw:x = "way"
        . rw [if_pos hw] at hrun
          have hb:(x==("way" : Str))=true:=by simp [hw]
          show atS _ (if (x==("way" : Str))=true then 1 else 0) _ _
          rw [hb]
          exact gEq (Wk.of ⟨.name,cGq x,n::r,_,_,rfl,hs' _,e2' _,by rw [a4q,bTq],by simp;omega,hrun⟩)
        . rw [if_neg hw] at hrun
          have hb:(x==("way" : Str))=false:=by simp [hw]
          show atS _ (if (x==("way" : Str))=true then 1 else 0) _ _
          rw [hb]
          exact gEq (Wk.of ⟨.one,cGq x,n::r,_,_,rfl,hs' _,e2' _,by rw [a4q,bTq],by simp;omega,hrun⟩)
      . have st:bIq (.key,n::r) x=none:=by simp only [bIq];rw [if_neg hx7]
        rw [st] at hrun
        exact e9q e1 ⟨.inr x,rfl,Br.yes (by rw [jTq,if_neg hx7];rfl) ⟨G,hs,wr hrun⟩⟩
    | name=>
      refine Br.no rfl (Br.yes rfl ⟨x,rfl,gl,by omega,?_⟩)
      cases hn:bHq x with
      | false=>
        have st:bIq (.name,n::r) x=none:=by simp only [bIq];rw [hn];rfl
        rw [st] at hrun
        exact Br.yes rfl ⟨G,hs,wr hrun⟩
      | true=>
        have st:bIq (.name,n::r) x=some (.one,n::r):=by simp only [bIq];rw [if_pos hn]
        rw [st] at hrun
        exact Br.no rfl (Wk.of ⟨.one,n,r,_,_,rfl,hs,e1,e2,by omega,hrun⟩)
    | one=>
      refine Br.no rfl (Br.no rfl (e7q e2 (d:=.int (n:Int)) (dWq _ _) ?_))
      cases n with
      | zero=>
        refine Br.yes rfl ?_
        by_cases hc:x = ")"
        . have hb:(x==(")" : Str))=true:=by simp [hc]
          refine Br.no (by show (!(x==(")" : Str)))=false;rw [hb];rfl) (aIq e2 ?_)
          cases r with
          | nil=>
            have st:bIq (.one,[0]) x=none:=by simp [bIq]
            rw [st] at hrun
            exact Br.yes rfl ⟨G,hs,wr hrun⟩
          | cons m r=>
            have st:bIq (.one,0::m::r) x=some (.one,m::r):=by simp [bIq,hc]
            rw [st] at hrun
            refine Br.no (by simp [nFq];omega) ⟨aIq e2 trivial,b4q e2 ⟨lfD (m::r),_,rfl,Wk.of ⟨.one,m,r,_,_,rfl,hs' _,e2' _,by rw [a4q,bTq],by simp at hr';omega,hrun⟩⟩⟩
        . have hb:(x==(")" : Str))=false:=by simp [hc]
          have st:bIq (.one,0::r) x=none:=by simp [bIq,hc]
          rw [st] at hrun
          exact Br.yes (by show (!(x==(")" : Str)))=true;rw [hb];rfl) (Br.yes rfl ⟨G,hs,wr hrun⟩)
      | succ n=>
        refine Br.no (by show (((n+1:Nat):Int)==0)=false;simp;omega) ?_
        by_cases hp:x = "("
        . have hb:(x==("(" : Str))=true:=by simp [hp]
          have st:bIq (.one,(n+1)::r) x=some (.key,n::r):=by simp [bIq,hp]
          rw [st] at hrun
          refine Br.no (by show (!(x==("(" : Str)))=false;rw [hb];rfl) (Br.no rfl (e7q e2 (d:=.int ((n+1:Nat):Int)) (dWq _ _) (b4q e2 ⟨(lfD r).length,gMq _ _,Br.yes hb (Wk.of ⟨.key,n,r,_,_,rfl,hs' _,e2' _,?_,by omega,hrun⟩)⟩)))
          rw [a4q,eUq];show some (DO.lst (lfD r++[D.int (((n+1:Nat):Int) - 1)]))=_;rw [show (((n+1:Nat):Int) - 1)=(n:Int) by omega]
        . have hb:(x==("(" : Str))=false:=by simp [hp]
          refine Br.yes (by show (!(x==("(" : Str)))=true;rw [hb];rfl) ⟨x,rfl,gl,by omega,?_⟩
          cases hn:bHq x with
          | true=>
            have st:bIq (.one,(n+1)::r) x=some (.one,n::r):=by simp [bIq,hp,hn]
            rw [st] at hrun
            refine Br.no rfl (Br.no rfl (e7q e2 (d:=.int ((n+1:Nat):Int)) (dWq _ _) (b4q e2 ⟨(lfD r).length,gMq _ _,Br.no hb (Wk.of ⟨.one,n,r,_,_,rfl,hs' _,e2' _,?_,by omega,hrun⟩)⟩)))
            rw [a4q,eUq];show some (DO.lst (lfD r++[D.int (((n+1:Nat):Int) - 1)]))=_;rw [show (((n+1:Nat):Int) - 1)=(n:Int) by omega]
          | false=>
            refine Br.yes rfl ⟨x,rfl,gl,by omega,?_⟩
            cases hf:hMq x with
            | true=>
              have st:bIq (.one,(n+1)::r) x=some (.one,n::r):=by simp [bIq,hp,hf]
              rw [st] at hrun
              refine Br.no rfl (e7q e2 (d:=.int ((n+1:Nat):Int)) (dWq _ _) (b4q e2 ⟨(lfD r).length,gMq _ _,Br.no hb (Wk.of ⟨.one,n,r,_,_,rfl,hs' _,e2' _,?_,by omega,hrun⟩)⟩))
              rw [a4q,eUq];show some (DO.lst (lfD r++[D.int (((n+1:Nat):Int) - 1)]))=_;rw [show (((n+1:Nat):Int) - 1)=(n:Int) by omega]
            | false=>
              have st:bIq (.one,(n+1)::r) x=none:=by simp [bIq,hp,hf,hn]
              rw [st] at hrun
              exact Br.yes rfl ⟨G,hs,wr hrun⟩
  . rintro ρ G' ⟨w,n,r,o4,o5,hρ,hs,e1,e2,hr',hrun⟩
    have e9:(enL (ws.map D.str)).length=ws.length:=by simp [enL]
    have hrun2:mIq (.one,[1]) ws 0=mIq (w,n::r) (ws.drop (enL (ws.map D.str)).length) (enL (ws.map D.str)).length:=hrun
    rw [e9,List.drop_length,mIq] at hrun2
    have hw:dJq ws=if (w,n::r)=(Wn.one,[0]) then -1 else (ws.length:Int):=by unfold dJq;rw [hrun2];rfl
    subst hρ
    have hl2:=hs _ _ hl
    have fin:∀ {G2:DV},G2 l=some (.lst (ws.map D.str))->Sub G G2->(w,n::r)≠(Wn.one,[0])->onL G2 l λ ds=>Dr DQ (.int ds.length) G2:=λ h2 s2 hne=>aIq h2 ⟨G,s2,by rw [hw,if_neg hne] at q;rw [List.length_map];exact q⟩
    cases w with
    | key=>exact Br.no rfl (Br.no rfl (fin hl2 hs (λ z=>by cases (congrArg Prod.fst z:Wn.key=.one))))
    | name=>exact Br.no rfl (Br.no rfl (fin hl2 hs (λ z=>by cases (congrArg Prod.fst z:Wn.name=.one))))
    | one=>
      refine Br.yes rfl λ p3 hp3=>?_
      have hl3:up G' p3 (.lst [.int 0]) l=some (.lst (ws.map D.str)):=by rw [a8q (by rintro rfl;rw [hl2] at hp3;cases hp3)];exact hl2
      refine aIq (by rw [a8q (by rintro rfl;rw [e2] at hp3;cases hp3)];exact e2) (aIq a4q ⟨by rw [<- bTq];exact vLq _,rfl,by rw [<- bTq];exact aL8q _,?_⟩)
      have hE:=aL1q (n::r)
      rw [bTq] at hE
      by_cases hz:n::r=[0]
      . rw [decide_eq_true hz] at hE
        refine Br.yes hE ⟨G,Sub.trans hs (Sub.new (Sub.refl _) hp3),?_⟩
        rw [hw,if_pos (by rw [hz])] at q;exact q
      . rw [decide_eq_false hz] at hE
        exact Br.no hE (fin hl3 (Sub.trans hs (Sub.new (Sub.refl _) hp3)) (λ z=>hz (congrArg Prod.snd z)))
abbrev k3q:Stmt:=top 29
theorem sc_told:FnScope ["_law_text", "e", "_law_whole_here"] ["_law_text"] (a6q k3q):=⟨rfl,rfl,rfl,by decide +kernel,rfl,by decide +kernel,by decide +kernel⟩
theorem wBq (B:Blt mg) {cT cN cB:Addr} (G_read:GotX P w K mg base 6 "read" ["text"] (tBq K (eTq cT cN))) (EH_NoName:ExcH K cN) (EH_NoText:ExcH K cT) (m_NoName:mg "NoName" = some (.ref cN)) (m_NoText:mg "NoText" = some (.ref cT)) (m_BagError:mg "BagError" = some (.ref cB)) (kT:ExcK K cT) (kN:ExcK K cN) (eT:ExcN K cT "at") (eN:ExcN K cN "name") (sTT:PySem.W.subIn K (.ref cT) (.ref cT)=some true) (sNT:PySem.W.subIn K (.ref cN) (.ref cT)=some false) (sNN:PySem.W.subIn K (.ref cN) (.ref cN)=some true)
 (iTN:PySem.W.kitOne K (.ref cT) (.ref cN)=some false) (iTV:PySem.W.kitOne K (.ref cT) (.type "ValueError")=some true) (iNT:PySem.W.kitOne K (.ref cN) (.ref cT)=some false) (iNB:PySem.W.kitOne K (.ref cN) (.ref cB)=some true) (F:Fun K "_law_told" "_law_told" k3q f fd):FnOk P w K mg base CX0 8 f fd ["_law_text"] (aSq K hRq):=by
  refine okD (k:=7) F sc_told (λ ds G DQ h=>?_) (λ cdv A outer s H E hr ds G DQ h=>?_)
  . obtain ⟨_,rfl,_⟩:=h;rfl
  obtain ⟨z,rfl,hz,hlw,q⟩:=h
  refine ⟨_,(a5q (oKq G_read hr (by omega) rfl (λ _=>(a0q (a1q 0) a2q)) (uRq (i:=1) rfl rfl rfl EH_NoText rfl m_NoText sc_told.nd rfl rfl
        (λ e_ C_ fs_ fs1_ pn_ fa_ xp_ fk_=>(a5q (aKq (k:=2) sc_told.nd rfl (Or.inl rfl) (lMq (aMq f3q rfl B.isinstance PyProof.Rows.boot_isinstance (a0q (lCq (i:=1) fk_ fa_ xp_ rfl (Or.inl rfl)) (a0q (i1q rfl B.int PyProof.Rows.boot_int) a2q))) (g4q (oMq (aMq f3q rfl B.isinstance PyProof.Rows.boot_isinstance (a0q (lCq (i:=1) fk_ fa_ xp_ rfl (Or.inl rfl)) (a0q (i1q rfl B.bool PyProof.Rows.boot_bool) a2q)))))))
      (a9q (aFq (bFq (a0q (lCq (i:=1) fk_ fa_ xp_ rfl (Or.inl rfl)) (a0q (a1q 2) (a0q (aMq (cKq fk_ xp_) rfl B.isinstance PyProof.Rows.boot_isinstance (a0q (a1q 1) (a0q (cNq (d:=.ref _) (v:=.ref _) rfl m_NoName rfl (λ _=>rfl)) a2q))) (a0q (aMq (cKq fk_ xp_) rfl B.isinstance PyProof.Rows.boot_isinstance (a0q (a1q 1) (a0q (i1q rfl B.ValueError L2.v2q) a2q))) a2q)))))))))
        (uRq (i:=1) rfl rfl rfl EH_NoName rfl m_NoName sc_told.nd rfl rfl
        (λ e_ C_ fs_ fs1_ pn_ fa_ xp_ fk_=>(a9q (aFq (bFq (a0q (gSq cEq a3q) (a0q (aMq f3q rfl B.isinstance PyProof.Rows.boot_isinstance (a0q (lCq (i:=1) fk_ fa_ xp_ rfl (Or.inl rfl)) (a0q (i1q rfl B.str PyProof.Rows.boot_str) a2q))) (a0q (aMq (cKq fk_ xp_) rfl B.isinstance PyProof.Rows.boot_isinstance (a0q (a1q 1) (a0q (cNq (d:=.ref _) (v:=.ref _) rfl m_NoText rfl (λ _=>rfl)) a2q))) (a0q (aMq (cKq fk_ xp_) rfl B.isinstance PyProof.Rows.boot_isinstance (a0q (a1q 1) (a0q (cNq (d:=.ref _) (v:=.ref _) rfl m_BagError rfl (λ _=>rfl)) a2q))) a2q))))))))
        t5q)))
      (a9q (aFq (bFq (a0q (gSq cEq a3q) (a0q bRq (a0q bRq (a0q bRq a2q)))))))),?_⟩
  refine ⟨z,rfl,hz,hlw,λ i e=>?_,λ x e=>?_,λ t e=>?_⟩
  . rw [e] at q
    exact ⟨true,sTT,λ _=>⟨kT,λ a _=>⟨rfl,eT,.int i,rfl,⟨true,rfl,⟨λ _=>⟨rfl,eT,.int i,rfl,⟨false,rfl,⟨rfl,eT,.int i,rfl,gIq iTN (gIq iTV (Dr.of q))⟩⟩⟩,λ c=>(by cases c)⟩⟩⟩⟩,λ c=>(by cases c)⟩
  . rw [e] at q
    exact ⟨false,sNT,λ c=>(by cases c),λ _=>⟨true,sNN,λ _=>⟨kN,λ a _=>⟨rfl,eN,.str x,rfl,⟨true,rfl,gIq iNT (gIq iNB (Dr.of q))⟩⟩⟩,λ c=>(by cases c)⟩⟩
  . rw [e] at q
    exact Dr.of q
abbrev gNq:Stmt:=top 30
theorem sc_lbase:FnScope ["_law_text", "e"] ["_law_text"] (a6q gNq):=⟨rfl,rfl,rfl,by decide +kernel,rfl,by decide +kernel,by decide +kernel⟩
theorem r8q (B:Blt mg) {cT cN cB:Addr} (G_read:GotX P w K mg base 6 "read" ["text"] (tBq K (eTq cT cN))) (EH_BagError:ExcH K cB) (m_NoName:mg "NoName" = some (.ref cN)) (m_BagError:mg "BagError" = some (.ref cB)) (kT:ExcK K cT) (kN:ExcK K cN) (sTB:PySem.W.subIn K (.ref cT) (.ref cB)=some true) (sNB:PySem.W.subIn K (.ref cN) (.ref cB)=some true) (iNN:PySem.W.kitOne K (.ref cN) (.ref cN)=some true) (iTN:PySem.W.kitOne K (.ref cT) (.ref cN)=some false) (F:Fun K "_law_base" "_law_base" gNq f fd):FnOk P w K mg base CX0 8 f fd ["_law_text"] (aSq K hTq):=by
  refine okD (k:=7) F sc_lbase (λ ds G DQ h=>?_) (λ cdv A outer s H E hr ds G DQ h=>?_)
  . obtain ⟨_,rfl,_⟩:=h;rfl
  obtain ⟨z,rfl,hz,hlw,q⟩:=h
  refine ⟨_,(a5q (oKq G_read hr (by omega) rfl (λ _=>(a0q (a1q 0) a2q)) (uRq (i:=1) rfl rfl rfl EH_BagError rfl m_BagError sc_lbase.nd rfl rfl
        (λ e_ C_ fs_ fs1_ pn_ fa_ xp_ fk_=>(a9q (aFq (oMq (aMq (cKq fk_ xp_) rfl B.isinstance PyProof.Rows.boot_isinstance (a0q (a1q 1) (a0q (cNq (d:=.ref _) (v:=.ref _) rfl m_NoName rfl (λ _=>rfl)) a2q)))))))
        t5q))
      (a9q (aFq bRq))),?_⟩
  refine ⟨z,rfl,hz,hlw,λ i e=>?_,λ x e=>?_,λ t e=>?_⟩
  . rw [e] at q
    exact ⟨true,sTB,λ _=>⟨kT,λ a _=>gIq iTN (Dr.of q)⟩,λ c=>(by cases c)⟩
  . rw [e] at q
    exact ⟨true,sNB,λ _=>⟨kN,λ a _=>gIq iNN (Dr.of q)⟩,λ c=>(by cases c)⟩
  . rw [e] at q
    exact Dr.of q
abbrev fXq:Stmt:=top 31
theorem sc_law:FnScope ["_law_script", "_law_feed_here", "_law_program", "_law_words_here", "_law_turn", "_law_text", "_law_due"] ["_law_script"] (a6q fXq):=⟨rfl,rfl,rfl,by decide +kernel,rfl,by decide +kernel,by decide +kernel⟩
theorem xHq (B:Blt mg) (g_feed:Got P w K mg base 1 "_law_feed" ["_law_script", "_law_k"] (aSq K iSq)) (g_take:Got P w K mg base 1 "_law_take" ["_law_feed_here", "_law_many"] (aSq K cWq)) (g_any:Got P w K mg base 35 "_law_any" ["_law_feed_here", "_law_ways", "_law_room", "_law_deep"] (aSq K (i4q 31))) (g_lwords:Got P w K mg base 32 "_law_words" ["_law_program", "_law_names"] (aSq K (c8q 31))) (g_changed:Got P w K mg base 3 "_law_changed" ["_law_feed_here", "_law_words_here"] (aSq K d0q)) (g_wrong:Got P w K mg base 3 "_law_wrong" ["_law_words_here"] (aSq K f7q)) (g_told:Got P w K mg base 8 "_law_told" ["_law_text"] (aSq K hRq)) (g_read:Got P w K mg base 6 "read" ["text"] (aSq K kJq)) (g_lbase:Got P w K mg base 8 "_law_base" ["_law_text"] (aSq K hTq)) (F:Fun K "law" "law" fXq f fd):FnOk P w K mg base CX0 120 f fd ["_law_script"] (aSq K t2q):=by
  refine okD (k:=119) F sc_law (λ ds G DQ h=>?_) (λ cdv A outer s H E hr ds G DQ h=>?_)
  . obtain ⟨_,rfl,_⟩:=h;rfl
  obtain ⟨ns,rfl,hl,q⟩:=h
  refine ⟨_,(a5q (aKq (k:=1) sc_law.nd rfl (Or.inl rfl) (aDq g_feed hr (by omega) rfl (a0q (a1q 0) (a0q a3q a2q))))
      (a5q (aKq (k:=2) sc_law.nd rfl (Or.inl rfl) (aDq g_any hr (by omega) rfl (a0q (a1q 1) (a0q a3q (a0q (aJq aOq a3q (aDq g_take hr (by omega) rfl (a0q (a1q 1) (a0q a3q a2q)))) (a0q a3q a2q))))))
      (a5q (aKq (k:=3) sc_law.nd rfl (Or.inl rfl) (aDq g_lwords hr (by omega) rfl (a0q (a1q 2) (a0q (bCq (a0q a7q (a0q a7q (a0q a7q (a0q a7q (a0q a7q a2q)))))) a2q))))
      (a5q (kVq PassesOwn.never rfl (pUq rfl B.range (a0q (c4q (a0q a3q (a0q a3q (a0q a3q (a0q a3q (a0q a3q (a0q a3q (a0q a3q (a0q a3q a2q)))))))) (aDq g_take hr (by omega) rfl (a0q (a1q 1) (a0q a3q a2q))) (λ _ _=>rfl)) a2q)) (bYq (k:=4) sc_law.nd rfl (Or.inl rfl)) (a9q (aKq (k:=3) sc_law.nd rfl (Or.inl rfl) (aDq g_changed hr (by omega) rfl (a0q (a1q 1) (a0q (a1q 3) a2q))))))
      (a5q (aKq (k:=5) sc_law.nd rfl (Or.inl rfl) (fLq PySem.F.plainAttrs_str PySem.F.slot_str_join PySem.F.type_str_join rHq (c4q (a0q a7q (a0q a7q (a0q a7q (a0q a7q a2q)))) (aDq g_take hr (by omega) rfl (a0q (a1q 1) (a0q a3q a2q))) (λ _ _=>rfl)) (a0q (a1q 3) a2q)))
      (a5q (aKq (k:=6) sc_law.nd rfl (Or.inl rfl) (bFq (a0q (aDq g_wrong hr (by omega) rfl (a0q (a1q 3) a2q)) (a0q bRq (a0q bRq (a0q bRq a2q))))))
      (a5q (aVq (AW.at (i7q (aHq (dOq (aZq hr)) (aDq g_told hr (by omega) rfl (a0q (a1q 5) a2q)) (a1q 6) (aGq _)) (i7q (aHq (dOq (aZq hr)) (aDq g_read hr (by omega) rfl (a0q a7q a2q)) (bFq (a0q a7q (a0q (bFq (a0q a7q (a0q a3q a2q))) a2q))) (aGq _)) (gDq (aHq (dOq (aZq hr)) (aDq g_told hr (by omega) rfl (a0q (a1q 5) a2q)) (a1q 6) (aGq _)))))) (a9q (aFq bRq)) aPq)
      (a9q (aFq (u1q (dDq cIq (bBq aix (a1q 6) a3q (λ _ _=>rfl)) a3q (aGq _)) (g4q (aDq g_lbase hr (by omega) rfl (a0q (a1q 5) a2q))))))))))))),?_⟩
  refine ⟨ns,rfl,hl,by omega,by omega,λ a xa ya ha=>⟨.up,by decide,by decide,λ m G1 u1 m0 m1=>⟨a,0,1+m,26,rfl,u1.fd,by decide,by omega,by omega,by omega,λ p G2 u2 z=>λ pn hpn=>?_⟩⟩⟩
  have hF2:=(u1.trans u2).fd
  have na:pn≠a:=by rintro rfl;obtain ⟨x,y,e⟩:=hF2;rw [hpn] at e;cases e
  have zs:=z.sz
  have zd:=z.dp
  refine ⟨p,pn,["x", "ways", "b", "abcdefgh", "givex"],rfl,a4q,rfl,by decide +kernel,⟨_,z.cl⟩,by omega,by omega,λ l0 ws0 G3 s3 np3 e3 gw3 lw3=>?_⟩
  have hF3:Fd G3 a:=by obtain ⟨x,y,e⟩:=hF2;exact ⟨x,y,s3 _ _ (by rw [a8q na.symm];exact e)⟩
  have l0a:l0≠a:=by rintro rfl;obtain ⟨x,y,e⟩:=hF2;rw [a8q na.symm,e] at np3;cases np3
  refine ⟨hF3,by decide,by decide,λ d G4 u4 d0 d1=>gEq (jXq d0 d1 λ y hy=>?_)⟩
  obtain ⟨k,rfl,hk⟩:∃ k:Nat,y=.int k/\k<=2:=by
    simp only [List.mem_cons,List.not_mem_nil,or_false] at hy
    rcases hy with rfl | rfl | rfl | rfl | rfl | rfl | rfl | rfl<;>first | exact ⟨0,rfl,by decide⟩ | exact ⟨1,rfl,by decide⟩ | exact ⟨2,rfl,by decide⟩
  have hrl:(c2q 0 (k:Int).toNat).length=k:=by simp [c2q]
  refine vTq (by omega) ⟨λ i ρ G'=>∃ (o4:Option D) (lc:Addr) (ws:List Str),ρ=[some (.frl (ns.map D.int)),some (.ref a),some p.enc,some (.ref lc),o4,none,none]/\Fd G' a/\lc≠a/\G' lc=some (.lst (ws.map D.str))/\Gws ws/\ws.length<=204+2 * i,⟨none,l0,ws0,rfl,u4.fd,l0a,u4.kp l0a e3,gw3,by omega⟩,λ _ _ _ _ _=>trivial,?_,?_⟩
  . rintro i d ρ G' hd' ⟨o4,lc,ws,rfl,hF,hla,e,hg,hn⟩
    have hi:i < (c2q 0 (k:Int).toNat).length:=(List.getElem?_eq_some_iff.mp hd').1
    exact ⟨a,lc,ws,rfl,hF,hla,e,hg,by omega,λ p' ws' G2 w' hp' e' g' l'=>Wk.of ⟨_,p',ws',rfl,w'.fd,hp',e',g',by omega⟩⟩
  . rintro ρ G' ⟨o4,lc,ws,hρ,hF,hla,e,hg,hn⟩
    have hn2:ws.length<=204+2 * (c2q 0 (k:Int).toNat).length:=hn
    subst hρ
    refine ⟨hF,by decide,by decide,λ d5 G5 u5 d50 d51=>gEq (jXq d50 d51 λ y hy=>?_)⟩
    obtain ⟨g,rfl,hgs⟩:∃ g:Str,y=.str g/\L3.pVq g=true:=by
      simp only [List.mem_cons,List.not_mem_nil,or_false] at hy
      rcases hy with rfl | rfl | rfl | rfl<;>exact ⟨_,rfl,seps _ (by simp)⟩
    have e5:=u5.kp hla e
    obtain ⟨j1,j2⟩:=pIq hgs hg
    have hsum:=pKq hg
    have hgl:g.length<=3:=by
      unfold L3.pVq at hgs
      rw [Bool.and_eq_true] at hgs
      exact Nat.le_of_ble_eq_true hgs.2
    refine ⟨trivial,aIq e5 ⟨ws,rfl,by omega,by omega,?_⟩⟩
    have hW:lSq (eEq (Txt.join g ws))=dJq ws:=by unfold eEq;rw [j1];exact pJq ws
    have hwl:∀ x∈wds [] (Txt.join g ws).cps.toList,x.length<=1000:=λ x hx=>by
      rw [j1] at hx
      obtain ⟨y,hy,rfl⟩:=List.mem_map.mp hx
      have:=(hg y hy).2
      exact Nat.le_trans this (by decide)
    have hlen:(Txt.join g ws).length<=6000:=by omega
    revert hW hwl hlen
    generalize Txt.join g ws=tx
    intro hW hwl hlen
    refine ⟨lc,ws,rfl,e5,hg,by omega,?_⟩
    have told:∀ {R:DK} {G0:DV},R (.bl false) G0->eqR (λ x=>!x) (duD (lSq (eEq tx))) (duD (dJq ws)) G0 R:=λ h=>by
      rw [hW]
      refine nPq rfl rfl (aN3q _) ?_
      rw [hQq rfl];exact h
    refine ⟨tx,rfl,hlen,hwl,told (Br.no rfl ⟨_,_,rfl,uMq,oAq,sRq,nPq rfl rfl (by decide) ?_⟩)⟩
    refine Br.no rfl ⟨tx,rfl,hlen,hwl,told (Br.no rfl ?_)⟩
    refine ⟨λ c=>Dr.of (q _),λ c=>⟨tx,rfl,hlen,hwl,?_⟩⟩
    rw [vAq (by rw [hW];have:=of_decide_eq_false c;omega)]
    exact Dr.of (q _)
end
end KB
namespace KB
open PySem L2 L3
set_option maxHeartbeats 4000000
theorem aE8q {l:PySem.W.OpenLaw} {w:World} {K:PySem.W.Frag} {h:Heap} {mg:Str->Option Value} {fa C_Reading:Addr} (X:K.In h) (G:h.Ns mainGlobals mg) (hfa:mg "law" = some (.ref fa))
 (aC_Reading:PySem.W.nsIn K mainGlobals "Reading" = some (some (.ref C_Reading))) (pg_Reading:PySem.W.plainGet K C_Reading Str.empty=true) (hd_Reading:PySem.W.hasDictIn K C_Reading=true) (po_Reading:PySem.W.plainOver K C_Reading=true) (sa_Reading:PySem.W.findIn K (.ref C_Reading) "__setattr__" = some (some (.builtin "object.__setattr__"))) (n_Reading_awaited:PySem.W.findIn K (.ref C_Reading) "awaited" = some none) (n_Reading_brackets:PySem.W.findIn K (.ref C_Reading) "brackets" = some none) (n_Reading_ways_around:PySem.W.findIn K (.ref C_Reading) "ways_around" = some none) (n_Reading_bound:PySem.W.findIn K (.ref C_Reading) "bound" = some none) (n_Reading_unbound:PySem.W.findIn K (.ref C_Reading) "unbound" = some none) (n_Reading_result:PySem.W.findIn K (.ref C_Reading) "result" = some none) (mk_Reading:PySem.W.makesIn K C_Reading=true) (kc_Reading:PySem.W.keepIn K (.ref C_Reading)=true) (d0:DT K "words_of" h2q) (d1:DT K "is_name" eMq) (d2:DT K "is_figures" gPq) (d3:DT K "is_whole_text" jDq) (d4:DT K "made_of" eVq) (d5:DT K "read" jRq) (d6:DM K C_Reading "__init__" "Reading.__init__" eNq) (d7:DM K C_Reading "take" "Reading.take" fEq) (d8:DM K C_Reading "take_program" "Reading.take_program" fGq) (d9:DM K C_Reading "take_word" "Reading.take_word" fHq) (d10:DM K C_Reading "take_name" "Reading.take_name" fBq) (d11:DM K C_Reading "take_bracket" "Reading.take_bracket" h3q) (d12:DM K C_Reading "number_of" "Reading.number_of" hIq) (d13:DM K C_Reading "finish" "Reading.finish" hVq) (d14:DT K "_law_feed" jMq) (d15:DT K "_law_take" jLq) (d16:DT K "_law_whole" gTq) (d17:DT K "_law_leaf" jCq) (d18:DT K "_law_any" mMq) (d19:DT K "_law_words" ePq) (d20:DT K "_law_word" gVq) (d21:DT K "_law_changed" dQq) (d22:DT K "_law_all_in" gRq) (d23:DT K "_law_name" h1q) (d24:DT K "_law_figures" kDq) (d25:DT K "_law_wrong" gQq) (d26:DT K "_law_told" k3q) (d27:DT K "_law_base" gNq) (d28:DT K "law" fXq) (z0:PySem.W.nsIn K mainGlobals "len" = some none) (z1:PySem.W.nsIn K mainGlobals "isinstance" = some none) (z2:PySem.W.nsIn K mainGlobals "range" = some none) (z3:PySem.W.nsIn K mainGlobals "int" = some none) (z4:PySem.W.nsIn K mainGlobals "bool" = some none) (z5:PySem.W.nsIn K mainGlobals "str" = some none) (z6:PySem.W.nsIn K mainGlobals "tuple" = some none) (z7:PySem.W.nsIn K mainGlobals "list" = some none) (z8:PySem.W.nsIn K mainGlobals "zip" = some none) (z9:PySem.W.nsIn K mainGlobals "sorted" = some none) (z10:PySem.W.nsIn K mainGlobals "all" = some none) (z11:PySem.W.nsIn K mainGlobals "max" = some none) (z12:PySem.W.nsIn K mainGlobals "reversed" = some none) (z13:PySem.W.nsIn K mainGlobals "enumerate" = some none) (z14:PySem.W.nsIn K mainGlobals "ValueError" = some none)
    {aI:Addr} (aI0:PySem.W.nsIn K mainGlobals "INNER_COUNTS" = some (some (.ref aI)))
    {eaI:Array DictEntry} {jaI:Nat} (aI1:K.lookup aI=some ⟨.type "dict", none,.dict eaI jaI,#[]⟩)
    (aI2:(aI==sysModules)=false)
 (aI3:PySem.W.KeysLit w.params eaI.toList)
    (aI4:Paired (λ(kv:Str × V) (e:DictEntry)=>(∃ t1,e.key=.str kv.1 t1)/\RelV kv.2 e.val) aC9q eaI.toList)
    {tL:Tok} (gL:PySem.W.nsIn K mainGlobals "LETTERS" = some (some (.str letters tL)))
    {tF:Tok} (gF:PySem.W.nsIn K mainGlobals "FIGURES" = some (some (.str figs tF)))
    {cB nBE:Addr} {es2:Array DictEntry} {ep2:Nat} {nsl2:Array (Option Value)} {c0 nc2:Value} {dd2 nd2:Option Addr} {cdB:ClassData} {sl2:Array (Option Value)}
 (cB_0:PySem.W.nsIn K mainGlobals "BagError" = some (some (.ref cB)))
    (x4:List.lookup cB K=some ⟨c0,dd2,.cls cdB,sl2⟩)
    (x5:cdB.ns=nBE)
    (x6:List.lookup nBE K=some ⟨nc2,nd2,.dict es2 ep2,nsl2⟩)
    (x7:esOk es2=true)
 (cB_cl:PySem.W.clsIn K cB=some cdB)
 (cB_ty:PySem.W.typeIn K (.ref cB)=some (.type "type"))
 (cB_be:PySem.W.subIn K (.ref cB) (.type "BaseException")=some true)
 (cB_hg:PySem.W.specialIn K (.ref cB) "__getattribute__" = some (some (.builtin "type.__getattribute__")))
 (cB_hr:PySem.W.readsIn K cB (.type "type")=true)
 (cB_hf:PySem.W.findCls K (.ref cB) (.type "type") "__init__" = some (.val (.builtin "ValueError.__init__")))
 (e3:PySem.W.specialIn K (.builtin "object.__class__") "__get__" = some (some (.builtin "getset_descriptor.__get__")))
 (e4:PySem.W.takesIn K (.builtin "object.__class__")=some true)
    {cT n_cT f_cT:Addr} {nm_cT q_cT:Str} {bs_cT:List Value} {hd_cT:Bool} {sn_cT:List Str} {sub_cT:List Value} {ab_cT:Bool} {col_cT:Option Bool} {dd_cT:Option Addr} {k0_cT k1_cT k2_cT k3_cT k5_cT:Option Value} {nc_cT:Value} {nd_cT:Option Addr} {es_cT:Array DictEntry} {ep_cT:Nat} {nsl_cT:Array (Option Value)} {od_cT an_cT:Option Addr} {kV_cT doc_cT pm_cT cdv_cT ct_cT:Value} {osl_cT:Array (Option Value)} {cd_cT:ClassData}
 (cT_0:PySem.W.nsIn K mainGlobals "NoText" = some (some (.ref cT)))
    (cT_1:List.lookup cT K=some (excClassObj nm_cT q_cT cT n_cT bs_cT (.ref cB::sNq) hd_cT sn_cT sub_cT ab_cT col_cT dd_cT k0_cT k1_cT k2_cT k3_cT k5_cT "ValueError.__new__"))
    (cT_2:List.lookup n_cT K=some ⟨nc_cT,nd_cT,.dict es_cT ep_cT,nsl_cT⟩)
    (cT_3:iYq es_cT=true)
    (cT_8:PySem.nsFind es_cT "__init__" = some (.ref f_cT))
    (cT_9:List.lookup f_cT K=some ⟨.type "function", od_cT,.func (PySem.W.fnOf "__init__" "NoText.__init__" (bNq c5q) (b0q c5q) (a6q c5q) .none kV_cT doc_cT pm_cT an_cT cdv_cT ct_cT),osl_cT⟩)
 (cT_c:PySem.W.codeIn K cdv_cT "NoText.__init__" = true)
 (cT_k:PySem.W.keepIn K (.ref f_cT)=true)
 (cT_p:PySem.W.keepIn K (.ref cT)=true)
 (cT_sa:PySem.W.findIn K (.ref cT) "__setattr__" = some (some (.builtin "object.__setattr__")))
 (cT_cl:PySem.W.clsIn K cT=some cd_cT)
    (cT_mr:cd_cT.mro=.ref cT::.ref cB::y3q)
    (cT_hd:cd_cT.hasDict=true)
 (cT_na:PySem.W.findIn K (.ref cT) "at" = some none)
 (cT_ty:PySem.W.typeIn K (.ref cT)=some (.type "type"))
 (cT_be:PySem.W.subIn K (.ref cT) (.type "BaseException")=some true)
 (cT_e0:PySem.W.findIn K (.ref cT) "__getattribute__" = some (some (.builtin "BaseException.__getattribute__")))
 (cT_e1:PySem.W.findIn K (.ref cT) "__getattr__" = some none)
 (cT_e2:PySem.W.findIn K (.ref cT) "__class__" = some (some (.builtin "object.__class__")))
 (cT_e5:PySem.W.mroIn K cT (.type "object")=some true)
    {cN n_cN f_cN:Addr} {nm_cN q_cN:Str} {bs_cN:List Value} {hd_cN:Bool} {sn_cN:List Str} {sub_cN:List Value} {ab_cN:Bool} {col_cN:Option Bool} {dd_cN:Option Addr} {k0_cN k1_cN k2_cN k3_cN k5_cN:Option Value} {nc_cN:Value} {nd_cN:Option Addr} {es_cN:Array DictEntry} {ep_cN:Nat} {nsl_cN:Array (Option Value)} {od_cN an_cN:Option Addr} {kV_cN doc_cN pm_cN cdv_cN ct_cN:Value} {osl_cN:Array (Option Value)} {cd_cN:ClassData}
 (cN_0:PySem.W.nsIn K mainGlobals "NoName" = some (some (.ref cN)))
    (cN_1:List.lookup cN K=some (excClassObj nm_cN q_cN cN n_cN bs_cN (.ref cB::sNq) hd_cN sn_cN sub_cN ab_cN col_cN dd_cN k0_cN k1_cN k2_cN k3_cN k5_cN "ValueError.__new__"))
    (cN_2:List.lookup n_cN K=some ⟨nc_cN,nd_cN,.dict es_cN ep_cN,nsl_cN⟩)
    (cN_3:iYq es_cN=true)
    (cN_8:PySem.nsFind es_cN "__init__" = some (.ref f_cN))
    (cN_9:List.lookup f_cN K=some ⟨.type "function", od_cN,.func (PySem.W.fnOf "__init__" "NoName.__init__" (bNq c1q) (b0q c1q) (a6q c1q) .none kV_cN doc_cN pm_cN an_cN cdv_cN ct_cN),osl_cN⟩)
 (cN_c:PySem.W.codeIn K cdv_cN "NoName.__init__" = true)
 (cN_k:PySem.W.keepIn K (.ref f_cN)=true)
 (cN_p:PySem.W.keepIn K (.ref cN)=true)
 (cN_sa:PySem.W.findIn K (.ref cN) "__setattr__" = some (some (.builtin "object.__setattr__")))
 (cN_cl:PySem.W.clsIn K cN=some cd_cN)
    (cN_mr:cd_cN.mro=.ref cN::.ref cB::y3q)
    (cN_hd:cd_cN.hasDict=true)
 (cN_na:PySem.W.findIn K (.ref cN) "name" = some none)
 (cN_ty:PySem.W.typeIn K (.ref cN)=some (.type "type"))
 (cN_be:PySem.W.subIn K (.ref cN) (.type "BaseException")=some true)
 (cN_e0:PySem.W.findIn K (.ref cN) "__getattribute__" = some (some (.builtin "BaseException.__getattribute__")))
 (cN_e1:PySem.W.findIn K (.ref cN) "__getattr__" = some none)
 (cN_e2:PySem.W.findIn K (.ref cN) "__class__" = some (some (.builtin "object.__class__")))
 (cN_e5:PySem.W.mroIn K cN (.type "object")=some true)
 (s_cN_cN:PySem.W.subIn K (.ref cN) (.ref cN)=some true)
 (s_cT_cN:PySem.W.subIn K (.ref cT) (.ref cN)=some false)
 (s_cT_cT:PySem.W.subIn K (.ref cT) (.ref cT)=some true)
 (s_cT_cB:PySem.W.subIn K (.ref cT) (.ref cB)=some true)
 (s_cN_cB:PySem.W.subIn K (.ref cN) (.ref cB)=some true)
 (s_cN_cT:PySem.W.subIn K (.ref cN) (.ref cT)=some false)
 (s_cN_VE:PySem.W.subIn K (.ref cN) (.type "ValueError")=some true)
    (d_cN_cB:(cN==cB)=false)
    (d_cN_cT:(cN==cT)=false)
 (s_cT_VE:PySem.W.subIn K (.ref cT) (.type "ValueError")=some true)
    (d_cT_cN:(cT==cN)=false)
    : ∃ fd:FuncData,(∀ (s:Shared) (v:Value),BindsTo s fd ⟨[v],[]⟩ [("_law_script", v)])/\∀ base:Heap,K.In base->base.Ns mainGlobals mg->FnOk l.prog w K mg base CX0 120 fa fd ["_law_script"] (lDq K):=by
  have c_Reading:Cls K C_Reading:=⟨pg_Reading,hd_Reading,po_Reading,sa_Reading⟩
  have m_Reading:=PySem.W.mg_of X G aC_Reading
  obtain ⟨f0,_,a_words,F_words⟩:=d0.ok
  have b_words:=F_words.binds (ps:=fNq) λ _ _ _ _ _ _ us hl=>match us,hl with | [_],_=>rfl
  have m_words:=PySem.W.mg_of X G a_words
  have kp_words:=F_words.kp
  obtain ⟨f1,_,a_isname,F_isname⟩:=d1.ok
  have b_isname:=F_isname.binds (ps:=e8q) λ _ _ _ _ _ _ us hl=>match us,hl with | [_],_=>rfl
  have m_isname:=PySem.W.mg_of X G a_isname
  have kp_isname:=F_isname.kp
  obtain ⟨f2,_,a_isfig,F_isfig⟩:=d2.ok
  have b_isfig:=F_isfig.binds (ps:=fOq) λ _ _ _ _ _ _ us hl=>match us,hl with | [_],_=>rfl
  have m_isfig:=PySem.W.mg_of X G a_isfig
  have kp_isfig:=F_isfig.kp
  obtain ⟨f3,_,a_iswt,F_iswt⟩:=d3.ok
  have b_iswt:=F_iswt.binds (ps:=fZq) λ _ _ _ _ _ _ us hl=>match us,hl with | [_,_],_=>rfl
  have m_iswt:=PySem.W.mg_of X G a_iswt
  have kp_iswt:=F_iswt.kp
  obtain ⟨f4,_,a_madeof,F_madeof⟩:=d4.ok
  have b_madeof:=F_madeof.binds (ps:=e3q) λ _ _ _ _ _ _ us hl=>match us,hl with | [_,_],_=>rfl
  have m_madeof:=PySem.W.mg_of X G a_madeof
  have kp_madeof:=F_madeof.kp
  obtain ⟨f5,_,a_read,F_read⟩:=d5.ok
  have b_read:=F_read.binds (ps:=g9q) λ _ _ _ _ _ _ us hl=>match us,hl with | [_],_=>rfl
  have m_read:=PySem.W.mg_of X G a_read
  have kp_read:=F_read.kp
  obtain ⟨f6,_,mt_r_init,F_r_init⟩:=d6.ok
  have b_r_init:=F_r_init.binds (ps:=eCq) λ _ _ _ _ _ _ us hl=>match us,hl with | [_],_=>rfl
  obtain ⟨f7,_,mt_r_take,F_r_take⟩:=d7.ok
  have b_r_take:=F_r_take.binds (ps:=dZq) λ _ _ _ _ _ _ us hl=>match us,hl with | [_,_],_=>rfl
  obtain ⟨f8,_,mt_r_prog,F_r_prog⟩:=d8.ok
  have b_r_prog:=F_r_prog.binds (ps:=e1q) λ _ _ _ _ _ _ us hl=>match us,hl with | [_,_],_=>rfl
  obtain ⟨f9,_,mt_r_word,F_r_word⟩:=d9.ok
  have b_r_word:=F_r_word.binds (ps:=eBq) λ _ _ _ _ _ _ us hl=>match us,hl with | [_,_],_=>rfl
  obtain ⟨f10,_,mt_r_name,F_r_name⟩:=d10.ok
  have b_r_name:=F_r_name.binds (ps:=e6q) λ _ _ _ _ _ _ us hl=>match us,hl with | [_,_],_=>rfl
  obtain ⟨f11,_,mt_r_brk,F_r_brk⟩:=d11.ok
  have b_r_brk:=F_r_brk.binds (ps:=f4q) λ _ _ _ _ _ _ us hl=>match us,hl with | [_,_],_=>rfl
  obtain ⟨f12,_,mt_r_num,F_r_num⟩:=d12.ok
  have b_r_num:=F_r_num.binds (ps:=fIq) λ _ _ _ _ _ _ us hl=>match us,hl with | [_,_],_=>rfl
  obtain ⟨f13,_,mt_r_fin,F_r_fin⟩:=d13.ok
  have b_r_fin:=F_r_fin.binds (ps:=eSq) λ _ _ _ _ _ _ us hl=>match us,hl with | [_,_],_=>rfl
  obtain ⟨f14,_,a_feed,F_feed⟩:=d14.ok
  have b_feed:=F_feed.binds (ps:=fTq) λ _ _ _ _ _ _ us hl=>match us,hl with | [_,_],_=>rfl
  have m_feed:=PySem.W.mg_of X G a_feed
  have kp_feed:=F_feed.kp
  obtain ⟨f15,_,a_take,F_take⟩:=d15.ok
  have b_take:=F_take.binds (ps:=g2q) λ _ _ _ _ _ _ us hl=>match us,hl with | [_,_],_=>rfl
  have m_take:=PySem.W.mg_of X G a_take
  have kp_take:=F_take.kp
  obtain ⟨f16,_,a_whole,F_whole⟩:=d16.ok
  have b_whole:=F_whole.binds (ps:=f8q) λ _ _ _ _ _ _ us hl=>match us,hl with | [_],_=>rfl
  have m_whole:=PySem.W.mg_of X G a_whole
  have kp_whole:=F_whole.kp
  obtain ⟨f17,_,a_leaf,F_leaf⟩:=d17.ok
  have b_leaf:=F_leaf.binds (ps:=g3q) λ _ _ _ _ _ _ us hl=>match us,hl with | [_,_],_=>rfl
  have m_leaf:=PySem.W.mg_of X G a_leaf
  have kp_leaf:=F_leaf.kp
  obtain ⟨f18,_,a_any,F_any⟩:=d18.ok
  have b_any:=F_any.binds (ps:=iCq) λ _ _ _ _ _ _ us hl=>match us,hl with | [_,_,_,_],_=>rfl
  have m_any:=PySem.W.mg_of X G a_any
  have kp_any:=F_any.kp
  obtain ⟨f19,_,a_lwords,F_lwords⟩:=d19.ok
  have b_lwords:=F_lwords.binds (ps:=e5q) λ _ _ _ _ _ _ us hl=>match us,hl with | [_,_],_=>rfl
  have m_lwords:=PySem.W.mg_of X G a_lwords
  have kp_lwords:=F_lwords.kp
  obtain ⟨f20,_,a_lword,F_lword⟩:=d20.ok
  have b_lword:=F_lword.binds (ps:=fCq) λ _ _ _ _ _ _ us hl=>match us,hl with | [_],_=>rfl
  have m_lword:=PySem.W.mg_of X G a_lword
  have kp_lword:=F_lword.kp
  obtain ⟨f21,_,a_changed,F_changed⟩:=d21.ok
  have b_changed:=F_changed.binds (ps:=dAq) λ _ _ _ _ _ _ us hl=>match us,hl with | [_,_],_=>rfl
  have m_changed:=PySem.W.mg_of X G a_changed
  have kp_changed:=F_changed.kp
  obtain ⟨f22,_,a_allin,F_allin⟩:=d22.ok
  have b_allin:=F_allin.binds (ps:=fKq) λ _ _ _ _ _ _ us hl=>match us,hl with | [_,_],_=>rfl
  have m_allin:=PySem.W.mg_of X G a_allin
  have kp_allin:=F_allin.kp
  obtain ⟨f23,_,a_lname,F_lname⟩:=d23.ok
  have b_lname:=F_lname.binds (ps:=f2q) λ _ _ _ _ _ _ us hl=>match us,hl with | [_],_=>rfl
  have m_lname:=PySem.W.mg_of X G a_lname
  have kp_lname:=F_lname.kp
  obtain ⟨f24,_,a_lfig,F_lfig⟩:=d24.ok
  have b_lfig:=F_lfig.binds (ps:=g8q) λ _ _ _ _ _ _ us hl=>match us,hl with | [_],_=>rfl
  have m_lfig:=PySem.W.mg_of X G a_lfig
  have kp_lfig:=F_lfig.kp
  obtain ⟨f25,_,a_wrong,F_wrong⟩:=d25.ok
  have b_wrong:=F_wrong.binds (ps:=fAq) λ _ _ _ _ _ _ us hl=>match us,hl with | [_],_=>rfl
  have m_wrong:=PySem.W.mg_of X G a_wrong
  have kp_wrong:=F_wrong.kp
  obtain ⟨f26,_,a_told,F_told⟩:=d26.ok
  have b_told:=F_told.binds (ps:=gAq) λ _ _ _ _ _ _ us hl=>match us,hl with | [_],_=>rfl
  have m_told:=PySem.W.mg_of X G a_told
  have kp_told:=F_told.kp
  obtain ⟨f27,_,a_lbase,F_lbase⟩:=d27.ok
  have b_lbase:=F_lbase.binds (ps:=eWq) λ _ _ _ _ _ _ us hl=>match us,hl with | [_],_=>rfl
  have m_lbase:=PySem.W.mg_of X G a_lbase
  have kp_lbase:=F_lbase.kp
  have M_Reading:Mk K C_Reading f6:=⟨mk_Reading,mt_r_init.at_,mt_r_init.fn,kc_Reading⟩
  have B:Blt mg:=⟨PySem.W.mg_none_of X G z0,PySem.W.mg_none_of X G z1,PySem.W.mg_none_of X G z2,PySem.W.mg_none_of X G z3,PySem.W.mg_none_of X G z4,PySem.W.mg_none_of X G z5,PySem.W.mg_none_of X G z6,PySem.W.mg_none_of X G z7,PySem.W.mg_none_of X G z8,PySem.W.mg_none_of X G z9,PySem.W.mg_none_of X G z10,PySem.W.mg_none_of X G z11,PySem.W.mg_none_of X G z12,PySem.W.mg_none_of X G z13,PySem.W.mg_none_of X G z14⟩
  obtain ⟨f28,_,a_law,F_law⟩:=d28.ok
  cases hfa.symm.trans (PySem.W.mg_of X G a_law)
  obtain ⟨_,_,kV,dc,pm,an,cd,ct,_,rfl,l9,c9⟩:=F_law.ex
  refine ⟨PySem.W.fnOf "law" "law" (bNq fXq) (b0q fXq) (a6q fXq) .none kV dc pm an cd ct,λ s v=>.of_eq rfl,λ base _ _ =>?_⟩
  have m_INNER_COUNTS:=PySem.W.mg_of X G aI0
  have m_LETTERS:=PySem.W.mg_of X G gL
  have m_FIGURES:=PySem.W.mg_of X G gF
  have T_INNER_COUNTS:KTabD K w aI oOq:=x1q aI1 aI2 aI3 aI4 wXq cntP
  have m_BagError:=PySem.W.mg_of X G cB_0
  have BI:BInit K cB:=⟨cB_hg,cB_hr,cB_hf⟩
  have EH_BagError:ExcH K cB:=⟨cB_ty,⟨_,_,_,_,x4⟩,cB_be⟩
  have m_NoText:=PySem.W.mg_of X G cT_0
  have EI_cT:=o8q cT_1 cT_2 cT_3 cT_8 cT_9 x4 x5 x6 x7
  have ES_cT:ExcS K cT "at":=⟨cT_sa,⟨_,_,cT_cl,cT_mr,cT_hd⟩,kGq cT_na⟩
  have F_nt_init:=kYq cT_9 cT_c cT_k
  have b_nt_init:=F_nt_init.binds (ps:=hWq) λ _ _ _ _ _ _ us hl=>match us,hl with | [_,_],_=>rfl
  have R_NoText:RaiseI l.prog w K mg base 1 "NoText" cT "at":=⟨⟨_,_,_,EI_cT,lRq EI_cT BI ES_cT m_BagError F_nt_init,m_NoText,cT_p,b_nt_init⟩⟩
  have EH_NoText:ExcH K cT:=⟨cT_ty,⟨_,_,_,_,cT_1⟩,cT_be⟩
  have FK_NoText:ExcK K cT:=⟨cT_e0,cT_e1,cT_e2,e3,e4,cT_e5,cT_be,by rw [cT_cl];rfl⟩
  have EN_NoText:ExcN K cT "at":=⟨⟨_,cT_cl,cT_hd⟩,cT_na⟩
  have m_NoName:=PySem.W.mg_of X G cN_0
  have EI_cN:=o8q cN_1 cN_2 cN_3 cN_8 cN_9 x4 x5 x6 x7
  have ES_cN:ExcS K cN "name":=⟨cN_sa,⟨_,_,cN_cl,cN_mr,cN_hd⟩,kGq cN_na⟩
  have F_nn_init:=kYq cN_9 cN_c cN_k
  have b_nn_init:=F_nn_init.binds (ps:=h8q) λ _ _ _ _ _ _ us hl=>match us,hl with | [_,_],_=>rfl
  have R_NoName:RaiseI l.prog w K mg base 1 "NoName" cN "name":=⟨⟨_,_,_,EI_cN,mHq EI_cN BI ES_cN m_BagError F_nn_init,m_NoName,cN_p,b_nn_init⟩⟩
  have EH_NoName:ExcH K cN:=⟨cN_ty,⟨_,_,_,_,cN_1⟩,cN_be⟩
  have FK_NoName:ExcK K cN:=⟨cN_e0,cN_e1,cN_e2,e3,e4,cN_e5,cN_be,by rw [cN_cl];rfl⟩
  have EN_NoName:ExcN K cN "name":=⟨⟨_,cN_cl,cN_hd⟩,cN_na⟩
  have g_madeof:Got l.prog w K mg base 1 "made_of" e3q (aSq K bVq):=⟨_,_,pBq B F_madeof,m_madeof,kp_madeof,b_madeof⟩
  have g_isname:Got l.prog w K mg base 2 "is_name" e8q (aSq K kWq):=⟨_,_,n5q B m_LETTERS m_INNER_COUNTS T_INNER_COUNTS g_madeof F_isname,m_isname,kp_isname,b_isname⟩
  have g_iswt:Got l.prog w K mg base 2 "is_whole_text" fZq (aSq K hBq):=⟨_,_,v4q B m_FIGURES g_madeof F_iswt,m_iswt,kp_iswt,b_iswt⟩
  have g_isfig:Got l.prog w K mg base 3 "is_figures" fOq (aSq K uIq):=⟨_,_,rIq g_iswt F_isfig,m_isfig,kp_isfig,b_isfig⟩
  have g_words:Got l.prog w K mg base 1 "words_of" fNq (aSq K i0q):=⟨_,_,s0q B F_words,m_words,kp_words,b_words⟩
  have g_Reading:MkGot l.prog w K mg base 1 C_Reading "Reading" eCq (aSq K (jKq C_Reading)):=⟨⟨f6,_,pMq c_Reading n_Reading_awaited n_Reading_brackets n_Reading_ways_around n_Reading_bound n_Reading_unbound n_Reading_result F_r_init,M_Reading,m_Reading,b_r_init⟩⟩
  have g_r_fin:MGot l.prog w K mg base 2 C_Reading "finish" eSq (aSq K (lFq C_Reading)):=⟨⟨_,_,sEq B c_Reading n_Reading_awaited n_Reading_brackets n_Reading_ways_around n_Reading_bound n_Reading_unbound n_Reading_result m_INNER_COUNTS T_INNER_COUNTS F_r_fin,mt_r_fin,b_r_fin⟩⟩
  have g_r_num:MGot l.prog w K mg base 2 C_Reading "number_of" fIq (aSq K (pEq C_Reading)):=⟨⟨_,_,rMq B c_Reading n_Reading_awaited n_Reading_brackets n_Reading_ways_around n_Reading_bound n_Reading_unbound n_Reading_result F_r_num,mt_r_num,b_r_num⟩⟩
  have g_r_brk:MGot l.prog w K mg base 3 C_Reading "take_bracket" f4q (aSq K (d2q C_Reading (·=.brk))):=⟨⟨_,_,r5q B c_Reading n_Reading_awaited n_Reading_brackets n_Reading_ways_around n_Reading_bound n_Reading_unbound n_Reading_result g_r_fin F_r_brk,mt_r_brk,b_r_brk⟩⟩
  have g_r_name:MGot l.prog w K mg base 3 C_Reading "take_name" e6q (aSq K (d2q C_Reading (·=.name))):=⟨⟨_,_,q4q B c_Reading n_Reading_awaited n_Reading_brackets n_Reading_ways_around n_Reading_bound n_Reading_unbound n_Reading_result g_isname F_r_name,mt_r_name,b_r_name⟩⟩
  have g_r_word:MGot l.prog w K mg base 2 C_Reading "take_word" eBq (aSq K (d2q C_Reading (·=.word))):=⟨⟨_,_,nSq B c_Reading n_Reading_awaited n_Reading_brackets n_Reading_ways_around n_Reading_bound n_Reading_unbound n_Reading_result m_INNER_COUNTS T_INNER_COUNTS F_r_word,mt_r_word,b_r_word⟩⟩
  have g_r_prog:MGot l.prog w K mg base 4 C_Reading "take_program" e1q (aSq K (d2q C_Reading (·=.prog))):=⟨⟨_,_,nIq B c_Reading n_Reading_awaited n_Reading_brackets n_Reading_ways_around n_Reading_bound n_Reading_unbound n_Reading_result g_r_fin g_r_num g_isname g_isfig F_r_prog,mt_r_prog,b_r_prog⟩⟩
  have g_r_take:MGot l.prog w K mg base 5 C_Reading "take" dZq (aSq K (d2q C_Reading λ _=>True)):=⟨⟨_,_,n4q B c_Reading n_Reading_awaited n_Reading_brackets n_Reading_ways_around n_Reading_bound n_Reading_unbound n_Reading_result g_r_prog g_r_word g_r_name g_r_brk F_r_take,mt_r_take,b_r_take⟩⟩
  have G_read:GotX l.prog w K mg base 6 "read" g9q (tBq K (eTq cT cN)):=⟨⟨_,_,rDq B c_Reading n_Reading_awaited n_Reading_brackets n_Reading_ways_around n_Reading_bound n_Reading_unbound n_Reading_result R_NoText R_NoName g_words g_Reading g_r_take F_read,m_read,kp_read,b_read⟩⟩
  have g_feed:Got l.prog w K mg base 1 "_law_feed" fTq (aSq K iSq):=⟨_,_,v0q B F_feed,m_feed,kp_feed,b_feed⟩
  have g_take:Got l.prog w K mg base 1 "_law_take" g2q (aSq K cWq):=⟨_,_,wRq F_take,m_take,kp_take,b_take⟩
  have g_whole:Got l.prog w K mg base 2 "_law_whole" f8q (aSq K hUq):=⟨_,_,qUq g_take F_whole,m_whole,kp_whole,b_whole⟩
  have g_leaf:Got l.prog w K mg base 3 "_law_leaf" g3q (aSq K hNq):=⟨_,_,wJq g_take g_whole F_leaf,m_leaf,kp_leaf,b_leaf⟩
  have g_any:∀ n:Nat,Got l.prog w K mg base (n+4) "_law_any" iCq (aSq K (i4q n)):=λ n=>by
    induction n with
    | zero=>exact ⟨f18,_,aA8q,m_any,kp_any,b_any⟩
    | succ n ih=>exact ⟨f18,_,y2q B g_take g_leaf ih F_any,m_any,kp_any,b_any⟩
  have g_lwords:∀ n:Nat,Got l.prog w K mg base (n+1) "_law_words" e5q (aSq K (c8q n)):=λ n=>by
    induction n with
    | zero=>exact ⟨f19,_,nBq,m_lwords,kp_lwords,b_lwords⟩
    | succ n ih=>exact ⟨f19,_,nTq B ih F_lwords,m_lwords,kp_lwords,b_lwords⟩
  have g_lword:Got l.prog w K mg base 2 "_law_word" fCq (aSq K hHq):=⟨_,_,sJq B g_take F_lword,m_lword,kp_lword,b_lword⟩
  have g_changed:Got l.prog w K mg base 3 "_law_changed" dAq (aSq K d0q):=⟨_,_,lZq B g_take g_lword F_changed,m_changed,kp_changed,b_changed⟩
  have g_allin:Got l.prog w K mg base 1 "_law_all_in" fKq (aSq K bVq):=⟨_,_,sAq F_allin,m_allin,kp_allin,b_allin⟩
  have g_lname:Got l.prog w K mg base 2 "_law_name" f2q (aSq K hDq):=⟨_,_,rSq B g_allin F_lname,m_lname,kp_lname,b_lname⟩
  have g_lfig:Got l.prog w K mg base 2 "_law_figures" g8q (aSq K jVq):=⟨_,_,v8q B g_allin F_lfig,m_lfig,kp_lfig,b_lfig⟩
  have g_wrong:Got l.prog w K mg base 3 "_law_wrong" fAq (aSq K f7q):=⟨_,_,sFq B g_lname g_lfig F_wrong,m_wrong,kp_wrong,b_wrong⟩
  have g_told:Got l.prog w K mg base 8 "_law_told" gAq (aSq K hRq):=⟨_,_,wBq B G_read EH_NoName EH_NoText m_NoName m_NoText m_BagError FK_NoText FK_NoName EN_NoText EN_NoName s_cT_cT s_cN_cT s_cN_cN (dLq d_cT_cN cN_cl cN_ty s_cT_cN) (rQq s_cT_VE) (dLq d_cN_cT cT_cl cT_ty s_cN_cT) (dLq d_cN_cB cB_cl cB_ty s_cN_cB) F_told,m_told,kp_told,b_told⟩
  have g_lbase:Got l.prog w K mg base 8 "_law_base" eWq (aSq K hTq):=⟨_,_,r8q B G_read EH_BagError m_NoName m_BagError FK_NoText FK_NoName s_cT_cB s_cN_cB jGq (dLq d_cT_cN cN_cl cN_ty s_cT_cN) F_lbase,m_lbase,kp_lbase,b_lbase⟩
  exact xHq B g_feed g_take (g_any 31) (g_lwords 31) g_changed g_wrong g_told (yQq G_read) g_lbase F_law
theorem walk {l:PySem.W.OpenLaw} {q:Program} {loose:List Str} {XP:(Str->Option Value)->Heap->Prop} {YP:World->Heap->Prop} {d:DefRec} {K:Params->PySem.W.Frag} (hn:l.most=some 63) (hdf:d.params.defaults=[])
    (hY:∀ (w:World) (h:Heap),YP w h->(K w.params).In h)
    (F:∀ (w:World) (mg:Str->Option Value) (fa:Addr) (h:Heap),(K w.params).In h->h.Ns mainGlobals mg->mg d.name=some (.ref fa) →
      ∃ fd:FuncData,(∀ (s:Shared) (u:Value),BindsTo s fd ⟨[u],[]⟩ [("_law_script", u)])/\∀ base:Heap,(K w.params).In base->base.Ns mainGlobals mg->FnOk l.prog w (K w.params) mg base CX0 120 fa fd ["_law_script"] (lDq (K w.params))) :
    PySem.W.WalkO q loose XP YP l.row.toRowW d [] (λ f vs=>PySem.call f vs):=
  L2.uFq (n:=63) (k:=120) (x:="_law_script") (CX:=λ _=>CX0) (sp:=λ w=>lDq (K w.params)) hn (by decide) hdf ⟨rfl,by decide,by decide⟩ hY F (λ _ _ a ns hl o hS=>aB6q hl o hS) λ _ _ _ _ _ z=>z
end KB
def PySem.W.Fast.tw6318253803011986465:=0
def PySem.W.Fast.tw9317282549045430599:=0
def PySem.W.Fast.tw1162265144592408669:=0
def PySem.W.Fast.tw16750056905243190492:=0
def PySem.W.Fast.tw10271830211870206395:=0
def PySem.W.Fast.tw16705918264242587735:=0
def PySem.W.Fast.tw6925805149466943869:=0
def PySem.W.Fast.tw220481338359857153:=0
def PySem.W.Fast.tw1743792740398551559:=0
def PySem.W.Fast.tw1790609203503716385:=0
def PySem.W.Fast.tw10058338503077444119:=0
def PySem.W.Fast.tw11245919176700162041:=0
def PySem.W.Fast.tw3833678713797171461:=0
def PySem.W.Fast.tw7236390826377320769:=0
def PySem.W.Fast.tw10382203887708789123:=0
def PySem.W.Fast.tw2402679045450128344:=0
def PySem.W.Fast.tw8628436732759560184:=0
def PySem.W.Fast.tw15744490305453884836:=0
def PySem.W.Fast.tw16778169538724162444:=0
def PySem.W.Fast.tw426335852894361727:=0
def PySem.W.Fast.tw925805703909722281:=0
def PySem.W.Fast.tw2796668497344001019:=0
def PySem.W.Fast.tw2098514081349817001:=0
def PySem.W.Fast.tw15116880755869038945:=0
def PySem.W.Fast.tw10420197293044067493:=0
def PySem.W.Fast.tw18266132302265215196:=0
def PySem.W.Fast.tw9711811910725997120:=0
def PySem.W.Fast.tw11428238648088026604:=0
def PySem.W.Fast.tw5275461401272229911:=0
def PySem.W.Fast.tw12691646770208445974:=0
def PySem.W.Fast.tw17137352414027932175:=0
def PySem.W.Fast.tw9884241889763316181:=0
def PySem.W.Fast.tw5659092146995797691:=0
def PySem.W.Fast.tw15599718762569516851:=0
def PySem.W.Fast.tw9582899678327048403:=0
def PySem.W.Fast.tw11600334887476485981:=0
def PySem.W.Fast.tw5096066057318604591:=0
def PySem.W.Fast.tw11149512451754821780:=0
def PySem.W.Fast.tw15093280275000179886:=0
def PySem.W.Fast.tw11464622051715386506:=0
open PySem PySem.W PyProof.Rows
set_option maxRecDepth 100000 in
set_option maxHeartbeats 0 in
theorem PySem.Challenge.cw_kindbags_k15_texts_refused_holds : PySem.Challenge.rw_kindbags_k15_texts_refused.Holds := by
  w_on; o_law; k_head; (case hw => w_witness2)
  k_fill
  refine KB.walk (l := PySem.Challenge.rw_kindbags_k15_texts_refused) rfl rfl (fun w h Y => PySem.W.kIn_of Y) ?F
  case F =>
    intro w mg fa h KX G hmg
    refine' KB.aE8q KX G hmg ?_ ?_ ?_ ?_ ?_ ?_ ?_ ?_ ?_ ?_ ?_ ?_ ?_ ?_ ?_ ?_ ?_ ?_ ?_ ?_ ?_ ?_ ?_ ?_ ?_ ?_ ?_ ?_ ?_ ?_ ?_ ?_ ?_ ?_ ?_ ?_ ?_ ?_ ?_ ?_ ?_ ?_ ?_ ?_ ?_ ?_ ?_ ?_ ?_ ?_ ?_ ?_ ?_ ?_ ?_ ?_ ?_ ?aI0 ?aI1 ?aI2 ?aI3 ?aI4 ?gL ?gF ?cB_0 ?x4 ?x5 ?x6 ?x7 ?cB_cl ?cB_ty ?cB_be ?cB_hg ?cB_hr ?cB_hf ?e3 ?e4 ?cT_0 ?cT_1 ?cT_2 ?cT_3 ?cT_8 ?cT_9 ?cT_c ?cT_k ?cT_p ?cT_sa ?cT_cl ?cT_mr ?cT_hd ?cT_na ?cT_ty ?cT_be ?cT_e0 ?cT_e1 ?cT_e2 ?cT_e5 ?cN_0 ?cN_1 ?cN_2 ?cN_3 ?cN_8 ?cN_9 ?cN_c ?cN_k ?cN_p ?cN_sa ?cN_cl ?cN_mr ?cN_hd ?cN_na ?cN_ty ?cN_be ?cN_e0 ?cN_e1 ?cN_e2 ?cN_e5 ?s_cN_cN ?s_cT_cN ?s_cT_cT ?s_cT_cB ?s_cN_cB ?s_cN_cT ?s_cN_VE ?d_cN_cB ?d_cN_cT ?s_cT_VE ?d_cT_cN
    (case aI0 => k_is)
    (case aI1 => k_is)
    (case aI2 => rfl)
    (case aI3 => exact ⟨⟨_, _, rfl, rfl⟩, ⟨_, _, rfl, rfl⟩, ⟨_, _, rfl, rfl⟩, ⟨_, _, rfl, rfl⟩, ⟨_, _, rfl, rfl⟩, ⟨_, _, rfl, rfl⟩, ⟨_, _, rfl, rfl⟩, trivial⟩)
    (case aI4 => exact .cons ⟨⟨_, rfl⟩, ⟨_, rfl⟩⟩ (.cons ⟨⟨_, rfl⟩, ⟨_, rfl⟩⟩ (.cons ⟨⟨_, rfl⟩, ⟨_, rfl⟩⟩ (.cons ⟨⟨_, rfl⟩, ⟨_, rfl⟩⟩ (.cons ⟨⟨_, rfl⟩, ⟨_, rfl⟩⟩ (.cons ⟨⟨_, rfl⟩, ⟨_, rfl⟩⟩ (.cons ⟨⟨_, rfl⟩, ⟨_, rfl⟩⟩ (.nil))))))))
    (case gL => k_is)
    (case gF => k_is)
    (case cB_0 => k_is)
    (case x4 => k_is)
    (case x5 => rfl)
    (case x6 => k_is)
    (case x7 => kernel_rfl)
    (case cB_cl => k_is)
    (case cB_ty => k_is)
    (case cB_be => k_is)
    (case cB_hg => k_is)
    (case cB_hr => first | k_is | kernel_rfl)
    (case cB_hf => first | k_is | kernel_rfl)
    (case e3 => k_is)
    (case e4 => k_is)
    (case cT_0 => k_is)
    (case cT_1 => k_is)
    (case cT_2 => k_is)
    (case cT_3 => kernel_rfl)
    (case cT_8 => rfl)
    (case cT_9 => k_is)
    (case cT_c => k_is)
    (case cT_k => k_is)
    (case cT_p => k_is)
    (case cT_sa => k_is)
    (case cT_cl => k_is)
    (case cT_mr => rfl)
    (case cT_hd => rfl)
    (case cT_na => k_is)
    (case cT_ty => k_is)
    (case cT_be => k_is)
    (case cT_e0 => k_is)
    (case cT_e1 => k_is)
    (case cT_e2 => k_is)
    (case cT_e5 => k_is)
    (case cN_0 => k_is)
    (case cN_1 => k_is)
    (case cN_2 => k_is)
    (case cN_3 => kernel_rfl)
    (case cN_8 => rfl)
    (case cN_9 => k_is)
    (case cN_c => k_is)
    (case cN_k => k_is)
    (case cN_p => k_is)
    (case cN_sa => k_is)
    (case cN_cl => k_is)
    (case cN_mr => rfl)
    (case cN_hd => rfl)
    (case cN_na => k_is)
    (case cN_ty => k_is)
    (case cN_be => k_is)
    (case cN_e0 => k_is)
    (case cN_e1 => k_is)
    (case cN_e2 => k_is)
    (case cN_e5 => k_is)
    (case s_cN_cN => k_is)
    (case s_cT_cN => k_is)
    (case s_cT_cT => k_is)
    (case s_cT_cB => k_is)
    (case s_cN_cB => k_is)
    (case s_cN_cT => k_is)
    (case s_cN_VE => k_is)
    (case d_cN_cB => rfl)
    (case d_cN_cT => rfl)
    (case s_cT_VE => k_is)
    (case d_cT_cN => rfl)
    all_goals first | k_is | (refine' L3.DT.mk ?_ ?_ ?_ ?_ <;> try k_is) | (refine' L3.DM.mk ?_ ?_ ?_ ?_ ?_ <;> try k_is) | (refine' L3.DTc.mk ?_ ?_ ?_ ?_ <;> try k_is) | (refine' L3.DMc.mk ?_ ?_ ?_ ?_ ?_ <;> try k_is) | skip
