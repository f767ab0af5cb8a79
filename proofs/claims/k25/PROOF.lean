import PyProof.Rows.All
import Wide.All
import OpenK.AllK
import Wide.FinOn
import Lean
import PyProof.EqAt
import PyProof.EqKinds
import PyProof.TupleCall
import PySem.Challenge.RW_kindbags_k25_machine_counted
local macro_rules | `(tactic| omega) => `(tactic| first | decide | lia)
open PySem renaming wpAny_bind->aV,Shared->aM,wpAny_pure->cz,Expr->a8,wpAny->bz,model->bA,Stmt->bE,starEach->dp,Program->c8,mainGlobals->eS,Heap->b2,World->cG,wpAny_mono->eX,compareOp->eP,Around->d6,foldedSetIterable->jy,wpAny_newObj_type->lp,FuncData->gA,Scope->e4,wpAny_field->jz,assignEach->ja,binaryOp->hL,backTo->gj,wpAny_standAt->lq,cLine->fI,bootBuiltins->lr,wpAny_Call_Name_kw->oZ,holding->hM,assign->hj,sysModules->kD,attributeBase->mV,swapsWith->j3,again->g6,wpAny_passesOwn->qb,behindInMarks->o0,compEnvC->kE,wpAny_seqItems->XL,NameKind->ls,wpAny_call_entry->sa,wpAny_comprehension_free->wx,standAt->kF,wpAny_setField_rec->tU,keywordEach->o1,codeAny_compStart_list->wy,Paired->j4,wpAny_rule->XV,wpAny_newFunctionEnv->wz,rawInt->kG,getItem->lY,sizeLine_eq->qc,sliceBounds->qd,letOwnedTupleGo->tV,codeAny_mono->sb,codeAny->mW,qualnameIn->qe,wpAny_truthy_bool->wA,wpAny_holding->tW,swapsWithSole->tX,swappedStores->tY,backToKw->o2,compPost->o3,getMethod->qf,wpAny_execs_nil->wB,IsPart->mX,PlainAttrs->sd,theTreesLotGoes->wC,Operator->qg,isTrue->n0,PassesOwn->se,wpAny_pyIter_tuple->zr,wpAny_assign_Name->zt,builtinsNs->tZ,setItem->qh,relabel->qi,valueAt->qj,pyNext->o4,callWith->sf,noFill_tuple_add->Wp,wpAny_typeOf->wD,compTurn->sg,codeAny_loop->wE,IsPair->o5,wpAny_specialOf->zu,subscripted->wF,wpAny_noted->wG,release->sh,BindsTo->si,callerA->sj,exec_Assign_Name_used->D9,builtinLookup_eq_fast->D_,isSubtype_type->zv,CmpOp->o6,wpAny_call->wH,bindL->WF,bindC->o7,call_meets->wI,closureFor->wJ,field->o8,IsZip->o9,ZipApart->t2,assignInOrder->zw,seq_tuple_add->zx,wpAny_onRaise->zy,tupleKind->WP,findBy->sk,Arguments->wK,concat_meets->zz,typeOf->sl,noteFrame->wL,unaryOp->t4
open PyProof.Rows renaming envOfC->mY,AllBare->o_,assignInOrder_cons->zA,IsTup->n1,subscriptTail_builtinR->Ea,IntsAre->W1,subscriptTail->zB
open List renaming length_map->b3,map_reverse->c_,size_toArray->dG,mem_cons->ea,length_cons->eb,mem_append_right->eu,map_cons->eC,length_reverse->eK,map_append->ff,mem_cons_self->f7,sum_reverse->gB,getElem?_map->gT,getElem?_eq_getElem->hk,length_nil->hu,length_append->hN,mem_cons_of_mem->h3,mem_map->h4,map_map->h5,reverse_cons->h6,length_take->iP,length_drop->iQ,map->jA,all_cons->j5,mem_append->kH,getElem?_eq_some_iff->kI,mem_of_getElem?->kJ,find?_cons->kK,mem_reverse->kL,range->lu,mem_append_left->lv,take_add_one->lw,getElem?_append_left->lZ,map_nil->l0,lookup_cons->l1,mem_map_of_mem->l2,replicate->mZ,not_mem_nil->m1,length->n2,getElem?_append_right->n3,append_nil->pa,drop_zero->pb,mem_singleton->pc,drop_eq_getElem_cons->pd,lookup->qk,nodup_cons->ql,any_cons->qm,getElem?_eq_none->qn,flatMap_append->qo,flatMap_map->qp,getElem?_replicate->sm,getElem_of_mem->sn,mem_filterMap->t5,length_replicate->t6,mem_filter->wM,mem_range->wN,filterMap_cons->wO,getElem?_set_ne->wP,of_mem_zip->wQ,forIn_cons->wR,cons_append->wS,take_length->wT,getElem?_cons_succ->wU
open Nat renaming le_refl->b7,ne_of_lt->eY,le_trans->e5,zero_le->f9,le_succ->f_,lt_of_lt_of_le->h7,le_succ_of_le->jb,ble->jB,lt_or_ge->kM,lt_trans->m2,lt_irrefl->n4,lt_succ_self->n5,ne_of_gt->t7,le_of_lt->wV,lt_of_le_of_lt->wW
open Option renaming some->gb,map_some->m3,toList_some->qq,none->t8,isSome_iff_exists->wX
open Bool renaming and_eq_true->g7,false_ne_true->iz,false_eq_true->jc
open PySem.W renaming Frag->a6,mg_of->fJ,findIn->gk,nsIn->ZB,mg_none_of->j6,keepIn->kN,kia_one->kO,fnOf->lx,emptyDict->n6,instObj->pe,codeIn->pf,isFn->qr,plainGet->so,hasDictIn->t9,envX->t_,tabObj->ua,fnMade->ub,lookIn->wY,plainOver->wZ,makesIn->w0,callWith_K->w1,fnX->w2
open PyProof.Rows renaming boot_isinstance->qs,boot_tuple->qt,callWith_type1->sq,slot_tuple_getitem->sr,boot_int->su
open PySem renaming mem_of_lookup->m4,boot_len->m5
open PySem.Heap renaming get?_push_of_some->du,lt_size->dW,get?_push_size->gC,size_push->m6
open Int renaming toNat_natCast->w3
set_option Elab.async false
set_option linter.all false
set_option maxRecDepth 100000
namespace L2
open PySem PySem.Spec PyProof.Rows
abbrev Key:=Sum Int Str
def sv:Key->Value->Bool
 | .inl k,v=>Value.isInt k v
 | .inr x,v=>Value.isStrOf x v
def KH(w:cG):Key->Int
 | .inl k=>hashInt k
 | .inr x=>hashStr w x
theorem n7:∀{k:Key}{v:Value},sv k v=true->(∃ i t,k=Sum.inl i/\v=Value.int i t)\/(∃ x t,k=Sum.inr x/\v=Value.str x t)
 | .inl i,v,h=>by
  obtain ⟨t,e⟩:=Value.isInt_shape (k:=i) (v:=v) h;exact .inl ⟨i,t,rfl,e⟩
 | .inr x,v,h=>by
  obtain ⟨t,e⟩:=Value.isStrOf_shape (x:=x) (v:=v) h;exact .inr ⟨x,t,rfl,e⟩
theorem KI(i:Int)(t:Tok):sv (.inl i) (.int i t)=true:=by simp [sv,Value.isInt]
theorem KJ(x:Str)(t:Tok):sv (.inr x) (.str x t)=true:=by simp [sv,Value.isStrOf]
theorem KK(a b:Int):decide ((Sum.inl a:Key)=Sum.inl b)=(a==b):=by
 by_cases e:a=b
 ·subst e;simp
 ·have h:¬ (Sum.inl a:Key)=Sum.inl b:=λ q=>e (Sum.inl.inj q);rw [decide_eq_false h];exact (beq_eq_false_iff_ne.mpr e).symm
theorem KL(a b:Str):decide ((Sum.inr a:Key)=Sum.inr b)=decide (a=b):=by
 by_cases e:a=b
 ·subst e;simp
 ·have h:¬ (Sum.inr a:Key)=Sum.inr b:=λ q=>e (Sum.inr.inj q);rw [decide_eq_false h,decide_eq_false e]
theorem KM(a:Int)(b:Str):decide ((Sum.inl a:Key)=Sum.inr b)=false:=decide_eq_false (λ q=>nomatch q)
theorem KN(a:Str)(b:Int):decide ((Sum.inr a:Key)=Sum.inl b)=false:=decide_eq_false (λ q=>nomatch q)
def jC(prog:c8)(w:cG):PySem.KeyKind prog w Key where
 is:=sv
 hash:=KH w
 inj:=λ v a b au ag=>by
  rcases n7 au with ⟨i,t,rfl,rfl⟩ | ⟨x,t,rfl,rfl⟩
  ·rcases n7 ag with ⟨j,u,rfl,e⟩ | ⟨y,u,rfl,e⟩
   ·injection e with az _;rw [az]
   ·exact nomatch e
  ·rcases n7 ag with ⟨j,u,rfl,e⟩ | ⟨y,u,rfl,e⟩
   ·exact nomatch e
   ·injection e with az _;rw [az]
 byValue:=λ k v h=>by
  rcases n7 h with ⟨i,t,rfl,rfl⟩ | ⟨x,t,rfl,rfl⟩<;>rfl
 pyHash:=λ bK h=>by
  rcases n7 bK with ⟨i,t,rfl,rfl⟩ | ⟨x,t,rfl,rfl⟩
  ·exact wpAny_pyHash_int h
  ·exact wpAny_pyHash_str h
 eqBool:=λ bx bK h=>by
  rcases n7 bx with ⟨i,t,rfl,rfl⟩ | ⟨x,t,rfl,rfl⟩
  ·rcases n7 bK with ⟨j,u,rfl,rfl⟩ | ⟨y,u,rfl,rfl⟩
   ·rw [KK] at h;exact wpAny_eqBool_int h
   ·rw [KM] at h;exact SeqAt.EqAt.int_str i t y u _ _ _ _ h
  ·rcases n7 bK with ⟨j,u,rfl,rfl⟩ | ⟨y,u,rfl,rfl⟩
   ·rw [KN] at h;exact SeqAt.EqAt.str_int x t j u _ _ _ _ h
   ·rw [KL] at h;exact wpAny_eqBool_str h
 «strs»:=λ k x t v h=>by
  rcases n7 h with ⟨i,u,rfl,e⟩ | ⟨y,u,rfl,e⟩
  ·exact nomatch e
  ·injection e with az _;subst az;cases v<;>rfl
theorem KO(prog:c8)(w:cG)(i:Int)(t:Tok):(jC prog w).is (.inl i) (.int i t)=true:=KI i t
theorem KP(prog:c8)(w:cG)(x:Str)(t:Tok):(jC prog w).is (.inr x) (.str x t)=true:=KJ x t
inductive V where
 | br | aO (b:Bool) | int (i:Int) | str (x:Str) | sx (b:Array UInt8) | qu (b:UInt64) | ref (a:Addr) | ty (n:String)
 deriving DecidableEq
def RelV:V->Value->Prop
 | .br,u=>u=Value.none
 | .aO b,u=>u=Value.bool b
 | .int i,u=>∃ t,u=Value.int i t
 | .str x,u=>∃ t,u=Value.str x t
 | .sx b,u=>∃ t,u=Value.bytes b t
 | .qu b,u=>∃ t,u=Value.float b t
 | .ref a,u=>u=Value.ref a
 | .ty n,u=>u=Value.type n
abbrev Vals:List V->List Value->Prop:=j4 RelV
theorem Vals.length{xs:List V}{us:List Value}(r:Vals xs us):xs.length=us.length:=Paired.length r
theorem Vals.get:∀{xs:List V}{us:List Value}{i:Nat}{x:V},Vals xs us->xs[i]?=some x->∃ u,us[i]?=some u/\RelV x u
 | _,_,_,_,.nil,e=>by simp at e
 | _,_,0,_,.cons r _,e=>by simp at e;subst e;exact ⟨_,rfl,r⟩
 | _,_,i+1,x,.cons _ t,e=>by
  obtain ⟨u,af,ao⟩:=Vals.get (i:=i) (x:=x) t (by simpa using e);exact ⟨u,by simpa using af,ao⟩
theorem Vals.set{x:V}{u:Value}(r:RelV x u):∀{xs:List V}{us:List Value}(i:Nat),Vals xs us->Vals (xs.set i x) (us.set i u)
 | _,_,_,.nil=>.nil
 | _,_,0,.cons _ t=>.cons r t
 | _,_,i+1,.cons q t=>.cons q (Vals.set r i t)
theorem Vals.append:∀{xs a3:List V}{us ws:List Value},Vals xs us->Vals a3 ws->Vals (xs++a3) (us++ws)
 | _,_,_,_,.nil,s=>s
 | _,_,_,_,.cons r t,s=>.cons r (Vals.append t s)
theorem Vals.take:∀{xs:List V}{us:List Value}(n:Nat),Vals xs us->Vals (xs.take n) (us.take n)
 | _,_,0,_=>.nil
 | _,_,_+1,.nil=>.nil
 | _,_,n+1,.cons r t=>.cons r (Vals.take n t)
theorem Vals.drop:∀{xs:List V}{us:List Value}(n:Nat),Vals xs us->Vals (xs.drop n) (us.drop n)
 | _,_,0,r=>r
 | _,_,_+1,.nil=>.nil
 | _,_,n+1,.cons _ t=>Vals.drop n t
def hv:Option V->Option Value->Prop
 | some v,some u=>RelV v u
 | none,none=>True
 | _,_=>False
def gl{κ:Type}:List (κ × V)->List (κ × Value)->Prop:=j4 λ(p:κ × V) (q:κ × Value)=>p.1=q.1/\RelV p.2 q.2
def ei:Key->V
 | .inl i=>.int i
 | .inr x=>.str x
inductive gU where
 | lst (xs:List V)
 | tup (xs:List V)
 | eD (kvs:List (Key × V)) | hx (kvs:List (List Key × V))
 | set (S:Int->Bool) (n:Nat)
 | ins (C bT:Addr) (fs:List (Str × V))
 | own (x:Addr)
 | zC (fs:List (Str × V))
 | met (f x:Addr)
 | zD (lo aA:Int)
 | gD (o:Obj) (u:gU)
 | hO (ps:Array Value)
 | ext (φ:b2->Prop)
abbrev ar:=Addr->Option gU
def upd(H:ar)(a:Addr)(o:gU):ar:=λ b=>if b=a then some o else H b
theorem fq{H:ar}{a:Addr}{o:gU}:upd H a o a=some o:=by unfold upd;rw [if_pos rfl]
theorem cH{H:ar}{a b:Addr}{o:gU}(h:b≠a):upd H a o b=H b:=by unfold upd;rw [if_neg h]
theorem hP{H:ar}{a b:Addr}{o:gU}(h:H a=some o)(h':H b=none):a≠b:=by
 intro e;subst e;rw [h] at h';cases h'
section
variable(P:c8)(w:cG)
def fY(H:ar)(h:b2)(a:Addr):gU->Prop
 | .lst xs=>xs.length<=sizeLine/\∃(aN:List Value)(n:Nat),Vals xs aN/\h.get? a=some { cls:=.type "list", data:=.seq aN.toArray n }
 | .tup xs=>xs.length<=sizeLine/\∃ aN:List Value,Vals xs aN/\n1 h a aN.toArray
 | .eD kvs=>kvs.length<=sizeLine/\(a==kD)=false/\∃ vs,gl kvs vs/\h.DictOf (jC P w) a vs
 | .hx kvs=>kvs.length<=sizeLine/\(a==kD)=false/\∃ xs:List (List Key × Addr × Value),
  j4 (λ(p:List Key × V) (q:List Key × Addr × Value)=>p.1=q.1/\H q.2.1=some (.tup (p.1.map ei))/\RelV p.2 q.2.2) kvs xs ∧
  ∃ o aw fg,h.get? a=some o/\o.ExactDict/\o.data=.dict aw fg/\aw.toList=xs.map (entryOfKey (WP (jC P w)))/\(xs.map (·.1)).Nodup
 | .set S n=>h.SetOf (intKind P w) a S n
 | .ins C bT fs=>H bT=some (.own a)/\fs.length<=1000/\bT≠a/\h.get? a=some (pe C bT) ∧
  ∃ ej,h.Ns1 bT ej/\(∀ f,hv (fs.lookup f) (ej f))/\PySem.Within ej (fs.map (·.1))
 | .own _=>∃ o,h.get? a=some o
 | .zC fs=>∃ ej,h.Ns1 a ej/\∀ f,hv (fs.lookup f) (ej f)
 | .zD lo aA=>∃ t u v,h.get? a=some { cls:=.type "range", data:=.fields #[.int lo t,.int aA u,.int 1 v] }
 | .gD o u=>h.get? a=some o/\fY H h a u
 | .hO ps=>h.get? a=some { cls:=.none,data:=.fields ps }
 | .met f x=>h.get? a=some (PySem.W.methodObj (.ref f) (.ref x))
 | .ext φ=>φ h/\(∃ o,h.get? a=some o)/\∀ af ao:b2,φ af->(∀ o,af.get? a=some o->ao.get? a=some o)->φ ao
def en(H:ar)(h:b2):Prop:=∀ a o,H a=some o->fY P w H h a o
end
section
variable{P:c8}{w:cG}{H ai:ar}{h h':b2}{a:Addr}{o:gU}
theorem fY.lt(x:fY P w H h a o):a < h.objs.size:=by
 cases o with
 | lst xs=>obtain ⟨_,_,_,_,e⟩:=x;exact dW e
 | tup xs=>obtain ⟨_,_,_,p⟩:=x;exact p.lt
 | eD kvs=>obtain ⟨_,_,_,_,o,_,_,e,_⟩:=x;exact dW e
 | hx kvs=>obtain ⟨_,_,_,_,o,_,_,e,_⟩:=x;exact dW e
 | set S n=>obtain ⟨o,_,_,_,e,_⟩:=x;exact dW e
 | ins C bT fs=>obtain ⟨_,_,_,e,_⟩:=x;exact dW e
 | own y=>obtain ⟨_,e⟩:=x;exact dW e
 | zC fs=>obtain ⟨_,⟨_,_,_,e,_⟩,_⟩:=x;exact dW e
 | zD lo aA=>obtain ⟨_,_,_,e⟩:=x;exact dW e
 | gD dq u=>obtain ⟨e,_⟩:=x;exact dW e
 | hO ps=>exact dW (show h.get? a=some _ from x)
 | met f y=>exact dW (show h.get? a=some _ from x)
 | ext φ=>obtain ⟨_,⟨_,e⟩,_⟩:=x;exact dW e
theorem Paired.Eb{α β:Type}{F G:α->β->Prop}:∀{Ec:List α}{Ed:List β},j4 F Ec Ed->(∀ a b,F a b->G a b)->j4 G Ec Ed
 | _,_,.nil,_=>.nil
 | _,_,.cons r t,f=>.cons (f _ _ r) (Paired.Eb t f)
theorem fY.l3(x:fY P w H h a o)(k:∀ b u,(b=a\/H b=some (.own a))->h.get? b=some u->h'.get? b=some u)
 (bb:∀ b,H b=some (.own a)->ai b=some (.own a)) (bt:∀ b xs,H b=some (.tup xs)->ai b=some (.tup xs)):fY P w ai h' a o:=by
 induction o with
 | lst xs=>obtain ⟨z,aN,n,r,e⟩:=x;exact ⟨z,aN,n,r,k _ _ (.inl rfl) e⟩
 | tup xs=>obtain ⟨z,aN,r,dq,e,c⟩:=x;exact ⟨z,aN,r,dq,k _ _ (.inl rfl) e,c⟩
 | eD kvs=>obtain ⟨z,y,vs,r,dq,aw,fg,e,c⟩:=x;exact ⟨z,y,vs,r,dq,aw,fg,k _ _ (.inl rfl) e,c⟩
 | hx kvs=>
  obtain ⟨z,y,xs,r,dq,aw,fg,e,c⟩:=x;exact ⟨z,y,xs,Paired.Eb r λ p q z=>⟨z.1,bt _ _ z.2.1,z.2.2⟩,dq,aw,fg,k _ _ (.inl rfl) e,c⟩
 | set S n=>obtain ⟨dq,aw,fg,t,e,c⟩:=x;exact ⟨dq,aw,fg,t,k _ _ (.inl rfl) e,c⟩
 | ins C bT fs=>
  obtain ⟨d,z,ne,e,ej,⟨dC,aw,fg,aW,c⟩,r⟩:=x;exact ⟨bb _ d,z,ne,k _ _ (.inl rfl) e,ej,⟨dC,aw,fg,k _ _ (.inr d) aW,c⟩,r⟩
 | own y=>obtain ⟨dq,e⟩:=x;exact ⟨dq,k _ _ (.inl rfl) e⟩
 | zC fs=>obtain ⟨ej,⟨dC,aw,fg,e,c⟩,r⟩:=x;exact ⟨ej,⟨dC,aw,fg,k _ _ (.inl rfl) e,c⟩,r⟩
 | zD lo aA=>obtain ⟨t,u,v,e⟩:=x;exact ⟨t,u,v,k _ _ (.inl rfl) e⟩
 | gD dq u bL=>obtain ⟨e,q⟩:=x;exact ⟨k _ _ (.inl rfl) e,bL q⟩
 | hO ps=>
  have e:h.get? a=some { cls:=.none,data:=.fields ps }:=x;show h'.get? a=some { cls:=.none,data:=.fields ps };exact k a _ (.inl rfl) e
 | met f y=>
  have e:h.get? a=some (PySem.W.methodObj (.ref f) (.ref y)):=x;show h'.get? a=some (PySem.W.methodObj (.ref f) (.ref y));exact k a _ (.inl rfl) e
 | ext φ=>obtain ⟨p,⟨o,e⟩,st⟩:=x;exact ⟨st _ _ p λ o q=>k _ _ (.inl rfl) q,⟨o,k _ _ (.inl rfl) e⟩,st⟩
theorem en.lt(x:en P w H h)(e:H a=some o):a < h.objs.size:=(x a o e).lt
theorem en.fresh(x:en P w H h)(e:h.objs.size<=a):H a=none:=by
 cases q:H a with
 | none=>rfl
 | some u=>exact absurd (h7 (x.lt q) e) (n4 _)
theorem en.kept(x:en P w H h)(k:∀ b u,h.get? b=some u->h'.get? b=some u):en P w H h':=λ a o e=>
 (x a o e).l3 (λ b u _ q=>k b u q) (λ _ q=>q) λ _ _ q=>q
theorem en.laid(x:en P w H h)(k:∀ b u,h.get? b=some u->h'.get? b=some u)(aj:h.objs.size<=a)(new:fY P w (upd H a o) h' a o):en P w (upd H a o) h':=λ b u e=>by
 have bc:=x.fresh aj;by_cases ag:b=a
 ·subst ag;rw [fq] at e;cases e;exact new
 ·rw [cH ag] at e;exact (x b u e).l3 (λ c v _ q=>k c v q) (λ c q=>by rw [cH (hP q bc)];exact q) λ c xs q=>by rw [cH (hP q bc)];exact q
end
def j7(H:ar)(a:Addr)(u:gU):Prop:=H a=some u\/∃ o,H a=some (.gD o u)
theorem j7.ok{P:c8}{w:cG}{H:ar}{h:b2}{a:Addr}{u:gU}(r:j7 H a u)(x:en P w H h):fY P w H h a u:=by
 rcases r with r | ⟨o,r⟩
 ·exact x a u r
 ·obtain ⟨_,q⟩:=x a _ r;exact q
def uc:Option gU->Prop
 | some (.lst _)=>True
 | some (.eD _)=>True
 | some (.hx _)=>True
 | some (.set _ _)=>True
 | some (.ins _ _ _)=>True
 | some (.ext _)=>True
 | _=>False
section
variable{P:c8}{w:cG}{H:ar}{h h':b2}{x e:Addr}{dR:gU}
theorem en.write(ok:en P w H h)(j8:uc (H x))(he:e=x\/H e=some (.own x))(k:∀ b u,b≠e->h.get? b=some u->h'.get? b=some u)(sy:∃ u,h'.get? e=some u)
 (new:fY P w (upd H x dR) h' x dR):en P w (upd H x dR) h':=λ b u q=>by
 have Ee:∀ c y,H c=some (.own y)->c≠x:=λ c y r z=>by subst z;rw [r] at j8;exact j8
 have KQ:∀ c xs,H c=some (.tup xs)->c≠x:=λ c xs r z=>by subst z;rw [r] at j8;exact j8
 by_cases ag:b=x
 ·subst ag;rw [fq] at q;cases q;exact new
 ·rw [cH ag] at q;by_cases qv:b=e
  ·have fC:H b=some (.own x):=by
    rcases he with z | z
    ·exact absurd (qv.trans z) ag
    ·rw [qv];exact z
   rw [q] at fC;cases fC;obtain ⟨v,bK⟩:=sy;exact ⟨v,by rw [qv];exact bK⟩
  ·refine (ok b u q).l3 (λ c v aJ r=>k c v ?_ r) (λ c r=>by rw [cH (Ee c b r)];exact r) λ c xs r=>by rw [cH (KQ c xs r)];exact r
   rcases aJ with rfl | aJ
   ·exact qv
   ·rintro rfl;rcases he with z | z
    ·exact Ee c b aJ z
    ·rw [aJ] at z;cases z;exact ag rfl
end
structure fK(fs ex:List Addr)(H ai:ar)(h h':b2):Prop where
 keep:∀ b o,h.get? b=some o->H b=none->b ∉ fs->b ∉ ex->h'.get? b=some o
 slot:∀ b o,h.get? b=some o->H b=none->b∈fs->b ∉ ex->∃ b6,h'.get? b=some { o with slots:=b6 }
 free:∀ b o,h.get? b=some o->H b=none->b ∉ ex->ai b=none
 there:∀ b o,h.get? b=some o->b ∉ ex->∃ dR,h'.get? b=some dR
 ly:∀ b xs,H b=some (.tup xs)->ai b=some (.tup xs)
 j9:∀ b o u,H b=some (.gD o u)->ai b=some (.gD o u)
 kP:∀ b ps,H b=some (.hO ps)->∃ more,ai b=some (.hO (ps++more))
section
variable{fs m7 ex YQ:List Addr}{H H1 aK:ar}{h af ao h':b2}{a x e:Addr}{o:gU}
theorem fK.any(u:fK fs ex H H1 h af){b:Addr}{dq:Obj}(q:h.get? b=some dq)(n:H b=none)(aq:b ∉ ex):∃ b6,af.get? b=some { dq with slots:=b6 }:=by
 by_cases ag:b∈fs
 ·exact u.slot b dq q n ag aq
 ·exact ⟨dq.slots,u.keep b dq q n ag aq⟩
theorem fK.kept(k:∀ b u,h.get? b=some u->h'.get? b=some u):fK fs ex H H h h':=
 ⟨λ b dq q _ _ _=>k b dq q,λ b dq q _ _ _=>⟨dq.slots,k b dq q⟩,λ _ _ _ n _=>n,λ b dq q _=>⟨dq,k b dq q⟩,λ _ _ q=>q,λ _ _ _ q=>q,λ _ ps q=>⟨#[],by rw [q];simp⟩⟩
theorem fK.refl:fK fs ex H H h h:=fK.kept λ _ _ q=>q
theorem fK.laid(k:∀ b u,h.get? b=some u->h'.get? b=some u)(aj:h.objs.size<=a)(bc:H a=none):fK fs ex H (upd H a o) h h' where
 keep:=λ b u q _ _ _=>k b u q
 slot:=λ b u q _ _ _=>⟨u.slots,k b u q⟩
 free:=λ b u q n _=>by rw [cH (eY (h7 (dW q) aj))];exact n
 there:=λ b u q _=>⟨u,k b u q⟩
 ly:=λ b xs q=>by rw [cH (hP q bc)];exact q
 j9:=λ b u xs q=>by rw [cH (hP q bc)];exact q
 kP:=λ b ps q=>⟨#[],by rw [cH (hP q bc),q];simp⟩
theorem fK.write(j8:uc (H x))(he:e=x\/H e=some (.own x))(k:∀ b u,b≠e->h.get? b=some u->h'.get? b=some u)(sy:∃ u,h'.get? e=some u):fK fs ex H (upd H x o) h h':=by
 have aq:∀ b,H b=none->b≠x:=λ b n z=>by subst z;rw [n] at j8;exact j8
 have ag:∀ b,H b=none->b≠e:=λ b n z=>by
  subst z;rcases he with r | r
  ·exact aq b n r
  ·rw [n] at r;cases r
 have hm:∀ b u,H b=some u->¬ uc (some u)->b≠x:=λ b u q nm z=>by subst z;rw [q] at j8;exact nm j8
 refine ⟨λ b u q n _ _=>k b u (ag b n) q,λ b u q n _ _=>⟨u.slots,k b u (ag b n) q⟩,λ b u q n _=>by rw [cH (aq b n)];exact n,λ b u q _=>?_,
  λ b xs q=>by rw [cH (hm b _ q λ z=>z)];exact q,λ b u xs q=>by rw [cH (hm b _ q λ z=>z)];exact q,λ b ps q=>⟨#[],by rw [cH (hm b _ q λ z=>z),q];simp⟩⟩
 by_cases qv:b=e
 ·subst qv;exact sy
 ·exact ⟨u,k b u qv q⟩
end
def w4(h:b2)(H:ar):List Addr:=(lu h.objs.size).filter λ a=>(H a).isSome
def m8(h:b2)(H:ar):b2:=PySem.W.hideAll h (w4 h H)
theorem KR(h:b2)(H:ar):(m8 h H).objs.size=h.objs.size:=PySem.W.hideAll_size _ _
theorem KS{h:b2}{H:ar}{b:Addr}{o:Obj}(e:h.get? b=some o)(n:H b=none):(m8 h H).get? b=some o:=
 PySem.W.hideAll_get _ e λ hm=>by
  have q:(H b).isSome=true:=(wM.mp hm).2;rw [n] at q;simp at q
theorem KU{h:b2}{H:ar}{b:Addr}{o:Obj}(e:(m8 h H).get? b=some o):h.get? b=some o/\H b=none:=by
 have e':h.get? b=some o:=PySem.W.of_hideAll (w4 h H) e;refine ⟨e',?_⟩
 cases q:H b with
 | none=>rfl
 | some x=>
  have hm:b∈w4 h H:=wM.mpr ⟨wN.mpr (dW e'),by simp [q]⟩;have z:(m8 h H).get? b=none:=PySem.W.hideAll_none (w4 h H) hm;rw [z] at e;cases e
structure Mod(K:a6)(mg:Str->Option Value)(base:b2):Prop where
 sz:K.In base
 glob:base.Ns eS mg
 blt:∃ j_,base.Ns tZ j_/\∀ x:Str,x≠"__name__"->j_ x=lr x
 nolimit:base.NoLimit
structure a4 where
 prog:c8
 w:cG
 K:a6
 mg:Str->Option Value
 base:b2
 A:d6
 N:List Str
 s₀:aM
 H₀:ar
 env:Env
 outer:List Env
 stack:List Env
 ex:List Addr
 fn:Str->Bool
 calm:Bool
 pn:List (Addr × Obj)
 xe:Value->aM->Prop
def ka(l:List Env):List Addr:=l.filterMap (·.frame)
abbrev a4.fs(X:a4):List Addr:=ka X.outer
def qw(sc:e4)(x:Str):Prop:=sc.names.lookup x=some .local\/sc.names.lookup x=some .cell\/sc.names.lookup x=some .free
def Loc(sc:e4)(x:Str):Prop:=sc.names.lookup x=some .local\/sc.names.lookup x=some .cell
def Look(env:Env)(h:b2)(m:Str->Option Value)(x:Str)(u:Value):Prop:=
 (env.kindOf x=some .local/\m x=some u)\/((env.kindOf x=some .cell\/env.kindOf x=some .free)/\∃ c,env.cells.lookup x=some c/\h.IsCell c (some u))
structure a4.Ok(X:a4):Prop where
 mod:Mod X.K X.mg X.base
 kind:X.env.scope.kind=.function
 glob:X.env.globals=eS
 blt:X.env.builtins=tZ
 above:X.s₀.heap.objs.size<=X.env.locals
 inj:∀ x y c,X.env.cells.lookup x=some c->X.env.cells.lookup y=some c->x=y
 has:∀ x,(X.env.kindOf x=some .cell\/X.env.kindOf x=some .free)->∃ c,X.env.cells.lookup x=some c
 sA:∀ x c,X.fn x=true->X.env.cells.lookup x=some c->X.s₀.heap.objs.size<=c
 hd:X.calm=true->X.A.handled=none
 frames:X.A.frames=some X.stack
 w5:X.stack=X.outer\/(X.stack=X.env::X.outer/\X.env.frame=some X.env.locals)
 Ef:∀ b∈X.ex,b≠X.env.locals/\∀ x c,X.env.cells.lookup x=some c->c≠b
 bs:∀ b o,X.base.get? b=some o->X.s₀.heap.get? b=some o/\X.H₀ b=none
 lz:X.base.objs.size<=X.s₀.heap.objs.size
 ud:∀ b o,X.base.get? b=some o->b ∉ X.ex
 w6:∀ b∈X.ex,b ∉ X.fs
 jD:X.s₀.heap.FunFrames X.base X.outer
 m9:∀ b∈X.fs,X.H₀ b=none
structure Inv(X:a4)(pins:List (Addr × Obj))(σ:List (Option V))(H:ar)(s:aM):Prop where
 ok:X.Ok
 os:s.os=X.s₀.os
 bare:o_ s.gens
 base:fK X.fs X.ex X.H₀ H X.s₀.heap s.heap
 loc:∃ m,s.heap.Ns X.env.locals m/\∀(i:Nat)(x:Str)(v:V),X.N[i]?=some x->σ[i]?=some (some v)->qw X.env.scope x->∃ u,RelV v u/\Look X.env s.heap m x u
 cell:∀ x c,X.env.cells.lookup x=some c->∃ v,s.heap.IsCell c v
 free:H X.env.locals=none
 l4:∀ x c,X.env.cells.lookup x=some c->H c=none
 pin:∀ p∈X.pn++pins,s.heap.get? p.1=some p.2/\H p.1=none/\p.1≠X.env.locals/\p.1 ∉ X.fs/\∀ v,p.2.data≠.cell v
 bO:en X.prog X.w H s.heap
 len:σ.length=X.N.length
section
variable{X:a4}{pins:List (Addr × Obj)}{σ:List (Option V)}{H ai:ar}{s:aM}{h':b2}
theorem a4.Ok.KV(ok:X.Ok){b:Addr}{o:Obj}(e:X.base.get? b=some o):b ∉ X.fs:=λ ag=>by
 have:=(ok.jD.mem ag).1;rw [e] at this;cases this
theorem Inv.bs(I:Inv X pins σ H s):∀ b o,X.base.get? b=some o->s.heap.get? b=some o/\H b=none:=λ b o e=>
 ⟨I.base.keep b o (I.ok.bs b o e).1 (I.ok.bs b o e).2 (I.ok.KV e) (I.ok.ud b o e),I.base.free b o (I.ok.bs b o e).1 (I.ok.bs b o e).2 (I.ok.ud b o e)⟩
theorem Inv.bk(I:Inv X pins σ H s):∀ b o,X.base.get? b=some o->s.heap.get? b=some o:=λ b o e=>(I.bs b o e).1
theorem Inv.mod(I:Inv X pins σ H s):Mod X.K X.mg X.base:=I.ok.mod
theorem Inv.eU(I:Inv X pins σ H s):X.K.In s.heap:=I.ok.mod.sz.keeps I.bk
theorem Inv.lt(I:Inv X pins σ H s):X.env.locals < s.heap.objs.size:=let ⟨_,bc,_⟩:=I.loc;bc.lt
theorem Inv.aR(I:Inv X pins σ H s):X.s₀.heap.objs.size<=s.heap.objs.size:=e5 I.ok.above (wV I.lt)
theorem Inv.w7(I:Inv X pins σ H s){a:Addr}(h:s.heap.objs.size<=a):a ∉ X.fs:=λ ag=>by
 obtain ⟨_,o,bb,_⟩:=I.ok.jD.mem ag;exact absurd (h7 (dW bb) (e5 I.aR h)) (n4 _)
theorem Inv.pg(I:Inv X pins σ H s):∀ x c,X.env.cells.lookup x=some c->c≠X.env.locals:=λ x c e z=>by
 obtain ⟨v,o,bb,hd⟩:=I.cell x c e;obtain ⟨m,⟨dR,aw,fg,qx,ph,_⟩,_⟩:=I.loc;rw [z,qx] at bb;cases bb;rw [ph] at hd;cases hd
theorem Inv.jD(I:Inv X pins σ H s):s.heap.FunFrames X.base X.outer:=by
 have all:∀(l:List Env),(∀ b∈ka l,b∈X.fs)->X.s₀.heap.FunFrames X.base l->s.heap.FunFrames X.base l:=by
  intro l
  induction l with
  | nil=>intro _ _;trivial
  | cons env r bL=>
   intro aB aP;obtain ⟨aC,⟨L,o,hf,bc,bb,hd⟩,ap⟩:=aP;have iA:L∈X.fs:=aB L (by unfold ka;rw [wO,hf];exact f7);obtain ⟨b6,e⟩:=I.base.slot L o bb (I.ok.m9 L iA) iA λ z=>I.ok.w6 L z iA;exact ⟨aC,⟨L,_,hf,bc,e,hd⟩,bL (λ b ag=>aB b (by unfold ka;rw [wO,hf];exact h3 _ ag)) ap⟩
 exact all X.outer (λ _ ag=>ag) I.ok.jD
theorem Inv.stack(I:Inv X pins σ H s):s.heap.FunFrames X.base X.stack:=by
 rcases I.ok.w5 with e | ⟨e,hf⟩
 ·rw [e];exact I.jD
 ·rw [e];obtain ⟨m,bc,_⟩:=I.loc;refine .cons (by rw [I.ok.kind];decide) hf bc ?_ I.jD;exact Heap.get?_none_of_le (e5 I.ok.lz I.ok.above)
theorem Inv.pi(I:Inv X pins σ H s):∀ b∈ka X.stack,b∈X.env.locals::X.fs:=λ b ag=>by
 rcases I.ok.w5 with e | ⟨e,hf⟩
 ·rw [e] at ag;exact h3 _ ag
 ·rw [e] at ag;unfold ka at ag;rw [wO,hf] at ag;exact ag
theorem Inv.Eg(I:Inv X pins σ H s):∀ b∈ka X.stack,H b=none:=λ b ag=>by
 rcases ea.mp (I.pi b ag) with e | ag
 ·rw [e];exact I.free
 ·obtain ⟨_,o,bb,_⟩:=I.ok.jD.mem ag;exact I.base.free b o bb (I.ok.m9 b ag) λ z=>I.ok.w6 b z ag
theorem Inv.step{g':Array GenState}{t':Nat}{d':Drawn}{ch:List Addr}(I:Inv X pins σ H s)
 (kb:∀ b∈ch,(b∈X.ex\/X.s₀.heap.objs.size<=b)/\b≠X.env.locals/\(∀ x c,X.env.cells.lookup x=some c->c≠b)/\∀ p∈X.pn++pins,p.1≠b)
 (keep:∀ b o,b≠X.env.locals->b ∉ X.fs->b ∉ ch->s.heap.get? b=some o->H b=none->h'.get? b=some o)
 (slot:∀ b o,b≠X.env.locals->b∈X.fs->b ∉ ch->s.heap.get? b=some o->H b=none->∃ b6,h'.get? b=some { o with slots:=b6 }) (free:∀ b o,b ∉ ch->s.heap.get? b=some o->H b=none->ai b=none)
 (there:∀ b o,b ∉ ch->s.heap.get? b=some o->∃ dR,h'.get? b=some dR)
 (ly:∀ b xs,H b=some (.tup xs)->ai b=some (.tup xs)) (j9:∀ b o u,H b=some (.gD o u)->ai b=some (.gD o u)) (kP:∀ b ps,H b=some (.hO ps)->∃ more,ai b=some (.hO (ps++more)))
 (ns:∀ m,s.heap.Ns X.env.locals m->h'.Ns X.env.locals m) (bO:en X.prog X.w ai h') (a0:o_ g') :
 Inv X pins σ ai { s with heap:=h',gens:=g',drawn:=d',toks:=t' }:=by
 have Eh:∀ b o,X.s₀.heap.get? b=some o->b≠X.env.locals:=λ b o e=>eY (h7 (dW e) I.ok.above)
 have w8:∀ b o,X.s₀.heap.get? b=some o->b ∉ X.ex->b ∉ ch:=λ b o e aq ag=>by
  rcases (kb b ag).1 with z | z
  ·exact aq z
  ·exact absurd (h7 (dW e) z) (n4 _)
 have cellK:∀ x c,X.env.cells.lookup x=some c->∀ v,s.heap.IsCell c v->h'.IsCell c v:=λ x c e v ⟨o,bb,hd⟩=>by
  have uf:c ∉ ch:=λ z=>(kb c z).2.2.1 x c e rfl;by_cases aJ:c∈X.fs
  ·obtain ⟨b6,q⟩:=slot c o (I.pg x c e) aJ uf bb (I.l4 x c e);exact ⟨_,q,hd⟩
  ·exact ⟨o,keep c o (I.pg x c e) aJ uf bb (I.l4 x c e),hd⟩
 refine ⟨I.ok,I.os,a0,⟨λ b o e n ag aq=>?_,λ b o e n ag aq=>?_,λ b o e n aq=>?_,λ b o e aq=>?_,λ b xs e=>ly b xs (I.base.ly b xs e),λ b o xs e=>j9 b o xs (I.base.j9 b o xs e),λ b ps e=>?_⟩,?_,λ x c e=>?_,?_,λ x c e=>?_,λ p aj=>?_,bO,I.len⟩
 ·exact keep b o (Eh b o e) ag (w8 b o e aq) (I.base.keep b o e n ag aq) (I.base.free b o e n aq)
 ·obtain ⟨b6,az⟩:=I.base.slot b o e n ag aq;obtain ⟨KW,aW⟩:=slot b _ (Eh b o e) ag (w8 b o e aq) az (I.base.free b o e n aq);exact ⟨KW,aW⟩
 ·obtain ⟨dR,az⟩:=I.base.there b o e aq;exact free b dR (w8 b o e aq) az (I.base.free b o e n aq)
 ·obtain ⟨dR,az⟩:=I.base.there b o e aq;exact there b dR (w8 b o e aq) az
 ·obtain ⟨jd,az⟩:=I.base.kP b ps e;obtain ⟨l5,aW⟩:=kP b _ az;exact ⟨jd++l5,by rw [aW,Array.append_assoc]⟩
 ·obtain ⟨m,bc,aP⟩:=I.loc;refine ⟨m,ns m bc,λ i x v az aW gm=>?_⟩;obtain ⟨u,r,l⟩:=aP i x v az aW gm;refine ⟨u,r,?_⟩;rcases l with l | ⟨k,c,e,z⟩
  ·exact .inl l
  ·exact .inr ⟨k,c,e,cellK x c e _ z⟩
 ·obtain ⟨v,z⟩:=I.cell x c e;exact ⟨v,cellK x c e v z⟩
 ·obtain ⟨m,⟨o,_,_,bb,_⟩,_⟩:=I.loc;exact free _ o (λ z=>(kb _ z).2.1 rfl) bb I.free
 ·obtain ⟨v,o,bb,hd⟩:=I.cell x c e;exact free c o (λ z=>(kb c z).2.2.1 x c e rfl) bb (I.l4 x c e)
 ·obtain ⟨e,n,ne,qy,d⟩:=I.pin p aj;have uf:p.1 ∉ ch:=λ z=>(kb p.1 z).2.2.2 p aj rfl;exact ⟨keep p.1 p.2 ne qy uf e n,free p.1 p.2 uf e n,ne,qy,d⟩
theorem Inv.un{t':Nat}(I:Inv X pins σ H s)(u:fK X.fs [] H ai s.heap h')(bO:en X.prog X.w ai h'):Inv X pins σ ai { s with heap:=h',toks:=t' }:=by
 obtain ⟨m,⟨o,aw,fg,bb,r⟩,_⟩:=id I.loc;obtain ⟨b6,iA⟩:=u.any bb I.free (by simp)
 exact I.step (g':=s.gens) (d':=s.drawn) (ch:=[]) (λ _ z=>nomatch z) (λ b o _ ag _ e n=>u.keep b o e n ag (by simp)) (λ b o _ ag _ e n=>u.slot b o e n ag (by simp)) (λ b o _ e n=>u.free b o e n (by simp)) (λ b o _ e=>u.there b o e (by simp)) u.ly u.j9 u.kP (λ cu hm=>by
  obtain ⟨dR,l6,zE,qx,dS⟩:=hm;rw [bb] at qx;cases qx
  exact ⟨_,l6,zE,iA,dS⟩) bO I.bare
theorem Inv.call{g':Array GenState}{t':Nat}{d':Drawn}{ch:List Addr}(I:Inv X pins σ H s)(u:fK (ka X.stack) ch H ai s.heap h')(bO:en X.prog X.w ai h')(a0:o_ g')
 (kb:∀ b∈ch,(b∈X.ex\/X.s₀.heap.objs.size<=b)/\b≠X.env.locals/\(∀ x c,X.env.cells.lookup x=some c->c≠b)/\∀ p∈X.pn++pins,p.1≠b) :
 Inv X pins σ ai { s with heap:=h',gens:=g',drawn:=d',toks:=t' }:=by
 obtain ⟨m,⟨o,aw,fg,bb,r⟩,_⟩:=id I.loc;obtain ⟨b6,iA⟩:=u.any bb I.free λ z=>(kb _ z).2.1 rfl
 exact I.step (ch:=ch) kb (λ b o iA ag aJ e n=>u.keep b o e n (λ z=>(ea.mp (I.pi b z)).elim iA ag) aJ) (λ b o _ _ aJ e n=>u.any e n aJ) (λ b o aJ e n=>u.free b o e n aJ) (λ b o aJ e=>u.there b o e aJ) u.ly u.j9 u.kP (λ cu hm=>by
  obtain ⟨dR,l6,zE,qx,dS⟩:=hm;rw [bb] at qx;cases qx
  exact ⟨_,l6,zE,iA,dS⟩) bO a0
theorem Inv.turned{t':Nat}{it:Addr}(I:Inv X pins σ H s)(k:∀ b o,b≠it->s.heap.get? b=some o->h'.get? b=some o)(bc:H it=none)(iA:it≠X.env.locals)
 (af:it∈X.ex\/X.s₀.heap.objs.size<=it) (ao:∀ x c,X.env.cells.lookup x=some c->c≠it) (aF:∀ p∈X.pn++pins,p.1≠it):Inv X pins σ H { s with heap:=h',toks:=t' }:=by
 have ug:∀ b u,H b=some u->b≠it:=λ b u e z=>by rw [z,bc] at e;cases e
 refine I.step (g':=s.gens) (d':=s.drawn) (ch:=[it]) (λ b ag=>?_) (λ b o _ _ aJ e _=>k b o (λ z=>aJ (by simp [z])) e) (λ b o _ _ aJ e _=>⟨o.slots,k b o (λ z=>aJ (by simp [z])) e⟩) (λ _ _ _ _ n=>n)
  (λ b o aJ e=>⟨o,k b o (λ z=>aJ (by simp [z])) e⟩) (λ _ _ e=>e) (λ _ _ _ e=>e) (λ b ps e=>⟨#[],by rw [e];simp⟩) (λ m hm=>?_) (λ b u e=>?_) I.bare
 ·have e:b=it:=by simpa using ag
  subst e;exact ⟨af,iA,ao,aF⟩
 ·obtain ⟨o,aw,fg,bb,r⟩:=hm;exact ⟨o,aw,fg,k _ o (Ne.symm iA) bb,r⟩
 ·refine (I.bO b u e).l3 (λ c v aJ q=>k c v ?_ q) (λ _ q=>q) λ _ _ q=>q;rcases aJ with z | z
  ·rw [z];exact ug b u e
  ·exact ug c _ z
theorem Inv.tok(I:Inv X pins σ H s)(t:Nat):Inv X pins σ H { s with toks:=t }:=I.un (h':=s.heap) (t':=t) fK.refl I.bO
theorem Inv.kept{t':Nat}(I:Inv X pins σ H s)(k:∀ b u,s.heap.get? b=some u->h'.get? b=some u):Inv X pins σ H { s with heap:=h',toks:=t' }:=I.un (fK.kept k) (I.bO.kept k)
theorem Inv.laid{a:Addr}{o:gU}{t':Nat}(I:Inv X pins σ H s)(k:∀ b u,s.heap.get? b=some u->h'.get? b=some u)(aj:s.heap.objs.size<=a)(new:fY X.prog X.w (upd H a o) h' a o) :
 Inv X pins σ (upd H a o) { s with heap:=h',toks:=t' }:=I.un (fK.laid k aj (I.bO.fresh aj)) (I.bO.laid k aj new)
theorem Inv.write{x e:Addr}{o:gU}{t':Nat}(I:Inv X pins σ H s)(j8:uc (H x))(he:e=x\/H e=some (.own x))(k:∀ b u,b≠e->s.heap.get? b=some u->h'.get? b=some u)(sy:∃ u,h'.get? e=some u)
 (new:fY X.prog X.w (upd H x o) h' x o):Inv X pins σ (upd H x o) { s with heap:=h',toks:=t' }:=I.un (fK.write j8 he k sy) (I.bO.write j8 he k sy new)
theorem Inv.Ei{Ej:List (Addr × Obj)}(I:Inv X pins σ H s)(h:∀ p∈Ej,s.heap.get? p.1=some p.2/\H p.1=none/\p.1≠X.env.locals/\p.1 ∉ X.fs/\∀ v,p.2.data≠.cell v):Inv X Ej σ H s:=
 ⟨I.ok,I.os,I.bare,I.base,I.loc,I.cell,I.free,I.l4,λ p aj=>(kH.mp aj).elim (λ z=>I.pin p (lv _ z)) (h p),I.bO,I.len⟩
theorem Ek{N:List Str}(cY:N.Nodup){i j:Nat}{x:Str}(a:N[i]?=some x)(b:N[j]?=some x):i=j:=by
 obtain ⟨af,az⟩:=kI.mp a;obtain ⟨ao,aW⟩:=kI.mp b;exact (List.getElem_inj cY).mp (az.trans aW.symm)
theorem zF{M:Model}{A:d6}{E:Value->aM->Prop}{i:Nat}{x:Str}{v:V}{u:Value}{Q:Unit->aM->Prop}(I:Inv X pins σ H s)(cY:X.N.Nodup)(aA:X.N[i]?=some x)(aq:Loc X.env.scope x)(r:RelV v u)
 (h:∀ a9,Inv X pins (σ.set i (some v)) H a9->(∃ a,Heap.SameBut a s.heap a9.heap/\(a=X.env.locals\/X.env.cells.lookup x=some a))->Q () a9) (hf:X.fn x=true\/X.env.scope.names.lookup x=some .local:=by first | exact .inl rfl | exact .inr rfl | assumption):bz M A (storeName X.env x u) Q E s:=by
 obtain ⟨m,bc,aP⟩:=id I.loc
 have KY:(X.env.scope.kind==.class||(X.env.scope.kind==.module&&X.env.locals !=X.env.globals))=false:=by rw [I.ok.kind];rfl
 have aAσ:i < σ.length:=by rw [I.len];exact (kI.mp aA).1
 have pg:=I.pg
 have tracked:∀{a:Addr}{h':b2},(∃ o,s.heap.get? a=some o/\H a=none)->Heap.SameBut a s.heap h'->en X.prog X.w H h':=λ{a h'} au aB b dq e=>by
  obtain ⟨_,_,El⟩:=au;refine (I.bO b dq e).l3 (λ c jE aJ q=>(aB.2 c ?_).trans q) (λ _ q=>q) λ _ _ q=>q;rintro rfl;rcases aJ with rfl | aJ
  ·rw [El] at e;cases e
  ·rw [El] at aJ;cases aJ
 rcases aq with aC | aC
 ·refine wpAny_storeName_local aC bc (λ h' KZ aB=>?_) KY;obtain ⟨K0,_,_,K1,_⟩:=id bc;refine h _ ⟨I.ok,I.os,I.bare,⟨λ b o e n ag aq=>?_,λ b o e n ag aq=>?_,I.base.free,λ b o e aq=>?_,I.base.ly,I.base.j9,I.base.kP⟩,⟨_,KZ,λ j y l7 az aW gm=>?_⟩,λ y c e=>?_,I.free,I.l4,λ p aj=>?_,tracked ⟨K0,K1,I.free⟩ aB,by simpa using I.len⟩ ⟨_,aB,.inl rfl⟩
  ·exact (aB.2 b (eY (h7 (dW e) I.ok.above))).trans (I.base.keep b o e n ag aq)
  ·obtain ⟨b6,az⟩:=I.base.slot b o e n ag aq;exact ⟨b6,(aB.2 b (eY (h7 (dW e) I.ok.above))).trans az⟩
  ·obtain ⟨dR,az⟩:=I.base.there b o e aq;exact ⟨dR,(aB.2 b (eY (h7 (dW e) I.ok.above))).trans az⟩
  ·by_cases d4:j=i
   ·subst d4;rw [aA] at az;cases az;rw [List.getElem?_set_self aAσ] at aW;cases aW;exact ⟨u,r,.inl ⟨aC,by simp⟩⟩
   ·rw [wP (Ne.symm d4)] at aW;obtain ⟨sB,dS,q⟩:=aP j y l7 az aW gm;refine ⟨sB,dS,?_⟩;rcases q with ⟨k,e⟩ | ⟨k,c,e,z⟩
    ·refine .inl ⟨k,?_⟩;have:y≠x:=λ e=>d4 (Ek cY az (e ▸ aA));simp [this,e]
    ·exact .inr ⟨k,c,e,z.sameBut aB (pg y c e)⟩
  ·obtain ⟨jE,z⟩:=I.cell y c e;exact ⟨jE,z.sameBut aB (pg y c e)⟩
  ·obtain ⟨e,n,ne,qy,d⟩:=I.pin p aj;exact ⟨(aB.2 p.1 ne).trans e,n,ne,qy,d⟩
 ·have m_:X.fn x=true:=by
   rcases hf with z | z
   ·exact z
   ·rw [z] at aC;cases aC
  obtain ⟨c,aJ⟩:=I.ok.has x (.inl aC);obtain ⟨jE,z⟩:=I.cell x c aJ;refine wpAny_storeName_cell I.ok.kind aC aJ z (λ h' uh aB=>?_);obtain ⟨dX,sC,K2⟩:=id z;refine h { s with heap:=h' } ⟨I.ok,I.os,I.bare,⟨λ b o e n ag aq=>?_,λ b o e n ag aq=>?_,I.base.free,λ b o e aq=>?_,I.base.ly,I.base.j9,I.base.kP⟩,⟨m,bc.sameBut aB (Ne.symm (pg x c aJ)),λ j y l7 az aW gm=>?_⟩,λ y c' e=>?_,I.free,I.l4,λ p aj=>?_,tracked ⟨dX,sC,I.l4 x c aJ⟩ aB,by simpa using I.len⟩ ⟨c,aB,.inr aJ⟩
  ·exact (aB.2 b (eY (h7 (dW e) (I.ok.sA x c m_ aJ)))).trans (I.base.keep b o e n ag aq)
  ·obtain ⟨b6,az⟩:=I.base.slot b o e n ag aq;exact ⟨b6,(aB.2 b (eY (h7 (dW e) (I.ok.sA x c m_ aJ)))).trans az⟩
  ·obtain ⟨dR,az⟩:=I.base.there b o e aq;exact ⟨dR,(aB.2 b (eY (h7 (dW e) (I.ok.sA x c m_ aJ)))).trans az⟩
  ·by_cases d4:j=i
   ·subst d4;rw [aA] at az;cases az;rw [List.getElem?_set_self aAσ] at aW;cases aW;exact ⟨u,r,.inr ⟨.inl aC,c,aJ,uh⟩⟩
   ·rw [wP (Ne.symm d4)] at aW;obtain ⟨sB,dS,q⟩:=aP j y l7 az aW gm;refine ⟨sB,dS,?_⟩;rcases q with q | ⟨k,c',e,ft⟩
    ·exact .inl q
    ·refine .inr ⟨k,c',e,ft.sameBut aB ?_⟩;rintro rfl;exact d4 (Ek cY az (I.ok.inj _ _ _ e aJ ▸ aA))
  ·by_cases Em:c'=c
   ·subst Em;exact ⟨_,uh⟩
   ·obtain ⟨eE,bU⟩:=I.cell y c' e;exact ⟨eE,bU.sameBut aB Em⟩
  ·obtain ⟨e,n,ne,qy,d⟩:=I.pin p aj;refine ⟨(aB.2 p.1 ?_).trans e,n,ne,qy,d⟩;intro q;rw [q,sC] at e;have fC:dX=p.2:=gb.inj e;exact d jE (by rw [<- fC];exact K2)
theorem sD{M:Model}{A:d6}{E:Value->aM->Prop}{i:Nat}{x:Str}{v:V}{u:Value}{Q:Unit->aM->Prop}(I:Inv X pins σ H s)(cY:X.N.Nodup)(aA:X.N[i]?=some x)(aq:Loc X.env.scope x)(r:RelV v u)
 (h:∀ a9,Inv X pins (σ.set i (some v)) H a9->Q () a9) (hf:X.fn x=true\/X.env.scope.names.lookup x=some .local:=by first | exact .inl rfl | exact .inr rfl | assumption):bz M A (storeName X.env x u) Q E s:=
 zF I cY aA aq r (λ a9 pj _=>h a9 pj) hf
theorem Inv.K3{a9:aM}{ch:List Addr}(I:Inv X pins σ H s)(bb:a9.os=s.os)(u:fK (ka X.stack) ch H ai s.heap a9.heap)(bO:en X.prog X.w ai a9.heap)(a0:o_ a9.gens)
 (kb:∀ b∈ch,(b∈X.ex\/X.s₀.heap.objs.size<=b)/\b≠X.env.locals/\(∀ x c,X.env.cells.lookup x=some c->c≠b)/\∀ p∈X.pn++pins,p.1≠b):Inv X pins σ ai a9:=by
 obtain ⟨h',g',d',t',dR⟩:=a9;have e:dR=s.os:=bb;subst e;exact I.call (g':=g') (t':=t') (d':=d') u bO a0 kb
end
abbrev h8:=Value->Option Addr->ar->Prop
abbrev St:=List (Option V)
abbrev cm:=V->ar->Prop
abbrev TE:=St->ar->cm->Prop
abbrev TT:=St->ar->(Bool->ar->Prop)->Prop
abbrev eZ:=St->ar->(List V->ar->Prop)->Prop
structure Ends where
 nx:St->ar->Prop
 rt:cm
 bk:St->ar->Prop:=λ _ _=>False
 ct:St->ar->Prop:=λ _ _=>False
abbrev fh:=Ends->St->ar->Prop
def gn(X:a4)(pins:List (Addr × Obj))(σ:St)(Q:cm)(u:Value)(a9:aM):Prop:=∃ v ai,Inv X pins σ ai a9/\RelV v u/\Q v ai
def zG(X:a4)(pins:List (Addr × Obj))(σ:St)(Q:Bool->ar->Prop)(b:Bool)(a9:aM):Prop:=∃ ai,Inv X pins σ ai a9/\Q b ai
def K4(X:a4)(pins:List (Addr × Obj))(σ:St)(Q:List V->ar->Prop)(us:List Value)(a9:aM):Prop:=∃ vs ai,Inv X pins σ ai a9/\Vals vs us/\Q vs ai
def l8(X:a4)(pins:List (Addr × Obj))(D:Ends)(f:Flow)(a9:aM):Prop:=
 match f with
 | .next=>∃ σ' ai,Inv X pins σ' ai a9/\D.nx σ' ai
 | .brk=>∃ σ' ai,Inv X pins σ' ai a9/\D.bk σ' ai
 | .cont=>∃ σ' ai,Inv X pins σ' ai a9/\D.ct σ' ai
 | .ret u=>∃ v σ' ai,Inv X pins σ' ai a9/\RelV v u/\D.rt v ai
def b1(X:a4)(e:a8)(t:TE):Prop:=
 ∀(pins:List (Addr × Obj))(s:aM)(σ:St)(H:ar)(Q:cm),Inv X pins σ H s->t σ H Q->bz (bA X.prog X.w) X.A (eval e X.env) (gn X pins σ Q) X.xe s
def jF(X:a4)(e:a8)(t:TT):Prop:=
 ∀(pins:List (Addr × Obj))(s:aM)(σ:St)(H:ar)(Q:Bool->ar->Prop),Inv X pins σ H s->t σ H Q->bz (bA X.prog X.w) X.A (n0 e X.env (eval e X.env)) (zG X pins σ Q) X.xe s
def nc(X:a4)(e:a8)(t:TT):Prop:=
 ∀(whole:Sem Value)(pins:List (Addr × Obj))(s:aM)(σ:St)(H:ar)(Q:Bool->ar->Prop),Inv X pins σ H s->t σ H Q->bz (bA X.prog X.w) X.A (n0 e X.env whole) (zG X pins σ Q) X.xe s
theorem nc.pt{X:a4}{e:a8}{t:TT}(h:nc X e t):jF X e t:=h _
def hQ(X:a4)(aw:List a8)(t:eZ):Prop:=
 ∀(pos:Pos)(pins:List (Addr × Obj))(s:aM)(σ:St)(H:ar)(Q:List V->ar->Prop),Inv X pins σ H s->t σ H Q->bz (bA X.prog X.w) X.A (spliced (gj pos (dp aw X.env))) (K4 X pins σ Q) X.xe s
def iB(X:a4)(st:bE)(t:fh):Prop:=
 ∀(pins:List (Addr × Obj))(s:aM)(σ:St)(H:ar)(D:Ends),Inv X pins σ H s->t D σ H->bz (bA X.prog X.w) X.A (exec st X.env) (l8 X pins D) X.xe s
def jG(X:a4)(st:List bE)(t:fh):Prop:=
 ∀(pins:List (Addr × Obj))(s:aM)(σ:St)(H:ar)(D:Ends),Inv X pins σ H s->t D σ H->bz (bA X.prog X.w) X.A (execs st X.env) (l8 X pins D) X.xe s
theorem bZ{α:Type}{t:Sem α}{Q kc:α->aM->Prop}{M:Model}{A:d6}{E:Value->aM->Prop}{s:aM}(h:bz M A t Q E s)(iR:∀ a s,Q a s->kc a s):bz M A t kc E s:=eX h iR λ _ _ x=>x
section
variable{X:a4}
theorem bin{a b:a8}{a_ bG:TE}(au:b1 X a a_)(ag:b1 X b bG){pins:List (Addr × Obj)}{s:aM}{σ:St}{H:ar}{R:V->V->ar->Prop}(I:Inv X pins σ H s)(h:a_ σ H λ x H1=>bG σ H1 λ y aK=>R x y aK)
 {α:Type} {Q:α->aM->Prop} {f:Value->Value->Sem α}
 (hf:∀ v u s2 x y aK,Inv X pins σ aK s2->RelV x v->RelV y u->R x y aK->bz (bA X.prog X.w) X.A (f v u) Q X.xe s2) :
 bz (bA X.prog X.w) X.A (eval a X.env) (λ v dY=>bz (bA X.prog X.w) X.A (eval b X.env) (λ u pk=>bz (bA X.prog X.w) X.A (f v u) Q X.xe pk) X.xe dY) X.xe s:=by
 refine bZ (au pins s σ H _ I h) λ v s1 ⟨x,H1,aY,be,aE⟩=>?_;refine bZ (ag pins s1 σ H1 _ aY aE) λ u s2 ⟨y,aK,ck,bB,bu⟩=>?_;exact hf v u s2 x y aK ck be bB bu
def En(i:Nat):TE:=λ σ H Q=>∃ v,σ[i]?=some (some v)/\Q v H
def kQ(v:V):TE:=λ _ H Q=>Q v H
theorem Eo{i:Nat}{x:Str}{pos:Pos}(cY:X.N[i]?=some x)(bK:qw X.env.scope x)(hd:(x==("__debug__" : Str))=false:=by decide)(g8:(x==("__classdict__" : Str))=false:=by decide):b1 X (.Name x pos) (En i):=by
 intro pins s σ H Q I h;obtain ⟨v,e,h⟩:=h;obtain ⟨m,bc,aP⟩:=I.loc;obtain ⟨u,r,l⟩:=aP i x v cY e bK
 have fin:gn X pins σ Q u s:=⟨v,H,I,r,h⟩
 rcases l with ⟨aC,hm⟩ | ⟨aC,c,aJ,Ep⟩
 ·exact wpAny_Name (wpAny_loadName_local I.ok.kind aC bc hm fin) hd
 ·rcases aC with aC | aC
  ·exact wpAny_Name (wpAny_loadName_cell I.ok.kind aC aJ Ep fin) hd
  ·exact wpAny_Name (wpAny_loadName_free I.ok.kind aC aJ Ep fin g8) hd
theorem K5 {i j pos}:b1 X (.Constant (.int i) j pos) (kQ (.int i)):=λ _ _ _ H _ I h=>wpAny_Constant_int ⟨.int i,H,I.tok _,⟨_,rfl⟩,h⟩
theorem K6 {b j pos}:b1 X (.Constant (.bool b) j pos) (kQ (.aO b)):=λ _ _ _ H _ I h=>Constant_bool ⟨.aO b,H,I,rfl,h⟩
theorem K7 {j pos}:b1 X (.Constant .none j pos) (kQ .br):=λ _ _ _ H _ I h=>Constant_none ⟨.br,H,I,rfl,h⟩
theorem zH {x j pos}:b1 X (.Constant (.str x) j pos) (kQ (.str x)):=λ _ _ _ H _ I h=>Calls.Constant_str ⟨.str x,H,I.tok _,⟨_,rfl⟩,h⟩
def eF(X:a4)(x:Str):Prop:=X.env.kindOf x=some .globalImplicit
theorem w9{E:Value->aM->Prop}{pins:List (Addr × Obj)}{s:aM}{σ:St}{H:ar}{x:Str}{u:Value}{pos:Pos}{Q:Value->aM->Prop}(I:Inv X pins σ H s)(a0:eF X x)(hm:X.mg x=some u)(h:Q u s)
 (hd:(x==("__debug__" : Str))=false:=by decide):bz (bA X.prog X.w) X.A (eval (.Name x pos) X.env) Q E s:=
 Calls.Name_function_global I.ok.kind a0 (Calls.loadGlobal_global (by rw [I.ok.glob];exact I.mod.glob.keeps I.bk) hm h) hd
theorem pp{E:Value->aM->Prop}{pins:List (Addr × Obj)}{s:aM}{σ:St}{H:ar}{x:Str}{u:Value}{pos:Pos}{Q:Value->aM->Prop}(I:Inv X pins σ H s)(a0:eF X x)(hm:X.mg x=none)(bK:lr x=some u)(h:Q u s)
 (bc:x≠"__name__":=by decide) (hd:(x==("__debug__" : Str))=false:=by decide):bz (bA X.prog X.w) X.A (eval (.Name x pos) X.env) Q E s:=by
 obtain ⟨j_,af,ao⟩:=I.mod.blt;exact Calls.Name_function_global I.ok.kind a0 (Calls.loadGlobal_builtin (by rw [I.ok.glob];exact I.mod.glob.keeps I.bk) hm (by rw [I.ok.blt];exact af.keeps I.bk) ((ao x bc).trans bK) h) hd
theorem zI{x:Str}{v:V}{u:Value}{pos:Pos}(a0:eF X x)(hm:X.mg x=some u)(r:RelV v u)(hd:(x==("__debug__" : Str))=false:=by decide):b1 X (.Name x pos) (kQ v):=
 λ _ _ _ H _ I h=>w9 I a0 hm ⟨v,H,I,r,h⟩ hd
theorem K8{x:Str}{v:V}{u:Value}{pos:Pos}(a0:eF X x)(hm:X.mg x=none)(bK:lr x=some u)(r:RelV v u)(bc:x≠"__name__":=by decide)(hd:(x==("__debug__" : Str))=false:=by decide):b1 X (.Name x pos) (kQ v):=
 λ _ _ _ H _ I h=>pp I a0 hm bK ⟨v,H,I,r,h⟩ bc hd
variable{a b:a8}{a_ bG:TE}{pos:Pos}
variable{gc nd:TT}{rest:List a8}
def Er(t u:TT):TT:=λ σ H Q=>t σ H λ c H1=>if c=true then u σ H1 Q else Q false H1
def Es(t u:TT):TT:=λ σ H Q=>t σ H λ c H1=>if c=true then Q true H1 else u σ H1 Q
def Et(t:TT):TT:=λ σ H Q=>t σ H λ c H1=>Q (!c) H1
theorem K9(au:jF X a gc):nc X (.BoolOp .And [a] pos) gc:=by
 intro pq pins s σ H Q I h;refine isTrue_and (bZ (au pins s σ H Q I h) λ c s1 e=>?_)
 cases c with
 | true=>exact isTrue_and_nil e
 | false=>exact e
theorem K_(au:jF X a gc):nc X (.BoolOp .Or [a] pos) gc:=by
 intro pq pins s σ H Q I h;refine isTrue_or (bZ (au pins s σ H Q I h) λ c s1 e=>?_)
 cases c with
 | false=>exact isTrue_or_nil e
 | true=>exact e
theorem La(au:jF X a gc)(ag:nc X (.BoolOp .And (b::rest) pos) nd):nc X (.BoolOp .And (a::b::rest) pos) (Er gc nd):=by
 intro pq pins s σ H Q I h;refine isTrue_and (bZ (au pins s σ H _ I h) λ c s1 ⟨H1,aY,aE⟩=>?_)
 cases c with
 | true=>exact ag pq pins s1 σ H1 Q aY aE
 | false=>exact ⟨H1,aY,aE⟩
theorem Lb(au:jF X a gc)(ag:nc X (.BoolOp .Or (b::rest) pos) nd):nc X (.BoolOp .Or (a::b::rest) pos) (Es gc nd):=by
 intro pq pins s σ H Q I h;refine isTrue_or (bZ (au pins s σ H _ I h) λ c s1 ⟨H1,aY,aE⟩=>?_)
 cases c with
 | true=>exact ⟨H1,aY,aE⟩
 | false=>exact ag pq pins s1 σ H1 Q aY aE
theorem Lc(au:jF X a gc):jF X (.UnaryOp .Not a pos) (Et gc):=by
 intro pins s σ H Q I h;exact isTrue_not (au pins s σ H (λ c H1=>Q (!c) H1) I h)
def Eu(a_ bG:TE):TE:=λ σ H Q=>a_ σ H λ x H1=>∃ c,x=.aO c/\if c=true then bG σ H1 Q else Q (.aO false) H1
def Ew(a_:TE):TE:=λ σ H Q=>a_ σ H λ x H1=>∃ c,x=.aO c/\Q (.aO (!c)) H1
theorem Ld {op} {t:TE} (h:b1 X a t):b1 X (.BoolOp op [a] pos) t:=λ pins s σ H Q I hw=>BoolOp_one (h pins s σ H Q I hw)
theorem Le(au:b1 X a a_)(ag:b1 X (.BoolOp .And (b::rest) pos) bG):b1 X (.BoolOp .And (a::b::rest) pos) (Eu a_ bG):=by
 intro pins s σ H Q I h;refine BoolOp_and (bZ (au pins s σ H _ I h) λ v s1 ⟨x,H1,aY,be,aE⟩=>?_);obtain ⟨c,rfl,aE⟩:=aE;cases be;refine wA ?_
 cases c with
 | true=>exact ag pins s1 σ H1 Q aY aE
 | false=>exact ⟨.aO false,H1,aY,rfl,aE⟩
theorem Lf(au:b1 X a a_):b1 X (.UnaryOp .Not a pos) (Ew a_):=by
 intro pins s σ H Q I h;refine UnaryOp_ (bZ (au pins s σ H _ I h) λ v s1 ⟨x,H1,aY,be,aE⟩=>?_);obtain ⟨c,rfl,aE⟩:=aE;cases be;exact not_of (wA ⟨.aO (!c),H1,aY,rfl,aE⟩)
def Ex(t:TT)(a_ bG:TE):TE:=λ σ H Q=>t σ H λ c H1=>if c=true then a_ σ H1 Q else bG σ H1 Q
theorem Lg{c:a8}(aJ:jF X c gc)(au:b1 X a a_)(ag:b1 X b bG):b1 X (.IfExp c a b pos) (Ex gc a_ bG):=by
 intro pins s σ H Q I h;refine wpAny_IfExp (bZ (aJ pins s σ H _ I h) λ d s1 ⟨H1,aY,aE⟩=>?_)
 cases d with
 | true=>exact au pins s1 σ H1 Q aY aE
 | false=>exact ag pins s1 σ H1 Q aY aE
end
def fi(K:a6)(H:ar)(a:Addr)(xs:List V):Prop:=
 j7 H a (.lst xs) ∨
  ∃(o:Obj)(aN:Array Value)(n:Nat),K.lookup a=some o/\o.cls=.type "list"/\o.dict=none/\o.data=.seq aN n/\aN.size<=sizeLine/\Vals xs aN.toList
def dD(K:a6)(H:ar)(a:Addr)(xs:List V):Prop:=
 j7 H a (.tup xs) ∨
  ∃(o:Obj)(aN:Array Value)(n:Nat),K.lookup a=some o/\o.cls=.type "tuple"/\o.data=.seq aN n/\aN.size<=sizeLine/\Vals xs aN.toList
def Lh:Value->Option V
 | .none=>some .br
 | .bool b=>some (.aO b)
 | .int i _=>some (.int i)
 | .str x _=>some (.str x)
 | .bytes b _=>some (.sx b)
 | .float b _=>some (.qu b)
 | .ref a=>some (.ref a)
 | .type n=>some (.ty n)
 | _=>none
theorem RelV.abs{x:V}{u:Value}(r:RelV x u):Lh u=some x:=by
 cases x with
 | br=>cases r;rfl
 | aO _=>cases r;rfl
 | int _=>obtain ⟨t,rfl⟩:=r;rfl
 | str _=>obtain ⟨t,rfl⟩:=r;rfl
 | sx _=>obtain ⟨t,rfl⟩:=r;rfl
 | qu _=>obtain ⟨t,rfl⟩:=r;rfl
 | ref _=>cases r;rfl
 | ty _=>cases r;rfl
theorem RelV.inj{x y:V}{u:Value}(r:RelV x u)(q:RelV y u):x=y:=gb.inj (r.abs.symm.trans q.abs)
theorem Vals.inj:∀{xs a3:List V}{us:List Value},Vals xs us->Vals a3 us->xs=a3
 | _,_,_,.nil,.nil=>rfl
 | _,_,_,.cons r t,.cons dS t'=>by rw [r.inj dS,Vals.inj t t']
section
variable{X:a4}{pins:List (Addr × Obj)}{σ:St}{H:ar}{s:aM}{a:Addr}{xs a3:List V}
theorem fi.of{K:a6}(h:H a=some (.lst xs)):fi K H a xs:=.inl (.inl h)
theorem dD.of{K:a6}(h:H a=some (.tup xs)):dD K H a xs:=.inl (.inl h)
theorem Inv.list(I:Inv X pins σ H s)(h:fi X.K H a xs):∃ aN:List Value,Vals xs aN/\PlainL s.heap a aN.toArray/\xs.length<=sizeLine:=by
 rcases h with h | ⟨o,aN,n,aC,aJ,hd,aB,hz,r⟩
 ·obtain ⟨z,aN,n,r,e⟩:=h.ok I.bO;exact ⟨aN,r,⟨_,n,e,rfl,rfl,rfl⟩,z⟩
 ·refine ⟨aN.toList,r,⟨o,n,I.eU a o aC,aJ,hd,by simpa using aB⟩,?_⟩;have e:=r.length;simp only [Array.length_toList] at e;omega
theorem Inv.tuple(I:Inv X pins σ H s)(h:dD X.K H a xs):∃ aN:List Value,Vals xs aN/\n1 s.heap a aN.toArray/\xs.length<=sizeLine:=by
 rcases h with h | ⟨o,aN,n,aC,aJ,aB,hz,r⟩
 ·obtain ⟨z,aN,r,p⟩:=h.ok I.bO;exact ⟨aN,r,p,z⟩
 ·refine ⟨aN.toList,r,⟨o,I.eU a o aC,aJ,n,by simpa using aB⟩,?_⟩;have e:=r.length;simp only [Array.length_toList] at e;omega
theorem Inv.Ey(I:Inv X pins σ H s)(h:fi X.K H a xs)(h':fi X.K H a a3):xs=a3:=by
 obtain ⟨aN,r,⟨o,n,e,_,_,d⟩,_⟩:=I.list h;obtain ⟨its',dS,⟨dR,ui,e',_,_,d'⟩,_⟩:=I.list h';rw [e] at e';cases e';rw [d] at d';injection d' with iS _
 have:aN=its':=by simpa using congrArg Array.toList iS
 subst this;exact r.inj dS
theorem Inv.uj(I:Inv X pins σ H s)(h:dD X.K H a xs)(h':dD X.K H a a3):xs=a3:=by
 obtain ⟨aN,r,⟨o,e,_,n,d⟩,_⟩:=I.tuple h;obtain ⟨its',dS,⟨dR,e',_,ui,d'⟩,_⟩:=I.tuple h';rw [e] at e';cases e';rw [d] at d';injection d' with iS _
 have:aN=its':=by simpa using congrArg Array.toList iS
 subst this;exact r.inj dS
end
abbrev a4.nf(X:a4)(E:Value->aM->Prop):a4:={ X with xe:=E }
abbrev a4.pv(X:a4):a4:=X.nf λ _ _=>False
theorem a4.Ok.nf{X:a4}(ok:X.Ok)(E:Value->aM->Prop):(X.nf E).Ok:=
 ⟨ok.mod,ok.kind,ok.glob,ok.blt,ok.above,ok.inj,ok.has,ok.sA,ok.hd,ok.frames,ok.w5,ok.Ef,ok.bs,ok.lz,ok.ud,ok.w6,ok.jD,ok.m9⟩
theorem a4.Ok.pw{X:a4}{E:Value->aM->Prop}(ok:(X.nf E).Ok):X.Ok:=
 ⟨ok.mod,ok.kind,ok.glob,ok.blt,ok.above,ok.inj,ok.has,ok.sA,ok.hd,ok.frames,ok.w5,ok.Ef,ok.bs,ok.lz,ok.ud,ok.w6,ok.jD,ok.m9⟩
section
variable{X:a4}{pins:List (Addr × Obj)}{σ:St}{H:ar}{s:aM}{E:Value->aM->Prop}
theorem Inv.nf(I:Inv X pins σ H s)(E:Value->aM->Prop):Inv (X.nf E) pins σ H s:=⟨I.ok.nf E,I.os,I.bare,I.base,I.loc,I.cell,I.free,I.l4,I.pin,I.bO,I.len⟩
theorem Inv.pw(I:Inv (X.nf E) pins σ H s):Inv X pins σ H s:=⟨I.ok.pw,I.os,I.bare,I.base,I.loc,I.cell,I.free,I.l4,I.pin,I.bO,I.len⟩
theorem l8.pw{D:Ends}{f:Flow}{a9:aM}(h:l8 (X.nf E) pins D f a9):l8 X pins D f a9:=by
 cases f with
 | next=>obtain ⟨σ',ai,I,q⟩:=h;exact ⟨σ',ai,I.pw,q⟩
 | brk=>obtain ⟨σ',ai,I,q⟩:=h;exact ⟨σ',ai,I.pw,q⟩
 | cont=>obtain ⟨σ',ai,I,q⟩:=h;exact ⟨σ',ai,I.pw,q⟩
 | ret u=>obtain ⟨v,σ',ai,I,r,q⟩:=h;exact ⟨v,σ',ai,I.pw,r,q⟩
theorem jG.pv{st:List bE}{t:fh}(h:jG X.pv st t):jG X st t:=λ pins s σ H D I hw=>
 eX (h pins s σ H D (I.nf _) hw) (λ _ _ q=>q.pw) λ _ _ z=>False.elim z
end
section
variable{X:a4}{st:bE}{rest:List bE}{t u:fh}{e:a8}{aX:TE}{pos:Pos}
def Ez:fh:=λ D σ H=>D.nx σ H
def EA(t u:fh):fh:=λ D σ H=>t { D with nx:=u D } σ H
theorem Li:jG X [] Ez:=λ _ _ σ H _ I h=>wB ⟨σ,H,I,h⟩
theorem Lj(af:iB X st t)(ao:jG X rest u):jG X (st::rest) (EA t u):=by
 intro pins s σ H D I h;refine wpAny_execs_cons (bZ (af pins s σ H { D with nx:=u D } I h) λ f s1 q=>?_)
 cases f with
 | next=>
  obtain ⟨σ',ai,pj,q⟩:=q;exact ao pins s1 σ' ai D pj q
 | ret v=>exact q
 | brk=>exact q
 | cont=>exact q
theorem Lk(af:iB X st t):jG X [st] t:=by
 intro pins s σ H D I h;refine wpAny_execs_cons (bZ (af pins s σ H D I h) λ f s1 q=>?_)
 cases f with
 | next=>exact wB q
 | ret v=>exact q
 | brk=>exact q
 | cont=>exact q
def EB:fh:=λ D σ H=>D.ct σ H
theorem Ll:iB X (.Continue pos) EB:=λ _ _ σ H _ I h=>wpAny_Continue ⟨σ,H,I,h⟩
theorem Inv.quiet{pins:List (Addr × Obj)}{σ:St}{H:ar}{s:aM}(I:Inv X pins σ H s):interactive X.env=false:=by simp [interactive,I.ok.kind]
def EC(aX:TE):fh:=λ D σ H=>aX σ H λ _ H1=>D.nx σ H1
theorem Lm(he:b1 X e aX)(aB:j3 e none pos.line X.env=pure false:=by rfl):iB X (.Expr e pos) (EC aX):=by
 intro pins s σ H D I h;exact wpAny_Expr_any (bZ (he pins s σ H _ I h) λ v s1 ⟨x,H1,aY,be,aE⟩=>⟨σ,H1,aY,aE⟩) I.quiet aB
def ED(aX:TE):fh:=λ D σ H=>aX σ H D.rt
theorem Ln(he:b1 X e aX):iB X (.Return (some e) pos) (ED aX):=by
 intro pins s σ H D I h;exact wpAny_Return_some (bZ (he pins s σ H _ I h) λ v s1 ⟨x,H1,aY,be,aE⟩=>⟨x,σ,H1,aY,be,aE⟩)
def EE(c:TT)(t u:fh):fh:=λ D σ H=>c σ H λ b H1=>if b=true then t D σ H1 else u D σ H1
theorem Lo{c:a8}{a b:List bE}{bf:TT}(aJ:jF X c bf)(au:jG X a t)(ag:jG X b u):iB X (.If c a b pos) (EE bf t u):=by
 intro pins s σ H D I h;refine wpAny_If (bZ (aJ pins s σ H _ I h) λ d s1 ⟨H1,aY,aE⟩=>?_)
 cases d with
 | true=>exact au pins s1 σ H1 D aY aE
 | false=>exact ag pins s1 σ H1 D aY aE
end
abbrev fZ:=V->St->ar->(St->ar->Prop)->Prop
abbrev l9:=List V->St->ar->(St->ar->Prop)->Prop
def l_(X:a4)(target:a8)(t:fZ):Prop:=
 ∀(pins:List (Addr × Obj))(s:aM)(σ:St)(H:ar)(v:V)(u:Value)(Q:St->ar->Prop),Inv X pins σ H s->RelV v u->t v σ H Q →
  bz (bA X.prog X.w) X.A (hj target X.env u) (λ _ a9=>∃ σ' ai,Inv X pins σ' ai a9/\Q σ' ai) X.xe s
def uk(X:a4)(dZ:List a8)(t:l9):Prop:=
 ∀(pins:List (Addr × Obj))(s:aM)(σ:St)(H:ar)(vs:List V)(us:List Value)(Q:St->ar->Prop),Inv X pins σ H s->Vals vs us->t vs σ H Q →
  bz (bA X.prog X.w) X.A (zw ((ja dZ X.env).map (·.2)) us) (λ _ a9=>∃ σ' ai,Inv X pins σ' ai a9/\Q σ' ai) X.xe s
abbrev qz:=V->V->V->ar->(ar->Prop)->Prop
def w_(X:a4)(t:qz):Prop:=
 ∀(pins:List (Addr × Obj))(s:aM)(σ:St)(H:ar)(o i v:V)(cZ d7 u:Value)(Q:ar->Prop),Inv X pins σ H s->RelV o cZ->RelV i d7->RelV v u->t o i v H Q →
  bz (bA X.prog X.w) X.A (qh cZ d7 u) (λ _ a9=>∃ ai,Inv X pins σ ai a9/\Q ai) X.xe s
abbrev xa:=V->V->ar->cm->Prop
def zJ(X:a4)(op:qg)(t:xa):Prop:=
 ∀(pins:List (Addr × Obj))(s:aM)(σ:St)(H:ar)(x y:V)(v u:Value)(Q:cm),Inv X pins σ H s->RelV x v->RelV y u->t x y H Q →
  bz (bA X.prog X.w) X.A (inplaceOp op v u) (gn X pins σ Q) X.xe s
section
variable{X:a4}{pos:Pos}
def px(i:Nat):fZ:=λ v σ H Q=>Q (σ.set i (some v)) H
theorem Lp{i:Nat}{x:Str}(cY:X.N.Nodup)(aA:X.N[i]?=some x)(aq:Loc X.env.scope x)(hf:X.fn x=true\/X.env.scope.names.lookup x=some .local:=by first | exact .inl rfl | exact .inr rfl | assumption):l_ X (.Name x pos) (px i):=by
 intro pins s σ H v u Q I r h;exact zt (sD I cY aA aq r (λ a9 pj=>⟨_,H,pj,h⟩) hf)
def EF:l9:=λ vs σ H Q=>vs=[]/\Q σ H
def EG(t:fZ)(u:l9):l9:=λ vs σ H Q=>∃ v r,vs=v::r/\t v σ H λ σ' ai=>u r σ' ai Q
theorem Lq:uk X [] EF:=by
 intro pins s σ H vs us Q I r h;obtain ⟨e,h⟩:=h;subst e;cases r;exact assignInOrder_nil ⟨σ,H,I,h⟩
theorem Lr{e:a8}{aw:List a8}{t:fZ}{u:l9}(af:l_ X e t)(ao:uk X aw u)
 (aB:(ja (e::aw) X.env).map (·.2)=hj e X.env::(ja aw X.env).map (·.2):=by rfl):uk X (e::aw) (EG t u):=by
 intro pins s σ H vs us Q I r h;obtain ⟨v,YR,az,h⟩:=h;subst az
 cases r with
 | cons r ew=>
  rw [aB];refine zA (bZ (af pins s σ H _ _ _ I r h) λ _ s1 ⟨σ1,H1,aY,aE⟩=>?_);exact ao pins s1 σ1 H1 _ _ Q aY ew aE
def EH(K:a6)(n:Nat)(t:l9):fZ:=λ v σ H Q=>∃ a xs,v=.ref a/\dD K H a xs/\xs.length=n/\t xs σ H Q
theorem Ls{aw:List a8}{k:Nat}{t:l9}{n:Nat}(aJ:X.calm=true)(h:uk X aw t)
 (bc:(ja aw X.env).length=n:=by rfl) (hy:(ja aw X.env).findIdx? (·.1)=none:=by rfl):l_ X (.Tuple aw k pos) (EH X.K n t):=by
 intro pins s σ H v u Q I r hw;obtain ⟨a,xs,az,bn,aP,hw⟩:=hw;subst az;cases r;obtain ⟨aN,bo,bt,hz⟩:=I.tuple bn;refine assign_Tuple_tuple (I.ok.hd aJ) bt (by simp [bc,<- aP,bo.length]) hy λ h' aq=>?_;have aY:Inv X pins σ H { s with heap:=h' }:=I.kept (t':=s.toks) λ b o e=>aq b o (eY (dW e)) e;exact h pins _ σ H xs _ Q aY (by simpa using bo) hw
def EI(to e6:TE)(t:qz):fZ:=λ v σ H Q=>to σ H λ o H1=>e6 σ H1 λ i aK=>t o i v aK λ dE=>Q σ dE
theorem Lu{o i:a8}{to e6:TE}{t:qz}(bb:b1 X o to)(aA:b1 X i e6)(aB:w_ X t)
 (au:∀ v,hj (.Subscript o i pos) X.env v=(do
  let cZ ← hM [v] (eval o X.env)
  let d7 ← hM [v,cZ] (eval i X.env)
  kF pos
  hM [v,cZ,d7] (qh cZ d7 v)
  sh [v,cZ,d7] []):=by intro _;rfl):l_ X (.Subscript o i pos) (EI to e6 t):=by
 intro pins s σ H v u Q I r h;rw [au];refine aV (tW (bZ (bb pins s σ H _ I h) λ cZ s1 ⟨x,H1,aY,be,aE⟩=>?_));refine aV (tW (bZ (aA pins s1 σ H1 _ aY aE) λ d7 s2 ⟨y,aK,ck,bB,bu⟩=>?_));refine aV (lq (aV (tW (bZ (aB pins s2 σ aK x y v cZ d7 u _ ck be bB r bu) λ _ s3 ⟨dE,c7,dH⟩=>?_))));exact wpAny_release ⟨σ,dE,c7,dH⟩
def pz(aX:TE)(g:fZ):fh:=λ D σ H=>aX σ H λ x H1=>g x σ H1 D.nx
theorem Lv{bj e:a8}{aX:TE}{g:fZ}(he:b1 X e aX)(a0:l_ X bj g)(aB:tX [bj] e pos.line X.env=pure false:=by rfl)(hw:tY [bj] e X.env=pure none:=by rfl)
 (af:(ja [bj] X.env).map (·.2)=[hj bj X.env]:=by rfl):iB X (.Assign [bj] e pos) (pz aX g):=by
 intro pins s σ H D I h;refine wpAny_Assign_stores (bZ (he pins s σ H _ I h) λ v s1 ⟨x,H1,aY,be,aE⟩=>?_) aB hw;rw [af];exact bZ (a0 pins s1 σ H1 x v _ aY be aE) λ _ s2 q=>q
theorem Lw{i:Nat}{x:Str}{e:a8}{aX:TE}{pos':Pos}(cY:X.N.Nodup)(aA:X.N[i]?=some x)(aq:Loc X.env.scope x)(he:b1 X e aX)(aB:j3 e (some (.Name x pos')) pos.line X.env=pure false:=by rfl)(hf:X.fn x=true\/X.env.scope.names.lookup x=some .local:=by first | exact .inl rfl | exact .inr rfl | assumption) :
 iB X (.Assign [.Name x pos'] e pos) (pz aX (px i)):=by
 intro pins s σ H D I h;refine wpAny_Assign_Name (bZ (he pins s σ H _ I h) λ v s1 ⟨y,H1,aY,be,aE⟩=>?_) aB;exact sD aY cY aA aq be (λ s2 ck=>⟨_,H1,ck,aE⟩) hf
def Lx(i j:Nat)(a_:eZ):fh:=λ D σ H=>a_ σ H λ vs H1=>∃ v w,vs=[v,w]/\D.nx ((σ.set i (some v)).set j (some w)) H1
theorem Ly{i j:Nat}{x y:Str}{a b:a8}{a_:eZ}{qA py pt:Pos} {kt cF qB} (aJ:X.calm=true) (cY:X.N.Nodup) (aA:X.N[i]?=some x) (d4:X.N[j]?=some y) (zK:i≠j)
 (aq:X.env.scope.names.lookup x=some .local) (aQ:X.env.scope.names.lookup y=some .local) (au:hQ X [a,b] a_)
 (hw:tY [.Tuple [.Name x qA,.Name y py] kt pt] (.Tuple [a,b] cF qB) X.env=pure (some [x,y]))
 (aB:tX [.Tuple [.Name x qA,.Name y py] kt pt] (.Tuple [a,b] cF qB) pos.line X.env=pure false:=by rfl) :
 iB X (.Assign [.Tuple [.Name x qA,.Name y py] kt pt] (.Tuple [a,b] cF qB) pos) (Lx i j a_):=by
 intro pins s σ H D I h;rw [exec_Assign_arm];refine aV (lq ?_);rw [aB];refine aV (cz ?_);rw [if_neg (by decide)];refine aV (Tuple_ (bZ (au _ pins s σ H _ I h) λ us s1 ⟨vs,H1,aY,be,aE⟩=>?_));obtain ⟨v,w,az,aE⟩:=aE;subst az
 obtain ⟨bV,b8,rfl,bo,jH⟩:∃ bV b8,us=[bV,b8]/\RelV v bV/\RelV w b8:=by
  cases be with
  | cons p q=>
   cases q with
   | cons g9 fC=>
    cases fC;exact ⟨_,_,rfl,p,g9⟩
 refine lp ?_ (by show 2<=sizeLine;decide);have ck:Inv X pins σ H1 { s1 with heap:=s1.heap.push { cls:=.type "tuple", data:=.seq [bV,b8].toArray } }:=aY.kept (t':=s1.toks) λ b o e=>du _ e;rw [hw];refine aV (cz ?_);show bz (bA X.prog X.w) X.A (do rule "assign.swapped-stores"; let items ← unpackItems (.ref s1.heap.objs.size) 2 none;zw [λ v=>bindName X.env y v,λ v=>bindName X.env x v] items.reverse;pure Flow.next) _ _ _;refine aV (XV (aV (unpackItems_tuple (items:=#[bV,b8]) (I.ok.hd aJ) (IsTup.new s1.heap _) λ h' je=>?_)));have c7:=ck.kept (h':=h') (t':=s1.toks) λ b o e=>je b o (eY (dW e)) e;show bz _ _ (zw [λ v=>bindName X.env y v,λ v=>bindName X.env x v] [b8,bV] >>= λ _=>pure Flow.next) _ _ _;refine aV (zA (wpAny_bindName (sD c7 cY d4 (.inl aQ) jH (λ s2 hA=>?_) (.inr aQ))));refine zA (wpAny_bindName (sD hA cY aA (.inl aq) bo (λ s3 hR=>assignInOrder_nil (cz ?_)) (.inr aq)));rw [List.set_comm _ _ (Ne.symm zK)] at hR;exact ⟨_,H1,hR,aE⟩
def Lz(to e6 aX:TE)(xb:V->V->ar->cm->Prop)(xc:xa)(qC:qz):fh:=λ D σ H=>to σ H λ o H1=>e6 σ H1 λ i aK=>xb o i aK λ x dE=>aX σ dE λ y jf=>xc x y jf λ z fL=>qC o i z fL λ ul=>D.nx σ ul
def EJ(X:a4)(t:V->V->ar->cm->Prop):Prop:=
 ∀(pins:List (Addr × Obj))(s:aM)(σ:St)(H:ar)(o i:V)(cZ d7:Value)(Q:cm),Inv X pins σ H s->RelV o cZ->RelV i d7->t o i H Q →
  bz (bA X.prog X.w) X.A (lY cZ d7) (gn X pins σ Q) X.xe s
theorem EK{o i e:a8}{to e6 aX:TE}{xb:V->V->ar->cm->Prop}{xc:xa}{qC:qz}{op:qg}{ma:Pos}(bb:b1 X o to)(aA:b1 X i e6)(a0:EJ X xb)(he:b1 X e aX)(aj:zJ X op xc)(aB:w_ X qC)
 (au:∀ cZ d7 new,augStore i cZ d7 new=(do hM [new,cZ,d7] (qh cZ d7 new);sh [new,cZ,d7] [];pure .next):=by intros;rfl):iB X (.AugAssign (.Subscript o i ma) op e pos) (Lz to e6 aX xb xc qC):=by
 intro pins s σ H D I h;refine wpAny_AugAssign_SubscriptAny (bZ (bb pins s σ H _ I h) λ cZ s1 ⟨am,H1,aY,be,aE⟩=>?_) au;refine bZ (aA pins s1 σ H1 _ aY aE) λ d7 s2 ⟨aI,aK,ck,bB,bu⟩=>?_;refine bZ (a0 pins s2 σ aK am aI cZ d7 _ ck be bB bu) λ old s3 ⟨cP,dE,c7,zL,dH⟩=>?_;refine bZ (he pins s3 σ dE _ c7 dH) λ v s4 ⟨qD,jf,hA,um,gE⟩=>?_;refine bZ (aj pins s4 σ jf cP qD old v _ hA zL um gE) λ new s5 ⟨xd,fL,hR,qE,n8⟩=>?_
 exact bZ (aB pins s5 σ fL am aI xd cZ d7 new _ hR be bB qE n8) λ _ gV ⟨ul,mb,zM⟩=>⟨σ,ul,mb,zM⟩
def EL(f:Int->Int->Int):xa:=λ x y H Q=>∃ i j,x=.int i/\y=.int j/\Q (.int (f i j)) H
theorem LA:zJ X .Add (EL λ i j=>i+j):=by
 intro pins s σ H x y v u Q I be bB h;obtain ⟨i,j,az,aW,q⟩:=h;subst az;subst aW;obtain ⟨t,rfl⟩:=be;obtain ⟨t',rfl⟩:=bB;exact iadd_int ⟨.int _,H,I.tok _,⟨_,rfl⟩,q⟩
theorem LB:zJ X .Sub (EL λ i j=>i - j):=by
 intro pins s σ H x y v u Q I be bB h;obtain ⟨i,j,az,aW,q⟩:=h;subst az;subst aW;obtain ⟨t,rfl⟩:=be;obtain ⟨t',rfl⟩:=bB;exact isub_int ⟨.int _,H,I.tok _,⟨_,rfl⟩,q⟩
end
section
variable{X:a4}{pos:Pos}
def EM(c:TT)(bG:fh):fh:=λ D σ H=>∃ W:Nat->St->ar->Prop,(∃ m,W m σ H)/\∀ m σ H,W m σ H →
 c σ H λ b H1=>if b=true then ∃ N:St->ar->Prop,(∀ σ' ai,N σ' ai->∃ cu,cu < m/\W cu σ' ai)/\bG { D with nx:=N,ct:=N,bk:=D.nx } σ H1 else D.nx σ H1
theorem LC{c:a8}{body:List bE}{bf:TT}{bG:fh}(aj:se (bA X.prog X.w) X.A X.env X.xe)(aJ:jF X c bf)(ag:jG X body bG):iB X (.While c body [] pos) (EM bf bG):=by
 intro pins s σ H D I h;obtain ⟨W,⟨m0,iT⟩,turn⟩:=h;refine wpAny_While (codeAny_whileLoop (λ n a9=>∃ σ' ai,Inv X pins σ' ai a9/\W n σ' ai) ?_ m0 ⟨σ,H,I,iT⟩);rintro n s1 ⟨σ1,H1,aY,dv⟩;refine qb aj (bZ (aJ pins s1 σ1 H1 _ aY (turn n σ1 H1 dv)) λ b s2 ⟨aK,ck,bu⟩=>?_)
 cases b with
 | true=>
  obtain ⟨N,cY,bu⟩:=bu;rw [if_pos rfl];refine qb aj (bZ (ag pins s2 σ1 aK _ ck bu) λ f s3 dH=>?_)
  cases f with
  | next=>
   obtain ⟨σ3,dE,c7,d8⟩:=dH;obtain ⟨cu,hm,h9⟩:=cY σ3 dE d8;exact ⟨cu,hm,σ3,dE,c7,h9⟩
  | cont=>
   obtain ⟨σ3,dE,c7,d8⟩:=dH;obtain ⟨cu,hm,h9⟩:=cY σ3 dE d8;exact ⟨cu,hm,σ3,dE,c7,h9⟩
  | brk=>exact dH
  | ret v=>exact dH
 | false=>
  rw [if_neg iz];exact wB ⟨σ1,aK,ck,bu⟩
end
structure lA where
 go:Nat->ar->Prop
 pA:Nat->ar->V->ar->Prop
 stop:Nat->ar->Prop
def h_(X:a4)(pins:List (Addr × Obj))(H:ar)(b:Addr):Prop:=
 H b=none/\b≠X.env.locals/\b ∉ X.fs/\(b∈X.ex\/X.s₀.heap.objs.size<=b)/\(∀ x c,X.env.cells.lookup x=some c->c≠b)/\∀ p∈X.pn++pins,p.1≠b
theorem Inv.sE{X:a4}{pins:List (Addr × Obj)}{σ:St}{H ai:ar}{s:aM}{b:Addr}(I:Inv X pins σ H s)(ag:s.heap.objs.size<=b)(bc:ai b=none):h_ X pins ai b:=by
 refine ⟨bc,t7 (h7 I.lt ag),I.w7 ag,.inr (e5 I.aR ag),λ x c e z=>?_,λ p aj z=>?_⟩
 ·obtain ⟨v,q⟩:=I.cell x c e;exact absurd (h7 q.lt (by rw [z];exact ag)) (n4 _)
 ·exact absurd (h7 (dW (I.pin p aj).1) (by rw [z];exact ag)) (n4 _)
structure Turn(P:c8)(w:cG)(K:a6)(bj:a8)(J:lA)(fp:List Addr)(it:Addr)(fM:Nat->b2->Prop):Prop where
 mem:it∈fp
 obj:∀ i h,fM i h->∀ b∈fp,∃ o,h.get? b=some o/\∀ v,o.data≠.cell v
 keep:∀ i h h',fM i h->(∀ b∈fp,∀ o,h.get? b=some o->h'.get? b=some o)->fM i h'
 item:∀(X:a4),X.prog=P->X.w=w->X.K=K->X.calm=true->∀(i:Nat)(pins:List (Addr × Obj))(s:aM)(σ:St)(H:ar)(E:Value->aM->Prop),Inv X pins σ H s->(∀ b∈fp,h_ X pins H b)->fM i s.heap->J.go i H →
  bz (bA P w) X.A (o4 (.ref it)) (λ r s1=>∃ u,r=some u ∧
   bz (bA P w) X.A (tV bj (.ref it) u) (λ _ s2=>∃ x ai,Inv X pins σ ai s2/\RelV x u/\J.pA i H x ai/\fM (i+1) s2.heap/\∀ b∈fp,ai b=none) E s1) E s
 done:∀(X:a4),X.prog=P->X.w=w->X.K=K->X.calm=true->∀(i:Nat)(pins:List (Addr × Obj))(s:aM)(σ:St)(H:ar)(E:Value->aM->Prop),Inv X pins σ H s->(∀ b∈fp,h_ X pins H b)->fM i s.heap->J.stop i H →
  bz (bA P w) X.A (o4 (.ref it)) (λ r s1=>r=none/\Inv X pins σ H s1) E s
 self:∀(A:d6)(i:Nat)(s:aM)(Q:Value->aM->Prop)(E:Value->aM->Prop),fM i s.heap->Q (.ref it) s->bz (bA P w) A (pyIter (.ref it)) Q E s
abbrev TI:=St->ar->(lA->ar->Prop)->Prop
def EN(X:a4)(pins:List (Addr × Obj))(σ:St)(bj:a8)(R:lA->ar->Prop)(sF:Value)(s2:aM):Prop:=
 ∃(it:Addr)(fp:List Addr)(fM:Nat->b2->Prop)(J:lA)(ai:ar),sF=.ref it/\Inv X pins σ ai s2/\Turn X.prog X.w X.K bj J fp it fM/\fM 0 s2.heap/\(∀ b∈fp,h_ X pins ai b)/\R J ai
def mc(X:a4)(bj iter:a8)(cT:TI):Prop:=
 ∀(pins:List (Addr × Obj))(s:aM)(σ:St)(H:ar)(R:lA->ar->Prop),Inv X pins σ H s->cT σ H R →
  bz (bA X.prog X.w) X.A (eval iter X.env) (λ v s1=>bz (bA X.prog X.w) X.A (pyIter v) (EN X pins σ bj R) X.xe s1) X.xe s
theorem xf{M:Model}{A:d6}{E:Value->aM->Prop}{s:aM}{bj:a8}{it:Addr}{u:Value}{o:Obj}{n:String}{vs:Array Value}{Q:Unit->aM->Prop}(bb:s.heap.get? it=some o)(aJ:o.cls=.type n)(hd:o.data=.fields vs)
 (bc:["enumerate", "zip", "dict_itemiterator", "dict_reverseitemiterator", "odict_iterator", "itertools.zip_longest", "itertools.pairwise"].contains n=false) (iR:Q () s):bz M A (tV bj (.ref it) u) Q E s:=by
 unfold tV
 cases bj<;>first
  | exact cz iR
  | (cases u<;>first
      | exact cz iR
      | (refine aV (wpAny_load bb ?_)
         rw [aJ,hd];show bz M A (if (["enumerate", "zip", "dict_itemiterator", "dict_reverseitemiterator", "odict_iterator", "itertools.zip_longest", "itertools.pairwise"].contains n&&vs[0]?==some (kG _))=true then _ else _) Q E s;rw [if_neg (by intro h;rw [bc,Bool.false_and] at h;cases h)]
         exact cz iR))
def uo(K:a6)(a:Addr):lA:=
 ⟨λ i H=>∃ xs x,fi K H a xs/\xs[i]?=some x,λ i H x ai=>ai=H/\∀ xs,fi K H a xs->xs[i]?=some x,λ i H=>∃ xs,fi K H a xs/\xs.length<=i⟩
def uq(K:a6)(a:Addr):lA:=
 ⟨λ i H=>∃ xs x,dD K H a xs/\xs[i]?=some x,λ i H x ai=>ai=H/\∀ xs,dD K H a xs->xs[i]?=some x,λ i H=>∃ xs,dD K H a xs/\xs.length<=i⟩
def qF(lo:Int)(n:Nat):lA:=⟨λ i _=>i < n,λ i H x ai=>ai=H/\x=.int (lo+i),λ i _=>n<=i⟩
theorem LD{P:c8}{w:cG}{K:a6}{bj:a8}(a it:Addr):Turn P w K bj (uo K a) [it] it (λ i h=>h.IsListIter it a i) where
 mem:=by simp
 obj:=λ i h st b ag=>by
  have e:b=it:=by simpa using ag
  subst e;obtain ⟨o,e,c,d⟩:=st;exact ⟨o,e,λ v z=>by rw [d] at z;cases z⟩
 keep:=λ i h h' st k=>st.at λ o e=>k it (by simp) o e
 item:=by
  intro X ia hw fu aJ i pins s σ H E I hf st a0;subst ia hw fu;obtain ⟨xs,x,bn,aq⟩:=a0;obtain ⟨aN,bo,p,hz⟩:=I.list bn;obtain ⟨u,bx,dw⟩:=bo.get aq;obtain ⟨f0,f1,f2,dl,f4,hl⟩:=hf it (by simp);refine wpAny_pyNext_list_item st p.isList (x:=u) (by simpa using bx) λ h' iU cU=>?_;have aY:Inv X pins σ H { s with heap:=h' }:=I.turned (t':=s.toks) (λ b o ag e=>(cU.2 b ag).trans e) f0 f1 dl f4 hl;obtain ⟨o,e,c,d⟩:=id iU;exact ⟨u,rfl,xf (s:={ s with heap:=h' }) e c d (by decide) ⟨x,H,aY,dw,⟨rfl,λ a3 aQ=>by rw [I.Ey aQ bn];exact aq⟩,iU,λ b ag=>(hf b ag).1⟩⟩
 done:=by
  intro X ia hw fu aJ i pins s σ H E I hf st a0;subst ia hw fu;obtain ⟨xs,bn,aq⟩:=a0;obtain ⟨aN,bo,p,hz⟩:=I.list bn;obtain ⟨f0,f1,f2,dl,f4,hl⟩:=hf it (by simp);have aP:=bo.length
  exact wpAny_pyNext_list_end (I.ok.hd aJ) st p.isList (by simp;omega) λ h' g_=>⟨rfl,I.turned (t':=s.toks) (λ b o ag e=>g_ b o ag e) f0 f1 dl f4 hl⟩
 self:=λ _ _ _ _ _ st h=>wpAny_pyIter_listiter st h
theorem LE{P:c8}{w:cG}{K:a6}{bj:a8}(a it:Addr):Turn P w K bj (uq K a) [it] it (λ i h=>h.IsTupleIter it a i) where
 mem:=by simp
 obj:=λ i h st b ag=>by
  have e:b=it:=by simpa using ag
  subst e;obtain ⟨o,e,c,d⟩:=st;exact ⟨o,e,λ v z=>by rw [d] at z;cases z⟩
 keep:=λ i h h' st k=>st.at λ o e=>k it (by simp) o e
 item:=by
  intro X ia hw fu aJ i pins s σ H E I hf st a0;subst ia hw fu;obtain ⟨xs,x,bn,aq⟩:=a0;obtain ⟨aN,bo,p,hz⟩:=I.tuple bn;obtain ⟨u,bx,dw⟩:=bo.get aq;obtain ⟨f0,f1,f2,dl,f4,hl⟩:=hf it (by simp);refine wpAny_pyNext_tuple_item st (show s.heap.IsTuple a aN.toArray from p) (x:=u) (by simpa using bx) λ h' iU cU=>?_;have aY:Inv X pins σ H { s with heap:=h' }:=I.turned (t':=s.toks) (λ b o ag e=>(cU.2 b ag).trans e) f0 f1 dl f4 hl;obtain ⟨o,e,c,d⟩:=id iU;exact ⟨u,rfl,xf (s:={ s with heap:=h' }) e c d (by decide) ⟨x,H,aY,dw,⟨rfl,λ a3 aQ=>by rw [I.uj aQ bn];exact aq⟩,iU,λ b ag=>(hf b ag).1⟩⟩
 done:=by
  intro X ia hw fu aJ i pins s σ H E I hf st a0;subst ia hw fu;obtain ⟨xs,bn,aq⟩:=a0;obtain ⟨aN,bo,p,hz⟩:=I.tuple bn;obtain ⟨f0,f1,f2,dl,f4,hl⟩:=hf it (by simp);have aP:=bo.length
  exact wpAny_pyNext_tuple_end (I.ok.hd aJ) st (show s.heap.IsTuple a aN.toArray from p) (by simp;omega) λ h' g_=>⟨rfl,I.turned (t':=s.toks) (λ b o ag e=>g_ b o ag e) f0 f1 dl f4 hl⟩
 self:=λ _ _ _ _ _ st h=>wpAny_pyIter_tupleiter st h
theorem LF{P:c8}{w:cG}{K:a6}{bj:a8}(it:Addr)(lo:Int)(n:Nat):Turn P w K bj (qF lo n) [it] it (λ i h=>IsRangeIter h it (lo+(i:Nat) * 1) ((n:Int) - (i:Nat)) 1) where
 mem:=by simp
 obj:=λ i h st b ag=>by
  have e:b=it:=by simpa using ag
  subst e
  exact ⟨_,st,λ v z=>by
   have ft:Data.fields _=Data.cell v:=z
   cases ft⟩
 keep:=λ i h h' st k=>k it (by simp) _ st
 item:=by
  intro X ia hw fu aJ i pins s σ H E I hf st a0;subst ia hw fu;obtain ⟨f0,f1,f2,dl,f4,hl⟩:=hf it (by simp);have W:=Walks.range (prog:=X.prog) (w:=X.w) (I.ok.hd aJ) it lo 1 n;refine W.item i s _ _ a0 st λ v h' tk bK iU cj=>?_;obtain ⟨t,rfl⟩:=bK;have aY:Inv X pins σ H { s with heap:=h',toks:=tk }:=I.turned (λ b o ag e=>cj b o (by simpa using ag) e) f0 f1 dl f4 hl;refine ⟨_,rfl,xf (s:={ s with heap:=h',toks:=tk }) (n:="range_iterator") iU rfl rfl (by decide) ⟨.int (lo+i),H,aY,⟨t,?_⟩,⟨rfl,rfl⟩,iU,λ b ag=>(hf b ag).1⟩⟩;rw [Int.mul_one]
 done:=by
  intro X ia hw fu aJ i pins s σ H E I hf st a0;subst ia hw fu;obtain ⟨f0,f1,f2,dl,f4,hl⟩:=hf it (by simp)
  exact wpAny_pyNext_range_end (I.ok.hd aJ) st (by have:n<=i:=a0;omega) λ h' g_=>⟨rfl,I.turned (t':=s.toks) (λ b o ag e=>g_ b o ag e) f0 f1 dl f4 hl⟩
 self:=λ _ _ _ _ _ st h=>wpAny_pyIter_rangeiter st h
section
variable{X:a4}{bj:a8}
theorem EO{pins:List (Addr × Obj)}{σ:St}{H:ar}{s:aM}{R:lA->ar->Prop}{E:Value->aM->Prop}{lo aA:Int}{t u v:Tok}{tk:Nat}(I:Inv X pins σ H s)(af:-(2 ^ 62)<=lo)(ao:lo < 2 ^ 62)(aF:-(2 ^ 62)<=aA)(cn:aA < 2 ^ 62)
 (q:R (qF lo (aA - lo).toNat) H):bz (bA X.prog X.w) X.A (pyIter (.ref s.heap.objs.size)) (EN X pins σ bj R) E { s with heap:=s.heap.push { cls:=.type "range", data:=.fields #[.int lo t,.int aA u,.int 1 v] },toks:=tk }:=by
 refine wpAny_pyIter_range (IsRange.new ..) (small_one af ao aF cn) ?_;have aY:Inv X pins σ H { s with heap:=s.heap.push { cls:=.type "range", data:=.fields #[.int lo t,.int aA u,.int 1 v] },toks:=tk }:=I.kept λ b o e=>du _ e
 refine ⟨(s.heap.push { cls:=.type "range", data:=.fields #[.int lo t,.int aA u,.int 1 v] }).objs.size,[(s.heap.push { cls:=.type "range", data:=.fields #[.int lo t,.int aA u,.int 1 v] }).objs.size],_,_,H,rfl,
  aY.kept (t':=tk) λ b o e=>du _ e,LF _ lo (aA - lo).toNat,?_,λ b ag=>?_,q⟩
 ·have az:lo+((0:Nat):Int) * 1=lo:=by simp
  have aW:(((aA - lo).toNat:Nat):Int) - ((0:Nat):Int)=Builtin.Range.rangeSize lo aA 1:=by rw [rangeSize_one];split<;>omega
  show IsRangeIter _ _ (lo+((0:Nat):Int) * 1) ((((aA - lo).toNat:Nat):Int) - ((0:Nat):Int)) 1;rw [az,aW];exact gC _ rfl
 ·have e:b=(s.heap.push { cls:=.type "range", data:=.fields #[.int lo t,.int aA u,.int 1 v] }).objs.size:=by simpa using ag
  subst e;exact aY.sE (b7 _) (aY.bO.fresh (b7 _))
def EP(a_:eZ):TI:=λ σ H R=>a_ σ H λ vs H1=>∃ j:Int,vs=[.int j]/\-(2 ^ 62)<=j/\j < 2 ^ 62/\R (qF 0 j.toNat) H1
def EQ(a_:eZ):TI:=λ σ H R=>a_ σ H λ vs H1=>∃ i j:Int,vs=[.int i,.int j]/\(-(2 ^ 62)<=i/\i < 2 ^ 62/\-(2 ^ 62)<=j/\j < 2 ^ 62)/\R (qF i (j - i).toNat) H1
theorem LG{a:a8}{a_:eZ}{p pos:Pos}(a0:eF X "range")(hm:X.mg "range" = none)(au:hQ X [a] a_)(aB:dp [a] X.env=[(false,eval a X.env)]:=by rfl):mc X bj (.Call (.Name "range" p) [a] [] pos) (EP a_):=by
 intro pins s σ H R I h;refine Call_ (pp I a0 hm boot_range (sq (bZ (au pos pins s σ H _ I h) λ us s1 ⟨vs,H1,aY,be,aE⟩=>?_) aB rfl));obtain ⟨j,e,aE,bu,q⟩:=aE;subst e
 cases be with
 | cons r ew=>
  cases ew;obtain ⟨t,rfl⟩:=r;exact call_range_1 (EO aY (by omega) (by omega) aE bu (by simpa using q))
theorem LH{a b:a8}{a_:eZ}{p pos:Pos}(a0:eF X "range")(hm:X.mg "range" = none)(au:hQ X [a,b] a_)(aB:dp [a,b] X.env=[(false,eval a X.env),(false,eval b X.env)]:=by rfl)(ur:dp [b] X.env=[(false,eval b X.env)]:=by rfl) :
 mc X bj (.Call (.Name "range" p) [a,b] [] pos) (EQ a_):=by
 intro pins s σ H R I h;refine Call_ (pp I a0 hm boot_range (sq (bZ (au pos pins s σ H _ I h) λ us s1 ⟨vs,H1,aY,be,aE⟩=>?_) (by rw [aB,ur]) (by rw [ur];rfl)));obtain ⟨i,j,e,⟨aE,bu,dH,gE⟩,q⟩:=aE;subst e
 cases be with
 | cons r ew=>
  cases ew with
  | cons dS ew=>
   cases ew;obtain ⟨t,rfl⟩:=r;obtain ⟨t',rfl⟩:=dS;exact call_range_2 (EO aY aE bu dH gE q)
def ER(cT:TI)(g:fZ)(bG:fh):fh:=λ D σ H=>cT σ H λ J H1=>∃ W:Nat->Nat->St->ar->Prop,(∃ m,W 0 m σ H1)/\∀ i m σ H,W i m σ H →
 (J.stop i H/\D.nx σ H)\/(J.go i H/\∃ N:St->ar->Prop,(∀ σ' ai,N σ' ai->∃ cu,cu < m/\W (i+1) cu σ' ai)/\∀ x ai,J.pA i H x ai->g x σ ai λ σ2 aK=>bG { D with nx:=N,ct:=N,bk:=D.nx } σ2 aK)
def xg(fp:List Addr)(h:b2):List (Addr × Obj):=fp.filterMap λ b=>(h.get? b).map λ o=>(b,o)
theorem kd{fp:List Addr}{h:b2}{b:Addr}{o:Obj}(ag:b∈fp)(e:h.get? b=some o):(b,o)∈xg fp h:=t5.mpr ⟨b,ag,by rw [e];rfl⟩
theorem LI{fp:List Addr}{h:b2}{p:Addr × Obj}(aj:p∈xg fp h):p.1∈fp/\h.get? p.1=some p.2:=by
 obtain ⟨b,ag,e⟩:=t5.mp aj
 cases q:h.get? b with
 | none=>rw [q] at e;cases e
 | some o=>
  rw [q] at e;have e':(b,o)=p:=gb.inj e;subst e';exact ⟨ag,q⟩
theorem Inv.pinned{pins:List (Addr × Obj)}{σ:St}{H:ar}{s:aM}{fp:List Addr}(I:Inv X pins σ H s)(hf:∀ b∈fp,h_ X pins H b)(bb:∀ b∈fp,∃ o,s.heap.get? b=some o/\∀ v,o.data≠.cell v):Inv X (pins++xg fp s.heap) σ H s:=
 I.Ei λ p aj=>(kH.mp aj).elim (λ z=>I.pin p (eu _ z)) λ z=>by
  obtain ⟨ag,e⟩:=LI z;obtain ⟨f0,f1,f2,_⟩:=hf p.1 ag;obtain ⟨o,e',d⟩:=bb p.1 ag;rw [e] at e';cases e';exact ⟨e,f0,f1,f2,d⟩
theorem Inv.n9{pins pl:List (Addr × Obj)}{σ:St}{H:ar}{s:aM}(I:Inv X (pins++pl) σ H s):Inv X pins σ H s:=I.Ei λ p aj=>I.pin p (eu _ (lv _ aj))
theorem LJ{iter:a8}{body:List bE}{cT:TI}{g:fZ}{bG:fh}{pos:Pos}(aj:se (bA X.prog X.w) X.A X.env X.xe)(aJ:X.calm=true)(aA:mc X bj iter cT)(a0:l_ X bj g)(ag:jG X body bG)
 (aB:∀ x,jy iter X.env x=pure x:=by intro _;rfl):iB X (.For bj iter body [] pos) (ER cT g bG):=by
 intro pins s σ H D I h;refine wpAny_For (bZ (aA pins s σ H _ I h) λ v s1 af=>bZ af λ sF s2 ao=>?_) aB;obtain ⟨it,fp,fM,J,aK,e,ck,T,kR,f2,W,⟨m0,iT⟩,turn⟩:=ao;subst e
 have ib:∀{ai:ar},(∀ b∈fp,ai b=none)->∀ b∈fp,h_ X pins ai b:=λ bc b ag=>⟨bc b ag,(f2 b ag).2⟩
 refine codeAny_forLoop_any (λ n a9=>∃ i σ' ai,Inv X pins σ' ai a9/\fM i a9.heap/\(∀ b∈fp,ai b=none)/\W i n σ' ai) ?_ m0 ⟨0,σ,aK,ck,kR,λ b ag=>(f2 b ag).1,iT⟩;rintro n s3 ⟨i,σ3,dE,c7,ke,ES,h9⟩;rcases turn i n σ3 dE h9 with ⟨stop,md⟩ | ⟨go,N,cY,step⟩
 ·refine qb aj (bZ (T.done X rfl rfl rfl aJ i pins s3 σ3 dE X.xe c7 (ib ES) ke stop) λ r s4 ⟨ap,hA⟩=>?_);subst ap;exact wB ⟨σ3,dE,hA,md⟩
 ·refine qb aj (bZ (T.item X rfl rfl rfl aJ i pins s3 σ3 dE X.xe c7 (ib ES) ke go) λ r s4 ⟨u,ap,cn⟩=>?_);subst ap;refine qb aj (bZ cn λ _ s5 ⟨x,fL,hR,qE,zN,jI,kS⟩=>?_);have LK:=hR.pinned (ib kS) (T.obj _ _ jI);refine qb aj (bZ (a0 _ s5 σ3 fL x u _ LK qE (step x fL zN)) λ _ gV ⟨σ6,ul,mb,zM⟩=>?_);refine qb aj (bZ (ag _ gV σ6 ul _ mb zM) λ f kT me=>?_)
  have g6:∀{σ7:St}{gp:ar},Inv X (pins++xg fp s5.heap) σ7 gp kT->N σ7 gp->∃ m,m < n/\∃ i σ' ai,Inv X pins σ' ai kT/\fM i kT.heap/\(∀ b∈fp,ai b=none)/\W i m σ' ai:=λ{σ7 gp} ic ut=>by
   obtain ⟨cu,hm,LL⟩:=cY σ7 gp ut;refine ⟨cu,hm,i+1,σ7,gp,ic.n9,T.keep _ _ _ jI λ b ag o e=>(ic.pin (b,o) (eu _ (eu _ (kd ag e)))).1,λ b ag=>?_,LL⟩;obtain ⟨o,e,d⟩:=T.obj _ _ jI b ag;exact (ic.pin (b,o) (eu _ (eu _ (kd ag e)))).2.1
  cases f with
  | next=>obtain ⟨σ7,gp,ic,ut⟩:=me;exact g6 ic ut
  | cont=>obtain ⟨σ7,gp,ic,ut⟩:=me;exact g6 ic ut
  | brk=>obtain ⟨σ7,gp,ic,me⟩:=me;exact ⟨σ7,gp,ic.n9,me⟩
  | ret v=>obtain ⟨LM,σ7,gp,ic,n_,me⟩:=me;exact ⟨LM,σ7,gp,ic.n9,n_,me⟩
end
abbrev fv:=V->V->ar->cm->Prop
def eo(X:a4)(f:Value->Value->Sem Value)(r:fv):Prop:=
 ∀(pins:List (Addr × Obj))(s:aM)(σ:St)(H:ar)(x y:V)(v u:Value)(Q:cm),Inv X pins σ H s->RelV x v->RelV y u->r x y H Q →
  bz (bA X.prog X.w) X.A (f v u) (gn X pins σ Q) X.xe s
def xh(X:a4)(f:Value->Sem Value)(r:V->ar->cm->Prop):Prop:=
 ∀(pins:List (Addr × Obj))(s:aM)(σ:St)(H:ar)(x:V)(v:Value)(Q:cm),Inv X pins σ H s->RelV x v->r x H Q →
  bz (bA X.prog X.w) X.A (f v) (gn X pins σ Q) X.xe s
def kU(X:a4)(f:Value)(r:List V->ar->cm->Prop):Prop:=
 ∀(pins:List (Addr × Obj))(s:aM)(σ:St)(H:ar)(xs:List V)(us:List Value)(Q:cm),Inv X pins σ H s->Vals xs us->r xs H Q →
  bz (bA X.prog X.w) X.A (call f us) (gn X pins σ Q) X.xe s
def LN(X:a4)(r:V->ar->(Bool->ar->Prop)->Prop):Prop:=
 ∀(pins:List (Addr × Obj))(s:aM)(σ:St)(H:ar)(x:V)(v:Value)(Q:Bool->ar->Prop),Inv X pins σ H s->RelV x v->r x H Q →
  bz (bA X.prog X.w) X.A (truthy v) (zG X pins σ Q) X.xe s
def pB(r:fv)(a_ bG:TE):TE:=λ σ H Q=>a_ σ H λ x H1=>bG σ H1 λ y aK=>r x y aK Q
def ET(r:V->ar->cm->Prop)(a_:TE):TE:=λ σ H Q=>a_ σ H λ x H1=>r x H1 Q
def sG(C:Int->Int->Prop)(g:Int->Int->V):fv:=λ x y H Q=>∃ i j,x=.int i/\y=.int j/\C i j/\Q (g i j) H
def ng(g:Int->Int->V):fv:=λ x y H Q=>∃ i j,x=.int i/\y=.int j/\Q (g i j) H
def EU(g:Int->V):V->ar->cm->Prop:=λ x H Q=>∃ i,x=.int i/\Q (g i) H
section
variable{X:a4}{a b c:a8}{a_ bG bf:TE}{pos:Pos}
theorem zO(au:b1 X a a_)(ag:b1 X b bG){pins:List (Addr × Obj)}{s:aM}{σ:St}{H:ar}{R:V->V->ar->Prop}(I:Inv X pins σ H s)
 (h:a_ σ H λ x H1=>bG σ H1 λ y aK=>R x y aK) {Q:Value->aM->Prop} {f:Value->Value->Sem Value}
 (hf:∀ v u s2 x y aK,Inv X pins σ aK s2->RelV x v->RelV y u->R x y aK->bz (bA X.prog X.w) X.A (f v u) Q X.xe s2) :
 bz (bA X.prog X.w) X.A (eval a X.env) (λ v dY=>bz (bA X.prog X.w) X.A (eval b X.env) (λ u pk=>bz (bA X.prog X.w) X.A (f v u) Q X.xe pk) X.xe dY) X.xe s:=by
 refine bZ (au pins s σ H _ I h) λ v s1 ⟨x,H1,aY,be,aE⟩=>?_;refine bZ (ag pins s1 σ H1 _ aY aE) λ u s2 ⟨y,aK,ck,bB,bu⟩=>?_;exact hf v u s2 x y aK ck be bB bu
theorem LO{op:qg}{r:fv}(bb:eo X (hL op) r)(au:b1 X a a_)(ag:b1 X b bG):b1 X (.BinOp a op b pos) (pB r a_ bG):=by
 intro pins s σ H Q I h;exact wpAny_BinOp (zO au ag I h λ v u s2 x y aK ck bd cb q=>bb pins s2 σ aK x y v u Q ck bd cb q)
theorem LP{op:UnaryOp}{r:V->ar->cm->Prop}(bb:xh X (t4 op) r)(au:b1 X a a_):b1 X (.UnaryOp op a pos) (ET r a_):=by
 intro pins s σ H Q I h;exact UnaryOp_ (bZ (au pins s σ H _ I h) λ v s1 ⟨x,H1,aY,be,aE⟩=>bb pins s1 σ H1 x v Q aY be aE)
theorem xi{f:Value->Value->Sem Value}{C:Int->Int->Prop}{g:Int->Int->Int}
 (rule:∀(i j:Int)(t u:Tok)(s:aM)(Q:Value->aM->Prop)(E:Value->aM->Prop),C i j->Q (.int (g i j) s.toks) { s with toks:=s.toks+1 }->bz (bA X.prog X.w) X.A (f (.int i t) (.int j u)) Q E s) :
 eo X f (sG C λ i j=>.int (g i j)):=by
 intro pins s σ H x y v u Q I bd cb h;obtain ⟨i,j,rfl,rfl,aJ,q⟩:=h;obtain ⟨t,rfl⟩:=bd;obtain ⟨t',rfl⟩:=cb;exact rule i j t t' s _ _ aJ ⟨.int (g i j),H,I.tok _,⟨_,rfl⟩,q⟩
theorem EV{f:Value->Value->Sem Value}{g:Int->Int->Int}
 (rule:∀(i j:Int)(t u:Tok)(s:aM)(Q:Value->aM->Prop)(E:Value->aM->Prop),Q (.int (g i j) s.toks) { s with toks:=s.toks+1 }->bz (bA X.prog X.w) X.A (f (.int i t) (.int j u)) Q E s) :
 eo X f (ng λ i j=>.int (g i j)):=by
 intro pins s σ H x y v u Q I bd cb h;obtain ⟨i,j,rfl,rfl,q⟩:=h;obtain ⟨t,rfl⟩:=bd;obtain ⟨t',rfl⟩:=cb;exact rule i j t t' s _ _ ⟨.int (g i j),H,I.tok _,⟨_,rfl⟩,q⟩
theorem xj{f:Value->Value->Sem Value}{g:Int->Int->Bool}
 (rule:∀(i j:Int)(t u:Tok)(s:aM)(Q:Value->aM->Prop)(E:Value->aM->Prop),Q (.bool (g i j)) s->bz (bA X.prog X.w) X.A (f (.int i t) (.int j u)) Q E s) :
 eo X f (ng λ i j=>.aO (g i j)):=by
 intro pins s σ H x y v u Q I bd cb h;obtain ⟨i,j,rfl,rfl,q⟩:=h;obtain ⟨t,rfl⟩:=bd;obtain ⟨t',rfl⟩:=cb;exact rule i j t t' s _ _ ⟨.aO (g i j),H,I,rfl,q⟩
def EW(i j:Int):Prop:=0<=j/\j<=1000000/\i.natAbs < 2 ^ 64
def xk(i j:Int):Prop:=(-(2 ^ 64) < i/\i < 2 ^ 64)\/(-(2 ^ 64) < j/\j < 2 ^ 64)
theorem xk.ok{i j:Int}(h:xk i j):IntMulOk i j:=by
 rcases h with ⟨af,ao⟩ | ⟨af,ao⟩
 ·exact .of_left (intBits_le_64 af ao)
 ·exact .of_right (intBits_le_64 af ao)
theorem LQ:eo X (hL .Add) (ng λ i j=>.int (i+j)):=EV λ _ _ _ _ _ _ _ q=>add_int q
theorem LR:eo X (hL .Sub) (ng λ i j=>.int (i - j)):=EV λ _ _ _ _ _ _ _ q=>sub_int q
theorem LS:eo X (hL .Mult) (sG xk λ i j=>.int (i * j)):=xi λ _ _ _ _ _ _ _ aJ q=>mul_int q aJ.ok
theorem LT:eo X (hL .Mod) (sG (λ _ j=>0 < j) λ i j=>.int (i % j)):=xi λ i j _ _ _ _ _ aJ q=>by
 have af:(0:Int) < j:=aJ;exact mod_int' (by omega) (by rw [Int.fmod_eq_emod_of_nonneg i (by omega)];exact q)
theorem LU:eo X (hL .Pow) (sG EW λ i j=>.int (i ^ j.toNat)):=xi λ _ _ _ _ _ _ _ aJ q=>pow_int_small aJ.1 aJ.2.1 aJ.2.2 q
theorem LV{f:Value->Sem Value}{g:Int->Int}
 (rule:∀(i:Int)(t:Tok)(s:aM)(Q:Value->aM->Prop)(E:Value->aM->Prop),Q (.int (g i) s.toks) { s with toks:=s.toks+1 }->bz (bA X.prog X.w) X.A (f (.int i t)) Q E s) :
 xh X f (EU λ i=>.int (g i)):=by
 intro pins s σ H x v Q I bd h;obtain ⟨i,rfl,q⟩:=h;obtain ⟨t,rfl⟩:=bd;exact rule i t s _ _ ⟨.int (g i),H,I.tok _,⟨_,rfl⟩,q⟩
theorem LW:xh X (t4 .USub) (EU λ i=>.int (-i)):=LV λ _ _ _ _ _ q=>neg_int q
end
section
variable{X:a4}{a b c:a8}{a_ bG bf:TE}{pos:Pos}
theorem zP{pins:List (Addr × Obj)}{σ:St}{H:ar}{s:aM}{Q:cm}{k ha:Bool}(I:Inv X pins σ H s)(q:Q (.aO k) H)(e:k=ha):gn X pins σ Q (.bool ha) s:=by
 subst e;exact ⟨.aO k,H,I,rfl,q⟩
theorem LX:eo X (eP .Lt) (ng λ i j=>.aO (decide (i < j))):=xj λ _ _ _ _ _ _ _ q=>lt_int q
theorem LY:eo X (eP .LtE) (ng λ i j=>.aO (decide (i<=j))):=xj λ _ _ _ _ _ _ _ q=>le_int q
theorem LZ:eo X (eP .Gt) (ng λ i j=>.aO (decide (j < i))):=xj λ _ _ _ _ _ _ _ q=>gt_int q
theorem L0:eo X (eP .GtE) (ng λ i j=>.aO (decide (j<=i))):=xj λ _ _ _ _ _ _ _ q=>ge_int q
theorem L1:eo X (eP .In) (λ x y H Q=>∃ i j,x=.str i/\y=.str j/\Q (.aO (!(Builtin.Str.occurrences j i 0 j.length 1).isEmpty)) H):=by
 intro pins s σ H x y v u Q I bd cb h;obtain ⟨i,j,rfl,rfl,q⟩:=h;obtain ⟨t,rfl⟩:=bd;obtain ⟨t',rfl⟩:=cb;exact in_str (zP I q rfl)
theorem L4:eo X (eP .Is) (λ x y H Q=>y=.br/\Q (.aO (decide (x=.br))) H):=by
 intro pins s σ H x y v u Q I bd cb h;obtain ⟨rfl,q⟩:=h;cases cb;refine is_none_gen (zP I q ?_)
 cases x<;>first
  | (cases bd;rfl)
  | (obtain ⟨t,rfl⟩:=bd;rfl)
theorem L5:eo X (eP .IsNot) (λ x y H Q=>y=.br/\Q (.aO (!decide (x=.br))) H):=by
 intro pins s σ H x y v u Q I bd cb h;obtain ⟨rfl,q⟩:=h;cases cb;refine isnot_none_gen (zP I q ?_)
 cases x<;>first
  | (cases bd;rfl)
  | (obtain ⟨t,rfl⟩:=bd;rfl)
theorem eo.or{f:Value->Value->Sem Value}{r dS:fv}(h:eo X f r)(h':eo X f dS):eo X f (λ x y H Q=>r x y H Q\/dS x y H Q):=by
 intro pins s σ H x y v u Q I bd cb q;rcases q with q | q
 ·exact h pins s σ H x y v u Q I bd cb q
 ·exact h' pins s σ H x y v u Q I bd cb q
theorem bW(b:a8){op:o6}(h:op≠.In:=by decide)(ao:op≠.NotIn:=by decide):o0 op b=false:=by
 have az:(op==CmpOp.In)=false:=by cases op<;>first | rfl | exact absurd rfl h
 have aW:(op==CmpOp.NotIn)=false:=by cases op<;>first | rfl | exact absurd rfl ao
 cases b<;>simp [o0,az,aW]
theorem L6{op:o6}{r:fv}(bb:eo X (eP op) r)(au:b1 X a a_)(ag:b1 X b bG)(hm:o0 op b=false):b1 X (.Compare a [op] [b] pos) (pB r a_ bG):=by
 intro pins s σ H Q I h;exact wpAny_Compare1 (zO au ag I h λ v u s2 x y aK ck bd cb q=>bb pins s2 σ aK x y v u Q ck bd cb q) hm
def EX(t:TE):TT:=λ σ H Q=>t σ H λ x ai=>∃ k,x=.aO k/\Q k ai
theorem L7{op:o6}{r:fv}(bb:eo X (eP op) r)(au:b1 X a a_)(ag:b1 X b bG)(hm:o0 op b=false):jF X (.Compare a [op] [b] pos) (EX (pB r a_ bG)):=by
 intro pins s σ H Q I h
 refine wpAny_isTrue_Compare1 (bZ (au pins s σ H _ I h) λ v s1 ⟨x,H1,aY,be,aE⟩=>bZ (ag pins s1 σ H1 _ aY aE) λ u s2 ⟨y,aK,ck,bB,bu⟩=>
  bZ (bb pins s2 σ aK x y v u _ ck be bB bu) λ c s3 ⟨z,dE,c7,zL,k,e,dH⟩=>?_) hm
 subst e;cases zL;exact wA ⟨dE,c7,dH⟩
def zQ(K:a6)(x:V)(H:ar)(k:Bool):Prop:=
 match x with
 | .br=>k=false
 | .aO b=>k=b
 | .int i=>k=(i !=0)
 | .str y=>y.length<=sizeLine/\k=((y.length:Int) !=0)
 | .sx y=>y.size<=sizeLine/\k=((y.size:Int) !=0)
 | .ref p=>(∃ xs,fi K H p xs/\k=!xs.isEmpty)\/(∃ xs,dD K H p xs/\k=!xs.isEmpty)\/∃ kvs,H p=some (.eD kvs)/\k=!kvs.isEmpty
 | _=>False
theorem L8{κ:Type}{kvs:List (κ × V)}{vs:List (κ × Value)}(r:gl kvs vs):(!vs.isEmpty)=!kvs.isEmpty:=by
 cases r<;>rfl
theorem EY{xs:List V}{aN:List Value}(r:Vals xs aN):(!aN.toArray.isEmpty)=!xs.isEmpty:=by
 cases r<;>simp
theorem oa:(sizeLine:Nat) < 2 ^ 63:=by rw [qc];decide
theorem L9:LN X (λ x H Q=>∃ k,zQ X.K x H k/\Q k H):=by
 intro pins s σ H x v Q I bd h;obtain ⟨k,e,q⟩:=h;have aP:=oa;have aB:sizeLine=16777216:=qc
 cases x with
 | br=>
  cases bd;have e':k=false:=e;subst e';exact truthy_none ⟨H,I,q⟩
 | aO b=>
  cases bd;have e':k=b:=e;subst e';exact wA ⟨H,I,q⟩
 | int i=>
  obtain ⟨t,rfl⟩:=bd;have e':k=(i !=0):=e;subst e';exact PySem.P.truthy_int ⟨H,I,q⟩
 | str y=>
  obtain ⟨t,rfl⟩:=bd;obtain ⟨aQ,e'⟩:y.length<=sizeLine/\k=((y.length:Int) !=0):=e;subst e';exact PySem.P.truthy_str (by omega) ⟨H,I.tok _,q⟩
 | sx y=>
  obtain ⟨t,rfl⟩:=bd;obtain ⟨aQ,e'⟩:y.size<=sizeLine/\k=((y.size:Int) !=0):=e;subst e';exact PySem.W.truthy_bytes (by omega) ⟨H,I.tok _,q⟩
 | ref p=>
  cases bd;have e':(∃ xs,fi X.K H p xs/\k=!xs.isEmpty)\/(∃ xs,dD X.K H p xs/\k=!xs.isEmpty)\/∃ kvs,H p=some (.eD kvs)/\k=!kvs.isEmpty:=e;rcases e' with ⟨xs,aq,e'⟩ | ⟨xs,aq,e'⟩ | ⟨kvs,aq,e'⟩
  ·subst e';obtain ⟨aN,r,pl,hz⟩:=I.list aq;have hlen:=r.length;exact wpAny_truthy_list pl.isList (by simp only [dG];omega) ⟨H,I.tok _,by rw [EY r];exact q⟩
  ·subst e';obtain ⟨aN,r,pl,hz⟩:=I.tuple aq;have hlen:=r.length;exact truthy_tuple pl (by simp only [dG];omega) ⟨H,I.tok _,by rw [EY r];exact q⟩
  ·subst e';obtain ⟨hz,gW,vs,r,m⟩:kvs.length<=sizeLine/\(p==kD)=false/\∃ vs,gl kvs vs/\s.heap.DictOf (jC X.prog X.w) p vs:=I.bO p _ aq;have hlen:kvs.length=vs.length:=Paired.length r;exact wpAny_truthy_dict gW m (by omega) ⟨H,I.tok _,by rw [L8 r];exact q⟩
 | _=>exact (show False from e).elim
theorem L_(au:b1 X a a_)(he:∀ whole,n0 a X.env whole=(do let v ← whole;kF a.pos;hM [v] (truthy v))) :
 jF X a (λ σ H Q=>a_ σ H λ x ai=>∃ k,zQ X.K x ai k/\Q k ai):=by
 intro pins s σ H Q I h;exact isTrue_plain (bZ (au pins s σ H _ I h) λ v s1 ⟨x,H1,aY,be,aE⟩=>L9 pins s1 σ H1 x v Q aY be aE) (he _)
theorem Ma:eo X (hL .Add) (λ x y H Q=>∃ i j,x=.str i/\y=.str j/\i.length+j.length<=sizeLine/\Q (.str (i++j)) H):=by
 intro pins s σ H x y v u Q I bd cb h;obtain ⟨i,j,rfl,rfl,hz,q⟩:=h;obtain ⟨t,rfl⟩:=bd;obtain ⟨t',rfl⟩:=cb;exact add_str (λ t' tk=>⟨.str (i++j),H,I.tok _,⟨_,rfl⟩,q⟩) hz
theorem uu{x:V}{us:List Value}(r:Vals [x] us):∃ u,us=[u]/\RelV x u:=by
 cases r with
 | cons be bB=>cases bB;exact ⟨_,rfl,be⟩
theorem Mb:kU X (.type "int") (λ xs H Q=>(∃ i,xs=[.int i]/\Q (.int i) H)\/∃ k,xs=[.aO k]/\Q (.int (if k then 1 else 0)) H):=by
 intro pins s σ H xs us Q I r h;rcases h with ⟨i,rfl,q⟩ | ⟨k,rfl,q⟩
 ·obtain ⟨u,rfl,t,rfl⟩:=uu r;exact call_int_int ⟨.int i,H,I,⟨_,rfl⟩,q⟩
 ·obtain ⟨u,rfl,be⟩:=uu r;cases be;exact call_int_bool ⟨.int (if k then 1 else 0),H,I.tok _,⟨_,rfl⟩,q⟩
end
structure qG(h:b2)(x bT C:Addr)(ej:Str->Option Value):Prop where
 obj:h.get? x=some (pe C bT)
 ns:h.Ns1 bT ej
 ne:bT≠x
theorem Mc{h:b2}{bT:Addr}{ej:Str->Option Value}(n:h.Ns1 bT ej):∃ dC,h.get? bT=some dC/\∀ name,wY name dC=some (ej name):=by
 obtain ⟨o,aw,fg,bb,hd,aC,_,hm⟩:=n;refine ⟨o,bb,λ name=>?_⟩;have e:=hm name;unfold nsFind sk at e;rw [<- Array.find?_toList] at e;unfold wY;rw [hd]
 dsimp only
 split
 ·rename_i y q
  rw [q] at e;exact congrArg some e
 ·rename_i q
  rw [q] at e
  have a:aw.toList.any (·.refKey)=false:=by
   rw [List.any_eq_false];intro y aQ;obtain ⟨z,t,Md⟩:=aC y (Array.mem_toList_iff.mp aQ);simp [DictEntry.refKey,Md]
  have dT:¬ aw.toList.any (·.refKey)=true:=by rw [a];exact iz
  rw [if_neg dT];exact congrArg some e
theorem qG.look{h:b2}{x bT C:Addr}{ej:Str->Option Value}(I:qG h x bT C ej):∃ dC,PySem.W.InstAt h x (pe C bT) C (some dC)/\∀ name,wY name dC=some (ej name):=
 let ⟨dC,bb,aP⟩:=Mc I.ns
 ⟨dC,⟨I.obj,rfl,rfl,bb⟩,aP⟩
section
variable{prog:c8}{w:cG}{A:d6}{E:Value->aM->Prop}{s:aM}{K:a6}{x bT C f:Addr}{ej:Str->Option Value}{name:Str}{v:Value}
theorem Me{expr:Bool}{Q:Value->aM->Prop}(X:K.In s.heap)(I:qG s.heap x bT C ej)(a0:so K C name=true)(gF:t9 K C=true)
 (au:gk K (.ref C) name=some none) (bK:ej name=some v) (Mf:PySem.W.handedIn v=true) (h:Q v { s with toks:=s.toks+1 }) :
  bz (bA prog w) A (getAttr (.ref x) name expr) Q E s:=by
  obtain ⟨dC,J,aP⟩:=I.look;exact PySem.W.get_value X J (PySem.W.plainGet_of a0).1 (PySem.W.findObj_own gF au rfl (by rw [aP,bK])) Mf h
theorem Mg{pl:Sem Bool}{Q:Value × List Value->aM->Prop}(X:K.In s.heap)(I:qG s.heap x bT C ej)(a0:so K C name=true)
 (hf:gk K (.ref C) name=some (some (.ref f))) (bt:qr K (.ref f)=true) (bK:ej name=none) (h:Q (.ref f,[.ref x]) s) :
  bz (bA prog w) A (qf (.ref x) name pl) Q E s:=by
  obtain ⟨dC,J,aP⟩:=I.look;exact PySem.W.method_fn X J (PySem.W.plainGet_of a0).1 (PySem.W.plainGet_of a0).2 hf (beq_iff_eq.mp bt) (by show (wY name dC).map (·.isSome)=some false;rw [aP,bK];rfl) h
theorem Mh{ns:List Str}{Q:Unit->aM->Prop}(X:K.In s.heap)(I:qG s.heap x bT C ej)
 (aB:gk K (.ref C) "__setattr__" = some (some (.builtin "object.__setattr__"))) (aj:wZ K C=true) (bt:PySem.W.takerIn K C name=some none) (gF:t9 K C=true)
  (hw:PySem.Within ej ns) (eQ:ns.length<=sizeLine)
  (h:∀ h',qG h' x bT C (λ y=>if y=name then some v else ej y)->Heap.SameBut bT s.heap h'->Q () { s with heap:=h',toks:=s.toks+2 }) :
  bz (bA prog w) A (setAttr (.ref x) name v) Q E s:=by
  obtain ⟨dC,J,aP⟩:=I.look;refine PySem.W.set_plain X J aB (PySem.W.osa_open (s:={ s with toks:=s.toks+1 }) (r:=none) X J aj bt λ b=>?_);obtain ⟨cd,aJ,ph⟩:=PySem.W.any_some gF;have aq:s.heap.get? x=some ⟨.ref C,some bT,.plain,#[]⟩:=I.obj;refine aV (cz (aV (aV (wpAny_loadPart aq (aV (PySem.W.Looks.here (s:={ s with toks:=s.toks+1 }) (PySem.W.looks_clsIn X aJ) ?_))))));rw [ph];refine cz (a:=some bT) (aV (cz (aV ?_)));refine wpAny_nsSet1 (s:={ s with toks:=s.toks+1 }) I.ns λ h' xl ur=>?_;obtain ⟨YS,YT,YU,Mi,zR,Mj⟩:=xl.count (PySem.Within.cons name v hw);refine aV (wpAny_lookBehind Mi (by rw [zR];exact pastItsLine_dict (e5 Mj (by rw [eb];omega))) ?_);exact cz (h _ ⟨(ur.2 _ (Ne.symm I.ne)).trans I.obj,xl,I.ne⟩ ur)
theorem Mk{R:Result->aM->Prop}{vs:List Value}{kw:List (Str × Value)}(X:K.In s.heap)(hm:w0 K C=true)
 (aA:gk K (.ref C) "__init__" = some (some (.ref f))) (hf:PySem.W.typeIn K (.ref f)=some (.type "function"))
  (h:mW (bA prog w) (A.under (.builtin "type.__call__" ⟨.ref C::vs,kw⟩)) (.call (.ref f) ⟨.ref (s.heap.objs.size+1)::vs,kw⟩) (PySem.W.InitBack (s.heap.objs.size+1) R)
   { s with heap:=(s.heap.push n6).push (pe C s.heap.objs.size) }) :
  mW (bA prog w) A (.call (.ref C) ⟨vs,kw⟩) R s:=by
  obtain ⟨gF,g,d,t,os⟩:=s;exact PySem.W.make_core (PySem.W.makes_of X hm) (PySem.W.looks_findIn X aA) (λ self=>PySem.W.bind_fn X self hf) (.inl rfl) h
end
def ie(f:Str)(v:V):List (Str × V)->List (Str × V)
 | []=>[(f,v)]
 | (g,x)::r=>if g=f then (g,v)::r else (g,x)::ie f v r
theorem EZ(f g:Str)(v:V):∀ fs:List (Str × V),(ie f v fs).lookup g=if g=f then some v else fs.lookup g
 | []=>by
  show qk g [(f,v)]=_;by_cases h:g=f
  ·have ag:(g==f)=true:=beq_iff_eq.mpr h;simp only [qk,ag,if_pos h]
  ·have ag:(g==f)=false:=beq_eq_false_iff_ne.mpr h;simp only [qk,ag,if_neg h]
 | (k,x)::r=>by
  have bL:=EZ f g v r;rw [show ie f v ((k,x)::r)=(if k=f then (k,v)::r else (k,x)::ie f v r) from rfl];by_cases aC:k=f
  ·rw [if_pos aC];by_cases h:g=k
   ·have ag:(g==k)=true:=beq_iff_eq.mpr h;simp only [qk,ag,if_pos (h.trans aC)]
   ·have ag:(g==k)=false:=beq_eq_false_iff_ne.mpr h;simp only [qk,ag,if_neg (λ e:g=f=>h (e.trans aC.symm))]
  ·rw [if_neg aC];by_cases h:g=k
   ·have ag:(g==k)=true:=beq_iff_eq.mpr h;simp only [qk,ag,if_neg (λ e:g=f=>aC (h.symm.trans e))]
   ·have ag:(g==k)=false:=beq_eq_false_iff_ne.mpr h;simp only [qk,ag];exact bL
theorem zS(f:Str)(v:V):∀ fs:List (Str × V),f∈(ie f v fs).map (·.1)/\∀ g,g∈fs.map (·.1)->g∈(ie f v fs).map (·.1)
 | []=>⟨by simp [ie],λ g h=>by simp at h⟩
 | (k,x)::r=>by
  obtain ⟨bq,bM⟩:=zS f v r;rw [show ie f v ((k,x)::r)=(if k=f then (k,v)::r else (k,x)::ie f v r) from rfl];by_cases aC:k=f
  ·rw [if_pos aC];subst aC;exact ⟨by simp,λ g h=>by simpa using h⟩
  ·rw [if_neg aC];refine ⟨?_,λ g h=>?_⟩
   ·rw [eC];exact h3 _ bq
   ·rw [eC] at h ⊢;rcases ea.mp h with e | e
    ·exact ea.mpr (.inl e)
    ·exact h3 _ (bM g e)
theorem E0(f:Str)(v:V):∀ fs:List (Str × V),(ie f v fs).length<=fs.length+1
 | []=>by simp [ie]
 | (k,x)::r=>by
  have bL:=E0 f v r;rw [show ie f v ((k,x)::r)=(if k=f then (k,v)::r else (k,x)::ie f v r) from rfl];by_cases aC:k=f
  ·rw [if_pos aC,eb,eb];omega
  ·rw [if_neg aC,eb,eb];omega
theorem hv.some_of{v:V}{o:Option Value}(r:hv (some v) o):∃ u,o=some u/\RelV v u:=by
 cases o with
 | none=>exact (show False from r).elim
 | some u=>exact ⟨u,rfl,r⟩
theorem hv.none_of{o:Option Value}(r:hv none o):o=none:=by
 cases o with
 | none=>rfl
 | some u=>exact (show False from r).elim
theorem Ml{v:V}{u:Value}(r:RelV v u):PySem.W.handedIn u=true:=by
 cases v with
 | br=>cases (show u=Value.none from r);rfl
 | aO b=>cases (show u=Value.bool b from r);rfl
 | int i=>obtain ⟨t,e⟩:=(show ∃ t,u=Value.int i t from r);cases e;rfl
 | str x=>obtain ⟨t,e⟩:=(show ∃ t,u=Value.str x t from r);cases e;rfl
 | sx b=>obtain ⟨t,e⟩:=(show ∃ t,u=Value.bytes b t from r);cases e;rfl
 | qu b=>obtain ⟨t,e⟩:=(show ∃ t,u=Value.float b t from r);cases e;rfl
 | ref a=>cases (show u=Value.ref a from r);rfl
 | ty n=>cases (show u=Value.type n from r);rfl
section
variable{P:c8}{w:cG}{H ai:ar}{h h':b2}{a C bT:Addr}{fs m7:List (Str × V)}
theorem xm(bO:en P w H h)(e:H a=some (.ins C bT fs)):∃ ej,qG h a bT C ej/\(∀ f,hv (fs.lookup f) (ej f))/\PySem.Within ej (fs.map (·.1))/\fs.length<=1000/\H bT=some (.own a):=by
 obtain ⟨d,z,ne,dq,ej,n,r,q⟩:=(show fY P w H h a (.ins C bT fs) from bO a _ e)
 exact ⟨ej,⟨dq,n,ne⟩,r,q,z,d⟩
end
structure dI(K:a6)(C:Addr):Prop where
 Mm:so K C Str.empty=true
 hd:t9 K C=true
 po:wZ K C=true
 Mn:gk K (.ref C) "__setattr__" = some (some (.builtin "object.__setattr__"))
theorem dI.get{K:a6}{C:Addr}(c:dI K C)(f:Str):so K C f=true:=c.Mm
def cW(K:a6)(C:Addr)(f:Str):Prop:=gk K (.ref C) f=some none
theorem cW.Mo{K:a6}{C:Addr}{f:Str}(n:cW K C f):PySem.W.takerIn K C f=some none:=by
 unfold PySem.W.takerIn;rw [show gk K (.ref C) f=some none from n];rfl
structure Meth(K:a6)(C:Addr)(m:Str)(f:Addr):Prop where
 at_:gk K (.ref C) m=some (some (.ref f))
 fn:qr K (.ref f)=true
 bS:kN K (.ref f)=true
section
variable{X:a4}{pins:List (Addr × Obj)}{σ:St}{H:ar}{s:aM}{a C bT:Addr}{fs:List (Str × V)}{f:Str}{v:V}{A:d6}{E:Value->aM->Prop}
theorem E1{b:Bool}{Q:Value->aM->Prop}(I:Inv X pins σ H s)(e:H a=some (.ins C bT fs))(c:dI X.K C)(n:cW X.K C f)(l:fs.lookup f=some v)
 (h:∀ u a9,Inv X pins σ H a9->RelV v u->Q u a9):bz (bA X.prog X.w) A (getAttr (.ref a) f b) Q E s:=by
 obtain ⟨ej,O,r,_,_,_⟩:=xm I.bO e;obtain ⟨u,bx,dw⟩:=hv.some_of (v:=v) (o:=ej f) (by rw [<- l];exact r f);exact Me I.eU O (c.get f) c.hd n bx (Ml dw) (h u _ (I.tok _) dw)
theorem zT{m:Str}{g:Addr}{pl:Sem Bool}{Q:Value × List Value->aM->Prop}(I:Inv X pins σ H s)(e:H a=some (.ins C bT fs))(c:dI X.K C)(k:Meth X.K C m g)(l:fs.lookup m=none)
 (h:Q (.ref g,[.ref a]) s):bz (bA X.prog X.w) A (qf (.ref a) m pl) Q E s:=by
 obtain ⟨ej,O,r,_,_,_⟩:=xm I.bO e;have bc:ej m=none:=hv.none_of (by rw [<- l];exact r m);exact Mg I.eU O (c.get m) k.at_ k.fn bc h
theorem E2{y:V}{u:Value}{Q:Unit->aM->Prop}(I:Inv X pins σ H s)(e:H a=some (.ins C bT fs))(c:dI X.K C)(n:cW X.K C f)(aP:fs.length < 1000)(cb:RelV y u)
 (h:∀ a9,Inv X pins σ (upd H a (.ins C bT (ie f y fs))) a9->Q () a9):bz (bA X.prog X.w) A (setAttr (.ref a) f u) Q E s:=by
 obtain ⟨ej,O,r,cT,_,bb⟩:=xm I.bO e
 have hz:(fs.map (·.1)).length<=sizeLine:=by rw [b3,qc];omega
 refine Mh I.eU O c.Mn c.po n.Mo c.hd cT hz λ h' zU cU=>h _ ?_
 have hd:∃ o,h'.get? bT=some o:=let ⟨o,_,_,e',_⟩:=zU.ns;⟨o,e'⟩
 refine I.write (x:=a) (e:=bT) (by rw [e];exact True.intro) (.inr bb) (λ b q ag z=>(cU.2 b ag).trans z) hd ?_;refine ⟨by rw [cH O.ne];exact bb,?_,O.ne,zU.obj,_,zU.ns,λ g=>?_,λ g a0=>?_⟩
 ·have:=E0 f y fs;omega
 ·show hv ((ie f y fs).lookup g) (if g=f then some u else ej g);rw [EZ];by_cases q:g=f
  ·rw [if_pos q,if_pos q];exact cb
  ·rw [if_neg q,if_neg q];exact r g
 ·by_cases q:g=f
  ·rw [q];exact (zS f y fs).1
  ·refine (zS f y fs).2 g (cT g λ z=>a0 ?_);show (if g=f then some u else ej g)=none;rw [if_neg q];exact z
theorem Inv.made(I:Inv X pins σ H s):Inv X pins σ (upd (upd H s.heap.objs.size (.own (s.heap.objs.size+1))) (s.heap.objs.size+1) (.ins C s.heap.objs.size []))
 { s with heap:=(s.heap.push n6).push (pe C s.heap.objs.size) }:=by
 have az:(s.heap.push n6).get? s.heap.objs.size=some n6:=gC s.heap rfl
 have aW:((s.heap.push n6).push (pe C s.heap.objs.size)).get? (s.heap.objs.size+1)=some (pe C s.heap.objs.size):=by
  have:=gC (s.heap.push n6) (o:=pe C s.heap.objs.size) rfl
  rwa [m6] at this
 have gm:(s.heap.push n6).Ns s.heap.objs.size (λ _=>none):=⟨n6,#[],_,az,rfl,(λ e he=>absurd he (by simp)),λ _=>rfl⟩
 have aY:=I.laid (a:=s.heap.objs.size) (o:=.own (s.heap.objs.size+1)) (h':=s.heap.push n6) (t':=s.toks) (λ b u q=>du _ q) (b7 _) ⟨_,az⟩;refine aY.laid (a:=s.heap.objs.size+1) (o:=.ins C s.heap.objs.size []) (t':=s.toks) (λ b u q=>du _ q) (Nat.le_of_eq (m6 _ _)) ?_;have ne:s.heap.objs.size≠s.heap.objs.size+1:=eY (n5 _);refine ⟨by rw [cH ne,fq],f9 _,ne,aW,λ _=>none,(Heap.Ns1.of_empty gm).at λ o q=>du _ q,λ _=>True.intro,λ y aQ=>absurd rfl aQ⟩
theorem Mp{prog:c8}{w:cG}{env:Env}{e:a8}{f:Str}{pos:Pos}{s:aM}{Q:Value->aM->Prop}(ag:mV e f env (eval e env)=eval e env)
 (h:bz (bA prog w) A (eval e env) (λ o dY=>bz (bA prog w) A (getAttr o f true) Q E dY) E s):bz (bA prog w) A (eval (.Attribute e f pos) env) Q E s:=
 Attribute_any_ h (by rw [arm_eval_Attribute,ag])
end
def Mq(K:a6)(a_:TE)(f:Str):TE:=λ σ H Q=>a_ σ H λ x H1=>∃ a C bT fs v,x=.ref a/\H1 a=some (.ins C bT fs)/\dI K C/\cW K C f/\fs.lookup f=some v/\Q v H1
def Mr(K:a6)(a_ fN:TE)(f:Str):fh:=λ D σ H=>fN σ H λ y H1=>a_ σ H1 λ x aK=>∃ a C bT fs,x=.ref a/\aK a=some (.ins C bT fs)/\dI K C/\cW K C f/\fs.length < 1000 ∧
 D.nx σ (upd aK a (.ins C bT (ie f y fs)))
def E3(X:a4)(op:qg)(nh:V->V->ar->cm->Prop):Prop:=
 ∀(pins:List (Addr × Obj))(s:aM)(σ:St)(H:ar)(x y:V)(u v:Value)(Q:cm),Inv X pins σ H s->RelV x u->RelV y v->nh x y H Q->bz (bA X.prog X.w) X.A (inplaceOp op u v) (gn X pins σ Q) X.xe s
def Ms(K:a6)(a_ fN:TE)(nh:V->V->ar->cm->Prop)(f:Str):fh:=λ D σ H=>a_ σ H λ x H1=>∃ a C bT fs v,x=.ref a/\H1 a=some (.ins C bT fs)/\dI K C/\cW K C f/\fs.lookup f=some v ∧
 fN σ H1 λ y aK=>nh v y aK λ z dE=>∃ uv m7,dE a=some (.ins C uv m7)/\m7.length < 1000/\D.nx σ (upd dE a (.ins C uv (ie f z m7)))
section
variable{X:a4}{o e value:a8}{f:Str}{pos pos' ma:Pos}{a_ fN:TE}
theorem Mt(he:b1 X e a_)(ag:mV e f X.env (eval e X.env)=eval e X.env):b1 X (.Attribute e f pos) (Mq X.K a_ f):=by
 intro pins s σ H Q I h;refine Mp ag (bZ (he pins s σ H _ I h) λ u s1 ⟨x,H1,aY,bd,a,C,bT,fs,v,ex,dJ,c,n,l,q⟩=>?_);subst ex;obtain rfl:u=Value.ref a:=bd
 exact E1 aY dJ c n l λ sB s2 ck dw=>⟨v,H1,ck,dw,q⟩
theorem Mu(au:b1 X o a_)(bK:b1 X value fN)(aB:j3 value (some (.Attribute o f pos')) pos.line X.env=pure false):iB X (.Assign [.Attribute o f pos'] value pos) (Mr X.K a_ fN f):=by
 intro pins s σ H D I h;refine plainObj_wpAny_Assign_Attribute (bZ (bK pins s σ H _ I h) λ u s1 ⟨y,H1,aY,cb,q⟩=>bZ (au pins s1 σ H1 _ aY q) λ cZ s2 ⟨x,aK,ck,bd,a,C,bT,fs,ex,dJ,c,n,l,bu⟩=>?_) aB;subst ex;obtain rfl:cZ=Value.ref a:=bd
 exact E2 ck dJ c n l cb λ s3 c7=>⟨σ,_,c7,bu⟩
theorem Mv{op:qg}{nh:V->V->ar->cm->Prop}(au:b1 X o a_)(bK:b1 X value fN)(Mw:E3 X op nh):iB X (.AugAssign (.Attribute o f ma) op value pos) (Ms X.K a_ fN nh f):=by
 intro pins s σ H D I h;refine wpAny_AugAssign_AttributeAny (bZ (au pins s σ H _ I h) λ cZ s1 ⟨x,H1,aY,bd,a,C,bT,fs,v,ex,dJ,c,n,l,q⟩=>?_);subst ex;obtain rfl:cZ=Value.ref a:=bd;refine E1 aY dJ c n l λ u s2 ck dw=>bZ (bK pins s2 σ H1 _ ck q) λ h9 s3 ⟨y,aK,c7,cb,dH⟩=>bZ (Mw pins s3 σ aK v y u h9 _ c7 dw cb dH) λ YV s4 ⟨z,dE,hA,xn,uv,m7,xo,Mx,gE⟩=>?_
 exact E2 hA xo c n Mx xn λ s5 hR=>⟨σ,_,hR,gE⟩
def My:V->V->ar->cm->Prop:=λ x y H Q=>∃ i j,x=.int i/\y=.int j/\Q (.int (i+j)) H
theorem Mz:E3 X .Add My:=by
 rintro pins s σ H x y u v Q I bd cb ⟨i,j,rfl,rfl,q⟩
 obtain ⟨t,rfl⟩:=(show ∃ t,u=Value.int i t from bd)
 obtain ⟨t',rfl⟩:=(show ∃ t',v=Value.int j t' from cb)
 exact PyProof.Rows.iadd_int ⟨.int (i+j),H,I.tok _,⟨_,rfl⟩,q⟩
theorem YW{pl:Sem Bool}{m:Str}{apos:Pos}{args:List a8}{pins:List (Addr × Obj)}{s:aM}{σ:St}{H:ar}{Q:Value->aM->Prop}{aX:TE}(he:b1 X e aX)(I:Inv X pins σ H s)
 (h:aX σ H λ x H1=>∃ a C bT fs g,x=.ref a/\H1 a=some (.ins C bT fs)/\dI X.K C/\Meth X.K C m g/\fs.lookup m=none ∧
  ∀ s1,Inv X pins σ H1 s1->bz (bA X.prog X.w) X.A (sf pos (.ref g) [.ref a] (gj pos (dp args X.env)) (o2 pos (o1 [] X.env))) Q X.xe s1)
 (bt:eval (.Call (.Attribute e m apos) args [] pos) X.env=(do
  let cZ ← eval e X.env
  kF apos.atName
  let (f,first) ← hM [cZ] (qf cZ m pl)
  sf pos f first (gj pos (dp args X.env)) (o2 pos (o1 [] X.env)))) :
 bz (bA X.prog X.w) X.A (eval (.Call (.Attribute e m apos) args [] pos) X.env) Q X.xe s:=by
 refine PySem.W.methodCall_KW (pl:=pl) (bZ (he pins s σ H _ I h) λ u s1 ⟨x,H1,aY,bd,a,C,bT,fs,g,ex,dJ,c,k,l,q⟩=>?_) bt;subst ex;obtain rfl:u=Value.ref a:=bd;exact zT aY dJ c k l (q s1 aY)
end
section
variable{X:a4}{pins:List (Addr × Obj)}{σ:St}{H:ar}{s:aM}{A:d6}{E:Value->aM->Prop}{Q:Value->aM->Prop}{c:Value}{b:Bool}
inductive kV(K:a6)(H:ar):V->Value->Prop where
 | br:kV K H .br (.type "NoneType")
 | aO (x:Bool):kV K H (.aO x) (.type "bool")
 | int (i:Int):kV K H (.int i) (.type "int")
 | str (x:Str):kV K H (.str x) (.type "str")
 | qu (x:UInt64):kV K H (.qu x) (.type "float")
 | lst {a:Addr} {xs:List V} (e:H a=some (.lst xs)):kV K H (.ref a) (.type "list")
 | gD {a:Addr} {o:Obj} {xs:List V} (e:H a=some (.gD o (.lst xs))):kV K H (.ref a) (.type "list")
 | tup {a:Addr} {xs:List V} (e:H a=some (.tup xs)):kV K H (.ref a) (.type "tuple")
 | eD {a:Addr} {kvs:List (Key × V)} (e:H a=some (.eD kvs)):kV K H (.ref a) (.type "dict")
 | hx {a:Addr} {kvs:List (List Key × V)} (e:H a=some (.hx kvs)):kV K H (.ref a) (.type "dict")
 | ins {a C bT:Addr} {fs:List (Str × V)} (e:H a=some (.ins C bT fs)) (cl:dI K C) (au:gk K (.ref C) "__class__" = some (some (.builtin "object.__class__")))
  (bc:PySem.W.specialIn K (.builtin "object.__class__") "__get__" = some (some (.builtin "getset_descriptor.__get__"))) (E4:PySem.W.takesIn K (.builtin "object.__class__")=some true)
  (hm:PySem.W.mroIn K C (.type "object")=some true):kV K H (.ref a) (.ref C)
theorem MA{x:V}{u t:Value}(I:Inv X pins σ H s)(bd:RelV x u)(ty:kV X.K H x t)(e:PySem.W.kitOne X.K t c=some b)(h:∀ tk,Q (.bool b) { s with toks:=tk }) :
 bz (bA X.prog X.w) A (call (.builtin "isinstance") [u,c]) Q E s:=by
 cases ty with
 | br=>cases (show u=Value.none from bd);exact kO PySem.W.kitx_none I.eU True.intro e (λ z=>nomatch z) h
 | aO y=>cases (show u=Value.bool y from bd);exact kO PySem.W.kitx_bool I.eU True.intro e (λ z=>nomatch z) h
 | int i=>obtain ⟨t,q⟩:=(show ∃ t,u=Value.int i t from bd);cases q;exact kO PySem.W.kitx_int I.eU True.intro e (λ z=>nomatch z) h
 | str y=>obtain ⟨t,q⟩:=(show ∃ t,u=Value.str y t from bd);cases q;exact kO PySem.W.kitx_str I.eU True.intro e (λ z=>nomatch z) h
 | qu y=>obtain ⟨t,q⟩:=(show ∃ t,u=Value.float y t from bd);cases q;exact kO PySem.W.kitx_float I.eU True.intro e (λ z=>nomatch z) h
 | @lst a xs dJ=>
  cases (show u=Value.ref a from bd)
  obtain ⟨_,_,n,_,af⟩:=(show fY X.prog X.w H s.heap a (.lst xs) from I.bO a _ dJ)
  exact kO PySem.W.kitx_list I.eU ⟨_,af,rfl⟩ e (λ z=>nomatch z) h
 | @gD a dq xs dJ=>
  cases (show u=Value.ref a from bd)
  obtain ⟨_,_,_,n,_,af⟩:=(show fY X.prog X.w H s.heap a (.gD dq (.lst xs)) from I.bO a _ dJ)
  exact kO PySem.W.kitx_list I.eU ⟨_,af,rfl⟩ e (λ z=>nomatch z) h
 | @tup a xs dJ=>
  cases (show u=Value.ref a from bd)
  obtain ⟨_,_,_,p⟩:=(show fY X.prog X.w H s.heap a (.tup xs) from I.bO a _ dJ)
  obtain ⟨o,af,ao,_⟩:=p;exact kO PySem.W.kitx_tuple I.eU ⟨o,af,ao⟩ e (λ z=>nomatch z) h
 | @eD a kvs dJ=>
  cases (show u=Value.ref a from bd)
  obtain ⟨_,_,vs,_,p⟩:=(show fY X.prog X.w H s.heap a (.eD kvs) from I.bO a _ dJ)
  obtain ⟨o,aw,fg,af,ao,_⟩:=p;exact kO PySem.W.kitx_dict I.eU ⟨o,af,ao.1⟩ e (λ z=>nomatch z) h
 | @hx a kvs dJ=>
  cases (show u=Value.ref a from bd)
  obtain ⟨_,_,xs,_,o,aw,fg,af,ao,_⟩:=(show fY X.prog X.w H s.heap a (.hx kvs) from I.bO a _ dJ)
  exact kO PySem.W.kitx_dict I.eU ⟨o,af,ao.1⟩ e (λ z=>nomatch z) h
 | @ins a C bT fs dJ cl au bc E4 hm=>
  cases (show u=Value.ref a from bd);obtain ⟨ej,O,_⟩:=xm I.bO dJ;obtain ⟨dC,J,_⟩:=O.look;exact kO (PySem.W.kitx_own (cl.get _) cl.hd au bc E4 hm) I.eU J e (λ z=>nomatch z) h
end
structure eG(k:Nat)(A:d6):Prop where
 hd:A.handled=none
 bH:A.depth+3 * k+5 < recursionLimit
 un:A.units+16 * k+200 < fI
theorem eG.mono{j k:Nat}{A:d6}(r:eG k A)(h:j<=k):eG j A:=⟨r.hd,by have:=r.bH;omega,by have:=r.un;omega⟩
theorem eG.deeper{k:Nat}{A:d6}(r:eG (k+1) A)(env:Env):eG k (A.deeper env):=
 ⟨r.hd,by have:=r.bH;show A.depth+1+3 * k+5 < _;omega,by have:=r.un;show A.units+3+16 * k+200 < _;omega⟩
theorem MB{A:d6}{C:Addr}{us:List Value}{kw:List (Str × Value)}:(A.under (.builtin "type.__call__" ⟨.ref C::us,kw⟩)).depth=A.depth+1:=by
 first | rfl | simp [Around.under,Code.weight,Code.isCreation,Code.isGuard,Code.isCaller,Code.frames,Code.isFrame,guardIds]
theorem MC{A:d6}{C:Addr}{us:List Value}{kw:List (Str × Value)}:(A.under (.builtin "type.__call__" ⟨.ref C::us,kw⟩)).units=A.units+1:=by
 first | rfl | simp [Around.under,Code.cUnits,Code.frames,Code.isFrame]
theorem eG.make{k:Nat}{A:d6}(r:eG (k+1) A)(C:Addr)(us:List Value)(kw:List (Str × Value)):eG k (A.under (.builtin "type.__call__" ⟨.ref C::us,kw⟩)):=
 ⟨r.hd,by have:=r.bH;rw [MB];omega,by have:=r.un;rw [MC];omega⟩
theorem eG.depth{k:Nat}{A:d6}(r:eG k A):A.depth < recursionLimit:=by have:=r.bH;omega
def zV:eZ:=λ _ H Q=>Q [] H
def E5(a_:TE)(xp:eZ):eZ:=λ σ H Q=>a_ σ H λ x H1=>xp σ H1 λ xs aK=>Q (x::xs) aK
section
variable{X:a4}{e:a8}{aw:List a8}{aX:TE}{t:eZ}{pos:Pos}
theorem MD:hQ X [] zV:=λ _ _ _ _ H Q I h=>Calls.spliced_nil ⟨[],H,I,.nil,h⟩
theorem ME(au:b1 X e aX)(ap:hQ X aw t)(aB:dp (e::aw) X.env=(false,eval e X.env)::dp aw X.env:=by rfl):hQ X (e::aw) (E5 aX t):=by
 intro pos pins s σ H Q I h;rw [aB];show bz _ _ (spliced ((false,eval e X.env)::gj pos (dp aw X.env))) _ _ s;refine Calls.spliced_cons (bZ (au pins s σ H _ I h) λ u s1 ⟨x,H1,aY,be,aE⟩=>?_)
 exact bZ (ap pos pins s1 σ H1 _ aY aE) λ us s2 ⟨xs,aK,ck,bB,bu⟩=>⟨x::xs,aK,ck,.cons be bB,bu⟩
def E6(t:eZ):TE:=λ σ H Q=>t σ H λ xs H1=>xs.length<=sizeLine/\∀ p,H1 p=none->Q (.ref p) (upd H1 p (.tup xs))
def E7(t:eZ):TE:=λ σ H Q=>t σ H λ xs H1=>xs.length<=sizeLine/\∀ p,H1 p=none->Q (.ref p) (upd H1 p (.lst xs))
theorem MF {am} (h:hQ X aw t):b1 X (.Tuple aw am pos) (E6 t):=by
 intro pins s σ H Q I bn;refine wpAny_Tuple_spliced (bZ (h pos pins s σ H _ I bn) λ us s1 ⟨xs,H1,aY,r,z,q⟩=>⟨by rw [<- r.length];exact z,?_⟩);have hf:H1 s1.heap.objs.size=none:=aY.bO.fresh (b7 _);refine ⟨.ref s1.heap.objs.size,upd H1 s1.heap.objs.size (.tup xs),aY.laid (t':=s1.toks) (λ b u e=>du _ e) (b7 _) ?_,rfl,q _ hf⟩;exact ⟨z,us,r,⟨_,gC _ rfl,rfl,_,rfl⟩⟩
theorem MG(h:hQ X aw t):b1 X (.List aw pos) (E7 t):=by
 intro pins s σ H Q I bn;refine wpAny_List_spliced (bZ (h pos pins s σ H _ I bn) λ us s1 ⟨xs,H1,aY,r,z,q⟩=>⟨by rw [<- r.length];exact z,?_⟩);have hf:H1 s1.heap.objs.size=none:=aY.bO.fresh (b7 _);refine ⟨.ref s1.heap.objs.size,upd H1 s1.heap.objs.size (.lst xs),aY.laid (t':=s1.toks) (λ b u e=>du _ e) (b7 _) ?_,rfl,q _ hf⟩;exact ⟨z,us,0,r,gC _ rfl⟩
end
abbrev gG:=List V->ar->cm->h8->Prop
abbrev pC:=List Env->ar->aM->h8->Value->aM->Prop
structure ni(P:c8)(w:cG)(K:a6)(mg:Str->Option Value)(base:b2)(A:d6)(outer:List Env)(s:aM)(H:ar):Prop where
 frames:A.frames=some outer
 mod:Mod K mg base
 bs:∀ b o,base.get? b=some o->s.heap.get? b=some o/\H b=none
 lz:base.objs.size<=s.heap.objs.size
 jD:s.heap.FunFrames base outer
 m9:∀ b∈ka outer,H b=none
 bO:en P w H s.heap
 bare:o_ s.gens
def uw(outer:List Env)(P:c8)(w:cG)(H:ar)(s:aM)(Q:cm)(u:Value)(a9:aM):Prop:=
 ∃ v ai,a9.os=s.os/\o_ a9.gens/\fK (ka outer) [] H ai s.heap a9.heap/\en P w ai a9.heap/\RelV v u/\Q v ai
def E8(fO:pC)(outer:List Env)(P:c8)(w:cG)(H:ar)(s:aM)(Q:cm)(E:h8)(r:Result)(a9:aM):Prop:=
 match r with
 | .ok (.ret u)=>uw outer P w H s Q u a9
 | .ok _=>False
 | .error e=>fO outer H s E e a9
structure cO(P:c8)(w:cG)(K:a6)(mg:Str->Option Value)(base:b2)(fO:pC)(k:Nat)(f:Addr)(fd:gA)(ps:List Str)(sp:gG):Prop where
 len:∀ vs H Q E,sp vs H Q E->vs.length=ps.length
 run:∀(A:d6)(outer:List Env)(s:aM)(H:ar)(args:Args)(us:List Value)(vs:List V)(Q:cm)(E:h8),eG k A->ni P w K mg base A outer s H->si s fd args (ps.zip us)->Vals vs us->sp vs H Q E →
  mW (bA P w) A (.call (.ref f) args) (E8 fO outer P w H s Q E) s
theorem ni.make{P:c8}{w:cG}{K:a6}{mg:Str->Option Value}{base:b2}{A:d6}{outer:List Env}{s:aM}{H:ar}(e:ni P w K mg base A outer s H)(C:Addr)(us:List Value)(kw:List (Str × Value)) :
 ni P w K mg base (A.under (.builtin "type.__call__" ⟨.ref C::us,kw⟩)) outer s H:=⟨by first | exact e.frames | (simpa [Around.under,Code.envs,Code.isFrame,pushEnvs] using e.frames),e.mod,e.bs,e.lz,e.jD,e.m9,e.bO,e.bare⟩
section
variable{X:a4}{pins:List (Addr × Obj)}{σ:St}{H:ar}{s a9:aM}
theorem Inv.sH(I:Inv X pins σ H s):ni X.prog X.w X.K X.mg X.base X.A X.stack s H:=
 ⟨I.ok.frames,I.ok.mod,I.bs,e5 I.ok.lz I.aR,I.stack,I.Eg,I.bO,I.bare⟩
theorem Inv.after{Q:cm}{u:Value}(I:Inv X pins σ H s)(h:uw X.stack X.prog X.w H s Q u a9):gn X pins σ Q u a9:=by
 obtain ⟨v,ai,os,bare,un,bO,r,q⟩:=h;obtain ⟨gF,g,d,t,MH⟩:=a9;obtain rfl:MH=s.os:=os;exact ⟨v,ai,I.call (h':=gF) (g':=g) (d':=d) (t':=t) (ch:=[]) un bO bare (λ b z=>absurd z (by simp)),r,q⟩
end
def zW(sp:gG)(dvs:List V)(E:h8)(t:eZ):TE:=λ σ H Q=>t σ H λ vs H1=>sp (vs++dvs) H1 Q E
def E9(C:Addr)(m:Str)(sp:gG)(dvs:List V)(E:h8)(a_:TE)(t:eZ):TE:=λ σ H Q=>a_ σ H λ x H1=>∃ a bT fs,x=.ref a/\H1 a=some (.ins C bT fs)/\fs.lookup m=none ∧
 t σ H1 λ vs aK=>sp (x::(vs++dvs)) aK Q E
def MI(C:Addr)(sp:gG)(dvs:List V)(E:h8)(t:eZ):TE:=λ σ H Q=>t σ H λ vs H1=>∀ x bT,H1 x=none->H1 bT=none->bT≠x →
 sp (.ref x::(vs++dvs)) (upd (upd H1 bT (.own x)) x (.ins C bT [])) (λ v aK=>v=.br/\Q (.ref x) aK) E
def Binds(K:a6)(fd:gA)(ps:List Str)(ds:List Value):Prop:=
 ∀(s:aM)(us:List Value),K.In s.heap->(us++ds).length=ps.length->si s fd ⟨us,[]⟩ (ps.zip (us++ds))
theorem Binds.all{K:a6}{fd:gA}{ps:List Str}(h:∀ us:List Value,us.length=ps.length->bindArgs fd ⟨us,[]⟩=pure (ps.zip us)):Binds K fd ps []:=λ s us _ aP=>by
 rw [pa] at aP ⊢;exact .of_eq (h us aP)
def qH(fO:pC)(X:a4)(E:h8):Prop:=∀(pins:List (Addr × Obj))(σ:St)(H:ar)(s:aM)(e:Value)(a9:aM),Inv X pins σ H s->fO X.stack H s E e a9->X.xe e a9
section
variable{X:a4}{fO:pC}{k:Nat}{f C:Addr}{fd:gA}{ps:List Str}{sp:gG}{dvs:List V}{ds:List Value}{E:h8}{x m:Str}{p pos apos:Pos}{e o:a8}{aw:List a8}{a_:TE}{t:eZ}
theorem zX{pins:List (Addr × Obj)}{σ:St}{H:ar}{s:aM}{Q:cm}{us:List Value}{vs:List V}(F:cO X.prog X.w X.K X.mg X.base fO k f fd ps sp)(ap:eG k X.A)(ag:Binds X.K fd ps ds)(hd:Vals dvs ds)(aq:qH fO X E)
 (I:Inv X pins σ H s) (r:Vals vs us) (h:sp (vs++dvs) H Q E):bz (bA X.prog X.w) X.A (call (.ref f) us) (gn X pins σ Q) X.xe s:=by
 have bB:Vals (vs++dvs) (us++ds):=r.append hd
 have aP:(us++ds).length=ps.length:=by rw [<- bB.length];exact F.len _ _ _ _ h
 refine wH (sb (F.run X.A X.stack s H ⟨us,[]⟩ (us++ds) (vs++dvs) Q E ap I.sH (ag s us I.eU aP) bB h) λ r a9 bn=>?_)
 cases r with
 | error e=>exact aq pins σ H s e a9 I bn
 | ok gH=>
  cases gH with
  | ret u=>exact I.after bn
  | next=>exact False.elim bn
  | brk=>exact False.elim bn
  | cont=>exact False.elim bn
theorem MJ(F:cO X.prog X.w X.K X.mg X.base fO k f fd ps sp)(ap:eG k X.A)(a0:eF X x)(hm:X.mg x=some (.ref f))(aC:kN X.K (.ref f)=true)(ag:Binds X.K fd ps ds)(hd:Vals dvs ds)(aq:qH fO X E)
 (au:hQ X (e::aw) t) (gd:(x==("__debug__" : Str))=false:=by decide) (he:dp (e::aw) X.env=(false,eval e X.env)::dp aw X.env:=by rfl) (iC:(gj pos (dp aw X.env)).any (·.1)=false:=by rfl) :
 b1 X (.Call (.Name x p) (e::aw) [] pos) (zW sp dvs E t):=by
 intro pins s σ H Q I h;refine oZ (w9 I a0 hm ?_ gd);refine w1 (h₀:=X.base) I.ok.mod.sz aC (bZ (au pos pins s σ H _ I h) λ us s1 ⟨vs,H1,aY,r,q⟩=>⟨aY.eU,?_⟩) he iC;exact zX F ap ag hd aq aY r q
theorem MK{pl:Sem Bool}(he:b1 X o a_)(c:dI X.K C)(hm:Meth X.K C m f)(F:cO X.prog X.w X.K X.mg X.base fO k f fd ps sp)(ap:eG k X.A)(ag:Binds X.K fd ps ds)(hd:Vals dvs ds)(aq:qH fO X E)(au:hQ X (e::aw) t)
 (hy:dp (e::aw) X.env=(false,eval e X.env)::dp aw X.env:=by rfl) (iC:(gj pos (dp aw X.env)).any (·.1)=false:=by rfl)
 (bt:eval (.Call (.Attribute o m apos) (e::aw) [] pos) X.env=(do
  let cZ ← eval o X.env
  kF apos.atName
  let (f,first) ← hM [cZ] (qf cZ m pl)
  sf pos f first (gj pos (dp (e::aw) X.env)) (o2 pos (o1 [] X.env))):=by rfl) :
 b1 X (.Call (.Attribute o m apos) (e::aw) [] pos) (E9 C m sp dvs E a_ t):=by
 intro pins s σ H Q I h;refine PySem.W.methodCall_KW (pl:=pl) (bZ (he pins s σ H _ I h) λ u s1 ⟨x,H1,aY,bd,a,bT,fs,ex,dJ,l,q⟩=>?_) bt;subst ex;obtain rfl:u=Value.ref a:=bd;refine zT aY dJ c hm l ?_;refine w1 (first:=[.ref a]) (h₀:=X.base) I.ok.mod.sz hm.bS (bZ (au pos pins s1 σ H1 _ aY q) λ us s2 ⟨vs,aK,ck,r,bu⟩=>⟨ck.eU,?_⟩) hy iC;exact zX (us:=.ref a::us) (vs:=.ref a::vs) F ap ag hd aq ck (.cons rfl r) bu
theorem ML{pl:Sem Bool}(he:b1 X o a_)(c:dI X.K C)(hm:Meth X.K C m f)(F:cO X.prog X.w X.K X.mg X.base fO k f fd ps sp)(ap:eG k X.A)(ag:Binds X.K fd ps ds)(hd:Vals dvs ds)(aq:qH fO X E)
 (bt:eval (.Call (.Attribute o m apos) [] [] pos) X.env=(do
  let cZ ← eval o X.env
  kF apos.atName
  let (f,first) ← hM [cZ] (qf cZ m pl)
  sf pos f first (gj pos (dp [] X.env)) (o2 pos (o1 [] X.env))):=by rfl) :
 b1 X (.Call (.Attribute o m apos) [] [] pos) (E9 C m sp dvs E a_ zV):=by
 intro pins s σ H Q I h;refine PySem.W.methodCall_KW (pl:=pl) (bZ (he pins s σ H _ I h) λ u s1 ⟨x,H1,aY,bd,a,bT,fs,ex,dJ,l,q⟩=>?_) bt;subst ex;obtain rfl:u=Value.ref a:=bd;refine zT aY dJ c hm l ?_;exact PySem.W.callWith_K0 (first:=[.ref a]) aY.eU hm.bS (zX (us:=[.ref a]) (vs:=[.ref a]) F ap ag hd aq aY (.cons rfl .nil) q)
structure dK(K:a6)(C f:Addr):Prop where
 makes:w0 K C=true
 init:gk K (.ref C) "__init__" = some (some (.ref f))
 fn:qr K (.ref f)=true
 bS:kN K (.ref C)=true
theorem MM{pins:List (Addr × Obj)}{σ:St}{H:ar}{s:aM}{Q:cm}{us:List Value}{vs:List V}(M:dK X.K C f)(F:cO X.prog X.w X.K X.mg X.base fO k f fd ps sp)(ap:eG (k+1) X.A)(ag:Binds X.K fd ps ds)(hd:Vals dvs ds)
 (aq:qH fO X E) (I:Inv X pins σ H s) (r:Vals vs us)
 (h:∀ x bT,H x=none->H bT=none->bT≠x->sp (.ref x::(vs++dvs)) (upd (upd H bT (.own x)) x (.ins C bT [])) (λ v aK=>v=.br/\Q (.ref x) aK) E) :
 bz (bA X.prog X.w) X.A (call (.ref C) us) (gn X pins σ Q) X.xe s:=by
 have bn:=h (s.heap.objs.size+1) s.heap.objs.size (I.bO.fresh (f_ _)) (I.bO.fresh (b7 _)) (eY (n5 _));have ck:=Inv.made (C:=C) I;have bB:Vals (V.ref (s.heap.objs.size+1)::(vs++dvs)) (Value.ref (s.heap.objs.size+1)::(us++ds)):=.cons rfl (r.append hd)
 have aP:(Value.ref (s.heap.objs.size+1)::us++ds).length=ps.length:=by
  have e:=bB.length;rw [F.len _ _ _ _ bn] at e;exact e.symm
 refine wH (Mk (f:=f) I.eU M.makes M.init (beq_iff_eq.mp M.fn) (sb (F.run _ X.stack _ _ ⟨Value.ref (s.heap.objs.size+1)::us,[]⟩ (Value.ref (s.heap.objs.size+1)::(us++ds)) _ _ E (ap.make C us [])
  (ck.sH.make C us []) (ag _ (Value.ref (s.heap.objs.size+1)::us) ck.eU aP) bB bn) λ r a9 ux=>?_))
 cases r with
 | error e=>exact aq pins σ _ _ e a9 ck ux
 | ok gH=>
  cases gH with
  | ret u=>
   obtain ⟨v,ai,c7,bo,ev,dH⟩:=ck.after ux;subst ev;exact ⟨bo,⟨V.ref (s.heap.objs.size+1),ai,c7,rfl,dH⟩⟩
  | next=>exact False.elim ux
  | brk=>exact False.elim ux
  | cont=>exact False.elim ux
theorem MN(M:dK X.K C f)(F:cO X.prog X.w X.K X.mg X.base fO k f fd ps sp)(ap:eG (k+1) X.A)(a0:eF X x)(hm:X.mg x=some (.ref C))(ag:Binds X.K fd ps ds)(hd:Vals dvs ds)(aq:qH fO X E)
 (au:hQ X (e::aw) t) (gd:(x==("__debug__" : Str))=false:=by decide) (he:dp (e::aw) X.env=(false,eval e X.env)::dp aw X.env:=by rfl) (iC:(gj pos (dp aw X.env)).any (·.1)=false:=by rfl) :
 b1 X (.Call (.Name x p) (e::aw) [] pos) (MI C sp dvs E t):=by
 intro pins s σ H Q I h;refine oZ (w9 I a0 hm ?_ gd);refine w1 (h₀:=X.base) I.ok.mod.sz M.bS (bZ (au pos pins s σ H _ I h) λ us s1 ⟨vs,H1,aY,r,q⟩=>⟨aY.eU,?_⟩) he iC;exact MM M F ap ag hd aq aY r q
end
structure d0(N P:List Str)(sc:e4):Prop where
 kind:sc.kind=.function
 co:sc.isCoroutine=false
 gen:sc.isGenerator=false
 bD:N.Nodup
 pre:N.take P.length=P
 par:∀ x∈P,sc.names.lookup x=some .local\/sc.names.lookup x=some .cell
 MO:∀ y∈sc.names,y.2≠.free
theorem E_{kindOf:Str->Option ls}{x:Str}:∀{binds:List (Str × Value)}{m:Str->Option Value},(∀ v,(x,v) ∉ binds)->WF kindOf binds m x=m x
 | [],_,_=>rfl
 | (n,v)::r,m,h=>by
  unfold WF;rw [E_ λ w hw=>h w (h3 _ hw)];split
  ·have:x≠n:=by rintro rfl;exact h v f7
   simp [this]
  ·rfl
theorem Fa{kindOf:Str->Option ls}{x:Str}:∀{binds:List (Str × Value)}{m:Str->Option Value},(∀ v,(x,v) ∉ binds)->o7 kindOf binds m x=m x
 | [],_,_=>rfl
 | (n,v)::r,m,h=>by
  unfold o7;rw [Fa λ w hw=>h w (h3 _ hw)];split
  ·rfl
  ·have:x≠n:=by rintro rfl;exact h v f7
   simp [this]
theorem Fb{kindOf:Str->Option ls}{x:Str}{v:Value}:∀{P:List Str}{vs:List Value}{i:Nat}{m:Str->Option Value},P.Nodup->P[i]?=some x->vs[i]?=some v->kindOf x=some .local →
 WF kindOf (P.zip vs) m x=some v
 | [],_,_,_,_,h,_,_=>by simp at h
 | _::_,[],_,_,_,_,h,_=>by simp at h
 | p::P,w::vs,0,m,bD,af,ao,aC=>by
  simp at af ao;subst af;subst ao;show WF kindOf ((p,w)::P.zip vs) m p=_;unfold WF;rw [E_ λ v bK=>(ql.mp bD).1 (wQ bK).1,if_pos aC];simp
 | p::P,w::vs,i+1,m,bD,af,ao,aC=>by
  show WF kindOf ((p,w)::P.zip vs) m x=_;unfold WF;exact Fb (i:=i) (ql.mp bD).2 (by simpa using af) (by simpa using ao) aC
theorem Fc{kindOf:Str->Option ls}{x:Str}{v:Value}:∀{P:List Str}{vs:List Value}{i:Nat}{m:Str->Option Value},P.Nodup->P[i]?=some x->vs[i]?=some v->kindOf x≠some .local →
 o7 kindOf (P.zip vs) m x=some v
 | [],_,_,_,_,h,_,_=>by simp at h
 | _::_,[],_,_,_,_,h,_=>by simp at h
 | p::P,w::vs,0,m,bD,af,ao,aC=>by
  simp at af ao;subst af;subst ao;show o7 kindOf ((p,w)::P.zip vs) m p=_;unfold o7;rw [Fa λ v bK=>(ql.mp bD).1 (wQ bK).1,if_neg aC];simp
 | p::P,w::vs,i+1,m,bD,af,ao,aC=>by
  show o7 kindOf ((p,w)::P.zip vs) m x=_;unfold o7;exact Fc (i:=i) (ql.mp bD).2 (by simpa using af) (by simpa using ao) aC
def kf(N:List Str)(vs:List V):St:=vs.map some++mZ (N.length - vs.length) none
def ob(fO:pC)(P:c8)(w:cG)(K:a6)(mg:Str->Option Value)(base:b2)(N:List Str)(qual:Str)(scope:e4)(f:Addr)(cd:Value)(A:d6)(outer:List Env)(s:aM)(H:ar)(E:h8):a4 where
 prog:=P
 w:=w
 K:=K
 mg:=mg
 base:=base
 A:=A.deeper (mY qual scope s.heap.objs.size f cd)
 N:=N
 s₀:=s
 H₀:=H
 env:=mY qual scope s.heap.objs.size f cd
 outer:=outer
 stack:=mY qual scope s.heap.objs.size f cd::outer
 ex:=[]
 calm:=true
 fn:=λ _=>true
 pn:=[]
 xe:=λ e a9=>bz (bA P w) (A.deeper (mY qual scope s.heap.objs.size f cd)) (leaving (mY qual scope s.heap.objs.size f cd) e) (λ _ qI=>fO outer H s E e qI) (λ e' qI=>fO outer H s E e' qI) a9
theorem Fd{sc:e4}{n:Nat}{x:Str}(h:sc.names.lookup x=some .cell):∃ c,(cellsFrom n sc.names []).lookup x=some c:=by
 have q:=PySem.W.cellsFrom_some sc.names n [] (.inl h);exact wX.mp q
theorem MP{fO:pC}{P:c8}{w:cG}{K:a6}{mg:Str->Option Value}{base:b2}{N ps:List Str}{qual:Str}{scope:e4}{f:Addr}{cd:Value}{A:d6}{outer:List Env}{s s1:aM}{H:ar}{E:h8}{us:List Value}{vs:List V}
 (S:d0 N ps scope) (hd:A.handled=none) (c0:ni P w K mg base A outer s H) (aP:vs.length=ps.length) (r:Vals vs us)
 (x:InCallC s s.heap.objs.size (WF (mY qual scope s.heap.objs.size f cd).kindOf (ps.zip us) λ _=>none) (cellsFrom (s.heap.objs.size+1) scope.names []) (o7 (mY qual scope s.heap.objs.size f cd).kindOf (ps.zip us) λ _=>none) s1) :
 Inv (ob fO P w K mg base N qual scope f cd A outer s H E) [] (kf N vs) H s1:=by
 have iC:ps.length<=N.length:=by have:=congrArg n2 S.pre;rw [iP] at this;omega
 obtain ⟨af,tk,rfl,aC⟩:=x.done;have oc:∀ b:Addr,b ∉ (ob fO P w K mg base N qual scope f cd A outer s H E).ex:=λ b z=>absurd (show b∈([]:List Addr) from z) (by simp)
 refine ⟨⟨c0.mod,S.kind,rfl,rfl,b7 _,λ y z c af ao=>?_,λ y aQ=>?_,λ y c _ h=>?_,λ _=>hd,Around.frames_deeper c0.frames,.inr ⟨rfl,rfl⟩,λ b z=>absurd z (oc b),c0.bs,c0.lz,λ b _ _=>oc b,λ b z=>absurd z (oc b),c0.jD,c0.m9⟩,
  rfl,c0.bare,fK.kept aC,⟨_,x.toInCall.ns,λ i y v af ao aF=>?_⟩,λ y c h=>⟨_,x.cell y c h⟩,c0.bO.fresh (b7 _),λ y c h=>?_,λ p aj=>absurd (show p∈([]:List (Addr × Obj)) from aj) (by simp),c0.bO.kept aC,?_⟩
 ·exact name_of_addr x.apart (m4 af) (m4 ao)
 ·have aQ:scope.names.lookup y=some .cell\/scope.names.lookup y=some .free:=aQ;rcases aQ with aQ | aQ
  ·exact Fd aQ
  ·exact absurd rfl (S.MO _ (m4 aQ))
 ·exact wV (x.above y c (m4 h))
 ·have aA:i < vs.length:=by
   unfold kf at ao;by_cases aA:i < vs.length
   ·exact aA
   ·rw [n3 (by simpa using aA)] at ao;rw [sm] at ao;split at ao<;>cases ao
  have au:vs[i]?=some v:=by
   unfold kf at ao;rw [lZ (by simpa using aA),gT] at ao
   cases e:vs[i]? with
   | none=>rw [e] at ao;cases ao
   | some a=>rw [e] at ao;cases ao;rfl
  obtain ⟨u,bx,bo⟩:=r.get au
  have aj:ps[i]?=some y:=by
   rw [<- S.pre,List.getElem?_take_of_lt (by omega)];exact af
  have xq:ps.Nodup:=by rw [<- S.pre];exact S.bD.sublist (List.take_sublist _ _)
  refine ⟨u,bo,?_⟩;rcases S.par y (kJ aj) with k | k
  ·exact .inl ⟨k,Fb xq aj bx k⟩
  ·obtain ⟨c,e⟩:=Fd (n:=s.heap.objs.size+1) k;refine .inr ⟨.inl k,c,e,?_⟩;have q:=x.cell y c e;rw [Fc xq aj bx (by show scope.names.lookup y≠_;rw [k];decide)] at q;exact q
 ·exact c0.bO.fresh (wV (x.above y c (m4 h)))
 ·unfold kf;show _=N.length;rw [hN,b3,t6];omega
theorem Fe{fO:pC}{P:c8}{w:cG}{K:a6}{mg:Str->Option Value}{base:b2}{k:Nat}{f:Addr}{name qual:Str}{params:wK}{body:List bE}{scope:e4}{xr ei doc pm bP ct dX:Value}{an dC:Option Addr}
 {hB:Array (Option Value)} {N ps:List Str} {sp:gG} (lk:K.lookup f=some ⟨dX,dC,.func (lx name qual params body scope xr ei doc pm an bP ct),hB⟩) (g8:pf K bP qual=true) (S:d0 N ps scope)
 (len:∀ vs H Q E,sp vs H Q E->vs.length=ps.length)
 (kW:∀(A:d6)(outer:List Env)(s:aM)(H:ar)(vs:List V)(Q:cm)(E:h8),eG k (A.deeper (mY qual scope s.heap.objs.size f bP))->sp vs H Q E →
  ∃ t,jG (ob fO P w K mg base N qual scope f bP A outer s H E) body t/\t { nx:=λ _ ai=>Q .br ai,rt:=Q } (kf N vs) H) :
 cO P w K mg base fO (k+1) f (lx name qual params body scope xr ei doc pm an bP ct) ps sp:=by
 refine ⟨len,λ A outer s H args us vs Q E ap c0 ag r jg=>?_⟩;have aP:=len _ _ _ _ jg;have KX:K.In s.heap:=c0.mod.sz.keeps λ b o e=>(c0.bs b o e).1;have lim:s.heap.NoLimit:=c0.mod.nolimit.keeps λ b o e=>(c0.bs b o e).1
 have xt:∀ y∈ps.zip us,scope.names.lookup y.1=some .local\/(scope.names.lookup y.1=some .cell/\((cellsFrom (s.heap.objs.size+1) scope.names []).lookup y.1).isSome=true):=λ⟨n,v⟩ aQ=>by
  rcases S.par n (wQ aQ).1 with q | q
  ·exact .inl q
  ·exact .inr ⟨q,PySem.W.cellsFrom_some _ _ _ (.inl q)⟩
 refine codeAny_call_function ap.depth (KX _ _ lk) rfl S.co S.gen rfl (PySem.W.codeRec_of KX g8) (ag _ _ _ _ ?_);refine wpAny_newFunctionEnv_cells S.kind xt λ env he s1 x=>?_;subst he;refine ⟨lim.keeps x.toInCall.keep,codeAny_func ?_⟩;obtain ⟨t,bt,bn⟩:=kW A outer s H vs Q E (ap.deeper _) jg;have I:Inv (ob fO P w K mg base N qual scope f bP A outer s H E) [] (kf N vs) H s1:=MP S ap.hd c0 aP r x;refine eX (bt [] s1 (kf N vs) H _ I bn) (λ gH a9 aB=>?_) λ e a9 aB=>aB
 have fin:∀{σ':St}{ai:ar}{v:V}{u:Value},Inv (ob fO P w K mg base N qual scope f bP A outer s H E) [] σ' ai a9->RelV v u->Q v ai->uw outer P w H s Q u a9:=
  λ{σ' ai v u} J bo q=>⟨v,ai,J.os,J.bare,J.base,J.bO,bo,q⟩
 cases gH with
 | ret u=>
  obtain ⟨v,σ',ai,J,bo,q⟩:=aB;exact fin J bo q
 | next=>
  obtain ⟨σ',ai,J,q⟩:=aB;exact fin (v:=V.br) (u:=Value.none) J rfl q
 | brk=>
  obtain ⟨_,_,_,q⟩:=aB;exact False.elim q
 | cont=>
  obtain ⟨_,_,_,q⟩:=aB;exact False.elim q
section
variable{X:a4}{x:Str}{p pos:Pos}{e:a8}{aw:List a8}{t:eZ}{id T:String}{r:List V->ar->cm->Prop}
def xu(r:List V->ar->cm->Prop)(t:eZ):TE:=λ σ H Q=>t σ H λ vs H1=>r vs H1 Q
theorem MQ(aJ:kU X (.builtin id) r)(a0:eF X x)(hm:X.mg x=none)(bK:lr x=some (.builtin id))(au:hQ X (e::aw) t)(bc:x≠"__name__":=by decide)(gd:(x==("__debug__" : Str))=false:=by decide)
 (he:dp (e::aw) X.env=(false,eval e X.env)::dp aw X.env:=by rfl) (iC:(gj pos (dp aw X.env)).any (·.1)=false:=by rfl):b1 X (.Call (.Name x p) (e::aw) [] pos) (xu r t):=by
 intro pins s σ H Q I h;refine oZ (pp I a0 hm bK ?_ bc gd);exact PyProof.Rows.callWith_builtin1 (bZ (au pos pins s σ H _ I h) λ us s1 ⟨vs,H1,aY,be,aE⟩=>aJ pins s1 σ H1 vs us Q aY be aE) he iC
theorem MR(aJ:kU X (.type T) r)(a0:eF X x)(hm:X.mg x=none)(bK:lr x=some (.type T))(au:hQ X (e::aw) t)(bc:x≠"__name__":=by decide)(gd:(x==("__debug__" : Str))=false:=by decide)
 (he:dp (e::aw) X.env=(false,eval e X.env)::dp aw X.env:=by rfl) (iC:(gj pos (dp aw X.env)).any (·.1)=false:=by rfl):b1 X (.Call (.Name x p) (e::aw) [] pos) (xu r t):=by
 intro pins s σ H Q I h;refine oZ (pp I a0 hm bK ?_ bc gd);exact sq (bZ (au pos pins s σ H _ I h) λ us s1 ⟨vs,H1,aY,be,aE⟩=>aJ pins s1 σ H1 vs us Q aY be aE) he iC
end
end L2
namespace d9
open PySem PyProof.Rows
section
variable{prog:c8}{w:cG}{A:d6}{E:Value->aM->Prop}{s:aM}
theorem MS{t b:Addr}{vs ws:List Value}{Q:Value->aM->Prop}(bt:n1 s.heap t vs.toArray)(ag:n1 s.heap b ws.toArray)(bK:vs≠[])
 (af:ws=[]->Q (.ref t) s) (ao:ws≠[]->Q (.ref s.heap.objs.size) { s with heap:=s.heap.push { cls:=.type "tuple", data:=.seq (vs++ws).toArray } })
 (eQ:vs.length+ws.length<=sizeLine):bz (bA prog w) A (hL .Add (.ref t) (.ref b)) Q E s:=by
 obtain ⟨⟨cls,jh,data,b6⟩,bb,aJ,n,hd⟩:=id bt;obtain ⟨⟨MT,pD,data2,pE⟩,qJ,pF,dx,hd2⟩:=id ag;simp only at aJ hd pF hd2;subst aJ hd pF hd2
 have e:vs.toArray++ws.toArray=(vs++ws).toArray:=by simp
 by_cases hw:ws=[]
 ·exact zz ⟨_,bb,rfl⟩ ⟨_,qJ,rfl⟩ Wp zx PySem.F.slot_tuple_add PySem.F.entry_tuple_add (PySem.F.args_tuple_add_2 _ _)
   (tuple_addW1 t b vs.toArray ws.toArray n dx jh pD b6 pE (by simpa using bK) (by simp [hw])) ⟨bb,qJ,af hw⟩
 ·refine zz ⟨_,bb,rfl⟩ ⟨_,qJ,rfl⟩ Wp zx PySem.F.slot_tuple_add PySem.F.entry_tuple_add (PySem.F.args_tuple_add_2 _ _)
   (tuple_addW2 t b vs.toArray ws.toArray n dx jh pD b6 pE (by simpa using bK) (by simpa using hw) (by rw [dG,dG];exact eQ)) ⟨bb,qJ,?_⟩
  rw [e];exact ao hw
def cJ(n d:Nat):Option Int->Nat
 | none=>d
 | some v=>if v < 0 then (v+(n:Int)).toNat else min v.toNat n
theorem MU(n d:Nat)(hd:d<=n)(o:Option Int):cJ n d o<=n:=by
 cases o with
 | none=>exact hd
 | some v=>
  show (if v < 0 then (v+(n:Int)).toNat else min v.toNat n)<=n;by_cases bK:v < 0
  ·rw [if_pos bK];omega
  ·rw [if_neg bK];exact Nat.min_le_right _ _
theorem Ff(v:Int)(n d:Nat):(if v < 0 then max (v+(n:Int)) 0 else min v (n:Int))=((cJ n d (some v):Nat):Int):=by
 show (if v < 0 then max (v+(n:Int)) 0 else min v (n:Int))=(((if v < 0 then (v+(n:Int)).toNat else min v.toNat n):Nat):Int)
 by_cases bK:v < 0
 ·simp only [if_pos bK];omega
 ·simp only [if_neg bK];omega
theorem MV(lo aA:Option Int)(n:Nat):Builtin.Slice.sliceAdjust lo aA 1 (n:Int)=(((cJ n 0 lo:Nat):Int),((cJ n n aA:Nat):Int)):=by
 have af:¬ ((1:Int) < 0):=by omega
 unfold Builtin.Slice.sliceAdjust;simp only [af,if_false];refine Prod.ext ?_ ?_
 ·cases lo with
  | none=>rfl
  | some v=>exact Ff v n 0
 ·cases aA with
  | none=>rfl
  | some v=>exact Ff v n n
theorem MW(i j:Nat):Builtin.Slice.slicePlaces (i:Int) (j:Int) 1=j - i:=by
 unfold Builtin.Slice.slicePlaces
 have af:(1:Int) > 0:=by omega
 simp only [af,if_true,Int.ediv_one];split<;>omega
theorem Fg{v:Value}{o:Option Int}{Q:Option Int->aM->Prop}(p:mX v o)(h:Q o s):bz (bA prog w) A (Builtin.Slice.slicePartIndex v) Q E s:=by
 cases p with
 | none=>exact slicePart_none h
 | int i t=>exact slicePart_int h
theorem Fh{b6:Addr}{gq gu:Value}{lo aA:Option Int}{n:Nat}{Q:Int × Int × Nat->aM->Prop}(aB:s.heap.IsSliceOf b6 gq gu .none)(pl:mX gq lo)(pu:mX gu aA)
 (h:Q (((cJ n 0 lo:Nat):Int),1,cJ n n aA - cJ n 0 lo) s):bz (bA prog w) A (Builtin.Slice.sliceApplied (.ref b6) (pure (n:Int))) Q E s:=by
 obtain ⟨os,qK,xv,od⟩:=id aB;unfold Builtin.Slice.sliceApplied Builtin.Slice.sliceFields;refine aV (aV (jz qK od (x:=gq) rfl (aV (jz qK od (x:=gu) rfl (aV (jz qK od (x:=.none) rfl (cz ?_)))))));refine aV (slicePart_none ?_);show bz _ _ (if ((1:Int)==0)=true then _ else _) _ _ s;rw [if_neg (by decide)];refine aV (Fg pl (aV (Fg pu (aV (cz ?_)))));show bz _ _ (match Builtin.Slice.sliceAdjust lo aA 1 (n:Int) with | (lo,aA)=>pure (lo,(1:Int),Builtin.Slice.slicePlaces lo aA 1)) _ _ s;rw [MV lo aA n];show bz _ _ (pure (((cJ n 0 lo:Nat):Int),(1:Int),Builtin.Slice.slicePlaces ((cJ n 0 lo:Nat):Int) ((cJ n n aA:Nat):Int) 1)) _ _ s;rw [MW];exact cz h
theorem MX(xs:Array Value)(i k:Nat):((lu k).filterMap λ(m:Nat)=>xs[((i:Int)+(m:Int) * 1).toNat]?).toArray=((xs.toList.drop i).take k).toArray:=by
 have e:(λ(m:Nat)=>xs[((i:Int)+(m:Int) * 1).toNat]?)=λ m=>xs[i+m]?:=by
  funext m
  have:((i:Int)+(m:Int) * 1).toNat=i+m:=by omega
  rw [this]
 rw [e];have:=pick_run xs i k;rw [List.filterMap_map] at this;have aW:((λ x=>xs[x]?) ∘ λ x=>i+x)=λ m=>xs[i+m]?:=rfl;rw [aW] at this;rw [this]
theorem MY{t b6:Addr}{items:Array Value}{gq gu:Value}{lo aA:Option Int}{Q:Value->aM->Prop}(bt:n1 s.heap t items)(aB:s.heap.IsSliceOf b6 gq gu .none)(pl:mX gq lo)(pu:mX gu aA)
 (hw:¬ (cJ items.size 0 lo=0/\cJ items.size items.size aA=items.size))
 (h:Q (.ref s.heap.objs.size) { s with heap:=s.heap.push { cls:=.type "tuple", data:=.seq ((items.toList.drop (cJ items.size 0 lo)).take (cJ items.size items.size aA - cJ items.size 0 lo)).toArray } })
 (eQ:items.size<=sizeLine):bz (bA prog w) A (lY (.ref t) (.ref b6)) Q E s:=by
 have xw:sizeOk (.seq ((items.toList.drop (cJ items.size 0 lo)).take (cJ items.size items.size aA - cJ items.size 0 lo)).toArray):=by
  show ((items.toList.drop (cJ items.size 0 lo)).take (cJ items.size items.size aA - cJ items.size 0 lo)).toArray.size<=sizeLine;rw [dG,iP,iQ,Array.length_toList];omega
 have d4:cJ items.size items.size aA<=items.size:=MU _ _ (b7 _) aA;obtain ⟨os,qK,xv,od⟩:=id aB
 have uy:s.TypeIs (.ref b6) "slice":=⟨os,qK,xv⟩
 unfold lY
 try with_reducible refine tW ?_
 first | refine aV (cz ?_) | skip
 refine aV (wpAny_sequenceKey bt.typeIs (by decide) ?_)
 refine aV (wpAny_callSpecial?_slot (name:=Str.ofString "__getitem__") bt.typeIs sr
  (sa sr bt.typeIs entry_tuple_getitem ?_ (args_tuple_getitem _ _)))
 show bz _ _ (Builtin.Tuple.tupleItemsOf (.ref t) >>= _) _ _ s;refine aV (tupleItemsOf_ bt ?_);refine aV (wD uy ?_);rw [if_pos (by decide)];refine aV (Fh aB pl pu ?_)
 have uz:¬ ((((cJ items.size 0 lo:Nat):Int)==0&&(1:Int)==1&&(cJ items.size items.size aA - cJ items.size 0 lo)==items.size)=true):=by
  intro q;rw [g7,g7] at q;have aE:((cJ items.size 0 lo:Nat):Int)=0:=eq_of_beq q.1.1;have bu:cJ items.size items.size aA - cJ items.size 0 lo=items.size:=eq_of_beq q.2;exact hw ⟨by omega,by omega⟩
 show bz _ _ (if (((cJ items.size 0 lo:Nat):Int)==0&&(1:Int)==1&&(cJ items.size items.size aA - cJ items.size 0 lo)==items.size)=true then _ else _) _ _ s;rw [if_neg uz,MX]
 first
  | exact aV (m:=Builtin.Tuple.tupleExact _) (lp (cz ⟨_,rfl,cz h⟩) xw)
  | exact aV (m:=Builtin.Tuple.tupleExact _) (lp (aV (cz (cz ⟨_,rfl,cz h⟩))) xw)
  | exact aV (aV (m:=Builtin.Tuple.tupleExact _) (lp (cz (cz ⟨_,rfl,cz h⟩)) xw))
  | exact aV (aV (m:=Builtin.Tuple.tupleExact _) (lp (cz ⟨_,rfl,cz h⟩) xw))
end
end d9
namespace L2
open PySem PySem.Spec PyProof.Rows
abbrev ez:=St->ar->(Option Int->ar->Prop)->Prop
def uA(X:a4)(e:Option a8)(t:ez):Prop:=
 ∀(pins:List (Addr × Obj))(s:aM)(σ:St)(H:ar)(Q:Option Int->ar->Prop),Inv X pins σ H s->t σ H Q →
  bz (bA X.prog X.w) X.A (evalPart e X.env) (λ u a9=>∃ o ai,Inv X pins σ ai a9/\mX u o/\Q o ai) X.xe s
def Fi:ez:=λ _ H Q=>Q none H
def Fj(t:TE):ez:=λ σ H Q=>t σ H λ x H1=>∃ i,x=.int i/\Q (some i) H1
theorem MZ{ns:List Int}:∀{us:List Value},Vals (ns.map V.int) us->W1 us ns:=by
 induction ns with
 | nil=>intro us r;rw [l0] at r;cases r;exact .nil
 | cons n ns bL=>
  intro us r;rw [eC] at r
  cases r with
  | cons be bB=>
   obtain ⟨t,e⟩:=be;subst e;exact .cons n t (bL bB)
section
variable{X:a4}{e:a8}{aX:TE}{lo aA:Option a8}{eL lB:ez}{pos cc:Pos}
theorem M0:uA X none Fi:=by
 intro pins s σ H Q I h;rw [evalPart_none];exact cz ⟨none,H,I,.none,h⟩
theorem M1(h:b1 X e aX):uA X (some e) (Fj aX):=by
 intro pins s σ H Q I hw;rw [evalPart_some];refine bZ (h pins s σ H _ I hw) λ u s1 ⟨x,H1,aY,be,aE⟩=>?_;obtain ⟨i,rfl,q⟩:=aE;obtain ⟨t,rfl⟩:=be;exact ⟨some i,H1,aY,.int i t,q⟩
def nj(X:a4)(r:V->Option Int->Option Int->ar->cm->Prop):Prop:=
 ∀(pins:List (Addr × Obj))(s:aM)(σ:St)(H:ar)(x:V)(v gq gu:Value)(lo aA:Option Int)(b6:Addr)(Q:cm),Inv X pins σ H s->RelV x v->s.heap.IsSliceOf b6 gq gu .none->mX gq lo->mX gu aA->r x lo aA H Q →
  ∃ T id,typeLookup (.type T) "__getitem__" = pure (some (.builtin id))/\s.TypeIs v T/\bz (bA X.prog X.w) X.A (lY v (.ref b6)) (gn X pins σ Q) X.xe s
theorem nj.or{r dS:V->Option Int->Option Int->ar->cm->Prop}(h:nj X r)(h':nj X dS):nj X (λ x lo aA H Q=>r x lo aA H Q\/dS x lo aA H Q):=by
 intro pins s σ H x v gq gu lo aA b6 Q I bd aB pl pu q;rcases q with q | q
 ·exact h pins s σ H x v gq gu lo aA b6 Q I bd aB pl pu q
 ·exact h' pins s σ H x v gq gu lo aA b6 Q I bd aB pl pu q
def Fl(r:V->Option Int->Option Int->ar->cm->Prop)(aX:TE)(eL lB:ez):TE:=λ σ H Q=>aX σ H λ x H1=>eL σ H1 λ l aK=>lB σ aK λ u dE=>r x l u dE Q
theorem M3{r:V->Option Int->Option Int->ar->cm->Prop}(ap:nj X r)(he:b1 X e aX)(aP:uA X lo eL)(bx:uA X aA lB):b1 X (.Subscript e (.Slice lo aA none cc) pos) (Fl r aX eL lB):=by
 intro pins s σ H Q I h;refine Subscript_ (bZ (he pins s σ H _ I h) λ v s1 ⟨x,H1,aY,be,aE⟩=>?_);refine wpAny_Slice (bZ (aP pins s1 σ H1 _ aY aE) λ gq s2 ⟨l,aK,ck,pl,bu⟩=>bZ (bx pins s2 σ aK _ ck bu) λ gu s3 ⟨u,dE,c7,pu,dH⟩=>?_);rw [evalPart_none];refine cz ?_;have hA:Inv X pins σ dE { s3 with heap:=s3.heap.push { cls:=.type "slice", data:=.fields #[gq,gu,.none] } }:=c7.kept (t':=s3.toks) λ b dq q=>du _ q;obtain ⟨T,id,dy,bt,a0⟩:=ap pins { s3 with heap:=s3.heap.push { cls:=.type "slice", data:=.fields #[gq,gu,.none] } } σ dE x v gq gu l u s3.heap.objs.size Q hA be (Heap.IsSliceOf.new ..) pl pu dH;show bz (bA X.prog X.w) X.A (zB e (.Slice lo aA none cc) v (.ref s3.heap.objs.size)) (gn X pins σ Q) X.xe { s3 with heap:=s3.heap.push { cls:=.type "slice", data:=.fields #[gq,gu,.none] } };exact tail_any (ops:=[.ref s3.heap.objs.size,v]) bt dy a0 (by with_unfolding_all rfl)
def lC(xs:List V)(lo aA:Option Int):List V:=(xs.drop (d9.cJ xs.length 0 lo)).take (d9.cJ xs.length xs.length aA - d9.cJ xs.length 0 lo)
theorem Fm(xs:List V)(lo aA:Option Int):(lC xs lo aA).length<=xs.length:=by
 unfold lC;rw [iP,iQ];omega
def M4(K:a6):V->Option Int->Option Int->ar->cm->Prop:=λ x lo aA H Q=>∃ a xs,x=.ref a/\dD K H a xs ∧
 ¬ (d9.cJ xs.length 0 lo=0/\d9.cJ xs.length xs.length aA=xs.length)/\∀ p,H p=none->Q (.ref p) (upd H p (.tup (lC xs lo aA)))
theorem M5:nj X (M4 X.K):=by
 intro pins s σ H x v gq gu lo aA b6 Q I bd aB pl pu h;obtain ⟨a,xs,rfl,aq,hw,q⟩:=h;cases bd;obtain ⟨aN,r,bt,hz⟩:=I.tuple aq
 have hlen:aN.toArray.size=xs.length:=by rw [dG];exact r.length.symm
 refine ⟨"tuple", _,sr.lookup,bt.typeIs,?_⟩;refine d9.MY bt aB pl pu (by rw [hlen];exact hw) ?_ (by rw [hlen];exact hz);rw [hlen];refine ⟨.ref s.heap.objs.size,_,I.laid (t':=s.toks) (o:=.tup (lC xs lo aA)) (λ b dq q=>du _ q) (b7 _) ?_,rfl,q _ (I.bO.fresh (b7 _))⟩;exact ⟨e5 (Fm xs lo aA) hz,_,(r.drop (d9.cJ xs.length 0 lo)).take (d9.cJ xs.length xs.length aA - d9.cJ xs.length 0 lo),IsTup.new _ _⟩
def M6(K:a6):fv:=λ x y H Q=>∃ a b xs a3,x=.ref a/\y=.ref b/\dD K H a xs/\dD K H b a3/\xs≠[]/\xs.length+a3.length<=sizeLine ∧
 (a3=[]->Q (.ref a) H)/\(a3≠[]->∀ p,H p=none->Q (.ref p) (upd H p (.tup (xs++a3))))
theorem Vals.zY{xs:List V}{us:List Value}(r:Vals xs us):us=[] ↔ xs=[]:=by
 cases r with
 | nil=>simp
 | cons _ _=>simp
theorem M7:eo X (hL .Add) (M6 X.K):=by
 intro pins s σ H x y v u Q I bd cb h;obtain ⟨a,b,xs,a3,rfl,rfl,au,ag,aq,hz,aE,bu⟩:=h;cases bd;cases cb;obtain ⟨aN,be,df,_⟩:=I.tuple au;obtain ⟨dz,bB,cc,_⟩:=I.tuple ag;refine d9.MS df cc (λ z=>aq (be.zY.mp z)) (λ z=>⟨.ref a,H,I,rfl,aE (bB.zY.mp z)⟩) (λ z=>?_) (by rw [<- be.length,<- bB.length];exact hz);refine ⟨.ref s.heap.objs.size,_,I.laid (t':=s.toks) (o:=.tup (xs++a3)) (λ b dq q=>du _ q) (b7 _) ?_,rfl,bu (λ w=>z (bB.zY.mpr w)) _ (I.bO.fresh (b7 _))⟩;exact ⟨by rw [hN];exact hz,_,be.append bB,IsTup.new _ _⟩
end
def kX(n:Nat)(i:Int):Option Nat:=if 0<=i then (if i < n then some i.toNat else none) else if -(n:Int)<=i then some (i+n).toNat else none
def hb{α:Type}(xs:List α)(i:Int):Option α:=(kX xs.length i).bind λ j=>xs[j]?
theorem Fn{n:Nat}{i:Int}{j:Nat}(h:kX n i=some j):seqIndex? i n=some j/\j < n/\-(n:Int)<=i/\i < n:=by
 unfold kX at h;by_cases h0:0<=i
 ·rw [if_pos h0] at h;by_cases af:i < n
  ·rw [if_pos af] at h;have e:i.toNat=j:=gb.inj h;exact ⟨by rw [seqIndex_of h0 af,e],by omega,by omega,af⟩
  ·rw [if_neg af] at h;cases h
 ·rw [if_neg h0] at h;by_cases af:-(n:Int)<=i
  ·rw [if_pos af] at h;have e:(i+n).toNat=j:=gb.inj h;exact ⟨by rw [seqIndex_neg (by omega) af,e],by omega,af,by omega⟩
  ·rw [if_neg af] at h;cases h
theorem zZ{α:Type}{xs:List α}{i:Int}{v:α}(h:hb xs i=some v):∃ j,seqIndex? i xs.length=some j/\xs[j]?=some v/\j < xs.length/\-(xs.length:Int)<=i/\i < xs.length:=by
 unfold hb at h
 cases e:kX xs.length i with
 | none=>rw [e] at h;cases h
 | some j=>
  rw [e] at h;obtain ⟨af,ao,aF,cn⟩:=Fn e;exact ⟨j,af,h,ao,aF,cn⟩
theorem nk{α:Type}{xs:List α}{j:Nat}{v:α}(h:xs[j]?=some v):hb xs (j:Int)=some v:=by
 have d4:j < xs.length:=(kI.mp h).1
 have e:kX xs.length (j:Int)=some j:=by
  unfold kX;rw [if_pos (by omega),if_pos (by omega)];simp
 unfold hb;rw [e];exact h
def xx(b:a8):Prop:=∀ o i,wF b false o i=operate [o,i] (lY o i)
def nn(X:a4)(r:fv):Prop:=
 ∀(value slice:a8)(pins:List (Addr × Obj))(s:aM)(σ:St)(H:ar)(x y:V)(v u:Value)(Q:cm),Inv X pins σ H s->RelV x v->RelV y u->r x y H Q →
  wF slice false v u=operate [v,u] (lY v u)->bz (bA X.prog X.w) X.A (zB value slice v u) (gn X pins σ Q) X.xe s
def qL(X:a4)(id:String)(r:V->List V->ar->cm->Prop):Prop:=
 ∀(pins:List (Addr × Obj))(s:aM)(σ:St)(H:ar)(x:V)(xs:List V)(v:Value)(us:List Value)(Q:cm),Inv X pins σ H s->RelV x v->Vals xs us->r x xs H Q →
  bz (bA X.prog X.w) X.A (call (.builtin id) (v::us)) (gn X pins σ Q) X.xe s
section
variable{X:a4}{a b:a8}{a_ bG:TE}{pos:Pos}
theorem nn.or{r dS:fv}(h:nn X r)(h':nn X dS):nn X (λ x y H Q=>r x y H Q\/dS x y H Q):=by
 intro value slice pins s σ H x y v u Q I bd cb q aB;rcases q with q | q
 ·exact h value slice pins s σ H x y v u Q I bd cb q aB
 ·exact h' value slice pins s σ H x y v u Q I bd cb q aB
theorem qL.or{id:String}{r dS:V->List V->ar->cm->Prop}(h:qL X id r)(h':qL X id dS):qL X id (λ x xs H Q=>r x xs H Q\/dS x xs H Q):=by
 intro pins s σ H x xs v us Q I bd rs q;rcases q with q | q
 ·exact h pins s σ H x xs v us Q I bd rs q
 ·exact h' pins s σ H x xs v us Q I bd rs q
theorem M8{r:fv}(ap:nn X r)(au:b1 X a a_)(ag:b1 X b bG)(aB:xx b):b1 X (.Subscript a b pos) (pB r a_ bG):=by
 intro pins s σ H Q I h;exact Subscript_ (zO au ag I h λ v u s2 x y aK ck bd cb q=>ap a b pins s2 σ aK x y v u Q ck bd cb q (aB _ _))
def Fo(K:a6):fv:=λ x y H Q=>∃ p xs i v,x=.ref p/\y=.int i/\fi K H p xs/\hb xs i=some v/\Q v H
def Fp(K:a6):fv:=λ x y H Q=>∃ p xs i v,x=.ref p/\y=.int i/\dD K H p xs/\hb xs i=some v/\Q v H
def Fq:fv:=λ x y H Q=>∃ z i c,x=.str z/\y=.int i/\z.length<=sizeLine/\hb z.cps.toList i=some c/\Q (.str ⟨#[c]⟩) H
theorem M9:nn X (Fo X.K):=by
 intro value slice pins s σ H x y v u Q I bd cb h aB;obtain ⟨p,xs,i,z,rfl,rfl,bn,he,q⟩:=h;cases bd;obtain ⟨t,rfl⟩:=cb;obtain ⟨aN,r,pl,hz⟩:=I.list bn;obtain ⟨j,af,ao,aF,cn,d1⟩:=zZ he;obtain ⟨w,ji,jH⟩:=r.get ao;have aP:=r.length;have bc:=oa
 have fin:gn X pins σ Q w s:=⟨z,H,I,jH,q⟩
 by_cases h0:0<=i
 ·have d4:i.toNat=j:=by
   rw [seqIndex_of h0 d1] at af;exact gb.inj af
  exact item_listR pl.isList h0 (by omega) (by rw [d4];simpa using ji) fin aB
 ·have d4:(i+(aN.toArray.size:Int)).toNat=j:=by
   rw [seqIndex_neg (by omega) cn] at af;rw [dG,<- aP];exact gb.inj af
  exact Ea (x:=w) pl.isList.typeIs slot_list_getitem.lookup
   (wpAny_getItem_list_neg (Q:=λ r a9=>r=w/\gn X pins σ Q r a9) pl.isList (by omega) (by rw [dG]<;>omega) (by omega) (by rw [d4];simpa using ji) ⟨rfl,fin⟩) aB
theorem M_:nn X (Fp X.K):=by
 intro value slice pins s σ H x y v u Q I bd cb h aB;obtain ⟨p,xs,i,z,rfl,rfl,bn,he,q⟩:=h;cases bd;obtain ⟨t,rfl⟩:=cb;obtain ⟨aN,r,pl,hz⟩:=I.tuple bn;obtain ⟨j,af,ao,aF,cn,d1⟩:=zZ he;obtain ⟨w,ji,jH⟩:=r.get ao;have aP:=r.length;have bc:=oa
 have fin:gn X pins σ Q w s:=⟨z,H,I,jH,q⟩
 exact Ea (x:=w) pl.typeIs slot_tuple_getitem.lookup
  (getItem_tuple (j:=j) (Q:=λ r a9=>r=w/\gn X pins σ Q r a9) pl (by omega) (by omega) (by rw [dG,<- aP];exact af) (by simpa using ji) ⟨rfl,fin⟩) aB
theorem Na:nn X Fq:=by
 intro value slice pins s σ H x y v u Q I bd cb h aB;obtain ⟨z,i,c,rfl,rfl,hz,he,q⟩:=h;obtain ⟨t,rfl⟩:=bd;obtain ⟨t',rfl⟩:=cb;obtain ⟨j,af,ao,aF,cn,d1⟩:=zZ he
 have aP:z.cps.toList.length=z.length:=by simp [Str.length]
 rw [aP] at af cn d1;have bc:=oa
 exact tail_any (typeIs_str s z t) slot_str_getitem.lookup (getItem_str (c:=c) (by
  have az:decide (i < -(2 ^ 63:Int))=false:=decide_eq_false (by omega);have aW:decide (i ≥ 2 ^ 63)=false:=decide_eq_false (by omega)
  rw [az,aW,Bool.or_false]) (by rw [af];simpa using ao) ⟨.str ⟨#[c]⟩,H,I.tok _,⟨_,rfl⟩,q⟩) aB
def Nb(K:a6):fv:=λ x y H Q=>Fo K x y H Q\/Fp K x y H Q\/Fq x y H Q
theorem Fs:nn X (Nb X.K):=M9.or (M_.or Na)
theorem Nc(aN:List Value)(n j:Nat)(u:Value):Obj.mapSeq (·.setIfInBounds j u) { cls:=.type "list", data:=.seq aN.toArray n }={ cls:=.type "list", data:=.seq (aN.set j u).toArray n }:=by
 simp [Obj.mapSeq]
theorem Inv.lst{pins:List (Addr × Obj)}{σ:St}{H:ar}{s:aM}{p:Addr}{xs:List V}(I:Inv X pins σ H s)(h:H p=some (.lst xs)) :
 ∃(aN:List Value)(n:Nat),Vals xs aN/\s.heap.get? p=some { cls:=.type "list", data:=.seq aN.toArray n }/\xs.length<=sizeLine:=by
 obtain ⟨z,aN,n,r,e⟩:=I.bO p _ h;exact ⟨aN,n,r,e,z⟩
theorem Inv.Nd{pins:List (Addr × Obj)}{σ:St}{H:ar}{s:aM}{p:Addr}{xs a3:List V}{aN its':List Value}{n ui:Nat}{f:Obj->Obj}(I:Inv X pins σ H s)(h:H p=some (.lst xs))
 (bb:s.heap.get? p=some { cls:=.type "list", data:=.seq aN.toArray n }) (hf:f { cls:=.type "list", data:=.seq aN.toArray n }={ cls:=.type "list", data:=.seq its'.toArray ui }) (r:Vals a3 its') (hz:a3.length<=sizeLine) (t:Nat) :
 Inv X pins σ (upd H p (.lst a3)) { s with heap:=s.heap.update p f,toks:=t }:=by
 have e:(s.heap.update p f).get? p=some { cls:=.type "list", data:=.seq its'.toArray ui }:=by
  rw [Heap.get?_update_self f bb (by rw [hf]<;>rfl),hf]
 refine I.write (x:=p) (e:=p) (by rw [h];trivial) (.inl rfl) (λ b u ag q=>(Heap.get?_update_other _ _ (Ne.symm ag)).trans q) ⟨_,e⟩ ?_;exact ⟨hz,its',ui,r,e⟩
def Nf:V->V->V->ar->(ar->Prop)->Prop:=λ o i v H Q=>∃ p xs k j,o=.ref p/\i=.int k/\H p=some (.lst xs)/\kX xs.length k=some j/\Q (upd H p (.lst (xs.set j v)))
theorem z0:w_ X Nf:=by
 intro pins s σ H o i v cZ d7 u Q I fP gI bo h;obtain ⟨p,xs,k,j,rfl,rfl,aj,d4,q⟩:=h;cases fP;obtain ⟨t,rfl⟩:=gI;obtain ⟨aN,n,r,bb,hz⟩:=I.lst aj;obtain ⟨af,ao,aF,cn⟩:=Fn d4;have aP:=r.length;have bc:=oa
 have pj:Inv X pins σ (upd H p (.lst (xs.set j v))) { s with heap:=s.heap.update p (Obj.mapSeq (·.setIfInBounds j u)) }:=
  I.Nd aj bb (Nc aN n j u) (r.set bo j) (by rw [List.length_set];exact hz) s.toks
 by_cases h0:0<=k
 ·have aC:k.toNat=j:=by
   rw [seqIndex_of h0 cn] at af;exact gb.inj af
  exact PySem.W.ki_setAt bb h0 (by omega) (by rw [dG,<- aP];exact cn) (by rw [aC];exact ⟨_,pj,q⟩)
 ·have aC:(k+(aN.toArray.size:Int)).toNat=j:=by
   rw [seqIndex_neg (by omega) aF] at af;rw [dG,<- aP];exact gb.inj af
  exact PySem.W.ki_setBack bb (by omega) (by rw [dG,<- aP];exact aF) (by omega) (by rw [aC];exact ⟨_,pj,q⟩)
theorem Ng(lo aA:Option Int)(n:Nat):(qd lo aA none n).1=((d9.cJ n 0 lo:Nat):Int)/\(qd lo aA none n).2.1=((d9.cJ n n aA:Nat):Int)/\(qd lo aA none n).2.2=1:=by
 refine ⟨?_,?_,rfl⟩
 ·cases lo with
  | none=>simp [qd,d9.cJ]
  | some i=>
   simp only [qd,d9.cJ,Option.getD_none,show (1:Int) > 0 by decide,if_true];by_cases h:i < 0
   ·simp only [h,if_true]<;>omega
   ·simp only [h,if_false]<;>omega
 ·cases aA with
  | none=>simp [qd,d9.cJ]
  | some i=>
   simp only [qd,d9.cJ,Option.getD_none,show (1:Int) > 0 by decide,if_true];by_cases h:i < 0
   ·simp only [h,if_true]<;>omega
   ·simp only [h,if_false]<;>omega
theorem Nh(aN:List Value)(lo aA:Option Int):slicePick aN.toArray lo aA none=((aN.drop (d9.cJ aN.length 0 lo)).take (d9.cJ aN.length aN.length aA - d9.cJ aN.length 0 lo)).toArray:=by
 obtain ⟨af,ao,aF⟩:=Ng lo aA aN.toArray.size;unfold slicePick;rw [af,ao,aF];simp only [sliceRange_one,pick_run,dG]<;>rfl
def Ni(K:a6):V->Option Int->Option Int->ar->cm->Prop:=λ x lo aA H Q=>∃ a xs,x=.ref a/\fi K H a xs/\∀ p,H p=none->Q (.ref p) (upd H p (.lst (lC xs lo aA)))
theorem Nj:nj X (Ni X.K):=by
 intro pins s σ H x v gq gu lo aA b6 Q I bd aB pl pu h;obtain ⟨a,xs,rfl,aq,q⟩:=h;cases bd;obtain ⟨aN,r,bt,hz⟩:=I.list aq;have hlen:=r.length;refine ⟨"list", _,slot_list_getitem.lookup,bt.isList.typeIs,?_⟩;refine wpAny_getItem_list_slice bt.isList aB pl pu .none (by simp) ?_ (by rw [dG]<;>omega);rw [Nh,<- hlen];refine ⟨.ref s.heap.objs.size,_,I.laid (t':=s.toks) (o:=.lst (lC xs lo aA)) (λ b dq q=>du _ q) (b7 _) ?_,rfl,q _ (I.bO.fresh (b7 _))⟩;exact ⟨e5 (Fm xs lo aA) hz,_,0,(r.drop (d9.cJ xs.length 0 lo)).take (d9.cJ xs.length xs.length aA - d9.cJ xs.length 0 lo),gC _ rfl⟩
def nq:V->Bool
 | .br=>true
 | .aO _=>true
 | .int _=>true
 | .str _=>true
 | _=>false
def oe:V->V->Bool
 | .br,.br=>true
 | .aO a,.aO b=>a==b
 | .aO a,.int b=>(if a then 1 else 0)==b
 | .int a,.aO b=>a==(if b then 1 else 0)
 | .int a,.int b=>a==b
 | .str a,.str b=>a==b
 | _,_=>false
theorem Nk{A:d6}{s:aM}{y x:V}{u v:Value}(cb:RelV y u)(bd:RelV x v)(Nl:nq y=true)(gX:nq x=true):SeqAt.EqAt A s u v (oe y x):=by
 cases y with
 | br=>
  cases cb
  cases x with
  | br=>cases bd;exact SeqAt.EqAt.same _
  | aO b=>cases bd;exact SeqAt.EqAt.none_bool b
  | int b=>obtain ⟨t,rfl⟩:=bd;exact SeqAt.EqAt.none_int b t
  | str b=>obtain ⟨t,rfl⟩:=bd;exact SeqAt.EqAt.none_str b t
  | _=>exact absurd (show false=true from gX) iz
 | aO a=>
  cases cb
  cases x with
  | br=>cases bd;exact SeqAt.EqAt.bool_none a
  | aO b=>cases bd;exact SeqAt.EqAt.bool_bool a b
  | int b=>obtain ⟨t,rfl⟩:=bd;exact SeqAt.EqAt.bool_int a b t
  | str b=>obtain ⟨t,rfl⟩:=bd;exact SeqAt.EqAt.bool_str a b t
  | _=>exact absurd (show false=true from gX) iz
 | int a=>
  obtain ⟨t',rfl⟩:=cb
  cases x with
  | br=>cases bd;exact SeqAt.EqAt.int_none a t'
  | aO b=>cases bd;exact SeqAt.EqAt.int_bool a t' b
  | int b=>obtain ⟨t,rfl⟩:=bd;exact SeqAt.EqAt.int_int a t' b t
  | str b=>obtain ⟨t,rfl⟩:=bd;exact SeqAt.EqAt.int_str a t' b t
  | _=>exact absurd (show false=true from gX) iz
 | str a=>
  obtain ⟨t',rfl⟩:=cb
  cases x with
  | br=>cases bd;exact SeqAt.EqAt.str_none a t'
  | aO b=>cases bd;exact SeqAt.EqAt.str_bool a t' b
  | int b=>obtain ⟨t,rfl⟩:=bd;exact SeqAt.EqAt.str_int a t' b t
  | str b=>obtain ⟨t,rfl⟩:=bd;exact SeqAt.EqAt.str_str a t' b t
  | _=>exact absurd (show false=true from gX) iz
 | _=>exact absurd (show false=true from Nl) iz
def og(x:V)(u:Value):Bool:=match u with
 | .none=>oe .br x
 | .bool b=>oe (.aO b) x
 | .int i _=>oe (.int i) x
 | .str z _=>oe (.str z) x
 | _=>false
theorem Ft{x y:V}{u:Value}(r:RelV y u)(f:nq y=true):og x u=oe y x:=by
 cases y with
 | br=>cases r;rfl
 | aO b=>cases r;rfl
 | int i=>obtain ⟨t,rfl⟩:=r;rfl
 | str z=>obtain ⟨t,rfl⟩:=r;rfl
 | _=>exact absurd (show false=true from f) iz
theorem z1{x:V}:∀{xs:List V}{us:List Value},Vals xs us->xs.all nq=true->us.any (og x)=xs.any λ y=>oe y x
 | _,_,.nil,_=>rfl
 | y::xs,u::us,.cons r t,f=>by
  rw [j5,g7] at f;rw [qm,qm,Ft r f.1,z1 t f.2]
theorem z2{A:d6}{s:aM}{x:V}{v:Value}(bd:RelV x v)(gX:nq x=true):∀{xs:List V}{us:List Value},Vals xs us->xs.all nq=true->∀ u∈us,SeqAt.EqAt A s u v (og x u)
 | _,_,.nil,_=>λ u bx=>by cases bx
 | y::xs,u::us,.cons r t,f=>λ sB bx=>by
  rw [j5,g7] at f;rcases ea.mp bx with rfl | bx
  ·rw [Ft r f.1];exact Nk r bd f.1 gX
  ·exact z2 bd gX t f.2 sB bx
def xy(x:V)(xs:List V):Bool:=xs.any λ y=>oe y x
def Nm(K:a6)(neg:Bool):fv:=λ x y H Q=>∃ p xs,y=.ref p/\(fi K H p xs\/dD K H p xs)/\nq x=true/\xs.all nq=true/\Q (.aO (if neg then !xy x xs else xy x xs)) H
theorem Nn:eo X (eP .In) (Nm X.K false):=by
 intro pins s σ H x y v u Q I bd cb h;obtain ⟨p,xs,rfl,bn,gX,fs,q⟩:=h;cases cb;rcases bn with bn | bn
 ·obtain ⟨aN,r,pl,hz⟩:=I.list bn;refine SeqAt.in_listAt (og x) pl.isList (λ w hw=>z2 bd gX r fs w (by simpa using hw)) ⟨.aO _,H,I,rfl,?_⟩;rw [show aN.toArray.any (og x)=aN.any (og x) by simp,z1 r fs];exact q
 ·obtain ⟨aN,r,pl,hz⟩:=I.tuple bn;refine SeqAt.in_tupleAt (og x) pl (λ w hw=>z2 bd gX r fs w (by simpa using hw)) ⟨.aO _,H,I,rfl,?_⟩;rw [show aN.toArray.any (og x)=aN.any (og x) by simp,z1 r fs];exact q
theorem No:kU X (.builtin "len") (λ xs H Q=>∃ p a3,xs=[.ref p]/\(fi X.K H p a3\/dD X.K H p a3)/\Q (.int a3.length) H):=by
 intro pins s σ H xs us Q I r h;obtain ⟨p,a3,rfl,bn,q⟩:=h;obtain ⟨u,rfl,bd⟩:=uu r;cases bd;have bc:=oa;rcases bn with bn | bn
 ·obtain ⟨aN,dS,pl,hz⟩:=I.list bn;have hlen:=dS.length;exact Calls.call_len_list pl.isList (by simp only [dG]<;>omega) ⟨.int a3.length,H,I.tok _,⟨s.toks+1,by rw [dG,hlen]⟩,q⟩
 ·obtain ⟨aN,dS,pl,hz⟩:=I.tuple bn;have hlen:=dS.length;exact len_tuple pl (by simp only [dG]<;>omega) ⟨.int a3.length,H,I.tok _,⟨s.toks+1,by rw [dG,hlen]⟩,q⟩
theorem Np:kU X (.builtin "len") (λ xs H Q=>∃ z,xs=[.str z]/\z.length<=sizeLine/\Q (.int z.length) H):=by
 intro pins s σ H xs us Q I r h;obtain ⟨z,rfl,hz,q⟩:=h;obtain ⟨u,rfl,t,rfl⟩:=uu r;have bc:=oa;exact len_str (by omega) ⟨.int z.length,H,I.tok _,⟨_,rfl⟩,q⟩
theorem kU.or{f:Value}{r dS:List V->ar->cm->Prop}(h:kU X f r)(h':kU X f dS):kU X f (λ xs H Q=>r xs H Q\/dS xs H Q):=by
 intro pins s σ H xs us Q I rs q;rcases q with q | q
 ·exact h pins s σ H xs us Q I rs q
 ·exact h' pins s σ H xs us Q I rs q
theorem Nq:kU X (.type "tuple") (λ xs H Q=>∃ p a3,xs=[.ref p]/\((fi X.K H p a3/\∀ l,H l=none->Q (.ref l) (upd H l (.tup a3)))\/(dD X.K H p a3/\Q (.ref p) H))):=by
 intro pins s σ H xs us Q I r h;obtain ⟨p,a3,rfl,h⟩:=h;obtain ⟨u,rfl,bd⟩:=uu r;cases bd;rcases h with ⟨bn,q⟩ | ⟨bn,q⟩
 ·obtain ⟨aN,dS,pl,hz⟩:=I.list bn;have hlen:=dS.length;refine call_tuple_list pl.isList (λ h' bS=>?_) (by simp only [dG]<;>omega);have aY:Inv X pins σ H { s with heap:=h' }:=I.kept (t':=s.toks) bS
  have ck:Inv X pins σ (upd H h'.objs.size (.tup a3)) { s with heap:=h'.push { cls:=.type "tuple", data:=.seq aN.toArray } }:=
   aY.laid (t':=s.toks) (λ b o e=>du _ e) (b7 _) (show fY X.prog X.w _ _ _ (.tup a3) from ⟨hz,aN,dS,IsTup.new _ _⟩)
  exact ⟨.ref h'.objs.size,_,ck,rfl,q _ (aY.bO.fresh (b7 _))⟩
 ·obtain ⟨aN,dS,pl,hz⟩:=I.tuple bn;exact call_tuple_same pl ⟨.ref p,H,I,rfl,q⟩
def uB(K:a6)(T:String)(x:V)(H:ar):Prop:=match x with
 | .str _=>T = "str"
 | .int _=>T = "int"
 | .ref p=>(T = "list"/\∃ xs,fi K H p xs)\/(T = "tuple"/\∃ o,K.lookup p=some o/\o.cls=.type "tuple"/\o.dict=none) ∨
  (T = "dict"/\((∃ kvs,H p=some (.eD kvs))\/∃ kvs,H p=some (.hx kvs)))\/(T = "set"/\∃ S n,H p=some (.set S n))
 | _=>False
theorem Fu{pins:List (Addr × Obj)}{σ:St}{H:ar}{s:aM}{T:String}{x:V}{v:Value}(I:Inv X pins σ H s)(r:RelV x v)(ty:uB X.K T x H) :
 s.TypeIs v T/\∀ a,v=.ref a->∃ dq,s.heap.get? a=some dq/\dq.dict=none:=by
 cases x with
 | str z=>
  obtain ⟨t,rfl⟩:=r;cases (show T = "str" from ty);exact ⟨typeIs_str s z t,λ _ e=>nomatch e⟩
 | int i=>
  obtain ⟨t,rfl⟩:=r;cases (show T = "int" from ty);exact ⟨typeIs_int s i t,λ _ e=>nomatch e⟩
 | ref p=>
  cases r;rcases ty with ⟨rfl,xs,bn⟩ | ⟨rfl,o,aC,aJ,hd⟩ | ⟨rfl,aC⟩ | ⟨rfl,S,n,aC⟩
  ·obtain ⟨aN,_,pl,_⟩:=I.list bn;refine ⟨pl.isList.typeIs,λ a e=>?_⟩;cases e;obtain ⟨o,n,e,c,hd,_⟩:=pl;exact ⟨o,e,hd⟩
  ·refine ⟨⟨o,I.eU p o aC,aJ⟩,λ a e=>?_⟩;cases e;exact ⟨o,I.eU _ o aC,hd⟩
  ·have z:∃ o,s.heap.get? p=some o/\o.ExactDict:=by
    rcases aC with ⟨kvs,aC⟩ | ⟨kvs,aC⟩
    ·obtain ⟨_,_,_,_,o,_,_,e,ex,_⟩:=I.bO p _ aC;exact ⟨o,e,ex⟩
    ·obtain ⟨_,_,_,_,o,_,_,e,ex,_⟩:=I.bO p _ aC;exact ⟨o,e,ex⟩
   obtain ⟨o,e,ex⟩:=z;refine ⟨⟨o,e,ex.1⟩,λ a aW=>?_⟩;cases aW;exact ⟨o,e,ex.2.1⟩
  ·obtain ⟨o,_,_,_,e,ex,_⟩:=I.bO p _ aC;refine ⟨⟨o,e,ex.1⟩,λ a aW=>?_⟩;cases aW;exact ⟨o,e,ex.2.1⟩
 | _=>exact False.elim ty
def Fv(K:a6)(T:String)(r:V->List V->ar->cm->Prop)(to:TE):TE:=λ σ H Q=>to σ H λ x H1=>uB K T x H1/\r x [] H1 Q
def Fw(K:a6)(T:String)(r:V->List V->ar->cm->Prop)(to:TE)(t:eZ):TE:=λ σ H Q=>to σ H λ x H1=>uB K T x H1/\t σ H1 λ xs aK=>r x xs aK Q
variable{o e:a8}{aw:List a8}{to:TE}{t:eZ}{name:Str}{apos e7:Pos}{T id:String}{r:V->List V->ar->cm->Prop}
theorem Nr(mf:sd T)(slot:Slot T name id)(mh:sl (.builtin id)=pure (.type "method_descriptor"))(hm:qL X id r)(bb:b1 X o to)
 (mi:mV o name X.env (eval o X.env)=eval o X.env:=by rfl) (mj:(apos.endLine==e7.line)=true:=by rfl):b1 X (.Call (.Attribute o name apos) [] [] e7) (Fv X.K T r to):=by
 intro pins s σ H Q I h;refine wpAny_Call_method0_late mi mj (bZ (bb pins s σ H _ I h) λ v s1 ⟨x,H1,aY,be,ty,aE⟩=>?_);obtain ⟨af,ao⟩:=Fu aY be ty;exact ⟨T,id,mf,slot,mh,af,ao,Calls.callWith_builtin rfl (PySem.evalArgs_none (hm pins s1 σ H1 x [] v [] Q aY be .nil aE))⟩
theorem Nt(mf:sd T)(slot:Slot T name id)(mh:sl (.builtin id)=pure (.type "method_descriptor"))(hm:qL X id r)(bb:b1 X o to)(au:hQ X (e::aw) t)
 (mi:mV o name X.env (eval o X.env)=eval o X.env:=by rfl)
 (Nu:((gj e7 (dp (e::aw) X.env)).all (λ x=>!x.1)&&(o2 e7 (o1 [] X.env)).all (λ x=>x.1.isSome)
  &&decide ((e::aw).length+([]:List Keyword).length+(if ([]:List Keyword).isEmpty then 0 else 1) < 30))=true:=by rfl)
 (mj:(apos.endLine==e7.line)=true:=by rfl) (aB:dp (e::aw) X.env=(false,eval e X.env)::dp aw X.env:=by rfl) (Nv:(gj e7 (dp aw X.env)).any (·.1)=false:=by rfl) :
 b1 X (.Call (.Attribute o name apos) (e::aw) [] e7) (Fw X.K T r to t):=by
 intro pins s σ H Q I h;refine wpAny_Call_method_late mi Nu mj rfl (bZ (bb pins s σ H _ I h) λ v s1 ⟨x,H1,aY,be,ty,aE⟩=>?_);obtain ⟨af,ao⟩:=Fu aY be ty;refine ⟨T,id,mf,slot,mh,af,ao,?_⟩;have Fx:=au e7 pins s1 σ H1 _ aY aE;rw [aB] at Fx ⊢;refine Calls.callWith_builtin (by show (false||(gj e7 (dp aw X.env)).any (·.1))=false;rw [Nv]<;>rfl) (Calls.evalArgs_plain ?_);exact bZ Fx λ us s2 ⟨vs,aK,ck,bB,bu⟩=>hm pins s2 σ aK x vs v us Q ck be bB bu
end
def xA(X:a4)(id:String)(r:V->List V->ar->cm->Prop):Prop:=
 ∀(pins:List (Addr × Obj))(s:aM)(σ:St)(H:ar)(x:V)(xs:List V)(v:Value)(us:List Value)(Q:cm),Inv X pins σ H s->RelV x v->Vals xs us->r x xs H Q →
  bz (bA X.prog X.w) X.A (call (.builtin id) (v::us)) (gn X pins σ Q) X.xe s
theorem Vals.one:∀{x:V}{us:List Value},Vals [x] us->∃ u,us=[u]/\RelV x u
 | _,_,.cons r .nil=>⟨_,rfl,r⟩
theorem Vals.two:∀{x y:V}{us:List Value},Vals [x,y] us->∃ u v,us=[u,v]/\RelV x u/\RelV y v
 | _,_,_,.cons r (.cons q .nil)=>⟨_,_,rfl,r,q⟩
theorem Vals.zero:∀{us:List Value},Vals [] us->us=[]
 | _,.nil=>rfl
theorem Vals.dropLast{xs:List V}{us:List Value}(h:Vals xs us):Vals xs.dropLast us.dropLast:=by
 induction h with
 | nil=>exact .nil
 | cons r t bL=>
  cases t with
  | nil=>exact .nil
  | cons q t'=>exact .cons r bL
theorem Nw{α:Type}(l:List α):l.eraseIdx (l.length - 1)=l.dropLast:=by
 induction l with
 | nil=>rfl
 | cons a r bL=>
  cases r with
  | nil=>rfl
  | cons b r=>
   have e:(a::b::r).length - 1=((b::r).length - 1)+1:=by
    have af:(a::b::r).length=r.length+2:=rfl;have ao:(b::r).length=r.length+1:=rfl;omega
   rw [e,List.eraseIdx_cons_succ,bL]
   all_goals rfl
section
variable{X:a4}{pins:List (Addr × Obj)}{σ:St}{H:ar}{s:aM}{l b:Addr}{xs a3 zs:List V}
theorem Inv.xB{aN its':List Value}{n:Nat}{f:Array Value->Array Value}{t':Nat}(I:Inv X pins σ H s)(iV:H l=some (.lst xs))
 (e:s.heap.get? l=some { cls:=.type "list", data:=.seq aN.toArray n }) (hf:f aN.toArray=its'.toArray) (bK:Vals a3 its') (hz:a3.length<=sizeLine) :
 Inv X pins σ (upd H l (.lst a3)) { s with heap:=s.heap.update l (Obj.mapSeq f),toks:=t' }:=by
 have q:=PySem.IsL.update e f;rw [hf] at q;refine I.write (x:=l) (e:=l) (by rw [iV];exact trivial) (.inl rfl) (λ dO u ag bx=>(Heap.get?_update_other s.heap (Obj.mapSeq f) (Ne.symm ag)).trans bx) ⟨_,q⟩ ?_;exact ⟨hz,its',_,bK,q⟩
theorem Inv.Nx{aN:List Value}{t':Nat}(I:Inv X pins σ H s)(bK:Vals a3 aN)(hz:a3.length<=sizeLine) :
 Inv X pins σ (upd H s.heap.objs.size (.lst a3)) { s with heap:=s.heap.push { cls:=.type "list", data:=.seq aN.toArray },toks:=t' }:=
 I.laid (λ _ _ q=>du _ q) (b7 _) ⟨hz,aN,0,bK,gC _ rfl⟩
theorem Inv.fresh(I:Inv X pins σ H s):H s.heap.objs.size=none:=I.bO.fresh (b7 _)
theorem Inv.qM(I:Inv X pins σ H s)(iV:H l=some (.lst xs)):xs.length<=sizeLine/\∃(aN:List Value)(n:Nat),Vals xs aN/\xs.length=aN.length/\s.heap.get? l=some { cls:=.type "list", data:=.seq aN.toArray n }:=by
 obtain ⟨z,aN,n,r,e⟩:=I.bO l _ iV;exact ⟨z,aN,n,r,r.length,e⟩
theorem Fy{n:Nat}(h:n<=sizeLine):Builtin.List.listTooLong n=false:=by
 unfold Builtin.List.listTooLong;exact decide_eq_false (by omega)
end
section
variable{X:a4}
def Ny:V->List V->ar->cm->Prop:=λ x vs H Q=>∃ l xs y,x=.ref l/\vs=[y]/\H l=some (.lst xs)/\xs.length < sizeLine/\Q .br (upd H l (.lst (xs++[y])))
theorem uC:xA X "list.append" Ny:=by
 intro pins s σ H x vs v us Q I bd bo h;obtain ⟨l,xs,y,rfl,rfl,iV,hz,q⟩:=h;cases bd;obtain ⟨u,rfl,dw⟩:=bo.one;obtain ⟨z,aN,n,r,aP,e⟩:=I.qM iV;refine wI F.slot_list_append ⟨_,e,rfl⟩ F.entry_list_append (F.args_list_append_2 _ _) (PySem.list_append l aN.toArray n u (by rw [dG];omega)) ⟨e,?_⟩;refine ⟨.br,_,I.xB (its':=aN++[u]) iV e (by simp) (r.append (.cons dw .nil)) ?_,rfl,q⟩;rw [hN,List.length_singleton];omega
def Nz:V->List V->ar->cm->Prop:=λ x vs H Q=>∃ l b xs zs,x=.ref l/\vs=[.ref b]/\H l=some (.lst xs)/\H b=some (.lst zs)/\xs.length+zs.length<=sizeLine/\Q .br (upd H l (.lst (xs++zs)))
theorem NA:xA X "list.extend" Nz:=by
 intro pins s σ H x vs v us Q I bd bo h;obtain ⟨l,b,xs,zs,rfl,rfl,iV,hS,hz,q⟩:=h;cases bd;obtain ⟨u,rfl,dw⟩:=bo.one;cases dw;obtain ⟨z,aN,n,r,aP,e⟩:=I.qM iV;obtain ⟨bU,dz,dx,bB,kY,aW⟩:=I.qM hS
 have eQ:aN.toArray.size+dz.toArray.size<=sizeLine:=by rw [dG,dG];omega
 have z3:¬ (!aN.toArray.isEmpty&&Builtin.List.listTooLong (aN.toArray.size+dz.toArray.size))=true:=by
  rw [Fy eQ,Bool.and_false];exact iz
 refine wI F.slot_list_extend ⟨_,e,rfl⟩ F.entry_list_extend (F.args_list_extend_2 _ _)
  (AutoSeq1.list_extend_list_list_0 l aN.toArray n b dz.toArray dx z3 (by rw [dG];omega) (by omega)) ⟨e,aW,?_⟩
 refine ⟨.br,_,I.xB (its':=aN++dz) iV e (by simp) (r.append bB) ?_,rfl,q⟩;rw [hN];omega
def NB:V->List V->ar->cm->Prop:=λ x vs H Q=>∃ l xs y,x=.ref l/\vs=[]/\H l=some (.lst xs)/\xs[xs.length - 1]?=some y/\Q y (upd H l (.lst xs.dropLast))
theorem NC:xA X "list.pop" NB:=by
 intro pins s σ H x vs v us Q I bd bo h;obtain ⟨l,xs,y,rfl,rfl,iV,aQ,q⟩:=h;cases bd;have ND:=bo.zero;subst ND;obtain ⟨z,aN,n,r,aP,e⟩:=I.qM iV;obtain ⟨u,bx,dw⟩:=r.get aQ
 have NE:aN.toArray[aN.toArray.size - 1]?=some u:=by
  show aN.toArray[aN.length - 1]?=some u;rw [<- Array.getElem?_toList,<- aP];exact bx
 refine wI F.slot_list_pop ⟨_,e,rfl⟩ F.entry_list_pop (F.args_list_pop_1 _) (MeetsSeq.list_pop_last l aN.toArray n u NE (by rw [dG];omega)) ⟨e,?_⟩;refine ⟨y,_,I.xB (its':=aN.dropLast) iV e ?_ r.dropLast ?_,dw,q⟩
 ·show aN.toArray.eraseIdxIfInBounds (aN.toArray.size - 1)=aN.dropLast.toArray;rw [dG,List.eraseIdxIfInBounds_toArray,Nw]
 ·rw [List.length_dropLast];omega
def NF:fv:=λ x y H Q=>∃ l b xs zs,x=.ref l/\y=.ref b/\H l=some (.lst xs)/\H b=some (.lst zs)/\xs.length+zs.length<=sizeLine/\∀ p,H p=none->Q (.ref p) (upd H p (.lst (xs++zs)))
theorem NG:eo X (hL .Add) NF:=by
 intro pins s σ H x y v u Q I bd cb h;obtain ⟨l,b,xs,zs,rfl,rfl,iV,hS,hz,q⟩:=h;cases bd;cases cb;obtain ⟨z,aN,n,r,aP,e⟩:=I.qM iV;obtain ⟨bU,dz,dx,bB,kY,aW⟩:=I.qM hS;refine PySem.P.add_list e aW ?_ (by rw [dG,dG];omega)
 have dJ:aN.toArray++dz.toArray=(aN++dz).toArray:=by simp
 rw [dJ];exact ⟨.ref _,_,I.Nx (t':=s.toks) (r.append bB) (by rw [hN];omega),rfl,q _ I.fresh⟩
end
end L2
namespace Fz
open PySem PySem.W PySem.Calls PyProof.Rows
theorem NH{P:Params}{h:b2}:∀(ns:List Int)(vs:List Value),WellAll P h vs (ns.map WData.int)->W1 vs ns:=by
 intro ns
 induction ns with
 | nil=>
  intro vs w;rw [l0] at w;cases w;exact .nil
 | cons n ns bL=>
  intro vs w;rw [eC] at w
  cases w with
  | cons a b=>
   cases a;exact .cons _ _ (bL _ b)
theorem NI{l:OpenLaw}{n:Nat}(bc:l.most=some n){P:Params}{h:b2}{args:List WData}{vals:List Value}
 (xC:l.row.toRowW.claim.pre args=true) (z4:WellAll P h vals args) :
 ∃ a vs ns,vals=[Value.ref a]/\args=[WData.list (ns.map WData.int)]/\h.get? a=some { cls:=.type "list", data:=.seq vs.toArray }/\W1 vs ns/\ns.length<=n:=by
 have NJ:WShape.hasAll [] args [.list .int]=true:=(pre_splitW xC).1;have aJ:l.pre.holds [] { args:=args }=true:=(pre_splitW xC).2;obtain ⟨d,r,rfl,af,ao⟩:=hasAllW_cons NJ;obtain rfl:=hasAllW_nil ao;obtain ⟨xs,rfl,aF⟩:=hasW_list af;obtain ⟨ns,rfl⟩:=items_int aF
 have hlen:ns.length<=n:=by
  unfold OpenLaw.pre at aJ
  have cn:(WTm.not (.lt (.lit (.int (n:Int))) (.len (.arg 0)))).holds [] { args:=[.list (ns.map .int)] }=true:=by
   have cn:=(holds_andW aJ).1;rw [bc] at cn;exact cn
  have d1:=condW_of cn (w_not (w_lt w_lit (w_len_list (w_arg rfl))));rw [b3] at d1;refine Nat.le_of_not_lt λ q=>?_
  have fC:(n:Int) < ((ns.length:Nat):Int):=by omega
  first
   | (rw [decide_eq_true fC] at d1;exact absurd d1 (by decide))
   | (simp at d1;omega)
 cases z4 with
 | cons dv eE=>
  cases eE
  cases dv with
  | list bb uD=>exact ⟨_,_,ns,rfl,rfl,bb,NH ns _ uD,hlen⟩
theorem NK(l:OpenLaw)(args:List WData):l.row.toRowW.claim.post args (.bool true) args=true:=
 postW_of (r:=l.row.toRowW) (X:=(true==true))
  (show WShape.has [] (.bool true) .bool=true by first | rfl | decide | simp [WShape.has,WShape.arms,WShape.armsAll])
  (show (WTm.eq .res (.lit (.bool true))).value [] { args:=args,res:=some (.bool true),after:=args }=some (.bool (true==true)) from w_eq_bool (w_res rfl) w_lit) rfl
theorem NL{l:OpenLaw}{n:Nat}{q:c8}{loose:List Str}{sI:(Str->Option Value)->b2->Prop}{nr:cG->b2->Prop}{d:DefRec}
 (bc:l.most=some n) (uE:d.params.defaults=[])
 (call:∀(w:cG)(s₀ dY:aM)(mg j_:Str->Option Value)(fa:Addr)(o:Obj)(pm cd doc:Value)(a:Addr)(vs:List Value)(ns:List Int),
  Ground q loose [] sI w s₀ mg j_ dY.heap->nr w dY.heap →
  dY.heap.get? fa=some o->o.data=.func (docDef d.name d.params d.body d.scope pm cd doc)->dY.heap.CodeRec cd d.name->mg d.name=some (.ref fa) →
  dY.heap.get? a=some { cls:=.type "list", data:=.seq vs.toArray }->W1 vs ns->ns.length<=n->dY.gens=#[] →
  mW (bA l.prog w) sj (.call (.ref fa) ⟨[.ref a],[]⟩) (λ r a9=>r=.ok (.ret (.bool true))/\OldK dY.heap a9.heap/\a9.os=dY.os/\o_ a9.gens) dY) :
 WalkO q loose sI nr l.row.toRowW d [] (λ f vs=>PySem.call f vs):=by
 intro w s₀ dY mg j_ G Y fa o pm cd doc xr ei bb hd g8 kg hmg a0 args vals as xC YX YY z4 YZ;obtain rfl:xr=.none:=Dflts.none kg uE;obtain rfl:ei=.none:=Dflts.noKw kg;obtain ⟨a,vs,ns,rfl,rfl,z5,hints,hlen⟩:=NI bc xC z4;refine enter_call (sb (call w s₀ dY mg j_ fa o pm cd doc a vs ns G Y bb (fd_plain hd) g8 hmg z5 hints hlen a0) λ r a9 bn=>?_);obtain ⟨rfl,ao,aF,cn⟩:=bn;exact ⟨.inl ⟨.bool true,.bool true,[],rfl,λ _=>rfl,.bool true,NK l _,λ _=>⟨List.Pairwise.nil,λ _ hm=>(nomatch hm)⟩⟩,ao,aF,cn⟩
end Fz
namespace L2
open PySem PySem.Spec PyProof.Rows
theorem FA:∀{vs:List Value}{ns:List Int},W1 vs ns->Vals (ns.map V.int) vs
 | _,_,.nil=>.nil
 | _,_,.cons n t h=>.cons ⟨t,rfl⟩ (FA h)
def kh(s:bE):wK:=match s with
 | .FunctionDef _ a _ _ _ _ _ _ _ _=>a
 | _=>{ posonlyargs:=[],args:=[],vararg:=none,kwonlyargs:=[],kw_defaults:=[],kwarg:=none,defaults:=[] }
def hC(s:bE):List bE:=match s with
 | .FunctionDef _ _ b _ _ _ _ _ _ _=>b
 | _=>[]
def cp(s:bE):e4:=match s with
 | .FunctionDef _ _ _ _ _ _ sc _ _ _=>sc
 | _=>{ kind:=.function,names:=[],isGenerator:=false,isCoroutine:=false }
abbrev cQ:pC:=λ _ _ _ _ _ _=>False
abbrev qN:h8:=λ _ _ _=>False
theorem xD{X:a4}:qH cQ X qN:=λ _ _ _ _ _ _ _ h=>h.elim
structure dL(K:a6)(x qual:Str)(st:bE)(f:Addr)(fd:gA):Prop where
 ex:∃(dX:Value)(dC:Option Addr)(ei doc pm:Value)(an:Option Addr)(bP ct:Value)(hB:Array (Option Value)),
  fd=lx x qual (kh st) (hC st) (cp st) .none ei doc pm an bP ct/\K.lookup f=some ⟨dX,dC,.func fd,hB⟩/\pf K bP qual=true
 bS:kN K (.ref f)=true
section
variable{P:c8}{w:cG}{K:a6}{mg:Str->Option Value}{base:b2}
theorem dL.ok{x qual:Str}{st:bE}{f:Addr}{fd:gA}{N ps:List Str}{k:Nat}{sp:gG}(F:dL K x qual st f fd)(S:d0 N ps (cp st))(len:∀ vs H Q E,sp vs H Q E->vs.length=ps.length)
 (kW:∀(bP:Value)(A:d6)(outer:List Env)(s:aM)(H:ar)(vs:List V)(Q:cm)(E:h8),eG k (A.deeper (mY qual (cp st) s.heap.objs.size f bP))->sp vs H Q E →
  ∃ t,jG (ob cQ P w K mg base N qual (cp st) f bP A outer s H E).pv (hC st) t/\t { nx:=λ _ ai=>Q .br ai,rt:=Q } (kf N vs) H):cO P w K mg base cQ (k+1) f fd ps sp:=by
 obtain ⟨dX,dC,ei,doc,pm,an,bP,ct,hB,rfl,lk,g8⟩:=F.ex;refine Fe lk g8 S len λ A outer s H vs Q E ap jg=>?_;obtain ⟨t,h,q⟩:=kW bP A outer s H vs Q E ap jg;exact ⟨t,h.pv,q⟩
theorem dL.binds{x qual:Str}{st:bE}{f:Addr}{fd:gA}{ps:List Str}(F:dL K x qual st f fd)
 (h:∀(ei doc pm:Value)(an:Option Addr)(bP ct:Value)(us:List Value),us.length=ps.length->bindArgs (lx x qual (kh st) (hC st) (cp st) .none ei doc pm an bP ct) ⟨us,[]⟩=pure (ps.zip us)):Binds K fd ps []:=by
 obtain ⟨dX,dC,ei,doc,pm,an,bP,ct,hB,rfl,lk,g8⟩:=F.ex;exact .all (h ei doc pm an bP ct)
theorem FB{x qual:Str}{st:bE}{f:Addr}{dX:Value}{dC an:Option Addr}{hB:Array (Option Value)}{ei doc pm bP ct:Value}(l:K.lookup f=some ⟨dX,dC,.func (lx x qual (kh st) (hC st) (cp st) .none ei doc pm an bP ct),hB⟩)
 (c:pf K bP qual=true) (k:kN K (.ref f)=true):dL K x qual st f (lx x qual (kh st) (hC st) (cp st) .none ei doc pm an bP ct):=⟨⟨dX,dC,ei,doc,pm,an,bP,ct,hB,rfl,l,c⟩,k⟩
end
def ml(H ai:ar):Prop:=∀ b o,H b=some o->ai b=some o
theorem ml.refl(H:ar):ml H H:=λ _ _ h=>h
def gJ(cells:List (Str × Addr)):List (Str × ls)->List (Str × Addr)->List (Str × Addr)
 | [],acc=>acc
 | (n,k)::r,acc=>gJ cells r (if k=.free then (n,(cells.lookup n).getD 0)::acc else acc)
theorem FC{α β:Type}{f:α->β->Sem (ForInStep β)}(g:β->α->β):∀(l:List α)(c:β),(∀ x∈l,∀ c,f x c=pure (.yield (g c x)))->forIn l c f=pure (l.foldl g c)
 | [],_,_=>rfl
 | x::l,c,h=>by
  rw [wR,h x f7,pure_bind];exact FC g l _ λ y aQ=>h y (h3 _ aQ)
theorem FD(cells:List (Str × Addr)):∀(names:List (Str × ls))(acc:List (Str × Addr)),
 names.foldl (λ c y=>if y.2=.free then (y.1,(cells.lookup y.1).getD 0)::c else c) acc=gJ cells names acc
 | [],_=>rfl
 | (n,k)::r,acc=>by
  rw [List.foldl_cons,gJ];exact FD cells r _
theorem xE{scope:e4}{env:Env}(h:∀ y∈scope.names,y.2=.free->∃ c,env.cells.lookup y.1=some c):wJ scope env=pure (gJ env.cells scope.names []):=by
 rw [<- FD];simp only [wJ];rw [FC (λ c y=>if y.2=.free then (y.1,(env.cells.lookup y.1).getD 0)::c else c) scope.names [] λ x aq c=>?_]
 ·rfl
 ·obtain ⟨n,k⟩:=x;by_cases aC:k=.free
  ·subst aC;obtain ⟨a,e⟩:=h _ aq rfl;have e':env.cells.lookup n=some a:=e;simp [cellOf,e']
  ·have ag:(k==NameKind.free)=false:=by simpa using aC
   simp [ag,aC]
theorem FE{cells:List (Str × Addr)}:∀(names:List (Str × ls))(acc:List (Str × Addr)),(∀ y∈names,y.2=.free->∃ c,cells.lookup y.1=some c)->(∀ x c,acc.lookup x=some c->cells.lookup x=some c) →
 ∀ x c,(gJ cells names acc).lookup x=some c->cells.lookup x=some c
 | [],_,_,au=>au
 | (n,k)::r,acc,h,au=>by
  rw [gJ];refine FE r _ (λ y aQ=>h y (h3 _ aQ)) λ x c e=>?_;by_cases aC:k=.free
  ·rw [if_pos aC] at e;obtain ⟨a,dJ⟩:=h (n,k) f7 aC;have xo:cells.lookup n=some a:=dJ;rw [l1] at e
   cases aq:x==n with
   | true=>
    rw [aq] at e;have aW:some ((cells.lookup n).getD 0)=some c:=e;rw [xo] at aW;have gm:a=c:=gb.inj aW;rw [eq_of_beq aq,xo,gm]
   | false=>
    rw [aq] at e;exact au x c e
  ·rw [if_neg aC] at e;exact au x c e
theorem FF{cells:List (Str × Addr)}{x:Str}:∀(names:List (Str × ls))(acc:List (Str × Addr)),(acc.lookup x).isSome=true->((gJ cells names acc).lookup x).isSome=true
 | [],_,h=>h
 | (n,k)::r,acc,h=>by
  rw [gJ];refine FF r _ ?_;by_cases aC:k=.free
  ·rw [if_pos aC,l1]
   cases aq:x==n with
   | true=>rfl
   | false=>exact h
  ·rw [if_neg aC];exact h
theorem z6{cells:List (Str × Addr)}{x:Str}:∀(names:List (Str × ls))(acc:List (Str × Addr)),(x,NameKind.free)∈names->((gJ cells names acc).lookup x).isSome=true
 | [],_,h=>nomatch h
 | (n,k)::r,acc,h=>by
  rw [gJ];rcases ea.mp h with e | h
  ·cases e;refine FF r _ ?_;rw [if_pos rfl,l1,beq_self_eq_true];rfl
  ·exact z6 r _ h
theorem FG{g:Str->ls->ls}{x:Str}:∀ names:List (Str × ls),(names.map λ y=>(y.1,g y.1 y.2)).lookup x=(names.lookup x).map (g x)
 | []=>rfl
 | (n,k)::r=>by
  rw [eC,l1,l1]
  cases aq:x==n with
  | true=>
   have e:=eq_of_beq aq;subst e;rfl
  | false=>exact FG r
theorem NM(scope:e4)(env:Env):(qi scope env).names=scope.names.map λ y=>(y.1,if (y.2==.free&&env.scope.kind==.function&&env.kindOf y.1==some .cell)=true then NameKind.cell else y.2):=by
 unfold qi;refine List.map_congr_left λ y _=>?_;obtain ⟨n,k⟩:=y;show (if (k==.free&&env.scope.kind==.function&&env.kindOf n==some .cell)=true then (n,NameKind.cell) else (n,k))=_;split<;>simp_all
theorem FH(scope:e4)(env:Env)(x:Str):(qi scope env).names.lookup x=(scope.names.lookup x).map λ k=>if (k==.free&&env.scope.kind==.function&&env.kindOf x==some .cell)=true then NameKind.cell else k:=by
 rw [NM];exact FG (g:=λ n k=>if (k==.free&&env.scope.kind==.function&&env.kindOf n==some .cell)=true then NameKind.cell else k) scope.names
def cX(X:a4)(scope:e4)(N':List Str)(C:Addr)(ex:List Addr)(s:aM)(H:ar):a4:=
 { X with N:=N',s₀:=s,H₀:=H,env:=kE scope (gJ X.env.cells scope.names []) C X.env,outer:=X.stack,stack:=X.stack,ex:=ex,fn:=λ _=>false,pn:=[],xe:=λ _ _=>False }
def nu(nt:Nat)(cap:List Nat)(σ:St):St:=mZ nt none++cap.map λ i=>(σ[i]?).join
structure fD(X:a4)(scope:e4)(N':List Str)(nt:Nat)(cap:List Nat):Prop where
 kind:scope.kind=.function
 pG:∀ y∈scope.names,y.2≠.cell
 locs:∀ y∈scope.names,y.2=.local->scope.names.lookup y.1=some .local
 frees:∀ y∈scope.names,y.2=.free->X.env.scope.names.lookup y.1=some .cell\/X.env.scope.names.lookup y.1=some .free
 len:N'.length=nt+cap.length
 NN:∀(j i:Nat)(x:Str),cap[j]?=some i->N'[nt+j]?=some x->X.N[i]?=some x/\scope.names.lookup x=some .free
section
variable{X:a4}{scope:e4}{N':List Str}{nt:Nat}{cap:List Nat}{pins:List (Addr × Obj)}{σ:St}{H:ar}{s:aM}
theorem fD.has(c:fD X scope N' nt cap)(ok:X.Ok):∀ y∈scope.names,y.2=.free->∃ a,X.env.cells.lookup y.1=some a:=λ y aQ aC=>ok.has y.1 (c.frees y aQ aC)
theorem fD.cells(c:fD X scope N' nt cap)(ok:X.Ok){x:Str}{a:Addr}(e:(gJ X.env.cells scope.names []).lookup x=some a):X.env.cells.lookup x=some a:=
 FE scope.names [] (c.has ok) (λ _ _ z=>by simp at z) x a e
theorem fD.NO(c:fD X scope N' nt cap){x:Str}(h:(qi scope X.env).names.lookup x=some .cell\/(qi scope X.env).names.lookup x=some .free):(x,NameKind.free)∈scope.names:=by
 rw [FH] at h
 cases q:scope.names.lookup x with
 | none=>rw [q] at h;simp at h
 | some k=>
  have hm:=m4 q;have oh:k≠.cell:=c.pG _ hm;rw [q] at h;by_cases aC:k=.free
  ·subst aC;exact hm
  ·have ag:(k==NameKind.free)=false:=by simpa using aC
   simp only [m3,ag,Bool.false_and,jc,if_false,gb.injEq] at h;rcases h with h | h
   ·exact absurd h oh
   ·exact absurd h aC
theorem Inv.comp(I:Inv X pins σ H s)(c:fD X scope N' nt cap){fp:List Addr}(hf:∀ b∈fp,h_ X pins H b)(ki:∀ b∈fp,b < s.heap.objs.size){h':b2}{m:Str->Option Value}{t':Nat}
 (aC:∀ b o,s.heap.get? b=some o->h'.get? b=some o) (bc:h'.Ns s.heap.objs.size m) :
 Inv (cX X scope N' s.heap.objs.size fp s H) [] (nu nt cap σ) H { s with heap:=h',toks:=t' }:=by
 have cl:=λ{x:Str} {a:Addr} (e:(gJ X.env.cells scope.names []).lookup x=some a)=>c.cells I.ok e
 have Y0:∀ x a,X.env.cells.lookup x=some a->a < s.heap.objs.size:=λ x a e=>by
  obtain ⟨v,q⟩:=I.cell x a e;exact q.lt
 refine ⟨⟨I.ok.mod,c.kind,I.ok.glob,I.ok.blt,b7 _,λ x y a az aW=>I.ok.inj x y a (cl az) (cl aW),λ x aq=>?_,λ x a aq=>absurd aq iz,I.ok.hd,I.ok.frames,.inl rfl,λ b ag=>⟨?_,λ x a e=>?_⟩,
  λ b o e=>I.bs b o e,e5 I.ok.lz I.aR,λ b o e ag=>?_,λ b ag NP=>?_,I.stack,λ b ag=>I.Eg b ag⟩,
  rfl,I.bare,fK.kept aC,⟨m,bc,λ i x v az aW gm=>?_⟩,λ x a e=>?_,I.bO.fresh (b7 _),λ x a e=>I.l4 x a (cl e),λ p aj=>absurd (show p∈([]:List (Addr × Obj)) from aj) (by simp),I.bO.kept aC,?_⟩
 ·exact wX.mp (z6 scope.names [] (c.NO aq))
 ·exact eY (ki b ag)
 ·exact (hf b ag).2.2.2.2.1 x a (cl e)
 ·obtain ⟨f0,f1,f2,dl,_⟩:=hf b ag;rcases dl with z | z
  ·exact I.ok.ud b o e z
  ·exact absurd (h7 (dW e) (e5 I.ok.lz z)) (n4 _)
 ·obtain ⟨f0,f1,f2,_⟩:=hf b ag;rcases ea.mp (I.pi b NP) with z | z
  ·exact f1 z
  ·exact f2 z
 .
  have qO:N'[i]?=some x:=az
  have aA:nt<=i:=by
   refine Nat.le_of_not_lt λ q=>?_;unfold nu at aW;rw [lZ (by simpa using q),sm,if_pos q] at aW;cases aW
  obtain ⟨j,rfl⟩:=Nat.exists_eq_add_of_le aA;unfold nu at aW;rw [n3 (by simp),t6,Nat.add_sub_cancel_left,gT] at aW
  cases q:cap[j]? with
  | none=>rw [q] at aW;cases aW
  | some k=>
   rw [q] at aW;have qP:(σ[k]?).join=some v:=gb.inj aW
   have sJ:σ[k]?=some (some v):=by
    cases z:σ[k]? with
    | none=>rw [z] at qP;cases qP
    | some jE=>rw [z] at qP;exact congrArg some qP
   obtain ⟨eV,dx⟩:=c.NN j k x q qO;have FI:=m4 dx;have xt:=c.frees _ FI rfl;obtain ⟨m0,_,aP⟩:=I.loc;obtain ⟨u,r,lk⟩:=aP k x v eV sJ (.inr xt);refine ⟨u,r,.inr ⟨?_,?_⟩⟩
   ·show (qi scope X.env).names.lookup x=some .cell\/(qi scope X.env).names.lookup x=some .free;rw [FH,dx]
    by_cases z:((NameKind.free==.free&&X.env.scope.kind==.function&&X.env.kindOf x==some .cell)=true)
    ·exact .inl (by rw [m3,if_pos z])
    ·exact .inr (by rw [m3,if_neg z])
   ·rcases lk with ⟨ec,_⟩ | ⟨_,a,e,z⟩
    ·have NQ:X.env.scope.names.lookup x=some .local:=ec;rcases xt with y | y<;>(rw [NQ] at y;cases y)
    ·obtain ⟨dT,dJ⟩:=wX.mp (z6 (cells:=X.env.cells) scope.names [] FI);have e':=cl dJ;rw [e] at e';cases e';obtain ⟨o,bb,hd⟩:=z;exact ⟨a,dJ,o,aC _ _ bb,hd⟩
 ·obtain ⟨v,o,bb,hd⟩:=I.cell x a (cl e);exact ⟨v,o,aC _ _ bb,hd⟩
 ·show (nu nt cap σ).length=N'.length;unfold nu;rw [hN,t6,b3,c.len]
theorem Inv.xF{C:Addr}{fp:List Addr}{σ':St}{ai:ar}{a9:aM}(I:Inv X pins σ H s)(mm:C=s.heap.objs.size)(hf:∀ b∈fp,h_ X pins H b){N':List Str}(J:Inv (cX X scope N' C fp s H) [] σ' ai a9) :
 ∃ m,a9.heap.Ns C m/\∀ h',Heap.SameBut C a9.heap h'->Inv X pins σ ai { a9 with heap:=h' }:=by
 subst mm;obtain ⟨m,bc,_⟩:=J.loc;refine ⟨m,bc,λ h' aB=>?_⟩;have ne:∀ b o,s.heap.get? b=some o->b≠s.heap.objs.size:=λ b o e=>eY (dW e);have B:=J.base;refine I.K3 (ch:=fp) J.os ⟨λ b o e n ag aq=>?_,λ b o e n ag aq=>?_,B.free,λ b o e aq=>?_,B.ly,B.j9,B.kP⟩ (λ b u e=>?_) J.bare λ b ag=>?_
 ·exact (aB.2 b (ne b o e)).trans (B.keep b o e n ag aq)
 ·obtain ⟨b6,q⟩:=B.slot b o e n ag aq;exact ⟨b6,(aB.2 b (ne b o e)).trans q⟩
 ·obtain ⟨dR,q⟩:=B.there b o e aq;exact ⟨dR,(aB.2 b (ne b o e)).trans q⟩
 ·have FJ:ai s.heap.objs.size=none:=J.free;refine (J.bO b u e).l3 (λ d jE hd q=>(aB.2 d ?_).trans q) (λ _ q=>q) λ _ _ q=>q;intro z;subst z;rcases hd with z | z
  ·rw [<- z,FJ] at e;cases e
  ·rw [FJ] at z;cases z
 ·obtain ⟨f0,f1,f2,dl,f4,hl⟩:=hf b ag;exact ⟨dl,f1,f4,hl⟩
end
def uF(cT:TI)(g:fZ)(aX:TE)(nt:Nat)(cap:List Nat):TE:=λ σ H Q=>cT σ H λ J H1=>∀ acc,H1 acc=none →
 ∃ W:Nat->Nat->List V->St->ar->Prop,(∃ m,W 0 m [] (nu nt cap σ) (upd H1 acc (.lst [])))/\∀ i m a3 σ' ai,W i m a3 σ' ai →
  (J.stop i ai/\Q (.ref acc) ai)\/(J.go i ai/\∀ x aK,J.pA i ai x aK->g x σ' aK λ σ3 dE=>aX σ3 dE λ y jf=>
   jf acc=some (.lst a3)/\a3.length < sizeLine/\∃ cu,cu < m/\W (i+1) cu (a3++[y]) σ3 (upd jf acc (.lst (a3++[y]))))
def uG(cT:TI)(g:fZ)(bf:TT)(aX:TE)(nt:Nat)(cap:List Nat):TE:=λ σ H Q=>cT σ H λ J H1=>∀ acc,H1 acc=none →
 ∃ W:Nat->Nat->List V->St->ar->Prop,(∃ m,W 0 m [] (nu nt cap σ) (upd H1 acc (.lst [])))/\∀ i m a3 σ' ai,W i m a3 σ' ai →
  (J.stop i ai/\Q (.ref acc) ai)\/(J.go i ai/\∀ x aK,J.pA i ai x aK->g x σ' aK λ σ3 dE=>bf σ3 dE λ b fL=>if b=true then aX σ3 fL λ y jf=>
   jf acc=some (.lst a3)/\a3.length < sizeLine/\∃ cu,cu < m/\W (i+1) cu (a3++[y]) σ3 (upd jf acc (.lst (a3++[y])))
   else ∃ cu,cu < m/\W (i+1) cu a3 σ3 fL)
theorem NR(elt target iter c:a8)(scope:e4)(pos:Pos)(it acc:Value)(env:Env) :
 sg (.ListComp elt [⟨target,iter,[c],0⟩] scope pos) 0 it acc env=(kF iter.pos >>= λ _=>o4 it >>= λ r=>match r with
  | none=>pure (.done .next)
  | some v=>tV target it v >>= λ _=>hj target env v >>= λ _=>(forIn [c] true λ c r=>if r=true then do let ok ← n0 c env (eval c env);pure (ForInStep.yield ok) else pure (ForInStep.yield r)) >>= λ ok=>
   if ok=true then (eval elt env >>= λ x=>call (.builtin "list.append") [acc,x] >>= λ _=>pure ()) >>= λ _=>g6 (.compLoop (.ListComp elt [⟨target,iter,[c],0⟩] scope pos) 0 it acc env)
   else g6 (.compLoop (.ListComp elt [⟨target,iter,[c],0⟩] scope pos) 0 it acc env)):=by
 rfl
theorem NS(c:a8)(env:Env):(forIn [c] true λ c r=>if r=true then do let ok ← n0 c env (eval c env);pure (ForInStep.yield ok) else pure (ForInStep.yield r))=n0 c env (eval c env):=by
 rw [wR,if_pos rfl];simp only [bind_assoc,pure_bind,List.forIn_nil,bind_pure]
theorem FK(elt target iter c:a8)(scope:e4)(pos:Pos)(it acc:Value)(env:Env) :
 sg (.ListComp elt [⟨target,iter,[c],0⟩] scope pos) 0 it acc env=(kF iter.pos >>= λ _=>o4 it >>= λ r=>match r with
  | none=>pure (.done .next)
  | some v=>tV target it v >>= λ _=>hj target env v >>= λ _=>n0 c env (eval c env) >>= λ ok=>
   if ok=true then (eval elt env >>= λ x=>call (.builtin "list.append") [acc,x] >>= λ _=>pure ()) >>= λ _=>g6 (.compLoop (.ListComp elt [⟨target,iter,[c],0⟩] scope pos) 0 it acc env)
   else g6 (.compLoop (.ListComp elt [⟨target,iter,[c],0⟩] scope pos) 0 it acc env)):=by
 rw [NR,NS]
section
variable{X:a4}{scope:e4}{N':List Str}{nt:Nat}{cap:List Nat}{elt iter bj:a8}{pos:Pos}{cT:TI}{g:fZ}{aX:TE}
theorem NT(aJ:X.calm=true)(c:fD X scope N' nt cap)(aA:mc X bj iter cT)(a0:∀ C ex s H,l_ (cX X scope N' C ex s H) bj g)(he:∀ C ex s H,b1 (cX X scope N' C ex s H) elt aX)
 (aB:∀ x,jy iter X.env x=pure x:=by intro _;rfl):b1 X (.ListComp elt [⟨bj,iter,[],0⟩] scope pos) (uF cT g aX nt cap):=by
 intro pins s σ H Q I h;rw [eval_ListComp];refine wx (use:=none) rfl aB (xE (c.has I.ok)) c.kind c.locs (bZ (aA pins s σ H _ I h) λ v s1 af=>bZ af λ sF s2 ao=>?_);obtain ⟨it,fp,fM,J,aK,rfl,ck,T,kR,f2,R⟩:=ao;have kg:aK s2.heap.objs.size=none:=ck.bO.fresh (b7 _);obtain ⟨W,⟨m0,iT⟩,turn⟩:=R _ kg
 have c7:Inv X pins σ (upd aK s2.heap.objs.size (.lst [])) { s2 with heap:=s2.heap.push { cls:=.type "list", dict:=none,data:=.seq ([]:List Value).toArray } }:=
  ck.laid (t':=s2.toks) (λ b u e=>du _ e) (b7 _) ⟨f9 _,[],0,.nil,gC _ rfl⟩
 have ig:∀ b∈fp,b < s2.heap.objs.size:=λ b ag=>by
  obtain ⟨o,e,_⟩:=T.obj _ _ kR b ag;exact dW e
 have dl:∀ b∈fp,h_ X pins (upd aK s2.heap.objs.size (.lst [])) b:=λ b ag=>⟨by rw [cH (eY (ig b ag))];exact (f2 b ag).1,(f2 b ag).2⟩
 have ke:fM 0 (s2.heap.push { cls:=.type "list", dict:=none,data:=.seq ([]:List Value).toArray }):=T.keep _ _ _ kR λ b _ o e=>du _ e;generalize mn:s2.heap.push { cls:=.type "list", dict:=none,data:=.seq ([]:List Value).toArray }=aF at c7 ke
 have jJ:s2.heap.objs.size < aF.objs.size:=by rw [<- mn,m6];exact n5 _
 generalize qQ:s2.heap.objs.size=D at c7 dl kg iT turn jJ ig;refine lp ?_;rw [qQ,mn];refine wz c.pG (by intro y aQ;simp at aQ) (λ cn mq mr=>?_) c.kind
 dsimp only at mq mr ⊢
 have mt:∀ b o,aF.get? b=some o->cn.get? b=some o:=λ b o e=>(mr.2 b (eY (dW e))).trans (du _ e);have hA:=c7.comp (t':=s2.toks+([]:List (Str × Value)).length) c dl (λ b ag=>m2 (ig b ag) jJ) mt mq;have mu:fM 0 cn:=T.keep _ _ _ ke λ b _ o e=>mt b o e
 dsimp only at hA
 have fin:∀{σ':St}{ai:ar}{a9:aM},Inv (cX X scope N' aF.objs.size fp { s2 with heap:=aF } (upd aK D (.lst []))) [] σ' ai a9->Q (.ref D) ai →
  o3 (bA X.prog X.w) X.A X.xe none (gn X pins σ Q) (.ref D) aF.objs.size (.ok .next) a9:=λ{σ' ai a9} oi q=>by
  obtain ⟨m,bc,gF⟩:=c7.xF rfl dl oi;exact ⟨m,bc,λ h' qR=>⟨.ref D,ai,gF h' qR,rfl,q⟩⟩
 have ib:∀{ai:ar},(∀ b∈fp,ai b=none)->∀ b∈fp,h_ (cX X scope N' aF.objs.size fp { s2 with heap:=aF } (upd aK D (.lst []))) [] ai b:=λ{ai} bc b ag=>by
  refine ⟨bc b ag,eY (m2 (ig b ag) jJ),λ z=>?_,.inl ag,λ x a e=>(dl b ag).2.2.2.2.1 x a (c.cells I.ok e),λ p aj=>absurd (show p∈([]:List (Addr × Obj)) from aj) (by simp)⟩;rcases ea.mp (I.pi b z) with y | y
  ·exact (dl b ag).2.1 y
  ·exact (dl b ag).2.2.1 y
 have loop:mW (bA X.prog X.w) X.A (.compLoop (.ListComp elt [⟨bj,iter,[],0⟩] scope pos) 0 (.ref it) (.ref D) (kE scope (gJ X.env.cells scope.names []) aF.objs.size X.env))
  (o3 (bA X.prog X.w) X.A X.xe none (gn X pins σ Q) (.ref D) aF.objs.size) { s2 with heap:=cn,toks:=s2.toks+([]:List (Str × Value)).length }:=by
  refine wE rfl (λ n a9=>∃ i a3 σ' ai,Inv (cX X scope N' aF.objs.size fp { s2 with heap:=aF } (upd aK D (.lst []))) [] σ' ai a9/\fM i a9.heap/\(∀ b∈fp,ai b=none)/\W i n a3 σ' ai) (λ n s5 qS=>?_) m0 ⟨0,[],_,_,hA,mu,λ b ag=>(dl b ag).1,iT⟩;obtain ⟨i,a3,σ5,fL,hR,jI,kS,qT⟩:=qS;show bz _ X.A ((sg (.ListComp elt [⟨bj,iter,[],0⟩] scope pos) 0 (.ref it) (.ref D) (kE scope (gJ X.env.cells scope.names []) aF.objs.size X.env)).onRaise (λ x=>do wL x (kE scope (gJ X.env.cells scope.names []) aF.objs.size X.env);wC x)) _ _ s5;refine wG ?_;rw [compTurn_list1];rcases turn i n a3 σ5 fL qT with ⟨stop,md⟩ | ⟨go,step⟩
  ·refine aV (lq (aV (eX (T.done (cX X scope N' aF.objs.size fp { s2 with heap:=aF } (upd aK D (.lst []))) rfl rfl rfl aJ i [] s5 σ5 fL (λ _ _=>False) hR (ib kS) jI stop) (λ r gV ⟨ap,mb⟩=>?_) λ _ _ z=>z.elim)));subst ap;exact cz (fin mb md)
  ·refine aV (lq (aV (eX (T.item (cX X scope N' aF.objs.size fp { s2 with heap:=aF } (upd aK D (.lst []))) rfl rfl rfl aJ i [] s5 σ5 fL (λ _ _=>False) hR (ib kS) jI go) (λ r gV ⟨u,ap,iD⟩=>?_) λ _ _ z=>z.elim)));subst ap;refine aV (eX iD (λ _ kT ⟨x,gp,ic,n_,qU,ih,lD⟩=>?_) λ _ _ z=>z.elim);have qV:=ic.pinned (ib lD) (T.obj _ _ ih);refine aV (eX (a0 _ _ _ _ _ kT σ5 gp x u _ qV n_ (step x gp qU)) (λ _ qW ⟨σ8,qX,qY,qZ⟩=>?_) λ _ _ z=>z.elim);refine aV (aV (eX (he _ _ _ _ _ qW σ8 qX _ qY qZ) (λ q0 q1 ⟨y,oj,kZ,z7,om,uH,cu,mv,q2⟩=>?_) λ _ _ z=>z.elim))
   refine aV (eX (uC (X:=cX X scope N' aF.objs.size fp { s2 with heap:=aF } (upd aK D (.lst []))) _ q1 σ8 oj (.ref D) [y] (.ref D) [q0] (λ v mw=>v=.br/\mw=upd oj D (.lst (a3++[y]))) kZ rfl (.cons z7 .nil) ⟨D,a3,y,rfl,rfl,om,uH,rfl,rfl⟩)
    (λ _ z8 ⟨v10,mw,jK,_,_,q3⟩=>?_) λ _ _ z=>z.elim)
   subst q3;refine cz (cz ⟨rfl,cu,mv,i+1,a3++[y],σ8,_,jK.n9,?_,λ b ag=>?_,q2⟩)
   ·exact T.keep _ _ _ ih λ b ag o e=>(jK.pin (b,o) (eu _ (eu _ (kd ag e)))).1
   ·obtain ⟨o,e,d⟩:=T.obj _ _ ih b ag;exact (jK.pin (b,o) (eu _ (eu _ (kd ag e)))).2.1
 exact wy loop (T.self _ 0 _ _ _ mu loop)
end
structure Got(P:c8)(w:cG)(K:a6)(mg:Str->Option Value)(base:b2)(k:Nat)(x:Str)(ps:List Str)(sp:gG):Prop where
 ex:∃(f:Addr)(fd:gA),cO P w K mg base cQ k f fd ps sp/\mg x=some (.ref f)/\kN K (.ref f)=true/\Binds K fd ps []
section
variable{X:a4}{k j:Nat}{x:Str}{ps:List Str}{sp:gG}{p pos:Pos}{e:a8}{aw:List a8}{t:eZ}
theorem NU(G:Got X.prog X.w X.K X.mg X.base k x ps sp)(ap:eG j X.A)(aC:k<=j)(a0:eF X x)(au:hQ X (e::aw) t)(gd:(x==("__debug__" : Str))=false:=by decide)
 (he:dp (e::aw) X.env=(false,eval e X.env)::dp aw X.env:=by rfl) (iC:(gj pos (dp aw X.env)).any (·.1)=false:=by rfl) :
 b1 X (.Call (.Name x p) (e::aw) [] pos) (zW sp [] qN t):=by
 obtain ⟨f,fd,F,hm,bS,b⟩:=G.ex;exact MJ F (ap.mono aC) a0 hm bS b .nil xD au gd he iC
end
section
variable{X:a4}
theorem NV:eo X (hL .FloorDiv) (sG (λ _ j=>0 < j/\j < 2 ^ 64) λ i j=>.int (i / j)):=xi λ i j t u s E Q aJ q=>by
 have h0:j≠0:=by omega
 have af:j.natAbs.log2 < 9000:=by
  have az:j.natAbs < 2 ^ 64:=by omega
  exact m2 ((Nat.log2_lt (by omega)).mpr az) (by decide)
 have e:i.fdiv j=i / j:=Int.fdiv_eq_ediv_of_nonneg i (by omega);exact floordiv_int h0 (by rw [e];exact q) (.inl (PyProof.noPylong_of_log2 af))
theorem NW(l b:Addr)(items uI:Array Value)(n dx:Nat)(pD:Option Addr)(pE:Array (Option Value))(h0:¬(!items.isEmpty&&Builtin.List.listTooLong (items.size+uI.size))=true)(af:items.size<=sizeLine)(ao:items.size+uI.size<=sizeLine+1) :
 Meets (Builtin.«list.extend» ⟨[.ref l,.ref b],[]⟩) (λ _ R s=>s.heap.get? l=some { cls:=.type "list", dict:=none,data:=.seq items n,slots:=#[] } ∧
  s.heap.get? b=some { cls:=.type "tuple", dict:=pD,data:=.seq uI dx,slots:=pE }/\R (.ok (.ret Value.none)) { s with heap:=s.heap.update l (Obj.mapSeq λ x=>x++uI),toks:=s.toks }):=
 .of_wp λ prog w A R s h=>by
  obtain ⟨aj,g,d,tk,os⟩:=s;obtain ⟨aP,ag,h⟩:=h;have f1:=AutoSeq1.idx_int;have f2:=AutoSeq1.sub_tuple_tuple;have dl:=AutoSeq1.sub_list_list;have f4:=AutoSeq1.sub_tuple_list;have hl:=AutoSeq1.sub_list_tuple
  have xG:(items++uI).size<=sizeLine+1:=by rw [Array.size_append];exact ao
  wp_walk using (wpAny_updateSeq aP rfl (hz:=af) (_hz':=xG)),wpAny_loadPart' aP,wpAny_loadPart' ag
  exact ⟨_,rfl,h⟩
def NX(K:a6):V->List V->ar->cm->Prop:=λ x vs H Q=>∃ l b xs zs,x=.ref l/\vs=[.ref b]/\H l=some (.lst xs)/\dD K H b zs/\xs.length+zs.length<=sizeLine/\Q .br (upd H l (.lst (xs++zs)))
theorem NY:xA X "list.extend" (NX X.K):=by
 intro pins s σ H x vs v us Q I bd bo h;obtain ⟨l,b,xs,zs,rfl,rfl,iV,hS,hz,q⟩:=h;cases bd;obtain ⟨u,rfl,dw⟩:=bo.one;cases dw;obtain ⟨z,aN,n,r,aP,e⟩:=I.qM iV;obtain ⟨dz,bB,⟨⟨c2,pD,Y1,pE⟩,aW,pF,dx,hd2⟩,gv⟩:=I.tuple hS;simp only at pF hd2;subst pF hd2;have kY:=bB.length
 have eQ:aN.toArray.size+dz.toArray.size<=sizeLine:=by rw [dG,dG];omega
 have z3:¬ (!aN.toArray.isEmpty&&Builtin.List.listTooLong (aN.toArray.size+dz.toArray.size))=true:=by
  rw [Fy eQ,Bool.and_false];exact iz
 refine wI F.slot_list_extend ⟨_,e,rfl⟩ F.entry_list_extend (F.args_list_extend_2 _ _) (NW l b aN.toArray dz.toArray n dx pD pE z3 (by rw [dG];omega) (by omega)) ⟨e,aW,?_⟩;refine ⟨.br,_,I.xB (its':=aN++dz) iV e (by simp) (r.append bB) ?_,rfl,q⟩;rw [hN];omega
theorem NZ(aJ:X.calm=true):kU X (.builtin "sum") (λ xs H Q=>∃(p:Addr)(ns:List Int),xs=[.ref p]/\fi X.K H p (ns.map V.int)/\Q (.int ns.sum) H):=by
 intro pins s σ H xs us Q I r h;obtain ⟨p,ns,rfl,aj,iR⟩:=h;obtain ⟨u,rfl,dw⟩:=r.one;cases dw;obtain ⟨aN,bo,pl,_⟩:=I.list aj;have aA:=MZ bo;obtain ⟨N0,e⟩:=aA.allInts.items;have aP:=pl.isList;rw [e] at aP;refine PySem.sum_intListG (I.ok.hd aJ) aP λ h' tk t' aC=>?_;refine ⟨.int ns.sum,H,I.kept aC,⟨t',?_⟩,iR⟩;have aW:numsOf aN.toArray.toList=ns:=aA.numsOf;rw [e,PySem.nums_intItems] at aW;rw [PySem.preSum_eq,List.take_of_length_le (by simp),aW]
end
section
variable{X:a4}{scope:e4}{N':List Str}{nt:Nat}{cap:List Nat}{elt iter bj:a8}{pos:Pos}{cT:TI}{g:fZ}{aX:TE}
theorem N1{ct:a8}{bf:TT}(aJ:X.calm=true)(c:fD X scope N' nt cap)(aA:mc X bj iter cT)(a0:∀ C ex s H,l_ (cX X scope N' C ex s H) bj g)(bt:∀ C ex s H,jF (cX X scope N' C ex s H) ct bf)(he:∀ C ex s H,b1 (cX X scope N' C ex s H) elt aX)
 (aB:∀ x,jy iter X.env x=pure x:=by intro _;rfl):b1 X (.ListComp elt [⟨bj,iter,[ct],0⟩] scope pos) (uG cT g bf aX nt cap):=by
 intro pins s σ H Q I h;rw [eval_ListComp];refine wx (use:=none) rfl aB (xE (c.has I.ok)) c.kind c.locs (bZ (aA pins s σ H _ I h) λ v s1 af=>bZ af λ sF s2 ao=>?_);obtain ⟨it,fp,fM,J,aK,rfl,ck,T,kR,f2,R⟩:=ao;have kg:aK s2.heap.objs.size=none:=ck.bO.fresh (b7 _);obtain ⟨W,⟨m0,iT⟩,turn⟩:=R _ kg
 have c7:Inv X pins σ (upd aK s2.heap.objs.size (.lst [])) { s2 with heap:=s2.heap.push { cls:=.type "list", dict:=none,data:=.seq ([]:List Value).toArray } }:=
  ck.laid (t':=s2.toks) (λ b u e=>du _ e) (b7 _) ⟨f9 _,[],0,.nil,gC _ rfl⟩
 have ig:∀ b∈fp,b < s2.heap.objs.size:=λ b ag=>by
  obtain ⟨o,e,_⟩:=T.obj _ _ kR b ag;exact dW e
 have dl:∀ b∈fp,h_ X pins (upd aK s2.heap.objs.size (.lst [])) b:=λ b ag=>⟨by rw [cH (eY (ig b ag))];exact (f2 b ag).1,(f2 b ag).2⟩
 have ke:fM 0 (s2.heap.push { cls:=.type "list", dict:=none,data:=.seq ([]:List Value).toArray }):=T.keep _ _ _ kR λ b _ o e=>du _ e;generalize mn:s2.heap.push { cls:=.type "list", dict:=none,data:=.seq ([]:List Value).toArray }=aF at c7 ke
 have jJ:s2.heap.objs.size < aF.objs.size:=by rw [<- mn,m6];exact n5 _
 generalize qQ:s2.heap.objs.size=D at c7 dl kg iT turn jJ ig;refine lp ?_;rw [qQ,mn];refine wz c.pG (by intro y aQ;simp at aQ) (λ cn mq mr=>?_) c.kind
 dsimp only at mq mr ⊢
 have mt:∀ b o,aF.get? b=some o->cn.get? b=some o:=λ b o e=>(mr.2 b (eY (dW e))).trans (du _ e);have hA:=c7.comp (t':=s2.toks+([]:List (Str × Value)).length) c dl (λ b ag=>m2 (ig b ag) jJ) mt mq;have mu:fM 0 cn:=T.keep _ _ _ ke λ b _ o e=>mt b o e
 dsimp only at hA
 have fin:∀{σ':St}{ai:ar}{a9:aM},Inv (cX X scope N' aF.objs.size fp { s2 with heap:=aF } (upd aK D (.lst []))) [] σ' ai a9->Q (.ref D) ai →
  o3 (bA X.prog X.w) X.A X.xe none (gn X pins σ Q) (.ref D) aF.objs.size (.ok .next) a9:=λ{σ' ai a9} oi q=>by
  obtain ⟨m,bc,gF⟩:=c7.xF rfl dl oi;exact ⟨m,bc,λ h' qR=>⟨.ref D,ai,gF h' qR,rfl,q⟩⟩
 have ib:∀{ai:ar},(∀ b∈fp,ai b=none)->∀ b∈fp,h_ (cX X scope N' aF.objs.size fp { s2 with heap:=aF } (upd aK D (.lst []))) [] ai b:=λ{ai} bc b ag=>by
  refine ⟨bc b ag,eY (m2 (ig b ag) jJ),λ z=>?_,.inl ag,λ x a e=>(dl b ag).2.2.2.2.1 x a (c.cells I.ok e),λ p aj=>absurd (show p∈([]:List (Addr × Obj)) from aj) (by simp)⟩;rcases ea.mp (I.pi b z) with y | y
  ·exact (dl b ag).2.1 y
  ·exact (dl b ag).2.2.1 y
 have loop:mW (bA X.prog X.w) X.A (.compLoop (.ListComp elt [⟨bj,iter,[ct],0⟩] scope pos) 0 (.ref it) (.ref D) (kE scope (gJ X.env.cells scope.names []) aF.objs.size X.env))
  (o3 (bA X.prog X.w) X.A X.xe none (gn X pins σ Q) (.ref D) aF.objs.size) { s2 with heap:=cn,toks:=s2.toks+([]:List (Str × Value)).length }:=by
  refine wE rfl (λ n a9=>∃ i a3 σ' ai,Inv (cX X scope N' aF.objs.size fp { s2 with heap:=aF } (upd aK D (.lst []))) [] σ' ai a9/\fM i a9.heap/\(∀ b∈fp,ai b=none)/\W i n a3 σ' ai) (λ n s5 qS=>?_) m0 ⟨0,[],_,_,hA,mu,λ b ag=>(dl b ag).1,iT⟩;obtain ⟨i,a3,σ5,fL,hR,jI,kS,qT⟩:=qS;show bz _ X.A ((sg (.ListComp elt [⟨bj,iter,[ct],0⟩] scope pos) 0 (.ref it) (.ref D) (kE scope (gJ X.env.cells scope.names []) aF.objs.size X.env)).onRaise (λ x=>do wL x (kE scope (gJ X.env.cells scope.names []) aF.objs.size X.env);wC x)) _ _ s5;refine wG ?_;rw [FK];rcases turn i n a3 σ5 fL qT with ⟨stop,md⟩ | ⟨go,step⟩
  ·refine aV (lq (aV (eX (T.done (cX X scope N' aF.objs.size fp { s2 with heap:=aF } (upd aK D (.lst []))) rfl rfl rfl aJ i [] s5 σ5 fL (λ _ _=>False) hR (ib kS) jI stop) (λ r gV ⟨ap,mb⟩=>?_) λ _ _ z=>z.elim)));subst ap;exact cz (fin mb md)
  ·refine aV (lq (aV (eX (T.item (cX X scope N' aF.objs.size fp { s2 with heap:=aF } (upd aK D (.lst []))) rfl rfl rfl aJ i [] s5 σ5 fL (λ _ _=>False) hR (ib kS) jI go) (λ r gV ⟨u,ap,iD⟩=>?_) λ _ _ z=>z.elim)));subst ap;refine aV (eX iD (λ _ kT ⟨x,gp,ic,n_,qU,ih,lD⟩=>?_) λ _ _ z=>z.elim);have qV:=ic.pinned (ib lD) (T.obj _ _ ih);refine aV (eX (a0 _ _ _ _ _ kT σ5 gp x u _ qV n_ (step x gp qU)) (λ _ qW ⟨σ8,qX,qY,qZ⟩=>?_) λ _ _ z=>z.elim);refine aV (eX (bt _ _ _ _ _ qW σ8 qX _ qY qZ) (λ uJ q1 ⟨oj,kZ,on⟩=>?_) λ _ _ z=>z.elim)
   cases uJ with
   | true=>
    rw [if_pos rfl];rw [if_pos rfl] at on;refine aV (aV (eX (he _ _ _ _ _ q1 σ8 oj _ kZ on) (λ q0 z9 ⟨y,uK,z_,Aa,q4,Ab,cu,mv,Ac⟩=>?_) λ _ _ z=>z.elim))
    refine aV (eX (uC (X:=cX X scope N' aF.objs.size fp { s2 with heap:=aF } (upd aK D (.lst []))) _ z9 σ8 uK (.ref D) [y] (.ref D) [q0] (λ v mw=>v=.br/\mw=upd uK D (.lst (a3++[y]))) z_ rfl (.cons Aa .nil) ⟨D,a3,y,rfl,rfl,q4,Ab,rfl,rfl⟩)
     (λ _ z8 ⟨v10,mw,jK,_,_,q3⟩=>?_) λ _ _ z=>z.elim)
    subst q3;refine cz (cz ⟨rfl,cu,mv,i+1,a3++[y],σ8,_,jK.n9,?_,λ b ag=>?_,Ac⟩)
    ·exact T.keep _ _ _ ih λ b ag o e=>(jK.pin (b,o) (eu _ (eu _ (kd ag e)))).1
    ·obtain ⟨o,e,d⟩:=T.obj _ _ ih b ag;exact (jK.pin (b,o) (eu _ (eu _ (kd ag e)))).2.1
   | false=>
    rw [if_neg iz];rw [if_neg iz] at on;obtain ⟨cu,mv,q2⟩:=on;refine cz ⟨rfl,cu,mv,i+1,a3,σ8,_,kZ.n9,?_,λ b ag=>?_,q2⟩
    ·exact T.keep _ _ _ ih λ b ag o e=>(kZ.pin (b,o) (eu _ (eu _ (kd ag e)))).1
    ·obtain ⟨o,e,d⟩:=T.obj _ _ ih b ag;exact (kZ.pin (b,o) (eu _ (eu _ (kd ag e)))).2.1
 exact wy loop (T.self _ 0 _ _ _ mu loop)
end
def fj:a8->Bool
 | .Starred ..=>false
 | _=>true
theorem hD{e:a8}{aw:List a8}{env:Env}(h:fj e=true):dp (e::aw) env=(false,eval e env)::dp aw env:=by
 cases e<;>first | rfl | cases h
section
variable{κ:Type} [DecidableEq κ]
def gf(kvs:List (κ × V))(k:κ):Option V:=(kvs.find? λ cA=>decide (cA.1=k)).map (·.2)
def kj(kvs:List (κ × V))(k:κ)(v:V):List (κ × V):=
 if (kvs.any λ cA=>decide (cA.1=k))=true then kvs.map (λ cA=>if cA.1=k then (cA.1,v) else cA) else kvs++[(k,v)]
theorem lE{p:κ × V}{r:List (κ × V)}{k:κ}(e:p.1=k):gf (p::r) k=some p.2:=by simp [gf,kK,e]
theorem lF{p:κ × V}{r:List (κ × V)}{k:κ}(e:¬ p.1=k):gf (p::r) k=gf r k:=by simp [gf,kK,e]
theorem xH(k:κ):∀ kvs:List (κ × V),(kvs.any λ cA=>decide (cA.1=k))=(gf kvs k).isSome
 | []=>rfl
 | p::r=>by
  rw [qm];by_cases e:p.1=k
  ·simp only [lE e,decide_eq_true e,Bool.true_or,Option.isSome_some]
  ·rw [lF e,decide_eq_false e,Bool.false_or];exact xH k r
theorem FL(k j:κ)(y:V):∀ kvs:List (κ × V),gf (kvs.map λ cA=>if cA.1=k then (cA.1,y) else cA) j=(gf kvs j).map λ x=>if j=k then y else x
 | []=>rfl
 | p::r=>by
  have bL:=FL k j y r;rw [eC];by_cases h:p.1=k
  ·rw [if_pos h];by_cases e:p.1=j
   ·rw [lE (p:=(p.1,y)) e,lE e,m3,if_pos (e.symm.trans h)]
   ·rw [lF (p:=(p.1,y)) e,lF e,bL]
  ·rw [if_neg h];by_cases e:p.1=j
   ·rw [lE (p:=p) e,lE e,m3,if_neg (λ z=>h (e.trans z))]
   ·rw [lF (p:=p) e,lF e,bL]
theorem FM(k j:κ)(y:V):∀ kvs:List (κ × V),gf kvs k=none->gf (kvs++[(k,y)]) j=if j=k then some y else gf kvs j
 | [],_=>by
  by_cases e:k=j
  ·rw [if_pos e.symm];exact lE (p:=(k,y)) e
  ·rw [if_neg (λ z=>e z.symm)];exact lF (p:=(k,y)) e
 | p::r,bc=>by
  rw [wS]
  have aC:¬ p.1=k:=λ z=>by rw [lE z] at bc;cases bc
  rw [lF aC] at bc;have bL:=FM k j y r bc;by_cases e:p.1=j
  ·rw [lE e,lE e,if_neg (λ z=>aC (e.trans z))]
  ·rw [lF e,lF e,bL]
theorem N2(kvs:List (κ × V))(k j:κ)(y:V):gf (kj kvs k y) j=if j=k then some y else gf kvs j:=by
 unfold kj;by_cases a:(kvs.any λ cA=>decide (cA.1=k))=true
 ·rw [if_pos a,FL];rw [xH] at a;by_cases e:j=k
  ·obtain ⟨x,aq⟩:=wX.mp a;rw [if_pos e,e,aq,m3,if_pos rfl]
  ·rw [if_neg e]
   cases gf kvs j with
   | none=>rfl
   | some x=>rw [m3,if_neg e]
 ·rw [if_neg a];refine FM k j y kvs ?_;rw [xH] at a
  cases q:gf kvs k with
  | none=>rfl
  | some x=>rw [q] at a;exact (a rfl).elim
theorem N3(kvs:List (κ × V))(k:κ)(v:V):(kj kvs k v).length<=kvs.length+1:=by
 unfold kj;split
 ·rw [b3];omega
 ·rw [hN,eb,hu];omega
theorem N4{kvs:List (κ × V)}{k:κ}(v:V)(h:gf kvs k=none):kj kvs k v=kvs++[(k,v)]:=by
 unfold kj;rw [xH,h];exact if_neg (by decide)
theorem hv.N5{o:Option V}{u:Option Value}(r:hv o u):o.isSome=u.isSome:=by
 cases o with
 | none=>cases u with
  | none=>rfl
  | some _=>exact (show False from r).elim
 | some _=>cases u with
  | none=>exact (show False from r).elim
  | some _=>rfl
theorem hv.getD{o:Option V}{u:Option Value}{d:V}{d':Value}(r:hv o u)(nh:RelV d d'):RelV (o.getD d) (u.getD d'):=by
 cases o with
 | none=>cases u with
  | none=>exact nh
  | some _=>exact (show False from r).elim
 | some _=>cases u with
  | none=>exact (show False from r).elim
  | some _=>exact r
theorem gl.val{kvs:List (κ × V)}{vs:List (κ × Value)}(r:gl kvs vs)(k:κ):hv (gf kvs k) (qj vs k):=by
 unfold gl at r
 induction r with
 | nil=>exact True.intro
 | @cons p q ps aZ h t bL=>
  obtain ⟨af,ao⟩:=h;by_cases e:p.1=k
  ·have e':q.1=k:=af.symm.trans e
   have b:qj (q::aZ) k=some q.2:=by simp [qj,kK,e']
   rw [lE e,b];exact ao
  ·have e':¬ q.1=k:=λ z=>e (af.trans z)
   have b:qj (q::aZ) k=qj aZ k:=by simp [qj,kK,e']
   rw [lF e,b];exact bL
theorem gl.any{kvs:List (κ × V)}{vs:List (κ × Value)}(r:gl kvs vs)(k:κ):(kvs.any λ cA=>decide (cA.1=k))=vs.any λ cA=>decide (cA.1=k):=by
 unfold gl at r
 induction r with
 | nil=>rfl
 | cons h t bL=>rw [qm,qm,bL,h.1]
theorem gl.N6{kvs:List (κ × V)}{vs:List (κ × Value)}(r:gl kvs vs)(k:κ){y:V}{u:Value}(cb:RelV y u) :
 gl (kvs.map λ cA=>if cA.1=k then (cA.1,y) else cA) (vs.map λ cA=>if cA.1=k then (cA.1,u) else cA):=by
 unfold gl at r ⊢
 induction r with
 | nil=>exact .nil
 | @cons p q ps aZ h t bL=>
  rw [eC,eC];refine .cons ?_ bL;obtain ⟨af,ao⟩:=h;by_cases e:p.1=k
  ·rw [if_pos e,if_pos (af.symm.trans e)];exact ⟨af,cb⟩
  ·rw [if_neg e,if_neg (λ z=>e (af.trans z))];exact ⟨af,ao⟩
theorem gl.put{kvs:List (κ × V)}{vs:List (κ × Value)}(r:gl kvs vs)(k:κ){y:V}{u:Value}(cb:RelV y u):gl (kj kvs k y) (stored vs k u):=by
 unfold kj stored;rw [r.any k];by_cases e:(vs.any λ cA=>decide (cA.1=k))=true
 ·rw [if_pos e,if_pos e];exact r.N6 k cb
 ·rw [if_neg e,if_neg e];exact Paired.snoc r ⟨rfl,cb⟩
end
theorem Ad{P:c8}{w:cG}{k:Key}{u:Value}(r:RelV (ei k) u):(jC P w).is k u=true:=by
 cases k with
 | inl i=>obtain ⟨t,e⟩:=(show ∃ t,u=Value.int i t from r);subst e;exact KO P w i t
 | inr x=>obtain ⟨t,e⟩:=(show ∃ t,u=Value.str x t from r);subst e;exact KP P w x t
theorem FN{P:c8}{w:cG}:∀{ks:List Key}{us:List Value},Vals (ks.map ei) us->ItemsAre (jC P w) ks us
 | [],_,r=>by rw [l0] at r;cases r;exact .nil
 | k::ks,_,r=>by
  rw [eC] at r
  cases r with
  | cons h t=>exact .cons (Ad h) (FN t)
abbrev KT(H:ar):List (List Key × V)->List (List Key × Addr × Value)->Prop:=j4 λ p q=>p.1=q.1/\H q.2.1=some (.tup (p.1.map ei))/\RelV p.2 q.2.2
theorem KT.val{H:ar}{kvs:List (List Key × V)}{xs:List (List Key × Addr × Value)}(r:KT H kvs xs)(k:List Key):hv (gf kvs k) ((atKey xs k).map (·.2)):=by
 induction r with
 | nil=>exact True.intro
 | @cons p q ps aZ h t bL=>
  obtain ⟨af,_,ao⟩:=h;by_cases e:p.1=k
  ·have e':q.1=k:=af.symm.trans e
   have b:atKey (q::aZ) k=some q.2:=by simp [atKey,kK,e']
   rw [lE e,b];exact ao
  ·have e':¬ q.1=k:=λ z=>e (af.trans z)
   have b:atKey (q::aZ) k=atKey aZ k:=by simp [atKey,kK,e']
   rw [lF e,b];exact bL
section
variable{P:c8}{w:cG}{H:ar}{h:b2}{a:Addr}
theorem FO{u:gU}(ok:en P w H h)(e:j7 H a u):fY P w H h a u:=e.ok ok
theorem Ae{kvs:List (Key × V)}(ok:en P w H h)(e:j7 H a (.eD kvs)):kvs.length<=sizeLine/\(a==kD)=false/\∃ vs,gl kvs vs/\h.DictOf (jC P w) a vs:=
 show fY P w H h a (.eD kvs) from FO ok e
theorem N7{kvs:List (Key × V)}(ok:en P w H h)(e:H a=some (.eD kvs)):kvs.length<=sizeLine/\(a==kD)=false/\∃ vs,gl kvs vs/\h.DictOf (jC P w) a vs:=Ae ok (.inl e)
theorem FP{ks:List Key}(ok:en P w H h)(e:H a=some (.tup (ks.map ei))):(WP (jC P w)).is h ks a:=by
 obtain ⟨_,aN,r,o,af,ao,n,aF⟩:=(show fY P w H h a (.tup (ks.map ei)) from ok a _ e)
 exact ⟨o,aN.toArray,n,af,ao,aF,by simpa using FN r⟩
theorem FQ{kvs:List (List Key × V)}(ok:en P w H h)(e:j7 H a (.hx kvs)):kvs.length<=sizeLine/\(a==kD)=false ∧
 ∃ xs,KT H kvs xs/\h.DictOfH (WP (jC P w)) a xs:=by
 obtain ⟨z,y,xs,r,o,aw,fg,af,ao,aF,cn,d1⟩:=(show fY P w H h a (.hx kvs) from FO ok e)
 refine ⟨z,y,xs,r,o,aw,fg,af,ao,aF,cn,λ x aq=>?_,d1⟩
 have all:∀{l:List (List Key × V)}{m:List (List Key × Addr × Value)},KT H l m->∀ x∈m,(WP (jC P w)).is h x.1 x.2.1:=by
  intro l m q
  induction q with
  | nil=>intro x aq;exact nomatch aq
  | @cons p q ps aZ bn t bL=>
   intro x aq;rcases ea.mp aq with e | aq
   ·subst e;exact FP ok (by rw [<- bn.1];exact bn.2.1)
   ·exact bL x aq
 exact all r x aq
end
def sK(H:ar)(a:Addr)(y:V)(r:Option V):Prop:=
 (∃ kvs k,j7 H a (.eD kvs)/\y=ei k/\r=gf kvs k)\/∃ kvs k b,j7 H a (.hx kvs)/\y=.ref b/\H b=some (.tup (k.map ei))/\r=gf kvs k
theorem sK.k{H:ar}{a:Addr}{kvs:List (Key × V)}{k:Key}(e:H a=some (.eD kvs)):sK H a (ei k) (gf kvs k):=.inl ⟨kvs,k,.inl e,rfl,rfl⟩
section
variable{X:a4}{pins:List (Addr × Obj)}{σ:St}{H:ar}{s:aM}{a:Addr}{y v:V}{u r:Value}{o:Option V}{A:d6}{E:Value->aM->Prop}
theorem Inv.big(I:Inv X pins σ H s):kD < s.heap.objs.size:=by
 have h:eS < s.heap.objs.size:=(I.mod.glob.keeps I.bk).lt;exact m2 (by decide) h
theorem N8{Q:Value->aM->Prop}(bx:A.units+1 < fI)(I:Inv X pins σ H s)(g:sK H a y (some v))(cb:RelV y u)(h:∀ jE a9,Inv X pins σ H a9->RelV v jE->Q jE a9) :
 bz (bA X.prog X.w) A (lY (.ref a) u) Q E s:=by
 rcases g with ⟨kvs,k,e,q5,l⟩ | ⟨kvs,k,b,e,q5,g_,l⟩
 ·subst q5;obtain ⟨z,hd,vs,rel,jh⟩:=Ae I.bO e;obtain ⟨jE,hw,jH⟩:=hv.some_of (v:=v) (o:=qj vs k) (by rw [l];exact rel.val k);exact wpAny_getItem_of (Ad cb) jh.mapOf hw (h jE _ (I.tok _) jH)
 ·subst q5;cases (show u=Value.ref b from cb);obtain ⟨z,hd,xs,rel,jh⟩:=FQ I.bO e;obtain ⟨jE,hw,jH⟩:=hv.some_of (v:=v) (o:=(atKey xs k).map (·.2)) (by rw [l];exact rel.val k);obtain ⟨p,aj,Af⟩:=Option.map_eq_some_iff.mp hw;refine wpAny_getItem_heap (tupleKind_room_in1 bx) (FP I.bO g_) jh aj ?_;rw [Af];exact h jE _ (I.tok _) jH
theorem N9{h':b2}{t':Nat}{dq:gU}(I:Inv X pins σ H s)(j8:uc (H a))(aB:Heap.SameBut a s.heap h')(he:∃ q,h'.get? a=some q)(new:fY X.prog X.w (upd H a dq) h' a dq) :
 Inv X pins σ (upd H a dq) { s with heap:=h',toks:=t' }:=
 I.write (x:=a) (e:=a) j8 (.inl rfl) (λ b q ag z=>(aB.2 b ag).trans z) he new
theorem N_{P:c8}{w:cG}{ai:ar}{h':b2}{kvs:List (Key × V)}{vs:List (Key × Value)}(z:kvs.length<=sizeLine)(hd:(a==kD)=false)(rel:gl kvs vs)(jh:h'.DictOf (jC P w) a vs) :
 fY P w ai h' a (.eD kvs):=⟨z,hd,vs,rel,jh⟩
end
def uL(i:a8):Prop:=∀ cZ d7,wF i false cZ d7=operate [cZ,d7] (lY cZ d7)
theorem FR{prog:c8}{w:cG}{A:d6}{E:Value->aM->Prop}{s:aM}{env:Env}{value slice:a8}{pos:Pos}{T id:String}{Q:Value->aM->Prop}
 (aP:typeLookup (.type T) "__getitem__" = pure (some (.builtin id))) (aB:uL slice)
 (h:bz (bA prog w) A (eval value env) (λ o dY=>bz (bA prog w) A (eval slice env) (λ i pk=>pk.TypeIs o T/\bz (bA prog w) A (lY o i) Q E pk) E dY) E s) :
 bz (bA prog w) A (eval (.Subscript value slice pos) env) Q E s:=by
 refine Subscript_ (eX h (λ o dY h₁=>eX h₁ (λ i pk Ag=>?_) λ _ _ x=>x) λ _ _ x=>x);obtain ⟨dy,Ag⟩:=Ag;unfold zB;refine aV ?_;rw [getitemInPython_of_ne dy.not_modules];refine aV (zu dy aP ?_)
 have fin:bz (bA prog w) A (wF slice false o i) (λ r FS=>bz (bA prog w) A (letTemporaryGo value o r >>= λ _=>pure r) Q E FS) E pk:=by
  rw [aB o i];exact wpAny_operating (eX Ag (λ r FS Oa=>aV (wpAny_letTemporaryGo (cz Oa))) λ _ _ x=>x)
 first
  | exact cz (aV fin)
  | exact aV (cz (aV fin))
  | exact aV fin
theorem Ob{X:a4}{pins:List (Addr × Obj)}{σ:St}{H:ar}{s:aM}{a:Addr}{y:V}{o:Option V}(I:Inv X pins σ H s)(g:sK H a y o):s.TypeIs (.ref a) "dict":=by
 rcases g with ⟨kvs,k,e,_,_⟩ | ⟨kvs,k,b,e,_,_,_⟩
 ·obtain ⟨_,_,vs,_,jh⟩:=Ae I.bO e;exact jh.typeIs
 ·obtain ⟨_,_,xs,_,jh⟩:=FQ I.bO e;exact jh.typeIs
def Oc(ii ty:TE):TE:=λ σ H Q=>ii σ H λ x H1=>ty σ H1 λ y aK=>∃ a v,x=.ref a/\sK aK a y (some v)/\Q v aK
section
variable{X:a4}{o i e value:a8}{pos pos' ma:Pos}{ii ty fN:TE}
theorem Od(bx:X.A.units+1 < fI)(bb:b1 X o ii)(aA:b1 X i ty)(aB:uL i):b1 X (.Subscript o i pos) (Oc ii ty):=by
 intro pins s σ H Q I h;refine FR PySem.F.slot_dict_getitem.lookup aB (bZ (bb pins s σ H _ I h) λ u s1 ⟨x,H1,aY,bd,aE⟩=>bZ (aA pins s1 σ H1 _ aY aE) λ d7 s2 ⟨y,aK,ck,cb,a,v,ex,g,bu⟩=>?_);subst ex;obtain rfl:u=Value.ref a:=bd;exact ⟨Ob ck g,N8 bx ck g cb λ jE s3 c7 jH=>⟨v,aK,c7,jH,bu⟩⟩
end
theorem Oe{P:c8}{w:cG}{H:ar}(h:b2)(ag:kD < h.objs.size):fY P w H (h.push { cls:=.type "dict", data:=.dict #[] }) h.objs.size (.eD []):=
 ⟨f9 _,beq_eq_false_iff_ne.mpr (Ne.symm (eY ag)),[],.nil,Heap.DictOf.new h⟩
def xI:List (TE × TE)->St->ar->(List (V × V)->ar->Prop)->Prop
 | [],_,H,Q=>Q [] H
 | (tk,fN)::r,σ,H,Q=>tk σ H λ x H1=>fN σ H1 λ y aK=>xI r σ aK λ ps dE=>Q ((x,y)::ps) dE
abbrev FT:List (V × V)->List (Value × Value)->Prop:=j4 λ p q=>RelV p.1 q.1/\RelV p.2 q.2
def uM(X:a4)(pos:Pos)(keys:List (Option a8))(values:List a8)(kk:List (TE × TE)):Prop:=
 ∀(pins:List (Addr × Obj))(s:aM)(σ:St)(H:ar)(Q:List (V × V)->ar->Prop),Inv X pins σ H s->xI kk σ H Q →
  bz (bA X.prog X.w) X.A (evalPairs (pairTrees keys values X.env pos)) (λ vs a9=>∃ ps ai,Inv X pins σ ai a9/\FT ps vs/\Q ps ai) X.xe s
theorem Og{X:a4}{pos:Pos}:uM X pos [] [] []:=λ pins s σ H Q I h=>pairTrees_nil_walk ⟨[],H,I,.nil,h⟩
theorem Oh{X:a4}{pos:Pos}{k v:a8}{ks:List (Option a8)}{vs:List a8}{tk fN:TE}{kk:List (TE × TE)}(aC:b1 X k tk)(bK:b1 X v fN)(ap:uM X pos ks vs kk) :
 uM X pos (some k::ks) (v::vs) ((tk,fN)::kk):=λ pins s σ H Q I h=>
 pairTrees_cons_walk (bZ (aC pins s σ H _ I h) λ u s1 ⟨x,H1,aY,bd,aE⟩=>bZ (bK pins s1 σ H1 _ aY aE) λ eE s2 ⟨y,aK,ck,cb,bu⟩=>
  bZ (ap pins s2 σ aK _ ck bu) λ ws s3 ⟨ps,dE,c7,rel,dH⟩=>⟨(x,y)::ps,dE,c7,.cons ⟨bd,cb⟩ rel,dH⟩)
def q6(kvs more:List (Key × V)):List (Key × V):=more.foldl (λ acc cA=>kj acc cA.1 cA.2) kvs
theorem gl.merge:∀{more:List (Key × V)}{rs:List (Key × Value)}{kvs:List (Key × V)}{vs:List (Key × Value)},gl more rs->gl kvs vs->gl (q6 kvs more) (merged vs rs):=by
 intro more rs kvs vs r;unfold gl at r
 induction r generalizing kvs vs with
 | nil=>intro q;exact q
 | @cons p q ps aZ h t bL=>
  intro uN
  have e:gl (kj kvs p.1 p.2) (stored vs q.1 q.2):=by
   have:=uN.put p.1 h.2;rw [<- h.1];exact this
  exact bL e
theorem FU:∀(more kvs:List (Key × V)),(q6 kvs more).length<=kvs.length+more.length
 | [],kvs=>by show kvs.length<=kvs.length+0;omega
 | p::r,kvs=>by
  have af:=FU r (kj kvs p.1 p.2);have ao:=N3 kvs p.1 p.2;show (q6 (kj kvs p.1 p.2) r).length<=_;rw [eb];omega
theorem FV{P:c8}{w:cG}:∀{kvs:List (Key × V)}{ws:List (Value × Value)},FT (kvs.map λ cA=>(ei cA.1,cA.2)) ws->∃ rs,Carries (jC P w) ws rs/\gl kvs rs
 | [],_,r=>by rw [l0] at r;cases r;exact ⟨[],True.intro,.nil⟩
 | p::kvs,_,r=>by
  rw [eC] at r
  cases r with
  | @cons a b as bs h t=>
   obtain ⟨rs,c,q⟩:=FV (P:=P) (w:=w) t;obtain ⟨cv,e0⟩:=b;exact ⟨(p.1,e0)::rs,⟨Ad h.1,rfl,c⟩,.cons ⟨rfl,h.2⟩ q⟩
def Oi(kk:List (TE × TE)):TE:=λ σ H Q=>∀ p,H p=none->xI kk σ (upd H p (.eD [])) λ ps aK=>aK p=some (.eD [])/\∃ kvs:List (Key × V),ps=kvs.map (λ cA=>(ei cA.1,cA.2))/\kvs.length<=15/\Q (.ref p) (upd aK p (.eD (q6 [] kvs)))
theorem Oj{X:a4}{pos:Pos}{keys:List (Option a8)}{values:List a8}{kk:List (TE × TE)}(h:uM X pos keys values kk)(uD:keys.all (·.isSome)=true)(aP:keys.length=values.length)(h0:keys≠[])
 (Ah:keys.length<=15):b1 X (.Dict keys values pos) (Oi kk):=by
 intro pins s σ H Q I q;have bc:=I.bO.fresh (b7 s.heap.objs.size);have aY:=I.laid (a:=s.heap.objs.size) (o:=.eD []) (h':=s.heap.push { cls:=.type "dict", data:=.dict #[] }) (t':=s.toks) (λ _ _ q=>du _ q) (b7 _) (Oe s.heap I.big);refine wpAny_Dict_walk (knd:=jC X.prog X.w) uD aP h0 Ah (bZ (h pins _ σ _ _ aY (q _ bc)) λ ws s2 ⟨ps,aK,ck,rel,e,kvs,fg,lk,bu⟩=>?_);subst fg;obtain ⟨rs,c,rk⟩:=FV (P:=X.prog) (w:=X.w) rel;obtain ⟨z,hd,Y2,uN,jh⟩:=N7 ck.bO e;cases uN;refine ⟨rs,c,jh,λ h' FW aB=>⟨.ref s.heap.objs.size,_,?_,rfl,bu⟩⟩
 have hz:(q6 [] kvs).length<=sizeLine:=by
  have af:=FU kvs [];rw [hu] at af;rw [qc];omega
 have he:∃ q,h'.get? s.heap.objs.size=some q:=let ⟨q,_,_,bn,_⟩:=FW;⟨q,bn⟩
 exact N9 ck (by rw [e];exact True.intro) aB he (N_ hz hd (rk.merge .nil) FW)
structure M2(X:a4)(o:a8)(m:Str)(apos:Pos)(e f:a8)(e7:Pos):Prop where
 base:mV o m X.env (eval o X.env)=eval o X.env
 Ol:((gj e7 (dp [e,f] X.env)).all (λ x=>!x.1)&&(o2 e7 (o1 [] X.env)).all (λ x=>x.1.isSome)
  &&decide (([e,f]:List a8).length+([]:List Keyword).length+(if ([]:List Keyword).isEmpty then 0 else 1) < 30))=true
 line:(apos.endLine==e7.line)=true
 trees:gj e7 (dp [e,f] X.env)=[(false,eval e X.env),(false,eval f X.env)]
section
variable{prog:c8}{w:cG}{A:d6}{E:Value->aM->Prop}{s:aM}
theorem Om{t b6:Addr}{items:Array Value}{gq gu:Value}{lo aA:Option Int}{Q:Value->aM->Prop}(bt:n1 s.heap t items)(aB:s.heap.IsSliceOf b6 gq gu .none)(pl:mX gq lo)(pu:mX gu aA)
 (hw:d9.cJ items.size 0 lo=0/\d9.cJ items.size items.size aA=items.size) (h:Q (.ref t) s):bz (bA prog w) A (lY (.ref t) (.ref b6)) Q E s:=by
 obtain ⟨os,qK,xv,od⟩:=id aB
 have uy:s.TypeIs (.ref b6) "slice":=⟨os,qK,xv⟩
 unfold lY
 try with_reducible refine tW ?_
 first | refine aV (cz ?_) | skip
 refine aV (wpAny_sequenceKey bt.typeIs (by decide) ?_);refine aV (wpAny_callSpecial?_slot (name:=Str.ofString "__getitem__") bt.typeIs sr (sa sr bt.typeIs entry_tuple_getitem ?_ (args_tuple_getitem _ _)));show bz _ _ (Builtin.Tuple.tupleItemsOf (.ref t) >>= _) _ _ s;refine aV (tupleItemsOf_ bt ?_);refine aV (wD uy ?_);rw [if_pos (by decide)];refine aV (d9.Fh aB pl pu ?_)
 have Oo:(((d9.cJ items.size 0 lo:Nat):Int)==0&&(1:Int)==1&&(d9.cJ items.size items.size aA - d9.cJ items.size 0 lo)==items.size)=true:=by
  rw [hw.1,hw.2];simp
 show bz _ _ (if (((d9.cJ items.size 0 lo:Nat):Int)==0&&(1:Int)==1&&(d9.cJ items.size items.size aA - d9.cJ items.size 0 lo)==items.size)=true then _ else _) _ _ s;rw [if_pos Oo]
 have ex:∀{kc:Bool->aM->Prop},kc true s->bz (bA prog w) A.in1 (Builtin.Tuple.tupleIsExact (.ref t)) kc E s:=λ{kc} q=>by
  unfold Builtin.Tuple.tupleIsExact;refine aV (wD bt.typeIs (cz ?_));have e:(Value.type "tuple"==Value.type "tuple")=true:=beq_self_eq_true _;rw [e];exact q
 first
  | exact aV (ex (aV (XV (cz ⟨_,rfl,cz h⟩))))
  | (unfold Builtin.Tuple.tupleIsExact
     refine aV (aV (wD bt.typeIs (cz ?_)));have e:(Value.type "tuple"==Value.type "tuple")=true:=beq_self_eq_true _;rw [e,if_pos rfl]
     first
      | exact aV (XV (cz ⟨_,rfl,cz h⟩))
      | exact aV (XV (aV (cz (cz ⟨_,rfl,cz h⟩))))
      | exact aV (XV (aV (aV (cz (cz ⟨_,rfl,cz h⟩))))))
end
section
variable{X:a4}
def Op(K:a6):V->Option Int->Option Int->ar->cm->Prop:=λ x lo aA H Q=>∃ a xs,x=.ref a/\dD K H a xs ∧
 ((d9.cJ xs.length 0 lo=0/\d9.cJ xs.length xs.length aA=xs.length)->Q (.ref a) H)/\(¬ (d9.cJ xs.length 0 lo=0/\d9.cJ xs.length xs.length aA=xs.length)->∀ p,H p=none->Q (.ref p) (upd H p (.tup (lC xs lo aA))))
theorem Oq:nj X (Op X.K):=by
 intro pins s σ H x v gq gu lo aA b6 Q I bd aB pl pu h;obtain ⟨a,xs,rfl,aq,aE,bu⟩:=h;by_cases hw:d9.cJ xs.length 0 lo=0/\d9.cJ xs.length xs.length aA=xs.length
 ·cases bd;obtain ⟨aN,r,bt,hz⟩:=I.tuple aq
  have hlen:aN.toArray.size=xs.length:=by rw [dG];exact r.length.symm
  refine ⟨"tuple", _,sr.lookup,bt.typeIs,?_⟩;exact Om bt aB pl pu (by rw [hlen];exact hw) ⟨.ref a,H,I,rfl,aE hw⟩
 ·exact M5 pins s σ H _ v gq gu lo aA b6 Q I bd aB pl pu ⟨a,xs,rfl,aq,hw,bu hw⟩
def Os(K:a6):fv:=λ x y H Q=>∃ a b xs a3,x=.ref a/\y=.ref b/\dD K H a xs/\dD K H b a3/\xs.length+a3.length<=sizeLine ∧
 (xs=[]->Q (.ref b) H)/\(xs≠[]->a3=[]->Q (.ref a) H)/\(xs≠[]->a3≠[]->∀ p,H p=none->Q (.ref p) (upd H p (.tup (xs++a3))))
theorem Ot:eo X (hL .Add) (Os X.K):=by
 intro pins s σ H x y v u Q I bd cb h;obtain ⟨a,b,xs,a3,rfl,rfl,au,ag,hz,nv,aE,bu⟩:=h
 by_cases aq:xs=[]
 ·cases bd;cases cb;obtain ⟨aN,r,bt,_⟩:=I.tuple au;obtain ⟨dz,bB,Ou,_⟩:=I.tuple ag;subst aq;cases r;obtain ⟨⟨cls,jh,data,b6⟩,bb,aJ,n,hd⟩:=id bt;obtain ⟨⟨MT,pD,data2,pE⟩,qJ,pF,dx,hd2⟩:=id Ou;simp only at aJ hd pF hd2;subst aJ hd pF hd2;refine zz ⟨_,bb,rfl⟩ ⟨_,qJ,rfl⟩ Wp zx PySem.F.slot_tuple_add PySem.F.entry_tuple_add (PySem.F.args_tuple_add_2 _ _) (tuple_addW0 a b _ dz.toArray n dx jh pD b6 pE (by simp)) ⟨bb,qJ,?_⟩;exact ⟨.ref b,H,I,rfl,nv rfl⟩
 ·exact M7 pins s σ H _ _ v u Q I bd cb ⟨a,b,xs,a3,rfl,rfl,au,ag,aq,hz,aE aq,bu aq⟩
structure KTab(K:a6)(w:cG)(ad:Addr)(tab:Str->Option V):Prop where
 ex:∃(aw:Array DictEntry)(n:Nat),K.lookup ad=some ⟨.type "dict", none,.dict aw n,#[]⟩/\PySem.W.KeysLit w.params aw.toList/\∀ x,hv (tab x) (sk Value.isStrOf aw x)
 low:(ad==kD)=false
end
section
variable{X:a4}
def Ov(K:a6):V->Option Int->Option Int->ar->cm->Prop:=λ x lo aA H Q=>∃ a xs,x=.ref a/\dD K H a xs/\∀ t aK,ml H aK->dD K aK t (lC xs lo aA)->Q (.ref t) aK
theorem Ow{xs:List V}{lo aA:Option Int}(h:d9.cJ xs.length 0 lo=0/\d9.cJ xs.length xs.length aA=xs.length):lC xs lo aA=xs:=by
 unfold lC;rw [h.1,h.2,pb,Nat.sub_zero,wT]
theorem Ox:nj X (Ov X.K):=by
 intro pins s σ H x v gq gu lo aA b6 Q I bd aB pl pu h;obtain ⟨a,xs,rfl,aq,q⟩:=h;refine Oq pins s σ H _ v gq gu lo aA b6 Q I bd aB pl pu ⟨a,xs,rfl,aq,λ w=>q a H (ml.refl _) (by rw [Ow w];exact aq),λ _ p aj=>q p _ (λ b u e=>by rw [cH (hP e aj)];exact e) (dD.of fq)⟩
end
structure c3(X:a4)(e:a8)(t:TE):Prop where
 run:b1 X e t
structure hT(X:a4)(e:a8)(t:TT):Prop where
 run:jF X e t
structure oo(X:a4)(e:a8)(t:TT):Prop where
 run:nc X e t
structure k0(X:a4)(aw:List a8)(t:eZ):Prop where
 run:hQ X aw t
structure k1(X:a4)(st:bE)(t:fh):Prop where
 run:iB X st t
structure ny(X:a4)(st:List bE)(t:fh):Prop where
 run:jG X st t
structure jj(X:a4)(e:a8)(t:fZ):Prop where
 run:l_ X e t
structure uO(X:a4)(aw:List a8)(t:l9):Prop where
 run:uk X aw t
structure mx(X:a4)(bj iter:a8)(cT:TI):Prop where
 run:mc X bj iter cT
structure uP(X:a4)(e:Option a8)(t:ez):Prop where
 run:uA X e t
structure xJ(X:a4)(f:Value->Value->Sem Value)(r:fv):Prop where
 run:eo X f r
structure FX(X:a4)(f:Value->Sem Value)(r:V->ar->cm->Prop):Prop where
 run:xh X f r
structure Ai(X:a4)(f:Value)(r:List V->ar->cm->Prop):Prop where
 run:kU X f r
structure FY(X:a4)(r:fv):Prop where
 run:nn X r
structure FZ(X:a4)(r:V->Option Int->Option Int->ar->cm->Prop):Prop where
 run:nj X r
structure pH(X:a4)(id:String)(r:V->List V->ar->cm->Prop):Prop where
 run:qL X id r
structure Oy(X:a4)(t:qz):Prop where
 run:w_ X t
section
variable{X:a4}{a b c e o i:a8}{aw:List a8}{a_ bG aX to e6:TE}{t xp:eZ}{pos p apos e7:Pos}
theorem Oz{n:Int} {j}:c3 X (.Constant (.int n) j pos) (kQ (.int n)):=⟨K5⟩
theorem OA{n:Bool} {j}:c3 X (.Constant (.bool n) j pos) (kQ (.aO n)):=⟨K6⟩
theorem OB {j}:c3 X (.Constant .none j pos) (kQ .br):=⟨K7⟩
theorem OC{x:Str} {j}:c3 X (.Constant (.str x) j pos) (kQ (.str x)):=⟨zH⟩
theorem Aj(k:Nat){x:Str}(cY:X.N[k]?=some x:=by rfl)(bK:qw X.env.scope x:=by first | exact Or.inl rfl | exact Or.inr (Or.inl rfl) | exact Or.inr (Or.inr rfl))(hd:(x==("__debug__" : Str))=false:=by decide)
 (g8:(x==("__classdict__" : Str))=false:=by decide):c3 X (.Name x pos) (En k):=⟨Eo cY bK hd g8⟩
theorem OD{x:Str}{v:V}{u:Value}(a0:eF X x)(hm:X.mg x=none)(bK:lr x=some u)(r:RelV v u)(bc:x≠"__name__":=by decide)(hd:(x==("__debug__" : Str))=false:=by decide):c3 X (.Name x pos) (kQ v):=⟨K8 a0 hm bK r bc hd⟩
theorem OE{x:Str}{v:V}{u:Value}(a0:eF X x)(hm:X.mg x=some u)(r:RelV v u)(hd:(x==("__debug__" : Str))=false:=by decide):c3 X (.Name x pos) (kQ v):=⟨zI a0 hm r hd⟩
theorem OF:k0 X [] zV:=⟨MD⟩
theorem OG(au:c3 X e aX)(ap:k0 X aw t)(aB:fj e=true:=by rfl):k0 X (e::aw) (E5 aX t):=⟨ME au.run ap.run (hD aB)⟩
theorem OH {am} (h:k0 X aw t):c3 X (.Tuple aw am pos) (E6 t):=⟨MF h.run⟩
theorem F0(h:k0 X aw t):c3 X (.List aw pos) (E7 t):=⟨MG h.run⟩
theorem OI{op:qg}{r:fv}(bb:xJ X (hL op) r)(au:c3 X a a_)(ag:c3 X b bG):c3 X (.BinOp a op b pos) (pB r a_ bG):=⟨LO bb.run au.run ag.run⟩
theorem OJ{op:UnaryOp}{r:V->ar->cm->Prop}(bb:FX X (t4 op) r)(au:c3 X a a_):c3 X (.UnaryOp op a pos) (ET r a_):=⟨LP bb.run au.run⟩
theorem OK(au:c3 X a a_):c3 X (.UnaryOp .Not a pos) (Ew a_):=⟨Lf au.run⟩
theorem OL{op:o6}{r:fv}(bb:xJ X (eP op) r)(au:c3 X a a_)(ag:c3 X b bG)(hm:o0 op b=false):c3 X (.Compare a [op] [b] pos) (pB r a_ bG):=⟨L6 bb.run au.run ag.run hm⟩
theorem OM {op} (h:c3 X a a_):c3 X (.BoolOp op [a] pos) a_:=⟨Ld h.run⟩
theorem ON{rest:List a8}(au:c3 X a a_)(ag:c3 X (.BoolOp .And (b::rest) pos) bG):c3 X (.BoolOp .And (a::b::rest) pos) (Eu a_ bG):=⟨Le au.run ag.run⟩
theorem OO{bf:TT}(aJ:hT X c bf)(au:c3 X a a_)(ag:c3 X b bG):c3 X (.IfExp c a b pos) (Ex bf a_ bG):=⟨Lg aJ.run au.run ag.run⟩
theorem OP:uP X none Fi:=⟨M0⟩
theorem OQ(h:c3 X e aX):uP X (some e) (Fj aX):=⟨M1 h.run⟩
theorem OR{r:V->Option Int->Option Int->ar->cm->Prop}{lo aA:Option a8}{eL lB:ez}{cc:Pos}(ap:FZ X r)(he:c3 X e aX)(aP:uP X lo eL)(bx:uP X aA lB):c3 X (.Subscript e (.Slice lo aA none cc) pos) (Fl r aX eL lB):=⟨M3 ap.run he.run aP.run bx.run⟩
theorem F1{r:fv}(ap:FY X r)(au:c3 X a a_)(ag:c3 X b bG)(aB:xx b):c3 X (.Subscript a b pos) (pB r a_ bG):=⟨M8 ap.run au.run ag.run aB⟩
theorem q7{aw:List a8}{env:Env}(h:aw.all fj=true):(gj pos (dp aw env)).any (·.1)=false:=by
 induction aw with
 | nil=>rfl
 | cons x r bL=>
  rw [j5,g7] at h;rw [hD h.1];exact bL h.2
theorem OS{k j:Nat}{x:Str}{ps:List Str}{sp:gG}(G:Got X.prog X.w X.K X.mg X.base k x ps sp)(ap:eG j X.A)(aC:k<=j)(a0:eF X x)(au:k0 X (e::aw) t)(gd:(x==("__debug__" : Str))=false:=by decide)
 (aB:(e::aw).all fj=true:=by rfl):c3 X (.Call (.Name x p) (e::aw) [] pos) (zW sp [] qN t):=by
 have h:=aB;rw [j5,g7] at h;exact ⟨NU G ap aC a0 au.run gd (hD h.1) (q7 h.2)⟩
theorem OT{x:Str}{id:String}{r:List V->ar->cm->Prop}(aJ:Ai X (.builtin id) r)(a0:eF X x)(hm:X.mg x=none)(bK:lr x=some (.builtin id))(au:k0 X (e::aw) t)(bc:x≠"__name__":=by decide)(gd:(x==("__debug__" : Str))=false:=by decide)
 (aB:(e::aw).all fj=true:=by rfl):c3 X (.Call (.Name x p) (e::aw) [] pos) (xu r t):=by
 have h:=aB;rw [j5,g7] at h;exact ⟨MQ aJ.run a0 hm bK au.run bc gd (hD h.1) (q7 h.2)⟩
theorem OU{x:Str}{T:String}{r:List V->ar->cm->Prop}(aJ:Ai X (.type T) r)(a0:eF X x)(hm:X.mg x=none)(bK:lr x=some (.type T))(au:k0 X (e::aw) t)(bc:x≠"__name__":=by decide)(gd:(x==("__debug__" : Str))=false:=by decide)
 (aB:(e::aw).all fj=true:=by rfl):c3 X (.Call (.Name x p) (e::aw) [] pos) (xu r t):=by
 have h:=aB;rw [j5,g7] at h;exact ⟨MR aJ.run a0 hm bK au.run bc gd (hD h.1) (q7 h.2)⟩
theorem OV{name:Str}{T id:String}{r:V->List V->ar->cm->Prop}(mf:sd T)(slot:Slot T name id)(mh:sl (.builtin id)=pure (.type "method_descriptor"))(hm:pH X id r)(bb:c3 X o to)(au:k0 X [e] t)
 (mi:mV o name X.env (eval o X.env)=eval o X.env:=by rfl) (mj:(apos.endLine==e7.line)=true:=by rfl) (aB:fj e=true:=by rfl):c3 X (.Call (.Attribute o name apos) [e] [] e7) (Fw X.K T r to t):=
 ⟨Nt mf slot mh hm.run bb.run au.run mi (by rw [hD aB];rfl) mj (hD aB) rfl⟩
theorem OW{name:Str}{T id:String}{r:V->List V->ar->cm->Prop}(mf:sd T)(slot:Slot T name id)(mh:sl (.builtin id)=pure (.type "method_descriptor"))(hm:pH X id r)(bb:c3 X o to)
 (mi:mV o name X.env (eval o X.env)=eval o X.env:=by rfl) (mj:(apos.endLine==e7.line)=true:=by rfl):c3 X (.Call (.Attribute o name apos) [] [] e7) (Fv X.K T r to):=⟨Nr mf slot mh hm.run bb.run mi mj⟩
theorem OX{op:o6}{r:fv}(bb:xJ X (eP op) r)(au:c3 X a a_)(ag:c3 X b bG)(hm:o0 op b=false):hT X (.Compare a [op] [b] pos) (EX (pB r a_ bG)):=⟨L7 bb.run au.run ag.run hm⟩
theorem OY{bf:TT}(au:hT X a bf):hT X (.UnaryOp .Not a pos) (Et bf):=⟨Lc au.run⟩
theorem OZ(au:c3 X a a_)(he:∀ whole,n0 a X.env whole=(do let v ← whole;kF a.pos;hM [v] (truthy v))):hT X a (λ σ H Q=>a_ σ H λ x ai=>∃ k,zQ X.K x ai k/\Q k ai):=⟨L_ au.run he⟩
theorem O0{gc:TT}(au:hT X a gc):oo X (.BoolOp .And [a] pos) gc:=⟨K9 au.run⟩
theorem O1{gc:TT}(au:hT X a gc):oo X (.BoolOp .Or [a] pos) gc:=⟨K_ au.run⟩
theorem O2{gc nd:TT}{rest:List a8}(au:hT X a gc)(ag:oo X (.BoolOp .And (b::rest) pos) nd):oo X (.BoolOp .And (a::b::rest) pos) (Er gc nd):=⟨La au.run ag.run⟩
theorem O3{gc nd:TT}{rest:List a8}(au:hT X a gc)(ag:oo X (.BoolOp .Or (b::rest) pos) nd):oo X (.BoolOp .Or (a::b::rest) pos) (Es gc nd):=⟨Lb au.run ag.run⟩
theorem oo.pt{gc:TT}(h:oo X e gc):hT X e gc:=⟨nc.pt h.run⟩
theorem O4{k:Nat}{x:Str}(cY:X.N.Nodup)(aA:X.N[k]?=some x)(aq:Loc X.env.scope x)(hf:X.fn x=true\/X.env.scope.names.lookup x=some .local:=by first | exact .inl rfl | exact .inr rfl | assumption):jj X (.Name x pos) (px k):=⟨Lp cY aA aq hf⟩
theorem O5:uO X [] EF:=⟨Lq⟩
theorem O6{bj:fZ}{u:l9}(af:jj X e bj)(ao:uO X aw u)(aB:(ja (e::aw) X.env).map (·.2)=hj e X.env::(ja aw X.env).map (·.2):=by rfl):uO X (e::aw) (EG bj u):=⟨Lr af.run ao.run aB⟩
theorem O7{k n:Nat}{bj:l9}(aJ:X.calm=true)(h:uO X aw bj)(bc:(ja aw X.env).length=n:=by rfl)(hy:(ja aw X.env).findIdx? (·.1)=none:=by rfl):jj X (.Tuple aw k pos) (EH X.K n bj):=⟨Ls aJ h.run bc hy⟩
theorem O8{qC:qz}(bb:c3 X o to)(aA:c3 X i e6)(aB:Oy X qC) (au:∀ v,hj (.Subscript o i pos) X.env v=(do
 let cZ ← hM [v] (eval o X.env)
 let d7 ← hM [v,cZ] (eval i X.env)
 kF pos
 hM [v,cZ,d7] (qh cZ d7 v)
 sh [v,cZ,d7] []):=by intro _;rfl):jj X (.Subscript o i pos) (EI to e6 qC):=⟨Lu bb.run aA.run aB.run au⟩
theorem O9{bj:a8}(a0:eF X "range")(hm:X.mg "range" = none)(au:k0 X [a] t)(aB:fj a=true:=by rfl):mx X bj (.Call (.Name "range" p) [a] [] pos) (EP t):=⟨LG a0 hm au.run (hD aB)⟩
theorem O_:ny X [] Ez:=⟨Li⟩
theorem Pa{st:bE}{rest:List bE}{dZ us:fh}(af:k1 X st dZ)(ao:ny X rest us):ny X (st::rest) (EA dZ us):=⟨Lj af.run ao.run⟩
theorem Pb{st:bE}{dZ:fh}(af:k1 X st dZ):ny X [st] dZ:=⟨Lk af.run⟩
theorem Pc:k1 X (.Continue pos) EB:=⟨Ll⟩
theorem Pd(he:c3 X e aX)(aB:j3 e none pos.line X.env=pure false:=by rfl):k1 X (.Expr e pos) (EC aX):=⟨Lm he.run aB⟩
theorem Pe(he:c3 X e aX):k1 X (.Return (some e) pos) (ED aX):=⟨Ln he.run⟩
theorem Pf{ss us:List bE}{bf:TT}{dZ uQ:fh}(aJ:hT X c bf)(au:ny X ss dZ)(ag:ny X us uQ):k1 X (.If c ss us pos) (EE bf dZ uQ):=⟨Lo aJ.run au.run ag.run⟩
theorem Pg{k:Nat}{x:Str}{pos':Pos}(cY:X.N.Nodup)(aA:X.N[k]?=some x)(aq:Loc X.env.scope x)(he:c3 X e aX)(aB:j3 e (some (.Name x pos')) pos.line X.env=pure false:=by rfl)(hf:X.fn x=true\/X.env.scope.names.lookup x=some .local:=by first | exact .inl rfl | exact .inr rfl | assumption) :
 k1 X (.Assign [.Name x pos'] e pos) (pz aX (px k)):=⟨Lw cY aA aq he.run aB hf⟩
theorem Ph{bj:a8}{g:fZ}(he:c3 X e aX)(a0:jj X bj g)(aB:tX [bj] e pos.line X.env=pure false:=by rfl)(hw:tY [bj] e X.env=pure none:=by rfl)(af:(ja [bj] X.env).map (·.2)=[hj bj X.env]:=by rfl):k1 X (.Assign [bj] e pos) (pz aX g):=⟨Lv he.run a0.run aB hw af⟩
theorem Pi{body:List bE}{bf:TT}{uR:fh}(aj:se (bA X.prog X.w) X.A X.env X.xe)(aJ:hT X c bf)(ag:ny X body uR):k1 X (.While c body [] pos) (EM bf uR):=⟨LC aj aJ.run ag.run⟩
theorem Pj{bj iter:a8}{body:List bE}{cT:TI}{g:fZ}{uR:fh}(aj:se (bA X.prog X.w) X.A X.env X.xe)(aJ:X.calm=true)(aA:mx X bj iter cT)(a0:jj X bj g)(ag:ny X body uR)(aB:∀ x,jy iter X.env x=pure x:=by intro _;rfl) :
 k1 X (.For bj iter body [] pos) (ER cT g uR):=⟨LJ aj aJ aA.run a0.run ag.run aB⟩
theorem Pk{scope:e4}{N':List Str}{nt:Nat}{cap:List Nat}{elt iter bj:a8}{cT:TI}{g:fZ}(aJ:X.calm=true)(ok:fD X scope N' nt cap)(aA:mx X bj iter cT)(a0:∀ C ex s H,jj (cX X scope N' C ex s H) bj g)(he:∀ C ex s H,c3 (cX X scope N' C ex s H) elt aX)
 (aB:∀ x,jy iter X.env x=pure x:=by intro _;rfl):c3 X (.ListComp elt [⟨bj,iter,[],0⟩] scope pos) (uF cT g aX nt cap):=⟨NT aJ ok aA.run (λ C ex s H=>(a0 C ex s H).run) (λ C ex s H=>(he C ex s H).run) aB⟩
theorem Pl{ct:a8}{bf:TT}{scope:e4}{N':List Str}{nt:Nat}{cap:List Nat}{elt iter bj:a8}{cT:TI}{g:fZ}(aJ:X.calm=true)(ok:fD X scope N' nt cap)(aA:mx X bj iter cT)(a0:∀ C ex s H,jj (cX X scope N' C ex s H) bj g)
 (bt:∀ C ex s H,hT (cX X scope N' C ex s H) ct bf) (he:∀ C ex s H,c3 (cX X scope N' C ex s H) elt aX) (aB:∀ x,jy iter X.env x=pure x:=by intro _;rfl):c3 X (.ListComp elt [⟨bj,iter,[ct],0⟩] scope pos) (uG cT g bf aX nt cap):=
 ⟨N1 aJ ok aA.run (λ C ex s H=>(a0 C ex s H).run) (λ C ex s H=>(bt C ex s H).run) (λ C ex s H=>(he C ex s H).run) aB⟩
end
theorem dL.Pm{P:c8}{w:cG}{K:a6}{mg:Str->Option Value}{base:b2}{x qual:Str}{st:bE}{f:Addr}{fd:gA}{N ps:List Str}{k:Nat}{sp:gG}(F:dL K x qual st f fd)(S:d0 N ps (cp st))(len:∀ vs H Q E,sp vs H Q E->vs.length=ps.length)
 (kW:∀(bP:Value)(A:d6)(outer:List Env)(s:aM)(H:ar)(vs:List V)(Q:cm)(E:h8),eG k (A.deeper (mY qual (cp st) s.heap.objs.size f bP))->sp vs H Q E →
  ∃ t,ny (ob cQ P w K mg base N qual (cp st) f bP A outer s H E).pv (hC st) t/\t { nx:=λ _ ai=>Q .br ai,rt:=Q } (kf N vs) H):cO P w K mg base cQ (k+1) f fd ps sp:=
 F.ok S len λ bP A outer s H vs Q E ap h=>let ⟨t,j,q⟩:=kW bP A outer s H vs Q E ap h;⟨t,j.run,q⟩
section
variable{X:a4}{scope:e4}{N':List Str}{nt:Nat}{cap:List Nat}{elt iter bj:a8}{pos:Pos}{cT:TI}{g:fZ}{aX:TE}
theorem Pn{y:Str}{py iW:Pos}{k:Nat}(aJ:X.calm=true)(cY:X.N.Nodup)(aC:X.N[k]?=some y)(aQ:Loc X.env.scope y)(c:fD X scope N' nt cap)(aA:mc X bj iter cT)(a0:∀ C ex s H,l_ (cX X scope N' C ex s H) bj g)(he:∀ C ex s H,b1 (cX X scope N' C ex s H) elt aX)
 (aB:∀ x,jy iter X.env x=pure x:=by intro _;rfl) (my:j3 (.ListComp elt [⟨bj,iter,[],0⟩] scope pos) (some (.Name y py)) iW.line X.env=pure true:=by rfl) (hf:X.fn y=true\/X.env.scope.names.lookup y=some .local:=by first | exact .inl rfl | exact .inr rfl | assumption) :
 iB X (.Assign [.Name y py] (.ListComp elt [⟨bj,iter,[],0⟩] scope pos) iW) (pz (uF cT g aX nt cap) (px k)):=by
 intro pins s σ H oq I h;rw [D9 _ _ _ _ my];refine aV (lq (aV ?_));show bz _ X.A (do let _ ← comprehension (.ListComp elt [⟨bj,iter,[],0⟩] scope pos) scope X.env _ (newList []) false (eval iter X.env) (some (hj (.Name y py) X.env))) _ _ s;refine aV (eX (wx (use:=some (hj (.Name y py) X.env)) (Q:=λ _ a9=>l8 X pins oq .next a9) rfl aB (xE (c.has I.ok)) c.kind c.locs (bZ (aA pins s σ H _ I h) λ v s1 af=>bZ af λ sF s2 ao=>?_)) (λ _ a9 bn=>cz (cz bn)) λ _ _ e=>e);obtain ⟨it,fp,fM,J,aK,rfl,ck,T,kR,f2,R⟩:=ao;have kg:aK s2.heap.objs.size=none:=ck.bO.fresh (b7 _);obtain ⟨W,⟨m0,iT⟩,turn⟩:=R _ kg
 have c7:Inv X pins σ (upd aK s2.heap.objs.size (.lst [])) { s2 with heap:=s2.heap.push { cls:=.type "list", dict:=none,data:=.seq ([]:List Value).toArray } }:=
  ck.laid (t':=s2.toks) (λ b u e=>du _ e) (b7 _) ⟨f9 _,[],0,.nil,gC _ rfl⟩
 have ig:∀ b∈fp,b < s2.heap.objs.size:=λ b ag=>by
  obtain ⟨o,e,_⟩:=T.obj _ _ kR b ag;exact dW e
 have dl:∀ b∈fp,h_ X pins (upd aK s2.heap.objs.size (.lst [])) b:=λ b ag=>⟨by rw [cH (eY (ig b ag))];exact (f2 b ag).1,(f2 b ag).2⟩
 have ke:fM 0 (s2.heap.push { cls:=.type "list", dict:=none,data:=.seq ([]:List Value).toArray }):=T.keep _ _ _ kR λ b _ o e=>du _ e;generalize mn:s2.heap.push { cls:=.type "list", dict:=none,data:=.seq ([]:List Value).toArray }=aF at c7 ke
 have jJ:s2.heap.objs.size < aF.objs.size:=by rw [<- mn,m6];exact n5 _
 generalize qQ:s2.heap.objs.size=D at c7 dl kg iT turn jJ ig;refine lp ?_;rw [qQ,mn];refine wz c.pG (by intro y aQ;simp at aQ) (λ cn mq mr=>?_) c.kind
 dsimp only at mq mr ⊢
 have mt:∀ b o,aF.get? b=some o->cn.get? b=some o:=λ b o e=>(mr.2 b (eY (dW e))).trans (du _ e);have hA:=c7.comp (t':=s2.toks+([]:List (Str × Value)).length) c dl (λ b ag=>m2 (ig b ag) jJ) mt mq;have mu:fM 0 cn:=T.keep _ _ _ ke λ b _ o e=>mt b o e
 dsimp only at hA
 have fin:∀{σ':St}{ai:ar}{a9:aM},Inv (cX X scope N' aF.objs.size fp { s2 with heap:=aF } (upd aK D (.lst []))) [] σ' ai a9->oq.nx (σ.set k (some (.ref D))) ai →
  o3 (bA X.prog X.w) X.A X.xe (some (hj (.Name y py) X.env)) (λ _ a9=>l8 X pins oq .next a9) (.ref D) aF.objs.size (.ok .next) a9:=λ{σ' ai a9} oi q=>by
  obtain ⟨m,bc,gF⟩:=c7.xF rfl dl oi;have Ak:Inv X pins σ ai a9:=gF a9.heap (Heap.SameBut.refl ..);have uS:aF.objs.size≠X.env.locals:=t7 c7.lt
  have uT:∀ x a,X.env.cells.lookup x=some a->a≠aF.objs.size:=λ x a e=>by
   obtain ⟨v,z⟩:=c7.cell x a e;exact eY z.lt
  show bz _ X.A (hj (.Name y py) X.env (.ref D)) _ _ a9;refine zt (zF Ak cY aC aQ (v:=.ref D) rfl (λ qI Al kb=>?_) hf);obtain ⟨a,cU,au⟩:=kb
  have Am:aF.objs.size≠a:=by
   rcases au with z | z
   ·rw [z];exact uS
   ·exact (uT _ _ z).symm
  refine ⟨m,bc.sameBut cU Am,λ h' qR=>⟨_,ai,?_,q⟩⟩
  exact Al.turned (t':=qI.toks) (λ b o ag e=>(qR.2 b ag).trans e) oi.free uS (.inr c7.aR) uT λ p aj z=>by
   have e:=(c7.pin p aj).1;rw [z] at e;exact absurd (dW e) (n4 _)
 have ib:∀{ai:ar},(∀ b∈fp,ai b=none)->∀ b∈fp,h_ (cX X scope N' aF.objs.size fp { s2 with heap:=aF } (upd aK D (.lst []))) [] ai b:=λ{ai} bc b ag=>by
  refine ⟨bc b ag,eY (m2 (ig b ag) jJ),λ z=>?_,.inl ag,λ x a e=>(dl b ag).2.2.2.2.1 x a (c.cells I.ok e),λ p aj=>absurd (show p∈([]:List (Addr × Obj)) from aj) (by simp)⟩;rcases ea.mp (I.pi b z) with y | y
  ·exact (dl b ag).2.1 y
  ·exact (dl b ag).2.2.1 y
 have loop:mW (bA X.prog X.w) X.A (.compLoop (.ListComp elt [⟨bj,iter,[],0⟩] scope pos) 0 (.ref it) (.ref D) (kE scope (gJ X.env.cells scope.names []) aF.objs.size X.env))
  (o3 (bA X.prog X.w) X.A X.xe (some (hj (.Name y py) X.env)) (λ _ a9=>l8 X pins oq .next a9) (.ref D) aF.objs.size) { s2 with heap:=cn,toks:=s2.toks+([]:List (Str × Value)).length }:=by
  refine wE rfl (λ n a9=>∃ i a3 σ' ai,Inv (cX X scope N' aF.objs.size fp { s2 with heap:=aF } (upd aK D (.lst []))) [] σ' ai a9/\fM i a9.heap/\(∀ b∈fp,ai b=none)/\W i n a3 σ' ai) (λ n s5 qS=>?_) m0 ⟨0,[],_,_,hA,mu,λ b ag=>(dl b ag).1,iT⟩;obtain ⟨i,a3,σ5,fL,hR,jI,kS,qT⟩:=qS;show bz _ X.A ((sg (.ListComp elt [⟨bj,iter,[],0⟩] scope pos) 0 (.ref it) (.ref D) (kE scope (gJ X.env.cells scope.names []) aF.objs.size X.env)).onRaise (λ x=>do wL x (kE scope (gJ X.env.cells scope.names []) aF.objs.size X.env);wC x)) _ _ s5;refine wG ?_;rw [compTurn_list1];rcases turn i n a3 σ5 fL qT with ⟨stop,md⟩ | ⟨go,step⟩
  ·refine aV (lq (aV (eX (T.done (cX X scope N' aF.objs.size fp { s2 with heap:=aF } (upd aK D (.lst []))) rfl rfl rfl aJ i [] s5 σ5 fL (λ _ _=>False) hR (ib kS) jI stop) (λ r gV ⟨ap,mb⟩=>?_) λ _ _ z=>z.elim)));subst ap;exact cz (fin mb md)
  ·refine aV (lq (aV (eX (T.item (cX X scope N' aF.objs.size fp { s2 with heap:=aF } (upd aK D (.lst []))) rfl rfl rfl aJ i [] s5 σ5 fL (λ _ _=>False) hR (ib kS) jI go) (λ r gV ⟨u,ap,iD⟩=>?_) λ _ _ z=>z.elim)));subst ap;refine aV (eX iD (λ _ kT ⟨x,gp,ic,n_,qU,ih,lD⟩=>?_) λ _ _ z=>z.elim);have qV:=ic.pinned (ib lD) (T.obj _ _ ih);refine aV (eX (a0 _ _ _ _ _ kT σ5 gp x u _ qV n_ (step x gp qU)) (λ _ qW ⟨σ8,qX,qY,qZ⟩=>?_) λ _ _ z=>z.elim);refine aV (aV (eX (he _ _ _ _ _ qW σ8 qX _ qY qZ) (λ q0 q1 ⟨y,oj,kZ,z7,om,uH,cu,mv,q2⟩=>?_) λ _ _ z=>z.elim))
   refine aV (eX (uC (X:=cX X scope N' aF.objs.size fp { s2 with heap:=aF } (upd aK D (.lst []))) _ q1 σ8 oj (.ref D) [y] (.ref D) [q0] (λ v mw=>v=.br/\mw=upd oj D (.lst (a3++[y]))) kZ rfl (.cons z7 .nil) ⟨D,a3,y,rfl,rfl,om,uH,rfl,rfl⟩)
    (λ _ z8 ⟨v10,mw,jK,_,_,q3⟩=>?_) λ _ _ z=>z.elim)
   subst q3;refine cz (cz ⟨rfl,cu,mv,i+1,a3++[y],σ8,_,jK.n9,?_,λ b ag=>?_,q2⟩)
   ·exact T.keep _ _ _ ih λ b ag o e=>(jK.pin (b,o) (eu _ (eu _ (kd ag e)))).1
   ·obtain ⟨o,e,d⟩:=T.obj _ _ ih b ag;exact (jK.pin (b,o) (eu _ (eu _ (kd ag e)))).2.1
 exact wy loop (T.self _ 0 _ _ _ mu loop)
theorem Po{ct:a8}{bf:TT}{y:Str}{py iW:Pos}{k:Nat}(aJ:X.calm=true)(cY:X.N.Nodup)(aC:X.N[k]?=some y)(aQ:Loc X.env.scope y)(c:fD X scope N' nt cap)(aA:mc X bj iter cT)(a0:∀ C ex s H,l_ (cX X scope N' C ex s H) bj g)(bt:∀ C ex s H,jF (cX X scope N' C ex s H) ct bf)(he:∀ C ex s H,b1 (cX X scope N' C ex s H) elt aX)
 (aB:∀ x,jy iter X.env x=pure x:=by intro _;rfl) (my:j3 (.ListComp elt [⟨bj,iter,[ct],0⟩] scope pos) (some (.Name y py)) iW.line X.env=pure true:=by rfl) (hf:X.fn y=true\/X.env.scope.names.lookup y=some .local:=by first | exact .inl rfl | exact .inr rfl | assumption) :
 iB X (.Assign [.Name y py] (.ListComp elt [⟨bj,iter,[ct],0⟩] scope pos) iW) (pz (uG cT g bf aX nt cap) (px k)):=by
 intro pins s σ H oq I h;rw [D9 _ _ _ _ my];refine aV (lq (aV ?_));show bz _ X.A (do let _ ← comprehension (.ListComp elt [⟨bj,iter,[ct],0⟩] scope pos) scope X.env _ (newList []) false (eval iter X.env) (some (hj (.Name y py) X.env))) _ _ s;refine aV (eX (wx (use:=some (hj (.Name y py) X.env)) (Q:=λ _ a9=>l8 X pins oq .next a9) rfl aB (xE (c.has I.ok)) c.kind c.locs (bZ (aA pins s σ H _ I h) λ v s1 af=>bZ af λ sF s2 ao=>?_)) (λ _ a9 bn=>cz (cz bn)) λ _ _ e=>e);obtain ⟨it,fp,fM,J,aK,rfl,ck,T,kR,f2,R⟩:=ao;have kg:aK s2.heap.objs.size=none:=ck.bO.fresh (b7 _);obtain ⟨W,⟨m0,iT⟩,turn⟩:=R _ kg
 have c7:Inv X pins σ (upd aK s2.heap.objs.size (.lst [])) { s2 with heap:=s2.heap.push { cls:=.type "list", dict:=none,data:=.seq ([]:List Value).toArray } }:=
  ck.laid (t':=s2.toks) (λ b u e=>du _ e) (b7 _) ⟨f9 _,[],0,.nil,gC _ rfl⟩
 have ig:∀ b∈fp,b < s2.heap.objs.size:=λ b ag=>by
  obtain ⟨o,e,_⟩:=T.obj _ _ kR b ag;exact dW e
 have dl:∀ b∈fp,h_ X pins (upd aK s2.heap.objs.size (.lst [])) b:=λ b ag=>⟨by rw [cH (eY (ig b ag))];exact (f2 b ag).1,(f2 b ag).2⟩
 have ke:fM 0 (s2.heap.push { cls:=.type "list", dict:=none,data:=.seq ([]:List Value).toArray }):=T.keep _ _ _ kR λ b _ o e=>du _ e;generalize mn:s2.heap.push { cls:=.type "list", dict:=none,data:=.seq ([]:List Value).toArray }=aF at c7 ke
 have jJ:s2.heap.objs.size < aF.objs.size:=by rw [<- mn,m6];exact n5 _
 generalize qQ:s2.heap.objs.size=D at c7 dl kg iT turn jJ ig;refine lp ?_;rw [qQ,mn];refine wz c.pG (by intro y aQ;simp at aQ) (λ cn mq mr=>?_) c.kind
 dsimp only at mq mr ⊢
 have mt:∀ b o,aF.get? b=some o->cn.get? b=some o:=λ b o e=>(mr.2 b (eY (dW e))).trans (du _ e);have hA:=c7.comp (t':=s2.toks+([]:List (Str × Value)).length) c dl (λ b ag=>m2 (ig b ag) jJ) mt mq;have mu:fM 0 cn:=T.keep _ _ _ ke λ b _ o e=>mt b o e
 dsimp only at hA
 have fin:∀{σ':St}{ai:ar}{a9:aM},Inv (cX X scope N' aF.objs.size fp { s2 with heap:=aF } (upd aK D (.lst []))) [] σ' ai a9->oq.nx (σ.set k (some (.ref D))) ai →
  o3 (bA X.prog X.w) X.A X.xe (some (hj (.Name y py) X.env)) (λ _ a9=>l8 X pins oq .next a9) (.ref D) aF.objs.size (.ok .next) a9:=λ{σ' ai a9} oi q=>by
  obtain ⟨m,bc,gF⟩:=c7.xF rfl dl oi;have Ak:Inv X pins σ ai a9:=gF a9.heap (Heap.SameBut.refl ..);have uS:aF.objs.size≠X.env.locals:=t7 c7.lt
  have uT:∀ x a,X.env.cells.lookup x=some a->a≠aF.objs.size:=λ x a e=>by
   obtain ⟨v,z⟩:=c7.cell x a e;exact eY z.lt
  show bz _ X.A (hj (.Name y py) X.env (.ref D)) _ _ a9;refine zt (zF Ak cY aC aQ (v:=.ref D) rfl (λ qI Al kb=>?_) hf);obtain ⟨a,cU,au⟩:=kb
  have Am:aF.objs.size≠a:=by
   rcases au with z | z
   ·rw [z];exact uS
   ·exact (uT _ _ z).symm
  refine ⟨m,bc.sameBut cU Am,λ h' qR=>⟨_,ai,?_,q⟩⟩
  exact Al.turned (t':=qI.toks) (λ b o ag e=>(qR.2 b ag).trans e) oi.free uS (.inr c7.aR) uT λ p aj z=>by
   have e:=(c7.pin p aj).1;rw [z] at e;exact absurd (dW e) (n4 _)
 have ib:∀{ai:ar},(∀ b∈fp,ai b=none)->∀ b∈fp,h_ (cX X scope N' aF.objs.size fp { s2 with heap:=aF } (upd aK D (.lst []))) [] ai b:=λ{ai} bc b ag=>by
  refine ⟨bc b ag,eY (m2 (ig b ag) jJ),λ z=>?_,.inl ag,λ x a e=>(dl b ag).2.2.2.2.1 x a (c.cells I.ok e),λ p aj=>absurd (show p∈([]:List (Addr × Obj)) from aj) (by simp)⟩;rcases ea.mp (I.pi b z) with y | y
  ·exact (dl b ag).2.1 y
  ·exact (dl b ag).2.2.1 y
 have loop:mW (bA X.prog X.w) X.A (.compLoop (.ListComp elt [⟨bj,iter,[ct],0⟩] scope pos) 0 (.ref it) (.ref D) (kE scope (gJ X.env.cells scope.names []) aF.objs.size X.env))
  (o3 (bA X.prog X.w) X.A X.xe (some (hj (.Name y py) X.env)) (λ _ a9=>l8 X pins oq .next a9) (.ref D) aF.objs.size) { s2 with heap:=cn,toks:=s2.toks+([]:List (Str × Value)).length }:=by
  refine wE rfl (λ n a9=>∃ i a3 σ' ai,Inv (cX X scope N' aF.objs.size fp { s2 with heap:=aF } (upd aK D (.lst []))) [] σ' ai a9/\fM i a9.heap/\(∀ b∈fp,ai b=none)/\W i n a3 σ' ai) (λ n s5 qS=>?_) m0 ⟨0,[],_,_,hA,mu,λ b ag=>(dl b ag).1,iT⟩;obtain ⟨i,a3,σ5,fL,hR,jI,kS,qT⟩:=qS;show bz _ X.A ((sg (.ListComp elt [⟨bj,iter,[ct],0⟩] scope pos) 0 (.ref it) (.ref D) (kE scope (gJ X.env.cells scope.names []) aF.objs.size X.env)).onRaise (λ x=>do wL x (kE scope (gJ X.env.cells scope.names []) aF.objs.size X.env);wC x)) _ _ s5;refine wG ?_;rw [FK];rcases turn i n a3 σ5 fL qT with ⟨stop,md⟩ | ⟨go,step⟩
  ·refine aV (lq (aV (eX (T.done (cX X scope N' aF.objs.size fp { s2 with heap:=aF } (upd aK D (.lst []))) rfl rfl rfl aJ i [] s5 σ5 fL (λ _ _=>False) hR (ib kS) jI stop) (λ r gV ⟨ap,mb⟩=>?_) λ _ _ z=>z.elim)));subst ap;exact cz (fin mb md)
  ·refine aV (lq (aV (eX (T.item (cX X scope N' aF.objs.size fp { s2 with heap:=aF } (upd aK D (.lst []))) rfl rfl rfl aJ i [] s5 σ5 fL (λ _ _=>False) hR (ib kS) jI go) (λ r gV ⟨u,ap,iD⟩=>?_) λ _ _ z=>z.elim)));subst ap;refine aV (eX iD (λ _ kT ⟨x,gp,ic,n_,qU,ih,lD⟩=>?_) λ _ _ z=>z.elim);have qV:=ic.pinned (ib lD) (T.obj _ _ ih);refine aV (eX (a0 _ _ _ _ _ kT σ5 gp x u _ qV n_ (step x gp qU)) (λ _ qW ⟨σ8,qX,qY,qZ⟩=>?_) λ _ _ z=>z.elim);refine aV (eX (bt _ _ _ _ _ qW σ8 qX _ qY qZ) (λ uJ q1 ⟨oj,kZ,on⟩=>?_) λ _ _ z=>z.elim)
   cases uJ with
   | true=>
    rw [if_pos rfl];rw [if_pos rfl] at on;refine aV (aV (eX (he _ _ _ _ _ q1 σ8 oj _ kZ on) (λ q0 z9 ⟨y,uK,z_,Aa,q4,Ab,cu,mv,Ac⟩=>?_) λ _ _ z=>z.elim))
    refine aV (eX (uC (X:=cX X scope N' aF.objs.size fp { s2 with heap:=aF } (upd aK D (.lst []))) _ z9 σ8 uK (.ref D) [y] (.ref D) [q0] (λ v mw=>v=.br/\mw=upd uK D (.lst (a3++[y]))) z_ rfl (.cons Aa .nil) ⟨D,a3,y,rfl,rfl,q4,Ab,rfl,rfl⟩)
     (λ _ z8 ⟨v10,mw,jK,_,_,q3⟩=>?_) λ _ _ z=>z.elim)
    subst q3;refine cz (cz ⟨rfl,cu,mv,i+1,a3++[y],σ8,_,jK.n9,?_,λ b ag=>?_,Ac⟩)
    ·exact T.keep _ _ _ ih λ b ag o e=>(jK.pin (b,o) (eu _ (eu _ (kd ag e)))).1
    ·obtain ⟨o,e,d⟩:=T.obj _ _ ih b ag;exact (jK.pin (b,o) (eu _ (eu _ (kd ag e)))).2.1
   | false=>
    rw [if_neg iz];rw [if_neg iz] at on;obtain ⟨cu,mv,q2⟩:=on;refine cz ⟨rfl,cu,mv,i+1,a3,σ8,_,kZ.n9,?_,λ b ag=>?_,q2⟩
    ·exact T.keep _ _ _ ih λ b ag o e=>(kZ.pin (b,o) (eu _ (eu _ (kd ag e)))).1
    ·obtain ⟨o,e,d⟩:=T.obj _ _ ih b ag;exact (kZ.pin (b,o) (eu _ (eu _ (kd ag e)))).2.1
 exact wy loop (T.self _ 0 _ _ _ mu loop)
end
section
variable{X:a4}{a b c e:a8}{t:eZ}{aX:TE}{pos p:Pos}
theorem Pp{bj:a8}(a0:eF X "range")(hm:X.mg "range" = none)(au:k0 X [a,b] t)(af:fj a=true:=by rfl)(ao:fj b=true:=by rfl):mx X bj (.Call (.Name "range" p) [a,b] [] pos) (EQ t):=
 ⟨LH a0 hm au.run (by rw [hD af,hD ao];rfl) (by rw [hD ao];rfl)⟩
variable{scope:e4}{N':List Str}{nt:Nat}{cap:List Nat}{elt iter bj:a8}{cT:TI}{g:fZ}
theorem Pq{y:Str}{py iW:Pos}{k:Nat}(aJ:X.calm=true)(cY:X.N.Nodup)(aC:X.N[k]?=some y)(aQ:Loc X.env.scope y)(ok:fD X scope N' nt cap)(aA:mx X bj iter cT)(a0:∀ C ex s H,jj (cX X scope N' C ex s H) bj g)(he:∀ C ex s H,c3 (cX X scope N' C ex s H) elt aX)
 (aB:∀ x,jy iter X.env x=pure x:=by intro _;rfl) (my:j3 (.ListComp elt [⟨bj,iter,[],0⟩] scope pos) (some (.Name y py)) iW.line X.env=pure true:=by rfl) (hf:X.fn y=true\/X.env.scope.names.lookup y=some .local:=by first | exact .inl rfl | exact .inr rfl | assumption) :
 k1 X (.Assign [.Name y py] (.ListComp elt [⟨bj,iter,[],0⟩] scope pos) iW) (pz (uF cT g aX nt cap) (px k)):=⟨Pn aJ cY aC aQ ok aA.run (λ C ex s H=>(a0 C ex s H).run) (λ C ex s H=>(he C ex s H).run) aB my hf⟩
theorem Pr{ct:a8}{bf:TT}{y:Str}{py iW:Pos}{k:Nat}(aJ:X.calm=true)(cY:X.N.Nodup)(aC:X.N[k]?=some y)(aQ:Loc X.env.scope y)(ok:fD X scope N' nt cap)(aA:mx X bj iter cT)(a0:∀ C ex s H,jj (cX X scope N' C ex s H) bj g)
 (bt:∀ C ex s H,hT (cX X scope N' C ex s H) ct bf) (he:∀ C ex s H,c3 (cX X scope N' C ex s H) elt aX)
 (aB:∀ x,jy iter X.env x=pure x:=by intro _;rfl) (my:j3 (.ListComp elt [⟨bj,iter,[ct],0⟩] scope pos) (some (.Name y py)) iW.line X.env=pure true:=by rfl) (hf:X.fn y=true\/X.env.scope.names.lookup y=some .local:=by first | exact .inl rfl | exact .inr rfl | assumption) :
 k1 X (.Assign [.Name y py] (.ListComp elt [⟨bj,iter,[ct],0⟩] scope pos) iW) (pz (uG cT g bf aX nt cap) (px k)):=⟨Po aJ cY aC aQ ok aA.run (λ C ex s H=>(a0 C ex s H).run) (λ C ex s H=>(bt C ex s H).run) (λ C ex s H=>(he C ex s H).run) aB my hf⟩
end
end L2
namespace xK
open PySem PyProof.Rows
theorem Ps:Slot "reversed" "__init__" "object.__init__":=.of (owner:="object") (n:="__init__") (by rw [typeLookup_type,D_];kernel_rfl) (by decide +kernel) (by decide +kernel) (by decide +kernel) (by first | exact .inl (by decide +kernel) | exact .inr (by decide +kernel)) (by rw [zv];kernel_rfl)
theorem Pt:TypeCalled "reversed" "reversed.__new__" "object.__init__":=⟨by decide +kernel,by decide +kernel,⟨_,_,F.mro_reversed⟩,F.made_reversed,by decide +kernel,by rw [zv];kernel_rfl,Ps⟩
theorem Pu:typeLookup (.type "tuple") "__reversed__" = pure none:=by rw [typeLookup_type,D_];kernel_rfl
theorem Pv:isSubtype (.type "tuple") (.type "dict")=pure false:=by rw [zv];kernel_rfl
abbrev Pw(h:b2)(it t:Addr)(k:Int):Prop:=h.get? it=some { cls:=.type "reversed", dict:=none,data:=.fields #[.ref t,kG k],slots:=#[] }
section
variable{prog:c8}{w:cG}{A:d6}{E:Value->aM->Prop}{s:aM}{it t:Addr}
theorem Px{α:Type}{Q:α->aM->Prop}(gF:A.handled=none)(h:∀ h' e,(∀ b o,s.heap.get? b=some o->h'.get? b=some o)->Shared.TypeIs { s with heap:=h' } (.ref e) "StopIteration"->E (.ref e) { s with heap:=h' }):bz (bA prog w) A (Builtin.SmallTypes.stopIteration:Sem α) Q E s:=by
 unfold Builtin.SmallTypes.stopIteration;refine aV ?_;unfold newExc newTuple;refine aV (lp ?_ (by size_fits));rw [show firstArgMember (.type "StopIteration") []=pure Value.none from by unfold firstArgMember;rfl,pure_bind];refine lp ?_ (by size_fits);unfold raiseNew;refine aV (wpAny_handled ?_);rw [gF];exact wpAny_throw (h _ _ (λ b o e=>du _ (du _ e)) ⟨_,gC _ rfl,rfl⟩)
end
theorem nz(t:Addr)(items:Array Value)(hz:(items.size:Int) < 2 ^ 63) :
 Meets (Builtin.«reversed.__new__» ⟨[.type "reversed", .ref t],[]⟩) (λ _ R s=>n1 s.heap t items ∧
  ∀ tk,R (.ok (.ret (.ref s.heap.objs.size))) { s with heap:=s.heap.push { cls:=.type "reversed", data:=.fields #[.ref t,kG ((items.size:Int) - 1)] },toks:=tk }):=
 .of_wp λ prog w A R s ⟨bt,h⟩=>by
  unfold Builtin.«reversed.__new__»;refine aV (wpAny_of_eq (newClass_reversed _) (aV (m:=Builtin.SmallTypes.refuseKeywords _ _ _) (cz ?_)));refine aV (wpAny_of_eq (a:=()) (by rfl) (aV (zu bt.typeIs Pu (aV ?_))));refine (show bz (bA prog w) A.in1 (isInstance (Value.ref t) (.type "dict") >>= _) _ _ s from aV (wpAny_isInstance (T:="tuple") (b:=false) bt.typeIs Pv ?_));rw [if_neg (by decide)];refine aV (zu bt.typeIs slot_tuple_getitem.lookup ?_);refine (show bz (bA prog w) A.in1 (if (["tuple.__getitem__", "str.__getitem__", "bytes.__getitem__", "bytearray.__getitem__", "memoryview.__getitem__", "numpy.ndarray.__getitem__", "sqlite3.Row.__getitem__"].contains "tuple.__getitem__")=true then _ else _) _ _ s from ?_);rw [if_pos (by decide)];refine cz ?_;rw [if_neg (by decide)];refine (show bz (bA prog w) A.in1 (call (.builtin "len") [.ref t] >>= _) _ _ s from aV (len_tuple bt hz ?_));refine aV (m:=asInt? (.int (items.size:Int) _)) (cz ?_);refine (show bz (bA prog w) A.in1 (newObj (.type "reversed") (.fields #[.ref t,kG ((items.size:Int) - 1)]) >>= _) _ _ _ from aV (lp ?_ (by size_fits)));exact cz ⟨_,rfl,h _⟩
theorem Py{prog:c8}{w:cG}{A:d6}{E:Value->aM->Prop}{s:aM}{t:Addr}{items:Array Value}{Q:Value->aM->Prop}(bt:n1 s.heap t items)(hz:(items.size:Int) < 2 ^ 63)
 (h:∀ tk,Q (.ref s.heap.objs.size) { s with heap:=s.heap.push { cls:=.type "reversed", data:=.fields #[.ref t,kG ((items.size:Int) - 1)] },toks:=tk }):bz (bA prog w) A (call (.type "reversed") [.ref t]) Q E s:=
 callType_new Pt (by decide) (F.typeCall_reversed_1 _) (F.newCall_reversed_1 _) (λ obj=>F.args_object_init_2 obj _) F.entry_reversed_new (nz t items hz) ⟨bt,λ tk=>⟨⟨_,gC _ rfl,rfl⟩,h tk⟩⟩
end xK
namespace L2
open PySem PySem.Spec PyProof.Rows
section
variable{X:a4}{e:a8}{aX:TE}{p cc pos xL:Pos}
def Pz(X:a4)(pins:List (Addr × Obj))(σ:St)(R:Addr->List V->ar->Prop)(v:Value)(s:aM):Prop:=
 ∃(a it:Addr)(xs:List V)(aN:List Value)(H:ar),v=.ref it/\Inv X pins σ H s/\xK.Pw s.heap it a ((aN.toArray.size:Int) - 1)/\n1 s.heap a aN.toArray/\a≠it/\Vals xs aN/\aN.toArray.size<=sizeLine/\dD X.K H a xs/\h_ X pins H it/\R a xs H
def PA(X:a4)(pins:List (Addr × Obj))(σ:St)(R:Addr->List V->ar->Prop)(v:Value)(s:aM):Prop:=
 ∃(a it:Addr)(xs:List V)(aN:List Value)(H:ar),v=.ref it/\Inv X pins σ H s/\s.heap.IsRevIter it a ((aN.toArray.size:Int) - 1)/\s.heap.IsList a aN.toArray/\a≠it/\Vals xs aN/\aN.toArray.size<=sizeLine/\fi X.K H a xs/\h_ X pins H it/\R a xs H
theorem Y3{pins:List (Addr × Obj)}{s:aM}{σ:St}{H:ar}{R:Addr->List V->ar->Prop}(a0:eF X "reversed")(hm:X.mg "reversed" = none)(he:b1 X e aX)(aB:fj e=true)(I:Inv X pins σ H s)
 (h:aX σ H λ x H1=>∃ a xs,x=.ref a/\dD X.K H1 a xs/\R a xs H1):bz (bA X.prog X.w) X.A (eval (.Call (.Name "reversed" cc) [e] [] xL) X.env) (Pz X pins σ R) X.xe s:=by
 refine oZ (pp I a0 hm PyProof.Rows.boot_reversed ?_);refine sq ?_ (hD aB) rfl;rw [hD aB];show bz _ _ (spliced ((false,eval e X.env)::gj xL (dp [] X.env))) _ _ s;refine Calls.spliced_cons (bZ (he pins s σ H _ I h) λ u s1 ⟨x,H1,aY,be,a,xs,ex,bn,q⟩=>Calls.spliced_nil ?_);subst ex;cases be;obtain ⟨aN,bo,pl,hz⟩:=aY.tuple bn;have aP:=bo.length;have Y4:=oa;refine xK.Py pl (by rw [dG];omega) λ tk=>?_;exact ⟨a,s1.heap.objs.size,xs,aN,H1,rfl,aY.kept λ b o e=>du _ e,gC _ rfl,pl.push _,eY pl.lt,bo,by rw [dG];omega,bn,aY.sE (b7 _) (aY.bO.fresh (b7 _)),q⟩
theorem PB{pins:List (Addr × Obj)}{s:aM}{σ:St}{H:ar}{R:Addr->List V->ar->Prop}(a0:eF X "reversed")(hm:X.mg "reversed" = none)(he:b1 X e aX)(aB:fj e=true)(I:Inv X pins σ H s)
 (h:aX σ H λ x H1=>∃ a xs,x=.ref a/\fi X.K H1 a xs/\R a xs H1):bz (bA X.prog X.w) X.A (eval (.Call (.Name "reversed" cc) [e] [] xL) X.env) (PA X pins σ R) X.xe s:=by
 refine oZ (pp I a0 hm PyProof.Rows.boot_reversed ?_);refine sq ?_ (hD aB) rfl;rw [hD aB];show bz _ _ (spliced ((false,eval e X.env)::gj xL (dp [] X.env))) _ _ s;refine Calls.spliced_cons (bZ (he pins s σ H _ I h) λ u s1 ⟨x,H1,aY,be,a,xs,ex,bn,q⟩=>Calls.spliced_nil ?_);subst ex;cases be;obtain ⟨aN,bo,pl,hz⟩:=aY.list bn;have aP:=bo.length
 have iX:a < s1.heap.objs.size:=by obtain ⟨o,bb,_⟩:=pl.isList;exact dW bb
 refine call_reversed_list pl.isList ?_;exact ⟨a,s1.heap.objs.size,xs,aN,H1,rfl,aY.kept (t':=s1.toks) λ b o e=>du _ e,⟨_,gC _ rfl,rfl,rfl⟩,let ⟨o,bb,r⟩:=pl.isList;⟨o,du _ bb,r⟩,eY iX,bo,by rw [dG];omega,bn,aY.sE (b7 _) (aY.bO.fresh (b7 _)),q⟩
end
end L2
namespace uU
open PySem PyProof.Rows
section
variable{prog:c8}{w:cG}{A:d6}{E:Value->aM->Prop}{s:aM}
theorem F2{it t:Addr}{i:Nat}{items:Array Value}{x:Value}{Q:Value->aM->Prop}(hit:s.heap.IsTupleIter it t i)(bt:s.heap.IsTuple t items)(aq:items[i]?=some x)
 (iR:∀ h',h'.IsTupleIter it t (i+1)->Heap.SameBut it s.heap h'->Q x { s with heap:=h' }):bz (bA prog w) A (Builtin.SmallTypes.nextOf (.ref it)) Q E s:=by
 obtain ⟨o,bb,aJ,hd⟩:=id hit;obtain ⟨ol,q8,_,nl,An⟩:=bt;unfold Builtin.SmallTypes.nextOf;refine aV (wpAny_callSpecial?_slot hit.typeIs F.slot_tuple_iterator_next (sa F.slot_tuple_iterator_next hit.typeIs F.entry_tuple_iterator_next ?_ (F.args_tuple_iterator_next_1 _)));refine (show bz (bA prog w) A.in1 (o8 (.ref it) 0 >>= _) _ _ s from aV (jz bb hd (x:=.ref t) rfl ?_));refine (show bz (bA prog w) A.in1 (if (Value.ref t==Value.none)=true then _ else _) _ _ s from ?_);rw [if_neg (show ¬ ((Value.ref t==Value.none)=true) from iz)];refine (show bz (bA prog w) A.in1 (o8 (.ref it) 1 >>= _) _ _ s from aV (jz bb hd (x:=.int i 0) rfl ?_));refine (show bz (bA prog w) A.in1 (seqItems? (.ref t) >>= _) _ _ s from aV (XL q8 An ?_));simp only [w3,aq];refine aV (wpAny_setField bb hd (by simp) (cz ⟨x,rfl,cz (iR _ ⟨_,Heap.get?_update_self _ bb (Obj.isFreed_of_fields (Obj.data_mapFields hd _)),(Obj.cls_mapFields ..).trans aJ,?_⟩ (Heap.SameBut.update ..))⟩));rw [Obj.data_mapFields hd];simp [kG]
theorem PC{it t:Addr}{i:Nat}{items:Array Value}{Q:Value->aM->Prop}(gF:A.handled=none)(hit:s.heap.IsTupleIter it t i)(bt:s.heap.IsTuple t items)(aq:items[i]?=none)
 (uV:∀ h' e,Heap.ExtBut it s.heap h'->Shared.TypeIs { s with heap:=h' } (.ref e) "StopIteration"->E (.ref e) { s with heap:=h' }):bz (bA prog w) A (Builtin.SmallTypes.nextOf (.ref it)) Q E s:=by
 obtain ⟨o,bb,aJ,hd⟩:=id hit;obtain ⟨ol,q8,_,nl,An⟩:=bt;unfold Builtin.SmallTypes.nextOf;refine aV (wpAny_callSpecial?_slot hit.typeIs F.slot_tuple_iterator_next (sa F.slot_tuple_iterator_next hit.typeIs F.entry_tuple_iterator_next ?_ (F.args_tuple_iterator_next_1 _)));refine (show bz (bA prog w) A.in1 (o8 (.ref it) 0 >>= _) _ _ s from aV (jz bb hd (x:=.ref t) rfl ?_));refine (show bz (bA prog w) A.in1 (if (Value.ref t==Value.none)=true then _ else _) _ _ s from ?_);rw [if_neg (show ¬ ((Value.ref t==Value.none)=true) from iz)];refine (show bz (bA prog w) A.in1 (o8 (.ref it) 1 >>= _) _ _ s from aV (jz bb hd (x:=.int i 0) rfl ?_));refine (show bz (bA prog w) A.in1 (seqItems? (.ref t) >>= _) _ _ s from aV (XL q8 An ?_));simp only [w3,aq];refine aV (XV (aV (wpAny_setField bb hd (by simp) ?_)));exact xK.Px (A:=A.in1) gF λ h' e cj aB=>uV _ e (λ b dR ag e'=>cj b dR ((Heap.SameBut.update ..).extBut b dR ag e')) aB
structure St(z TI ez bq bM cf cK:Addr)(f0:Value)(i:Nat)(h:b2):Prop where
 zip:o9 h z TI ez f0
 e6:o5 h TI (.ref bq) (.ref bM)
 to:∃ a b,o5 h ez a b
 Y5:h.IsTupleIter bq cf i
 Y6:h.IsTupleIter bM cK i
variable{z TI ez bq bM cf cK:Addr}{i:Nat}{xs a3:Array Value}
theorem PD{x y:Value}{Q:Option Value->aM->Prop}(D:t2 z TI ez bq bM cf cK)(st:St z TI ez bq bM cf cK .none i s.heap)(q9:s.heap.IsTuple cf xs)(kY:s.heap.IsTuple cK a3)(aq:xs[i]?=some x)(aQ:a3[i]?=some y)
 (iR:∀ h',St z TI ez bq bM cf cK (kG s.heap.objs.size) (i+1) h'->o5 h' s.heap.objs.size x y->(∀ c o,c≠z->c≠ez->c≠bq->c≠bM->s.heap.get? c=some o->h'.get? c=some o)->Q (some (.ref s.heap.objs.size)) { s with heap:=h' }) :
 bz (bA prog w) A (o4 (.ref z)) Q E s:=by
 obtain ⟨hz,xM,⟨a,b,F3⟩,af,ao⟩:=st
 have dy:s.TypeIs (.ref z) "zip":=⟨_,hz,rfl⟩
 unfold o4;refine aV (wpAny_attempt (wpAny_callSpecial?_slot dy F.slot_zip_next (sa F.slot_zip_next dy F.entry_zip_next ?_ (F.args_zip_next_1 _))));refine (show bz (bA prog w) A.in1 (o8 (.ref z) 2 >>= _) _ _ _ from aV (jz hz rfl (x:=.bool false) rfl ?_));refine (show bz (bA prog w) A.in1 (o8 (.ref z) 3 >>= _) _ _ _ from aV (jz hz rfl (x:=.ref TI) rfl (aV (XL xM rfl ?_))));refine (show bz (bA prog w) A.in1 (Builtin.SmallTypes.ownedTupleIsFree (.ref z) >>= _) _ _ _ from aV ?_);unfold Builtin.SmallTypes.ownedTupleIsFree;refine aV (jz hz rfl (x:=.none) rfl (cz ?_));simp only [if_true];refine aV (XV (aV (jz hz rfl (x:=.ref ez) rfl (aV (tU hz (by simp) λ g1 q_ ec=>aV ?_)))))
 replace q_:o9 g1 z TI ez .ellipsis:=q_
 simp only [List.zipIdx_cons,List.zipIdx_nil,wR,List.forIn_nil];refine aV (aV (zy ?_));refine (show bz (bA prog w) A.in1 (Builtin.SmallTypes.nextOf (.ref bq) >>= _) _ _ _ from aV (F2 (af.extBut ec.extBut D.i1z) (q9.extBut ec.extBut D.l1z) aq λ g2 gw cF=>cz ?_));have F4:o5 g2 ez a b:=cF.extBut _ _ D.TOi1 (ec.extBut _ _ D.TOz F3);refine aV (XL F4 rfl (aV (wpAny_updateSeq_pair F4 λ g3 Ao fw=>aV (wpAny_letGo (cz ?_)))))
 replace Ao:o5 g3 ez x b:=Ao
 refine aV (aV (zy ?_));refine (show bz (bA prog w) A.in1 (Builtin.SmallTypes.nextOf (.ref bM) >>= _) _ _ _ from aV (F2 (((ao.extBut ec.extBut D.i2z).extBut cF.extBut D.i12.symm).extBut fw.extBut D.TOi2.symm) (((kY.extBut ec.extBut D.l2z).extBut cF.extBut D.l2i1).extBut fw.extBut D.l2TO) aQ λ hU kl sL=>cz ?_));have F5:o5 hU ez x b:=sL.extBut _ _ D.TOi2 Ao;refine aV (XL F5 rfl (aV (wpAny_updateSeq_pair F5 λ f3 xN ra=>aV (wpAny_letGo (cz (cz ?_))))))
 replace xN:o5 f3 ez x y:=xN
 refine aV (XL xN rfl (aV (wpAny_newTuple ?_)))
 have eQ:f3.objs.size=s.heap.objs.size:=by rw [ra.1,sL.1,fw.1,cF.1,ec.1]
 have F6:o9 f3 z TI ez .ellipsis:=ra.extBut _ _ D.TOz.symm (sL.extBut _ _ D.i2z.symm (fw.extBut _ _ D.TOz.symm (cF.extBut _ _ D.i1z.symm q_)));have keep:∀ c o,c≠z->c≠ez->c≠bq->c≠bM->s.heap.get? c=some o->f3.get? c=some o:=λ c o c1 c2 hE ot e=>ra.extBut _ _ c2 (sL.extBut _ _ ot (fw.extBut _ _ c2 (cF.extBut _ _ hE (ec.extBut _ _ c1 e))));have PE:f3.IsTupleIter bq cf (i+1):=((gw.extBut fw.extBut D.TOi1.symm).extBut sL.extBut D.i12).extBut ra.extBut D.TOi1.symm;have PF:f3.IsTupleIter bM cK (i+1):=kl.extBut ra.extBut D.TOi2.symm;refine (show bz (bA prog w) A.in1 (Builtin.SmallTypes.ownedTupleHandOut (.ref z) (.ref f3.objs.size) >>= _) _ _ _ from aV ?_);unfold Builtin.SmallTypes.ownedTupleHandOut;have PG:o9 (f3.push { cls:=.type "tuple", data:=.seq #[x,y] }) z TI ez .ellipsis:=du _ F6;refine aV (tU PG (by simp) λ rb Ap F7=>?_)
 replace Ap:o9 rb z TI ez (kG f3.objs.size):=Ap
 refine tU Ap (by simp) λ xO xP F8=>?_
 replace xP:o9 xO z TI ez (kG f3.objs.size):=xP
 have up:∀ c o,c≠z->f3.get? c=some o->xO.get? c=some o:=λ c o c1 e=>F8.extBut _ _ c1 (F7.extBut _ _ c1 (du _ e));have F9:f3.objs.size≠z:=t7 (dW F6);have F_:o5 xO f3.objs.size x y:=F8.extBut _ _ F9 (F7.extBut _ _ F9 (gC _ rfl));rw [eQ] at xP F_;refine cz ⟨_,rfl,cz ?_⟩;rw [eQ];exact iR xO ⟨xP,up _ _ D.TIz (keep _ _ D.TIz D.TITO D.TIi1 D.TIi2 xM),⟨x,y,up _ _ D.TOz xN⟩,let ⟨o,bb,r⟩:=PE;⟨o,up _ _ D.i1z bb,r⟩,let ⟨o,bb,r⟩:=PF;⟨o,up _ _ D.i2z bb,r⟩⟩ F_ λ c o c1 c2 hE ot e=>up c o c1 (keep c o c1 c2 hE ot e)
theorem PH{Q:Option Value->aM->Prop}(gF:A.handled=none)(D:t2 z TI ez bq bM cf cK)(st:St z TI ez bq bM cf cK .none i s.heap)(q9:s.heap.IsTuple cf xs)(aq:xs[i]?=none)
 (iR:∀ h',(∀ c o,c≠z->c≠ez->c≠bq->c≠bM->s.heap.get? c=some o->h'.get? c=some o)->Q none { s with heap:=h' }):bz (bA prog w) A (o4 (.ref z)) Q E s:=by
 obtain ⟨hz,xM,⟨a,b,F3⟩,af,ao⟩:=st
 have dy:s.TypeIs (.ref z) "zip":=⟨_,hz,rfl⟩
 unfold o4;refine aV (wpAny_attempt (wpAny_callSpecial?_slot dy F.slot_zip_next (sa F.slot_zip_next dy F.entry_zip_next ?_ (F.args_zip_next_1 _))));refine (show bz (bA prog w) A.in1 (o8 (.ref z) 2 >>= _) _ _ _ from aV (jz hz rfl (x:=.bool false) rfl ?_));refine (show bz (bA prog w) A.in1 (o8 (.ref z) 3 >>= _) _ _ _ from aV (jz hz rfl (x:=.ref TI) rfl (aV (XL xM rfl ?_))));refine (show bz (bA prog w) A.in1 (Builtin.SmallTypes.ownedTupleIsFree (.ref z) >>= _) _ _ _ from aV ?_);unfold Builtin.SmallTypes.ownedTupleIsFree;refine aV (jz hz rfl (x:=.none) rfl (cz ?_));simp only [if_true];refine aV (XV (aV (jz hz rfl (x:=.ref ez) rfl (aV (tU hz (by simp) λ g1 q_ ec=>aV ?_)))))
 replace q_:o9 g1 z TI ez .ellipsis:=q_
 simp only [List.zipIdx_cons,List.zipIdx_nil,wR,List.forIn_nil];refine aV (aV (zy ?_));refine (show bz (bA prog w) A.in1 (Builtin.SmallTypes.nextOf (.ref bq) >>= _) _ _ _ from aV (PC (A:=A.in1) gF (af.extBut ec.extBut D.i1z) (q9.extBut ec.extBut D.l1z) aq λ g2 e cF he=>?_));obtain ⟨Ga,Gb,Gc⟩:=he;have gv:o9 g2 z TI ez .ellipsis:=cF _ _ D.i1z.symm q_
 have PI:e≠z:=λ q=>by
  subst q;have bu:some _=some Ga:=Eq.trans (Eq.symm gv) Gb;cases bu;simp at Gc
 refine tU gv (by simp) λ g3 _ fw=>?_;refine aV (wpAny_isInstance (T:="StopIteration") (b:=true) ⟨Ga,fw.extBut _ _ PI Gb,Gc⟩ isSubtype_stop (cz (iR _ λ c o c1 _ hE _ q=>?_)));exact fw.extBut _ _ c1 (cF _ _ hE (ec.extBut _ _ c1 q))
end
abbrev g1(h:b2)(cf:Addr):b2:=h.push { cls:=.type "tuple_iterator", data:=.fields #[.ref cf,.int 0 0] }
abbrev g2(h:b2)(cf cK:Addr):b2:=(g1 h cf).push { cls:=.type "tuple_iterator", data:=.fields #[.ref cK,.int 0 0] }
abbrev g3(h:b2)(cf cK:Addr):b2:=(g2 h cf cK).push { cls:=.type "tuple", data:=.seq #[.ref h.objs.size,.ref (g1 h cf).objs.size] }
abbrev hU(h:b2)(cf cK:Addr):b2:=(g3 h cf cK).push { cls:=.type "tuple", data:=.seq #[.none,.none] }
abbrev f3(h:b2)(cf cK:Addr):b2:=(hU h cf cK).push { cls:=.type "zip", data:=.fields #[.none,.bool false,.bool false,.ref (g2 h cf cK).objs.size,.ref (g3 h cf cK).objs.size] }
theorem PJ(cf cK:Addr)(xs a3:Array Value) :
 Meets (Builtin.«zip.__new__» ⟨[.type "zip", .ref cf,.ref cK],[]⟩) (λ _ R s=>s.heap.IsTuple cf xs/\s.heap.IsTuple cK a3/\R (.ok (.ret (.ref (hU s.heap cf cK).objs.size))) { s with heap:=f3 s.heap cf cK }):=
 .of_wp λ prog w A R s h=>by
  obtain ⟨aj,g,d,tk,os⟩:=s;obtain ⟨q9,kY,h⟩:=h;have Y7:=sub_zip;have Aq:Heap.IsTuple (Shared.heap ⟨aj,g,d,tk,os⟩) cf xs:=q9;have Ar:Heap.IsTuple (Shared.heap ⟨g1 aj cf,g,d,tk,os⟩) cK a3:=Heap.IsTuple.push kY _
  wp_walk using zr Aq,zr Ar
  exact ⟨_,rfl,h⟩
theorem PK{prog:c8}{w:cG}{A:d6}{E:Value->aM->Prop}{s:aM}{cf cK:Addr}{xs a3:Array Value}{Q:Value->aM->Prop}(q9:s.heap.IsTuple cf xs)(kY:s.heap.IsTuple cK a3)
 (h:∀ h',St (s.heap.objs.size+4) (s.heap.objs.size+2) (s.heap.objs.size+3) s.heap.objs.size (s.heap.objs.size+1) cf cK .none 0 h'->(∀ c o,s.heap.get? c=some o->h'.get? c=some o)->Q (.ref (s.heap.objs.size+4)) { s with heap:=h' }) :
 bz (bA prog w) A (call (.type "zip") [.ref cf,.ref cK]) Q E s:=by
 refine callType_new F.called_zip (by decide) (F.typeCall_zip_2 _ _) (F.newCall_zip_2 _ _) (λ obj=>F.args_object_init_3 obj _ _) F.entry_zip_new (PJ cf cK xs a3) ⟨q9,kY,?_⟩;have bF:(g1 s.heap cf).objs.size=s.heap.objs.size+1:=m6 ..
 have bU:(g2 s.heap cf cK).objs.size=s.heap.objs.size+2:=by rw [m6,bF]
 have dg:(g3 s.heap cf cK).objs.size=s.heap.objs.size+3:=by rw [m6,bU]
 have hc:(hU s.heap cf cK).objs.size=s.heap.objs.size+4:=by rw [m6,dg]
 have sM:(f3 s.heap cf cK).get? (hU s.heap cf cK).objs.size=some _:=gC _ rfl;have sJ:(f3 s.heap cf cK).get? (g3 s.heap cf cK).objs.size=some _:=du _ (gC _ rfl);have gm:(f3 s.heap cf cK).get? (g2 s.heap cf cK).objs.size=some _:=du _ (du _ (gC _ rfl));have aW:(f3 s.heap cf cK).get? (g1 s.heap cf).objs.size=some _:=du _ (du _ (du _ (gC _ rfl)));have az:(f3 s.heap cf cK).get? s.heap.objs.size=some _:=du _ (du _ (du _ (du _ (gC _ rfl))));rw [bU,dg,hc] at sM;rw [bF,bU] at gm;rw [dg] at sJ;rw [bF] at aW;show _/\_;rw [hc];exact ⟨⟨_,sM,rfl⟩,h _ ⟨sM,gm,⟨_,_,sJ⟩,⟨_,az,rfl,rfl⟩,⟨_,aW,rfl,rfl⟩⟩ λ c o x=>du _ (du _ (du _ (du _ (du _ x))))⟩
end uU
namespace L2
open PySem PySem.Spec PyProof.Rows
theorem Inv.Gd{X:a4}{pins:List (Addr × Obj)}{σ:St}{H:ar}{s:aM}{h':b2}{t':Nat}{fp:List Addr}(I:Inv X pins σ H s)(hf:∀ b∈fp,h_ X pins H b)(k:∀ b o,b ∉ fp->s.heap.get? b=some o->h'.get? b=some o):Inv X pins σ H { s with heap:=h',toks:=t' }:=by
 have ug:∀ b u,H b=some u->b ∉ fp:=λ b u e z=>by rw [(hf b z).1] at e;cases e
 refine I.step (g':=s.gens) (d':=s.drawn) (ch:=fp) (λ b ag=>?_) (λ b o _ _ aJ e _=>k b o aJ e) (λ b o _ _ aJ e _=>⟨o.slots,k b o aJ e⟩) (λ _ _ _ _ n=>n)
  (λ b o aJ e=>⟨o,k b o aJ e⟩) (λ _ _ e=>e) (λ _ _ _ e=>e) (λ b ps e=>⟨#[],by rw [e];simp⟩) (λ m hm=>?_) (λ b u e=>?_) I.bare
 ·obtain ⟨f0,f1,f2,dl,f4,hl⟩:=hf b ag;exact ⟨dl,f1,f4,hl⟩
 ·obtain ⟨o,aw,fg,bb,r⟩:=hm;exact ⟨o,aw,fg,k _ o (λ z=>(hf _ z).2.1 rfl) bb,r⟩
 ·refine (I.bO b u e).l3 (λ c v aJ q=>k c v ?_ q) (λ _ q=>q) λ _ _ q=>q;rcases aJ with z | z
  ·rw [z];exact ug b u e
  ·exact ug c _ z
theorem apart(n a b:Nat)(af:a < n)(ao:b < n):t2 (n+4) (n+2) (n+3) n (n+1) a b:=by
 constructor<;>(intro e;have e':(@Eq Nat _ _):=e;omega)
def Ge(K:a6)(a b:Addr):lA:=
 ⟨λ i H=>∃ xs a3 x y,dD K H a xs/\dD K H b a3/\xs[i]?=some x/\a3[i]?=some y,λ i H v ai=>∃ T x y,v=.ref T/\H T=none/\ai=upd H T (.tup [x,y])/\(∀ xs,dD K H a xs->xs[i]?=some x)/\∀ a3,dD K H b a3->a3[i]?=some y,λ i H=>∃ xs,dD K H a xs/\xs.length<=i⟩
theorem PL{P:c8}{w:cG}{K:a6}{aw:List a8}{k:Nat}{pos:Pos}{z TI ez bq bM cf cK:Addr}(D:t2 z TI ez bq bM cf cK) :
 Turn P w K (.Tuple aw k pos) (Ge K cf cK) [z,TI,ez,bq,bM] z (λ i h=>uU.St z TI ez bq bM cf cK .none i h) where
 mem:=by simp
 obj:=λ i h st b ag=>by
  simp only [ea,m1,or_false] at ag;obtain ⟨a1,a2,⟨p,q,pI⟩,⟨km,pJ,_,As⟩,⟨kn,rd,_,At⟩⟩:=st;rcases ag with rfl | rfl | rfl | rfl | rfl
  ·exact ⟨_,a1,λ v e=>by cases (show Data.fields _=Data.cell v from e)⟩
  ·exact ⟨_,a2,λ v e=>by cases (show Data.seq _ _=Data.cell v from e)⟩
  ·exact ⟨_,pI,λ v e=>by cases (show Data.seq _ _=Data.cell v from e)⟩
  ·exact ⟨_,pJ,λ v e=>by rw [As] at e;cases e⟩
  ·exact ⟨_,rd,λ v e=>by rw [At] at e;cases e⟩
 keep:=λ i h h' st cj=>by
  obtain ⟨a1,a2,⟨p,q,pI⟩,⟨km,pJ,um⟩,⟨kn,rd,qE⟩⟩:=st;exact ⟨cj _ (by simp) _ a1,cj _ (by simp) _ a2,⟨p,q,cj _ (by simp) _ pI⟩,⟨km,cj _ (by simp) _ pJ,um⟩,⟨kn,cj _ (by simp) _ rd,qE⟩⟩
 item:=by
  intro X ia hw fu aJ i pins s σ H E I hf st a0;subst ia hw fu;obtain ⟨xs,a3,x,y,xQ,Gf,aq,aQ⟩:=a0;obtain ⟨uW,xR,df,_⟩:=I.tuple xQ;obtain ⟨dz,Gg,cc,_⟩:=I.tuple Gf;obtain ⟨bV,PM,PN⟩:=xR.get aq;obtain ⟨b8,PO,PQ⟩:=Gg.get aQ;refine uU.PD D st (show s.heap.IsTuple cf uW.toArray from df) (show s.heap.IsTuple cK dz.toArray from cc) (x:=bV) (y:=b8) (by simpa using PM) (by simpa using PO) λ h' iU dy cj=>?_;refine ⟨_,rfl,wpAny_letOwnedTupleGo_zip iU.zip λ ao gv cF=>?_⟩
  have PR:∀ b o,b ∉ [z,TI,ez,bq,bM]->s.heap.get? b=some o->ao.get? b=some o:=λ b o ag e=>by
   simp only [ea,m1,or_false,not_or] at ag;exact cF.extBut _ _ ag.1 (cj b o ag.1 ag.2.2.1 ag.2.2.2.1 ag.2.2.2.2 e)
  have aY:Inv X pins σ (upd H s.heap.objs.size (.tup [x,y])) { s with heap:=s.heap.push { cls:=.type "tuple", data:=.seq #[bV,b8] } }:=
   I.laid (t':=s.toks) (λ b o e=>du _ e) (b7 _) (show fY X.prog X.w _ _ _ (.tup [x,y]) from ⟨by show 2<=sizeLine;decide,[bV,b8],.cons PN (.cons PQ .nil),IsTup.new _ _⟩)
  have PS:s.heap.objs.size≠z:=t7 (dW st.zip)
  have Gh:∀ b∈[z,TI,ez,bq,bM],b < s.heap.objs.size:=λ b ag=>by
   obtain ⟨a1,a2,⟨p,q,pI⟩,⟨km,pJ,_⟩,⟨kn,rd,_⟩⟩:=st;simp only [ea,m1,or_false] at ag;rcases ag with rfl | rfl | rfl | rfl | rfl
   ·exact dW a1
   ·exact dW a2
   ·exact dW pI
   ·exact dW pJ
   ·exact dW rd
  have ck:Inv X pins σ (upd H s.heap.objs.size (.tup [x,y])) { s with heap:=ao }:=
   Inv.Gd (s:={ s with heap:=s.heap.push { cls:=.type "tuple", data:=.seq #[bV,b8] } }) (h':=ao) (t':=s.toks) (fp:=[z,TI,ez,bq,bM]) aY (λ b ag=>by
    obtain ⟨f0,fr⟩:=hf b ag
    exact ⟨by rw [cH (eY (Gh b ag))];exact f0,fr⟩) (λ b o ag e=>by
    rcases Heap.get?_push_cases e with ⟨az,aW⟩ | e
    ·rw [az,aW];exact cF.extBut _ _ PS dy
    ·exact PR b o ag e)
  refine ⟨.ref s.heap.objs.size,_,ck,rfl,⟨_,x,y,rfl,I.bO.fresh (b7 _),rfl,λ N0 h=>by rw [I.uj h xQ];exact aq,λ Y8 h=>by rw [I.uj h Gf];exact aQ⟩,?_,λ b ag=>by rw [cH (eY (Gh b ag))];exact (hf b ag).1⟩;obtain ⟨a1,a2,⟨p,q,pI⟩,⟨km,pJ,um⟩,⟨kn,rd,qE⟩⟩:=iU;exact ⟨gv,cF.extBut _ _ D.TIz a2,⟨p,q,cF.extBut _ _ D.TOz pI⟩,⟨km,cF.extBut _ _ D.i1z pJ,um⟩,⟨kn,cF.extBut _ _ D.i2z rd,qE⟩⟩
 done:=by
  intro X ia hw fu aJ i pins s σ H E I hf st a0;subst ia hw fu;obtain ⟨xs,xQ,aq⟩:=a0;obtain ⟨uW,xR,df,_⟩:=I.tuple xQ;have aP:=xR.length
  refine uU.PH (I.ok.hd aJ) D st (show s.heap.IsTuple cf uW.toArray from df) (by simp;omega) λ h' cj=>⟨rfl,?_⟩
  exact I.Gd (t':=s.toks) (fp:=[z,TI,ez,bq,bM]) hf λ b o ag e=>by
   simp only [ea,m1,or_false,not_or] at ag;exact cj b o ag.1 ag.2.2.1 ag.2.2.2.1 ag.2.2.2.2 e
 self:=λ _ _ _ _ _ st h=>wpAny_pyIter_zip st.zip h
section
variable{X:a4}
def Gi(K:a6)(t:eZ):TI:=λ σ H R=>t σ H λ vs H1=>∃ a b,vs=[.ref a,.ref b]/\(∃ xs,dD K H1 a xs)/\(∃ a3,dD K H1 b a3)/\R (Ge K a b) H1
theorem PT{aw:List a8}{k:Nat}{dF:Pos}{a b:a8}{t:eZ}{p pos:Pos}(a0:eF X "zip")(hm:X.mg "zip" = none)(au:hQ X [a,b] t)(af:fj a=true)(ao:fj b=true):mc X (.Tuple aw k dF) (.Call (.Name "zip" p) [a,b] [] pos) (Gi X.K t):=by
 intro pins s σ H R I h;have aB:dp [a,b] X.env=(false,eval a X.env)::dp [b] X.env:=hD af
 have aj:(gj pos (dp [b] X.env)).any (·.1)=false:=by rw [hD ao];rfl
 refine Call_ (pp I a0 hm PyProof.Rows.boot_zip (sq (bZ (au pos pins s σ H _ I h) λ us s1 ⟨vs,H1,aY,be,cf,cK,ev,⟨xs,aE⟩,⟨a3,bu⟩,q⟩=>?_) aB aj));subst ev
 cases be with
 | cons r ew=>
  cases ew with
  | cons dS ew=>
   cases ew;cases r;cases dS;obtain ⟨uW,xR,df,_⟩:=aY.tuple aE;obtain ⟨dz,Gg,cc,_⟩:=aY.tuple bu;refine uU.PK (show s1.heap.IsTuple cf uW.toArray from df) (show s1.heap.IsTuple cK dz.toArray from cc) λ h' st cj=>wpAny_pyIter_zip st.zip ?_;have cv:=df.lt;have e0:=cc.lt;have D:t2 (s1.heap.objs.size+4) (s1.heap.objs.size+2) (s1.heap.objs.size+3) s1.heap.objs.size (s1.heap.objs.size+1) cf cK:=apart _ _ _ cv e0;refine ⟨s1.heap.objs.size+4,_,_,_,H1,rfl,aY.kept (t':=s1.toks) cj,PL D,st,λ b ag=>?_,q⟩
   have xS:s1.heap.objs.size<=b:=by
    simp only [ea,m1,or_false] at ag;rcases ag with e | e | e | e | e<;>(rw [e];first | exact b7 _ | exact Nat.le_add_right _ _)
   exact aY.sE xS (aY.bO.fresh xS)
theorem PU{aw:List a8}{k:Nat}{dF:Pos}{a b:a8}{t:eZ}{p pos:Pos}(a0:eF X "zip")(hm:X.mg "zip" = none)(au:k0 X [a,b] t)(af:fj a=true:=by rfl)(ao:fj b=true:=by rfl):mx X (.Tuple aw k dF) (.Call (.Name "zip" p) [a,b] [] pos) (Gi X.K t):=⟨PT a0 hm au.run af ao⟩
end
def gg(o:Obj):gU:=.gD o (.ext λ _=>True)
def less(H:ar)(as:List Addr):ar:=λ b=>if b∈as then none else H b
def more(H:ar)(as:List Addr)(ou:ar):ar:=λ b=>if b∈as then ou b else H b
theorem uX{H:ar}{as:List Addr}{b:Addr}(h:b∈as):less H as b=none:=by unfold less;rw [if_pos h]
theorem hF{H:ar}{as:List Addr}{b:Addr}(h:b ∉ as):less H as b=H b:=by unfold less;rw [if_neg h]
theorem uY{H ou:ar}{as:List Addr}{b:Addr}(h:b∈as):more H as ou b=ou b:=by unfold more;rw [if_pos h]
theorem nA{H ou:ar}{as:List Addr}{b:Addr}(h:b ∉ as):more H as ou b=H b:=by unfold more;rw [if_neg h]
theorem rf{H:ar}{as:List Addr}{b:Addr}(h:H b=none):less H as b=none:=by unfold less;split<;>first | rfl | exact h
section
variable{P:c8}{w:cG}{H ai:ar}{h h':b2}{as:List Addr}
def pK(H:ar)(as:List Addr):Prop:=∀ a∈as,∃ o,H a=some (gg o)
theorem pL{a:Addr}{o:Obj}(ok:en P w H h)(e:H a=some (gg o)):h.get? a=some o:=(ok a _ e).1
theorem uZ{a:Addr}{o:Obj}(e:h.get? a=some o):fY P w H h a (gg o):=⟨e,trivial,⟨o,e⟩,λ _ _ _ _=>trivial⟩
theorem en.less(ok:en P w H h)(dA:pK H as):en P w (less H as) h:=λ b u e=>by
 have ag:b ∉ as:=λ z=>by rw [uX z] at e;cases e
 rw [hF ag] at e;refine (ok b u e).l3 (λ c v _ q=>q) (λ c q=>?_) λ c xs q=>?_
 ·rw [hF λ z=>?_];exact q;obtain ⟨o,z⟩:=dA c z;rw [q] at z;cases z
 ·rw [hF λ z=>?_];exact q;obtain ⟨o,z⟩:=dA c z;rw [q] at z;cases z
theorem en.more{ou:ar}(ok:en P w ai h')(no:∀ a∈as,ai a=none)(dA:∀ a∈as,∃ o,ou a=some (gg o)/\h'.get? a=some o):en P w (more ai as ou) h':=λ b u e=>by
 by_cases ag:b∈as
 ·obtain ⟨o,az,aW⟩:=dA b ag;rw [uY ag,az] at e;cases e;exact uZ aW
 ·rw [nA ag] at e;refine (ok b u e).l3 (λ c v _ q=>q) (λ c q=>?_) λ c xs q=>?_
  ·rw [nA λ z=>?_];exact q;rw [no c z] at q;cases q
  ·rw [nA λ z=>?_];exact q;rw [no c z] at q;cases q
theorem fK.more{fs:List Addr}(u:fK fs [] (less H as) ai h h')(ok:en P w H h)(dA:pK H as)(qy:∀ a∈as,a ∉ fs):fK fs [] H (more ai as H) h h' where
 keep:=λ b o e n ag aq=>by
  exact u.keep b o e (rf n) ag aq
 slot:=λ b o e n ag aq=>u.slot b o e (rf n) ag aq
 free:=λ b o e n aq=>by
  have ag:b ∉ as:=λ z=>by obtain ⟨dR,z⟩:=dA b z;rw [n] at z;cases z
  rw [nA ag];exact u.free b o e (rf n) aq
 there:=λ b o e aq=>u.there b o e aq
 ly:=λ b xs e=>by
  have ag:b ∉ as:=λ z=>by obtain ⟨dR,z⟩:=dA b z;rw [e] at z;cases z
  rw [nA ag];exact u.ly b xs (by rw [hF ag];exact e)
 j9:=λ b o v e=>by
  by_cases ag:b∈as
  ·rw [uY ag];exact e
  ·rw [nA ag];exact u.j9 b o v (by rw [hF ag];exact e)
 kP:=λ b ps e=>by
  have ag:b ∉ as:=λ z=>by obtain ⟨dR,z⟩:=dA b z;rw [e] at z;cases z
  rw [nA ag];exact u.kP b ps (by rw [hF ag];exact e)
end
structure xT(N ps fr:List Str)(sc:e4):Prop where
 kind:sc.kind=.function
 co:sc.isCoroutine=false
 gen:sc.isGenerator=false
 bD:N.Nodup
 pre:N.take ps.length=ps
 Gj:N.drop (N.length - fr.length)=fr
 len:ps.length+fr.length<=N.length
 par:∀ x∈ps,sc.names.lookup x=some .local
 pG:∀ y∈sc.names,y.2≠.cell
 free:∀ y∈sc.names,y.2=.free->y.1∈fr
 PV:∀ x∈fr,sc.names.lookup x=some .free
structure k2(H:ar)(f:Addr)(name qual:Str)(st:bE)(cl:List (Str × Addr))(cD:List V):Prop where
 fn:∃(dX:Value)(dC:Option Addr)(doc pm bP ct:Value)(b6:Array (Option Value)),H f=some (gg ⟨dX,dC,.func (w2 name qual (kh st) (hC st) (cp st) cl .none .none doc pm none bP ct),b6⟩) ∧
  ∃ c o vs t,bP=.ref c/\H c=some (gg o)/\o.data=.fields vs/\vs[1]?=some (.str qual t)
 cells:∀(i:Nat)(x:Str)(c:Addr),cl[i]?=some (x,c)->∃ v u o,cD[i]?=some v/\RelV v u/\H c=some (gg o)/\o.data=.cell (some u)
 len:cl.length=cD.length
 Au:(cl.map (·.2)).Nodup
structure xU(P:c8)(w:cG)(K:a6)(mg:Str->Option Value)(base:b2)(k:Nat)(name qual:Str)(st:bE)(fr:List Str)(cD:List V)(ps:List Str)(sp:gG):Prop where
 len:∀ vs H Q E,sp vs H Q E->vs.length=ps.length
 run:∀(A:d6)(outer:List Env)(s:aM)(H:ar)(f:Addr)(cl:List (Str × Addr))(us:List Value)(vs:List V)(Q:cm)(E:h8),eG k A->ni P w K mg base A outer s H->k2 H f name qual st cl cD->cl.map (·.1)=fr->Vals vs us->sp vs H Q E →
  mW (bA P w) A (.call (.ref f) ⟨us,[]⟩) (E8 cQ outer P w H s Q E) s
def rg(P:c8)(w:cG)(K:a6)(mg:Str->Option Value)(base:b2)(N:List Str)(qual:Str)(scope:e4)(f:Addr)(cd:Value)(cl:List (Str × Addr))(A:d6)(outer:List Env)(s:aM)(H:ar):a4 where
 prog:=P
 w:=w
 K:=K
 mg:=mg
 base:=base
 A:=A.deeper (t_ qual scope s.heap.objs.size f cd cl)
 N:=N
 s₀:=s
 H₀:=H
 env:=t_ qual scope s.heap.objs.size f cd cl
 outer:=outer
 stack:=t_ qual scope s.heap.objs.size f cd cl::outer
 ex:=[]
 calm:=true
 fn:=λ _=>false
 pn:=[]
 xe:=λ _ _=>False
def mz(N:List Str)(vs cD:List V):St:=vs.map some++mZ (N.length - vs.length - cD.length) none++cD.map some
theorem PW{l:List (Str × Value)}(bD:(l.map (·.1)).Nodup){x:Str}{u:Value}(h:(x,u)∈l):l.reverse.lookup x=some u:=by
 have xV:(l.reverse.map (·.1)).Nodup:=by rw [c_];exact List.pairwise_reverse.mpr (List.Pairwise.imp (λ h=>Ne.symm h) bD)
 have h':(x,u)∈l.reverse:=kL.mpr h;generalize l.reverse=m at xV h'
 induction m with
 | nil=>cases h'
 | cons y r bL=>
  rw [eC,ql] at xV;rcases ea.mp h' with e | e
  ·subst e;simp
  ·have ne:x≠y.1:=λ z=>xV.1 (by rw [<- z];exact l2 e);rw [l1,beq_false_of_ne ne];exact bL xV.2 e
section
variable{P:c8}{w:cG}{K:a6}{mg:Str->Option Value}{base:b2}{k:Nat}{name qual:Str}{st:bE}{fr:List Str}{cD:List V}{N ps:List Str}{sp:gG}
theorem k2.gD{H:ar}{f:Addr}{cl:List (Str × Addr)}(C:k2 H f name qual st cl cD):pK H (cl.map (·.2)):=λ a au=>by
 obtain ⟨⟨x,c⟩,hm,rfl⟩:=h4.mp au;obtain ⟨i,aA,e⟩:=sn hm;obtain ⟨_,_,o,_,_,z,_⟩:=C.cells i x c (by rw [hk aA,e]);exact ⟨o,z⟩
theorem Gk:∀{l:List (Str × Addr)}{x y:Str}{c:Addr},(l.map (·.2)).Nodup->(x,c)∈l->(y,c)∈l->x=y
 | q::l,x,y,c,bD,af,ao=>by
  rw [eC,ql] at bD;rcases ea.mp af with az | az<;>rcases ea.mp ao with aW | aW
  ·rw [<- az] at aW;cases aW;rfl
  ·exact absurd (l2 (f:=(·.2)) aW) (by rw [<- az] at bD;exact bD.1)
  ·exact absurd (l2 (f:=(·.2)) az) (by rw [<- aW] at bD;exact bD.1)
  ·exact Gk bD.2 az aW
theorem PX{f:Addr}{cd:Value}{cl:List (Str × Addr)}{A:d6}{outer:List Env}{s:aM}{H:ar}{us:List Value}{vs:List V}{h₁:b2}{tk:Nat}(S:xT N ps fr (cp st))(hd:A.handled=none)(c0:ni P w K mg base A outer s H)(C:k2 H f name qual st cl cD)
 (fx:cl.map (·.1)=fr) (aP:vs.length=ps.length) (r:Vals vs us) (sN:h₁.Ns s.heap.objs.size (λ x=>(ps.zip us).reverse.lookup x)) (aC:∀ b o,s.heap.get? b=some o->h₁.get? b=some o) :
 Inv (rg P w K mg base N qual (cp st) f cd cl A outer s (less H (cl.map (·.2)))) [] (mz N vs cD) (less H (cl.map (·.2))) { s with heap:=h₁,toks:=tk }:=by
 have oc:∀ b:Addr,b ∉ ([]:List Addr):=λ b=>by simp
 have ey:fr.length=cD.length:=by rw [<- fx,b3];exact C.len
 have PY:(cl.map (·.1)).Nodup:=by rw [fx,<- S.Gj];exact S.bD.sublist (List.drop_sublist _ _)
 have lk:∀{x:Str}{c:Addr},(x,c)∈cl->cl.lookup x=some c:=λ hm=>lookup_of_mem_nodup PY hm;have mem:∀{x:Str}{c:Addr},cl.lookup x=some c->(x,c)∈cl:=λ h=>m4 h
 have cellAt:∀{x:Str}{c:Addr},(x,c)∈cl->∃ i v u o,cl[i]?=some (x,c)/\cD[i]?=some v/\RelV v u/\H c=some (gg o)/\o.data=.cell (some u):=λ{x c} hm=>by
  obtain ⟨i,aA,e⟩:=sn hm
  have e':cl[i]?=some (x,c):=by rw [hk aA,e]
  obtain ⟨v,u,o,z⟩:=C.cells i x c e';exact ⟨i,v,u,o,e',z⟩
 have PZ:∀{x:Str}{c:Addr},(x,c)∈cl->∃ u,h₁.IsCell c (some u):=λ hm=>by
  obtain ⟨i,v,u,o,_,_,_,bF,bU⟩:=cellAt hm;exact ⟨u,o,aC _ _ (pL c0.bO bF),bU⟩
 refine ⟨⟨c0.mod,S.kind,rfl,rfl,b7 _,λ y z c af ao=>?_,λ y aQ=>?_,λ y c h _=>?_,λ _=>hd,Around.frames_deeper c0.frames,.inr ⟨rfl,rfl⟩,λ b z=>absurd z (oc b),λ b o e=>⟨(c0.bs b o e).1,rf (c0.bs b o e).2⟩,c0.lz,λ b _ _=>oc b,λ b z=>absurd z (oc b),c0.jD,λ b ag=>rf (c0.m9 b ag)⟩,
  rfl,c0.bare,fK.kept aC,⟨_,sN,λ i y v af ao aF=>?_⟩,λ y c h=>?_,rf (c0.bO.fresh (b7 _)),λ y c h=>uX (l2 (mem h)),λ p aj=>absurd (show p∈([]:List (Addr × Obj)) from aj) (by simp),(c0.bO.less C.gD).kept aC,?_⟩
 ·exact Gk C.Au (mem af) (mem ao)
 ·have aQ:(cp st).names.lookup y=some .cell\/(cp st).names.lookup y=some .free:=aQ;rcases aQ with aQ | aQ
  ·exact absurd rfl (S.pG _ (m4 aQ))
  ·have hf:=S.free _ (m4 aQ) rfl;rw [<- fx] at hf;obtain ⟨⟨x,c⟩,hm,e⟩:=h4.mp hf;cases e;exact ⟨c,lk hm⟩
 ·exact absurd h (by simp [rg])
 ·have af:N[i]?=some y:=af;have b6:=S.len;by_cases aA:i < vs.length
  ·have au:vs[i]?=some v:=by
    unfold mz at ao;rw [List.append_assoc,lZ (by simpa using aA),gT] at ao
    cases e:vs[i]? with
    | none=>rw [e] at ao;cases ao
    | some a=>rw [e] at ao;cases ao;rfl
   obtain ⟨u,bx,bo⟩:=r.get au
   have aj:ps[i]?=some y:=by rw [<- S.pre,List.getElem?_take_of_lt (by omega)];exact af
   have xq:ps.Nodup:=by rw [<- S.pre];exact S.bD.sublist (List.take_sublist _ _)
   refine ⟨u,bo,.inl ⟨S.par y (kJ aj),?_⟩⟩
   have Av:us.length=ps.length:=by rw [<- r.length];exact aP
   refine PW (l:=ps.zip us) ?_ ?_
   ·rw [List.map_fst_zip (by omega)];exact xq
   ·refine kJ (i:=i) ?_;rw [List.getElem?_zip_eq_some];exact ⟨aj,bx⟩
  ·have Y9:N.length - cD.length<=i:=by
    unfold mz at ao;rcases kM i (N.length - cD.length) with z | z
    ·rw [lZ (by simp;omega),n3 (by simpa using aA),sm] at ao;split at ao<;>cases ao
    ·exact z
   have hf:cD[i - (N.length - cD.length)]?=some v:=by
    unfold mz at ao;rw [n3 (by simp;omega),gT] at ao
    have az:i - (jA some vs++mZ (N.length - vs.length - cD.length) none).length=i - (N.length - cD.length):=by simp;omega
    rw [az] at ao
    cases e:cD[i - (N.length - cD.length)]? with
    | none=>rw [e] at ao;cases ao
    | some a=>rw [e] at ao;cases ao;rfl
   have aQ:fr[i - (N.length - cD.length)]?=some y:=by
    rw [<- S.Gj,List.getElem?_drop,ey,show N.length - cD.length+(i - (N.length - cD.length))=i by omega];exact af
   rw [<- fx,gT] at aQ
   cases e:cl[i - (N.length - cD.length)]? with
   | none=>rw [e] at aQ;cases aQ
   | some q=>
    obtain ⟨x,c⟩:=q;rw [e] at aQ;cases aQ;obtain ⟨l7,u,o,bF,bU,dg,hc⟩:=C.cells _ _ _ e;rw [hf] at bF;cases bF;have hm:=kJ e;refine ⟨u,bU,.inr ⟨.inr (S.PV _ (by rw [<- fx];exact l2 hm)),c,lk hm,o,aC _ _ (pL c0.bO dg),hc⟩⟩
 ·obtain ⟨u,z⟩:=PZ (mem h);exact ⟨_,z⟩
 ·have:=S.len;show (mz N vs cD).length=N.length;simp only [mz,hN,b3,t6];omega
theorem P0(S:xT N ps fr (cp st))(len:∀ vs H Q E,sp vs H Q E->vs.length=ps.length)
 (u0:∀(cl:List (Str × Addr))(doc pm bP ct:Value)(us:List Value),us.length=ps.length->bindArgs (w2 name qual (kh st) (hC st) (cp st) cl .none .none doc pm none bP ct) ⟨us,[]⟩=pure (ps.zip us))
 (kW:∀(f:Addr)(bP:Value)(cl:List (Str × Addr))(A:d6)(outer:List Env)(s:aM)(H:ar)(vs:List V)(Q:cm)(E:h8),eG k (A.deeper (t_ qual (cp st) s.heap.objs.size f bP cl))->cl.map (·.1)=fr->pK H (cl.map (·.2))->sp vs H Q E →
  ∃ t,jG (rg P w K mg base N qual (cp st) f bP cl A outer s (less H (cl.map (·.2)))) (hC st) t ∧
   t { nx:=λ _ ai=>(∀ a∈cl.map (·.2),ai a=none)->Q .br (more ai (cl.map (·.2)) H),rt:=λ v ai=>(∀ a∈cl.map (·.2),ai a=none)->Q v (more ai (cl.map (·.2)) H) } (mz N vs cD) (less H (cl.map (·.2)))) :
 xU P w K mg base (k+1) name qual st fr cD ps sp:=by
 refine ⟨len,λ A outer s H f cl us vs Q E ap c0 C fx r jg=>?_⟩;have aP:=len _ _ _ _ jg;have lim:s.heap.NoLimit:=c0.mod.nolimit.keeps λ b o e=>(c0.bs b o e).1;obtain ⟨dX,dC,doc,pm,bP,ct,b6,hf,c,o,rh,t',g8,aJ,hd,bK⟩:=C.fn
 have Av:us.length=ps.length:=by rw [<- r.length];exact aP
 have dA:=C.gD;refine codeAny_call_def (binds:=ps.zip us) ap.depth (pL c0.bO hf) rfl lim ⟨c,o,rh,t',g8,pL c0.bO aJ,hd,bK⟩ rfl (.of_eq (u0 cl doc pm bP ct us Av)) S.pG (λ y aQ=>S.par y.1 (wQ (show (y.1,y.2)∈ps.zip us from aQ)).1) (λ h₀ sN aC=>?_) S.co S.gen S.kind;obtain ⟨t,bt,bn⟩:=kW f bP cl A outer s H vs Q E (ap.deeper _) fx dA jg;have I:=PX (h₁:=h₀) (tk:=s.toks+(ps.zip us).length) (cd:=bP) S ap.hd c0 C fx aP r sN aC;refine eX (bt [] _ _ _ _ I bn) (λ gH a9 aB=>?_) λ e a9 aB=>False.elim aB
 have w7:∀ a∈cl.map (·.2),a ∉ ka outer:=λ a au z=>by
  obtain ⟨dR,ft⟩:=dA a au;rw [c0.m9 a z] at ft;cases ft
 have fin:∀{σ':St}{ai:ar}{v:V}{u:Value},Inv (rg P w K mg base N qual (cp st) f bP cl A outer s (less H (cl.map (·.2)))) [] σ' ai a9->RelV v u->((∀ a∈cl.map (·.2),ai a=none)->Q v (more ai (cl.map (·.2)) H))->uw outer P w H s Q u a9:=
  λ{σ' ai v u} J bo q=>by
   have no:∀ a∈cl.map (·.2),ai a=none:=λ a au=>by
    obtain ⟨dR,z⟩:=dA a au;exact J.base.free a dR (pL c0.bO z) (uX au) (by simp [rg])
   refine ⟨v,_,J.os,J.bare,J.base.more c0.bO dA w7,J.bO.more no λ a au=>?_,bo,q no⟩;obtain ⟨dR,z⟩:=dA a au;exact ⟨dR,z,J.base.keep a dR (pL c0.bO z) (uX au) (w7 a au) (by simp [rg])⟩
 cases gH with
 | ret u=>
  obtain ⟨v,σ',ai,J,bo,q⟩:=aB;exact fin J bo q
 | next=>
  obtain ⟨σ',ai,J,q⟩:=aB;exact fin (v:=V.br) (u:=Value.none) J rfl q
 | brk=>
  obtain ⟨_,_,_,q⟩:=aB;exact False.elim q
 | cont=>
  obtain ⟨_,_,_,q⟩:=aB;exact False.elim q
def Gl(i:Nat)(name qual:Str)(st:bE)(fr:List Str)(cD:List V)(sp:gG)(t:eZ):TE:=λ σ H Q=>∃ f cl,σ[i]?=some (some (.ref f))/\k2 H f name qual st cl cD/\cl.map (·.1)=fr/\t σ H λ vs H1=>k2 H1 f name qual st cl cD/\sp vs H1 Q qN
end
section
variable{X:a4}{k j:Nat}{name qual:Str}{st:bE}{fr:List Str}{cD:List V}{ps:List Str}{x:Str}{sp:gG}{p pos:Pos}{e:a8}{aw:List a8}{t:eZ}
theorem k2.at'{H:ar}{f:Addr}{cl:List (Str × Addr)}{P:c8}{w:cG}{h:b2}(C:k2 H f name qual st cl cD)(ok:en P w H h):PySem.W.FnAt f h:=by
 obtain ⟨dX,dC,doc,pm,bP,ct,b6,hf,_⟩:=C.fn;exact ⟨dX,dC,_,b6,pL ok hf⟩
theorem P1{i:Nat}(G:xU X.prog X.w X.K X.mg X.base k name qual st fr cD ps sp)(ap:eG j X.A)(aC:k<=j)(cY:X.N[i]?=some x)(bK:qw X.env.scope x)(au:hQ X (e::aw) t)(hd:(x==("__debug__" : Str))=false)(g8:(x==("__classdict__" : Str))=false)
 (he:dp (e::aw) X.env=(false,eval e X.env)::dp aw X.env) (iC:(gj pos (dp aw X.env)).any (·.1)=false) :
 b1 X (.Call (.Name x p) (e::aw) [] pos) (Gl i name qual st fr cD sp t):=by
 intro pins s σ H Q I h;obtain ⟨f,cl,az,C,fx,h⟩:=h;refine oZ (bZ (Eo (pos:=p) cY bK hd g8 pins s σ H (λ v H1=>v=.ref f/\H1=H) I ⟨_,az,rfl,rfl⟩) λ u s1 ⟨v,H1,aY,be,ev,ov⟩=>?_);subst ev ov;obtain rfl:u=Value.ref f:=be;refine PySem.W.callWith_F (C.at' aY.bO) (bZ (au pos pins s1 σ H1 _ aY h) λ us s2 ⟨vs,aK,ck,r,Gm,q⟩=>⟨Gm.at' ck.bO,?_⟩) he iC;refine wH (sb (G.run X.A X.stack s2 aK f cl us vs Q qN (ap.mono aC) ck.sH Gm fx r q) λ r a9 bn=>?_)
 cases r with
 | error e=>exact False.elim bn
 | ok gH=>
  cases gH with
  | ret u=>exact ck.after bn
  | next=>exact False.elim bn
  | brk=>exact False.elim bn
  | cont=>exact False.elim bn
end
def fQ(env:Env)(fr:List Str):List (Str × Addr):=fr.map λ x=>(x,(env.cells.lookup x).getD 0)
structure sO(env:Env)(H:ar)(f:Addr)(name qual:Str)(st:bE)(fr:List Str):Prop where
 fn:∃(dX:Value)(dC:Option Addr)(doc pm bP ct:Value)(b6:Array (Option Value)),H f=some (gg ⟨dX,dC,.func (w2 name qual (kh st) (hC st) (cp st) (fQ env fr) .none .none doc pm none bP ct),b6⟩) ∧
  ∃ c o vs t,bP=.ref c/\H c=some (gg o)/\o.data=.fields vs/\vs[1]?=some (.str qual t)
section
variable{X:a4}{pins:List (Addr × Obj)}{σ:St}{H aK:ar}{s a9:aM}{as:List Addr}
structure ri(X:a4)(H aK:ar)(as:List Addr)(h:b2):Prop where
 out:∀ b,b ∉ as->aK b=H b
 no:∀ a∈as,H a=none
 at':∀ a∈as,∃ o,aK a=some (gg o)/\h.get? a=some o
 P2:∀ a∈as,X.base.get? a=none
 Gn:∀ a∈as,a ∉ ka X.stack
theorem ri.ok(p:ri X H aK as s.heap)(ok:en X.prog X.w H s.heap):en X.prog X.w aK s.heap:=λ b u e=>by
 by_cases ag:b∈as
 ·obtain ⟨o,az,aW⟩:=p.at' b ag;rw [az] at e;cases e;exact uZ aW
 ·rw [p.out b ag] at e;refine (ok b u e).l3 (λ c v _ q=>q) (λ c q=>?_) λ c xs q=>?_
  ·rw [p.out c λ z=>?_];exact q;rw [p.no c z] at q;cases q
  ·rw [p.out c λ z=>?_];exact q;rw [p.no c z] at q;cases q
theorem ri.sH(p:ri X H aK as s.heap)(I:Inv X pins σ H s):ni X.prog X.w X.K X.mg X.base X.A X.stack s aK:=by
 have c0:=I.sH;refine ⟨c0.frames,c0.mod,λ b o e=>⟨(c0.bs b o e).1,?_⟩,c0.lz,c0.jD,λ b ag=>?_,p.ok c0.bO,c0.bare⟩
 ·rw [p.out b λ z=>?_];exact (c0.bs b o e).2;rw [p.P2 b z] at e;cases e
 ·rw [p.out b λ z=>p.Gn b z ag];exact c0.m9 b ag
theorem ri.after{Q:cm}{u:Value}(p:ri X H aK as s.heap)(I:Inv X pins σ H s)(h:uw X.stack X.prog X.w aK s (λ v ai=>Q v (less ai as)) u a9):gn X pins σ Q u a9:=by
 obtain ⟨v,ai,os,bare,un,bO,r,q⟩:=h
 have dA:∀ a∈as,∃ o,ai a=some (gg o)/\s.heap.get? a=some o:=λ a au=>by
  obtain ⟨o,az,aW⟩:=p.at' a au;exact ⟨o,un.j9 a o _ az,aW⟩
 refine I.after ⟨v,less ai as,os,bare,⟨λ b o e n ag aq=>?_,λ b o e n ag aq=>?_,λ b o e n aq=>?_,λ b o e aq=>un.there b o e aq,λ b xs e=>?_,λ b o x e=>?_,λ b ps e=>?_⟩,bO.less λ a au=>let ⟨o,e,_⟩:=dA a au;⟨o,e⟩,r,q⟩
 ·by_cases z:b∈as
  ·obtain ⟨dR,az,aW⟩:=dA b z;rw [e] at aW;cases aW;exact pL bO az
  ·exact un.keep b o e (by rw [p.out b z];exact n) ag aq
 ·have z:b ∉ as:=λ z=>p.Gn b z ag;exact un.slot b o e (by rw [p.out b z];exact n) ag aq
 ·by_cases z:b∈as
  ·exact uX z
  ·exact rf (un.free b o e (by rw [p.out b z];exact n) aq)
 ·have z:b ∉ as:=λ z=>by rw [p.no b z] at e;cases e
  rw [hF z];exact un.ly b xs (by rw [p.out b z];exact e)
 ·have z:b ∉ as:=λ z=>by rw [p.no b z] at e;cases e
  rw [hF z];exact un.j9 b o x (by rw [p.out b z];exact e)
 ·have z:b ∉ as:=λ z=>by rw [p.no b z] at e;cases e
  rw [hF z];exact un.kP b ps (by rw [p.out b z];exact e)
end
def P3(X:a4)(name qual:Str)(st:bE)(fr:List Str)(ix:List Nat)(sp:gG)(t:eZ):TE:=λ σ H Q=>t σ H λ vs H1=>∃(f:Addr)(cD:List V),sO X.env H1 f name qual st fr/\(∀(i j:Nat),ix[i]?=some j->∃ v,σ[j]?=some (some v)/\cD[i]?=some v)/\cD.length=fr.length ∧
 ∀ aK,(∀ b,b ∉ (fQ X.env fr).map (·.2)->aK b=H1 b)->(∀ b∈(fQ X.env fr).map (·.2),H1 b=none)->k2 aK f name qual st (fQ X.env fr) cD->sp vs aK (λ v ai=>Q v (less ai ((fQ X.env fr).map (·.2)))) qN
section
variable{X:a4}{k j:Nat}{g:Addr}{fd:gA}{name qual:Str}{st:bE}{fr:List Str}{ix:List Nat}{ps:List Str}{x:Str}{sp:gG}{p pos:Pos}{e:a8}{aw:List a8}{t:eZ}
theorem P4(G:Got X.prog X.w X.K X.mg X.base k x ps sp)(ap:eG j X.A)(aC:k<=j)(a0:eF X x)(au:hQ X (e::aw) t)(gd:(x==("__debug__" : Str))=false)(Aw:fr.Nodup)(Ax:ix.length=fr.length)
 (Ay:∀(i:Nat)(y:Str),fr[i]?=some y->∃ j,ix[i]?=some j/\X.N[j]?=some y/\X.env.scope.names.lookup y=some .cell/\X.fn y=true)
 (he:dp (e::aw) X.env=(false,eval e X.env)::dp aw X.env) (iC:(gj pos (dp aw X.env)).any (·.1)=false) :
 b1 X (.Call (.Name x p) (e::aw) [] pos) (P3 X name qual st fr ix sp t):=by
 intro pins s σ H Q I h;obtain ⟨f,fd,F,hm,bS,b⟩:=G.ex;refine oZ (w9 I a0 hm ?_ gd);refine w1 (h₀:=X.base) I.ok.mod.sz bS (bZ (au pos pins s σ H _ I h) λ us s1 ⟨vs,H1,aY,r,P5,cD,M,bK,Az,q⟩=>⟨aY.eU,?_⟩) he iC
 have cells:∀(i:Nat)(y:Str),fr[i]?=some y->∃ v u c o,cD[i]?=some v/\RelV v u/\X.env.cells.lookup y=some c/\s1.heap.get? c=some o/\o.data=.cell (some u)/\H1 c=none/\X.s₀.heap.objs.size<=c:=λ i y aQ=>by
  obtain ⟨j,af,ao,aF,cn⟩:=Ay i y aQ;obtain ⟨v,d1,iD⟩:=bK i j af;obtain ⟨m,_,aP⟩:=aY.loc;obtain ⟨u,bo,lk⟩:=aP j y v ao d1 (.inr (.inl aF));rcases lk with ⟨z,_⟩ | ⟨_,c,bF,o,bU,dg⟩
  ·have ft:X.env.scope.names.lookup y=some .local:=z;rw [aF] at ft;cases ft
  ·exact ⟨v,u,c,o,iD,bo,bF,bU,dg,aY.l4 y c bF,aY.ok.sA y c cn bF⟩
 have mem:∀ a∈(fQ X.env fr).map (·.2),∃ i y,fr[i]?=some y/\X.env.cells.lookup y=some a:=λ a au=>by
  obtain ⟨q,bn,rfl⟩:=h4.mp au;obtain ⟨y,aQ,rfl⟩:=h4.mp bn;obtain ⟨i,aA,az⟩:=sn aQ
  have aW:fr[i]?=some y:=by rw [hk aA,az]
  obtain ⟨v,u,c,o,_,_,bF,_⟩:=cells i y aW;exact ⟨i,y,aW,by rw [bF];rfl⟩
 have xW:∀ a∈(fQ X.env fr).map (·.2),∃ o,s1.heap.get? a=some o/\H1 a=none/\X.s₀.heap.objs.size<=a:=λ a au=>by
  obtain ⟨i,y,af,ao⟩:=mem a au;obtain ⟨v,u,c,o,_,_,bF,bU,_,dg,hc⟩:=cells i y af;rw [ao] at bF;cases bF;exact ⟨o,bU,dg,hc⟩
 let aK:ar:=λ b=>if b∈(fQ X.env fr).map (·.2) then (s1.heap.get? b).map gg else H1 b
 have Gp:∀ a∈(fQ X.env fr).map (·.2),∀ o,s1.heap.get? a=some o->aK a=some (gg o):=λ a au o e=>by
  show (if a∈(fQ X.env fr).map (·.2) then (s1.heap.get? a).map gg else H1 a)=_;rw [if_pos au,e];rfl
 have AA:∀ b,b ∉ (fQ X.env fr).map (·.2)->aK b=H1 b:=λ b ag=>if_neg ag
 have uz:∀ b∈(fQ X.env fr).map (·.2),H1 b=none:=λ b ag=>let ⟨_,_,z,_⟩:=xW b ag;z
 have Gq:∀ b u,H1 b=some u->aK b=some u:=λ b u e=>by
  rw [AA b λ z=>?_];exact e;rw [uz b z] at e;cases e
 have cc:ri X H1 aK ((fQ X.env fr).map (·.2)) s1.heap:=by
  refine ⟨AA,uz,λ a au=>?_,λ a au=>?_,λ a au z=>?_⟩
  ·obtain ⟨o,e,_⟩:=xW a au;exact ⟨o,Gp a au o e,e⟩
  ·obtain ⟨o,_,_,z⟩:=xW a au;exact Heap.get?_none_of_le (e5 aY.ok.lz z)
  ·obtain ⟨o,_,_,hc⟩:=xW a au;obtain ⟨i,y,_,ao⟩:=mem a au;rcases ea.mp (aY.pi a z) with e | e
   ·exact aY.pg y a ao e
   ·obtain ⟨_,dR,bb,_⟩:=aY.ok.jD.mem e;exact absurd (h7 (dW bb) hc) (n4 _)
 have C:k2 aK P5 name qual st (fQ X.env fr) cD:=by
  obtain ⟨dX,dC,doc,pm,bP,ct,b6,jd,c,o,rh,t',l5,P6,P7⟩:=M.fn;refine ⟨⟨dX,dC,doc,pm,bP,ct,b6,Gq _ _ jd,c,o,rh,t',l5,Gq _ _ P6,P7⟩,λ i y c aA=>?_,?_,?_⟩
  ·unfold fQ at aA;rw [gT] at aA
   cases az:fr[i]? with
   | none=>rw [az] at aA;cases aA
   | some xX=>
    rw [az] at aA;cases aA;obtain ⟨v,u,c,o,u1,bF,bU,dg,hc,_⟩:=cells i _ az;refine ⟨v,u,o,u1,bF,?_,hc⟩
    have gm:(X.env.cells.lookup y).getD 0=c:=by rw [bU];rfl
    refine Gp _ (l2 (f:=(·.2)) (l2 (f:=λ x=>(x,(X.env.cells.lookup x).getD 0)) (kJ az))) o ?_;show s1.heap.get? ((X.env.cells.lookup y).getD 0)=some o;rw [gm];exact dg
  ·rw [fQ,b3];exact Az.symm
  ·rw [fQ,h5];refine List.pairwise_map.mpr (List.Pairwise.imp_of_mem (λ{a b} au ag xY e=>?_) Aw);obtain ⟨i,aA,dJ⟩:=sn au;obtain ⟨AB,d4,g_⟩:=sn ag;obtain ⟨_,_,ca,_,_,_,Gr,_⟩:=cells i a (by rw [hk aA,dJ]);obtain ⟨_,_,hn,_,_,_,Gs,_⟩:=cells AB b (by rw [hk d4,g_])
   have e':ca=hn:=by
    have aW:(X.env.cells.lookup a).getD 0=(X.env.cells.lookup b).getD 0:=e;rw [Gr,Gs] at aW;exact aW
   exact xY (aY.ok.inj a b ca Gr (by rw [e'];exact Gs))
 have jg:=q aK AA uz C
 have aP:us.length=ps.length:=by rw [<- r.length];exact F.len _ _ _ _ jg
 have ag:=b s1 us aY.eU (by rw [pa];exact aP);rw [pa] at ag;refine wH (sb (F.run X.A X.stack s1 aK ⟨us,[]⟩ us vs _ qN (ap.mono aC) (cc.sH aY) ag r jg) λ ew a9 bn=>?_)
 cases ew with
 | error e=>exact False.elim bn
 | ok gH=>
  cases gH with
  | ret u=>exact cc.after aY bn
  | next=>exact False.elim bn
  | brk=>exact False.elim bn
  | cont=>exact False.elim bn
end
def Tab(H:ar)(T:Addr)(pos:Pos)(qual:Str):Prop:=∃ ps,H T=some (.hO ps)/\TriplesOk ps.toList/\(codeAmong pos ps.toList=none\/∃ c o vs t,codeAmong pos ps.toList=some (.ref c)/\H c=some (gg o)/\o.data=.fields vs/\vs[1]?=some (.str qual t))
def nB(mg:Str->Option Value)(h:b2):Prop:=∃ bm dq,mg "__builtins__" = some (.ref bm)/\bm≠tZ/\bm≠eS/\h.get? bm=some dq/\dq.cls=.type "module"/\dq.dict=some tZ/\dq.data=.plain
section
variable{P:c8}{w:cG}{H:ar}{h h':b2}{T c:Addr}{ps mo:Array Value}{dX:Obj}{fs ex:List Addr}
theorem fK.tab(dy:H T=some (.hO ps))(aJ:H c=none)(nC:h.objs.size<=c)(aq:Heap.ExtBut T h h')(bt:h'.get? T=some (ua (ps++mo))):fK fs ex H (upd (upd H T (.hO (ps++mo))) c (gg dX)) h h':=by
 have k3:∀ b u,H b=some u->u≠.hO ps->b≠T:=λ b u e n z=>by rw [z,dy] at e;exact n (gb.inj e).symm
 have AC:∀ b,H b=none->b≠T:=λ b e z=>by rw [z,dy] at e;cases e
 have oh:∀ b u,H b=some u->b≠c:=λ b u e z=>by rw [z,aJ] at e;cases e
 have P8:∀ b o,h.get? b=some o->b≠c:=λ b o e=>eY (h7 (dW e) nC);refine ⟨λ b o e n _ _=>aq b o (AC b n) e,λ b o e n _ _=>⟨o.slots,aq b o (AC b n) e⟩,λ b o e n _=>?_,λ b o e _=>?_,λ b xs e=>?_,λ b o u e=>?_,λ b aZ e=>?_⟩
 ·rw [cH (P8 b o e),cH (AC b n)];exact n
 ·by_cases z:b=T
  ·subst z;exact ⟨_,bt⟩
  ·exact ⟨o,aq b o z e⟩
 ·rw [cH (oh b _ e),cH (k3 b _ e λ z=>nomatch z)];exact e
 ·rw [cH (oh b _ e),cH (k3 b _ e λ z=>nomatch z)];exact e
 ·by_cases z:b=T
  ·subst z;rw [dy] at e;cases e;exact ⟨mo,by rw [cH (oh b _ dy),fq]⟩
  ·exact ⟨#[],by rw [cH (oh b _ e),cH z,e];simp⟩
theorem en.tab(ok:en P w H h)(dy:H T=some (.hO ps))(nC:h.objs.size<=c)(aq:Heap.ExtBut T h h')(bt:h'.get? T=some (ua (ps++mo)))(sC:h'.get? c=some dX):en P w (upd (upd H T (.hO (ps++mo))) c (gg dX)) h':=λ b u e=>by
 have aJ:H c=none:=ok.fresh nC
 have k3:∀ b u,H b=some u->u≠.hO ps->b≠T:=λ b u e n z=>by rw [z,dy] at e;exact n (gb.inj e).symm
 have oh:∀ b u,H b=some u->b≠c:=λ b u e z=>by rw [z,aJ] at e;cases e
 by_cases af:b=c
 ·subst af;rw [fq] at e;cases e;exact uZ sC
 ·rw [cH af] at e;by_cases ao:b=T
  ·subst ao;rw [fq] at e;cases e;exact bt
  ·rw [cH ao] at e;refine (ok b u e).l3 (λ d v hd q=>aq d v ?_ q) (λ d q=>?_) λ d xs q=>?_
   ·rcases hd with rfl | hd
    ·exact ao
    ·exact k3 d _ hd λ z=>nomatch z
   ·rw [cH (oh d _ q),cH (k3 d _ q λ z=>nomatch z)];exact q
   ·rw [cH (oh d _ q),cH (k3 d _ q λ z=>nomatch z)];exact q
end
def P9(X:a4)(i:Nat)(T:Addr)(name qual:Str)(st:bE)(fr:List Str)(pos:Pos):fh:=λ D σ H=>Tab H T pos qual/\∀ f ai,H f=none->sO X.env ai f name qual st fr->Tab ai T pos qual->(∀ b u,b≠T->H b=some u->ai b=some u)->D.nx (σ.set i (some (.ref f))) ai
section
variable{X:a4}{i:Nat}{T c:Addr}{name:Str}{params:wK}{body:List bE}{scope:e4}{pos:Pos}{fr:List Str}
theorem P_(cY:X.N.Nodup)(aA:X.N[i]?=some name)(aP:Loc X.env.scope name)(xZ:X.env.code=.ref c)(mm:PySem.W.CodeHd X.base c T)(hS:nB X.mg X.base)
 (fx:wJ scope X.env=pure (fQ X.env fr)) (AD:params.defaults=[]) (AE:params.kw_defaults=[]) (au:annTrees params none X.env=[])
 (hf:X.fn name=true\/X.env.scope.names.lookup name=some .local) :
 iB X (.FunctionDef name params body [] none [] scope none name pos) (P9 X i T name (qe X.env name name) (.FunctionDef name params body [] none [] scope none name pos) fr pos):=by
 intro pins s σ H D I h;obtain ⟨⟨ps,dy,bt,Qa⟩,h⟩:=h;have x1:s.heap.get? T=some (ua ps):=I.bO T _ dy;have C:=mm.keeps I.bk;have a0:s.heap.Ns eS X.mg:=I.ok.mod.glob.keeps I.bk;obtain ⟨bm,dq,cv,e0,mA,ij,jL,rj,Qb⟩:=hS
 have Qc:bm≠T:=λ z=>by
  have e:=I.bk _ _ ij;rw [z,x1] at e;cases e;cases jL
 have Qd:eS≠T:=λ z=>by
  obtain ⟨o,aw,fg,e,hd,_⟩:=a0;rw [z,x1] at e;cases e;cases hd
 have Gu:s.heap.BuiltinsAt X.mg T:=⟨bm,dq,cv,e0,mA,Qc,I.bk _ _ ij,jL,rj,Qb⟩
 refine PySem.W.nestDef_K AD AE au ?_;rcases Qa with bc | ⟨c',o,vs,t,uh,Gv,hd,bK⟩
 ·refine PySem.W.makeFunction_K (mg:=X.mg) fx I.ok.glob a0 xZ C x1 bt bc Qd Gu λ c' pM doc h' tk aq nC iX Qe Gw=>?_;obtain ⟨c2,dX,vs,t,aW,sC,hd,bK⟩:=Qe;cases aW
  have aY:Inv X pins σ (upd (upd H T (.hO (ps++#[kG pos.line,kG pos.col,.ref c']))) c' (gg dX)) { s with heap:=h',toks:=tk }:=
   I.un (fK.tab dy (I.bO.fresh nC) nC aq Gw) (I.bO.tab dy nC aq Gw sC)
  have ck:=aY.laid (a:=h'.objs.size) (o:=gg (ub name (qe X.env name name) params body scope (fQ X.env fr) doc ((X.mg "__name__").getD .none) c' pM)) (t':=tk) (h':=h'.push (ub name (qe X.env name name) params body scope (fQ X.env fr) doc ((X.mg "__name__").getD .none) c' pM)) (λ b u e=>du _ e) (b7 _) (uZ (gC _ rfl));have m_:H h'.objs.size=none:=I.bO.fresh (wV (wW nC iX));have Gx:c'≠h'.objs.size:=eY iX
  have x2:T≠h'.objs.size:=λ z=>by rw [z,m_] at dy;cases dy
  have Qf:T≠c':=λ z=>by rw [z,I.bO.fresh nC] at dy;cases dy
  refine sD (v:=.ref h'.objs.size) ck cY aA aP rfl (λ a9 c7=>⟨_,_,c7,h _ _ m_ ⟨⟨_,_,doc,_,_,pM,_,fq,c',dX,vs,t,rfl,?_,hd,bK⟩⟩ ⟨ps++#[kG pos.line,kG pos.col,.ref c'],?_,?_,.inr ⟨c',dX,vs,t,by rw [Array.toList_append];exact codeAmong_snoc _ bt bc,?_,hd,bK⟩⟩ λ b u ag e=>?_⟩) hf
  ·rw [cH Gx,fq]
  ·rw [cH x2,cH Qf,fq]
  ·rw [Array.toList_append];exact TriplesOk_snoc _ _ _ _ bt
  ·rw [cH Gx,fq]
  ·rw [cH (λ z=>by rw [z,m_] at e;cases e),cH (λ z=>by rw [z,I.bO.fresh nC] at e;cases e),cH ag];exact e
 ·refine PySem.W.makeFunction_hit (mg:=X.mg) fx I.ok.glob a0 xZ C x1 bt uh Gu λ pM doc h' tk aC eQ=>?_;have m_:H h'.objs.size=none:=I.bO.fresh eQ;have ck:=I.laid (a:=h'.objs.size) (o:=gg (ub name (qe X.env name name) params body scope (fQ X.env fr) doc ((X.mg "__name__").getD .none) c' pM)) (t':=tk) (h':=h'.push (ub name (qe X.env name name) params body scope (fQ X.env fr) doc ((X.mg "__name__").getD .none) c' pM)) (λ b u e=>du _ (aC b u e)) eQ (uZ (gC _ rfl))
  have keep:∀ b u,H b=some u->upd H h'.objs.size (gg (ub name (qe X.env name name) params body scope (fQ X.env fr) doc ((X.mg "__name__").getD .none) c' pM)) b=some u:=λ b u e=>by
   rw [cH (λ z=>by rw [z,m_] at e;cases e)];exact e
  exact sD (v:=.ref h'.objs.size) ck cY aA aP rfl (λ a9 c7=>⟨_,_,c7,h _ _ m_ ⟨⟨_,_,doc,_,_,pM,_,fq,c',o,vs,t,rfl,keep _ _ Gv,hd,bK⟩⟩ ⟨ps,keep _ _ dy,bt,.inr ⟨c',o,vs,t,uh,keep _ _ Gv,hd,bK⟩⟩ λ b u _ e=>keep b u e⟩) hf
end
structure x3(tabs:List (Addr × Addr))(K:a6)(a:Addr)(H:ar):Prop where
 only:∀ b,H b=none\/(∃ o xs,H b=some (.gD o (.lst xs)))\/(b∈tabs.map (·.2)/\H b=some (.hO #[]))
 tab:∀ q∈tabs,H q.2=some (.hO #[])
def AF(tabs:List (Addr × Addr))(K:a6)(a:Addr)(o:Obj)(xs:List V):ar:=λ b=>
 if b∈tabs.map (·.2) then some (.hO #[]) else if b=a then (if (K.lookup a).isSome then none else some (.gD o (.lst xs))) else none
section
variable{P:c8}{w:cG}{K:a6}{mg j_:Str->Option Value}{k:Nat}{fa a:Addr}{fd:gA}{x:Str}{sp:gG}{dY:aM}{vs:List Value}{ns:List Int}{tabs:List (Addr × Addr)}
theorem Qg(KX:K.In dY.heap)(sN:dY.heap.Ns eS mg)(ag:dY.heap.Ns tZ j_)(Qh:∀ x:Str,x≠"__name__"->j_ x=lr x)(Qi:dY.heap.NoLimit)(a0:dY.gens=#[])
 (au:dY.heap.get? a=some { cls:=.type "list", data:=.seq vs.toArray }) (aA:W1 vs ns) (aP:ns.length<=sizeLine) (ap:eG k sj)
 (dy:PySem.W.TabsAt tabs dY.heap) (fu:PySem.W.noTabs K=true) (hS:nB mg dY.heap)
  (F:∀ base:b2,K.In base->base.Ns eS mg->(∀ q∈tabs,PySem.W.CodeHd base q.1 q.2)->nB mg base->cO P w K mg base cQ k fa fd [x] sp) (u0:∀(s:aM)(u:Value),si s fd ⟨[u],[]⟩ [(x,u)])
  (jg:∀ H:ar,x3 tabs K a H->fi K H a (ns.map V.int)->sp [.ref a] H (λ v _=>v=.aO true) λ _ _ _=>False) :
  mW (bA P w) sj (.call (.ref fa) ⟨[.ref a],[]⟩) (λ r a9=>r=.ok (.ret (.bool true))/\OldK dY.heap a9.heap/\a9.os=dY.os/\o_ a9.gens) dY:=by
  generalize Gy:({ cls:=.type "list", data:=.seq vs.toArray }:Obj)=sP at au
  have sQ:sP.data=.seq vs.toArray 0/\sP.cls=.type "list"/\sP.dict=none:=by rw [<- Gy];exact ⟨rfl,rfl,rfl⟩
  have bo:=FA aA
  have tabAt:∀ b∈tabs.map (·.2),dY.heap.get? b=some (ua #[]):=λ b ag=>by
   obtain ⟨q,bn,rfl⟩:=h4.mp ag;exact (dy q bn).2
  have Qj:a ∉ tabs.map (·.2):=λ z=>by
   have e:=tabAt a z;rw [au] at e;have:=sQ.2.1;rw [gb.inj e] at this;cases this
  obtain ⟨H,ov⟩:∃ H,H=AF tabs K a sP (ns.map V.int):=⟨_,rfl⟩
  have AG:∀ b∈tabs.map (·.2),H b=some (.hO #[]):=λ b ag=>by rw [ov];exact if_pos ag
  have u2:H a=if (K.lookup a).isSome then none else some (.gD sP (.lst (ns.map V.int))):=by
   rw [ov];unfold AF;rw [if_neg Qj,if_pos rfl]
  have off:∀ b,b ∉ tabs.map (·.2)->b≠a->H b=none:=λ b af ao=>by rw [ov];unfold AF;rw [if_neg af,if_neg ao]
  have free:∀{b:Addr}{o:Obj},dY.heap.get? b=some o->o≠ua #[]->(b=a->(K.lookup a).isSome=true)->H b=none:=λ{b o} e af ao=>by
   by_cases z:b∈tabs.map (·.2)
   ·rw [tabAt b z] at e;exact absurd (gb.inj e).symm af
   ·by_cases y:b=a
    ·subst y;rw [u2,if_pos (ao rfl)]
    ·exact off b z y
  have Gz:∀{b:Addr}{o:Obj},dY.heap.get? b=some o->o.cls≠.type "list"->b≠a:=λ{b o} e af z=>by
   rw [z,au] at e;exact af (by rw [<- gb.inj e];exact sQ.2.1)
  have get:∀{b:Addr}{o:Obj},dY.heap.get? b=some o->H b=none->(m8 dY.heap H).get? b=some o:=λ e n=>KS e n
  have x4:∀{b:Addr}{m:Str->Option Value},dY.heap.Ns b m->(m8 dY.heap H).Ns b m:=λ{b m} ⟨o,aw,fg,e,d,r⟩=>
   ⟨o,aw,fg,get e (free e (λ z=>by rw [z] at d;cases d) λ z=>by
    rw [z,au] at e;have d':=sQ.1
    rw [gb.inj e,d] at d';cases d'),d,r⟩
  have sR:K.In (m8 dY.heap H):=λ b o e=>get (KX b o e) (free (KX b o e) (λ z=>by
   have ao:=List.all_eq_true.mp fu (b,o) (PySem.W.mem_of_lookupK e);subst z
   exact absurd (show false=true from ao) iz) λ z=>by rw [<- z,e];rfl)
  have Qk:∀ q∈tabs,PySem.W.CodeHd (m8 dY.heap H) q.1 q.2:=λ q bn=>by
   obtain ⟨o,us,file,sS,flags,bj,Ql,text,tt,az,be,bB⟩:=(dy q bn).1;refine ⟨o,us,file,sS,flags,bj,Ql,text,tt,get az (free az (λ z=>by rw [z] at be;cases be) λ z=>absurd z (Gz az (by rw [be];decide))),be,bB⟩
  have aO:nB mg (m8 dY.heap H):=by
   obtain ⟨bm,dq,cv,e0,mA,ij,jL,rj⟩:=hS;exact ⟨bm,dq,cv,e0,mA,get ij (free ij (λ z=>by rw [z] at jL;cases jL) λ z=>absurd z (Gz ij (by rw [jL];decide))),jL,rj⟩
  have bO:en P w H dY.heap:=λ b u e=>by
   by_cases z:b∈tabs.map (·.2)
   ·rw [AG b z] at e;cases e;exact tabAt b z
   ·by_cases y:b=a
    ·subst y;rw [u2] at e;split at e
     ·cases e
     ·cases e;refine ⟨au,?_⟩;subst Gy;exact ⟨by rw [b3];exact aP,vs,_,bo,au⟩
    ·rw [off b z y] at e;cases e
  have ent:x3 tabs K a H:=⟨λ b=>by
   by_cases z:b∈tabs.map (·.2)
   ·exact .inr (.inr ⟨z,AG b z⟩)
   ·by_cases y:b=a
    ·subst y
     cases aC:(K.lookup b).isSome with
     | true=>exact .inl (by rw [u2,aC];rfl)
     | false=>exact .inr (.inl ⟨_,_,by rw [u2,aC];rfl⟩)
    ·exact .inl (off b z y),λ q bn=>AG _ (l2 bn)⟩
  have ik:fi K H a (ns.map V.int):=by
   cases aC:K.lookup a with
   | some o=>
    have e:=KX a o aC;rw [au] at e;obtain rfl:=gb.inj e;exact .inr ⟨_,vs.toArray,0,aC,sQ.2.1,sQ.2.2,sQ.1,by rw [dG,aA.length];exact aP,by simpa using bo⟩
   | none=>exact .inl (.inr ⟨sP,by rw [u2,aC];rfl⟩)
  have c0:ni P w K mg (m8 dY.heap H) sj [] dY H:=⟨rfl,⟨sR,x4 sN,⟨j_,x4 ag,Qh⟩,let ⟨Qm,af,ao⟩:=Qi;⟨Qm,x4 af,ao⟩⟩,λ b o e=>KU e,Nat.le_of_eq (KR _ _),trivial,λ b ag=>absurd (show b∈([]:List Addr) from ag) (by simp),bO,.of_eq a0⟩
  refine sb ((F _ sR (x4 sN) Qk aO).run sj [] dY H ⟨[.ref a],[]⟩ [.ref a] [.ref a] _ _ ap c0 (u0 dY (.ref a)) (.cons rfl .nil) (jg H ent ik)) λ r a9 h=>?_
  match r,h with
  | .ok (.ret u),⟨v,ai,os,bare,un,GA,dS,q⟩=>
   obtain rfl:v=.aO true:=q;obtain rfl:u=Value.bool true:=dS;have no:∀ b:Addr,b ∉ ka ([]:List Env):=λ b z=>absurd (show b∈([]:List Addr) from z) (by simp);refine ⟨rfl,⟨λ b o e=>?_,λ b o e=>un.there b o e (by simp)⟩,os,bare⟩;rcases ent.only b with z | ⟨dq,xs,z⟩ | ⟨z,y⟩
   ·exact .inl (un.keep b o e z (no b) (by simp))
   ·refine .inl ?_;have bU:=un.j9 b dq _ z;obtain ⟨az,_⟩:=bO b _ z;rw [e] at az;cases az;exact (GA b _ bU).1
   ·obtain ⟨mo,bU⟩:=un.kP b _ y;have gm:=tabAt b z;rw [e] at gm;obtain rfl:=gb.inj gm;obtain ⟨p,aj,rfl⟩:=h4.mp z;exact .inr (.inl ⟨((dy p aj).1.tab (dy p aj).2).isCodeTable,rfl,#[],mo,rfl,GA p.2 _ bU⟩)
end
theorem Qn{p:c8}{loose:List Str}{Qo:ExcName->Option Value}{mg j_:Str->Option Value}{h:b2}(T:Top p loose Qo mg j_ h):nB mg h:=by
 obtain ⟨bm,dq,cv,e0,mA,ij,jL,rj⟩:=T.bmain;refine ⟨bm,dq,cv,e0,λ z=>?_,mA,ij,jL,rj⟩;obtain ⟨o,aw,fg,e,hd,_⟩:=T.g;rw [z,e] at mA;cases mA;rw [hd] at rj;cases rj
end L2
namespace L3
open PySem PySem.Spec L2
inductive D where
 | br | aO (b:Bool) | int (i:Int) | str (x:Str) | ref (a:Addr) | ty (n:String) | tup (ds:List D) | ey (ds:List D)
def ko(K:a6)(H:ar)(a:Addr)(xs:List V):Prop:=
 (∃ o,H a=some (.gD o (.lst xs)))\/∃(o:Obj)(aN:Array Value)(n:Nat),K.lookup a=some o/\o.cls=.type "list"/\o.dict=none/\o.data=.seq aN n/\aN.size<=sizeLine/\Vals xs aN.toList
theorem ko.ik{K:a6}{H:ar}{a:Addr}{xs:List V}(h:ko K H a xs):fi K H a xs:=by
 rcases h with h | h
 ·exact .inl (.inr h)
 ·exact .inr h
mutual
def cV(K:a6)(H:ar):D->V->Prop
 | .br,v=>v=.br
 | .aO b,v=>v=.aO b
 | .int i,v=>v=.int i
 | .str x,v=>v=.str x
 | .ref a,v=>v=.ref a
 | .ty n,v=>v=.ty n
 | .tup ds,v=>∃ a vs,v=.ref a/\dD K H a vs/\b_ K H ds vs
 | .ey ds,v=>∃ a vs,v=.ref a/\ko K H a vs/\b_ K H ds vs
def b_(K:a6)(H:ar):List D->List V->Prop
 | [],vs=>vs=[]
 | d::ds,vs=>∃ v r,vs=v::r/\cV K H d v/\b_ K H ds r
end
structure jM(K:a6)(H ai:ar):Prop where
 dF:∀ a xs,dD K H a xs->dD K ai a xs
 fr:∀ a xs,ko K H a xs->ko K ai a xs
 dA:∀ a o,H a=some (gg o)->ai a=some (gg o)
section
variable{K:a6}{H ai:ar}
mutual
theorem cV.mono(h:jM K H ai):∀{d:D}{v:V},cV K H d v->cV K ai d v
 | .br,_,r=>r
 | .aO _,_,r=>r
 | .int _,_,r=>r
 | .str _,_,r=>r
 | .ref _,_,r=>r
 | .ty _,_,r=>r
 | .tup _,_,⟨a,vs,e,q,l⟩=>⟨a,vs,e,h.dF a vs q,b_.mono h l⟩
 | .ey _,_,⟨a,vs,e,q,l⟩=>⟨a,vs,e,h.fr a vs q,b_.mono h l⟩
theorem b_.mono(h:jM K H ai):∀{ds:List D}{vs:List V},b_ K H ds vs->b_ K ai ds vs
 | [],_,r=>r
 | _::_,_,⟨v,r,e,q,l⟩=>⟨v,r,e,cV.mono h q,b_.mono h l⟩
end
theorem b_.len:∀{ds:List D}{vs:List V},b_ K H ds vs->vs.length=ds.length
 | [],_,r=>by cases r;rfl
 | _::_,_,⟨v,r,e,_,l⟩=>by subst e;simp [l.len]
theorem b_.append:∀{ds aw:List D}{vs us:List V},b_ K H ds vs->b_ K H aw us->b_ K H (ds++aw) (vs++us)
 | [],_,_,_,r,s=>by cases r;exact s
 | _::_,_,_,_,⟨v,r,e,q,l⟩,s=>by subst e;exact ⟨v,_,rfl,q,l.append s⟩
theorem b_.one{d:D}{v:V}(h:cV K H d v):b_ K H [d] [v]:=⟨v,[],rfl,h,rfl⟩
theorem b_.get:∀{ds:List D}{vs:List V}{i:Nat}{d:D},b_ K H ds vs->ds[i]?=some d->∃ v,vs[i]?=some v/\cV K H d v
 | [],_,_,_,_,e=>by simp at e
 | _::_,_,0,_,⟨v,r,e',q,l⟩,e=>by simp at e;subst e e';exact ⟨v,rfl,q⟩
 | _::_,_,i+1,d,⟨v,r,e',q,l⟩,e=>by
  subst e';obtain ⟨u,af,ao⟩:=b_.get (i:=i) (d:=d) l (by simpa using e);exact ⟨u,by simpa using af,ao⟩
theorem b_.take:∀{ds:List D}{vs:List V}(n:Nat),b_ K H ds vs->b_ K H (ds.take n) (vs.take n)
 | _,_,0,_=>by simp [b_]
 | [],_,n+1,r=>by cases r;simp [b_]
 | _::_,_,n+1,⟨v,r,e,q,l⟩=>by subst e;exact ⟨v,_,rfl,q,l.take n⟩
theorem b_.drop:∀{ds:List D}{vs:List V}(n:Nat),b_ K H ds vs->b_ K H (ds.drop n) (vs.drop n)
 | _,_,0,r=>r
 | [],_,n+1,r=>by cases r;simp [b_]
 | _::_,_,n+1,⟨v,r,e,q,l⟩=>by subst e;exact l.drop n
theorem b_.set{d:D}{v:V}(h:cV K H d v):∀{ds:List D}{vs:List V}(i:Nat),b_ K H ds vs->b_ K H (ds.set i d) (vs.set i v)
 | [],_,_,r=>by cases r;simp [b_]
 | _::_,_,0,⟨u,r,e,q,l⟩=>by subst e;exact ⟨v,r,rfl,h,l⟩
 | _::_,_,i+1,⟨u,r,e,q,l⟩=>by subst e;exact ⟨u,_,rfl,q,l.set h i⟩
theorem b_.ints{ns:List Int}:∀{vs:List V},b_ K H (ns.map D.int) vs->vs=ns.map V.int:=by
 induction ns with
 | nil=>intro vs h;exact h
 | cons n ns bL=>rintro vs ⟨v,r,e,q,l⟩;subst e;rw [bL l,show v=V.int n from q];rfl
theorem b_.GB:∀(ns:List Int),b_ K H (ns.map D.int) (ns.map V.int)
 | []=>rfl
 | n::ns=>⟨_,_,rfl,rfl,b_.GB ns⟩
end
def cut{α:Type}(xs:List α)(lo aA:Option Int):List α:=(xs.drop (d9.cJ xs.length 0 lo)).take (d9.cJ xs.length xs.length aA - d9.cJ xs.length 0 lo)
theorem b_.cut{K:a6}{H:ar}{ds:List D}{vs:List V}(h:b_ K H ds vs)(lo aA:Option Int):b_ K H (L3.cut ds lo aA) (lC vs lo aA):=by
 have e:=h.len;rw [L3.cut,lC,e];exact (h.drop _).take _
inductive ek where
 | lst (ds:List D)
 | ins (C:Addr) (fs:List (Str × D))
 | eD (kvs:List (Key × D))
 | hx (kvs:List (List Key × D))
 | sT (kvs:List (List Key × D))
 | tab (pos:Pos) (qual:Str) | made (env:Env) (name qual:Str) (st:bE) (fr:List Str) | mB (name qual:Str) (st:bE) (fr:List Str) (vals:List D)
abbrev aH:=Addr->Option ek
abbrev eM:=List (Option D)
def up(G:aH)(a:Addr)(o:ek):aH:=λ b=>if b=a then some o else G b
theorem aG{G:aH}{a:Addr}{o:ek}:up G a o a=some o:=by unfold up;rw [if_pos rfl]
theorem bv{G:aH}{a b:Addr}{o:ek}(h:b≠a):up G a o b=G b:=by unfold up;rw [if_neg h]
theorem dh{G:aH}{a:Addr}{o u:ek}:up (up G a o) a u=up G a u:=by funext b;unfold up;split<;>rfl
theorem GC{G:aH}{a b:Addr}{o u:ek}(h:a≠b):up (up G a o) b u=up (up G b u) a o:=by
 funext c;unfold up;split<;>split<;>simp_all
theorem GD{G:aH}{a:Addr}{o:ek}(h:G a=some o):up G a o=G:=by
 funext b;unfold up;split
 ·next e=>rw [e,h]
 ·rfl
def fk{κ:Type}(K:a6)(H:ar)(fs:List (κ × D))(gs:List (κ × V)):Prop:=fs.map (·.1)=gs.map (·.1)/\b_ K H (fs.map (·.2)) (gs.map (·.2))
def mC(K:a6)(H:ar)(a:Addr):ek->Prop
 | .lst ds=>∃ vs,H a=some (.lst vs)/\b_ K H ds vs
 | .ins C fs=>∃ bT gs,H a=some (.ins C bT gs)/\fk K H fs gs
 | .eD kvs=>∃ gs,H a=some (.eD gs)/\fk K H kvs gs
 | .hx kvs=>∃ gs,H a=some (.hx gs)/\fk K H kvs gs
 | .sT kvs=>∃ o gs,H a=some (.gD o (.hx gs))/\fk K H kvs gs
 | .tab pos qual=>Tab H a pos qual
 | .made env name qual st fr=>sO env H a name qual st fr
 | .mB name qual st fr vals=>∃ cl cD,k2 H a name qual st cl cD/\cl.map (·.1)=fr/\b_ K H vals cD
def eH(K:a6)(G:aH)(H:ar):Prop:=∀ a o,G a=some o->mC K H a o
theorem mC.some{K:a6}{H:ar}{a:Addr}{o:ek}(h:mC K H a o):∃ u,H a=.some u:=by
 cases o with
 | lst ds=>obtain ⟨_,e,_⟩:=h;exact ⟨_,e⟩
 | ins C fs=>obtain ⟨_,_,e,_⟩:=h;exact ⟨_,e⟩
 | eD kvs=>obtain ⟨_,e,_⟩:=h;exact ⟨_,e⟩
 | hx kvs=>obtain ⟨_,e,_⟩:=h;exact ⟨_,e⟩
 | sT kvs=>obtain ⟨_,_,e,_⟩:=h;exact ⟨_,e⟩
 | tab pos qual=>obtain ⟨_,e,_⟩:=h;exact ⟨_,e⟩
 | made env name qual st fr=>obtain ⟨_,_,_,_,_,_,_,e,_⟩:=h.fn;exact ⟨_,e⟩
 | mB name qual st fr vals=>obtain ⟨_,_,h,_⟩:=h;obtain ⟨_,_,_,_,_,_,_,e,_⟩:=h.fn;exact ⟨_,e⟩
theorem eH.none{K:a6}{G:aH}{H:ar}(h:eH K G H){a:Addr}(e:H a=.none):G a=.none:=by
 cases q:G a with
 | none=>rfl
 | some o=>obtain ⟨u,z⟩:=(h a o q).some;rw [e] at z;cases z
theorem mC.mono{K:a6}{H ai:ar}{a:Addr}{o:ek}(bt:jM K H ai)(e:ai a=H a)(h:mC K H a o):mC K ai a o:=by
 cases o with
 | lst ds=>obtain ⟨vs,q,l⟩:=h;exact ⟨vs,by rw [e];exact q,l.mono bt⟩
 | ins C fs=>obtain ⟨bT,gs,q,l⟩:=h;exact ⟨bT,gs,by rw [e];exact q,l.1,l.2.mono bt⟩
 | eD kvs=>obtain ⟨gs,q,l⟩:=h;exact ⟨gs,by rw [e];exact q,l.1,l.2.mono bt⟩
 | hx kvs=>obtain ⟨gs,q,l⟩:=h;exact ⟨gs,by rw [e];exact q,l.1,l.2.mono bt⟩
 | sT kvs=>obtain ⟨o,gs,q,l⟩:=h;exact ⟨o,gs,by rw [e];exact q,l.1,l.2.mono bt⟩
 | tab pos qual=>
  obtain ⟨ps,af,ao,aF⟩:=h;refine ⟨ps,by rw [e];exact af,ao,?_⟩;rcases aF with aF | ⟨c,o,vs,t,aF,cn,d1⟩
  ·exact .inl aF
  ·exact .inr ⟨c,o,vs,t,aF,bt.dA _ _ cn,d1⟩
 | made env name qual st fr=>
  obtain ⟨dX,dC,doc,pm,bP,ct,b6,af,c,o,vs,t,ao,aF,cn⟩:=h.fn;exact ⟨dX,dC,doc,pm,bP,ct,b6,bt.dA _ _ af,c,o,vs,t,ao,bt.dA _ _ aF,cn⟩
 | mB name qual st fr vals=>
  obtain ⟨cl,cD,C,af,ao⟩:=h;obtain ⟨dX,dC,doc,pm,bP,ct,b6,aF,c,o,vs,t,cn,d1,iD⟩:=C.fn;exact ⟨cl,cD,⟨⟨dX,dC,doc,pm,bP,ct,b6,bt.dA _ _ aF,c,o,vs,t,cn,bt.dA _ _ d1,iD⟩,λ i x c aA=>let ⟨v,u,o,bF,bU,dg,hc⟩:=C.cells i x c aA;⟨v,u,o,bF,bU,bt.dA _ _ dg,hc⟩,C.len,C.Au⟩,af,ao.mono bt⟩
structure Go(K:a6)(G:aH)(H:ar)(ak:aH)(ai:ar):Prop where
 tup:jM K H ai
 jk:∀ a o,H a=some o->∃ dR,ai a=some dR
 same:∀ a o,H a=some o->G a=none->ai a=some o
 new:∀ a o,H a=some o->G a=none->ak a=none
 bX:eH K ak ai
section
variable{K:a6}{G av aU ak:aH}{H H1 aK ai:ar}
theorem Go.refl(v:eH K G H):Go K G H G H:=⟨⟨λ _ _ h=>h,λ _ _ h=>h,λ _ _ h=>h⟩,λ _ o e=>⟨o,e⟩,λ _ _ e _=>e,λ _ _ _ e=>e,v⟩
theorem Go.trans(a:Go K G H av H1)(b:Go K av H1 aU aK):Go K G H aU aK:=
 ⟨⟨λ x xs h=>b.tup.dF x xs (a.tup.dF x xs h),λ x xs h=>b.tup.fr x xs (a.tup.fr x xs h),λ x o h=>b.tup.dA x o (a.tup.dA x o h)⟩,λ x o e=>let ⟨dR,e'⟩:=a.jk x o e;b.jk x dR e',λ x o e n=>b.same x o (a.same x o e n) (a.new x o e n),
  λ x o e n=>b.new x o (a.same x o e n) (a.new x o e n),b.bX⟩
def Sub(G ak:aH):Prop:=∀ a o,G a=some o->ak a=some o
theorem Sub.refl(G:aH):Sub G G:=λ _ _ e=>e
theorem Sub.trans{G av aU:aH}(a:Sub G av)(b:Sub av aU):Sub G aU:=λ x o e=>b x o (a x o e)
theorem Sub.none{G ak:aH}(h:Sub G ak){a:Addr}(e:ak a=.none):G a=.none:=by
 cases q:G a with
 | none=>rfl
 | some o=>rw [h a o q] at e;cases e
theorem eH.sub(v:eH K ak H)(h:Sub G ak):eH K G H:=λ a o e=>v a o (h a o e)
theorem Go.sub(g:Go K G H av H1)(h:Sub aU av):Go K G H aU H1:=⟨g.tup,g.jk,g.same,λ x o e n=>h.none (g.new x o e n),g.bX.sub h⟩
theorem Qp{a p:Addr}{o:gU}{xs:List V}(aj:∀ a3,¬ j7 H p (.tup a3))(h:dD K H a xs):dD K (upd H p o) a xs:=by
 rcases h with h | h
 ·have ne:a≠p:=by rintro rfl;exact aj _ h
  refine .inl ?_;unfold j7 at h ⊢;rw [cH ne];exact h
 ·exact .inr h
theorem Qq{p:Addr}{a3:List V}(h:H p=none):¬ j7 H p (.tup a3):=by
 rintro (e | ⟨o,e⟩)<;>rw [h] at e<;>cases e
theorem Qr{p:Addr}{xs a3:List V}(h:H p=some (.lst xs)):¬ j7 H p (.tup a3):=by
 rintro (e | ⟨o,e⟩)<;>rw [h] at e<;>cases e
theorem AH{p:Addr}{o:gU}(aj:∀ a3,¬ j7 H p (.tup a3))(aP:∀ o a3,H p≠some (.gD o a3)):jM K H (upd H p o) where
 dF:=λ _ _ q=>Qp aj q
 fr:=λ a xs q=>by
  rcases q with ⟨z,q⟩ | q
  ·exact .inl ⟨z,by rw [cH (by rintro rfl;exact aP _ _ q)];exact q⟩
  ·exact .inr q
 dA:=λ a u q=>by rw [cH (by rintro rfl;exact aP _ _ q)];exact q
theorem nD{p:Addr}{o:gU}(h:H p=none):jM K H (upd H p o):=AH (λ _=>Qq h) λ _ _ e=>by rw [h] at e;cases e
theorem nE{p:Addr}{o:gU}{xs:List V}(h:H p=some (.lst xs)):jM K H (upd H p o):=AH (λ _=>Qr h) λ _ _ e=>by rw [h] at e;cases e
theorem Go.nz(v:eH K G H){p:Addr}{o:gU}(h:H p=none):Go K G H G (upd H p o) where
 tup:=nD h
 jk:=λ a u e=>⟨u,by rw [cH (hP e h)];exact e⟩
 same:=λ a u e _=>by rw [cH (hP e h)];exact e
 new:=λ _ _ _ e=>e
 bX:=λ a u e=>(v a u e).mono (nD h) (cH (by rintro rfl;obtain ⟨z,q⟩:=(v _ _ e).some;rw [h] at q;cases q))
theorem Go.x5(v:eH K G H){p:Addr}{ds:List D}{vs:List V}(h:H p=none)(r:b_ K H ds vs):Go K G H (up G p (.lst ds)) (upd H p (.lst vs)) where
 tup:=nD h
 jk:=λ a u e=>⟨u,by rw [cH (hP e h)];exact e⟩
 same:=λ a u e _=>by rw [cH (hP e h)];exact e
 new:=λ a u e n=>by rw [bv (hP e h)];exact n
 bX:=λ a u e=>by
  by_cases c:a=p
  ·subst c;rw [aG] at e;cases e;exact ⟨vs,fq,r.mono (nD h)⟩
  ·rw [bv c] at e;exact (v a u e).mono (nD h) (cH c)
theorem Go.rl(v:eH K G H){p:Addr}{Qs ds:List D}{vs:List V}(h:G p=some (.lst Qs))(r:b_ K H ds vs):Go K G H (up G p (.lst ds)) (upd H p (.lst vs)):=by
 obtain ⟨us,aj,_⟩:=v p _ h
 exact {
  tup:=nE aj
  jk:=λ a u e=>by
   by_cases c:a=p
   ·subst c;exact ⟨_,fq⟩
   ·exact ⟨u,by rw [cH c];exact e⟩
  same:=λ a u e n=>by
   have c:a≠p:=by rintro rfl;rw [h] at n;cases n
   rw [cH c];exact e
  new:=λ a u e n=>by
   have c:a≠p:=by rintro rfl;rw [h] at n;cases n
   rw [bv c];exact n
  bX:=λ a u e=>by
   by_cases c:a=p
   ·subst c;rw [aG] at e;cases e;exact ⟨vs,fq,r.mono (nE aj)⟩
   ·rw [bv c] at e
    exact (v a u e).mono (nE aj) (cH c) }
theorem Go.grow(v:eH K G H)(h:ml H ai):Go K G H G ai:=by
 have bt:jM K H ai:=⟨λ b xs q=>by
  rcases q with q | q
  ·rcases q with q | ⟨o,q⟩
   ·exact .inl (.inl (h _ _ q))
   ·exact .inl (.inr ⟨o,h _ _ q⟩)
  ·exact .inr q,λ b xs q=>by
  rcases q with ⟨o,q⟩ | q
  ·exact .inl ⟨o,h _ _ q⟩
  ·exact .inr q,λ b o q=>h _ _ q⟩
 exact ⟨bt,λ a o e=>⟨o,h a o e⟩,λ a o e _=>h a o e,λ _ _ _ e=>e,λ a u e=>by
  obtain ⟨z,q⟩:=(v a u e).some
  exact (v a u e).mono bt (by rw [q];exact h _ _ q)⟩
end
structure dU(K:a6)(ρ:eM)(G:aH)(σ:St)(H:ar):Prop where
 len:ρ.length=σ.length
 st:∀(i:Nat)(d:D),ρ[i]?=some (some d)->∃ v,σ[i]?=some (some v)/\cV K H d v
 bX:eH K G H
theorem dU.go{K:a6}{ρ:eM}{G ak:aH}{σ:St}{H ai:ar}(b:dU K ρ G σ H)(g:Go K G H ak ai):dU K ρ ak σ ai:=
 ⟨b.len,λ i d e=>let ⟨v,af,ao⟩:=b.st i d e;⟨v,af,ao.mono g.tup⟩,g.bX⟩
theorem dU.set{K:a6}{ρ:eM}{G:aH}{σ:St}{H:ar}{d:D}{v:V}(b:dU K ρ G σ H)(h:cV K H d v)(i:Nat):dU K (ρ.set i (some d)) G (σ.set i (some v)) H where
 len:=by simp [b.len]
 bX:=b.bX
 st:=λ j e he=>by
  by_cases c:j=i
  ·subst c;rw [List.getElem?_set] at he ⊢;have l:=b.len;simp only [if_true] at he ⊢;split at he
   ·next q=>rw [if_pos (by omega)];simp at he;subst he;exact ⟨v,rfl,h⟩
   ·cases he
  ·rw [wP (by omega)] at he ⊢;exact b.st j e he
def x6(ρ ρ':eM):Prop:=ρ.length=ρ'.length/\∀(i:Nat)(d:D),ρ[i]?=some (some d)->ρ'[i]?=some (some d)
theorem x6.refl(ρ:eM):x6 ρ ρ:=⟨rfl,λ _ _ e=>e⟩
theorem dU.weak{K:a6}{ρ ρ':eM}{G ak:aH}{σ:St}{H:ar}(b:dU K ρ' ak σ H)(s:x6 ρ ρ')(g:Sub G ak):dU K ρ G σ H:=
 ⟨s.1.trans b.len,λ i d e=>b.st i d (s.2 i d e),b.bX.sub g⟩
abbrev da:=D->aH->Prop
abbrev cB:=eM->aH->da->Prop
abbrev fE:=eM->aH->(Bool->aH->Prop)->Prop
abbrev gx:=eM->aH->(List D->aH->Prop)->Prop
abbrev u3:=eM->aH->(Option Int->aH->Prop)->Prop
structure AI where
 nx:eM->aH->Prop
 rt:da
 bk:eM->aH->Prop:=λ _ _=>False
 ct:eM->aH->Prop:=λ _ _=>False
abbrev gK:=AI->eM->aH->Prop
abbrev Fin(K:a6)(G:aH)(H:ar)(ax:da)(Q:cm):Prop:=∀ d ak v ai,Go K G H ak ai->cV K ai d v->ax d ak->Q v ai
abbrev AJ(K:a6)(G:aH)(H:ar)(ax:Bool->aH->Prop)(Q:Bool->ar->Prop):Prop:=∀ b ak ai,Go K G H ak ai->ax b ak->Q b ai
abbrev Qt(K:a6)(G:aH)(H:ar)(ax:Option Int->aH->Prop)(Q:Option Int->ar->Prop):Prop:=∀ b ak ai,Go K G H ak ai->ax b ak->Q b ai
abbrev Qu(K:a6)(n:Nat)(G:aH)(H:ar)(ax:List D->aH->Prop)(Q:List V->ar->Prop):Prop:=∀ ds ak vs ai,Go K G H ak ai->b_ K ai ds vs->ds.length=n->ax ds ak->Q vs ai
structure b0(X:a4)(e:a8)(t:cB):Prop where
 run:∃ bf:TE,c3 X e bf/\∀ ρ G ax σ H Q,dU X.K ρ G σ H->t ρ G ax->Fin X.K G H ax Q->bf σ H Q
structure AT(X:a4)(e:a8)(t:fE):Prop where
 run:∃ bf:TT,hT X e bf/\∀ ρ G ax σ H Q,dU X.K ρ G σ H->t ρ G ax->AJ X.K G H ax Q->bf σ H Q
structure gL(X:a4)(e:a8)(t:fE):Prop where
 run:∃ bf:TT,oo X e bf/\∀ ρ G ax σ H Q,dU X.K ρ G σ H->t ρ G ax->AJ X.K G H ax Q->bf σ H Q
structure iE(X:a4)(aw:List a8)(t:gx):Prop where
 run:∃ bf:eZ,k0 X aw bf/\∀ ρ G ax σ H Q,dU X.K ρ G σ H->t ρ G ax->Qu X.K aw.length G H ax Q->bf σ H Q
structure x7(X:a4)(e:Option a8)(t:u3):Prop where
 run:∃ bf:ez,uP X e bf/\∀ ρ G ax σ H Q,dU X.K ρ G σ H->t ρ G ax->Qt X.K G H ax Q->bf σ H Q
structure u4(K:a6)(G:aH)(H:ar)(dP:AI)(e8:Ends):Prop where
 nx:∀ ρ ak σ ai,Go K G H ak ai->dU K ρ ak σ ai->dP.nx ρ ak->e8.nx σ ai
 rt:Fin K G H dP.rt e8.rt
 bk:∀ ρ ak σ ai,Go K G H ak ai->dU K ρ ak σ ai->dP.bk ρ ak->e8.bk σ ai
 ct:∀ ρ ak σ ai,Go K G H ak ai->dU K ρ ak σ ai->dP.ct ρ ak->e8.ct σ ai
structure iF(X:a4)(st:bE)(t:gK):Prop where
 run:∃ bf:fh,k1 X st bf/\∀ dP e8 ρ G σ H,dU X.K ρ G σ H->t dP ρ G->u4 X.K G H dP e8->bf e8 σ H
structure mD(X:a4)(st:List bE)(t:gK):Prop where
 run:∃ bf:fh,ny X st bf/\∀ dP e8 ρ G σ H,dU X.K ρ G σ H->t dP ρ G->u4 X.K G H dP e8->bf e8 σ H
abbrev fR:=D->eM->aH->(eM->aH->Prop)->Prop
abbrev lG:=List D->eM->aH->(eM->aH->Prop)->Prop
abbrev AK(K:a6)(G:aH)(H:ar)(ax:eM->aH->Prop)(Q:St->ar->Prop):Prop:=∀ ρ ak σ ai,Go K G H ak ai->dU K ρ ak σ ai->ax ρ ak->Q σ ai
structure jl(X:a4)(bj:a8)(t:fR):Prop where
 run:∃ bf:fZ,jj X bj bf/\∀ d v ρ G ax σ H Q,dU X.K ρ G σ H->cV X.K H d v->t d ρ G ax->AK X.K G H ax Q->bf v σ H Q
structure x8(X:a4)(Qv:List a8)(t:lG):Prop where
 run:∃ bf:l9,uO X Qv bf/\∀ ds vs ρ G ax σ H Q,dU X.K ρ G σ H->b_ X.K H ds vs->t ds ρ G ax->AK X.K G H ax Q->bf vs σ H Q
abbrev x9:=D->aH->da->Prop
abbrev jm:=D->D->aH->da->Prop
abbrev sU:=List D->aH->da->Prop
structure gY(X:a4)(f:Value->Value->Sem Value)(r:jm):Prop where
 run:∃ rc:fv,xJ X f rc/\∀ x y e9 hV G H ax Q,eH X.K G H->cV X.K H x e9->cV X.K H y hV->r x y G ax->Fin X.K G H ax Q->rc e9 hV H Q
structure GE(X:a4)(f:Value->Sem Value)(r:x9):Prop where
 run:∃ rc:V->ar->cm->Prop,FX X f rc/\∀ x e9 G H ax Q,eH X.K G H->cV X.K H x e9->r x G ax->Fin X.K G H ax Q->rc e9 H Q
structure rm(X:a4)(f:Value)(r:sU):Prop where
 run:∃ rc:List V->ar->cm->Prop,Ai X f rc/\∀ xs vs G H ax Q,eH X.K G H->b_ X.K H xs vs->r xs G ax->Fin X.K G H ax Q->rc vs H Q
structure GF(X:a4)(r:jm):Prop where
 run:∃ rc:fv,FY X rc/\∀ x y e9 hV G H ax Q,eH X.K G H->cV X.K H x e9->cV X.K H y hV->r x y G ax->Fin X.K G H ax Q->rc e9 hV H Q
structure GG(X:a4)(r:D->Option Int->Option Int->aH->da->Prop):Prop where
 run:∃ rc,FZ X rc/\∀ x e9 lo aA G H ax Q,eH X.K G H->cV X.K H x e9->r x lo aA G ax->Fin X.K G H ax Q->rc e9 lo aA H Q
theorem Fin.after{K:a6}{G av:aH}{H H1:ar}{ax:da}{Q:cm}(F:Fin K G H ax Q)(g:Go K G H av H1):Fin K av H1 ax Q:=λ d ak v ai g' a q=>F d ak v ai (g.trans g') a q
theorem u4.after{K:a6}{G av:aH}{H H1:ar}{dP:AI}{e8:Ends}(F:u4 K G H dP e8)(g:Go K G H av H1):u4 K av H1 dP e8:=
 ⟨λ ρ ak σ ai g' b q=>F.nx ρ ak σ ai (g.trans g') b q,λ d ak v ai g' a q=>F.rt d ak v ai (g.trans g') a q,λ ρ ak σ ai g' b q=>F.bk ρ ak σ ai (g.trans g') b q,λ ρ ak σ ai g' b q=>F.ct ρ ak σ ai (g.trans g') b q⟩
section
variable{X:a4}{a b c e o i:a8}{aw:List a8}{a_ bG aX to e6:cB}{t:gx}{pos p apos e7:Pos}
abbrev rn(d:D):cB:=λ _ G Q=>Q d G
abbrev GH(k:Nat):cB:=λ ρ G Q=>match ρ[k]? with
 | some (some d)=>Q d G
 | _=>False
theorem sV{v:V}{d:D}(h:c3 X e (kQ v))(r:∀ H,cV X.K H d v):b0 X e (rn d):=⟨_,h,λ ρ G ax σ H Q B q F=>F d G v H (.refl B.bX) (r H) q⟩
theorem ay{n:Int} {j}:b0 X (.Constant (.int n) j pos) (rn (.int n)):=sV Oz λ _=>rfl
theorem jN{n:Bool} {j}:b0 X (.Constant (.bool n) j pos) (rn (.aO n)):=sV OA λ _=>rfl
theorem il {j}:b0 X (.Constant .none j pos) (rn .br):=sV OB λ _=>rfl
theorem bN{x:Str} {j}:b0 X (.Constant (.str x) j pos) (rn (.str x)):=sV OC λ _=>rfl
theorem ae(k:Nat){x:Str}(cY:X.N[k]?=some x:=by rfl)(bK:qw X.env.scope x:=by first | exact Or.inl rfl | exact Or.inr (Or.inl rfl) | exact Or.inr (Or.inr rfl))(hd:(x==("__debug__" : Str))=false:=by decide)
 (g8:(x==("__classdict__" : Str))=false:=by decide):b0 X (.Name x pos) (GH k):=⟨_,Aj k cY bK hd g8,λ ρ G ax σ H Q B q F=>by
 unfold GH at q;split at q
 ·next d h=>
  obtain ⟨v,af,ao⟩:=B.st k d h;exact ⟨v,af,F d G v H (.refl B.bX) ao q⟩
 ·exact q.elim⟩
theorem ro{x:Str}{n:String}(a0:eF X x)(hm:X.mg x=none)(bK:lr x=some (.type n))(bc:x≠"__name__":=by decide)(hd:(x==("__debug__" : Str))=false:=by decide):b0 X (.Name x pos) (rn (.ty n)):=
 sV (OD (v:=.ty n) a0 hm bK rfl bc hd) λ _=>rfl
theorem AL{x:Str}{v:V}{u:Value}{d:D}(a0:eF X x)(hm:X.mg x=some u)(r:RelV v u)(au:∀ H,cV X.K H d v)(hd:(x==("__debug__" : Str))=false:=by decide):b0 X (.Name x pos) (rn d):=sV (OE a0 hm r hd) au
abbrev GI:gx:=λ _ G Q=>Q [] G
abbrev Qw(a_:cB)(xp:gx):gx:=λ ρ G Q=>a_ ρ G λ x av=>xp ρ av λ xs aU=>Q (x::xs) aU
theorem aD:iE X [] GI:=⟨_,OF,λ ρ G ax σ H Q B q F=>F [] G [] H (.refl B.bX) rfl rfl q⟩
theorem ah(au:b0 X e aX)(ap:iE X aw t)(aB:fj e=true:=by rfl):iE X (e::aw) (Qw aX t):=by
 obtain ⟨ca,cw,cy⟩:=au.run;obtain ⟨cr,AM,ew⟩:=ap.run;refine ⟨_,OG cw AM aB,λ ρ G ax σ H Q B q F=>?_⟩;refine cy ρ G _ σ H _ B q λ x av v H1 g1 a7 aE=>ew ρ av _ σ H1 _ (B.go g1) aE λ xs aU vs aK g2 Qx aP bu=>?_;exact F (x::xs) aU (v::vs) aK (g1.trans g2) ⟨v,vs,rfl,a7.mono g2.tup,Qx⟩ (by simp [aP]) bu
abbrev Qy(t:gx):cB:=λ ρ G Q=>t ρ G λ ds av=>Q (.tup ds) av
abbrev Qz(t:gx):cB:=λ ρ G Q=>t ρ G λ ds av=>∀ p,av p=none->Q (.ref p) (up av p (.lst ds))
theorem x_{n:Nat}(h:jB n 1000=true):n<=sizeLine:=by
 have:=Nat.le_of_ble_eq_true h;rw [qc];omega
theorem cE {am} (h:iE X aw t) (aP:jB aw.length 1000=true:=by rfl):b0 X (.Tuple aw am pos) (Qy t):=by
 obtain ⟨ca,cw,cy⟩:=h.run;refine ⟨_,OH cw,λ ρ G ax σ H Q B q F=>cy ρ G _ σ H _ B q λ ds av vs H1 g1 al bc aE=>⟨by rw [al.len,bc];exact x_ aP,λ p aj=>?_⟩⟩;have g2:=Go.nz (o:=.tup vs) g1.bX aj;exact F (.tup ds) av _ _ (g1.trans g2) ⟨p,vs,rfl,.of fq,al.mono g2.tup⟩ aE
theorem lH(h:iE X aw t)(aP:jB aw.length 1000=true:=by rfl):b0 X (.List aw pos) (Qz t):=by
 obtain ⟨ca,cw,cy⟩:=h.run;refine ⟨_,F0 cw,λ ρ G ax σ H Q B q F=>cy ρ G _ σ H _ B q λ ds av vs H1 g1 al bc aE=>⟨by rw [al.len,bc];exact x_ aP,λ p aj=>?_⟩⟩;exact F (.ref p) _ _ _ (g1.trans (Go.x5 g1.bX aj al)) rfl (aE p (g1.bX.none aj))
def ya(ds:List D):Int->Option D
 | .ofNat k=>ds[k]?
 | .negSucc k=>hb ds (.negSucc k)
theorem yb(ds:List D)(i:Int):ya ds i=hb ds i:=by
 cases i with
 | negSucc k=>rfl
 | ofNat k=>
  show ds[k]?=hb ds (k:Int);by_cases h:k < ds.length
  ·rw [hk h];exact (nk (hk h)).symm
  ·rw [qn (by omega)];unfold hb kX;rw [if_pos (by omega),if_neg (by omega)];rfl
def ow(ds:List D)(i:Int)(G:aH)(Q:da):Prop:=match ya ds i with
 | some d=>Q d G
 | none=>False
theorem u5{ds:List D}{i:Int}{G:aH}{Q:da}{d:D}(h:hb ds i=some d)(q:Q d G):ow ds i G Q:=by unfold ow;rw [yb,h];exact q
@[irreducible] def jO(G:aH)(l:Addr)(k:List D->Prop):Prop:=match G l with
 | some (.lst ds)=>k ds
 | _=>False
@[irreducible] def kp(G:aH)(l:Addr)(k:List D->Prop):Prop:=match G l with
 | some (.lst ds)=>k ds
 | _=>False
theorem cC{G:aH}{l:Addr}{k:List D->Prop}{ds:List D}(h:G l=some (.lst ds))(q:k ds):jO G l k:=by unfold jO;rw [h];exact q
theorem bQ{G:aH}{l:Addr}{k:List D->Prop}{ds:List D}(h:G l=some (.lst ds))(q:k ds):kp G l k:=by unfold kp;rw [h];exact q
theorem mE{K:a6}{G:aH}{H:ar}{l:Addr}{k:List D->Prop}(v:eH K G H)(h:jO G l k):∃ ds vs,k ds/\fi K H l vs/\b_ K H ds vs:=by
 unfold jO at h;split at h
 ·next ds e=>obtain ⟨vs,z,r⟩:=v _ _ e;exact ⟨ds,vs,h,.of z,r⟩
 ·exact h.elim
theorem lI{K:a6}{G:aH}{H:ar}{l:Addr}{k:List D->Prop}(v:eH K G H)(h:kp G l k):∃ ds vs,k ds/\G l=some (.lst ds)/\H l=some (.lst vs)/\b_ K H ds vs:=by
 unfold kp at h;split at h
 ·next ds e=>obtain ⟨vs,z,r⟩:=v _ _ e;exact ⟨ds,vs,h,e,z,r⟩
 ·exact h.elim
abbrev yc(r:jm)(a_ bG:cB):cB:=λ ρ G Q=>a_ ρ G λ x av=>bG ρ av λ y aU=>r x y aU Q
abbrev QA(r:x9)(a_:cB):cB:=λ ρ G Q=>a_ ρ G λ x av=>r x av Q
theorem b4{op:qg}{r:jm}(bb:gY X (hL op) r)(au:b0 X a a_)(ag:b0 X b bG):b0 X (.BinOp a op b pos) (yc r a_ bG):=by
 obtain ⟨ca,cw,cy⟩:=au.run;obtain ⟨hn,hg,eT⟩:=ag.run;obtain ⟨co,gM,fP⟩:=bb.run;refine ⟨_,OI gM cw hg,λ ρ G ax σ H Q B q F=>?_⟩;exact cy ρ G _ σ H _ B q λ x av v H1 g1 a7 aE=>eT ρ av _ σ H1 _ (B.go g1) aE λ y aU u aK g2 bh bu=>fP x y v u aU aK ax Q g2.bX (a7.mono g2.tup) bh bu (F.after (g1.trans g2))
theorem k4{op:o6}{r:jm}(bb:gY X (eP op) r)(au:b0 X a a_)(ag:b0 X b bG)(hm:o0 op b=false):b0 X (.Compare a [op] [b] pos) (yc r a_ bG):=by
 obtain ⟨ca,cw,cy⟩:=au.run;obtain ⟨hn,hg,eT⟩:=ag.run;obtain ⟨co,gM,fP⟩:=bb.run;refine ⟨_,OL gM cw hg hm,λ ρ G ax σ H Q B q F=>?_⟩;exact cy ρ G _ σ H _ B q λ x av v H1 g1 a7 aE=>eT ρ av _ σ H1 _ (B.go g1) aE λ y aU u aK g2 bh bu=>fP x y v u aU aK ax Q g2.bX (a7.mono g2.tup) bh bu (F.after (g1.trans g2))
theorem u6{op:UnaryOp}{r:x9}(bb:GE X (t4 op) r)(au:b0 X a a_):b0 X (.UnaryOp op a pos) (QA r a_):=by
 obtain ⟨ca,cw,cy⟩:=au.run;obtain ⟨co,gM,fP⟩:=bb.run;refine ⟨_,OJ gM cw,λ ρ G ax σ H Q B q F=>?_⟩;exact cy ρ G _ σ H _ B q λ x av v H1 g1 a7 aE=>fP x v av H1 ax Q g1.bX a7 aE (F.after g1)
theorem bI{r:jm}(ap:GF X r)(au:b0 X a a_)(ag:b0 X b bG)(aB:xx b):b0 X (.Subscript a b pos) (yc r a_ bG):=by
 obtain ⟨ca,cw,cy⟩:=au.run;obtain ⟨hn,hg,eT⟩:=ag.run;obtain ⟨co,gM,fP⟩:=ap.run;refine ⟨_,F1 gM cw hg aB,λ ρ G ax σ H Q B q F=>?_⟩;exact cy ρ G _ σ H _ B q λ x av v H1 g1 a7 aE=>eT ρ av _ σ H1 _ (B.go g1) aE λ y aU u aK g2 bh bu=>fP x y v u aU aK ax Q g2.bX (a7.mono g2.tup) bh bu (F.after (g1.trans g2))
def aS(c:Bool)(A B:Prop):Prop:=(c=true->A)/\(c=false->B)
theorem aS.yes{c:Bool}{A B:Prop}(h:c=true)(q:A):aS c A B:=⟨λ _=>q,λ z=>absurd (h.symm.trans z) (by decide)⟩
theorem aS.no{c:Bool}{A B:Prop}(h:c=false)(q:B):aS c A B:=⟨λ z=>absurd (h.symm.trans z) (by decide),λ _=>q⟩
abbrev u7(x:D)(k:Bool->Prop):Prop:=match x with
 | .aO c=>k c
 | _=>False
theorem AN{K:a6}{H:ar}{x:D}{v:V}{k:Bool->Prop}(h:u7 x k)(r:cV K H x v):∃ c,v=.aO c/\x=.aO c/\k c:=by
 unfold u7 at h;split at h
 ·exact ⟨_,r,rfl,h⟩
 ·exact h.elim
abbrev QB(a_ bG:cB):cB:=λ ρ G Q=>a_ ρ G λ x av=>u7 x λ c=>aS c (bG ρ av Q) (Q (.aO false) av)
abbrev QC(a_:cB):cB:=λ ρ G Q=>a_ ρ G λ x av=>u7 x λ c=>Q (.aO (!c)) av
theorem yd {op} (h:b0 X a a_):b0 X (.BoolOp op [a] pos) a_:=by
 obtain ⟨ca,cw,cy⟩:=h.run;exact ⟨_,OM cw,cy⟩
theorem u8{rest:List a8}(au:b0 X a a_)(ag:b0 X (.BoolOp .And (b::rest) pos) bG):b0 X (.BoolOp .And (a::b::rest) pos) (QB a_ bG):=by
 obtain ⟨ca,cw,cy⟩:=au.run;obtain ⟨hn,hg,eT⟩:=ag.run;refine ⟨_,ON cw hg,λ ρ G ax σ H Q B q F=>cy ρ G _ σ H _ B q λ x av v H1 g1 a7 aE=>?_⟩;obtain ⟨c,az,aW,bu⟩:=AN aE a7;refine ⟨c,az,?_⟩
 cases c with
 | true=>exact eT ρ av _ σ H1 _ (B.go g1) (bu.1 rfl) (F.after g1)
 | false=>exact F (.aO false) _ _ _ g1 rfl (bu.2 rfl)
theorem GJ(au:b0 X a a_):b0 X (.UnaryOp .Not a pos) (QC a_):=by
 obtain ⟨ca,cw,cy⟩:=au.run;refine ⟨_,OK cw,λ ρ G ax σ H Q B q F=>cy ρ G _ σ H _ B q λ x av v H1 g1 a7 aE=>?_⟩;obtain ⟨c,az,aW,bu⟩:=AN aE a7;exact ⟨c,az,F (.aO (!c)) _ _ _ g1 rfl bu⟩
abbrev QD(bf:fE)(a_ bG:cB):cB:=λ ρ G Q=>bf ρ G λ c av=>aS c (a_ ρ av Q) (bG ρ av Q)
theorem u9{bf:fE}(aJ:AT X c bf)(au:b0 X a a_)(ag:b0 X b bG):b0 X (.IfExp c a b pos) (QD bf a_ bG):=by
 obtain ⟨ox,oy,rc⟩:=aJ.run;obtain ⟨ca,cw,cy⟩:=au.run;obtain ⟨hn,hg,eT⟩:=ag.run;refine ⟨_,OO oy cw hg,λ ρ G ax σ H Q B q F=>rc ρ G _ σ H _ B q λ c av H1 g1 aE=>?_⟩
 cases c with
 | true=>exact cy ρ av _ σ H1 _ (B.go g1) (aE.1 rfl) (F.after g1)
 | false=>exact eT ρ av _ σ H1 _ (B.go g1) (aE.2 rfl) (F.after g1)
abbrev QE(t:cB):fE:=λ ρ G Q=>t ρ G λ x av=>u7 x λ c=>Q c av
theorem b5{op:o6}{r:jm}(bb:gY X (eP op) r)(au:b0 X a a_)(ag:b0 X b bG)(hm:o0 op b=false):AT X (.Compare a [op] [b] pos) (QE (yc r a_ bG)):=by
 obtain ⟨ca,cw,cy⟩:=au.run;obtain ⟨hn,hg,eT⟩:=ag.run;obtain ⟨co,gM,fP⟩:=bb.run;refine ⟨_,OX gM cw hg hm,λ ρ G ax σ H Q B q F=>?_⟩;refine cy ρ G _ σ H _ B q λ x av v H1 g1 a7 aE=>eT ρ av _ σ H1 _ (B.go g1) aE λ y aU u aK g2 bh bu=>fP x y v u aU aK _ _ g2.bX (a7.mono g2.tup) bh bu λ z cM w dE g3 oz dH=>?_;obtain ⟨c,az,aW,gE⟩:=AN dH oz;exact ⟨c,az,F c cM dE ((g1.trans g2).trans g3) gE⟩
abbrev QF(bf:fE):fE:=λ ρ G Q=>bf ρ G λ c av=>Q (!c) av
abbrev QG(bf ii:fE):fE:=λ ρ G Q=>bf ρ G λ c av=>aS c (ii ρ av Q) (Q false av)
abbrev QH(bf ii:fE):fE:=λ ρ G Q=>bf ρ G λ c av=>aS c (Q true av) (ii ρ av Q)
theorem u_{bf:fE}(au:AT X a bf):AT X (.UnaryOp .Not a pos) (QF bf):=by
 obtain ⟨ca,cw,cy⟩:=au.run;exact ⟨_,OY cw,λ ρ G ax σ H Q B q F=>cy ρ G _ σ H _ B q λ c av H1 g1 aE=>F _ _ _ g1 aE⟩
theorem va{bf:fE}(au:AT X a bf):gL X (.BoolOp .And [a] pos) bf:=by
 obtain ⟨ca,cw,cy⟩:=au.run;exact ⟨_,O0 cw,cy⟩
theorem lJ{bf:fE}(au:AT X a bf):gL X (.BoolOp .Or [a] pos) bf:=by
 obtain ⟨ca,cw,cy⟩:=au.run;exact ⟨_,O1 cw,cy⟩
theorem sW{bf ii:fE}{rest:List a8}(au:AT X a bf)(ag:gL X (.BoolOp .And (b::rest) pos) ii):gL X (.BoolOp .And (a::b::rest) pos) (QG bf ii):=by
 obtain ⟨ca,cw,cy⟩:=au.run;obtain ⟨hn,hg,eT⟩:=ag.run;refine ⟨_,O2 cw hg,λ ρ G ax σ H Q B q F=>cy ρ G _ σ H _ B q λ c av H1 g1 aE=>?_⟩
 cases c with
 | true=>exact eT ρ av _ σ H1 _ (B.go g1) (aE.1 rfl) λ c ak ai g'=>F c ak ai (g1.trans g')
 | false=>exact F _ _ _ g1 (aE.2 rfl)
theorem jn{bf ii:fE}{rest:List a8}(au:AT X a bf)(ag:gL X (.BoolOp .Or (b::rest) pos) ii):gL X (.BoolOp .Or (a::b::rest) pos) (QH bf ii):=by
 obtain ⟨ca,cw,cy⟩:=au.run;obtain ⟨hn,hg,eT⟩:=ag.run;refine ⟨_,O3 cw hg,λ ρ G ax σ H Q B q F=>cy ρ G _ σ H _ B q λ c av H1 g1 aE=>?_⟩
 cases c with
 | false=>exact eT ρ av _ σ H1 _ (B.go g1) (aE.2 rfl) λ c ak ai g'=>F c ak ai (g1.trans g')
 | true=>exact F _ _ _ g1 (aE.1 rfl)
theorem gL.at{bf:fE}(h:gL X e bf):AT X e bf:=by
 obtain ⟨ca,cw,cy⟩:=h.run;exact ⟨_,cw.pt,cy⟩
def QI(x:D)(G:aH)(k:Bool->Prop):Prop:=match x with
 | .br=>k false
 | .aO b=>k b
 | .int i=>k (i !=0)
 | .str y=>y.length<=sizeLine/\k ((y.length:Int) !=0)
 | .tup ds=>k (!ds.isEmpty)
 | .ref p=>jO G p λ ds=>k (!ds.isEmpty)
 | _=>False
theorem b_.isEmpty{K:a6}{H:ar}{ds:List D}{vs:List V}(h:b_ K H ds vs):vs.isEmpty=ds.isEmpty:=by
 have:=h.len;cases ds<;>cases vs<;>simp_all
abbrev QJ(t:cB):fE:=λ ρ G Q=>t ρ G λ x av=>QI x av λ c=>Q c av
theorem iG(au:b0 X a a_)(he:∀ whole,n0 a X.env whole=(do let v ← whole;kF a.pos;hM [v] (truthy v)):=by intro _;rfl):AT X a (QJ a_):=by
 obtain ⟨ca,cw,cy⟩:=au.run;refine ⟨_,OZ cw he,λ ρ G ax σ H Q B q F=>cy ρ G _ σ H _ B q λ x av v H1 g1 a7 aE=>?_⟩
 cases x with
 | br=>cases a7;exact ⟨_,rfl,F _ _ _ g1 aE⟩
 | aO b=>cases a7;exact ⟨_,rfl,F _ _ _ g1 aE⟩
 | int i=>cases a7;exact ⟨_,rfl,F _ _ _ g1 aE⟩
 | str y=>cases a7;exact ⟨_,⟨aE.1,rfl⟩,F _ _ _ g1 aE.2⟩
 | ref l=>
  cases a7;obtain ⟨ds,vs,k,s,r⟩:=mE g1.bX aE;exact ⟨_,.inl ⟨vs,s,rfl⟩,by rw [r.isEmpty];exact F _ _ _ g1 k⟩
 | tup ds=>
  obtain ⟨l,vs,rfl,s,r⟩:=a7;exact ⟨_,.inr (.inl ⟨vs,s,rfl⟩),by rw [r.isEmpty];exact F _ _ _ g1 aE⟩
 | ty n=>exact (show False from aE).elim
 | ey ds=>exact (show False from aE).elim
abbrev QK:u3:=λ _ G Q=>Q none G
abbrev QL(t:cB):u3:=λ ρ G Q=>t ρ G λ x av=>match x with
 | .int i=>Q (some i) av
 | _=>False
theorem AO:x7 X none QK:=⟨_,OP,λ ρ G ax σ H Q B q F=>F none G H (.refl B.bX) q⟩
theorem AP(h:b0 X e aX):x7 X (some e) (QL aX):=by
 obtain ⟨ca,cw,cy⟩:=h.run;refine ⟨_,OQ cw,λ ρ G ax σ H Q B q F=>cy ρ G _ σ H _ B q λ x av v H1 g1 a7 aE=>?_⟩;split at aE
 ·next i=>exact ⟨i,a7,F _ _ _ g1 aE⟩
 ·exact aE.elim
abbrev QM(r:D->Option Int->Option Int->aH->da->Prop)(aX:cB)(eL lB:u3):cB:=λ ρ G Q=>aX ρ G λ x av=>eL ρ av λ l aU=>lB ρ aU λ u cM=>r x l u cM Q
theorem AQ{r:D->Option Int->Option Int->aH->da->Prop}{lo aA:Option a8}{eL lB:u3}{cc:Pos}(ap:GG X r)(he:b0 X e aX)(aP:x7 X lo eL)(bx:x7 X aA lB):b0 X (.Subscript e (.Slice lo aA none cc) pos) (QM r aX eL lB):=by
 obtain ⟨ce,io,re⟩:=he.run;obtain ⟨cl,QN,fF⟩:=aP.run;obtain ⟨lK,QO,dw⟩:=bx.run;obtain ⟨cr,AM,ew⟩:=ap.run;refine ⟨_,OR AM io QN QO,λ ρ G ax σ H Q B q F=>re ρ G _ σ H _ B q λ x av v H1 g1 a7 aE=>fF ρ av _ σ H1 _ (B.go g1) aE λ l aU aK g2 bu=>dw ρ aU _ σ aK _ ((B.go g1).go g2) bu λ u cM dE g3 dH=>?_⟩;exact ew x v l u cM dE ax Q g3.bX ((a7.mono g2.tup).mono g3.tup) dH (F.after ((g1.trans g2).trans g3))
abbrev QP:gK:=λ D ρ G=>D.nx ρ G
abbrev QQ(t u:gK):gK:=λ D ρ G=>t { D with nx:=u D } ρ G
abbrev QR:gK:=λ D ρ G=>D.ct ρ G
abbrev QS(aX:cB):gK:=λ D ρ G=>aX ρ G λ _ av=>D.nx ρ av
abbrev QT(aX:cB):gK:=λ D ρ G=>aX ρ G D.rt
abbrev QU(c:fE)(t u:gK):gK:=λ D ρ G=>c ρ G λ b av=>aS b (t D ρ av) (u D ρ av)
theorem c6:mD X [] QP:=⟨_,O_,λ dP e8 ρ G σ H B q F=>F.nx ρ G σ H (.refl B.bX) B q⟩
theorem a5{st:bE}{rest:List bE}{dZ us:gK}(af:iF X st dZ)(ao:mD X rest us):mD X (st::rest) (QQ dZ us):=by
 obtain ⟨c1,gw,be⟩:=af.run;obtain ⟨c2,kl,bB⟩:=ao.run;refine ⟨_,Pa gw kl,λ dP e8 ρ G σ H B q F=>be _ _ ρ G σ H B q ⟨λ ρ' ak σ' ai g b q=>bB dP e8 ρ' ak σ' ai b q (F.after g),F.rt,F.bk,F.ct⟩⟩
theorem bw{st:bE}{dZ:gK}(af:iF X st dZ):mD X [st] dZ:=by
 obtain ⟨c1,gw,be⟩:=af.run;exact ⟨_,Pb gw,be⟩
theorem QV:iF X (.Continue pos) QR:=⟨_,Pc,λ dP e8 ρ G σ H B q F=>F.ct ρ G σ H (.refl B.bX) B q⟩
theorem jo(he:b0 X e aX)(aB:j3 e none pos.line X.env=pure false:=by rfl):iF X (.Expr e pos) (QS aX):=by
 obtain ⟨c1,gw,be⟩:=he.run;exact ⟨_,Pd gw aB,λ dP e8 ρ G σ H B q F=>be ρ G _ σ H _ B q λ d ak v ai g _ q=>F.nx ρ ak σ ai g (B.go g) q⟩
theorem b9(he:b0 X e aX):iF X (.Return (some e) pos) (QT aX):=by
 obtain ⟨c1,gw,be⟩:=he.run;exact ⟨_,Pe gw,λ dP e8 ρ G σ H B q F=>be ρ G _ σ H _ B q F.rt⟩
theorem cI{ss us:List bE}{bf:fE}{dZ uQ:gK}(aJ:AT X c bf)(au:mD X ss dZ)(ag:mD X us uQ):iF X (.If c ss us pos) (QU bf dZ uQ):=by
 obtain ⟨ox,oy,rc⟩:=aJ.run;obtain ⟨ca,cw,cy⟩:=au.run;obtain ⟨hn,hg,eT⟩:=ag.run;refine ⟨_,Pf oy cw hg,λ dP e8 ρ G σ H B q F=>rc ρ G _ σ H _ B q λ c av H1 g1 aE=>?_⟩
 cases c with
 | true=>exact cy dP e8 ρ av σ H1 (B.go g1) (aE.1 rfl) (F.after g1)
 | false=>exact eT dP e8 ρ av σ H1 (B.go g1) (aE.2 rfl) (F.after g1)
abbrev sX(k:Nat):fR:=λ d ρ G Q=>Q (ρ.set k (some d)) G
abbrev AR:lG:=λ ds ρ G Q=>match ds with
 | []=>Q ρ G
 | _=>False
abbrev AS(t:fR)(u:lG):lG:=λ ds ρ G Q=>match ds with
 | d::r=>t d ρ G λ ρ' ak=>u r ρ' ak Q
 | []=>False
abbrev GK(t:lG):fR:=λ d ρ G Q=>match d with
 | .tup ds=>t ds ρ G Q
 | _=>False
theorem hW{k:Nat}{x:Str}(cY:X.N.Nodup)(aA:X.N[k]?=some x)(aq:Loc X.env.scope x)(hf:X.fn x=true\/X.env.scope.names.lookup x=some .local:=by first | exact .inl rfl | exact .inr rfl | assumption):jl X (.Name x pos) (sX k):=
 ⟨_,O4 cY aA aq hf,λ d v ρ G ax σ H Q B a q F=>F _ G _ H (.refl B.bX) (B.set a k) q⟩
abbrev ye(aX:cB)(g:fR):gK:=λ D ρ G=>aX ρ G λ x av=>g x ρ av D.nx
theorem rp{bj:a8}{g:fR}(he:b0 X e aX)(a0:jl X bj g)(aB:tX [bj] e pos.line X.env=pure false:=by rfl)(hw:tY [bj] e X.env=pure none:=by rfl)(af:(ja [bj] X.env).map (·.2)=[hj bj X.env]:=by rfl):iF X (.Assign [bj] e pos) (ye aX g):=by
 obtain ⟨c1,gw,be⟩:=he.run;obtain ⟨c2,kl,bB⟩:=a0.run;exact ⟨_,Ph gw kl aB hw af,λ dP e8 ρ G σ H B q F=>be ρ G _ σ H _ B q λ d av v H1 g1 a aE=>bB d v ρ av _ σ H1 _ (B.go g1) a aE λ ρ' ak σ' ai g' b fC=>F.nx ρ' ak σ' ai (g1.trans g') b fC⟩
theorem cL{k:Nat}{x:Str}{pos':Pos}(cY:X.N.Nodup)(aA:X.N[k]?=some x)(aq:Loc X.env.scope x)(he:b0 X e aX)(aB:j3 e (some (.Name x pos')) pos.line X.env=pure false:=by rfl)(hf:X.fn x=true\/X.env.scope.names.lookup x=some .local:=by first | exact .inl rfl | exact .inr rfl | assumption) :
 iF X (.Assign [.Name x pos'] e pos) (ye aX (sX k)):=by
 obtain ⟨c1,gw,be⟩:=he.run;exact ⟨_,Pg cY aA aq gw aB hf,λ dP e8 ρ G σ H B q F=>be ρ G _ σ H _ B q λ d av v H1 g1 a aE=>F.nx _ av _ H1 g1 ((B.go g1).set a k) aE⟩
theorem vb:x8 X [] AR:=⟨_,O5,λ ds vs ρ G ax σ H Q B a q F=>by
 cases ds with
 | nil=>cases a;exact ⟨rfl,F ρ G σ H (.refl B.bX) B q⟩
 | cons d r=>exact (show False from q).elim⟩
theorem nF{bj:fR}{u:lG}(af:jl X e bj)(ao:x8 X aw u)(aB:(ja (e::aw) X.env).map (·.2)=hj e X.env::(ja aw X.env).map (·.2):=by rfl):x8 X (e::aw) (AS bj u):=by
 obtain ⟨c1,gw,be⟩:=af.run;obtain ⟨c2,kl,bB⟩:=ao.run;refine ⟨_,O6 gw kl aB,λ ds vs ρ G ax σ H Q B a q F=>?_⟩
 cases ds with
 | nil=>exact (show False from q).elim
 | cons d r=>
  obtain ⟨v,us,rfl,ad,QW⟩:=a;exact ⟨v,us,rfl,be d v ρ G _ σ H _ B ad q λ ρ' ak σ' ai g b fC=>bB r us ρ' ak _ σ' ai _ b (QW.mono g.tup) fC λ ρ2 aU σ2 aK g2 e0 bu=>F ρ2 aU σ2 aK (g.trans g2) e0 bu⟩
theorem vd{k n:Nat}{bj:lG}(aJ:X.calm=true)(h:x8 X aw bj)(aP:aw.length=n:=by rfl)(bc:(ja aw X.env).length=n:=by rfl)(hy:(ja aw X.env).findIdx? (·.1)=none:=by rfl)
 (hlen:∀ ds ρ G Q,bj ds ρ G Q->ds.length=n:=by intro ds ρ G Q h;match ds,h with | [],h=>(first | rfl | exact (show False from h).elim) | [_],h=>(first | rfl | exact (show False from h).elim) | [_,_],h=>(first | rfl | exact (show False from h).elim) | [_,_,_],h=>(first | rfl | exact (show False from h).elim) | _::_::_::_::_,h=>exact (show False from h).elim):jl X (.Tuple aw k pos) (GK bj):=by
 obtain ⟨c1,gw,be⟩:=h.run;refine ⟨_,O7 (n:=n) aJ gw bc hy,λ d v ρ G ax σ H Q B a q F=>?_⟩
 cases d with
 | tup ds=>
  obtain ⟨l,vs,rfl,s,r⟩:=a;exact ⟨l,vs,rfl,s,by rw [r.len];exact hlen _ _ _ _ q,be ds vs ρ G ax σ H Q B r q F⟩
 | _=>exact (show False from q).elim
end
section
variable{X:a4}
def GL:jm:=λ x y G Q=>match x,y with
 | .int i,.int j=>Q (.int (i+j)) G
 | .str i,.str j=>i.length+j.length<=sizeLine/\Q (.str (i++j)) G
 | .tup xs,.tup a3=>xs.length+a3.length<=sizeLine/\Q (.tup (xs++a3)) G
 | .ref l,.ref m=>kp G l λ xs=>kp G m λ a3=>xs.length+a3.length<=sizeLine/\∀ p,G p=none->Q (.ref p) (up G p (.lst (xs++a3)))
 | _,_=>False
theorem fS:gY X (hL .Add) GL:=by
 refine ⟨_,⟨LQ.or (Ma.or (Ot.or NG))⟩,λ x y e9 hV G H ax Q v a7 bh r F=>?_⟩
 cases x with
 | int i=>
  cases y with
  | int j=>cases a7;cases bh;exact .inl ⟨i,j,rfl,rfl,F (.int (i+j)) G _ H (.refl v) rfl r⟩
  | _=>exact (show False from r).elim
 | str i=>
  cases y with
  | str j=>cases a7;cases bh;exact .inr (.inl ⟨i,j,rfl,rfl,r.1,F (.str (i++j)) G _ H (.refl v) rfl r.2⟩)
  | _=>exact (show False from r).elim
 | tup xs=>
  cases y with
  | tup a3=>
   obtain ⟨l,vs,rfl,s1,be⟩:=a7;obtain ⟨m,us,rfl,s2,bB⟩:=bh;have cf:=be.len;have cK:=bB.len;refine .inr (.inr (.inl ⟨l,m,vs,us,rfl,rfl,s1,s2,by rw [cf,cK];exact r.1,λ e=>?_,λ e aW=>?_,λ e aW p aj=>?_⟩))
   ·subst e
    have e':xs=[]:=by cases xs<;>simp_all
    subst e';exact F (.tup a3) G _ H (.refl v) ⟨m,us,rfl,s2,bB⟩ (by simpa using r.2)
   ·subst aW
    have e':a3=[]:=by cases a3<;>simp_all
    subst e';exact F (.tup xs) G _ H (.refl v) ⟨l,vs,rfl,s1,be⟩ (by simpa using r.2)
   ·have g:=Go.nz (o:=.tup (vs++us)) v aj;exact F (.tup (xs++a3)) G _ _ g ⟨p,_,rfl,.of fq,(be.append bB).mono g.tup⟩ r.2
  | _=>exact (show False from r).elim
 | ref l=>
  cases y with
  | ref m=>
   cases a7;cases bh;obtain ⟨xs,vs,ec,az,af,be⟩:=lI v r;obtain ⟨a3,us,cF,aW,ao,bB⟩:=lI v ec;have cf:=be.len;have cK:=bB.len;exact .inr (.inr (.inr ⟨l,m,vs,us,rfl,rfl,af,ao,by rw [cf,cK];exact cF.1,λ p aj=>F (.ref p) _ _ _ (Go.x5 v aj (be.append bB)) rfl (cF.2 p (v.none aj))⟩))
  | _=>exact (show False from r).elim
 | _=>exact (show False from r).elim
def ve(C:Int->Int->Prop)(g:Int->Int->D):jm:=λ x y G Q=>match x,y with
 | .int i,.int j=>C i j/\Q (g i j) G
 | _,_=>False
def rq(g:Int->Int->D):jm:=λ x y G Q=>match x,y with
 | .int i,.int j=>Q (g i j) G
 | _,_=>False
theorem yf{f:Value->Value->Sem Value}{C:Int->Int->Prop}{g:Int->Int->Int}(h:eo X f (sG C λ i j=>.int (g i j))):gY X f (ve C λ i j=>.int (g i j)):=by
 refine ⟨_,⟨h⟩,λ x y e9 hV G H ax Q v a7 bh r F=>?_⟩
 cases x with
 | int i=>
  cases y with
  | int j=>cases a7;cases bh;exact ⟨i,j,rfl,rfl,r.1,F (.int (g i j)) G _ H (.refl v) rfl r.2⟩
  | _=>exact (show False from r).elim
 | _=>exact (show False from r).elim
theorem QX{f:Value->Value->Sem Value}{g:Int->Int->Int}(h:eo X f (ng λ i j=>.int (g i j))):gY X f (rq λ i j=>.int (g i j)):=by
 refine ⟨_,⟨h⟩,λ x y e9 hV G H ax Q v a7 bh r F=>?_⟩
 cases x with
 | int i=>
  cases y with
  | int j=>cases a7;cases bh;exact ⟨i,j,rfl,rfl,F (.int (g i j)) G _ H (.refl v) rfl r⟩
  | _=>exact (show False from r).elim
 | _=>exact (show False from r).elim
theorem yg{f:Value->Value->Sem Value}{g:Int->Int->Bool}(h:eo X f (ng λ i j=>.aO (g i j))):gY X f (rq λ i j=>.aO (g i j)):=by
 refine ⟨_,⟨h⟩,λ x y e9 hV G H ax Q v a7 bh r F=>?_⟩
 cases x with
 | int i=>
  cases y with
  | int j=>cases a7;cases bh;exact ⟨i,j,rfl,rfl,F (.aO (g i j)) G _ H (.refl v) rfl r⟩
  | _=>exact (show False from r).elim
 | _=>exact (show False from r).elim
theorem eI:gY X (hL .Sub) (rq λ i j=>.int (i - j)):=QX LR
theorem pN:gY X (hL .Mult) (ve xk λ i j=>.int (i * j)):=yf LS
theorem rr:gY X (hL .FloorDiv) (ve (λ _ j=>0 < j/\j < 2 ^ 64) λ i j=>.int (i / j)):=yf NV
theorem oA:gY X (hL .Mod) (ve (λ _ j=>0 < j) λ i j=>.int (i % j)):=yf LT
theorem QY:gY X (hL .Pow) (ve EW λ i j=>.int (i ^ j.toNat)):=yf LU
theorem jp:gY X (eP .Lt) (rq λ i j=>.aO (decide (i < j))):=yg LX
theorem QZ:gY X (eP .LtE) (rq λ i j=>.aO (decide (i<=j))):=yg LY
theorem pO:gY X (eP .Gt) (rq λ i j=>.aO (decide (j < i))):=yg LZ
theorem vf:gY X (eP .GtE) (rq λ i j=>.aO (decide (j<=i))):=yg L0
def Q0:x9:=λ x G Q=>match x with
 | .int i=>Q (.int (-i)) G
 | _=>False
theorem vg:GE X (t4 .USub) Q0:=by
 refine ⟨_,⟨LW⟩,λ x e9 G H ax Q v a7 r F=>?_⟩
 cases x with
 | int i=>cases a7;exact ⟨i,rfl,F (.int (-i)) G _ H (.refl v) rfl r⟩
 | _=>exact (show False from r).elim
def GM:D->Bool
 | .br=>true
 | _=>false
def yh(neg:Bool):jm:=λ x y G Q=>match y with
 | .br=>Q (.aO (neg ^^ GM x)) G
 | _=>False
theorem GN{K:a6}{H:ar}{x:D}{v:V}(a:cV K H x v):decide (v=.br)=GM x:=by
 cases x with
 | tup ds=>obtain ⟨_,_,rfl,_⟩:=a;rfl
 | ey ds=>obtain ⟨_,_,rfl,_⟩:=a;rfl
 | _=>cases a;rfl
theorem pP:gY X (eP .Is) (yh false):=by
 refine ⟨_,⟨L4⟩,λ x y e9 hV G H ax Q v a7 bh r F=>?_⟩
 cases y with
 | br=>cases bh;exact ⟨rfl,by rw [GN a7];exact F (.aO _) G _ H (.refl v) rfl (by simpa [yh] using r)⟩
 | _=>exact (show False from r).elim
theorem GO:gY X (eP .IsNot) (yh true):=by
 refine ⟨_,⟨L5⟩,λ x y e9 hV G H ax Q v a7 bh r F=>?_⟩
 cases y with
 | br=>cases bh;exact ⟨rfl,by rw [GN a7];exact F (.aO _) G _ H (.refl v) rfl (by simpa [yh] using r)⟩
 | _=>exact (show False from r).elim
theorem yi{K:a6}{H:ar}{ds:List D}{vs:List V}{i:Int}{d:D}(r:b_ K H ds vs)(h:hb ds i=some d):∃ v,hb vs i=some v/\cV K H d v:=by
 unfold hb at h ⊢;rw [r.len]
 cases e:kX ds.length i with
 | none=>rw [e] at h;cases h
 | some j=>
  rw [e] at h;exact r.get h
theorem yj{ds:List D}{i:Int}{G:aH}{Q:da}(h:ow ds i G Q):∃ d,hb ds i=some d/\Q d G:=by
 unfold ow at h;rw [yb] at h;split at h
 ·next d e=>exact ⟨d,e,h⟩
 ·exact h.elim
def ru:jm:=λ x y G Q=>match x,y with
 | .tup ds,.int i=>ow ds i G Q
 | .ref l,.int i=>jO G l λ ds=>ow ds i G Q
 | .ey ds,.int i=>ow ds i G Q
 | .str z,.int i=>z.length<=sizeLine/\∃ c,hb z.cps.toList i=some c/\Q (.str ⟨#[c]⟩) G
 | _,_=>False
theorem iH{ds:List D}{i:Int}{G:aH}{Q:da}{d:D}(h:hb ds i=some d)(q:Q d G):ru (.tup ds) (.int i) G Q:=u5 h q
theorem GP{ds:List D}{i:Int}{G:aH}{Q:da}{d:D}(h:hb ds i=some d)(q:Q d G):ru (.ey ds) (.int i) G Q:=u5 h q
theorem gZ{l:Addr}{ds:List D}{i:Int}{G:aH}{Q:da}{d:D}(aP:G l=some (.lst ds))(h:hb ds i=some d)(q:Q d G):ru (.ref l) (.int i) G Q:=cC aP (u5 h q)
theorem bJ:GF X ru:=by
 refine ⟨_,⟨Fs⟩,λ x y e9 hV G H ax Q v a7 bh r F=>?_⟩
 cases x with
 | tup ds=>
  cases y with
  | int i=>
   cases bh;obtain ⟨l,vs,rfl,s,fF⟩:=a7;obtain ⟨d,hd,q⟩:=yj r;obtain ⟨u,bx,ad⟩:=yi fF hd;exact .inr (.inl ⟨l,vs,i,u,rfl,rfl,s,bx,F d G u H (.refl v) ad q⟩)
  | _=>exact (show False from r).elim
 | ref l=>
  cases y with
  | int i=>
   cases a7;cases bh;obtain ⟨ds,vs,k,s,fF⟩:=mE v r;obtain ⟨d,hd,q⟩:=yj k;obtain ⟨u,bx,ad⟩:=yi fF hd;exact .inl ⟨l,vs,i,u,rfl,rfl,s,bx,F d G u H (.refl v) ad q⟩
  | _=>exact (show False from r).elim
 | ey ds=>
  cases y with
  | int i=>
   cases bh;obtain ⟨l,vs,rfl,s,fF⟩:=a7;obtain ⟨d,hd,q⟩:=yj r;obtain ⟨u,bx,ad⟩:=yi fF hd;exact .inl ⟨l,vs,i,u,rfl,rfl,s.ik,bx,F d G u H (.refl v) ad q⟩
  | _=>exact (show False from r).elim
 | str z=>
  cases y with
  | int i=>
   cases a7;cases bh;obtain ⟨hz,c,aJ,q⟩:=r;exact .inr (.inr ⟨z,i,c,rfl,rfl,hz,aJ,F (.str ⟨#[c]⟩) G _ H (.refl v) rfl q⟩)
  | _=>exact (show False from r).elim
 | _=>exact (show False from r).elim
def Q1:D->Option Int->Option Int->aH->da->Prop:=λ x lo aA G Q=>match x with
 | .tup ds=>Q (.tup (cut ds lo aA)) G
 | .ref l=>jO G l λ ds=>∀ p,G p=none->Q (.ref p) (up G p (.lst (cut ds lo aA)))
 | .ey ds=>∀ p,G p=none->Q (.ref p) (up G p (.lst (cut ds lo aA)))
 | _=>False
theorem AU:GG X Q1:=by
 refine ⟨_,⟨Ox.or Nj⟩,λ x e9 lo aA G H ax Q v a7 r F=>?_⟩
 cases x with
 | tup ds=>
  obtain ⟨l,vs,rfl,s,fF⟩:=a7;refine .inl ⟨l,vs,rfl,s,λ t aK yk st=>?_⟩;have g:=Go.grow v yk;exact F (.tup (cut ds lo aA)) G _ _ g ⟨t,_,rfl,st,(fF.cut lo aA).mono g.tup⟩ r
 | ref l=>
  cases a7;obtain ⟨ds,vs,k,s,fF⟩:=mE v r;exact .inr ⟨l,vs,rfl,s,λ p aj=>F (.ref p) _ _ _ (Go.x5 v aj (fF.cut lo aA)) rfl (k p (v.none aj))⟩
 | ey ds=>
  obtain ⟨l,vs,rfl,s,fF⟩:=a7;exact .inr ⟨l,vs,rfl,s.ik,λ p aj=>F (.ref p) _ _ _ (Go.x5 v aj (fF.cut lo aA)) rfl (r p (v.none aj))⟩
 | _=>exact (show False from r).elim
def jP:D->Bool
 | .br=>true
 | .aO _=>true
 | .int _=>true
 | .str _=>true
 | _=>false
def toV:D->V
 | .br=>.br
 | .aO b=>.aO b
 | .int i=>.int i
 | .str x=>.str x
 | _=>.br
theorem AV{K:a6}{H:ar}{d:D}{v:V}(a:cV K H d v)(h:jP d=true):v=toV d/\nq v=true:=by
 cases d with
 | br=>cases a;exact ⟨rfl,rfl⟩
 | aO b=>cases a;exact ⟨rfl,rfl⟩
 | int b=>cases a;exact ⟨rfl,rfl⟩
 | str b=>cases a;exact ⟨rfl,rfl⟩
 | _=>exact absurd h (by simp [jP])
theorem AW{K:a6}{H:ar}:∀{ds:List D}{vs:List V},b_ K H ds vs->ds.all jP=true->vs=ds.map toV/\vs.all nq=true
 | [],_,r,_=>by cases r;exact ⟨rfl,rfl⟩
 | _::_,_,⟨v,r,e,q,l⟩,h=>by
  subst e;rw [j5,g7] at h;obtain ⟨af,ao⟩:=AV q h.1;obtain ⟨aF,cn⟩:=AW l h.2;exact ⟨by rw [eC,<- af,<- aF],by rw [j5,ao,cn];rfl⟩
def lL:D->D->Bool
 | .br,.br=>true
 | .aO a,.aO b=>a==b
 | .aO a,.int b=>(if a then 1 else 0)==b
 | .int a,.aO b=>a==(if b then 1 else 0)
 | .int a,.int b=>a==b
 | .str a,.str b=>a==b
 | _,_=>false
theorem Q2{x y:D}(aq:jP x=true)(aQ:jP y=true):oe (toV x) (toV y)=lL x y:=by
 cases x<;>cases y<;>first | rfl | (simp [jP] at aq;done) | (simp [jP] at aQ;done)
def iI(x:D)(ds:List D):Bool:=ds.any λ y=>lL y x
theorem AX{x:D}(aq:jP x=true):∀{ds:List D},ds.all jP=true->xy (toV x) (ds.map toV)=iI x ds
 | [],_=>rfl
 | d::ds,h=>by
  rw [j5,g7] at h;have bL:=AX aq h.2;unfold xy iI at *;rw [eC,qm,qm,bL,Q2 h.1 aq]
def inD(neg:Bool):jm:=λ x y G Q=>match y with
 | .tup ds=>jP x=true/\ds.all jP=true/\Q (.aO (neg ^^ iI x ds)) G
 | .ref l=>jO G l λ ds=>jP x=true/\ds.all jP=true/\Q (.aO (neg ^^ iI x ds)) G
 | .str j=>(match x with
  | .str i=>Q (.aO (neg ^^ !(Builtin.Str.occurrences j i 0 j.length 1).isEmpty)) G
  | _=>False)
 | _=>False
theorem vh:gY X (eP .In) (inD false):=by
 refine ⟨_,⟨Nn.or L1⟩,λ x y e9 hV G H ax Q v a7 bh r F=>?_⟩
 cases y with
 | tup ds=>
  obtain ⟨af,ao,q⟩:=r;obtain ⟨l,vs,rfl,s,fF⟩:=bh;obtain ⟨az,f1⟩:=AV a7 af;obtain ⟨aW,f2⟩:=AW fF ao;refine .inl ⟨l,vs,rfl,.inr s,f1,f2,?_⟩;rw [az,aW,AX af ao];exact F (.aO _) G _ H (.refl v) rfl (by simpa using q)
 | ref l=>
  cases bh;obtain ⟨ds,vs,⟨af,ao,q⟩,s,fF⟩:=mE v r;obtain ⟨az,f1⟩:=AV a7 af;obtain ⟨aW,f2⟩:=AW fF ao;refine .inl ⟨l,vs,rfl,.inl s,f1,f2,?_⟩;rw [az,aW,AX af ao];exact F (.aO _) G _ H (.refl v) rfl (by simpa using q)
 | str j=>
  cases x with
  | str i=>cases a7;cases bh;exact .inr ⟨i,j,rfl,rfl,F (.aO _) G _ H (.refl v) rfl (by simpa [inD] using r)⟩
  | _=>exact (show False from r).elim
 | _=>exact (show False from r).elim
variable{e o:a8}{aw:List a8}{aX to:cB}{t:gx}{pos p apos e7:Pos}
abbrev GQ(r:sU)(t:gx):cB:=λ ρ G Q=>t ρ G λ ds av=>r ds av Q
theorem iJ{x:Str}{id:String}{r:sU}(aJ:rm X (.builtin id) r)(a0:eF X x)(hm:X.mg x=none)(bK:lr x=some (.builtin id))(au:iE X (e::aw) t)(bc:x≠"__name__":=by decide)(gd:(x==("__debug__" : Str))=false:=by decide)
 (aB:(e::aw).all fj=true:=by rfl):b0 X (.Call (.Name x p) (e::aw) [] pos) (GQ r t):=by
 obtain ⟨ca,cw,cy⟩:=au.run;obtain ⟨ox,oy,rc⟩:=aJ.run;exact ⟨_,OT oy a0 hm bK cw bc gd aB,λ ρ G ax σ H Q B q F=>cy ρ G _ σ H _ B q λ ds av vs H1 g1 al _ aE=>rc ds vs av H1 ax Q g1.bX al aE (F.after g1)⟩
theorem oB{x:Str}{T:String}{r:sU}(aJ:rm X (.type T) r)(a0:eF X x)(hm:X.mg x=none)(bK:lr x=some (.type T))(au:iE X (e::aw) t)(bc:x≠"__name__":=by decide)(gd:(x==("__debug__" : Str))=false:=by decide)
 (aB:(e::aw).all fj=true:=by rfl):b0 X (.Call (.Name x p) (e::aw) [] pos) (GQ r t):=by
 obtain ⟨ca,cw,cy⟩:=au.run;obtain ⟨ox,oy,rc⟩:=aJ.run;exact ⟨_,OU oy a0 hm bK cw bc gd aB,λ ρ G ax σ H Q B q F=>cy ρ G _ σ H _ B q λ ds av vs H1 g1 al _ aE=>rc ds vs av H1 ax Q g1.bX al aE (F.after g1)⟩
abbrev sY(r:D->aH->da->Prop):sU:=λ xs G Q=>match xs with
 | [x]=>r x G Q
 | _=>False
abbrev AY(r:D->D->aH->da->Prop):sU:=λ xs G Q=>match xs with
 | [x,y]=>r x y G Q
 | _=>False
theorem yl{K:a6}{H:ar}{r:D->aH->da->Prop}{xs:List D}{vs:List V}{G:aH}{Q:da}(h:sY r xs G Q)(a:b_ K H xs vs):∃ x v,xs=[x]/\vs=[v]/\cV K H x v/\r x G Q:=by
 unfold sY at h;split at h
 ·obtain ⟨v,r,rfl,q,l⟩:=a;cases l;exact ⟨_,v,rfl,rfl,q,h⟩
 ·exact h.elim
theorem Q3{K:a6}{H:ar}{r:D->D->aH->da->Prop}{xs:List D}{vs:List V}{G:aH}{Q:da}(h:AY r xs G Q)(a:b_ K H xs vs):∃ x y v u,xs=[x,y]/\vs=[v,u]/\cV K H x v/\cV K H y u/\r x y G Q:=by
 unfold AY at h;split at h
 ·obtain ⟨v,r,rfl,q,u,bB,rfl,bu,l⟩:=a;cases l;exact ⟨_,_,v,u,rfl,rfl,q,bu,h⟩
 ·exact h.elim
def Q4:D->aH->da->Prop:=λ x G Q=>match x with
 | .tup ds=>Q (.int ds.length) G
 | .ref l=>jO G l λ ds=>Q (.int ds.length) G
 | .ey ds=>Q (.int ds.length) G
 | .str z=>z.length<=sizeLine/\Q (.int z.length) G
 | _=>False
theorem nG:rm X (.builtin "len") (sY Q4):=by
 refine ⟨_,⟨No.or Np⟩,λ xs vs G H ax Q v a r F=>?_⟩;obtain ⟨x,u,rfl,rfl,a7,r⟩:=yl r a
 cases x with
 | tup ds=>
  obtain ⟨l,ws,rfl,s,fF⟩:=a7;exact .inl ⟨l,ws,rfl,.inr s,by rw [fF.len];exact F (.int ds.length) G _ H (.refl v) rfl r⟩
 | ref l=>
  cases a7;obtain ⟨ds,ws,k,s,fF⟩:=mE v r;exact .inl ⟨l,ws,rfl,.inl s,by rw [fF.len];exact F (.int ds.length) G _ H (.refl v) rfl k⟩
 | ey ds=>
  obtain ⟨l,ws,rfl,s,fF⟩:=a7;exact .inl ⟨l,ws,rfl,.inl s.ik,by rw [fF.len];exact F (.int ds.length) G _ H (.refl v) rfl r⟩
 | str z=>cases a7;exact .inr ⟨z,rfl,r.1,F (.int z.length) G _ H (.refl v) rfl r.2⟩
 | _=>exact (show False from r).elim
def intD:D->aH->da->Prop:=λ x G Q=>match x with
 | .int i=>Q (.int i) G
 | .aO k=>Q (.int (if k then 1 else 0)) G
 | _=>False
theorem vi:rm X (.type "int") (sY intD):=by
 refine ⟨_,⟨Mb⟩,λ xs vs G H ax Q v a r F=>?_⟩;obtain ⟨x,u,rfl,rfl,a7,r⟩:=yl r a
 cases x with
 | int i=>cases a7;exact .inl ⟨i,rfl,F (.int i) G _ H (.refl v) rfl r⟩
 | aO k=>cases a7;exact .inr ⟨k,rfl,F (.int (if k then 1 else 0)) G _ H (.refl v) rfl r⟩
 | _=>exact (show False from r).elim
def Q5:D->aH->da->Prop:=λ x G Q=>match x with
 | .tup ds=>Q (.tup ds) G
 | .ref l=>jO G l λ ds=>Q (.tup ds) G
 | _=>False
theorem ym:rm X (.type "tuple") (sY Q5):=by
 refine ⟨_,⟨Nq⟩,λ xs vs G H ax Q v a r F=>?_⟩;obtain ⟨x,u,rfl,rfl,a7,r⟩:=yl r a
 cases x with
 | tup ds=>
  obtain ⟨l,ws,rfl,s,fF⟩:=a7;exact ⟨l,ws,rfl,.inr ⟨s,F (.tup ds) G _ H (.refl v) ⟨l,ws,rfl,s,fF⟩ r⟩⟩
 | ref l=>
  cases a7;obtain ⟨ds,ws,k,s,fF⟩:=mE v r;refine ⟨l,ws,rfl,.inl ⟨s,λ p aj=>?_⟩⟩;have g:=Go.nz (o:=.tup ws) v aj;exact F (.tup ds) G _ _ g ⟨p,ws,rfl,.of fq,fF.mono g.tup⟩ k
 | _=>exact (show False from r).elim
def rv:List D->Option (List Int)
 | []=>some []
 | .int i::r=>(rv r).map (i::·)
 | _::_=>none
theorem GR:∀{ds:List D}{ns:List Int},rv ds=some ns->ds=ns.map D.int
 | [],ns,h=>by cases h;rfl
 | d::r,ns,h=>by
  cases d with
  | int i=>
   simp only [rv,Option.map_eq_some_iff] at h;obtain ⟨ms,af,rfl⟩:=h;rw [GR af];rfl
  | _=>simp [rv] at h
theorem GS:∀ ns:List Int,rv (ns.map D.int)=some ns
 | []=>rfl
 | n::ns=>by simp [rv,GS ns]
def GT:D->aH->da->Prop:=λ x G Q=>match x with
 | .ref l=>jO G l λ ds=>∃ ns,rv ds=some ns/\Q (.int ns.sum) G
 | _=>False
theorem Q6(aJ:X.calm=true):rm X (.builtin "sum") (sY GT):=by
 refine ⟨_,⟨NZ aJ⟩,λ xs vs G H ax Q v a r F=>?_⟩;obtain ⟨x,u,rfl,rfl,a7,r⟩:=yl r a
 cases x with
 | ref l=>
  cases a7;obtain ⟨ds,ws,⟨ns,e,k⟩,s,fF⟩:=mE v r;rw [GR e] at fF;rw [fF.ints] at s;exact ⟨l,ns,rfl,s,F (.int ns.sum) G _ H (.refl v) rfl k⟩
 | _=>exact (show False from r).elim
end
end L3
namespace L2
open PySem PySem.Spec PyProof.Rows
def GU(K:a6)(eL:TE):TI:=λ σ H R=>eL σ H λ x H1=>∃ a,x=.ref a/\(((∃ xs,fi K H1 a xs)/\R (uo K a) H1)\/((∃ xs,dD K H1 a xs)/\R (uq K a) H1))
theorem Q7{X:a4}{bj l:a8}{eL:TE}(aP:b1 X l eL):mc X bj l (GU X.K eL):=by
 intro pins s σ H R I h;refine bZ (aP pins s σ H _ I h) λ v s1 ⟨x,H1,aY,be,aE⟩=>?_;obtain ⟨a,e,aE⟩:=aE;subst e;cases be;rcases aE with ⟨⟨xs,bn⟩,q⟩ | ⟨⟨xs,bn⟩,q⟩
 ·obtain ⟨aN,bo,p,hz⟩:=aY.list bn;refine wpAny_pyIter_list p.isList ?_;refine ⟨s1.heap.objs.size,[s1.heap.objs.size],_,_,H1,rfl,aY.kept (t':=s1.toks) λ b o e=>du _ e,LD a _,⟨_,gC _ rfl,rfl,rfl⟩,λ b ag=>?_,q⟩
  have e:b=s1.heap.objs.size:=by simpa using ag
  subst e;exact aY.sE (b7 _) (aY.bO.fresh (b7 _))
 ·obtain ⟨aN,bo,p,hz⟩:=aY.tuple bn;refine zr (show s1.heap.IsTuple a aN.toArray from p) ?_;refine ⟨s1.heap.objs.size,[s1.heap.objs.size],_,_,H1,rfl,aY.kept (t':=s1.toks) λ b o e=>du _ e,LE a _,⟨_,gC _ rfl,rfl,rfl⟩,λ b ag=>?_,q⟩
  have e:b=s1.heap.objs.size:=by simpa using ag
  subst e;exact aY.sE (b7 _) (aY.bO.fresh (b7 _))
end L2
namespace L3
open PySem PySem.Spec L2
section
variable{X:a4}{a b c e o i bj iter:a8}{aw:List a8}{a_ bG aX to e6:cB}{t:gx}{pos p apos e7:Pos}
structure hG where
 items:List D
 held:aH->Prop
abbrev jQ:=eM->aH->(hG->aH->Prop)->Prop
def AZ(K:a6)(J:hG)(jR:lA)(G:aH)(H:ar):Prop:=∀ av H1,Go K G H av H1->J.held av →
 (∀(i:Nat)(d:D),J.items[i]?=some d->jR.go i H1/\∀ x ai,jR.pA i H1 x ai->Go K av H1 av ai/\cV K ai d x)/\∀ i,J.items.length<=i->jR.stop i H1
structure nH(X:a4)(bj iter:a8)(cT:jQ):Prop where
 run:∃ GV:TI,mx X bj iter GV/\∀ ρ G jS σ H R,dU X.K ρ G σ H->cT ρ G jS->(∀ J jR ak ai,Go X.K G H ak ai->AZ X.K J jR ak ai->jS J ak->R jR ai)->GV σ H R
@[irreducible] def vj(G:aH)(l:Addr)(k:hG->Prop):Prop:=match G l with
 | some (.lst ds)=>k ⟨ds,λ G=>G l=some (.lst ds)⟩
 | _=>False
abbrev Q8(a_:cB):jQ:=λ ρ G R=>a_ ρ G λ x av=>match x with
 | .tup ds=>R ⟨ds,λ _=>True⟩ av
 | .ref l=>vj av l λ J=>R J av
 | .ey ds=>R ⟨ds,λ _=>True⟩ av
 | _=>False
theorem GW{G:aH}{l:Addr}{k:hG->Prop}{ds:List D}(h:G l=some (.lst ds))(q:k ⟨ds,λ G=>G l=some (.lst ds)⟩):vj G l k:=by unfold vj;rw [h];exact q
theorem Q9{K:a6}{ds:List D}{vs:List V}{l:Addr}{av:aH}{H1:ar}(v:eH K av H1)(s:dD K H1 l vs)(r:b_ K H1 ds vs) :
 (∀(i:Nat)(d:D),ds[i]?=some d->(uq K l).go i H1/\∀ x ai,(uq K l).pA i H1 x ai->Go K av H1 av ai/\cV K ai d x)/\∀ i,ds.length<=i->(uq K l).stop i H1:=by
 refine ⟨λ i d hd=>?_,λ i aA=>⟨vs,s,by rw [r.len];exact aA⟩⟩;obtain ⟨w,hw,k5⟩:=r.get hd;refine ⟨⟨vs,w,s,hw⟩,λ x ai y=>?_⟩;obtain ⟨rfl,y⟩:=y;have z:=y vs s;rw [hw] at z;cases z;exact ⟨.refl v,k5⟩
theorem GX{K:a6}{ds:List D}{vs:List V}{l:Addr}{av:aH}{H1:ar}(v:eH K av H1)(s:fi K H1 l vs)(r:b_ K H1 ds vs) :
 (∀(i:Nat)(d:D),ds[i]?=some d->(uo K l).go i H1/\∀ x ai,(uo K l).pA i H1 x ai->Go K av H1 av ai/\cV K ai d x)/\∀ i,ds.length<=i->(uo K l).stop i H1:=by
 refine ⟨λ i d hd=>?_,λ i aA=>⟨vs,s,by rw [r.len];exact aA⟩⟩;obtain ⟨w,hw,k5⟩:=r.get hd;refine ⟨⟨vs,w,s,hw⟩,λ x ai y=>?_⟩;obtain ⟨rfl,y⟩:=y;have z:=y vs s;rw [hw] at z;cases z;exact ⟨.refl v,k5⟩
theorem Q_{bf:TE}(aP:c3 X a bf):mx X bj a (GU X.K bf):=⟨Q7 aP.run⟩
theorem rx(au:b0 X a a_):nH X bj a (Q8 a_):=by
 obtain ⟨ca,cw,cy⟩:=au.run;refine ⟨_,Q_ cw,λ ρ G jS σ H R B q F=>cy ρ G _ σ H _ B q λ x av v H1 g1 a7 aE=>?_⟩
 cases x with
 | tup ds=>
  obtain ⟨l,vs,rfl,s,r⟩:=a7;exact ⟨l,rfl,.inr ⟨⟨vs,s⟩,F ⟨ds,λ _=>True⟩ _ av H1 g1 (λ aU aK g2 _=>Q9 g2.bX (g2.tup.dF _ _ s) (r.mono g2.tup)) aE⟩⟩
 | ref l=>
  cases a7;refine ⟨l,rfl,.inl ?_⟩
  replace aE:vj av l λ J=>jS J av:=aE
  unfold vj at aE;split at aE
  ·next ds hd=>
   obtain ⟨vs,z,r⟩:=g1.bX _ _ hd;refine ⟨⟨vs,.of z⟩,F ⟨ds,λ G=>G l=some (.lst ds)⟩ _ av H1 g1 (λ aU aK g2 ao=>?_) aE⟩;obtain ⟨us,bU,bB⟩:=g2.bX _ _ ao;exact GX g2.bX (.of bU) bB
  ·exact aE.elim
 | ey ds=>
  obtain ⟨l,vs,rfl,s,r⟩:=a7;exact ⟨l,rfl,.inl ⟨⟨vs,s.ik⟩,F ⟨ds,λ _=>True⟩ _ av H1 g1 (λ aU aK g2 _=>GX g2.bX (g2.tup.fr _ _ s).ik (r.mono g2.tup)) aE⟩⟩
 | _=>exact (show False from aE).elim
def k6(lo:Int)(n:Nat):List D:=(lu n).map λ(i:Nat)=>D.int (lo+(i:Int))
theorem A0{lo:Int}{n i:Nat}{d:D}(h:(k6 lo n)[i]?=some d):i < n/\d=.int (lo+i):=by
 unfold k6 at h;rw [gT] at h;by_cases c:i < n
 ·rw [List.getElem?_range c] at h;simp at h;exact ⟨c,h.symm⟩
 ·rw [qn (by simpa using c)] at h;cases h
theorem vk{lo:Int}{n:Nat}:(k6 lo n).length=n:=by simp [k6]
@[irreducible] def ry(r:List D->Option (Int × Nat))(ds:List D)(k:Int->Nat->Prop):Prop:=match r ds with
 | some (lo,n)=>k lo n
 | none=>False
abbrev GY(r:List D->Option (Int × Nat))(t:gx):jQ:=λ ρ G R=>t ρ G λ ds av=>ry r ds λ lo n=>R ⟨k6 lo n,λ _=>True⟩ av
def vl(i:Int):Bool:=decide (-(2 ^ 62)<=i)&&decide (i < 2 ^ 62)
def vm:List D->Option (Int × Nat)
 | [.int j]=>if vl j=true then some (0,j.toNat) else none
 | _=>none
def vn:List D->Option (Int × Nat)
 | [.int i,.int j]=>if vl i=true/\vl j=true then some (i,(j - i).toNat) else none
 | _=>none
theorem sZ{i:Int}:vl i=true ↔ -(2 ^ 62)<=i/\i < 2 ^ 62:=by unfold vl;simp
theorem GZ{K:a6}{lo:Int}{n:Nat}{av:aH}{H1:ar}(v:eH K av H1) :
 (∀(i:Nat)(d:D),(k6 lo n)[i]?=some d->(qF lo n).go i H1/\∀ x ai,(qF lo n).pA i H1 x ai->Go K av H1 av ai/\cV K ai d x)/\∀ i,(k6 lo n).length<=i->(qF lo n).stop i H1:=by
 refine ⟨λ i d hd=>?_,λ i aA=>by rw [vk] at aA;exact aA⟩;obtain ⟨af,rfl⟩:=A0 hd;refine ⟨af,λ x ai y=>?_⟩;obtain ⟨rfl,rfl⟩:=y;exact ⟨.refl v,rfl⟩
theorem Ra{ds:List D}{lo:Int}{n:Nat}(h:vm ds=some (lo,n)):∃ j,ds=[.int j]/\(-(2 ^ 62)<=j/\j < 2 ^ 62)/\lo=0/\n=j.toNat:=by
 unfold vm at h;split at h
 ·next j=>
  split at h
  ·next c=>cases h;exact ⟨j,rfl,sZ.mp c,rfl,rfl⟩
  ·cases h
 ·cases h
theorem Rb{ds:List D}{lo:Int}{n:Nat}(h:vn ds=some (lo,n)):∃ j,ds=[.int lo,.int j]/\(-(2 ^ 62)<=lo/\lo < 2 ^ 62/\-(2 ^ 62)<=j/\j < 2 ^ 62)/\n=(j - lo).toNat:=by
 unfold vn at h;split at h
 ·next i j=>
  split at h
  ·next c=>
   cases h;have c1:=sZ.mp c.1;have c2:=sZ.mp c.2;exact ⟨j,rfl,⟨c1.1,c1.2,c2.1,c2.2⟩,rfl⟩
  ·cases h
 ·cases h
theorem G0{j:Int}{k:Int->Nat->Prop}(h:-(2 ^ 62)<=j/\j < 2 ^ 62)(q:k 0 j.toNat):ry vm [.int j] k:=by
 have e:vm [.int j]=some (0,j.toNat):=if_pos (sZ.mpr h);unfold ry;rw [e];exact q
theorem Rc{i j:Int}{k:Int->Nat->Prop}(af:-(2 ^ 62)<=i/\i < 2 ^ 62)(ao:-(2 ^ 62)<=j/\j < 2 ^ 62)(q:k i (j - i).toNat):ry vn [.int i,.int j] k:=by
 have e:vn [.int i,.int j]=some (i,(j - i).toNat):=if_pos ⟨sZ.mpr af,sZ.mpr ao⟩;unfold ry;rw [e];exact q
theorem G1{r:List D->Option (Int × Nat)}{ds:List D}{R:hG->aH->Prop}{G:aH}(h:ry r ds λ lo n=>R ⟨k6 lo n,λ _=>True⟩ G):∃ lo n,r ds=some (lo,n)/\R ⟨k6 lo n,λ _=>True⟩ G:=by
 unfold ry at h;split at h
 ·next lo n e=>exact ⟨lo,n,e,h⟩
 ·exact h.elim
theorem G2(a0:eF X "range")(hm:X.mg "range" = none)(au:iE X [a] t)(aB:fj a=true:=by rfl):nH X bj (.Call (.Name "range" p) [a] [] pos) (GY vm t):=by
 obtain ⟨ca,cw,cy⟩:=au.run;refine ⟨_,O9 a0 hm cw aB,λ ρ G jS σ H R B q F=>cy ρ G _ σ H _ B q λ ds av vs H1 g1 al aP aE=>?_⟩;obtain ⟨lo,n,e,bu⟩:=G1 aE;obtain ⟨j,rfl,c,rfl,rfl⟩:=Ra e;obtain ⟨v,r,rfl,A1,l⟩:=al;cases l;cases A1;exact ⟨j,rfl,c.1,c.2,F _ _ av H1 g1 (λ aU aK g2 _=>GZ g2.bX) bu⟩
theorem Rd(a0:eF X "range")(hm:X.mg "range" = none)(au:iE X [a,b] t)(af:fj a=true:=by rfl)(ao:fj b=true:=by rfl):nH X bj (.Call (.Name "range" p) [a,b] [] pos) (GY vn t):=by
 obtain ⟨ca,cw,cy⟩:=au.run;refine ⟨_,Pp a0 hm cw af ao,λ ρ G jS σ H R B q F=>cy ρ G _ σ H _ B q λ ds av vs H1 g1 al aP aE=>?_⟩;obtain ⟨lo,n,e,bu⟩:=G1 aE;obtain ⟨j,rfl,c,rfl⟩:=Rb e;obtain ⟨v,r,rfl,A1,u,bB,rfl,rz,l⟩:=al;cases l;cases A1;cases rz;exact ⟨lo,j,rfl,c,F _ _ av H1 g1 (λ aU aK g2 _=>GZ g2.bX) bu⟩
def ip(P:eM->aH->Prop):eM->aH->Prop:=λ ρ G=>∃ ρ' ak,x6 ρ' ρ/\Sub ak G/\P ρ' ak
theorem ip.of{P:eM->aH->Prop}{ρ:eM}{G:aH}(h:P ρ G):ip P ρ G:=⟨ρ,G,.refl _,.refl _,h⟩
abbrev Re(cT:jQ)(g:fR)(bG:gK):gK:=λ dP ρ G=>cT ρ G λ J av=>∃ P:Nat->eM->aH->Prop,P 0 ρ av/\(∀ i ρ G,i<=J.items.length->P i ρ G->J.held G) ∧
 (∀(i:Nat)(d:D)(ρ:eM)(G:aH),J.items[i]?=some d->P i ρ G->g d ρ G λ ρ' ak=>bG { dP with nx:=ip (P (i+1)),ct:=ip (P (i+1)),bk:=dP.nx } ρ' ak)/\∀ ρ G,P J.items.length ρ G->dP.nx ρ G
theorem A2{body:List bE}{cT:jQ}{g:fR}{bG:gK}(aj:se (bA X.prog X.w) X.A X.env X.xe)(aJ:X.calm=true)(aA:nH X bj iter cT)(a0:jl X bj g)(ag:mD X body bG)(aB:∀ x,jy iter X.env x=pure x:=by intro _;rfl) :
 iF X (.For bj iter body [] pos) (Re cT g bG):=by
 obtain ⟨ci,iY,gI⟩:=aA.run;obtain ⟨nI,oC,k7⟩:=a0.run;obtain ⟨hn,hg,eT⟩:=ag.run;refine ⟨_,Pj aj aJ iY oC hg aB,λ dP e8 ρ G σ H B q F=>gI ρ G _ σ H _ B q λ J jR av H1 g1 ok aE=>?_⟩;obtain ⟨P,vo,held,turn,done⟩:=aE;refine ⟨λ i m σ' ai=>m=J.items.length - i/\i<=J.items.length/\∃ ρ' ak,P i ρ' ak/\dU X.K ρ' ak σ' ai/\Go X.K av H1 ak ai,⟨_,rfl,f9 _,ρ,av,vo,B.go g1,.refl g1.bX⟩,?_⟩;rintro i m σ2 aK ⟨rfl,aA,ρ2,aU,cc,e0,g2⟩;have cF:=ok aU aK g2 (held i ρ2 aU aA cc);by_cases iX:i < J.items.length
 ·have hd:J.items[i]?=some J.items[i]:=by simp [iX]
  obtain ⟨go,vp⟩:=cF.1 i _ hd;refine .inr ⟨go,λ σ' ai=>∃ ρ' ak,P (i+1) ρ' ak/\dU X.K ρ' ak σ' ai/\Go X.K av H1 ak ai,λ σ' ai ⟨ρ',ak,bF,bU,dg⟩=>⟨J.items.length - (i+1),by omega,rfl,iX,ρ',ak,bF,bU,dg⟩,λ x ai y=>?_⟩;obtain ⟨g3,a7⟩:=vp x ai y;refine k7 _ x ρ2 aU _ σ2 ai _ (e0.go g3) a7 (turn i _ ρ2 aU hd cc) λ ρ4 gN σ4 jf hU ij gE=>?_;have fy:=(g2.trans g3).trans hU
  have g6:∀ ρ' ak σ' ai,Go X.K gN jf ak ai->dU X.K ρ' ak σ' ai->ip (P (i+1)) ρ' ak->∃ ρ' ak,P (i+1) ρ' ak/\dU X.K ρ' ak σ' ai/\Go X.K av H1 ak ai:=λ ρ' ak σ' ai g' dO ⟨ρ5,e1,s1,s2,w⟩=>
   ⟨ρ5,e1,w,dO.weak s1 s2,(fy.trans g').sub s2⟩
  exact eT _ _ ρ4 gN σ4 jf ij gE ⟨λ ρ' ak σ' ai g' dO w=>g6 ρ' ak σ' ai g' dO w,(F.after ((g1.trans fy))).rt,λ ρ' ak σ' ai g' dO w=>F.nx ρ' ak σ' ai ((g1.trans fy).trans g') dO w,λ ρ' ak σ' ai g' dO w=>g6 ρ' ak σ' ai g' dO w⟩
 ·have e:i=J.items.length:=by omega
  subst e;exact .inl ⟨cF.2 _ (b7 _),F.nx ρ2 aU σ2 aK (g1.trans g2) e0 (done ρ2 aU cc)⟩
abbrev Rf(bf:fE)(bG:gK):gK:=λ dP ρ G=>∃ W:Nat->eM->aH->Prop,(∃ m,W m ρ G)/\∀ m ρ G,W m ρ G →
 bf ρ G λ b av=>aS b (bG { dP with nx:=ip λ ρ' ak=>∃ cu,cu < m/\W cu ρ' ak,ct:=ip λ ρ' ak=>∃ cu,cu < m/\W cu ρ' ak,bk:=dP.nx } ρ av) (dP.nx ρ av)
theorem vq{body:List bE}{bf:fE}{bG:gK}(aj:se (bA X.prog X.w) X.A X.env X.xe)(aJ:AT X c bf)(ag:mD X body bG):iF X (.While c body [] pos) (Rf bf bG):=by
 obtain ⟨ox,oy,rc⟩:=aJ.run;obtain ⟨hn,hg,eT⟩:=ag.run;refine ⟨_,Pi aj oy hg,λ dP e8 ρ G σ H B q F=>?_⟩;obtain ⟨W,⟨m0,iT⟩,turn⟩:=q;refine ⟨λ m σ' ai=>∃ ρ' ak,W m ρ' ak/\dU X.K ρ' ak σ' ai/\Go X.K G H ak ai,⟨m0,ρ,G,iT,B,.refl B.bX⟩,?_⟩;rintro m σ2 aK ⟨ρ2,aU,eE,e0,g2⟩;refine rc ρ2 aU _ σ2 aK _ e0 (turn m ρ2 aU eE) λ k cM dE g3 dH=>?_
 cases k with
 | true=>
  refine ⟨λ σ' ai=>∃ cu,cu < m/\∃ ρ' ak,W cu ρ' ak/\dU X.K ρ' ak σ' ai/\Go X.K G H ak ai,λ σ' ai ⟨cu,z,ρ',ak,bF,bU,dg⟩=>⟨cu,z,ρ',ak,bF,bU,dg⟩,?_⟩;have fy:=g2.trans g3
  have g6:∀ ρ' ak σ' ai,Go X.K cM dE ak ai->dU X.K ρ' ak σ' ai->ip (λ ρ' ak=>∃ cu,cu < m/\W cu ρ' ak) ρ' ak->∃ cu,cu < m/\∃ ρ' ak,W cu ρ' ak/\dU X.K ρ' ak σ' ai/\Go X.K G H ak ai:=λ ρ' ak σ' ai g' dO ⟨ρ5,e1,s1,s2,cu,hm,w⟩=>
   ⟨cu,hm,ρ5,e1,w,dO.weak s1 s2,(fy.trans g').sub s2⟩
  exact eT _ _ ρ2 cM σ2 dE (e0.go g3) (dH.1 rfl) ⟨λ ρ' ak σ' ai g' dO w=>g6 ρ' ak σ' ai g' dO w,(F.after fy).rt,λ ρ' ak σ' ai g' dO w=>F.nx ρ' ak σ' ai (fy.trans g') dO w,λ ρ' ak σ' ai g' dO w=>g6 ρ' ak σ' ai g' dO w⟩
 | false=>exact F.nx ρ2 cM σ2 dE (g2.trans g3) (e0.go g3) (dH.2 rfl)
end
end L3
namespace L2
open PySem PySem.Spec PyProof.Rows
theorem c3.imp{X:a4}{e:a8}{t t':TE}(h:c3 X e t)(i:∀ σ H Q,t' σ H Q->t σ H Q):c3 X e t':=⟨λ pins s σ H Q I q=>h.run pins s σ H Q I (i σ H Q q)⟩
theorem hT.imp{X:a4}{e:a8}{t t':TT}(h:hT X e t)(i:∀ σ H Q,t' σ H Q->t σ H Q):hT X e t':=⟨λ pins s σ H Q I q=>h.run pins s σ H Q I (i σ H Q q)⟩
theorem jj.imp{X:a4}{e:a8}{t t':fZ}(h:jj X e t)(i:∀ v σ H Q,t' v σ H Q->t v σ H Q):jj X e t':=⟨λ pins s σ H x v Q I r q=>h.run pins s σ H x v Q I r (i _ _ _ _ q)⟩
end L2
namespace L3
open PySem PySem.Spec L2
section
variable{X:a4}{a b c e o i bj iter elt ct:a8}{aw:List a8}{a_ bG aX to e6:cB}{t:gx}{pos p apos e7:Pos}
abbrev s6(K:a6)(bf:TE)(t:cB):Prop:=∀ ρ G ax σ H Q,dU K ρ G σ H->t ρ G ax->Fin K G H ax Q->bf σ H Q
abbrev A3(K:a6)(bf:TT)(t:fE):Prop:=∀ ρ G ax σ H Q,dU K ρ G σ H->t ρ G ax->AJ K G H ax Q->bf σ H Q
abbrev yn(K:a6)(bf:fZ)(t:fR):Prop:=∀ d v ρ G ax σ H Q,dU K ρ G σ H->cV K H d v->t d ρ G ax->AK K G H ax Q->bf v σ H Q
theorem b0.lM{ι:Type}{cx:ι->a4}{K:a6}(fu:∀ z,(cx z).K=K)(h:∀ z,b0 (cx z) e aX):∃ bf:TE,(∀ z,c3 (cx z) e bf)/\s6 K bf aX:=by
 have h':∀ z,∃ bf,c3 (cx z) e bf/\s6 K bf aX:=λ z=>by
  have q:=(h z).run;rw [fu z] at q;exact q
 exact ⟨λ σ H Q=>∀ z,Classical.choose (h' z) σ H Q,λ z=>(Classical.choose_spec (h' z)).1.imp λ σ H Q q=>q z,λ ρ G ax σ H Q B q F z=>(Classical.choose_spec (h' z)).2 ρ G ax σ H Q B q F⟩
theorem AT.lM{ι:Type}{cx:ι->a4}{K:a6}{aX:fE}(fu:∀ z,(cx z).K=K)(h:∀ z,AT (cx z) e aX):∃ bf:TT,(∀ z,hT (cx z) e bf)/\A3 K bf aX:=by
 have h':∀ z,∃ bf,hT (cx z) e bf/\A3 K bf aX:=λ z=>by
  have q:=(h z).run;rw [fu z] at q;exact q
 exact ⟨λ σ H Q=>∀ z,Classical.choose (h' z) σ H Q,λ z=>(Classical.choose_spec (h' z)).1.imp λ σ H Q q=>q z,λ ρ G ax σ H Q B q F z=>(Classical.choose_spec (h' z)).2 ρ G ax σ H Q B q F⟩
theorem jl.lM{ι:Type}{cx:ι->a4}{K:a6}{aX:fR}(fu:∀ z,(cx z).K=K)(h:∀ z,jl (cx z) e aX):∃ bf:fZ,(∀ z,jj (cx z) e bf)/\yn K bf aX:=by
 have h':∀ z,∃ bf,jj (cx z) e bf/\yn K bf aX:=λ z=>by
  have q:=(h z).run;rw [fu z] at q;exact q
 exact ⟨λ v σ H Q=>∀ z,Classical.choose (h' z) v σ H Q,λ z=>(Classical.choose_spec (h' z)).1.imp λ v σ H Q q=>q z,λ d v ρ G ax σ H Q B ad q F z=>(Classical.choose_spec (h' z)).2 d v ρ G ax σ H Q B ad q F⟩
def jT(nt:Nat)(cap:List Nat)(ρ:eM):eM:=mZ nt none++cap.map λ i=>(ρ[i]?).join
theorem yo{nt:Nat}{cap:List Nat}{ρ:eM}{i:Nat}{d:D}(h:(jT nt cap ρ)[i]?=some (some d)):nt<=i:=by
 by_cases c:nt<=i
 ·exact c
 ·unfold jT at h;rw [lZ (by simpa using c),sm] at h;rw [if_pos (by omega)] at h;cases h
theorem dU.comp{K:a6}{ρ:eM}{G:aH}{σ:St}{H:ar}(B:dU K ρ G σ H)(nt:Nat)(cap:List Nat):dU K (jT nt cap ρ) G (nu nt cap σ) H:=by
 refine ⟨by simp [jT,nu],λ i d h=>?_,B.bX⟩;have aA:=yo h;unfold jT at h;unfold nu;rw [n3 (by simpa using aA)] at h ⊢;rw [t6,gT] at h ⊢
 cases e:cap[i - nt]? with
 | none=>rw [e] at h;cases h
 | some k=>
  rw [e] at h
  have h':(ρ[k]?).join=some d:=by simpa using h
  have ao:ρ[k]?=some (some d):=by
   cases q:ρ[k]? with
   | none=>rw [q] at h';cases h'
   | some z=>rw [q] at h';cases z with
    | none=>cases h'
    | some y=>simp at h';rw [h']
  obtain ⟨v,aF,cn⟩:=B.st k d ao;exact ⟨v,by simp [aF],cn⟩
def oD(nt:Nat)(g:fR):Prop:=∀ d ρ G Q,g d ρ G Q->g d ρ G λ ρ' ak=>Q ρ' ak/\ρ'.length=ρ.length/\∀ i,nt<=i->ρ'[i]?=ρ[i]?
def yp(nt:Nat)(g:lG):Prop:=∀ d ρ G Q,g d ρ G Q->g d ρ G λ ρ' ak=>Q ρ' ak/\ρ'.length=ρ.length/\∀ i,nt<=i->ρ'[i]?=ρ[i]?
theorem nJ{nt k:Nat}(h:k < nt):oD nt (sX k):=λ d ρ G Q q=>⟨q,by simp,λ i aA=>wP (by omega)⟩
theorem Rg{nt:Nat}:yp nt AR:=λ ds ρ G Q q=>by
 cases ds with
 | nil=>exact ⟨q,rfl,λ _ _=>rfl⟩
 | cons _ _=>exact (show False from q).elim
def A4(g:fR):Prop:=∀ d ρ G Q kc,(∀ ρ' ak,Q ρ' ak->kc ρ' ak)->g d ρ G Q->g d ρ G kc
def yq(g:lG):Prop:=∀ d ρ G Q kc,(∀ ρ' ak,Q ρ' ak->kc ρ' ak)->g d ρ G Q->g d ρ G kc
theorem A5{k:Nat}:A4 (sX k):=λ _ _ _ _ _ i q=>i _ _ q
theorem G3:yq AR:=λ ds ρ G Q kc i q=>by
 cases ds with
 | nil=>exact i _ _ q
 | cons _ _=>exact (show False from q).elim
theorem Rh{g:fR}{u:lG}(af:A4 g)(ao:yq u):yq (AS g u):=λ ds ρ G Q kc i q=>by
 cases ds with
 | nil=>exact (show False from q).elim
 | cons d r=>exact af d ρ G _ _ (λ ρ' ak z=>ao r ρ' ak _ _ i z) q
theorem G4{nt:Nat}{g:fR}{u:lG}(jd:A4 g)(l5:yq u)(af:oD nt g)(ao:yp nt u):yp nt (AS g u):=λ ds ρ G Q q=>by
 cases ds with
 | nil=>exact (show False from q).elim
 | cons d r=>exact jd d ρ G _ _ (λ ρ' ak ⟨z,bF,bU⟩=>l5 r ρ' ak _ _ (λ ρ2 aU ⟨y,e2,e3⟩=>⟨y,e2.trans bF,λ i aA=>(e3 i aA).trans (bU i aA)⟩) (ao r ρ' ak Q z)) (af d ρ G _ q)
theorem Ri{nt:Nat}{u:lG}(h:yp nt u):oD nt (GK u):=λ d ρ G Q q=>by
 cases d with
 | tup ds=>exact h ds ρ G Q q
 | _=>exact (show False from q).elim
def iK(P:aH->Prop):aH->Prop:=λ G=>∃ ak,Sub ak G/\P ak
theorem iK.of{P:aH->Prop}{G:aH}(h:P G):iK P G:=⟨G,.refl _,h⟩
@[irreducible] def s7(g:fR)(aX:cB)(nt:Nat)(cap:List Nat)(ρ:eM)(Q:da)(J:hG)(av:aH):Prop:=J.items.length < sizeLine/\∃ P:Nat->List D->aH->Prop,P 0 [] av/\(∀ i ds G,i<=J.items.length->P i ds G->J.held G) ∧
 (∀(i:Nat)(d:D)(ds:List D)(G:aH),J.items[i]?=some d->P i ds G->g d (jT nt cap ρ) G λ ρ3 cM=>aX ρ3 cM λ y gN=>iK (P (i+1) (ds++[y])) gN)/\∀ ds G,P J.items.length ds G->∀ p,G p=none->Q (.ref p) (up G p (.lst ds))
@[irreducible] def yr(g:fR)(bf:fE)(aX:cB)(nt:Nat)(cap:List Nat)(ρ:eM)(Q:da)(J:hG)(av:aH):Prop:=J.items.length < sizeLine/\∃ P:Nat->List D->aH->Prop,P 0 [] av/\(∀ i ds G,i<=J.items.length->P i ds G->J.held G) ∧
 (∀(i:Nat)(d:D)(ds:List D)(G:aH),J.items[i]?=some d->P i ds G->g d (jT nt cap ρ) G λ ρ3 cM=>bf ρ3 cM λ b e1=>aS b (aX ρ3 e1 λ y gN=>iK (P (i+1) (ds++[y])) gN) (iK (P (i+1) ds) e1))/\∀ ds G,P J.items.length ds G->∀ p,G p=none->Q (.ref p) (up G p (.lst ds))
abbrev A6(cT:jQ)(g:fR)(aX:cB)(nt:Nat)(cap:List Nat):cB:=λ ρ G Q=>cT ρ G (s7 g aX nt cap ρ Q)
abbrev A7(cT:jQ)(g:fR)(bf:fE)(aX:cB)(nt:Nat)(cap:List Nat):cB:=λ ρ G Q=>cT ρ G (yr g bf aX nt cap ρ Q)
theorem oE{g:fR}{aX:cB}{nt:Nat}{cap:List Nat}{ρ:eM}{Q:da}{J:hG}{av:aH}(P:Nat->List D->aH->Prop)(hz:J.items.length < sizeLine)(h0:P 0 [] av)(held:∀ i ds G,i<=J.items.length->P i ds G->J.held G)
 (turn:∀(i:Nat)(d:D)(ds:List D)(G:aH),J.items[i]?=some d->P i ds G->g d (jT nt cap ρ) G λ ρ3 cM=>aX ρ3 cM λ y gN=>iK (P (i+1) (ds++[y])) gN) (done:∀ ds G,P J.items.length ds G->∀ p,G p=none->Q (.ref p) (up G p (.lst ds))):s7 g aX nt cap ρ Q J av:=by
 unfold s7;exact ⟨hz,P,h0,held,turn,done⟩
theorem jq{α:Type}{J:hG}{av:aH}{g:fR}{aX:cB}{nt:Nat}{cap:List Nat}{ρ:eM}{Q:da}(xs:List α)(pQ fn:α->D)(he:J.items=xs.map pQ)(hz:xs.length < sizeLine)(held:J.held av)
 (turn:∀ x∈xs,∀ R:da,R (fn x) av->g (pQ x) (jT nt cap ρ) av λ ρ3 cM=>aX ρ3 cM R) (q:∀ p,av p=none->Q (.ref p) (up av p (.lst (xs.map fn)))) :
 s7 g aX nt cap ρ Q J av:=by
 unfold s7;refine ⟨by rw [he,b3];exact hz,λ i ds G=>G=av/\ds=(xs.take i).map fn,⟨rfl,rfl⟩,λ i ds G _ h=>h.1 ▸ held,?_,?_⟩
 ·rintro i d ds G hd ⟨rfl,rfl⟩;rw [he,gT] at hd
  cases e:xs[i]? with
  | none=>rw [e] at hd;cases hd
  | some x=>
   rw [e] at hd;cases hd;refine turn x (kJ e) _ (iK.of ⟨rfl,?_⟩);rw [lw,e,ff];rfl
 ·rintro ds G ⟨rfl,rfl⟩ p aj;rw [he,b3,wT];exact q p aj
theorem lN{α:Type}{J:hG}{av:aH}{g:fR}{bf:fE}{aX:cB}{nt:Nat}{cap:List Nat}{ρ:eM}{Q:da}(xs:List α)(pQ:α->D)(fn:α->Option D)(he:J.items=xs.map pQ)(hz:xs.length < sizeLine)(held:J.held av)
 (turn:∀ x∈xs,∀(R:da)(S:aH->Prop),(∀ y,fn x=some y->R y av)->(fn x=none->S av)->g (pQ x) (jT nt cap ρ) av λ ρ3 cM=>bf ρ3 cM λ b e1=>aS b (aX ρ3 e1 R) (S e1)) (q:∀ p,av p=none->Q (.ref p) (up av p (.lst (xs.filterMap fn)))) :
 yr g bf aX nt cap ρ Q J av:=by
 unfold yr;refine ⟨by rw [he,b3];exact hz,λ i ds G=>G=av/\ds=(xs.take i).filterMap fn,⟨rfl,rfl⟩,λ i ds G _ h=>h.1 ▸ held,?_,?_⟩
 ·rintro i d ds G hd ⟨rfl,rfl⟩;rw [he,gT] at hd
  cases e:xs[i]? with
  | none=>rw [e] at hd;cases hd
  | some x=>
   rw [e] at hd;cases hd;refine turn x (kJ e) _ _ (λ y aQ=>iK.of ⟨rfl,?_⟩) (λ aQ=>iK.of ⟨rfl,?_⟩)
   ·rw [lw,e,List.filterMap_append];simp [aQ]
   ·rw [lw,e,List.filterMap_append];simp [aQ]
 ·rintro ds G ⟨rfl,rfl⟩ p aj;rw [he,b3,wT];exact q p aj
theorem eH.pR{K:a6}{G:aH}{H:ar}{acc:Addr}{a3 zs:List V}(v:eH K G H)(h:H acc=some (.lst a3))(n:G acc=t8):eH K G (upd H acc (.lst zs)):=λ a o e=>
 (v a o e).mono (nE h) (cH (by rintro rfl;rw [n] at e;cases e))
theorem Go.pR{K:a6}{G ak:aH}{H ai:ar}{acc:Addr}{a3 zs:List V}(g:Go K G H ak ai)(h0:H acc=none)(h:ai acc=some (.lst a3))(n:ak acc=none):Go K G H ak (upd ai acc (.lst zs)) where
 tup:=⟨λ a xs q=>(nE h).dF a xs (g.tup.dF a xs q),λ a xs q=>(nE h).fr a xs (g.tup.fr a xs q),λ a o q=>(nE (K:=K) h).dA a o (g.tup.dA a o q)⟩
 jk:=λ a o e=>by
  obtain ⟨dR,e'⟩:=g.jk a o e;exact ⟨dR,by rw [cH (hP e h0)];exact e'⟩
 same:=λ a o e z=>by rw [cH (hP e h0)];exact g.same a o e z
 new:=g.new
 bX:=g.bX.pR h n
theorem dU.pR{K:a6}{ρ:eM}{G:aH}{σ:St}{H:ar}{acc:Addr}{a3 zs:List V}(B:dU K ρ G σ H)(h:H acc=some (.lst a3))(n:G acc=none):dU K ρ G σ (upd H acc (.lst zs)):=
 ⟨B.len,λ i d e=>let ⟨v,af,ao⟩:=B.st i d e;⟨v,af,ao.mono (nE h)⟩,B.bX.pR h n⟩
theorem Go.held{K:a6}{G ak:aH}{H ai:ar}{acc:Addr}{ds:List D}{a3:List V}(g:Go K G H ak ai)(h0:H acc=none)(h:ai acc=some (.lst a3))(r:b_ K ai ds a3):Go K G H (up ak acc (.lst ds)) ai where
 tup:=g.tup
 jk:=g.jk
 same:=g.same
 new:=λ a o e z=>by rw [bv (hP e h0)];exact g.new a o e z
 bX:=λ a o e=>by
  by_cases c:a=acc
  ·subst c;rw [aG] at e;cases e;exact ⟨a3,h,r⟩
  ·rw [bv c] at e;exact g.bX a o e
theorem G5{K:a6}{ci:TI}{nI:fZ}{ce:TE}{cT:jQ}{g:fR}{aX:cB}{nt:Nat}{cap:List Nat}(aC:oD nt g)
 (gI:∀ ρ G jS σ H R,dU K ρ G σ H->cT ρ G jS->(∀ J jR ak ai,Go K G H ak ai->AZ K J jR ak ai->jS J ak->R jR ai)->ci σ H R) (k7:yn K nI g) (re:s6 K ce aX):s6 K (uF ci nI ce nt cap) (A6 cT g aX nt cap):=by
 intro ρ G ax σ H Q B q F;refine gI ρ G _ σ H _ B q λ J jR av H1 g1 ok aE=>?_;unfold s7 at aE;obtain ⟨eQ,P,vo,held,turn,done⟩:=aE;intro acc oF;have eV:=g1.bX.none oF;have vr:=Go.nz (o:=.lst []) g1.bX oF
 refine ⟨λ i m a3 σ' ai=>m=J.items.length - i/\i<=J.items.length/\∃ ds ak,P i ds ak/\b_ K ai ds a3/\ds.length<=i/\dU K (jT nt cap ρ) ak σ' ai/\Go K av H1 ak ai/\ak acc=none/\ai acc=some (.lst a3),
  ⟨_,rfl,f9 _,[],av,vo,rfl,b7 _,((B.go g1).comp nt cap).go vr,vr,eV,fq⟩,?_⟩
 rintro i m a3 σ2 aK ⟨rfl,aA,ds,aU,cc,bB,cK,e0,g2,dx,ao⟩;have cF:=ok aU aK g2 (held i ds aU aA cc);by_cases iX:i < J.items.length
 ·have hd:J.items[i]?=some J.items[i]:=by simp [iX]
  obtain ⟨go,vp⟩:=cF.1 i _ hd;refine .inr ⟨go,λ x ai y=>?_⟩;obtain ⟨g3,a7⟩:=vp x ai y;refine k7 _ x _ aU _ σ2 ai _ (e0.go g3) a7 (aC _ _ _ _ (turn i _ ds aU hd cc)) λ ρ4 gN σ4 jf hU ij ⟨gE,ys,yt⟩=>?_;refine re ρ4 gN _ σ4 jf _ ij gE λ z e1 u fL f3 oz n8=>?_;obtain ⟨iZ,gV,vt⟩:=n8;have fy:=(g3.trans hU).trans f3;have d1:=fy.same acc _ ao dx;have e_:=fy.new acc _ ao dx;have oG:=gV.none e_;have jL:dU K (jT nt cap ρ) iZ σ4 fL:=(ij.go f3).weak ⟨ys.symm,λ j d e=>by rw [yt j (yo e)];exact e⟩ gV;refine ⟨d1,by rw [bB.len];omega,J.items.length - (i+1),by omega,rfl,iX,ds++[z],iZ,vt,((bB.mono fy.tup).append (.one oz)).mono (nE d1),by simp;omega,jL.pR d1 oG,(((g2.trans fy).sub gV)).pR oF d1 oG,oG,fq⟩
 ·have e:i=J.items.length:=by omega
  subst e;refine .inl ⟨cF.2 _ (b7 _),F (.ref acc) (up aU acc (.lst ds)) _ _ ((g1.trans g2).held ?_ ao bB) rfl (done ds aU cc acc dx)⟩
  cases z:H acc with
  | none=>rfl
  | some o=>obtain ⟨dR,e'⟩:=g1.jk acc o z;rw [oF] at e';cases e'
theorem G6{K:a6}{ci:TI}{nI:fZ}{ox:TT}{ce:TE}{cT:jQ}{g:fR}{bf:fE}{aX:cB}{nt:Nat}{cap:List Nat}(aC:oD nt g)
 (gI:∀ ρ G jS σ H R,dU K ρ G σ H->cT ρ G jS->(∀ J jR ak ai,Go K G H ak ai->AZ K J jR ak ai->jS J ak->R jR ai)->ci σ H R) (k7:yn K nI g) (rt:A3 K ox bf) (re:s6 K ce aX):s6 K (uG ci nI ox ce nt cap) (A7 cT g bf aX nt cap):=by
 intro ρ G ax σ H Q B q F;refine gI ρ G _ σ H _ B q λ J jR av H1 g1 ok aE=>?_;unfold yr at aE;obtain ⟨eQ,P,vo,held,turn,done⟩:=aE;intro acc oF;have eV:=g1.bX.none oF;have vr:=Go.nz (o:=.lst []) g1.bX oF
 refine ⟨λ i m a3 σ' ai=>m=J.items.length - i/\i<=J.items.length/\∃ ds ak,P i ds ak/\b_ K ai ds a3/\ds.length<=i/\dU K (jT nt cap ρ) ak σ' ai/\Go K av H1 ak ai/\ak acc=none/\ai acc=some (.lst a3),
  ⟨_,rfl,f9 _,[],av,vo,rfl,b7 _,((B.go g1).comp nt cap).go vr,vr,eV,fq⟩,?_⟩
 rintro i m a3 σ2 aK ⟨rfl,aA,ds,aU,cc,bB,cK,e0,g2,dx,ao⟩;have cF:=ok aU aK g2 (held i ds aU aA cc);by_cases iX:i < J.items.length
 ·have hd:J.items[i]?=some J.items[i]:=by simp [iX]
  obtain ⟨go,vp⟩:=cF.1 i _ hd;refine .inr ⟨go,λ x ai y=>?_⟩;obtain ⟨g3,a7⟩:=vp x ai y;refine k7 _ x _ aU _ σ2 ai _ (e0.go g3) a7 (aC _ _ _ _ (turn i _ ds aU hd cc)) λ ρ4 gN σ4 jf hU ij ⟨gE,ys,yt⟩=>?_;refine rt ρ4 gN _ σ4 jf _ ij gE λ uJ oH gp rb me=>?_
  cases uJ with
  | true=>
   refine re ρ4 oH _ σ4 gp _ (ij.go rb) (me.1 rfl) λ z e1 u fL f3 oz n8=>?_;obtain ⟨iZ,gV,vt⟩:=n8;have fy:=((g3.trans hU).trans rb).trans f3;have d1:=fy.same acc _ ao dx;have e_:=fy.new acc _ ao dx;have oG:=gV.none e_;have jL:dU K (jT nt cap ρ) iZ σ4 fL:=((ij.go rb).go f3).weak ⟨ys.symm,λ j d e=>by rw [yt j (yo e)];exact e⟩ gV;exact ⟨d1,by rw [bB.len];omega,J.items.length - (i+1),by omega,rfl,iX,ds++[z],iZ,vt,((bB.mono fy.tup).append (.one oz)).mono (nE d1),by simp;omega,jL.pR d1 oG,(((g2.trans fy).sub gV)).pR oF d1 oG,oG,fq⟩
  | false=>
   obtain ⟨iZ,gV,vt⟩:=me.2 rfl;have fy:=(g3.trans hU).trans rb;have d1:=fy.same acc _ ao dx;have e_:=fy.new acc _ ao dx;have oG:=gV.none e_;have jL:dU K (jT nt cap ρ) iZ σ4 gp:=(ij.go rb).weak ⟨ys.symm,λ j d e=>by rw [yt j (yo e)];exact e⟩ gV;exact ⟨J.items.length - (i+1),by omega,rfl,iX,ds,iZ,vt,bB.mono fy.tup,by omega,jL,(g2.trans fy).sub gV,oG,d1⟩
 ·have e:i=J.items.length:=by omega
  subst e;refine .inl ⟨cF.2 _ (b7 _),F (.ref acc) (up aU acc (.lst ds)) _ _ ((g1.trans g2).held ?_ ao bB) rfl (done ds aU cc acc dx)⟩
  cases z:H acc with
  | none=>rfl
  | some o=>obtain ⟨dR,e'⟩:=g1.jk acc o z;rw [oF] at e';cases e'
theorem A8{scope:e4}{N':List Str}{nt:Nat}{cap:List Nat}{cT:jQ}{g:fR}(aJ:X.calm=true)(ok:fD X scope N' nt cap)(aC:oD nt g)(aA:nH X bj iter cT)(a0:∀ C ex s H,jl (cX X scope N' C ex s H) bj g)(he:∀ C ex s H,b0 (cX X scope N' C ex s H) elt aX)
 (aB:∀ x,jy iter X.env x=pure x:=by intro _;rfl):b0 X (.ListComp elt [⟨bj,iter,[],0⟩] scope pos) (A6 cT g aX nt cap):=by
 obtain ⟨ci,iY,gI⟩:=aA.run;obtain ⟨nI,oC,k7⟩:=jl.lM (ι:=Addr × List Addr × aM × ar) (cx:=λ z=>cX X scope N' z.1 z.2.1 z.2.2.1 z.2.2.2) (K:=X.K) (λ _=>rfl) λ z=>a0 _ _ _ _;obtain ⟨ce,io,re⟩:=b0.lM (ι:=Addr × List Addr × aM × ar) (cx:=λ z=>cX X scope N' z.1 z.2.1 z.2.2.1 z.2.2.2) (K:=X.K) (λ _=>rfl) λ z=>he _ _ _ _;exact ⟨_,Pk aJ ok iY (λ C ex s H=>oC (C,ex,s,H)) (λ C ex s H=>io (C,ex,s,H)) aB,G5 aC gI k7 re⟩
theorem G7{scope:e4}{N':List Str}{nt:Nat}{cap:List Nat}{cT:jQ}{g:fR}{bf:fE}(aJ:X.calm=true)(ok:fD X scope N' nt cap)(aC:oD nt g)(aA:nH X bj iter cT)(a0:∀ C ex s H,jl (cX X scope N' C ex s H) bj g)(bt:∀ C ex s H,AT (cX X scope N' C ex s H) ct bf)(he:∀ C ex s H,b0 (cX X scope N' C ex s H) elt aX)
 (aB:∀ x,jy iter X.env x=pure x:=by intro _;rfl):b0 X (.ListComp elt [⟨bj,iter,[ct],0⟩] scope pos) (A7 cT g bf aX nt cap):=by
 obtain ⟨ci,iY,gI⟩:=aA.run;obtain ⟨nI,oC,k7⟩:=jl.lM (ι:=Addr × List Addr × aM × ar) (cx:=λ z=>cX X scope N' z.1 z.2.1 z.2.2.1 z.2.2.2) (K:=X.K) (λ _=>rfl) λ z=>a0 _ _ _ _;obtain ⟨ox,A9,rt⟩:=AT.lM (ι:=Addr × List Addr × aM × ar) (cx:=λ z=>cX X scope N' z.1 z.2.1 z.2.2.1 z.2.2.2) (K:=X.K) (λ _=>rfl) λ z=>bt _ _ _ _;obtain ⟨ce,io,re⟩:=b0.lM (ι:=Addr × List Addr × aM × ar) (cx:=λ z=>cX X scope N' z.1 z.2.1 z.2.2.1 z.2.2.2) (K:=X.K) (λ _=>rfl) λ z=>he _ _ _ _;exact ⟨_,Pl aJ ok iY (λ C ex s H=>oC (C,ex,s,H)) (λ C ex s H=>A9 (C,ex,s,H)) (λ C ex s H=>io (C,ex,s,H)) aB,G6 aC gI k7 rt re⟩
theorem G8{scope:e4}{N':List Str}{nt:Nat}{cap:List Nat}{cT:jQ}{g:fR}{y:Str}{py iW:Pos}{k:Nat}(aJ:X.calm=true)(cY:X.N.Nodup)(aQ:X.N[k]?=some y)(aP:Loc X.env.scope y)(ok:fD X scope N' nt cap)(aC:oD nt g)(aA:nH X bj iter cT)(a0:∀ C ex s H,jl (cX X scope N' C ex s H) bj g)(he:∀ C ex s H,b0 (cX X scope N' C ex s H) elt aX)
 (aB:∀ x,jy iter X.env x=pure x:=by intro _;rfl) (my:j3 (.ListComp elt [⟨bj,iter,[],0⟩] scope pos) (some (.Name y py)) iW.line X.env=pure true:=by rfl) (hf:X.fn y=true\/X.env.scope.names.lookup y=some .local:=by first | exact .inl rfl | exact .inr rfl | assumption) :
 iF X (.Assign [.Name y py] (.ListComp elt [⟨bj,iter,[],0⟩] scope pos) iW) (ye (A6 cT g aX nt cap) (sX k)):=by
 obtain ⟨ci,iY,gI⟩:=aA.run;obtain ⟨nI,oC,k7⟩:=jl.lM (ι:=Addr × List Addr × aM × ar) (cx:=λ z=>cX X scope N' z.1 z.2.1 z.2.2.1 z.2.2.2) (K:=X.K) (λ _=>rfl) λ z=>a0 _ _ _ _;obtain ⟨ce,io,re⟩:=b0.lM (ι:=Addr × List Addr × aM × ar) (cx:=λ z=>cX X scope N' z.1 z.2.1 z.2.2.1 z.2.2.2) (K:=X.K) (λ _=>rfl) λ z=>he _ _ _ _;exact ⟨_,Pq aJ cY aQ aP ok iY (λ C ex s H=>oC (C,ex,s,H)) (λ C ex s H=>io (C,ex,s,H)) aB my hf,λ dP e8 ρ G σ H B q F=>G5 aC gI k7 re ρ G _ σ H _ B q λ d av v H1 g1 a aE=>F.nx _ av _ H1 g1 ((B.go g1).set a k) aE⟩
theorem G9{scope:e4}{N':List Str}{nt:Nat}{cap:List Nat}{cT:jQ}{g:fR}{bf:fE}{y:Str}{py iW:Pos}{k:Nat}(aJ:X.calm=true)(cY:X.N.Nodup)(aQ:X.N[k]?=some y)(aP:Loc X.env.scope y)(ok:fD X scope N' nt cap)(aC:oD nt g)(aA:nH X bj iter cT)(a0:∀ C ex s H,jl (cX X scope N' C ex s H) bj g)(bt:∀ C ex s H,AT (cX X scope N' C ex s H) ct bf)(he:∀ C ex s H,b0 (cX X scope N' C ex s H) elt aX)
 (aB:∀ x,jy iter X.env x=pure x:=by intro _;rfl) (my:j3 (.ListComp elt [⟨bj,iter,[ct],0⟩] scope pos) (some (.Name y py)) iW.line X.env=pure true:=by rfl) (hf:X.fn y=true\/X.env.scope.names.lookup y=some .local:=by first | exact .inl rfl | exact .inr rfl | assumption) :
 iF X (.Assign [.Name y py] (.ListComp elt [⟨bj,iter,[ct],0⟩] scope pos) iW) (ye (A7 cT g bf aX nt cap) (sX k)):=by
 obtain ⟨ci,iY,gI⟩:=aA.run;obtain ⟨nI,oC,k7⟩:=jl.lM (ι:=Addr × List Addr × aM × ar) (cx:=λ z=>cX X scope N' z.1 z.2.1 z.2.2.1 z.2.2.2) (K:=X.K) (λ _=>rfl) λ z=>a0 _ _ _ _;obtain ⟨ox,A9,rt⟩:=AT.lM (ι:=Addr × List Addr × aM × ar) (cx:=λ z=>cX X scope N' z.1 z.2.1 z.2.2.1 z.2.2.2) (K:=X.K) (λ _=>rfl) λ z=>bt _ _ _ _;obtain ⟨ce,io,re⟩:=b0.lM (ι:=Addr × List Addr × aM × ar) (cx:=λ z=>cX X scope N' z.1 z.2.1 z.2.2.1 z.2.2.2) (K:=X.K) (λ _=>rfl) λ z=>he _ _ _ _;exact ⟨_,Pr aJ cY aQ aP ok iY (λ C ex s H=>oC (C,ex,s,H)) (λ C ex s H=>A9 (C,ex,s,H)) (λ C ex s H=>io (C,ex,s,H)) aB my hf,λ dP e8 ρ G σ H B q F=>G6 aC gI k7 rt re ρ G _ σ H _ B q λ d av v H1 g1 a aE=>F.nx _ av _ H1 g1 ((B.go g1).set a k) aE⟩
structure vu(X:a4)(T id:String)(ty:D->aH->Prop)(r:D->List D->aH->da->Prop):Prop where
 run:∃ rc:V->List V->ar->cm->Prop,pH X id rc/\(∀ x v G H,eH X.K G H->cV X.K H x v->ty x G->uB X.K T v H) ∧
  ∀ x xs e9 vs G H ax Q,eH X.K G H->cV X.K H x e9->b_ X.K H xs vs->r x xs G ax->Fin X.K G H ax Q->rc e9 vs H Q
abbrev Rj(ty:D->aH->Prop)(r:D->List D->aH->da->Prop)(to:cB)(t:gx):cB:=λ ρ G Q=>to ρ G λ x av=>ty x av/\t ρ av λ xs aU=>r x xs aU Q
abbrev Rk(ty:D->aH->Prop)(r:D->List D->aH->da->Prop)(to:cB):cB:=λ ρ G Q=>to ρ G λ x av=>ty x av/\r x [] av Q
theorem mF{name:Str}{T id:String}{ty:D->aH->Prop}{r:D->List D->aH->da->Prop}(mf:sd T)(slot:Slot T name id)(mh:sl (.builtin id)=pure (.type "method_descriptor"))(hm:vu X T id ty r)(bb:b0 X o to)(au:iE X [e] t)
 (mi:mV o name X.env (eval o X.env)=eval o X.env:=by rfl) (mj:(apos.endLine==e7.line)=true:=by rfl) (aB:fj e=true:=by rfl):b0 X (.Call (.Attribute o name apos) [e] [] e7) (Rj ty r to t):=by
 obtain ⟨co,gM,fP⟩:=bb.run;obtain ⟨ca,cw,cy⟩:=au.run;obtain ⟨Rl,A_,aQ,Ba⟩:=hm.run;refine ⟨_,OV mf slot mh A_ gM cw mi mj aB,λ ρ G ax σ H Q B q F=>fP ρ G _ σ H _ B q λ x av v H1 g1 a7 ⟨af,aE⟩=>⟨aQ x v av H1 g1.bX a7 af,?_⟩⟩;exact cy ρ av _ σ H1 _ (B.go g1) aE λ xs aU vs aK g2 al _ bu=>Ba x xs v vs aU aK ax Q g2.bX (a7.mono g2.tup) al bu (F.after (g1.trans g2))
theorem s8{name:Str}{T id:String}{ty:D->aH->Prop}{r:D->List D->aH->da->Prop}(mf:sd T)(slot:Slot T name id)(mh:sl (.builtin id)=pure (.type "method_descriptor"))(hm:vu X T id ty r)(bb:b0 X o to)
 (mi:mV o name X.env (eval o X.env)=eval o X.env:=by rfl) (mj:(apos.endLine==e7.line)=true:=by rfl):b0 X (.Call (.Attribute o name apos) [] [] e7) (Rk ty r to):=by
 obtain ⟨co,gM,fP⟩:=bb.run;obtain ⟨Rl,A_,aQ,Ba⟩:=hm.run;exact ⟨_,OW mf slot mh A_ gM mi mj,λ ρ G ax σ H Q B q F=>fP ρ G _ σ H _ B q λ x av v H1 g1 a7 ⟨af,aE⟩=>⟨aQ x v av H1 g1.bX a7 af,Ba x [] v [] av H1 ax Q g1.bX a7 rfl aE (F.after g1)⟩⟩
def yu:D->aH->Prop:=λ x G=>match x with
 | .ref l=>jO G l λ _=>True
 | _=>False
theorem Bb{K:a6}{x:D}{v:V}{G:aH}{H:ar}(w:eH K G H)(a7:cV K H x v)(h:yu x G):uB K "list" v H:=by
 cases x with
 | ref l=>cases a7;obtain ⟨ds,vs,_,s,_⟩:=mE w h;exact .inl ⟨rfl,vs,s⟩
 | _=>exact (show False from h).elim
def G_:D->List D->aH->da->Prop:=λ x xs G Q=>match x,xs with
 | .ref l,[y]=>kp G l λ ds=>ds.length < sizeLine/\Q .br (up G l (.lst (ds++[y])))
 | _,_=>False
theorem pS:vu X "list" "list.append" yu G_:=by
 refine ⟨_,⟨uC⟩,λ x v G H w a7 h=>Bb w a7 h,λ x xs e9 vs G H ax Q v a7 al r F=>?_⟩;unfold G_ at r;split at r
 ·next l y=>
  cases a7;obtain ⟨u,us,rfl,rz,z⟩:=al;cases z;obtain ⟨ds,ws,k,az,af,be⟩:=lI v r;exact ⟨l,ws,u,rfl,rfl,af,by rw [be.len];exact k.1,F .br _ _ _ (Go.rl v az (be.append (.one rz))) rfl k.2⟩
 ·exact r.elim
def Ha:D->List D->aH->da->Prop:=λ x xs G Q=>match x,xs with
 | .ref l,[.tup aw]=>kp G l λ ds=>ds.length+aw.length<=sizeLine/\Q .br (up G l (.lst (ds++aw)))
 | .ref l,[.ref m]=>kp G l λ ds=>kp G m λ aw=>ds.length+aw.length<=sizeLine/\Q .br (up G l (.lst (ds++aw)))
 | _,_=>False
theorem pH.or{id:String}{r dS:V->List V->ar->cm->Prop}(h:pH X id r)(h':pH X id dS):pH X id (λ x xs H Q=>r x xs H Q\/dS x xs H Q):=⟨h.run.or h'.run⟩
theorem Bc:vu X "list" "list.extend" yu Ha:=by
 refine ⟨_,pH.or ⟨NY⟩ ⟨NA⟩,λ x v G H w a7 h=>Bb w a7 h,λ x xs e9 vs G H ax Q v a7 al r F=>?_⟩;unfold Ha at r;split at r
 ·next l l6=>
  cases a7;obtain ⟨u,us,rfl,⟨m,zs,rfl,s,xn⟩,z⟩:=al;cases z;obtain ⟨ds,ws,k,az,af,be⟩:=lI v r;exact .inl ⟨l,m,ws,zs,rfl,rfl,af,s,by rw [be.len,xn.len];exact k.1,F .br _ _ _ (Go.rl v az (be.append xn)) rfl k.2⟩
 ·next l m=>
  cases a7;obtain ⟨u,us,rfl,rz,z⟩:=al;cases z;cases rz;obtain ⟨ds,ws,k,az,af,be⟩:=lI v r;obtain ⟨l6,zs,cF,aW,ao,bB⟩:=lI v k;exact .inr ⟨l,m,ws,zs,rfl,rfl,af,ao,by rw [be.len,bB.len];exact cF.1,F .br _ _ _ (Go.rl v az (be.append bB)) rfl cF.2⟩
 ·exact r.elim
def Hb:D->List D->aH->da->Prop:=λ x xs G Q=>match x,xs with
 | .ref l,[]=>kp G l λ ds=>∃ aw d,ds=aw++[d]/\Q d (up G l (.lst aw))
 | _,_=>False
theorem s9:vu X "list" "list.pop" yu Hb:=by
 refine ⟨_,⟨NC⟩,λ x v G H w a7 h=>Bb w a7 h,λ x xs e9 vs G H ax Q v a7 al r F=>?_⟩;unfold Hb at r;split at r
 ·next l=>
  cases a7;cases al;obtain ⟨ds,ws,⟨l6,d,rfl,k⟩,az,af,be⟩:=lI v r;have aP:=be.len
  have hd:(l6++[d])[l6.length]?=some d:=by simp
  obtain ⟨u,bx,rz⟩:=be.get hd
  have e:ws.length - 1=l6.length:=by rw [aP];simp
  have bB:b_ X.K H l6 ws.dropLast:=by
   have z:=be.take l6.length;rw [List.take_left] at z;rw [List.dropLast_eq_take,e];exact z
  have g:=Go.rl v az bB;exact ⟨l,ws,u,rfl,rfl,af,by rw [e];exact bx,F d _ _ _ g (rz.mono g.tup) k⟩
 ·exact r.elim
abbrev di:=List D->aH->da->Prop
def aT(K:a6)(d2:di):gG:=λ vs H Q _=>∃ ds G ax,b_ K H ds vs/\eH K G H/\d2 ds G ax/\Fin K G H ax Q
abbrev Rm(d2:di)(t:gx):cB:=λ ρ G Q=>t ρ G λ ds av=>d2 ds av Q
theorem cg{k j:Nat}{x:Str}{ps:List Str}{d2:di}(Gt:Got X.prog X.w X.K X.mg X.base k x ps (aT X.K d2))(ap:eG j X.A)(aC:k<=j)(a0:eF X x)(au:iE X (e::aw) t)(gd:(x==("__debug__" : Str))=false:=by decide)
 (aB:(e::aw).all fj=true:=by rfl):b0 X (.Call (.Name x p) (e::aw) [] pos) (Rm d2 t):=by
 obtain ⟨ca,cw,cy⟩:=au.run;exact ⟨_,OS Gt ap aC a0 cw gd aB,λ ρ G ax σ H Q B q F=>cy ρ G _ σ H _ B q λ ds av vs H1 g1 al _ aE=>⟨ds,av,ax,by rw [pa];exact al,g1.bX,aE,F.after g1⟩⟩
def bp(ax:da):da:=λ d G=>∃ ak,Sub ak G/\ax d ak
theorem bp.of{ax:da}{d:D}{G:aH}(h:ax d G):bp ax d G:=⟨G,.refl _,h⟩
def rA(N:List Str)(ds:List D):eM:=ds.map some++mZ (N.length - ds.length) none
theorem Hc{K:a6}{N:List Str}{ds:List D}{vs:List V}{G:aH}{H:ar}(r:b_ K H ds vs)(v:eH K G H):dU K (rA N ds) G (L2.kf N vs) H:=by
 have aP:=r.len;refine ⟨by simp [rA,L2.kf,aP],λ i d h=>?_,v⟩;unfold rA at h;unfold L2.kf;by_cases c:i < ds.length
 ·rw [lZ (by simpa using c),gT] at h;rw [lZ (by simpa [aP] using c),gT]
  cases e:ds[i]? with
  | none=>rw [e] at h;cases h
  | some z=>
   rw [e] at h;simp at h;subst h;obtain ⟨u,af,ao⟩:=r.get e;exact ⟨u,by rw [af];rfl,ao⟩
 ·rw [n3 (by simpa using c),sm] at h;split at h<;>cases h
theorem eA{P:c8}{w:cG}{K:a6}{mg:Str->Option Value}{base:b2}{x qual:Str}{st:bE}{f:Addr}{fd:gA}{N ps:List Str}{k:Nat}{d2:di}(F:dL K x qual st f fd)(S:d0 N ps (cp st))(len:∀ ds G ax,d2 ds G ax->ds.length=ps.length)
 (kW:∀(bP:Value)(A:d6)(outer:List Env)(s:aM)(H:ar)(E:h8),eG k (A.deeper (PyProof.Rows.envOfC qual (cp st) s.heap.objs.size f bP))->∀(ds:List D)(G:aH)(ax:da),d2 ds G ax →
  ∃ t,mD (ob cQ P w K mg base N qual (cp st) f bP A outer s H E).pv (hC st) t/\t { nx:=λ _ ak=>bp ax .br ak,rt:=bp ax } (rA N ds) G):cO P w K mg base cQ (k+1) f fd ps (aT K d2):=by
 refine F.Pm S (λ vs H Q E h=>?_) (λ bP A outer s H vs Q E ap h=>?_)
 ·obtain ⟨ds,G,ax,r,_,h,_⟩:=h;rw [r.len];exact len ds G ax h
 ·obtain ⟨ds,G,ax,r,v,h,rB⟩:=h;obtain ⟨t,⟨bf,j,imp⟩,q⟩:=kW bP A outer s H E ap ds G ax h;refine ⟨bf,j,imp _ _ (rA N ds) G (L2.kf N vs) H (Hc r v) q ⟨λ ρ' ak σ' ai g b ⟨aU,s2,bu⟩=>rB .br aU .br ai (g.sub s2) rfl bu,λ d ak v ai g a ⟨aU,s2,bu⟩=>rB d aU v ai (g.sub s2) a bu,λ _ _ _ _ _ _ z=>z.elim,λ _ _ _ _ _ _ z=>z.elim⟩⟩
end
mutual
def fT:D->D->Bool
 | .br,.br=>true
 | .aO a,.aO b=>a==b
 | .aO a,.int b=>(if a then 1 else 0)==b
 | .int a,.aO b=>a==(if b then 1 else 0)
 | .int a,.int b=>a==b
 | .str a,.str b=>a==b
 | .tup xs,.tup a3=>kq xs a3
 | _,_=>false
def kq:List D->List D->Bool
 | [],[]=>true
 | x::xs,y::a3=>fT x y&&kq xs a3
 | _,_=>false
end
mutual
def D.data:D->Bool
 | .ref _=>false
 | .ty _=>false
 | .ey _=>false
 | .tup ds=>jU ds
 | _=>true
def jU:List D->Bool
 | []=>true
 | d::ds=>d.data&&jU ds
end
mutual
def D.bH:D->Nat
 | .tup ds=>1+i0 ds
 | _=>0
def i0:List D->Nat
 | []=>0
 | d::ds=>max d.bH (i0 ds)
end
def jr(ds aw:List D)(j:Nat):Bool:=match ds[j]?,aw[j]? with
 | some d,some e=>fT d e
 | _,_=>false
theorem vv:∀(ds aw:List D),((lu (min ds.length aw.length)).all (jr ds aw)&&ds.length==aw.length)=kq ds aw
 | [],[]=>by simp [kq]
 | [],e::aw=>by simp [kq]
 | d::ds,[]=>by simp [kq]
 | d::ds,e::aw=>by
  rw [kq,<- vv ds aw,eb,eb,Nat.succ_min_succ,List.range_succ_eq_map,j5,List.all_map];have af:jr (d::ds) (e::aw) 0=fT d e:=rfl
  have ao:(jr (d::ds) (e::aw) ∘ Nat.succ)=jr ds aw:=by funext j;simp [jr]
  rw [af,ao,Bool.and_assoc];congr 2;rw [Bool.eq_iff_iff];simp
section
variable{X:a4}{pins:List (Addr × Obj)}{σ:L2.St}{H:ar}{s:aM}
mutual
theorem Rn(I:Inv X pins σ H s):∀{d e:D}{v:V},d.data=true->e.data=true->cV X.K H d v->cV X.K H e v->d=e
 | .br,e,v,_,h,a,b=>by
  cases a;cases e<;>first | rfl | (cases b;done) | (obtain ⟨_,_,z,_⟩:=b;cases z)
 | .aO _,e,v,_,h,a,b=>by
  cases a;cases e<;>first | (cases b;rfl) | (cases b;done) | (obtain ⟨_,_,z,_⟩:=b;cases z)
 | .int _,e,v,_,h,a,b=>by
  cases a;cases e<;>first | (cases b;rfl) | (cases b;done) | (obtain ⟨_,_,z,_⟩:=b;cases z)
 | .str _,e,v,_,h,a,b=>by
  cases a;cases e<;>first | (cases b;rfl) | (cases b;done) | (obtain ⟨_,_,z,_⟩:=b;cases z)
 | .ref _,_,_,h,_,_,_=>by simp [D.data] at h
 | .ty _,_,_,h,_,_,_=>by simp [D.data] at h
 | .ey _,_,_,h,_,_,_=>by simp [D.data] at h
 | .tup ds,e,v,h0,h,a,b=>by
  obtain ⟨l,vs,rfl,s1,be⟩:=a
  cases e with
  | tup aw=>
   obtain ⟨m,us,z,s2,bB⟩:=b;cases z;have e:=I.uj s1 s2;subst e;rw [Bd I (by simpa [D.data] using h0) (by simpa [D.data] using h) be bB]
  | ref m=>simp [D.data] at h
  | ey m=>simp [D.data] at h
  | _=>cases b
theorem Bd(I:Inv X pins σ H s):∀{ds aw:List D}{vs:List V},jU ds=true->jU aw=true->b_ X.K H ds vs->b_ X.K H aw vs->ds=aw
 | [],[],_,_,_,_,_=>rfl
 | [],e::aw,_,_,_,a,b=>by cases a;obtain ⟨_,_,z,_⟩:=b;cases z
 | d::ds,[],_,_,_,a,b=>by cases b;obtain ⟨_,_,z,_⟩:=a;cases z
 | d::ds,e::aw,vs,af,ao,⟨v,r,az,a1,cf⟩,⟨u,q,aW,a2,cK⟩=>by
  subst az;cases aW;simp only [jU,g7] at af ao;rw [Rn I af.1 ao.1 a1 a2,Bd I af.2 ao.2 cf cK]
end
mutual
theorem Hd:∀{d:D},d.data=true->fT d d=true
 | .br,_=>rfl
 | .aO _,_=>by simp [fT]
 | .int _,_=>by simp [fT]
 | .str _,_=>by simp [fT]
 | .ref _,h=>by simp [D.data] at h
 | .ty _,h=>by simp [D.data] at h
 | .ey _,h=>by simp [D.data] at h
 | .tup ds,h=>by rw [fT];exact He (by simpa [D.data] using h)
theorem He:∀{ds:List D},jU ds=true->kq ds ds=true
 | [],_=>rfl
 | d::ds,h=>by
  simp only [jU,g7] at h;rw [kq,Hd h.1,He h.2];rfl
end
mutual
theorem Ro(I:Inv X pins σ H s):∀(d e:D)(A:d6)(x y:V)(u v:Value),d.data=true->e.data=true->cV X.K H d x->cV X.K H e y->RelV x u->RelV y v->A.units+d.bH < fI->SeqAt.EqAt A s u v (fT d e)
 | .tup ds,e,A,x,y,u,v,hd,he,a7,bh,dw,bo,bx=>by
  obtain ⟨a,vs,rfl,s1,be⟩:=a7;cases dw;obtain ⟨aN,ew,t1,_⟩:=I.tuple s1
  have fl:A.units < fI:=by omega
  cases e with
  | br=>cases bh;cases bo;exact SeqAt.EqAt.tuple_none t1 fl
  | aO b=>cases bh;cases bo;exact SeqAt.EqAt.tuple_bool b t1 fl
  | int b=>cases bh;obtain ⟨t,rfl⟩:=bo;exact SeqAt.EqAt.tuple_int b t t1 fl
  | str b=>cases bh;obtain ⟨t,rfl⟩:=bo;exact SeqAt.EqAt.tuple_str b t t1 fl
  | ref b=>simp [D.data] at he
  | ty b=>simp [D.data] at he
  | ey b=>simp [D.data] at he
  | tup aw=>
   obtain ⟨b,us,rfl,s2,bB⟩:=bh;cases bo;by_cases xY:a=b
   ·subst xY;have az:=I.uj s1 s2;subst az;have aW:=Bd I (by simpa [D.data] using hd) (by simpa [D.data] using he) be bB;subst aW;rw [Hd hd];exact SeqAt.EqAt.same _
   ·obtain ⟨dz,fm,cR,_⟩:=I.tuple s2;have cf:=ew.length;have cK:=fm.length;have oI:=be.len;have rC:=bB.len;simp only [D.bH] at bx
    have z:=SeqAt.RcAt.tuples (A:=A) (e:=jr ds aw) t1 cR fl (λ j af ao=>by
     have q:=s_ I ds aw A.in1 vs us aN dz (by simpa [D.data] using hd) (by simpa [D.data] using he) be bB ew fm (by show A.units+1+i0 ds < fI;omega) j (by simpa using af) (by simpa using ao)
     simpa using q)
    have k8:((lu (min aN.toArray.size dz.toArray.size)).all (jr ds aw)&&aN.toArray.size==dz.toArray.size)=fT (.tup ds) (.tup aw):=by
     rw [dG,dG,<- cf,<- cK,oI,rC,vv];rfl
    rw [k8] at z;exact SeqAt.EqAt.of_refs xY z
 | .ref _,_,_,_,_,_,_,hd,_,_,_,_,_,_=>by simp [D.data] at hd
 | .ty _,_,_,_,_,_,_,hd,_,_,_,_,_,_=>by simp [D.data] at hd
 | .ey _,_,_,_,_,_,_,hd,_,_,_,_,_,_=>by simp [D.data] at hd
 | .br,e,A,x,y,u,v,hd,he,a7,bh,dw,bo,bx=>by
  cases a7;cases dw
  have fl:A.units < fI:=by omega
  cases e with
  | br=>cases bh;cases bo;exact SeqAt.EqAt.same _
  | aO b=>cases bh;cases bo;exact SeqAt.EqAt.none_bool b
  | int b=>cases bh;obtain ⟨t,rfl⟩:=bo;exact SeqAt.EqAt.none_int b t
  | str b=>cases bh;obtain ⟨t,rfl⟩:=bo;exact SeqAt.EqAt.none_str b t
  | ref b=>simp [D.data] at he
  | ty b=>simp [D.data] at he
  | ey b=>simp [D.data] at he
  | tup aw=>obtain ⟨b,us,rfl,s2,bB⟩:=bh;cases bo;obtain ⟨dz,fm,cR,_⟩:=I.tuple s2;exact SeqAt.EqAt.none_tuple cR fl
 | .aO a,e,A,x,y,u,v,hd,he,a7,bh,dw,bo,bx=>by
  cases a7;cases dw
  have fl:A.units < fI:=by omega
  cases e with
  | br=>cases bh;cases bo;exact SeqAt.EqAt.bool_none a
  | aO b=>cases bh;cases bo;exact SeqAt.EqAt.bool_bool a b
  | int b=>cases bh;obtain ⟨t,rfl⟩:=bo;exact SeqAt.EqAt.bool_int a b t
  | str b=>cases bh;obtain ⟨t,rfl⟩:=bo;exact SeqAt.EqAt.bool_str a b t
  | ref b=>simp [D.data] at he
  | ty b=>simp [D.data] at he
  | ey b=>simp [D.data] at he
  | tup aw=>obtain ⟨b,us,rfl,s2,bB⟩:=bh;cases bo;obtain ⟨dz,fm,cR,_⟩:=I.tuple s2;exact SeqAt.EqAt.bool_tuple a cR fl
 | .int a,e,A,x,y,u,v,hd,he,a7,bh,dw,bo,bx=>by
  cases a7;obtain ⟨t',rfl⟩:=dw
  have fl:A.units < fI:=by omega
  cases e with
  | br=>cases bh;cases bo;exact SeqAt.EqAt.int_none a t'
  | aO b=>cases bh;cases bo;exact SeqAt.EqAt.int_bool a t' b
  | int b=>cases bh;obtain ⟨t,rfl⟩:=bo;exact SeqAt.EqAt.int_int a t' b t
  | str b=>cases bh;obtain ⟨t,rfl⟩:=bo;exact SeqAt.EqAt.int_str a t' b t
  | ref b=>simp [D.data] at he
  | ty b=>simp [D.data] at he
  | ey b=>simp [D.data] at he
  | tup aw=>obtain ⟨b,us,rfl,s2,bB⟩:=bh;cases bo;obtain ⟨dz,fm,cR,_⟩:=I.tuple s2;exact SeqAt.EqAt.int_tuple a t' cR fl
 | .str a,e,A,x,y,u,v,hd,he,a7,bh,dw,bo,bx=>by
  cases a7;obtain ⟨t',rfl⟩:=dw
  have fl:A.units < fI:=by omega
  cases e with
  | br=>cases bh;cases bo;exact SeqAt.EqAt.str_none a t'
  | aO b=>cases bh;cases bo;exact SeqAt.EqAt.str_bool a t' b
  | int b=>cases bh;obtain ⟨t,rfl⟩:=bo;exact SeqAt.EqAt.str_int a t' b t
  | str b=>cases bh;obtain ⟨t,rfl⟩:=bo;exact SeqAt.EqAt.str_str a t' b t
  | ref b=>simp [D.data] at he
  | ty b=>simp [D.data] at he
  | ey b=>simp [D.data] at he
  | tup aw=>obtain ⟨b,us,rfl,s2,bB⟩:=bh;cases bo;obtain ⟨dz,fm,cR,_⟩:=I.tuple s2;exact SeqAt.EqAt.str_tuple a t' cR fl
theorem s_(I:Inv X pins σ H s):∀(ds aw:List D)(A:d6)(vs us:List V)(aN dz:List Value),jU ds=true->jU aw=true->b_ X.K H ds vs->b_ X.K H aw us->Vals vs aN->Vals us dz->A.units+i0 ds < fI →
 ∀ j (af:j < aN.length) (ao:j < dz.length),SeqAt.EqAt A s aN[j] dz[j] (jr ds aw j)
 | [],aw,A,vs,us,aN,dz,_,_,e,e',ew,fm,_,j,af,ao=>by
  rw [show vs=[] from e] at ew;cases ew;exact absurd af (by simp)
 | d::ds,[],A,vs,us,aN,dz,_,_,e,e',ew,fm,_,j,af,ao=>by
  rw [show us=[] from e'] at fm;cases fm;exact absurd ao (by simp)
 | d::ds,c0::aw,A,vs,us,aN,dz,hd,he,⟨v,r,e,q,t⟩,⟨l7,dS,e',fC,t'⟩,ew,fm,bx,j,af,ao=>by
  subst e e'
  cases ew with
  | cons be rt=>
   cases fm with
   | cons bB Rp=>
    simp only [i0] at bx;simp only [jU,g7] at hd he
    cases j with
    | zero=>exact Ro I d c0 A _ _ _ _ hd.1 he.1 q fC be bB (by omega)
    | succ j=>
     have z:=s_ I ds aw A _ _ _ _ hd.2 he.2 t t' rt Rp (by omega) j (by simpa using af) (by simpa using ao);simpa [jr] using z
end
theorem Rq(I:Inv X pins σ H s)(d e:D)(A:d6)(x y:V)(u v:Value)(hd:d.data=true)(he:e.data=true)(a7:cV X.K H d x)(bh:cV X.K H e y)(dw:RelV x u)(bo:RelV y v)(bx:A.units+d.bH < fI):SeqAt.RcAt A s u v (fT d e):=by
 have fl:A.units < fI:=by omega
 cases d with
 | tup ds=>
  obtain ⟨a,vs,rfl,s1,be⟩:=a7;cases dw;obtain ⟨aN,ew,t1,_⟩:=I.tuple s1
  cases e with
  | br=>cases bh;cases bo;exact SeqAt.RcAt.tuple_none t1 fl
  | aO b=>cases bh;cases bo;exact SeqAt.RcAt.tuple_bool b t1 fl
  | int b=>cases bh;obtain ⟨t,rfl⟩:=bo;exact SeqAt.RcAt.tuple_int b t t1 fl
  | str b=>cases bh;obtain ⟨t,rfl⟩:=bo;exact SeqAt.RcAt.tuple_str b t t1 fl
  | ref b=>simp [D.data] at he
  | ty b=>simp [D.data] at he
  | ey b=>simp [D.data] at he
  | tup aw=>
   obtain ⟨b,us,rfl,s2,bB⟩:=bh;cases bo;obtain ⟨dz,fm,cR,_⟩:=I.tuple s2;have cf:=ew.length;have cK:=fm.length;have oI:=be.len;have rC:=bB.len;simp only [D.bH] at bx
   have z:=SeqAt.RcAt.tuples (A:=A) (e:=jr ds aw) t1 cR fl (λ j af ao=>by
    have q:=s_ I ds aw A.in1 vs us aN dz (by simpa [D.data] using hd) (by simpa [D.data] using he) be bB ew fm (by show A.units+1+i0 ds < fI;omega) j (by simpa using af) (by simpa using ao)
    simpa using q)
   have k8:((lu (min aN.toArray.size dz.toArray.size)).all (jr ds aw)&&aN.toArray.size==dz.toArray.size)=fT (.tup ds) (.tup aw):=by
    rw [dG,dG,<- cf,<- cK,oI,rC,vv];rfl
   rw [k8] at z;exact z
 | ref a=>simp [D.data] at hd
 | ty a=>simp [D.data] at hd
 | ey a=>simp [D.data] at hd
 | br=>
  cases a7;cases dw
  cases e with
  | br=>cases bh;cases bo;exact SeqAt.RcAt.none_none
  | aO b=>cases bh;cases bo;exact SeqAt.RcAt.none_bool b
  | int b=>cases bh;obtain ⟨t,rfl⟩:=bo;exact SeqAt.RcAt.none_int b t
  | str b=>cases bh;obtain ⟨t,rfl⟩:=bo;exact SeqAt.RcAt.none_str b t
  | ref b=>simp [D.data] at he
  | ty b=>simp [D.data] at he
  | ey b=>simp [D.data] at he
  | tup aw=>obtain ⟨b,us,rfl,s2,bB⟩:=bh;cases bo;obtain ⟨dz,fm,cR,_⟩:=I.tuple s2;exact SeqAt.RcAt.none_tuple cR fl
 | aO a=>
  cases a7;cases dw
  cases e with
  | br=>cases bh;cases bo;exact SeqAt.RcAt.bool_none a
  | aO b=>cases bh;cases bo;exact SeqAt.RcAt.bool_bool a b
  | int b=>cases bh;obtain ⟨t,rfl⟩:=bo;exact SeqAt.RcAt.bool_int a b t
  | str b=>cases bh;obtain ⟨t,rfl⟩:=bo;exact SeqAt.RcAt.bool_str a b t
  | ref b=>simp [D.data] at he
  | ty b=>simp [D.data] at he
  | ey b=>simp [D.data] at he
  | tup aw=>obtain ⟨b,us,rfl,s2,bB⟩:=bh;cases bo;obtain ⟨dz,fm,cR,_⟩:=I.tuple s2;exact SeqAt.RcAt.bool_tuple a cR fl
 | int a=>
  cases a7;obtain ⟨t',rfl⟩:=dw
  cases e with
  | br=>cases bh;cases bo;exact SeqAt.RcAt.int_none a t'
  | aO b=>cases bh;cases bo;exact SeqAt.RcAt.int_bool a t' b
  | int b=>cases bh;obtain ⟨t,rfl⟩:=bo;exact SeqAt.RcAt.int_int a t' b t
  | str b=>cases bh;obtain ⟨t,rfl⟩:=bo;exact SeqAt.RcAt.int_str a t' b t
  | ref b=>simp [D.data] at he
  | ty b=>simp [D.data] at he
  | ey b=>simp [D.data] at he
  | tup aw=>obtain ⟨b,us,rfl,s2,bB⟩:=bh;cases bo;obtain ⟨dz,fm,cR,_⟩:=I.tuple s2;exact SeqAt.RcAt.int_tuple a t' cR fl
 | str a=>
  cases a7;obtain ⟨t',rfl⟩:=dw
  cases e with
  | br=>cases bh;cases bo;exact SeqAt.RcAt.str_none a t'
  | aO b=>cases bh;cases bo;exact SeqAt.RcAt.str_bool a t' b
  | int b=>cases bh;obtain ⟨t,rfl⟩:=bo;exact SeqAt.RcAt.str_int a t' b t
  | str b=>cases bh;obtain ⟨t,rfl⟩:=bo;exact SeqAt.RcAt.str_str a t' b t
  | ref b=>simp [D.data] at he
  | ty b=>simp [D.data] at he
  | ey b=>simp [D.data] at he
  | tup aw=>obtain ⟨b,us,rfl,s2,bB⟩:=bh;cases bo;obtain ⟨dz,fm,cR,_⟩:=I.tuple s2;exact SeqAt.RcAt.str_tuple a t' cR fl
end
section
variable{X:a4}{pins:List (Addr × Obj)}{σ:L2.St}{H:ar}{s:aM}
theorem Rr(I:Inv X pins σ H s)(d e:D)(A:d6)(x y:V)(u v:Value)(hd:d.data=true)(he:e.data=true)(a7:cV X.K H d x)(bh:cV X.K H e y)(dw:RelV x u)(bo:RelV y v)(bx:A.units+d.bH < fI):SeqAt.RcNeAt A s u v (!fT d e):=by
 have fl:A.units < fI:=by omega
 cases d with
 | tup ds=>
  obtain ⟨a,vs,rfl,s1,be⟩:=a7;cases dw;obtain ⟨aN,ew,t1,_⟩:=I.tuple s1
  cases e with
  | br=>cases bh;cases bo;exact SeqAt.RcNeAt.tuple_none t1 fl
  | aO b=>cases bh;cases bo;exact SeqAt.RcNeAt.tuple_bool b t1 fl
  | int b=>cases bh;obtain ⟨t,rfl⟩:=bo;exact SeqAt.RcNeAt.tuple_int b t t1 fl
  | str b=>cases bh;obtain ⟨t,rfl⟩:=bo;exact SeqAt.RcNeAt.tuple_str b t t1 fl
  | ref b=>simp [D.data] at he
  | ty b=>simp [D.data] at he
  | ey b=>simp [D.data] at he
  | tup aw=>
   obtain ⟨b,us,rfl,s2,bB⟩:=bh;cases bo;obtain ⟨dz,fm,cR,_⟩:=I.tuple s2;have cf:=ew.length;have cK:=fm.length;have oI:=be.len;have rC:=bB.len;simp only [D.bH] at bx
   have z:=SeqAt.RcNeAt.tuples (A:=A) (e:=jr ds aw) t1 cR fl (λ j af ao=>by
    have q:=s_ I ds aw A.in1 vs us aN dz (by simpa [D.data] using hd) (by simpa [D.data] using he) be bB ew fm (by show A.units+1+i0 ds < fI;omega) j (by simpa using af) (by simpa using ao)
    simpa using q)
   have k8:((lu (min aN.toArray.size dz.toArray.size)).all (jr ds aw)&&aN.toArray.size==dz.toArray.size)=fT (.tup ds) (.tup aw):=by
    rw [dG,dG,<- cf,<- cK,oI,rC,vv];rfl
   rw [k8] at z;exact z
 | ref a=>simp [D.data] at hd
 | ty a=>simp [D.data] at hd
 | ey a=>simp [D.data] at hd
 | br=>
  cases a7;cases dw
  cases e with
  | br=>cases bh;cases bo;exact SeqAt.RcNeAt.none_none
  | aO b=>cases bh;cases bo;exact SeqAt.RcNeAt.none_bool b
  | int b=>cases bh;obtain ⟨t,rfl⟩:=bo;exact SeqAt.RcNeAt.none_int b t
  | str b=>cases bh;obtain ⟨t,rfl⟩:=bo;exact SeqAt.RcNeAt.none_str b t
  | ref b=>simp [D.data] at he
  | ty b=>simp [D.data] at he
  | ey b=>simp [D.data] at he
  | tup aw=>obtain ⟨b,us,rfl,s2,bB⟩:=bh;cases bo;obtain ⟨dz,fm,cR,_⟩:=I.tuple s2;exact SeqAt.RcNeAt.none_tuple cR fl
 | aO a=>
  cases a7;cases dw
  cases e with
  | br=>cases bh;cases bo;exact SeqAt.RcNeAt.bool_none a
  | aO b=>cases bh;cases bo;exact SeqAt.RcNeAt.bool_bool a b
  | int b=>cases bh;obtain ⟨t,rfl⟩:=bo;exact SeqAt.RcNeAt.bool_int a b t
  | str b=>cases bh;obtain ⟨t,rfl⟩:=bo;exact SeqAt.RcNeAt.bool_str a b t
  | ref b=>simp [D.data] at he
  | ty b=>simp [D.data] at he
  | ey b=>simp [D.data] at he
  | tup aw=>obtain ⟨b,us,rfl,s2,bB⟩:=bh;cases bo;obtain ⟨dz,fm,cR,_⟩:=I.tuple s2;exact SeqAt.RcNeAt.bool_tuple a cR fl
 | int a=>
  cases a7;obtain ⟨t',rfl⟩:=dw
  cases e with
  | br=>cases bh;cases bo;exact SeqAt.RcNeAt.int_none a t'
  | aO b=>cases bh;cases bo;exact SeqAt.RcNeAt.int_bool a t' b
  | int b=>cases bh;obtain ⟨t,rfl⟩:=bo;exact SeqAt.RcNeAt.int_int a t' b t
  | str b=>cases bh;obtain ⟨t,rfl⟩:=bo;exact SeqAt.RcNeAt.int_str a t' b t
  | ref b=>simp [D.data] at he
  | ty b=>simp [D.data] at he
  | ey b=>simp [D.data] at he
  | tup aw=>obtain ⟨b,us,rfl,s2,bB⟩:=bh;cases bo;obtain ⟨dz,fm,cR,_⟩:=I.tuple s2;exact SeqAt.RcNeAt.int_tuple a t' cR fl
 | str a=>
  cases a7;obtain ⟨t',rfl⟩:=dw
  cases e with
  | br=>cases bh;cases bo;exact SeqAt.RcNeAt.str_none a t'
  | aO b=>cases bh;cases bo;exact SeqAt.RcNeAt.str_bool a t' b
  | int b=>cases bh;obtain ⟨t,rfl⟩:=bo;exact SeqAt.RcNeAt.str_int a t' b t
  | str b=>cases bh;obtain ⟨t,rfl⟩:=bo;exact SeqAt.RcNeAt.str_str a t' b t
  | ref b=>simp [D.data] at he
  | ty b=>simp [D.data] at he
  | ey b=>simp [D.data] at he
  | tup aw=>obtain ⟨b,us,rfl,s2,bB⟩:=bh;cases bo;obtain ⟨dz,fm,cR,_⟩:=I.tuple s2;exact SeqAt.RcNeAt.str_tuple a t' cR fl
end
section
variable{X:a4}{a b c e o i bj iter:a8}{aw:List a8}{a_ bG aX to e6 bf:cB}{t:gx}{pos p apos e7:Pos}
theorem dj{A:d6}{k:Nat}(ap:eG k A):A.units+200 < fI:=by have:=ap.un;omega
def yv(K:a6)(f:Bool->Bool):fv:=λ x y H Q=>∃ d e,cV K H d x/\cV K H e y/\d.data=true/\e.data=true/\d.bH<=150/\Q (.aO (f (fT d e))) H
def Be(K:a6)(f:Bool->Bool):fv:=λ x y H Q=>∃ l m vs us ds aw,x=.ref l/\y=.ref m/\fi K H l vs/\fi K H m us/\b_ K H ds vs/\b_ K H aw us/\jU ds=true/\jU aw=true/\i0 ds<=150/\Q (.aO (f (kq ds aw))) H
theorem Rs(bx:X.A.units+200 < fI):eo X (eP .Eq) (yv X.K id):=by
 intro pins s σ H x y v u Q I bd cb h;obtain ⟨d,e,a7,bh,hd,he,hz,q⟩:=h;exact Rq I d e X.A x y v u hd he a7 bh bd cb (by omega) X.prog X.w X.xe _ ⟨.aO _,H,I,rfl,q⟩
theorem Rt(bx:X.A.units+200 < fI):eo X (eP .NotEq) (yv X.K (!·)):=by
 intro pins s σ H x y v u Q I bd cb h;obtain ⟨d,e,a7,bh,hd,he,hz,q⟩:=h;exact Rr I d e X.A x y v u hd he a7 bh bd cb (by omega) X.prog X.w X.xe _ ⟨.aO _,H,I,rfl,q⟩
theorem Bf:∀{ds aw:List D},ds.length≠aw.length->kq ds aw=false
 | [],[],h=>absurd rfl h
 | [],_::_,_=>rfl
 | _::_,[],_=>rfl
 | d::ds,e::aw,h=>by rw [kq,Bf (by simpa using h),Bool.and_false]
theorem Hf{ds aw:List D}(h:ds.length=aw.length):(lu ds.length).all (jr ds aw)=kq ds aw:=by
 rw [<- vv,<- h,Nat.min_self];simp
theorem Ru(bx:X.A.units+200 < fI):eo X (eP .Eq) (Be X.K id):=by
 intro pins s σ H x y v u Q I bd cb h;obtain ⟨l,m,vs,us,ds,aw,rfl,rfl,s1,s2,be,bB,hd,he,hz,q⟩:=h;cases bd;cases cb;obtain ⟨aN,ew,t1,_⟩:=I.list s1;obtain ⟨dz,fm,cR,_⟩:=I.list s2;have cf:=ew.length;have cK:=fm.length;have oI:=be.len;have rC:=bB.len;by_cases aP:ds.length=aw.length
 ·refine SeqAt.RcAt.lists (e:=jr ds aw) t1.isList cR.isList (by rw [dG,dG];omega) (by omega) (λ j af ao=>?_) X.prog X.w X.xe _ ⟨.aO _,H,I,?_,q⟩
  ·have q:=s_ I ds aw X.A.in1 vs us aN dz hd he be bB ew fm (by show X.A.units+1+i0 ds < fI;omega) j (by simpa using af) (by simpa using ao);simpa using q
  ·show Value.bool _=Value.bool _;rw [dG,<- cf,oI,Hf aP];rfl
 ·refine SeqAt.RcAt.lists_lengths t1.isList cR.isList (by rw [dG,dG];simp;omega) (by omega) X.prog X.w X.xe _ ⟨.aO _,H,I,?_,q⟩;rw [Bf aP];rfl
theorem Rv(bx:X.A.units+200 < fI):eo X (eP .NotEq) (Be X.K (!·)):=by
 intro pins s σ H x y v u Q I bd cb h;obtain ⟨l,m,vs,us,ds,aw,rfl,rfl,s1,s2,be,bB,hd,he,hz,q⟩:=h;cases bd;cases cb;obtain ⟨aN,ew,t1,_⟩:=I.list s1;obtain ⟨dz,fm,cR,_⟩:=I.list s2;have cf:=ew.length;have cK:=fm.length;have oI:=be.len;have rC:=bB.len;by_cases aP:ds.length=aw.length
 ·refine SeqAt.RcNeAt.lists (e:=jr ds aw) t1.isList cR.isList (by rw [dG,dG];omega) (by omega) (λ j af ao=>?_) X.prog X.w X.xe _ ⟨.aO _,H,I,?_,q⟩
  ·have q:=s_ I ds aw X.A.in1 vs us aN dz hd he be bB ew fm (by show X.A.units+1+i0 ds < fI;omega) j (by simpa using af) (by simpa using ao);simpa using q
  ·show Value.bool _=Value.bool _;rw [dG,<- cf,oI,Hf aP]
 ·refine SeqAt.RcNeAt.lists_lengths t1.isList cR.isList (by rw [dG,dG];simp;omega) (by omega) X.prog X.w X.xe _ ⟨.aO _,H,I,?_,q⟩;rw [Bf aP];rfl
def vw(f:Bool->Bool):jm:=λ x y G Q=>match x,y with
 | .int i,.int j=>Q (.aO (f (i==j))) G
 | .str i,.str j=>Q (.aO (f (i==j))) G
 | .tup _,.str _=>Q (.aO (f false)) G
 | .str _,.tup _=>Q (.aO (f false)) G
 | .ref l,.ref m=>jO G l λ ds=>jO G m λ aw=>jU ds=true/\jU aw=true/\i0 ds<=150/\Q (.aO (f (kq ds aw))) G
 | x,y=>x.data=true/\y.data=true/\x.bH<=150/\Q (.aO (f (fT x y))) G
theorem Rw{f:Bool->Bool}{x y:D}{G:aH}{Q:da}(aq:x.data=true)(aQ:y.data=true)(hd:x.bH<=150)(q:Q (.aO (f (fT x y))) G):vw f x y G Q:=by
 cases x<;>cases y<;>first | exact q | exact ⟨aq,aQ,hd,q⟩ | (simp [D.data] at aq;done) | (simp [D.data] at aQ;done)
def Bg(K:a6)(f:Bool->Bool):fv:=λ x y H Q=>(∃ a vs z,x=.ref a/\dD K H a vs/\y=.str z/\Q (.aO (f false)) H)\/∃ a vs z,y=.ref a/\dD K H a vs/\x=.str z/\Q (.aO (f false)) H
theorem Rx(bx:X.A.units+200 < fI):eo X (eP .Eq) (Bg X.K id):=by
 intro pins s σ H x y v u Q I bd cb h;rcases h with ⟨a,vs,z,rfl,ik,rfl,q⟩ | ⟨a,vs,z,rfl,ik,rfl,q⟩
 ·cases bd;obtain ⟨t,rfl⟩:=cb;obtain ⟨aN,ew,t1,_⟩:=I.tuple ik;exact SeqAt.RcAt.tuple_str z t t1 (by omega) X.prog X.w X.xe _ ⟨.aO false,H,I,rfl,q⟩
 ·cases cb;obtain ⟨t,rfl⟩:=bd;obtain ⟨aN,ew,t1,_⟩:=I.tuple ik;exact SeqAt.RcAt.str_tuple z t t1 (by omega) X.prog X.w X.xe _ ⟨.aO false,H,I,rfl,q⟩
theorem Ry(bx:X.A.units+200 < fI):eo X (eP .NotEq) (Bg X.K (!·)):=by
 intro pins s σ H x y v u Q I bd cb h;rcases h with ⟨a,vs,z,rfl,ik,rfl,q⟩ | ⟨a,vs,z,rfl,ik,rfl,q⟩
 ·cases bd;obtain ⟨t,rfl⟩:=cb;obtain ⟨aN,ew,t1,_⟩:=I.tuple ik;exact SeqAt.RcNeAt.tuple_str z t t1 (by omega) X.prog X.w X.xe _ ⟨.aO true,H,I,rfl,q⟩
 ·cases cb;obtain ⟨t,rfl⟩:=bd;obtain ⟨aN,ew,t1,_⟩:=I.tuple ik;exact SeqAt.RcNeAt.str_tuple z t t1 (by omega) X.prog X.w X.xe _ ⟨.aO true,H,I,rfl,q⟩
theorem Hg{f:Bool->Bool}{op:o6}(af:eo X (eP op) (yv X.K f))(ao:eo X (eP op) (Be X.K f))(aF:eo X (eP op) (Bg X.K f)):gY X (eP op) (vw f):=by
 refine ⟨_,⟨af.or (ao.or aF)⟩,λ x y e9 hV G H ax Q v a7 bh r F=>?_⟩;have fin:∀ b:Bool,ax (.aO b) G->Q (.aO b) H:=λ b q=>F (.aO b) G _ H (.refl v) rfl q
 have gen:x.data=true/\y.data=true/\x.bH<=150/\ax (.aO (f (fT x y))) G->yv X.K f e9 hV H Q:=λ⟨bF,bU,dg,hc⟩=>⟨x,y,a7,bh,bF,bU,dg,fin _ hc⟩
 unfold vw at r;split at r
 ·exact .inl (gen ⟨rfl,rfl,f9 _,r⟩)
 ·exact .inl (gen ⟨rfl,rfl,f9 _,r⟩)
 ·obtain ⟨l,vs,rfl,s1,_⟩:=a7;cases bh;exact .inr (.inr (.inl ⟨l,vs,_,rfl,s1,rfl,fin _ r⟩))
 ·obtain ⟨l,vs,rfl,s1,_⟩:=bh;cases a7;exact .inr (.inr (.inr ⟨l,vs,_,rfl,s1,rfl,fin _ r⟩))
 ·cases a7;cases bh;obtain ⟨ds,vs,ec,s1,be⟩:=mE v r;obtain ⟨aw,us,⟨bF,bU,dg,cF⟩,s2,bB⟩:=mE v ec;exact .inr (.inl ⟨_,_,vs,us,ds,aw,rfl,rfl,s1,s2,be,bB,bF,bU,dg,fin _ cF⟩)
 ·exact .inl (gen r)
theorem d3(bx:X.A.units+200 < fI):gY X (eP .Eq) (vw id):=Hg (Rs bx) (Ru bx) (Rx bx)
theorem oJ(bx:X.A.units+200 < fI):gY X (eP .NotEq) (vw (!·)):=Hg (Rt bx) (Rv bx) (Ry bx)
abbrev Rz(t:cB):cB:=λ ρ G Q=>t ρ G λ d ak=>∃ aU,Sub aU ak/\Q d aU
theorem yw(h:b0 X e aX):b0 X e (Rz aX):=by
 obtain ⟨ca,cw,cy⟩:=h.run;exact ⟨_,cw,λ ρ G ax σ H Q B q F=>cy ρ G _ σ H _ B q λ d ak v ai g a ⟨aU,s2,bu⟩=>F d aU v ai (g.sub s2) a bu⟩
@[irreducible] def atS(ds:List D)(i:Int)(G:aH)(Q:da):Prop:=ow ds i G Q
theorem ta{ds:List D}{i:Int}{G:aH}{Q:da}(h:ow ds i G Q):atS ds i G Q:=by unfold atS;exact h
abbrev RA(t:gx)(bG:cB):cB:=λ ρ G Q=>t ρ G λ ds av=>bG ρ av λ y aU=>match y with
 | .int i=>atS ds i aU Q
 | _=>False
theorem rD{yx:Pos}(h:iE X aw t)(ag:b0 X b bG)(aB:xx b)(aP:jB aw.length 1000=true:=by rfl):b0 X (.Subscript (.List aw yx) b pos) (RA t bG):=by
 obtain ⟨ca,cw,cy⟩:=h.run;obtain ⟨hn,hg,eT⟩:=ag.run;refine ⟨_,F1 ⟨Fs⟩ (F0 cw) hg aB,λ ρ G ax σ H Q B q F=>cy ρ G _ σ H _ B q λ ds av vs H1 g1 al bc aE=>⟨by rw [al.len,bc];exact x_ aP,λ p aj=>?_⟩⟩;have g2:=Go.nz (o:=.lst vs) g1.bX aj;have eV:=g1.bX.none aj;refine eT ρ av _ σ _ _ ((B.go g1).go g2) aE λ y cM u dE g3 bh dH=>?_;have aF:=g3.same p _ fq eV;split at dH
 ·next i=>
  cases bh;unfold atS at dH;obtain ⟨d,hd,gE⟩:=yj dH;obtain ⟨w,hw,k5⟩:=yi ((al.mono g2.tup).mono g3.tup) hd;exact .inl ⟨p,vs,i,w,rfl,rfl,.of aF,hw,F d cM w dE ((g1.trans g2).trans g3) k5 gE⟩
 ·exact dH.elim
def Hh(sc:e4)(N:List Str)(scope:e4)(N':List Str)(nt:Nat)(cap:List Nat):Bool:=
 scope.names.all (λ y=>y.2 !=.cell)&&scope.names.all (λ y=>y.2 !=.local||scope.names.lookup y.1==some .local) &&
 scope.names.all (λ y=>y.2 !=.free||(sc.names.lookup y.1==some .cell||sc.names.lookup y.1==some .free))&&N'.length==nt+cap.length &&
 (lu cap.length).all λ j=>match cap[j]?,N'[nt+j]? with
  | some i,some x=>N[i]?==some x&&scope.names.lookup x==some .free
  | _,_=>true
theorem fD.of{scope:e4}{N':List Str}{nt:Nat}{cap:List Nat}(aC:scope.kind=.function)(h:Hh X.env.scope X.N scope N' nt cap=true):fD X scope N' nt cap:=by
 unfold Hh at h;simp only [g7,List.all_eq_true] at h;obtain ⟨⟨⟨⟨af,ao⟩,aF⟩,cn⟩,d1⟩:=h;refine ⟨aC,λ y aQ=>by simpa using af y aQ,λ y aQ e=>?_,λ y aQ e=>?_,by simpa using cn,λ j i x d4 aq=>?_⟩
 ·have z:=ao y aQ;rw [e] at z;simpa using z
 ·have z:=aF y aQ;rw [e] at z;simpa using z
 ·have lt:j < cap.length:=by
   rcases kM j cap.length with z | z
   ·exact z
   ·rw [qn z] at d4;cases d4
  have z:=d1 j (wN.mpr lt);rw [d4,aq] at z;simpa using z
abbrev RB(to e6:cB):fR:=λ d ρ G Q=>to ρ G λ x av=>e6 ρ av λ y aU=>match x,y with
 | .ref l,.int k=>kp aU l λ ds=>∃ j,kX ds.length k=some j/\Q ρ (up aU l (.lst (ds.set j d)))
 | _,_=>False
theorem yy(bb:b0 X o to)(aA:b0 X i e6) (au:∀ v,hj (.Subscript o i pos) X.env v=(do
 let cZ ← hM [v] (eval o X.env)
 let d7 ← hM [v,cZ] (eval i X.env)
 kF pos
 hM [v,cZ,d7] (qh cZ d7 v)
 sh [v,cZ,d7] []):=by intro _;rfl):jl X (.Subscript o i pos) (RB to e6):=by
 obtain ⟨co,gM,fP⟩:=bb.run;obtain ⟨ci,iY,gI⟩:=aA.run;refine ⟨_,O8 gM iY ⟨z0⟩ au,λ d v ρ G ax σ H Q B ad q F=>fP ρ G _ σ H _ B q λ x av e9 H1 g1 a7 aE=>gI ρ av _ σ H1 _ (B.go g1) aE λ y aU hV aK g2 bh bu=>?_⟩;split at bu
 ·next l k=>
  cases a7;cases bh;obtain ⟨ds,vs,⟨j,d4,dH⟩,az,af,be⟩:=lI g2.bX bu;have RC:=(ad.mono g1.tup).mono g2.tup;have g3:=Go.rl g2.bX az (be.set RC j);have fy:=(g1.trans g2).trans g3;exact ⟨l,vs,k,j,rfl,rfl,af,by rw [be.len];exact d4,F ρ _ σ _ fy (B.go fy) dH⟩
 ·exact bu.elim
abbrev Y_(aX:cB):cB:=λ ρ G Q=>aX ρ G λ x av=>match x with
 | .tup ds=>∀ p,av p=none->Q (.ref p) (up av p (.lst ds.reverse))
 | _=>False
def Hi(x:D)(G:aH)(k:String->Prop):Prop:=match x with
 | .br=>k "NoneType"
 | .aO _=>k "bool"
 | .int _=>k "int"
 | .str _=>k "str"
 | .tup _=>k "tuple"
 | .ref l=>jO G l λ _=>k "list"
 | _=>False
def Bh(t T:String):Option Bool:=
 if (t = "NoneType"\/t = "bool"\/t = "int"\/t = "str"\/t = "tuple"\/t = "list")/\(T = "bool"\/T = "int"\/T = "str"\/T = "tuple"\/T = "list") then some (decide (t=T)||(decide (t = "bool")&&decide (T = "int"))) else none
theorem tb{K:a6}{t T:String}{b:Bool}(h:Bh t T=some b):PySem.W.kitOne K (.type t) (.type T)=some b:=by
 unfold Bh at h;split at h
 ·next c=>
  obtain ⟨c1,c2⟩:=c;rcases c1 with rfl | rfl | rfl | rfl | rfl | rfl<;>rcases c2 with rfl | rfl | rfl | rfl | rfl<;>(simp at h;subst h;first | rfl | exact Za rfl (by decide))
 ·cases h
def RD(K:a6):List V->ar->cm->Prop:=λ xs H Q=>∃ x T t b,xs=[x,.ty T]/\((kV K H x (.type t))\/(t = "tuple"/\∃ a vs,x=.ref a/\dD K H a vs)\/(t = "list"/\∃ a vs,x=.ref a/\fi K H a vs))/\PySem.W.kitOne K (.type t) (.type T)=some b/\Q (.aO b) H
theorem RE:kU X (.builtin "isinstance") (RD X.K):=by
 intro pins s σ H xs us Q I r h;obtain ⟨x,T,t,b,rfl,ty,aC,iR⟩:=h;obtain ⟨u,v,rfl,dw,bo⟩:=Vals.two r;cases bo;rcases ty with ty | ⟨rfl,a,vs,rfl,ik⟩ | ⟨rfl,a,vs,rfl,ik⟩
 ·exact MA I dw ty aC λ tk=>⟨.aO b,H,I.tok tk,rfl,iR⟩
 ·cases dw;obtain ⟨aN,_,⟨o,af,ao,_⟩,_⟩:=I.tuple ik
  exact kO PySem.W.kitx_tuple I.eU ⟨o,af,ao⟩ aC (λ z=>nomatch z) λ tk=>⟨.aO b,H,I.tok tk,rfl,iR⟩
 ·cases dw;obtain ⟨aN,_,⟨o,n,af,ao,_⟩,_⟩:=I.list ik
  exact kO PySem.W.kitx_list I.eU ⟨o,af,ao⟩ aC (λ z=>nomatch z) λ tk=>⟨.aO b,H,I.tok tk,rfl,iR⟩
def Bi:D->D->aH->da->Prop:=λ x y G Q=>match y with
 | .ty T=>Hi x G λ t=>∃ b,Bh t T=some b/\Q (.aO b) G
 | _=>False
theorem rE:rm X (.builtin "isinstance") (AY Bi):=by
 refine ⟨_,⟨RE⟩,λ xs vs G H ax Q v a r F=>?_⟩;obtain ⟨x,y,u,w,rfl,rfl,a7,bh,r⟩:=Q3 r a
 cases y with
 | ty T=>
  cases bh
  cases x with
  | br=>cases a7;obtain ⟨b,ag,q⟩:=r;exact ⟨_,T,_,b,rfl,.inl .br,tb ag,F (.aO b) G _ H (.refl v) rfl q⟩
  | aO z=>cases a7;obtain ⟨b,ag,q⟩:=r;exact ⟨_,T,_,b,rfl,.inl (.aO z),tb ag,F (.aO b) G _ H (.refl v) rfl q⟩
  | int z=>cases a7;obtain ⟨b,ag,q⟩:=r;exact ⟨_,T,_,b,rfl,.inl (.int z),tb ag,F (.aO b) G _ H (.refl v) rfl q⟩
  | str z=>cases a7;obtain ⟨b,ag,q⟩:=r;exact ⟨_,T,_,b,rfl,.inl (.str z),tb ag,F (.aO b) G _ H (.refl v) rfl q⟩
  | tup ds=>obtain ⟨l,ws,rfl,s,_⟩:=a7;obtain ⟨b,ag,q⟩:=r;exact ⟨_,T,"tuple", b,rfl,.inr (.inl ⟨rfl,l,ws,rfl,s⟩),tb ag,F (.aO b) G _ H (.refl v) rfl q⟩
  | ref l=>
   cases a7;obtain ⟨ds,ws,⟨b,ag,q⟩,s,_⟩:=mE v r;exact ⟨_,T,"list", b,rfl,.inr (.inr ⟨rfl,l,ws,rfl,s⟩),tb ag,F (.aO b) G _ H (.refl v) rfl q⟩
  | ty z=>exact (show False from r).elim
  | ey z=>exact (show False from r).elim
 | _=>exact (show False from r).elim
abbrev RF(t:gx):jQ:=λ ρ G R=>t ρ G λ ds av=>match ds with
 | [.tup xs,.tup a3]=>xs.length<=a3.length/\R ⟨(xs.zip a3).map λ z=>.tup [z.1,z.2],λ _=>True⟩ av
 | _=>False
theorem RG{k:Nat}{dF:Pos}(a0:eF X "zip")(hm:X.mg "zip" = none)(au:iE X [a,b] t)(af:fj a=true:=by rfl)(ao:fj b=true:=by rfl):nH X (.Tuple aw k dF) (.Call (.Name "zip" p) [a,b] [] pos) (RF t):=by
 obtain ⟨ca,cw,cy⟩:=au.run;refine ⟨_,PU a0 hm cw af ao,λ ρ G jS σ H R B q F=>cy ρ G _ σ H _ B q λ ds av vs H1 g1 al aP aE=>?_⟩;split at aE
 ·next xs a3=>
  obtain ⟨hle,bu⟩:=aE;obtain ⟨v,r,rfl,⟨l,ws,rfl,s1,be⟩,u,bB,rfl,⟨m,zs,rfl,s2,RH⟩,z⟩:=al;cases z;refine ⟨l,m,rfl,⟨ws,s1⟩,⟨zs,s2⟩,F _ _ av H1 g1 (λ aU aK g2 _=>⟨λ n d hd=>?_,λ n bc=>⟨ws,g2.tup.dF _ _ s1,?_⟩⟩) bu⟩
  ·rw [gT] at hd
   cases e:(xs.zip a3)[n]? with
   | none=>rw [e] at hd;cases hd
   | some z=>
    rw [e] at hd;simp at hd;subst hd;obtain ⟨az,aW⟩:=List.getElem?_zip_eq_some.mp e;obtain ⟨dv,ec,a1⟩:=(be.mono g2.tup).get az;obtain ⟨eE,cF,a2⟩:=(RH.mono g2.tup).get aW;refine ⟨⟨ws,zs,dv,eE,g2.tup.dF _ _ s1,g2.tup.dF _ _ s2,ec,cF⟩,λ x ai y=>?_⟩;obtain ⟨T,am,e2,rfl,dy,rfl,aq,aQ⟩:=y;have bF:=aq ws (g2.tup.dF _ _ s1);have bU:=aQ zs (g2.tup.dF _ _ s2);rw [ec] at bF;rw [cF] at bU;cases bF;cases bU;have g3:=Go.nz (o:=.tup [dv,eE]) g2.bX dy;exact ⟨g3,T,_,rfl,.of fq,⟨_,_,rfl,a1.mono g3.tup,.one (a2.mono g3.tup)⟩⟩
  ·have:=be.len;simp at bc;omega
 ·exact aE.elim
end
end L3
namespace L3
open PySem PyProof L2
open PySem.MeetsSeq
theorem vx{K:a6}{H:ar}:∀ ws:List Str,b_ K H (ws.map D.str) (ws.map V.str)
 | []=>rfl
 | w::ws=>⟨_,_,rfl,rfl,vx ws⟩
theorem RI{a b:String}(h:Str.ofString a=Str.ofString b):a=b:=by
 rw [Str.ofString_eq_toList,Str.ofString_eq_toList] at h
 have af:a.toList.map Char.toNat=b.toList.map Char.toNat:=by simpa using h
 have ao:a.toList=b.toList:=by
  generalize a.toList=x at af;generalize b.toList=y at af
  induction x generalizing y with
  | nil=>cases y with
   | nil=>rfl
   | cons _ _=>simp at af
  | cons c x bL=>cases y with
   | nil=>simp at af
   | cons d y=>
    simp only [eC,List.cons.injEq] at af;rw [Char.ext (UInt32.toNat_inj.mp af.1),bL y af.2]
 exact String.toList_inj.mp ao
theorem hH{a b:String}:(Str.ofString a=Str.ofString b)=(a=b):=propext ⟨RI,λ h=>by rw [h]⟩
theorem nK{a b:String}:(Str.ofString a==Str.ofString b)=(a==b):=by
 rw [Bool.eq_iff_iff];simp [hH]
inductive Tm where
 | name (k:Nat) | whole (n:Int) | way (t:Tm) | give (t u:Tm) | pair (t u:Tm) | first (t:Tm) | second (t:Tm) | plus (t u:Tm) | look (t u v:Tm)
def Tm.aL:Tm->List Tm
 | .name _=>[]
 | .whole _=>[]
 | .way t=>[t]
 | .give t u=>[t,u]
 | .pair t u=>[t,u]
 | .first t=>[t]
 | .second t=>[t]
 | .plus t u=>[t,u]
 | .look t u v=>[t,u,v]
def Tm.word:Tm->Str
 | .name _=>"name" | .whole _=>"whole" | .way _=>"way" | .give _ _=>"give" | .pair _ _=>"pair" | .first _=>"first" | .second _=>"second" | .plus _ _=>"plus" | .look _ _ _=>"look"
def Tm.enc:Tm->D
 | .name k=>.tup [.str "name", .int k]
 | .whole n=>.tup [.str "whole", .int n]
 | .way t=>.tup [.str "way", t.enc]
 | .give t u=>.tup [.str "give", t.enc,u.enc]
 | .pair t u=>.tup [.str "pair", t.enc,u.enc]
 | .first t=>.tup [.str "first", t.enc]
 | .second t=>.tup [.str "second", t.enc]
 | .plus t u=>.tup [.str "plus", t.enc,u.enc]
 | .look t u v=>.tup [.str "look", t.enc,u.enc,v.enc]
def Tm.aR:Tm->Nat
 | .name _=>1
 | .whole _=>1
 | .way t=>1+t.aR
 | .give t u=>1+t.aR+u.aR
 | .pair t u=>1+t.aR+u.aR
 | .first t=>1+t.aR
 | .second t=>1+t.aR
 | .plus t u=>1+t.aR+u.aR
 | .look t u v=>1+t.aR+u.aR+v.aR
def Tm.bH:Tm->Nat
 | .name _=>0
 | .whole _=>0
 | .way t=>1+t.bH
 | .give t u=>1+max t.bH u.bH
 | .pair t u=>1+max t.bH u.bH
 | .first t=>1+t.bH
 | .second t=>1+t.bH
 | .plus t u=>1+max t.bH u.bH
 | .look t u v=>1+max t.bH (max u.bH v.bH)
theorem Tm.tc(t:Tm):1<=t.aR:=by cases t<;>simp [Tm.aR]<;>omega
theorem Tm.Bj(t:Tm):t.enc.bH=t.bH+1:=by
 induction t<;>simp_all [Tm.enc,D.bH,i0,Tm.bH]<;>omega
def Tm.args:Tm->List D
 | .name k=>[.int k]
 | .whole n=>[.int n]
 | t=>t.aL.map Tm.enc
theorem Tm.pT(t:Tm):t.enc=.tup (.str t.word::t.args):=by cases t<;>rfl
abbrev rF(x y:Int):ek:=.lst [.int x,.int y]
def hX(G:aH)(a:Addr):Prop:=∃ x y,G a=some (rF x y)
theorem hX.up{G:aH}{a:Addr}{x y:Int}:hX (up G a (rF x y)) a:=⟨x,y,aG⟩
theorem hX.new{G:aH}{a l:Addr}{o:ek}(h:hX G a)(n:G l=none):hX (L3.up G l o) a:=by
 obtain ⟨x,y,e⟩:=h;exact ⟨x,y,by rw [bv (by rintro rfl;rw [n] at e;cases e)];exact e⟩
theorem hX.ne{G:aH}{a l:Addr}(h:hX G a)(n:G l=none):l≠a:=by
 obtain ⟨x,y,e⟩:=h;rintro rfl;rw [n] at e;cases e
theorem rG{G:aH}{a l:Addr}{f o:ek}(n:up G a f l=none):up (up G a f) l o=up (up G l o) a f/\G l=none/\l≠a:=by
 have ne:l≠a:=by rintro rfl;rw [aG] at n;cases n
 exact ⟨GC (Ne.symm ne),by rw [bv ne] at n;exact n,ne⟩
theorem Sub.new{G av:aH}{p:Addr}{o:ek}(h:Sub G av)(n:G p=t8):Sub G (up av p o):=λ b u e=>by
 rw [bv (by rintro rfl;rw [n] at e;cases e)];exact h b u e
theorem Sub.put{G av:aH}{a:Addr}{o:ek}(h:Sub G av):Sub (up G a o) (up av a o):=λ b u e=>by
 by_cases c:b=a
 ·subst c;rw [aG] at e ⊢;exact e
 ·rw [bv c] at e ⊢;exact h b u e
def eR(a:Addr)(G ak:aH):Prop:=∃ x y,ak=up G a (rF x y)
theorem eR.mk{a:Addr}{G:aH}{x y:Int}:eR a G (up G a (rF x y)):=⟨x,y,rfl⟩
theorem eR.trans{a:Addr}{G av aU:aH}(h:eR a G av)(k:eR a av aU):eR a G aU:=by
 obtain ⟨x,y,rfl⟩:=h;obtain ⟨z,u,rfl⟩:=k;exact ⟨z,u,dh⟩
theorem eR.fd{a:Addr}{G ak:aH}(h:eR a G ak):hX ak a:=by obtain ⟨x,y,rfl⟩:=h;exact .up
theorem eR.other{a l:Addr}{G ak:aH}(h:eR a G ak)(n:l≠a):ak l=G l:=by obtain ⟨x,y,rfl⟩:=h;exact bv n
theorem eR.drop{a l:Addr}{G ak:aH}{o:ek}(n:G l=t8)(h:eR a (up G l o) ak)(F:hX G a):∃ aU,Sub aU ak/\eR a G aU:=by
 obtain ⟨x,y,rfl⟩:=h;exact ⟨up G a (rF x y),Sub.put (Sub.new (Sub.refl _) n),x,y,rfl⟩
def kr:di:=λ ds G Q=>match ds with
 | [.ref a,.int m]=>hX G a/\0 < m/\m < 2 ^ 62/\∀ d ak,eR a G ak->0<=d->d < m->Q (.int d) ak
 | _=>False
def vy:di:=λ ds G Q=>match ds with
 | [.ey ss,.int k]=>∃ ns:List Int,ss=ns.map D.int/\ns.length<=63/\0<=k/\k < 2 ^ 32/\∀ r x y,G r=none->Q (.ref r) (up G r (rF x y))
 | _=>False
def ku:di:=λ ds G Q=>match ds with
 | [.ref a]=>hX G a/\∀ n ak,eR a G ak->-(2 ^ 40) < n->n < 2 ^ 40->Q (Tm.enc (.whole n)) ak
 | _=>False
theorem nL{P:c8}{w:cG}{K:a6}{mg:Str->Option Value}{base:b2}{f:Addr}{fd:gA}{ps:List Str}{k:Nat}{d2:di}(no:∀ ds G ax,¬ d2 ds G ax):cO P w K mg base cQ k f fd ps (aT K d2):=
 ⟨λ vs H Q E ⟨ds,G,ax,_,_,h,_⟩=>absurd h (no ds G ax),λ A outer s H args us vs Q E _ _ _ _ ⟨ds,G,ax,_,_,h,_⟩=>absurd h (no ds G ax)⟩
theorem at2{x y:D}{G:aH}{Q:da}{i:Int}(h0:0<=i)(af:i < 2)(aq:i=0->Q x G)(aQ:i=1->Q y G):atS [x,y] i G Q:=by
 refine ta ?_;rcases (by omega:i=0\/i=1) with rfl | rfl
 ·exact aq rfl
 ·exact aQ rfl
theorem Bk{x y z:D}{G:aH}{Q:da}{i:Int}(h0:0<=i)(af:i < 3)(aq:i=0->Q x G)(aQ:i=1->Q y G)(hz:i=2->Q z G):atS [x,y,z] i G Q:=by
 refine ta ?_;rcases (by omega:i=0\/i=1\/i=2) with rfl | rfl | rfl
 ·exact aq rfl
 ·exact aQ rfl
 ·exact hz rfl
theorem RJ{x y z u:D}{G:aH}{Q:da}{i:Int}(h0:0<=i)(af:i < 4)(aq:i=0->Q x G)(aQ:i=1->Q y G)(hz:i=2->Q z G)(bx:i=3->Q u G):atS [x,y,z,u] i G Q:=by
 refine ta ?_;rcases (by omega:i=0\/i=1\/i=2\/i=3) with rfl | rfl | rfl | rfl
 ·exact aq rfl
 ·exact aQ rfl
 ·exact hz rfl
 ·exact bx rfl
theorem RK{x y z u v:D}{G:aH}{Q:da}{i:Int}(h0:0<=i)(af:i < 5)(aq:i=0->Q x G)(aQ:i=1->Q y G)(hz:i=2->Q z G)(bx:i=3->Q u G)(bK:i=4->Q v G):atS [x,y,z,u,v] i G Q:=by
 refine ta ?_;rcases (by omega:i=0\/i=1\/i=2\/i=3\/i=4) with rfl | rfl | rfl | rfl | rfl
 ·exact aq rfl
 ·exact aQ rfl
 ·exact hz rfl
 ·exact bx rfl
 ·exact bK rfl
inductive Ty where
 | n | f (a b:Ty) | p (a b:Ty)
def Ty.enc:Ty->D
 | .n=>.str "n"
 | .f a b=>.tup [.str "f", a.enc,b.enc]
 | .p a b=>.tup [.str "p", a.enc,b.enc]
def Ty.aR:Ty->Nat
 | .n=>1
 | .f a b=>1+a.aR+b.aR
 | .p a b=>1+a.aR+b.aR
theorem Ty.tc(t:Ty):1<=t.aR:=by cases t<;>simp [Ty.aR]<;>omega
theorem Ty.Hj(t:Ty):t.enc.data=true:=by induction t<;>simp_all [Ty.enc,D.data,jU]
theorem Ty.Bj(t:Ty):t.enc.bH<=t.aR:=by induction t<;>simp_all [Ty.enc,D.bH,i0,Ty.aR]<;>omega
def Zb:di:=λ ds G Q=>match ds with
 | [.ref a,.int many]=>hX G a/\0<=many/\many < 2 ^ 40/\∀(p:Tm) ak,eR a G ak->p.aR=1->p.bH=0->Q p.enc ak
 | _=>False
def td:Nat->Nat
 | 0=>1
 | k+1=>1+2 * td k
def oK(n:Nat):di:=λ ds G Q=>match ds with
 | [.ref a,.int deep]=>hX G a/\0<=deep/\deep < n/\∀(t:Ty) ak,eR a G ak->t.aR<=td deep.toNat->Q t.enc ak
 | _=>False
def rH(n:Nat):di:=λ ds G Q=>∃ t:Tm,ds=[t.enc]/\t.bH < n/\t.aR<=100000/\Q (.int t.aR) G
def yz{α:Type}(enc:α->D)(aL:α->List α):di:=λ ds G Q=>∃ x,ds=[enc x]/\Q (.tup ((aL x).map enc)) G
section
variable{α:Type}{all:α->List (List Int × α)}{aL:α->List α}
theorem fU{n:Nat}(h:n<=200000):n<=sizeLine:=by rw [qc];omega
theorem dm{n:Nat}(h:n<=200000):n < sizeLine:=by rw [qc];omega
theorem iL{G:aH}{p q:Addr}{x y z:ek}(h:p≠q):up (up (up G q x) p y) q z=up (up G q z) p y:=by
 rw [GC h,dh]
end
theorem RL{u:Tm}{G:aH}{k:String->Prop}(q:k "tuple"):Hi u.enc G k:=by rw [u.pT];exact q
theorem rI{u:Tm}{G:aH}{Q:da}(q:Q (.aO true) G):Bi u.enc (.ty "tuple") G Q:=by
 unfold Bi;exact RL ⟨true,rfl,q⟩
theorem Tm.RM(t:Tm):(t.aR:Int)=1+(t.aL.map λ u=>(u.aR:Int)).sum:=by
 cases t<;>simp [Tm.aR,Tm.aL]<;>omega
theorem Tm.RN{t u:Tm}(h:u∈t.aL):u.bH+1<=t.bH:=by
 cases t<;>simp [Tm.aL] at h<;>simp only [Tm.bH]<;>first | (subst h;omega) | (rcases h with rfl | rfl<;>omega) | (rcases h with rfl | rfl | rfl<;>omega)
theorem Tm.RO{t u:Tm}(h:u∈t.aL):u.aR+1<=t.aR:=by
 cases t<;>simp [Tm.aL] at h<;>simp only [Tm.aR]<;>first | (subst h;omega) | (rcases h with rfl | rfl<;>omega) | (rcases h with rfl | rfl | rfl<;>omega)
theorem Tm.gy(t:Tm):t.aL.length<=3:=by cases t<;>simp [Tm.aL]
mutual
def D.plain:D->Bool
 | .int _=>true
 | .str _=>true
 | .tup ds=>decide (ds.length<=100000)&&vz ds
 | _=>false
def vz:List D->Bool
 | []=>true
 | d::ds=>d.plain&&vz ds
end
theorem Hk:∀{ds:List D}{d:D},vz ds=true->d∈ds->d.plain=true
 | d::ds,e,h,m=>by
  simp only [vz,g7] at h;rcases ea.mp m with rfl | m
  ·exact h.1
  ·exact Hk h.2 m
theorem Hl:∀{ds:List D}{d:D},d∈ds->d.bH<=i0 ds
 | d::ds,e,m=>by
  rcases ea.mp m with rfl | m
  ·simp only [i0];omega
  ·have:=Hl m;simp only [i0];omega
def te(n:Nat):di:=λ ds G Q=>∃ d:D,ds=[d,d]/\d.plain=true/\d.bH < n/\Q (.aO true) G
theorem Hm{α β:Type}(f:α × α->β):∀ xs:List α,(xs.zip xs).map f=xs.map λ x=>f (x,x)
 | []=>rfl
 | x::xs=>by rw [List.zip_cons_cons,eC,eC,Hm f xs]
theorem Tm.RP(t:Tm):t.enc.plain=true:=by
 induction t<;>simp_all [Tm.enc,D.plain,vz]
section
variable{X:a4}
abbrev RQ(i:Nat)(T:Addr)(env:Env)(name qual:Str)(st:bE)(fr:List Str)(pos:Pos):gK:=λ dP ρ G=>G T=some (.tab pos qual)/\∀ f,G f=none->dP.nx (ρ.set i (some (.ref f))) (up G f (.made env name qual st fr))
theorem Go.def{K:a6}{G:aH}{H ai:ar}{T f:Addr}{env:Env}{name qual:Str}{st:bE}{fr:List Str}{pos:Pos}(v:eH K G H)(dy:G T=some (.tab pos qual))(hf:H f=none)(M:sO env ai f name qual st fr)(bG:Tab ai T pos qual)(bS:∀ b u,b≠T->H b=some u->ai b=some u) :
 Go K G H (up G f (.made env name qual st fr)) ai:=by
 obtain ⟨ps,yA,_⟩:=v T _ dy;obtain ⟨Hn,RR,_⟩:=id bG
 have k3:∀ a u,H a=some u->u≠.hO ps->a≠T:=λ a u e n z=>by rw [z,yA] at e;exact n (gb.inj e).symm
 have bt:jM K H ai:=by
  refine ⟨λ a xs q=>?_,λ a xs q=>?_,λ a o q=>bS _ _ (k3 _ _ q λ z=>nomatch z) q⟩
  ·rcases q with (q | ⟨o,q⟩) | q
   ·exact .inl (.inl (bS _ _ (k3 _ _ q λ z=>nomatch z) q))
   ·exact .inl (.inr ⟨o,bS _ _ (k3 _ _ q λ z=>nomatch z) q⟩)
   ·exact .inr q
  ·rcases q with ⟨o,q⟩ | q
   ·exact .inl ⟨o,bS _ _ (k3 _ _ q λ z=>nomatch z) q⟩
   ·exact .inr q
 refine ⟨bt,λ a o e=>?_,λ a o e n=>?_,λ a o e n=>?_,λ a u e=>?_⟩
 ·by_cases z:a=T
  ·subst z;exact ⟨_,RR⟩
  ·exact ⟨o,bS a o z e⟩
 ·exact bS a o (λ z=>by rw [z,dy] at n;cases n) e
 ·rw [bv (λ z=>by rw [z,hf] at e;cases e)];exact n
 ·by_cases z:a=f
  ·subst z;rw [aG] at e;cases e;exact M
  ·rw [bv z] at e;by_cases y:a=T
   ·subst y;rw [dy] at e;cases e;exact bG
   ·obtain ⟨ft,q⟩:=(v a u e).some;exact (v a u e).mono bt (by rw [q];exact bS _ _ y q)
variable{i:Nat}{T c:Addr}{name:Str}{params:wK}{body:List bE}{scope:e4}{pos:Pos}{fr:List Str}
theorem RS(cY:X.N.Nodup)(aA:X.N[i]?=some name)(aP:Loc X.env.scope name)(xZ:X.env.code=.ref c)(mm:PySem.W.CodeHd X.base c T)(hS:nB X.mg X.base)
 (fx:wJ scope X.env=pure (fQ X.env fr)) (AD:params.defaults=[]) (AE:params.kw_defaults=[]) (au:annTrees params none X.env=[])
 (hf:X.fn name=true\/X.env.scope.names.lookup name=some .local:=by first | exact .inl rfl | exact .inr rfl | assumption) :
 iF X (.FunctionDef name params body [] none [] scope none name pos) (RQ i T X.env name (qe X.env name name) (.FunctionDef name params body [] none [] scope none name pos) fr pos):=by
 refine ⟨_,⟨P_ (T:=T) cY aA aP xZ mm hS fx AD AE au hf⟩,λ dP e8 ρ G σ H B q F=>?_⟩;obtain ⟨dy,q⟩:=q;refine ⟨B.bX T _ dy,λ f ai Ho M bG bS=>?_⟩;have g:=Go.def B.bX dy Ho M bG bS;exact F.nx _ _ _ _ g ((B.go g).set (d:=.ref f) rfl i) (q f (B.bX.none Ho))
end
end L3
namespace L2
open PySem PySem.Spec PyProof.Rows
def RT(i:Nat)(name qual:Str)(st:bE)(fr:List Str)(sp:List V->gG)(t:eZ):TE:=λ σ H Q=>∃ cD,Gl i name qual st fr cD (sp cD) t σ H Q
theorem RU{X:a4}{k j i:Nat}{name qual:Str}{st:bE}{fr:List Str}{ps:List Str}{x:Str}{sp:List V->gG}{p pos:Pos}{e:a8}{aw:List a8}{t:eZ}(G:∀ cD,xU X.prog X.w X.K X.mg X.base k name qual st fr cD ps (sp cD))(ap:eG j X.A)(aC:k<=j)(cY:X.N[i]?=some x)(bK:qw X.env.scope x)(au:hQ X (e::aw) t)
 (hd:(x==("__debug__" : Str))=false) (g8:(x==("__classdict__" : Str))=false) (he:dp (e::aw) X.env=(false,eval e X.env)::dp aw X.env) (iC:(gj pos (dp aw X.env)).any (·.1)=false) :
 b1 X (.Call (.Name x p) (e::aw) [] pos) (RT i name qual st fr sp t):=λ pins s σ H Q I ⟨cD,h⟩=>P1 (G cD) ap aC cY bK au hd g8 he iC pins s σ H Q I h
end L2
namespace L3
open PySem PyProof L2
def RV(K:a6)(vals:List D)(d2:di)(cD:List V):gG:=λ vs H Q _=>∃ ds G ax,b_ K H ds vs/\b_ K H vals cD/\eH K G H/\d2 ds G ax/\Fin K G H ax Q
structure yB(P:c8)(w:cG)(K:a6)(mg:Str->Option Value)(base:b2)(k:Nat)(name qual:Str)(st:bE)(fr:List Str)(vals:List D)(ps:List Str)(d2:di):Prop where
 ok:∀ cD,xU P w K mg base k name qual st fr cD ps (RV K vals d2 cD)
section
variable{X:a4}{k j:Nat}{name qual:Str}{st:bE}{fr:List Str}{vals:List D}{ps:List Str}{x:Str}{d2:di}{p pos:Pos}{e:a8}{aw:List a8}{t:gx}
abbrev RW(n:Nat)(name qual:Str)(st:bE)(fr:List Str)(vals:List D)(d2:di)(t:gx):cB:=λ ρ G Q=>∃ f,ρ[n]?=some (some (.ref f))/\G f=some (.mB name qual st fr vals)/\t ρ G λ ds av=>av f=some (.mB name qual st fr vals)/\d2 ds av Q
theorem Go.gD{K:a6}{G av:aH}{H H1:ar}{f:Addr}{cl:List (Str × Addr)}{cD:List V}(g:Go K G H av H1)(C:k2 H f name qual st cl cD):k2 H1 f name qual st cl cD:=by
 obtain ⟨dX,dC,doc,pm,bP,ct,b6,aF,c,o,vs,t,cn,d1,iD⟩:=C.fn;exact ⟨⟨dX,dC,doc,pm,bP,ct,b6,g.tup.dA _ _ aF,c,o,vs,t,cn,g.tup.dA _ _ d1,iD⟩,λ i x c aA=>let ⟨v,u,o,bF,bU,dg,hc⟩:=C.cells i x c aA;⟨v,u,o,bF,bU,g.tup.dA _ _ dg,hc⟩,C.len,C.Au⟩
theorem RX(n:Nat)(RY:yB X.prog X.w X.K X.mg X.base k name qual st fr vals ps d2)(ap:eG j X.A)(aC:k<=j)(au:iE X (e::aw) t)(cY:X.N[n]?=some x:=by rfl)(bK:qw X.env.scope x:=by first | exact Or.inl rfl | exact Or.inr (Or.inl rfl) | exact Or.inr (Or.inr rfl))
 (hd:(x==("__debug__" : Str))=false:=by decide) (g8:(x==("__classdict__" : Str))=false:=by decide) (aB:(e::aw).all fj=true:=by rfl):b0 X (.Call (.Name x p) (e::aw) [] pos) (RW n name qual st fr vals d2 t):=by
 obtain ⟨ca,cw,cy⟩:=au.run;have h:=aB;rw [j5,g7] at h;refine ⟨_,⟨RU RY.ok ap aC cY bK cw.run hd g8 (hD h.1) (q7 h.2)⟩,λ ρ G ax σ H Q B q F=>?_⟩;obtain ⟨f,nv,aE,q⟩:=q;obtain ⟨v,af,ao⟩:=B.st n _ nv;cases ao;obtain ⟨cl,cD,C,fx,Bl⟩:=B.bX f _ aE;exact ⟨cD,f,cl,af,C,fx,cy ρ G _ σ H _ B q λ ds av vs H1 g1 al _ ⟨_,dH⟩=>⟨g1.gD C,ds,av,ax,al,Bl.mono g1.tup,g1.bX,dH,F.after g1⟩⟩
end
theorem Bm{p:Prop}(c:false=true):p:=nomatch c
theorem Bn{p:Prop}(c:true=false):p:=nomatch c
section
variable{K:a6}{H ai:ar}
mutual
theorem cV.js(dF:∀ a xs,dD K H a xs->dD K ai a xs)(fr:∀ a xs,ko K H a xs->ko K ai a xs):∀{d:D}{v:V},cV K H d v->cV K ai d v
 | .br,_,r=>r
 | .aO _,_,r=>r
 | .int _,_,r=>r
 | .str _,_,r=>r
 | .ref _,_,r=>r
 | .ty _,_,r=>r
 | .tup _,_,⟨a,vs,e,q,l⟩=>⟨a,vs,e,dF a vs q,b_.js dF fr l⟩
 | .ey _,_,⟨a,vs,e,q,l⟩=>⟨a,vs,e,fr a vs q,b_.js dF fr l⟩
theorem b_.js(dF:∀ a xs,dD K H a xs->dD K ai a xs)(fr:∀ a xs,ko K H a xs->ko K ai a xs):∀{ds:List D}{vs:List V},b_ K H ds vs->b_ K ai ds vs
 | [],_,r=>r
 | _::_,_,⟨v,r,e,q,l⟩=>⟨v,r,e,cV.js dF fr q,b_.js dF fr l⟩
end
def ek.rJ:ek->Bool
 | .lst _=>true
 | .ins _ _=>true
 | .eD _=>true
 | .hx _=>true
 | .sT _=>true
 | _=>false
theorem mC.js{a:Addr}{o:ek}(dF:∀ a xs,dD K H a xs->dD K ai a xs)(fr:∀ a xs,ko K H a xs->ko K ai a xs)(bb:o.rJ=true)(e:ai a=H a)(h:mC K H a o):mC K ai a o:=by
 cases o with
 | lst ds=>obtain ⟨vs,q,l⟩:=h;exact ⟨vs,by rw [e];exact q,l.js dF fr⟩
 | ins C fs=>obtain ⟨bT,gs,q,l⟩:=h;exact ⟨bT,gs,by rw [e];exact q,l.1,l.2.js dF fr⟩
 | eD kvs=>obtain ⟨gs,q,l⟩:=h;exact ⟨gs,by rw [e];exact q,l.1,l.2.js dF fr⟩
 | hx kvs=>obtain ⟨gs,q,l⟩:=h;exact ⟨gs,by rw [e];exact q,l.1,l.2.js dF fr⟩
 | sT kvs=>obtain ⟨o,gs,q,l⟩:=h;exact ⟨o,gs,by rw [e];exact q,l.1,l.2.js dF fr⟩
 | _=>cases bb
theorem mC.RZ{a:Addr}{o:ek}(bb:o.rJ=true)(h:mC K H a o){u:Obj}(e:H a=gb (gg u)):False:=by
 cases o with
 | lst ds=>obtain ⟨vs,q,l⟩:=h;rw [e] at q;cases q
 | ins C fs=>obtain ⟨bT,gs,q,l⟩:=h;rw [e] at q;cases q
 | eD kvs=>obtain ⟨gs,q,l⟩:=h;rw [e] at q;cases q
 | hx kvs=>obtain ⟨gs,q,l⟩:=h;rw [e] at q;cases q
 | sT kvs=>obtain ⟨o,gs,q,l⟩:=h;rw [e] at q;simp [gg] at q
 | _=>cases bb
theorem ml.mono(h:ml H ai):jM K H ai:=⟨λ b xs q=>by
 rcases q with q | q
 ·rcases q with q | ⟨o,q⟩
  ·exact .inl (.inl (h _ _ q))
  ·exact .inl (.inr ⟨o,h _ _ q⟩)
 ·exact .inr q,λ b xs q=>by
 rcases q with ⟨o,q⟩ | q
 ·exact .inl ⟨o,h _ _ q⟩
 ·exact .inr q,λ b o q=>h _ _ q⟩
theorem rK{as:List Addr}(dA:pK H as):∀ a xs,dD K H a xs->dD K (less H as) a xs:=λ a xs q=>by
 have out:∀ {u},H a=some u->(∀ o,u≠gg o)->less H as a=some u:=λ{u} e n=>by
  rw [hF λ z=>?_];exact e;obtain ⟨o,z⟩:=dA a z;rw [e] at z;exact n o (gb.inj z)
 rcases q with (q | ⟨o,q⟩) | q
 ·exact .inl (.inl (out q λ o z=>nomatch z))
 ·exact .inl (.inr ⟨o,out q λ o z=>nomatch z⟩)
 ·exact .inr q
theorem rL{as:List Addr}(dA:pK H as):∀ a xs,ko K H a xs->ko K (less H as) a xs:=λ a xs q=>by
 rcases q with ⟨o,q⟩ | q
 ·refine .inl ⟨o,?_⟩;rw [hF λ z=>?_];exact q;obtain ⟨o,z⟩:=dA a z;rw [q] at z;cases z
 ·exact .inr q
end
def Hp(sc:e4)(N:List Str)(fn:Str->Bool)(fr:List Str)(ix:List Nat):Bool:=
 ix.length==fr.length&&(lu fr.length).all λ i=>match fr[i]?,ix[i]? with
  | some y,some j=>N[j]?==some y&&sc.names.lookup y==some .cell&&fn y
  | _,_=>false
section
variable{X:a4}{e:a8}{aw:List a8}{t:gx}{p pos:Pos}
abbrev R0(env:Env)(name qual:Str)(st:bE)(fr:List Str)(ix:List Nat)(d2:di)(t:gx):cB:=λ ρ G Q=>t ρ G λ ds av=>∃ f vals,av f=some (.made env name qual st fr)/\vals.length=fr.length ∧
 (∀(i j:Nat),ix[i]?=some j->∃ d,ρ[j]?=some (some d)/\vals[i]?=some d)/\d2 ds (up av f (.mB name qual st fr vals)) λ d aU=>aU=up av f (.mB name qual st fr vals)/\Q d av
theorem R1{k j:Nat}{x:Str}{ps:List Str}{d2:di}{name qual:Str}{st:bE}{fr:List Str}{ix:List Nat}(Gt:Got X.prog X.w X.K X.mg X.base k x ps (aT X.K d2))(ap:eG j X.A)(aC:k<=j)(a0:eF X x)(Aw:fr.Nodup)(hS:Hp X.env.scope X.N X.fn fr ix=true)(au:iE X (e::aw) t)
 (gd:(x==("__debug__" : Str))=false:=by decide) (aB:(e::aw).all fj=true:=by rfl):b0 X (.Call (.Name x p) (e::aw) [] pos) (R0 X.env name qual st fr ix d2 t):=by
 obtain ⟨ca,cw,cy⟩:=au.run;have h:=aB;rw [j5,g7] at h;unfold Hp at hS;rw [g7,List.all_eq_true] at hS
 have Ax:ix.length=fr.length:=by simpa using hS.1
 have Ay:∀(i:Nat)(y:Str),fr[i]?=some y->∃ j,ix[i]?=some j/\X.N[j]?=some y/\X.env.scope.names.lookup y=some .cell/\X.fn y=true:=λ i y aQ=>by
  have lt:i < fr.length:=(kI.mp aQ).1;have z:=hS.2 i (wN.mpr lt);have Hq:ix[i]?=some (ix[i]'(by omega)):=hk (by omega);rw [aQ,Hq] at z;simp only [g7,beq_iff_eq] at z;exact ⟨_,Hq,z.1.1,z.1.2,z.2⟩
 refine ⟨_,⟨P4 (name:=name) (qual:=qual) (st:=st) (ix:=ix) Gt ap aC a0 cw.run gd Aw Ax Ay (hD h.1) (q7 h.2)⟩,λ ρ G ax σ H Q B q F=>?_⟩;refine cy ρ G _ σ H _ B q λ ds av vs H1 g1 al _ aE=>?_;obtain ⟨f,vals,hf,Zc,Bl,bu⟩:=aE;have M:sO X.env H1 f name qual st fr:=g1.bX f _ hf
 let cD:List V:=ix.map λ j=>match σ[j]? with
  | some (some v)=>v
  | _=>.br
 have Hr:∀(i j:Nat),ix[i]?=some j->∃ d v,ρ[j]?=some (some d)/\vals[i]?=some d/\σ[j]?=some (some v)/\cD[i]?=some v/\cV X.K H1 d v:=λ i j d4=>by
  obtain ⟨d,af,ao⟩:=Bl i j d4;obtain ⟨v,aF,cn⟩:=B.st j d af;refine ⟨d,v,af,ao,aF,?_,cn.mono g1.tup⟩;show (ix.map _)[i]?=_;rw [gT,d4];simp only [m3,aF]
 have R2:b_ X.K H1 vals cD:=by
  have key:∀(n:Nat)(ws:List D)(us:List V),ws.length=n->us.length=n->(∀(i:Nat)(d:D),ws[i]?=some d->∃ v:V,us[i]?=some v/\cV X.K H1 d v)->b_ X.K H1 ws us:=λ n=>by
   induction n with
   | zero=>intro ws us af ao _;cases ws<;>cases us<;>simp_all [b_]
   | succ n bL=>
    intro ws us af ao gF
    cases ws with
    | nil=>simp at af
    | cons w ws=>
     cases us with
     | nil=>simp at ao
     | cons u us=>
      obtain ⟨v,az,aW⟩:=gF 0 w rfl;cases az;exact ⟨u,us,rfl,aW,bL ws us (by simpa using af) (by simpa using ao) λ i d hd=>by simpa using gF (i+1) d (by simpa using hd)⟩
  refine key vals.length vals cD rfl (by show (ix.map _).length=_;rw [b3];omega) λ i d hd=>?_
  have lt:i < ix.length:=by have:=(kI.mp hd).1;omega
  obtain ⟨d',v,_,ao,_,cn,d1⟩:=Hr i ix[i] (hk lt);rw [hd] at ao;cases ao;exact ⟨v,cn,d1⟩
 refine ⟨f,cD,M,λ i j d4=>let ⟨d,v,_,_,aF,cn,_⟩:=Hr i j d4;⟨v,aF,cn⟩,by show (ix.map _).length=_;rw [b3];exact Ax,λ aK out no C=>?_⟩
 have yC:ml H1 aK:=λ b u g_=>by
  rw [out b λ z=>?_];exact g_;rw [no b z] at g_;cases g_
 have tf:jM X.K H1 aK:=ml.mono yC
 have v2:eH X.K (up av f (.mB name qual st fr vals)) aK:=λ a o dJ=>by
  by_cases z:a=f
  ·subst z;rw [aG] at dJ;cases dJ;refine ⟨_,cD,C,?_,R2.mono tf⟩;rw [fQ,h5];exact List.map_id fr
  ·rw [bv z] at dJ;obtain ⟨u,vA⟩:=(g1.bX a o dJ).some;exact (g1.bX a o dJ).mono tf (by rw [vA];exact yC a u vA)
 refine ⟨ds,_,_,by rw [show vs=vs from rfl];exact al.mono tf,v2,bu,λ d aU v ai g2 ad bn=>?_⟩;obtain ⟨rfl,bn⟩:=bn;have R3:pK aK ((fQ X.env fr).map (·.2)):=C.gD
 have tg:pK ai ((fQ X.env fr).map (·.2)):=λ a au=>let ⟨o,z⟩:=R3 a au;⟨o,g2.tup.dA a o z⟩
 have vB:∀ {b u},H1 b=some u->b ∉ (fQ X.env fr).map (·.2):=λ{b u} g_ z=>by rw [no b z] at g_;cases g_
 have cu:jM X.K H1 (less ai ((fQ X.env fr).map (·.2))):=⟨λ a xs q=>rK tg a xs (g2.tup.dF a xs (tf.dF a xs q)),λ a xs q=>rL tg a xs (g2.tup.fr a xs (tf.fr a xs q)),λ a o q=>by rw [hF (vB q)];exact g2.tup.dA a o (tf.dA a o q)⟩
 refine F d av v _ (g1.trans ⟨cu,λ a o dJ=>?_,λ a o dJ n=>?_,λ _ _ _ n=>n,λ a o dJ=>?_⟩) (ad.js (rK tg) (rL tg)) bn
 ·rw [hF (vB dJ)];exact g2.jk a o (yC a o dJ)
 ·rw [hF (vB dJ)];refine g2.same a o (yC a o dJ) ?_;rw [bv (by rintro rfl;rw [hf] at n;cases n)];exact n
 ·have cv:=g1.bX a o dJ;obtain ⟨u,vA⟩:=cv.some;by_cases bb:o.rJ=true
  ·have z:a≠f:=by rintro rfl;rw [hf] at dJ;cases dJ;cases bb
   exact (g2.bX a o (by rw [bv z];exact dJ)).js (rK tg) (rL tg) bb (hF (vB vA))
  ·cases o with
   | made R4 Hs yD iU Ht=>
    obtain ⟨_,_,_,_,_,_,_,z,_⟩:=(show sO R4 H1 a Hs yD iU Ht from cv).fn;exact cv.mono cu (by rw [z];exact cu.dA _ _ z)
   | mB Hs yD iU Ht Zd=>
    obtain ⟨cl,us,yE,_⟩:=id cv;obtain ⟨_,_,_,_,_,_,_,z,_⟩:=yE.fn;exact cv.mono cu (by rw [z];exact cu.dA _ _ z)
   | tab pos' yD=>
    have z:a≠f:=by rintro rfl;rw [hf] at dJ;cases dJ
    obtain ⟨Hn,t1,cR,t3⟩:=g2.bX a (.tab pos' yD) (by rw [bv z];exact dJ);refine ⟨Hn,by rw [hF (vB vA)];exact t1,cR,?_⟩;rcases t3 with t3 | ⟨c,o,us,tt,t3,mG,th,R5⟩
    ·exact .inl t3
    ·refine .inr ⟨c,o,us,tt,t3,?_,th,R5⟩;rw [hF λ R6=>?_];exact mG;obtain ⟨⟨y,c'⟩,hm,aJ⟩:=h4.mp R6;cases aJ;obtain ⟨i,aA,yF⟩:=sn hm;obtain ⟨_,_,dX,_,_,dg,hc⟩:=C.cells i y c' (by rw [hk aA,yF]);have nM:=g2.tup.dA _ _ dg;rw [mG] at nM;cases nM;rw [th] at hc;cases hc
   | _=>exact absurd rfl bb
end
def kv(G:aH):aH:=λ a=>match G a with
 | some o=>if o.rJ then some o else none
 | none=>none
theorem yG{G:aH}{a:Addr}{o:ek}:kv G a=some o ↔ G a=some o/\o.rJ=true:=by
 unfold kv
 cases e:G a with
 | none=>simp
 | some u=>
  by_cases h:u.rJ=true
  ·simp only [h,if_true,gb.injEq];exact ⟨λ z=>(by subst z;exact ⟨rfl,h⟩),λ z=>z.1⟩
  ·simp only [if_neg h];exact ⟨λ z=>(by cases z),λ z=>(by rw [gb.inj z.1] at h;exact absurd z.2 h)⟩
def vC(N:List Str)(ds vals:List D):eM:=ds.map some++mZ (N.length - ds.length - vals.length) none++vals.map some
theorem R7{K:a6}{N:List Str}{ds vals:List D}{vs cD:List V}{G:aH}{H:ar}(r:b_ K H ds vs)(bB:b_ K H vals cD)(v:eH K G H):dU K (vC N ds vals) G (mz N vs cD) H:=by
 have aP:=r.len;have kY:=bB.len
 have one:∀{ws:List D}{us:List V}{i:Nat}{d:D},b_ K H ws us->(ws.map some)[i]?=some (some d)->∃ v,(us.map some)[i]?=some (some v)/\cV K H d v:=λ{ws us i d} r h=>by
  rw [gT] at h
  cases e:ws[i]? with
  | none=>rw [e] at h;cases h
  | some z=>
   rw [e] at h;simp at h;subst h;obtain ⟨u,af,ao⟩:=r.get e;exact ⟨u,by rw [gT,af];rfl,ao⟩
 refine ⟨by simp [vC,mz,aP,kY],λ i d h=>?_,v⟩;unfold vC at h;unfold mz;rw [aP,kY];by_cases c:i < (ds.map some++mZ (N.length - ds.length - vals.length) (none:Option D)).length
 ·rw [lZ c] at h;rw [lZ (by simpa [aP] using c)];by_cases c2:i < (ds.map (some:D->Option D)).length
  ·rw [lZ c2] at h;rw [lZ (by simpa [aP] using c2)];exact one r h
  ·rw [n3 (by omega),sm] at h;split at h<;>cases h
 ·rw [n3 (by omega)] at h;rw [n3 (by simpa [aP] using c)]
  have az:(ds.map some++mZ (N.length - ds.length - vals.length) (none:Option D)).length=(vs.map some++mZ (N.length - ds.length - vals.length) (none:Option V)).length:=by simp [aP]
  rw [<- az];exact one bB h
theorem R8{P:c8}{w:cG}{K:a6}{mg:Str->Option Value}{base:b2}{k:Nat}{name qual:Str}{st:bE}{fr N ps:List Str}{vals:List D}{d2:di}(S:xT N ps fr (cp st))(len:∀ ds G ax,d2 ds G ax->ds.length=ps.length)
 (u0:∀(cl:List (Str × Addr))(doc pm bP ct:Value)(us:List Value),us.length=ps.length->bindArgs (w2 name qual (kh st) (hC st) (cp st) cl .none .none doc pm none bP ct) ⟨us,[]⟩=pure (ps.zip us))
 (kW:∀(f:Addr)(bP:Value)(cl:List (Str × Addr))(A:d6)(outer:List Env)(s:aM)(H:ar),eG k (A.deeper (t_ qual (cp st) s.heap.objs.size f bP cl))->∀(ds:List D)(G:aH)(ax:da),d2 ds G ax →
  ∃ t,mD (rg P w K mg base N qual (cp st) f bP cl A outer s H) (hC st) t/\t { nx:=λ _ ak=>Sub (kv G) ak/\ax .br G,rt:=λ d ak=>Sub (kv G) ak/\ax d G } (vC N ds vals) (kv G)):yB P w K mg base (k+1) name qual st fr vals ps d2:=by
 refine ⟨λ cD=>P0 S (λ vs H Q E h=>?_) u0 λ f bP cl A outer s H vs Q E ap fx dA jg=>?_⟩
 ·obtain ⟨ds,G,ax,r,_,_,h,_⟩:=h;rw [r.len];exact len ds G ax h
 ·obtain ⟨ds,G,ax,r,bB,v,h,rB⟩:=jg;obtain ⟨t,⟨bf,j,imp⟩,q⟩:=kW f bP cl A outer s (less H (cl.map (·.2))) ap ds G ax h
  have v0:eH K (kv G) (less H (cl.map (·.2))):=λ a o e=>by
   obtain ⟨az,bb⟩:=yG.mp e;refine (v a o az).js (rK dA) (rL dA) bb (hF λ z=>?_);obtain ⟨u,z⟩:=dA a z;exact (v a o az).RZ bb z
  have fin:∀ {d ak v ai},Go K (kv G) (less H (cl.map (·.2))) ak ai->cV K ai d v->Sub (kv G) ak/\ax d G->(∀ a∈cl.map (·.2),ai a=none)->Q v (more ai (cl.map (·.2)) H):=λ{d ak u ai} g ad q no=>by
   have yk:ml ai (more ai (cl.map (·.2)) H):=λ b u g_=>by
    rw [nA λ z=>?_];exact g_;rw [no b z] at g_;cases g_
   have vD:jM K ai (more ai (cl.map (·.2)) H):=ml.mono yk
   have m:jM K H (more ai (cl.map (·.2)) H):=⟨λ a xs q=>vD.dF a xs (g.tup.dF a xs (rK dA a xs q)),λ a xs q=>vD.fr a xs (g.tup.fr a xs (rL dA a xs q)),λ a o q=>by
    by_cases z:a∈cl.map (·.2)
    ·rw [uY z];exact q
    ·exact vD.dA a o (g.tup.dA a o (by rw [hF z];exact q))⟩
   have same:∀ a o,H a=some o->kv G a=none->more ai (cl.map (·.2)) H a=some o:=λ a o e n=>by
    by_cases z:a∈cl.map (·.2)
    ·rw [uY z];exact e
    ·rw [nA z];exact g.same a o (by rw [hF z];exact e) n
   refine rB d G u _ ⟨m,λ a o e=>?_,λ a o e n=>same a o e ?_,λ _ _ _ n=>n,λ a o e=>?_⟩ (ad.mono vD) q.2
   ·by_cases z:a∈cl.map (·.2)
    ·rw [uY z];exact ⟨o,e⟩
    ·rw [nA z];exact g.jk a o (by rw [hF z];exact e)
   ·unfold kv;rw [n]
   ·by_cases bb:o.rJ=true
    ·have b:=g.bX a o (q.1 a o (yG.mpr ⟨e,bb⟩));obtain ⟨x,ex⟩:=b.some;exact b.mono vD (by rw [ex];exact yk a x ex)
    ·obtain ⟨x,ex⟩:=(v a o e).some;refine (v a o e).mono m ?_;rw [ex];refine same a x ex ?_
     cases z:kv G a with
     | none=>rfl
     | some y=>
      obtain ⟨bF,bU⟩:=yG.mp z;rw [e] at bF;cases bF;exact absurd bU bb
  refine ⟨bf,j.run,imp _ _ (vC N ds vals) (kv G) (mz N vs cD) _ (R7 (r.js (rK dA) (rL dA)) (bB.js (rK dA) (rL dA)) v0) q ⟨λ ρ' ak σ' ai g b z no=>fin (d:=.br) (v:=.br) g rfl z no,λ d ak v ai g a z no=>fin g a z no,λ _ _ _ _ _ _ z=>z.elim,λ _ _ _ _ _ _ z=>z.elim⟩⟩
structure vE(K:a6)(x qual:Str)(st:bE)(f:Addr)(fd:gA)(c:Addr):Prop where
 ex:∃(dX:Value)(dC:Option Addr)(ei doc pm:Value)(an:Option Addr)(ct:Value)(hB:Array (Option Value)),
  fd=lx x qual (kh st) (hC st) (cp st) .none ei doc pm an (.ref c) ct/\K.lookup f=some ⟨dX,dC,.func fd,hB⟩/\pf K (.ref c) qual=true
theorem R9{P:c8}{w:cG}{K:a6}{mg:Str->Option Value}{base:b2}{x qual:Str}{st:bE}{f c:Addr}{fd:gA}{N ps:List Str}{k:Nat}{d2:di}(F:vE K x qual st f fd c)(S:d0 N ps (cp st))(len:∀ ds G ax,d2 ds G ax->ds.length=ps.length)
 (kW:∀(A:d6)(outer:List Env)(s:aM)(H:ar)(E:h8),eG k (A.deeper (PyProof.Rows.envOfC qual (cp st) s.heap.objs.size f (.ref c)))->∀(ds:List D)(G:aH)(ax:da),d2 ds G ax →
  ∃ t,mD (ob cQ P w K mg base N qual (cp st) f (.ref c) A outer s H E).pv (hC st) t/\t { nx:=λ _ ak=>bp ax .br ak,rt:=bp ax } (rA N ds) G):cO P w K mg base cQ (k+1) f fd ps (aT K d2):=by
 obtain ⟨dX,dC,ei,doc,pm,an,ct,hB,rfl,lk,g8⟩:=F.ex;refine Fe lk g8 S (λ vs H Q E h=>?_) λ A outer s H vs Q E ap h=>?_
 ·obtain ⟨ds,G,ax,r,_,h,_⟩:=h;rw [r.len];exact len ds G ax h
 ·obtain ⟨ds,G,ax,r,v,h,rB⟩:=h;obtain ⟨t,⟨bf,j,imp⟩,q⟩:=kW A outer s H E ap ds G ax h;refine ⟨bf,(j.run).pv,imp _ _ (rA N ds) G (L2.kf N vs) H (Hc r v) q ⟨λ ρ' ak σ' ai g b ⟨aU,s2,bu⟩=>rB .br aU .br ai (g.sub s2) rfl bu,λ d ak v ai g a ⟨aU,s2,bu⟩=>rB d aU v ai (g.sub s2) a bu,λ _ _ _ _ _ _ z=>z.elim,λ _ _ _ _ _ _ z=>z.elim⟩⟩
def Tm.cq:Tm->Nat->Nat
 | .way _,w=>w+1
 | _,w=>w
def Tm.d_(φ:Nat->Nat->Tm):Nat->Tm->Tm
 | w,.name n=>φ n w
 | _,.whole k=>.whole k
 | w,.way t=>.way (t.d_ φ (w+1))
 | w,.give t u=>.give (t.d_ φ w) (u.d_ φ w)
 | w,.pair t u=>.pair (t.d_ φ w) (u.d_ φ w)
 | w,.first t=>.first (t.d_ φ w)
 | w,.second t=>.second (t.d_ φ w)
 | w,.plus t u=>.plus (t.d_ φ w) (u.d_ φ w)
 | w,.look t u v=>.look (t.d_ φ w) (u.d_ φ w) (v.d_ φ w)
def Tm.dn:Nat->Tm->List (Nat × Nat)
 | w,.name n=>[(n,w)]
 | _,.whole _=>[]
 | w,.way t=>t.dn (w+1)
 | w,.give t u=>u.dn w++t.dn w
 | w,.pair t u=>u.dn w++t.dn w
 | w,.first t=>t.dn w
 | w,.second t=>t.dn w
 | w,.plus t u=>u.dn w++t.dn w
 | w,.look t u v=>v.dn w++(u.dn w++t.dn w)
def Tm.leaf:Tm->Bool
 | .name _=>true
 | .whole _=>true
 | _=>false
theorem Tm.pU{t:Tm}(h:t.leaf=false)(w:Nat):t.dn w=t.aL.reverse.flatMap (λ u=>u.dn (t.cq w)):=by
 cases t<;>simp [Tm.dn,Tm.aL,Tm.cq,Tm.leaf] at h ⊢
theorem Tm.rM{t u:Tm}(h:t.leaf=false)(bx:u∈t.aL){w:Nat}{z:Nat × Nat}(hz:z∈u.dn (t.cq w)):z∈t.dn w:=by
 rw [Tm.pU h];exact List.mem_flatMap.mpr ⟨u,kL.mpr bx,hz⟩
theorem Tm.Bo(t:Tm):∀ w,(t.dn w).length<=t.aR:=by
 induction t<;>intro w<;>simp only [Tm.dn,Tm.aR,hN,eb,hu]<;>first | omega | skip
 case way t bL=>have:=bL (w+1);omega
 case give t u bq bM=>have:=bq w;have:=bM w;omega
 case pair t u bq bM=>have:=bq w;have:=bM w;omega
 case first t bL=>have:=bL w;omega
 case second t bL=>have:=bL w;omega
 case plus t u bq bM=>have:=bq w;have:=bM w;omega
 case look t u v bq bM rN=>have:=bq w;have:=bM w;have:=rN w;omega
def Tm.k9:Tm->List Tm->Tm
 | .way _,[a]=>.way a
 | .give _ _,[a,b]=>.give a b
 | .pair _ _,[a,b]=>.pair a b
 | .first _,[a]=>.first a
 | .second _,[a]=>.second a
 | .plus _ _,[a,b]=>.plus a b
 | .look _ _ _,[a,b,c]=>.look a b c
 | t,_=>t
theorem Tm.Hu{φ:Nat->Nat->Tm}{t:Tm}(h:t.leaf=false)(w:Nat):t.d_ φ w=t.k9 (t.aL.map λ u=>u.d_ φ (t.cq w)):=by
 cases t<;>first | rfl | cases h
theorem Tm.pV{t:Tm}{cs:List Tm}(h:t.leaf=false)(aP:cs.length=t.aL.length):(t.k9 cs).enc=.tup (.str t.word::cs.map Tm.enc):=by
 cases t<;>simp only [Tm.leaf,reduceCtorEq] at h<;>simp only [Tm.aL,eb,hu] at aP
 all_goals (rcases cs with _ | ⟨a,_ | ⟨b,_ | ⟨c,_ | ⟨d,r⟩⟩⟩⟩<;>simp at aP<;>rfl)
abbrev Ent:=Tm × Nat × Bool
def ed(z:Ent):D:=.tup [z.1.enc,.int z.2.1,.aO z.2.2]
def Bp(φ:Nat->Nat->Tm)(z:Ent)(m:List Tm):Option (List Tm):=match z.1 with
 | .name n=>some (φ n z.2.1::m)
 | .whole k=>some (.whole k::m)
 | t=>if z.2.2 then (if t.aL.length<=m.length then some (t.k9 (m.take t.aL.length)::m.drop t.aL.length) else none) else some (t.d_ φ z.2.1::m)
def i1(φ:Nat->Nat->Tm):List Ent->List Tm->Option (List Tm)
 | [],m=>some m
 | z::zs,m=>match Bp φ z m with
  | some cu=>i1 φ zs cu
  | none=>none
theorem Bq{φ:Nat->Nat->Tm}(t:Tm)(w:Nat)(m:List Tm):Bp φ (t,w,false) m=some (t.d_ φ w::m):=by cases t<;>rfl
theorem pW{φ:Nat->Nat->Tm}{t:Tm}(h:t.leaf=false)(w:Nat)(m:List Tm):Bp φ (t,w,true) m=if t.aL.length<=m.length then some (t.k9 (m.take t.aL.length)::m.drop t.aL.length) else none:=by
 cases t<;>first | rfl | cases h
theorem Hv{φ:Nat->Nat->Tm}{w:Nat}{zs:List Ent}:∀(xs:List Tm)(m:List Tm),i1 φ (xs.map (λ u=>(u,w,false))++zs) m=i1 φ zs ((xs.map λ u=>u.d_ φ w).reverse++m)
 | [],m=>rfl
 | x::xs,m=>by
  rw [eC,wS,i1,Bq];simp only [];rw [Hv xs];simp
theorem rO{φ:Nat->Nat->Tm}{t:Tm}(h:t.leaf=false)(w:Nat)(zs:List Ent)(m:List Tm):i1 φ ((t.aL.map λ u=>((u,t.cq w,false):Ent)).reverse++(t,w,true)::zs) m=i1 φ ((t,w,false)::zs) m:=by
 rw [<- c_,Hv,i1,i1,Bq,pW h];rw [c_,List.reverse_reverse,if_pos (by simp)];simp only [b3,List.take_left',List.drop_left',Tm.Hu h]
def f5(z:Ent):Nat:=if z.2.2 then 1 else 2 * z.1.aR
def fo(zs:List Ent):Nat:=(zs.map f5).sum
theorem nN(z:Ent)(zs:List Ent):fo (z::zs)=f5 z+fo zs:=by simp [fo]
theorem pX(w:Nat)(zs:List Ent):∀ xs:List Tm,fo (xs.map (λ u=>((u,w,false):Ent))++zs)=2 * (xs.map Tm.aR).sum+fo zs
 | []=>by simp
 | x::xs=>by rw [eC,wS,nN,pX w zs xs,eC,List.sum_cons];simp only [f5];simp;omega
theorem Hw:∀ zs:List Ent,zs.length<=fo zs
 | []=>f9 _
 | z::zs=>by
  have:=Hw zs;have:=z.1.tc
  have h:1<=f5 z:=by unfold f5;split<;>omega
  rw [nN,eb];omega
theorem Tm.rP{t:Tm}(h:t.leaf=false):(t.aL.map Tm.aR).sum+1=t.aR:=by
 cases t<;>simp [Tm.aL,Tm.aR,Tm.leaf] at h ⊢<;>omega
def yH:di:=λ ds G Q=>∃(t:Tm)(w:Nat),ds=[t.enc,.int w]/\Q (.int (t.cq w:Nat)) G
def jt(z:Nat × Nat):D:=.tup [.int z.1,.int z.2]
def Br:di:=λ ds G Q=>∃ t:Tm,ds=[t.enc]/\t.aR<=10000/\∀ l,G l=none->Q (.ref l) (up G l (.lst ((t.dn 0).map jt)))
def Hx(φ:Nat->Nat->Tm)(C:Nat->Nat->Prop)(L:List (Addr × ek)):di:=λ ds G Q=>∃ n w:Nat,ds=[.int n,.int w]/\C n w/\(∀ q∈L,G q.1=some q.2)/\Q (φ n w).enc G
def Bs(P:c8)(w:cG)(K:a6)(mg:Str->Option Value)(base:b2)(k:Nat):di:=λ ds G Q=>∃(t:Tm)(f:Addr)(name qual:Str)(st:bE)(fr:List Str)(vals:List D)(ps:List Str)(φ:Nat->Nat->Tm)(C:Nat->Nat->Prop)(L:List (Addr × ek)),
 ds=[t.enc,.ref f]/\G f=some (.mB name qual st fr vals)/\yB P w K mg base k name qual st fr vals ps (Hx φ C L)/\(∀ q∈L,G q.1=some q.2)/\t.aR<=10000/\(∀ z∈t.dn 0,C z.1 z.2)/\Q (t.d_ φ 0).enc G
def vF:bE->Pos
 | .FunctionDef _ _ _ _ _ _ _ _ _ p=>p
 | _=>⟨0,0,0,0⟩
def fG(z:Tm × Nat):D:=.tup [z.1.enc,.int z.2]
def iM(zs:List (Tm × Nat)):Nat:=(zs.map λ z=>z.1.aR).sum
theorem Bt(z:Tm × Nat)(zs:List (Tm × Nat)):iM (z::zs)=z.1.aR+iM zs:=by simp [iM]
theorem iq(w:Nat)(zs:List (Tm × Nat)):∀ xs:List Tm,iM (xs.map (λ u=>(u,w))++zs)=(xs.map Tm.aR).sum+iM zs
 | []=>by simp
 | x::xs=>by rw [eC,wS,Bt,iq w zs xs,eC,List.sum_cons];simp only [];omega
theorem Hy:∀ zs:List (Tm × Nat),zs.length<=iM zs
 | []=>f9 _
 | z::zs=>by
  have:=Hy zs;have:=z.1.tc;rw [Bt,eb];omega
theorem Tm.iN(t:Tm):(t.aL.map Tm.aR).sum+1<=t.aR:=by cases t<;>simp [Tm.aL,Tm.aR]<;>omega
section
variable{K:a6}{H:ar}
def mH(f:Str)(v:D):List (Str × D)->List (Str × D)
 | []=>[(f,v)]
 | (g,x)::r=>if g=f then (g,v)::r else (g,x)::mH f v r
theorem yI(f:Str)(v:D):∀ fs:List (Str × D),(mH f v fs).length<=fs.length+1
 | []=>b7 _
 | (g,x)::r=>by
  have:=yI f v r;unfold mH;split<;>simp only [eb]<;>omega
theorem fk.lookup{f:Str}{d:D}:∀{fs:List (Str × D)}{gs:List (Str × V)},fk K H fs gs->fs.lookup f=some d->∃ v,gs.lookup f=some v/\cV K H d v
 | [],_,_,e=>by cases e
 | (x,y)::r,[],⟨h,_⟩,_=>by cases h
 | (x,y)::r,(oL,xX)::s,⟨af,ao⟩,e=>by
  simp only [eC,List.cons.injEq] at af;obtain ⟨v,us,az,a1,a2⟩:=ao;simp only [eC,List.cons.injEq] at az;obtain ⟨rfl,af⟩:=af;obtain ⟨rfl,rfl⟩:=az;rw [l1] at e ⊢
  cases c:(f==x) with
  | true=>rw [c] at e;cases e;exact ⟨_,rfl,a1⟩
  | false=>rw [c] at e;exact fk.lookup (fs:=r) (gs:=s) ⟨af,a2⟩ e
theorem fk.none{f:Str}:∀{fs:List (Str × D)}{gs:List (Str × V)},fk K H fs gs->fs.lookup f=none->gs.lookup f=none
 | [],[],_,_=>rfl
 | [],_::_,⟨h,_⟩,_=>by cases h
 | (x,y)::r,[],⟨h,_⟩,_=>by cases h
 | (x,y)::r,(oL,xX)::s,⟨af,ao⟩,e=>by
  simp only [eC,List.cons.injEq] at af;obtain ⟨v,us,az,a1,a2⟩:=ao;simp only [eC,List.cons.injEq] at az;obtain ⟨rfl,af⟩:=af;obtain ⟨rfl,rfl⟩:=az;rw [l1] at e ⊢
  cases c:(f==x) with
  | true=>rw [c] at e;cases e
  | false=>rw [c] at e;exact fk.none (fs:=r) (gs:=s) ⟨af,a2⟩ e
theorem fk.len{fs:List (Str × D)}{gs:List (Str × V)}(h:fk K H fs gs):gs.length=fs.length:=by
 have:=congrArg n2 h.1;simpa using this.symm
theorem fk.put{f:Str}{d:D}{v:V}(hd:cV K H d v):∀{fs:List (Str × D)}{gs:List (Str × V)},fk K H fs gs->fk K H (mH f d fs) (ie f v gs)
 | [],[],_=>⟨rfl,v,[],rfl,hd,rfl⟩
 | [],_::_,⟨h,_⟩=>by cases h
 | (x,y)::r,[],⟨h,_⟩=>by cases h
 | (x,y)::r,(oL,xX)::s,⟨af,ao⟩=>by
  simp only [eC,List.cons.injEq] at af;obtain ⟨u,us,az,a1,a2⟩:=ao;simp only [eC,List.cons.injEq] at az;obtain ⟨rfl,af⟩:=af;obtain ⟨rfl,rfl⟩:=az;unfold mH ie;by_cases c:x=f
  ·rw [if_pos c,if_pos c];exact ⟨by simp [af],v,_,rfl,hd,a2⟩
  ·rw [if_neg c,if_neg c];obtain ⟨df,cc⟩:=fk.put (f:=f) hd (fs:=r) (gs:=s) ⟨af,a2⟩;exact ⟨by simp [df],_,_,rfl,a1,cc⟩
end
@[irreducible] def nO(G:aH)(a C:Addr)(k:List (Str × D)->Prop):Prop:=match G a with
 | some (.ins yE fs)=>yE=C/\k fs
 | _=>False
theorem bl{G:aH}{a C:Addr}{k:List (Str × D)->Prop}{fs:List (Str × D)}(h:G a=some (.ins C fs))(q:k fs):nO G a C k:=by unfold nO;rw [h];exact ⟨rfl,q⟩
theorem ti{K:a6}{G:aH}{H:ar}{a C:Addr}{k:List (Str × D)->Prop}(v:eH K G H)(h:nO G a C k):∃ fs bT gs,k fs/\G a=some (.ins C fs)/\H a=some (.ins C bT gs)/\fk K H fs gs:=by
 unfold nO at h;split at h
 ·next yE fs e=>
  obtain ⟨rfl,q⟩:=h;obtain ⟨bT,gs,z,r⟩:=v _ _ e;exact ⟨fs,bT,gs,q,e,z,r⟩
 ·exact h.elim
def rQ(fs:List (Str × D))(f:Str)(k:D->Prop):Prop:=match fs.lookup f with
 | some d=>k d
 | none=>False
section
variable{K:a6}{G:aH}{H:ar}
theorem Bu{p C bT:Addr}{gs:List (Str × V)}{o:gU}(h:H p=some (.ins C bT gs)):jM K H (upd H p o):=AH (λ a3=>by rintro (e | ⟨o,e⟩)<;>rw [h] at e<;>cases e) λ _ _ e=>by rw [h] at e;cases e
theorem Go.Hz(v:eH K G H){p C bT:Addr}{R_ fs:List (Str × D)}{Sa gs:List (Str × V)}(h:G p=some (.ins C R_))(aj:H p=some (.ins C bT Sa))(r:fk K H fs gs):Go K G H (up G p (.ins C fs)) (upd H p (.ins C bT gs)) where
 tup:=Bu aj
 jk:=λ a u e=>by
  by_cases c:a=p
  ·subst c;exact ⟨_,fq⟩
  ·exact ⟨u,by rw [cH c];exact e⟩
 same:=λ a u e n=>by
  have c:a≠p:=by rintro rfl;rw [h] at n;cases n
  rw [cH c];exact e
 new:=λ a u e n=>by
  have c:a≠p:=by rintro rfl;rw [h] at n;cases n
  rw [bv c];exact n
 bX:=λ a u e=>by
  by_cases c:a=p
  ·subst c;rw [aG] at e;cases e;exact ⟨bT,gs,fq,r.1,r.2.mono (Bu aj)⟩
  ·rw [bv c] at e;exact (v a u e).mono (Bu aj) (cH c)
theorem Go.Sb(v:eH K G H){x bT C:Addr}(aq:H x=none)(hd:H bT=none)(ne:bT≠x):Go K G H (up G x (.ins C [])) (upd (upd H bT (.own x)) x (.ins C bT [])):=by
 have g1:=Go.nz (o:=.own x) v hd
 have vG:upd H bT (.own x) x=none:=by rw [cH (Ne.symm ne)];exact aq
 refine g1.trans ⟨nD vG,λ a u e=>⟨u,by rw [cH (hP e vG)];exact e⟩,λ a u e _=>by rw [cH (hP e vG)];exact e,λ a u e n=>by rw [bv (hP e vG)];exact n,λ a u e=>?_⟩;by_cases c:a=x
 ·subst c;rw [aG] at e;cases e;exact ⟨bT,[],fq,rfl,rfl⟩
 ·rw [bv c] at e;exact (g1.bX a u e).mono (nD vG) (cH c)
end
section
variable{X:a4}{o e value:a8}{aw:List a8}{f m:Str}{C:Addr}{pos pos' ma apos p:Pos}{a_ fN:cB}{t:gx}
abbrev Sc(C:Addr)(f:Str)(a_:cB):cB:=λ ρ G Q=>a_ ρ G λ x av=>match x with
 | .ref a=>nO av a C λ fs=>rQ fs f λ d=>Q d av
 | _=>False
theorem dQ(c:dI X.K C)(n:cW X.K C f)(au:b0 X e a_)(ag:mV e f X.env (eval e X.env)=eval e X.env:=by rfl):b0 X (.Attribute e f pos) (Sc C f a_):=by
 obtain ⟨ca,cw,cy⟩:=au.run;refine ⟨_,⟨Mt cw.run ag⟩,λ ρ G ax σ H Q B q F=>cy ρ G _ σ H _ B q λ x av v H1 g1 a7 aE=>?_⟩
 cases x with
 | ref a=>
  cases a7;obtain ⟨fs,bT,gs,bu,az,aW,r⟩:=ti g1.bX aE;unfold rQ at bu;split at bu
  ·next d aP=>
   obtain ⟨u,af,ao⟩:=r.lookup aP;exact ⟨a,C,bT,gs,u,rfl,aW,c,n,af,F d av u H1 g1 ao bu⟩
  ·exact bu.elim
 | _=>exact (show False from aE).elim
abbrev Sd(C:Addr)(f:Str)(fN a_:cB):gK:=λ dP ρ G=>fN ρ G λ y av=>a_ ρ av λ x aU=>match x with
 | .ref a=>nO aU a C λ fs=>fs.length < 1000/\dP.nx ρ (up aU a (.ins C (mH f y fs)))
 | _=>False
theorem jV(c:dI X.K C)(n:cW X.K C f)(au:b0 X o a_)(bK:b0 X value fN)(aB:j3 value (some (.Attribute o f pos')) pos.line X.env=pure false:=by rfl):iF X (.Assign [.Attribute o f pos'] value pos) (Sd C f fN a_):=by
 obtain ⟨ca,cw,cy⟩:=au.run;obtain ⟨Ze,Aj,bo⟩:=bK.run;refine ⟨_,⟨Mu cw.run Aj.run aB⟩,λ dP e8 ρ G σ H B q F=>?_⟩;refine bo ρ G _ σ H _ B q λ y av v H1 g1 bh aE=>cy ρ av _ σ H1 _ (B.go g1) aE λ x aU u aK g2 a7 bu=>?_
 cases x with
 | ref a=>
  cases a7;obtain ⟨fs,bT,gs,⟨aP,dH⟩,az,aW,r⟩:=ti g2.bX bu;have g3:=Go.Hz g2.bX az aW (r.put (f:=f) (bh.mono g2.tup));exact ⟨a,C,bT,gs,rfl,aW,c,n,by rw [r.len];exact aP,F.nx _ _ _ _ ((g1.trans g2).trans g3) (((B.go g1).go g2).go g3) dH⟩
 | _=>exact (show False from bu).elim
structure ef(P:c8)(w:cG)(K:a6)(mg:Str->Option Value)(base:b2)(k:Nat)(C:Addr)(m:Str)(ps:List Str)(sp:gG):Prop where
 ex:∃(f:Addr)(fd:gA),cO P w K mg base cQ k f fd ps sp/\Meth K C m f/\Binds K fd ps []
abbrev HA(C:Addr)(m:Str)(d2:di)(a_:cB)(t:gx):cB:=λ ρ G Q=>a_ ρ G λ x av=>match x with
 | .ref a=>nO av a C (λ fs=>fs.lookup m=none)/\t ρ av λ ds aU=>d2 (.ref a::ds) aU Q
 | _=>False
theorem vH{k j:Nat}{ps:List Str}{d2:di}{pl:Sem Bool}(c:dI X.K C)(Gt:ef X.prog X.w X.K X.mg X.base k C m ps (aT X.K d2))(ap:eG j X.A)(aC:k<=j)(bb:b0 X o a_)(au:iE X (e::aw) t)(aB:(e::aw).all fj=true:=by rfl)
 (bt:eval (.Call (.Attribute o m apos) (e::aw) [] pos) X.env=(do
  let cZ ← eval o X.env
  kF apos.atName
  let (f,first) ← hM [cZ] (qf cZ m pl)
  sf pos f first (gj pos (dp (e::aw) X.env)) (o2 pos (o1 [] X.env))):=by rfl):b0 X (.Call (.Attribute o m apos) (e::aw) [] pos) (HA C m d2 a_ t):=by
 obtain ⟨co,gM,fP⟩:=bb.run;obtain ⟨ca,cw,cy⟩:=au.run;obtain ⟨f,fd,Fk,hm,ag⟩:=Gt.ex;have h:=aB;rw [j5,g7] at h;refine ⟨_,⟨MK (pl:=pl) (dvs:=[]) gM.run c hm Fk (ap.mono aC) ag .nil xD cw.run (hD h.1) (q7 h.2) bt⟩,λ ρ G ax σ H Q B q F=>fP ρ G _ σ H _ B q λ x av v H1 g1 a7 aE=>?_⟩
 cases x with
 | ref a=>
  cases a7;obtain ⟨aE,bu⟩:=aE;obtain ⟨fs,bT,gs,aP,az,aW,r⟩:=ti g1.bX aE;exact ⟨a,bT,gs,rfl,aW,r.none aP,cy ρ av _ σ H1 _ (B.go g1) bu λ ds aU vs aK g2 al _ dH=>⟨.ref a::ds,aU,ax,⟨_,_,rfl,rfl,by rw [pa];exact al⟩,g2.bX,dH,F.after (g1.trans g2)⟩⟩
 | _=>exact (show False from aE).elim
theorem gO{k j:Nat}{ps:List Str}{d2:di}{pl:Sem Bool}(c:dI X.K C)(Gt:ef X.prog X.w X.K X.mg X.base k C m ps (aT X.K d2))(ap:eG j X.A)(aC:k<=j)(bb:b0 X o a_)
 (bt:eval (.Call (.Attribute o m apos) [] [] pos) X.env=(do
  let cZ ← eval o X.env
  kF apos.atName
  let (f,first) ← hM [cZ] (qf cZ m pl)
  sf pos f first (gj pos (dp [] X.env)) (o2 pos (o1 [] X.env))):=by rfl):b0 X (.Call (.Attribute o m apos) [] [] pos) (HA C m d2 a_ GI):=by
 obtain ⟨co,gM,fP⟩:=bb.run;obtain ⟨f,fd,Fk,hm,ag⟩:=Gt.ex;refine ⟨_,⟨ML (pl:=pl) (dvs:=[]) gM.run c hm Fk (ap.mono aC) ag .nil xD bt⟩,λ ρ G ax σ H Q B q F=>fP ρ G _ σ H _ B q λ x av v H1 g1 a7 aE=>?_⟩
 cases x with
 | ref a=>
  cases a7;obtain ⟨aE,bu⟩:=aE;obtain ⟨fs,bT,gs,aP,az,aW,r⟩:=ti g1.bX aE;exact ⟨a,bT,gs,rfl,aW,r.none aP,[.ref a],av,ax,⟨_,_,rfl,rfl,rfl⟩,g1.bX,bu,F.after g1⟩
 | _=>exact (show False from aE).elim
structure rR(P:c8)(w:cG)(K:a6)(mg:Str->Option Value)(base:b2)(k:Nat)(C:Addr)(x:Str)(ps:List Str)(sp:gG):Prop where
 ex:∃(f:Addr)(fd:gA),cO P w K mg base cQ k f fd ps sp/\dK K C f/\mg x=some (.ref C)/\Binds K fd ps []
abbrev Se(C:Addr)(d2:di)(t:gx):cB:=λ ρ G Q=>t ρ G λ ds av=>∀ x,av x=none->d2 (.ref x::ds) (up av x (.ins C [])) λ d aU=>d=.br/\Q (.ref x) aU
theorem tj{k j:Nat}{x:Str}{ps:List Str}{d2:di}(Gt:rR X.prog X.w X.K X.mg X.base k C x ps (aT X.K d2))(ap:eG j X.A)(aC:k+1<=j)(a0:eF X x)(au:iE X (e::aw) t)(gd:(x==("__debug__" : Str))=false:=by decide)(aB:(e::aw).all fj=true:=by rfl) :
 b0 X (.Call (.Name x p) (e::aw) [] pos) (Se C d2 t):=by
 obtain ⟨ca,cw,cy⟩:=au.run;obtain ⟨f,fd,Fk,M,hm,ag⟩:=Gt.ex;have h:=aB;rw [j5,g7] at h;refine ⟨_,⟨MN (dvs:=[]) M Fk (ap.mono aC) a0 hm ag .nil xD cw.run gd (hD h.1) (q7 h.2)⟩,λ ρ G ax σ H Q B q F=>cy ρ G _ σ H _ B q λ ds av vs H1 g1 al _ aE z bT hz hd ne=>?_⟩;have g2:=Go.Sb (C:=C) g1.bX hz hd ne;refine ⟨.ref z::ds,_,_,⟨_,_,rfl,rfl,by rw [pa];exact al.mono g2.tup⟩,g2.bX,aE z (g1.bX.none hz),λ d cM v dE g3 ad bn=>?_⟩;obtain ⟨rfl,bn⟩:=bn;cases ad;exact ⟨rfl,F (.ref z) cM _ dE ((g1.trans g2).trans g3) rfl bn⟩
end
end L3
namespace L2
open PySem PySem.Spec PyProof.Rows
theorem Sf{l:PySem.W.OpenLaw}{n k:Nat}{q:c8}{loose:List Str}{sI:(Str->Option Value)->b2->Prop}{nr:cG->b2->Prop}{d:DefRec}{K:Params->a6}{sp:a6->gG}{x:Str}{tabs:List (Addr × Addr)}
 (bc:l.most=some n) (xl:n<=sizeLine) (uE:d.params.defaults=[]) (ap:eG k sj) (Bv:∀(w:cG)(h:b2),nr w h->(K w.params).In h) (fu:∀ w:cG,PySem.W.noTabs (K w.params)=true)
 (Bw:∀(w:cG)(h:b2),nr w h->PySem.W.TabsAt tabs h)
 (F:∀(w:cG)(mg:Str->Option Value)(fa:Addr)(h:b2),(K w.params).In h->h.Ns eS mg->mg d.name=some (.ref fa) →
  ∃ fd:gA,(∀(s:aM)(u:Value),si s fd ⟨[u],[]⟩ [(x,u)]) ∧
   ∀ base:b2,(K w.params).In base->base.Ns eS mg->(∀ q∈tabs,PySem.W.CodeHd base q.1 q.2)->nB mg base->cO l.prog w (K w.params) mg base cQ k fa fd [x] (sp (K w.params)))
 (jg:∀(K:a6)(H:ar)(a:Addr)(ns:List Int),ns.length<=n->x3 tabs K a H->fi K H a (ns.map V.int)->sp K [.ref a] H (λ v _=>v=.aO true) λ _ _ _=>False) :
 PySem.W.WalkO q loose sI nr l.row.toRowW d [] (λ f vs=>PySem.call f vs):=by
 refine Fz.NL bc uE λ w s₀ dY mg j_ fa o pm cd doc a vs ns G Y bb hd g8 hmg z5 hints hlen a0=>?_;have KX:=Bv w _ Y;obtain ⟨fd,ag,eW⟩:=F w mg fa _ KX G.T.g hmg;exact Qg KX G.T.g G.T.b G.T.builtins G.T.nolimit a0 z5 hints (e5 hlen xl) ap (Bw w _ Y) (fu w) (Qn G.T) eW ag λ H uV gW=>jg _ H a ns hlen uV gW
end L2
namespace L3
open PySem PyProof L2
def vI(eL:List (Addr × Pos × Str)):di:=λ ds G Q=>∃ ns:List Int,ds=[.ey (ns.map D.int)]/\ns.length<=63/\(∀ q∈eL,G q.1=some (.tab q.2.1 q.2.2))/\∀ ak,Q (.aO true) ak
def yJ:List Addr->Bool
 | []=>true
 | a::r=>!r.contains a&&yJ r
theorem HB:∀{eL:List (Addr × Pos × Str)}{q:Addr × Pos × Str},yJ (eL.map (·.1))=true->q∈eL->eL.lookup q.1=some q.2
 | (df,cc)::r,(aE,bu),bD,h=>by
  simp only [eC,yJ,g7,Bool.not_eq_true',List.contains_eq_mem,decide_eq_false_iff_not] at bD;show ((df,cc)::r).lookup aE=some bu;rcases ea.mp h with e | h
  ·cases e;rw [l1,beq_self_eq_true]
  ·have ne:aE≠df:=λ z=>bD.1 (by rw [<- z];exact l2 (f:=(·.1)) h);rw [l1,beq_false_of_ne ne];exact HB bD.2 h
theorem HC:∀{eL:List (Addr × Pos × Str)}{a:Addr}{z:Pos × Str},eL.lookup a=some z->(a,z)∈eL
 | (df,cc)::r,a,z,h=>by
  rw [l1] at h
  cases e:(a==df) with
  | true=>
   rw [e] at h;cases h
   obtain rfl:a=df:=by simpa using e
   exact f7 ..
  | false=>rw [e] at h;exact h3 _ (HC h)
theorem Sg{K:a6}{H:ar}{a:Addr}{ns:List Int}{tabs:List (Addr × Addr)}{eL:List (Addr × Pos × Str)}(hm:eL.map (·.1)=tabs.map (·.2))(bD:yJ (eL.map (·.1))=true)(aP:ns.length<=63)(o:x3 tabs K a H)(h:fi K H a (ns.map V.int)) :
 aT K (vI eL) [.ref a] H (λ v _=>v=.aO true) λ _ _ _=>False:=by
 have f:ko K H a (ns.map V.int):=by
  rcases h with (h | h) | h
  ·rcases o.only a with z | ⟨_,_,z⟩ | ⟨_,z⟩<;>(rw [h] at z;cases z)
  ·exact .inl h
  ·exact .inr h
 refine ⟨[.ey (ns.map D.int)],λ b=>(eL.lookup b).map λ z=>.tab z.1 z.2,λ d _=>d=.aO true,⟨.ref a,[],rfl,⟨a,_,rfl,f,b_.GB ns⟩,rfl⟩,λ b u e=>?_,⟨ns,rfl,aP,λ q bn=>by simp only [HB bD bn,m3],λ _=>rfl⟩,λ d ak v ai g ad e=>?_⟩
 ·cases z:eL.lookup b with
  | none=>simp only [z,Option.map_none] at e;cases e
  | some y=>
   simp only [z,m3] at e;cases e
   have ag:b∈tabs.map (·.2):=by rw [<- hm];exact l2 (HC z)
   obtain ⟨q,bn,rfl⟩:=h4.mp ag;exact ⟨#[],o.tab q bn,trivial,.inl rfl⟩
 ·subst e;exact ad
theorem Tm.Sh{t:Tm}(h:t.leaf=false):t.enc=.tup (.str t.word::t.aL.map Tm.enc):=by cases t<;>first | rfl | cases h
theorem eR.bS{a b:Addr}{G ak:aH}{u:ek}(h:eR a G ak)(n:b≠a)(e:G b=some u):ak b=some u:=by rw [h.other n];exact e
section
variable{K:a6}{H:ar}{G:aH}
def HD:Key->D
 | .inl i=>.int i
 | .inr x=>.str x
theorem Si{k:Key}{v:V}(h:cV K H (HD k) v):v=ei k:=by cases k<;>exact h
def pY(kvs:List (Key × D))(k:Key):Option D:=(kvs.find? λ cA=>decide (cA.1=k)).map (·.2)
theorem fk.cons_inv{κ:Type}{x:κ}{y:D}{r:List (κ × D)}{gs:List (κ × V)}(h:fk K H ((x,y)::r) gs):∃ v s,gs=(x,v)::s/\cV K H y v/\fk K H r s:=by
 obtain ⟨af,ao⟩:=h
 cases gs with
 | nil=>cases af
 | cons g s=>
  obtain ⟨g1,g2⟩:=g;simp only [eC,List.cons.injEq] at af;obtain ⟨v,us,az,a1,a2⟩:=ao;simp only [eC,List.cons.injEq] at az;obtain ⟨rfl,af⟩:=af;obtain ⟨rfl,rfl⟩:=az;exact ⟨g2,s,rfl,a1,af,a2⟩
theorem fk.nil_inv{κ:Type}{gs:List (κ × V)}(h:fk K H ([]:List (κ × D)) gs):gs=[]:=by
 cases gs with
 | nil=>rfl
 | cons g s=>cases h.1
theorem fk.Sj{κ:Type}{x:κ}{y:D}{v:V}{r:List (κ × D)}{s:List (κ × V)}(h:cV K H y v)(ap:fk K H r s):fk K H ((x,y)::r) ((x,v)::s):=⟨by simp [ap.1],v,_,rfl,h,ap.2⟩
theorem fk.val{k:Key}:∀{fs:List (Key × D)}{gs:List (Key × V)},fk K H fs gs->(∀ d,pY fs k=some d->∃ v,gf gs k=some v/\cV K H d v)/\(pY fs k=t8->gf gs k=t8)
 | [],_,h=>by rw [h.nil_inv];exact ⟨λ d e=>(by cases e),λ _=>rfl⟩
 | (x,y)::r,_,h=>by
  obtain ⟨v,t,rfl,a,ap⟩:=h.cons_inv;obtain ⟨bq,bM⟩:=fk.val (k:=k) ap;by_cases c:x=k
  ·have az:pY ((x,y)::r) k=some y:=by simp [pY,kK,c]
   have aW:gf ((x,v)::t) k=some v:=lE c;rw [az,aW];exact ⟨λ d e=>⟨v,rfl,by cases e;exact a⟩,λ e=>by cases e⟩
  ·have az:pY ((x,y)::r) k=pY r k:=by simp [pY,kK,c]
   have aW:gf ((x,v)::t) k=gf t k:=lF c;rw [az,aW];exact ⟨bq,bM⟩
@[irreducible] def vJ(G:aH)(a:Addr)(k:List (Key × D)->Prop):Prop:=match G a with
 | some (.eD kvs)=>k kvs
 | _=>False
theorem vK{a:Addr}{k:List (Key × D)->Prop}{kvs:List (Key × D)}(h:G a=some (.eD kvs))(q:k kvs):vJ G a k:=by unfold vJ;rw [h];exact q
theorem Sk{a:Addr}{k:List (Key × D)->Prop}(v:eH K G H)(h:vJ G a k):∃ kvs gs,k kvs/\G a=some (.eD kvs)/\H a=some (.eD gs)/\fk K H kvs gs:=by
 unfold vJ at h;split at h
 ·next kvs e=>obtain ⟨gs,z,r⟩:=v _ _ e;exact ⟨kvs,gs,h,e,z,r⟩
 ·exact h.elim
theorem Go.newD(v:eH K G H){p:Addr}{kvs:List (Key × D)}{gs:List (Key × V)}(h:H p=none)(r:fk K H kvs gs):Go K G H (up G p (.eD kvs)) (upd H p (.eD gs)) where
 tup:=nD h
 jk:=λ a u e=>⟨u,by rw [cH (hP e h)];exact e⟩
 same:=λ a u e _=>by rw [cH (hP e h)];exact e
 new:=λ a u e n=>by rw [bv (hP e h)];exact n
 bX:=λ a u e=>by
  by_cases c:a=p
  ·subst c;rw [aG] at e;cases e;exact ⟨gs,fq,r.1,r.2.mono (nD h)⟩
  ·rw [bv c] at e;exact (v a u e).mono (nD h) (cH c)
def Bx:D->Option Key
 | .int i=>some (.inl i)
 | .str x=>some (.inr x)
 | _=>none
theorem Sl{d:D}{k:Key}(h:Bx d=some k):d=HD k:=by cases d<;>simp [Bx] at h<;>subst h<;>rfl
end
section
variable{X:a4}{o i e value:a8}{pos pos' ma:Pos}{ii e6 fN:cB}
abbrev Sm(ii e6:cB):cB:=λ ρ G Q=>ii ρ G λ x av=>e6 ρ av λ y aU=>match x with
 | .ref a=>vJ aU a λ kvs=>∃ k d,Bx y=some k/\pY kvs k=some d/\Q d aU
 | _=>False
theorem Sn(bx:X.A.units+200 < fI)(bb:b0 X o ii)(aA:b0 X i e6)(aB:uL i):b0 X (.Subscript o i pos) (Sm ii e6):=by
 obtain ⟨co,gM,fP⟩:=bb.run;obtain ⟨ci,iY,gI⟩:=aA.run;refine ⟨_,⟨Od (by omega) gM.run iY.run aB⟩,λ ρ G ax σ H Q B q F=>fP ρ G _ σ H _ B q λ x av v H1 g1 a7 aE=>gI ρ av _ σ H1 _ (B.go g1) aE λ y aU u aK g2 bh bu=>?_⟩
 cases x with
 | ref a=>
  cases a7;obtain ⟨kvs,gs,⟨k,d,By,Bz,dH⟩,az,aW,r⟩:=Sk g2.bX bu;obtain ⟨w,hw,k5⟩:=(r.val (k:=k)).1 d Bz;rw [Sl By] at bh;have:=Si bh;subst this;exact ⟨a,w,rfl,by rw [<- hw];exact sK.k aW,F d aU w aK (g1.trans g2) k5 dH⟩
 | _=>exact (show False from bu).elim
end
theorem BA{α:Type}{xs:List α}{k:Nat}(h:k+1<=xs.length):cut xs (some ((k:Int)+1)) none=xs.drop (k+1):=by
 unfold cut;rw [show d9.cJ xs.length xs.length none=xs.length from rfl,show d9.cJ xs.length 0 (some ((k:Int)+1))=k+1 by unfold d9.cJ;simp only [];rw [if_neg (by omega)];omega];rw [List.take_of_length_le (by rw [iQ];omega)]
end L3
namespace L2
open PySem PySem.Spec PyProof.Rows
section
variable{X:a4}
theorem So{x:Str}{ad:Addr}{tab:Str->Option V}{e f:a8}{ty HE:TE}{p apos e7:Pos}(a0:eF X x)(hm:X.mg x=some (.ref ad))(T:KTab X.K X.w ad tab)(he:b1 X e ty)(hf:b1 X f HE)(m:M2 X (.Name x p) "get" apos e f e7)(hd:(x==("__debug__" : Str))=false:=by decide) :
 b1 X (.Call (.Attribute (.Name x p) "get" apos) [e,f] [] e7) (λ σ H Q=>ty σ H λ y H1=>HE σ H1 λ d aK=>∃ z,y=.str z/\Q ((tab z).getD d) aK):=by
 intro pins s σ H Q I h;obtain ⟨⟨aw,n,aP,aC,bt⟩,lo⟩:=T;refine wpAny_Call_method m.base m.Ol m.line PySem.F.plainAttrs_dict PySem.F.slot_dict_get PySem.F.type_dict_get (bZ (zI (v:=.ref ad) a0 hm rfl hd pins s σ H (λ v H1=>v=.ref ad/\H1=H) I ⟨rfl,rfl⟩) λ u s1 ⟨am,H1,aY,bd,ex,ov⟩=>?_);subst ex ov;obtain rfl:u=Value.ref ad:=bd;have mp:∀{a9:aM},X.K.In a9.heap->a9.heap.MapOf (strKind X.prog X.w) ad (λ k=>sk Value.isStrOf aw k):=λ k=>PySem.W.mapOf_K k aP aC;refine ⟨(mp aY.eU).typeIs,(mp aY.eU).noDict,?_⟩;rw [m.trees];refine Calls.callWith_builtin rfl (Calls.evalArgs_plain (Calls.spliced_cons (bZ (he pins s1 σ H1 _ aY h) λ d7 s2 ⟨y,aK,ck,cb,bu⟩=>Calls.spliced_cons (bZ (hf pins s2 σ aK _ ck bu) λ Sp s3 ⟨d,dE,c7,nh,z,q5,dH⟩=>Calls.spliced_nil ?_))));subst q5;obtain ⟨t,rfl⟩:=cb;refine call_meetsIn PySem.F.slot_dict_get (mp c7.eU).typeIs PySem.F.entry_dict_get (PySem.F.args_dict_get_3 _ _ _) (meets_dict_get_default (strKind X.prog X.w) ad (strKind_is X.prog X.w z t) lo Sp) ⟨_,mp c7.eU,(tab z).getD d,dE,c7.tok _,?_,dH⟩;exact (bt z).getD nh
theorem Sq{x:Str}{ad:Addr}{tab:Str->Option V}{e:a8}{ty:TE}{p pos:Pos}(a0:eF X x)(hm:X.mg x=some (.ref ad))(T:KTab X.K X.w ad tab)(he:b1 X e ty)(aB:uL e)(hd:(x==("__debug__" : Str))=false:=by decide) :
 b1 X (.Subscript (.Name x p) e pos) (λ σ H Q=>ty σ H λ y H1=>∃ z v,y=.str z/\tab z=some v/\Q v H1):=by
 intro pins s σ H Q I h;obtain ⟨⟨aw,n,aP,aC,bt⟩,lo⟩:=T;have mp:∀{a9:aM},X.K.In a9.heap->a9.heap.MapOf (strKind X.prog X.w) ad (λ k=>sk Value.isStrOf aw k):=λ k=>PySem.W.mapOf_K k aP aC;refine FR PySem.F.slot_dict_getitem.lookup aB (bZ (zI (v:=.ref ad) a0 hm rfl hd pins s σ H (λ v H1=>v=.ref ad/\H1=H) I ⟨rfl,rfl⟩) λ u s1 ⟨am,H1,aY,bd,ex,ov⟩=>bZ (he pins s1 σ H _ (ov ▸ aY) h) λ d7 s2 ⟨y,aK,ck,cb,z,v,q5,ev,bu⟩=>?_);subst ex;obtain rfl:u=Value.ref ad:=bd;subst q5;obtain ⟨t,rfl⟩:=cb;obtain ⟨jE,hw,jH⟩:=hv.some_of (v:=v) (o:=sk Value.isStrOf aw z) (by rw [<- ev];exact bt z);exact ⟨(mp ck.eU).typeIs,wpAny_getItem_of (strKind_is X.prog X.w z t) (mp ck.eU) hw ⟨v,aK,ck.tok _,jH,bu⟩⟩
def Sr(ad:Addr)(tab:Str->Option V):fv:=λ x y H Q=>∃ z,x=.str z/\y=.ref ad/\Q (.aO (tab z).isSome) H
theorem Ss{ad:Addr}{tab:Str->Option V}(T:KTab X.K X.w ad tab):eo X (eP .In) (Sr ad tab):=by
 intro pins s σ H x y v u Q I bd cb h;obtain ⟨⟨aw,n,aP,aC,bt⟩,lo⟩:=T;obtain ⟨z,rfl,rfl,q⟩:=h;obtain ⟨t,rfl⟩:=bd;cases cb;refine wpAny_in_of (strKind_is X.prog X.w z t) lo (PySem.W.mapOf_K I.eU aP aC) ?_;rw [<- (bt z).N5];exact ⟨.aO _,H,I.tok _,rfl,q⟩
def BB(K:a6)(a:Addr)(n:Nat):lA:=
 ⟨λ i H=>i < n/\∃ xs,fi K H a xs/\xs.length=n,λ i H x ai=>ai=H/\∀ xs,fi K H a xs->xs[n - 1 - i]?=some x,λ i _=>n<=i⟩
theorem Su{P:c8}{w:cG}{K:a6}{bj:a8}(a it:Addr)(n:Nat):Turn P w K bj (BB K a n) [it] it (λ i h=>i<=n/\h.IsRevIter it a ((n:Int) - 1 - (i:Int))) where
 mem:=by simp
 obj:=λ i h st b ag=>by
  have e:b=it:=by simpa using ag
  subst e;obtain ⟨_,o,e,c,d⟩:=st;exact ⟨o,e,λ v z=>by rw [d] at z;cases z⟩
 keep:=λ i h h' st k=>⟨st.1,st.2.at λ o e=>k it (by simp) o e⟩
 item:=by
  intro X ia hw fu aJ i pins s σ H E I hf st a0;subst ia hw fu;obtain ⟨aA,xs,bn,aq⟩:=a0;obtain ⟨_,st⟩:=st;obtain ⟨aN,bo,p,hz⟩:=I.list bn
  have iX:n - 1 - i < xs.length:=by omega
  have je:xs[n - 1 - i]?=some xs[n - 1 - i]:=hk iX;obtain ⟨u,bx,dw⟩:=bo.get je;obtain ⟨f0,f1,f2,dl,f4,hl⟩:=hf it (by simp);rw [show (n:Int) - 1 - (i:Int)=((n - 1 - i:Nat):Int) by omega] at st;refine wpAny_pyNext_rev_item st p.isList (x:=u) (by simpa using bx) λ h' iU cU=>?_;have aY:Inv X pins σ H { s with heap:=h' }:=I.turned (t':=s.toks) (λ b o ag e=>(cU.2 b ag).trans e) f0 f1 dl f4 hl;obtain ⟨o,e,c,d⟩:=id iU;exact ⟨u,rfl,xf (s:={ s with heap:=h' }) e c d (by decide) ⟨_,H,aY,dw,⟨rfl,λ a3 aQ=>by rw [I.Ey aQ bn];exact je⟩,⟨aA,by rw [show (n:Int) - 1 - ((i+1:Nat):Int)=((n - 1 - i:Nat):Int) - 1 by omega];exact iU⟩,λ b ag=>(hf b ag).1⟩⟩
 done:=by
  intro X ia hw fu aJ i pins s σ H E I hf st a0;subst ia hw fu;have Zf:n<=i:=a0;obtain ⟨aA,st⟩:=st;obtain ⟨f0,f1,f2,dl,f4,hl⟩:=hf it (by simp);rw [show (n:Int) - 1 - (i:Int)=-1 by omega] at st
  exact wpAny_pyNext_rev_end (I.ok.hd aJ) st λ h' g_=>⟨rfl,I.turned (t':=s.toks) (λ b o ag e=>g_ b o ag e) f0 f1 dl f4 hl⟩
 self:=λ _ _ _ _ _ st h=>wpAny_pyIter_revIter st.2 h
def Sv:V->V->ar->cm->Prop:=λ o i H Q=>∃ p k xs j v,o=.ref p/\i=.int k/\H p=some (.lst xs)/\0<=k/\k.toNat=j/\xs[j]?=some v/\Q v H
theorem HF:EJ X Sv:=by
 intro pins s σ H o i cZ d7 Q I fP gI h;obtain ⟨p,k,xs,j,v,rfl,rfl,aj,h0,d4,bK,q⟩:=h;cases fP;obtain ⟨t,rfl⟩:=gI;obtain ⟨aN,n,r,bb,hz⟩:=I.lst aj;obtain ⟨w,ji,jH⟩:=r.get bK
 have lt:j < xs.length:=by
  rcases kM j xs.length with z | z
  ·exact z
  ·rw [qn z] at bK;cases bK
 have bc:=oa;exact wpAny_getItem_list (items:=aN.toArray) ⟨_,bb,rfl,⟨_,rfl⟩⟩ h0 (by omega) (by rw [d4];simpa using ji) ⟨v,H,I,jH,q⟩
def HG(K:a6)(eL:TE):TI:=λ σ H R=>eL σ H λ x H1=>∃ a xs,x=.ref a/\fi K H1 a xs/\R (BB K a xs.length) H1
theorem Sw{bj e:a8}{eL:TE}{p pos:Pos}(a0:eF X "reversed")(hm:X.mg "reversed" = none)(aP:b1 X e eL)(aB:fj e=true):mc X bj (.Call (.Name "reversed" p) [e] [] pos) (HG X.K eL):=by
 intro pins s σ H R I h;refine bZ (PB (R:=λ a xs H1=>R (BB X.K a xs.length) H1) a0 hm aP aB I h) λ v s1 af=>?_;obtain ⟨a,it,xs,aN,H1,rfl,aY,hit,bt,ep,bo,hz,_,fp,q⟩:=af;have vL:=bo.length;refine wpAny_pyIter_revIter hit ⟨it,[it],_,_,H1,rfl,aY,Su a it xs.length,?_,λ b ag=>?_,q⟩
 ·rw [dG,<- vL] at hit;exact ⟨f9 _,by simpa using hit⟩
 ·have e:b=it:=by simpa using ag
  subst e;exact fp
end
end L2
namespace L3
open PySem PySem.Spec L2
structure oM(K:a6)(w:cG)(ad:Addr)(tab:Str->Option D):Prop where
 ex:∃ fN:Str->Option V,KTab K w ad fN/\(∀ z,tab z=none->fN z=none)/\∀ z d,tab z=some d->∃ v,fN z=some v/\∀ H,cV K H d v
section
variable{X:a4}{a b c e f o i bj iter value:a8}{x:Str}{ad C:Addr}{tab:Str->Option D}{a_ fN aX sS to e6:cB}{pos pos' ma p apos e7:Pos}
abbrev Sx(tab:Str->Option D)(aX sS:cB):cB:=λ ρ G Q=>aX ρ G λ y av=>sS ρ av λ d aU=>match y with
 | .str z=>Q ((tab z).getD d) aU
 | _=>False
theorem Sy(a0:eF X x)(hm:X.mg x=some (.ref ad))(T:oM X.K X.w ad tab)(he:b0 X e aX)(hf:b0 X f sS)(m:M2 X (.Name x p) "get" apos e f e7:=by exact ⟨rfl,rfl,rfl,rfl⟩)(hd:(x==("__debug__" : Str))=false:=by decide) :
 b0 X (.Call (.Attribute (.Name x p) "get" apos) [e,f] [] e7) (Sx tab aX sS):=by
 obtain ⟨fN,T,t1,cR⟩:=T;obtain ⟨ce,io,re⟩:=he.run;obtain ⟨cS,Sz,BC⟩:=hf.run;refine ⟨_,⟨So a0 hm T io.run Sz.run m hd⟩,λ ρ G ax σ H Q B q F=>re ρ G _ σ H _ B q λ y av v H1 g1 bh aE=>BC ρ av _ σ H1 _ (B.go g1) aE λ d aU u aK g2 ad bu=>?_⟩
 cases y with
 | str z=>
  cases bh;refine ⟨z,rfl,?_⟩
  replace bu:ax ((tab z).getD d) aU:=bu
  cases k8:tab z with
  | none=>rw [t1 z k8];rw [k8] at bu;exact F d aU u aK (g1.trans g2) ad bu
  | some d'=>
   obtain ⟨l7,az,aW⟩:=cR z d' k8;rw [az];rw [k8] at bu;exact F d' aU l7 aK (g1.trans g2) (aW _) bu
 | _=>exact (show False from bu).elim
abbrev SA(tab:Str->Option D)(aX:cB):cB:=λ ρ G Q=>aX ρ G λ y av=>match y with
 | .str z=>∃ d,tab z=some d/\Q d av
 | _=>False
theorem SB(a0:eF X x)(hm:X.mg x=some (.ref ad))(T:oM X.K X.w ad tab)(he:b0 X e aX)(aB:uL e)(hd:(x==("__debug__" : Str))=false:=by decide):b0 X (.Subscript (.Name x p) e pos) (SA tab aX):=by
 obtain ⟨fN,T,t1,cR⟩:=T;obtain ⟨ce,io,re⟩:=he.run;refine ⟨_,⟨Sq a0 hm T io.run aB hd⟩,λ ρ G ax σ H Q B q F=>re ρ G _ σ H _ B q λ y av v H1 g1 bh aE=>?_⟩
 cases y with
 | str z=>
  cases bh;obtain ⟨d,Bz,bu⟩:=aE;obtain ⟨l7,az,aW⟩:=cR z d Bz;exact ⟨z,l7,rfl,az,F d av l7 H1 g1 (aW _) bu⟩
 | _=>exact (show False from aE).elim
abbrev SC(ad:Addr)(tab:Str->Option D):jm:=λ x y G Q=>match x with
 | .str z=>y=.ref ad/\Q (.aO (tab z).isSome) G
 | _=>False
theorem SD(T:oM X.K X.w ad tab):gY X (eP .In) (SC ad tab):=by
 obtain ⟨fN,T,t1,cR⟩:=T;refine ⟨_,⟨Ss T⟩,λ x y e9 hV G H ax Q v a7 bh r F=>?_⟩
 cases x with
 | str z=>
  cases a7;obtain ⟨rfl,q⟩:=r;cases bh;refine ⟨z,rfl,rfl,?_⟩
  have e:(fN z).isSome=(tab z).isSome:=by
   cases k8:tab z with
   | none=>rw [t1 z k8];rfl
   | some d=>obtain ⟨l7,az,_⟩:=cR z d k8;rw [az];rfl
  rw [e];exact F (.aO _) G _ H (.refl v) rfl q
 | _=>exact (show False from r).elim
abbrev SE(C:Addr)(f:Str)(a_ aX:cB)(g:Int->Int->Int):gK:=λ dP ρ G=>a_ ρ G λ x av=>match x with
 | .ref a=>nO av a C λ fs=>rQ fs f λ d=>aX ρ av λ y aU=>match d,y with
  | .int i,.int j=>nO aU a C λ m7=>m7.length < 1000/\dP.nx ρ (up aU a (.ins C (mH f (.int (g i j)) m7)))
  | _,_=>False
 | _=>False
theorem yK{f:Str}(c:dI X.K C)(n:cW X.K C f)(au:b0 X o a_)(he:b0 X value aX):iF X (.AugAssign (.Attribute o f ma) .Add value pos) (SE C f a_ aX (·+·)):=by
 obtain ⟨ca,cw,cy⟩:=au.run;obtain ⟨ce,io,re⟩:=he.run;refine ⟨_,⟨Mv cw.run io.run Mz⟩,λ dP e8 ρ G σ H B q F=>cy ρ G _ σ H _ B q λ x av v H1 g1 a7 aE=>?_⟩
 cases x with
 | ref a=>
  cases a7;obtain ⟨fs,bT,gs,bu,az,aW,r⟩:=ti g1.bX aE;unfold rQ at bu;split at bu
  ·next d aP=>
   obtain ⟨u,af,ao⟩:=r.lookup aP;refine ⟨a,C,bT,gs,u,rfl,aW,c,n,af,re ρ av _ σ H1 _ (B.go g1) bu λ y aU b8 aK g2 bh dH=>?_⟩;split at dH
   ·next i j=>
    cases ao;cases bh;obtain ⟨m7,uv,SF,⟨vL,gE⟩,qO,qP,dS⟩:=ti g2.bX dH;have g3:=Go.Hz g2.bX qO qP (dS.put (f:=f) (d:=.int (i+j)) (v:=.int (i+j)) rfl);exact ⟨i,j,rfl,rfl,uv,SF,qP,by rw [dS.len];exact vL,F.nx _ _ _ _ ((g1.trans g2).trans g3) (((B.go g1).go g2).go g3) gE⟩
   ·exact dH.elim
  ·exact bu.elim
 | _=>exact (show False from aE).elim
@[irreducible] def vM(G:aH)(l:Addr)(k:hG->Prop):Prop:=match G l with
 | some (.lst ds)=>k ⟨ds.reverse,λ G=>G l=some (.lst ds)⟩
 | _=>False
theorem SG{G:aH}{l:Addr}{k:hG->Prop}{ds:List D}(h:G l=some (.lst ds))(q:k ⟨ds.reverse,λ G=>G l=some (.lst ds)⟩):vM G l k:=by unfold vM;rw [h];exact q
abbrev SH(a_:cB):jQ:=λ ρ G R=>a_ ρ G λ x av=>match x with
 | .ref l=>vM av l λ J=>R J av
 | _=>False
theorem SI{bf:TE}(a0:eF X "reversed")(hm:X.mg "reversed" = none)(aP:c3 X a bf)(aB:fj a=true):mx X bj (.Call (.Name "reversed" p) [a] [] pos) (HG X.K bf):=⟨Sw a0 hm aP.run aB⟩
theorem SJ(a0:eF X "reversed")(hm:X.mg "reversed" = none)(au:b0 X a a_)(aB:fj a=true:=by rfl):nH X bj (.Call (.Name "reversed" p) [a] [] pos) (SH a_):=by
 obtain ⟨ca,cw,cy⟩:=au.run;refine ⟨_,SI a0 hm cw aB,λ ρ G jS σ H R B q F=>cy ρ G _ σ H _ B q λ x av v H1 g1 a7 aE=>?_⟩
 cases x with
 | ref l=>
  cases a7
  replace aE:vM av l λ J=>jS J av:=aE
  unfold vM at aE;split at aE
  ·next ds hd=>
   obtain ⟨vs,z,r⟩:=g1.bX _ _ hd;refine ⟨l,vs,rfl,.of z,F ⟨ds.reverse,λ G=>G l=some (.lst ds)⟩ _ av H1 g1 (λ aU aK g2 ao=>?_) aE⟩;obtain ⟨us,bU,bB⟩:=g2.bX _ _ ao;have eV:=r.len;have dx:=bB.len;refine ⟨λ i d ph=>?_,λ i aA=>?_⟩
   ·have aA:i < ds.length:=by
     rcases kM i ds.length with c | c
     ·exact c
     ·rw [qn (by rw [eK];exact c)] at ph;cases ph
    rw [List.getElem?_reverse aA] at ph;obtain ⟨w,hw,k5⟩:=bB.get ph;refine ⟨⟨by omega,us,.of bU,by omega⟩,λ x ai y=>?_⟩;obtain ⟨rfl,y⟩:=y;have z:=y us (.of bU);rw [show vs.length=ds.length by omega,hw] at z;cases z;exact ⟨.refl g2.bX,k5⟩
   ·show vs.length<=i;rw [eK] at aA;omega
  ·exact aE.elim
 | _=>exact (show False from aE).elim
abbrev HH(to e6 aX:cB)(g:Int->Int->Int):gK:=λ dP ρ G=>to ρ G λ x av=>e6 ρ av λ y aU=>match x,y with
 | .ref l,.int k=>kp aU l λ ds=>∃(j:Nat)(m:Int),k.toNat=j/\0<=k/\ds[j]?=some (.int m)/\aX ρ aU λ z cM=>match z with
  | .int n=>kp cM l λ yL=>yL.length=ds.length/\dP.nx ρ (up cM l (.lst (yL.set j (.int (g m n)))))
  | _=>False
 | _,_=>False
theorem rS(bb:b0 X o to)(aA:b0 X i e6)(he:b0 X value aX)(au:∀ cZ d7 new,augStore i cZ d7 new=(do hM [new,cZ,d7] (qh cZ d7 new);sh [new,cZ,d7] [];pure .next):=by intros;rfl) :
 iF X (.AugAssign (.Subscript o i ma) .Add value pos) (HH to e6 aX (·+·)):=by
 obtain ⟨co,gM,fP⟩:=bb.run;obtain ⟨ci,iY,gI⟩:=aA.run;obtain ⟨ce,io,re⟩:=he.run;refine ⟨_,⟨EK gM.run iY.run HF io.run LA z0 au⟩,λ dP e8 ρ G σ H B q F=>fP ρ G _ σ H _ B q λ x av e9 H1 g1 a7 aE=>gI ρ av _ σ H1 _ (B.go g1) aE λ y aU hV aK g2 bh bu=>?_⟩;split at bu
 ·next l k=>
  cases a7;cases bh;obtain ⟨ds,vs,⟨j,m,d4,aC,hm,dH⟩,az,af,be⟩:=lI g2.bX bu;obtain ⟨w,hw,k5⟩:=be.get hm;cases k5;refine ⟨l,k,vs,j,.int m,rfl,rfl,af,aC,d4,hw,re ρ aU _ σ aK _ ((B.go g1).go g2) dH λ z cM SK dE g3 oz gE=>?_⟩;split at gE
  ·next n=>
   cases oz;obtain ⟨yL,rh,⟨aP,n8⟩,qO,BD,vN⟩:=lI g3.bX gE;have hU:=Go.rl g3.bX qO (vN.set (d:=.int (m+n)) (v:=.int (m+n)) rfl j);have fy:=((g1.trans g2).trans g3).trans hU;refine ⟨m,n,rfl,rfl,l,rh,k,j,rfl,rfl,BD,?_,F.nx ρ _ σ _ fy (B.go fy) n8⟩
   have lt:j < ds.length:=by
    rcases kM j ds.length with z | z
    ·exact z
    ·rw [qn z] at hm;cases hm
   have:=vN.len;unfold kX;rw [if_pos aC,if_pos (by omega),d4]
  ·exact gE.elim
 ·exact bu.elim
end
end L3
namespace L3
open PySem L2
def Tm.cl:Nat->Tm->Prop
 | n,.name k=>k < n
 | _,.whole _=>True
 | n,.way t=>t.cl (n+1)
 | n,.give t u=>t.cl n/\u.cl n
 | n,.pair t u=>t.cl n/\u.cl n
 | n,.first t=>t.cl n
 | n,.second t=>t.cl n
 | n,.plus t u=>t.cl n/\u.cl n
 | n,.look t u v=>t.cl n/\u.cl n/\v.cl n
theorem SL{t:Tm}:∀{n w:Nat},t.cl (n+w)->∀ z∈t.dn w,z.1 < z.2+n:=by
 induction t<;>intro n w k z hz<;>simp only [Tm.cl,Tm.dn,ea,kH,m1,or_false] at *
 case name j=>subst hz;show j < w+n;omega
 case way t bL=>exact bL (n:=n) (w:=w+1) (by rw [show n+(w+1)=n+w+1 by omega];exact k) z hz
 case give t u bq bM=>rcases hz with hz | hz;exact bM k.2 z hz;exact bq k.1 z hz
 case pair t u bq bM=>rcases hz with hz | hz;exact bM k.2 z hz;exact bq k.1 z hz
 case first t bL=>exact bL k z hz
 case second t bL=>exact bL k z hz
 case plus t u bq bM=>rcases hz with hz | hz;exact bM k.2 z hz;exact bq k.1 z hz
 case look t u v bq bM rN=>rcases hz with hz | hz | hz;exact rN k.2.2 z hz;exact bM k.2.1 z hz;exact bq k.1 z hz
end L3
namespace L3
open PySem L2
structure HI(p:Tm)(z d:Int)(m:Nat):Prop where
 aR:(p.aR:Int)<=z
 bH:(p.bH:Int)<=d
 cl:p.cl m
def oN(n:Nat):di:=λ ds G Q=>match ds with
 | [.ref a,.int many,.int room,.int deep]=>hX G a/\0<=many/\many+deep < 2 ^ 32/\room < 1000/\0<=deep/\deep < n/\∀(p:Tm) ak,eR a G ak->HI p (3 * max room 0+1) deep many.toNat->Q p.enc ak
 | _=>False
def vO(n:Nat):di:=λ ds G Q=>∃ a t,ds=[.ref a,Ty.enc t]/\hX G a/\t.aR<=n/\∀(p:Tm) ak,eR a G ak->p.aR<=t.aR->p.bH<=t.aR->(∀ m,p.cl m)->Q p.enc ak
def lO(G:aH)(l a:Addr)(d:Int)(m:Nat):Prop:=l≠a/\∃ tys:List Ty,G l=some (.lst (tys.map Ty.enc))/\(tys.length:Int)+d<=100/\(∀ t∈tys,t.aR<=60)/\tys.length=m
theorem lO.gX{G ak:aH}{l a:Addr}{d:Int}{m:Nat}(h:lO G l a d m)(u:eR a G ak):lO ak l a d m:=by
 obtain ⟨ne,tys,e,r⟩:=h;exact ⟨ne,tys,by rw [u.other ne];exact e,r⟩
theorem lO.less{G:aH}{l a:Addr}{d e:Int}{m:Nat}(h:lO G l a d m)(u:e<=d):lO G l a e m:=by
 obtain ⟨ne,tys,q,r,s⟩:=h;exact ⟨ne,tys,q,by omega,s⟩
theorem lO.new{G:aH}{l a p:Addr}{d:Int}{m:Nat}{o:ek}(h:lO G l a d m)(n:G p=none):lO (up G p o) l a d m:=by
 obtain ⟨ne,tys,e,r⟩:=h;exact ⟨ne,tys,by rw [bv (by rintro rfl;rw [n] at e;cases e)];exact e,r⟩
structure vP(p:Tm)(room deep:Int)(m:Nat):Prop where
 aR:(p.aR:Int)<=80 * max room 1 - 10
 bH:(p.bH:Int)<=deep+60
 cl:p.cl m
def tl(n:Nat):di:=λ ds G Q=>∃ a t l room deep m,ds=[.ref a,Ty.enc t,.ref l,.int room,.int deep]/\hX G a/\lO G l a deep m/\room<=50/\0<=deep/\deep < n/\(t.aR:Int)+4 * deep<=60/\∀(p:Tm) ak,eR a G ak->vP p room deep m->Q p.enc ak
def tm(n:Nat):di:=λ ds G Q=>∃ a t l room deep m,ds=[.ref a,Ty.enc t,.ref l,.int room,.int deep]/\hX G a/\lO G l a deep m/\3<=room/\room<=50/\1<=deep/\deep<=n/\(t.aR:Int)+4 * deep<=60/\∀(p:Tm) ak,eR a G ak->vP p room deep m->Q p.enc ak
def vQ:di:=λ ds G Q=>match ds with
 | [.ref a]=>hX G a/\∀(p:Tm) ak,eR a G ak->p.aR<=60->p.bH<=12->p.cl 0->Q p.enc ak
 | _=>False
def vR:di:=λ ds G Q=>match ds with
 | [.ref a]=>hX G a/\∀(p:Tm) ak,eR a G ak->p.aR<=60->p.bH<=75->p.cl 0->Q p.enc ak
 | _=>False
def hY:bE->List bE
 | .ClassDef _ _ _ b _ _ _ _ _ _ _=>b
 | _=>[]
structure er where
 t:Tm
 rs:List Addr
 c9:Tm
abbrev dN:=Addr->Option er
def nP(S:dN)(r:Addr):Tm:=match S r with
 | some x=>x.c9
 | none=>.name 0
def ho(S:dN)(rs:List Addr):Nat->Nat->Tm:=λ n w=>if w<=n then (match rs[n - w]? with
 | some r=>nP S r
 | none=>.name n) else .name n
structure rT(S:dN)(rk:Addr->Nat):Prop where
 sub:∀ a x,S a=some x->∀ r∈x.rs,(∃ y,S r=some y)/\rk r < rk a
 nm:∀ a x,S a=some x->∀ z∈x.t.dn 0,z.2<=z.1->z.1 - z.2 < x.rs.length
 aR:∀ a x,S a=some x->x.t.aR<=100
 c9:∀ a x,S a=some x->x.c9=x.t.d_ (ho S x.rs) 0
 top:∀ a x,S a=some x->rk a<=1000
def er.used(x:er):List Addr:=(x.t.dn 0).filterMap λ z=>if z.2<=z.1 then x.rs[z.1 - z.2]? else none
theorem er.BE{x:er}{r:Addr}(h:r∈x.used):r∈x.rs:=by
 obtain ⟨z,_,hz⟩:=t5.mp h;split at hz
 ·exact kJ hz
 ·cases hz
theorem er.HJ(x:er):x.used.length<=x.t.aR:=e5 (List.length_filterMap_le _ _) (x.t.Bo 0)
def rU(told:Addr->Bool)(x:er):List Addr:=x.used.filter λ r=>!told r
def hh(S:dN)(told:Addr->Bool)(a:Addr):List Addr:=match S a with
 | some x=>if told a then [] else rU told x
 | none=>[]
def kx(told:Addr->Bool)(a:Addr):Addr->Bool:=λ b=>if b=a then true else told b
theorem HK{told:Addr->Bool}{a:Addr}:kx told a a=true:=by unfold kx;rw [if_pos rfl]
theorem HL{told:Addr->Bool}{a b:Addr}(h:told b=true):kx told a b=true:=by unfold kx;split<;>first | rfl | exact h
theorem BF{S:dN}{rk:Addr->Nat}(ok:rT S rk){told:Addr->Bool}{a r:Addr}(h:r∈hh S told a):(∃ y,S r=some y)/\rk r < rk a:=by
 unfold hh at h;split at h
 ·next x e=>
  split at h
  ·cases h
  ·exact ok.sub a x e r (er.BE (wM.mp h).1)
 ·cases h
inductive Ends(S:dN):Nat->(Addr->Bool)->List Addr->(Addr->Bool)->Prop where
 | nil {told}:Ends S 0 told [] told
 | pop {n told a st hZ}:hh S told a=[]->Ends S n (kx told a) st hZ->Ends S (n+1) told (a::st) hZ
 | push {n told a st hZ}:hh S told a≠[]->Ends S n told ((hh S told a).reverse++a::st) hZ->Ends S (n+1) told (a::st) hZ
def HM(told hZ:Addr->Bool):Prop:=∀ b,told b=true->hZ b=true
theorem HN{S:dN}{rk:Addr->Nat}(ok:rT S rk):∀(r:Nat)(told:Addr->Bool)(a:Addr),rk a < r->(∃ x,S a=some x) →
 ∃ hZ,HM told hZ/\hZ a=true/\∀ st n nQ,Ends S n hZ st nQ->∃ k,Ends S k told (a::st) nQ
 | 0,_,_,h,_=>by omega
 | r+1,told,a,h,⟨x,ex⟩=>by
  by_cases hm:hh S told a=[]
  ·exact ⟨kx told a,λ b=>HL,HK,λ st n nQ e=>⟨_,.pop hm e⟩⟩
  ·have row:∀(xs:List Addr)(told:Addr->Bool),(∀ b∈xs,(∃ y,S b=some y)/\rk b < rk a)->∃ hZ,HM told hZ/\(∀ b∈xs,hZ b=true)/\∀ st n nQ,Ends S n hZ st nQ->∃ k,Ends S k told (xs++st) nQ:=by
    intro xs
    induction xs with
    | nil=>intro told _;exact ⟨told,λ b h=>h,by simp,λ st n nQ e=>⟨n,e⟩⟩
    | cons b xs bL=>
     intro told ag;obtain ⟨yM,Zg⟩:=ag b (f7 ..);obtain ⟨t1,cf,jd,c1⟩:=HN ok r told b (by omega) yM;obtain ⟨cR,cK,l5,c2⟩:=bL t1 λ c aJ=>ag c (h3 _ aJ);refine ⟨cR,λ c aJ=>cK c (cf c aJ),λ c aJ=>?_,λ st n nQ e=>?_⟩
     ·rcases ea.mp aJ with rfl | aJ
      ·exact cK _ jd
      ·exact l5 c aJ
     ·obtain ⟨k,az⟩:=c2 st n nQ e;exact c1 _ _ _ az
   obtain ⟨t1,cf,jd,c1⟩:=row (hh S told a).reverse told λ b ag=>BF ok (kL.mp ag)
   have SM:hh S t1 a=[]:=by
    unfold hh;rw [ex];simp only [];split
    ·rfl
    ·next bt=>
     unfold rU;rw [List.filter_eq_nil_iff];intro b ag;by_cases HO:told b=true
     ·simp [cf b HO]
     ·have SN:told a=false:=by
       cases h':told a with
       | false=>rfl
       | true=>exact absurd (cf a h') bt
      have:b∈hh S told a:=by
       unfold hh;rw [ex];simp only [SN,jc,if_false];exact wM.mpr ⟨ag,by simp [HO]⟩
      simp [jd b (kL.mpr this)]
   refine ⟨kx t1 a,λ b ag=>HL (cf b ag),HK,λ st n nQ e=>?_⟩;obtain ⟨k,az⟩:=c1 (a::st) _ _ (.pop SM e);exact ⟨_,.push hm az⟩
def yN(rk:Addr->Nat):List Addr->Prop
 | []=>True
 | c::r=>(c::r).length+100 * rk c<=100001/\yN rk r
theorem HP{rk:Addr->Nat}{a:Addr}{st:List Addr}(h:yN rk (a::st)):∀(xs:List Addr),xs.length<=100->(∀ b∈xs,rk b < rk a)->yN rk (xs++a::st)
 | [],_,_=>h
 | x::xs,aP,ag=>by
  have bL:=HP h xs (by simp at aP;omega) λ b xS=>ag b (h3 _ xS);have aq:=ag x (f7 ..);have af:=h.1;refine ⟨?_,bL⟩
  have e:(x::(xs++a::st)).length=xs.length+(st.length+1)+1:=by simp
  rw [eb] at aP af;show (x::(xs++a::st)).length+100 * rk x<=100001;rw [e];omega
theorem SO{S:dN}{rk:Addr->Nat}(ok:rT S rk){told:Addr->Bool}{a:Addr}:(hh S told a).length<=100:=by
 unfold hh;split
 ·next x e=>
  split
  ·exact f9 _
  ·exact e5 (List.length_filter_le _ _) (e5 x.HJ (ok.aR a x e))
 ·exact f9 _
theorem SP{told:Addr->Bool}{a:Addr}(h:told a=true):kx told a=told:=by
 funext b;unfold kx;split
 ·next e=>rw [e,h]
 ·rfl
theorem HQ{α:Type}(xs:List α)(y:α):hb (xs++[y]) (-1)=some y:=by
 unfold hb kX;rw [if_neg (by decide),hN,List.length_singleton];rw [if_pos (by omega)];show (xs++[y])[((-1:Int)+((xs.length+1:Nat):Int)).toNat]?=some y;rw [show ((-1:Int)+((xs.length+1:Nat):Int)).toNat=xs.length by omega];simp
def lP:er:=⟨.name 0,[],.name 0⟩
theorem er.SQ{x:er}{z:Nat × Nat}{r:Addr}(hz:z∈x.t.dn 0)(hw:z.2<=z.1)(ap:x.rs[z.1 - z.2]?=some r):r∈x.used:=t5.mpr ⟨z,hz,by rw [if_pos hw];exact ap⟩
theorem SR(x:er):(x.t.dn 0).filterMap (λ z=>if z.2<=z.1 then (x.rs[z.1 - z.2]?).map D.ref else none)=x.used.map D.ref:=by
 unfold er.used;rw [List.map_filterMap];congr 1;funext z;split<;>simp
theorem SS(told:Addr->Bool)(x:er):x.used.filterMap (λ r=>if told r then none else some (D.ref r))=(rU told x).map D.ref:=by
 unfold rU
 induction x.used with
 | nil=>rfl
 | cons r rs bL=>by_cases c:told r=true<;>simp [wO,List.filter_cons,c,bL]
def ky(C:Addr)(x:er)(told:Bool):ek:=.ins C [("part", x.t.enc),("row", .tup (x.rs.map D.ref)),("told", if told then x.c9.enc else .br)]
def fb(C:Addr)(S:dN)(told:Addr->Bool)(G:aH):aH:=λ b=>match S b with
 | some x=>some (ky C x (told b))
 | none=>G b
theorem i2{C:Addr}{S:dN}{told:Addr->Bool}{G:aH}{a:Addr}{x:er}(h:S a=some x):fb C S told G a=some (ky C x (told a)):=by unfold fb;rw [h]
theorem pZ{C:Addr}{S:dN}{told:Addr->Bool}{G:aH}{a:Addr}(h:S a=none):fb C S told G a=G a:=by unfold fb;rw [h]
theorem BG{C:Addr}{S:dN}{told:Addr->Bool}{G:aH}{a:Addr}(h:fb C S told G a=none):S a=none/\G a=none:=by
 unfold fb at h;split at h
 ·cases h
 ·next e=>exact ⟨e,h⟩
theorem vS{C:Addr}{S:dN}{told:Addr->Bool}{G:aH}{l:Addr}{o:ek}(h:S l=none):up (fb C S told G) l o=fb C S told (up G l o):=by
 funext b;unfold up fb;by_cases c:b=l
 ·subst c;rw [if_pos rfl,h];simp only [if_pos]
 ·rw [if_neg c];split
  ·rfl
  ·simp only [if_neg c]
theorem HR{C:Addr}{S:dN}{told:Addr->Bool}{G ak:aH}(h:Sub G ak):Sub (fb C S told G) (fb C S told ak):=λ a o e=>by
 unfold fb at e ⊢;split at e
 ·next z=>exact e
 ·next z=>exact h a o e
theorem vEq{C:Addr}{S:dN}{told:Addr->Bool}{G:aH}{a:Addr}{x:er}(h:S a=some x):up (fb C S told G) a (ky C x true)=fb C S (kx told a) G:=by
 funext b;unfold up fb kx;by_cases c:b=a
 ·subst c;rw [if_pos rfl,h];simp
 ·rw [if_neg c];split
  ·rw [if_neg c]
  ·rfl
def vT(C:Addr):di:=λ ds G Q=>∃(a:Addr)(t:Tm)(rs:List Addr)(d:D),ds=[.ref a,t.enc,d]/\G a=some (.ins C [])/\(d=.tup (rs.map D.ref)\/∃ l,d=.ref l/\G l=some (.lst (rs.map D.ref))/\rs.length<=1000)/\Q .br (up G a (.ins C [("part", t.enc),("row", .tup (rs.map D.ref)),("told", .br)]))
def BH(C:Addr):di:=λ ds G Q=>∃(S:dN)(rk:Addr->Nat)(told:Addr->Bool)(hp:aH)(a:Addr)(x:er),ds=[.ref a]/\rT S rk/\S a=some x/\G=fb C S told hp/\∀ l,G l=none->Q (.ref l) (up G l (.lst ((hh S told a).map D.ref)))
def BI(C T:Addr)(pos:Pos):di:=λ ds G Q=>∃(S:dN)(rk:Addr->Nat)(told:Addr->Bool)(hp:aH)(a:Addr)(x:er),ds=[.ref a]/\rT S rk/\S a=some x/\G=fb C S told hp/\hh S told a=[]/\S T=none/\hp T=some (.tab pos "Slip.read.<locals>.filled")/\Q .br (fb C S (kx told a) hp)
def BJ(C T:Addr)(pos:Pos):di:=λ ds G Q=>∃(S:dN)(rk:Addr->Nat)(told:Addr->Bool)(hp:aH)(a:Addr)(x:er),ds=[.ref a]/\rT S rk/\S a=some x/\G=fb C S told hp/\S T=none/\hp T=some (.tab pos "Slip.read.<locals>.filled")/\∀ hZ,Q x.c9.enc (fb C S hZ hp)
def g0(us:List Tm):Nat->Nat->Tm:=λ n w=>if w<=n then (match us[n - w]? with
 | some u=>u
 | none=>.name n) else .name n
inductive dK where
 | k_ (a:Addr) | first | second | plus (a:Addr) | i3 (n:Int) | look (a b:Addr) | both (a:Addr) | gP (a:Addr)
def dK.enc:dK->D
 | .k_ a=>.tup [.str "slip", .ref a]
 | .first=>.tup [.str "first"]
 | .second=>.tup [.str "second"]
 | .plus a=>.tup [.str "plus", .ref a]
 | .i3 n=>.tup [.str "had", .int n]
 | .look a b=>.tup [.str "look", .ref a,.ref b]
 | .both a=>.tup [.str "both", .ref a]
 | .gP a=>.tup [.str "beside", .ref a]
def dK.word:dK->Str
 | .k_ _=>"slip" | .first=>"first" | .second=>"second" | .plus _=>"plus" | .i3 _=>"had" | .look _ _=>"look" | .both _=>"both" | .gP _=>"beside"
def dK.refs:dK->List Addr
 | .k_ a=>[a] | .first=>[] | .second=>[] | .plus a=>[a] | .i3 _=>[] | .look a b=>[a,b] | .both a=>[a] | .gP a=>[a]
structure vU where
 here:Addr
 paired:Bool
 stack:List dK
 steps:Nat
 rules:Nat
 slips:Nat
 looks:Nat
structure bC where
 S:dN
 rk:Addr->Nat
 m:vU
def fH(S:dN)(p:Addr)(x:er):dN:=λ b=>if b=p then some x else S b
def mI(rk:Addr->Nat)(p:Addr)(n:Nat):Addr->Nat:=λ b=>if b=p then n else rk b
theorem iu{S:dN}{p:Addr}{x:er}:fH S p x p=some x:=by unfold fH;rw [if_pos rfl]
theorem oO{S:dN}{p b:Addr}{x:er}(h:b≠p):fH S p x b=S b:=by unfold fH;rw [if_neg h]
theorem oP{S:dN}{p b:Addr}{x y:er}(h:S p=none)(e:S b=some y):fH S p x b=some y:=by
 rw [oO (by rintro rfl;rw [h] at e;cases e)];exact e
def vV(rk:Addr->Nat):List Addr->Nat
 | []=>0
 | a::r=>max (rk a+1) (vV rk r)
def i4(S:dN)(t:Tm)(rs:List Addr):er:=⟨t,rs,t.d_ (ho S rs) 0⟩
def bC.add(c:bC)(p:Addr)(t:Tm)(rs:List Addr):bC:={ c with S:=fH c.S p (i4 c.S t rs),rk:=mI c.rk p (vV c.rk rs) }
def bC.alloc(c:bC)(t:Tm)(rs:List Addr)(k:Addr->bC->Prop):Prop:=∀ p,c.S p=none->k p (c.add p t rs)
theorem bC.alloc.mono{c:bC}{t:Tm}{rs:List Addr}{k ha:Addr->bC->Prop}(h:c.alloc t rs k)(f:∀ p c',k p c'->ha p c'):c.alloc t rs ha:=λ p aj=>f _ _ (h p aj)
def fV:Bool->Tm->List dK->Bool
 | true,_,.both _::_=>true
 | true,_,.gP _::_=>true
 | true,_,_=>false
 | false,.way _,.k_ _::_=>true
 | false,.way _,.both _::_=>true
 | false,.way _,.gP _::_=>true
 | false,.pair _ _,.first::_=>true
 | false,.pair _ _,.second::_=>true
 | false,.whole _,.plus _::_=>true
 | false,.whole _,.i3 _::_=>true
 | false,.whole _,.look _ _::_=>true
 | false,.whole _,.both _::_=>true
 | false,.whole _,.gP _::_=>true
 | _,_,_=>false
def p0:List dK->Bool
 | []=>true
 | .both _::_=>true
 | .gP _::_=>true
 | _=>false
def jW:Bool->Tm->List dK->Bool
 | p,.pair _ _,st=>!p&&p0 st
 | _,.give _ _,_=>true
 | _,.first _,_=>true
 | _,.second _,_=>true
 | _,.plus _ _,_=>true
 | _,.look _ _ _,_=>true
 | _,_,_=>false
def Tm.isName:Tm->Bool
 | .name _=>true
 | _=>false
def ju(p:Bool)(t:Tm)(st:List dK):Bool:=fV p t st||(jW p t st||t.isName)
def bC.t(c:bC):Tm:=match c.S c.m.here with
 | some x=>x.t
 | none=>.name 0
def bC.iv(c:bC):Bool:=ju c.m.paired c.t c.m.stack
def hq(c:bC)(x:er)(P:bC->Prop):Prop:=match c.m.stack with
 | []=>False
 | k::st=>match k,x.t with
  | .k_ a,.way b=>x.rs.length < 100000/\c.alloc b (a::x.rs) λ p c'=>P { c' with m:={ c.m with here:=p,paired:=false,stack:=st,rules:=c.m.rules+1 } }
  | .first,.pair a _=>c.alloc a x.rs λ p c'=>P { c' with m:={ c.m with here:=p,paired:=false,stack:=st,rules:=c.m.rules+1 } }
  | .second,.pair _ b=>c.alloc b x.rs λ p c'=>P { c' with m:={ c.m with here:=p,paired:=false,stack:=st,rules:=c.m.rules+1 } }
  | .plus u,.whole n=>P { c with m:={ c.m with here:=u,paired:=false,stack:=.i3 n::st } }
  | .i3 k,.whole n=>c.alloc (.whole (k+n)) [] λ p c'=>P { c' with m:={ c.m with here:=p,paired:=false,stack:=st,rules:=c.m.rules+1 } }
  | .look u v,.whole n=>P { c with m:={ c.m with here:=if n=0 then u else v,paired:=false,stack:=st,rules:=c.m.rules+1 } }
  | .both u,_=>P { c with m:={ c.m with here:=u,paired:=false,stack:=.gP c.m.here::st } }
  | .gP a,_=>c.alloc (.pair (.name 0) (.name 1)) [a,c.m.here] λ p c'=>P { c' with m:={ c.m with here:=p,paired:=true,stack:=st } }
  | _,_=>False
def bC.i5:bC->List Tm->List Addr->(List Addr->bC->Prop)->Prop
 | c,[],_,k=>k [] c
 | c,t::dZ,rs,k=>c.alloc t rs λ p c1=>c1.i5 dZ rs λ ps c2=>k (p::ps) c2
def Tm.tn:Tm->Bool
 | .give _ _=>true
 | _=>false
def oQ:Tm->List Addr->dK
 | .first _,_=>.first
 | .second _,_=>.second
 | .give _ _,[q]=>.k_ q
 | .plus _ _,[q]=>.plus q
 | .pair _ _,[q]=>.both q
 | .look _ _ _,[q,r]=>.look q r
 | _,_=>.first
def la(c:bC)(x:er)(P:bC->Prop):Prop:=match x.t.aL with
 | []=>False
 | u::dZ=>c.i5 dZ x.rs λ aZ c1=>c1.alloc u x.rs λ p c'=>P { c' with m:={ c.m with here:=p,stack:=oQ x.t aZ::c.m.stack,slips:=c.m.slips+(if x.t.tn then 1 else 0) } }
def bC.tick(c:bC):bC:={ c with m:={ c.m with steps:=c.m.steps+1 } }
def iw(c:bC)(P:bC->Prop):Prop:=match c.S c.m.here with
 | none=>False
 | some x=>match x.t with
  | .name n=>match x.rs[n]? with
   | some r=>P { c.tick with m:={ c.tick.m with here:=r,looks:=c.m.looks+1 } }
   | none=>False
  | _=>if fV c.m.paired x.t c.m.stack=true then hq c.tick x P else la c.tick x P
def After:Nat->bC->(bC->Prop)->Prop
 | 0,c,P=>P c
 | n+1,c,P=>c.iv=true/\iw c λ c'=>After n c' P
structure lb(S:dN)(rk:Addr->Nat):Prop where
 sub:∀ a x,S a=some x->∀ r∈x.rs,(∃ y,S r=some y)/\rk r < rk a
 nm:∀ a x,S a=some x->∀ z∈x.t.dn 0,z.2<=z.1->z.1 - z.2 < x.rs.length
 aR:∀ a x,S a=some x->x.t.aR<=100
 c9:∀ a x,S a=some x->x.c9=x.t.d_ (ho S x.rs) 0
theorem lb.ok{S:dN}{rk:Addr->Nat}(h:lb S rk)(top:∀ a x,S a=some x->rk a<=1000):rT S rk:=⟨h.sub,h.nm,h.aR,h.c9,top⟩
theorem HS{rk:Addr->Nat}:∀{rs:List Addr}{r:Addr},r∈rs->rk r < vV rk rs
 | a::rs,r,h=>by
  rcases ea.mp h with rfl | h
  ·exact h7 (n5 _) (Nat.le_max_left _ _)
  ·exact h7 (HS h) (Nat.le_max_right _ _)
theorem HT{S:dN}{p:Addr}{x:er}{rs:List Addr}(h:S p=none)(ap:∀ r∈rs,∃ y,S r=some y):ho (fH S p x) rs=ho S rs:=by
 funext n w;unfold ho;split
 ·cases e:rs[n - w]? with
  | none=>rfl
  | some r=>
   obtain ⟨y,aQ⟩:=ap r (kJ e);show nP (fH S p x) r=nP S r;unfold nP;rw [oP h aQ,aQ]
 ·rfl
theorem lb.add{c:bC}{p:Addr}{t:Tm}{rs:List Addr}(h:lb c.S c.rk)(aj:c.S p=none)(ap:∀ r∈rs,∃ y,c.S r=some y)(bc:∀ z∈t.dn 0,z.2<=z.1->z.1 - z.2 < rs.length)(hz:t.aR<=100):lb (c.add p t rs).S (c.add p t rs).rk where
 sub:=λ a x e r lQ=>by
  have BK:∀ r,(∃ y,c.S r=some y)->mI c.rk p (vV c.rk rs) r=c.rk r:=λ r ⟨y,aQ⟩=>by unfold mI;rw [if_neg (by rintro rfl;rw [aj] at aQ;cases aQ)]
  show (∃ y,fH c.S p _ r=some y)/\mI c.rk p _ r < mI c.rk p _ a;by_cases ca:a=p
  ·subst ca;rw [show (c.add a t rs).S=fH c.S a (i4 c.S t rs) from rfl,iu] at e;cases e;obtain ⟨y,aQ⟩:=ap r lQ;refine ⟨⟨y,oP aj aQ⟩,?_⟩;rw [BK r ⟨y,aQ⟩];show _ < mI c.rk a _ a;unfold mI;rw [if_pos rfl];exact HS lQ
  ·rw [show (c.add p t rs).S=fH c.S p (i4 c.S t rs) from rfl,oO ca] at e;obtain ⟨⟨y,aQ⟩,aC⟩:=h.sub a x e r lQ;exact ⟨⟨y,oP aj aQ⟩,by rw [BK r ⟨y,aQ⟩,BK a ⟨x,e⟩];exact aC⟩
 nm:=λ a x e=>by
  by_cases ca:a=p
  ·subst ca;rw [show (c.add a t rs).S=fH c.S a (i4 c.S t rs) from rfl,iu] at e;cases e;exact bc
  ·rw [show (c.add p t rs).S=fH c.S p (i4 c.S t rs) from rfl,oO ca] at e;exact h.nm a x e
 aR:=λ a x e=>by
  by_cases ca:a=p
  ·subst ca;rw [show (c.add a t rs).S=fH c.S a (i4 c.S t rs) from rfl,iu] at e;cases e;exact hz
  ·rw [show (c.add p t rs).S=fH c.S p (i4 c.S t rs) from rfl,oO ca] at e;exact h.aR a x e
 c9:=λ a x e=>by
  show x.c9=x.t.d_ (ho (fH c.S p _) x.rs) 0;by_cases ca:a=p
  ·subst ca;rw [show (c.add a t rs).S=fH c.S a (i4 c.S t rs) from rfl,iu] at e;cases e;show t.d_ (ho c.S rs) 0=t.d_ (ho (fH c.S a _) rs) 0;rw [HT aj ap]
  ·rw [show (c.add p t rs).S=fH c.S p (i4 c.S t rs) from rfl,oO ca] at e;rw [HT aj λ r lQ=>(h.sub a x e r lQ).1];exact h.c9 a x e
def oR(lm:Addr)(m:vU):List (Str × D):=[("here", .ref m.here),("paired", .aO m.paired),("stack", .ref lm),("steps_done", .int m.steps),("rules_done", .int m.rules),("slips_made", .int m.slips),("looked_up", .int m.looks)]
structure cN(C dr:Addr)(G:aH)(a lm:Addr)(c:bC):Prop where
 im:G a=some (.ins dr (oR lm c.m))
 g4:G lm=some (.lst (c.m.stack.reverse.map dK.enc))
 b6:∀ b x,c.S b=some x->∃ bG,G b=some (ky C x bG)
 aB:∃ x,c.S c.m.here=some x
 ms:∀ k∈c.m.stack,∀ b∈k.refs,∃ x,c.S b=some x
 sw:lb c.S c.rk
def Fr(a lm:Addr)(G ak:aH):Prop:=∀ b o,b≠a->b≠lm->G b=some o->ak b=some o
theorem Fr.refl{a lm:Addr}{G:aH}:Fr a lm G G:=λ _ _ _ _ h=>h
theorem Fr.trans{a lm:Addr}{G av aU:aH}(h:Fr a lm G av)(k:Fr a lm av aU):Fr a lm G aU:=λ b o eV dx e=>k b o eV dx (h b o eV dx e)
theorem Fr.a{a lm:Addr}{G:aH}{o:ek}:Fr a lm G (up G a o):=λ b dR eV _ e=>by rw [bv eV];exact e
theorem Fr.l{a lm:Addr}{G:aH}{o:ek}:Fr a lm G (up G lm o):=λ b dR _ dx e=>by rw [bv dx];exact e
theorem Fr.new{a lm p:Addr}{G:aH}{o:ek}(h:G p=none):Fr a lm G (up G p o):=λ b dR _ _ e=>by rw [bv (by rintro rfl;rw [h] at e;cases e)];exact e
section
variable{C dr:Addr}{G ak:aH}{a lm p:Addr}{c:bC}
theorem cN.ne(h:cN C dr G a lm c):a≠lm:=by rintro rfl;have:=h.im;rw [h.g4] at this;cases this
theorem cN.nl{x:er}(h:cN C dr G a lm c)(e:c.S p=some x):p≠lm:=by
 rintro rfl;obtain ⟨bG,z⟩:=h.b6 _ _ e;rw [h.g4] at z;cases z
theorem cN.na{x:er}(h:cN C dr G a lm c)(e:c.S p=some x):p≠a:=by
 rintro rfl;obtain ⟨bG,z⟩:=h.b6 _ _ e;rw [h.im] at z;simp only [ky,oR,gb.injEq,ek.ins.injEq,List.cons.injEq,Prod.mk.injEq] at z;exact absurd z.2.1.1 (by decide)
theorem cN.fresh(h:cN C dr G a lm c)(e:G p=none):c.S p=none:=by
 cases q:c.S p with
 | none=>rfl
 | some x=>obtain ⟨bG,z⟩:=h.b6 _ _ q;rw [e] at z;cases z
theorem cN.ld(h:cN C dr G a lm c){m:vU}(hy:m.stack=c.m.stack)(gF:∃ x,c.S m.here=some x):cN C dr (up G a (.ins dr (oR lm m))) a lm { c with m:=m } where
 im:=aG
 g4:=by rw [bv (Ne.symm h.ne)];show G lm=some (.lst (m.stack.reverse.map dK.enc));rw [hy];exact h.g4
 b6:=λ b x e=>by rw [bv (h.na e)];exact h.b6 b x e
 aB:=gF
 ms:=by show ∀ k∈m.stack,_;rw [hy];exact h.ms
 sw:=h.sw
theorem cN.putL(h:cN C dr G a lm c){st:List dK}(hm:∀ k∈st,∀ b∈k.refs,∃ x,c.S b=some x):cN C dr (up G lm (.lst (st.reverse.map dK.enc))) a lm { c with m:={ c.m with stack:=st } } where
 im:=by rw [bv h.ne];exact h.im
 g4:=aG
 b6:=λ b x e=>by rw [bv (h.nl e)];exact h.b6 b x e
 aB:=h.aB
 ms:=hm
 sw:=h.sw
theorem cN.new(h:cN C dr G a lm c)(e:G p=none){o:ek}:cN C dr (up G p o) a lm c where
 im:=by rw [bv (by rintro rfl;rw [h.im] at e;cases e)];exact h.im
 g4:=by rw [bv (by rintro rfl;rw [h.g4] at e;cases e)];exact h.g4
 b6:=λ b x z=>by
  obtain ⟨bG,w⟩:=h.b6 b x z;exact ⟨bG,by rw [bv (by rintro rfl;rw [e] at w;cases w)];exact w⟩
 aB:=h.aB
 ms:=h.ms
 sw:=h.sw
theorem cN.add(h:cN C dr G a lm c)(e:G p=none){t:Tm}{rs:List Addr}(ap:∀ r∈rs,∃ y,c.S r=some y)(bc:∀ z∈t.dn 0,z.2<=z.1->z.1 - z.2 < rs.length)(hz:t.aR<=100) :
 cN C dr (up G p (ky C (i4 c.S t rs) false)) a lm (c.add p t rs) where
 im:=(h.new e).im
 g4:=(h.new e).g4
 b6:=λ b x z=>by
  have fp:=h.fresh e;by_cases hn:b=p
  ·subst hn;rw [show (c.add b t rs).S=fH c.S b (i4 c.S t rs) from rfl,iu] at z;cases z;exact ⟨false,aG⟩
  ·rw [show (c.add p t rs).S=fH c.S p (i4 c.S t rs) from rfl,oO hn] at z;exact (h.new e (o:=ky C (i4 c.S t rs) false)).b6 b x z
 aB:=let ⟨x,aq⟩:=h.aB;⟨x,oP (h.fresh e) aq⟩
 ms:=λ k aC b ag=>let ⟨x,aq⟩:=h.ms k aC b ag;⟨x,oP (h.fresh e) aq⟩
 sw:=h.sw.add (h.fresh e) ap bc hz
end
section
variable(C dr:Addr)
def jv:List dK->D
 | []=>.br
 | k::_=>.str k.word
def kz(c:bC):Str:=if c.iv then "going" else if c.m.stack.isEmpty then "answer" else "stuck"
def lf(f:vU->D):di:=λ ds G Q=>∃ a lm c,ds=[.ref a]/\cN C dr G a lm c/\Q (f c.m) G
def yO:di:=λ ds G Q=>∃ a lm c,ds=[.ref a]/\cN C dr G a lm c/\Q (jv c.m.stack) G
def yP:di:=λ ds G Q=>∃ a lm c,ds=[.ref a]/\cN C dr G a lm c/\Q (.aO (fV c.m.paired c.t c.m.stack)) G
def BL:di:=λ ds G Q=>∃ a lm c,ds=[.ref a]/\cN C dr G a lm c/\Q (.aO (jW c.m.paired c.t c.m.stack)) G
def vW:di:=λ ds G Q=>∃ a lm c,ds=[.ref a]/\cN C dr G a lm c/\Q (.str (kz c)) G
def yQ:di:=λ ds G Q=>∃(a lm:Addr)(c:bC)(x:er)(k:Nat)(u:Tm),ds=[.ref a,.int (k+1)]/\cN C dr G a lm c/\c.S c.m.here=some x/\x.t.aL[k]?=some u/\x.t.leaf=false/\∀ p,G p=none->Q (.ref p) (up G p (ky C (i4 c.S u x.rs) false))
def BM:di:=λ ds G Q=>∃ a lm c x n r,ds=[.ref a]/\cN C dr G a lm c/\c.S c.m.here=some x/\x.t=.name n/\x.rs[n]?=some r/\Q .br (up G a (.ins dr (oR lm { c.m with here:=r,looks:=c.m.looks+1 })))
def BN:di:=λ ds G Q=>∃ a lm c x,ds=[.ref a]/\cN C dr G a lm c/\c.S c.m.here=some x/\jW c.m.paired x.t c.m.stack=true/\c.m.stack.length < 100000/\la c x λ c'=>∀ ak,cN C dr ak a lm c'->Fr a lm G ak->Q .br ak
def BO(c:bC)(x:er)(k:dK)(P:Addr->bC->Prop):Prop:=match k,x.t with
 | .k_ a,.way b=>x.rs.length < 100000/\c.alloc b (a::x.rs) P
 | .first,.pair a _=>c.alloc a x.rs P
 | .second,.pair _ b=>c.alloc b x.rs P
 | .plus u,_=>P u c
 | .i3 k,.whole n=>c.alloc (.whole (k+n)) [] P
 | .look u v,.whole n=>P (if n=0 then u else v) c
 | .both u,_=>P u c
 | .gP a,_=>c.alloc (.pair (.name 0) (.name 1)) [a,c.m.here] P
 | _,_=>False
def BP:di:=λ ds G Q=>∃ a lm c x k,ds=[.ref a,k.enc]/\cN C dr G a lm c/\c.S c.m.here=some x/\(∀ b∈k.refs,∃ y,c.S b=some y)/\BO c x k λ r c'=>∀ ak,cN C dr ak a lm c'->Fr a lm G ak->Q (.ref r) ak
def BQ:di:=λ ds G Q=>∃ a lm c x,ds=[.ref a]/\cN C dr G a lm c/\c.S c.m.here=some x/\fV c.m.paired x.t c.m.stack=true/\c.m.stack.length < 100000/\hq c x λ c'=>∀ ak,cN C dr ak a lm c'->Fr a lm G ak->Q .br ak
def yR:di:=λ ds G Q=>∃ a lm c,ds=[.ref a]/\cN C dr G a lm c/\c.m.stack.length < 100000/\(c.iv=true->iw c λ c'=>∀ ak,cN C dr ak a lm c'->Fr a lm G ak->Q (.aO true) ak)/\(c.iv=false->Q (.aO false) G)
def BR:di:=λ ds G Q=>∃ a t,ds=[.ref a,t.enc]/\G a=some (.ins dr [])/\(∀ z∈t.dn 0,¬ z.2<=z.1)/\t.aR<=100 ∧
 ∀ p lm ak,cN C dr ak a lm ⟨fH (λ _=>none) p ⟨t,[],t⟩,λ _=>0,⟨p,false,[],0,0,0,0⟩⟩->(∀ b o,b≠a->G b=some o->ak b=some o)->Q .br ak
def BS(T:Addr)(dF:Pos):di:=λ ds G Q=>∃ a lm c x,ds=[.ref a]/\cN C dr G a lm c/\c.S c.m.here=some x/\c.m.stack=[]/\(∀ b y,c.S b=some y->c.rk b<=1000)/\G T=some (.tab dF "Slip.read.<locals>.filled") ∧
 ∀ ak,cN C dr ak a lm c->(∀ b o,c.S b=none->G b=some o->ak b=some o)->Q x.c9.enc ak
end
def nR(z:Str):Option D:=if z = "way" then some (.tup [.str "slip", .str "both", .str "beside"]) else if z = "pair" then some (.tup [.str "first", .str "second"]) else if z = "whole" then some (.tup [.str "plus", .str "had", .str "look", .str "both", .str "beside"]) else none
def kA(z:Str):Option D:=if z = "give" then some (.str "slip") else if z = "first" then some (.str "first") else if z = "second" then some (.str "second") else if z = "plus" then some (.str "plus") else if z = "look" then some (.str "look") else if z = "pair" then some (.str "both") else none
theorem dV{fs:List (Str × D)}{f:Str}{d:D}{k:D->Prop}(h:fs.lookup f=some d)(q:k d):rQ fs f k:=by unfold rQ;rw [h];exact q
theorem Tm.HU{t:Tm}(h:t.leaf=false):t.enc=.tup (.str t.word::t.aL.map Tm.enc):=by cases t<;>first | rfl | cases h
theorem yS{t:Tm}{G:aH}{Q:da}(q:Q (.str t.word) G):ru t.enc (.int 0) G Q:=by cases t<;>exact iH rfl q
theorem BT(st:List dK):jP (jv st)=true:=by cases st<;>rfl
theorem ST(t:Tm)(st:List dK):iI (jv st) [.str "both", .str "beside"]=fV true t st:=by
 cases st with
 | nil=>simp [iI,lL,jv,fV]
 | cons k st=>cases k<;>simp [iI,lL,jv,dK.word,fV,hH,nK]
theorem SU(st:List dK):iI (jv st) [.br,.str "both", .str "beside"]=p0 st:=by
 cases st with
 | nil=>simp [iI,lL,jv,p0]
 | cons k st=>cases k<;>simp [iI,lL,jv,dK.word,p0,hH,nK]
theorem SV(t:Tm):∃ ds,(nR t.word).getD (.tup [])=.tup ds/\ds.all jP=true/\∀ st,iI (jv st) ds=fV false t st:=by
 cases t
 case way=>
  refine ⟨[.str "slip", .str "both", .str "beside"],by simp [nR,Tm.word,hH],rfl,λ st=>?_⟩
  cases st with
  | nil=>simp [iI,lL,jv,fV]
  | cons k st=>cases k<;>simp [iI,lL,jv,dK.word,fV,hH,nK]
 case pair=>
  refine ⟨[.str "first", .str "second"],by simp [nR,Tm.word,hH],rfl,λ st=>?_⟩
  cases st with
  | nil=>simp [iI,lL,jv,fV]
  | cons k st=>cases k<;>simp [iI,lL,jv,dK.word,fV,hH,nK]
 case whole=>
  refine ⟨[.str "plus", .str "had", .str "look", .str "both", .str "beside"],by simp [nR,Tm.word,hH],rfl,λ st=>?_⟩
  cases st with
  | nil=>simp [iI,lL,jv,fV]
  | cons k st=>cases k<;>simp [iI,lL,jv,dK.word,fV,hH,nK]
 all_goals exact ⟨[],by simp [nR,Tm.word,hH],rfl,λ st=>by simp [iI,fV]⟩
theorem SW{t:Tm}(h:∀ a b,t≠.pair a b)(p:Bool)(st:List dK):(kA t.word).isSome=jW p t st:=by
 cases t<;>first | (simp [kA,Tm.word,hH,jW];done) | exact absurd rfl (h _ _)
theorem HV(t:Tm):fT (.str t.word) (.str "pair")=true ↔ ∃ a b,t=.pair a b:=by
 cases t<;>simp [Tm.word,fT,hH,nK]
theorem yT(t:Tm):fT (.str t.word) (.str "name")=t.isName:=by
 cases t<;>simp [Tm.word,fT,hH,nK,Tm.isName]
theorem bC.i5.mono:∀{c:bC}{dZ:List Tm}{rs:List Addr}{k ha:List Addr->bC->Prop},c.i5 dZ rs k->(∀ p c',k p c'->ha p c')->c.i5 dZ rs ha
 | _,[],_,_,_,h,f=>f _ _ h
 | _,_::_,_,_,_,h,f=>λ p aj=>bC.i5.mono (h p aj) λ ps c'=>f (p::ps) c'
theorem la.mono{c:bC}{x:er}{P mJ:bC->Prop}(h:la c x P)(f:∀ c',P c'->mJ c'):la c x mJ:=by
 unfold la at h ⊢;split at h
 ·exact h
 ·exact bC.i5.mono h λ aZ c1 af=>af.mono λ p c' ao=>f _ ao
theorem hq.mono{c:bC}{x:er}{P mJ:bC->Prop}(h:hq c x P)(f:∀ c',P c'->mJ c'):hq c x mJ:=by
 unfold hq at h ⊢;split at h
 ·exact h
 ·split at h<;>first | exact h.elim | exact bC.alloc.mono h λ p c' ao=>f _ ao | exact f _ h | exact ⟨h.1,bC.alloc.mono h.2 λ p c' ao=>f _ ao⟩
theorem iw.mono{c:bC}{P mJ:bC->Prop}(h:iw c P)(f:∀ c',P c'->mJ c'):iw c mJ:=by
 unfold iw at h ⊢;split at h
 ·exact h
 ·split at h
  ·split at h
   ·exact f _ h
   ·exact h
  ·split at h
   ·next hm=>rw [if_pos hm];exact hq.mono h f
   ·next hm=>rw [if_neg hm];exact la.mono h f
theorem After.mono:∀{n:Nat}{c:bC}{P mJ:bC->Prop},After n c P->(∀ c',P c'->mJ c')->After n c mJ
 | 0,_,_,_,h,f=>f _ h
 | _+1,_,_,_,⟨g,h⟩,f=>⟨g,h.mono λ _ h'=>After.mono h' f⟩
theorem After.add:∀{n m:Nat}{c:bC}{P:bC->Prop},After n c (λ c'=>After m c' P)->After (n+m) c P
 | 0,m,_,_,h=>by rw [Nat.zero_add];exact h
 | n+1,m,_,_,⟨g,h⟩=>by rw [Nat.succ_add];exact ⟨g,h.mono λ _ h'=>After.add h'⟩
theorem HW(c:bC):(kz c=="going")=c.iv:=by
 unfold kz
 cases c.iv with
 | true=>rfl
 | false=>cases c.m.stack.isEmpty<;>rfl
theorem cN.told{C dr:Addr}{G:aH}{a lm:Addr}{c:bC}(M:cN C dr G a lm c):∃ told:Addr->Bool,G=fb C c.S told G:=by
 have h:∀ b,∃ bG,∀ x,c.S b=some x->G b=some (ky C x bG):=λ b=>by
  cases e:c.S b with
  | none=>exact ⟨false,λ x z=>by cases z⟩
  | some y=>obtain ⟨bG,z⟩:=M.b6 b y e;exact ⟨bG,λ x w=>by cases w;exact z⟩
 obtain ⟨told,bt⟩:=Classical.axiomOfChoice h;refine ⟨told,funext λ b=>?_⟩;unfold fb
 cases e:c.S b with
 | none=>rfl
 | some x=>exact bt b x e
theorem cN.oc{C dr:Addr}{G:aH}{a lm:Addr}{c:bC}(M:cN C dr G a lm c):c.S a=none:=by
 cases e:c.S a with
 | none=>rfl
 | some x=>exact absurd rfl (M.na e)
theorem cN.SX{C dr:Addr}{G:aH}{a lm:Addr}{c:bC}(M:cN C dr G a lm c):c.S lm=none:=by
 cases e:c.S lm with
 | none=>rfl
 | some x=>exact absurd rfl (M.nl e)
theorem cN.tell{C dr:Addr}{G:aH}{a lm:Addr}{c:bC}(M:cN C dr G a lm c)(told:Addr->Bool):cN C dr (fb C c.S told G) a lm c:=
 ⟨by rw [pZ M.oc];exact M.im,by rw [pZ M.SX];exact M.g4,λ b x e=>⟨told b,i2 e⟩,M.aB,M.ms,M.sw⟩
theorem cN.SY{C dr:Addr}{G:aH}{a lm T:Addr}{dF:Pos}{q:Str}{c:bC}(M:cN C dr G a lm c)(h:G T=some (.tab dF q)):c.S T=none:=by
 cases e:c.S T with
 | none=>rfl
 | some x=>obtain ⟨bG,z⟩:=M.b6 _ _ e;rw [h] at z;cases z
theorem lg{S:dN}{rs:List Addr}:∀{t:Tm}{w:Nat},(∀ z∈t.dn w,¬ z.2<=z.1)->t.d_ (ho S rs) w=t
 | .name n,w,h=>by
  show ho S rs n w=.name n;unfold ho;rw [if_neg (h (n,w) (f7 ..))]
 | .whole _,_,_=>rfl
 | .way t,w,h=>by show Tm.way _=_;rw [lg (t:=t) (w:=w+1) h]
 | .first t,w,h=>by show Tm.first _=_;rw [lg (t:=t) (w:=w) h]
 | .second t,w,h=>by show Tm.second _=_;rw [lg (t:=t) (w:=w) h]
 | .give t u,w,h=>by
  show Tm.give _ _=_;rw [lg (t:=t) (w:=w) λ z hz=>h z (eu _ hz),lg (t:=u) (w:=w) λ z hz=>h z (lv _ hz)]
 | .pair t u,w,h=>by
  show Tm.pair _ _=_;rw [lg (t:=t) (w:=w) λ z hz=>h z (eu _ hz),lg (t:=u) (w:=w) λ z hz=>h z (lv _ hz)]
 | .plus t u,w,h=>by
  show Tm.plus _ _=_;rw [lg (t:=t) (w:=w) λ z hz=>h z (eu _ hz),lg (t:=u) (w:=w) λ z hz=>h z (lv _ hz)]
 | .look t u v,w,h=>by
  show Tm.look _ _ _=_;rw [lg (t:=t) (w:=w) λ z hz=>h z (eu _ (eu _ hz)),lg (t:=u) (w:=w) λ z hz=>h z (eu _ (lv _ hz)),lg (t:=v) (w:=w) λ z hz=>h z (lv _ hz)]
theorem dt{a b:String}(h:(a==b)=false):id (Str.ofString a==Str.ofString b)=false:=by rw [id,nK];exact h
theorem sEq(a:String):id (Str.ofString a==Str.ofString a)=true:=by rw [id,nK];exact beq_self_eq_true a
theorem lh:∀(t:Tm)(w:Nat),t.dn (w+1)=(t.dn w).map λ z=>(z.1,z.2+1)
 | .name _,_=>rfl
 | .whole _,_=>rfl
 | .way t,w=>lh t (w+1)
 | .first t,w=>lh t w
 | .second t,w=>lh t w
 | .give t u,w=>by show u.dn (w+1)++t.dn (w+1)=_;rw [lh t w,lh u w,<- ff];rfl
 | .pair t u,w=>by show u.dn (w+1)++t.dn (w+1)=_;rw [lh t w,lh u w,<- ff];rfl
 | .plus t u,w=>by show u.dn (w+1)++t.dn (w+1)=_;rw [lh t w,lh u w,<- ff];rfl
 | .look t u v,w=>by show v.dn (w+1)++(u.dn (w+1)++t.dn (w+1))=_;rw [lh t w,lh u w,lh v w,<- ff,<- ff];rfl
def Tm.BU:Tm->Bool
 | .way _=>true
 | _=>false
def vX(S:dN)(t:Tm)(rs:List Addr):Prop:=(∀ r∈rs,∃ y,S r=some y)/\(∀ z∈t.dn 0,z.2<=z.1->z.1 - z.2 < rs.length)/\t.aR<=100
theorem lb.aL{S:dN}{rk:Addr->Nat}(h:lb S rk){b:Addr}{x:er}(aq:S b=some x){u:Tm}(bx:u∈x.t.aL)(hw:x.t.BU=false):vX S u x.rs:=by
 refine ⟨λ r ap=>(h.sub b x aq r ap).1,λ z hz=>h.nm b x aq z ?_,e5 ?_ (h.aR b x aq)⟩
 ·obtain ⟨t,rs,c9⟩:=x;cases t<;>simp only [Tm.aL,Tm.BU,ea,m1,or_false] at bx hw
  case way=>cases hw
  case first=>subst bx;exact hz
  case second=>subst bx;exact hz
  case give=>rcases bx with rfl | rfl;exact eu _ hz;exact lv _ hz
  case pair=>rcases bx with rfl | rfl;exact eu _ hz;exact lv _ hz
  case plus=>rcases bx with rfl | rfl;exact eu _ hz;exact lv _ hz
  case look=>rcases bx with rfl | rfl | rfl;exact eu _ (eu _ hz);exact eu _ (lv _ hz);exact lv _ hz
 ·obtain ⟨t,rs,c9⟩:=x;cases t<;>simp only [Tm.aL,ea,m1,or_false] at bx<;>(try (rcases bx with rfl | rfl | rfl))<;>(try (rcases bx with rfl | rfl))<;>(try subst bx)<;>simp only [Tm.aR]<;>omega
theorem lb.body{S:dN}{rk:Addr->Nat}(h:lb S rk){b a:Addr}{t:Tm}{rs:List Addr}{d:Tm}(aq:S b=some ⟨.way t,rs,d⟩)(au:∃ y,S a=some y):vX S t (a::rs):=by
 refine ⟨λ r ap=>?_,λ z hz hw=>?_,?_⟩
 ·rcases ea.mp ap with rfl | ap
  ·exact au
  ·exact (h.sub b _ aq r ap).1
 ·have bF:(z.1,z.2+1)∈(Tm.way t).dn 0:=by show _∈t.dn (0+1);rw [lh];exact h4.mpr ⟨z,hz,rfl⟩
  have:=h.nm b _ aq _ bF;simp only [eb] at this ⊢;by_cases c:z.2+1<=z.1
  ·have:=this c;omega
  ·omega
 ·have:=h.aR b _ aq;simp only [Tm.aR] at this;omega
theorem SZ{S:dN}{k:Int}:vX S (.whole k) []:=⟨λ r h=>(by cases h),λ z h=>(by cases h),show 1<=100 by decide⟩
theorem S0{S:dN}{a b:Addr}(au:∃ y,S a=some y)(ag:∃ y,S b=some y):vX S (.pair (.name 0) (.name 1)) [a,b]:=by
 refine ⟨λ r h=>?_,λ z h hw=>?_,by decide⟩
 ·rcases ea.mp h with rfl | h
  ·exact au
  ·rw [pc.mp h];exact ag
 ·have:z=(1,0)\/z=(0,0):=by simpa [Tm.dn] using h
  rcases this with rfl | rfl
  ·show 1 < 2;decide
  ·show 0 < 2;decide
theorem cN.adds{C dr:Addr}{G:aH}{a lm p:Addr}{c:bC}(h:cN C dr G a lm c)(e:G p=none){t:Tm}{rs:List Addr}(k:vX c.S t rs):cN C dr (up G p (ky C (i4 c.S t rs) false)) a lm (c.add p t rs):=h.add e k.1 k.2.1 k.2.2
theorem lEq{p:Bool}{t:Tm}{st:List dK}(h:jW p t st=true):t.leaf=false/\t.BU=false/\(∃ u dZ,t.aL=u::dZ/\dZ.length<=2) ∧
 ∃ s:Str,kA t.word=some (.str s)/\∀ aZ:List Addr,aZ.length+1=t.aL.length->(oQ t aZ).enc=.tup (.str s::aZ.map D.ref)/\(oQ t aZ).refs=aZ:=by
 cases t with
 | name _=>simp [jW] at h
 | whole _=>simp [jW] at h
 | way _=>simp [jW] at h
 | first u=>exact ⟨rfl,rfl,⟨u,[],rfl,by simp⟩,"first", by simp [kA,Tm.word,hH],λ aZ bn=>by cases aZ with | nil=>exact ⟨rfl,rfl⟩ | cons _ _=>simp [Tm.aL] at bn⟩
 | second u=>exact ⟨rfl,rfl,⟨u,[],rfl,by simp⟩,"second", by simp [kA,Tm.word,hH],λ aZ bn=>by cases aZ with | nil=>exact ⟨rfl,rfl⟩ | cons _ _=>simp [Tm.aL] at bn⟩
 | give u v=>exact ⟨rfl,rfl,⟨u,[v],rfl,by simp⟩,"slip", by simp [kA,Tm.word,hH],λ aZ bn=>by
  match aZ,bn with
  | [q],_=>exact ⟨rfl,rfl⟩
  | [],bn=>simp [Tm.aL] at bn
  | _::_::_,bn=>simp [Tm.aL] at bn⟩
 | pair u v=>exact ⟨rfl,rfl,⟨u,[v],rfl,by simp⟩,"both", by simp [kA,Tm.word,hH],λ aZ bn=>by
  match aZ,bn with
  | [q],_=>exact ⟨rfl,rfl⟩
  | [],bn=>simp [Tm.aL] at bn
  | _::_::_,bn=>simp [Tm.aL] at bn⟩
 | plus u v=>exact ⟨rfl,rfl,⟨u,[v],rfl,by simp⟩,"plus", by simp [kA,Tm.word,hH],λ aZ bn=>by
  match aZ,bn with
  | [q],_=>exact ⟨rfl,rfl⟩
  | [],bn=>simp [Tm.aL] at bn
  | _::_::_,bn=>simp [Tm.aL] at bn⟩
 | look u v w=>exact ⟨rfl,rfl,⟨u,[v,w],rfl,by simp⟩,"look", by simp [kA,Tm.word,hH],λ aZ bn=>by
  match aZ,bn with
  | [q,r],_=>exact ⟨rfl,rfl⟩
  | [],bn=>simp [Tm.aL] at bn
  | [_],bn=>simp [Tm.aL] at bn
  | _::_::_::_,bn=>simp [Tm.aL] at bn⟩
theorem HX(t:Tm):fT (.str t.word) (.str "give")=t.tn:=by
 cases t<;>simp [Tm.word,fT,hH,nK,Tm.tn]
theorem S1{c:bC}{x:er}{P:bC->Prop}(aq:c.S c.m.here=some x)(bc:x.t.isName=false)(h:if fV c.m.paired x.t c.m.stack=true then hq c.tick x P else la c.tick x P):iw c P:=by
 unfold iw;rw [aq];obtain ⟨t,rs,c9⟩:=x;cases t<;>first | exact h | cases bc
theorem bC.yU{c:bC}{x:er}(aq:c.S c.m.here=some x):c.t=x.t:=by unfold bC.t;rw [aq]
theorem kB{c:bC}{x:er}{P:bC->Prop}(aq:c.S c.m.here=some x)(bc:x.t.isName=false)(a0:ju c.m.paired x.t c.m.stack=true)(h:if fV c.m.paired x.t c.m.stack=true then hq c.tick x P else la c.tick x P):After 1 c P:=
 ⟨by unfold bC.iv;rw [bC.yU aq];exact a0,S1 aq bc h⟩
theorem iw.more{c:bC}{P:bC->Prop}(h:iw c P):iw c λ c'=>P c'/\c'.m.stack.length<=c.m.stack.length+1/\c'.m.steps=c.m.steps+1:=by
 unfold iw at h ⊢;split at h
 ·exact h
 ·split at h
  ·split at h
   ·exact ⟨h,f_ _,rfl⟩
   ·exact h
  ·split at h
   ·next hm=>
    rw [if_pos hm];unfold hq at h ⊢;have aw:c.tick.m.stack=c.m.stack:=rfl;split at h
    ·exact h
    ·next k st e=>
     have lR:c.m.stack.length=st.length+1:=by rw [<- aw,e];rfl
     split at h<;>first | exact h.elim | exact λ p aj=>⟨h p aj,by show st.length<=_;omega,rfl⟩ | exact ⟨h,by show st.length<=_;omega,rfl⟩ | exact ⟨h,by show st.length+1<=_;omega,rfl⟩ | exact ⟨h.1,λ p aj=>⟨h.2 p aj,by show st.length<=_;omega,rfl⟩⟩
   ·next hm=>
    rw [if_neg hm];unfold la at h ⊢;split at h
    ·exact h
    ·exact bC.i5.mono h λ aZ c1 af=>af.mono λ p c' ao=>⟨ao,b7 _,rfl⟩
def oS(p:Addr)(t:Tm):bC:=⟨fH (λ _=>none) p ⟨t,[],t⟩,λ _=>0,⟨p,false,[],0,0,0,0⟩⟩
end L3
namespace L2
open PySem PySem.Spec PyProof.Rows
theorem S2{X:a4}:eo X (eP .IsNot) (λ x y H Q=>∃ a b,x=.aO a/\y=.aO b/\Q (.aO (a !=b)) H):=by
 intro pins s σ H x y v u Q I bd cb h;obtain ⟨a,b,rfl,rfl,q⟩:=h;cases bd;cases cb
 have e:eP .IsNot (.bool a) (.bool b)=pure (.bool (a !=b)):=by cases a<;>cases b<;>rfl
 rw [e];exact cz ⟨.aO _,H,I,rfl,q⟩
end L2
namespace L3
open PySem PySem.Spec L2
abbrev S3:jm:=λ x y G Q=>match x,y with
 | .aO a,.aO b=>Q (.aO (a !=b)) G
 | _,_=>False
theorem HY{X:a4}:gY X (eP .IsNot) S3:=by
 refine ⟨_,⟨S2⟩,λ x y e9 hV G H ax Q v a7 bh r F=>?_⟩
 cases x with
 | aO a=>
  cases y with
  | aO b=>cases a7;cases bh;exact ⟨a,b,rfl,rfl,F (.aO (a !=b)) G _ H (.refl v) rfl r⟩
  | _=>exact (show False from r).elim
 | _=>exact (show False from r).elim
theorem yV{β:Type}{k z:Str}{v:β}{r:List (Str × β)}:(((k,v)::r).find? λ cA=>decide (cA.1=z)).map (·.2)=if z=k then some v else (r.find? λ cA=>decide (cA.1=z)).map (·.2):=by
 by_cases h:k=z
 ·simp [h]
 ·rw [if_neg (Ne.symm h),kK,decide_eq_false h]
theorem HZ:∀{t:List (Str × V)}{aw:List DictEntry},j4 (λ(cA:Str × V) (e:DictEntry)=>(∃ t1,e.key=.str cA.1 t1)/\RelV cA.2 e.val) t aw →
 ∀ x,hv ((t.find? λ cA=>decide (cA.1=x)).map (·.2)) ((aw.find? λ d=>Value.isStrOf x d.key).map (·.val))
 | _,_,.nil,_=>trivial
 | p::t,e::aw,.cons ⟨⟨t1,az⟩,aW⟩ r,x=>by
  by_cases h:p.1=x
  ·have z:Value.isStrOf x e.key=true:=by rw [az,h];simp [Value.isStrOf]
   rw [kK,decide_eq_true h,kK,z];exact aW
  ·have z:Value.isStrOf x e.key=false:=by
    rw [az];simp only [Value.isStrOf];exact beq_false_of_ne h
   rw [kK,decide_eq_false h,kK,z];exact HZ r x
theorem H0{K:a6}{w:cG}{ad:Addr}{aw:Array DictEntry}{n:Nat}{p1:List (Str × V)}{L:List (Str × D)}{tab:Str->Option D}(af:K.lookup ad=some ⟨.type "dict", none,.dict aw n,#[]⟩)(ao:(ad==kD)=false)(aF:PySem.W.KeysLit w.params aw.toList)
 (cn:j4 (λ(cA:Str × V) (e:DictEntry)=>(∃ t1,e.key=.str cA.1 t1)/\RelV cA.2 e.val) p1 aw.toList) (d1:∀ z,tab z=(L.find? λ cA=>decide (cA.1=z)).map (·.2)) (iD:j4 (λ(a:Str × D) (b:Str × V)=>a.1=b.1/\∀ H,cV K H a.2 b.2) L p1):oM K w ad tab:=by
 have key:∀{L:List (Str × D)}{p1:List (Str × V)},j4 (λ(a:Str × D) (b:Str × V)=>a.1=b.1/\∀ H,cV K H a.2 b.2) L p1->∀ z,(((L.find? λ cA=>decide (cA.1=z)).map (·.2))=none->((p1.find? λ cA=>decide (cA.1=z)).map (·.2))=none)/\∀ d,((L.find? λ cA=>decide (cA.1=z)).map (·.2))=some d->∃ v,((p1.find? λ cA=>decide (cA.1=z)).map (·.2))=some v/\∀ H,cV K H d v:=by
  intro L p1 h
  induction h with
  | nil=>intro z;exact ⟨λ _=>rfl,λ d e=>by cases e⟩
  | @cons a b as bs q r bL=>
   intro z;obtain ⟨a1,a2⟩:=a;obtain ⟨cv,e0⟩:=b;obtain ⟨aE,bu⟩:=q;cases (show a1=cv from aE);rw [yV,yV];by_cases c:z=a1
   ·rw [if_pos c,if_pos c];exact ⟨λ e=>(by cases e),λ d e=>(by cases e;exact ⟨_,rfl,bu⟩)⟩
   ·rw [if_neg c,if_neg c];exact bL z
 refine ⟨λ z=>(p1.find? λ cA=>decide (cA.1=z)).map (·.2),⟨⟨aw,n,af,aF,λ x=>?_⟩,ao⟩,λ z e=>((key iD z).1 (by rw [<- d1];exact e)),λ z d e=>(key iD z).2 d (by rw [<- d1];exact e)⟩;have:=HZ cn x;unfold sk;obtain ⟨l⟩:=aw;rw [List.find?_toArray];exact this
def markL:List (Str × D):=[("give", .str "slip"),("first", .str "first"),("second", .str "second"),("plus", .str "plus"),("look", .str "look"),("pair", .str "both")]
def H2:List (Str × V):=[("give", .str "slip"),("first", .str "first"),("second", .str "second"),("plus", .str "plus"),("look", .str "look"),("pair", .str "both")]
theorem S4(z:Str):kA z=(markL.find? λ cA=>decide (cA.1=z)).map (·.2):=by
 unfold kA markL;simp only [yV];rfl
def H3:List (Str × D):=[("way", .tup [.str "slip", .str "both", .str "beside"]),("pair", .tup [.str "first", .str "second"]),("whole", .tup [.str "plus", .str "had", .str "look", .str "both", .str "beside"])]
theorem S5(z:Str):nR z=(H3.find? λ cA=>decide (cA.1=z)).map (·.2):=by
 unfold nR H3;simp only [yV];rfl
theorem S6{K:a6}:j4 (λ(a:Str × D) (b:Str × V)=>a.1=b.1/\∀ H,cV K H a.2 b.2) markL H2:=
 .cons ⟨rfl,λ _=>rfl⟩ (.cons ⟨rfl,λ _=>rfl⟩ (.cons ⟨rfl,λ _=>rfl⟩ (.cons ⟨rfl,λ _=>rfl⟩ (.cons ⟨rfl,λ _=>rfl⟩ (.cons ⟨rfl,λ _=>rfl⟩ .nil)))))
theorem rV{K:a6}{H:ar}{a:Addr}{aN:Array Value}{n:Nat}{vs:List V}(h:K.lookup a=some ⟨.type "tuple", none,.seq aN n,#[]⟩)(hz:jB aN.size 1000=true)(bK:Vals vs aN.toList):dD K H a vs:=.inr ⟨_,aN,n,h,rfl,rfl,x_ hz,bK⟩
theorem S7{K:a6}{a b c:Addr}{bq bM rN:Array Value}{eV dx d8:Nat}(af:K.lookup a=some ⟨.type "tuple", none,.seq bq eV,#[]⟩)(bF:jB bq.size 1000=true)(v1:Vals [.str "pair", .ref b,.ref c] bq.toList)
 (ao:K.lookup b=some ⟨.type "tuple", none,.seq bM dx,#[]⟩) (bU:jB bM.size 1000=true) (v2:Vals [.str "name", .int 0] bM.toList) (aF:K.lookup c=some ⟨.type "tuple", none,.seq rN d8,#[]⟩) (dg:jB rN.size 1000=true) (BV:Vals [.str "name", .int 1] rN.toList) :
 ∀ H,cV K H (Tm.pair (.name 0) (.name 1)).enc (.ref a):=λ H=>
 ⟨a,_,rfl,rV af bF v1,_,_,rfl,rfl,_,_,rfl,⟨b,_,rfl,rV ao bU v2,_,_,rfl,rfl,_,_,rfl,rfl,rfl⟩,_,_,rfl,⟨c,_,rfl,rV aF dg BV,_,_,rfl,rfl,_,_,rfl,rfl,rfl⟩,rfl⟩
end L3
namespace L3
open PySem L2
inductive Ev where
 | nil
 | cons (t:Tm) (e r:Ev)
def Ev.encL:Ev->List D
 | .nil=>[]
 | .cons t e r=>.tup [t.enc,.tup e.encL]::r.encL
abbrev Ev.enc(e:Ev):D:=.tup e.encL
def Ev.len:Ev->Nat
 | .nil=>0
 | .cons _ _ r=>r.len+1
def Ev.get:Ev->Nat->Option (Tm × Ev)
 | .nil,_=>none
 | .cons t e _,0=>some (t,e)
 | .cons _ _ r,n+1=>r.get n
def Ev.top:Ev->Nat
 | .nil=>0
 | .cons _ e r=>max (r.len+1) (max e.top r.top)
def Ev.ok:Ev->Prop
 | .nil=>True
 | .cons t e r=>t.cl e.len/\e.ok/\r.ok
def Ev.gh:Ev->List Tm
 | .nil=>[]
 | .cons t e r=>t.d_ (g0 e.gh) 0::r.gh
theorem Ev.H4:∀ e:Ev,e.encL.length=e.len
 | .nil=>rfl
 | .cons _ _ r=>by rw [Ev.encL,eb,Ev.H4 r];rfl
theorem Ev.BW:∀(e:Ev)(n:Nat){z:Tm × Ev},e.get n=some z->e.encL[n]?=some (.tup [z.1.enc,z.2.enc])
 | .cons t e r,0,z,h=>by cases h;rfl
 | .cons t e r,n+1,z,h=>by rw [Ev.encL,wU];exact Ev.BW r n h
theorem Ev.H5:∀(e:Ev)(n:Nat){z:Tm × Ev},e.get n=some z->e.gh[n]?=some (z.1.d_ (g0 z.2.gh) 0)
 | .cons t e r,0,z,h=>by cases h;rfl
 | .cons t e r,n+1,z,h=>by rw [Ev.gh,wU];exact Ev.H5 r n h
theorem Ev.yW:∀{e:Ev}{n:Nat},e.ok->n < e.len->∃ t e',e.get n=some (t,e')/\t.cl e'.len/\e'.ok/\e'.top<=e.top
 | .cons t e r,0,h,_=>⟨t,e,rfl,h.1,h.2.1,by simp only [Ev.top];omega⟩
 | .cons t e r,n+1,h,bc=>by
  obtain ⟨t',e',af,ao,aF,cn⟩:=Ev.yW (e:=r) (n:=n) h.2.2 (by simp only [Ev.len] at bc;omega);exact ⟨t',e',af,ao,aF,by simp only [Ev.top];omega⟩
theorem Ev.yX:∀ e:Ev,e.len<=e.top
 | .nil=>b7 _
 | .cons _ _ r=>by simp only [Ev.len,Ev.top];omega
def Ev.p2:Ev->Nat
 | .nil=>0
 | .cons _ e r=>1+e.p2+r.p2
theorem Ev.H6:∀{e:Ev}{n:Nat}{z:Tm × Ev},e.get n=some z->z.2.p2 < e.p2
 | .cons t e r,0,z,h=>by cases h;simp only [Ev.p2];omega
 | .cons t e r,n+1,z,h=>by have:=Ev.H6 (e:=r) (n:=n) h;simp only [Ev.p2];omega
structure bY where
 el:Nat
 eV:Nat
 dx:Nat
 d8:Nat
 jX:Nat
 e_:Nat
def bY.lst(c:bY):ek:=.lst [.int c.el,.int c.eV,.int c.dx,.int c.d8,.int c.jX,.int c.e_]
abbrev bY.t0(c:bY):bY:={ c with el:=c.el+1 }
abbrev bY.t1(c:bY):bY:={ c with eV:=c.eV+1 }
abbrev bY.cR(c:bY):bY:={ c with dx:=c.dx+1 }
abbrev bY.t3(c:bY):bY:={ c with d8:=c.d8+1 }
abbrev bY.mG(c:bY):bY:={ c with jX:=c.jX+1 }
abbrev bY.th(c:bY):bY:={ c with e_:=1 }
def Tm.lS:Tm->Bool
 | .whole _=>true
 | .way _=>true
 | .pair _ _=>true
 | _=>false
abbrev On(d:Nat)(c:bY):Prop:=c.el < 400/\d < 120
inductive dc:Nat->Tm->Ev->bY->Option (Tm × Ev)->bY->Prop where
 | cut {d t e c}:¬ On d c->dc d t e c none c.th
 | val {d t e c}:On d c->t.lS=true->dc d t e c (some (t,e)) c.t0
 | name {d n e c t' e' r c'}:On d c->e.get n=some (t',e')->dc d t' e' c.t0.t1 r c'->dc d (.name n) e c r c'
 | give {d p q e c b az c1 r c'}:On d c->dc (d+1) p e c.t0.cR (some (.way b,az)) c1->dc d b (.cons q e az) c1.t3 r c'->dc d (.give p q) e c r c'
 | tp {d p q e c r c'}:On d c->dc (d+1) p e c.t0.cR r c'->(∀ b az,r≠some (.way b,az))->dc d (.give p q) e c none c'
 | first {d p e c a b az c1 r c'}:On d c->dc (d+1) p e c.t0 (some (.pair a b,az)) c1->dc d a az c1.t3 r c'->dc d (.first p) e c r c'
 | tq {d p e c r c'}:On d c->dc (d+1) p e c.t0 r c'->(∀ a b az,r≠some (.pair a b,az))->dc d (.first p) e c none c'
 | second {d p e c a b az c1 r c'}:On d c->dc (d+1) p e c.t0 (some (.pair a b,az)) c1->dc d b az c1.t3 r c'->dc d (.second p) e c r c'
 | tr {d p e c r c'}:On d c->dc (d+1) p e c.t0 r c'->(∀ a b az,r≠some (.pair a b,az))->dc d (.second p) e c none c'
 | plus {d p q e c i az c1 j aW c2}:On d c->dc (d+1) p e c.t0 (some (.whole i,az)) c1->dc (d+1) q e c1 (some (.whole j,aW)) c2->dc d (.plus p q) e c (some (.whole (i+j),.nil)) c2.mG.t3
 | ts {d p q e c r c'}:On d c->dc (d+1) p e c.t0 r c'->(∀ i az,r≠some (.whole i,az))->dc d (.plus p q) e c none c'
 | tu {d p q e c i az c1 r c'}:On d c->dc (d+1) p e c.t0 (some (.whole i,az)) c1->dc (d+1) q e c1 r c'->(∀ i az,r≠some (.whole i,az))->dc d (.plus p q) e c none c'
 | look {d p q s e c i az c1 r c'}:On d c->dc (d+1) p e c.t0 (some (.whole i,az)) c1->dc d (if i=0 then q else s) e c1.t3 r c'->dc d (.look p q s) e c r c'
 | tv {d p q s e c r c'}:On d c->dc (d+1) p e c.t0 r c'->(∀ i az,r≠some (.whole i,az))->dc d (.look p q s) e c none c'
def cU{α:Type}:Option α->Nat
 | some _=>1
 | none=>0
structure H7(c c':bY)(n:Nat):Prop where
 a:c'.d8+c.el+n<=c'.el+c.d8
 b:c'.jX+c.el+n<=c'.el+c.jX
 m:c.el<=400->c'.el<=400
 o:c.el+n<=c'.el
 p:c.d8<=c'.d8
 q:c.jX<=c'.jX
theorem dc.fz{d:Nat}{t:Tm}{e:Ev}{c c':bY}{r:Option (Tm × Ev)}(h:dc d t e c r c'):H7 c c' (cU r):=by
 induction h with
 | cut=>exact ⟨by simp only [cU];omega,by simp only [cU];omega,id,b7 _,b7 _,b7 _⟩
 | val o=>exact ⟨by simp only [cU];omega,by simp only [cU];omega,λ _=>o.1,b7 _,b7 _,b7 _⟩
 | name o _ _ bL=>obtain ⟨a,b,m,p,k,g⟩:=bL;exact ⟨by simp only at *;omega,by simp only at *;omega,λ _=>m o.1,by simp only [cU] at *;omega,by simp only at *;omega,by simp only at *;omega⟩
 | give o _ _ bq bM=>obtain ⟨a,b,m,p,k,g⟩:=bq;obtain ⟨dT,dO,cu,g9,ha,g'⟩:=bM;exact ⟨by simp only [cU] at *;omega,by simp only [cU] at *;omega,λ _=>cu (m o.1),by simp only [cU] at *;omega,by simp only at *;omega,by simp only at *;omega⟩
 | tp o _ _ bq=>obtain ⟨a,b,m,p,k,g⟩:=bq;exact ⟨by simp only [cU] at *;omega,by simp only [cU] at *;omega,λ _=>m o.1,by simp only [cU] at *;omega,by simp only at *;omega,by simp only at *;omega⟩
 | first o _ _ bq bM=>obtain ⟨a,b,m,p,k,g⟩:=bq;obtain ⟨dT,dO,cu,g9,ha,g'⟩:=bM;exact ⟨by simp only [cU] at *;omega,by simp only [cU] at *;omega,λ _=>cu (m o.1),by simp only [cU] at *;omega,by simp only at *;omega,by simp only at *;omega⟩
 | tq o _ _ bq=>obtain ⟨a,b,m,p,k,g⟩:=bq;exact ⟨by simp only [cU] at *;omega,by simp only [cU] at *;omega,λ _=>m o.1,by simp only [cU] at *;omega,by simp only at *;omega,by simp only at *;omega⟩
 | second o _ _ bq bM=>obtain ⟨a,b,m,p,k,g⟩:=bq;obtain ⟨dT,dO,cu,g9,ha,g'⟩:=bM;exact ⟨by simp only [cU] at *;omega,by simp only [cU] at *;omega,λ _=>cu (m o.1),by simp only [cU] at *;omega,by simp only at *;omega,by simp only at *;omega⟩
 | tr o _ _ bq=>obtain ⟨a,b,m,p,k,g⟩:=bq;exact ⟨by simp only [cU] at *;omega,by simp only [cU] at *;omega,λ _=>m o.1,by simp only [cU] at *;omega,by simp only at *;omega,by simp only at *;omega⟩
 | plus o _ _ bq bM=>obtain ⟨a,b,m,p,k,g⟩:=bq;obtain ⟨dT,dO,cu,g9,ha,g'⟩:=bM;exact ⟨by simp only [cU] at *;omega,by simp only [cU] at *;omega,λ _=>cu (m o.1),by simp only [cU] at *;omega,by simp only at *;omega,by simp only at *;omega⟩
 | ts o _ _ bq=>obtain ⟨a,b,m,p,k,g⟩:=bq;exact ⟨by simp only [cU] at *;omega,by simp only [cU] at *;omega,λ _=>m o.1,by simp only [cU] at *;omega,by simp only at *;omega,by simp only at *;omega⟩
 | tu o _ _ _ bq bM=>obtain ⟨a,b,m,p,k,g⟩:=bq;obtain ⟨dT,dO,cu,g9,ha,g'⟩:=bM;exact ⟨by simp only [cU] at *;omega,by simp only [cU] at *;omega,λ _=>cu (m o.1),by simp only [cU] at *;omega,by simp only at *;omega,by simp only at *;omega⟩
 | look o _ _ bq bM=>obtain ⟨a,b,m,p,k,g⟩:=bq;obtain ⟨dT,dO,cu,g9,ha,g'⟩:=bM;exact ⟨by simp only [cU] at *;omega,by simp only [cU] at *;omega,λ _=>cu (m o.1),by simp only [cU] at *;omega,by simp only at *;omega,by simp only at *;omega⟩
 | tv o _ _ bq=>obtain ⟨a,b,m,p,k,g⟩:=bq;exact ⟨by simp only [cU] at *;omega,by simp only [cU] at *;omega,λ _=>m o.1,by simp only [cU] at *;omega,by simp only at *;omega,by simp only at *;omega⟩
theorem dc.lK{d:Nat}{t:Tm}{e:Ev}{c c':bY}{r:Option (Tm × Ev)}(h:dc d t e c r c'):c.e_=0->(c'.e_=0/\c.el+1<=c'.el)\/(r=none/\c'.e_=1/\(d<=c.el->120<=c'.el)):=by
 induction h with
 | @cut d t e c o=>intro _;exact .inr ⟨rfl,rfl,λ h=>by show 120<=c.el;simp only [On] at o;omega⟩
 | val=>exact λ h=>.inl ⟨h,b7 _⟩
 | name o _ _ bL=>intro h;rcases bL h with ⟨a,b⟩ | ⟨a,b,f⟩;exact .inl ⟨a,by simp only at *;omega⟩;exact .inr ⟨a,b,λ h=>f (by simp only at *;omega)⟩
 | give o af _ bq bM=>
  intro h;rcases bq h with ⟨a,b⟩ | ⟨a,_⟩
  ·rcases bM a with ⟨dT,dO⟩ | ⟨dT,dO,f⟩;exact .inl ⟨dT,by simp only at *;omega⟩;exact .inr ⟨dT,dO,λ h=>f (by simp only at *;omega)⟩
  ·cases a
 | first o af _ bq bM=>
  intro h;rcases bq h with ⟨a,b⟩ | ⟨a,_⟩
  ·rcases bM a with ⟨dT,dO⟩ | ⟨dT,dO,f⟩;exact .inl ⟨dT,by simp only at *;omega⟩;exact .inr ⟨dT,dO,λ h=>f (by simp only at *;omega)⟩
  ·cases a
 | second o af _ bq bM=>
  intro h;rcases bq h with ⟨a,b⟩ | ⟨a,_⟩
  ·rcases bM a with ⟨dT,dO⟩ | ⟨dT,dO,f⟩;exact .inl ⟨dT,by simp only at *;omega⟩;exact .inr ⟨dT,dO,λ h=>f (by simp only at *;omega)⟩
  ·cases a
 | look o af _ bq bM=>
  intro h;rcases bq h with ⟨a,b⟩ | ⟨a,_⟩
  ·rcases bM a with ⟨dT,dO⟩ | ⟨dT,dO,f⟩;exact .inl ⟨dT,by simp only at *;omega⟩;exact .inr ⟨dT,dO,λ h=>f (by simp only at *;omega)⟩
  ·cases a
 | plus o af _ bq bM=>
  intro h;rcases bq h with ⟨a,b⟩ | ⟨a,_⟩
  ·rcases bM a with ⟨dT,dO⟩ | ⟨dT,_⟩
   ·exact .inl ⟨dT,by simp only at *;omega⟩
   ·cases dT
  ·cases a
 | tu o af _ _ bq bM=>
  intro h;rcases bq h with ⟨a,b⟩ | ⟨a,_⟩
  ·rcases bM a with ⟨dT,dO⟩ | ⟨dT,dO,f⟩;exact .inl ⟨dT,by simp only at *;omega⟩;exact .inr ⟨rfl,dO,λ h=>f (by simp only at *;omega)⟩
  ·cases a
 | tp o _ _ bL=>intro h;rcases bL h with ⟨a,b⟩ | ⟨a,b,f⟩;exact .inl ⟨a,by simp only at *;omega⟩;exact .inr ⟨rfl,b,λ h=>f (by simp only at *;omega)⟩
 | tq o _ _ bL=>intro h;rcases bL h with ⟨a,b⟩ | ⟨a,b,f⟩;exact .inl ⟨a,by simp only at *;omega⟩;exact .inr ⟨rfl,b,λ h=>f (by simp only at *;omega)⟩
 | tr o _ _ bL=>intro h;rcases bL h with ⟨a,b⟩ | ⟨a,b,f⟩;exact .inl ⟨a,by simp only at *;omega⟩;exact .inr ⟨rfl,b,λ h=>f (by simp only at *;omega)⟩
 | ts o _ _ bL=>intro h;rcases bL h with ⟨a,b⟩ | ⟨a,b,f⟩;exact .inl ⟨a,by simp only at *;omega⟩;exact .inr ⟨rfl,b,λ h=>f (by simp only at *;omega)⟩
 | tv o _ _ bL=>intro h;rcases bL h with ⟨a,b⟩ | ⟨a,b,f⟩;exact .inl ⟨a,by simp only at *;omega⟩;exact .inr ⟨rfl,b,λ h=>f (by simp only at *;omega)⟩
def S8:Option (Tm × Ev)->Prop
 | some z=>z.1.cl z.2.len/\z.2.ok/\z.1.lS=true
 | none=>True
theorem dc.ok{d:Nat}{t:Tm}{e:Ev}{c c':bY}{r:Option (Tm × Ev)}(h:dc d t e c r c'):t.cl e.len->e.ok->S8 r:=by
 induction h with
 | cut=>intros;trivial
 | val _ v=>exact λ a b=>⟨a,b,v⟩
 | name _ g _ bL=>
  intro a b;obtain ⟨t',e',af,ao,aF,_⟩:=Ev.yW b a;rw [g] at af;cases af;exact bL ao aF
 | give _ _ _ bq bM=>
  intro a b;obtain ⟨af,ao,_⟩:=bq a.1 b;exact bM af ⟨a.2,b,ao⟩
 | first _ _ _ bq bM=>intro a b;obtain ⟨af,ao,_⟩:=bq a b;exact bM af.1 ao
 | second _ _ _ bq bM=>intro a b;obtain ⟨af,ao,_⟩:=bq a b;exact bM af.2 ao
 | plus=>intro a b;exact ⟨trivial,trivial,rfl⟩
 | look _ _ _ bq bM=>intro a b;exact bM (by split;exact a.2.1;exact a.2.2) b
 | _=>intros;trivial
def Ev.at(S:dN):Ev->List Addr->Prop
 | .nil,rs=>rs=[]
 | .cons t e r,rs=>∃ a nS,rs=a::nS/\(∃ x,S a=some x/\x.t=t/\e.at S x.rs)/\r.at S nS
def dB(S:dN)(p:Addr)(t:Tm)(e:Ev):Prop:=∃ x,S p=some x/\x.t=t/\e.at S x.rs
def f6(S lT:dN):Prop:=∀ b x,S b=some x->lT b=some x
theorem f6.refl{S:dN}:f6 S S:=λ _ _ h=>h
theorem f6.trans{S H8 H9:dN}(h:f6 S H8)(k:f6 H8 H9):f6 S H9:=λ b x e=>k b x (h b x e)
theorem f6.set{S:dN}{p:Addr}{x:er}(h:S p=none):f6 S (fH S p x):=λ _ _ e=>oP h e
theorem Ev.at.bS{S lT:dN}(k:f6 S lT):∀{e:Ev}{rs:List Addr},e.at S rs->e.at lT rs
 | .nil,_,h=>h
 | .cons t e r,_,h=>by
  obtain ⟨a,nS,rfl,⟨x,af,ao,aF⟩,cn⟩:=h;exact ⟨a,nS,rfl,⟨x,k _ _ af,ao,Ev.at.bS k aF⟩,Ev.at.bS k cn⟩
theorem dB.bS{S lT:dN}{p:Addr}{t:Tm}{e:Ev}(h:dB S p t e)(k:f6 S lT):dB lT p t e:=by
 obtain ⟨x,af,ao,aF⟩:=h;exact ⟨x,k _ _ af,ao,aF.bS k⟩
theorem dB.new{S yY:dN}{p:Addr}{t:Tm}{e:Ev}{rs:List Addr}(k:f6 S yY)(aj:yY p=none)(h:e.at S rs):dB (fH yY p (i4 yY t rs)) p t e:=⟨_,iu,rfl,(h.bS k).bS (.set aj)⟩
theorem Ev.at.len{S:dN}:∀{e:Ev}{rs:List Addr},e.at S rs->rs.length=e.len
 | .nil,_,h=>by cases h;rfl
 | .cons t e r,_,h=>by obtain ⟨a,nS,rfl,_,cn⟩:=h;simp only [eb,Ev.len,cn.len]
theorem Ev.at.get{S:dN}:∀{e:Ev}{rs:List Addr}{n:Nat}{z:Tm × Ev},e.at S rs->e.get n=some z->∃ a,rs[n]?=some a/\dB S a z.1 z.2
 | .cons t e r,_,0,z,h,g=>by cases g;obtain ⟨a,nS,rfl,af,_⟩:=h;exact ⟨a,rfl,af⟩
 | .cons t e r,_,n+1,z,h,g=>by obtain ⟨a,nS,rfl,_,cn⟩:=h;obtain ⟨b,d1,iD⟩:=cn.get (n:=n) g;exact ⟨b,by rw [wU];exact d1,iD⟩
theorem Ev.at.gh{S:dN}{rk:Addr->Nat}(w:lb S rk):∀{e:Ev}{rs:List Addr},e.at S rs->ho S rs=g0 e.gh:=by
 have key:∀{e:Ev}{rs:List Addr},e.at S rs->e.gh=rs.map (nP S):=by
  intro e
  induction e with
  | nil=>intro rs h;cases h;rfl
  | cons t e r bq bM=>
   intro rs h;obtain ⟨a,nS,rfl,⟨x,af,rfl,aF⟩,cn⟩:=h;rw [Ev.gh,eC,bM cn];congr 1;unfold nP;rw [af];show _=x.c9;rw [w.c9 a x af];congr 1;have az:=bq aF;funext n m;unfold ho g0;rw [az,gT];cases x.rs[n - m]?<;>rfl
 intro e rs h;funext n m;unfold ho g0;rw [key h,gT];cases rs[n - m]?<;>rfl
theorem Ev.BX:∀{e:Ev}{n:Nat}{z:Tm × Ev},e.get n=some z->z.2.top<=e.top
 | .cons t e r,0,z,h=>by cases h;simp only [Ev.top];omega
 | .cons t e r,n+1,z,h=>by have:=Ev.BX (e:=r) (n:=n) h;simp only [Ev.top];omega
def oT(c:bY):Option (Tm × Ev)->Prop
 | some z=>z.2.top<=c.d8
 | none=>True
theorem dc.top{d:Nat}{t:Tm}{e:Ev}{c c':bY}{r:Option (Tm × Ev)}(h:dc d t e c r c'):e.top<=c.d8->oT c' r:=by
 induction h with
 | val=>exact id
 | name _ g _ bL=>exact λ a=>bL (e5 (Ev.BX g) a)
 | @give d p q e c b az c1 r c' _ af _ bq bM=>
  intro a;have:=bq a;have k:=af.fz.p;simp only [oT] at this;have l:=az.yX;exact bM (by simp only [Ev.top] at *;omega)
 | first _ _ _ bq bM=>exact λ a=>bM (jb (bq a))
 | second _ _ _ bq bM=>exact λ a=>bM (jb (bq a))
 | plus=>exact λ _=>f9 _
 | look _ af _ bq bM=>exact λ a=>bM (jb (e5 a af.fz.p))
 | _=>intros;trivial
structure jw(c c1:bC)(r s l:Nat):Prop where
 bS:f6 c.S c1.S
 st:c1.m.steps=c.m.steps+1
 dw:c1.m.rules=c.m.rules+r
 b6:c1.m.slips=c.m.slips+s
 lo:c1.m.looks=c.m.looks+l
namespace M2
section
variable{c:bC}{p q s a b:Tm}{e az aW:Ev}{i j:Int}{st:List dK}{u v:Addr}
theorem H_(A:dB c.S c.m.here (.first p) e)(aj:c.m.paired=false):After 1 c λ c1=>jw c c1 0 0 0/\dB c1.S c1.m.here p e/\c1.m.paired=false/\c1.m.stack=.first::c.m.stack:=by
 obtain ⟨⟨t,rs,c9⟩,af,rfl,aF⟩:=A;refine kB af rfl (by rw [aj];simp [ju,jW]) ?_;rw [if_neg (by rw [aj];simp [fV])]
 exact λ x aq=>⟨⟨.set aq,rfl,rfl,rfl,rfl⟩,.new .refl aq aF,aj,rfl⟩
theorem Ia(A:dB c.S c.m.here (.second p) e)(aj:c.m.paired=false):After 1 c λ c1=>jw c c1 0 0 0/\dB c1.S c1.m.here p e/\c1.m.paired=false/\c1.m.stack=.second::c.m.stack:=by
 obtain ⟨⟨t,rs,c9⟩,af,rfl,aF⟩:=A;refine kB af rfl (by rw [aj];simp [ju,jW]) ?_;rw [if_neg (by rw [aj];simp [fV])]
 exact λ x aq=>⟨⟨.set aq,rfl,rfl,rfl,rfl⟩,.new .refl aq aF,aj,rfl⟩
theorem Ib(A:dB c.S c.m.here (.give p q) e)(aj:c.m.paired=false):After 1 c λ c1=>jw c c1 0 1 0/\dB c1.S c1.m.here p e/\c1.m.paired=false/\∃ u,c1.m.stack=.k_ u::c.m.stack/\dB c1.S u q e:=by
 obtain ⟨⟨t,rs,c9⟩,af,rfl,aF⟩:=A;refine kB af rfl (by rw [aj];simp [ju,jW]) ?_;rw [if_neg (by rw [aj];simp [fV])]
 exact λ y aQ x aq=>⟨⟨(f6.set aQ).trans (.set aq),rfl,rfl,rfl,rfl⟩,.new (f6.set aQ) aq aF,aj,y,rfl,(dB.new .refl aQ aF).bS (.set aq)⟩
theorem BY(A:dB c.S c.m.here (.plus p q) e)(aj:c.m.paired=false):After 1 c λ c1=>jw c c1 0 0 0/\dB c1.S c1.m.here p e/\c1.m.paired=false/\∃ u,c1.m.stack=.plus u::c.m.stack/\dB c1.S u q e:=by
 obtain ⟨⟨t,rs,c9⟩,af,rfl,aF⟩:=A;refine kB af rfl (by rw [aj];simp [ju,jW]) ?_;rw [if_neg (by rw [aj];simp [fV])]
 exact λ y aQ x aq=>⟨⟨(f6.set aQ).trans (.set aq),rfl,rfl,rfl,rfl⟩,.new (f6.set aQ) aq aF,aj,y,rfl,(dB.new .refl aQ aF).bS (.set aq)⟩
theorem Ic(A:dB c.S c.m.here (.look p q s) e)(aj:c.m.paired=false):After 1 c λ c1=>jw c c1 0 0 0/\dB c1.S c1.m.here p e/\c1.m.paired=false/\∃ u v,c1.m.stack=.look u v::c.m.stack/\dB c1.S u q e/\dB c1.S v s e:=by
 obtain ⟨⟨t,rs,c9⟩,af,rfl,aF⟩:=A;refine kB af rfl (by rw [aj];simp [ju,jW]) ?_;rw [if_neg (by rw [aj];simp [fV])]
 exact λ y aQ z hz x aq=>⟨⟨((f6.set aQ).trans (.set hz)).trans (.set aq),rfl,rfl,rfl,rfl⟩,.new ((f6.set aQ).trans (.set hz)) aq aF,aj,y,z,rfl,((dB.new .refl aQ aF).bS (.set hz)).bS (.set aq),(dB.new (f6.set aQ) hz aF).bS (.set aq)⟩
theorem BZ(A:dB c.S c.m.here (.pair p q) e)(aj:c.m.paired=false)(au:p0 c.m.stack=true):After 1 c λ c1=>jw c c1 0 0 0/\dB c1.S c1.m.here p e/\c1.m.paired=false/\∃ u,c1.m.stack=.both u::c.m.stack/\dB c1.S u q e:=by
 obtain ⟨⟨t,rs,c9⟩,af,rfl,aF⟩:=A
 have hm:fV false (.pair p q) c.m.stack=false:=by
  cases e:c.m.stack with
  | nil=>rfl
  | cons k st=>rw [e] at au;cases k<;>first | rfl | cases au
 refine kB af rfl (by rw [aj];simp [ju,jW,au]) ?_;rw [if_neg (by rw [aj,hm];decide)]
 exact λ y aQ x aq=>⟨⟨(f6.set aQ).trans (.set aq),rfl,rfl,rfl,rfl⟩,.new (f6.set aQ) aq aF,aj,y,rfl,(dB.new .refl aQ aF).bS (.set aq)⟩
theorem S9{n:Nat}{t':Tm}{e':Ev}(A:dB c.S c.m.here (.name n) e)(aj:c.m.paired=false)(g:e.get n=some (t',e')):After 1 c λ c1=>jw c c1 0 0 1/\dB c1.S c1.m.here t' e'/\c1.m.paired=false/\c1.m.stack=c.m.stack:=by
 obtain ⟨⟨t,rs,c9⟩,af,rfl,aF⟩:=A;obtain ⟨r,cn,d1⟩:=aF.get g;refine ⟨by unfold bC.iv;rw [bC.yU af];simp [ju,Tm.isName],?_⟩;unfold iw;rw [af];simp only at cn ⊢;rw [cn];exact ⟨⟨.refl,rfl,rfl,rfl,rfl⟩,d1,aj,rfl⟩
theorem S_(A:dB c.S c.m.here (.way b) az)(aj:c.m.paired=false)(aB:c.m.stack=.k_ u::st)(U:dB c.S u q e)(aP:az.len < 100000):After 1 c λ c1=>jw c c1 1 0 0/\dB c1.S c1.m.here b (.cons q e az)/\c1.m.paired=false/\c1.m.stack=st:=by
 obtain ⟨⟨t,rs,c9⟩,af,rfl,aF⟩:=A;refine kB af rfl (by rw [aj,aB];rfl) ?_;rw [if_pos (by rw [aj,aB];rfl)];unfold hq;rw [show c.tick.m.stack=.k_ u::st from aB];refine ⟨by show rs.length < _;rw [aF.len];exact aP,λ x aq=>⟨⟨.set aq,rfl,rfl,rfl,rfl⟩,.new .refl aq ⟨u,rs,rfl,U,aF⟩,rfl,rfl⟩⟩
theorem Ta(A:dB c.S c.m.here (.pair a b) e)(aj:c.m.paired=false)(aB:c.m.stack=.first::st):After 1 c λ c1=>jw c c1 1 0 0/\dB c1.S c1.m.here a e/\c1.m.paired=false/\c1.m.stack=st:=by
 obtain ⟨⟨t,rs,c9⟩,af,rfl,aF⟩:=A;refine kB af rfl (by rw [aj,aB];rfl) ?_;rw [if_pos (by rw [aj,aB];rfl)];unfold hq;rw [show c.tick.m.stack=.first::st from aB]
 exact λ x aq=>⟨⟨.set aq,rfl,rfl,rfl,rfl⟩,.new .refl aq aF,rfl,rfl⟩
theorem Tb(A:dB c.S c.m.here (.pair a b) e)(aj:c.m.paired=false)(aB:c.m.stack=.second::st):After 1 c λ c1=>jw c c1 1 0 0/\dB c1.S c1.m.here b e/\c1.m.paired=false/\c1.m.stack=st:=by
 obtain ⟨⟨t,rs,c9⟩,af,rfl,aF⟩:=A;refine kB af rfl (by rw [aj,aB];rfl) ?_;rw [if_pos (by rw [aj,aB];rfl)];unfold hq;rw [show c.tick.m.stack=.second::st from aB]
 exact λ x aq=>⟨⟨.set aq,rfl,rfl,rfl,rfl⟩,.new .refl aq aF,rfl,rfl⟩
theorem Id(A:dB c.S c.m.here (.whole i) az)(aj:c.m.paired=false)(aB:c.m.stack=.plus u::st)(U:dB c.S u q e):After 1 c λ c1=>jw c c1 0 0 0/\dB c1.S c1.m.here q e/\c1.m.paired=false/\c1.m.stack=.i3 i::st:=by
 obtain ⟨⟨t,rs,c9⟩,af,rfl,aF⟩:=A;refine kB af rfl (by rw [aj,aB];rfl) ?_;rw [if_pos (by rw [aj,aB];rfl)];unfold hq;rw [show c.tick.m.stack=.plus u::st from aB];exact ⟨⟨.refl,rfl,rfl,rfl,rfl⟩,U,rfl,rfl⟩
theorem Tc(A:dB c.S c.m.here (.whole j) az)(aj:c.m.paired=false)(aB:c.m.stack=.i3 i::st):After 1 c λ c1=>jw c c1 1 0 0/\dB c1.S c1.m.here (.whole (i+j)) .nil/\c1.m.paired=false/\c1.m.stack=st:=by
 obtain ⟨⟨t,rs,c9⟩,af,rfl,aF⟩:=A;refine kB af rfl (by rw [aj,aB];rfl) ?_;rw [if_pos (by rw [aj,aB];rfl)];unfold hq;rw [show c.tick.m.stack=.i3 i::st from aB]
 exact λ x aq=>⟨⟨.set aq,rfl,rfl,rfl,rfl⟩,.new (e:=.nil) .refl aq rfl,rfl,rfl⟩
theorem Td(A:dB c.S c.m.here (.whole i) az)(aj:c.m.paired=false)(aB:c.m.stack=.look u v::st)(U:dB c.S u q e)(V:dB c.S v s e):After 1 c λ c1=>jw c c1 1 0 0/\dB c1.S c1.m.here (if i=0 then q else s) e/\c1.m.paired=false/\c1.m.stack=st:=by
 obtain ⟨⟨t,rs,c9⟩,af,rfl,aF⟩:=A;refine kB af rfl (by rw [aj,aB];rfl) ?_;rw [if_pos (by rw [aj,aB];rfl)];unfold hq;rw [show c.tick.m.stack=.look u v::st from aB];refine ⟨⟨.refl,rfl,rfl,rfl,rfl⟩,?_,rfl,rfl⟩;show dB _ (if i=0 then u else v) _ _;by_cases h:i=0
 ·rw [if_pos h,if_pos h];exact U
 ·rw [if_neg h,if_neg h];exact V
theorem tw{k:dK}(A:dB c.S c.m.here a e)(aj:c.m.paired=false)(aB:c.m.stack=k::st)(h:ju false a (k::st)=false):c.iv=false/\c.m.stack≠[]:=by
 obtain ⟨x,af,rfl,_⟩:=A;exact ⟨by unfold bC.iv;rw [bC.yU af,aj,aB];exact h,by rw [aB];exact List.cons_ne_nil _ _⟩
end
end M2
structure nT(cS:bC)(c:bY)(n:Nat):Prop where
 st:cS.m.steps+n=c.el+c.jX
 dw:cS.m.rules=c.d8
 b6:cS.m.slips=c.dx
 lo:cS.m.looks=c.eV
def bY.w(c:bY):Nat:=c.el+c.jX
theorem nT.nx{cS dd:bC}{c c1:bY}{r s l n eV:Nat}(eg:nT cS c n)(x:jw cS dd r s l)(h0:c1.w+n=c.w+1+eV)(aF:c1.d8=c.d8+r)(ao:c1.dx=c.dx+s)(af:c1.eV=c.eV+l):nT dd c1 eV:=by
 obtain ⟨a1,a2,pI,pJ⟩:=eg;obtain ⟨_,cv,e0,mA,ij⟩:=x;unfold bY.w at h0;exact ⟨by omega,by omega,by omega,by omega⟩
def eJ(cS:bC)(c c':bY)(E:bC->Prop):Prop:=
 (c'.e_=0->After (c'.w - c.w - 1) cS λ d5=>nT d5 c' 1/\f6 cS.S d5.S/\E d5)/\(c'.e_=1->After (c'.w - c.w) cS λ _=>True)
structure eN(d:Nat)(e:Ev)(c:bY):Prop where
 a:c.d8<=c.el
 b:c.el<=400
 f:c.e_=0
 t:e.top<=c.d8
 d:d<=c.el
def yZ(cS d5:bC):Option (Tm × Ev)->Prop
 | some z=>dB d5.S d5.m.here z.1 z.2/\d5.m.paired=false/\d5.m.stack=cS.m.stack
 | none=>d5.iv=false/\d5.m.stack≠[]
theorem yZ.of{cS dd d5:bC}{r:Option (Tm × Ev)}(h:yZ dd d5 r)(e:dd.m.stack=cS.m.stack):yZ cS d5 r:=by
 cases r with
 | none=>exact h
 | some z=>exact ⟨h.1,h.2.1,h.2.2.trans e⟩
section
variable{cS:bC}{c c1 c2 c':bY}{E tx F:bC->Prop}
theorem eJ.mono(h:eJ cS c c' tx)(k:∀ d5,nT d5 c' 1->tx d5->E d5):eJ cS c c' E:=
 ⟨λ z=>(h.1 z).mono λ d5 ⟨a,b,g⟩=>⟨a,b,k d5 a g⟩,h.2⟩
theorem eJ.step(aJ:c1.w=c.w+1)(dx:c1.w<=c'.w)(d8:c'.e_=0->c1.w+1<=c'.w)(h:After 1 cS F)(k:∀ dd,F dd->f6 cS.S dd.S/\eJ dd c1 c' E):eJ cS c c' E:=by
 refine ⟨λ z=>?_,λ z=>?_⟩
 ·have:=d8 z;rw [show c'.w - c.w - 1=1+(c'.w - c1.w - 1) by omega];exact After.add (h.mono λ dd g=>((k dd g).2.1 z).mono λ d5 ⟨a,b,x⟩=>⟨a,(k dd g).1.trans b,x⟩)
 ·rw [show c'.w - c.w=1+(c'.w - c1.w) by omega];exact After.add (h.mono λ dd g=>(k dd g).2.2 z)
theorem eJ.seq(bF:c1.e_=0)(aJ:c2.w=c1.w)(eV:c.w+1<=c1.w)(dx:c1.w<=c'.w)(d8:c'.e_=0->c1.w+1<=c'.w)(A:eJ cS c c1 tx)(B:∀ dd,nT dd c1 1->f6 cS.S dd.S->tx dd->After 1 dd λ hI=>f6 dd.S hI.S/\eJ hI c2 c' E):eJ cS c c' E:=by
 refine ⟨λ z=>?_,λ z=>?_⟩
 ·have:=d8 z;rw [show c'.w - c.w - 1=(c1.w - c.w - 1)+(1+(c'.w - c2.w - 1)) by omega];exact After.add ((A.1 bF).mono λ dd ⟨a,b,x⟩=>After.add ((B dd a b x).mono λ hI ⟨g,y⟩=>(y.1 z).mono λ d5 ⟨dT,dO,oL⟩=>⟨dT,(b.trans g).trans dO,oL⟩))
 ·rw [show c'.w - c.w=(c1.w - c.w - 1)+(1+(c'.w - c2.w)) by omega];exact After.add ((A.1 bF).mono λ dd ⟨a,b,x⟩=>After.add ((B dd a b x).mono λ hI ⟨g,y⟩=>y.2 z))
theorem eJ.last(bF:c1.e_=0)(bU:c'.e_=0)(aJ:c'.w=c1.w+1)(eV:c.w+1<=c1.w)(A:eJ cS c c1 tx)(B:∀ dd,nT dd c1 1->f6 cS.S dd.S->tx dd->After 1 dd λ hI=>nT hI c' 1/\f6 dd.S hI.S/\E hI):eJ cS c c' E:=by
 refine ⟨λ z=>?_,λ z=>by rw [bU] at z;cases z⟩;rw [show c'.w - c.w - 1=(c1.w - c.w - 1)+1 by omega];exact After.add ((A.1 bF).mono λ dd ⟨a,b,x⟩=>(B dd a b x).mono λ hI ⟨dT,dO,oL⟩=>⟨dT,b.trans dO,oL⟩)
end
theorem dc.nw{d:Nat}{t:Tm}{e:Ev}{c c':bY}{r:Option (Tm × Ev)}(h:dc d t e c r c')(f:c.e_=0):c.w<=c'.w/\(c'.e_=0->c.w+1<=c'.w):=by
 have d:=h.fz;have o:=d.o;have q:=d.q;unfold bY.w;refine ⟨by omega,λ z=>?_⟩;rcases h.lK f with ⟨_,b⟩ | ⟨_,b,_⟩
 ·omega
 ·rw [z] at b;cases b
theorem dc.z{d:Nat}{t:Tm}{e:Ev}{c c':bY}{z:Tm × Ev}(h:dc d t e c (some z) c')(f:c.e_=0):c'.e_=0:=by
 rcases h.lK f with ⟨a,_⟩ | ⟨a,_⟩
 ·exact a
 ·cases a
theorem eN.t0{d:Nat}{e:Ev}{c:bY}(h:eN d e c)(o:On d c):eN (d+1) e c.t0:=⟨jb h.a,o.1,h.f,h.t,Nat.succ_le_succ h.d⟩
theorem eN.nx{d d':Nat}{p:Tm}{e e':Ev}{oS c c1 c2:bY}{z:Tm × Ev}(h:eN d e oS)(c0:c.el=oS.el+1)(gm:c.d8=oS.d8)(k:dc (d+1) p e c (some z) c1)(f:c.e_=0)(o:On d oS)(Zh:c2.el=c1.el)(g3:c1.d8<=c2.d8)(Zi:c2.d8<=c1.d8+1)(f3:c2.e_=c1.e_)(bt:e'.top<=c2.d8)(hd:d'<=d+1):eN d' e' c2:=by
 obtain ⟨a,b,m,x,p,q⟩:=k.fz;simp only [cU] at a b x;have:=h.a;have:=h.d;have:=m (by have:=o.1;omega);exact ⟨by omega,by omega,by rw [f3];exact k.z f,bt,by omega⟩
def Te:Option (Tm × Ev)->Prop
 | some z=>z.1.lS=true
 | none=>True
theorem dc.lS{d:Nat}{t:Tm}{e:Ev}{c c':bY}{r:Option (Tm × Ev)}(h:dc d t e c r c'):Te r:=by
 induction h with
 | val _ v=>exact v
 | plus=>rfl
 | name _ _ _ bL=>exact bL
 | give _ _ _ _ bL=>exact bL
 | first _ _ _ _ bL=>exact bL
 | second _ _ _ _ bL=>exact bL
 | look _ _ _ _ bL=>exact bL
 | _=>trivial
theorem vY{d:Nat}{t:Tm}{e:Ev}{c c':bY}{r:Option (Tm × Ev)}(h:dc d t e c r c'):eN d e c->∀ cS:bC,dB cS.S cS.m.here t e->cS.m.paired=false->nT cS c 0->eJ cS c c' λ d5=>yZ cS d5 r:=by
 induction h with
 | @cut d t e c o=>
  intro b cS A aj eg;refine And.intro (λ z=>absurd (show (1:Nat)=0 from z) (by decide)) (λ _=>?_);show After (c.w - c.w) _ _;rw [Nat.sub_self];trivial
 | @val d t e c o v=>
  intro b cS A aj eg;refine ⟨λ _=>?_,λ z=>by have:=b.f;simp only at z;omega⟩;rw [show c.t0.w - c.w - 1=0 by unfold bY.w;simp only;omega];exact ⟨⟨by have:=eg.st;show _=c.el+1+c.jX;omega,eg.dw,eg.b6,eg.lo⟩,.refl,A,aj,rfl⟩
 | @name d n e c t' e' r c' o g af bL=>
  intro b cS A aj eg;obtain ⟨dv,eE⟩:=af.nw b.f
  refine eJ.step (c1:=c.t0.t1) (by unfold bY.w;simp only;omega) dv eE (M2.S9 A aj g) λ dd ⟨x,fW,df,s1⟩=>⟨x.bS,?_⟩
  exact (bL ⟨jb b.a,o.1,b.f,e5 (Ev.BX g) b.t,jb b.d⟩ dd fW df (eg.nx x (by unfold bY.w;simp only;omega) rfl rfl rfl)).mono λ d5 _ y=>y.of s1
 | @first d p e c x y az c1 r c' o af ao bq bM=>
  intro b cS A aj eg;obtain ⟨dv,eE⟩:=af.nw b.f;have bF:=af.z b.f;obtain ⟨v1,v2⟩:=ao.nw (c:=c1.t3) bF;have h9:=eE bF;have rW:c1.w<=c'.w:=v1
  refine eJ.step (c1:=c.t0) (by unfold bY.w;simp only;omega) (e5 dv rW) (λ z=>by have:=v2 z;show c.t0.w+1<=_;have:c1.w+1<=c'.w:=this;omega) (M2.H_ A aj) λ dd ⟨am,fW,df,s1⟩=>⟨am.bS,?_⟩
  refine eJ.seq (c2:=c1.t3) bF rfl h9 v1 v2 (bq (b.t0 o) dd fW df (eg.nx am (by unfold bY.w;simp only;omega) rfl rfl rfl)) λ hI e3 cF ⟨i6,cc,s2⟩=>?_
  refine (M2.Ta i6 cc (s2.trans s1)).mono λ li ⟨cP,jY,jZ,s3⟩=>⟨cP.bS,?_⟩
  exact (bM (eN.nx (c:=c.t0) (c1:=c1) (c2:=c1.t3) b rfl rfl af b.f o rfl (f_ _) (b7 _) rfl (jb (af.top b.t)) (f_ _)) li jY jZ (e3.nx cP (by unfold bY.w;simp only) rfl rfl rfl)).mono λ d5 _ y=>y.of s3
 | @give d p q e c Zj az c1 r c' o af ao bq bM=>
  intro b cS A aj eg;obtain ⟨dv,eE⟩:=af.nw b.f;have bF:=af.z b.f;obtain ⟨v1,v2⟩:=ao.nw (c:=c1.t3) bF;have h9:=eE bF;have rW:c1.w<=c'.w:=v1
  refine eJ.step (c1:=c.t0.cR) (by unfold bY.w;simp only;omega) (e5 dv rW) (λ z=>by have:=v2 z;show c.t0.cR.w+1<=_;have:c1.w+1<=c'.w:=this;omega) (M2.Ib A aj) λ dd ⟨am,fW,df,u,s1,nU⟩=>⟨am.bS,?_⟩
  refine eJ.seq (c2:=c1.t3) bF rfl h9 v1 v2 (bq (show eN (d+1) e c.t0.cR from ⟨(b.t0 o).a,(b.t0 o).b,(b.t0 o).f,(b.t0 o).t,(b.t0 o).d⟩) dd fW df (eg.nx am (by unfold bY.w;simp only;omega) rfl rfl rfl)) λ hI e3 cF ⟨i6,cc,s2⟩=>?_
  refine (M2.S_ i6 cc (s2.trans s1) (nU.bS cF) (by have:=az.yX;have:=af.top b.t;have:=(eN.nx (c:=c.t0.cR) (c1:=c1) (c2:=c1.t3) (e':=.nil) (d':=d) b rfl rfl af b.f o rfl (f_ _) (b7 _) rfl (f9 _) (f_ _));have bq:=this.a;have bM:=this.b;simp only [oT] at *;omega)).mono λ li ⟨cP,jY,jZ,s3⟩=>⟨cP.bS,?_⟩
  exact (bM (eN.nx (c:=c.t0.cR) (c1:=c1) (c2:=c1.t3) b rfl rfl af b.f o rfl (f_ _) (b7 _) rfl (by have:=af.top b.t;have:=af.fz.p;have:=b.t;have:=az.yX;simp only [oT,Ev.top] at *;omega) (f_ _)) li jY jZ (e3.nx cP (by unfold bY.w;simp only) rfl rfl rfl)).mono λ d5 _ y=>y.of s3
 | @second d p e c x y az c1 r c' o af ao bq bM=>
  intro b cS A aj eg;obtain ⟨dv,eE⟩:=af.nw b.f;have bF:=af.z b.f;obtain ⟨v1,v2⟩:=ao.nw (c:=c1.t3) bF;have h9:=eE bF;have rW:c1.w<=c'.w:=v1
  refine eJ.step (c1:=c.t0) (by unfold bY.w;simp only;omega) (e5 dv rW) (λ z=>by have:=v2 z;show c.t0.w+1<=_;have:c1.w+1<=c'.w:=this;omega) (M2.Ia A aj) λ dd ⟨am,fW,df,s1⟩=>⟨am.bS,?_⟩
  refine eJ.seq (c2:=c1.t3) bF rfl h9 v1 v2 (bq (b.t0 o) dd fW df (eg.nx am (by unfold bY.w;simp only;omega) rfl rfl rfl)) λ hI e3 cF ⟨i6,cc,s2⟩=>?_
  refine (M2.Tb i6 cc (s2.trans s1)).mono λ li ⟨cP,jY,jZ,s3⟩=>⟨cP.bS,?_⟩
  exact (bM (eN.nx (c:=c.t0) (c1:=c1) (c2:=c1.t3) b rfl rfl af b.f o rfl (f_ _) (b7 _) rfl (jb (af.top b.t)) (f_ _)) li jY jZ (e3.nx cP (by unfold bY.w;simp only) rfl rfl rfl)).mono λ d5 _ y=>y.of s3
 | @look d p q s e c i az c1 r c' o af ao bq bM=>
  intro b cS A aj eg;obtain ⟨dv,eE⟩:=af.nw b.f;have bF:=af.z b.f;obtain ⟨v1,v2⟩:=ao.nw (c:=c1.t3) bF;have h9:=eE bF;have rW:c1.w<=c'.w:=v1
  refine eJ.step (c1:=c.t0) (by unfold bY.w;simp only;omega) (e5 dv rW) (λ z=>by have:=v2 z;show c.t0.w+1<=_;have:c1.w+1<=c'.w:=this;omega) (M2.Ic A aj) λ dd ⟨am,fW,df,u,v,s1,nU,Ie⟩=>⟨am.bS,?_⟩
  refine eJ.seq (c2:=c1.t3) bF rfl h9 v1 v2 (bq (b.t0 o) dd fW df (eg.nx am (by unfold bY.w;simp only;omega) rfl rfl rfl)) λ hI e3 cF ⟨i6,cc,s2⟩=>?_
  refine (M2.Td i6 cc (s2.trans s1) (nU.bS cF) (Ie.bS cF)).mono λ li ⟨cP,jY,jZ,s3⟩=>⟨cP.bS,?_⟩
  exact (bM (eN.nx (c:=c.t0) (c1:=c1) (c2:=c1.t3) b rfl rfl af b.f o rfl (f_ _) (b7 _) rfl (jb (e5 b.t af.fz.p)) (f_ _)) li jY jZ (e3.nx cP (by unfold bY.w;simp only) rfl rfl rfl)).mono λ d5 _ y=>y.of s3
 | @tp d p q e c r c' o af bc bq=>
  intro b cS A aj eg;obtain ⟨dv,eE⟩:=af.nw b.f
  refine eJ.step (c1:=c.t0.cR) (by unfold bY.w;simp only;omega) dv eE (M2.Ib A aj) λ dd ⟨am,fW,df,u,s1,nU⟩=>⟨am.bS,?_⟩
  refine (bq (show eN (d+1) e c.t0.cR from ⟨(b.t0 o).a,(b.t0 o).b,(b.t0 o).f,(b.t0 o).t,(b.t0 o).d⟩) dd fW df (eg.nx am (by unfold bY.w;simp only;omega) rfl rfl rfl)).mono λ d5 _ y=>?_
  cases r with
  | none=>exact y
  | some z=>
   obtain ⟨v,om⟩:=z;obtain ⟨e2,e3,iy⟩:=y;have bK:=af.lS;refine M2.tw e2 e3 (iy.trans s1) ?_;cases v<;>first | rfl | exact absurd rfl (bc _ _) | cases bK
 | @tq d p e c r c' o af bc bq=>
  intro b cS A aj eg;obtain ⟨dv,eE⟩:=af.nw b.f
  refine eJ.step (c1:=c.t0) (by unfold bY.w;simp only;omega) dv eE (M2.H_ A aj) λ dd ⟨am,fW,df,s1⟩=>⟨am.bS,?_⟩
  refine (bq (b.t0 o) dd fW df (eg.nx am (by unfold bY.w;simp only;omega) rfl rfl rfl)).mono λ d5 _ y=>?_
  cases r with
  | none=>exact y
  | some z=>
   obtain ⟨v,om⟩:=z;obtain ⟨e2,e3,iy⟩:=y;have bK:=af.lS;refine M2.tw e2 e3 (iy.trans s1) ?_;cases v<;>first | rfl | exact absurd rfl (bc _ _ _) | cases bK
 | @tr d p e c r c' o af bc bq=>
  intro b cS A aj eg;obtain ⟨dv,eE⟩:=af.nw b.f
  refine eJ.step (c1:=c.t0) (by unfold bY.w;simp only;omega) dv eE (M2.Ia A aj) λ dd ⟨am,fW,df,s1⟩=>⟨am.bS,?_⟩
  refine (bq (b.t0 o) dd fW df (eg.nx am (by unfold bY.w;simp only;omega) rfl rfl rfl)).mono λ d5 _ y=>?_
  cases r with
  | none=>exact y
  | some z=>
   obtain ⟨v,om⟩:=z;obtain ⟨e2,e3,iy⟩:=y;have bK:=af.lS;refine M2.tw e2 e3 (iy.trans s1) ?_;cases v<;>first | rfl | exact absurd rfl (bc _ _ _) | cases bK
 | @ts d p q e c r c' o af bc bq=>
  intro b cS A aj eg;obtain ⟨dv,eE⟩:=af.nw b.f
  refine eJ.step (c1:=c.t0) (by unfold bY.w;simp only;omega) dv eE (M2.BY A aj) λ dd ⟨am,fW,df,u,s1,nU⟩=>⟨am.bS,?_⟩
  refine (bq (b.t0 o) dd fW df (eg.nx am (by unfold bY.w;simp only;omega) rfl rfl rfl)).mono λ d5 _ y=>?_
  cases r with
  | none=>exact y
  | some z=>
   obtain ⟨v,om⟩:=z;obtain ⟨e2,e3,iy⟩:=y;have bK:=af.lS;refine M2.tw e2 e3 (iy.trans s1) ?_;cases v<;>first | rfl | exact absurd rfl (bc _ _) | cases bK
 | @tv d p q s e c r c' o af bc bq=>
  intro b cS A aj eg;obtain ⟨dv,eE⟩:=af.nw b.f
  refine eJ.step (c1:=c.t0) (by unfold bY.w;simp only;omega) dv eE (M2.Ic A aj) λ dd ⟨am,fW,df,u,v,s1,nU,Ie⟩=>⟨am.bS,?_⟩
  refine (bq (b.t0 o) dd fW df (eg.nx am (by unfold bY.w;simp only;omega) rfl rfl rfl)).mono λ d5 _ y=>?_
  cases r with
  | none=>exact y
  | some z=>
   obtain ⟨v,om⟩:=z;obtain ⟨e2,e3,iy⟩:=y;have bK:=af.lS;refine M2.tw e2 e3 (iy.trans s1) ?_;cases v<;>first | rfl | exact absurd rfl (bc _ _) | cases bK
 | @tu d p q e c i az c1 r c' o af ao bc bq bM=>
  intro b cS A aj eg;obtain ⟨dv,eE⟩:=af.nw b.f;have bF:=af.z b.f;obtain ⟨v1,v2⟩:=ao.nw bF;have h9:=eE bF
  refine eJ.step (c1:=c.t0) (by unfold bY.w;simp only;omega) (e5 dv v1) (λ z=>by have:=v2 z;omega) (M2.BY A aj) λ dd ⟨am,fW,df,u,s1,nU⟩=>⟨am.bS,?_⟩
  refine eJ.seq (c2:=c1) bF rfl h9 v1 v2 (bq (b.t0 o) dd fW df (eg.nx am (by unfold bY.w;simp only;omega) rfl rfl rfl)) λ hI e3 cF ⟨i6,cc,s2⟩=>?_
  refine (M2.Id i6 cc (s2.trans s1) (nU.bS cF)).mono λ li ⟨cP,jY,jZ,s3⟩=>⟨cP.bS,?_⟩
  refine (bM (eN.nx (c:=c.t0) (c1:=c1) (c2:=c1) b rfl rfl af b.f o rfl (b7 _) (f_ _) rfl (e5 b.t af.fz.p) (b7 _)) li jY jZ (e3.nx cP (by unfold bY.w;omega) rfl rfl rfl)).mono λ d5 _ y=>?_
  cases r with
  | none=>exact y
  | some z=>
   obtain ⟨v,om⟩:=z;obtain ⟨e2,e3,iy⟩:=y;have bK:=ao.lS;refine M2.tw e2 e3 (iy.trans s3) ?_;cases v<;>first | rfl | exact absurd rfl (bc _ _) | cases bK
 | @plus d p q e c i az c1 j aW c2 o af ao bq bM=>
  intro b cS A aj eg;obtain ⟨dv,eE⟩:=af.nw b.f;have bF:=af.z b.f;obtain ⟨v1,v2⟩:=ao.nw bF;have bU:=ao.z bF;have h9:=eE bF;have BV:=v2 bU
  have ji:c2.mG.t3.w=c2.w+1:=by unfold bY.w;simp only;omega
  refine eJ.step (c1:=c.t0) (by unfold bY.w;simp only;omega) (by omega) (λ z=>by omega) (M2.BY A aj) λ dd ⟨am,fW,df,u,s1,nU⟩=>⟨am.bS,?_⟩
  refine eJ.seq (c2:=c1) bF rfl h9 (by omega) (λ _=>by omega) (bq (b.t0 o) dd fW df (eg.nx am (by unfold bY.w;simp only;omega) rfl rfl rfl)) λ hI e3 cF ⟨i6,cc,s2⟩=>?_
  refine (M2.Id i6 cc (s2.trans s1) (nU.bS cF)).mono λ li ⟨cP,jY,jZ,s3⟩=>⟨cP.bS,?_⟩
  refine eJ.last bU (c':=c2.mG.t3) bU ji BV (bM (eN.nx (c:=c.t0) (c1:=c1) (c2:=c1) b rfl rfl af b.f o rfl (b7 _) (f_ _) rfl (e5 b.t af.fz.p) (b7 _)) li jY jZ (e3.nx cP (by unfold bY.w;omega) rfl rfl rfl)) λ y0 Tf sL ⟨vZ,v3,s4⟩=>?_
  exact (M2.Tc vZ v3 (s4.trans s3)).mono λ Tg ⟨xd,B0,Th,s5⟩=>⟨Tf.nx xd (by omega) rfl rfl rfl,xd.bS,B0,Th,s5⟩
end L3
namespace L3
open PySem L2
inductive i7 where
 | val (t:Tm) (e:Ev)
 | pair (a b:i7)
def i7.eT:i7->Tm
 | .val t e=>t.d_ (g0 e.gh) 0
 | .pair a b=>.pair a.eT b.eT
def j0(S:dN):i7->Addr->Bool->Prop
 | .val t e,p,fX=>fX=false/\dB S p t e/\t.lS=true/\∀ a b,t≠.pair a b
 | .pair a b,p,fX=>fX=true/\∃ x df cc,S p=some x/\x.t=.pair (.name 0) (.name 1)/\x.rs=[df,cc]/\(∃ d,j0 S a df d)/\∃ d,j0 S b cc d
theorem j0.bS{S lT:dN}(k:f6 S lT):∀{a:i7}{p:Addr}{fX:Bool},j0 S a p fX->j0 lT a p fX
 | .val t e,p,fX,h=>⟨h.1,h.2.1.bS k,h.2.2⟩
 | .pair a b,p,fX,h=>by
  obtain ⟨h0,x,df,cc,af,ao,aF,⟨d,cn⟩,d',d1⟩:=h;exact ⟨h0,x,df,cc,k _ _ af,ao,aF,⟨d,cn.bS k⟩,d',d1.bS k⟩
theorem j0.c9{S:dN}{rk:Addr->Nat}(w:lb S rk):∀{a:i7}{p:Addr}{fX:Bool},j0 S a p fX->∃ x,S p=some x/\x.c9=a.eT
 | .val t e,p,fX,h=>by
  obtain ⟨_,⟨x,af,rfl,aF⟩,_⟩:=h;exact ⟨x,af,by rw [w.c9 p x af,aF.gh w];rfl⟩
 | .pair a b,p,fX,h=>by
  obtain ⟨_,x,df,cc,af,ao,aF,⟨d,cn⟩,d',d1⟩:=h;obtain ⟨y,az,aW⟩:=cn.c9 w;obtain ⟨z,g1,g2⟩:=d1.c9 w;refine ⟨x,af,?_⟩;rw [w.c9 p x af,ao,aF];show Tm.pair (nP S df) (nP S cc)=_;unfold nP;rw [az,g1];show Tm.pair y.c9 z.c9=_;rw [aW,g2];rfl
theorem j0.i8{S:dN}{a:i7}{p:Addr}{fX:Bool}(h:j0 S a p fX):∃ x,S p=some x/\x.t.isName=false/\(∀ u st,fV fX x.t (.both u::st)=true/\fV fX x.t (.gP u::st)=true)/\ju fX x.t []=false:=by
 cases a with
 | val t e=>
  obtain ⟨rfl,⟨x,af,rfl,_⟩,cn,d1⟩:=h;refine ⟨x,af,?_⟩;obtain ⟨t,rs,c9⟩:=x;cases t<;>first | exact absurd rfl (d1 _ _) | exact ⟨rfl,λ _ _=>⟨rfl,rfl⟩,rfl⟩ | cases cn
 | pair a b=>
  obtain ⟨rfl,x,df,cc,af,ao,_⟩:=h;refine ⟨x,af,?_⟩;rw [ao];exact ⟨rfl,λ _ _=>⟨rfl,rfl⟩,rfl⟩
namespace M2
section
variable{c:bC}{q:Tm}{e:Ev}{st:List dK}{u z:Addr}{a b:i7}{fX:Bool}
theorem Ig(A:j0 c.S a c.m.here c.m.paired)(aB:c.m.stack=.both u::st)(U:dB c.S u q e):After 1 c λ c1=>jw c c1 0 0 0/\dB c1.S c1.m.here q e/\c1.m.paired=false/\∃ z fX,c1.m.stack=.gP z::st/\j0 c1.S a z fX:=by
 obtain ⟨x,af,ao,aF,_⟩:=A.i8;obtain ⟨jd,_⟩:=aF u st;refine kB af ao (by rw [aB];unfold ju;rw [jd];rfl) ?_;rw [if_pos (by rw [aB];exact jd)];unfold hq;rw [show c.tick.m.stack=.both u::st from aB];cases x.t<;>exact ⟨⟨.refl,rfl,rfl,rfl,rfl⟩,U,rfl,c.m.here,c.m.paired,rfl,A⟩
theorem Ti(A:j0 c.S b c.m.here c.m.paired)(aB:c.m.stack=.gP z::st)(Z:j0 c.S a z fX):After 1 c λ c1=>jw c c1 0 0 0/\j0 c1.S (.pair a b) c1.m.here c1.m.paired/\c1.m.stack=st:=by
 obtain ⟨x,af,ao,aF,_⟩:=A.i8;obtain ⟨_,jd⟩:=aF z st;refine kB af ao (by rw [aB];unfold ju;rw [jd];rfl) ?_;rw [if_pos (by rw [aB];exact jd)];unfold hq;rw [show c.tick.m.stack=.gP z::st from aB]
 cases x.t<;>exact λ p aj=>⟨⟨.set aj,rfl,rfl,rfl,rfl⟩,⟨rfl,_,z,c.m.here,iu,rfl,rfl,⟨fX,Z.bS (.set aj)⟩,c.m.paired,A.bS (.set aj)⟩,rfl⟩
end
end M2
inductive hJ:Nat->Tm->Ev->bY->Option i7->bY->Prop where
 | br {d t e c c'}:dc d t e c none c'->hJ d t e c none c'
 | val {d t e c v az c'}:dc d t e c (some (v,az)) c'->(∀ a b,v≠.pair a b)->hJ d t e c (some (.val v az)) c'
 | one {d t e c a b az c1 c'}:dc d t e c (some (.pair a b,az)) c1->hJ (d+1) a az c1 none c'->hJ d t e c none c'
 | two {d t e c a b az c1 v c2 c'}:dc d t e c (some (.pair a b,az)) c1->hJ (d+1) a az c1 (some v) c2->hJ (d+1) b az c2 none c'->hJ d t e c none c'
 | pair {d t e c a b az c1 v c2 w c'}:dc d t e c (some (.pair a b,az)) c1->hJ (d+1) a az c1 (some v) c2->hJ (d+1) b az c2 (some w) c'->hJ d t e c (some (.pair v w)) c'.mG
theorem hJ.fz{d:Nat}{t:Tm}{e:Ev}{c c':bY}{r:Option i7}(h:hJ d t e c r c'):H7 c c' (cU r):=by
 induction h with
 | br h=>exact h.fz
 | val h=>exact h.fz
 | one h _ bq=>obtain ⟨a,b,m,p,k,g⟩:=h.fz;obtain ⟨dT,dO,cu,g9,ha,g'⟩:=bq;exact ⟨by simp only [cU] at *;omega,by simp only [cU] at *;omega,λ x=>cu (m x),by simp only [cU] at *;omega,by omega,by omega⟩
 | two h _ _ bq bM=>obtain ⟨a,b,m,p,k,g⟩:=h.fz;obtain ⟨dT,dO,cu,g9,ha,g'⟩:=bq;obtain ⟨a2,e0,l5,cc,cF,g2⟩:=bM;exact ⟨by simp only [cU] at *;omega,by simp only [cU] at *;omega,λ x=>l5 (cu (m x)),by simp only [cU] at *;omega,by omega,by omega⟩
 | pair h _ _ bq bM=>obtain ⟨a,b,m,p,k,g⟩:=h.fz;obtain ⟨dT,dO,cu,g9,ha,g'⟩:=bq;obtain ⟨a2,e0,l5,cc,cF,g2⟩:=bM;exact ⟨by simp only [cU] at *;omega,by simp only [cU] at *;omega,λ x=>l5 (cu (m x)),by simp only [cU] at *;omega,by simp only at *;omega,by simp only at *;omega⟩
theorem hJ.lK{d:Nat}{t:Tm}{e:Ev}{c c':bY}{r:Option i7}(h:hJ d t e c r c'):c.e_=0->(c'.e_=0/\c.el+1<=c'.el)\/(r=none/\c'.e_=1/\(d<=c.el->120<=c'.el)):=by
 induction h with
 | br h=>intro f;rcases h.lK f with a | ⟨_,a⟩;exact .inl a;exact .inr ⟨rfl,a⟩
 | val h=>intro f;rcases h.lK f with a | ⟨a,_⟩;exact .inl a;cases a
 | one h _ bq=>
  intro f;rcases h.lK f with ⟨a,b⟩ | ⟨a,_⟩
  ·rcases bq a with ⟨dT,dO⟩ | ⟨dT,dO,g⟩;exact .inl ⟨dT,by omega⟩;exact .inr ⟨rfl,dO,λ h=>g (by omega)⟩
  ·cases a
 | two h _ _ bq bM=>
  intro f;rcases h.lK f with ⟨a,b⟩ | ⟨a,_⟩
  ·rcases bq a with ⟨dT,dO⟩ | ⟨dT,_⟩
   ·rcases bM dT with ⟨a2,e0⟩ | ⟨a2,e0,g⟩;exact .inl ⟨a2,by omega⟩;exact .inr ⟨rfl,e0,λ h=>g (by omega)⟩
   ·cases dT
  ·cases a
 | pair h _ _ bq bM=>
  intro f;rcases h.lK f with ⟨a,b⟩ | ⟨a,_⟩
  ·rcases bq a with ⟨dT,dO⟩ | ⟨dT,_⟩
   ·rcases bM dT with ⟨a2,e0⟩ | ⟨a2,_⟩
    ·exact .inl ⟨a2,by simp only;omega⟩
    ·cases a2
   ·cases dT
  ·cases a
theorem hJ.nw{d:Nat}{t:Tm}{e:Ev}{c c':bY}{r:Option i7}(h:hJ d t e c r c')(f:c.e_=0):c.w<=c'.w/\(c'.e_=0->c.w+1<=c'.w):=by
 have d:=h.fz;have o:=d.o;have q:=d.q;unfold bY.w;refine ⟨by omega,λ z=>?_⟩;rcases h.lK f with ⟨_,b⟩ | ⟨_,b,_⟩
 ·omega
 ·rw [z] at b;cases b
theorem hJ.z{d:Nat}{t:Tm}{e:Ev}{c c':bY}{z:i7}(h:hJ d t e c (some z) c')(f:c.e_=0):c'.e_=0:=by
 rcases h.lK f with ⟨a,_⟩ | ⟨a,_⟩
 ·exact a
 ·cases a
def Tj(cS d5:bC):Option i7->Prop
 | some a=>j0 d5.S a d5.m.here d5.m.paired/\d5.m.stack=cS.m.stack
 | none=>d5.iv=false/\d5.m.stack≠[]
theorem eN.hd{d:Nat}{t:Tm}{e:Ev}{c c1:bY}{z:Tm × Ev}(b:eN d e c)(h:dc d t e c (some z) c1):eN (d+1) z.2 c1:=by
 obtain ⟨a,_,m,x,p,q⟩:=h.fz;simp only [cU] at a x;have:=b.a;have:=b.d;exact ⟨by omega,m b.b,h.z b.f,h.top b.t,by omega⟩
theorem eN.an{d:Nat}{t:Tm}{e:Ev}{c c1:bY}{v:i7}(b:eN d e c)(h:hJ d t e c (some v) c1):eN d e c1:=by
 obtain ⟨a,_,m,x,p,q⟩:=h.fz;simp only [cU] at a x;have:=b.a;have:=b.d;have:=b.t;exact ⟨by omega,m b.b,h.z b.f,by omega,by omega⟩
theorem Tk{d:Nat}{t:Tm}{e:Ev}{c c':bY}{r:Option i7}(h:hJ d t e c r c'):eN d e c->∀ cS:bC,dB cS.S cS.m.here t e->cS.m.paired=false->p0 cS.m.stack=true->nT cS c 0->eJ cS c c' λ d5=>Tj cS d5 r:=by
 induction h with
 | br h=>intro b cS A aj _ eg;exact (vY h b cS A aj eg).mono λ d5 _ y=>y
 | val h bK=>
  intro b cS A aj _ eg
  refine (vY h b cS A aj eg).mono λ d5 _ ⟨e2,e3,iy⟩=>⟨?_,iy⟩
  rw [e3];exact ⟨rfl,e2,h.lS,bK⟩
 | @one d t e c a b az c1 c' h af bq=>
  intro hr cS A aj au eg;obtain ⟨dv,eE⟩:=h.nw hr.f;have bF:=h.z hr.f;obtain ⟨v1,v2⟩:=af.nw bF;refine eJ.seq (c2:=c1) bF rfl (eE bF) v1 v2 (vY h hr cS A aj eg) λ dd e2 ec ⟨fW,df,s1⟩=>?_
  refine (M2.BZ fW df (by rw [s1];exact au)).mono λ hI ⟨aI,i6,cc,u,s2,oU⟩=>⟨aI.bS,?_⟩
  exact (bq (hr.hd h) hI i6 cc (by rw [s2];rfl) (e2.nx aI (by omega) rfl rfl rfl)).mono λ d5 _ y=>y
 | @two d t e c a b az c1 v c2 c' h af ao bq bM=>
  intro hr cS A aj au eg;obtain ⟨dv,eE⟩:=h.nw hr.f;have bF:=h.z hr.f;obtain ⟨v1,v2⟩:=af.nw bF;have bU:=af.z bF;obtain ⟨bV,b8⟩:=ao.nw bU;have cv:=hr.hd h;refine eJ.seq (c2:=c1) bF rfl (eE bF) (e5 v1 bV) (λ z=>by have:=b8 z;omega) (vY h hr cS A aj eg) λ dd e2 ec ⟨fW,df,s1⟩=>?_
  refine (M2.BZ fW df (by rw [s1];exact au)).mono λ hI ⟨aI,i6,cc,u,s2,oU⟩=>⟨aI.bS,?_⟩
  refine eJ.seq (c2:=c2) bU rfl (v2 bU) bV b8 (bq cv hI i6 cc (by rw [s2];rfl) (e2.nx aI (by omega) rfl rfl rfl)) λ li iy fw ⟨jY,s3⟩=>?_
  refine (M2.Ig jY (s3.trans s2) (oU.bS fw)).mono λ y0 ⟨qD,vZ,v3,Tl,fX,s4,Ih⟩=>⟨qD.bS,?_⟩
  exact (bM (cv.an af) y0 vZ v3 (by rw [s4];rfl) (iy.nx qD (by omega) rfl rfl rfl)).mono λ d5 _ y=>y
 | @pair d t e c a b az c1 v c2 w c' h af ao bq bM=>
  intro hr cS A aj au eg;obtain ⟨dv,eE⟩:=h.nw hr.f;have bF:=h.z hr.f;obtain ⟨v1,v2⟩:=af.nw bF;have bU:=af.z bF;obtain ⟨bV,b8⟩:=ao.nw bU;have dg:=ao.z bU;have cv:=hr.hd h
  have ji:c'.mG.w=c'.w+1:=by unfold bY.w;simp only;omega
  have dM:=b8 dg;refine eJ.seq (c2:=c1) bF rfl (eE bF) (by omega) (λ z=>by omega) (vY h hr cS A aj eg) λ dd e2 ec ⟨fW,df,s1⟩=>?_
  refine (M2.BZ fW df (by rw [s1];exact au)).mono λ hI ⟨aI,i6,cc,u,s2,oU⟩=>⟨aI.bS,?_⟩
  refine eJ.seq (c2:=c2) bU rfl (v2 bU) (by omega) (λ _=>by omega) (bq cv hI i6 cc (by rw [s2];rfl) (e2.nx aI (by omega) rfl rfl rfl)) λ li iy fw ⟨jY,s3⟩=>?_
  refine (M2.Ig jY (s3.trans s2) (oU.bS fw)).mono λ y0 ⟨qD,vZ,v3,Tl,fX,s4,Ih⟩=>⟨qD.bS,?_⟩
  refine eJ.last dg (c':=c'.mG) dg ji dM (bM (cv.an af) y0 vZ v3 (by rw [s4];rfl) (iy.nx qD (by omega) rfl rfl rfl)) λ Tg zN ra ⟨B0,s5⟩=>?_
  exact (M2.Ti B0 (s5.trans s4) (Ih.bS ra)).mono λ Zk ⟨Ii,Tn,gV⟩=>⟨zN.nx Ii (by omega) rfl rfl rfl,Ii.bS,Tn,gV.trans s1⟩
end L3
namespace L3
open PySem L2
def j1(c:bC)(M:Nat):Prop:=∀ b x,c.S b=some x->c.rk b<=M
theorem Ij{rk:Addr->Nat}{n:Nat}:∀{rs:List Addr},(∀ r∈rs,rk r+1<=n)->vV rk rs<=n
 | [],_=>f9 _
 | a::rs,h=>Nat.max_le.mpr ⟨h a (f7 ..),Ij λ r ap=>h r (h3 _ ap)⟩
def lj(c:bC)(n:Nat)(rs:List Addr):Prop:=∀ r∈rs,(∃ y,c.S r=some y)/\c.rk r+1<=n
theorem j1.add{c:bC}{M p:Nat}{t:Tm}{rs:List Addr}(h:j1 c M)(w:lj c M rs)(aj:c.S p=none):j1 (c.add p t rs) M:=λ b x e=>by
 show mI c.rk p _ b<=M;unfold mI;by_cases k:b=p
 ·rw [if_pos k];exact Ij λ r ap=>(w r ap).2
 ·rw [if_neg k];refine h b x ?_;rw [show (c.add p t rs).S=fH c.S p (i4 c.S t rs) from rfl,oO k] at e;exact e
theorem lj.add{c:bC}{n p:Nat}{t:Tm}{rs nS:List Addr}(w:lj c n rs)(aj:c.S p=none):lj (c.add p t nS) n rs:=λ r ap=>by
 obtain ⟨⟨y,e⟩,k⟩:=w r ap;refine ⟨⟨y,oP aj e⟩,?_⟩;show mI c.rk p _ r+1<=n;unfold mI;rw [if_neg (by rintro rfl;rw [aj] at e;cases e)];exact k
theorem bC.i5.rk:∀{c:bC}{dZ:List Tm}{rs:List Addr}{M:Nat}{k:List Addr->bC->Prop},j1 c M->lj c M rs->c.i5 dZ rs k->c.i5 dZ rs λ aZ c1=>k aZ c1/\j1 c1 M/\lj c1 M rs
 | _,[],_,_,_,h,w,a=>⟨a,h,w⟩
 | c,t::dZ,rs,M,k,h,w,a=>λ p aj=>bC.i5.rk (h.add w aj) (w.add aj) (a p aj)
theorem iw.rank{c:bC}{M:Nat}{P:bC->Prop}(sw:lb c.S c.rk)(ms:∀ k∈c.m.stack,∀ b∈k.refs,∃ x,c.S b=some x)(ag:j1 c M)(h:iw c P):iw c λ c'=>P c'/\j1 c' (M+1):=by
 have up:∀{c':bC},c'.S=c.S->c'.rk=c.rk->j1 c' (M+1):=λ az aW b x e=>by rw [aW];exact jb (ag b x (by rw [<- az];exact e))
 have tick:∀{rs:List Addr},lj c (M+1) rs->lj c.tick (M+1) rs:=λ w=>w;have yM:j1 c.tick (M+1):=up rfl rfl;unfold iw at h ⊢
 cases aq:c.S c.m.here with
 | none=>rw [aq] at h;exact h
 | some x=>
  rw [aq] at h
  have row:lj c (M+1) x.rs:=λ r ap=>by
   obtain ⟨a,b⟩:=sw.sub _ x aq r ap;have:=ag _ x aq;exact ⟨a,by omega⟩
  have one:∀{b:Addr},(∃ y,c.S b=some y)->lj c (M+1) [b]:=λ⟨y,e⟩ r ap=>by
   rw [pc.mp ap];exact ⟨⟨y,e⟩,Nat.succ_le_succ (ag _ y e)⟩
  have cons:∀{b:Addr}{rs:List Addr},(∃ y,c.S b=some y)->lj c (M+1) rs->lj c (M+1) (b::rs):=λ aQ w r ap=>by
   rcases ea.mp ap with rfl | ap
   ·exact one aQ _ (pc.mpr rfl)
   ·exact w r ap
  have al:∀{t:Tm}{rs:List Addr}{m:Addr->vU}{Q:bC->Prop},lj c (M+1) rs->(c.tick.alloc t rs λ p c'=>Q { c' with m:=m p })->c.tick.alloc t rs λ p c'=>Q { c' with m:=m p }/\j1 { c' with m:=m p } (M+1):=λ w a p aj=>⟨a p aj,j1.add (c:=c.tick) yM (tick w) aj⟩
  simp only at h ⊢;split at h
  ·split at h
   ·exact ⟨h,up rfl rfl⟩
   ·exact h
  ·split at h
   ·next hm=>
    rw [if_pos hm];unfold hq at h ⊢
    cases aw:c.tick.m.stack with
    | nil=>rw [aw] at h;exact h
    | cons k st=>
     rw [aw] at h;have aC:=ms k (by show k∈c.tick.m.stack;rw [aw];exact f7 ..);simp only at h ⊢;split at h
     ·exact ⟨h.1,al (m:=λ p=>_) (cons (aC _ (pc.mpr rfl)) row) h.2⟩
     ·exact al (m:=λ p=>_) row h
     ·exact al (m:=λ p=>_) row h
     ·exact ⟨h,up rfl rfl⟩
     ·exact al (m:=λ p=>_) (λ r ap=>by cases ap) h
     ·exact ⟨h,up rfl rfl⟩
     ·exact ⟨h,up rfl rfl⟩
     ·exact al (m:=λ p=>_) (cons (aC _ (pc.mpr rfl)) (one ⟨x,aq⟩)) h
     ·exact h.elim
   ·next hm=>
    rw [if_neg hm];unfold la at h ⊢;split at h
    ·exact h
    ·exact bC.i5.mono (bC.i5.rk (c:=c.tick) yM (tick row) h) λ aZ c1 ⟨af,ao,aF⟩ p aj=>⟨af p aj,ao.add aF aj⟩
theorem To{u:Tm}{cs:List Tm}(h:u.leaf=false)(aP:cs.length=u.aL.length):(u.k9 cs).aL=cs:=by
 cases u<;>simp only [Tm.leaf,reduceCtorEq] at h<;>simp only [Tm.aL,eb,hu] at aP
 all_goals (rcases cs with _ | ⟨a,_ | ⟨b,_ | ⟨c,_ | ⟨d,r⟩⟩⟩⟩<;>simp at aP<;>rfl)
theorem Tp{t:Tm}{m:Nat}(h:∀ x∈t.aL,x.bH+1<=m):t.bH<=m:=by
 cases t<;>simp only [Tm.aL,ea,m1,or_false,forall_eq_or_imp,forall_eq] at h<;>simp only [Tm.bH]<;>omega
theorem Tq{u x:Tm}{n w:Nat}(h:u.cl (w+n))(aq:x∈u.aL):x.cl (u.cq w+n):=by
 cases u<;>simp only [Tm.aL,ea,m1,or_false] at aq<;>simp only [Tm.cl] at h
 case way=>subst aq;rw [Tm.cq,Nat.add_right_comm];exact h
 case first=>subst aq;exact h
 case second=>subst aq;exact h
 case give=>rcases aq with rfl | rfl;exact h.1;exact h.2
 case pair=>rcases aq with rfl | rfl;exact h.1;exact h.2
 case plus=>rcases aq with rfl | rfl;exact h.1;exact h.2
 case look=>rcases aq with rfl | rfl | rfl;exact h.1;exact h.2.1;exact h.2.2
theorem Tr(t:Tm)(w:Nat):(t.cq w:Int)=(w:Int)+(if id (t.word=="way")=true then 1 else 0):=by
 cases t<;>simp [Tm.cq,Tm.word,hH]
theorem dc.lt{d:Nat}{t:Tm}{e:Ev}{c c':bY}{z:Tm × Ev}(h:dc d t e c (some z) c'):d < 120:=by
 cases h with
 | val o=>exact o.2
 | name o=>exact o.2
 | give o=>exact o.2
 | first o=>exact o.2
 | second o=>exact o.2
 | plus o=>exact o.2
 | look o=>exact o.2
section
variable{G:aH}{a b:Addr}{x oL y xX:ek}
theorem B1(h:a≠b):up (up (up G a x) b y) a oL=up (up G a oL) b y:=by
 funext k;by_cases y1:k=a
 ·subst y1;rw [aG,bv h,aG]
 ·rw [bv y1];by_cases sR:k=b
  ·subst sR;rw [aG,aG]
  ·rw [bv sR,bv y1,bv sR,bv y1]
end
theorem After.pre:∀{m n:Nat}{c:bC}{P:bC->Prop},After n c P->m < n->After m c λ c'=>c'.iv=true
 | 0,n+1,c,P,h,_=>h.1
 | m+1,n+1,c,P,h,hm=>⟨h.1,h.2.mono λ c' h'=>After.pre h' (by omega)⟩
abbrev rX:bY:=⟨0,0,0,0,0,0⟩
theorem cN.Ts{C dr:Addr}{G:aH}{a lm b:Addr}{c:bC}{ds:List D}(h:cN C dr G a lm c)(e:G b=some (.lst ds)):c.S b=none:=by
 cases q:c.S b with
 | none=>rfl
 | some x=>obtain ⟨bG,z⟩:=h.b6 _ _ q;rw [e] at z;cases z
def zR:Option (Tm × Ev)->D
 | none=>.br
 | some z=>.tup [z.1.enc,z.2.enc]
def v4(n:Nat):di:=λ ds G Q=>∃(t:Tm)(e:Ev)(lc:Addr)(c:bY)(d:Nat),ds=[t.enc,e.enc,.ref lc,.int d]/\t.cl e.len/\e.ok/\eN d e c/\d<=120/\121<=d+n/\G lc=some c.lst/\∀ r c',dc d t e c r c'->Q (zR r) (up G lc c'.lst)
abbrev mK(i:Int):ek:=.lst [.int i]
def tz(n:Nat):di:=λ ds G Q=>∃(t:Tm)(e:Ev)(w:Nat)(fA:Addr)(d:Nat)(i:Int),ds=[t.enc,e.enc,.int w,.ref fA,.int d]/\t.cl (w+e.len)/\e.ok/\1<=n/\92<=d+n/\G fA=some (mK i)/\∀ xs j,(0<=j->0<=i)->(0<=j->.tup xs=(t.d_ (g0 e.gh) w).enc/\(t.d_ (g0 e.gh) w).bH+d<=90)->Q (.tup xs) (up G fA (mK j))
def Tt(d:Nat)(j:Int)(x:D):Option i7->Prop
 | none=>x=.br
 | some a=>(∃ xs,x=.tup xs)/\(0<=j->x=a.eT.enc/\a.eT.bH+d<=90)
def v5(n:Nat):di:=λ ds G Q=>∃(t:Tm)(e:Ev)(lc fA:Addr)(c:bY)(d:Nat)(i:Int),ds=[t.enc,e.enc,.ref lc,.ref fA,.int d]/\t.cl e.len/\e.ok/\eN d e c/\d<=120/\121<=d+n/\lc≠fA/\G lc=some c.lst/\G fA=some (mK i) ∧
 ∀ r c' x j,hJ d t e c r c'->(0<=j->0<=i)->Tt d j x r->Q x (up (up G lc c'.lst) fA (mK j))
def B2(C dr:Addr):di:=λ ds G Q=>∃(a lm:Addr)(c:bC)(n:Nat)(P:bC->Prop),ds=[.ref a,.int n]/\cN C dr G a lm c/\n<=1000/\c.m.steps=0/\c.m.stack=[]/\j1 c 0/\After n c P ∧
 ∀ ak c',cN C dr ak a lm c'->Fr a lm G ak->P c'->c'.m.steps=n->c'.m.stack.length<=n->j1 c' n->Q (.aO true) ak
end L3
namespace L2
open PySem PySem.Spec PyProof.Rows
section
variable{X:a4}
def mL(l:List (Str × Str)):List (Key × V):=l.map λ p=>(.inr p.1,.str p.2)
def y2(X:a4)(pos:Pos)(keys:List (Option a8))(values:List a8)(l:List (Str × Str)):Prop:=∃ kk,uM X pos keys values kk/\∀ σ H Q,Q ((mL l).map λ cA=>(ei cA.1,cA.2)) H->xI kk σ H Q
theorem Tu{pos:Pos}:y2 X pos [] [] []:=⟨[],Og,λ _ _ _ q=>q⟩
theorem v6{pos df cc:Pos} {gw kl} {x i:Str} {ks:List (Option a8)} {vs:List a8} {l:List (Str × Str)} (h:y2 X pos ks vs l):y2 X pos (some (.Constant (.str x) gw df)::ks) (.Constant (.str i) kl cc::vs) ((x,i)::l):=by
 obtain ⟨kk,af,ao⟩:=h;exact ⟨_,Oh zH zH af,λ σ H Q q=>ao σ H _ q⟩
theorem Ik:∀(l:List (Str × Str))(acc:List (Key × V)),(l.map (·.1)).Nodup->(∀ p∈l,gf acc (.inr p.1)=none)->q6 acc (mL l)=acc++mL l
 | [],acc,_,_=>(pa _).symm
 | p::l,acc,bc,au=>by
  rw [eC,ql] at bc;have e:kj acc (.inr p.1) (.str p.2)=acc++[((.inr p.1:Key),V.str p.2)]:=N4 _ (au p (f7 ..));show q6 (kj acc (.inr p.1) (.str p.2)) (mL l)=_;rw [Ik l _ bc.2 (λ q bn=>?_),e]
  ·show _=acc++((.inr p.1,.str p.2)::mL l);rw [List.append_assoc];rfl
  ·rw [N2,if_neg,au q (h3 _ bn)];intro z;injection z with z;exact bc.1 (z ▸ l2 bn)
end
end L2
namespace L3
open PySem PySem.Spec L2
section
variable{X:a4}{pos ma:Pos}{o i value:a8}{to e6 aX:cB}
def B3(l:List (Str × Str)):List (Key × D):=l.map λ p=>(.inr p.1,.str p.2)
theorem Il{K:a6}{H:ar}:∀ l:List (Str × Str),fk K H (B3 l) (mL l)
 | []=>⟨rfl,rfl⟩
 | p::l=>fk.Sj rfl (Il l)
abbrev Tv(l:List (Str × Str)):cB:=λ _ G Q=>∀ p,G p=none->Q (.ref p) (up G p (.eD (B3 l)))
theorem Tw{keys:List (Option a8)}{values:List a8}{l:List (Str × Str)}(h:y2 X pos keys values l)(uD:keys.all (·.isSome)=true)(aP:keys.length=values.length)(h0:keys≠[])(Ah:keys.length<=15)(bc:(l.map (·.1)).Nodup)(kY:l.length<=15):b0 X (.Dict keys values pos) (Tv l):=by
 obtain ⟨kk,af,ao⟩:=h;refine ⟨_,⟨Oj af uD aP h0 Ah⟩,λ ρ G ax σ H Q B q F p aj=>?_⟩;refine ao _ _ _ ⟨fq,mL l,rfl,by rw [mL,b3];exact kY,?_⟩;rw [Ik l [] bc (λ _ _=>rfl),List.nil_append];have g:=Go.newD (kvs:=B3 l) (gs:=mL l) B.bX aj (Il l)
 have e:upd (upd H p (.eD [])) p (.eD (mL l))=upd H p (.eD (mL l)):=by
  funext b;by_cases c:b=p
  ·subst c;rw [fq,fq]
  ·rw [cH c,cH c,cH c]
 rw [e];exact F (.ref p) _ _ _ g rfl (q p (B.bX.none aj))
theorem Tx(bb:b0 X o to)(aA:b0 X i e6)(he:b0 X value aX)(au:∀ cZ d7 new,augStore i cZ d7 new=(do hM [new,cZ,d7] (qh cZ d7 new);sh [new,cZ,d7] [];pure .next):=by intros;rfl) :
 iF X (.AugAssign (.Subscript o i ma) .Sub value pos) (HH to e6 aX (· - ·)):=by
 obtain ⟨co,gM,fP⟩:=bb.run;obtain ⟨ci,iY,gI⟩:=aA.run;obtain ⟨ce,io,re⟩:=he.run;refine ⟨_,⟨EK gM.run iY.run HF io.run LB z0 au⟩,λ dP e8 ρ G σ H B q F=>fP ρ G _ σ H _ B q λ x av e9 H1 g1 a7 aE=>gI ρ av _ σ H1 _ (B.go g1) aE λ y aU hV aK g2 bh bu=>?_⟩;split at bu
 ·next l k=>
  cases a7;cases bh;obtain ⟨ds,vs,⟨j,m,d4,aC,hm,dH⟩,az,af,be⟩:=lI g2.bX bu;obtain ⟨w,hw,k5⟩:=be.get hm;cases k5;refine ⟨l,k,vs,j,.int m,rfl,rfl,af,aC,d4,hw,re ρ aU _ σ aK _ ((B.go g1).go g2) dH λ z cM SK dE g3 oz gE=>?_⟩;split at gE
  ·next n=>
   cases oz;obtain ⟨yL,rh,⟨aP,n8⟩,qO,BD,vN⟩:=lI g3.bX gE;have hU:=Go.rl g3.bX qO (vN.set (d:=.int (m - n)) (v:=.int (m - n)) rfl j);have fy:=((g1.trans g2).trans g3).trans hU;refine ⟨m,n,rfl,rfl,l,rh,k,j,rfl,rfl,BD,?_,F.nx ρ _ σ _ fy (B.go fy) n8⟩
   have lt:j < ds.length:=by
    rcases kM j ds.length with z | z
    ·exact z
    ·rw [qn z] at hm;cases hm
   have:=vN.len;unfold kX;rw [if_pos aC,if_pos (by omega),d4]
  ·exact gE.elim
 ·exact bu.elim
abbrev Tz(i j:Nat)(a_:gx):gK:=λ D ρ G=>a_ ρ G λ ds av=>match ds with
 | [x,y]=>D.nx ((ρ.set i (some x)).set j (some y)) av
 | _=>False
theorem Im{i j:Nat}{x y:Str}{a b:a8}{a_:gx}{qA py pt:Pos} {kt cF qB} (aJ:X.calm=true) (cY:X.N.Nodup) (aA:X.N[i]?=some x) (d4:X.N[j]?=some y) (zK:i≠j) (aq:X.env.scope.names.lookup x=some .local) (aQ:X.env.scope.names.lookup y=some .local) (au:iE X [a,b] a_)
 (hw:tY [.Tuple [.Name x qA,.Name y py] kt pt] (.Tuple [a,b] cF qB) X.env=pure (some [x,y]):=by rfl) (aB:tX [.Tuple [.Name x qA,.Name y py] kt pt] (.Tuple [a,b] cF qB) pos.line X.env=pure false:=by rfl) :
 iF X (.Assign [.Tuple [.Name x qA,.Name y py] kt pt] (.Tuple [a,b] cF qB) pos) (Tz i j a_):=by
 obtain ⟨ca,cw,cy⟩:=au.run;refine ⟨_,⟨Ly aJ cY aA d4 zK aq aQ cw.run hw aB⟩,λ dP e8 ρ G σ H B q F=>cy ρ G _ σ H _ B q λ ds av vs H1 g1 al _ aE=>?_⟩;split at aE
 ·obtain ⟨v,r,rfl,a7,al⟩:=al;obtain ⟨w,r,rfl,bh,al⟩:=al;cases (show r=[] from al);exact ⟨v,w,rfl,F.nx _ av _ H1 g1 (((B.go g1).set a7 i).set bh j) aE⟩
 ·exact aE.elim
end
def FnAt(K:a6)(x q:Str)(st:bE)(f:Addr)(cd:Value):Prop:=∃(dX:Value)(dC:Option Addr)(ei doc pm:Value)(an:Option Addr)(ct:Value)(hB:Array (Option Value)),
 K.lookup f=some ⟨dX,dC,.func (lx x q (kh st) (hC st) (cp st) .none ei doc pm an cd ct),hB⟩/\pf K cd q=true/\kN K (.ref f)=true
def DT(K:a6)(x:Str)(st:bE):Prop:=∃(f:Addr)(cd:Value),ZB K eS x=some (some (.ref f))/\FnAt K x x st f cd
def DM(K:a6)(C:Addr)(m q:Str)(st:bE):Prop:=∃(f:Addr)(cd:Value),gk K (.ref C) m=some (some (.ref f))/\qr K (.ref f)=true/\FnAt K m q st f cd
def DMc(K:a6)(C:Addr)(m q:Str)(st:bE)(c:Addr):Prop:=∃ f:Addr,gk K (.ref C) m=some (some (.ref f))/\qr K (.ref f)=true/\FnAt K m q st f (.ref c)
section
variable{K:a6}{x m q:Str}{st:bE}{C c:Addr}
theorem DT.mk{f:Addr}{cd dX ei doc pm ct:Value}{dC an:Option Addr}{hB:Array (Option Value)}(a:ZB K eS x=some (some (.ref f)))(l:K.lookup f=some ⟨dX,dC,.func (lx x x (kh st) (hC st) (cp st) .none ei doc pm an cd ct),hB⟩)(k:pf K cd x=true)(p:kN K (.ref f)=true):DT K x st:=⟨f,cd,a,_,_,_,_,_,_,_,_,l,k,p⟩
theorem DM.mk{f:Addr}{cd dX ei doc pm ct:Value}{dC an:Option Addr}{hB:Array (Option Value)}(a:gk K (.ref C) m=some (some (.ref f)))(i:qr K (.ref f)=true)(l:K.lookup f=some ⟨dX,dC,.func (lx m q (kh st) (hC st) (cp st) .none ei doc pm an cd ct),hB⟩)(k:pf K cd q=true)(p:kN K (.ref f)=true):DM K C m q st:=⟨f,cd,a,i,_,_,_,_,_,_,_,_,l,k,p⟩
theorem DMc.mk{f:Addr}{dX ei doc pm ct:Value}{dC an:Option Addr}{hB:Array (Option Value)}(a:gk K (.ref C) m=some (some (.ref f)))(i:qr K (.ref f)=true)(l:K.lookup f=some ⟨dX,dC,.func (lx m q (kh st) (hC st) (cp st) .none ei doc pm an (.ref c) ct),hB⟩)(k:pf K (.ref c) q=true)(p:kN K (.ref f)=true):DMc K C m q st c:=⟨f,a,i,_,_,_,_,_,_,_,_,l,k,p⟩
theorem DT.ok(h:DT K x st):∃(f:Addr)(fd:gA),ZB K eS x=some (some (.ref f))/\dL K x x st f fd:=
 let ⟨f,_,a,_,_,_,_,_,_,_,_,l,k,p⟩:=h;⟨f,_,a,FB l k p⟩
theorem DM.ok(h:DM K C m q st):∃(f:Addr)(fd:gA),Meth K C m f/\dL K m q st f fd:=
 let ⟨f,_,a,i,_,_,_,_,_,_,_,_,l,k,p⟩:=h;⟨f,_,⟨a,i,p⟩,FB l k p⟩
theorem DMc.ok(h:DMc K C m q st c):∃(f:Addr)(fd:gA),Meth K C m f/\vE K m q st f fd c:=
 let ⟨f,a,i,_,_,_,_,_,_,_,_,l,k,p⟩:=h;⟨f,_,⟨a,i,p⟩,⟨⟨_,_,_,_,_,_,_,_,rfl,l,k⟩⟩⟩
theorem vE.fun{f:Addr}{fd:gA}(F:vE K x q st f fd c)(k:kN K (.ref f)=true):dL K x q st f fd:=by
 obtain ⟨dX,dC,ei,doc,pm,an,ct,hB,h⟩:=F.ex;exact ⟨⟨dX,dC,ei,doc,pm,an,_,ct,hB,h⟩,k⟩
end
theorem hs{α:Type}{P:List α->Prop}(h:∀ a,P [a]):∀ us:List α,us.length=1->P us
 | [a],_=>h a
theorem lU{α:Type}{P:List α->Prop}(h:∀ a b,P [a,b]):∀ us:List α,us.length=2->P us
 | [a,b],_=>h a b
theorem TA{α:Type}{P:List α->Prop}(h:∀ a b c,P [a,b,c]):∀ us:List α,us.length=3->P us
 | [a,b,c],_=>h a b c
theorem Io{α:Type}{P:List α->Prop}(h:∀ a b c d,P [a,b,c,d]):∀ us:List α,us.length=4->P us
 | [a,b,c,d],_=>h a b c d
theorem v7{α:Type}{P:List α->Prop}(h:∀ a b c d e,P [a,b,c,d,e]):∀ us:List α,us.length=5->P us
 | [a,b,c,d,e],_=>h a b c d e
end L3
namespace KB
open PySem L2
def top(i:Nat):bE:=PySem.Challenge.pw_kindbags_k25_machine_counted.main.body.getD i (.Pass ⟨0,0,0,0⟩)
structure i9(mg:Str->Option Value):Prop where
 len:mg "len" = none
 isinstance:mg "isinstance" = none
 range:mg "range" = none
 int:mg "int" = none
 bool:mg "bool" = none
 str:mg "str" = none
 tuple:mg "tuple" = none
 list:mg "list" = none
 zip:mg "zip" = none
 sum:mg "sum" = none
 reversed:mg "reversed" = none
 max:mg "max" = none
 min:mg "min" = none
 all:mg "all" = none
end KB
namespace KB
open PySem
abbrev Ip:List Str:=["program"]
abbrev Iq:List Str:=["program"]
abbrev Ir:List Str:=["program", "ways"]
abbrev It:List Str:=["program", "change"]
abbrev Iu:List Str:=["self", "program", "slips"]
abbrev Iv:List Str:=["self"]
abbrev Iw:List Str:=["self"]
abbrev Ix:List Str:=["self"]
abbrev Iy:List Str:=["self", "program"]
abbrev Iz:List Str:=["self"]
abbrev IA:List Str:=["self"]
abbrev IB:List Str:=["self"]
abbrev IC:List Str:=["self"]
abbrev ID:List Str:=["self"]
abbrev IE:List Str:=["self"]
abbrev IF:List Str:=["self"]
abbrev IG:List Str:=["self", "k"]
abbrev IH:List Str:=["self"]
abbrev II:List Str:=["self", "mark"]
abbrev IJ:List Str:=["self"]
abbrev IK:List Str:=["self"]
abbrev IL:List Str:=["self"]
abbrev IM:List Str:=["self"]
abbrev IN:List Str:=["self"]
abbrev IO:List Str:=["mark", "program"]
abbrev IP:List Str:=["_law_script", "_law_k"]
abbrev IQ:List Str:=["_law_feed_here", "_law_many"]
abbrev IR:List Str:=["_law_feed_here"]
abbrev IS:List Str:=["_law_feed_here", "_law_deep"]
abbrev IT:List Str:=["_law_feed_here", "_law_want"]
abbrev IU:List Str:=["_law_feed_here", "_law_want", "_law_names", "_law_room", "_law_deep"]
abbrev IV:List Str:=["_law_feed_here", "_law_want", "_law_names", "_law_room", "_law_deep"]
abbrev IW:List Str:=["_law_feed_here", "_law_want", "_law_names", "_law_room", "_law_deep"]
abbrev IX:List Str:=["_law_feed_here"]
abbrev IY:List Str:=["_law_feed_here", "_law_many", "_law_room", "_law_deep"]
abbrev IZ:List Str:=["_law_program_here"]
abbrev I0:List Str:=["_law_feed_here"]
abbrev I1:List Str:=["_law_found", "_law_due"]
abbrev I2:List Str:=["_law_program_here", "_law_env", "_law_count", "_law_deep"]
abbrev I3:List Str:=["_law_program_here", "_law_env", "_law_ways", "_law_room", "_law_deep"]
abbrev I4:List Str:=["_law_program_here", "_law_env", "_law_count", "_law_room", "_law_deep"]
abbrev I5:List Str:=["_law_machine", "_law_many"]
end KB
namespace KB
open PySem L2 L3
section
variable{P:c8}{w:cG}{K:a6}{mg:Str->Option Value}{base:b2}{f:Addr}{fd:gA}
set_option maxHeartbeats 4000000
abbrev B4:bE:=top 18
theorem B5:d0 ["_law_feed_here", "_law_many", "_law_digit", "_law_one"] ["_law_feed_here", "_law_many"] (cp B4):=⟨rfl,rfl,rfl,by decide +kernel,rfl,by decide +kernel,by decide +kernel⟩
theorem TB(F:dL K "_law_take" "_law_take" B4 f fd):cO P w K mg base cQ 1 f fd ["_law_feed_here", "_law_many"] (aT K kr):=by
 refine eA (k:=0) F B5 (λ ds G ax h=>?_) (λ bP A outer s H E ap ds G ax h=>?_)
 ·unfold kr at h;split at h
  ·rfl
  ·exact h.elim
 unfold kr at h;split at h
 case h_2=>exact h.elim
 next a m=>
 obtain ⟨⟨x,y,eW⟩,h0,af,q⟩:=h
 refine ⟨_,(a5 (cI (b5 pO (bI bJ (ae 0) ay (λ _ _=>rfl)) ay (bW _)) (a5 (cL (k:=2) B5.bD rfl (Or.inl rfl) (b4 oA (bI bJ (ae 0) ay (λ _ _=>rfl)) (ae 1)))
  (a5 (rp (b4 rr (bI bJ (ae 0) ay (λ _ _=>rfl)) (ae 1)) (yy (ae 0) ay))
  (bw (b9 (ae 2))))) c6)
  (a5 (cL (k:=3) B5.bD rfl (Or.inl rfl) (b4 oA (b4 pN (bI bJ (ae 0) ay (λ _ _=>rfl)) ay) ay))
  (a5 (rp (b4 fS (b4 oA (b4 fS (b4 pN (ae 3) ay) ay) ay) ay) (yy (ae 0) ay))
  (bw (b9 (b4 oA (b4 rr (b4 fS (b4 pN (ae 3) ay) (bI bJ (ae 0) ay (λ _ _=>rfl))) ay) (ae 1))))))),?_⟩
 refine cC eW ⟨λ c=>?_,λ c=>?_⟩
 ·refine cC eW ⟨h0,cC eW ⟨⟨h0,by omega⟩,bQ eW ⟨0,rfl,bp.of (q _ _ .mk (Int.emod_nonneg _ (by omega)) (Int.emod_lt_of_pos _ h0))⟩⟩⟩
 ·refine cC eW ⟨.inr ⟨by decide,by decide⟩,by simp,.inr ⟨by decide,by decide⟩,by simp,bQ eW ⟨1,rfl,.inr ⟨by decide,by decide⟩,cC aG ⟨⟨by decide,by decide⟩,h0,bp.of (q _ _ .mk (Int.emod_nonneg _ (by omega)) (Int.emod_lt_of_pos _ h0))⟩⟩⟩
abbrev B6:bE:=top 17
theorem tA:d0 ["_law_script", "_law_k", "_law_cell", "_law_own"] ["_law_script", "_law_k"] (cp B6):=⟨rfl,rfl,rfl,by decide +kernel,rfl,by decide +kernel,by decide +kernel⟩
theorem TC(B:i9 mg)(F:dL K "_law_feed" "_law_feed" B6 f fd):cO P w K mg base cQ 1 f fd ["_law_script", "_law_k"] (aT K vy):=by
 refine eA (k:=0) F tA (λ ds G ax h=>?_) (λ bP A outer s H E ap ds G ax h=>?_)
 ·unfold vy at h;split at h
  ·rfl
  ·exact h.elim
 unfold vy at h;split at h
 case h_2=>exact h.elim
 next ss k=>
 obtain ⟨ns,rfl,aP,h0,af,q⟩:=h;have fin:∀ x y:Int,∀ p,G p=none->bp ax (.ref p) (up G p (rF x y)):=λ x y p aj=>bp.of (q p x y aj)
 have I6:∀ j:Int,0<=j->j < ns.length->∃ v,hb (ns.map D.int) j=some (.int v):=λ j TD gw=>by
  refine ⟨ns[j.toNat],?_⟩;have e:=nk (xs:=ns.map D.int) (j:=j.toNat) (v:=D.int ns[j.toNat]) (by simp [show j.toNat < ns.length by omega])
  rwa [show ((j.toNat:Nat):Int)=j by omega] at e
 refine ⟨_,(a5 (cL (k:=2) tA.bD rfl (Or.inl rfl) (b4 fS (b4 pN ay (ae 1)) ay))
  (a5 (cI (b5 jp (ae 1) (iJ nG rfl B.len m5 (ah (ae 0) aD)) (bW _)) (bw (cL (k:=2) tA.bD rfl (Or.inl rfl) (bI bJ (ae 0) (ae 1) (λ _ _=>rfl)))) (bw (cI (b5 pO (iJ nG rfl B.len m5 (ah (ae 0) aD)) ay (bW _)) (bw (cL (k:=2) tA.bD rfl (Or.inl rfl) (b4 fS (b4 pN (b4 oA (bI bJ (ae 0) (b4 oA (ae 1) (iJ nG rfl B.len m5 (ah (ae 0) aD))) (λ _ _=>rfl)) ay) ay) (b4 pN ay (ae 1))))) c6)))
  (a5 (cL (k:=3) tA.bD rfl (Or.inl rfl) ay)
  (a5 (cI (b5 vf (ae 2) (b4 QY ay ay) (bW _)) (bw (cL (k:=3) tA.bD rfl (Or.inl rfl) (ae 2))) c6)
  (bw (b9 (lH (ah (ae 3) (ah (b4 fS (b4 oA (b4 fS (b4 pN (b4 oA (ae 2) ay) ay) (b4 pN ay (ae 1))) ay) ay) aD))))))))),?_⟩
 refine ⟨.inl ⟨by decide,by decide⟩,⟨λ c=>?_,λ c=>?_⟩⟩
 ·have c':k < ns.length:=by simpa using c
  obtain ⟨v,bK⟩:=I6 k h0 c';refine (GP bK ⟨⟨by decide,by decide,by decide⟩,λ c=>?_,λ c=>?_⟩)
  ·exact ⟨by simp,.inr ⟨by decide,by decide⟩,.inl ⟨by decide,by decide⟩,by simp,λ p aj=>fin _ _ p aj⟩
  ·exact ⟨by simp,.inr ⟨by decide,by decide⟩,.inl ⟨by decide,by decide⟩,by simp,λ p aj=>fin _ _ p aj⟩
 ·refine ⟨λ c=>?_,λ c=>?_⟩
  ·have c':0 < ns.length:=by
    have:(0:Int) < (ns.map D.int).length:=by simpa using c
    simpa using this
   obtain ⟨v,bK⟩:=I6 (k % (ns.map D.int).length) (Int.emod_nonneg _ (show ((ns.map D.int).length:Int)≠0 by rw [b3];omega)) (by have:=Int.emod_lt_of_pos k (show (0:Int) < (ns.map D.int).length by simpa using c');simpa using this);refine ⟨by simpa using c',?_⟩;refine (GP bK ⟨by simp,.inr ⟨by decide,by decide⟩,.inl ⟨by decide,by decide⟩,⟨by decide,by decide,by decide⟩,λ c=>?_,λ c=>?_⟩)
   ·exact ⟨by simp,.inr ⟨by decide,by decide⟩,.inl ⟨by decide,by decide⟩,by simp,λ p aj=>fin _ _ p aj⟩
   ·exact ⟨by simp,.inr ⟨by decide,by decide⟩,.inl ⟨by decide,by decide⟩,by simp,λ p aj=>fin _ _ p aj⟩
  ·refine ⟨⟨by decide,by decide,by decide⟩,λ c=>?_,λ c=>?_⟩
   ·exact ⟨by simp,.inr ⟨by decide,by decide⟩,.inl ⟨by decide,by decide⟩,by simp,λ p aj=>fin _ _ p aj⟩
   ·exact ⟨by simp,.inr ⟨by decide,by decide⟩,.inl ⟨by decide,by decide⟩,by simp,λ p aj=>fin _ _ p aj⟩
abbrev B7:bE:=top 19
theorem I7:d0 ["_law_feed_here", "_law_form"] ["_law_feed_here"] (cp B7):=⟨rfl,rfl,rfl,by decide +kernel,rfl,by decide +kernel,by decide +kernel⟩
theorem TF(fc:Got P w K mg base 1 "_law_take" ["_law_feed_here", "_law_many"] (aT K kr))(F:dL K "_law_whole" "_law_whole" B7 f fd):cO P w K mg base cQ 2 f fd ["_law_feed_here"] (aT K ku):=by
 refine eA (k:=1) F I7 (λ ds G ax h=>?_) (λ bP A outer s H E ap ds G ax h=>?_)
 ·unfold ku at h;split at h
  ·rfl
  ·exact h.elim
 unfold ku at h;split at h
 case h_2=>exact h.elim
 next a=>
 obtain ⟨eW,q⟩:=h
 refine ⟨_,(a5 (cL (k:=1) I7.bD rfl (Or.inl rfl) (cg fc ap (by omega) rfl (ah (ae 0) (ah ay aD))))
  (a5 (cI (b5 jp (ae 1) ay (bW _)) (bw (b9 (cE (ah bN (ah (rD (ah ay (ah ay (ah (u6 vg ay) (ah ay aD)))) (ae 1) (λ _ _=>rfl)) aD))))) c6)
  (a5 (cI (b5 jp (ae 1) ay (bW _)) (bw (b9 (cE (ah bN (ah (b4 eI (cg fc ap (by omega) rfl (ah (ae 0) (ah ay aD))) ay) aD))))) c6)
  (bw (b9 (cE (ah bN (ah (b4 eI (cg fc ap (by omega) rfl (ah (ae 0) (ah ay aD))) ay) aD)))))))),?_⟩
 refine ⟨eW,by decide,by decide,λ d av bV lP iS=>⟨λ c=>?_,λ c=>⟨λ c2=>?_,λ c2=>?_⟩⟩⟩
 ·exact RJ lP (by simpa using c) (λ _=>bp.of (q 0 _ bV (by decide) (by decide))) (λ _=>bp.of (q 1 _ bV (by decide) (by decide))) (λ _=>bp.of (q (-1) _ bV (by decide) (by decide))) (λ _=>bp.of (q 2 _ bV (by decide) (by decide)))
 ·exact ⟨bV.fd,by decide,by decide,λ e aU b8 c0 az=>bp.of (q (e - 5) _ (bV.trans b8) (by omega) (by omega))⟩
 ·exact ⟨bV.fd,by decide,by decide,λ e aU b8 c0 az=>bp.of (q (e - 999999999) _ (bV.trans b8) (by omega) (by omega))⟩
abbrev B8:bE:=top 1
theorem TG:d0 ["program"] ["program"] (cp B8):=⟨rfl,rfl,rfl,by decide +kernel,rfl,by decide +kernel,by decide +kernel⟩
theorem TH(F:dL K "inner" "inner" B8 f fd):cO P w K mg base cQ 1 f fd ["program"] (aT K (yz Tm.enc Tm.aL)):=by
 refine eA (k:=0) F TG (λ ds G ax h=>?_) (λ bP A outer s H E ap ds G ax h=>?_)
 ·obtain ⟨t,rfl,_⟩:=h;rfl
 obtain ⟨t,rfl,q⟩:=h
 refine ⟨_,(a5 (cI (gL.at (jn (b5 (d3 (dj ap)) (bI bJ (ae 0) ay (λ _ _=>rfl)) bN (bW _)) (lJ (b5 (d3 (dj ap)) (bI bJ (ae 0) ay (λ _ _=>rfl)) bN (bW _))))) (bw (b9 (cE aD))) c6)
  (bw (b9 (AQ AU (ae 0) (AP ay) AO)))),?_⟩
 cases t with
 | name k=>exact ⟨λ _=>⟨λ _=>bp.of q,nofun⟩,λ c=>absurd c (by decide)⟩
 | whole k=>exact ⟨λ c=>absurd c (by decide),λ _=>⟨λ _=>bp.of q,λ c=>absurd c (by decide)⟩⟩
 | _=>exact ⟨λ c=>absurd c (by decide),λ _=>⟨λ c=>absurd c (by decide),λ _=>bp.of q⟩⟩
abbrev B9:bE:=top 27
theorem TJ:d0 ["_law_program_here"] ["_law_program_here"] (cp B9):=⟨rfl,rfl,rfl,by decide +kernel,rfl,by decide +kernel,by decide +kernel⟩
theorem TK:cO P w K mg base cQ 1 f fd ["_law_program_here"] (aT K (rH 0)):=nL λ ds G ax h=>by
 obtain ⟨_,_,h,_⟩:=h;omega
theorem TL{n:Nat}(B:i9 mg)(v8:Got P w K mg base (n+1) "_law_parts" ["_law_program_here"] (aT K (rH n)))(F:dL K "_law_parts" "_law_parts" B9 f fd):cO P w K mg base cQ (n+2) f fd ["_law_program_here"] (aT K (rH (n+1))):=by
 refine eA (k:=n+1) F TJ (λ ds G ax h=>?_) (λ bP A outer s H E ap ds G ax h=>?_)
 ·obtain ⟨_,rfl,_⟩:=h;rfl
 obtain ⟨t,rfl,hd,hz,q⟩:=h;rw [t.RM] at q;refine ⟨_,(bw (b9 (b4 fS ay (yw (iJ (Q6 rfl) rfl B.sum PyProof.Rows.boot_sum (ah (G7 rfl (fD.of (N':=["_law_one"]) (nt:=1) (cap:=[]) rfl (by kernel_rfl)) (nJ (k:=0) (by decide)) (rx (AQ AU (ae 0) (AP ay) AO)) (λ _ _ _ _=>(hW (k:=0) (show List.Nodup (["_law_one"]:List Str) by decide +kernel) rfl (Or.inl rfl))) (λ _ _ _ _=>(iG (iJ rE rfl B.isinstance qs (ah (ae 0) (ah (ro rfl B.tuple qt) aD))))) (λ _ _ _ _=>(cg v8 ap (by omega) rfl (ah (ae 0) aD)))) aD)))))),?_⟩
 have turn:∀ u∈t.aL,rH n [u.enc] G=rH n [u.enc] G/\u.bH < n/\u.aR<=100000:=λ u bx=>by
  have af:=Tm.RN bx;have ao:=Tm.RO bx;exact ⟨rfl,by omega,by omega⟩
 have fin:∀ p,G p=none->GT (.ref p) (up G p (.lst (t.aL.filterMap λ u=>some (.int (u.aR:Int))))) (λ d ak=>∃ aU,Sub aU ak/\GL (.int 1) d aU (bp ax)):=λ p aj=>by
  refine cC aG ⟨t.aL.map λ u=>(u.aR:Int),?_,G,Sub.new (Sub.refl _) aj,bp.of q⟩;rw [show (t.aL.filterMap λ u=>some (D.int (u.aR:Int)))=(t.aL.map λ u=>(u.aR:Int)).map D.int by simp [List.filterMap_eq_map']];exact GS _
 cases t with
 | name k=>
  refine lN [()] (λ _=>.int k) (λ _=>none) ?_ ?_ ?_ ?_ ?_
  ·rfl
  ·exact dm (by simp)
  ·trivial
  ·exact λ _ _ R S dk gW=>⟨false,rfl,nofun,λ _=>gW rfl⟩
  ·exact λ p aj=>fin p aj
 | whole k=>
  refine lN [()] (λ _=>.int k) (λ _=>none) ?_ ?_ ?_ ?_ ?_
  ·rfl
  ·exact dm (by simp)
  ·trivial
  ·exact λ _ _ R S dk gW=>⟨false,rfl,nofun,λ _=>gW rfl⟩
  ·exact λ p aj=>fin p aj
 | way a=>
  refine lN (Tm.way a).aL Tm.enc (λ u=>some (.int (u.aR:Int))) ?_ ?_ ?_ ?_ ?_
  ·rfl
  ·exact dm (by simp [Tm.aL])
  ·trivial
  ·exact λ u bx R S dk gW=>rI ⟨λ _=>⟨u,rfl,(turn u bx).2.1,(turn u bx).2.2,dk _ rfl⟩,nofun⟩
  ·exact λ p aj=>fin p aj
 | give a b=>
  refine lN (Tm.give a b).aL Tm.enc (λ u=>some (.int (u.aR:Int))) ?_ ?_ ?_ ?_ ?_
  ·rfl
  ·exact dm (by simp [Tm.aL])
  ·trivial
  ·exact λ u bx R S dk gW=>rI ⟨λ _=>⟨u,rfl,(turn u bx).2.1,(turn u bx).2.2,dk _ rfl⟩,nofun⟩
  ·exact λ p aj=>fin p aj
 | pair a b=>
  refine lN (Tm.pair a b).aL Tm.enc (λ u=>some (.int (u.aR:Int))) ?_ ?_ ?_ ?_ ?_
  ·rfl
  ·exact dm (by simp [Tm.aL])
  ·trivial
  ·exact λ u bx R S dk gW=>rI ⟨λ _=>⟨u,rfl,(turn u bx).2.1,(turn u bx).2.2,dk _ rfl⟩,nofun⟩
  ·exact λ p aj=>fin p aj
 | first a=>
  refine lN (Tm.first a).aL Tm.enc (λ u=>some (.int (u.aR:Int))) ?_ ?_ ?_ ?_ ?_
  ·rfl
  ·exact dm (by simp [Tm.aL])
  ·trivial
  ·exact λ u bx R S dk gW=>rI ⟨λ _=>⟨u,rfl,(turn u bx).2.1,(turn u bx).2.2,dk _ rfl⟩,nofun⟩
  ·exact λ p aj=>fin p aj
 | second a=>
  refine lN (Tm.second a).aL Tm.enc (λ u=>some (.int (u.aR:Int))) ?_ ?_ ?_ ?_ ?_
  ·rfl
  ·exact dm (by simp [Tm.aL])
  ·trivial
  ·exact λ u bx R S dk gW=>rI ⟨λ _=>⟨u,rfl,(turn u bx).2.1,(turn u bx).2.2,dk _ rfl⟩,nofun⟩
  ·exact λ p aj=>fin p aj
 | plus a b=>
  refine lN (Tm.plus a b).aL Tm.enc (λ u=>some (.int (u.aR:Int))) ?_ ?_ ?_ ?_ ?_
  ·rfl
  ·exact dm (by simp [Tm.aL])
  ·trivial
  ·exact λ u bx R S dk gW=>rI ⟨λ _=>⟨u,rfl,(turn u bx).2.1,(turn u bx).2.2,dk _ rfl⟩,nofun⟩
  ·exact λ p aj=>fin p aj
 | look a b c=>
  refine lN (Tm.look a b c).aL Tm.enc (λ u=>some (.int (u.aR:Int))) ?_ ?_ ?_ ?_ ?_
  ·rfl
  ·exact dm (by simp [Tm.aL])
  ·trivial
  ·exact λ u bx R S dk gW=>rI ⟨λ _=>⟨u,rfl,(turn u bx).2.1,(turn u bx).2.2,dk _ rfl⟩,nofun⟩
  ·exact λ p aj=>fin p aj
abbrev B_:bE:=top 4
theorem TM:d0 ["program", "ways"] ["program", "ways"] (cp B_):=⟨rfl,rfl,rfl,by decide +kernel,rfl,by decide +kernel,by decide +kernel⟩
theorem TN(F:dL K "ways_below" "ways_below" B_ f fd):cO P w K mg base cQ 1 f fd ["program", "ways"] (aT K yH):=by
 refine eA (k:=0) F TM (λ ds G ax h=>?_) (λ bP A outer s H E ap ds G ax h=>?_)
 ·obtain ⟨_,_,rfl,_⟩:=h;rfl
 obtain ⟨t,w,rfl,q⟩:=h;refine ⟨_,(bw (b9 (u9 (b5 (d3 (dj ap)) (bI bJ (ae 0) ay (λ _ _=>rfl)) bN (bW _)) (b4 fS (ae 1) ay) (ae 1)))),?_⟩
 cases t with
 | way a=>exact ⟨λ _=>bp.of (by simpa [Tm.cq] using q),λ c=>absurd c (by decide)⟩
 | _=>exact ⟨λ c=>absurd c (by decide),λ _=>bp.of q⟩
abbrev Ca:bE:=top 3
theorem tB:d0 ["program", "found", "pending", "entry", "one", "below"] ["program"] (cp Ca):=⟨rfl,rfl,rfl,by decide +kernel,rfl,by decide +kernel,by decide +kernel⟩
theorem TO(B:i9 mg)(rY:Got P w K mg base 1 "inner" ["program"] (aT K (yz Tm.enc Tm.aL)))(tC:Got P w K mg base 1 "ways_below" ["program", "ways"] (aT K yH))(F:dL K "names_in" "names_in" Ca f fd):cO P w K mg base cQ 2 f fd ["program"] (aT K Br):=by
 refine eA (k:=1) F tB (λ ds G ax h=>?_) (λ bP A outer s H E ap ds G ax h=>?_)
 ·obtain ⟨_,rfl,_⟩:=h;rfl
 obtain ⟨t,rfl,hz,q⟩:=h
 refine ⟨_,(a5 (cL (k:=1) tB.bD rfl (Or.inl rfl) (lH aD))
  (a5 (cL (k:=2) tB.bD rfl (Or.inl rfl) (lH (ah (cE (ah (ae 0) (ah ay aD))) aD)))
  (a5 (vq PassesOwn.never (iG (ae 2)) (a5 (cL (k:=3) tB.bD rfl (Or.inl rfl) (s8 PySem.F.plainAttrs_list PySem.F.slot_list_pop PySem.F.type_list_pop s9 (ae 2)))
  (a5 (cL (k:=4) tB.bD rfl (Or.inl rfl) (bI bJ (ae 3) ay (λ _ _=>rfl)))
  (a5 (cI (b5 (d3 (dj ap)) (bI bJ (ae 4) ay (λ _ _=>rfl)) bN (bW _)) (bw (jo (mF PySem.F.plainAttrs_list PySem.F.slot_list_append PySem.F.type_list_append pS (ae 1) (ah (cE (ah (bI bJ (ae 4) ay (λ _ _=>rfl)) (ah (bI bJ (ae 3) ay (λ _ _=>rfl)) aD))) aD)))) c6)
  (a5 (cL (k:=5) tB.bD rfl (Or.inr rfl) (cg tC ap (by omega) rfl (ah (ae 4) (ah (bI bJ (ae 3) ay (λ _ _=>rfl)) aD))))
  (bw (jo (mF PySem.F.plainAttrs_list PySem.F.slot_list_extend PySem.F.type_list_extend Bc (ae 2) (ah (A8 rfl (fD.of (N':=["part", "below"]) (nt:=1) (cap:=[5]) rfl (by kernel_rfl)) (nJ (k:=0) (by decide)) (rx (cg rY ap (by omega) rfl (ah (ae 4) aD))) (λ _ _ _ _=>(hW (k:=0) (show List.Nodup (["part", "below"]:List Str) by decide +kernel) rfl (Or.inl rfl))) (λ _ _ _ _=>(cE (ah (ae 0) (ah (ae 1) aD))))) aD)))))))))
  (bw (b9 (ae 1)))))),?_⟩
 intro a au b ag;obtain ⟨-,hi,ep⟩:=rG (o:=.lst []) ag;refine ⟨λ m ρ ak=>∃(ps:List (Tm × Nat))(fs:List (Nat × Nat))(v9 km kn:Option D),ρ=[some t.enc,some (.ref a),some (.ref b),v9,km,kn]/\ak=up (up G a (.lst (fs.map jt))) b (.lst (ps.reverse.map fG))/\fs++ps.flatMap (λ z=>z.1.dn z.2)=t.dn 0/\iM ps<=t.aR/\m=iM ps,⟨_,[(t,0)],[],_,_,_,rfl,rfl,by simp,by simp [iM],rfl⟩,?_⟩;rintro m ρ ak ⟨ps,fs,v9,km,kn,rfl,rfl,ki,eQ,rfl⟩;have hlen:=t.Bo 0
 have Az:fs.length<=t.aR:=by rw [<- ki,hN] at hlen;omega
 refine cC aG ⟨λ c=>?_,λ c=>?_⟩
 ·obtain ⟨u,w,aZ,rfl⟩:∃ u w aZ,ps=(u,w)::aZ:=by
   cases ps with
   | nil=>simp at c
   | cons z aZ=>exact ⟨z.1,z.2,aZ,rfl⟩
  rw [Bt] at eQ ⊢;rw [List.flatMap_cons] at ki;have v_:=Hy aZ;have bx:=u.tc;refine ⟨cC aG trivial,bQ aG ⟨aZ.reverse.map fG,fG (u,w),by simp,?_⟩⟩;rw [dh]
  have eh:∀ o,up (up G a (.lst (fs.map jt))) b o a=some (.lst (fs.map jt)):=λ o=>by rw [bv (Ne.symm ep)];exact aG
  cases u with
  | name k=>
   refine ⟨λ _=>?_,λ c=>absurd c (by decide)⟩;refine ⟨cC (eh _) trivial,bQ (eh _) ⟨dm (by rw [b3];omega),?_⟩⟩;rw [iL ep];refine ⟨(.name k:Tm),w,rfl,cC aG trivial,(.name k:Tm),rfl,?_⟩;refine jq (Tm.aL (.name k:Tm)) Tm.enc (λ x=>fG (x,Tm.cq (.name k:Tm) w)) rfl (dm (by have:=Tm.gy (.name k:Tm);omega)) trivial (λ x _ R dk=>dk) (λ p aj=>?_)
   have np:b≠p:=by rintro rfl;rw [aG] at aj;cases aj
   refine bQ (by rw [bv np];exact aG) (bQ aG ⟨fU (by have:=Tm.gy (.name k:Tm);simp only [b3,eK];omega),?_⟩);refine ⟨_,up (up G a (.lst (fs.map jt++[.tup [.int k,.int w]]))) b (.lst (aZ.reverse.map fG++(Tm.aL (.name k:Tm)).map λ x=>fG (x,Tm.cq (.name k:Tm) w))),.refl _,Sub.put (Sub.trans (Sub.new (Sub.refl _) (by rw [bv ep];exact hi)) (Sub.new (Sub.refl _) aj)),iM (((Tm.aL (.name k:Tm)).map λ x=>(x,Tm.cq (.name k:Tm) w)).reverse++aZ),?_,((Tm.aL (.name k:Tm)).map λ x=>(x,Tm.cq (.name k:Tm) w)).reverse++aZ,fs++[(k,w)],_,_,_,rfl,?_,?_,?_,rfl⟩
   ·have:=Tm.iN (.name k:Tm);rw [<- c_,iq,c_,gB];simp only [];omega
   ·congr 2
    ·simp [jt]
    ·simp [h5,Function.comp_def]
   ·rw [<- ki];simp [Tm.aL,Tm.dn]
   ·have:=Tm.iN (.name k:Tm);rw [<- c_,iq,c_,gB];simp only [] at eQ;omega
  | whole k=>
   refine ⟨λ c=>absurd c (by decide),λ _=>?_⟩;refine ⟨(.whole k:Tm),w,rfl,cC aG trivial,(.whole k:Tm),rfl,?_⟩;refine jq (Tm.aL (.whole k:Tm)) Tm.enc (λ x=>fG (x,Tm.cq (.whole k:Tm) w)) rfl (dm (by have:=Tm.gy (.whole k:Tm);omega)) trivial (λ x _ R dk=>dk) (λ p aj=>?_)
   have np:b≠p:=by rintro rfl;rw [aG] at aj;cases aj
   refine bQ (by rw [bv np];exact aG) (bQ aG ⟨fU (by have:=Tm.gy (.whole k:Tm);simp only [b3,eK];omega),?_⟩);refine ⟨_,up (up G a (.lst (fs.map jt))) b (.lst (aZ.reverse.map fG++(Tm.aL (.whole k:Tm)).map λ x=>fG (x,Tm.cq (.whole k:Tm) w))),.refl _,Sub.put (Sub.trans (Sub.new (Sub.refl _) (by rw [bv ep];exact hi)) (Sub.new (Sub.refl _) aj)),iM (((Tm.aL (.whole k:Tm)).map λ x=>(x,Tm.cq (.whole k:Tm) w)).reverse++aZ),?_,((Tm.aL (.whole k:Tm)).map λ x=>(x,Tm.cq (.whole k:Tm) w)).reverse++aZ,fs,_,_,_,rfl,?_,?_,?_,rfl⟩
   ·have:=Tm.iN (.whole k:Tm);rw [<- c_,iq,c_,gB];simp only [];omega
   ·congr 2;simp [h5,Function.comp_def]
   ·rw [<- ki];simp [Tm.aL,Tm.dn]
   ·have:=Tm.iN (.whole k:Tm);rw [<- c_,iq,c_,gB];simp only [] at eQ;omega
  | way am=>
   refine ⟨λ c=>absurd c (by decide),λ _=>?_⟩;refine ⟨(.way am:Tm),w,rfl,cC aG trivial,(.way am:Tm),rfl,?_⟩;refine jq (Tm.aL (.way am:Tm)) Tm.enc (λ x=>fG (x,Tm.cq (.way am:Tm) w)) rfl (dm (by have:=Tm.gy (.way am:Tm);omega)) trivial (λ x _ R dk=>dk) (λ p aj=>?_)
   have np:b≠p:=by rintro rfl;rw [aG] at aj;cases aj
   refine bQ (by rw [bv np];exact aG) (bQ aG ⟨fU (by have:=Tm.gy (.way am:Tm);simp only [b3,eK];omega),?_⟩);refine ⟨_,up (up G a (.lst (fs.map jt))) b (.lst (aZ.reverse.map fG++(Tm.aL (.way am:Tm)).map λ x=>fG (x,Tm.cq (.way am:Tm) w))),.refl _,Sub.put (Sub.trans (Sub.new (Sub.refl _) (by rw [bv ep];exact hi)) (Sub.new (Sub.refl _) aj)),iM (((Tm.aL (.way am:Tm)).map λ x=>(x,Tm.cq (.way am:Tm) w)).reverse++aZ),?_,((Tm.aL (.way am:Tm)).map λ x=>(x,Tm.cq (.way am:Tm) w)).reverse++aZ,fs,_,_,_,rfl,?_,?_,?_,rfl⟩
   ·have:=Tm.iN (.way am:Tm);rw [<- c_,iq,c_,gB];simp only [];omega
   ·congr 2;simp [h5,Function.comp_def]
   ·rw [<- ki,qo,<- c_,qp];congr 2;exact (Tm.pU (t:=(.way am:Tm)) rfl w).symm
   ·have:=Tm.iN (.way am:Tm);rw [<- c_,iq,c_,gB];simp only [] at eQ;omega
  | give am aI=>
   refine ⟨λ c=>absurd c (by decide),λ _=>?_⟩;refine ⟨(.give am aI:Tm),w,rfl,cC aG trivial,(.give am aI:Tm),rfl,?_⟩;refine jq (Tm.aL (.give am aI:Tm)) Tm.enc (λ x=>fG (x,Tm.cq (.give am aI:Tm) w)) rfl (dm (by have:=Tm.gy (.give am aI:Tm);omega)) trivial (λ x _ R dk=>dk) (λ p aj=>?_)
   have np:b≠p:=by rintro rfl;rw [aG] at aj;cases aj
   refine bQ (by rw [bv np];exact aG) (bQ aG ⟨fU (by have:=Tm.gy (.give am aI:Tm);simp only [b3,eK];omega),?_⟩);refine ⟨_,up (up G a (.lst (fs.map jt))) b (.lst (aZ.reverse.map fG++(Tm.aL (.give am aI:Tm)).map λ x=>fG (x,Tm.cq (.give am aI:Tm) w))),.refl _,Sub.put (Sub.trans (Sub.new (Sub.refl _) (by rw [bv ep];exact hi)) (Sub.new (Sub.refl _) aj)),iM (((Tm.aL (.give am aI:Tm)).map λ x=>(x,Tm.cq (.give am aI:Tm) w)).reverse++aZ),?_,((Tm.aL (.give am aI:Tm)).map λ x=>(x,Tm.cq (.give am aI:Tm) w)).reverse++aZ,fs,_,_,_,rfl,?_,?_,?_,rfl⟩
   ·have:=Tm.iN (.give am aI:Tm);rw [<- c_,iq,c_,gB];simp only [];omega
   ·congr 2;simp [h5,Function.comp_def]
   ·rw [<- ki,qo,<- c_,qp];congr 2;exact (Tm.pU (t:=(.give am aI:Tm)) rfl w).symm
   ·have:=Tm.iN (.give am aI:Tm);rw [<- c_,iq,c_,gB];simp only [] at eQ;omega
  | pair am aI=>
   refine ⟨λ c=>absurd c (by decide),λ _=>?_⟩;refine ⟨(.pair am aI:Tm),w,rfl,cC aG trivial,(.pair am aI:Tm),rfl,?_⟩;refine jq (Tm.aL (.pair am aI:Tm)) Tm.enc (λ x=>fG (x,Tm.cq (.pair am aI:Tm) w)) rfl (dm (by have:=Tm.gy (.pair am aI:Tm);omega)) trivial (λ x _ R dk=>dk) (λ p aj=>?_)
   have np:b≠p:=by rintro rfl;rw [aG] at aj;cases aj
   refine bQ (by rw [bv np];exact aG) (bQ aG ⟨fU (by have:=Tm.gy (.pair am aI:Tm);simp only [b3,eK];omega),?_⟩);refine ⟨_,up (up G a (.lst (fs.map jt))) b (.lst (aZ.reverse.map fG++(Tm.aL (.pair am aI:Tm)).map λ x=>fG (x,Tm.cq (.pair am aI:Tm) w))),.refl _,Sub.put (Sub.trans (Sub.new (Sub.refl _) (by rw [bv ep];exact hi)) (Sub.new (Sub.refl _) aj)),iM (((Tm.aL (.pair am aI:Tm)).map λ x=>(x,Tm.cq (.pair am aI:Tm) w)).reverse++aZ),?_,((Tm.aL (.pair am aI:Tm)).map λ x=>(x,Tm.cq (.pair am aI:Tm) w)).reverse++aZ,fs,_,_,_,rfl,?_,?_,?_,rfl⟩
   ·have:=Tm.iN (.pair am aI:Tm);rw [<- c_,iq,c_,gB];simp only [];omega
   ·congr 2;simp [h5,Function.comp_def]
   ·rw [<- ki,qo,<- c_,qp];congr 2;exact (Tm.pU (t:=(.pair am aI:Tm)) rfl w).symm
   ·have:=Tm.iN (.pair am aI:Tm);rw [<- c_,iq,c_,gB];simp only [] at eQ;omega
  | first am=>
   refine ⟨λ c=>absurd c (by decide),λ _=>?_⟩;refine ⟨(.first am:Tm),w,rfl,cC aG trivial,(.first am:Tm),rfl,?_⟩;refine jq (Tm.aL (.first am:Tm)) Tm.enc (λ x=>fG (x,Tm.cq (.first am:Tm) w)) rfl (dm (by have:=Tm.gy (.first am:Tm);omega)) trivial (λ x _ R dk=>dk) (λ p aj=>?_)
   have np:b≠p:=by rintro rfl;rw [aG] at aj;cases aj
   refine bQ (by rw [bv np];exact aG) (bQ aG ⟨fU (by have:=Tm.gy (.first am:Tm);simp only [b3,eK];omega),?_⟩);refine ⟨_,up (up G a (.lst (fs.map jt))) b (.lst (aZ.reverse.map fG++(Tm.aL (.first am:Tm)).map λ x=>fG (x,Tm.cq (.first am:Tm) w))),.refl _,Sub.put (Sub.trans (Sub.new (Sub.refl _) (by rw [bv ep];exact hi)) (Sub.new (Sub.refl _) aj)),iM (((Tm.aL (.first am:Tm)).map λ x=>(x,Tm.cq (.first am:Tm) w)).reverse++aZ),?_,((Tm.aL (.first am:Tm)).map λ x=>(x,Tm.cq (.first am:Tm) w)).reverse++aZ,fs,_,_,_,rfl,?_,?_,?_,rfl⟩
   ·have:=Tm.iN (.first am:Tm);rw [<- c_,iq,c_,gB];simp only [];omega
   ·congr 2;simp [h5,Function.comp_def]
   ·rw [<- ki,qo,<- c_,qp];congr 2;exact (Tm.pU (t:=(.first am:Tm)) rfl w).symm
   ·have:=Tm.iN (.first am:Tm);rw [<- c_,iq,c_,gB];simp only [] at eQ;omega
  | second am=>
   refine ⟨λ c=>absurd c (by decide),λ _=>?_⟩;refine ⟨(.second am:Tm),w,rfl,cC aG trivial,(.second am:Tm),rfl,?_⟩;refine jq (Tm.aL (.second am:Tm)) Tm.enc (λ x=>fG (x,Tm.cq (.second am:Tm) w)) rfl (dm (by have:=Tm.gy (.second am:Tm);omega)) trivial (λ x _ R dk=>dk) (λ p aj=>?_)
   have np:b≠p:=by rintro rfl;rw [aG] at aj;cases aj
   refine bQ (by rw [bv np];exact aG) (bQ aG ⟨fU (by have:=Tm.gy (.second am:Tm);simp only [b3,eK];omega),?_⟩);refine ⟨_,up (up G a (.lst (fs.map jt))) b (.lst (aZ.reverse.map fG++(Tm.aL (.second am:Tm)).map λ x=>fG (x,Tm.cq (.second am:Tm) w))),.refl _,Sub.put (Sub.trans (Sub.new (Sub.refl _) (by rw [bv ep];exact hi)) (Sub.new (Sub.refl _) aj)),iM (((Tm.aL (.second am:Tm)).map λ x=>(x,Tm.cq (.second am:Tm) w)).reverse++aZ),?_,((Tm.aL (.second am:Tm)).map λ x=>(x,Tm.cq (.second am:Tm) w)).reverse++aZ,fs,_,_,_,rfl,?_,?_,?_,rfl⟩
   ·have:=Tm.iN (.second am:Tm);rw [<- c_,iq,c_,gB];simp only [];omega
   ·congr 2;simp [h5,Function.comp_def]
   ·rw [<- ki,qo,<- c_,qp];congr 2;exact (Tm.pU (t:=(.second am:Tm)) rfl w).symm
   ·have:=Tm.iN (.second am:Tm);rw [<- c_,iq,c_,gB];simp only [] at eQ;omega
  | plus am aI=>
   refine ⟨λ c=>absurd c (by decide),λ _=>?_⟩;refine ⟨(.plus am aI:Tm),w,rfl,cC aG trivial,(.plus am aI:Tm),rfl,?_⟩;refine jq (Tm.aL (.plus am aI:Tm)) Tm.enc (λ x=>fG (x,Tm.cq (.plus am aI:Tm) w)) rfl (dm (by have:=Tm.gy (.plus am aI:Tm);omega)) trivial (λ x _ R dk=>dk) (λ p aj=>?_)
   have np:b≠p:=by rintro rfl;rw [aG] at aj;cases aj
   refine bQ (by rw [bv np];exact aG) (bQ aG ⟨fU (by have:=Tm.gy (.plus am aI:Tm);simp only [b3,eK];omega),?_⟩);refine ⟨_,up (up G a (.lst (fs.map jt))) b (.lst (aZ.reverse.map fG++(Tm.aL (.plus am aI:Tm)).map λ x=>fG (x,Tm.cq (.plus am aI:Tm) w))),.refl _,Sub.put (Sub.trans (Sub.new (Sub.refl _) (by rw [bv ep];exact hi)) (Sub.new (Sub.refl _) aj)),iM (((Tm.aL (.plus am aI:Tm)).map λ x=>(x,Tm.cq (.plus am aI:Tm) w)).reverse++aZ),?_,((Tm.aL (.plus am aI:Tm)).map λ x=>(x,Tm.cq (.plus am aI:Tm) w)).reverse++aZ,fs,_,_,_,rfl,?_,?_,?_,rfl⟩
   ·have:=Tm.iN (.plus am aI:Tm);rw [<- c_,iq,c_,gB];simp only [];omega
   ·congr 2;simp [h5,Function.comp_def]
   ·rw [<- ki,qo,<- c_,qp];congr 2;exact (Tm.pU (t:=(.plus am aI:Tm)) rfl w).symm
   ·have:=Tm.iN (.plus am aI:Tm);rw [<- c_,iq,c_,gB];simp only [] at eQ;omega
  | look am aI cP=>
   refine ⟨λ c=>absurd c (by decide),λ _=>?_⟩;refine ⟨(.look am aI cP:Tm),w,rfl,cC aG trivial,(.look am aI cP:Tm),rfl,?_⟩;refine jq (Tm.aL (.look am aI cP:Tm)) Tm.enc (λ x=>fG (x,Tm.cq (.look am aI cP:Tm) w)) rfl (dm (by have:=Tm.gy (.look am aI cP:Tm);omega)) trivial (λ x _ R dk=>dk) (λ p aj=>?_)
   have np:b≠p:=by rintro rfl;rw [aG] at aj;cases aj
   refine bQ (by rw [bv np];exact aG) (bQ aG ⟨fU (by have:=Tm.gy (.look am aI cP:Tm);simp only [b3,eK];omega),?_⟩);refine ⟨_,up (up G a (.lst (fs.map jt))) b (.lst (aZ.reverse.map fG++(Tm.aL (.look am aI cP:Tm)).map λ x=>fG (x,Tm.cq (.look am aI cP:Tm) w))),.refl _,Sub.put (Sub.trans (Sub.new (Sub.refl _) (by rw [bv ep];exact hi)) (Sub.new (Sub.refl _) aj)),iM (((Tm.aL (.look am aI cP:Tm)).map λ x=>(x,Tm.cq (.look am aI cP:Tm) w)).reverse++aZ),?_,((Tm.aL (.look am aI cP:Tm)).map λ x=>(x,Tm.cq (.look am aI cP:Tm) w)).reverse++aZ,fs,_,_,_,rfl,?_,?_,?_,rfl⟩
   ·have:=Tm.iN (.look am aI cP:Tm);rw [<- c_,iq,c_,gB];simp only [];omega
   ·congr 2;simp [h5,Function.comp_def]
   ·rw [<- ki,qo,<- c_,qp];congr 2;exact (Tm.pU (t:=(.look am aI cP:Tm)) rfl w).symm
   ·have:=Tm.iN (.look am aI cP:Tm);rw [<- c_,iq,c_,gB];simp only [] at eQ;omega
 ·have e:ps=[]:=by
   cases ps with
   | nil=>rfl
   | cons _ _=>simp at c
  subst e
  have aW:fs=t.dn 0:=by simpa using ki
  subst aW;exact ⟨up G a (.lst ((t.dn 0).map jt)),Sub.new (Sub.refl _) (by rw [bv ep];exact hi),q a au⟩
abbrev Cb:bE:=top 5
theorem rZ:d0 ["program", "change", "made", "pending", "entry", "one", "inners", "below"] ["program", "change"] (cp Cb):=⟨rfl,rfl,rfl,by decide +kernel,rfl,by decide +kernel,by decide +kernel⟩
theorem TP{tD:Nat}(B:i9 mg)(rY:Got P w K mg base 1 "inner" ["program"] (aT K (yz Tm.enc Tm.aL)))(tC:Got P w K mg base 1 "ways_below" ["program", "ways"] (aT K yH))(F:dL K "with_names" "with_names" Cb f fd):cO P w K mg base cQ (tD+2) f fd ["program", "change"] (aT K (Bs P w K mg base tD)):=by
 refine eA (k:=tD+1) F rZ (λ ds G ax h=>?_) (λ bP A outer s H E ap ds G ax h=>?_)
 ·obtain ⟨_,_,_,_,_,_,_,_,_,_,_,rfl,_⟩:=h;rfl
 obtain ⟨t,nV,name,qual,TQ,fr,vals,ps,φ,C,L,rfl,hf,TR,iA,hz,mm,q⟩:=h
 refine ⟨_,(a5 (cL (k:=2) rZ.bD rfl (Or.inr rfl) (lH aD))
  (a5 (cL (k:=3) rZ.bD rfl (Or.inl rfl) (lH (ah (cE (ah (ae 0) (ah ay (ah jN aD)))) aD)))
  (a5 (vq PassesOwn.never (iG (ae 3)) (a5 (cL (k:=4) rZ.bD rfl (Or.inl rfl) (s8 PySem.F.plainAttrs_list PySem.F.slot_list_pop PySem.F.type_list_pop s9 (ae 3)))
  (a5 (cL (k:=5) rZ.bD rfl (Or.inl rfl) (bI bJ (ae 4) ay (λ _ _=>rfl)))
  (bw (cI (b5 (d3 (dj ap)) (bI bJ (ae 5) ay (λ _ _=>rfl)) bN (bW _)) (bw (jo (mF PySem.F.plainAttrs_list PySem.F.slot_list_append PySem.F.type_list_append pS (ae 2) (ah (RX 1 TR ap (by omega) (ah (bI bJ (ae 5) ay (λ _ _=>rfl)) (ah (bI bJ (ae 4) ay (λ _ _=>rfl)) aD))) aD)))) (bw (cI (b5 (d3 (dj ap)) (bI bJ (ae 5) ay (λ _ _=>rfl)) bN (bW _)) (bw (jo (mF PySem.F.plainAttrs_list PySem.F.slot_list_append PySem.F.type_list_append pS (ae 2) (ah (ae 5) aD)))) (bw (cI (iG (bI bJ (ae 4) ay (λ _ _=>rfl))) (a5 (G8 (k:=6) rfl rZ.bD rfl (Or.inl rfl) (fD.of (N':=["part", "made"]) (nt:=1) (cap:=[2]) rfl (by kernel_rfl)) (nJ (k:=0) (by decide)) (rx (cg rY ap (by omega) rfl (ah (ae 5) aD))) (λ _ _ _ _=>(hW (k:=0) (show List.Nodup (["part", "made"]:List Str) by decide +kernel) rfl (Or.inl rfl)))  (λ _ _ _ _=>(s8 PySem.F.plainAttrs_list PySem.F.slot_list_pop PySem.F.type_list_pop s9 (ae 1))))
  (bw (jo (mF PySem.F.plainAttrs_list PySem.F.slot_list_append PySem.F.type_list_append pS (ae 2) (ah (b4 fS (cE (ah (bI bJ (ae 5) ay (λ _ _=>rfl)) aD)) (oB ym rfl B.tuple qt (ah (ae 6) aD))) aD))))) (a5 (jo (mF PySem.F.plainAttrs_list PySem.F.slot_list_append PySem.F.type_list_append pS (ae 3) (ah (cE (ah (ae 5) (ah (bI bJ (ae 4) ay (λ _ _=>rfl)) (ah jN aD)))) aD)))
  (a5 (cL (k:=7) rZ.bD rfl (Or.inr rfl) (cg tC ap (by omega) rfl (ah (ae 5) (ah (bI bJ (ae 4) ay (λ _ _=>rfl)) aD))))
  (bw (jo (mF PySem.F.plainAttrs_list PySem.F.slot_list_extend PySem.F.type_list_extend Bc (ae 3) (ah (A8 rfl (fD.of (N':=["part", "below"]) (nt:=1) (cap:=[7]) rfl (by kernel_rfl)) (nJ (k:=0) (by decide)) (rx (cg rY ap (by omega) rfl (ah (ae 5) aD))) (λ _ _ _ _=>(hW (k:=0) (show List.Nodup (["part", "below"]:List Str) by decide +kernel) rfl (Or.inl rfl))) (λ _ _ _ _=>(cE (ah (ae 0) (ah (ae 1) (ah jN aD)))))) aD)))))))))))))))
  (bw (b9 (s8 PySem.F.plainAttrs_list PySem.F.slot_list_pop PySem.F.type_list_pop s9 (ae 2))))))),?_⟩
 intro a au b ag;obtain ⟨-,hi,ep⟩:=rG (o:=.lst []) ag
 have wa:nV≠a:=by rintro rfl;rw [hf] at au;cases au
 have TS:nV≠b:=by rintro rfl;rw [hf] at hi;cases hi
 refine ⟨λ μ ρ ak=>∃(st:List Ent)(m:List Tm)(km kn wb wc:Option D),ρ=[some t.enc,some (.ref nV),some (.ref a),some (.ref b),km,kn,wb,wc]/\ak=up (up G a (.lst (m.reverse.map Tm.enc))) b (.lst (st.reverse.map ed))/\i1 φ st m=some [t.d_ φ 0]/\(∀ z∈st,(z.2.2=false\/z.1.leaf=true)->∀ y∈z.1.dn z.2.1,C y.1 y.2)/\m.length+fo st<=2 * t.aR/\μ=fo st,
  ⟨_,[(t,0,false)],[],_,_,_,_,rfl,rfl,by simp [i1,Bq],by intro z hz _;simp at hz;subst hz;exact mm,by simp [fo,f5],rfl⟩,?_⟩
 rintro μ ρ ak ⟨st,m,km,kn,wb,wc,rfl,rfl,de,I8,eQ,rfl⟩;refine cC aG ⟨λ c=>?_,λ c=>?_⟩
 ·obtain ⟨u,w,gH,aZ,rfl⟩:∃ u w gH aZ,st=(u,w,gH)::aZ:=by
   cases st with
   | nil=>simp at c
   | cons z aZ=>exact ⟨z.1,z.2.1,z.2.2,aZ,rfl⟩
  rw [nN] at eQ ⊢;have v_:=Hw aZ;have jx:∀ z∈aZ,(z.2.2=false\/z.1.leaf=true)->∀ y∈z.1.dn z.2.1,C y.1 y.2:=λ z hz=>I8 z (h3 _ hz);have p3:=I8 (u,w,gH) (f7 ..);refine ⟨cC aG trivial,bQ aG ⟨aZ.reverse.map ed,ed (u,w,gH),by simp,?_⟩⟩;rw [dh]
  have eh:∀(o:ek)(ds:List D),up (up G a (.lst ds)) b o a=some (.lst ds):=λ o ds=>by rw [bv (Ne.symm ep)];exact aG
  have I9:∀(o p:ek),up (up G a o) b p nV=some (.mB name qual TQ fr vals):=λ o p=>by rw [bv TS,bv wa];exact hf
  have Aq:∀(o p:ek),∀ q∈L,up (up G a o) b p q.1=some q.2:=λ o p q bn=>by
   rw [bv (by rintro e;rw [<- e,iA q bn] at hi;cases hi),bv (by rintro e;rw [<- e,iA q bn] at au;cases au)];exact iA q bn
  have Zl:1<=f5 (u,w,gH):=by have:=u.tc;show 1<=(if gH=true then 1 else 2 * u.aR);split<;>omega
  cases u with
  | name k=>
   refine ⟨λ _=>?_,λ c=>absurd c (by decide)⟩
   have Az:m.length+1<=2 * t.aR:=by omega
   refine ⟨cC (eh _ _) trivial,nV,rfl,I9 _ _,I9 _ _,k,w,rfl,?_,Aq _ _,bQ (eh _ _) ⟨dm (by simp only [b3,eK];omega),?_⟩⟩
   ·exact p3 (.inr rfl) (k,w) (f7 ..)
   rw [iL ep];exact ip.of ⟨fo aZ,by omega,aZ,φ k w::m,_,_,_,_,rfl,by simp,de,jx,by simp only [eb];omega,rfl⟩
  | whole k=>
   refine ⟨λ c=>absurd c (by decide),λ _=>⟨λ _=>?_,λ c=>absurd c (by decide)⟩⟩;refine ⟨cC (eh _ _) trivial,bQ (eh _ _) ⟨dm (by simp only [b3,eK];omega),?_⟩⟩;rw [iL ep];exact ip.of ⟨fo aZ,by omega,aZ,.whole k::m,_,_,_,_,rfl,by simp,de,jx,by simp only [eb];omega,rfl⟩
  | way am=>
   refine ⟨λ c=>absurd c (by decide),λ _=>⟨λ c=>absurd c (by decide),λ _=>?_⟩⟩;have gQ:=Tm.gy (.way am:Tm)
   cases gH with
   | true=>
    refine ⟨λ _=>?_,nofun⟩;rw [i1,pW (t:=(.way am:Tm)) rfl] at de
    have aC:(Tm.aL (.way am:Tm)).length<=m.length:=by
     rcases kM m.length (Tm.aL (.way am:Tm)).length with z | z
     ·rw [if_neg (by omega)] at de;cases de
     ·exact z
    rw [if_pos aC] at de;simp only [] at de;generalize fe:(Tm.aL (.way am:Tm)).length=cj at aC de gQ;refine ⟨(.way am:Tm),rfl,oE (λ i ds ak=>ds=(m.take i).map Tm.enc/\i<=cj/\ak=up (up G a (.lst ((m.drop i).reverse.map Tm.enc))) b (.lst (aZ.reverse.map ed))) ?_ ⟨rfl,f9 _,by rw [pb]⟩ (λ _ _ _ _ _=>trivial) ?_ ?_⟩
    ·show ((Tm.aL (.way am:Tm)).map Tm.enc).length < sizeLine;rw [b3,fe];exact dm (by omega)
    ·rintro i d ds ak hd ⟨rfl,aA,rfl⟩
     have p4:i < cj:=by
      have z:=(kI.mp hd).1;have ft:i < ((Tm.aL (.way am:Tm)).map Tm.enc).length:=z;rw [b3,fe] at ft;exact ft
     have aq:m.drop i=m[i]::m.drop (i+1):=pd (by omega);refine ⟨cC (eh _ _) trivial,bQ (eh _ _) ⟨(m.drop (i+1)).reverse.map Tm.enc,(m[i]'(by omega)).enc,by rw [aq,h6,ff];rfl,?_⟩⟩;rw [iL ep];refine iK.of ⟨?_,by omega,rfl⟩;rw [lw,hk (by omega),qq,ff];rfl
    ·rintro ds ak ⟨rfl,_,rfl⟩ p aj
     have ll:n2 (jA Tm.enc (Tm.aL (.way am:Tm)))=cj:=by rw [b3];exact fe
     rw [show (⟨jA Tm.enc (Tm.aL (.way am:Tm)),_⟩:hG).items.length=cj from ll] at aj ⊢
     have g5:a≠p:=by rintro rfl;rw [eh] at aj;cases aj
     refine ⟨cC (by rw [bv g5];exact eh _ _) trivial,cC aG ⟨fU (by simp only [b3,iP,eb,hu];omega),bQ (by rw [bv g5];exact eh _ _) ⟨dm (by simp only [b3,eK,iQ];omega),?_⟩⟩⟩;refine ⟨_,up (up G a (.lst ((m.drop cj).reverse.map Tm.enc++[.tup (.str (Tm.word (.way am:Tm))::(m.take cj).map Tm.enc)]))) b (.lst (aZ.reverse.map ed)),.refl _,?_,fo aZ,by omega,aZ,Tm.k9 (.way am:Tm) (m.take cj)::m.drop cj,_,_,_,_,rfl,?_,de,jx,?_,rfl⟩
     ·rw [<- iL (x:=.lst ((m.drop cj).reverse.map Tm.enc)) ep];exact Sub.put (Sub.new (Sub.refl _) aj)
     ·congr 2;rw [h6,ff,eC,l0,Tm.pV (t:=(.way am:Tm)) rfl (by rw [iP,fe];omega)]
     ·simp only [eb,iQ];omega
   | false=>
    refine ⟨nofun,λ _=>?_⟩;have tE:=Tm.rP (t:=(.way am:Tm)) rfl;simp only [f5,jc,if_false] at eQ;refine ⟨cC aG trivial,bQ aG ⟨dm (by simp only [b3,eK];omega),?_⟩⟩;rw [dh];refine ⟨(.way am:Tm),w,rfl,cC aG trivial,(.way am:Tm),rfl,?_⟩;refine jq (Tm.aL (.way am:Tm)) Tm.enc (λ x=>ed (x,Tm.cq (.way am:Tm) w,false)) rfl (dm (by omega)) trivial (λ x _ R dk=>dk) (λ p aj=>?_)
    have np:b≠p:=by rintro rfl;rw [aG] at aj;cases aj
    refine bQ (by rw [bv np];exact aG) (bQ aG ⟨fU (by simp only [b3,eK,hN,eb,hu];omega),?_⟩)
    have tF:fo ((Tm.aL (.way am:Tm) |>.map λ x=>((x,Tm.cq (.way am:Tm) w,false):Ent)).reverse++((.way am:Tm),w,true)::aZ)+1=2 * Tm.aR (.way am:Tm)+fo aZ:=by
     rw [<- c_,pX,c_,gB,nN];simp only [f5,if_true];omega
    refine ⟨_,up (up G a (.lst (m.reverse.map Tm.enc))) b (.lst (aZ.reverse.map ed++[ed ((.way am:Tm),w,true)]++(Tm.aL (.way am:Tm)).map λ x=>ed (x,Tm.cq (.way am:Tm) w,false))),.refl _,Sub.put (Sub.trans (Sub.new (Sub.refl _) (by rw [bv ep];exact hi)) (Sub.new (Sub.refl _) aj)),_,?_,(Tm.aL (.way am:Tm) |>.map λ x=>((x,Tm.cq (.way am:Tm) w,false):Ent)).reverse++((.way am:Tm),w,true)::aZ,m,_,_,_,_,rfl,?_,?_,?_,?_,rfl⟩
    ·simp only [f5,jc,if_false];omega
    ·congr 2;simp [h5,Function.comp_def]
    ·rw [rO (t:=(.way am:Tm)) rfl];exact de
    ·intro z hz gv y aQ;rcases kH.mp hz with hz | hz
     ·obtain ⟨x,aq,rfl⟩:=h4.mp (kL.mp hz);exact p3 (.inl rfl) y (Tm.rM (t:=(.way am:Tm)) rfl aq aQ)
     ·rcases ea.mp hz with rfl | hz
      ·rcases gv with z | z<;>cases z
      ·exact jx z hz gv y aQ
    ·omega
  | give am aI=>
   refine ⟨λ c=>absurd c (by decide),λ _=>⟨λ c=>absurd c (by decide),λ _=>?_⟩⟩;have gQ:=Tm.gy (.give am aI:Tm)
   cases gH with
   | true=>
    refine ⟨λ _=>?_,nofun⟩;rw [i1,pW (t:=(.give am aI:Tm)) rfl] at de
    have aC:(Tm.aL (.give am aI:Tm)).length<=m.length:=by
     rcases kM m.length (Tm.aL (.give am aI:Tm)).length with z | z
     ·rw [if_neg (by omega)] at de;cases de
     ·exact z
    rw [if_pos aC] at de;simp only [] at de;generalize fe:(Tm.aL (.give am aI:Tm)).length=cj at aC de gQ;refine ⟨(.give am aI:Tm),rfl,oE (λ i ds ak=>ds=(m.take i).map Tm.enc/\i<=cj/\ak=up (up G a (.lst ((m.drop i).reverse.map Tm.enc))) b (.lst (aZ.reverse.map ed))) ?_ ⟨rfl,f9 _,by rw [pb]⟩ (λ _ _ _ _ _=>trivial) ?_ ?_⟩
    ·show ((Tm.aL (.give am aI:Tm)).map Tm.enc).length < sizeLine;rw [b3,fe];exact dm (by omega)
    ·rintro i d ds ak hd ⟨rfl,aA,rfl⟩
     have p4:i < cj:=by
      have z:=(kI.mp hd).1;have ft:i < ((Tm.aL (.give am aI:Tm)).map Tm.enc).length:=z;rw [b3,fe] at ft;exact ft
     have aq:m.drop i=m[i]::m.drop (i+1):=pd (by omega);refine ⟨cC (eh _ _) trivial,bQ (eh _ _) ⟨(m.drop (i+1)).reverse.map Tm.enc,(m[i]'(by omega)).enc,by rw [aq,h6,ff];rfl,?_⟩⟩;rw [iL ep];refine iK.of ⟨?_,by omega,rfl⟩;rw [lw,hk (by omega),qq,ff];rfl
    ·rintro ds ak ⟨rfl,_,rfl⟩ p aj
     have ll:n2 (jA Tm.enc (Tm.aL (.give am aI:Tm)))=cj:=by rw [b3];exact fe
     rw [show (⟨jA Tm.enc (Tm.aL (.give am aI:Tm)),_⟩:hG).items.length=cj from ll] at aj ⊢
     have g5:a≠p:=by rintro rfl;rw [eh] at aj;cases aj
     refine ⟨cC (by rw [bv g5];exact eh _ _) trivial,cC aG ⟨fU (by simp only [b3,iP,eb,hu];omega),bQ (by rw [bv g5];exact eh _ _) ⟨dm (by simp only [b3,eK,iQ];omega),?_⟩⟩⟩;refine ⟨_,up (up G a (.lst ((m.drop cj).reverse.map Tm.enc++[.tup (.str (Tm.word (.give am aI:Tm))::(m.take cj).map Tm.enc)]))) b (.lst (aZ.reverse.map ed)),.refl _,?_,fo aZ,by omega,aZ,Tm.k9 (.give am aI:Tm) (m.take cj)::m.drop cj,_,_,_,_,rfl,?_,de,jx,?_,rfl⟩
     ·rw [<- iL (x:=.lst ((m.drop cj).reverse.map Tm.enc)) ep];exact Sub.put (Sub.new (Sub.refl _) aj)
     ·congr 2;rw [h6,ff,eC,l0,Tm.pV (t:=(.give am aI:Tm)) rfl (by rw [iP,fe];omega)]
     ·simp only [eb,iQ];omega
   | false=>
    refine ⟨nofun,λ _=>?_⟩;have tE:=Tm.rP (t:=(.give am aI:Tm)) rfl;simp only [f5,jc,if_false] at eQ;refine ⟨cC aG trivial,bQ aG ⟨dm (by simp only [b3,eK];omega),?_⟩⟩;rw [dh];refine ⟨(.give am aI:Tm),w,rfl,cC aG trivial,(.give am aI:Tm),rfl,?_⟩;refine jq (Tm.aL (.give am aI:Tm)) Tm.enc (λ x=>ed (x,Tm.cq (.give am aI:Tm) w,false)) rfl (dm (by omega)) trivial (λ x _ R dk=>dk) (λ p aj=>?_)
    have np:b≠p:=by rintro rfl;rw [aG] at aj;cases aj
    refine bQ (by rw [bv np];exact aG) (bQ aG ⟨fU (by simp only [b3,eK,hN,eb,hu];omega),?_⟩)
    have tF:fo ((Tm.aL (.give am aI:Tm) |>.map λ x=>((x,Tm.cq (.give am aI:Tm) w,false):Ent)).reverse++((.give am aI:Tm),w,true)::aZ)+1=2 * Tm.aR (.give am aI:Tm)+fo aZ:=by
     rw [<- c_,pX,c_,gB,nN];simp only [f5,if_true];omega
    refine ⟨_,up (up G a (.lst (m.reverse.map Tm.enc))) b (.lst (aZ.reverse.map ed++[ed ((.give am aI:Tm),w,true)]++(Tm.aL (.give am aI:Tm)).map λ x=>ed (x,Tm.cq (.give am aI:Tm) w,false))),.refl _,Sub.put (Sub.trans (Sub.new (Sub.refl _) (by rw [bv ep];exact hi)) (Sub.new (Sub.refl _) aj)),_,?_,(Tm.aL (.give am aI:Tm) |>.map λ x=>((x,Tm.cq (.give am aI:Tm) w,false):Ent)).reverse++((.give am aI:Tm),w,true)::aZ,m,_,_,_,_,rfl,?_,?_,?_,?_,rfl⟩
    ·simp only [f5,jc,if_false];omega
    ·congr 2;simp [h5,Function.comp_def]
    ·rw [rO (t:=(.give am aI:Tm)) rfl];exact de
    ·intro z hz gv y aQ;rcases kH.mp hz with hz | hz
     ·obtain ⟨x,aq,rfl⟩:=h4.mp (kL.mp hz);exact p3 (.inl rfl) y (Tm.rM (t:=(.give am aI:Tm)) rfl aq aQ)
     ·rcases ea.mp hz with rfl | hz
      ·rcases gv with z | z<;>cases z
      ·exact jx z hz gv y aQ
    ·omega
  | pair am aI=>
   refine ⟨λ c=>absurd c (by decide),λ _=>⟨λ c=>absurd c (by decide),λ _=>?_⟩⟩;have gQ:=Tm.gy (.pair am aI:Tm)
   cases gH with
   | true=>
    refine ⟨λ _=>?_,nofun⟩;rw [i1,pW (t:=(.pair am aI:Tm)) rfl] at de
    have aC:(Tm.aL (.pair am aI:Tm)).length<=m.length:=by
     rcases kM m.length (Tm.aL (.pair am aI:Tm)).length with z | z
     ·rw [if_neg (by omega)] at de;cases de
     ·exact z
    rw [if_pos aC] at de;simp only [] at de;generalize fe:(Tm.aL (.pair am aI:Tm)).length=cj at aC de gQ;refine ⟨(.pair am aI:Tm),rfl,oE (λ i ds ak=>ds=(m.take i).map Tm.enc/\i<=cj/\ak=up (up G a (.lst ((m.drop i).reverse.map Tm.enc))) b (.lst (aZ.reverse.map ed))) ?_ ⟨rfl,f9 _,by rw [pb]⟩ (λ _ _ _ _ _=>trivial) ?_ ?_⟩
    ·show ((Tm.aL (.pair am aI:Tm)).map Tm.enc).length < sizeLine;rw [b3,fe];exact dm (by omega)
    ·rintro i d ds ak hd ⟨rfl,aA,rfl⟩
     have p4:i < cj:=by
      have z:=(kI.mp hd).1;have ft:i < ((Tm.aL (.pair am aI:Tm)).map Tm.enc).length:=z;rw [b3,fe] at ft;exact ft
     have aq:m.drop i=m[i]::m.drop (i+1):=pd (by omega);refine ⟨cC (eh _ _) trivial,bQ (eh _ _) ⟨(m.drop (i+1)).reverse.map Tm.enc,(m[i]'(by omega)).enc,by rw [aq,h6,ff];rfl,?_⟩⟩;rw [iL ep];refine iK.of ⟨?_,by omega,rfl⟩;rw [lw,hk (by omega),qq,ff];rfl
    ·rintro ds ak ⟨rfl,_,rfl⟩ p aj
     have ll:n2 (jA Tm.enc (Tm.aL (.pair am aI:Tm)))=cj:=by rw [b3];exact fe
     rw [show (⟨jA Tm.enc (Tm.aL (.pair am aI:Tm)),_⟩:hG).items.length=cj from ll] at aj ⊢
     have g5:a≠p:=by rintro rfl;rw [eh] at aj;cases aj
     refine ⟨cC (by rw [bv g5];exact eh _ _) trivial,cC aG ⟨fU (by simp only [b3,iP,eb,hu];omega),bQ (by rw [bv g5];exact eh _ _) ⟨dm (by simp only [b3,eK,iQ];omega),?_⟩⟩⟩;refine ⟨_,up (up G a (.lst ((m.drop cj).reverse.map Tm.enc++[.tup (.str (Tm.word (.pair am aI:Tm))::(m.take cj).map Tm.enc)]))) b (.lst (aZ.reverse.map ed)),.refl _,?_,fo aZ,by omega,aZ,Tm.k9 (.pair am aI:Tm) (m.take cj)::m.drop cj,_,_,_,_,rfl,?_,de,jx,?_,rfl⟩
     ·rw [<- iL (x:=.lst ((m.drop cj).reverse.map Tm.enc)) ep];exact Sub.put (Sub.new (Sub.refl _) aj)
     ·congr 2;rw [h6,ff,eC,l0,Tm.pV (t:=(.pair am aI:Tm)) rfl (by rw [iP,fe];omega)]
     ·simp only [eb,iQ];omega
   | false=>
    refine ⟨nofun,λ _=>?_⟩;have tE:=Tm.rP (t:=(.pair am aI:Tm)) rfl;simp only [f5,jc,if_false] at eQ;refine ⟨cC aG trivial,bQ aG ⟨dm (by simp only [b3,eK];omega),?_⟩⟩;rw [dh];refine ⟨(.pair am aI:Tm),w,rfl,cC aG trivial,(.pair am aI:Tm),rfl,?_⟩;refine jq (Tm.aL (.pair am aI:Tm)) Tm.enc (λ x=>ed (x,Tm.cq (.pair am aI:Tm) w,false)) rfl (dm (by omega)) trivial (λ x _ R dk=>dk) (λ p aj=>?_)
    have np:b≠p:=by rintro rfl;rw [aG] at aj;cases aj
    refine bQ (by rw [bv np];exact aG) (bQ aG ⟨fU (by simp only [b3,eK,hN,eb,hu];omega),?_⟩)
    have tF:fo ((Tm.aL (.pair am aI:Tm) |>.map λ x=>((x,Tm.cq (.pair am aI:Tm) w,false):Ent)).reverse++((.pair am aI:Tm),w,true)::aZ)+1=2 * Tm.aR (.pair am aI:Tm)+fo aZ:=by
     rw [<- c_,pX,c_,gB,nN];simp only [f5,if_true];omega
    refine ⟨_,up (up G a (.lst (m.reverse.map Tm.enc))) b (.lst (aZ.reverse.map ed++[ed ((.pair am aI:Tm),w,true)]++(Tm.aL (.pair am aI:Tm)).map λ x=>ed (x,Tm.cq (.pair am aI:Tm) w,false))),.refl _,Sub.put (Sub.trans (Sub.new (Sub.refl _) (by rw [bv ep];exact hi)) (Sub.new (Sub.refl _) aj)),_,?_,(Tm.aL (.pair am aI:Tm) |>.map λ x=>((x,Tm.cq (.pair am aI:Tm) w,false):Ent)).reverse++((.pair am aI:Tm),w,true)::aZ,m,_,_,_,_,rfl,?_,?_,?_,?_,rfl⟩
    ·simp only [f5,jc,if_false];omega
    ·congr 2;simp [h5,Function.comp_def]
    ·rw [rO (t:=(.pair am aI:Tm)) rfl];exact de
    ·intro z hz gv y aQ;rcases kH.mp hz with hz | hz
     ·obtain ⟨x,aq,rfl⟩:=h4.mp (kL.mp hz);exact p3 (.inl rfl) y (Tm.rM (t:=(.pair am aI:Tm)) rfl aq aQ)
     ·rcases ea.mp hz with rfl | hz
      ·rcases gv with z | z<;>cases z
      ·exact jx z hz gv y aQ
    ·omega
  | first am=>
   refine ⟨λ c=>absurd c (by decide),λ _=>⟨λ c=>absurd c (by decide),λ _=>?_⟩⟩;have gQ:=Tm.gy (.first am:Tm)
   cases gH with
   | true=>
    refine ⟨λ _=>?_,nofun⟩;rw [i1,pW (t:=(.first am:Tm)) rfl] at de
    have aC:(Tm.aL (.first am:Tm)).length<=m.length:=by
     rcases kM m.length (Tm.aL (.first am:Tm)).length with z | z
     ·rw [if_neg (by omega)] at de;cases de
     ·exact z
    rw [if_pos aC] at de;simp only [] at de;generalize fe:(Tm.aL (.first am:Tm)).length=cj at aC de gQ;refine ⟨(.first am:Tm),rfl,oE (λ i ds ak=>ds=(m.take i).map Tm.enc/\i<=cj/\ak=up (up G a (.lst ((m.drop i).reverse.map Tm.enc))) b (.lst (aZ.reverse.map ed))) ?_ ⟨rfl,f9 _,by rw [pb]⟩ (λ _ _ _ _ _=>trivial) ?_ ?_⟩
    ·show ((Tm.aL (.first am:Tm)).map Tm.enc).length < sizeLine;rw [b3,fe];exact dm (by omega)
    ·rintro i d ds ak hd ⟨rfl,aA,rfl⟩
     have p4:i < cj:=by
      have z:=(kI.mp hd).1;have ft:i < ((Tm.aL (.first am:Tm)).map Tm.enc).length:=z;rw [b3,fe] at ft;exact ft
     have aq:m.drop i=m[i]::m.drop (i+1):=pd (by omega);refine ⟨cC (eh _ _) trivial,bQ (eh _ _) ⟨(m.drop (i+1)).reverse.map Tm.enc,(m[i]'(by omega)).enc,by rw [aq,h6,ff];rfl,?_⟩⟩;rw [iL ep];refine iK.of ⟨?_,by omega,rfl⟩;rw [lw,hk (by omega),qq,ff];rfl
    ·rintro ds ak ⟨rfl,_,rfl⟩ p aj
     have ll:n2 (jA Tm.enc (Tm.aL (.first am:Tm)))=cj:=by rw [b3];exact fe
     rw [show (⟨jA Tm.enc (Tm.aL (.first am:Tm)),_⟩:hG).items.length=cj from ll] at aj ⊢
     have g5:a≠p:=by rintro rfl;rw [eh] at aj;cases aj
     refine ⟨cC (by rw [bv g5];exact eh _ _) trivial,cC aG ⟨fU (by simp only [b3,iP,eb,hu];omega),bQ (by rw [bv g5];exact eh _ _) ⟨dm (by simp only [b3,eK,iQ];omega),?_⟩⟩⟩;refine ⟨_,up (up G a (.lst ((m.drop cj).reverse.map Tm.enc++[.tup (.str (Tm.word (.first am:Tm))::(m.take cj).map Tm.enc)]))) b (.lst (aZ.reverse.map ed)),.refl _,?_,fo aZ,by omega,aZ,Tm.k9 (.first am:Tm) (m.take cj)::m.drop cj,_,_,_,_,rfl,?_,de,jx,?_,rfl⟩
     ·rw [<- iL (x:=.lst ((m.drop cj).reverse.map Tm.enc)) ep];exact Sub.put (Sub.new (Sub.refl _) aj)
     ·congr 2;rw [h6,ff,eC,l0,Tm.pV (t:=(.first am:Tm)) rfl (by rw [iP,fe];omega)]
     ·simp only [eb,iQ];omega
   | false=>
    refine ⟨nofun,λ _=>?_⟩;have tE:=Tm.rP (t:=(.first am:Tm)) rfl;simp only [f5,jc,if_false] at eQ;refine ⟨cC aG trivial,bQ aG ⟨dm (by simp only [b3,eK];omega),?_⟩⟩;rw [dh];refine ⟨(.first am:Tm),w,rfl,cC aG trivial,(.first am:Tm),rfl,?_⟩;refine jq (Tm.aL (.first am:Tm)) Tm.enc (λ x=>ed (x,Tm.cq (.first am:Tm) w,false)) rfl (dm (by omega)) trivial (λ x _ R dk=>dk) (λ p aj=>?_)
    have np:b≠p:=by rintro rfl;rw [aG] at aj;cases aj
    refine bQ (by rw [bv np];exact aG) (bQ aG ⟨fU (by simp only [b3,eK,hN,eb,hu];omega),?_⟩)
    have tF:fo ((Tm.aL (.first am:Tm) |>.map λ x=>((x,Tm.cq (.first am:Tm) w,false):Ent)).reverse++((.first am:Tm),w,true)::aZ)+1=2 * Tm.aR (.first am:Tm)+fo aZ:=by
     rw [<- c_,pX,c_,gB,nN];simp only [f5,if_true];omega
    refine ⟨_,up (up G a (.lst (m.reverse.map Tm.enc))) b (.lst (aZ.reverse.map ed++[ed ((.first am:Tm),w,true)]++(Tm.aL (.first am:Tm)).map λ x=>ed (x,Tm.cq (.first am:Tm) w,false))),.refl _,Sub.put (Sub.trans (Sub.new (Sub.refl _) (by rw [bv ep];exact hi)) (Sub.new (Sub.refl _) aj)),_,?_,(Tm.aL (.first am:Tm) |>.map λ x=>((x,Tm.cq (.first am:Tm) w,false):Ent)).reverse++((.first am:Tm),w,true)::aZ,m,_,_,_,_,rfl,?_,?_,?_,?_,rfl⟩
    ·simp only [f5,jc,if_false];omega
    ·congr 2;simp [h5,Function.comp_def]
    ·rw [rO (t:=(.first am:Tm)) rfl];exact de
    ·intro z hz gv y aQ;rcases kH.mp hz with hz | hz
     ·obtain ⟨x,aq,rfl⟩:=h4.mp (kL.mp hz);exact p3 (.inl rfl) y (Tm.rM (t:=(.first am:Tm)) rfl aq aQ)
     ·rcases ea.mp hz with rfl | hz
      ·rcases gv with z | z<;>cases z
      ·exact jx z hz gv y aQ
    ·omega
  | second am=>
   refine ⟨λ c=>absurd c (by decide),λ _=>⟨λ c=>absurd c (by decide),λ _=>?_⟩⟩;have gQ:=Tm.gy (.second am:Tm)
   cases gH with
   | true=>
    refine ⟨λ _=>?_,nofun⟩;rw [i1,pW (t:=(.second am:Tm)) rfl] at de
    have aC:(Tm.aL (.second am:Tm)).length<=m.length:=by
     rcases kM m.length (Tm.aL (.second am:Tm)).length with z | z
     ·rw [if_neg (by omega)] at de;cases de
     ·exact z
    rw [if_pos aC] at de;simp only [] at de;generalize fe:(Tm.aL (.second am:Tm)).length=cj at aC de gQ;refine ⟨(.second am:Tm),rfl,oE (λ i ds ak=>ds=(m.take i).map Tm.enc/\i<=cj/\ak=up (up G a (.lst ((m.drop i).reverse.map Tm.enc))) b (.lst (aZ.reverse.map ed))) ?_ ⟨rfl,f9 _,by rw [pb]⟩ (λ _ _ _ _ _=>trivial) ?_ ?_⟩
    ·show ((Tm.aL (.second am:Tm)).map Tm.enc).length < sizeLine;rw [b3,fe];exact dm (by omega)
    ·rintro i d ds ak hd ⟨rfl,aA,rfl⟩
     have p4:i < cj:=by
      have z:=(kI.mp hd).1;have ft:i < ((Tm.aL (.second am:Tm)).map Tm.enc).length:=z;rw [b3,fe] at ft;exact ft
     have aq:m.drop i=m[i]::m.drop (i+1):=pd (by omega);refine ⟨cC (eh _ _) trivial,bQ (eh _ _) ⟨(m.drop (i+1)).reverse.map Tm.enc,(m[i]'(by omega)).enc,by rw [aq,h6,ff];rfl,?_⟩⟩;rw [iL ep];refine iK.of ⟨?_,by omega,rfl⟩;rw [lw,hk (by omega),qq,ff];rfl
    ·rintro ds ak ⟨rfl,_,rfl⟩ p aj
     have ll:n2 (jA Tm.enc (Tm.aL (.second am:Tm)))=cj:=by rw [b3];exact fe
     rw [show (⟨jA Tm.enc (Tm.aL (.second am:Tm)),_⟩:hG).items.length=cj from ll] at aj ⊢
     have g5:a≠p:=by rintro rfl;rw [eh] at aj;cases aj
     refine ⟨cC (by rw [bv g5];exact eh _ _) trivial,cC aG ⟨fU (by simp only [b3,iP,eb,hu];omega),bQ (by rw [bv g5];exact eh _ _) ⟨dm (by simp only [b3,eK,iQ];omega),?_⟩⟩⟩;refine ⟨_,up (up G a (.lst ((m.drop cj).reverse.map Tm.enc++[.tup (.str (Tm.word (.second am:Tm))::(m.take cj).map Tm.enc)]))) b (.lst (aZ.reverse.map ed)),.refl _,?_,fo aZ,by omega,aZ,Tm.k9 (.second am:Tm) (m.take cj)::m.drop cj,_,_,_,_,rfl,?_,de,jx,?_,rfl⟩
     ·rw [<- iL (x:=.lst ((m.drop cj).reverse.map Tm.enc)) ep];exact Sub.put (Sub.new (Sub.refl _) aj)
     ·congr 2;rw [h6,ff,eC,l0,Tm.pV (t:=(.second am:Tm)) rfl (by rw [iP,fe];omega)]
     ·simp only [eb,iQ];omega
   | false=>
    refine ⟨nofun,λ _=>?_⟩;have tE:=Tm.rP (t:=(.second am:Tm)) rfl;simp only [f5,jc,if_false] at eQ;refine ⟨cC aG trivial,bQ aG ⟨dm (by simp only [b3,eK];omega),?_⟩⟩;rw [dh];refine ⟨(.second am:Tm),w,rfl,cC aG trivial,(.second am:Tm),rfl,?_⟩;refine jq (Tm.aL (.second am:Tm)) Tm.enc (λ x=>ed (x,Tm.cq (.second am:Tm) w,false)) rfl (dm (by omega)) trivial (λ x _ R dk=>dk) (λ p aj=>?_)
    have np:b≠p:=by rintro rfl;rw [aG] at aj;cases aj
    refine bQ (by rw [bv np];exact aG) (bQ aG ⟨fU (by simp only [b3,eK,hN,eb,hu];omega),?_⟩)
    have tF:fo ((Tm.aL (.second am:Tm) |>.map λ x=>((x,Tm.cq (.second am:Tm) w,false):Ent)).reverse++((.second am:Tm),w,true)::aZ)+1=2 * Tm.aR (.second am:Tm)+fo aZ:=by
     rw [<- c_,pX,c_,gB,nN];simp only [f5,if_true];omega
    refine ⟨_,up (up G a (.lst (m.reverse.map Tm.enc))) b (.lst (aZ.reverse.map ed++[ed ((.second am:Tm),w,true)]++(Tm.aL (.second am:Tm)).map λ x=>ed (x,Tm.cq (.second am:Tm) w,false))),.refl _,Sub.put (Sub.trans (Sub.new (Sub.refl _) (by rw [bv ep];exact hi)) (Sub.new (Sub.refl _) aj)),_,?_,(Tm.aL (.second am:Tm) |>.map λ x=>((x,Tm.cq (.second am:Tm) w,false):Ent)).reverse++((.second am:Tm),w,true)::aZ,m,_,_,_,_,rfl,?_,?_,?_,?_,rfl⟩
    ·simp only [f5,jc,if_false];omega
    ·congr 2;simp [h5,Function.comp_def]
    ·rw [rO (t:=(.second am:Tm)) rfl];exact de
    ·intro z hz gv y aQ;rcases kH.mp hz with hz | hz
     ·obtain ⟨x,aq,rfl⟩:=h4.mp (kL.mp hz);exact p3 (.inl rfl) y (Tm.rM (t:=(.second am:Tm)) rfl aq aQ)
     ·rcases ea.mp hz with rfl | hz
      ·rcases gv with z | z<;>cases z
      ·exact jx z hz gv y aQ
    ·omega
  | plus am aI=>
   refine ⟨λ c=>absurd c (by decide),λ _=>⟨λ c=>absurd c (by decide),λ _=>?_⟩⟩;have gQ:=Tm.gy (.plus am aI:Tm)
   cases gH with
   | true=>
    refine ⟨λ _=>?_,nofun⟩;rw [i1,pW (t:=(.plus am aI:Tm)) rfl] at de
    have aC:(Tm.aL (.plus am aI:Tm)).length<=m.length:=by
     rcases kM m.length (Tm.aL (.plus am aI:Tm)).length with z | z
     ·rw [if_neg (by omega)] at de;cases de
     ·exact z
    rw [if_pos aC] at de;simp only [] at de;generalize fe:(Tm.aL (.plus am aI:Tm)).length=cj at aC de gQ;refine ⟨(.plus am aI:Tm),rfl,oE (λ i ds ak=>ds=(m.take i).map Tm.enc/\i<=cj/\ak=up (up G a (.lst ((m.drop i).reverse.map Tm.enc))) b (.lst (aZ.reverse.map ed))) ?_ ⟨rfl,f9 _,by rw [pb]⟩ (λ _ _ _ _ _=>trivial) ?_ ?_⟩
    ·show ((Tm.aL (.plus am aI:Tm)).map Tm.enc).length < sizeLine;rw [b3,fe];exact dm (by omega)
    ·rintro i d ds ak hd ⟨rfl,aA,rfl⟩
     have p4:i < cj:=by
      have z:=(kI.mp hd).1;have ft:i < ((Tm.aL (.plus am aI:Tm)).map Tm.enc).length:=z;rw [b3,fe] at ft;exact ft
     have aq:m.drop i=m[i]::m.drop (i+1):=pd (by omega);refine ⟨cC (eh _ _) trivial,bQ (eh _ _) ⟨(m.drop (i+1)).reverse.map Tm.enc,(m[i]'(by omega)).enc,by rw [aq,h6,ff];rfl,?_⟩⟩;rw [iL ep];refine iK.of ⟨?_,by omega,rfl⟩;rw [lw,hk (by omega),qq,ff];rfl
    ·rintro ds ak ⟨rfl,_,rfl⟩ p aj
     have ll:n2 (jA Tm.enc (Tm.aL (.plus am aI:Tm)))=cj:=by rw [b3];exact fe
     rw [show (⟨jA Tm.enc (Tm.aL (.plus am aI:Tm)),_⟩:hG).items.length=cj from ll] at aj ⊢
     have g5:a≠p:=by rintro rfl;rw [eh] at aj;cases aj
     refine ⟨cC (by rw [bv g5];exact eh _ _) trivial,cC aG ⟨fU (by simp only [b3,iP,eb,hu];omega),bQ (by rw [bv g5];exact eh _ _) ⟨dm (by simp only [b3,eK,iQ];omega),?_⟩⟩⟩;refine ⟨_,up (up G a (.lst ((m.drop cj).reverse.map Tm.enc++[.tup (.str (Tm.word (.plus am aI:Tm))::(m.take cj).map Tm.enc)]))) b (.lst (aZ.reverse.map ed)),.refl _,?_,fo aZ,by omega,aZ,Tm.k9 (.plus am aI:Tm) (m.take cj)::m.drop cj,_,_,_,_,rfl,?_,de,jx,?_,rfl⟩
     ·rw [<- iL (x:=.lst ((m.drop cj).reverse.map Tm.enc)) ep];exact Sub.put (Sub.new (Sub.refl _) aj)
     ·congr 2;rw [h6,ff,eC,l0,Tm.pV (t:=(.plus am aI:Tm)) rfl (by rw [iP,fe];omega)]
     ·simp only [eb,iQ];omega
   | false=>
    refine ⟨nofun,λ _=>?_⟩;have tE:=Tm.rP (t:=(.plus am aI:Tm)) rfl;simp only [f5,jc,if_false] at eQ;refine ⟨cC aG trivial,bQ aG ⟨dm (by simp only [b3,eK];omega),?_⟩⟩;rw [dh];refine ⟨(.plus am aI:Tm),w,rfl,cC aG trivial,(.plus am aI:Tm),rfl,?_⟩;refine jq (Tm.aL (.plus am aI:Tm)) Tm.enc (λ x=>ed (x,Tm.cq (.plus am aI:Tm) w,false)) rfl (dm (by omega)) trivial (λ x _ R dk=>dk) (λ p aj=>?_)
    have np:b≠p:=by rintro rfl;rw [aG] at aj;cases aj
    refine bQ (by rw [bv np];exact aG) (bQ aG ⟨fU (by simp only [b3,eK,hN,eb,hu];omega),?_⟩)
    have tF:fo ((Tm.aL (.plus am aI:Tm) |>.map λ x=>((x,Tm.cq (.plus am aI:Tm) w,false):Ent)).reverse++((.plus am aI:Tm),w,true)::aZ)+1=2 * Tm.aR (.plus am aI:Tm)+fo aZ:=by
     rw [<- c_,pX,c_,gB,nN];simp only [f5,if_true];omega
    refine ⟨_,up (up G a (.lst (m.reverse.map Tm.enc))) b (.lst (aZ.reverse.map ed++[ed ((.plus am aI:Tm),w,true)]++(Tm.aL (.plus am aI:Tm)).map λ x=>ed (x,Tm.cq (.plus am aI:Tm) w,false))),.refl _,Sub.put (Sub.trans (Sub.new (Sub.refl _) (by rw [bv ep];exact hi)) (Sub.new (Sub.refl _) aj)),_,?_,(Tm.aL (.plus am aI:Tm) |>.map λ x=>((x,Tm.cq (.plus am aI:Tm) w,false):Ent)).reverse++((.plus am aI:Tm),w,true)::aZ,m,_,_,_,_,rfl,?_,?_,?_,?_,rfl⟩
    ·simp only [f5,jc,if_false];omega
    ·congr 2;simp [h5,Function.comp_def]
    ·rw [rO (t:=(.plus am aI:Tm)) rfl];exact de
    ·intro z hz gv y aQ;rcases kH.mp hz with hz | hz
     ·obtain ⟨x,aq,rfl⟩:=h4.mp (kL.mp hz);exact p3 (.inl rfl) y (Tm.rM (t:=(.plus am aI:Tm)) rfl aq aQ)
     ·rcases ea.mp hz with rfl | hz
      ·rcases gv with z | z<;>cases z
      ·exact jx z hz gv y aQ
    ·omega
  | look am aI cP=>
   refine ⟨λ c=>absurd c (by decide),λ _=>⟨λ c=>absurd c (by decide),λ _=>?_⟩⟩;have gQ:=Tm.gy (.look am aI cP:Tm)
   cases gH with
   | true=>
    refine ⟨λ _=>?_,nofun⟩;rw [i1,pW (t:=(.look am aI cP:Tm)) rfl] at de
    have aC:(Tm.aL (.look am aI cP:Tm)).length<=m.length:=by
     rcases kM m.length (Tm.aL (.look am aI cP:Tm)).length with z | z
     ·rw [if_neg (by omega)] at de;cases de
     ·exact z
    rw [if_pos aC] at de;simp only [] at de;generalize fe:(Tm.aL (.look am aI cP:Tm)).length=cj at aC de gQ;refine ⟨(.look am aI cP:Tm),rfl,oE (λ i ds ak=>ds=(m.take i).map Tm.enc/\i<=cj/\ak=up (up G a (.lst ((m.drop i).reverse.map Tm.enc))) b (.lst (aZ.reverse.map ed))) ?_ ⟨rfl,f9 _,by rw [pb]⟩ (λ _ _ _ _ _=>trivial) ?_ ?_⟩
    ·show ((Tm.aL (.look am aI cP:Tm)).map Tm.enc).length < sizeLine;rw [b3,fe];exact dm (by omega)
    ·rintro i d ds ak hd ⟨rfl,aA,rfl⟩
     have p4:i < cj:=by
      have z:=(kI.mp hd).1;have ft:i < ((Tm.aL (.look am aI cP:Tm)).map Tm.enc).length:=z;rw [b3,fe] at ft;exact ft
     have aq:m.drop i=m[i]::m.drop (i+1):=pd (by omega);refine ⟨cC (eh _ _) trivial,bQ (eh _ _) ⟨(m.drop (i+1)).reverse.map Tm.enc,(m[i]'(by omega)).enc,by rw [aq,h6,ff];rfl,?_⟩⟩;rw [iL ep];refine iK.of ⟨?_,by omega,rfl⟩;rw [lw,hk (by omega),qq,ff];rfl
    ·rintro ds ak ⟨rfl,_,rfl⟩ p aj
     have ll:n2 (jA Tm.enc (Tm.aL (.look am aI cP:Tm)))=cj:=by rw [b3];exact fe
     rw [show (⟨jA Tm.enc (Tm.aL (.look am aI cP:Tm)),_⟩:hG).items.length=cj from ll] at aj ⊢
     have g5:a≠p:=by rintro rfl;rw [eh] at aj;cases aj
     refine ⟨cC (by rw [bv g5];exact eh _ _) trivial,cC aG ⟨fU (by simp only [b3,iP,eb,hu];omega),bQ (by rw [bv g5];exact eh _ _) ⟨dm (by simp only [b3,eK,iQ];omega),?_⟩⟩⟩;refine ⟨_,up (up G a (.lst ((m.drop cj).reverse.map Tm.enc++[.tup (.str (Tm.word (.look am aI cP:Tm))::(m.take cj).map Tm.enc)]))) b (.lst (aZ.reverse.map ed)),.refl _,?_,fo aZ,by omega,aZ,Tm.k9 (.look am aI cP:Tm) (m.take cj)::m.drop cj,_,_,_,_,rfl,?_,de,jx,?_,rfl⟩
     ·rw [<- iL (x:=.lst ((m.drop cj).reverse.map Tm.enc)) ep];exact Sub.put (Sub.new (Sub.refl _) aj)
     ·congr 2;rw [h6,ff,eC,l0,Tm.pV (t:=(.look am aI cP:Tm)) rfl (by rw [iP,fe];omega)]
     ·simp only [eb,iQ];omega
   | false=>
    refine ⟨nofun,λ _=>?_⟩;have tE:=Tm.rP (t:=(.look am aI cP:Tm)) rfl;simp only [f5,jc,if_false] at eQ;refine ⟨cC aG trivial,bQ aG ⟨dm (by simp only [b3,eK];omega),?_⟩⟩;rw [dh];refine ⟨(.look am aI cP:Tm),w,rfl,cC aG trivial,(.look am aI cP:Tm),rfl,?_⟩;refine jq (Tm.aL (.look am aI cP:Tm)) Tm.enc (λ x=>ed (x,Tm.cq (.look am aI cP:Tm) w,false)) rfl (dm (by omega)) trivial (λ x _ R dk=>dk) (λ p aj=>?_)
    have np:b≠p:=by rintro rfl;rw [aG] at aj;cases aj
    refine bQ (by rw [bv np];exact aG) (bQ aG ⟨fU (by simp only [b3,eK,hN,eb,hu];omega),?_⟩)
    have tF:fo ((Tm.aL (.look am aI cP:Tm) |>.map λ x=>((x,Tm.cq (.look am aI cP:Tm) w,false):Ent)).reverse++((.look am aI cP:Tm),w,true)::aZ)+1=2 * Tm.aR (.look am aI cP:Tm)+fo aZ:=by
     rw [<- c_,pX,c_,gB,nN];simp only [f5,if_true];omega
    refine ⟨_,up (up G a (.lst (m.reverse.map Tm.enc))) b (.lst (aZ.reverse.map ed++[ed ((.look am aI cP:Tm),w,true)]++(Tm.aL (.look am aI cP:Tm)).map λ x=>ed (x,Tm.cq (.look am aI cP:Tm) w,false))),.refl _,Sub.put (Sub.trans (Sub.new (Sub.refl _) (by rw [bv ep];exact hi)) (Sub.new (Sub.refl _) aj)),_,?_,(Tm.aL (.look am aI cP:Tm) |>.map λ x=>((x,Tm.cq (.look am aI cP:Tm) w,false):Ent)).reverse++((.look am aI cP:Tm),w,true)::aZ,m,_,_,_,_,rfl,?_,?_,?_,?_,rfl⟩
    ·simp only [f5,jc,if_false];omega
    ·congr 2;simp [h5,Function.comp_def]
    ·rw [rO (t:=(.look am aI cP:Tm)) rfl];exact de
    ·intro z hz gv y aQ;rcases kH.mp hz with hz | hz
     ·obtain ⟨x,aq,rfl⟩:=h4.mp (kL.mp hz);exact p3 (.inl rfl) y (Tm.rM (t:=(.look am aI cP:Tm)) rfl aq aQ)
     ·rcases ea.mp hz with rfl | hz
      ·rcases gv with z | z<;>cases z
      ·exact jx z hz gv y aQ
    ·omega
 ·have e:st=[]:=by
   cases st with
   | nil=>rfl
   | cons _ _=>simp at c
  subst e;have aW:m=[t.d_ φ 0]:=gb.inj de;subst aW
  have eh:∀(o:ek)(ds:List D),up (up G a (.lst ds)) b o a=some (.lst ds):=λ o ds=>by rw [bv (Ne.symm ep)];exact aG
  refine ⟨cC (eh _ _) trivial,bQ (eh _ _) ⟨[],(t.d_ φ 0).enc,rfl,?_⟩⟩;rw [iL ep];exact ⟨G,Sub.trans (Sub.new (Sub.refl _) au) (Sub.new (Sub.refl _) (by rw [bv ep];exact hi)),q⟩
abbrev Cc:bE:=top 29
theorem Cd:d0 ["_law_found", "_law_due", "_law_one", "_law_other"] ["_law_found", "_law_due"] (cp Cc):=⟨rfl,rfl,rfl,by decide +kernel,rfl,by decide +kernel,by decide +kernel⟩
theorem TU:cO P w K mg base cQ 1 f fd ["_law_found", "_law_due"] (aT K (te 0)):=nL λ ds G ax h=>by
 obtain ⟨_,_,_,h,_⟩:=h;omega
theorem TV{n:Nat}(B:i9 mg)(g_same:Got P w K mg base (n+1) "_law_same" ["_law_found", "_law_due"] (aT K (te n)))(F:dL K "_law_same" "_law_same" Cc f fd):cO P w K mg base cQ (n+2) f fd ["_law_found", "_law_due"] (aT K (te (n+1))):=by
 refine eA (k:=n+1) F Cd (λ ds G ax h=>?_) (λ bP A outer s H E ap ds G ax h=>?_)
 ·obtain ⟨_,rfl,_⟩:=h;rfl
 obtain ⟨d,rfl,aj,hd,q⟩:=h
 refine ⟨_,(a5 (cI (iG (iJ rE rfl B.isinstance qs (ah (ae 1) (ah (ro rfl B.tuple qt) aD)))) (a5 (cI (gL.at (jn (u_ (iG (iJ rE rfl B.isinstance qs (ah (ae 0) (ah (ro rfl B.tuple qt) aD))))) (lJ (b5 (oJ (dj ap)) (iJ nG rfl B.len m5 (ah (ae 0) aD)) (iJ nG rfl B.len m5 (ah (ae 1) aD)) (bW _))))) (bw (b9 jN)) c6)
  (a5 (A2 PassesOwn.never rfl (RG rfl B.zip (ah (ae 0) (ah (ae 1) aD))) (vd (n:=2) rfl (nF (hW (k:=2) Cd.bD rfl (Or.inl rfl)) (nF (hW (k:=3) Cd.bD rfl (Or.inl rfl)) vb))) (bw (cI (u_ (iG (cg g_same ap (by omega) rfl (ah (ae 2) (ah (ae 3) aD))))) (bw (b9 jN)) c6)))
  (bw (b9 jN)))) c6)
  (a5 (cI (iG (iJ rE rfl B.isinstance qs (ah (ae 1) (ah (ro rfl B.str PyProof.Rows.boot_str) aD)))) (bw (b9 (u8 (iJ rE rfl B.isinstance qs (ah (ae 0) (ah (ro rfl B.str PyProof.Rows.boot_str) aD))) (yd (k4 (d3 (dj ap)) (ae 0) (ae 1) (bW _)))))) c6)
  (bw (b9 (u8 (iJ rE rfl B.isinstance qs (ah (ae 0) (ah (ro rfl B.int su) aD))) (u8 (GJ (iJ rE rfl B.isinstance qs (ah (ae 0) (ah (ro rfl B.bool PyProof.Rows.boot_bool) aD)))) (yd (k4 (d3 (dj ap)) (ae 0) (ae 1) (bW _))))))))),?_⟩
 cases d with
 | int i=>exact ⟨false,rfl,nofun,λ _=>⟨false,rfl,nofun,λ _=>⟨true,rfl,λ _=>⟨false,rfl,λ _=>bp.of (by simpa using q),nofun⟩,nofun⟩⟩⟩
 | str x=>exact ⟨false,rfl,nofun,λ _=>⟨true,rfl,λ _=>⟨true,rfl,λ _=>bp.of (by simpa using q),nofun⟩,nofun⟩⟩
 | tup ds=>
  simp only [D.plain,g7,decide_eq_true_eq] at aj;simp only [D.bH] at hd;refine ⟨true,rfl,λ _=>⟨true,rfl,nofun,λ _=>⟨λ c=>absurd c (by simp),λ _=>⟨b7 _,?_⟩⟩⟩,nofun⟩;refine ⟨λ i ρ ak=>∃ c5 ln,ρ=[some (.tup ds),some (.tup ds),c5,ln]/\ak=G,⟨_,_,rfl,rfl⟩,λ _ _ _ _ _=>trivial,?_,?_⟩
  ·rintro i e ρ ak he ⟨c5,ln,rfl,rfl⟩;have wd:((ds.zip ds).map λ z=>D.tup [z.1,z.2])[i]?=some e:=he;rw [Hm,gT] at wd
   cases az:ds[i]? with
   | none=>rw [az] at wd;cases wd
   | some x=>
    rw [az] at wd;cases wd;have aq:=kJ az;have af:=Hl aq;exact ⟨x,rfl,Hk aj.2 aq,by omega,nofun,λ _=>ip.of ⟨_,_,rfl,rfl⟩⟩
  ·rintro ρ ak ⟨c5,ln,rfl,rfl⟩;exact bp.of q
 | _=>simp [D.plain] at aj
abbrev Ce:bE:=(hY (top 7)).getD 0 (.Pass ⟨0,0,0,0⟩)
theorem TW:d0 ["self", "program", "slips"] ["self", "program", "slips"] (cp Ce):=⟨rfl,rfl,rfl,by decide +kernel,rfl,by decide +kernel,by decide +kernel⟩
theorem TX{bg:Addr}(B:i9 mg)(db:dI K bg)(gR:cW K bg "part")(mM:cW K bg "row")(lV:cW K bg "told")(F:dL K "__init__" "Slip.__init__" Ce f fd):cO P w K mg base cQ 1 f fd ["self", "program", "slips"] (aT K (vT bg)):=by
 refine eA (k:=0) F TW (λ ds G ax h=>?_) (λ bP A outer s H E ap ds G ax h=>?_)
 ·obtain ⟨_,_,_,_,rfl,_⟩:=h;rfl
 obtain ⟨a,t,rs,d,rfl,au,hd,q⟩:=h
 refine ⟨_,(a5 (jV db gR (ae 0) (ae 1))
  (a5 (jV db mM (ae 0) (oB ym rfl B.tuple qt (ah (ae 2) aD)))
  (bw (jV db lV (ae 0) il)))),?_⟩
 have cf:(mH "part" t.enc []).length < 1000:=wW (yI _ _ _) (by decide);have cK:(mH "row" (.tup (rs.map D.ref)) (mH "part" t.enc [])).length < 1000:=wW (yI _ _ _) (wW (Nat.succ_le_succ (yI _ _ _)) (by decide));refine bl au ⟨by decide,?_⟩;rcases hd with rfl | ⟨l,rfl,aP,bc⟩
 ·refine bl aG ⟨cf,bl aG ⟨cK,bp.of ?_⟩⟩;rw [dh,dh];exact q
 ·have TY:l≠a:=by rintro rfl;rw [au] at aP;cases aP
  refine cC (by rw [bv TY];exact aP) ?_;refine bl aG ⟨cf,bl aG ⟨cK,bp.of ?_⟩⟩;rw [dh,dh];exact q
abbrev Cf:bE:=(hY (top 7)).getD 2 (.Pass ⟨0,0,0,0⟩)
theorem I_:d0 ["self", "used"] ["self"] (cp Cf):=⟨rfl,rfl,rfl,by decide +kernel,rfl,by decide +kernel,by decide +kernel⟩
theorem TZ{bg:Addr}(B:i9 mg)(db:dI K bg)(gR:cW K bg "part")(mM:cW K bg "row")(lV:cW K bg "told")(Cg:Got P w K mg base 2 "names_in" ["program"] (aT K Br))(F:dL K "unread" "Slip.unread" Cf f fd):cO P w K mg base cQ 3 f fd ["self"] (aT K (BH bg)):=by
 refine eA (k:=2) F I_ (λ ds G ax h=>?_) (λ bP A outer s H E ap ds G ax h=>?_)
 ·obtain ⟨_,_,_,_,_,_,rfl,_⟩:=h;rfl
 obtain ⟨S,rk,told,hp,a,x,rfl,ok,au,rfl,q⟩:=h
 refine ⟨_,(a5 (cI (b5 GO (dQ db lV (ae 0)) il (bW _)) (bw (b9 (lH aD))) c6)
  (a5 (G9 (k:=1) rfl I_.bD rfl (Or.inl rfl) (fD.of (N':=["number", "ways", "self"]) (nt:=2) (cap:=[0]) rfl (by kernel_rfl)) (Ri (G4 A5 (Rh A5 G3) (nJ (k:=0) (by decide)) (G4 A5 G3 (nJ (k:=1) (by decide)) Rg))) (rx (cg Cg ap (by omega) rfl (ah (dQ db gR (ae 0)) aD))) (λ _ _ _ _=>(vd (n:=2) rfl (nF (hW (k:=0) (show List.Nodup (["number", "ways", "self"]:List Str) by decide +kernel) rfl (Or.inl rfl)) (nF (hW (k:=1) (show List.Nodup (["number", "ways", "self"]:List Str) by decide +kernel) rfl (Or.inl rfl)) vb)))) (λ _ _ _ _=>(b5 vf (ae 0) (ae 1) (bW _))) (λ _ _ _ _=>(bI bJ (dQ db mM (ae 2)) (b4 eI (ae 0) (ae 1)) (λ _ _=>rfl))))
  (bw (b9 (G7 rfl (fD.of (N':=["slip"]) (nt:=1) (cap:=[]) rfl (by kernel_rfl)) (nJ (k:=0) (by decide)) (rx (ae 1)) (λ _ _ _ _=>(hW (k:=0) (show List.Nodup (["slip"]:List Str) by decide +kernel) rfl (Or.inl rfl))) (λ _ _ _ _=>(b5 pP (dQ db lV (ae 0)) il (bW _))) (λ _ _ _ _=>(ae 0))))))),?_⟩
 refine bl (i2 au) ?_
 have Ch:hh S told a=if told a then [] else rU told x:=by unfold hh;rw [au]
 rw [Ch] at q
 cases bt:told a with
 | true=>
  rw [bt] at q;rw [show x.c9.enc=.tup (.str x.c9.word::x.c9.args) from x.c9.pT];exact ⟨λ _ l aP=>bp.of (q l aP),λ c=>Bn c⟩
 | false=>
  rw [bt] at q;refine ⟨λ c=>Bm c,λ _=>?_⟩;have eQ:=ok.aR a x au;refine bl (i2 au) ⟨x.t,rfl,by omega,λ cf af=>GW aG ?_⟩
  have na:a≠cf:=by rintro rfl;rw [i2 au] at af;cases af
  have nl:=x.t.Bo 0;refine lN (x.t.dn 0) jt (λ z=>if z.2<=z.1 then (x.rs[z.1 - z.2]?).map D.ref else none) ?_ ?_ ?_ ?_ ?_
  ·rfl
  ·exact dm (by omega)
  ·exact aG
  ·intro z hz R lT dk gW;refine ⟨λ c=>?_,λ c=>?_⟩
   ·have c':(z.2:Int)<=z.1:=by simpa using c
    have lt:=ok.nm a x au z hz (by omega);have mN:x.rs[z.1 - z.2]?=some x.rs[z.1 - z.2]:=hk lt;refine bl (by rw [bv na];exact i2 au) ?_;refine (show ru (.tup (x.rs.map D.ref)) (.int ((z.1:Int) - z.2)) _ _ from iH (d:=.ref x.rs[z.1 - z.2]) ?_ (dk _ ?_))
    ·have y:=nk (xs:=x.rs.map D.ref) (j:=z.1 - z.2) (v:=.ref x.rs[z.1 - z.2]) (by rw [gT,mN];rfl)
     rwa [show ((z.1 - z.2:Nat):Int)=(z.1:Int) - z.2 by omega] at y
    ·rw [if_pos (by omega),mN];rfl
   ·have c':¬ (z.2:Int)<=z.1:=by simpa using c
    exact gW (by rw [if_neg (by omega)])
  intro p aj;rw [SR];obtain ⟨_,p5,Ja⟩:=rG (o:=.lst []) aj
  have Zm:a≠p:=by rintro rfl;rw [i2 au] at p5;cases p5
  refine GW aG ?_;have Av:=x.HJ;refine lN x.used D.ref (λ r=>if told r then none else some (D.ref r)) ?_ ?_ ?_ ?_ ?_
  ·rfl
  ·exact dm (by omega)
  ·exact aG
  ·intro r ap R lT dk gW;obtain ⟨⟨y,aQ⟩,_⟩:=ok.sub a x au r (er.BE ap)
   have T0:r≠cf:=by rintro rfl;rw [i2 aQ] at af;cases af
   have T1:r≠p:=by rintro rfl;rw [i2 aQ] at p5;cases p5
   refine bl (by rw [bv T1,bv T0];exact i2 aQ) ?_
   cases aJ:told r with
   | true=>
    rw [show y.c9.enc=.tup (.str y.c9.word::y.c9.args) from y.c9.pT];exact ⟨λ c=>Bm c,λ _=>gW (by rw [aJ];rfl)⟩
   | false=>exact ⟨λ _=>dk _ (by rw [aJ];rfl),λ c=>Bn c⟩
  intro cc Af;rw [SS];obtain ⟨_,T2,_⟩:=rG (o:=.lst []) Af;obtain ⟨_,T3,_⟩:=rG (o:=.lst []) T2;exact ⟨up (fb bg S told hp) cc (.lst ((rU told x).map D.ref)),Sub.put (Sub.trans (Sub.new (Sub.refl _) af) (Sub.new (Sub.refl _) aj)),q cc T3⟩
abbrev y3:bE:=(hY (top 7)).getD 3 (.Pass ⟨0,0,0,0⟩)
theorem Ci:d0 ["self", "row", "filled"] ["self"] (cp y3):=⟨rfl,rfl,rfl,by decide +kernel,rfl,by decide +kernel,by decide +kernel⟩
abbrev p6:bE:=(hC y3).getD 1 (.Pass ⟨0,0,0,0⟩)
theorem T4:xT ["number", "ways", "row"] ["number", "ways"] ["row"] (cp p6):=⟨rfl,rfl,rfl,by decide +kernel,rfl,rfl,by decide +kernel,by decide +kernel,by decide +kernel,by decide +kernel,by decide +kernel⟩
theorem T5{bg:Addr}(db:dI K bg)(lV:cW K bg "told"){S:dN}{rs:List Addr}{L:List (Addr × ek)}(gW:∀ r∈rs,∃ y,S r=some y)(C:Nat->Nat->Prop)(mm:∀ n w:Nat,C n w->w<=n->∃ r y,rs[n - w]?=some r/\S r=some y/\(r,ky bg y true)∈L):yB P w K mg base 1 "filled" "Slip.read.<locals>.filled" p6 ["row"] [.tup (rs.map D.ref)] ["number", "ways"] (Hx (ho S rs) C L):=by
 refine R8 (k:=0) T4 (λ ds G ax h=>?_) (λ _ _ _ _ _ us aP=>match us,aP with | [_,_],_=>rfl) (λ f bP cl A outer s H ap ds G ax h=>?_)
 ·obtain ⟨_,_,rfl,_⟩:=h;rfl
 obtain ⟨n,w,rfl,aJ,iA,q⟩:=h;refine ⟨_,(bw (b9 (u9 (b5 vf (ae 0) (ae 1) (bW _)) (dQ db lV (bI bJ (ae 2) (b4 eI (ae 0) (ae 1)) (λ _ _=>rfl))) (cE (ah bN (ah (ae 0) aD)))))),?_⟩;refine ⟨λ c=>?_,λ c=>⟨Sub.refl _,?_⟩⟩
 ·have c':(w:Int)<=n:=by simpa using c
  obtain ⟨r,y,af,ao,aF⟩:=mm n w aJ (by omega)
  show ru (.tup (rs.map D.ref)) (.int ((n:Int) - w)) (kv G) (λ x av=>match x with
   | .ref a=>nO av a bg λ fs=>rQ fs "told" λ d=>Sub (kv G) av/\ax d G
   | _=>False)
  refine iH (d:=.ref r) ?_ ?_
  ·have z:=nk (xs:=rs.map D.ref) (j:=n - w) (v:=.ref r) (by rw [gT,af];rfl)
   rwa [show ((n - w:Nat):Int)=(n:Int) - w by omega] at z
  ·refine bl (yG.mpr ⟨iA _ aF,rfl⟩) ⟨Sub.refl _,?_⟩
   have e:ho S rs n w=y.c9:=by unfold ho nP;rw [if_pos (by omega),af];simp only [ao]
   rw [e] at q;exact q
 ·have c':¬ (w:Int)<=n:=by simpa using c
  have e:ho S rs n w=.name n:=by unfold ho;rw [if_neg (by omega)]
  rw [e] at q;exact q
theorem T6{bg c Cj:Addr}(mm:PySem.W.CodeHd base c Cj)(hS:nB mg base)(db:dI K bg)(gR:cW K bg "part")(mM:cW K bg "row")(lV:cW K bg "told")(Ck:Got P w K mg base 3 "with_names" ["program", "change"] (aT K (Bs P w K mg base 1)))(F:vE K "read" "Slip.read" y3 f fd c):cO P w K mg base cQ 4 f fd ["self"] (aT K (BI bg Cj (vF p6))):=by
 refine R9 (k:=3) F Ci (λ ds G ax h=>?_) (λ A outer s H E ap ds G ax h=>?_)
 ·obtain ⟨_,_,_,_,_,_,rfl,_⟩:=h;rfl
 obtain ⟨S,rk,told,hp,a,x,rfl,ok,au,rfl,hm,Cl,dy,q⟩:=h
 refine ⟨_,(a5 (cL (k:=1) Ci.bD rfl (Or.inr rfl) (dQ db mM (ae 0)))
  (a5 (RS (i:=2) (T:=Cj) (fr:=["row"]) Ci.bD rfl (Or.inl rfl) rfl mm hS (by kernel_rfl) rfl rfl rfl)
  (bw (cI (b5 pP (dQ db lV (ae 0)) il (bW _)) (bw (jV db lV (ae 0) (R1 (name:="filled") (qual:="Slip.read.<locals>.filled") (st:=p6) (fr:=["row"]) (ix:=[1]) Ck ap (by omega) rfl (by decide +kernel) (by kernel_rfl) (ah (dQ db gR (ae 0)) (ah (ae 2) aD))))) c6)))),?_⟩
 refine bl (i2 au) ⟨by rw [pZ Cl];exact dy,λ nV hf=>?_⟩;obtain ⟨f1,f2⟩:=BG hf
 have wa:a≠nV:=by rintro rfl;rw [au] at f1;cases f1
 refine bl (by rw [bv wa];exact i2 au) ?_
 cases bt:told a with
 | true=>
  rw [show x.c9.enc=.tup (.str x.c9.word::x.c9.args) from x.c9.pT];refine ⟨λ c=>Bm c,λ _=>⟨fb bg S told hp,Sub.new (Sub.refl _) hf,?_⟩⟩;rw [SP bt] at q;exact q
 | false=>
  have Ch:rU told x=[]:=by unfold hh at hm;rw [au] at hm;simpa [bt] using hm
  have eL:∀ r∈x.used,told r=true:=λ r ap=>by
   have z:=(List.filter_eq_nil_iff.mp Ch) r ap;simpa using z
  have eQ:=ok.aR a x au;refine ⟨λ _=>?_,λ c=>Bn c⟩;refine bl (by rw [bv wa];exact i2 au) ?_;refine ⟨nV,[.tup (x.rs.map D.ref)],aG,rfl,λ i j h=>?_,x.t,nV,_,_,_,_,_,_,ho S x.rs,λ n w=>(n,w)∈x.t.dn 0,x.used.map (λ r=>(r,ky bg ((S r).getD lP) true)),rfl,aG,T5 db lV (λ r ap=>(ok.sub a x au r ap).1) _ (λ n w bc hw=>?_),λ y aQ=>?_,by omega,λ z hz=>hz,rfl,?_⟩
  ·match i,j,h with
   | 0,_,rfl=>exact ⟨_,rfl,rfl⟩
  ·have lt:=ok.nm a x au (n,w) bc hw;have mN:x.rs[n - w]?=some x.rs[n - w]:=hk lt;obtain ⟨⟨y,aQ⟩,_⟩:=ok.sub a x au _ (kJ mN);exact ⟨_,y,mN,aQ,h4.mpr ⟨_,er.SQ bc hw mN,by rw [aQ];rfl⟩⟩
  ·obtain ⟨r,ap,rfl⟩:=h4.mp aQ;obtain ⟨⟨z,hz⟩,_⟩:=ok.sub a x au r (er.BE ap)
   have Jb:r≠nV:=by rintro rfl;rw [hz] at f1;cases f1
   rw [bv Jb,bv Jb,i2 hz,eL r ap,hz];rfl
  ·refine bl (by rw [bv wa];exact i2 au) ⟨?_,?_⟩
   ·exact (by decide:3 < 1000)
   refine ⟨up (fb bg S told hp) a (ky bg x true),?_,by rw [vEq au];exact q⟩
   have e:ky bg x true=.ins bg (mH "told" (x.t.d_ (ho S x.rs) 0).enc [("part", x.t.enc),("row", .tup (x.rs.map D.ref)),("told", if told a then x.c9.enc else .br)]):=by
    rw [<- ok.c9 a x au];rfl
   rw [e];exact Sub.put (Sub.new (Sub.refl _) hf)
abbrev Cm:bE:=(hY (top 7)).getD 1 (.Pass ⟨0,0,0,0⟩)
theorem y4:d0 ["self", "pending", "slip", "missing"] ["self"] (cp Cm):=⟨rfl,rfl,rfl,by decide +kernel,rfl,by decide +kernel,by decide +kernel⟩
theorem T7{bg T:Addr}{dF:Pos}(B:i9 mg)(db:dI K bg)(lV:cW K bg "told")(Cn:ef P w K mg base 3 bg "unread" ["self"] (aT K (BH bg)))(Co:ef P w K mg base 4 bg "read" ["self"] (aT K (BI bg T dF)))(F:dL K "back" "Slip.back" Cm f fd):cO P w K mg base cQ 5 f fd ["self"] (aT K (BJ bg T dF)):=by
 refine eA (k:=4) F y4 (λ ds G ax h=>?_) (λ bP A outer s H E ap ds G ax h=>?_)
 ·obtain ⟨_,_,_,_,_,_,rfl,_⟩:=h;rfl
 obtain ⟨S,rk,told,hp,a,x,rfl,ok,au,rfl,Cl,dy,q⟩:=h
 refine ⟨_,(a5 (cL (k:=1) y4.bD rfl (Or.inl rfl) (lH (ah (ae 0) aD)))
  (a5 (vq PassesOwn.never (iG (ae 1)) (a5 (cL (k:=2) y4.bD rfl (Or.inl rfl) (bI bJ (ae 1) (u6 vg ay) (λ _ _=>rfl)))
  (a5 (cL (k:=3) y4.bD rfl (Or.inl rfl) (gO db Cn ap (by omega) (ae 2)))
  (bw (cI (b5 (d3 (dj ap)) (iJ nG rfl B.len m5 (ah (ae 3) aD)) ay (bW _)) (a5 (jo (gO db Co ap (by omega) (ae 2)))
  (bw (jo (s8 PySem.F.plainAttrs_list PySem.F.slot_list_pop PySem.F.type_list_pop s9 (ae 1))))) (bw (jo (mF PySem.F.plainAttrs_list PySem.F.slot_list_extend PySem.F.type_list_extend Bc (ae 1) (ah (ae 3) aD)))))))))
  (bw (b9 (dQ db lV (ae 0)))))),?_⟩
 intro l aP;obtain ⟨r0,we⟩:=BG aP;obtain ⟨y5,_,eW,T8⟩:=HN ok (rk a+1) told a (by omega) ⟨x,au⟩;obtain ⟨k,aC⟩:=T8 [] 0 y5 .nil
 have k3:T≠l:=by rintro rfl;rw [dy] at we;cases we
 refine ⟨λ m ρ ak=>∃(j2:Addr->Bool)(st:List Addr)(ln v9:Option D),ρ=[some (.ref a),some (.ref l),ln,v9]/\ak=fb bg S j2 (up hp l (.lst (st.reverse.map D.ref)))/\Ends S m j2 st y5/\(∀ b∈st,∃ y,S b=some y)/\yN rk st,⟨k,told,[a],_,_,rfl,by rw [vS r0];rfl,aC,by intro b ag;simp at ag;subst ag;exact ⟨x,au⟩,⟨by have:=ok.top a x au;simp;omega,trivial⟩⟩,?_⟩;rintro m ρ ak ⟨j2,st,ln,v9,rfl,rfl,he,hy,q8⟩
 have Jc:∀(t:Addr->Bool)(o:ek),fb bg S t (up hp l o) l=some o:=λ t o=>by rw [pZ r0];exact aG
 refine cC (Jc _ _) ⟨λ c=>?_,λ c=>?_⟩
 ·cases st with
  | nil=>simp at c
  | cons b st=>
   obtain ⟨y,aQ⟩:=hy b (f7 ..);refine cC (Jc _ _) (u5 (d:=.ref b) (by rw [h6,ff];exact HQ _ _) ?_);refine ⟨bl (i2 aQ) rfl,S,rk,j2,_,b,y,rfl,ok,aQ,rfl,λ p aj=>?_⟩;obtain ⟨Jd,p5⟩:=BG aj;obtain ⟨_,Je,Ja⟩:=rG (o:=.lst []) p5
   have T9:T≠p:=by rintro rfl;rw [dy] at Je;cases Je
   rw [vS Jd]
   have Jf:∀(t:Addr->Bool)(o u:ek),fb bg S t (up (up hp l o) p u) p=some u:=λ t o u=>by rw [pZ Jd];exact aG
   have y6:∀(t:Addr->Bool)(o u:ek),fb bg S t (up (up hp l o) p u) l=some o:=λ t o u=>by rw [pZ r0,bv (Ne.symm Ja)];exact aG
   refine cC (Jf _ _ _) ⟨λ c=>?_,λ c=>?_⟩
   ·have hm:hh S j2 b=[]:=by simpa using c
    cases he with
    | push h=>exact absurd hm h
    | pop _ he=>
     refine ⟨bl (i2 aQ) rfl,S,rk,j2,_,b,y,rfl,ok,aQ,rfl,hm,Cl,by rw [bv T9,bv k3];exact dy,?_⟩;refine ⟨cC (y6 _ _ _) trivial,bQ (y6 _ _ _) ⟨st.reverse.map D.ref,.ref b,by simp,?_⟩⟩;rw [vS r0];refine ⟨_,fb bg S (kx j2 b) (up hp l (.lst (st.reverse.map D.ref))),.refl _,?_,_,n5 _,kx j2 b,st,_,_,rfl,rfl,he,λ c aJ=>hy c (h3 _ aJ),q8.2⟩;exact HR (Sub.put (Sub.trans (Sub.new (Sub.refl _) we) (Sub.new (Sub.refl _) p5)))
   ·have hm:hh S j2 b≠[]:=by simpa using c
    cases he with
    | pop h=>exact absurd h hm
    | push _ he=>
     have T_:=SO (told:=j2) (a:=b) ok;have af:=q8.1;refine ⟨cC (y6 _ _ _) trivial,bQ (y6 _ _ _) (bQ (Jf _ _ _) ⟨fU (by simp only [b3,eK];omega),?_⟩)⟩;rw [vS r0];refine ⟨_,fb bg S j2 (up hp l (.lst (((hh S j2 b).reverse++b::st).reverse.map D.ref))),.refl _,?_,_,n5 _,j2,_,_,_,rfl,rfl,he,λ c aJ=>?_,?_⟩
     ·rw [show ((hh S j2 b).reverse++b::st).reverse.map D.ref=(b::st).reverse.map D.ref++(hh S j2 b).map D.ref by simp];exact HR (Sub.put (Sub.trans (Sub.new (Sub.refl _) we) (Sub.new (Sub.refl _) p5)))
     ·rcases kH.mp aJ with aJ | aJ
      ·exact (BF ok (kL.mp aJ)).1
      ·exact hy c aJ
     ·exact HP q8 _ (by rw [eK];exact T_) λ c aJ=>(BF ok (kL.mp aJ)).2
 ·cases st with
  | cons _ _=>simp at c
  | nil=>
   cases he;refine bl (i2 au) ?_;rw [eW];refine ⟨fb bg S y5 hp,?_,q y5⟩;rw [<- vS r0];exact Sub.new (Sub.refl _) (by rw [pZ r0];exact we)
abbrev Cp:bE:=(hY (top 14)).getD 3 (.Pass ⟨0,0,0,0⟩)
theorem Ua:d0 ["self"] ["self"] (cp Cp):=⟨rfl,rfl,rfl,by decide +kernel,rfl,by decide +kernel,by decide +kernel⟩
theorem Ub{bg Machine:Addr}(bR:dI K Machine)(kC:cW K Machine "stack")(F:dL K "top" "Machine.top" Cp f fd):cO P w K mg base cQ 1 f fd ["self"] (aT K (yO bg Machine)):=by
 refine eA (k:=0) F Ua (λ ds G ax h=>?_) (λ bP A outer s H E ap ds G ax h=>?_)
 ·obtain ⟨_,_,_,rfl,_⟩:=h;rfl
 obtain ⟨a,lm,c,rfl,M,q⟩:=h;refine ⟨_,(bw (b9 (u9 (iG (dQ bR kC (ae 0))) (bI bJ (bI bJ (dQ bR kC (ae 0)) (u6 vg ay) (λ _ _=>rfl)) ay (λ _ _=>rfl)) il))),?_⟩;refine bl M.im (dV rfl (cC M.g4 ?_))
 cases e:c.m.stack with
 | nil=>
  rw [e] at q;exact ⟨λ h=>(by simp at h),λ _=>bp.of q⟩
 | cons k st=>
  rw [e] at q;refine ⟨λ _=>bl M.im (dV rfl ?_),λ h=>(by simp at h)⟩;have M2:=M.g4;rw [e] at M2;refine cC M2 (u5 (d:=k.enc) (by rw [h6,ff];exact HQ _ _) ?_);cases k<;>exact bp.of q
abbrev Cq:bE:=(hY (top 14)).getD 12 (.Pass ⟨0,0,0,0⟩)
theorem Uc:d0 ["self"] ["self"] (cp Cq):=⟨rfl,rfl,rfl,by decide +kernel,rfl,by decide +kernel,by decide +kernel⟩
theorem Ud{bg Machine:Addr}(bR:dI K Machine)(wf:cW K Machine "steps_done")(F:dL K "steps" "Machine.steps" Cq f fd):cO P w K mg base cQ 1 f fd ["self"] (aT K (lf bg Machine λ m=>.int m.steps)):=by
 refine eA (k:=0) F Uc (λ ds G ax h=>?_) (λ bP A outer s H E ap ds G ax h=>?_)
 ·obtain ⟨_,_,_,rfl,_⟩:=h;rfl
 obtain ⟨a,lm,c,rfl,M,q⟩:=h;refine ⟨_,(bw (b9 (dQ bR wf (ae 0)))),?_⟩;exact bl M.im (dV rfl (bp.of q))
abbrev Cr:bE:=(hY (top 14)).getD 13 (.Pass ⟨0,0,0,0⟩)
theorem Ue:d0 ["self"] ["self"] (cp Cr):=⟨rfl,rfl,rfl,by decide +kernel,rfl,by decide +kernel,by decide +kernel⟩
theorem Uf{bg Machine:Addr}(bR:dI K Machine)(wg:cW K Machine "rules_done")(F:dL K "rules" "Machine.rules" Cr f fd):cO P w K mg base cQ 1 f fd ["self"] (aT K (lf bg Machine λ m=>.int m.rules)):=by
 refine eA (k:=0) F Ue (λ ds G ax h=>?_) (λ bP A outer s H E ap ds G ax h=>?_)
 ·obtain ⟨_,_,_,rfl,_⟩:=h;rfl
 obtain ⟨a,lm,c,rfl,M,q⟩:=h;refine ⟨_,(bw (b9 (dQ bR wg (ae 0)))),?_⟩;exact bl M.im (dV rfl (bp.of q))
abbrev Cs:bE:=(hY (top 14)).getD 14 (.Pass ⟨0,0,0,0⟩)
theorem Ug:d0 ["self"] ["self"] (cp Cs):=⟨rfl,rfl,rfl,by decide +kernel,rfl,by decide +kernel,by decide +kernel⟩
theorem Uh{bg Machine:Addr}(bR:dI K Machine)(wh:cW K Machine "slips_made")(F:dL K "slips" "Machine.slips" Cs f fd):cO P w K mg base cQ 1 f fd ["self"] (aT K (lf bg Machine λ m=>.int m.slips)):=by
 refine eA (k:=0) F Ug (λ ds G ax h=>?_) (λ bP A outer s H E ap ds G ax h=>?_)
 ·obtain ⟨_,_,_,rfl,_⟩:=h;rfl
 obtain ⟨a,lm,c,rfl,M,q⟩:=h;refine ⟨_,(bw (b9 (dQ bR wh (ae 0)))),?_⟩;exact bl M.im (dV rfl (bp.of q))
abbrev Ct:bE:=(hY (top 14)).getD 15 (.Pass ⟨0,0,0,0⟩)
theorem Ui:d0 ["self"] ["self"] (cp Ct):=⟨rfl,rfl,rfl,by decide +kernel,rfl,by decide +kernel,by decide +kernel⟩
theorem Uj{bg Machine:Addr}(bR:dI K Machine)(wi:cW K Machine "looked_up")(F:dL K "look_ups" "Machine.look_ups" Ct f fd):cO P w K mg base cQ 1 f fd ["self"] (aT K (lf bg Machine λ m=>.int m.looks)):=by
 refine eA (k:=0) F Ui (λ ds G ax h=>?_) (λ bP A outer s H E ap ds G ax h=>?_)
 ·obtain ⟨_,_,_,rfl,_⟩:=h;rfl
 obtain ⟨a,lm,c,rfl,M,q⟩:=h;refine ⟨_,(bw (b9 (dQ bR wi (ae 0)))),?_⟩;exact bl M.im (dV rfl (bp.of q))
abbrev Cu:bE:=(hY (top 14)).getD 6 (.Pass ⟨0,0,0,0⟩)
theorem Uk:d0 ["self"] ["self"] (cp Cu):=⟨rfl,rfl,rfl,by decide +kernel,rfl,by decide +kernel,by decide +kernel⟩
theorem Ul{bg Machine:Addr}(db:dI K bg)(gR:cW K bg "part")(mM:cW K bg "row")(bR:dI K Machine)(gi:cW K Machine "here")(wi:cW K Machine "looked_up")(F:dL K "look_up" "Machine.look_up" Cu f fd):cO P w K mg base cQ 1 f fd ["self"] (aT K (BM bg Machine)):=by
 refine eA (k:=0) F Uk (λ ds G ax h=>?_) (λ bP A outer s H E ap ds G ax h=>?_)
 ·obtain ⟨_,_,_,_,_,_,rfl,_⟩:=h;rfl
 obtain ⟨a,lm,c,x,n,r,rfl,M,aq,bt,lQ,q⟩:=h
 refine ⟨_,(a5 (jV bR gi (ae 0) (bI bJ (dQ db mM (dQ bR gi (ae 0))) (bI bJ (dQ db gR (dQ bR gi (ae 0))) ay (λ _ _=>rfl)) (λ _ _=>rfl)))
  (bw (yK bR wi (ae 0) ay))),?_⟩
 obtain ⟨bG,ht⟩:=M.b6 _ _ aq;obtain ⟨t,rs,c9⟩:=x;cases bt;refine bl M.im (dV rfl (bl ht (dV rfl (bl M.im (dV rfl (bl ht (dV rfl ?_)))))));refine iH (d:=.int n) rfl (iH (d:=.ref r) (nk (by rw [gT,lQ];rfl)) ?_);refine bl M.im ⟨show 7 < 1000 by decide,bl aG (dV (d:=.int c.m.looks) rfl (bl aG ⟨show 7 < 1000 by decide,bp.of ?_⟩))⟩;rw [dh];exact q
abbrev Cv:bE:=(hY (top 14)).getD 8 (.Pass ⟨0,0,0,0⟩)
theorem Um:d0 ["self", "k"] ["self", "k"] (cp Cv):=⟨rfl,rfl,rfl,by decide +kernel,rfl,by decide +kernel,by decide +kernel⟩
theorem Un{bg Machine:Addr}(db:dI K bg)(gR:cW K bg "part")(mM:cW K bg "row")(bR:dI K Machine)(gi:cW K Machine "here")(mO:rR P w K mg base 1 bg "Slip" ["self", "program", "slips"] (aT K (vT bg)))(F:dL K "within" "Machine.within" Cv f fd):cO P w K mg base cQ 3 f fd ["self", "k"] (aT K (yQ bg Machine)):=by
 refine eA (k:=2) F Um (λ ds G ax h=>?_) (λ bP A outer s H E ap ds G ax h=>?_)
 ·obtain ⟨_,_,_,_,_,_,rfl,_⟩:=h;rfl
 obtain ⟨a,lm,c,x,k,u,rfl,M,aq,bx,wj,q⟩:=h;refine ⟨_,(bw (b9 (tj mO ap (by omega) rfl (ah (bI bJ (dQ db gR (dQ bR gi (ae 0))) (ae 1) (λ _ _=>rfl)) (ah (dQ db mM (dQ bR gi (ae 0))) aD))))),?_⟩;obtain ⟨bG,ht⟩:=M.b6 _ _ aq;refine bl M.im (dV rfl (bl ht (dV rfl ?_)));rw [Tm.HU wj];refine iH (d:=u.enc) (nk (j:=k+1) (by rw [wU,gT,bx];rfl)) ?_;refine bl M.im (dV rfl (bl ht (dV rfl ?_)));intro p aj;refine ⟨p,u,x.rs,_,rfl,aG,.inl rfl,rfl,bp.of ?_⟩;rw [dh];exact q p aj
abbrev Cw:bE:=(hY (top 14)).getD 4 (.Pass ⟨0,0,0,0⟩)
theorem Uo:d0 ["self"] ["self"] (cp Cw):=⟨rfl,rfl,rfl,by decide +kernel,rfl,by decide +kernel,by decide +kernel⟩
theorem Up{bg Machine Jg:Addr}(db:dI K bg)(gR:cW K bg "part")(bR:dI K Machine)(gi:cW K Machine "here")(r1:cW K Machine "paired")(Cx:mg "MEETS" = some (.ref Jg))(Cy:oM K w Jg nR)(r2:ef P w K mg base 1 Machine "top" ["self"] (aT K (yO bg Machine)))(F:dL K "meets" "Machine.meets" Cw f fd):cO P w K mg base cQ 2 f fd ["self"] (aT K (yP bg Machine)):=by
 refine eA (k:=1) F Uo (λ ds G ax h=>?_) (λ bP A outer s H E ap ds G ax h=>?_)
 ·obtain ⟨_,_,_,rfl,_⟩:=h;rfl
 obtain ⟨a,lm,c,rfl,M,q⟩:=h
 refine ⟨_,(a5 (cI (iG (dQ bR r1 (ae 0))) (bw (b9 (k4 vh (gO bR r2 ap (by omega) (ae 0)) (cE (ah bN (ah bN aD))) (by with_unfolding_all rfl)))) c6)
  (bw (b9 (k4 vh (gO bR r2 ap (by omega) (ae 0)) (Sy rfl Cx Cy (bI bJ (dQ db gR (dQ bR gi (ae 0))) ay (λ _ _=>rfl)) (cE aD)) (by with_unfolding_all rfl))))),?_⟩
 obtain ⟨x,aq⟩:=M.aB;obtain ⟨bG,ht⟩:=M.b6 _ _ aq
 have bt:c.t=x.t:=by unfold bC.t;rw [aq]
 rw [bt] at q;refine bl M.im (dV rfl ⟨λ h=>?_,λ h=>?_⟩)
 ·refine ⟨bl M.im rfl,a,lm,c,rfl,M,?_⟩;refine ⟨BT _,rfl,?_⟩;rw [Bool.false_xor,ST x.t]
  replace h:c.m.paired=true:=h
  rw [h] at q;exact bp.of q
 ·refine ⟨bl M.im rfl,a,lm,c,rfl,M,bl M.im (dV rfl (bl ht (dV rfl ?_)))⟩;refine yS ?_;obtain ⟨ds,az,aW,gm⟩:=SV x.t
  have fin:∀(R:da),R (.aO (fV c.m.paired x.t c.m.stack)) G->inD false (jv c.m.stack) ((nR x.t.word).getD (.tup [])) G R:=λ R dk=>by
   rw [az];refine ⟨BT _,aW,?_⟩
   replace h:c.m.paired=false:=h
   rw [Bool.false_xor,gm,<- h];exact dk
  exact fin _ (bp.of q)
abbrev Cz:bE:=(hY (top 14)).getD 5 (.Pass ⟨0,0,0,0⟩)
theorem Jh:d0 ["self", "word"] ["self"] (cp Cz):=⟨rfl,rfl,rfl,by decide +kernel,rfl,by decide +kernel,by decide +kernel⟩
theorem Uq{bg Machine wk:Addr}(db:dI K bg)(gR:cW K bg "part")(bR:dI K Machine)(gi:cW K Machine "here")(r1:cW K Machine "paired")(tG:mg "MARK_FOR" = some (.ref wk))(tH:oM K w wk kA)(r2:ef P w K mg base 1 Machine "top" ["self"] (aT K (yO bg Machine)))(F:dL K "enters" "Machine.enters" Cz f fd):cO P w K mg base cQ 2 f fd ["self"] (aT K (BL bg Machine)):=by
 refine eA (k:=1) F Jh (λ ds G ax h=>?_) (λ bP A outer s H E ap ds G ax h=>?_)
 ·obtain ⟨_,_,_,rfl,_⟩:=h;rfl
 obtain ⟨a,lm,c,rfl,M,q⟩:=h
 refine ⟨_,(a5 (cL (k:=1) Jh.bD rfl (Or.inl rfl) (bI bJ (dQ db gR (dQ bR gi (ae 0))) ay (λ _ _=>rfl)))
  (a5 (cI (b5 (d3 (dj ap)) (ae 1) bN (bW _)) (bw (b9 (u8 (GJ (dQ bR r1 (ae 0))) (yd (k4 vh (gO bR r2 ap (by omega) (ae 0)) (cE (ah il (ah bN (ah bN aD)))) (by with_unfolding_all rfl)))))) c6)
  (bw (b9 (k4 (SD tH) (ae 1) (AL (d:=.ref _) (v:=.ref _) rfl tG rfl (λ _=>rfl)) (by with_unfolding_all rfl)))))),?_⟩
 obtain ⟨x,aq⟩:=M.aB;obtain ⟨bG,ht⟩:=M.b6 _ _ aq
 have bt:c.t=x.t:=by unfold bC.t;rw [aq]
 rw [bt] at q;refine bl M.im (dV rfl (bl ht (dV rfl ?_)));refine yS ⟨λ h=>?_,λ h=>?_⟩
 ·obtain ⟨t1,cR,e⟩:=(HV x.t).mp h;rw [e] at q;refine bl M.im (dV rfl ⟨λ z=>?_,λ z=>?_⟩)
  ·refine ⟨bl M.im rfl,a,lm,c,rfl,M,BT _,rfl,?_⟩;rw [Bool.false_xor,SU];have fC:ax (D.aO (!c.m.paired&&p0 c.m.stack)) G:=q;rw [z,Bool.true_and] at fC;exact bp.of fC
  ·have fC:ax (D.aO (!c.m.paired&&p0 c.m.stack)) G:=q;rw [z,Bool.false_and] at fC;exact bp.of fC
 ·replace h:fT (.str x.t.word) (.str "pair")=false:=h
  have nb:∀ a b,x.t≠.pair a b:=λ a b e=>absurd ((HV x.t).mpr ⟨a,b,e⟩) (by rw [h];decide);refine ⟨rfl,?_⟩;rw [SW nb c.m.paired c.m.stack];exact bp.of q
abbrev CA:bE:=(hY (top 14)).getD 2 (.Pass ⟨0,0,0,0⟩)
theorem Ur:d0 ["self"] ["self"] (cp CA):=⟨rfl,rfl,rfl,by decide +kernel,rfl,by decide +kernel,by decide +kernel⟩
theorem Us{bg Machine:Addr}(db:dI K bg)(gR:cW K bg "part")(bR:dI K Machine)(gi:cW K Machine "here")(kC:cW K Machine "stack")(tI:ef P w K mg base 2 Machine "meets" ["self"] (aT K (yP bg Machine)))(CB:ef P w K mg base 2 Machine "enters" ["self"] (aT K (BL bg Machine)))(F:dL K "word" "Machine.word" CA f fd):cO P w K mg base cQ 3 f fd ["self"] (aT K (vW bg Machine)):=by
 refine eA (k:=2) F Ur (λ ds G ax h=>?_) (λ bP A outer s H E ap ds G ax h=>?_)
 ·obtain ⟨_,_,_,rfl,_⟩:=h;rfl
 obtain ⟨a,lm,c,rfl,M,q⟩:=h
 refine ⟨_,(a5 (cI (gL.at (jn (iG (gO bR tI ap (by omega) (ae 0))) (jn (iG (gO bR CB ap (by omega) (ae 0))) (lJ (b5 (d3 (dj ap)) (bI bJ (dQ db gR (dQ bR gi (ae 0))) ay (λ _ _=>rfl)) bN (bW _)))))) (bw (b9 bN)) c6)
  (bw (b9 (u9 (iG (dQ bR kC (ae 0))) bN bN)))),?_⟩
 obtain ⟨x,aq⟩:=M.aB;obtain ⟨bG,ht⟩:=M.b6 _ _ aq
 have bt:c.t=x.t:=by unfold bC.t;rw [aq]
 refine ⟨bl M.im rfl,a,lm,c,rfl,M,?_⟩
 have dv:kz c=if ju c.m.paired x.t c.m.stack then ("going" : Str) else if c.m.stack.isEmpty then ("answer" : Str) else ("stuck" : Str):=by unfold kz bC.iv;rw [bt]
 rw [dv] at q;unfold ju at q;have aW:(c.t)=x.t:=bt;refine ⟨λ h=>?_,λ h=>⟨bl M.im rfl,a,lm,c,rfl,M,λ ao=>?_,λ ao=>?_⟩⟩
 ·rw [aW] at h;rw [h] at q;exact aS.yes rfl (bp.of q)
 ·rw [aW] at h ao;rw [h,ao] at q;exact aS.yes rfl (bp.of q)
 ·rw [aW] at h ao;rw [h,ao] at q;refine bl M.im (dV rfl (bl ht (dV rfl (yS ⟨λ aF=>?_,λ aF=>?_⟩))))
  ·rw [show x.t.isName=true from (yT x.t).symm.trans aF] at q;exact bp.of q
  ·rw [show x.t.isName=false from (yT x.t).symm.trans aF] at q;refine bl M.im (dV rfl (cC M.g4 ?_))
   cases e:c.m.stack with
   | nil=>rw [e] at q;exact ⟨λ z=>(by simp at z),λ _=>bp.of q⟩
   | cons k st=>rw [e] at q;exact ⟨λ _=>bp.of q,λ z=>(by simp at z)⟩
abbrev CC:bE:=(hY (top 14)).getD 7 (.Pass ⟨0,0,0,0⟩)
theorem CD:d0 ["self", "part", "held"] ["self"] (cp CC):=⟨rfl,rfl,rfl,by decide +kernel,rfl,by decide +kernel,by decide +kernel⟩
theorem Ut{bg Machine wk:Addr}(B:i9 mg)(db:dI K bg)(gR:cW K bg "part")(bR:dI K Machine)(gi:cW K Machine "here")(kC:cW K Machine "stack")(wh:cW K Machine "slips_made")(tG:mg "MARK_FOR" = some (.ref wk))(tH:oM K w wk kA)(p7:ef P w K mg base 3 Machine "within" ["self", "k"] (aT K (yQ bg Machine)))(F:dL K "enter" "Machine.enter" CC f fd):cO P w K mg base cQ 4 f fd ["self"] (aT K (BN bg Machine)):=by
 refine eA (k:=3) F CD (λ ds G ax h=>?_) (λ bP A outer s H E ap ds G ax h=>?_)
 ·obtain ⟨_,_,_,_,rfl,_⟩:=h;rfl
 obtain ⟨a,lm,c,x,rfl,M,aq,Uu,mP,q⟩:=h
 refine ⟨_,(a5 (cL (k:=1) CD.bD rfl (Or.inl rfl) (dQ db gR (dQ bR gi (ae 0))))
  (a5 (G8 (k:=2) rfl CD.bD rfl (Or.inl rfl) (fD.of (N':=["k", "self"]) (nt:=1) (cap:=[0]) rfl (by kernel_rfl)) (nJ (k:=0) (by decide)) (Rd rfl B.range (ah ay (ah (iJ nG rfl B.len m5 (ah (ae 1) aD)) aD))) (λ _ _ _ _=>(hW (k:=0) (show List.Nodup (["k", "self"]:List Str) by decide +kernel) rfl (Or.inl rfl)))  (λ _ _ _ _=>(vH bR p7 ap (by omega) (ae 1) (ah (ae 0) aD))))
  (a5 (jo (mF PySem.F.plainAttrs_list PySem.F.slot_list_append PySem.F.type_list_append pS (dQ bR kC (ae 0)) (ah (b4 fS (cE (ah (SB rfl tG tH (bI bJ (ae 1) ay (λ _ _=>rfl)) (λ _ _=>rfl)) aD)) (oB ym rfl B.tuple qt (ah (ae 2) aD))) aD)))
  (a5 (jV bR gi (ae 0) (vH bR p7 ap (by omega) (ae 0) (ah ay aD)))
  (bw (cI (b5 (d3 (dj ap)) (bI bJ (ae 1) ay (λ _ _=>rfl)) bN (bW _)) (bw (yK bR wh (ae 0) ay)) c6)))))),?_⟩
 obtain ⟨bG,ht⟩:=M.b6 _ _ aq;refine bl M.im (dV rfl (bl ht (dV rfl ?_)));obtain ⟨wj,Ji,⟨u,dZ,r3,Zn⟩,sw,Uv,Uw⟩:=lEq Uu;unfold la at q;rw [r3] at q;rw [Tm.HU wj]
 have hle:(D.str x.t.word::x.t.aL.map Tm.enc).length=dZ.length+2:=by rw [r3];simp
 refine Rc (by decide) (by rw [hle];omega) ?_;rw [hle,show ((dZ.length+2:Nat):Int) - 2=(dZ.length:Int) by omega,w3]
 refine oE (λ i ds ak=>∃(aZ:List Addr)(ci:bC),ds=aZ.map D.ref/\aZ.length=i/\cN bg Machine ak a lm ci/\ci.m=c.m/\ci.S c.m.here=some x/\Fr a lm G ak/\(∀ q∈aZ,∃ y,ci.S q=some y) ∧
  ci.i5 (dZ.drop i) x.rs λ tJ c1=>c1.alloc u x.rs λ p c'=>∀ ak,cN bg Machine ak a lm { c' with m:={ c.m with here:=p,stack:=oQ x.t (aZ++tJ)::c.m.stack,slips:=c.m.slips+(if x.t.tn then 1 else 0) } }->Fr a lm G ak->ax .br ak) (dm (by show (k6 2 dZ.length).length<=_;rw [vk];omega)) ⟨[],c,rfl,rfl,M,rfl,aq,Fr.refl,λ _ h=>(by cases h),q⟩ (λ _ _ _ _ _=>trivial) ?_ ?_
 ·rintro i d ds ak hd ⟨aZ,ci,rfl,v_,es,hm,je,gS,CE,nW⟩;obtain ⟨aA,rfl⟩:=A0 hd;have Ux:dZ[i]?=some dZ[i]:=hk aA;refine ⟨bl es.im rfl,a,lm,ci,x,i+1,dZ[i],?_,es,by rw [hm];exact je,by rw [r3];exact Ux,wj,λ p aj=>?_⟩
  ·show [D.ref a,D.int (2+(i:Int))]=[D.ref a,D.int (((i+1:Nat):Int)+1)]
   rw [show (2:Int)+(i:Int)=((i+1:Nat):Int)+1 by omega]
  ·rw [pd aA] at nW;have fp:=es.fresh aj;refine iK.of ⟨aZ++[p],ci.add p dZ[i] x.rs,by simp,by simp [v_],es.adds aj (es.sw.aL je (by rw [r3];exact h3 _ (List.getElem_mem aA)) Ji),hm,oP fp je,gS.trans (Fr.new aj),λ r ap=>?_,bC.i5.mono (nW p fp) λ ps c2 h=>by rw [List.append_assoc];exact h⟩;rcases kH.mp ap with ap | ap
   ·obtain ⟨y,aQ⟩:=CE r ap;exact ⟨y,oP fp aQ⟩
   ·rw [pc.mp ap];exact ⟨_,iu⟩
 ·rintro ds ak ⟨aZ,ci,rfl,v_,es,hm,je,gS,CE,nW⟩ yx Jj;have Uy:aZ.length=dZ.length:=v_.trans vk;rw [show dZ.drop (hG.mk (k6 2 dZ.length) λ _=>True).items.length=[] from List.drop_eq_nil_of_le (by show dZ.length<=(k6 2 dZ.length).length;rw [vk];exact b7 _)] at nW;unfold bC.i5 at nW;rw [pa,<- hm] at nW;have y7:=es.new Jj (o:=.lst (aZ.map D.ref));obtain ⟨f1,f2⟩:=Uw aZ (by rw [r3,Uy];rfl)
  have hy:ci.m.stack.length < 100000:=by rw [hm];exact mP
  refine bl y7.im (dV rfl ⟨cC y7.g4 trivial,⟨_,Uv,cC aG ⟨fU (by rw [b3];show 1+aZ.length<=_;omega),bQ y7.g4 ⟨dm (by rw [b3,eK];omega),?_⟩⟩⟩⟩)
  have lR:(ci.m.stack.reverse.map dK.enc++[D.tup ([D.str sw]++aZ.map D.ref)])=(oQ x.t aZ::ci.m.stack).reverse.map dK.enc:=by
   rw [h6,ff];show _=_++[(oQ x.t aZ).enc];rw [f1];rfl
  have wl:cN bg Machine (up (up ak yx (.lst (aZ.map D.ref))) lm (.lst (ci.m.stack.reverse.map dK.enc++[D.tup ([D.str sw]++aZ.map D.ref)]))) a lm { ci with m:={ ci.m with stack:=oQ x.t aZ::ci.m.stack } }:=by
   rw [lR];refine y7.putL λ k aC=>?_;rcases ea.mp aC with rfl | aC
   ·rw [f2];exact CE
   ·exact es.ms k aC
  have Jk:ci.S ci.m.here=some x:=by rw [hm];exact je
  have Jl:Fr a lm G (up (up ak yx (.lst (aZ.map D.ref))) lm (.lst (ci.m.stack.reverse.map dK.enc++[D.tup ([D.str sw]++aZ.map D.ref)]))):=(gS.trans (Fr.new Jj)).trans Fr.l;refine ⟨bl wl.im rfl,a,lm,_,x,0,u,rfl,wl,Jk,by rw [r3];rfl,wj,λ p aj=>?_⟩;have et:=wl.adds aj (wl.sw.aL Jk (by rw [r3];exact f7 ..) Ji);have fp:=wl.fresh aj;refine bl et.im ⟨show 7 < 1000 by decide,⟨λ h=>?_,λ h=>?_⟩⟩
  ·have a0:x.t.tn=true:=(HX x.t).symm.trans h;rw [a0] at nW;refine bl aG (dV (d:=.int ci.m.slips) rfl (bl aG ⟨show 7 < 1000 by decide,bp.of ?_⟩));rw [dh];exact nW p fp _ (et.ld (m:={ ci.m with here:=p,stack:=oQ x.t aZ::ci.m.stack,slips:=ci.m.slips+1 }) rfl ⟨_,iu⟩) ((Jl.trans (Fr.new aj)).trans Fr.a)
  ·have a0:x.t.tn=false:=(HX x.t).symm.trans h;rw [a0] at nW;exact bp.of (nW p fp _ (et.ld (m:={ ci.m with here:=p,stack:=oQ x.t aZ::ci.m.stack }) rfl ⟨_,iu⟩) ((Jl.trans (Fr.new aj)).trans Fr.a))
abbrev CF:bE:=(hY (top 14)).getD 10 (.Pass ⟨0,0,0,0⟩)
theorem Jm:d0 ["self", "mark", "here"] ["self", "mark"] (cp CF):=⟨rfl,rfl,rfl,by decide +kernel,rfl,by decide +kernel,by decide +kernel⟩
theorem Uz{bg Machine Jn:Addr}(db:dI K bg)(gR:cW K bg "part")(mM:cW K bg "row")(bR:dI K Machine)(gi:cW K Machine "here")(CG:mg "PAIR_OF_SLIPS" = some (.ref Jn))(UA:∀ H,cV K H (Tm.pair (.name 0) (.name 1)).enc (.ref Jn))(mO:rR P w K mg base 1 bg "Slip" ["self", "program", "slips"] (aT K (vT bg)))(p7:ef P w K mg base 3 Machine "within" ["self", "k"] (aT K (yQ bg Machine)))(F:dL K "behind" "Machine.behind" CF f fd):cO P w K mg base cQ 4 f fd ["self", "mark"] (aT K (BP bg Machine)):=by
 refine eA (k:=3) F Jm (λ ds G ax h=>?_) (λ bP A outer s H E ap ds G ax h=>?_)
 ·obtain ⟨_,_,_,_,_,rfl,_⟩:=h;rfl
 obtain ⟨a,lm,c,x,k,rfl,M,aq,aC,q⟩:=h
 refine ⟨_,(a5 (cL (k:=2) Jm.bD rfl (Or.inl rfl) (dQ bR gi (ae 0)))
  (a5 (cI (b5 (d3 (dj ap)) (bI bJ (ae 1) ay (λ _ _=>rfl)) bN (bW _)) (bw (b9 (tj mO ap (by omega) rfl (ah (bI bJ (dQ db gR (ae 2)) ay (λ _ _=>rfl)) (ah (b4 fS (cE (ah (bI bJ (ae 1) ay (λ _ _=>rfl)) aD)) (dQ db mM (ae 2))) aD))))) c6)
  (a5 (cI (b5 (d3 (dj ap)) (bI bJ (ae 1) ay (λ _ _=>rfl)) bN (bW _)) (bw (b9 (vH bR p7 ap (by omega) (ae 0) (ah ay aD)))) c6)
  (a5 (cI (b5 (d3 (dj ap)) (bI bJ (ae 1) ay (λ _ _=>rfl)) bN (bW _)) (bw (b9 (vH bR p7 ap (by omega) (ae 0) (ah ay aD)))) c6)
  (a5 (cI (b5 (d3 (dj ap)) (bI bJ (ae 1) ay (λ _ _=>rfl)) bN (bW _)) (bw (b9 (tj mO ap (by omega) rfl (ah (cE (ah bN (ah (b4 fS (bI bJ (ae 1) ay (λ _ _=>rfl)) (bI bJ (dQ db gR (ae 2)) ay (λ _ _=>rfl))) aD))) (ah (cE aD) aD))))) c6)
  (a5 (cI (b5 (d3 (dj ap)) (bI bJ (ae 1) ay (λ _ _=>rfl)) bN (bW _)) (bw (b9 (u9 (b5 (d3 (dj ap)) (bI bJ (dQ db gR (ae 2)) ay (λ _ _=>rfl)) ay (bW _)) (bI bJ (ae 1) ay (λ _ _=>rfl)) (bI bJ (ae 1) ay (λ _ _=>rfl))))) c6)
  (a5 (cI (b5 (d3 (dj ap)) (bI bJ (ae 1) ay (λ _ _=>rfl)) bN (bW _)) (bw (b9 (tj mO ap (by omega) rfl (ah (AL (v:=.ref _) rfl CG rfl UA) (ah (cE (ah (bI bJ (ae 1) ay (λ _ _=>rfl)) (ah (ae 2) aD))) aD))))) c6)
  (bw (b9 (bI bJ (ae 1) ay (λ _ _=>rfl))))))))))),?_⟩
 obtain ⟨bG,ht⟩:=M.b6 _ _ aq;refine bl M.im (dV rfl ?_);obtain ⟨t,rs,c9⟩:=x
 cases k with
 | k_ b=>
  cases t with
  | way u=>
   refine aS.yes (sEq _) ?_;refine bl ht (dV rfl (iH (d:=u.enc) rfl (iH (d:=.ref b) rfl (bl ht (dV rfl ?_)))));obtain ⟨y8,q⟩:=q
   replace y8:rs.length < 100000:=y8
   refine ⟨fU (by rw [b3];show 1+rs.length<=_;omega),?_⟩;intro p aj;refine ⟨p,u,b::rs,_,rfl,aG,.inl rfl,rfl,bp.of ?_⟩;rw [dh];exact q p (M.fresh aj) _ (M.adds aj (M.sw.body aq (aC b (f7 ..)))) (Fr.new aj)
  | _=>exact q.elim
 | first=>
  cases t with
  | pair u v=>
   refine aS.no (dt (by decide)) ?_;refine aS.yes (sEq _) ?_;exact ⟨bl M.im rfl,a,lm,c,_,0,u,rfl,M,aq,rfl,rfl,λ p aj=>bp.of (q p (M.fresh aj) _ (M.adds aj (M.sw.aL aq (f7 ..) rfl)) (Fr.new aj))⟩
  | _=>exact q.elim
 | second=>
  cases t with
  | pair u v=>
   refine aS.no (dt (by decide)) ?_;refine aS.no (dt (by decide)) ?_;refine aS.yes (sEq _) ?_;exact ⟨bl M.im rfl,a,lm,c,_,1,v,rfl,M,aq,rfl,rfl,λ p aj=>bp.of (q p (M.fresh aj) _ (M.adds aj (M.sw.aL aq (h3 _ (f7 ..)) rfl)) (Fr.new aj))⟩
  | _=>exact q.elim
 | i3 n=>
  cases t with
  | whole j=>
   refine aS.no (dt (by decide)) ?_;refine aS.no (dt (by decide)) ?_;refine aS.no (dt (by decide)) ?_;refine aS.yes (sEq _) ?_;refine iH (d:=.int n) rfl (bl ht (dV rfl (iH (d:=.int j) rfl ?_)));intro p aj;refine ⟨p,.whole (n+j),[],_,rfl,aG,.inl rfl,rfl,bp.of ?_⟩;rw [dh];exact q p (M.fresh aj) _ (M.adds aj SZ) (Fr.new aj)
  | _=>exact q.elim
 | look u v=>
  cases t with
  | whole j=>
   refine aS.no (dt (by decide)) ?_;refine aS.no (dt (by decide)) ?_;refine aS.no (dt (by decide)) ?_;refine aS.no (dt (by decide)) ?_;refine aS.yes (sEq _) ?_;refine bl ht (dV rfl (iH (d:=.int j) rfl ⟨λ h=>?_,λ h=>?_⟩))
   ·have h':j=0:=by simpa using h
    refine iH (d:=.ref u) rfl (bp.of ?_);have fC:=q;unfold BO at fC;simp only [h',if_true] at fC;exact fC _ M Fr.refl
   ·have h':¬ j=0:=by simpa using h
    refine iH (d:=.ref v) rfl (bp.of ?_);have fC:=q;unfold BO at fC;simp only [h',if_false] at fC;exact fC _ M Fr.refl
  | _=>exact q.elim
 | gP b=>
  refine aS.no (dt (by decide)) ?_;refine aS.no (dt (by decide)) ?_;refine aS.no (dt (by decide)) ?_;refine aS.no (dt (by decide)) ?_;refine aS.no (dt (by decide)) ?_;refine aS.yes (sEq _) ?_;refine iH (d:=.ref b) rfl ?_;intro p aj;refine ⟨p,.pair (.name 0) (.name 1),[b,c.m.here],_,rfl,aG,.inl rfl,rfl,bp.of ?_⟩;rw [dh]
  have fC:c.alloc (.pair (.name 0) (.name 1)) [b,c.m.here] λ r c'=>∀ ak,cN bg Machine ak a lm c'->Fr a lm G ak->ax (.ref r) ak:=by cases t<;>exact q
  exact fC p (M.fresh aj) _ (M.adds aj (S0 (aC b (f7 ..)) ⟨_,aq⟩)) (Fr.new aj)
 | plus u=>
  refine aS.no (dt (by decide)) ?_;refine aS.no (dt (by decide)) ?_;refine aS.no (dt (by decide)) ?_;refine aS.no (dt (by decide)) ?_;refine aS.no (dt (by decide)) ?_;refine aS.no (dt (by decide)) ?_;refine bp.of ?_;cases t<;>exact q _ M Fr.refl
 | both u=>
  refine aS.no (dt (by decide)) ?_;refine aS.no (dt (by decide)) ?_;refine aS.no (dt (by decide)) ?_;refine aS.no (dt (by decide)) ?_;refine aS.no (dt (by decide)) ?_;refine aS.no (dt (by decide)) ?_;refine bp.of ?_;cases t<;>exact q _ M Fr.refl
abbrev CH:bE:=(hY (top 14)).getD 9 (.Pass ⟨0,0,0,0⟩)
theorem Jo:d0 ["self", "mark"] ["self"] (cp CH):=⟨rfl,rfl,rfl,by decide +kernel,rfl,by decide +kernel,by decide +kernel⟩
theorem UB{bg Machine Jp:Addr}(db:dI K bg)(gR:cW K bg "part")(bR:dI K Machine)(gi:cW K Machine "here")(r1:cW K Machine "paired")(kC:cW K Machine "stack")(wg:cW K Machine "rules_done")(CI:mg "RULE_MARKS" = some (.ref Jp))(CJ:∀ H,cV K H (.tup [.str "slip", .str "first", .str "second", .str "had", .str "look"]) (.ref Jp))(CK:ef P w K mg base 4 Machine "behind" ["self", "mark"] (aT K (BP bg Machine)))(F:dL K "meet" "Machine.meet" CH f fd):cO P w K mg base cQ 5 f fd ["self"] (aT K (BQ bg Machine)):=by
 refine eA (k:=4) F Jo (λ ds G ax h=>?_) (λ bP A outer s H E ap ds G ax h=>?_)
 ·obtain ⟨_,_,_,_,rfl,_⟩:=h;rfl
 obtain ⟨a,lm,c,x,rfl,M,aq,Zo,mP,q⟩:=h
 refine ⟨_,(a5 (cL (k:=1) Jo.bD rfl (Or.inl rfl) (s8 PySem.F.plainAttrs_list PySem.F.slot_list_pop PySem.F.type_list_pop s9 (dQ bR kC (ae 0))))
  (a5 (cI (b5 vh (bI bJ (ae 1) ay (λ _ _=>rfl)) (AL (v:=.ref _) rfl CI rfl CJ) (by with_unfolding_all rfl)) (bw (yK bR wg (ae 0) ay)) c6)
  (a5 (cI (b5 (d3 (dj ap)) (bI bJ (ae 1) ay (λ _ _=>rfl)) bN (bW _)) (bw (jo (mF PySem.F.plainAttrs_list PySem.F.slot_list_append PySem.F.type_list_append pS (dQ bR kC (ae 0)) (ah (cE (ah bN (ah (bI bJ (dQ db gR (dQ bR gi (ae 0))) ay (λ _ _=>rfl)) aD))) aD)))) (bw (cI (b5 (d3 (dj ap)) (bI bJ (ae 1) ay (λ _ _=>rfl)) bN (bW _)) (bw (jo (mF PySem.F.plainAttrs_list PySem.F.slot_list_append PySem.F.type_list_append pS (dQ bR kC (ae 0)) (ah (cE (ah bN (ah (dQ bR gi (ae 0)) aD))) aD)))) c6)))
  (a5 (jV bR gi (ae 0) (vH bR CK ap (by omega) (ae 0) (ah (ae 1) aD)))
  (bw (jV bR r1 (ae 0) (k4 (d3 (dj ap)) (bI bJ (ae 1) ay (λ _ _=>rfl)) bN (bW _)))))))),?_⟩
 obtain ⟨bG,ht⟩:=M.b6 _ _ aq;refine bl M.im (dV rfl ?_)
 cases wm:c.m.stack with
 | nil=>unfold hq at q;rw [wm] at q;exact q.elim
 | cons k st=>
  have gQ:=M.g4;rw [wm] at gQ;refine ⟨cC gQ trivial,bQ gQ ⟨st.reverse.map dK.enc,k.enc,by simp,?_⟩⟩;have CL:=M.ms;rw [wm] at CL;have eO:cN bg Machine (up G lm (.lst (st.reverse.map dK.enc))) a lm { c with m:={ c.m with stack:=st } }:=M.putL λ ha oV=>CL ha (h3 _ oV);have nX:Fr a lm G (up G lm (.lst (st.reverse.map dK.enc))):=Fr.l;have aC:=CL k (f7 ..)
  have Zp:st.length+1 < 100000:=by rw [wm] at mP;exact mP
  obtain ⟨UC,CM⟩:=eO.b6 _ _ aq;obtain ⟨t,rs,c9⟩:=x;unfold hq at q;rw [wm] at q;generalize up G lm (.lst (st.reverse.map dK.enc))=av at *;have M2:cN bg Machine (up av a (.ins Machine (oR lm { c.m with stack:=st,rules:=c.m.rules+1 }))) a lm { c with m:={ c.m with stack:=st,rules:=c.m.rules+1 } }:=eO.ld (m:={ c.m with stack:=st,rules:=c.m.rules+1 }) rfl ⟨_,aq⟩;have r4:Fr a lm G (up av a (.ins Machine (oR lm { c.m with stack:=st,rules:=c.m.rules+1 }))):=nX.trans Fr.a
  cases k with
  | k_ b=>
   cases t with
   | way u=>
    refine ⟨rfl,rfl,?_⟩;refine aS.yes (by with_unfolding_all rfl) ?_;refine bl eO.im (dV (d:=.int c.m.rules) rfl (bl eO.im ⟨show 7 < 1000 by decide,?_⟩));refine aS.no (dt (by decide)) ?_;refine aS.no (dt (by decide)) ?_;obtain ⟨y8,q⟩:=q;refine ⟨bl M2.im rfl,a,lm,_,_,.k_ b,rfl,M2,aq,aC,y8,λ p aj ak es gS=>?_⟩;refine bl es.im ⟨show 7 < 1000 by decide,?_⟩;refine bl aG ⟨show 7 < 1000 by decide,bp.of ?_⟩;rw [dh];exact q p aj _ (es.ld (m:={ c.m with here:=p,paired:=false,stack:=st,rules:=c.m.rules+1 }) rfl ⟨_,iu⟩) ((r4.trans gS).trans Fr.a)
   | _=>exact q.elim
  | first=>
   cases t with
   | pair u v=>
    refine ⟨rfl,rfl,?_⟩;refine aS.yes (by with_unfolding_all rfl) ?_;refine bl eO.im (dV (d:=.int c.m.rules) rfl (bl eO.im ⟨show 7 < 1000 by decide,?_⟩));refine aS.no (dt (by decide)) ?_;refine aS.no (dt (by decide)) ?_;refine ⟨bl M2.im rfl,a,lm,_,_,.first,rfl,M2,aq,aC,λ p aj ak es gS=>?_⟩;refine bl es.im ⟨show 7 < 1000 by decide,?_⟩;refine bl aG ⟨show 7 < 1000 by decide,bp.of ?_⟩;rw [dh];exact q p aj _ (es.ld (m:={ c.m with here:=p,paired:=false,stack:=st,rules:=c.m.rules+1 }) rfl ⟨_,iu⟩) ((r4.trans gS).trans Fr.a)
   | _=>exact q.elim
  | second=>
   cases t with
   | pair u v=>
    refine ⟨rfl,rfl,?_⟩;refine aS.yes (by with_unfolding_all rfl) ?_;refine bl eO.im (dV (d:=.int c.m.rules) rfl (bl eO.im ⟨show 7 < 1000 by decide,?_⟩));refine aS.no (dt (by decide)) ?_;refine aS.no (dt (by decide)) ?_;refine ⟨bl M2.im rfl,a,lm,_,_,.second,rfl,M2,aq,aC,λ p aj ak es gS=>?_⟩;refine bl es.im ⟨show 7 < 1000 by decide,?_⟩;refine bl aG ⟨show 7 < 1000 by decide,bp.of ?_⟩;rw [dh];exact q p aj _ (es.ld (m:={ c.m with here:=p,paired:=false,stack:=st,rules:=c.m.rules+1 }) rfl ⟨_,iu⟩) ((r4.trans gS).trans Fr.a)
   | _=>exact q.elim
  | i3 n=>
   cases t with
   | whole j=>
    refine ⟨rfl,rfl,?_⟩;refine aS.yes (by with_unfolding_all rfl) ?_;refine bl eO.im (dV (d:=.int c.m.rules) rfl (bl eO.im ⟨show 7 < 1000 by decide,?_⟩));refine aS.no (dt (by decide)) ?_;refine aS.no (dt (by decide)) ?_;refine ⟨bl M2.im rfl,a,lm,_,_,.i3 n,rfl,M2,aq,aC,λ p aj ak es gS=>?_⟩;refine bl es.im ⟨show 7 < 1000 by decide,?_⟩;refine bl aG ⟨show 7 < 1000 by decide,bp.of ?_⟩;rw [dh];exact q p aj _ (es.ld (m:={ c.m with here:=p,paired:=false,stack:=st,rules:=c.m.rules+1 }) rfl ⟨_,iu⟩) ((r4.trans gS).trans Fr.a)
   | _=>exact q.elim
  | look u v=>
   cases t with
   | whole j=>
    refine ⟨rfl,rfl,?_⟩;refine aS.yes (by with_unfolding_all rfl) ?_;refine bl eO.im (dV (d:=.int c.m.rules) rfl (bl eO.im ⟨show 7 < 1000 by decide,?_⟩));refine aS.no (dt (by decide)) ?_;refine aS.no (dt (by decide)) ?_;refine ⟨bl M2.im rfl,a,lm,_,_,.look u v,rfl,M2,aq,aC,λ ak es gS=>?_⟩;refine bl es.im ⟨show 7 < 1000 by decide,?_⟩;refine bl aG ⟨show 7 < 1000 by decide,bp.of ?_⟩;rw [dh]
    have aQ:∃ y,c.S (if j=0 then u else v)=some y:=by split;exact aC u (f7 ..);exact aC v (h3 _ (f7 ..))
    exact q _ (es.ld (m:={ c.m with here:=if j=0 then u else v,paired:=false,stack:=st,rules:=c.m.rules+1 }) rfl aQ) ((r4.trans gS).trans Fr.a)
   | _=>exact q.elim
  | plus u=>
   cases t with
   | whole j=>
    refine ⟨rfl,rfl,?_⟩;refine aS.no (by with_unfolding_all rfl) ?_;refine aS.yes (sEq _) ?_;refine bl eO.im (dV rfl ⟨cC eO.g4 trivial,bl eO.im (dV rfl (bl CM (dV rfl (bQ eO.g4 ⟨?_,?_⟩))))⟩)
    ·rw [b3,eK];exact dm (by show st.length<=_;omega)
    have r5:cN bg Machine (up av lm (.lst ((dK.i3 j::st).reverse.map dK.enc))) a lm { c with m:={ c.m with stack:=.i3 j::st } }:=eO.putL (st:=.i3 j::st) λ ha oV=>by
     rcases ea.mp oV with rfl | oV
     ·intro b ag;cases ag
     ·exact eO.ms ha oV
    rw [h6,ff] at r5;refine ⟨bl r5.im rfl,a,lm,_,_,.plus u,rfl,r5,aq,aC,λ ak es gS=>?_⟩;refine bl es.im ⟨show 7 < 1000 by decide,?_⟩;refine bl aG ⟨show 7 < 1000 by decide,bp.of ?_⟩;rw [dh];exact q _ (es.ld (m:={ c.m with here:=u,paired:=false,stack:=.i3 j::st }) rfl (aC u (f7 ..))) (((nX.trans Fr.l).trans gS).trans Fr.a)
   | _=>exact q.elim
  | both u=>
   replace q:∀ ak,cN bg Machine ak a lm { c with m:={ c.m with here:=u,paired:=false,stack:=.gP c.m.here::st } }->Fr a lm G ak->ax .br ak:=by cases t<;>exact q
   refine ⟨rfl,rfl,?_⟩;refine aS.no (by with_unfolding_all rfl) ?_;refine aS.no (dt (by decide)) ?_;refine aS.yes (sEq _) ?_;refine bl eO.im (dV rfl ⟨cC eO.g4 trivial,bl eO.im (dV rfl (bQ eO.g4 ⟨?_,?_⟩))⟩)
   ·rw [b3,eK];exact dm (by show st.length<=_;omega)
   have r5:cN bg Machine (up av lm (.lst ((dK.gP c.m.here::st).reverse.map dK.enc))) a lm { c with m:={ c.m with stack:=.gP c.m.here::st } }:=eO.putL (st:=.gP c.m.here::st) λ ha oV=>by
    rcases ea.mp oV with rfl | oV
    ·intro b ag;rw [pc.mp ag];exact ⟨_,aq⟩
    ·exact eO.ms ha oV
   rw [h6,ff] at r5;refine ⟨bl r5.im rfl,a,lm,_,_,.both u,rfl,r5,aq,aC,?_⟩
   have go:∀ ak,cN bg Machine ak a lm { c with m:={ c.m with stack:=.gP c.m.here::st } }->Fr a lm (up av lm (.lst (st.reverse.map dK.enc++[dK.gP c.m.here].map dK.enc))) ak->ax .br (up ak a (.ins Machine (oR lm { c.m with here:=u,paired:=false,stack:=.gP c.m.here::st }))):=λ ak es gS=>
    q _ (es.ld (m:={ c.m with here:=u,paired:=false,stack:=.gP c.m.here::st }) rfl (aC u (f7 ..))) (((nX.trans Fr.l).trans gS).trans Fr.a)
   cases t<;>exact λ ak es gS=>bl es.im ⟨show 7 < 1000 by decide,bl aG ⟨show 7 < 1000 by decide,bp.of (by rw [dh];exact go ak es gS)⟩⟩
  | gP b=>
   replace q:c.alloc (.pair (.name 0) (.name 1)) [b,c.m.here] λ p c'=>∀ ak,cN bg Machine ak a lm { c' with m:={ c.m with here:=p,paired:=true,stack:=st } }->Fr a lm G ak->ax .br ak:=by cases t<;>exact q
   refine ⟨rfl,rfl,?_⟩;refine aS.no (by with_unfolding_all rfl) ?_;refine aS.no (dt (by decide)) ?_;refine aS.no (dt (by decide)) ?_;refine ⟨bl eO.im rfl,a,lm,_,_,.gP b,rfl,eO,aq,aC,?_⟩;cases t<;>exact λ p aj ak es gS=>bl es.im ⟨show 7 < 1000 by decide,bl aG ⟨show 7 < 1000 by decide,bp.of (by rw [dh];exact q p aj _ (es.ld (m:={ c.m with here:=p,paired:=true,stack:=st }) rfl ⟨_,iu⟩) ((nX.trans gS).trans Fr.a))⟩⟩
abbrev CN:bE:=(hY (top 14)).getD 1 (.Pass ⟨0,0,0,0⟩)
theorem UD:d0 ["self"] ["self"] (cp CN):=⟨rfl,rfl,rfl,by decide +kernel,rfl,by decide +kernel,by decide +kernel⟩
theorem UE{bg Machine:Addr}(db:dI K bg)(gR:cW K bg "part")(bR:dI K Machine)(gi:cW K Machine "here")(wf:cW K Machine "steps_done")(nY:ef P w K mg base 3 Machine "word" ["self"] (aT K (vW bg Machine)))(tI:ef P w K mg base 2 Machine "meets" ["self"] (aT K (yP bg Machine)))(CO:ef P w K mg base 5 Machine "meet" ["self"] (aT K (BQ bg Machine)))(CP:ef P w K mg base 4 Machine "enter" ["self"] (aT K (BN bg Machine)))(CQ:ef P w K mg base 1 Machine "look_up" ["self"] (aT K (BM bg Machine)))(F:dL K "step" "Machine.step" CN f fd):cO P w K mg base cQ 6 f fd ["self"] (aT K (yR bg Machine)):=by
 refine eA (k:=5) F UD (λ ds G ax h=>?_) (λ bP A outer s H E ap ds G ax h=>?_)
 ·obtain ⟨_,_,_,rfl,_⟩:=h;rfl
 obtain ⟨a,lm,c,rfl,M,mP,UF,md⟩:=h
 refine ⟨_,(a5 (cI (b5 (oJ (dj ap)) (gO bR nY ap (by omega) (ae 0)) bN (bW _)) (bw (b9 jN)) c6)
  (a5 (yK bR wf (ae 0) ay)
  (a5 (cI (b5 (d3 (dj ap)) (bI bJ (dQ db gR (dQ bR gi (ae 0))) ay (λ _ _=>rfl)) bN (bW _)) (bw (jo (gO bR CQ ap (by omega) (ae 0)))) (bw (cI (iG (gO bR tI ap (by omega) (ae 0))) (bw (jo (gO bR CO ap (by omega) (ae 0)))) (bw (jo (gO bR CP ap (by omega) (ae 0)))))))
  (bw (b9 jN))))),?_⟩
 obtain ⟨x,aq⟩:=M.aB;obtain ⟨bG,ht⟩:=M.b6 _ _ aq;refine ⟨bl M.im rfl,a,lm,c,rfl,M,?_⟩;have hw:=HW c;refine ⟨λ h=>?_,λ h=>?_⟩
 ·replace h:(!(kz c=="going"))=true:=h
  rw [hw] at h;exact bp.of (md (by simpa using h))
 replace h:(!(kz c=="going"))=false:=h
 rw [hw] at h
 have mQ:c.iv=true:=by simpa using h
 have aZ:=UF mQ;refine bl M.im (dV (d:=.int c.m.steps) rfl (bl M.im ⟨show 7 < 1000 by decide,?_⟩));have eO:cN bg Machine (up G a (.ins Machine (oR lm c.tick.m))) a lm c.tick:=M.ld (m:=c.tick.m) rfl ⟨x,aq⟩;have nX:Fr a lm G (up G a (.ins Machine (oR lm c.tick.m))):=Fr.a;obtain ⟨UC,CM⟩:=eO.b6 _ _ aq
 have bt:c.t=x.t:=by unfold bC.t;rw [aq]
 unfold iw at aZ;rw [aq] at aZ;unfold bC.iv ju at mQ;rw [bt] at mQ;refine bl eO.im (dV rfl (bl CM (dV rfl (yS ⟨λ ao=>?_,λ ao=>?_⟩))))
 ·have bc:x.t.isName=true:=(yT x.t).symm.trans ao;obtain ⟨t,rs,c9⟩:=x
  cases t with
  | name n=>
   replace aZ:(match rs[n]? with | some r=>_ | none=>False):=aZ
   cases mN:rs[n]? with
   | none=>rw [mN] at aZ;exact aZ.elim
   | some r=>
    rw [mN] at aZ;obtain ⟨⟨y,aQ⟩,_⟩:=eO.sw.sub _ _ aq r (kJ mN);refine ⟨bl eO.im rfl,a,lm,c.tick,_,n,r,rfl,eO,aq,rfl,mN,bp.of (aZ _ (eO.ld (m:={ c.tick.m with here:=r,looks:=c.m.looks+1 }) rfl ⟨y,aQ⟩) (nX.trans Fr.a))⟩
  | _=>cases bc
 ·have bc:x.t.isName=false:=(yT x.t).symm.trans ao
  have tJ:if fV c.m.paired x.t c.m.stack=true then hq c.tick x (λ c'=>∀ ak,cN bg Machine ak a lm c'->Fr a lm G ak->ax (.aO true) ak) else la c.tick x (λ c'=>∀ ak,cN bg Machine ak a lm c'->Fr a lm G ak->ax (.aO true) ak):=by
   obtain ⟨t,rs,c9⟩:=x;cases t<;>first | exact aZ | cases bc
  refine ⟨bl eO.im rfl,a,lm,c.tick,rfl,eO,⟨λ aF=>?_,λ aF=>?_⟩⟩
  ·replace aF:fV c.m.paired c.t c.m.stack=true:=aF
   rw [bt] at aF;rw [if_pos aF] at tJ;exact ⟨bl eO.im rfl,a,lm,c.tick,x,rfl,eO,aq,aF,mP,tJ.mono λ c' h ak es gS=>bp.of (h ak es (nX.trans gS))⟩
  ·replace aF:fV c.m.paired c.t c.m.stack=false:=aF
   rw [bt] at aF;rw [aF,if_neg (by decide)] at tJ;rw [aF,bc,Bool.false_or,Bool.or_false] at mQ;exact ⟨bl eO.im rfl,a,lm,c.tick,x,rfl,eO,aq,mQ,mP,tJ.mono λ c' h ak es gS=>bp.of (h ak es (nX.trans gS))⟩
abbrev CR:bE:=(hY (top 14)).getD 0 (.Pass ⟨0,0,0,0⟩)
theorem UG:d0 ["self", "program"] ["self", "program"] (cp CR):=⟨rfl,rfl,rfl,by decide +kernel,rfl,by decide +kernel,by decide +kernel⟩
theorem UH{bg Machine:Addr}(bR:dI K Machine)(gi:cW K Machine "here")(r1:cW K Machine "paired")(kC:cW K Machine "stack")(wf:cW K Machine "steps_done")(wg:cW K Machine "rules_done")(wh:cW K Machine "slips_made")(wi:cW K Machine "looked_up")(mO:rR P w K mg base 1 bg "Slip" ["self", "program", "slips"] (aT K (vT bg)))(F:dL K "__init__" "Machine.__init__" CR f fd):cO P w K mg base cQ 3 f fd ["self", "program"] (aT K (BR bg Machine)):=by
 refine eA (k:=2) F UG (λ ds G ax h=>?_) (λ bP A outer s H E ap ds G ax h=>?_)
 ·obtain ⟨_,_,rfl,_⟩:=h;rfl
 obtain ⟨a,t,rfl,au,fx,hz,q⟩:=h
 refine ⟨_,(a5 (jV bR gi (ae 0) (tj mO ap (by omega) rfl (ah (ae 1) (ah (cE aD) aD))))
  (a5 (jV bR r1 (ae 0) jN)
  (a5 (jV bR kC (ae 0) (lH aD))
  (a5 (jV bR wf (ae 0) ay)
  (a5 (jV bR wg (ae 0) ay)
  (a5 (jV bR wh (ae 0) ay)
  (bw (jV bR wi (ae 0) ay)))))))),?_⟩
 intro p aj;refine ⟨p,t,[],_,rfl,aG,.inl rfl,rfl,?_⟩;rw [dh]
 have g5:a≠p:=by rintro rfl;rw [au] at aj;cases aj
 have af:∀ o,up G p o a=some (.ins Machine []):=λ o=>by rw [bv g5];exact au
 refine bl (af _) ⟨show 0 < 1000 by decide,bl aG ⟨show 1 < 1000 by decide,?_⟩⟩;intro lm r6
 have y9:a≠lm:=by rintro rfl;rw [aG] at r6;cases r6
 rw [bv (Ne.symm y9),bv (Ne.symm y9)] at r6
 have Jq:lm≠p:=by rintro rfl;rw [aG] at r6;cases r6
 rw [bv Jq] at r6
 have ao:∀(X:aH)(fs:List (Str × D)),up (up X a (.ins Machine fs)) lm (.lst []) a=some (.ins Machine fs):=λ X fs=>by rw [bv y9];exact aG
 refine bl (ao _ _) ⟨show 2 < 1000 by decide,bl aG ⟨show 3 < 1000 by decide,bl aG ⟨show 4 < 1000 by decide,bl aG ⟨show 5 < 1000 by decide,bl aG ⟨show 6 < 1000 by decide,bp.of ?_⟩⟩⟩⟩⟩;simp only [dh];refine q p lm _ ⟨aG,by rw [bv (Ne.symm y9)];exact aG,λ b x e=>?_,⟨⟨t,[],t⟩,show fH (λ _=>none) p ⟨t,[],t⟩ p=_ from iu⟩,λ k aC=>(by cases aC),?_⟩ λ b o ag e=>?_
 ·replace e:fH (λ _=>none) p ⟨t,[],t⟩ b=some x:=e
  by_cases hn:b=p
  ·subst hn;rw [iu] at e;cases e;exact ⟨false,by rw [bv (Ne.symm g5),bv (Ne.symm Jq),bv (Ne.symm g5)];exact aG⟩
  ·rw [oO hn] at e;cases e
 ·have c0:∀ b x,fH (λ _=>none) p ⟨t,[],t⟩ b=some x->x=⟨t,[],t⟩:=λ b x e=>by
   by_cases hn:b=p
   ·subst hn;rw [iu] at e;cases e;rfl
   ·rw [oO hn] at e;cases e
  refine ⟨λ b x e r lQ=>?_,λ b x e z xG hw=>?_,λ b x e=>?_,λ b x e=>?_⟩
  ·rw [c0 b x e] at lQ;cases lQ
  ·rw [c0 b x e] at xG;exact absurd hw (fx z xG)
  ·rw [c0 b x e];exact hz
  ·rw [c0 b x e];exact (lg fx).symm
 ·have UI:b≠p:=by rintro rfl;rw [aj] at e;cases e
  have UJ:b≠lm:=by rintro rfl;rw [r6] at e;cases e
  rw [bv ag,bv UJ,bv ag,bv UI];exact e
abbrev CS:bE:=(hY (top 14)).getD 11 (.Pass ⟨0,0,0,0⟩)
theorem y_:d0 ["self", "now", "mark"] ["self"] (cp CS):=⟨rfl,rfl,rfl,by decide +kernel,rfl,by decide +kernel,by decide +kernel⟩
theorem UK{bg Machine T:Addr}{dF:Pos}(B:i9 mg)(db:dI K bg)(bR:dI K Machine)(gi:cW K Machine "here")(kC:cW K Machine "stack")(CT:ef P w K mg base 5 bg "back" ["self"] (aT K (BJ bg T dF)))(CU:Got P w K mg base 1 "around" ["mark", "program"] (aT K λ _ _ _=>False))(F:dL K "program" "Machine.program" CS f fd):cO P w K mg base cQ 6 f fd ["self"] (aT K (BS bg Machine T dF)):=by
 refine eA (k:=5) F y_ (λ ds G ax h=>?_) (λ bP A outer s H E ap ds G ax h=>?_)
 ·obtain ⟨_,_,_,_,rfl,_⟩:=h;rfl
 obtain ⟨a,lm,c,x,rfl,M,aq,hy,UL,dy,q⟩:=h
 refine ⟨_,(a5 (cL (k:=1) y_.bD rfl (Or.inl rfl) (gO db CT ap (by omega) (dQ bR gi (ae 0))))
  (a5 (A2 PassesOwn.never rfl (SJ rfl B.reversed (dQ bR kC (ae 0))) (hW (k:=2) y_.bD rfl (Or.inl rfl)) (bw (cL (k:=1) y_.bD rfl (Or.inl rfl) (cg CU ap (by omega) rfl (ah (ae 2) (ah (ae 1) aD))))))
  (bw (b9 (ae 1))))),?_⟩
 obtain ⟨bG,ht⟩:=M.b6 _ _ aq;obtain ⟨told,UM⟩:=M.told;refine bl M.im (dV rfl ⟨bl ht rfl,c.S,c.rk,told,G,c.m.here,x,rfl,M.sw.ok UL,aq,UM,M.SY dy,dy,λ hZ=>?_⟩);have es:=M.tell hZ;refine bl es.im (dV rfl (SG es.g4 ?_));refine ⟨λ i ρ ak=>∃ ln,ρ=[some (.ref a),some x.c9.enc,ln]/\ak=fb bg c.S hZ G,⟨_,rfl,rfl⟩,λ i ρ ak _ ⟨_,_,h⟩=>by rw [h];exact es.g4,?_,?_⟩
 ·rintro i d ρ ak hd -;rw [hy] at hd;cases hd
 ·rintro ρ ak ⟨ln,rfl,rfl⟩;exact bp.of (q _ es λ b o ag e=>by rw [pZ ag];exact e)
abbrev oEq:bE:=top 15
theorem UN:cO P w K mg base cQ 1 f fd ["mark", "program"] (aT K λ _ _ _=>False):=nL λ ds G ax h=>h
abbrev CV:bE:=top 20
theorem CW:d0 ["_law_feed_here", "_law_deep", "_law_form", "_law_one"] ["_law_feed_here", "_law_deep"] (cp CV):=⟨rfl,rfl,rfl,by decide +kernel,rfl,by decide +kernel,by decide +kernel⟩
theorem UO:cO P w K mg base cQ 2 f fd ["_law_feed_here", "_law_deep"] (aT K (oK 0)):=nL λ ds G ax h=>by
 unfold oK at h;split at h
 ·obtain ⟨_,af,ao,_⟩:=h;omega
 ·exact h
theorem UP{n:Nat}(fc:Got P w K mg base 1 "_law_take" ["_law_feed_here", "_law_many"] (aT K kr))(oW:Got P w K mg base (n+2) "_law_sort" ["_law_feed_here", "_law_deep"] (aT K (oK n)))
 (F:dL K "_law_sort" "_law_sort" CV f fd):cO P w K mg base cQ (n+3) f fd ["_law_feed_here", "_law_deep"] (aT K (oK (n+1))):=by
 refine eA (k:=n+2) F CW (λ ds G ax h=>?_) (λ bP A outer s H E ap ds G ax h=>?_)
 ·unfold oK at h;split at h
  ·rfl
  ·exact h.elim
 unfold oK at h;split at h
 case h_2=>exact h.elim
 next a deep=>
 obtain ⟨eW,lP,iS,q⟩:=h
 have Jr:∀ k,1<=td k:=λ k=>by cases k<;>simp [td]
 refine ⟨_,(a5 (cL (k:=2) CW.bD rfl (Or.inl rfl) (cg fc ap (by omega) rfl (ah (ae 0) (ah ay aD))))
  (a5 (cI (gL.at (jn (b5 (d3 (dj ap)) (ae 1) ay (bW _)) (lJ (b5 jp (ae 2) ay (bW _))))) (bw (b9 bN)) c6)
  (a5 (cL (k:=3) CW.bD rfl (Or.inl rfl) (cg oW ap (by omega) rfl (ah (ae 0) (ah (b4 eI (ae 1) ay) aD))))
  (bw (b9 (cE (ah (rD (ah bN (ah bN (ah bN aD))) (b4 eI (ae 2) ay) (λ _ _=>rfl)) (ah (ae 3) (ah (cg oW ap (by omega) rfl (ah (ae 0) (ah (b4 eI (ae 1) ay) aD))) aD))))))))),?_⟩
 refine ⟨eW,by decide,by decide,λ i8 av bV f0 f1=>⟨λ c1=>⟨λ _=>bp.of (q .n av bV (Jr _)),nofun⟩,λ c1=>⟨λ c2=>bp.of (q .n av bV (Jr _)),λ c2=>?_⟩⟩⟩
 have az:deep≠0:=by simpa using c1
 have aW:¬ i8 < 3:=by simpa using c2
 have g_:td deep.toNat=1+2 * td (deep - 1).toNat:=by
  rw [show deep.toNat=(deep - 1).toNat+1 by omega];rfl
 refine ⟨bV.fd,by omega,by omega,λ t aU b8 z=>?_⟩;refine Bk (i:=i8 - 3) (by omega) (by omega) (λ _=>?_) (λ _=>?_) (λ _=>?_)
 ·exact ⟨(bV.trans b8).fd,by omega,by omega,λ cR cM dM bU=>bp.of (q (.f t cR) cM ((bV.trans b8).trans dM) (by simp only [Ty.aR];omega))⟩
 ·exact ⟨(bV.trans b8).fd,by omega,by omega,λ cR cM dM bU=>bp.of (q (.p t cR) cM ((bV.trans b8).trans dM) (by simp only [Ty.aR];omega))⟩
 ·exact ⟨(bV.trans b8).fd,by omega,by omega,λ cR cM dM bU=>bp.of (q (.f t cR) cM ((bV.trans b8).trans dM) (by simp only [Ty.aR];omega))⟩
abbrev CX:bE:=top 21
theorem Js:d0 ["_law_feed_here", "_law_want", "_law_one"] ["_law_feed_here", "_law_want"] (cp CX):=⟨rfl,rfl,rfl,by decide +kernel,rfl,by decide +kernel,by decide +kernel⟩
theorem UQ:cO P w K mg base cQ 3 f fd ["_law_feed_here", "_law_want"] (aT K (vO 0)):=nL λ ds G ax h=>by
 obtain ⟨a,t,_,_,af,_⟩:=h;have:=t.tc;omega
theorem UR{n:Nat}(h1:Got P w K mg base 2 "_law_whole" ["_law_feed_here"] (aT K ku))(r7:Got P w K mg base (n+3) "_law_least" ["_law_feed_here", "_law_want"] (aT K (vO n)))
 (F:dL K "_law_least" "_law_least" CX f fd):cO P w K mg base cQ (n+4) f fd ["_law_feed_here", "_law_want"] (aT K (vO (n+1))):=by
 refine eA (k:=n+3) F Js (λ ds G ax h=>?_) (λ bP A outer s H E ap ds G ax h=>?_)
 ·obtain ⟨a,t,rfl,_⟩:=h;rfl
 obtain ⟨a,t,rfl,eW,hz,q⟩:=h
 refine ⟨_,(a5 (cI (b5 (d3 (dj ap)) (ae 1) bN (bW _)) (bw (b9 (cg h1 ap (by omega) rfl (ah (ae 0) aD)))) c6)
  (a5 (cI (b5 (d3 (dj ap)) (bI bJ (ae 1) ay (λ _ _=>rfl)) bN (bW _)) (a5 (cL (k:=2) Js.bD rfl (Or.inl rfl) (cg r7 ap (by omega) rfl (ah (ae 0) (ah (bI bJ (ae 1) ay (λ _ _=>rfl)) aD))))
  (bw (b9 (cE (ah bN (ah (ae 2) (ah (cg r7 ap (by omega) rfl (ah (ae 0) (ah (bI bJ (ae 1) ay (λ _ _=>rfl)) aD))) aD))))))) c6)
  (bw (b9 (cE (ah bN (ah (cg r7 ap (by omega) rfl (ah (ae 0) (ah (bI bJ (ae 1) ay (λ _ _=>rfl)) aD))) aD))))))),?_⟩
 cases t with
 | n=>exact ⟨λ _=>⟨eW,λ k av bV _ _=>bp.of (q (.whole k) av bV (by simp [Tm.aR,Ty.aR]) (by simp [Tm.bH]) λ _=>trivial)⟩,λ c=>absurd c (by decide)⟩
 | p t u=>
  simp only [Ty.aR] at hz q;refine ⟨λ c=>absurd c (by decide),λ _=>⟨λ _=>⟨a,t,rfl,eW,by omega,λ p av bV bF e2 am=>⟨a,u,rfl,bV.fd,by omega,λ cc aU b8 bU e3 aI=>bp.of (q (.pair p cc) aU (bV.trans b8) (by simp only [Tm.aR];omega) (by simp only [Tm.bH];omega) λ m=>⟨am m,aI m⟩)⟩⟩,λ c=>absurd c (by decide)⟩⟩
 | f t u=>
  simp only [Ty.aR] at hz q;refine ⟨λ c=>absurd c (by decide),λ _=>⟨λ c=>absurd c (by decide),λ _=>⟨a,u,rfl,eW,by omega,λ p av bV bF e2 am=>bp.of (q (.way p) av bV (by simp only [Tm.aR];omega) (by simp only [Tm.bH];omega) λ m=>am (m+1))⟩⟩⟩
abbrev CY:bE:=top 22
theorem za:d0 ["_law_feed_here", "_law_want", "_law_names", "_law_room", "_law_deep", "_law_half", "_law_one"] ["_law_feed_here", "_law_want", "_law_names", "_law_room", "_law_deep"] (cp CY):=⟨rfl,rfl,rfl,by decide +kernel,rfl,by decide +kernel,by decide +kernel⟩
theorem US{n:Nat}(fc:Got P w K mg base 1 "_law_take" ["_law_feed_here", "_law_many"] (aT K kr))(h1:Got P w K mg base 2 "_law_whole" ["_law_feed_here"] (aT K ku))(i_:Got P w K mg base (2 * n+65) "_law_typed" ["_law_feed_here", "_law_want", "_law_names", "_law_room", "_law_deep"] (aT K (tl n)))
 (F:dL K "_law_made" "_law_made" CY f fd):cO P w K mg base cQ (2 * n+66) f fd ["_law_feed_here", "_law_want", "_law_names", "_law_room", "_law_deep"] (aT K (tm n)):=by
 refine eA (k:=2 * n+65) F za (λ ds G ax h=>?_) (λ bP A outer s H E ap ds G ax h=>?_)
 ·obtain ⟨_,_,_,_,_,_,rfl,_⟩:=h;rfl
 obtain ⟨a,t,l,room,deep,m,rfl,eW,cY,uN,be,lP,iS,hz,q⟩:=h;have fin:∀(p:Tm)(ak:aH),eR a G ak->vP p room deep m->bp ax p.enc ak:=λ p ak u z=>bp.of (q p ak u z);have af:=cY.less (show deep - 1<=deep by omega)
 refine ⟨_,(a5 (cL (k:=5) za.bD rfl (Or.inl rfl) (b4 rr (b4 eI (ae 3) ay) ay))
  (a5 (cI (b5 (d3 (dj ap)) (ae 1) bN (bW _)) (a5 (cI (b5 (d3 (dj ap)) (cg fc ap (by omega) rfl (ah (ae 0) (ah ay aD))) ay (bW _)) (bw (b9 (cg h1 ap (by omega) rfl (ah (ae 0) aD)))) c6)
  (a5 (cL (k:=6) za.bD rfl (Or.inl rfl) (cg i_ ap (by omega) rfl (ah (ae 0) (ah bN (ah (ae 2) (ah (ae 5) (ah (b4 eI (ae 4) ay) aD)))))))
  (bw (b9 (cE (ah bN (ah (ae 6) (ah (cg i_ ap (by omega) rfl (ah (ae 0) (ah bN (ah (ae 2) (ah (ae 5) (ah (b4 eI (ae 4) ay) aD)))))) aD)))))))) c6)
  (a5 (cI (b5 (d3 (dj ap)) (bI bJ (ae 1) ay (λ _ _=>rfl)) bN (bW _)) (a5 (cL (k:=6) za.bD rfl (Or.inl rfl) (cg i_ ap (by omega) rfl (ah (ae 0) (ah (bI bJ (ae 1) ay (λ _ _=>rfl)) (ah (ae 2) (ah (ae 5) (ah (b4 eI (ae 4) ay) aD)))))))
  (bw (b9 (cE (ah bN (ah (ae 6) (ah (cg i_ ap (by omega) rfl (ah (ae 0) (ah (bI bJ (ae 1) ay (λ _ _=>rfl)) (ah (ae 2) (ah (ae 5) (ah (b4 eI (ae 4) ay) aD)))))) aD))))))) c6)
  (bw (b9 (cE (ah bN (ah (cg i_ ap (by omega) rfl (ah (ae 0) (ah (bI bJ (ae 1) ay (λ _ _=>rfl)) (ah (yw (b4 fS (lH (ah (bI bJ (ae 1) ay (λ _ _=>rfl)) aD)) (ae 2))) (ah (b4 eI (ae 3) ay) (ah (b4 eI (ae 4) ay) aD)))))) aD)))))))),?_⟩
 cases t with
 | n=>
  refine ⟨⟨by decide,by decide⟩,λ _=>⟨eW,by decide,by decide,λ k av bV tD ec=>⟨λ _=>⟨bV.fd,λ k aU b8 _ _=>fin (.whole k) aU (bV.trans b8) ⟨by simp only [Tm.aR];omega,by simp only [Tm.bH];omega,trivial⟩⟩,λ _=>?_⟩⟩,λ c=>absurd c (by decide)⟩;simp only [Ty.aR] at hz;refine ⟨a,.n,l,_,_,m,rfl,bV.fd,af.gX bV,by omega,by omega,by omega,by simp only [Ty.aR];omega,λ p aU b8 z=>⟨a,.n,l,_,_,m,rfl,(bV.trans b8).fd,af.gX (bV.trans b8),by omega,by omega,by omega,by simp only [Ty.aR];omega,λ cc cM dM bU=>fin (.plus p cc) cM ((bV.trans b8).trans dM) ?_⟩⟩;obtain ⟨bF,e2,am⟩:=z;obtain ⟨bU,e3,aI⟩:=bU;exact ⟨by simp only [Tm.aR];omega,by simp only [Tm.bH];omega,am,aI⟩
 | p t1 cR=>
  simp only [Ty.aR] at hz;refine ⟨⟨by decide,by decide⟩,λ c=>absurd c (by decide),λ _=>⟨λ _=>?_,λ c=>absurd c (by decide)⟩⟩;refine ⟨a,t1,l,_,_,m,rfl,eW,af,by omega,by omega,by omega,by omega,λ p aU b8 z=>⟨a,cR,l,_,_,m,rfl,b8.fd,af.gX b8,by omega,by omega,by omega,by omega,λ cc cM dM bU=>fin (.pair p cc) cM (b8.trans dM) ?_⟩⟩;obtain ⟨bF,e2,am⟩:=z;obtain ⟨bU,e3,aI⟩:=bU;exact ⟨by simp only [Tm.aR];omega,by simp only [Tm.bH];omega,am,aI⟩
 | f t1 cR=>
  simp only [Ty.aR] at hz;refine ⟨⟨by decide,by decide⟩,λ c=>absurd c (by decide),λ _=>⟨λ c=>absurd c (by decide),λ _ df az=>?_⟩⟩;obtain ⟨ne,tys,lR,aP,bt,rfl⟩:=cY
  have nl:l≠df:=by rintro rfl;rw [az] at lR;cases lR
  refine bQ aG (bQ (by rw [bv nl];exact lR) ⟨fU (by rw [b3,List.length_singleton];omega),λ cc aW=>?_⟩);have gm:=(rG (o:=.lst []) aW).2.1;refine ⟨up G cc (.lst ((t1::tys).map Ty.enc)),Sub.put (Sub.new (Sub.refl _) az),a,cR,cc,_,_,tys.length+1,rfl,eW.new gm,⟨eW.ne gm,t1::tys,aG,by rw [eb];omega,λ x aq=>?_,rfl⟩,by omega,by omega,by omega,by omega,λ p aU b8 z=>?_⟩
  ·rcases ea.mp aq with rfl | aq
   ·omega
   ·exact bt x aq
  ·obtain ⟨cM,s3,dM⟩:=eR.drop gm b8 eW;obtain ⟨bF,e2,am⟩:=z;exact ⟨cM,s3,q (.way p) cM dM ⟨by simp only [Tm.aR];omega,by simp only [Tm.bH];omega,am⟩⟩
abbrev CZ:bE:=top 23
theorem p8:d0 ["_law_feed_here", "_law_want", "_law_names", "_law_room", "_law_deep", "_law_form", "_law_other", "_law_half", "_law_third", "_law_asked", "_law_one"] ["_law_feed_here", "_law_want", "_law_names", "_law_room", "_law_deep"] (cp CZ):=⟨rfl,rfl,rfl,by decide +kernel,rfl,by decide +kernel,by decide +kernel⟩
theorem UT{n:Nat}(fc:Got P w K mg base 1 "_law_take" ["_law_feed_here", "_law_many"] (aT K kr))(oW:Got P w K mg base 4 "_law_sort" ["_law_feed_here", "_law_deep"] (aT K (oK 2)))(i_:Got P w K mg base (2 * n+65) "_law_typed" ["_law_feed_here", "_law_want", "_law_names", "_law_room", "_law_deep"] (aT K (tl n)))
 (F:dL K "_law_used" "_law_used" CZ f fd):cO P w K mg base cQ (2 * n+66) f fd ["_law_feed_here", "_law_want", "_law_names", "_law_room", "_law_deep"] (aT K (tm n)):=by
 refine eA (k:=2 * n+65) F p8 (λ ds G ax h=>?_) (λ bP A outer s H E ap ds G ax h=>?_)
 ·obtain ⟨_,_,_,_,_,_,rfl,_⟩:=h;rfl
 obtain ⟨a,t,l,room,deep,m,rfl,eW,cY,uN,be,lP,iS,hz,q⟩:=h;have fin:∀(p:Tm)(ak:aH),eR a G ak->vP p room deep m->bp ax p.enc ak:=λ p ak u z=>bp.of (q p ak u z);have af:=cY.less (show deep - 1<=deep by omega)
 refine ⟨_,(a5 (cL (k:=5) p8.bD rfl (Or.inl rfl) (cg fc ap (by omega) rfl (ah (ae 0) (ah ay aD))))
  (a5 (cL (k:=6) p8.bD rfl (Or.inl rfl) (cg oW ap (by omega) rfl (ah (ae 0) (ah ay aD))))
  (a5 (cL (k:=7) p8.bD rfl (Or.inl rfl) (b4 rr (b4 eI (ae 3) ay) ay))
  (a5 (cI (b5 (d3 (dj ap)) (ae 5) ay (bW _)) (bw (b9 (cE (ah bN (ah (cg i_ ap (by omega) rfl (ah (ae 0) (ah (cE (ah bN (ah (ae 1) (ah (ae 6) aD)))) (ah (ae 2) (ah (b4 eI (ae 3) ay) (ah (b4 eI (ae 4) ay) aD)))))) aD))))) c6)
  (a5 (cI (b5 (d3 (dj ap)) (ae 5) ay (bW _)) (bw (b9 (cE (ah bN (ah (cg i_ ap (by omega) rfl (ah (ae 0) (ah (cE (ah bN (ah (ae 6) (ah (ae 1) aD)))) (ah (ae 2) (ah (b4 eI (ae 3) ay) (ah (b4 eI (ae 4) ay) aD)))))) aD))))) c6)
  (a5 (cI (b5 (d3 (dj ap)) (ae 5) ay (bW _)) (a5 (cL (k:=8) p8.bD rfl (Or.inl rfl) (b4 rr (b4 eI (ae 3) ay) ay))
  (a5 (cL (k:=9) p8.bD rfl (Or.inl rfl) (cg i_ ap (by omega) rfl (ah (ae 0) (ah bN (ah (ae 2) (ah (ae 8) (ah (b4 eI (ae 4) ay) aD)))))))
  (a5 (cL (k:=10) p8.bD rfl (Or.inl rfl) (cg i_ ap (by omega) rfl (ah (ae 0) (ah (ae 1) (ah (ae 2) (ah (ae 8) (ah (b4 eI (ae 4) ay) aD)))))))
  (bw (b9 (cE (ah bN (ah (ae 9) (ah (ae 10) (ah (cg i_ ap (by omega) rfl (ah (ae 0) (ah (ae 1) (ah (ae 2) (ah (ae 8) (ah (b4 eI (ae 4) ay) aD)))))) aD)))))))))) c6)
  (a5 (cL (k:=10) p8.bD rfl (Or.inl rfl) (cg i_ ap (by omega) rfl (ah (ae 0) (ah (cE (ah bN (ah (ae 6) (ah (ae 1) aD)))) (ah (ae 2) (ah (ae 7) (ah (b4 eI (ae 4) ay) aD)))))))
  (bw (b9 (cE (ah bN (ah (ae 10) (ah (cg i_ ap (by omega) rfl (ah (ae 0) (ah (ae 6) (ah (ae 2) (ah (ae 7) (ah (b4 eI (ae 4) ay) aD)))))) aD))))))))))))),?_⟩
 refine ⟨eW,by decide,by decide,λ i8 av bV f0 f1=>⟨bV.fd,by decide,by decide,λ o aU b8 UU=>⟨⟨by decide,by decide⟩,λ _=>?_,λ _=>⟨λ _=>?_,λ _=>⟨λ _=>?_,λ _=>?_⟩⟩⟩⟩⟩
 all_goals
  have Zq:o.aR<=3:=UU;have U:=bV.trans b8
 ·refine ⟨a,.p t o,l,_,_,m,rfl,U.fd,af.gX U,by omega,by omega,by omega,by simp only [Ty.aR];omega,λ p cM dM z=>fin (.first p) cM (U.trans dM) ?_⟩;obtain ⟨bF,e2,am⟩:=z;exact ⟨by simp only [Tm.aR];omega,by simp only [Tm.bH];omega,am⟩
 ·refine ⟨a,.p o t,l,_,_,m,rfl,U.fd,af.gX U,by omega,by omega,by omega,by simp only [Ty.aR];omega,λ p cM dM z=>fin (.second p) cM (U.trans dM) ?_⟩;obtain ⟨bF,e2,am⟩:=z;exact ⟨by simp only [Tm.aR];omega,by simp only [Tm.bH];omega,am⟩
 ·refine ⟨⟨by decide,by decide⟩,a,.n,l,_,_,m,rfl,U.fd,af.gX U,by omega,by omega,by omega,by simp only [Ty.aR];omega,λ p cM dM z=>⟨a,t,l,_,_,m,rfl,(U.trans dM).fd,af.gX (U.trans dM),by omega,by omega,by omega,by omega,λ cc gN h2 bU=>⟨a,t,l,_,_,m,rfl,((U.trans dM).trans h2).fd,af.gX ((U.trans dM).trans h2),by omega,by omega,by omega,by omega,λ jZ e1 r8 dg=>fin (.look p cc jZ) e1 (((U.trans dM).trans h2).trans r8) ?_⟩⟩⟩;obtain ⟨bF,e2,am⟩:=z;obtain ⟨bU,e3,aI⟩:=bU;obtain ⟨dg,iy,cP⟩:=dg;exact ⟨by simp only [Tm.aR];omega,by simp only [Tm.bH];omega,am,aI,cP⟩
 ·refine ⟨a,.f o t,l,_,_,m,rfl,U.fd,af.gX U,by omega,by omega,by omega,by simp only [Ty.aR];omega,λ p cM dM z=>⟨a,o,l,_,_,m,rfl,(U.trans dM).fd,af.gX (U.trans dM),by omega,by omega,by omega,by omega,λ cc gN h2 bU=>fin (.give p cc) gN ((U.trans dM).trans h2) ?_⟩⟩;obtain ⟨bF,e2,am⟩:=z;obtain ⟨bU,e3,aI⟩:=bU;exact ⟨by simp only [Tm.aR];omega,by simp only [Tm.bH];omega,am,aI⟩
abbrev C0:bE:=top 24
theorem C1:d0 ["_law_feed_here", "_law_want", "_law_names", "_law_room", "_law_deep", "_law_some", "_law_form"] ["_law_feed_here", "_law_want", "_law_names", "_law_room", "_law_deep"] (cp C0):=⟨rfl,rfl,rfl,by decide +kernel,rfl,by decide +kernel,by decide +kernel⟩
theorem UV:cO P w K mg base cQ 65 f fd ["_law_feed_here", "_law_want", "_law_names", "_law_room", "_law_deep"] (aT K (tl 0)):=nL λ ds G ax h=>by
 obtain ⟨_,_,_,_,_,_,_,_,_,_,af,ao,_⟩:=h;omega
theorem UW{n:Nat}(B:i9 mg)(fc:Got P w K mg base 1 "_law_take" ["_law_feed_here", "_law_many"] (aT K kr))(r7:Got P w K mg base 63 "_law_least" ["_law_feed_here", "_law_want"] (aT K (vO 60)))(C2:Got P w K mg base (2 * n+66) "_law_used" ["_law_feed_here", "_law_want", "_law_names", "_law_room", "_law_deep"] (aT K (tm n)))(C3:Got P w K mg base (2 * n+66) "_law_made" ["_law_feed_here", "_law_want", "_law_names", "_law_room", "_law_deep"] (aT K (tm n)))
 (F:dL K "_law_typed" "_law_typed" C0 f fd):cO P w K mg base cQ (2 * n+67) f fd ["_law_feed_here", "_law_want", "_law_names", "_law_room", "_law_deep"] (aT K (tl (n+1))):=by
 refine eA (k:=2 * n+66) F C1 (λ ds G ax h=>?_) (λ bP A outer s H E ap ds G ax h=>?_)
 ·obtain ⟨_,_,_,_,_,_,rfl,_⟩:=h;rfl
 obtain ⟨a,t,l,room,deep,m,rfl,eW,cY,be,lP,iS,hz,q⟩:=h;obtain ⟨ne,tys,lR,aP,bt,hm⟩:=id cY
 refine ⟨_,(a5 (G9 (k:=5) rfl C1.bD rfl (Or.inl rfl) (fD.of (N':=["_law_k", "_law_want", "_law_names"]) (nt:=1) (cap:=[1,2]) rfl (by kernel_rfl)) (nJ (k:=0) (by decide)) (G2 rfl B.range (ah (iJ nG rfl B.len m5 (ah (ae 2) aD)) aD)) (λ _ _ _ _=>(hW (k:=0) (show List.Nodup (["_law_k", "_law_want", "_law_names"]:List Str) by decide +kernel) rfl (Or.inl rfl))) (λ _ _ _ _=>(b5 (d3 (dj ap)) (bI bJ (ae 2) (ae 0) (λ _ _=>rfl)) (ae 1) (bW _))) (λ _ _ _ _=>(ae 0)))
  (a5 (cL (k:=6) C1.bD rfl (Or.inl rfl) (cg fc ap (by omega) rfl (ah (ae 0) (ah ay aD))))
  (a5 (cI (gL.at (sW (b5 pO (iJ nG rfl B.len m5 (ah (ae 5) aD)) ay (bW _)) (va (gL.at (jn (b5 jp (ae 6) ay (bW _)) (lJ (b5 jp (ae 3) ay (bW _)))))))) (bw (b9 (cE (ah bN (ah (bI bJ (ae 5) (cg fc ap (by omega) rfl (ah (ae 0) (ah (iJ nG rfl B.len m5 (ah (ae 5) aD)) aD))) (λ _ _=>rfl)) aD))))) c6)
  (a5 (cI (gL.at (jn (b5 jp (ae 3) ay (bW _)) (lJ (b5 jp (ae 4) ay (bW _))))) (bw (b9 (cg r7 ap (by omega) rfl (ah (ae 0) (ah (ae 1) aD))))) c6)
  (a5 (cI (b5 pO (ae 6) ay (bW _)) (bw (b9 (cg C2 ap (by omega) rfl (ah (ae 0) (ah (ae 1) (ah (ae 2) (ah (ae 3) (ah (ae 4) aD)))))))) c6)
  (bw (b9 (cg C3 ap (by omega) rfl (ah (ae 0) (ah (ae 1) (ah (ae 2) (ah (ae 3) (ah (ae 4) aD))))))))))))),?_⟩
 refine cC lR (G0 (by rw [b3];omega) ?_);refine lN (J:=⟨k6 0 (((tys.map Ty.enc).length:Nat):Int).toNat,λ _=>True⟩) (lu (tys.map Ty.enc).length) (λ i=>.int (0+(i:Int))) (λ i=>if fT ((tys.map Ty.enc).getD i .br) t.enc=true then some (.int (0+(i:Int))) else none) rfl (by rw [List.length_range];exact dm (by rw [b3];omega)) trivial (λ i aA R S dk gW=>?_) (λ p aj=>?_)
 ·have p4:i < tys.length:=by simpa using aA
  have yF:(tys.map Ty.enc)[i]?=some (tys[i]).enc:=by simp [p4]
  have UX:(tys.map Ty.enc).getD i .br=(tys[i]).enc:=by rw [List.getD_eq_getElem?_getD,yF];rfl
  rw [UX] at dk gW
  have c0:(0:Int)+(i:Int)=((i:Nat):Int):=by omega
  refine gZ (d:=(tys[i]).enc) lR (by rw [c0];exact nk yF) (Rw (x:=(tys[i]).enc) (y:=t.enc) (Ty.Hj _) (Ty.Hj _) (by have:=(tys[i]).Bj;have:=bt tys[i] (List.getElem_mem _);omega) ⟨λ c=>?_,λ c=>?_⟩)
  ·exact dk _ (by rw [if_pos (show fT _ _=true from c)])
  ·exact gW (by rw [if_neg (by rw [show fT _ _=false from c];simp)])
 ·generalize Jt:(lu (tys.map Ty.enc).length).filterMap (λ i=>if fT ((tys.map Ty.enc).getD i .br) t.enc=true then some (D.int (0+(i:Int))) else none)=ks
  have aC:∀ d∈ks,∃ k:Nat,d=.int k/\k < m:=λ d hd=>by
   rw [<- Jt] at hd;obtain ⟨i,aA,e⟩:=t5.mp hd;rw [wN,b3] at aA;split at e
   ·cases e;exact ⟨i,by rw [Int.zero_add],by omega⟩
   ·cases e
  have Zr:ks.length<=100:=by
   rw [<- Jt];refine e5 (List.length_filterMap_le _ _) ?_;rw [List.length_range,b3];omega
  have nX:=eW.new (o:=.lst ks) aj;have zb:=cY.new (o:=.lst ks) aj;have np:=eW.ne aj
  have fin:∀(g9:Tm)(ak:aH),eR a (up G p (.lst ks)) ak->vP g9 room deep m->bp ax g9.enc ak:=λ g9 ak u z=>by
   obtain ⟨cM,s3,dM⟩:=eR.drop aj u eW;exact ⟨cM,s3,q g9 cM dM z⟩
  refine ⟨nX,by decide,by decide,λ i8 av bV f0 f1=>?_⟩
  have fg:av p=some (.lst ks):=by rw [bV.other np];exact aG
  refine cC fg ⟨λ c1=>⟨λ c2=>⟨λ _=>?UY,nofun⟩,λ c2=>⟨λ hE=>?UZ,λ hE=>?U0⟩⟩,λ c1=>⟨nofun,λ _=>?U1⟩⟩
  case UY | UZ=>
   have Zs:0 < ks.length:=by
    have:(0:Int) < ks.length:=by simpa using c1
    omega
   refine cC fg ⟨bV.fd,by omega,by omega,λ k aU b8 tD ec=>?_⟩
   have By:k.toNat < ks.length:=by omega
   obtain ⟨j,d4,U2⟩:=aC ks[k.toNat] (List.getElem_mem _);refine gZ (d:=.int j) (by rw [b8.other np];exact fg) ?_ (fin (.name j) aU (bV.trans b8) ⟨by simp only [Tm.aR];omega,by simp only [Tm.bH];omega,U2⟩);have z:=nk (xs:=ks) (j:=k.toNat) (v:=ks[k.toNat]) (hk By);rw [show ((k.toNat:Nat):Int)=k by omega,d4] at z;exact z
  case U0 | U1=>
   refine ⟨λ ot=>⟨λ _=>?cf,nofun⟩,λ ot=>⟨λ tK=>?cK,λ tK=>?go⟩⟩
   case cf | cK=>exact ⟨a,t,rfl,bV.fd,by omega,λ g9 aU b8 bF bU am=>fin g9 aU (bV.trans b8) ⟨by omega,by omega,am m⟩⟩
   case go=>
    have sJ:¬ room < 3:=by simpa using ot
    have sM:¬ deep < 1:=by simpa using tK
    refine ⟨λ _=>?_,λ _=>?_⟩
    ·exact ⟨a,t,l,_,_,m,rfl,bV.fd,zb.gX bV,by omega,by omega,by omega,by omega,hz,λ g9 aU b8 z=>fin g9 aU (bV.trans b8) z⟩
    ·exact ⟨a,t,l,_,_,m,rfl,bV.fd,zb.gX bV,by omega,by omega,by omega,by omega,hz,λ g9 aU b8 z=>fin g9 aU (bV.trans b8) z⟩
abbrev C4:bE:=top 25
theorem tL:d0 ["_law_feed_here", "_law_again", "_law_step", "_law_base", "_law_own"] ["_law_feed_here"] (cp C4):=⟨rfl,rfl,rfl,by decide +kernel,rfl,by decide +kernel,by decide +kernel⟩
theorem U3(fc:Got P w K mg base 1 "_law_take" ["_law_feed_here", "_law_many"] (aT K kr))(h1:Got P w K mg base 2 "_law_whole" ["_law_feed_here"] (aT K ku))(F:dL K "_law_loop" "_law_loop" C4 f fd):cO P w K mg base cQ 3 f fd ["_law_feed_here"] (aT K vQ):=by
 refine eA (k:=2) F tL (λ ds G ax h=>?_) (λ bP A outer s H E ap ds G ax h=>?_)
 ·unfold vQ at h;split at h
  ·rfl
  ·exact h.elim
 unfold vQ at h;split at h
 case h_2=>exact h.elim
 next a=>
 obtain ⟨eW,q⟩:=h
 have tail:∀(b c:Tm)(av:aH),eR a G av->b.aR<=3->b.bH<=2->c.aR<=9->c.bH<=4->b.cl 2->c.cl 2->kr [.ref a,.int 5] av (λ d ak=>bp ax (.tup [.str "give", .tup [.str "give", .tup [.str "way", .tup [.str "way", .tup [.str "look", .tup [.str "name", .int 0],b.enc,c.enc]]],.tup [.str "way", .tup [.str "way", .tup [.str "look", .tup [.str "name", .int 0],b.enc,c.enc]]]],.tup [.str "whole", d]]) ak):=λ b c av bV cv e0 c1 c2 mA hE=>
  ⟨bV.fd,by decide,by decide,λ d aU b8 lP iS=>bp.of (q (.give (.give (.way (.way (.look (.name 0) b c))) (.way (.way (.look (.name 0) b c)))) (.whole d)) aU (bV.trans b8) (by simp only [Tm.aR];omega) (by simp only [Tm.bH];omega) (by simp only [Tm.cl];exact ⟨⟨⟨by omega,mA,hE⟩,by omega,mA,hE⟩,trivial⟩))⟩
 let hK:Tm:=.give (.give (.name 1) (.name 1)) (.plus (.name 0) (.whole (-1)))
 have s1:hK.aR=7:=rfl;have iS:hK.bH=2:=rfl
 have ga:hK.cl 2:=⟨⟨show 1 < 2 by omega,show 1 < 2 by omega⟩,show 0 < 2 by omega,trivial⟩
 refine ⟨_,(a5 (cL (k:=1) tL.bD rfl (Or.inl rfl) (cE (ah bN (ah (cE (ah bN (ah (cE (ah bN (ah ay aD))) (ah (cE (ah bN (ah ay aD))) aD)))) (ah (cE (ah bN (ah (cE (ah bN (ah ay aD))) (ah (cE (ah bN (ah (u6 vg ay) aD))) aD)))) aD)))))
  (a5 (cL (k:=2) tL.bD rfl (Or.inl rfl) (rD (ah (ae 1) (ah (cE (ah bN (ah (cg h1 ap (by omega) rfl (ah (ae 0) aD)) (ah (ae 1) aD)))) (ah (cE (ah bN (ah (cE (ah bN (ah ay aD))) (ah (ae 1) aD)))) aD))) (cg fc ap (by omega) rfl (ah (ae 0) (ah ay aD))) (λ _ _=>rfl)))
  (a5 (cL (k:=3) tL.bD rfl (Or.inl rfl) (rD (ah (cg h1 ap (by omega) rfl (ah (ae 0) aD)) (ah (cE (ah bN (ah (cg h1 ap (by omega) rfl (ah (ae 0) aD)) (ah (cE (ah bN (ah ay aD))) aD)))) (ah (cE (ah bN (ah ay aD))) aD))) (b4 oA (cg fc ap (by omega) rfl (ah (ae 0) (ah ay aD))) ay) (λ _ _=>rfl)))
  (a5 (cI (b5 (oJ (dj ap)) (ae 2) (ae 1) (bW _)) (bw (cL (k:=3) tL.bD rfl (Or.inl rfl) (cg h1 ap (by omega) rfl (ah (ae 0) aD)))) c6)
  (a5 (cL (k:=4) tL.bD rfl (Or.inl rfl) (cE (ah bN (ah (cE (ah bN (ah (cE (ah bN (ah (cE (ah bN (ah ay aD))) (ah (ae 3) (ah (ae 2) aD))))) aD))) aD))))
  (bw (b9 (cE (ah bN (ah (cE (ah bN (ah (ae 4) (ah (ae 4) aD)))) (ah (cE (ah bN (ah (cg fc ap (by omega) rfl (ah (ae 0) (ah ay aD))) aD))) aD))))))))))),?_⟩
 refine ⟨eW,λ ec av bV _ _=>⟨bV.fd,by decide,by decide,λ i aU b8 U4 bq=>?_⟩⟩;have oU:=bV.trans b8
 have g6:∀(c:Tm)(cM:aH),eR a G cM->c.aR<=9->c.bH<=4->c.cl 2->ku [.ref a] cM (λ d ak=>kr [.ref a,.int 5] ak (λ e ak=>bp ax (.tup [.str "give", .tup [.str "give", .tup [.str "way", .tup [.str "way", .tup [.str "look", .tup [.str "name", .int 0],d,c.enc]]],.tup [.str "way", .tup [.str "way", .tup [.str "look", .tup [.str "name", .int 0],d,c.enc]]]],.tup [.str "whole", e]]) ak)):=λ c cM dM c1 c2 hE=>
  ⟨dM.fd,λ k gN h2 _ _=>tail (.whole k) c gN (dM.trans h2) (by simp [Tm.aR]) (by simp [Tm.bH]) c1 c2 trivial hE⟩
 refine Bk (i:=i) U4 bq (λ _=>?_) (λ _=>?_) (λ _=>?_)
 all_goals
  refine ⟨oU.fd,λ cF cM dM _ _=>⟨(oU.trans dM).fd,λ fw gN h2 _ _=>⟨((oU.trans dM).trans h2).fd,by decide,by decide,λ j e1 r8 TD gw=>⟨by simp,?_⟩⟩⟩⟩;have iO:=((oU.trans dM).trans h2).trans r8;refine Bk (i:=j % 3) (by omega) (by omega) (λ _=>?_) (λ _=>?_) (λ _=>?_)
  all_goals refine ⟨rfl,rfl,by simp [D.bH,i0,Tm.enc],λ _=>?_,λ _=>?_⟩
 ·exact g6 hK e1 iO (by omega) (by omega) ga
 ·exact tail (.whole cF) hK e1 iO (by simp [Tm.aR]) (by simp [Tm.bH]) (by omega) (by omega) trivial ga
 ·exact g6 hK e1 iO (by omega) (by omega) ga
 ·exact tail (.pair (.whole fw) (.name 0)) hK e1 iO (by simp [Tm.aR]) (by simp [Tm.bH]) (by omega) (by omega) ⟨trivial,show 0 < 2 by omega⟩ ga
 ·exact g6 hK e1 iO (by omega) (by omega) ga
 ·exact tail (.name 1) hK e1 iO (by simp [Tm.aR]) (by simp [Tm.bH]) (by omega) (by omega) (show 1 < 2 by omega) ga
 ·exact g6 (.plus (.whole ec) hK) e1 iO (by simp only [Tm.aR];omega) (by simp only [Tm.bH];omega) ⟨trivial,ga⟩
 ·exact tail (.whole cF) (.plus (.whole ec) hK) e1 iO (by simp [Tm.aR]) (by simp [Tm.bH]) (by simp only [Tm.aR];omega) (by simp only [Tm.bH];omega) trivial ⟨trivial,ga⟩
 ·exact g6 (.plus (.whole ec) hK) e1 iO (by simp only [Tm.aR];omega) (by simp only [Tm.bH];omega) ⟨trivial,ga⟩
 ·exact tail (.pair (.whole fw) (.name 0)) (.plus (.whole ec) hK) e1 iO (by simp [Tm.aR]) (by simp [Tm.bH]) (by simp only [Tm.aR];omega) (by simp only [Tm.bH];omega) ⟨trivial,show 0 < 2 by omega⟩ ⟨trivial,ga⟩
 ·exact g6 (.plus (.whole ec) hK) e1 iO (by simp only [Tm.aR];omega) (by simp only [Tm.bH];omega) ⟨trivial,ga⟩
 ·exact tail (.name 1) (.plus (.whole ec) hK) e1 iO (by simp [Tm.aR]) (by simp [Tm.bH]) (by simp only [Tm.aR];omega) (by simp only [Tm.bH];omega) (show 1 < 2 by omega) ⟨trivial,ga⟩
 ·exact g6 (.plus (.name 0) hK) e1 iO (by simp only [Tm.aR];omega) (by simp only [Tm.bH];omega) ⟨show 0 < 2 by omega,ga⟩
 ·exact tail (.whole cF) (.plus (.name 0) hK) e1 iO (by simp [Tm.aR]) (by simp [Tm.bH]) (by simp only [Tm.aR];omega) (by simp only [Tm.bH];omega) trivial ⟨show 0 < 2 by omega,ga⟩
 ·exact g6 (.plus (.name 0) hK) e1 iO (by simp only [Tm.aR];omega) (by simp only [Tm.bH];omega) ⟨show 0 < 2 by omega,ga⟩
 ·exact tail (.pair (.whole fw) (.name 0)) (.plus (.name 0) hK) e1 iO (by simp [Tm.aR]) (by simp [Tm.bH]) (by simp only [Tm.aR];omega) (by simp only [Tm.bH];omega) ⟨trivial,show 0 < 2 by omega⟩ ⟨show 0 < 2 by omega,ga⟩
 ·exact g6 (.plus (.name 0) hK) e1 iO (by simp only [Tm.aR];omega) (by simp only [Tm.bH];omega) ⟨show 0 < 2 by omega,ga⟩
 ·exact tail (.name 1) (.plus (.name 0) hK) e1 iO (by simp [Tm.aR]) (by simp [Tm.bH]) (by simp only [Tm.aR];omega) (by simp only [Tm.bH];omega) (show 1 < 2 by omega) ⟨show 0 < 2 by omega,ga⟩
abbrev C5:bE:=top 28
theorem zc:d0 ["_law_feed_here", "_law_form", "_law_program_here"] ["_law_feed_here"] (cp C5):=⟨rfl,rfl,rfl,by decide +kernel,rfl,by decide +kernel,by decide +kernel⟩
theorem U5(fc:Got P w K mg base 1 "_law_take" ["_law_feed_here", "_law_many"] (aT K kr))(h1:Got P w K mg base 2 "_law_whole" ["_law_feed_here"] (aT K ku))(C6:Got P w K mg base 3 "_law_loop" ["_law_feed_here"] (aT K vQ))(mR:Got P w K mg base 17 "_law_wild" ["_law_feed_here", "_law_many", "_law_room", "_law_deep"] (aT K (oN 15)))(oW:Got P w K mg base 5 "_law_sort" ["_law_feed_here", "_law_deep"] (aT K (oK 3)))
 (i_:Got P w K mg base 91 "_law_typed" ["_law_feed_here", "_law_want", "_law_names", "_law_room", "_law_deep"] (aT K (tl 13))) (v8:Got P w K mg base 81 "_law_parts" ["_law_program_here"] (aT K (rH 80))) (F:dL K "_law_program" "_law_program" C5 f fd):cO P w K mg base cQ 92 f fd ["_law_feed_here"] (aT K vR):=by
 refine eA (k:=91) F zc (λ ds G ax h=>?_) (λ bP A outer s H E ap ds G ax h=>?_)
 ·unfold vR at h;split at h
  ·rfl
  ·exact h.elim
 unfold vR at h;split at h
 case h_2=>exact h.elim
 next a=>
 obtain ⟨eW,q⟩:=h
 have plus:∀ av,hX av a->(∀(p:Tm) ak,eR a av ak->p.aR<=60->p.bH<=75->p.cl 0->bp ax p.enc ak)->ku [.ref a] av (λ d aU=>ku [.ref a] aU (λ e cM=>ku [.ref a] cM (λ f gN=>bp ax (.tup [.str "plus", .tup [.str "plus", d,e],f]) gN))):=λ av f1 fin=>
  ⟨f1,λ k aU b8 _ _=>⟨b8.fd,λ cF cM dM _ _=>⟨(b8.trans dM).fd,λ fw gN h2 _ _=>fin (.plus (.plus (.whole k) (.whole cF)) (.whole fw)) gN ((b8.trans dM).trans h2) (by simp [Tm.aR]) (by simp [Tm.bH]) ⟨⟨trivial,trivial⟩,trivial⟩⟩⟩⟩
 refine ⟨_,(a5 (cL (k:=1) zc.bD rfl (Or.inl rfl) (cg fc ap (by omega) rfl (ah (ae 0) (ah ay aD))))
  (a5 (cI (b5 (d3 (dj ap)) (ae 1) ay (bW _)) (bw (b9 (cg C6 ap (by omega) rfl (ah (ae 0) aD)))) c6)
  (a5 (cI (b5 (d3 (dj ap)) (ae 1) ay (bW _)) (bw (cL (k:=2) zc.bD rfl (Or.inl rfl) (cg mR ap (by omega) rfl (ah (ae 0) (ah ay (ah (b4 fS ay (cg fc ap (by omega) rfl (ah (ae 0) (ah ay aD)))) (ah ay aD))))))) (bw (cL (k:=2) zc.bD rfl (Or.inl rfl) (cg i_ ap (by omega) rfl (ah (ae 0) (ah (cg oW ap (by omega) rfl (ah (ae 0) (ah (cg fc ap (by omega) rfl (ah (ae 0) (ah ay aD))) aD))) (ah (lH aD) (ah (b4 fS ay (cg fc ap (by omega) rfl (ah (ae 0) (ah ay aD)))) (ah ay aD)))))))))
  (a5 (cI (b5 pO (cg v8 ap (by omega) rfl (ah (ae 2) aD)) ay (bW _)) (bw (b9 (cE (ah bN (ah (cE (ah bN (ah (cg h1 ap (by omega) rfl (ah (ae 0) aD)) (ah (cg h1 ap (by omega) rfl (ah (ae 0) aD)) aD)))) (ah (cg h1 ap (by omega) rfl (ah (ae 0) aD)) aD)))))) c6)
  (bw (b9 (ae 2))))))),?_⟩
 refine ⟨eW,by decide,by decide,λ i8 av bV f0 f1=>⟨λ _=>⟨bV.fd,λ p aU b8 bF bU dg=>bp.of (q p aU (bV.trans b8) bF (by omega) dg)⟩,λ _=>⟨λ _=>?_,λ _=>?_⟩⟩⟩
 ·refine ⟨bV.fd,by decide,by decide,λ d aU b8 lP iS=>⟨(bV.trans b8).fd,by decide,by decide,by omega,by decide,by decide,λ p cM dM z=>?_⟩⟩;have U:=(bV.trans b8).trans dM;obtain ⟨bF,bU,dg⟩:=z;refine ⟨p,rfl,by omega,by omega,λ c=>?_,λ c=>?_⟩
  ·exact plus cM U.fd λ p ak u bF bU dg=>bp.of (q p ak (U.trans u) bF bU dg)
  ·have c':¬ (60:Int) < p.aR:=by simpa using c
   exact bp.of (q p cM U (by omega) (by omega) dg)
 ·refine ⟨bV.fd,by decide,by decide,λ d aU b8 lP iS=>⟨(bV.trans b8).fd,by omega,by omega,λ t cM dM C7 p aj=>?_⟩⟩;have U:=(bV.trans b8).trans dM
  have Zt:t.aR<=7:=by
   rcases (by omega:d=0\/d=1\/d=2) with rfl | rfl | rfl
   ·have:t.aR<=1:=C7;omega
   ·have:t.aR<=3:=C7;omega
   ·exact C7
  have zb:lO (up cM p (.lst [])) p a 12 0:=⟨U.fd.ne aj,[],aG,by decide,λ _ h=>(by cases h),rfl⟩
  refine ⟨U.fd.new aj,by decide,by decide,λ e gN h2 c0 az=>⟨a,t,p,_,_,0,rfl,h2.fd,zb.gX h2,by omega,by decide,by decide,by omega,λ pr e1 r8 z=>?_⟩⟩
  have back:∀ iZ,eR a (up cM p (.lst [])) iZ->∀ pr:Tm,pr.aR<=60->pr.bH<=75->pr.cl 0->bp ax pr.enc iZ:=λ iZ U6 pr bF bU dg=>by
   obtain ⟨oH,kT,U7⟩:=eR.drop aj U6 U.fd;exact ⟨oH,kT,q pr oH (U.trans U7) bF bU dg⟩
  obtain ⟨bF,bU,dg⟩:=z;refine ⟨pr,rfl,by omega,by omega,λ c=>?_,λ c=>?_⟩
  ·exact plus e1 (h2.trans r8).fd λ g9 ak u bF bU dg=>back ak ((h2.trans r8).trans u) g9 bF bU dg
  ·have c':¬ (60:Int) < pr.aR:=by simpa using c
   exact back e1 (h2.trans r8) pr (by omega) (by omega) dg
abbrev C8:bE:=top 26
theorem r9:d0 ["_law_feed_here", "_law_many", "_law_room", "_law_deep", "_law_form", "_law_half", "_law_third", "_law_asked", "_law_one"] ["_law_feed_here", "_law_many", "_law_room", "_law_deep"] (cp C8):=⟨rfl,rfl,rfl,by decide +kernel,rfl,by decide +kernel,by decide +kernel⟩
theorem U8:cO P w K mg base cQ 2 f fd ["_law_feed_here", "_law_many", "_law_room", "_law_deep"] (aT K (oN 0)):=nL λ ds G ax h=>by
 unfold oN at h;split at h
 ·obtain ⟨_,_,_,_,af,ao,_⟩:=h;omega
 ·exact h
theorem U9{n:Nat}(fc:Got P w K mg base 1 "_law_take" ["_law_feed_here", "_law_many"] (aT K kr))(h1:Got P w K mg base 2 "_law_whole" ["_law_feed_here"] (aT K ku))(mR:Got P w K mg base (n+2) "_law_wild" ["_law_feed_here", "_law_many", "_law_room", "_law_deep"] (aT K (oN n)))
 (F:dL K "_law_wild" "_law_wild" C8 f fd):cO P w K mg base cQ (n+3) f fd ["_law_feed_here", "_law_many", "_law_room", "_law_deep"] (aT K (oN (n+1))):=by
 refine eA (k:=n+2) F r9 (λ ds G ax h=>?_) (λ bP A outer s H E ap ds G ax h=>?_)
 ·unfold oN at h;split at h
  ·rfl
  ·exact h.elim
 unfold oN at h;split at h
 case h_2=>exact h.elim
 next a many room deep=>
 obtain ⟨eW,m0,jd,be,Zu,Zv,q⟩:=h;have fin:∀(p:Tm)(ak:aH),eR a G ak->HI p (3 * max room 0+1) deep many.toNat->bp ax p.enc ak:=λ p ak u z=>bp.of (q p ak u z)
 refine ⟨_,(a5 (cL (k:=4) r9.bD rfl (Or.inl rfl) (cg fc ap (by omega) rfl (ah (ae 0) (ah ay aD))))
  (a5 (cL (k:=5) r9.bD rfl (Or.inl rfl) (b4 rr (b4 eI (ae 2) ay) ay))
  (a5 (cI (gL.at (jn (b5 jp (ae 2) ay (bW _)) (jn (b5 jp (ae 3) ay (bW _)) (lJ (b5 jp (ae 4) ay (bW _)))))) (a5 (cI (gL.at (sW (b5 pO (ae 1) ay (bW _)) (va (b5 pO (cg fc ap (by omega) rfl (ah (ae 0) (ah ay aD))) ay (bW _))))) (bw (b9 (cE (ah bN (ah (cg fc ap (by omega) rfl (ah (ae 0) (ah (ae 1) aD))) aD))))) c6)
  (bw (b9 (cg h1 ap (by omega) rfl (ah (ae 0) aD))))) c6)
  (a5 (cI (b5 jp (ae 4) ay (bW _)) (bw (b9 (cE (ah bN (ah (cg mR ap (by omega) rfl (ah (ae 0) (ah (b4 fS (ae 1) ay) (ah (b4 eI (ae 2) ay) (ah (b4 eI (ae 3) ay) aD))))) aD))))) c6)
  (a5 (cI (b5 jp (ae 4) ay (bW _)) (bw (b9 (cE (ah (rD (ah bN (ah bN aD)) (b4 eI (ae 4) ay) (λ _ _=>rfl)) (ah (cg mR ap (by omega) rfl (ah (ae 0) (ah (ae 1) (ah (b4 eI (ae 2) ay) (ah (b4 eI (ae 3) ay) aD))))) aD))))) c6)
  (a5 (cI (b5 (d3 (dj ap)) (ae 4) ay (bW _)) (a5 (cL (k:=6) r9.bD rfl (Or.inl rfl) (b4 rr (b4 eI (ae 2) ay) ay))
  (a5 (cL (k:=7) r9.bD rfl (Or.inl rfl) (cg mR ap (by omega) rfl (ah (ae 0) (ah (ae 1) (ah (ae 6) (ah (b4 eI (ae 3) ay) aD))))))
  (a5 (cL (k:=8) r9.bD rfl (Or.inl rfl) (cg mR ap (by omega) rfl (ah (ae 0) (ah (ae 1) (ah (ae 6) (ah (b4 eI (ae 3) ay) aD))))))
  (bw (b9 (cE (ah bN (ah (ae 7) (ah (ae 8) (ah (cg mR ap (by omega) rfl (ah (ae 0) (ah (ae 1) (ah (ae 6) (ah (b4 eI (ae 3) ay) aD))))) aD)))))))))) c6)
  (a5 (cL (k:=8) r9.bD rfl (Or.inl rfl) (cg mR ap (by omega) rfl (ah (ae 0) (ah (ae 1) (ah (ae 5) (ah (b4 eI (ae 3) ay) aD))))))
  (bw (b9 (cE (ah (rD (ah bN (ah bN (ah bN (ah bN (ah bN aD))))) (b4 eI (ae 4) ay) (λ _ _=>rfl)) (ah (ae 8) (ah (cg mR ap (by omega) rfl (ah (ae 0) (ah (ae 1) (ah (ae 5) (ah (b4 eI (ae 3) ay) aD))))) aD))))))))))))),?_⟩
 refine ⟨eW,by decide,by decide,λ i8 av bV f0 f1=>⟨⟨by decide,by decide⟩,λ c1=>⟨λ _=>?U_,nofun⟩,λ c1=>⟨λ c2=>⟨λ _=>?Va,nofun⟩,λ c2=>⟨λ hE=>?Vb,λ hE=>?rest⟩⟩⟩⟩
 case U_ | Va | Vb=>
  have pq:∀ aU,eR a G aU->ku [.ref a] aU (bp ax):=λ aU b8=>⟨b8.fd,λ k cM dM _ _=>fin (.whole k) cM (b8.trans dM) ⟨by simp [Tm.aR];omega,by simp [Tm.bH];omega,trivial⟩⟩
  refine ⟨λ m=>⟨bV.fd,by decide,by decide,λ e aU b8 c0 az=>⟨λ aW=>?_,λ aW=>pq aU (bV.trans b8)⟩⟩,λ m=>⟨nofun,λ _=>pq av bV⟩⟩;refine ⟨(bV.trans b8).fd,by simpa using m,by omega,λ k cM dM tD ec=>?_⟩;have z:=fin (.name k.toNat) cM ((bV.trans b8).trans dM) ⟨by simp [Tm.aR];omega,by simp [Tm.bH];omega,by show k.toNat < many.toNat;omega⟩
  rwa [Tm.enc,show ((k.toNat:Nat):Int)=k by omega] at z
 have C9:¬ deep < 1:=by simpa using c2
 have iS:¬ room < 2:=by simpa using c1
 have C_:¬ i8 < 2:=by simpa using hE
 refine ⟨λ ot=>?_,λ ot=>⟨λ tK=>?_,λ tK=>⟨λ Ju=>?_,λ Ju=>?_⟩⟩⟩
 ·refine ⟨bV.fd,by omega,by omega,by omega,by omega,by omega,λ p aU b8 z=>fin (.way p) aU (bV.trans b8) ?_⟩;obtain ⟨bF,bU,dg⟩:=z;rw [show (many+1).toNat=many.toNat+1 by omega] at dg;exact ⟨by simp only [Tm.aR];omega,by simp only [Tm.bH];omega,dg⟩
 ·have sJ:¬ i8 < 4:=by simpa using ot
  have sM:i8 < 6:=by simpa using tK
  refine at2 (i:=i8 - 4) (by omega) (by omega) (λ _=>?_) (λ _=>?_)
  ·refine ⟨bV.fd,by omega,by omega,by omega,by omega,by omega,λ p aU b8 z=>fin (.first p) aU (bV.trans b8) ?_⟩;obtain ⟨bF,bU,dg⟩:=z;exact ⟨by simp only [Tm.aR];omega,by simp only [Tm.bH];omega,dg⟩
  ·refine ⟨bV.fd,by omega,by omega,by omega,by omega,by omega,λ p aU b8 z=>fin (.second p) aU (bV.trans b8) ?_⟩;obtain ⟨bF,bU,dg⟩:=z;exact ⟨by simp only [Tm.aR];omega,by simp only [Tm.bH];omega,dg⟩
 ·refine ⟨⟨by decide,by decide⟩,bV.fd,by omega,by omega,by omega,by omega,by omega,λ p aU b8 z=>⟨(bV.trans b8).fd,by omega,by omega,by omega,by omega,by omega,λ cc cM dM bU=>⟨((bV.trans b8).trans dM).fd,by omega,by omega,by omega,by omega,by omega,λ jZ gN h2 dg=>fin (.look p cc jZ) gN (((bV.trans b8).trans dM).trans h2) ?_⟩⟩⟩;obtain ⟨bF,e2,am⟩:=z;obtain ⟨bU,e3,aI⟩:=bU;obtain ⟨dg,iy,cP⟩:=dg;exact ⟨by simp only [Tm.aR];omega,by simp only [Tm.bH];omega,am,aI,cP⟩
 ·have sM:¬ i8 < 6:=by simpa using tK
  have Zw:i8≠6:=by simpa using Ju
  refine ⟨bV.fd,by omega,by omega,by omega,by omega,by omega,λ p aU b8 z=>?_⟩
  have two:∀(zd:Str)(t:Tm->Tm->Tm),(∀ x y,(t x y).enc=.tup [.str zd,x.enc,y.enc])->(∀ x y,(t x y).aR=1+x.aR+y.aR)->(∀ x y,(t x y).bH=1+max x.bH y.bH)->(∀ x y m,x.cl m->y.cl m->(t x y).cl m)->oN n [.ref a,.int many,.int ((room - 1) / 2),.int (deep - 1)] aU (λ d ak=>bp ax (.tup [.str zd,p.enc,d]) ak):=λ zd t he af ao aF=>by
   refine ⟨(bV.trans b8).fd,by omega,by omega,by omega,by omega,by omega,λ cc cM dM bU=>?_⟩;show bp ax (.tup [.str zd,p.enc,cc.enc]) cM;rw [<- he];refine fin (t p cc) cM ((bV.trans b8).trans dM) ?_;obtain ⟨bF,e2,am⟩:=z;obtain ⟨bU,e3,aI⟩:=bU;exact ⟨by rw [af];omega,by rw [ao];omega,aF _ _ _ am aI⟩
  refine RK (i:=i8 - 7) (by omega) (by omega) (λ _=>?_) (λ _=>?_) (λ _=>?_) (λ _=>?_) (λ _=>?_)
  ·exact two _ .give (λ _ _=>rfl) (λ _ _=>rfl) (λ _ _=>rfl) λ _ _ _ p q=>⟨p,q⟩
  ·exact two _ .give (λ _ _=>rfl) (λ _ _=>rfl) (λ _ _=>rfl) λ _ _ _ p q=>⟨p,q⟩
  ·exact two _ .give (λ _ _=>rfl) (λ _ _=>rfl) (λ _ _=>rfl) λ _ _ _ p q=>⟨p,q⟩
  ·exact two _ .plus (λ _ _=>rfl) (λ _ _=>rfl) (λ _ _=>rfl) λ _ _ _ p q=>⟨p,q⟩
  ·exact two _ .pair (λ _ _=>rfl) (λ _ _=>rfl) (λ _ _=>rfl) λ _ _ _ p q=>⟨p,q⟩
abbrev Da:bE:=top 30
theorem nZ:d0 ["_law_program_here", "_law_env", "_law_count", "_law_deep", "_law_word", "_law_one", "_law_asked", "_law_other"] ["_law_program_here", "_law_env", "_law_count", "_law_deep"] (cp Da):=⟨rfl,rfl,rfl,by decide +kernel,rfl,by decide +kernel,by decide +kernel⟩
theorem Vc:cO P w K mg base cQ 1 f fd ["_law_program_here", "_law_env", "_law_count", "_law_deep"] (aT K (v4 0)):=nL λ ds G ax h=>by
 obtain ⟨_,_,_,_,_,_,_,_,_,af,ao,_⟩:=h;omega
theorem Vd{n:Nat}(B:i9 mg)(tM:Got P w K mg base (n+1) "_law_head" ["_law_program_here", "_law_env", "_law_count", "_law_deep"] (aT K (v4 n)))(F:dL K "_law_head" "_law_head" Da f fd):cO P w K mg base cQ (n+2) f fd ["_law_program_here", "_law_env", "_law_count", "_law_deep"] (aT K (v4 (n+1))):=by
 refine eA (k:=n+1) F nZ (λ ds G ax h=>?_) (λ bP A outer s H E ap ds G ax h=>?_)
 ·obtain ⟨_,_,_,_,_,rfl,_⟩:=h;rfl
 obtain ⟨t,e,lc,c,d,rfl,fx,bO,hr,hd,bc,p9,q⟩:=h
 refine ⟨_,(a5 (vq PassesOwn.never (gL.at (sW (b5 jp (bI bJ (ae 2) ay (λ _ _=>rfl)) ay (bW _)) (va (b5 jp (ae 3) ay (bW _))))) (a5 (rS (ae 2) ay ay)
  (a5 (cL (k:=4) nZ.bD rfl (Or.inl rfl) (bI bJ (ae 0) ay (λ _ _=>rfl)))
  (a5 (cI (b5 vh (ae 4) (cE (ah bN (ah bN (ah bN aD)))) (by with_unfolding_all rfl)) (bw (b9 (cE (ah (ae 0) (ah (ae 1) aD))))) c6)
  (a5 (cI (b5 (d3 (dj ap)) (ae 4) bN (bW _)) (a5 (rS (ae 2) ay ay)
  (a5 (rp (bI bJ (ae 1) (bI bJ (ae 0) ay (λ _ _=>rfl)) (λ _ _=>rfl)) (vd (n:=2) rfl (nF (hW (k:=0) nZ.bD rfl (Or.inl rfl)) (nF (hW (k:=1) nZ.bD rfl (Or.inl rfl)) vb))))
  (bw QV))) c6)
  (a5 (rS (ae 2) ay (oB vi rfl B.int su (ah (k4 (d3 (dj ap)) (ae 4) bN (bW _)) aD)))
  (a5 (cL (k:=5) nZ.bD rfl (Or.inl rfl) (cg tM ap (by omega) rfl (ah (bI bJ (ae 0) ay (λ _ _=>rfl)) (ah (ae 1) (ah (ae 2) (ah (b4 fS (ae 3) ay) aD))))))
  (a5 (cL (k:=6) nZ.bD rfl (Or.inl rfl) (yw (Sn (dj ap) (Tw (v6 (v6 (v6 (v6 (v6 Tu))))) rfl rfl (by simp) (by simp) (by decide +kernel) (by decide)) (ae 4) (λ _ _=>rfl))))
  (a5 (cI (gL.at (jn (b5 pP (ae 5) il (bW _)) (lJ (b5 (oJ (dj ap)) (bI bJ (bI bJ (ae 5) ay (λ _ _=>rfl)) ay (λ _ _=>rfl)) (ae 6) (bW _))))) (bw (b9 il)) c6)
  (a5 (cI (b5 (d3 (dj ap)) (ae 4) bN (bW _)) (a5 (cL (k:=7) nZ.bD rfl (Or.inl rfl) (cg tM ap (by omega) rfl (ah (bI bJ (ae 0) ay (λ _ _=>rfl)) (ah (ae 1) (ah (ae 2) (ah (b4 fS (ae 3) ay) aD))))))
  (a5 (cI (gL.at (jn (b5 pP (ae 7) il (bW _)) (lJ (b5 (oJ (dj ap)) (bI bJ (bI bJ (ae 7) ay (λ _ _=>rfl)) ay (λ _ _=>rfl)) bN (bW _))))) (bw (b9 il)) c6)
  (a5 (rS (ae 2) ay ay)
  (a5 (rS (ae 2) ay ay)
  (bw (b9 (cE (ah (cE (ah bN (ah (b4 fS (bI bJ (bI bJ (ae 5) ay (λ _ _=>rfl)) ay (λ _ _=>rfl)) (bI bJ (bI bJ (ae 7) ay (λ _ _=>rfl)) ay (λ _ _=>rfl))) aD))) (ah (cE aD) aD))))))))) c6)
  (a5 (rS (ae 2) ay ay)
  (bw (cI (b5 (d3 (dj ap)) (ae 4) bN (bW _)) (bw (cL (k:=0) nZ.bD rfl (Or.inl rfl) (bI bJ (ae 0) (b4 fS ay (oB vi rfl B.int su (ah (k4 (oJ (dj ap)) (bI bJ (bI bJ (ae 5) ay (λ _ _=>rfl)) ay (λ _ _=>rfl)) ay (bW _)) aD))) (λ _ _=>rfl)))) (bw (cI (b5 (d3 (dj ap)) (ae 4) bN (bW _)) (bw (Im (i:=0) (j:=1) rfl nZ.bD rfl rfl (by decide) rfl rfl (ah (bI bJ (bI bJ (ae 5) ay (λ _ _=>rfl)) ay (λ _ _=>rfl)) (ah (b4 fS (cE (ah (cE (ah (bI bJ (ae 0) ay (λ _ _=>rfl)) (ah (ae 1) aD))) aD)) (bI bJ (ae 5) ay (λ _ _=>rfl))) aD)))) (bw (Im (i:=0) (j:=1) rfl nZ.bD rfl rfl (by decide) rfl rfl (ah (bI bJ (bI bJ (ae 5) ay (λ _ _=>rfl)) (b4 fS ay (oB vi rfl B.int su (ah (k4 (d3 (dj ap)) (ae 4) bN (bW _)) aD))) (λ _ _=>rfl)) (ah (bI bJ (ae 5) ay (λ _ _=>rfl)) aD)))))))))))))))))))
  (a5 (rp ay (yy (ae 2) ay))
  (bw (b9 il)))),?_⟩
 refine ⟨λ m ρ ak=>∃(u:Tm)(az:Ev)(c1:bY)(km kn wb wc:Option D),ρ=[some u.enc,some az.enc,some (.ref lc),some (.int d),km,kn,wb,wc]/\ak=up G lc c1.lst/\u.cl az.len/\az.ok/\eN d az c1/\(∀ r c',dc d u az c1 r c'->dc d t e c r c')/\m=400 - c1.el,⟨_,t,e,c,_,_,_,_,rfl,by rw [GD p9],fx,bO,hr,λ _ _ h=>h,rfl⟩,?_⟩;rintro m ρ ak ⟨u,az,c1,km,kn,wb,wc,rfl,rfl,bx,he,cv,aC,rfl⟩;have stop:¬ On d c1->bp ax .br (up G lc c1.th.lst):=λ h=>bp.of (q none c1.th (aC _ _ (.cut h)));refine gZ aG (d:=.int c1.el) rfl ?_;by_cases Db:c1.el < 400
 case neg=>
  refine aS.no (by simp;omega) (aS.no rfl (bQ aG ⟨5,rfl,?_⟩));rw [dh];exact stop (λ h=>Db h.1)
 by_cases Jv:d < 120
 case neg=>
  refine aS.yes (by simp;omega) (aS.no (by simp;omega) (bQ aG ⟨5,rfl,?_⟩));rw [dh];exact stop (λ h=>Jv h.2)
 have c5:On d c1:=⟨Db,Jv⟩
 refine aS.yes (by simp;omega) (aS.yes (by simp;omega) ?_);refine bQ aG ⟨0,c1.el,rfl,by decide,rfl,bQ aG ⟨rfl,?_⟩⟩;rw [dh]
 cases u with
 | whole i=>exact ⟨rfl,rfl,λ _=>bp.of (q _ c1.t0 (aC _ _ (.val c5 rfl))),λ c=>absurd c (by decide)⟩
 | way b=>exact ⟨rfl,rfl,λ _=>bp.of (q _ c1.t0 (aC _ _ (.val c5 rfl))),λ c=>absurd c (by decide)⟩
 | pair a b=>exact ⟨rfl,rfl,λ _=>bp.of (q _ c1.t0 (aC _ _ (.val c5 rfl))),λ c=>absurd c (by decide)⟩
 | name k=>
  refine ⟨rfl,rfl,λ c=>absurd c (by decide),λ _=>aS.yes (sEq _) ?_⟩;refine bQ aG ⟨1,c1.eV,rfl,by decide,rfl,bQ aG ⟨rfl,?_⟩⟩;rw [dh];obtain ⟨t',e',g1,g2,g3,hU⟩:=Ev.yW he bx
  conv=>whnf
  rw [show ya az.encL (k:Int)=some (.tup [t'.enc,e'.enc]) from (yb _ _).trans (nk (Ev.BW az k g1))];refine ip.of ⟨400 - (c1.el+1),by omega,t',e',c1.t0.t1,_,_,_,_,rfl,rfl,g2,g3,⟨jb cv.a,Db,cv.f,e5 hU cv.t,jb cv.d⟩,λ r c' h=>aC _ _ (.name c5 g1 h),rfl⟩
 | first p=>
  refine ⟨rfl,rfl,λ c=>absurd c (by decide),λ _=>aS.no (dt (by decide)) ?_⟩;refine bQ aG ⟨2,c1.dx,rfl,by decide,rfl,bQ aG ⟨rfl,?_⟩⟩;rw [dh];refine ⟨p,az,lc,c1.t0,d+1,rfl,bx,he,(show eN (d+1) az c1.t0 from ⟨(cv.t0 c5).a,(cv.t0 c5).b,(cv.t0 c5).f,(cv.t0 c5).t,(cv.t0 c5).d⟩),by omega,by omega,aG,λ r c' h=>?_⟩;rw [dh];have mS:=h.ok bx he;intro fX oX;refine vK aG ⟨.inr "first", .str "pair", rfl,rfl,_,Sub.new (Sub.refl _) oX,?_⟩
  cases r with
  | none=>exact aS.yes rfl (aS.yes rfl (bp.of (q none c' (aC _ _ (.tq c5 h nofun)))))
  | some z=>
   obtain ⟨v,aW⟩:=z;obtain ⟨ec,cF,fw⟩:=mS;refine aS.no rfl ?_;have oY:=h.fz.o;have mT:=h.top cv.t;simp only [cU,oT] at oY mT
   cases v with
   | pair a b=>
    refine aS.no rfl ?_;refine aS.no (dt (by decide)) ?_;refine bQ aG ⟨3,c'.d8,rfl,by decide,rfl,bQ aG ⟨rfl,?_⟩⟩;rw [dh];refine aS.no (dt (by decide)) (aS.no (dt (by decide)) ?_);refine ip.of ⟨400 - c'.el,by omega,a,aW,c'.t3,_,_,_,_,rfl,rfl,ec.1,cF,(eN.nx (c:=c1.t0) (c1:=c') (c2:=c'.t3) cv rfl rfl h cv.f c5 rfl (f_ _) (b7 _) rfl (jb mT) (f_ _)),λ r ze ao=>aC _ _ (.first c5 h ao),rfl⟩
   | whole i=>exact aS.yes rfl (bp.of (q none c' (aC _ _ (.tq c5 h (by simp)))))
   | way b=>exact aS.yes rfl (bp.of (q none c' (aC _ _ (.tq c5 h (by simp)))))
   | _=>cases fw
 | second p=>
  refine ⟨rfl,rfl,λ c=>absurd c (by decide),λ _=>aS.no (dt (by decide)) ?_⟩;refine bQ aG ⟨2,c1.dx,rfl,by decide,rfl,bQ aG ⟨rfl,?_⟩⟩;rw [dh];refine ⟨p,az,lc,c1.t0,d+1,rfl,bx,he,(show eN (d+1) az c1.t0 from ⟨(cv.t0 c5).a,(cv.t0 c5).b,(cv.t0 c5).f,(cv.t0 c5).t,(cv.t0 c5).d⟩),by omega,by omega,aG,λ r c' h=>?_⟩;rw [dh];have mS:=h.ok bx he;intro fX oX;refine vK aG ⟨.inr "second", .str "pair", rfl,rfl,_,Sub.new (Sub.refl _) oX,?_⟩
  cases r with
  | none=>exact aS.yes rfl (aS.yes rfl (bp.of (q none c' (aC _ _ (.tr c5 h nofun)))))
  | some z=>
   obtain ⟨v,aW⟩:=z;obtain ⟨ec,cF,fw⟩:=mS;refine aS.no rfl ?_;have oY:=h.fz.o;have mT:=h.top cv.t;simp only [cU,oT] at oY mT
   cases v with
   | pair a b=>
    refine aS.no rfl ?_;refine aS.no (dt (by decide)) ?_;refine bQ aG ⟨3,c'.d8,rfl,by decide,rfl,bQ aG ⟨rfl,?_⟩⟩;rw [dh];refine aS.no (dt (by decide)) (aS.no (dt (by decide)) ?_);refine ip.of ⟨400 - c'.el,by omega,b,aW,c'.t3,_,_,_,_,rfl,rfl,ec.2,cF,(eN.nx (c:=c1.t0) (c1:=c') (c2:=c'.t3) cv rfl rfl h cv.f c5 rfl (f_ _) (b7 _) rfl (jb mT) (f_ _)),λ r ze ao=>aC _ _ (.second c5 h ao),rfl⟩
   | whole i=>exact aS.yes rfl (bp.of (q none c' (aC _ _ (.tr c5 h (by simp)))))
   | way b=>exact aS.yes rfl (bp.of (q none c' (aC _ _ (.tr c5 h (by simp)))))
   | _=>cases fw
 | give p nv=>
  refine ⟨rfl,rfl,λ c=>absurd c (by decide),λ _=>aS.no (dt (by decide)) ?_⟩;refine bQ aG ⟨2,c1.dx,rfl,by decide,rfl,bQ aG ⟨rfl,?_⟩⟩;rw [dh];refine ⟨p,az,lc,c1.t0.cR,d+1,rfl,bx.1,he,(show eN (d+1) az c1.t0.cR from ⟨(cv.t0 c5).a,(cv.t0 c5).b,(cv.t0 c5).f,(cv.t0 c5).t,(cv.t0 c5).d⟩),by omega,by omega,aG,λ r c' h=>?_⟩;rw [dh];have mS:=h.ok bx.1 he;intro fX oX;refine vK aG ⟨.inr "give", .str "way", rfl,rfl,_,Sub.new (Sub.refl _) oX,?_⟩
  cases r with
  | none=>exact aS.yes rfl (aS.yes rfl (bp.of (q none c' (aC _ _ (.tp c5 h nofun)))))
  | some z=>
   obtain ⟨v,aW⟩:=z;obtain ⟨ec,cF,fw⟩:=mS;refine aS.no rfl ?_;have oY:=h.fz.o;have mT:=h.top cv.t;simp only [cU,oT] at oY mT
   cases v with
   | way b=>
    refine aS.no rfl ?_;refine aS.no (dt (by decide)) ?_;refine bQ aG ⟨3,c'.d8,rfl,by decide,rfl,bQ aG ⟨rfl,?_⟩⟩;rw [dh];refine aS.no (dt (by decide)) (aS.yes (sEq _) ?_);have aP:=aW.yX
    have ag:=(eN.nx (e':=.nil) (d':=d) (c:=c1.t0.cR) (c1:=c') (c2:=c'.t3) cv rfl rfl h cv.f c5 rfl (f_ _) (b7 _) rfl (f9 _) (f_ _))
    refine ⟨fU (by rw [eb,hu,Ev.H4];have:=ag.a;have:=ag.b;simp only at *;omega),?_⟩;refine ip.of ⟨400 - c'.el,by omega,b,.cons nv az aW,c'.t3,_,_,_,_,rfl,rfl,ec,⟨bx.2,he,cF⟩,(eN.nx (c:=c1.t0.cR) (c1:=c') (c2:=c'.t3) cv rfl rfl h cv.f c5 rfl (f_ _) (b7 _) rfl (by have:=cv.t;have:=h.fz.p;simp only [Ev.top] at *;omega) (f_ _)),λ r ze ao=>aC _ _ (.give c5 h ao),rfl⟩
   | whole i=>exact aS.yes rfl (bp.of (q none c' (aC _ _ (.tp c5 h (by simp)))))
   | pair a b=>exact aS.yes rfl (bp.of (q none c' (aC _ _ (.tp c5 h (by simp)))))
   | _=>cases fw
 | look p nv s0=>
  refine ⟨rfl,rfl,λ c=>absurd c (by decide),λ _=>aS.no (dt (by decide)) ?_⟩;refine bQ aG ⟨2,c1.dx,rfl,by decide,rfl,bQ aG ⟨rfl,?_⟩⟩;rw [dh];refine ⟨p,az,lc,c1.t0,d+1,rfl,bx.1,he,(show eN (d+1) az c1.t0 from ⟨(cv.t0 c5).a,(cv.t0 c5).b,(cv.t0 c5).f,(cv.t0 c5).t,(cv.t0 c5).d⟩),by omega,by omega,aG,λ r c' h=>?_⟩;rw [dh];have mS:=h.ok bx.1 he;intro fX oX;refine vK aG ⟨.inr "look", .str "whole", rfl,rfl,_,Sub.new (Sub.refl _) oX,?_⟩
  cases r with
  | none=>exact aS.yes rfl (aS.yes rfl (bp.of (q none c' (aC _ _ (.tv c5 h nofun)))))
  | some z=>
   obtain ⟨v,aW⟩:=z;obtain ⟨ec,cF,fw⟩:=mS;refine aS.no rfl ?_;have oY:=h.fz.o;have mT:=h.top cv.t;simp only [cU,oT] at oY mT
   cases v with
   | whole i=>
    refine aS.no rfl ?_;refine aS.no (dt (by decide)) ?_;refine bQ aG ⟨3,c'.d8,rfl,by decide,rfl,bQ aG ⟨rfl,?_⟩⟩;rw [dh];refine aS.yes (sEq _) ?_;refine iH (d:=(Tm.whole i).enc) ?_ ?_
    ·rfl
    refine iH (d:=.int i) ?_ ?_
    ·rfl
    by_cases aA:i=0
    ·refine iH (d:=nv.enc) ?_ ?_
     ·subst aA;rfl
     refine ip.of ⟨400 - c'.el,by omega,nv,az,c'.t3,_,_,_,_,rfl,rfl,bx.2.1,he,(eN.nx (c:=c1.t0) (c1:=c') (c2:=c'.t3) cv rfl rfl h cv.f c5 rfl (f_ _) (b7 _) rfl (jb (e5 cv.t h.fz.p)) (f_ _)),λ r ze ao=>aC _ _ (.look c5 h (by rw [if_pos aA];exact ao)),rfl⟩
    ·refine iH (d:=s0.enc) ?_ ?_
     ·rw [show (i==0)=false by simpa using aA];rfl
     refine ip.of ⟨400 - c'.el,by omega,s0,az,c'.t3,_,_,_,_,rfl,rfl,bx.2.2,he,(eN.nx (c:=c1.t0) (c1:=c') (c2:=c'.t3) cv rfl rfl h cv.f c5 rfl (f_ _) (b7 _) rfl (jb (e5 cv.t h.fz.p)) (f_ _)),λ r ze ao=>aC _ _ (.look c5 h (by rw [if_neg aA];exact ao)),rfl⟩
   | way b=>exact aS.yes rfl (bp.of (q none c' (aC _ _ (.tv c5 h (by simp)))))
   | pair a b=>exact aS.yes rfl (bp.of (q none c' (aC _ _ (.tv c5 h (by simp)))))
   | _=>cases fw
 | plus p nv=>
  refine ⟨rfl,rfl,λ c=>absurd c (by decide),λ _=>aS.no (dt (by decide)) ?_⟩;refine bQ aG ⟨2,c1.dx,rfl,by decide,rfl,bQ aG ⟨rfl,?_⟩⟩;rw [dh];refine ⟨p,az,lc,c1.t0,d+1,rfl,bx.1,he,(show eN (d+1) az c1.t0 from ⟨(cv.t0 c5).a,(cv.t0 c5).b,(cv.t0 c5).f,(cv.t0 c5).t,(cv.t0 c5).d⟩),by omega,by omega,aG,λ r c' h=>?_⟩;rw [dh];have mS:=h.ok bx.1 he;intro fX oX;refine vK aG ⟨.inr "plus", .str "whole", rfl,rfl,_,Sub.new (Sub.refl _) oX,?_⟩
  cases r with
  | none=>exact aS.yes rfl (aS.yes rfl (bp.of (q none c' (aC _ _ (.ts c5 h nofun)))))
  | some z=>
   obtain ⟨v,aW⟩:=z;obtain ⟨ec,cF,fw⟩:=mS;refine aS.no rfl ?_;have oY:=h.fz.o;have mT:=h.top cv.t;simp only [cU,oT] at oY mT
   cases v with
   | whole i=>
    refine aS.no rfl ?_;refine aS.yes (sEq _) ?_;have e0:=eN.nx (c:=c1.t0) (c1:=c') (c2:=c') (e':=az) (d':=d+1) cv rfl rfl h cv.f c5 rfl (b7 _) (f_ _) rfl (e5 cv.t h.fz.p) (b7 _);refine ⟨nv,az,lc,c',d+1,rfl,bx.2,he,e0,by omega,by omega,aG,λ bB c2 ao=>?_⟩;rw [dh];have Ve:=ao.ok bx.2 he
    cases bB with
    | none=>exact aS.yes rfl (aS.yes rfl (bp.of (q none c2 (aC _ _ (.tu c5 h ao nofun)))))
    | some bU=>
     obtain ⟨v2,gm⟩:=bU;obtain ⟨gw,kl,Vf⟩:=Ve;refine aS.no rfl ?_
     cases v2 with
     | whole j=>
      refine aS.no rfl ?_;refine bQ aG ⟨4,c2.jX,rfl,by decide,rfl,bQ aG ⟨rfl,?_⟩⟩;rw [dh];refine bQ aG ⟨3,c2.d8,rfl,by decide,rfl,bQ aG ⟨rfl,?_⟩⟩;rw [dh];exact bp.of (q _ c2.mG.t3 (aC _ _ (.plus c5 h ao)))
     | way b=>exact aS.yes rfl (bp.of (q none c2 (aC _ _ (.tu c5 h ao (by simp)))))
     | pair a b=>exact aS.yes rfl (bp.of (q none c2 (aC _ _ (.tu c5 h ao (by simp)))))
     | _=>cases Vf
   | way b=>exact aS.yes rfl (bp.of (q none c' (aC _ _ (.ts c5 h (by simp)))))
   | pair a b=>exact aS.yes rfl (bp.of (q none c' (aC _ _ (.ts c5 h (by simp)))))
   | _=>cases fw
abbrev Dc:bE:=top 31
theorem wn:d0 ["_law_program_here", "_law_env", "_law_ways", "_law_room", "_law_deep"] ["_law_program_here", "_law_env", "_law_ways", "_law_room", "_law_deep"] (cp Dc):=⟨rfl,rfl,rfl,by decide +kernel,rfl,by decide +kernel,by decide +kernel⟩
theorem Vg:cO P w K mg base cQ 1 f fd ["_law_program_here", "_law_env", "_law_ways", "_law_room", "_law_deep"] (aT K (tz 0)):=nL λ ds G ax h=>by
 obtain ⟨_,_,_,_,_,_,_,_,_,af,_⟩:=h;omega
theorem Vh{n:Nat}(B:i9 mg)(wo:Got P w K mg base (n+1) "_law_filled" ["_law_program_here", "_law_env", "_law_ways", "_law_room", "_law_deep"] (aT K (tz n)))(F:dL K "_law_filled" "_law_filled" Dc f fd):cO P w K mg base cQ (n+2) f fd ["_law_program_here", "_law_env", "_law_ways", "_law_room", "_law_deep"] (aT K (tz (n+1))):=by
 refine eA (k:=n+1) F wn (λ ds G ax h=>?_) (λ bP A outer s H E ap ds G ax h=>?_)
 ·obtain ⟨_,_,_,_,_,_,rfl,_⟩:=h;rfl
 obtain ⟨t,e,w,fA,d,i,rfl,fx,bO,_,bc,p9,q⟩:=h
 refine ⟨_,(a5 (vq PassesOwn.never (gL.at (sW (b5 (d3 (dj ap)) (bI bJ (ae 0) ay (λ _ _=>rfl)) bN (bW _)) (va (b5 vf (bI bJ (ae 0) ay (λ _ _=>rfl)) (ae 2) (bW _))))) (a5 (rp (bI bJ (ae 1) (b4 eI (bI bJ (ae 0) ay (λ _ _=>rfl)) (ae 2)) (λ _ _=>rfl)) (vd (n:=2) rfl (nF (hW (k:=0) wn.bD rfl (Or.inl rfl)) (nF (hW (k:=1) wn.bD rfl (Or.inr rfl)) vb))))
  (bw (cL (k:=2) wn.bD rfl (Or.inr rfl) ay))))
  (a5 (Tx (ae 3) ay ay)
  (a5 (cI (b5 pO (ae 4) ay (bW _)) (bw (rp (u6 vg ay) (yy (ae 3) ay))) c6)
  (a5 (cI (gL.at (jn (b5 jp (bI bJ (ae 3) ay (λ _ _=>rfl)) ay (bW _)) (jn (b5 (d3 (dj ap)) (bI bJ (ae 0) ay (λ _ _=>rfl)) bN (bW _)) (lJ (b5 (d3 (dj ap)) (bI bJ (ae 0) ay (λ _ _=>rfl)) bN (bW _)))))) (bw (b9 (ae 0))) c6)
  (a5 (cL (k:=2) wn.bD rfl (Or.inr rfl) (b4 fS (ae 2) (oB vi rfl B.int su (ah (k4 (d3 (dj ap)) (bI bJ (ae 0) ay (λ _ _=>rfl)) bN (bW _)) aD))))
  (bw (b9 (b4 fS (cE (ah (bI bJ (ae 0) ay (λ _ _=>rfl)) aD)) (yw (oB ym rfl B.tuple qt (ah (A8 rfl (fD.of (N':=["_law_one", "_law_env", "_law_ways", "_law_room", "_law_deep"]) (nt:=1) (cap:=[1,2,3,4]) rfl (by kernel_rfl)) (nJ (k:=0) (by decide)) (rx (AQ AU (ae 0) (AP ay) AO)) (λ _ _ _ _=>(hW (k:=0) (show List.Nodup (["_law_one", "_law_env", "_law_ways", "_law_room", "_law_deep"]:List Str) by decide +kernel) rfl (Or.inl rfl))) (λ _ _ _ _=>(cg wo ap (by omega) rfl (ah (ae 0) (ah (ae 1) (ah (ae 2) (ah (ae 3) (ah (b4 fS (ae 4) ay) aD)))))))) aD))))))))))),?_⟩
 refine ⟨λ m ρ ak=>∃(u:Tm)(az:Ev)(dv:Nat),ρ=[some u.enc,some az.enc,some (.int dv),some (.ref fA),some (.int d)]/\ak=G/\u.cl (dv+az.len)/\az.ok/\u.d_ (g0 az.gh) dv=t.d_ (g0 e.gh) w/\m=az.p2,⟨_,t,e,w,rfl,rfl,fx,bO,rfl,rfl⟩,?_⟩;rintro m ρ ak ⟨u,az,dv,rfl,rfl,bx,he,hm,rfl⟩
 have ret:∀(j:Int),(0<=j->0<=i)->(0<=j->u.enc=(t.d_ (g0 e.gh) w).enc/\(t.d_ (g0 e.gh) w).bH+d<=90)->bp ax u.enc (up ak fA (mK j)):=λ j af ao=>by
  rw [u.pT] at ao ⊢;exact bp.of (q _ j af ao)
 by_cases Dd:∃ k,u=.name k
 ·obtain ⟨k,rfl⟩:=Dd;by_cases aC:dv<=k
  ·have Zx:k < dv+az.len:=bx;obtain ⟨t',e',g1,g2,g3,hU⟩:=Ev.yW he (show k - dv < az.len by omega);refine aS.yes (sEq _) (aS.yes (by simp;omega) ?_)
   conv=>whnf
   rw [show ya az.encL ((k:Int) - (dv:Int))=some (.tup [t'.enc,e'.enc]) from (yb _ _).trans (by rw [show (k:Int) - (dv:Int)=((k - dv:Nat):Int) by omega];exact nk (Ev.BW az _ g1))];refine ip.of ⟨e'.p2,Ev.H6 g1,t',e',0,rfl,rfl,by rw [Nat.zero_add];exact g2,g3,?_,rfl⟩;rw [<- hm];show _=g0 az.gh k dv;unfold g0;rw [if_pos aC,Ev.H5 az _ g1];rfl
  ·have em:t.d_ (g0 e.gh) w=.name k:=by
    rw [<- hm];show g0 az.gh k dv=_;unfold g0;rw [if_neg aC]
   rw [em] at ret;refine aS.yes (sEq _) (aS.no (by simp;omega) ?_);refine bQ p9 ⟨0,i,rfl,by decide,rfl,bQ p9 ⟨rfl,?_⟩⟩;by_cases hd:90 < d
   ·refine aS.yes (by simp;omega) (bQ aG ⟨0,rfl,?_⟩);rw [dh];refine gZ aG (d:=.int (-1)) rfl (aS.yes rfl (aS.yes rfl ?_));exact ret (-1) (by omega) (by omega)
   ·refine aS.no (by simp;omega) ?_;refine gZ aG (d:=.int (i - 1)) rfl ?_;by_cases aA:i - 1 < 0
    ·exact aS.yes (by simpa using aA) (aS.yes rfl (ret (i - 1) (by omega) (by omega)))
    ·refine aS.no (by simpa using aA) (aS.no (dt (by decide)) (aS.yes (sEq _) ?_));exact ret (i - 1) (by omega) (λ _=>⟨rfl,by show 0+d<=90;omega⟩)
 ·have hw:(u.word=="name")=false:=by
   cases u with
   | name k=>exact absurd ⟨k,rfl⟩ Dd
   | _=>rfl
  have mQ:∀ X:Prop,True->True:=λ _ _=>trivial;rw [u.pT];refine aS.no hw (aS.no rfl ?_);refine bQ p9 ⟨0,i,rfl,by decide,rfl,bQ p9 ⟨rfl,?_⟩⟩;rw [u.pT] at ret;by_cases hd:90 < d
  ·refine aS.yes (by simp;omega) (bQ aG ⟨0,rfl,?_⟩);rw [dh];refine gZ aG (d:=.int (-1)) rfl (aS.yes rfl (aS.yes rfl ?_));exact ret (-1) (by omega) (by omega)
  ·refine aS.no (by simp;omega) ?_;refine gZ aG (d:=.int (i - 1)) rfl ?_;by_cases aA:i - 1 < 0
   ·exact aS.yes (by simpa using aA) (aS.yes rfl (ret (i - 1) (by omega) (by omega)))
   ·refine aS.no (by simpa using aA) ?_;by_cases De:∃ k,u=.whole k
    ·obtain ⟨k,rfl⟩:=De;refine aS.yes (sEq _) (aS.yes rfl ?_);exact ret (i - 1) (by omega) (λ _=>⟨by rw [<- hm];rfl,by rw [<- hm];show 0+d<=90;omega⟩)
    ·have zf:u.leaf=false:=by
      cases u with
      | name k=>exact absurd ⟨k,rfl⟩ Dd
      | whole k=>exact absurd ⟨k,rfl⟩ De
      | _=>rfl
     have Vi:(u.word=="whole")=false:=by
      cases u with
      | whole k=>exact absurd ⟨k,rfl⟩ De
      | _=>rfl
     refine aS.no Vi (aS.no hw ?_);have zg:=Tm.Sh zf;rw [u.pT] at zg
     have q4:u.args=u.aL.map Tm.enc:=by injection zg with zg;exact (List.cons.inj zg).2
     have gQ:=u.gy
     have yA:t.d_ (g0 e.gh) w=u.k9 (u.aL.map λ x=>x.d_ (g0 az.gh) (u.cq dv)):=by rw [<- hm,Tm.Hu zf]
     have Vj:(t.d_ (g0 e.gh) w).enc=.tup (.str u.word::u.aL.map λ x=>(x.d_ (g0 az.gh) (u.cq dv)).enc):=by rw [yA,Tm.pV zf (b3 ..),h5];rfl
     refine oE (λ m ds Df=>∃ j,Df=up ak fA (mK j)/\ds.length=m/\(0<=j->0<=i)/\(0<=j->ds=(u.aL.take m).map (λ x=>(x.d_ (g0 az.gh) (u.cq dv)).enc)/\∀ x∈u.aL.take m,(x.d_ (g0 az.gh) (u.cq dv)).bH+(d+1)<=90)) ?_ ⟨i - 1,rfl,rfl,by omega,λ _=>⟨rfl,λ x aq=>by rw [List.take_zero] at aq;cases aq⟩⟩ (λ _ _ _ _ _=>trivial) ?_ ?_
     ·show (cut (D.str u.word::u.args) (some 1) none).length < _;rw [show cut (D.str u.word::u.args) (some 1) none=u.args from BA (k:=0) (by simp),q4];exact dm (by rw [b3];omega)
     ·rintro m x ds Df aq ⟨j,rfl,aP,d4,od⟩;have je:(cut (D.str u.word::u.args) (some 1) none)[m]?=some x:=aq;rw [show cut (D.str u.word::u.args) (some 1) none=u.args from BA (k:=0) (by simp),q4,gT] at je
      cases ex:u.aL[m]? with
      | none=>rw [ex] at je;cases je
      | some y=>
       rw [ex] at je;cases je;have aQ:=kJ ex;refine ⟨y,az,u.cq dv,fA,d+1,j,by rw [Tr];rfl,Tq bx aQ,he,by omega,by omega,aG,λ xs AB af ao=>iK.of ⟨AB,dh,by rw [hN,aP];rfl,λ z=>d4 (af z),λ z=>?_⟩⟩;obtain ⟨a1,a2⟩:=od (af z);obtain ⟨cv,e0⟩:=ao z;refine ⟨?_,λ x aq=>?_⟩
       ·rw [a1,cv,lw,ex,ff];rfl
       ·rw [lw,ex] at aq;rcases kH.mp aq with aq | aq
        ·exact a2 x aq
        ·rw [pc.mp aq];exact e0
     ·rintro ds Df ⟨j,rfl,aP,d4,od⟩ p aj
      have lR:(cut (D.str u.word::u.args) (some 1) none).length=u.aL.length:=by
       rw [show cut (D.str u.word::u.args) (some 1) none=u.args from BA (k:=0) (by simp),q4,b3]
      have vL:ds.length=u.aL.length:=by rw [<- lR];exact aP
      refine cC aG ⟨_,Sub.new (Sub.refl _) aj,fU (by simp only [eb,hu,vL];omega),bp.of (q (.str u.word::ds) j d4 λ z=>?_)⟩;have aF:=od z;rw [show ({ items:=cut (D.str u.word::u.args) (some 1) none,held:=λ _=>True }:hG).items.length=u.aL.length from lR,wT] at aF;obtain ⟨a1,a2⟩:=aF;refine ⟨by rw [Vj,a1],?_⟩
      have Vk:(t.d_ (g0 e.gh) w).bH<=90 - d:=by
       refine Tp λ x aq=>?_;rw [yA,To zf (b3 ..)] at aq;obtain ⟨y,aQ,rfl⟩:=h4.mp aq;have:=a2 y aQ;omega
      omega
abbrev Dg:bE:=top 32
theorem tN:d0 ["_law_program_here", "_law_env", "_law_count", "_law_room", "_law_deep", "_law_found", "_law_one", "_law_other"] ["_law_program_here", "_law_env", "_law_count", "_law_room", "_law_deep"] (cp Dg):=⟨rfl,rfl,rfl,by decide +kernel,rfl,by decide +kernel,by decide +kernel⟩
theorem Vl:cO P w K mg base cQ 2 f fd ["_law_program_here", "_law_env", "_law_count", "_law_room", "_law_deep"] (aT K (v5 0)):=nL λ ds G ax h=>by
 obtain ⟨_,_,_,_,_,_,_,_,_,_,_,af,ao,_⟩:=h;omega
theorem Vm{n:Nat}(B:i9 mg)(tM:Got P w K mg base (n+2) "_law_head" ["_law_program_here", "_law_env", "_law_count", "_law_deep"] (aT K (v4 (n+1))))(wo:Got P w K mg base (n+2) "_law_filled" ["_law_program_here", "_law_env", "_law_ways", "_law_room", "_law_deep"] (aT K (tz (n+1))))(tO:Got P w K mg base (n+2) "_law_answer" ["_law_program_here", "_law_env", "_law_count", "_law_room", "_law_deep"] (aT K (v5 n)))(F:dL K "_law_answer" "_law_answer" Dg f fd):cO P w K mg base cQ (n+3) f fd ["_law_program_here", "_law_env", "_law_count", "_law_room", "_law_deep"] (aT K (v5 (n+1))):=by
 refine eA (k:=n+2) F tN (λ ds G ax h=>?_) (λ bP A outer s H E ap ds G ax h=>?_)
 ·obtain ⟨_,_,_,_,_,_,_,rfl,_⟩:=h;rfl
 obtain ⟨t,e,lc,fA,c,d,i,rfl,fx,bO,hr,hd,bc,ne,p9,dk,q⟩:=h
 refine ⟨_,(a5 (cL (k:=5) tN.bD rfl (Or.inl rfl) (cg tM ap (by omega) rfl (ah (ae 0) (ah (ae 1) (ah (ae 2) (ah (ae 4) aD))))))
  (a5 (cI (b5 pP (ae 5) il (bW _)) (bw (b9 il)) c6)
  (a5 (rp (ae 5) (vd (n:=2) rfl (nF (hW (k:=0) tN.bD rfl (Or.inl rfl)) (nF (hW (k:=1) tN.bD rfl (Or.inl rfl)) vb))))
  (a5 (cI (b5 (oJ (dj ap)) (bI bJ (ae 0) ay (λ _ _=>rfl)) bN (bW _)) (bw (b9 (cg wo ap (by omega) rfl (ah (ae 0) (ah (ae 1) (ah ay (ah (ae 3) (ah (ae 4) aD)))))))) c6)
  (a5 (cL (k:=6) tN.bD rfl (Or.inl rfl) (cg tO ap (by omega) rfl (ah (bI bJ (ae 0) ay (λ _ _=>rfl)) (ah (ae 1) (ah (ae 2) (ah (ae 3) (ah (b4 fS (ae 4) ay) aD)))))))
  (a5 (cI (b5 pP (ae 6) il (bW _)) (bw (b9 il)) c6)
  (a5 (cL (k:=7) tN.bD rfl (Or.inl rfl) (cg tO ap (by omega) rfl (ah (bI bJ (ae 0) ay (λ _ _=>rfl)) (ah (ae 1) (ah (ae 2) (ah (ae 3) (ah (b4 fS (ae 4) ay) aD)))))))
  (a5 (cI (b5 pP (ae 7) il (bW _)) (bw (b9 il)) c6)
  (a5 (rS (ae 2) ay ay)
  (bw (b9 (cE (ah bN (ah (ae 6) (ah (ae 7) aD))))))))))))))),?_⟩
 refine ⟨t,e,lc,c,d,rfl,fx,bO,hr,hd,bc,p9,λ r c1 h=>?_⟩;have mS:=h.ok fx bO
 have Dh:up G lc c1.lst fA=some (mK i):=by rw [bv (Ne.symm ne)];exact dk
 cases r with
 | none=>
  refine aS.yes rfl (bp.of ?_);have:=q none c1 .br i (.br h) id rfl;rw [GD Dh] at this;exact this
 | some z=>
  obtain ⟨v,aW⟩:=z;obtain ⟨ec,cF,fw⟩:=mS;have iX:=h.lt;refine aS.no rfl ?_
  have val:(∀ a b,v≠.pair a b)->tz (n+1) [v.enc,aW.enc,.int 0,.ref fA,.int d] (up G lc c1.lst) (bp ax):=λ bK=>
   ⟨v,aW,0,fA,d,i,rfl,by rw [Nat.zero_add];exact ec,cF,by omega,by omega,Dh,λ xs j af ao=>bp.of (q (some (.val v aW)) c1 (.tup xs) j (.val h bK) af ⟨⟨xs,rfl⟩,ao⟩)⟩
  cases v with
  | whole k=>exact aS.yes rfl (val (by simp))
  | way b=>exact aS.yes rfl (val (by simp))
  | pair a b=>
   refine aS.no rfl ?_;refine ⟨a,aW,lc,fA,c1,d+1,i,rfl,ec.1,cF,hr.hd h,by omega,by omega,ne,aG,Dh,λ be c2 am gw af Di v1=>?_⟩;rw [dh]
   cases be with
   | none=>
    cases (show am=.br from v1);exact aS.yes rfl (bp.of (q none c2 .br gw (.one h af) Di rfl))
   | some a1=>
    obtain ⟨⟨xs,rfl⟩,v1⟩:=v1;refine aS.no rfl ?_
    have Ar:up (up G lc c2.lst) fA (mK gw) lc=some c2.lst:=by rw [bv ne];exact aG
    refine ⟨b,aW,lc,fA,c2,d+1,gw,rfl,ec.2,cF,(hr.hd h).an af,by omega,by omega,ne,Ar,aG,λ bB hE aI kl ao Dj v2=>?_⟩;rw [B1 ne,dh]
    cases bB with
    | none=>
     cases (show aI=.br from v2);exact aS.yes rfl (bp.of (q none hE .br kl (.two h af ao) (λ z=>Di (Dj z)) rfl))
    | some a2=>
     obtain ⟨⟨a3,rfl⟩,v2⟩:=v2;refine aS.no rfl ?_
     have Jw:up (up G lc hE.lst) fA (mK kl) lc=some hE.lst:=by rw [bv ne];exact aG
     refine bQ Jw ⟨4,hE.jX,rfl,by decide,rfl,bQ Jw ⟨rfl,?_⟩⟩;rw [B1 ne];refine bp.of (q (some (.pair a1 a2)) hE.mG _ kl (.pair h af ao) (λ z=>Di (Dj z)) ⟨⟨_,rfl⟩,λ z=>?_⟩);obtain ⟨e2,e3⟩:=v2 z;obtain ⟨dv,eE⟩:=v1 (Dj z);refine ⟨by rw [dv,e2];rfl,?_⟩;show (Tm.pair a1.eT a2.eT).bH+d<=90;simp only [Tm.bH];omega
  | _=>cases fw
abbrev Dk:bE:=top 33
theorem Jx:d0 ["_law_machine", "_law_many", "_law_at"] ["_law_machine", "_law_many"] (cp Dk):=⟨rfl,rfl,rfl,by decide +kernel,rfl,by decide +kernel,by decide +kernel⟩
theorem Vn{bg Machine:Addr}(B:i9 mg)(bR:dI K Machine)(g_same:Got P w K mg base 96 "_law_same" ["_law_found", "_law_due"] (aT K (te 95)))(tP:ef P w K mg base 6 Machine "step" ["self"] (aT K (yR bg Machine)))(nY:ef P w K mg base 3 Machine "word" ["self"] (aT K (vW bg Machine)))(r_:ef P w K mg base 1 Machine "steps" ["self"] (aT K (lf bg Machine λ m=>.int m.steps)))(F:dL K "_law_going" "_law_going" Dk f fd):cO P w K mg base cQ 97 f fd ["_law_machine", "_law_many"] (aT K (B2 bg Machine)):=by
 refine eA (k:=96) F Jx (λ ds G ax h=>?_) (λ bP A outer s H E ap ds G ax h=>?_)
 ·obtain ⟨_,_,_,_,_,rfl,_⟩:=h;rfl
 obtain ⟨a,lm,c,n,PP,rfl,wp,bc,Vo,wq,Vp,Vq,q⟩:=h
 refine ⟨_,(a5 (A2 PassesOwn.never rfl (G2 rfl B.range (ah (ae 1) aD)) (hW (k:=2) Jx.bD rfl (Or.inl rfl)) (bw (cI (gL.at (jn (b5 (oJ (dj ap)) (gO bR nY ap (by omega) (ae 0)) bN (bW _)) (jn (u_ (iG (cg g_same ap (by omega) rfl (ah (gO bR r_ ap (by omega) (ae 0)) (ah (ae 2) aD))))) (lJ (b5 HY (gO bR tP ap (by omega) (ae 0)) jN (bW _)))))) (bw (b9 jN)) c6)))
  (bw (b9 (cg g_same ap (by omega) rfl (ah (gO bR r_ ap (by omega) (ae 0)) (ah (ae 1) aD)))))),?_⟩
 refine G0 (by omega) ?_;rw [w3];refine ⟨λ i ρ ak=>∃(ln:Option D)(c1:bC),ρ=[some (.ref a),some (.int n),ln]/\cN bg Machine ak a lm c1/\Fr a lm G ak/\c1.m.steps=i/\c1.m.stack.length<=i/\j1 c1 i/\After (n - i) c1 PP,⟨_,c,rfl,wp,.refl,Vo,by rw [wq];exact b7 _,Vp,Vq⟩,λ _ _ _ _ _=>trivial,?_,?_⟩
 ·rintro i d ρ av hd ⟨ln,c1,rfl,M,fr,aB,mP,eT,tQ⟩;obtain ⟨aA,rfl⟩:=A0 hd;rw [show n - i=(n - (i+1))+1 by omega] at tQ;obtain ⟨mQ,hy⟩:=tQ;refine ⟨bl M.im rfl,a,lm,c1,rfl,M,?_⟩;refine aS.no (show (!(kz c1=="going"))=false by rw [HW,mQ];rfl) ?_;refine ⟨bl M.im rfl,a,lm,c1,rfl,M,⟨.int i,by dsimp only;rw [aB,Int.zero_add],rfl,show 0 < 95 by decide,?_⟩⟩;refine aS.no rfl ?_;refine ⟨bl M.im rfl,a,lm,c1,rfl,M,by omega,λ _=>(iw.rank M.sw M.ms eT hy).more.mono λ c' ⟨⟨h',lQ⟩,ao,aF⟩ aU M2 r4=>?_,λ z=>absurd (mQ.symm.trans z) (by decide)⟩;exact aS.no rfl (ip.of ⟨_,c',rfl,M2,fr.trans r4,by rw [aF,aB],by omega,lQ,h'⟩)
 ·rintro ρ av ⟨ln,c1,rfl,M,fr,aB,mP,eT,tQ⟩;rw [vk] at aB mP eT tQ;rw [Nat.sub_self] at tQ;refine ⟨bl M.im rfl,a,lm,c1,rfl,M,⟨.int n,by dsimp only;rw [aB],rfl,show 0 < 95 by decide,bp.of (q av c1 M fr tQ aB mP eT)⟩⟩
abbrev tR:bE:=top 34
theorem p_:d0 ["_law_script", "_law_program_here", "_law_count", "_law_room", "_law_answer_here", "_law_machine", "_law_steps", "_law_due"] ["_law_script"] (cp tR):=⟨rfl,rfl,rfl,by decide +kernel,rfl,by decide +kernel,by decide +kernel⟩
theorem Vr{bg Machine T:Addr}{dF:Pos}(B:i9 mg)(bR:dI K Machine)(Dl:Got P w K mg base 1 "_law_feed" ["_law_script", "_law_k"] (aT K vy))(Dm:Got P w K mg base 92 "_law_program" ["_law_feed_here"] (aT K vR))(g_same:Got P w K mg base 96 "_law_same" ["_law_found", "_law_due"] (aT K (te 95)))(tO:Got P w K mg base 123 "_law_answer" ["_law_program_here", "_law_env", "_law_count", "_law_room", "_law_deep"] (aT K (v5 121)))(zh:Got P w K mg base 97 "_law_going" ["_law_machine", "_law_many"] (aT K (B2 bg Machine)))
 (Dn:rR P w K mg base 3 Machine "Machine" ["self", "program"] (aT K (BR bg Machine))) (tP:ef P w K mg base 6 Machine "step" ["self"] (aT K (yR bg Machine))) (nY:ef P w K mg base 3 Machine "word" ["self"] (aT K (vW bg Machine))) (Do:ef P w K mg base 6 Machine "program" ["self"] (aT K (BS bg Machine T dF)))
 (r_:ef P w K mg base 1 Machine "steps" ["self"] (aT K (lf bg Machine λ m=>.int m.steps))) (Dp:ef P w K mg base 1 Machine "rules" ["self"] (aT K (lf bg Machine λ m=>.int m.rules))) (Dq:ef P w K mg base 1 Machine "slips" ["self"] (aT K (lf bg Machine λ m=>.int m.slips))) (Dr:ef P w K mg base 1 Machine "look_ups" ["self"] (aT K (lf bg Machine λ m=>.int m.looks)))
 (F:dL K "law" "law" tR f fd):cO P w K mg base cQ 124 f fd ["_law_script"] (aT K (vI [(T,dF,"Slip.read.<locals>.filled")])):=by
 refine eA (k:=123) F p_ (λ ds G ax h=>?_) (λ bP A outer s H E ap ds G ax h=>?_)
 ·obtain ⟨_,rfl,_⟩:=h;rfl
 obtain ⟨ns,rfl,aP,uy,q⟩:=h;have dy:G T=some (.tab dF "Slip.read.<locals>.filled"):=uy _ (f7 ..)
 refine ⟨_,(a5 (cL (k:=1) p_.bD rfl (Or.inl rfl) (cg Dm ap (by omega) rfl (ah (cg Dl ap (by omega) rfl (ah (ae 0) (ah ay aD))) aD)))
  (a5 (cL (k:=2) p_.bD rfl (Or.inl rfl) (lH (ah ay (ah ay (ah ay (ah ay (ah ay (ah ay aD))))))))
  (a5 (cL (k:=3) p_.bD rfl (Or.inl rfl) (lH (ah ay aD)))
  (a5 (cL (k:=4) p_.bD rfl (Or.inl rfl) (cg tO ap (by omega) rfl (ah (ae 1) (ah (cE aD) (ah (ae 2) (ah (ae 3) (ah ay aD)))))))
  (a5 (cL (k:=5) p_.bD rfl (Or.inl rfl) (tj Dn ap (by omega) rfl (ah (ae 1) aD)))
  (a5 (cI (b5 (d3 (dj ap)) (bI bJ (ae 2) ay (λ _ _=>rfl)) ay (bW _)) (bw (b9 (u8 (cg zh ap (by omega) rfl (ah (ae 5) (ah ay aD))) (yd (k4 (d3 (dj ap)) (gO bR nY ap (by omega) (ae 5)) bN (bW _)))))) c6)
  (a5 (cL (k:=6) p_.bD rfl (Or.inl rfl) (b4 eI (b4 fS (bI bJ (ae 2) ay (λ _ _=>rfl)) (bI bJ (ae 2) ay (λ _ _=>rfl))) ay))
  (a5 (cI (gL.at (jn (u_ (iG (cg zh ap (by omega) rfl (ah (ae 5) (ah (ae 6) aD))))) (lJ (b5 HY (gO bR tP ap (by omega) (ae 5)) jN (bW _))))) (bw (b9 jN)) c6)
  (a5 (cI (b5 (oJ (dj ap)) (gO bR nY ap (by omega) (ae 5)) (rD (ah bN (ah bN aD)) (oB vi rfl B.int su (ah (k4 pP (ae 4) il (bW _)) aD)) (λ _ _=>rfl)) (bW _)) (bw (b9 jN)) c6)
  (a5 (cI (gL.at (sW (b5 GO (ae 4) il (bW _)) (sW (b5 vf (bI bJ (ae 3) ay (λ _ _=>rfl)) ay (bW _)) (va (b5 QZ (bI bJ (ae 2) ay (λ _ _=>rfl)) ay (bW _)))))) (bw (cI (u_ (iG (cg g_same ap (by omega) rfl (ah (gO bR Do ap (by omega) (ae 5)) (ah (ae 4) aD))))) (bw (b9 jN)) c6)) c6)
  (a5 (cL (k:=7) p_.bD rfl (Or.inl rfl) (cE (ah (ae 6) (ah (bI bJ (ae 2) ay (λ _ _=>rfl)) (ah (bI bJ (ae 2) ay (λ _ _=>rfl)) (ah (bI bJ (ae 2) ay (λ _ _=>rfl)) aD))))))
  (bw (b9 (cg g_same ap (by omega) rfl (ah (cE (ah (gO bR r_ ap (by omega) (ae 5)) (ah (gO bR Dp ap (by omega) (ae 5)) (ah (gO bR Dq ap (by omega) (ae 5)) (ah (gO bR Dr ap (by omega) (ae 5)) aD))))) (ah (ae 7) aD)))))))))))))))),?_⟩
 refine ⟨ns,rfl,aP,by decide,by decide,λ BC x0 Zy Jy=>?_⟩;refine ⟨.up,λ t av bV eQ Vk fx=>?_⟩
 have x2:T≠BC:=by rintro rfl;rw [dy] at Jy;cases Jy
 have zi:av T=some (.tab dF "Slip.read.<locals>.filled"):=bV.bS x2 (by rw [bv x2];exact dy);intro lc Jz fA Ds
 have Dt:T≠lc:=by rintro rfl;rw [zi] at Jz;cases Jz
 have wr:lc≠fA:=by rintro rfl;rw [aG] at Ds;cases Ds
 have JA:up av lc rX.lst T=some (.tab dF "Slip.read.<locals>.filled"):=by rw [bv Dt];exact zi
 have JB:T≠fA:=by rintro rfl;rw [show up av lc rX.lst T=none from Ds] at JA;cases JA
 refine ⟨t,.nil,lc,fA,rX,0,600,rfl,fx,trivial,⟨b7 _,by decide,rfl,b7 _,b7 _⟩,by decide,by decide,wr,by rw [bv wr];exact aG,aG,λ r c' x j h d4 bK=>?_⟩;rw [B1 wr,dh];intro a au
 have Du:fA≠a:=by rintro rfl;rw [aG] at au;cases au
 have Dv:lc≠a:=by rintro rfl;rw [bv wr,aG] at au;cases au
 have Dw:T≠a:=by rintro rfl;rw [bv JB,bv Dt,zi] at au;cases au
 refine ⟨a,t,rfl,aG,λ z hz=>(by have:=SL (n:=0) (w:=0) fx z hz;omega),by omega,λ p lm iZ wp fr=>⟨rfl,?_⟩⟩;have wt:iZ lc=some c'.lst:=fr lc _ Dv (by rw [bv Dv,bv wr];exact aG);have JC:iZ fA=some (mK j):=fr fA _ Du (by rw [bv Du];exact aG);have JD:iZ T=some (.tab dF "Slip.read.<locals>.filled"):=fr T _ Dw (by rw [bv Dw,bv JB,bv Dt];exact zi);have gQ:iZ lm=some (.lst []):=wp.g4
 have Vs:lc≠lm:=by rintro rfl;rw [wt] at gQ;cases gQ
 have Vt:fA≠lm:=by rintro rfl;rw [JC] at gQ;cases gQ
 have Vu:T≠lm:=by rintro rfl;rw [JD] at gQ;cases gQ
 have hr:eN 0 .nil rX:=⟨b7 _,by decide,rfl,b7 _,b7 _⟩
 have sim:=Tk h hr (oS p t) ⟨⟨t,[],t⟩,show fH (λ _=>none) p ⟨t,[],t⟩ p=_ from iu,rfl,rfl⟩ rfl rfl ⟨rfl,rfl,rfl,rfl⟩;have JE:j1 (oS p t) 0:=λ _ _ _=>b7 _;have fz:=h.fz;have iS:=fz.b;have C9:=fz.m (by decide);have C_:=fz.o;have Vv:(rX:bY).w=0:=rfl;refine gZ wt (d:=.int c'.e_) rfl ?_;rcases h.lK rfl with ⟨nM,zj⟩ | ⟨_,nM,zj⟩
 case inr=>
  have JF:=zj (b7 _);refine ⟨λ _=>?_,λ c=>absurd c (by rw [nM];decide)⟩;refine ⟨a,lm,oS p t,60,λ c=>c.iv=true,rfl,wp,by decide,rfl,rfl,JE,(sim.2 nM).pre (by rw [Vv];unfold bY.w;omega),λ oH fB et lD mQ _ _ _=>?_⟩;refine aS.yes rfl ⟨bl et.im rfl,a,lm,fB,rfl,et,?_⟩;rw [show kz fB = "going" by unfold kz;rw [mQ];rfl];exact bp.of (q _)
 refine ⟨λ c=>absurd c (by rw [nM];decide),λ _=>?_⟩;refine gZ wt (d:=.int c'.el) rfl ?_;refine gZ wt (d:=.int c'.jX) rfl ?_
 have ji:(c'.el:Int)+(c'.jX:Int) - 1=((c'.w - 1:Nat):Int):=by unfold bY.w;omega
 have u1:(rX:bY).el=0:=rfl;have hc:(rX:bY).jX=0:=rfl;rw [u1,hc] at iS;refine ⟨a,lm,oS p t,c'.w - 1,_,by rw [<- ji],wp,by unfold bY.w;omega,rfl,rfl,JE,sim.1 nM,λ oH fB et lD ⟨eg,bS,pQ⟩ Vw Zz Vx=>?_⟩;have lW:oH lc=some c'.lst:=lD lc _ Dv Vs wt;have Vy:oH fA=some (mK j):=lD fA _ Du Vt JC;have Vz:oH T=some (.tab dF "Slip.read.<locals>.filled"):=lD T _ Dw Vu JD
 have ZA:c'.w<=800:=by unfold bY.w;omega
 refine aS.no rfl ?_;have fin:∀ wu,cN bg Machine wu a lm fB->bp ax (.aO true) wu:=λ wu _=>bp.of (q _);have s1:fB.m.steps=c'.w - 1:=Vw;have s2:=eg.dw;have s3:=eg.b6;have s4:=eg.lo
 cases r with
 | none=>
  obtain ⟨wv,ep⟩:=pQ;cases (show x=.br from bK);refine ⟨bl et.im rfl,a,lm,fB,rfl,et,by omega,λ z=>absurd (z.symm.trans wv) (by decide),λ _=>?_⟩;refine aS.no rfl ?_;refine ⟨bl et.im rfl,a,lm,fB,rfl,et,?_⟩
  have hw:kz fB = "stuck":=by
   unfold kz;rw [wv]
   cases e:fB.m.stack with
   | nil=>exact absurd e ep
   | cons _ _=>rfl
  rw [hw];refine ta (aS.no rfl ?_);refine aS.no rfl (aS.no rfl ?_);refine gZ lW (d:=.int c'.d8) rfl ?_;refine gZ lW (d:=.int c'.dx) rfl ?_;refine gZ lW (d:=.int c'.eV) rfl ?_;refine ⟨bl et.im rfl,a,lm,fB,rfl,et,⟨bl et.im rfl,a,lm,fB,rfl,et,⟨bl et.im rfl,a,lm,fB,rfl,et,⟨bl et.im rfl,a,lm,fB,rfl,et,?_⟩⟩⟩⟩;refine ⟨.tup [.int (c'.w - 1:Nat),.int c'.d8,.int c'.dx,.int c'.eV],?_,rfl,show 1 < 95 by decide,bp.of (q _)⟩
  dsimp only
  rw [s1,s2,s3,s4,ji]
 | some an=>
  obtain ⟨A,hy⟩:=pQ;have wq:fB.m.stack=[]:=hy;obtain ⟨⟨xs,rfl⟩,bK⟩:=bK;obtain ⟨ZC,f1,f2,dl,f4⟩:=A.i8
  have wv:fB.iv=false:=by unfold bC.iv;rw [bC.yU f1,wq];exact f4
  refine ⟨bl et.im rfl,a,lm,fB,rfl,et,by omega,λ z=>absurd (z.symm.trans wv) (by decide),λ _=>?_⟩;refine aS.no rfl ?_;refine ⟨bl et.im rfl,a,lm,fB,rfl,et,?_⟩
  have hw:kz fB = "answer":=by unfold kz;rw [wv,wq];rfl
  rw [hw];refine ta (aS.no rfl ?_);refine aS.yes rfl ?_;refine gZ Vy (d:=.int j) rfl ?_;by_cases VA:0<=j
  case neg=>
   refine aS.no (by simp;omega) (aS.no rfl ?_);refine gZ lW (d:=.int c'.d8) rfl ?_;refine gZ lW (d:=.int c'.dx) rfl ?_;refine gZ lW (d:=.int c'.eV) rfl ?_;refine ⟨bl et.im rfl,a,lm,fB,rfl,et,⟨bl et.im rfl,a,lm,fB,rfl,et,⟨bl et.im rfl,a,lm,fB,rfl,et,⟨bl et.im rfl,a,lm,fB,rfl,et,?_⟩⟩⟩⟩;refine ⟨.tup [.int (c'.w - 1:Nat),.int c'.d8,.int c'.dx,.int c'.eV],?_,rfl,show 1 < 95 by decide,bp.of (q _)⟩
   dsimp only
   rw [s1,s2,s3,s4,ji]
  refine aS.yes (by simp;omega) ?_;refine gZ lW (d:=.int c'.d8) rfl ?_;by_cases ZD:c'.d8<=200
  case neg=>
   refine aS.no (by simp;omega) ?_;refine gZ lW (d:=.int c'.d8) rfl ?_;refine gZ lW (d:=.int c'.dx) rfl ?_;refine gZ lW (d:=.int c'.eV) rfl ?_;refine ⟨bl et.im rfl,a,lm,fB,rfl,et,⟨bl et.im rfl,a,lm,fB,rfl,et,⟨bl et.im rfl,a,lm,fB,rfl,et,⟨bl et.im rfl,a,lm,fB,rfl,et,?_⟩⟩⟩⟩;refine ⟨.tup [.int (c'.w - 1:Nat),.int c'.d8,.int c'.dx,.int c'.eV],?_,rfl,show 1 < 95 by decide,bp.of (q _)⟩
   dsimp only
   rw [s1,s2,s3,s4,ji]
  refine aS.yes (by simp;omega) ?_;obtain ⟨VB,g1,g2⟩:=A.c9 et.sw;obtain ⟨v1,v2⟩:=bK VA;refine ⟨bl et.im rfl,a,lm,fB,VB,rfl,et,g1,wq,λ b y e=>e5 (Vx b y e) (by omega),Vz,λ wu qa VC=>?_⟩;have Dx:wu lc=some c'.lst:=VC lc _ (et.Ts lW) lW;refine ⟨an.eT.enc,by rw [g2,v1],Tm.RP _,by rw [Tm.Bj];omega,?_⟩;refine aS.no rfl ?_;refine gZ Dx (d:=.int c'.d8) rfl ?_;refine gZ Dx (d:=.int c'.dx) rfl ?_;refine gZ Dx (d:=.int c'.eV) rfl ?_;refine ⟨bl qa.im rfl,a,lm,fB,rfl,qa,⟨bl qa.im rfl,a,lm,fB,rfl,qa,⟨bl qa.im rfl,a,lm,fB,rfl,qa,⟨bl qa.im rfl,a,lm,fB,rfl,qa,?_⟩⟩⟩⟩;refine ⟨.tup [.int (c'.w - 1:Nat),.int c'.d8,.int c'.dx,.int c'.eV],?_,rfl,show 1 < 95 by decide,bp.of (q _)⟩
  dsimp only
  rw [s1,s2,s3,s4,ji]
end
set_option maxHeartbeats 4000000
abbrev Dy:List (Addr × Addr):=[(70,66)]
abbrev Dz:List (Addr × Pos × Str):=[(66,vF p6,"Slip.read.<locals>.filled")]
theorem wLq{l:PySem.W.OpenLaw}{w:cG}{K:a6}{h:b2}{mg:Str->Option Value}{fa eB c4:Addr}(X:K.In h)(G:h.Ns eS mg)(VD:mg "law" = some (.ref fa))
 (VE:ZB K eS "Slip" = some (some (.ref eB))) (VF:so K eB Str.empty=true) (VG:t9 K eB=true) (VH:wZ K eB=true) (VI:gk K (.ref eB) "__setattr__" = some (some (.builtin "object.__setattr__"))) (lX:gk K (.ref eB) "part" = some none) (tS:gk K (.ref eB) "row" = some none) (zk:gk K (.ref eB) "told" = some none) (VJ:w0 K eB=true) (VK:kN K (.ref eB)=true) (VL:ZB K eS "Machine" = some (some (.ref c4))) (VM:so K c4 Str.empty=true) (VN:t9 K c4=true) (VO:wZ K c4=true) (VP:gk K (.ref c4) "__setattr__" = some (some (.builtin "object.__setattr__"))) (mU:gk K (.ref c4) "here" = some none) (zl:gk K (.ref c4) "paired" = some none) (tT:gk K (.ref c4) "stack" = some none) (DA:gk K (.ref c4) "steps_done" = some none) (DB:gk K (.ref c4) "rules_done" = some none) (DC:gk K (.ref c4) "slips_made" = some none) (DD:gk K (.ref c4) "looked_up" = some none) (VQ:w0 K c4=true) (VR:kN K (.ref c4)=true) (lP:DT K "inner" B8) (iS:DT K "names_in" Ca) (C9:DT K "ways_below" B_) (C_:DT K "with_names" Cb) (As:DM K eB "__init__" "Slip.__init__" Ce) (At:DM K eB "back" "Slip.back" Cm) (VS:DM K eB "unread" "Slip.unread" Cf) (VT:DMc K eB "read" "Slip.read" y3 70) (VU:DM K c4 "__init__" "Machine.__init__" CR) (VV:DM K c4 "step" "Machine.step" CN) (VW:DM K c4 "word" "Machine.word" CA) (VX:DM K c4 "top" "Machine.top" Cp) (VY:DM K c4 "meets" "Machine.meets" Cw) (VZ:DM K c4 "enters" "Machine.enters" Cz) (V0:DM K c4 "enter" "Machine.enter" CC) (V1:DM K c4 "look_up" "Machine.look_up" Cu) (V2:DM K c4 "within" "Machine.within" Cv) (V3:DM K c4 "meet" "Machine.meet" CH) (V4:DM K c4 "behind" "Machine.behind" CF) (V5:DM K c4 "program" "Machine.program" CS) (V6:DM K c4 "steps" "Machine.steps" Cq) (V7:DM K c4 "rules" "Machine.rules" Cr) (V8:DM K c4 "slips" "Machine.slips" Cs) (V9:DM K c4 "look_ups" "Machine.look_ups" Ct) (V_:DT K "around" oEq) (Wa:DT K "_law_feed" B6) (Wb:DT K "_law_take" B4) (Wc:DT K "_law_whole" B7) (Wd:DT K "_law_sort" CV) (We:DT K "_law_least" CX) (Wf:DT K "_law_made" CY) (Wg:DT K "_law_used" CZ) (Wh:DT K "_law_typed" C0) (Wi:DT K "_law_loop" C4) (Wj:DT K "_law_wild" C8) (Wk:DT K "_law_parts" B9) (Wl:DT K "_law_program" C5) (Wm:DT K "_law_same" Cc) (Wn:DT K "_law_head" Da) (Wo:DT K "_law_filled" Dc) (Wq:DT K "_law_answer" Dg) (Wr:DT K "_law_going" Dk) (Ws:DT K "law" tR) (u1:ZB K eS "len" = some none) (bF:ZB K eS "isinstance" = some none) (bU:ZB K eS "range" = some none) (dg:ZB K eS "int" = some none) (hc:ZB K eS "bool" = some none) (nM:ZB K eS "str" = some none) (zj:ZB K eS "tuple" = some none) (JF:ZB K eS "list" = some none) (Wt:ZB K eS "zip" = some none) (uH:ZB K eS "sum" = some none) (Wu:ZB K eS "reversed" = some none) (Wv:ZB K eS "max" = some none) (Ww:ZB K eS "min" = some none) (Wx:ZB K eS "all" = some none)
  {zm:Addr} (aK0:ZB K eS "MARK_FOR" = some (some (.ref zm)))
  {DE:Array DictEntry} {Wy:Nat} (aK1:K.lookup zm=some ⟨.type "dict", none,.dict DE Wy,#[]⟩)
  (aK2:(zm==kD)=false)
 (aK3:PySem.W.KeysLit w.params DE.toList)
  (aK4:j4 (λ(cA:Str × V) (e:DictEntry)=>(∃ t1,e.key=.str cA.1 t1)/\RelV cA.2 e.val) H2 DE.toList)
  {zn:Addr} (aM0:ZB K eS "MEETS" = some (some (.ref zn)))
  {ej DF DG:Addr}
  {DH:Array DictEntry} {Wz:Nat} (aM1:K.lookup zn=some ⟨.type "dict", none,.dict DH Wz,#[]⟩)
  (aM2:(zn==kD)=false)
 (aM3:PySem.W.KeysLit w.params DH.toList)
  (aM4:j4 (λ(cA:Str × V) (e:DictEntry)=>(∃ t1,e.key=.str cA.1 t1)/\RelV cA.2 e.val) [("way", .ref ej),("pair", .ref DF),("whole", .ref DG)] DH.toList)
  {DI:Array Value} {WA:Nat} (mA1:K.lookup ej=some ⟨.type "tuple", none,.seq DI WA,#[]⟩)
  (mA2:jB DI.size 1000=true)
  (mA3:Vals [V.str "slip", V.str "both", V.str "beside"] DI.toList)
  {DJ:Array Value} {WB:Nat} (mB1:K.lookup DF=some ⟨.type "tuple", none,.seq DJ WB,#[]⟩)
  (mB2:jB DJ.size 1000=true)
  (mB3:Vals [V.str "first", V.str "second"] DJ.toList)
  {DK:Array Value} {WC:Nat} (mC1:K.lookup DG=some ⟨.type "tuple", none,.seq DK WC,#[]⟩)
  (mC2:jB DK.size 1000=true)
  (mC3:Vals [V.str "plus", V.str "had", V.str "look", V.str "both", V.str "beside"] DK.toList)
  {zo:Addr} (aR0:ZB K eS "RULE_MARKS" = some (some (.ref zo)))
  {DL:Array Value} {WD:Nat} (aR1:K.lookup zo=some ⟨.type "tuple", none,.seq DL WD,#[]⟩)
  (aR2:jB DL.size 1000=true)
  (aR3:Vals [V.str "slip", V.str "first", V.str "second", V.str "had", V.str "look"] DL.toList)
  {JG:Addr} (aP0:ZB K eS "PAIR_OF_SLIPS" = some (some (.ref JG)))
  {JH JI:Addr}
  {DN:Array Value} {WE:Nat} (aP1:K.lookup JG=some ⟨.type "tuple", none,.seq DN WE,#[]⟩)
  (aP2:jB DN.size 1000=true)
  (aP3:Vals [V.str "pair", .ref JH,.ref JI] DN.toList)
  {DO:Array Value} {WG:Nat} (pB1:K.lookup JH=some ⟨.type "tuple", none,.seq DO WG,#[]⟩)
  (pB2:jB DO.size 1000=true)
  (pB3:Vals [V.str "name", V.int 0] DO.toList)
  {DP:Array Value} {WH:Nat} (pC1:K.lookup JI=some ⟨.type "tuple", none,.seq DP WH,#[]⟩)
  (pC2:jB DP.size 1000=true)
  (pC3:Vals [V.str "name", V.int 1] DP.toList)
  : ∃ fd:gA,(∀(s:aM)(v:Value),si s fd ⟨[v],[]⟩ [("_law_script", v)])/\∀ base:b2,K.In base->base.Ns eS mg->(∀ q∈Dy,PySem.W.CodeHd base q.1 q.2)->nB mg base->cO l.prog w K mg base cQ 124 fa fd ["_law_script"] ((λ K=>aT K (vI Dz)) K):=by
  have db:dI K eB:=⟨VF,VG,VH,VI⟩
  have WI:=fJ X G VE
  have bR:dI K c4:=⟨VM,VN,VO,VP⟩
  have WJ:=fJ X G VL;obtain ⟨f0,_,WK,DQ⟩:=lP.ok;have WL:=DQ.binds (ps:=Ip) λ _ _ _ _ _ _=>hs λ _=>rfl;have WM:=fJ X G WK;have WN:=DQ.bS;obtain ⟨f1,_,WO,DR⟩:=iS.ok;have WQ:=DR.binds (ps:=Iq) λ _ _ _ _ _ _=>hs λ _=>rfl;have WR:=fJ X G WO;have WS:=DR.bS;obtain ⟨f2,_,WT,DS⟩:=C9.ok;have WU:=DS.binds (ps:=Ir) λ _ _ _ _ _ _=>lU λ _ _=>rfl;have WV:=fJ X G WT;have WW:=DS.bS;obtain ⟨dl,_,WX,DU⟩:=C_.ok;have WY:=DU.binds (ps:=It) λ _ _ _ _ _ _=>lU λ _ _=>rfl;have WZ:=fJ X G WX;have W0:=DU.bS;obtain ⟨f4,_,JJ,JK⟩:=As.ok;have W2:=JK.binds (ps:=Iu) λ _ _ _ _ _ _=>TA λ _ _ _=>rfl;obtain ⟨hl,_,W3,JL⟩:=At.ok;have W4:=JL.binds (ps:=Iv) λ _ _ _ _ _ _=>hs λ _=>rfl;obtain ⟨W5,_,W6,JM⟩:=VS.ok;have W7:=JM.binds (ps:=Iw) λ _ _ _ _ _ _=>hs λ _=>rfl;obtain ⟨W8,_,JN,JO⟩:=VT.ok;have W9:=(JO.fun JN.bS).binds (ps:=Ix) λ _ _ _ _ _ _=>hs λ _=>rfl;obtain ⟨f8,_,JP,JQ⟩:=VU.ok;have W_:=JQ.binds (ps:=Iy) λ _ _ _ _ _ _=>lU λ _ _=>rfl;obtain ⟨Xa,_,Xb,JR⟩:=VV.ok;have Xc:=JR.binds (ps:=Iz) λ _ _ _ _ _ _=>hs λ _=>rfl;obtain ⟨Xd,_,Xe,JS⟩:=VW.ok;have Xf:=JS.binds (ps:=IA) λ _ _ _ _ _ _=>hs λ _=>rfl;obtain ⟨Xg,_,Xh,JT⟩:=VX.ok;have Xi:=JT.binds (ps:=IB) λ _ _ _ _ _ _=>hs λ _=>rfl;obtain ⟨Xj,_,Xk,JU⟩:=VY.ok;have Xl:=JU.binds (ps:=IC) λ _ _ _ _ _ _=>hs λ _=>rfl;obtain ⟨Xm,_,Xn,JV⟩:=VZ.ok;have Xo:=JV.binds (ps:=ID) λ _ _ _ _ _ _=>hs λ _=>rfl;obtain ⟨Xp,_,Xq,JW⟩:=V0.ok;have Xr:=JW.binds (ps:=IF) λ _ _ _ _ _ _=>hs λ _=>rfl;obtain ⟨Xs,_,Xt,JX⟩:=V1.ok;have Xu:=JX.binds (ps:=IE) λ _ _ _ _ _ _=>hs λ _=>rfl;obtain ⟨Xv,_,Xw,JY⟩:=V2.ok;have Xx:=JY.binds (ps:=IG) λ _ _ _ _ _ _=>lU λ _ _=>rfl;obtain ⟨Xy,_,Xz,JZ⟩:=V3.ok;have XA:=JZ.binds (ps:=IH) λ _ _ _ _ _ _=>hs λ _=>rfl;obtain ⟨XB,_,XC,J0⟩:=V4.ok;have XD:=J0.binds (ps:=II) λ _ _ _ _ _ _=>lU λ _ _=>rfl;obtain ⟨XE,_,XF,J1⟩:=V5.ok;have XG:=J1.binds (ps:=IJ) λ _ _ _ _ _ _=>hs λ _=>rfl;obtain ⟨XH,_,XI,J2⟩:=V6.ok;have XJ:=J2.binds (ps:=IK) λ _ _ _ _ _ _=>hs λ _=>rfl;obtain ⟨XK,_,XM,J3⟩:=V7.ok;have XN:=J3.binds (ps:=IL) λ _ _ _ _ _ _=>hs λ _=>rfl;obtain ⟨XO,_,XP,J4⟩:=V8.ok;have XQ:=J4.binds (ps:=IM) λ _ _ _ _ _ _=>hs λ _=>rfl;obtain ⟨XR,_,XS,J5⟩:=V9.ok;have XT:=J5.binds (ps:=IN) λ _ _ _ _ _ _=>hs λ _=>rfl;obtain ⟨XU,_,XW,J6⟩:=V_.ok
  have XX:=J6.binds (ps:=IO) λ _ _ _ _ _ _=>lU λ _ _=>rfl;have XY:=fJ X G XW;have XZ:=J6.bS;obtain ⟨X0,_,X1,DV⟩:=Wa.ok;have X2:=DV.binds (ps:=IP) λ _ _ _ _ _ _=>lU λ _ _=>rfl;have X3:=fJ X G X1;have X4:=DV.bS;obtain ⟨X5,_,X6,DW⟩:=Wb.ok;have X7:=DW.binds (ps:=IQ) λ _ _ _ _ _ _=>lU λ _ _=>rfl;have X8:=fJ X G X6;have X9:=DW.bS;obtain ⟨X_,_,Ya,DX⟩:=Wc.ok;have Yb:=DX.binds (ps:=IR) λ _ _ _ _ _ _=>hs λ _=>rfl;have Yc:=fJ X G Ya;have Yd:=DX.bS;obtain ⟨J7,_,Ye,DY⟩:=Wd.ok;have J8:=DY.binds (ps:=IS) λ _ _ _ _ _ _=>lU λ _ _=>rfl;have J9:=fJ X G Ye;have J_:=DY.bS;obtain ⟨Ka,_,Yf,DZ⟩:=We.ok;have Kb:=DZ.binds (ps:=IT) λ _ _ _ _ _ _=>lU λ _ _=>rfl;have Kc:=fJ X G Yf;have Kd:=DZ.bS;obtain ⟨Yg,_,Yh,zp⟩:=Wf.ok;have Yi:=zp.binds (ps:=IU) λ _ _ _ _ _ _=>v7 λ _ _ _ _ _=>rfl;have Yj:=fJ X G Yh;have ZE:=zp.bS;obtain ⟨Yk,_,Yl,zq⟩:=Wg.ok;have Ym:=zq.binds (ps:=IV) λ _ _ _ _ _ _=>v7 λ _ _ _ _ _=>rfl;have Yn:=fJ X G Yl;have ZF:=zq.bS;obtain ⟨Ke,_,Yo,ww⟩:=Wh.ok;have Kf:=ww.binds (ps:=IW) λ _ _ _ _ _ _=>v7 λ _ _ _ _ _=>rfl;have Kg:=fJ X G Yo;have ZG:=ww.bS;obtain ⟨Yp,_,Yq,D0⟩:=Wi.ok;have Yr:=D0.binds (ps:=IX) λ _ _ _ _ _ _=>hs λ _=>rfl;have Ys:=fJ X G Yq;have Yt:=D0.bS;obtain ⟨Kh,_,Yu,D1⟩:=Wj.ok;have Ki:=D1.binds (ps:=IY) λ _ _ _ _ _ _=>Io λ _ _ _ _=>rfl;have Kj:=fJ X G Yu;have Kk:=D1.bS;obtain ⟨Kl,_,Yv,D2⟩:=Wk.ok;have Km:=D2.binds (ps:=IZ) λ _ _ _ _ _ _=>hs λ _=>rfl;have Kn:=fJ X G Yv;have Ko:=D2.bS;obtain ⟨Yw,_,Yx,D3⟩:=Wl.ok;have Yy:=D3.binds (ps:=I0) λ _ _ _ _ _ _=>hs λ _=>rfl;have Yz:=fJ X G Yx;have YA:=D3.bS;obtain ⟨Kp,_,YB,D4⟩:=Wm.ok;have Kq:=D4.binds (ps:=I1) λ _ _ _ _ _ _=>lU λ _ _=>rfl;have Kr:=fJ X G YB;have Ks:=D4.bS;obtain ⟨Kt,_,YC,D5⟩:=Wn.ok;have Ku:=D5.binds (ps:=I2) λ _ _ _ _ _ _=>Io λ _ _ _ _=>rfl;have Kv:=fJ X G YC;have Kw:=D5.bS;obtain ⟨Kx,_,YD,D6⟩:=Wo.ok;have Ky:=D6.binds (ps:=I3) λ _ _ _ _ _ _=>v7 λ _ _ _ _ _=>rfl;have Kz:=fJ X G YD;have KA:=D6.bS;obtain ⟨KC,_,YE,D7⟩:=Wq.ok;have KD:=D7.binds (ps:=I4) λ _ _ _ _ _ _=>v7 λ _ _ _ _ _=>rfl;have KE:=fJ X G YE;have KF:=D7.bS;obtain ⟨YF,_,YG,D8⟩:=Wr.ok;have YH:=D8.binds (ps:=I5) λ _ _ _ _ _ _=>lU λ _ _=>rfl;have YI:=fJ X G YG;have YJ:=D8.bS
  have YK:dK K eB f4:=⟨VJ,JJ.at_,JJ.fn,VK⟩
  have YL:dK K c4 f8:=⟨VQ,JP.at_,JP.fn,VR⟩
  have B:i9 mg:=⟨j6 X G u1,j6 X G bF,j6 X G bU,j6 X G dg,j6 X G hc,j6 X G nM,j6 X G zj,j6 X G JF,j6 X G Wt,j6 X G uH,j6 X G Wu,j6 X G Wv,j6 X G Ww,j6 X G Wx⟩
  obtain ⟨ZH,_,YM,KG⟩:=Ws.ok;cases VD.symm.trans (fJ X G YM);obtain ⟨_,_,ei,YN,pm,an,cd,ct,_,rfl,ZI,ZJ⟩:=KG.ex;refine ⟨lx "law" "law" (kh tR) (hC tR) (cp tR) .none ei YN pm an cd ct,λ s v=>.of_eq rfl,λ base _ _ YO hS=>?_⟩;have tG:=fJ X G aK0;have Cx:=fJ X G aM0;have CI:=fJ X G aR0;have CG:=fJ X G aP0;have tH:oM K w zm kA:=H0 aK1 aK2 aK3 aK4 S4 S6;have Cy:oM K w zn nR:=H0 aM1 aM2 aM3 aM4 S5 (.cons ⟨rfl,λ _=>⟨ej,_,rfl,rV mA1 mA2 mA3,vx ["slip", "both", "beside"]⟩⟩ (.cons ⟨rfl,λ _=>⟨DF,_,rfl,rV mB1 mB2 mB3,vx ["first", "second"]⟩⟩ (.cons ⟨rfl,λ _=>⟨DG,_,rfl,rV mC1 mC2 mC3,vx ["plus", "had", "look", "both", "beside"]⟩⟩ .nil)))
  have CJ:∀ H,cV K H (.tup [.str "slip", .str "first", .str "second", .str "had", .str "look"]) (.ref zo):=λ _=>⟨zo,_,rfl,rV aR1 aR2 aR3,vx ["slip", "first", "second", "had", "look"]⟩
  have YP:=S7 aP1 aP2 aP3 pB1 pB2 pB3 pC1 pC2 pC3
  have rY:Got l.prog w K mg base 1 "inner" Ip (aT K (yz Tm.enc Tm.aL)):=⟨f0,_,TH DQ,WM,WN,WL⟩
  have tC:Got l.prog w K mg base 1 "ways_below" Ir (aT K yH):=⟨f2,_,TN DS,WV,WW,WU⟩
  have Cg:Got l.prog w K mg base 2 "names_in" Iq (aT K Br):=⟨f1,_,TO B rY tC DR,WR,WS,WQ⟩
  have Ck:Got l.prog w K mg base 3 "with_names" It (aT K (Bs l.prog w K mg base 1)):=⟨dl,_,TP B rY tC DU,WZ,W0,WY⟩
  have mO:rR l.prog w K mg base 1 eB "Slip" Iu (aT K (vT eB)):=⟨⟨f4,_,TX B db lX tS zk JK,YK,WI,W2⟩⟩
  have Cn:ef l.prog w K mg base 3 eB "unread" Iw (aT K (BH eB)):=⟨⟨W5,_,TZ B db lX tS zk Cg JM,W6,W7⟩⟩
  have Co:ef l.prog w K mg base 4 eB "read" Ix (aT K (BI eB 66 (vF p6))):=⟨⟨W8,_,T6 (YO (70,66) (f7 ..)) hS db lX tS zk Ck JO,JN,W9⟩⟩
  have CT:ef l.prog w K mg base 5 eB "back" Iv (aT K (BJ eB 66 (vF p6))):=⟨⟨hl,_,T7 B db zk Cn Co JL,W3,W4⟩⟩
  have CU:Got l.prog w K mg base 1 "around" IO (aT K λ _ _ _=>False):=⟨XU,_,UN,XY,XZ,XX⟩
  have Dn:rR l.prog w K mg base 3 c4 "Machine" Iy (aT K (BR eB c4)):=⟨⟨f8,_,UH bR mU zl tT DA DB DC DD mO JQ,YL,WJ,W_⟩⟩
  have r2:ef l.prog w K mg base 1 c4 "top" IB (aT K (yO eB c4)):=⟨⟨Xg,_,Ub bR tT JT,Xh,Xi⟩⟩
  have r_:ef l.prog w K mg base 1 c4 "steps" IK (aT K (lf eB c4 λ m=>.int m.steps)):=⟨⟨XH,_,Ud bR DA J2,XI,XJ⟩⟩
  have Dp:ef l.prog w K mg base 1 c4 "rules" IL (aT K (lf eB c4 λ m=>.int m.rules)):=⟨⟨XK,_,Uf bR DB J3,XM,XN⟩⟩
  have Dq:ef l.prog w K mg base 1 c4 "slips" IM (aT K (lf eB c4 λ m=>.int m.slips)):=⟨⟨XO,_,Uh bR DC J4,XP,XQ⟩⟩
  have Dr:ef l.prog w K mg base 1 c4 "look_ups" IN (aT K (lf eB c4 λ m=>.int m.looks)):=⟨⟨XR,_,Uj bR DD J5,XS,XT⟩⟩
  have CQ:ef l.prog w K mg base 1 c4 "look_up" IE (aT K (BM eB c4)):=⟨⟨Xs,_,Ul db lX tS bR mU DD JX,Xt,Xu⟩⟩
  have p7:ef l.prog w K mg base 3 c4 "within" IG (aT K (yQ eB c4)):=⟨⟨Xv,_,Un db lX tS bR mU mO JY,Xw,Xx⟩⟩
  have tI:ef l.prog w K mg base 2 c4 "meets" IC (aT K (yP eB c4)):=⟨⟨Xj,_,Up db lX bR mU zl Cx Cy r2 JU,Xk,Xl⟩⟩
  have CB:ef l.prog w K mg base 2 c4 "enters" ID (aT K (BL eB c4)):=⟨⟨Xm,_,Uq db lX bR mU zl tG tH r2 JV,Xn,Xo⟩⟩
  have nY:ef l.prog w K mg base 3 c4 "word" IA (aT K (vW eB c4)):=⟨⟨Xd,_,Us db lX bR mU tT tI CB JS,Xe,Xf⟩⟩
  have CP:ef l.prog w K mg base 4 c4 "enter" IF (aT K (BN eB c4)):=⟨⟨Xp,_,Ut B db lX bR mU tT DC tG tH p7 JW,Xq,Xr⟩⟩
  have CK:ef l.prog w K mg base 4 c4 "behind" II (aT K (BP eB c4)):=⟨⟨XB,_,Uz db lX tS bR mU CG YP mO p7 J0,XC,XD⟩⟩
  have CO:ef l.prog w K mg base 5 c4 "meet" IH (aT K (BQ eB c4)):=⟨⟨Xy,_,UB db lX bR mU zl tT DB CI CJ CK JZ,Xz,XA⟩⟩
  have tP:ef l.prog w K mg base 6 c4 "step" Iz (aT K (yR eB c4)):=⟨⟨Xa,_,UE db lX bR mU DA nY tI CO CP CQ JR,Xb,Xc⟩⟩
  have Do:ef l.prog w K mg base 6 c4 "program" IJ (aT K (BS eB c4 66 (vF p6))):=⟨⟨XE,_,UK B db bR mU tT CT CU J1,XF,XG⟩⟩
  have Dl:Got l.prog w K mg base 1 "_law_feed" IP (aT K vy):=⟨X0,_,TC B DV,X3,X4,X2⟩
  have fc:Got l.prog w K mg base 1 "_law_take" IQ (aT K kr):=⟨X5,_,TB DW,X8,X9,X7⟩
  have h1:Got l.prog w K mg base 2 "_law_whole" IR (aT K ku):=⟨X_,_,TF fc DX,Yc,Yd,Yb⟩
  have v8:∀ n:Nat,Got l.prog w K mg base (n+1) "_law_parts" IZ (aT K (rH n)):=λ n=>by
   induction n with
   | zero=>exact ⟨Kl,_,TK,Kn,Ko,Km⟩
   | succ n bL=>exact ⟨Kl,_,TL B bL D2,Kn,Ko,Km⟩
  have g_same:∀ n:Nat,Got l.prog w K mg base (n+1) "_law_same" I1 (aT K (te n)):=λ n=>by
   induction n with
   | zero=>exact ⟨Kp,_,TU,Kr,Ks,Kq⟩
   | succ n bL=>exact ⟨Kp,_,TV B bL D4,Kr,Ks,Kq⟩
  have oW:∀ n:Nat,Got l.prog w K mg base (n+2) "_law_sort" IS (aT K (oK n)):=λ n=>by
   induction n with
   | zero=>exact ⟨J7,_,UO,J9,J_,J8⟩
   | succ n bL=>exact ⟨J7,_,UP fc bL DY,J9,J_,J8⟩
  have r7:∀ n:Nat,Got l.prog w K mg base (n+3) "_law_least" IT (aT K (vO n)):=λ n=>by
   induction n with
   | zero=>exact ⟨Ka,_,UQ,Kc,Kd,Kb⟩
   | succ n bL=>exact ⟨Ka,_,UR h1 bL DZ,Kc,Kd,Kb⟩
  have i_:∀ n:Nat,Got l.prog w K mg base (2 * n+65) "_law_typed" IW (aT K (tl n)):=λ n=>by
   induction n with
   | zero=>exact ⟨Ke,_,UV,Kg,ww.bS,Kf⟩
   | succ n bL=>
    have C3:Got l.prog w K mg base (2 * n+66) "_law_made" IU (aT K (tm n)):=⟨Yg,_,US fc h1 bL zp,Yj,zp.bS,Yi⟩
    have C2:Got l.prog w K mg base (2 * n+66) "_law_used" IV (aT K (tm n)):=⟨Yk,_,UT fc (oW 2) bL zq,Yn,zq.bS,Ym⟩
    exact ⟨Ke,_,UW B fc (r7 60) C2 C3 ww,Kg,ww.bS,Kf⟩
  have C6:Got l.prog w K mg base 3 "_law_loop" IX (aT K vQ):=⟨Yp,_,U3 fc h1 D0,Ys,Yt,Yr⟩
  have mR:∀ n:Nat,Got l.prog w K mg base (n+2) "_law_wild" IY (aT K (oN n)):=λ n=>by
   induction n with
   | zero=>exact ⟨Kh,_,U8,Kj,Kk,Ki⟩
   | succ n bL=>exact ⟨Kh,_,U9 fc h1 bL D1,Kj,Kk,Ki⟩
  have Dm:Got l.prog w K mg base 92 "_law_program" I0 (aT K vR):=⟨Yw,_,U5 fc h1 C6 (mR 15) (oW 3) (i_ 13) (v8 80) D3,Yz,YA,Yy⟩
  have tM:∀ n:Nat,Got l.prog w K mg base (n+1) "_law_head" I2 (aT K (v4 n)):=λ n=>by
   induction n with
   | zero=>exact ⟨Kt,_,Vc,Kv,Kw,Ku⟩
   | succ n bL=>exact ⟨Kt,_,Vd B bL D5,Kv,Kw,Ku⟩
  have wo:∀ n:Nat,Got l.prog w K mg base (n+1) "_law_filled" I3 (aT K (tz n)):=λ n=>by
   induction n with
   | zero=>exact ⟨Kx,_,Vg,Kz,KA,Ky⟩
   | succ n bL=>exact ⟨Kx,_,Vh B bL D6,Kz,KA,Ky⟩
  have tO:∀ n:Nat,Got l.prog w K mg base (n+2) "_law_answer" I4 (aT K (v5 n)):=λ n=>by
   induction n with
   | zero=>exact ⟨KC,_,Vl,KE,KF,KD⟩
   | succ n bL=>exact ⟨KC,_,Vm B (tM (n+1)) (wo (n+1)) bL D7,KE,KF,KD⟩
  have zh:Got l.prog w K mg base 97 "_law_going" I5 (aT K (B2 eB c4)):=⟨YF,_,Vn B bR (g_same 95) tP nY r_ D8,YI,YJ,YH⟩
  exact Vr B bR Dl Dm (g_same 95) (tO 121) zh Dn tP nY Do r_ Dp Dq Dr KG
theorem walk{l:PySem.W.OpenLaw}{q:c8}{loose:List Str}{sI:(Str->Option Value)->b2->Prop}{nr:cG->b2->Prop}{d:DefRec}{K:Params->a6}(bc:l.most=some 63)(uE:d.params.defaults=[])
 (Bv:∀(w:cG)(h:b2),nr w h->(K w.params).In h) (fu:∀ w:cG,PySem.W.noTabs (K w.params)=true) (Bw:∀(w:cG)(h:b2),nr w h->PySem.W.TabsAt Dy h)
 (F:∀(w:cG)(mg:Str->Option Value)(fa:Addr)(h:b2),(K w.params).In h->h.Ns eS mg->mg d.name=some (.ref fa) →
  ∃ fd:gA,(∀(s:aM)(u:Value),si s fd ⟨[u],[]⟩ [("_law_script", u)])/\∀ base:b2,(K w.params).In base->base.Ns eS mg->(∀ q∈Dy,PySem.W.CodeHd base q.1 q.2)->nB mg base->cO l.prog w (K w.params) mg base cQ 124 fa fd ["_law_script"] ((λ K=>aT K (vI Dz)) (K w.params))) :
 PySem.W.WalkO q loose sI nr l.row.toRowW d [] (λ f vs=>PySem.call f vs):=
 L2.Sf (n:=63) (k:=124) (x:="_law_script") (sp:=λ K=>(λ K=>aT K (vI Dz)) K) bc (by decide) uE ⟨rfl,by decide,by decide⟩ Bv fu Bw F λ _ _ _ _ aP uV gW=>Sg rfl (by decide) aP uV gW
end KB
def PySem.W.Fast.tw2879525623988561200:=0
def PySem.W.Fast.tw10862278352030622153:=0
def PySem.W.Fast.tw17352835151994524000:=0
def PySem.W.Fast.tw16657080274319805909:=0
def PySem.W.Fast.tw15872162876743721375:=0
def PySem.W.Fast.tw9858436159928546684:=0
def PySem.W.Fast.tw17898988358758719204:=0
def PySem.W.Fast.tw9293525441794598166:=0
def PySem.W.Fast.tw9597114045256660072:=0
def PySem.W.Fast.tw5608092553587299715:=0
def PySem.W.Fast.tw6158410314071267056:=0
def PySem.W.Fast.tw16047880392298847769:=0
def PySem.W.Fast.tw9269067510116705775:=0
def PySem.W.Fast.tw11491408470487408843:=0
def PySem.W.Fast.tw7983457140656271060:=0
def PySem.W.Fast.tw5390022823968028372:=0
def PySem.W.Fast.tw1908745528983270736:=0
def PySem.W.Fast.tw7758919307728952038:=0
def PySem.W.Fast.tw4527695801720714933:=0
def PySem.W.Fast.tw15263214949446160328:=0
def PySem.W.Fast.tw15571017263026583539:=0
def PySem.W.Fast.tw2309978915670776069:=0
def PySem.W.Fast.tw13014395975063005664:=0
def PySem.W.Fast.tw13331905744457304586:=0
def PySem.W.Fast.tw2932303789748143933:=0
def PySem.W.Fast.tw14783200408672626487:=0
def PySem.W.Fast.tw4883425444843875315:=0
def PySem.W.Fast.tw6858729844313177245:=0
def PySem.W.Fast.tw18370433036249921441:=0
def PySem.W.Fast.tw18078389929334563554:=0
def PySem.W.Fast.tw2796183134252245043:=0
def PySem.W.Fast.tw16236259946754710830:=0
def PySem.W.Fast.tw15924139992864968994:=0
def PySem.W.Fast.tw1733441274281633029:=0
def PySem.W.Fast.tw1720867726124082928:=0
def PySem.W.Fast.tw16173032900265533175:=0
def PySem.W.Fast.tw7352376577170135939:=0
def PySem.W.Fast.tw15148139197461324599:=0
def PySem.W.Fast.tw6961033740913946256:=0
def PySem.W.Fast.tw14363438087307728821:=0
open PySem PySem.W PyProof.Rows
set_option maxRecDepth 100000 in
set_option maxHeartbeats 0 in
theorem PySem.Challenge.cw_kindbags_k25_machine_counted_holds : PySem.Challenge.rw_kindbags_k25_machine_counted.Holds := by
  w_on; o_law; k_head; (case hw => w_witness2)
  k_fill
  refine KB.walk (l := PySem.Challenge.rw_kindbags_k25_machine_counted) rfl rfl (fun w h Y => PySem.W.km_in_of Y) (fun w => by kernel_rfl) (fun w h Y => List.forall_mem_cons.mpr ⟨⟨PySem.W.codeHd_of_K (c := 70) (P := 66) (PySem.W.km_in_of Y) (by kernel_rfl), PySem.W.km_tabs_of Y 66 (by k_mem)⟩, fun _ h => nomatch h⟩) ?F
  case F =>
    intro w mg fa h KX G hmg
    refine' KB.wLq KX G hmg ?_ ?_ ?_ ?_ ?_ ?_ ?_ ?_ ?_ ?_ ?_ ?_ ?_ ?_ ?_ ?_ ?_ ?_ ?_ ?_ ?_ ?_ ?_ ?_ ?_ ?_ ?_ ?_ ?_ ?_ ?_ ?_ ?_ ?_ ?_ ?_ ?_ ?_ ?_ ?_ ?_ ?_ ?_ ?_ ?_ ?_ ?_ ?_ ?_ ?_ ?_ ?_ ?_ ?_ ?_ ?_ ?_ ?_ ?_ ?_ ?_ ?_ ?_ ?_ ?_ ?_ ?_ ?_ ?_ ?_ ?_ ?_ ?_ ?_ ?_ ?_ ?_ ?_ ?_ ?_ ?_ ?aK0 ?aK1 ?aK2 ?aK3 ?aK4 ?aM0 ?aM1 ?aM2 ?aM3 ?aM4 ?mA1 ?mA2 ?mA3 ?mB1 ?mB2 ?mB3 ?mC1 ?mC2 ?mC3 ?aR0 ?aR1 ?aR2 ?aR3 ?aP0 ?aP1 ?aP2 ?aP3 ?pB1 ?pB2 ?pB3 ?pC1 ?pC2 ?pC3
    (case aK0 => k_is)
    (case aK1 => k_is)
    (case aK2 => rfl)
    (case aK3 => exact ⟨⟨_, _, rfl, rfl⟩, ⟨_, _, rfl, rfl⟩, ⟨_, _, rfl, rfl⟩, ⟨_, _, rfl, rfl⟩, ⟨_, _, rfl, rfl⟩, ⟨_, _, rfl, rfl⟩, trivial⟩)
    (case aK4 => exact .cons ⟨⟨_, rfl⟩, ⟨_, rfl⟩⟩ (.cons ⟨⟨_, rfl⟩, ⟨_, rfl⟩⟩ (.cons ⟨⟨_, rfl⟩, ⟨_, rfl⟩⟩ (.cons ⟨⟨_, rfl⟩, ⟨_, rfl⟩⟩ (.cons ⟨⟨_, rfl⟩, ⟨_, rfl⟩⟩ (.cons ⟨⟨_, rfl⟩, ⟨_, rfl⟩⟩ (.nil)))))))
    (case aM0 => k_is)
    (case aM1 => k_is)
    (case aM2 => rfl)
    (case aM3 => exact ⟨⟨_, _, rfl, rfl⟩, ⟨_, _, rfl, rfl⟩, ⟨_, _, rfl, rfl⟩, trivial⟩)
    (case aM4 => exact .cons ⟨⟨_, rfl⟩, rfl⟩ (.cons ⟨⟨_, rfl⟩, rfl⟩ (.cons ⟨⟨_, rfl⟩, rfl⟩ (.nil))))
    (case mA1 => k_is)
    (case mA2 => rfl)
    (case mA3 => exact .cons ⟨_, rfl⟩ (.cons ⟨_, rfl⟩ (.cons ⟨_, rfl⟩ (.nil))))
    (case mB1 => k_is)
    (case mB2 => rfl)
    (case mB3 => exact .cons ⟨_, rfl⟩ (.cons ⟨_, rfl⟩ (.nil)))
    (case mC1 => k_is)
    (case mC2 => rfl)
    (case mC3 => exact .cons ⟨_, rfl⟩ (.cons ⟨_, rfl⟩ (.cons ⟨_, rfl⟩ (.cons ⟨_, rfl⟩ (.cons ⟨_, rfl⟩ (.nil))))))
    (case aR0 => k_is)
    (case aR1 => k_is)
    (case aR2 => rfl)
    (case aR3 => exact .cons ⟨_, rfl⟩ (.cons ⟨_, rfl⟩ (.cons ⟨_, rfl⟩ (.cons ⟨_, rfl⟩ (.cons ⟨_, rfl⟩ (.nil))))))
    (case aP0 => k_is)
    (case aP1 => k_is)
    (case aP2 => rfl)
    (case aP3 => exact .cons ⟨_, rfl⟩ (.cons rfl (.cons rfl (.nil))))
    (case pB1 => k_is)
    (case pB2 => rfl)
    (case pB3 => exact .cons ⟨_, rfl⟩ (.cons ⟨_, rfl⟩ (.nil)))
    (case pC1 => k_is)
    (case pC2 => rfl)
    (case pC3 => exact .cons ⟨_, rfl⟩ (.cons ⟨_, rfl⟩ (.nil)))
    all_goals first | k_is | (refine' L3.DT.mk ?_ ?_ ?_ ?_ <;> try k_is) | (refine' L3.DM.mk ?_ ?_ ?_ ?_ ?_ <;> try k_is) | (refine' L3.DTc.mk ?_ ?_ ?_ ?_ <;> try k_is) | (refine' L3.DMc.mk ?_ ?_ ?_ ?_ ?_ <;> try k_is) | skip
