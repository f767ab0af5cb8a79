import PyProof.Rows.All
import Wide.All
import OpenK.AllK
import Wide.FinOn
import Lean
import PyProof.EqAt
import PyProof.EqKinds
import PyProof.TupleCall
import PySem.Challenge.RW_kindbags_k38_texts_of_papers_refused
local macro_rules | `(tactic| omega) => `(tactic| first | decide | lia)
local macro_rules | `(tactic| trivial) => `(tactic| decide +kernel)
open PySem renaming wpAny_bind->aK,Shared->aF,wpAny_pure->bC,wpAny->aZ,model->a8,Expr->a9,mainGlobals->ea,Program->cS,Around->cL,World->b_,starEach->dU,Heap->bO,compareOp->er,Stmt->b1,cLine->dP,wpAny_newObj_type->kx,sizeLine_eq->hP,wpAny_field->hQ,wpAny_mono->hR,wpAny_holding->jm,FuncData->gZ,binaryOp->hC,foldedSetIterable->nD,assignEach->jn,wpAny_call_entry->nE,bootBuiltins->k_,wpAny_truthy_bool->oy,wpAny_loadPart'->nF,backTo->g0,attributeBase->mv,swapsWith->jL,rawInt->hD,Scope->gF,wpAny_Call_Name_kw->q7,ClassData->ky,ExceptHandler->XL,holding->jM,wpAny_passesOwn->q8,wpAny_standAt->p2,behindInMarks->p3,wpAny_attempt->p4,codeAny_call_builtin->va,NameKind->XV,wpAny_getItem_str_slice->yg,wpAny_execs_nil->s8,assign->jN,wpAny_setField_rec->vb,sliceBounds->p5,wpAny_loadPart_at->vd,wpAny_typeOf->q9,builtinLookup_eq_fast->yh,wpAny_setField->s9,wpAny_call->p6,Paired->la,again->jO,Operator->oz,PassesOwn->p7,codeAny_mono->s_,sysModules->q_,PlainAttrs->ra,call_meets->rb,wpAny_rule->rd,isSubtype_type->ve,wpAny_pyIter_enum->yi,IsPart->mw,excClassObj->ta,getItem->oA,noteFrame->WF,pyNext->nG,typeLookup_type->yj,post_val_or_str->yk,standAt->p8,codeAny->p9,compEnvC->rf,Model->mx,keywordEach->vf,typeOf->oB,IsEnum->WP,evalPart_none->yl,wpAny_newList->ym,wpAny_letOwnedTupleGo_enum->HL,wpAny_sequenceKey->BD,CmpOp->nH,isInstance->vg,leaving->rg,callerA->rh,relabel->ri,wpAny_execs_cons->BE,noFill_tuple_add->BF,wpAny_getItem_list_slice->W1,wpAny_comprehension_free->HM,wpAny_isInstance->BG,letOwnedTupleGo->BH,field->oC,wpAny_specialOf->BI,codeAny_builtin->BJ,codeAny_compStart_list->HN,BindsTo->tb,Keyword->tc,wpAny_newTuple->BK,bindL->p_,bindC->qa,backToKw->vh,setField->vi,swapsWithSole->BL,swappedStores->BM,seq_tuple_add->BN,nsFind->td,concat_meets->BO,slicePick->yn,onTheHeap->yo,unaryOp->vj
open PyProof.Rows renaming seqObj->gQ,listUpdate_at->te,AllBare->my,SortKind->oD,seqEpoch_at->Vs,entry_tuple_getitem->BP,IsTup->mz,args_tuple_getitem->BQ,subscriptTail->yp,subscriptTail_builtinR->HO,Subscript_->yq,keyKind'->vk,size_push'->yr,tupleItemsOf_->BR,bubble->tf,sortedAll->yt,IntsAre->vl
open PySem.W renaming looks_findIn->vm,kas_rev->rj,kas_ask->tg,kitOne->rk,kas_tail3->yu,kas_place->yv
open List renaming length_cons->be,mem_cons_self->b3,mem_cons->cB,size_toArray->cH,length_append->cI,mem_cons_of_mem->cO,length_map->cP,length_nil->c7,append_assoc->c_,cons_append->de,append_nil->eP,getElem?_eq_getElem->e8,map_cons->fh,replicate->fs,mem_append->fH,not_mem_nil->fR,getElem?_map->f3,range->hE,mem_map->hS,mem_append_right->h6,nil_append->h7,mem_map_of_mem->h8,getD_eq_getElem?_getD->i2,getElem_mem->i3,length_reverse->i4,getElem?_eq_some_iff->jo,mem_append_left->jP,length_drop->jQ,mem_of_getElem?->kz,all_eq_true->kA,length_take->lb,length->mB,map_append->mC,singleton_append->mD,getElem?_set_ne->nI,all_cons->nJ,map_nil->nK,drop_zero->nL,replicate_succ->nM,lookup->nN,mem_range->oE,map_map->oF,find?_cons->oG,lookup_cons->qb,forall_mem_cons->qc,nodup_cons->rl,any_cons->rm,take_add_one->rn,drop_eq_getElem_cons->ro,drop_succ_cons->rp,sum_cons->rq,mem_of_mem_drop->rr,take_succ_cons->ru,length_set->th,reverse_cons->ti,take_of_length_le->tj,drop_eq_nil_of_le->tk,cons_ne_nil->tl,getElem?_append_left->vn,take_length->vo,flatten_cons->vp,ext_getElem->vq,getElem_map->vr,length_eq_zero_iff->vt,getElem?_zipIdx->vu,length_pos_iff->vv,filterMap_cons->yw,getElem?_append_right->yx,getElem?_replicate->yy,length_replicate->yz,length_singleton->yA,getElem?_eq_none->yB,all_map->yC,toArray->yD,pairwise_cons->yE,mem_of_mem_take->yF,mem_reverse->yG
open Nat renaming le_refl->b4,ne_of_lt->eW,zero_le->fi,le_trans->hT,lt_of_lt_of_le->iF,lt_irrefl->nO,ble->qd,add_assoc->qe,ne_of_gt->rv,lt_trans->tm,le_succ->tn,toDigits->ZB,lt_or_ge->yH
open Array renaming length_toList->hF,getElem?_eq_some_iff->tp,toList->yI,mem_toList_iff->yJ,getD->yK
open Option renaming some->gG,isSome_iff_exists->oH,map_some->rx,none->tq,getD_some->vw
open Bool renaming and_eq_true->eI,false_xor->i5,false_ne_true->mE,and_false->tr,false_eq_true->ts,eq_iff_iff->tt,or_false->yL,eq_false_iff->yM
open PySem.W renaming Frag->aV,mg_of->dV,nsIn->eX,subIn->iG,mg_none_of->jp,kia_one->jR,keepIn->lM,clsIn->lN,findIn->nP,fnOf->nQ,typeIn->nR,kitOne->oI,codeIn->tu,lookIn->yN,specialIn->yO
open PyProof.Rows renaming boot_isinstance->jS,boot_tuple->mF,callWith_type1->tv,slot_tuple_getitem->tw,boot_list->vx,listItems_at->yP,boot_int->yQ
open PySem renaming boot_len->eQ,mem_of_lookup->ry,intText?->rz
open PySem.Heap renaming lt_size->dL,get?_push_of_some->dQ,get?_push_size->hG,get?_update_self->qf,size_update->Wp,get?_update_other->vy,get?_update_ne->vz,get?_none_of_le->yR,get?_push_ne->yS
open Int renaming negSucc->oJ
set_option Elab.async false
set_option linter.all false
set_option maxRecDepth 100000
namespace L2
open PySem PySem.Spec PyProof.Rows
abbrev Key:=Sum Int Str
def HP:Key->Value->Bool
 | .inl k,v=>Value.isInt k v
 | .inr x,v=>Value.isStrOf x v
def PE(w:b_):Key->Int
 | .inl k=>hashInt k
 | .inr x=>hashStr w x
theorem oK:∀{k:Key}{v:Value},HP k v=true->(∃ i t,k=Sum.inl i/\v=Value.int i t)\/(∃ x t,k=Sum.inr x/\v=Value.str x t)
 | .inl i,v,h=>by
  obtain ⟨t,e⟩:=Value.isInt_shape (k:=i) (v:=v) h;exact .inl ⟨i,t,rfl,e⟩
 | .inr x,v,h=>by
  obtain ⟨t,e⟩:=Value.isStrOf_shape (x:=x) (v:=v) h;exact .inr ⟨x,t,rfl,e⟩
def PF(a b:Int):decide ((Sum.inl a:Key)=Sum.inl b)=(a==b):=by
 by_cases e:a=b
 ·subst e;simp
 ·have h:¬ (Sum.inl a:Key)=Sum.inl b:=λ q=>e (Sum.inl.inj q);rw [decide_eq_false h];exact (beq_eq_false_iff_ne.mpr e).symm
def PG(a b:Str):decide ((Sum.inr a:Key)=Sum.inr b)=decide (a=b):=by
 by_cases e:a=b
 ·subst e;simp
 ·have h:¬ (Sum.inr a:Key)=Sum.inr b:=λ q=>e (Sum.inr.inj q);rw [decide_eq_false h,decide_eq_false e]
def PH(a:Int)(b:Str):decide ((Sum.inl a:Key)=Sum.inr b)=false:=decide_eq_false (λ q=>nomatch q)
def PI(a:Str)(b:Int):decide ((Sum.inr a:Key)=Sum.inl b)=false:=decide_eq_false (λ q=>nomatch q)
def BS(prog:cS)(w:b_):PySem.KeyKind prog w Key where
 is:=HP
 hash:=PE w
 inj:=λ v a b ay af=>by
  rcases oK ay with ⟨i,t,rfl,rfl⟩ | ⟨x,t,rfl,rfl⟩
  ·rcases oK af with ⟨j,u,rfl,e⟩ | ⟨y,u,rfl,e⟩
   ·injection e with aE _;rw [aE]
   ·exact nomatch e
  ·rcases oK af with ⟨j,u,rfl,e⟩ | ⟨y,u,rfl,e⟩
   ·exact nomatch e
   ·injection e with aE _;rw [aE]
 byValue:=λ k v h=>by
  rcases oK h with ⟨i,t,rfl,rfl⟩ | ⟨x,t,rfl,rfl⟩<;>rfl
 pyHash:=λ bJ h=>by
  rcases oK bJ with ⟨i,t,rfl,rfl⟩ | ⟨x,t,rfl,rfl⟩
  ·exact wpAny_pyHash_int h
  ·exact wpAny_pyHash_str h
 eqBool:=λ bK bJ h=>by
  rcases oK bK with ⟨i,t,rfl,rfl⟩ | ⟨x,t,rfl,rfl⟩
  ·rcases oK bJ with ⟨j,u,rfl,rfl⟩ | ⟨y,u,rfl,rfl⟩
   ·rw [PF] at h;exact wpAny_eqBool_int h
   ·rw [PH] at h;exact SeqAt.EqAt.int_str i t y u _ _ _ _ h
  ·rcases oK bJ with ⟨j,u,rfl,rfl⟩ | ⟨y,u,rfl,rfl⟩
   ·rw [PI] at h;exact SeqAt.EqAt.str_int x t j u _ _ _ _ h
   ·rw [PG] at h;exact wpAny_eqBool_str h
 «strs»:=λ k x t v h=>by
  rcases oK h with ⟨i,u,rfl,e⟩ | ⟨y,u,rfl,e⟩
  ·exact nomatch e
  ·injection e with aE _;subst aE;cases v<;>rfl
inductive V where
 | bc | aJ (b:Bool) | int (i:Int) | str (x:Str) | tx (b:Array UInt8) | rA (b:UInt64) | ref (a:Addr) | ty (n:String)
 deriving DecidableEq
def RelV:V->Value->Prop
 | .bc,u=>u=Value.none
 | .aJ b,u=>u=Value.bool b
 | .int i,u=>∃ t,u=Value.int i t
 | .str x,u=>∃ t,u=Value.str x t
 | .tx b,u=>∃ t,u=Value.bytes b t
 | .rA b,u=>∃ t,u=Value.float b t
 | .ref a,u=>u=Value.ref a
 | .ty n,u=>u=Value.type n
abbrev Vals:List V->List Value->Prop:=la RelV
theorem Vals.length{xs:List V}{us:List Value}(r:Vals xs us):xs.length=us.length:=Paired.length r
theorem Vals.get:∀{xs:List V}{us:List Value}{i:Nat}{x:V},Vals xs us->xs[i]?=some x->∃ u,us[i]?=some u/\RelV x u
 | _,_,_,_,.nil,e=>by simp at e
 | _,_,0,_,.cons r _,e=>by simp at e;subst e;exact ⟨_,rfl,r⟩
 | _,_,i+1,x,.cons _ t,e=>by
  obtain ⟨u,ae,ag⟩:=Vals.get (i:=i) (x:=x) t (by simpa using e);exact ⟨u,by simpa using ae,ag⟩
theorem Vals.set{x:V}{u:Value}(r:RelV x u):∀{xs:List V}{us:List Value}(i:Nat),Vals xs us->Vals (xs.set i x) (us.set i u)
 | _,_,_,.nil=>.nil
 | _,_,0,.cons _ t=>.cons r t
 | _,_,i+1,.cons q t=>.cons q (Vals.set r i t)
theorem Vals.append:∀{xs ys:List V}{us ws:List Value},Vals xs us->Vals ys ws->Vals (xs++ys) (us++ws)
 | _,_,_,_,.nil,s=>s
 | _,_,_,_,.cons r t,s=>.cons r (Vals.append t s)
theorem Vals.take:∀{xs:List V}{us:List Value}(n:Nat),Vals xs us->Vals (xs.take n) (us.take n)
 | _,_,0,_=>.nil
 | _,_,_+1,.nil=>.nil
 | _,_,n+1,.cons r t=>.cons r (Vals.take n t)
theorem Vals.drop:∀{xs:List V}{us:List Value}(n:Nat),Vals xs us->Vals (xs.drop n) (us.drop n)
 | _,_,0,r=>r
 | _,_,_+1,.nil=>.nil
 | _,_,n+1,.cons _ t=>Vals.drop n t
def oL:Option V->Option Value->Prop
 | some v,some u=>RelV v u
 | none,none=>True
 | _,_=>False
def BT{κ:Type}:List (κ × V)->List (κ × Value)->Prop:=la λ(p:κ × V) (q:κ × Value)=>p.1=q.1/\RelV p.2 q.2
def gR:Key->V
 | .inl i=>.int i
 | .inr x=>.str x
inductive gm where
 | lst (xs:List V)
 | tup (xs:List V)
 | i6 (dH:List (Key × V)) | iH (dH:List (List Key × V))
 | set (S:Int->Bool) (n:Nat)
 | ins (C aU:Addr) (aC:List (Str × V))
 | own (x:Addr)
 | gS (aC:List (Str × V))
 | met (f x:Addr)
 | yT (lo au:Int)
 | ih (o:Obj) (u:gm)
 | oM (ps:Array Value)
 | ext (φ:bO->Prop)
abbrev av:=Addr->Option gm
def upd(H:av)(a:Addr)(o:gm):av:=λ b=>if b=a then some o else H b
def eF{H:av}{a:Addr}{o:gm}:upd H a o a=some o:=by unfold upd;rw [if_pos rfl]
def cQ{H:av}{a b:Addr}{o:gm}(h:b≠a):upd H a o b=H b:=by unfold upd;rw [if_neg h]
def h9{H:av}{a b:Addr}{o:gm}(h:H a=some o)(h':H b=none):a≠b:=by
 intro e;subst e;rw [h] at h';cases h'
section
variable(P:cS)(w:b_)
def f5(H:av)(h:bO)(a:Addr):gm->Prop
 | .lst xs=>xs.length<=sizeLine/\∃(aw:List Value)(n:Nat),Vals xs aw/\h.get? a=some { cls:=.type "list", data:=.seq aw.toArray n }
 | .tup xs=>xs.length<=sizeLine/\∃ aw:List Value,Vals xs aw/\mz h a aw.toArray
 | .i6 dH=>dH.length<=sizeLine/\(a==q_)=false/\∃ vs,BT dH vs/\h.DictOf (BS P w) a vs
 | .iH dH=>dH.length<=sizeLine/\(a==q_)=false/\∃ xs:List (List Key × Addr × Value),
  la (λ(p:List Key × V) (q:List Key × Addr × Value)=>p.1=q.1/\H q.2.1=some (.tup (p.1.map gR))/\RelV p.2 q.2.2) dH xs ∧
  ∃ o es e9,h.get? a=some o/\o.ExactDict/\o.data=.dict es e9/\es.toList=xs.map (entryOfKey (tupleKind (BS P w)))/\(xs.map (·.1)).Nodup
 | .set S n=>h.SetOf (intKind P w) a S n
 | .ins C aU aC=>H aU=some (.own a)/\aC.length<=1000/\aU≠a/\h.get? a=some (PySem.W.instObj C aU) ∧
  ∃ mA,h.Ns1 aU mA/\(∀ f,oL (aC.lookup f) (mA f))/\PySem.Within mA (aC.map (·.1))
 | .own _=>∃ o,h.get? a=some o
 | .gS aC=>∃ mA,h.Ns1 a mA/\∀ f,oL (aC.lookup f) (mA f)
 | .yT lo au=>∃ t u v,h.get? a=some { cls:=.type "range", data:=.fields #[.int lo t,.int au u,.int 1 v] }
 | .ih o u=>h.get? a=some o/\f5 H h a u
 | .oM ps=>h.get? a=some { cls:=.none,data:=.fields ps }
 | .met f x=>h.get? a=some (PySem.W.methodObj (.ref f) (.ref x))
 | .ext φ=>φ h/\(∃ o,h.get? a=some o)/\∀ ae ag:bO,φ ae->(∀ o,ae.get? a=some o->ag.get? a=some o)->φ ag
def fC(H:av)(h:bO):Prop:=∀ a o,H a=some o->f5 P w H h a o
end
section
variable{P:cS}{w:b_}{H aj:av}{h h':bO}{a:Addr}{o:gm}
theorem f5.lt(x:f5 P w H h a o):a < h.objs.size:=by
 cases o with
 | lst xs=>obtain ⟨_,_,_,_,e⟩:=x;exact dL e
 | tup xs=>obtain ⟨_,_,_,p⟩:=x;exact p.lt
 | i6 dH=>obtain ⟨_,_,_,_,o,_,_,e,_⟩:=x;exact dL e
 | iH dH=>obtain ⟨_,_,_,_,o,_,_,e,_⟩:=x;exact dL e
 | set S n=>obtain ⟨o,_,_,_,e,_⟩:=x;exact dL e
 | ins C aU aC=>obtain ⟨_,_,_,e,_⟩:=x;exact dL e
 | own y=>obtain ⟨_,e⟩:=x;exact dL e
 | gS aC=>obtain ⟨_,⟨_,_,_,e,_⟩,_⟩:=x;exact dL e
 | yT lo au=>obtain ⟨_,_,_,e⟩:=x;exact dL e
 | ih dv u=>obtain ⟨e,_⟩:=x;exact dL e
 | oM ps=>exact dL (show h.get? a=some _ from x)
 | met f y=>exact dL (show h.get? a=some _ from x)
 | ext φ=>obtain ⟨_,⟨_,e⟩,_⟩:=x;exact dL e
theorem Paired.HQ{α β:Type}{F G:α->β->Prop}:∀{HR:List α}{HS:List β},la F HR HS->(∀ a b,F a b->G a b)->la G HR HS
 | _,_,.nil,_=>.nil
 | _,_,.cons r t,f=>.cons (f _ _ r) (Paired.HQ t f)
theorem f5.nS(x:f5 P w H h a o)(k:∀ b u,(b=a\/H b=some (.own a))->h.get? b=some u->h'.get? b=some u)
 (aR:∀ b,H b=some (.own a)->aj b=some (.own a)) (bu:∀ b xs,H b=some (.tup xs)->aj b=some (.tup xs)):f5 P w aj h' a o:=by
 induction o with
 | lst xs=>obtain ⟨z,aw,n,r,e⟩:=x;exact ⟨z,aw,n,r,k _ _ (.inl rfl) e⟩
 | tup xs=>obtain ⟨z,aw,r,dv,e,c⟩:=x;exact ⟨z,aw,r,dv,k _ _ (.inl rfl) e,c⟩
 | i6 dH=>obtain ⟨z,y,vs,r,dv,es,e9,e,c⟩:=x;exact ⟨z,y,vs,r,dv,es,e9,k _ _ (.inl rfl) e,c⟩
 | iH dH=>
  obtain ⟨z,y,xs,r,dv,es,e9,e,c⟩:=x;exact ⟨z,y,xs,Paired.HQ r λ p q z=>⟨z.1,bu _ _ z.2.1,z.2.2⟩,dv,es,e9,k _ _ (.inl rfl) e,c⟩
 | set S n=>obtain ⟨dv,es,e9,t,e,c⟩:=x;exact ⟨dv,es,e9,t,k _ _ (.inl rfl) e,c⟩
 | ins C aU aC=>
  obtain ⟨d,z,ne,e,mA,⟨eR,es,e9,aP,c⟩,r⟩:=x;exact ⟨aR _ d,z,ne,k _ _ (.inl rfl) e,mA,⟨eR,es,e9,k _ _ (.inr d) aP,c⟩,r⟩
 | own y=>obtain ⟨dv,e⟩:=x;exact ⟨dv,k _ _ (.inl rfl) e⟩
 | gS aC=>obtain ⟨mA,⟨eR,es,e9,e,c⟩,r⟩:=x;exact ⟨mA,⟨eR,es,e9,k _ _ (.inl rfl) e,c⟩,r⟩
 | yT lo au=>obtain ⟨t,u,v,e⟩:=x;exact ⟨t,u,v,k _ _ (.inl rfl) e⟩
 | ih dv u bN=>obtain ⟨e,q⟩:=x;exact ⟨k _ _ (.inl rfl) e,bN q⟩
 | oM ps=>
  have e:h.get? a=some { cls:=.none,data:=.fields ps }:=x;show h'.get? a=some { cls:=.none,data:=.fields ps };exact k a _ (.inl rfl) e
 | met f y=>
  have e:h.get? a=some (PySem.W.methodObj (.ref f) (.ref y)):=x;show h'.get? a=some (PySem.W.methodObj (.ref f) (.ref y));exact k a _ (.inl rfl) e
 | ext φ=>obtain ⟨p,⟨o,e⟩,st⟩:=x;exact ⟨st _ _ p λ o q=>k _ _ (.inl rfl) q,⟨o,k _ _ (.inl rfl) e⟩,st⟩
theorem fC.lt(x:fC P w H h)(e:H a=some o):a < h.objs.size:=(x a o e).lt
theorem fC.fresh(x:fC P w H h)(e:h.objs.size<=a):H a=none:=by
 cases q:H a with
 | none=>rfl
 | some u=>exact absurd (iF (x.lt q) e) (nO _)
theorem fC.kept(x:fC P w H h)(k:∀ b u,h.get? b=some u->h'.get? b=some u):fC P w H h':=λ a o e=>
 (x a o e).nS (λ b u _ q=>k b u q) (λ _ q=>q) λ _ _ q=>q
theorem fC.laid(x:fC P w H h)(k:∀ b u,h.get? b=some u->h'.get? b=some u)(ah:h.objs.size<=a)(new:f5 P w (upd H a o) h' a o):fC P w (upd H a o) h':=λ b u e=>by
 have aA:=x.fresh ah;by_cases af:b=a
 ·subst af;rw [eF] at e;cases e;exact new
 ·rw [cQ af] at e;exact (x b u e).nS (λ c v _ q=>k c v q) (λ c q=>by rw [cQ (h9 q aA)];exact q) λ c xs q=>by rw [cQ (h9 q aA)];exact q
end
def oN(H:av)(a:Addr)(u:gm):Prop:=H a=some u\/∃ o,H a=some (.ih o u)
theorem oN.ok{P:cS}{w:b_}{H:av}{h:bO}{a:Addr}{u:gm}(r:oN H a u)(x:fC P w H h):f5 P w H h a u:=by
 rcases r with r | ⟨o,r⟩
 ·exact x a u r
 ·obtain ⟨_,q⟩:=x a _ r;exact q
def vA:Option gm->Prop
 | some (.lst _)=>True
 | some (.i6 _)=>True
 | some (.iH _)=>True
 | some (.set _ _)=>True
 | some (.ins _ _ _)=>True
 | some (.ext _)=>True
 | _=>False
section
variable{P:cS}{w:b_}{H:av}{h h':bO}{x e:Addr}{dI:gm}
theorem fC.write(ok:fC P w H h)(jT:vA (H x))(he:e=x\/H e=some (.own x))(k:∀ b u,b≠e->h.get? b=some u->h'.get? b=some u)(oO:∃ u,h'.get? e=some u)
 (new:f5 P w (upd H x dI) h' x dI):fC P w (upd H x dI) h':=λ b u q=>by
 have HT:∀ c y,H c=some (.own y)->c≠x:=λ c y r z=>by subst z;rw [r] at jT;exact jT
 have PJ:∀ c xs,H c=some (.tup xs)->c≠x:=λ c xs r z=>by subst z;rw [r] at jT;exact jT
 by_cases af:b=x
 ·subst af;rw [eF] at q;cases q;exact new
 ·rw [cQ af] at q;by_cases nT:b=e
  ·have hj:H b=some (.own x):=by
    rcases he with z | z
    ·exact absurd (nT.trans z) af
    ·rw [nT];exact z
   rw [q] at hj;cases hj;obtain ⟨v,bJ⟩:=oO;exact ⟨v,by rw [nT];exact bJ⟩
  ·refine (ok b u q).nS (λ c v am r=>k c v ?_ r) (λ c r=>by rw [cQ (HT c b r)];exact r) λ c xs r=>by rw [cQ (PJ c xs r)];exact r
   rcases am with rfl | am
   ·exact nT
   ·rintro rfl;rcases he with z | z
    ·exact HT c b am z
    ·rw [am] at z;cases z;exact af rfl
end
structure fS(aC ex:List Addr)(H aj:av)(h h':bO):Prop where
 keep:∀ b o,h.get? b=some o->H b=none->b ∉ aC->b ∉ ex->h'.get? b=some o
 slot:∀ b o,h.get? b=some o->H b=none->b∈aC->b ∉ ex->∃ bq,h'.get? b=some { o with slots:=bq }
 free:∀ b o,h.get? b=some o->H b=none->b ∉ ex->aj b=none
 there:∀ b o,h.get? b=some o->b ∉ ex->∃ dI,h'.get? b=some dI
 kB:∀ b xs,H b=some (.tup xs)->aj b=some (.tup xs)
 jU:∀ b o u,H b=some (.ih o u)->aj b=some (.ih o u)
 kC:∀ b ps,H b=some (.oM ps)->∃ more,aj b=some (.oM (ps++more))
section
variable{aC dY ex afp:List Addr}{H H1 a3:av}{h ae ag h':bO}{a x e:Addr}{o:gm}
theorem fS.any(u:fS aC ex H H1 h ae){b:Addr}{dv:Obj}(q:h.get? b=some dv)(n:H b=none)(ai:b ∉ ex):∃ bq,ae.get? b=some { dv with slots:=bq }:=by
 by_cases af:b∈aC
 ·exact u.slot b dv q n af ai
 ·exact ⟨dv.slots,u.keep b dv q n af ai⟩
theorem fS.kept(k:∀ b u,h.get? b=some u->h'.get? b=some u):fS aC ex H H h h':=
 ⟨λ b dv q _ _ _=>k b dv q,λ b dv q _ _ _=>⟨dv.slots,k b dv q⟩,λ _ _ _ n _=>n,λ b dv q _=>⟨dv,k b dv q⟩,λ _ _ q=>q,λ _ _ _ q=>q,λ _ ps q=>⟨#[],by rw [q];simp⟩⟩
theorem fS.refl:fS aC ex H H h h:=fS.kept λ _ _ q=>q
theorem fS.laid(k:∀ b u,h.get? b=some u->h'.get? b=some u)(ah:h.objs.size<=a)(aA:H a=none):fS aC ex H (upd H a o) h h' where
 keep:=λ b u q _ _ _=>k b u q
 slot:=λ b u q _ _ _=>⟨u.slots,k b u q⟩
 free:=λ b u q n _=>by rw [cQ (eW (iF (dL q) ah))];exact n
 there:=λ b u q _=>⟨u,k b u q⟩
 kB:=λ b xs q=>by rw [cQ (h9 q aA)];exact q
 jU:=λ b u xs q=>by rw [cQ (h9 q aA)];exact q
 kC:=λ b ps q=>⟨#[],by rw [cQ (h9 q aA),q];simp⟩
theorem fS.write(jT:vA (H x))(he:e=x\/H e=some (.own x))(k:∀ b u,b≠e->h.get? b=some u->h'.get? b=some u)(oO:∃ u,h'.get? e=some u):fS aC ex H (upd H x o) h h':=by
 have ai:∀ b,H b=none->b≠x:=λ b n z=>by subst z;rw [n] at jT;exact jT
 have af:∀ b,H b=none->b≠e:=λ b n z=>by
  subst z;rcases he with r | r
  ·exact ai b n r
  ·rw [n] at r;cases r
 have hm:∀ b u,H b=some u->¬ vA (some u)->b≠x:=λ b u q nm z=>by subst z;rw [q] at jT;exact nm jT
 refine ⟨λ b u q n _ _=>k b u (af b n) q,λ b u q n _ _=>⟨u.slots,k b u (af b n) q⟩,λ b u q n _=>by rw [cQ (ai b n)];exact n,λ b u q _=>?_,
  λ b xs q=>by rw [cQ (hm b _ q λ z=>z)];exact q,λ b u xs q=>by rw [cQ (hm b _ q λ z=>z)];exact q,λ b ps q=>⟨#[],by rw [cQ (hm b _ q λ z=>z),q];simp⟩⟩
 by_cases nT:b=e
 ·subst nT;exact oO
 ·exact ⟨u,k b u nT q⟩
end
def yU(h:bO)(H:av):List Addr:=(hE h.objs.size).filter λ a=>(H a).isSome
def oP(h:bO)(H:av):bO:=PySem.W.hideAll h (yU h H)
def PK(h:bO)(H:av):(oP h H).objs.size=h.objs.size:=PySem.W.hideAll_size _ _
def PL{h:bO}{H:av}{b:Addr}{o:Obj}(e:h.get? b=some o)(n:H b=none):(oP h H).get? b=some o:=
 PySem.W.hideAll_get _ e λ hm=>by
  have q:(H b).isSome=true:=(List.mem_filter.mp hm).2;rw [n] at q;simp at q
def PM{h:bO}{H:av}{b:Addr}{o:Obj}(e:(oP h H).get? b=some o):h.get? b=some o/\H b=none:=by
 have bZ:h.get? b=some o:=PySem.W.of_hideAll (yU h H) e;refine ⟨bZ,?_⟩
 cases q:H b with
 | none=>rfl
 | some x=>
  have hm:b∈yU h H:=List.mem_filter.mpr ⟨oE.mpr (dL bZ),by simp [q]⟩;have z:(oP h H).get? b=none:=PySem.W.hideAll_none (yU h H) hm;rw [z] at e;cases e
structure Mod(K:aV)(mg:Str->Option Value)(base:bO):Prop where
 vB:K.In base
 glob:base.Ns ea mg
 blt:∃ jV,base.Ns builtinsNs jV/\∀ x:Str,x≠"__name__"->jV x=k_ x
 nolimit:base.NoLimit
structure aT where
 prog:cS
 w:b_
 K:aV
 mg:Str->Option Value
 base:bO
 A:cL
 N:List Str
 s₀:aF
 H₀:av
 env:Env
 outer:List Env
 stack:List Env
 ex:List Addr
 fn:Str->Bool
 calm:Bool
 pn:List (Addr × Obj)
 xe:Value->aF->Prop
def eS(l:List Env):List Addr:=l.filterMap (·.frame)
abbrev aT.aC(X:aT):List Addr:=eS X.outer
def qg(sc:gF)(x:Str):Prop:=sc.names.lookup x=some .local\/sc.names.lookup x=some .cell\/sc.names.lookup x=some .free
def Loc(sc:gF)(x:Str):Prop:=sc.names.lookup x=some .local\/sc.names.lookup x=some .cell
def Look(env:Env)(h:bO)(m:Str->Option Value)(x:Str)(u:Value):Prop:=
 (env.kindOf x=some .local/\m x=some u)\/((env.kindOf x=some .cell\/env.kindOf x=some .free)/\∃ c,env.cells.lookup x=some c/\h.IsCell c (some u))
structure aT.Ok(X:aT):Prop where
 mod:Mod X.K X.mg X.base
 kind:X.env.scope.kind=.function
 glob:X.env.globals=ea
 blt:X.env.builtins=builtinsNs
 above:X.s₀.heap.objs.size<=X.env.locals
 inj:∀ x y c,X.env.cells.lookup x=some c->X.env.cells.lookup y=some c->x=y
 has:∀ x,(X.env.kindOf x=some .cell\/X.env.kindOf x=some .free)->∃ c,X.env.cells.lookup x=some c
 tz:∀ x c,X.fn x=true->X.env.cells.lookup x=some c->X.s₀.heap.objs.size<=c
 hd:X.calm=true->X.A.handled=none
 frames:X.A.frames=some X.stack
 tA:X.stack=X.outer\/(X.stack=X.env::X.outer/\X.env.frame=some X.env.locals)
 BU:∀ b∈X.ex,b≠X.env.locals/\∀ x c,X.env.cells.lookup x=some c->c≠b
 bs:∀ b o,X.base.get? b=some o->X.s₀.heap.get? b=some o/\X.H₀ b=none
 nU:X.base.objs.size<=X.s₀.heap.objs.size
 tB:∀ b o,X.base.get? b=some o->b ∉ X.ex
 vC:∀ b∈X.ex,b ∉ X.aC
 kD:X.s₀.heap.FunFrames X.base X.outer
 qh:∀ b∈X.aC,X.H₀ b=none
structure Inv(X:aT)(pins:List (Addr × Obj))(σ:List (Option V))(H:av)(s:aF):Prop where
 ok:X.Ok
 os:s.os=X.s₀.os
 bare:my s.gens
 base:fS X.aC X.ex X.H₀ H X.s₀.heap s.heap
 loc:∃ m,s.heap.Ns X.env.locals m/\∀(i:Nat)(x:Str)(v:V),X.N[i]?=some x->σ[i]?=some (some v)->qg X.env.scope x->∃ u,RelV v u/\Look X.env s.heap m x u
 cell:∀ x c,X.env.cells.lookup x=some c->∃ v,s.heap.IsCell c v
 free:H X.env.locals=none
 kE:∀ x c,X.env.cells.lookup x=some c->H c=none
 pin:∀ p∈X.pn++pins,s.heap.get? p.1=some p.2/\H p.1=none/\p.1≠X.env.locals/\p.1 ∉ X.aC/\∀ v,p.2.data≠.cell v
 bU:fC X.prog X.w H s.heap
 len:σ.length=X.N.length
section
variable{X:aT}{pins:List (Addr × Obj)}{σ:List (Option V)}{H aj:av}{s:aF}{h':bO}
theorem aT.Ok.PN(ok:X.Ok){b:Addr}{o:Obj}(e:X.base.get? b=some o):b ∉ X.aC:=λ af=>by
 have:=(ok.kD.mem af).1;rw [e] at this;cases this
theorem Inv.bs(I:Inv X pins σ H s):∀ b o,X.base.get? b=some o->s.heap.get? b=some o/\H b=none:=λ b o e=>
 ⟨I.base.keep b o (I.ok.bs b o e).1 (I.ok.bs b o e).2 (I.ok.PN e) (I.ok.tB b o e),I.base.free b o (I.ok.bs b o e).1 (I.ok.bs b o e).2 (I.ok.tB b o e)⟩
theorem Inv.bk(I:Inv X pins σ H s):∀ b o,X.base.get? b=some o->s.heap.get? b=some o:=λ b o e=>(I.bs b o e).1
theorem Inv.mod(I:Inv X pins σ H s):Mod X.K X.mg X.base:=I.ok.mod
theorem Inv.et(I:Inv X pins σ H s):X.K.In s.heap:=I.ok.mod.vB.keeps I.bk
theorem Inv.lt(I:Inv X pins σ H s):X.env.locals < s.heap.objs.size:=let ⟨_,aA,_⟩:=I.loc;aA.lt
theorem Inv.h_(I:Inv X pins σ H s):X.s₀.heap.objs.size<=s.heap.objs.size:=hT I.ok.above (Nat.le_of_lt I.lt)
theorem Inv.PO(I:Inv X pins σ H s){a:Addr}(h:s.heap.objs.size<=a):a ∉ X.aC:=λ af=>by
 obtain ⟨_,o,aR,_⟩:=I.ok.kD.mem af;exact absurd (iF (dL aR) (hT I.h_ h)) (nO _)
theorem Inv.rB(I:Inv X pins σ H s):∀ x c,X.env.cells.lookup x=some c->c≠X.env.locals:=λ x c e z=>by
 obtain ⟨v,o,aR,hd⟩:=I.cell x c e;obtain ⟨m,⟨dI,es,e9,mG,ii,_⟩,_⟩:=I.loc;rw [z,mG] at aR;cases aR;rw [ii] at hd;cases hd
theorem Inv.kD(I:Inv X pins σ H s):s.heap.FunFrames X.base X.outer:=by
 have all:∀(l:List Env),(∀ b∈eS l,b∈X.aC)->X.s₀.heap.FunFrames X.base l->s.heap.FunFrames X.base l:=by
  intro l
  induction l with
  | nil=>intro _ _;trivial
  | cons env r bN=>
   intro ax ar;obtain ⟨aD,⟨L,o,hf,aA,aR,hd⟩,ak⟩:=ar;have lO:L∈X.aC:=ax L (by unfold eS;rw [yw,hf];exact b3);obtain ⟨bq,e⟩:=I.base.slot L o aR (I.ok.qh L lO) lO λ z=>I.ok.vC L z lO;exact ⟨aD,⟨L,_,hf,aA,e,hd⟩,bN (λ b af=>ax b (by unfold eS;rw [yw,hf];exact cO _ af)) ak⟩
 exact all X.outer (λ _ af=>af) I.ok.kD
theorem Inv.stack(I:Inv X pins σ H s):s.heap.FunFrames X.base X.stack:=by
 rcases I.ok.tA with e | ⟨e,hf⟩
 ·rw [e];exact I.kD
 ·rw [e];obtain ⟨m,aA,_⟩:=I.loc;refine .cons (by rw [I.ok.kind];decide) hf aA ?_ I.kD;exact yR (hT I.ok.nU I.ok.above)
theorem Inv.tC(I:Inv X pins σ H s):∀ b∈eS X.stack,b∈X.env.locals::X.aC:=λ b af=>by
 rcases I.ok.tA with e | ⟨e,hf⟩
 ·rw [e] at af;exact cO _ af
 ·rw [e] at af;unfold eS at af;rw [yw,hf] at af;exact af
theorem Inv.vD(I:Inv X pins σ H s):∀ b∈eS X.stack,H b=none:=λ b af=>by
 rcases cB.mp (I.tC b af) with e | af
 ·rw [e];exact I.free
 ·obtain ⟨_,o,aR,_⟩:=I.ok.kD.mem af;exact I.base.free b o aR (I.ok.qh b af) λ z=>I.ok.vC b z af
theorem Inv.step{g':Array GenState}{t':Nat}{d':Drawn}{ch:List Addr}(I:Inv X pins σ H s)
 (kF:∀ b∈ch,(b∈X.ex\/X.s₀.heap.objs.size<=b)/\b≠X.env.locals/\(∀ x c,X.env.cells.lookup x=some c->c≠b)/\∀ p∈X.pn++pins,p.1≠b)
 (keep:∀ b o,b≠X.env.locals->b ∉ X.aC->b ∉ ch->s.heap.get? b=some o->H b=none->h'.get? b=some o)
 (slot:∀ b o,b≠X.env.locals->b∈X.aC->b ∉ ch->s.heap.get? b=some o->H b=none->∃ bq,h'.get? b=some { o with slots:=bq }) (free:∀ b o,b ∉ ch->s.heap.get? b=some o->H b=none->aj b=none)
 (there:∀ b o,b ∉ ch->s.heap.get? b=some o->∃ dI,h'.get? b=some dI)
 (kB:∀ b xs,H b=some (.tup xs)->aj b=some (.tup xs)) (jU:∀ b o u,H b=some (.ih o u)->aj b=some (.ih o u)) (kC:∀ b ps,H b=some (.oM ps)->∃ more,aj b=some (.oM (ps++more)))
 (ns:∀ m,s.heap.Ns X.env.locals m->h'.Ns X.env.locals m) (bU:fC X.prog X.w aj h') (a_:my g') :
 Inv X pins σ aj { s with heap:=h',gens:=g',drawn:=d',toks:=t' }:=by
 have HU:∀ b o,X.s₀.heap.get? b=some o->b≠X.env.locals:=λ b o e=>eW (iF (dL e) I.ok.above)
 have yV:∀ b o,X.s₀.heap.get? b=some o->b ∉ X.ex->b ∉ ch:=λ b o e ai af=>by
  rcases (kF b af).1 with z | z
  ·exact ai z
  ·exact absurd (iF (dL e) z) (nO _)
 have cellK:∀ x c,X.env.cells.lookup x=some c->∀ v,s.heap.IsCell c v->h'.IsCell c v:=λ x c e v ⟨o,aR,hd⟩=>by
  have vE:c ∉ ch:=λ z=>(kF c z).2.2.1 x c e rfl;by_cases am:c∈X.aC
  ·obtain ⟨bq,q⟩:=slot c o (I.rB x c e) am vE aR (I.kE x c e);exact ⟨_,q,hd⟩
  ·exact ⟨o,keep c o (I.rB x c e) am vE aR (I.kE x c e),hd⟩
 refine ⟨I.ok,I.os,a_,⟨λ b o e n af ai=>?_,λ b o e n af ai=>?_,λ b o e n ai=>?_,λ b o e ai=>?_,λ b xs e=>kB b xs (I.base.kB b xs e),λ b o xs e=>jU b o xs (I.base.jU b o xs e),λ b ps e=>?_⟩,?_,λ x c e=>?_,?_,λ x c e=>?_,λ p ah=>?_,bU,I.len⟩
 ·exact keep b o (HU b o e) af (yV b o e ai) (I.base.keep b o e n af ai) (I.base.free b o e n ai)
 ·obtain ⟨bq,aE⟩:=I.base.slot b o e n af ai;obtain ⟨rC,aP⟩:=slot b _ (HU b o e) af (yV b o e ai) aE (I.base.free b o e n ai);exact ⟨rC,aP⟩
 ·obtain ⟨dI,aE⟩:=I.base.there b o e ai;exact free b dI (yV b o e ai) aE (I.base.free b o e n ai)
 ·obtain ⟨dI,aE⟩:=I.base.there b o e ai;exact there b dI (yV b o e ai) aE
 ·obtain ⟨eg,aE⟩:=I.base.kC b ps e;obtain ⟨eh,aP⟩:=kC b _ aE;exact ⟨eg++eh,by rw [aP,Array.append_assoc]⟩
 ·obtain ⟨m,aA,ar⟩:=I.loc;refine ⟨m,ns m aA,λ i x v aE aP e3=>?_⟩;obtain ⟨u,r,l⟩:=ar i x v aE aP e3;refine ⟨u,r,?_⟩;rcases l with l | ⟨k,c,e,z⟩
  ·exact .inl l
  ·exact .inr ⟨k,c,e,cellK x c e _ z⟩
 ·obtain ⟨v,z⟩:=I.cell x c e;exact ⟨v,cellK x c e v z⟩
 ·obtain ⟨m,⟨o,_,_,aR,_⟩,_⟩:=I.loc;exact free _ o (λ z=>(kF _ z).2.1 rfl) aR I.free
 ·obtain ⟨v,o,aR,hd⟩:=I.cell x c e;exact free c o (λ z=>(kF c z).2.2.1 x c e rfl) aR (I.kE x c e)
 ·obtain ⟨e,n,ne,lP,d⟩:=I.pin p ah;have vE:p.1 ∉ ch:=λ z=>(kF p.1 z).2.2.2 p ah rfl;exact ⟨keep p.1 p.2 ne lP vE e n,free p.1 p.2 vE e n,ne,lP,d⟩
theorem Inv.un{t':Nat}(I:Inv X pins σ H s)(u:fS X.aC [] H aj s.heap h')(bU:fC X.prog X.w aj h'):Inv X pins σ aj { s with heap:=h',toks:=t' }:=by
 obtain ⟨m,⟨o,es,e9,aR,r⟩,_⟩:=id I.loc;obtain ⟨bq,lO⟩:=u.any aR I.free (by simp)
 exact I.step (g':=s.gens) (d':=s.drawn) (ch:=[]) (λ _ z=>nomatch z) (λ b o _ af _ e n=>u.keep b o e n af (by simp)) (λ b o _ af _ e n=>u.slot b o e n af (by simp)) (λ b o _ e n=>u.free b o e n (by simp)) (λ b o _ e=>u.there b o e (by simp)) u.kB u.jU u.kC (λ dR hm=>by
  obtain ⟨dI,jW,BV,mG,bD⟩:=hm;rw [aR] at mG;cases mG
  exact ⟨_,jW,BV,lO,bD⟩) bU I.bare
theorem Inv.call{g':Array GenState}{t':Nat}{d':Drawn}{ch:List Addr}(I:Inv X pins σ H s)(u:fS (eS X.stack) ch H aj s.heap h')(bU:fC X.prog X.w aj h')(a_:my g')
 (kF:∀ b∈ch,(b∈X.ex\/X.s₀.heap.objs.size<=b)/\b≠X.env.locals/\(∀ x c,X.env.cells.lookup x=some c->c≠b)/\∀ p∈X.pn++pins,p.1≠b) :
 Inv X pins σ aj { s with heap:=h',gens:=g',drawn:=d',toks:=t' }:=by
 obtain ⟨m,⟨o,es,e9,aR,r⟩,_⟩:=id I.loc;obtain ⟨bq,lO⟩:=u.any aR I.free λ z=>(kF _ z).2.1 rfl
 exact I.step (ch:=ch) kF (λ b o lO af am e n=>u.keep b o e n (λ z=>(cB.mp (I.tC b z)).elim lO af) am) (λ b o _ _ am e n=>u.any e n am) (λ b o am e n=>u.free b o e n am) (λ b o am e=>u.there b o e am) u.kB u.jU u.kC (λ dR hm=>by
  obtain ⟨dI,jW,BV,mG,bD⟩:=hm;rw [aR] at mG;cases mG
  exact ⟨_,jW,BV,lO,bD⟩) bU a_
theorem Inv.turned{t':Nat}{it:Addr}(I:Inv X pins σ H s)(k:∀ b o,b≠it->s.heap.get? b=some o->h'.get? b=some o)(aA:H it=none)(lO:it≠X.env.locals)
 (ae:it∈X.ex\/X.s₀.heap.objs.size<=it) (ag:∀ x c,X.env.cells.lookup x=some c->c≠it) (aO:∀ p∈X.pn++pins,p.1≠it):Inv X pins σ H { s with heap:=h',toks:=t' }:=by
 have vF:∀ b u,H b=some u->b≠it:=λ b u e z=>by rw [z,aA] at e;cases e
 refine I.step (g':=s.gens) (d':=s.drawn) (ch:=[it]) (λ b af=>?_) (λ b o _ _ am e _=>k b o (λ z=>am (by simp [z])) e) (λ b o _ _ am e _=>⟨o.slots,k b o (λ z=>am (by simp [z])) e⟩) (λ _ _ _ _ n=>n)
  (λ b o am e=>⟨o,k b o (λ z=>am (by simp [z])) e⟩) (λ _ _ e=>e) (λ _ _ _ e=>e) (λ b ps e=>⟨#[],by rw [e];simp⟩) (λ m hm=>?_) (λ b u e=>?_) I.bare
 ·have e:b=it:=by simpa using af
  subst e;exact ⟨ae,lO,ag,aO⟩
 ·obtain ⟨o,es,e9,aR,r⟩:=hm;exact ⟨o,es,e9,k _ o (Ne.symm lO) aR,r⟩
 ·refine (I.bU b u e).nS (λ c v am q=>k c v ?_ q) (λ _ q=>q) λ _ _ q=>q;rcases am with z | z
  ·rw [z];exact vF b u e
  ·exact vF c _ z
theorem Inv.tok(I:Inv X pins σ H s)(t:Nat):Inv X pins σ H { s with toks:=t }:=I.un (h':=s.heap) (t':=t) fS.refl I.bU
theorem Inv.kept{t':Nat}(I:Inv X pins σ H s)(k:∀ b u,s.heap.get? b=some u->h'.get? b=some u):Inv X pins σ H { s with heap:=h',toks:=t' }:=I.un (fS.kept k) (I.bU.kept k)
theorem Inv.laid{a:Addr}{o:gm}{t':Nat}(I:Inv X pins σ H s)(k:∀ b u,s.heap.get? b=some u->h'.get? b=some u)(ah:s.heap.objs.size<=a)(new:f5 X.prog X.w (upd H a o) h' a o) :
 Inv X pins σ (upd H a o) { s with heap:=h',toks:=t' }:=I.un (fS.laid k ah (I.bU.fresh ah)) (I.bU.laid k ah new)
theorem Inv.write{x e:Addr}{o:gm}{t':Nat}(I:Inv X pins σ H s)(jT:vA (H x))(he:e=x\/H e=some (.own x))(k:∀ b u,b≠e->s.heap.get? b=some u->h'.get? b=some u)(oO:∃ u,h'.get? e=some u)
 (new:f5 X.prog X.w (upd H x o) h' x o):Inv X pins σ (upd H x o) { s with heap:=h',toks:=t' }:=I.un (fS.write jT he k oO) (I.bU.write jT he k oO new)
theorem Inv.HV{HW:List (Addr × Obj)}(I:Inv X pins σ H s)(h:∀ p∈HW,s.heap.get? p.1=some p.2/\H p.1=none/\p.1≠X.env.locals/\p.1 ∉ X.aC/\∀ v,p.2.data≠.cell v):Inv X HW σ H s:=
 ⟨I.ok,I.os,I.bare,I.base,I.loc,I.cell,I.free,I.kE,λ p ah=>(fH.mp ah).elim (λ z=>I.pin p (jP _ z)) (h p),I.bU,I.len⟩
def BW{N:List Str}(dM:N.Nodup){i j:Nat}{x:Str}(a:N[i]?=some x)(b:N[j]?=some x):i=j:=by
 obtain ⟨ae,aE⟩:=jo.mp a;obtain ⟨ag,aP⟩:=jo.mp b;exact (List.getElem_inj dM).mp (aE.trans aP.symm)
def HX{M:mx}{A:cL}{E:Value->aF->Prop}{i:Nat}{x:Str}{v:V}{u:Value}{Q:Unit->aF->Prop}(I:Inv X pins σ H s)(dM:X.N.Nodup)(au:X.N[i]?=some x)(ai:Loc X.env.scope x)(r:RelV v u)
 (h:∀ aQ,Inv X pins (σ.set i (some v)) H aQ->(∃ a,Heap.SameBut a s.heap aQ.heap/\(a=X.env.locals\/X.env.cells.lookup x=some a))->Q () aQ) (hf:X.fn x=true\/X.env.scope.names.lookup x=some .local:=by first | exact .inl rfl | exact .inr rfl | assumption):aZ M A (storeName X.env x u) Q E s:=by
 obtain ⟨m,aA,ar⟩:=id I.loc
 have BX:(X.env.scope.kind==.class||(X.env.scope.kind==.module&&X.env.locals !=X.env.globals))=false:=by rw [I.ok.kind];rfl
 have auσ:i < σ.length:=by rw [I.len];exact (jo.mp au).1
 have rB:=I.rB
 have tracked:∀{a:Addr}{h':bO},(∃ o,s.heap.get? a=some o/\H a=none)->Heap.SameBut a s.heap h'->fC X.prog X.w H h':=λ{a h'} ay ax b dv e=>by
  obtain ⟨_,_,HY⟩:=ay;refine (I.bU b dv e).nS (λ c hH am q=>(ax.2 c ?_).trans q) (λ _ q=>q) λ _ _ q=>q;rintro rfl;rcases am with rfl | am
  ·rw [HY] at e;cases e
  ·rw [HY] at am;cases am
 rcases ai with aD | aD
 ·refine wpAny_storeName_local aD aA (λ h' mH ax=>?_) BX;obtain ⟨yW,_,_,rD,_⟩:=id aA;refine h _ ⟨I.ok,I.os,I.bare,⟨λ b o e n af ai=>?_,λ b o e n af ai=>?_,I.base.free,λ b o e ai=>?_,I.base.kB,I.base.jU,I.base.kC⟩,⟨_,mH,λ j y kG aE aP e3=>?_⟩,λ y c e=>?_,I.free,I.kE,λ p ah=>?_,tracked ⟨yW,rD,I.free⟩ ax,by simpa using I.len⟩ ⟨_,ax,.inl rfl⟩
  ·exact (ax.2 b (eW (iF (dL e) I.ok.above))).trans (I.base.keep b o e n af ai)
  ·obtain ⟨bq,aE⟩:=I.base.slot b o e n af ai;exact ⟨bq,(ax.2 b (eW (iF (dL e) I.ok.above))).trans aE⟩
  ·obtain ⟨dI,aE⟩:=I.base.there b o e ai;exact ⟨dI,(ax.2 b (eW (iF (dL e) I.ok.above))).trans aE⟩
  ·by_cases bw:j=i
   ·subst bw;rw [au] at aE;cases aE;rw [List.getElem?_set_self auσ] at aP;cases aP;exact ⟨u,r,.inl ⟨aD,by simp⟩⟩
   ·rw [nI (Ne.symm bw)] at aP;obtain ⟨rE,bD,q⟩:=ar j y kG aE aP e3;refine ⟨rE,bD,?_⟩;rcases q with ⟨k,e⟩ | ⟨k,c,e,z⟩
    ·refine .inl ⟨k,?_⟩;have:y≠x:=λ e=>bw (BW dM aE (e ▸ au));simp [this,e]
    ·exact .inr ⟨k,c,e,z.sameBut ax (rB y c e)⟩
  ·obtain ⟨hH,z⟩:=I.cell y c e;exact ⟨hH,z.sameBut ax (rB y c e)⟩
  ·obtain ⟨e,n,ne,lP,d⟩:=I.pin p ah;exact ⟨(ax.2 p.1 ne).trans e,n,ne,lP,d⟩
 ·have BY:X.fn x=true:=by
   rcases hf with z | z
   ·exact z
   ·rw [z] at aD;cases aD
  obtain ⟨c,am⟩:=I.ok.has x (.inl aD);obtain ⟨hH,z⟩:=I.cell x c am;refine wpAny_storeName_cell I.ok.kind aD am z (λ h' yX ax=>?_);obtain ⟨gT,HZ,PP⟩:=id z;refine h { s with heap:=h' } ⟨I.ok,I.os,I.bare,⟨λ b o e n af ai=>?_,λ b o e n af ai=>?_,I.base.free,λ b o e ai=>?_,I.base.kB,I.base.jU,I.base.kC⟩,⟨m,aA.sameBut ax (Ne.symm (rB x c am)),λ j y kG aE aP e3=>?_⟩,λ y dm e=>?_,I.free,I.kE,λ p ah=>?_,tracked ⟨gT,HZ,I.kE x c am⟩ ax,by simpa using I.len⟩ ⟨c,ax,.inr am⟩
  ·exact (ax.2 b (eW (iF (dL e) (I.ok.tz x c BY am)))).trans (I.base.keep b o e n af ai)
  ·obtain ⟨bq,aE⟩:=I.base.slot b o e n af ai;exact ⟨bq,(ax.2 b (eW (iF (dL e) (I.ok.tz x c BY am)))).trans aE⟩
  ·obtain ⟨dI,aE⟩:=I.base.there b o e ai;exact ⟨dI,(ax.2 b (eW (iF (dL e) (I.ok.tz x c BY am)))).trans aE⟩
  ·by_cases bw:j=i
   ·subst bw;rw [au] at aE;cases aE;rw [List.getElem?_set_self auσ] at aP;cases aP;exact ⟨u,r,.inr ⟨.inl aD,c,am,yX⟩⟩
   ·rw [nI (Ne.symm bw)] at aP;obtain ⟨rE,bD,q⟩:=ar j y kG aE aP e3;refine ⟨rE,bD,?_⟩;rcases q with q | ⟨k,dm,e,gn⟩
    ·exact .inl q
    ·refine .inr ⟨k,dm,e,gn.sameBut ax ?_⟩;rintro rfl;exact bw (BW dM aE (I.ok.inj _ _ _ e am ▸ au))
  ·by_cases qi:dm=c
   ·subst qi;exact ⟨_,yX⟩
   ·obtain ⟨eu,cc⟩:=I.cell y dm e;exact ⟨eu,cc.sameBut ax qi⟩
  ·obtain ⟨e,n,ne,lP,d⟩:=I.pin p ah;refine ⟨(ax.2 p.1 ?_).trans e,n,ne,lP,d⟩;intro q;rw [q,HZ] at e;have hj:gT=p.2:=gG.inj e;exact d hH (by rw [<- hj];exact PP)
def yY{M:mx}{A:cL}{E:Value->aF->Prop}{i:Nat}{x:Str}{v:V}{u:Value}{Q:Unit->aF->Prop}(I:Inv X pins σ H s)(dM:X.N.Nodup)(au:X.N[i]?=some x)(ai:Loc X.env.scope x)(r:RelV v u)
 (h:∀ aQ,Inv X pins (σ.set i (some v)) H aQ->Q () aQ) (hf:X.fn x=true\/X.env.scope.names.lookup x=some .local:=by first | exact .inl rfl | exact .inr rfl | assumption):aZ M A (storeName X.env x u) Q E s:=
 HX I dM au ai r (λ aQ qj _=>h aQ qj) hf
theorem Inv.yZ{aQ:aF}{ch:List Addr}(I:Inv X pins σ H s)(aR:aQ.os=s.os)(u:fS (eS X.stack) ch H aj s.heap aQ.heap)(bU:fC X.prog X.w aj aQ.heap)(a_:my aQ.gens)
 (kF:∀ b∈ch,(b∈X.ex\/X.s₀.heap.objs.size<=b)/\b≠X.env.locals/\(∀ x c,X.env.cells.lookup x=some c->c≠b)/\∀ p∈X.pn++pins,p.1≠b):Inv X pins σ aj aQ:=by
 obtain ⟨h',g',d',t',dI⟩:=aQ;have e:dI=s.os:=aR;subst e;exact I.call (g':=g') (t':=t') (d':=d') u bU a_ kF
end
abbrev gp:=Value->Option Addr->av->Prop
abbrev St:=List (Option V)
abbrev cC:=V->av->Prop
abbrev TE:=St->av->cC->Prop
abbrev TT:=St->av->(Bool->av->Prop)->Prop
abbrev fT:=St->av->(List V->av->Prop)->Prop
structure Ends where
 nx:St->av->Prop
 rt:cC
 bk:St->av->Prop:=λ _ _=>False
 ct:St->av->Prop:=λ _ _=>False
abbrev ft:=Ends->St->av->Prop
def gg(X:aT)(pins:List (Addr × Obj))(σ:St)(Q:cC)(u:Value)(aQ:aF):Prop:=∃ v aj,Inv X pins σ aj aQ/\RelV v u/\Q v aj
def BZ(X:aT)(pins:List (Addr × Obj))(σ:St)(Q:Bool->av->Prop)(b:Bool)(aQ:aF):Prop:=∃ aj,Inv X pins σ aj aQ/\Q b aj
def PQ(X:aT)(pins:List (Addr × Obj))(σ:St)(Q:List V->av->Prop)(us:List Value)(aQ:aF):Prop:=∃ vs aj,Inv X pins σ aj aQ/\Vals vs us/\Q vs aj
def lQ(X:aT)(pins:List (Addr × Obj))(D:Ends)(f:Flow)(aQ:aF):Prop:=
 match f with
 | .next=>∃ σ' aj,Inv X pins σ' aj aQ/\D.nx σ' aj
 | .brk=>∃ σ' aj,Inv X pins σ' aj aQ/\D.bk σ' aj
 | .cont=>∃ σ' aj,Inv X pins σ' aj aQ/\D.ct σ' aj
 | .ret u=>∃ v σ' aj,Inv X pins σ' aj aQ/\RelV v u/\D.rt v aj
def b5(X:aT)(e:a9)(t:TE):Prop:=
 ∀(pins:List (Addr × Obj))(s:aF)(σ:St)(H:av)(Q:cC),Inv X pins σ H s->t σ H Q->aZ (a8 X.prog X.w) X.A (eval e X.env) (gg X pins σ Q) X.xe s
def kH(X:aT)(e:a9)(t:TT):Prop:=
 ∀(pins:List (Addr × Obj))(s:aF)(σ:St)(H:av)(Q:Bool->av->Prop),Inv X pins σ H s->t σ H Q->aZ (a8 X.prog X.w) X.A (isTrue e X.env (eval e X.env)) (BZ X pins σ Q) X.xe s
def nV(X:aT)(e:a9)(t:TT):Prop:=
 ∀(whole:Sem Value)(pins:List (Addr × Obj))(s:aF)(σ:St)(H:av)(Q:Bool->av->Prop),Inv X pins σ H s->t σ H Q->aZ (a8 X.prog X.w) X.A (isTrue e X.env whole) (BZ X pins σ Q) X.xe s
theorem nV.pt{X:aT}{e:a9}{t:TT}(h:nV X e t):kH X e t:=h _
def iI(X:aT)(es:List a9)(t:fT):Prop:=
 ∀(pos:Pos)(pins:List (Addr × Obj))(s:aF)(σ:St)(H:av)(Q:List V->av->Prop),Inv X pins σ H s->t σ H Q->aZ (a8 X.prog X.w) X.A (spliced (g0 pos (dU es X.env))) (PQ X pins σ Q) X.xe s
def jX(X:aT)(st:b1)(t:ft):Prop:=
 ∀(pins:List (Addr × Obj))(s:aF)(σ:St)(H:av)(D:Ends),Inv X pins σ H s->t D σ H->aZ (a8 X.prog X.w) X.A (exec st X.env) (lQ X pins D) X.xe s
def jY(X:aT)(st:List b1)(t:ft):Prop:=
 ∀(pins:List (Addr × Obj))(s:aF)(σ:St)(H:av)(D:Ends),Inv X pins σ H s->t D σ H->aZ (a8 X.prog X.w) X.A (execs st X.env) (lQ X pins D) X.xe s
def b2{α:Type}{t:Sem α}{Q lR:α->aF->Prop}{M:mx}{A:cL}{E:Value->aF->Prop}{s:aF}(h:aZ M A t Q E s)(hU:∀ a s,Q a s->lR a s):aZ M A t lR E s:=hR h hU λ _ _ x=>x
section
variable{X:aT}
def bin{a b:a9}{bb bA:TE}(ay:b5 X a bb)(af:b5 X b bA){pins:List (Addr × Obj)}{s:aF}{σ:St}{H:av}{R:V->V->av->Prop}(I:Inv X pins σ H s)(h:bb σ H λ x H1=>bA σ H1 λ y a3=>R x y a3)
 {α:Type} {Q:α->aF->Prop} {f:Value->Value->Sem α}
 (hf:∀ v u s2 x y a3,Inv X pins σ a3 s2->RelV x v->RelV y u->R x y a3->aZ (a8 X.prog X.w) X.A (f v u) Q X.xe s2) :
 aZ (a8 X.prog X.w) X.A (eval a X.env) (λ v dJ=>aZ (a8 X.prog X.w) X.A (eval b X.env) (λ u rF=>aZ (a8 X.prog X.w) X.A (f v u) Q X.xe rF) X.xe dJ) X.xe s:=by
 refine b2 (ay pins s σ H _ I h) λ v s1 ⟨x,H1,a4,aX,aH⟩=>?_;refine b2 (af pins s1 σ H1 _ a4 aH) λ u s2 ⟨y,a3,c5,bj,bl⟩=>?_;exact hf v u s2 x y a3 c5 aX bj bl
def y0(i:Nat):TE:=λ σ H Q=>∃ v,σ[i]?=some (some v)/\Q v H
def mI(v:V):TE:=λ _ H Q=>Q v H
def y1{i:Nat}{x:Str}{pos:Pos}(dM:X.N[i]?=some x)(bJ:qg X.env.scope x)(hd:(x==("__debug__" : Str))=false:=by decide)(hV:(x==("__classdict__" : Str))=false:=by decide):b5 X (.Name x pos) (y0 i):=by
 intro pins s σ H Q I h;obtain ⟨v,e,h⟩:=h;obtain ⟨m,aA,ar⟩:=I.loc;obtain ⟨u,r,l⟩:=ar i x v dM e bJ
 have fin:gg X pins σ Q u s:=⟨v,H,I,r,h⟩
 rcases l with ⟨aD,hm⟩ | ⟨aD,c,am,y2⟩
 ·exact wpAny_Name (wpAny_loadName_local I.ok.kind aD aA hm fin) hd
 ·rcases aD with aD | aD
  ·exact wpAny_Name (wpAny_loadName_cell I.ok.kind aD am y2 fin) hd
  ·exact wpAny_Name (wpAny_loadName_free I.ok.kind aD am y2 fin hV) hd
def PR {i j pos}:b5 X (.Constant (.int i) j pos) (mI (.int i)):=λ _ _ _ H _ I h=>wpAny_Constant_int ⟨.int i,H,I.tok _,⟨_,rfl⟩,h⟩
def PS {b j pos}:b5 X (.Constant (.bool b) j pos) (mI (.aJ b)):=λ _ _ _ H _ I h=>Constant_bool ⟨.aJ b,H,I,rfl,h⟩
def PT {x j pos}:b5 X (.Constant (.str x) j pos) (mI (.str x)):=λ _ _ _ H _ I h=>Calls.Constant_str ⟨.str x,H,I.tok _,⟨_,rfl⟩,h⟩
def ew(X:aT)(x:Str):Prop:=X.env.kindOf x=some .globalImplicit
def tD{E:Value->aF->Prop}{pins:List (Addr × Obj)}{s:aF}{σ:St}{H:av}{x:Str}{u:Value}{pos:Pos}{Q:Value->aF->Prop}(I:Inv X pins σ H s)(a_:ew X x)(hm:X.mg x=some u)(h:Q u s)
 (hd:(x==("__debug__" : Str))=false:=by decide):aZ (a8 X.prog X.w) X.A (eval (.Name x pos) X.env) Q E s:=
 Calls.Name_function_global I.ok.kind a_ (Calls.loadGlobal_global (by rw [I.ok.glob];exact I.mod.glob.keeps I.bk) hm h) hd
def qk{E:Value->aF->Prop}{pins:List (Addr × Obj)}{s:aF}{σ:St}{H:av}{x:Str}{u:Value}{pos:Pos}{Q:Value->aF->Prop}(I:Inv X pins σ H s)(a_:ew X x)(hm:X.mg x=none)(bJ:k_ x=some u)(h:Q u s)
 (aA:x≠"__name__":=by decide) (hd:(x==("__debug__" : Str))=false:=by decide):aZ (a8 X.prog X.w) X.A (eval (.Name x pos) X.env) Q E s:=by
 obtain ⟨jV,ae,ag⟩:=I.mod.blt;exact Calls.Name_function_global I.ok.kind a_ (Calls.loadGlobal_builtin (by rw [I.ok.glob];exact I.mod.glob.keeps I.bk) hm (by rw [I.ok.blt];exact ae.keeps I.bk) ((ag x aA).trans bJ) h) hd
def B0{x:Str}{v:V}{u:Value}{pos:Pos}(a_:ew X x)(hm:X.mg x=some u)(r:RelV v u)(hd:(x==("__debug__" : Str))=false:=by decide):b5 X (.Name x pos) (mI v):=
 λ _ _ _ H _ I h=>tD I a_ hm ⟨v,H,I,r,h⟩ hd
def PU{x:Str}{v:V}{u:Value}{pos:Pos}(a_:ew X x)(hm:X.mg x=none)(bJ:k_ x=some u)(r:RelV v u)(aA:x≠"__name__":=by decide)(hd:(x==("__debug__" : Str))=false:=by decide):b5 X (.Name x pos) (mI v):=
 λ _ _ _ H _ I h=>qk I a_ hm bJ ⟨v,H,I,r,h⟩ aA hd
variable{a b:a9}{bb bA:TE}{pos:Pos}
variable{gq nW:TT}{rest:List a9}
def H0(t u:TT):TT:=λ σ H Q=>t σ H λ c H1=>if c=true then u σ H1 Q else Q false H1
def H2(t u:TT):TT:=λ σ H Q=>t σ H λ c H1=>if c=true then Q true H1 else u σ H1 Q
def H3(t:TT):TT:=λ σ H Q=>t σ H λ c H1=>Q (!c) H1
def PV(ay:kH X a gq):nV X (.BoolOp .And [a] pos) gq:=by
 intro vG pins s σ H Q I h;refine isTrue_and (b2 (ay pins s σ H Q I h) λ c s1 e=>?_)
 cases c with
 | true=>exact isTrue_and_nil e
 | false=>exact e
def PW(ay:kH X a gq):nV X (.BoolOp .Or [a] pos) gq:=by
 intro vG pins s σ H Q I h;refine isTrue_or (b2 (ay pins s σ H Q I h) λ c s1 e=>?_)
 cases c with
 | false=>exact isTrue_or_nil e
 | true=>exact e
def PX(ay:kH X a gq)(af:nV X (.BoolOp .And (b::rest) pos) nW):nV X (.BoolOp .And (a::b::rest) pos) (H0 gq nW):=by
 intro vG pins s σ H Q I h;refine isTrue_and (b2 (ay pins s σ H _ I h) λ c s1 ⟨H1,a4,aH⟩=>?_)
 cases c with
 | true=>exact af vG pins s1 σ H1 Q a4 aH
 | false=>exact ⟨H1,a4,aH⟩
def PY(ay:kH X a gq)(af:nV X (.BoolOp .Or (b::rest) pos) nW):nV X (.BoolOp .Or (a::b::rest) pos) (H2 gq nW):=by
 intro vG pins s σ H Q I h;refine isTrue_or (b2 (ay pins s σ H _ I h) λ c s1 ⟨H1,a4,aH⟩=>?_)
 cases c with
 | true=>exact ⟨H1,a4,aH⟩
 | false=>exact af vG pins s1 σ H1 Q a4 aH
def PZ(ay:kH X a gq):kH X (.UnaryOp .Not a pos) (H3 gq):=by
 intro pins s σ H Q I h;exact isTrue_not (ay pins s σ H (λ c H1=>Q (!c) H1) I h)
def H4(bb bA:TE):TE:=λ σ H Q=>bb σ H λ x H1=>∃ c,x=.aJ c/\if c=true then bA σ H1 Q else Q (.aJ false) H1
def H5(bb bA:TE):TE:=λ σ H Q=>bb σ H λ x H1=>∃ c,x=.aJ c/\if c=true then Q (.aJ true) H1 else bA σ H1 Q
def H6(bb:TE):TE:=λ σ H Q=>bb σ H λ x H1=>∃ c,x=.aJ c/\Q (.aJ (!c)) H1
def P0 {op} {t:TE} (h:b5 X a t):b5 X (.BoolOp op [a] pos) t:=λ pins s σ H Q I hw=>BoolOp_one (h pins s σ H Q I hw)
def P1(ay:b5 X a bb)(af:b5 X (.BoolOp .And (b::rest) pos) bA):b5 X (.BoolOp .And (a::b::rest) pos) (H4 bb bA):=by
 intro pins s σ H Q I h;refine BoolOp_and (b2 (ay pins s σ H _ I h) λ v s1 ⟨x,H1,a4,aX,aH⟩=>?_);obtain ⟨c,rfl,aH⟩:=aH;cases aX;refine oy ?_
 cases c with
 | true=>exact af pins s1 σ H1 Q a4 aH
 | false=>exact ⟨.aJ false,H1,a4,rfl,aH⟩
def P2(ay:b5 X a bb)(af:b5 X (.BoolOp .Or (b::rest) pos) bA):b5 X (.BoolOp .Or (a::b::rest) pos) (H5 bb bA):=by
 intro pins s σ H Q I h;refine BoolOp_or (b2 (ay pins s σ H _ I h) λ v s1 ⟨x,H1,a4,aX,aH⟩=>?_);obtain ⟨c,rfl,aH⟩:=aH;cases aX;refine oy ?_
 cases c with
 | false=>exact af pins s1 σ H1 Q a4 aH
 | true=>exact ⟨.aJ true,H1,a4,rfl,aH⟩
def P4(ay:b5 X a bb):b5 X (.UnaryOp .Not a pos) (H6 bb):=by
 intro pins s σ H Q I h;refine UnaryOp_ (b2 (ay pins s σ H _ I h) λ v s1 ⟨x,H1,a4,aX,aH⟩=>?_);obtain ⟨c,rfl,aH⟩:=aH;cases aX;exact not_of (oy ⟨.aJ (!c),H1,a4,rfl,aH⟩)
def H7(t:TT)(bb bA:TE):TE:=λ σ H Q=>t σ H λ c H1=>if c=true then bb σ H1 Q else bA σ H1 Q
def P5{c:a9}(am:kH X c gq)(ay:b5 X a bb)(af:b5 X b bA):b5 X (.IfExp c a b pos) (H7 gq bb bA):=by
 intro pins s σ H Q I h;refine wpAny_IfExp (b2 (am pins s σ H _ I h) λ d s1 ⟨H1,a4,aH⟩=>?_)
 cases d with
 | true=>exact ay pins s1 σ H1 Q a4 aH
 | false=>exact af pins s1 σ H1 Q a4 aH
end
def d7(K:aV)(H:av)(a:Addr)(xs:List V):Prop:=
 oN H a (.lst xs) ∨
  ∃(o:Obj)(aw:Array Value)(n:Nat),K.lookup a=some o/\o.cls=.type "list"/\o.dict=none/\o.data=.seq aw n/\aw.size<=sizeLine/\Vals xs aw.toList
def eb(K:aV)(H:av)(a:Addr)(xs:List V):Prop:=
 oN H a (.tup xs) ∨
  ∃(o:Obj)(aw:Array Value)(n:Nat),K.lookup a=some o/\o.cls=.type "tuple"/\o.data=.seq aw n/\aw.size<=sizeLine/\Vals xs aw.toList
def P6:Value->Option V
 | .none=>some .bc
 | .bool b=>some (.aJ b)
 | .int i _=>some (.int i)
 | .str x _=>some (.str x)
 | .bytes b _=>some (.tx b)
 | .float b _=>some (.rA b)
 | .ref a=>some (.ref a)
 | .type n=>some (.ty n)
 | _=>none
theorem RelV.abs{x:V}{u:Value}(r:RelV x u):P6 u=some x:=by
 cases x with
 | bc=>cases r;rfl
 | aJ _=>cases r;rfl
 | int _=>obtain ⟨t,rfl⟩:=r;rfl
 | str _=>obtain ⟨t,rfl⟩:=r;rfl
 | tx _=>obtain ⟨t,rfl⟩:=r;rfl
 | rA _=>obtain ⟨t,rfl⟩:=r;rfl
 | ref _=>cases r;rfl
 | ty _=>cases r;rfl
theorem RelV.inj{x y:V}{u:Value}(r:RelV x u)(q:RelV y u):x=y:=gG.inj (r.abs.symm.trans q.abs)
theorem Vals.inj:∀{xs ys:List V}{us:List Value},Vals xs us->Vals ys us->xs=ys
 | _,_,_,.nil,.nil=>rfl
 | _,_,_,.cons r t,.cons bD t'=>by rw [r.inj bD,Vals.inj t t']
section
variable{X:aT}{pins:List (Addr × Obj)}{σ:St}{H:av}{s:aF}{a:Addr}{xs ys:List V}
theorem d7.of{K:aV}(h:H a=some (.lst xs)):d7 K H a xs:=.inl (.inl h)
theorem eb.of{K:aV}(h:H a=some (.tup xs)):eb K H a xs:=.inl (.inl h)
theorem Inv.list(I:Inv X pins σ H s)(h:d7 X.K H a xs):∃ aw:List Value,Vals xs aw/\PlainL s.heap a aw.toArray/\xs.length<=sizeLine:=by
 rcases h with h | ⟨o,aw,n,aD,am,hd,ax,hz,r⟩
 ·obtain ⟨z,aw,n,r,e⟩:=h.ok I.bU;exact ⟨aw,r,⟨_,n,e,rfl,rfl,rfl⟩,z⟩
 ·refine ⟨aw.toList,r,⟨o,n,I.et a o aD,am,hd,by simpa using ax⟩,?_⟩;have e:=r.length;simp only [hF] at e;omega
theorem Inv.tuple(I:Inv X pins σ H s)(h:eb X.K H a xs):∃ aw:List Value,Vals xs aw/\mz s.heap a aw.toArray/\xs.length<=sizeLine:=by
 rcases h with h | ⟨o,aw,n,aD,am,ax,hz,r⟩
 ·obtain ⟨z,aw,r,p⟩:=h.ok I.bU;exact ⟨aw,r,p,z⟩
 ·refine ⟨aw.toList,r,⟨o,I.et a o aD,am,n,by simpa using ax⟩,?_⟩;have e:=r.length;simp only [hF] at e;omega
theorem Inv.H8(I:Inv X pins σ H s)(h:d7 X.K H a xs)(h':d7 X.K H a ys):xs=ys:=by
 obtain ⟨aw,r,⟨o,n,e,_,_,d⟩,_⟩:=I.list h;obtain ⟨its',bD,⟨dI,rG,bZ,_,_,d'⟩,_⟩:=I.list h';rw [e] at bZ;cases bZ;rw [d] at d';injection d' with ey _
 have:aw=its':=by simpa using congrArg yI ey
 subst this;exact r.inj bD
theorem Inv.y3(I:Inv X pins σ H s)(h:eb X.K H a xs)(h':eb X.K H a ys):xs=ys:=by
 obtain ⟨aw,r,⟨o,e,_,n,d⟩,_⟩:=I.tuple h;obtain ⟨its',bD,⟨dI,bZ,_,rG,d'⟩,_⟩:=I.tuple h';rw [e] at bZ;cases bZ;rw [d] at d';injection d' with ey _
 have:aw=its':=by simpa using congrArg yI ey
 subst this;exact r.inj bD
end
abbrev aT.kI(X:aT)(E:Value->aF->Prop):aT:={ X with xe:=E }
abbrev aT.tE(X:aT):aT:=X.kI λ _ _=>False
theorem aT.Ok.kI{X:aT}(ok:X.Ok)(E:Value->aF->Prop):(X.kI E).Ok:=
 ⟨ok.mod,ok.kind,ok.glob,ok.blt,ok.above,ok.inj,ok.has,ok.tz,ok.hd,ok.frames,ok.tA,ok.BU,ok.bs,ok.nU,ok.tB,ok.vC,ok.kD,ok.qh⟩
theorem aT.Ok.oQ{X:aT}{E:Value->aF->Prop}(ok:(X.kI E).Ok):X.Ok:=
 ⟨ok.mod,ok.kind,ok.glob,ok.blt,ok.above,ok.inj,ok.has,ok.tz,ok.hd,ok.frames,ok.tA,ok.BU,ok.bs,ok.nU,ok.tB,ok.vC,ok.kD,ok.qh⟩
section
variable{X:aT}{pins:List (Addr × Obj)}{σ:St}{H:av}{s:aF}{E:Value->aF->Prop}
theorem Inv.kI(I:Inv X pins σ H s)(E:Value->aF->Prop):Inv (X.kI E) pins σ H s:=⟨I.ok.kI E,I.os,I.bare,I.base,I.loc,I.cell,I.free,I.kE,I.pin,I.bU,I.len⟩
theorem Inv.oQ(I:Inv (X.kI E) pins σ H s):Inv X pins σ H s:=⟨I.ok.oQ,I.os,I.bare,I.base,I.loc,I.cell,I.free,I.kE,I.pin,I.bU,I.len⟩
theorem lQ.oQ{D:Ends}{f:Flow}{aQ:aF}(h:lQ (X.kI E) pins D f aQ):lQ X pins D f aQ:=by
 cases f with
 | next=>obtain ⟨σ',aj,I,q⟩:=h;exact ⟨σ',aj,I.oQ,q⟩
 | brk=>obtain ⟨σ',aj,I,q⟩:=h;exact ⟨σ',aj,I.oQ,q⟩
 | cont=>obtain ⟨σ',aj,I,q⟩:=h;exact ⟨σ',aj,I.oQ,q⟩
 | ret u=>obtain ⟨v,σ',aj,I,r,q⟩:=h;exact ⟨v,σ',aj,I.oQ,r,q⟩
theorem jY.tE{st:List b1}{t:ft}(h:jY X.tE st t):jY X st t:=λ pins s σ H D I hw=>
 hR (h pins s σ H D (I.kI _) hw) (λ _ _ q=>q.oQ) λ _ _ z=>False.elim z
end
section
variable{X:aT}{st:b1}{rest:List b1}{t u:ft}{e:a9}{aW:TE}{pos:Pos}
def H9:ft:=λ D σ H=>D.nx σ H
def H_(t u:ft):ft:=λ D σ H=>t { D with nx:=u D } σ H
def P7:jY X [] H9:=λ _ _ σ H _ I h=>s8 ⟨σ,H,I,h⟩
def Ia(ae:jX X st t)(ag:jY X rest u):jY X (st::rest) (H_ t u):=by
 intro pins s σ H D I h;refine BE (b2 (ae pins s σ H { D with nx:=u D } I h) λ f s1 q=>?_)
 cases f with
 | next=>
  obtain ⟨σ',aj,qj,q⟩:=q;exact ag pins s1 σ' aj D qj q
 | ret v=>exact q
 | brk=>exact q
 | cont=>exact q
def Ib(ae:jX X st t):jY X [st] t:=by
 intro pins s σ H D I h;refine BE (b2 (ae pins s σ H D I h) λ f s1 q=>?_)
 cases f with
 | next=>exact s8 q
 | ret v=>exact q
 | brk=>exact q
 | cont=>exact q
theorem Inv.quiet{pins:List (Addr × Obj)}{σ:St}{H:av}{s:aF}(I:Inv X pins σ H s):interactive X.env=false:=by simp [interactive,I.ok.kind]
def Ic(aW:TE):ft:=λ D σ H=>aW σ H λ _ H1=>D.nx σ H1
def Ie(he:b5 X e aW)(ax:jL e none pos.line X.env=pure false:=by rfl):jX X (.Expr e pos) (Ic aW):=by
 intro pins s σ H D I h;exact wpAny_Expr_any (b2 (he pins s σ H _ I h) λ v s1 ⟨x,H1,a4,aX,aH⟩=>⟨σ,H1,a4,aH⟩) I.quiet ax
def Ig(aW:TE):ft:=λ D σ H=>aW σ H D.rt
def P8(he:b5 X e aW):jX X (.Return (some e) pos) (Ig aW):=by
 intro pins s σ H D I h;exact wpAny_Return_some (b2 (he pins s σ H _ I h) λ v s1 ⟨x,H1,a4,aX,aH⟩=>⟨x,σ,H1,a4,aX,aH⟩)
def Ih(c:TT)(t u:ft):ft:=λ D σ H=>c σ H λ b H1=>if b=true then t D σ H1 else u D σ H1
def P9{c:a9}{a b:List b1}{bf:TT}(am:kH X c bf)(ay:jY X a t)(af:jY X b u):jX X (.If c a b pos) (Ih bf t u):=by
 intro pins s σ H D I h;refine wpAny_If (b2 (am pins s σ H _ I h) λ d s1 ⟨H1,a4,aH⟩=>?_)
 cases d with
 | true=>exact ay pins s1 σ H1 D a4 aH
 | false=>exact af pins s1 σ H1 D a4 aH
end
abbrev g4:=V->St->av->(St->av->Prop)->Prop
abbrev mJ:=List V->St->av->(St->av->Prop)->Prop
def oR(X:aT)(target:a9)(t:g4):Prop:=
 ∀(pins:List (Addr × Obj))(s:aF)(σ:St)(H:av)(v:V)(u:Value)(Q:St->av->Prop),Inv X pins σ H s->RelV v u->t v σ H Q →
  aZ (a8 X.prog X.w) X.A (jN target X.env u) (λ _ aQ=>∃ σ' aj,Inv X pins σ' aj aQ/\Q σ' aj) X.xe s
def vH(X:aT)(en:List a9)(t:mJ):Prop:=
 ∀(pins:List (Addr × Obj))(s:aF)(σ:St)(H:av)(vs:List V)(us:List Value)(Q:St->av->Prop),Inv X pins σ H s->Vals vs us->t vs σ H Q →
  aZ (a8 X.prog X.w) X.A (assignInOrder ((jn en X.env).map (·.2)) us) (λ _ aQ=>∃ σ' aj,Inv X pins σ' aj aQ/\Q σ' aj) X.xe s
abbrev vI:=V->V->V->av->(av->Prop)->Prop
def B1(X:aT)(t:vI):Prop:=
 ∀(pins:List (Addr × Obj))(s:aF)(σ:St)(H:av)(o i v:V)(gh ij u:Value)(Q:av->Prop),Inv X pins σ H s->RelV o gh->RelV i ij->RelV v u->t o i v H Q →
  aZ (a8 X.prog X.w) X.A (setItem gh ij u) (λ _ aQ=>∃ aj,Inv X pins σ aj aQ/\Q aj) X.xe s
abbrev tF:=V->V->av->cC->Prop
def y4(X:aT)(op:oz)(t:tF):Prop:=
 ∀(pins:List (Addr × Obj))(s:aF)(σ:St)(H:av)(x y:V)(v u:Value)(Q:cC),Inv X pins σ H s->RelV x v->RelV y u->t x y H Q →
  aZ (a8 X.prog X.w) X.A (inplaceOp op v u) (gg X pins σ Q) X.xe s
section
variable{X:aT}{pos:Pos}
def tG(i:Nat):g4:=λ v σ H Q=>Q (σ.set i (some v)) H
def P_{i:Nat}{x:Str}(dM:X.N.Nodup)(au:X.N[i]?=some x)(ai:Loc X.env.scope x)(hf:X.fn x=true\/X.env.scope.names.lookup x=some .local:=by first | exact .inl rfl | exact .inr rfl | assumption):oR X (.Name x pos) (tG i):=by
 intro pins s σ H v u Q I r h;exact wpAny_assign_Name (yY I dM au ai r (λ aQ qj=>⟨_,H,qj,h⟩) hf)
def Ii:mJ:=λ vs σ H Q=>vs=[]/\Q σ H
def Ij(t:g4)(u:mJ):mJ:=λ vs σ H Q=>∃ v r,vs=v::r/\t v σ H λ σ' aj=>u r σ' aj Q
def Qa:vH X [] Ii:=by
 intro pins s σ H vs us Q I r h;obtain ⟨e,h⟩:=h;subst e;cases r;exact assignInOrder_nil ⟨σ,H,I,h⟩
theorem Qb{e:a9}{es:List a9}{t:g4}{u:mJ}(ae:oR X e t)(ag:vH X es u)
 (ax:(jn (e::es) X.env).map (·.2)=jN e X.env::(jn es X.env).map (·.2):=by rfl):vH X (e::es) (Ij t u):=by
 intro pins s σ H vs us Q I r h;obtain ⟨v,afq,aE,h⟩:=h;subst aE
 cases r with
 | cons r cf=>
  rw [ax];refine assignInOrder_cons (b2 (ae pins s σ H _ _ _ I r h) λ _ s1 ⟨σ1,H1,a4,aH⟩=>?_);exact ag pins s1 σ1 H1 _ _ Q a4 cf aH
def Ik(K:aV)(n:Nat)(t:mJ):g4:=λ v σ H Q=>∃ a xs,v=.ref a/\eb K H a xs/\xs.length=n/\t xs σ H Q
def Qc{es:List a9}{k:Nat}{t:mJ}{n:Nat}(am:X.calm=true)(h:vH X es t)
 (aA:(jn es X.env).length=n:=by rfl) (g5:(jn es X.env).findIdx? (·.1)=none:=by rfl):oR X (.Tuple es k pos) (Ik X.K n t):=by
 intro pins s σ H v u Q I r hw;obtain ⟨a,xs,aE,aM,ar,hw⟩:=hw;subst aE;cases r;obtain ⟨aw,a5,bu,hz⟩:=I.tuple aM;refine assign_Tuple_tuple (I.ok.hd am) bu (by simp [aA,<- ar,a5.length]) g5 λ h' ai=>?_;have a4:Inv X pins σ H { s with heap:=h' }:=I.kept (t':=s.toks) λ b o e=>ai b o (eW (dL e)) e;exact h pins _ σ H xs _ Q a4 (by simpa using a5) hw
def Il(to gU:TE)(t:vI):g4:=λ v σ H Q=>to σ H λ o H1=>gU σ H1 λ i a3=>t o i v a3 λ dy=>Q σ dy
def Qd{o i:a9}{to gU:TE}{t:vI}(aR:b5 X o to)(au:b5 X i gU)(ax:B1 X t)
 (ay:∀ v,jN (.Subscript o i pos) X.env v=(do
  let gh ← jM [v] (eval o X.env)
  let ij ← jM [v,gh] (eval i X.env)
  p8 pos
  jM [v,gh,ij] (setItem gh ij v)
  release [v,gh,ij] []):=by intro _;rfl):oR X (.Subscript o i pos) (Il to gU t):=by
 intro pins s σ H v u Q I r h;rw [ay];refine aK (jm (b2 (aR pins s σ H _ I h) λ gh s1 ⟨x,H1,a4,aX,aH⟩=>?_));refine aK (jm (b2 (au pins s1 σ H1 _ a4 aH) λ ij s2 ⟨y,a3,c5,bj,bl⟩=>?_));refine aK (p2 (aK (jm (b2 (ax pins s2 σ a3 x y v gh ij u _ c5 aX bj r bl) λ _ s3 ⟨dy,ei,dZ⟩=>?_))));exact wpAny_release ⟨σ,dy,ei,dZ⟩
def tH(aW:TE)(g:g4):ft:=λ D σ H=>aW σ H λ x H1=>g x σ H1 D.nx
def Qe{bp e:a9}{aW:TE}{g:g4}(he:b5 X e aW)(a_:oR X bp g)(ax:BL [bp] e pos.line X.env=pure false:=by rfl)(hw:BM [bp] e X.env=pure none:=by rfl)
 (ae:(jn [bp] X.env).map (·.2)=[jN bp X.env]:=by rfl):jX X (.Assign [bp] e pos) (tH aW g):=by
 intro pins s σ H D I h;refine wpAny_Assign_stores (b2 (he pins s σ H _ I h) λ v s1 ⟨x,H1,a4,aX,aH⟩=>?_) ax hw;rw [ae];exact b2 (a_ pins s1 σ H1 x v _ a4 aX aH) λ _ s2 q=>q
def Qf{i:Nat}{x:Str}{e:a9}{aW:TE}{pos':Pos}(dM:X.N.Nodup)(au:X.N[i]?=some x)(ai:Loc X.env.scope x)(he:b5 X e aW)(ax:jL e (some (.Name x pos')) pos.line X.env=pure false:=by rfl)(hf:X.fn x=true\/X.env.scope.names.lookup x=some .local:=by first | exact .inl rfl | exact .inr rfl | assumption) :
 jX X (.Assign [.Name x pos'] e pos) (tH aW (tG i)):=by
 intro pins s σ H D I h;refine wpAny_Assign_Name (b2 (he pins s σ H _ I h) λ v s1 ⟨y,H1,a4,aX,aH⟩=>?_) ax;exact yY a4 dM au ai aX (λ s2 c5=>⟨_,H1,c5,aH⟩) hf
def Im(i:Nat)(aW:TE)(gU:tF):ft:=λ D σ H=>∃ x,σ[i]?=some (some x)/\aW σ H λ y H1=>gU x y H1 λ z a3=>D.nx (σ.set i (some z)) a3
def Qg{i:Nat}{x:Str}{e:a9}{aW:TE}{op:oz}{gU:tF}{pos':Pos}(dM:X.N.Nodup)(au:X.N[i]?=some x)(ai:Loc X.env.scope x)(he:b5 X e aW)(aR:y4 X op gU)(hf:X.fn x=true\/X.env.scope.names.lookup x=some .local:=by first | exact .inl rfl | exact .inr rfl | assumption) :
 jX X (.AugAssign (.Name x pos') op e pos) (Im i aW gU):=by
 intro pins s σ H D I h;obtain ⟨v,aE,h⟩:=h;obtain ⟨m,aA,ar⟩:=I.loc
 have Qh:qg X.env.scope x:=by rcases ai with k | k;exact .inl k;exact .inr (.inl k)
 obtain ⟨u,r,l⟩:=ar i x v au aE Qh;refine wpAny_AugAssign_Name ?_
 have go:aZ (a8 X.prog X.w) X.A (eval e X.env) (λ w rF=>aZ (a8 X.prog X.w) X.A (inplaceOp op u w) (λ r y5=>aZ (a8 X.prog X.w) X.A (storeName X.env x r) (λ _=>lQ X pins D .next) X.xe y5) X.xe rF) X.xe s:=by
  refine b2 (he pins s σ H _ I h) λ w s1 ⟨y,H1,a4,aX,aH⟩=>?_;refine b2 (aR pins s1 σ H1 v y u w _ a4 r aX aH) λ z s2 ⟨afr,a3,c5,bj,bl⟩=>?_;exact yY c5 dM au ai bj (λ s3 ei=>⟨_,a3,ei,bl⟩) hf
 rcases l with ⟨aD,hm⟩ | ⟨aD,c,am,y2⟩
 ·exact wpAny_loadName_local I.ok.kind aD aA hm go
 ·rcases aD with aD | aD
  ·exact wpAny_loadName_cell I.ok.kind aD am y2 go
  ·rcases ai with k | k
   ·have:X.env.scope.names.lookup x=some .free:=aD;rw [k] at this;cases this
   ·have:X.env.scope.names.lookup x=some .free:=aD;rw [k] at this;cases this
def B2(f:Int->Int->Int):tF:=λ x y H Q=>∃ i j,x=.int i/\y=.int j/\Q (.int (f i j)) H
def Qi:y4 X .Add (B2 λ i j=>i+j):=by
 intro pins s σ H x y v u Q I aX bj h;obtain ⟨i,j,aE,aP,q⟩:=h;subst aE;subst aP;obtain ⟨t,rfl⟩:=aX;obtain ⟨t',rfl⟩:=bj;exact iadd_int ⟨.int _,H,I.tok _,⟨_,rfl⟩,q⟩
def Qj:y4 X .Sub (B2 λ i j=>i - j):=by
 intro pins s σ H x y v u Q I aX bj h;obtain ⟨i,j,aE,aP,q⟩:=h;subst aE;subst aP;obtain ⟨t,rfl⟩:=aX;obtain ⟨t',rfl⟩:=bj;exact isub_int ⟨.int _,H,I.tok _,⟨_,rfl⟩,q⟩
end
section
variable{X:aT}{pos:Pos}
def Io(c:TT)(bA:ft):ft:=λ D σ H=>∃ W:Nat->St->av->Prop,(∃ m,W m σ H)/\∀ m σ H,W m σ H →
 c σ H λ b H1=>if b=true then ∃ N:St->av->Prop,(∀ σ' aj,N σ' aj->∃ dR,dR < m/\W dR σ' aj)/\bA { D with nx:=N,ct:=N,bk:=D.nx } σ H1 else D.nx σ H1
def Qk{c:a9}{body:List b1}{bf:TT}{bA:ft}(ah:p7 (a8 X.prog X.w) X.A X.env X.xe)(am:kH X c bf)(af:jY X body bA):jX X (.While c body [] pos) (Io bf bA):=by
 intro pins s σ H D I h;obtain ⟨W,⟨m0,d2⟩,turn⟩:=h;refine wpAny_While (codeAny_whileLoop (λ n aQ=>∃ σ' aj,Inv X pins σ' aj aQ/\W n σ' aj) ?_ m0 ⟨σ,H,I,d2⟩);rintro n s1 ⟨σ1,H1,a4,gi⟩;refine q8 ah (b2 (am pins s1 σ1 H1 _ a4 (turn n σ1 H1 gi)) λ b s2 ⟨a3,c5,bl⟩=>?_)
 cases b with
 | true=>
  obtain ⟨N,dM,bl⟩:=bl;rw [if_pos rfl];refine q8 ah (b2 (af pins s2 σ1 a3 _ c5 bl) λ f s3 dZ=>?_)
  cases f with
  | next=>
   obtain ⟨σ3,dy,ei,hW⟩:=dZ;obtain ⟨dR,hm,ik⟩:=dM σ3 dy hW;exact ⟨dR,hm,σ3,dy,ei,ik⟩
  | cont=>
   obtain ⟨σ3,dy,ei,hW⟩:=dZ;obtain ⟨dR,hm,ik⟩:=dM σ3 dy hW;exact ⟨dR,hm,σ3,dy,ei,ik⟩
  | brk=>exact dZ
  | ret v=>exact dZ
 | false=>
  rw [if_neg mE];exact s8 ⟨σ1,a3,c5,bl⟩
end
structure kJ where
 go:Nat->av->Prop
 ql:Nat->av->V->av->Prop
 stop:Nat->av->Prop
def jq(X:aT)(pins:List (Addr × Obj))(H:av)(b:Addr):Prop:=
 H b=none/\b≠X.env.locals/\b ∉ X.aC/\(b∈X.ex\/X.s₀.heap.objs.size<=b)/\(∀ x c,X.env.cells.lookup x=some c->c≠b)/\∀ p∈X.pn++pins,p.1≠b
theorem Inv.qm{X:aT}{pins:List (Addr × Obj)}{σ:St}{H aj:av}{s:aF}{b:Addr}(I:Inv X pins σ H s)(af:s.heap.objs.size<=b)(aA:aj b=none):jq X pins aj b:=by
 refine ⟨aA,rv (iF I.lt af),I.PO af,.inr (hT I.h_ af),λ x c e z=>?_,λ p ah z=>?_⟩
 ·obtain ⟨v,q⟩:=I.cell x c e;exact absurd (iF q.lt (by rw [z];exact af)) (nO _)
 ·exact absurd (iF (dL (I.pin p ah).1) (by rw [z];exact af)) (nO _)
structure Turn(P:cS)(w:b_)(K:aV)(bp:a9)(J:kJ)(fp:List Addr)(it:Addr)(hX:Nat->bO->Prop):Prop where
 mem:it∈fp
 obj:∀ i h,hX i h->∀ b∈fp,∃ o,h.get? b=some o/\∀ v,o.data≠.cell v
 keep:∀ i h h',hX i h->(∀ b∈fp,∀ o,h.get? b=some o->h'.get? b=some o)->hX i h'
 item:∀(X:aT),X.prog=P->X.w=w->X.K=K->X.calm=true->∀(i:Nat)(pins:List (Addr × Obj))(s:aF)(σ:St)(H:av)(E:Value->aF->Prop),Inv X pins σ H s->(∀ b∈fp,jq X pins H b)->hX i s.heap->J.go i H →
  aZ (a8 P w) X.A (nG (.ref it)) (λ r s1=>∃ u,r=some u ∧
   aZ (a8 P w) X.A (BH bp (.ref it) u) (λ _ s2=>∃ x aj,Inv X pins σ aj s2/\RelV x u/\J.ql i H x aj/\hX (i+1) s2.heap/\∀ b∈fp,aj b=none) E s1) E s
 done:∀(X:aT),X.prog=P->X.w=w->X.K=K->X.calm=true->∀(i:Nat)(pins:List (Addr × Obj))(s:aF)(σ:St)(H:av)(E:Value->aF->Prop),Inv X pins σ H s->(∀ b∈fp,jq X pins H b)->hX i s.heap->J.stop i H →
  aZ (a8 P w) X.A (nG (.ref it)) (λ r s1=>r=none/\Inv X pins σ H s1) E s
 self:∀(A:cL)(i:Nat)(s:aF)(Q:Value->aF->Prop)(E:Value->aF->Prop),hX i s.heap->Q (.ref it) s->aZ (a8 P w) A (pyIter (.ref it)) Q E s
abbrev TI:=St->av->(kJ->av->Prop)->Prop
def B3(X:aT)(pins:List (Addr × Obj))(σ:St)(bp:a9)(R:kJ->av->Prop)(y6:Value)(s2:aF):Prop:=
 ∃(it:Addr)(fp:List Addr)(hX:Nat->bO->Prop)(J:kJ)(aj:av),y6=.ref it/\Inv X pins σ aj s2/\Turn X.prog X.w X.K bp J fp it hX/\hX 0 s2.heap/\(∀ b∈fp,jq X pins aj b)/\R J aj
def nX(X:aT)(bp iter:a9)(ec:TI):Prop:=
 ∀(pins:List (Addr × Obj))(s:aF)(σ:St)(H:av)(R:kJ->av->Prop),Inv X pins σ H s->ec σ H R →
  aZ (a8 X.prog X.w) X.A (eval iter X.env) (λ v s1=>aZ (a8 X.prog X.w) X.A (pyIter v) (B3 X pins σ bp R) X.xe s1) X.xe s
theorem vJ{M:mx}{A:cL}{E:Value->aF->Prop}{s:aF}{bp:a9}{it:Addr}{u:Value}{o:Obj}{n:String}{vs:Array Value}{Q:Unit->aF->Prop}(aR:s.heap.get? it=some o)(am:o.cls=.type n)(hd:o.data=.fields vs)
 (aA:["enumerate", "zip", "dict_itemiterator", "dict_reverseitemiterator", "odict_iterator", "itertools.zip_longest", "itertools.pairwise"].contains n=false) (hU:Q () s):aZ M A (BH bp (.ref it) u) Q E s:=by
 unfold BH
 cases bp<;>first
  | exact bC hU
  | (cases u<;>first
      | exact bC hU
      | (refine aK (wpAny_load aR ?_)
         rw [am,hd];show aZ M A (if (["enumerate", "zip", "dict_itemiterator", "dict_reverseitemiterator", "odict_iterator", "itertools.zip_longest", "itertools.pairwise"].contains n&&vs[0]?==some (hD _))=true then _ else _) Q E s;rw [if_neg (by intro h;rw [aA,Bool.false_and] at h;cases h)]
         exact bC hU))
def vK(K:aV)(a:Addr):kJ:=
 ⟨λ i H=>∃ xs x,d7 K H a xs/\xs[i]?=some x,λ i H x aj=>aj=H/\∀ xs,d7 K H a xs->xs[i]?=some x,λ i H=>∃ xs,d7 K H a xs/\xs.length<=i⟩
def vL(K:aV)(a:Addr):kJ:=
 ⟨λ i H=>∃ xs x,eb K H a xs/\xs[i]?=some x,λ i H x aj=>aj=H/\∀ xs,eb K H a xs->xs[i]?=some x,λ i H=>∃ xs,eb K H a xs/\xs.length<=i⟩
def tI(lo:Int)(n:Nat):kJ:=⟨λ i _=>i < n,λ i H x aj=>aj=H/\x=.int (lo+i),λ i _=>n<=i⟩
def Ql{P:cS}{w:b_}{K:aV}{bp:a9}(a it:Addr):Turn P w K bp (vK K a) [it] it (λ i h=>h.IsListIter it a i) where
 mem:=by simp
 obj:=λ i h st b af=>by
  have e:b=it:=by simpa using af
  subst e;obtain ⟨o,e,c,d⟩:=st;exact ⟨o,e,λ v z=>by rw [d] at z;cases z⟩
 keep:=λ i h h' st k=>st.at λ o e=>k it (by simp) o e
 item:=by
  intro X eJ hw d5 am i pins s σ H E I hf st a_;subst eJ hw d5;obtain ⟨xs,x,aM,ai⟩:=a_;obtain ⟨aw,a5,p,hz⟩:=I.list aM;obtain ⟨u,bK,c1⟩:=a5.get ai;obtain ⟨f0,f1,f2,dn,f4,eK⟩:=hf it (by simp);refine wpAny_pyNext_list_item st p.isList (x:=u) (by simpa using bK) λ h' gH hk=>?_;have a4:Inv X pins σ H { s with heap:=h' }:=I.turned (t':=s.toks) (λ b o af e=>(hk.2 b af).trans e) f0 f1 dn f4 eK;obtain ⟨o,e,c,d⟩:=id gH;exact ⟨u,rfl,vJ (s:={ s with heap:=h' }) e c d (by decide) ⟨x,H,a4,c1,⟨rfl,λ ys bP=>by rw [I.H8 bP aM];exact ai⟩,gH,λ b af=>(hf b af).1⟩⟩
 done:=by
  intro X eJ hw d5 am i pins s σ H E I hf st a_;subst eJ hw d5;obtain ⟨xs,aM,ai⟩:=a_;obtain ⟨aw,a5,p,hz⟩:=I.list aM;obtain ⟨f0,f1,f2,dn,f4,eK⟩:=hf it (by simp);have ar:=a5.length
  exact wpAny_pyNext_list_end (I.ok.hd am) st p.isList (by simp;omega) λ h' hl=>⟨rfl,I.turned (t':=s.toks) (λ b o af e=>hl b o af e) f0 f1 dn f4 eK⟩
 self:=λ _ _ _ _ _ st h=>wpAny_pyIter_listiter st h
def Qm{P:cS}{w:b_}{K:aV}{bp:a9}(a it:Addr):Turn P w K bp (vL K a) [it] it (λ i h=>h.IsTupleIter it a i) where
 mem:=by simp
 obj:=λ i h st b af=>by
  have e:b=it:=by simpa using af
  subst e;obtain ⟨o,e,c,d⟩:=st;exact ⟨o,e,λ v z=>by rw [d] at z;cases z⟩
 keep:=λ i h h' st k=>st.at λ o e=>k it (by simp) o e
 item:=by
  intro X eJ hw d5 am i pins s σ H E I hf st a_;subst eJ hw d5;obtain ⟨xs,x,aM,ai⟩:=a_;obtain ⟨aw,a5,p,hz⟩:=I.tuple aM;obtain ⟨u,bK,c1⟩:=a5.get ai;obtain ⟨f0,f1,f2,dn,f4,eK⟩:=hf it (by simp);refine wpAny_pyNext_tuple_item st (show s.heap.IsTuple a aw.toArray from p) (x:=u) (by simpa using bK) λ h' gH hk=>?_;have a4:Inv X pins σ H { s with heap:=h' }:=I.turned (t':=s.toks) (λ b o af e=>(hk.2 b af).trans e) f0 f1 dn f4 eK;obtain ⟨o,e,c,d⟩:=id gH;exact ⟨u,rfl,vJ (s:={ s with heap:=h' }) e c d (by decide) ⟨x,H,a4,c1,⟨rfl,λ ys bP=>by rw [I.y3 bP aM];exact ai⟩,gH,λ b af=>(hf b af).1⟩⟩
 done:=by
  intro X eJ hw d5 am i pins s σ H E I hf st a_;subst eJ hw d5;obtain ⟨xs,aM,ai⟩:=a_;obtain ⟨aw,a5,p,hz⟩:=I.tuple aM;obtain ⟨f0,f1,f2,dn,f4,eK⟩:=hf it (by simp);have ar:=a5.length
  exact wpAny_pyNext_tuple_end (I.ok.hd am) st (show s.heap.IsTuple a aw.toArray from p) (by simp;omega) λ h' hl=>⟨rfl,I.turned (t':=s.toks) (λ b o af e=>hl b o af e) f0 f1 dn f4 eK⟩
 self:=λ _ _ _ _ _ st h=>wpAny_pyIter_tupleiter st h
def Qn{P:cS}{w:b_}{K:aV}{bp:a9}(it:Addr)(lo:Int)(n:Nat):Turn P w K bp (tI lo n) [it] it (λ i h=>IsRangeIter h it (lo+(i:Nat) * 1) ((n:Int) - (i:Nat)) 1) where
 mem:=by simp
 obj:=λ i h st b af=>by
  have e:b=it:=by simpa using af
  subst e
  exact ⟨_,st,λ v z=>by
   have gn:Data.fields _=Data.cell v:=z
   cases gn⟩
 keep:=λ i h h' st k=>k it (by simp) _ st
 item:=by
  intro X eJ hw d5 am i pins s σ H E I hf st a_;subst eJ hw d5;obtain ⟨f0,f1,f2,dn,f4,eK⟩:=hf it (by simp);have W:=Walks.range (prog:=X.prog) (w:=X.w) (I.ok.hd am) it lo 1 n;refine W.item i s _ _ a_ st λ v h' bR bJ gH eY=>?_;obtain ⟨t,rfl⟩:=bJ;have a4:Inv X pins σ H { s with heap:=h',toks:=bR }:=I.turned (λ b o af e=>eY b o (by simpa using af) e) f0 f1 dn f4 eK;refine ⟨_,rfl,vJ (s:={ s with heap:=h',toks:=bR }) (n:="range_iterator") gH rfl rfl (by decide) ⟨.int (lo+i),H,a4,⟨t,?_⟩,⟨rfl,rfl⟩,gH,λ b af=>(hf b af).1⟩⟩;rw [Int.mul_one]
 done:=by
  intro X eJ hw d5 am i pins s σ H E I hf st a_;subst eJ hw d5;obtain ⟨f0,f1,f2,dn,f4,eK⟩:=hf it (by simp)
  exact wpAny_pyNext_range_end (I.ok.hd am) st (by have:n<=i:=a_;omega) λ h' hl=>⟨rfl,I.turned (t':=s.toks) (λ b o af e=>hl b o af e) f0 f1 dn f4 eK⟩
 self:=λ _ _ _ _ _ st h=>wpAny_pyIter_rangeiter st h
section
variable{X:aT}{bp:a9}
def Qo{pins:List (Addr × Obj)}{σ:St}{H:av}{s:aF}{R:kJ->av->Prop}{E:Value->aF->Prop}{lo au:Int}{t u v:Tok}{bR:Nat}(I:Inv X pins σ H s)(ae:-(2 ^ 62)<=lo)(ag:lo < 2 ^ 62)(aO:-(2 ^ 62)<=au)(bX:au < 2 ^ 62)
 (q:R (tI lo (au - lo).toNat) H):aZ (a8 X.prog X.w) X.A (pyIter (.ref s.heap.objs.size)) (B3 X pins σ bp R) E { s with heap:=s.heap.push { cls:=.type "range", data:=.fields #[.int lo t,.int au u,.int 1 v] },toks:=bR }:=by
 refine wpAny_pyIter_range (IsRange.new ..) (small_one ae ag aO bX) ?_;have a4:Inv X pins σ H { s with heap:=s.heap.push { cls:=.type "range", data:=.fields #[.int lo t,.int au u,.int 1 v] },toks:=bR }:=I.kept λ b o e=>dQ _ e
 refine ⟨(s.heap.push { cls:=.type "range", data:=.fields #[.int lo t,.int au u,.int 1 v] }).objs.size,[(s.heap.push { cls:=.type "range", data:=.fields #[.int lo t,.int au u,.int 1 v] }).objs.size],_,_,H,rfl,
  a4.kept (t':=bR) λ b o e=>dQ _ e,Qn _ lo (au - lo).toNat,?_,λ b af=>?_,q⟩
 ·have aE:lo+((0:Nat):Int) * 1=lo:=by simp
  have aP:(((au - lo).toNat:Nat):Int) - ((0:Nat):Int)=Builtin.Range.rangeSize lo au 1:=by rw [rangeSize_one];split<;>omega
  show IsRangeIter _ _ (lo+((0:Nat):Int) * 1) ((((au - lo).toNat:Nat):Int) - ((0:Nat):Int)) 1;rw [aE,aP];exact hG _ rfl
 ·have e:b=(s.heap.push { cls:=.type "range", data:=.fields #[.int lo t,.int au u,.int 1 v] }).objs.size:=by simpa using af
  subst e;exact a4.qm (b4 _) (a4.bU.fresh (b4 _))
def Ip(bb:fT):TI:=λ σ H R=>bb σ H λ vs H1=>∃ j:Int,vs=[.int j]/\-(2 ^ 62)<=j/\j < 2 ^ 62/\R (tI 0 j.toNat) H1
def Qp{a:a9}{bb:fT}{p pos:Pos}(a_:ew X "range")(hm:X.mg "range" = none)(ay:iI X [a] bb)(ax:dU [a] X.env=[(false,eval a X.env)]:=by rfl):nX X bp (.Call (.Name "range" p) [a] [] pos) (Ip bb):=by
 intro pins s σ H R I h;refine Call_ (qk I a_ hm boot_range (tv (b2 (ay pos pins s σ H _ I h) λ us s1 ⟨vs,H1,a4,aX,aH⟩=>?_) ax rfl));obtain ⟨j,e,aH,bl,q⟩:=aH;subst e
 cases aX with
 | cons r cf=>
  cases cf;obtain ⟨t,rfl⟩:=r;exact call_range_1 (Qo a4 (by omega) (by omega) aH bl (by simpa using q))
def Iq(ec:TI)(g:g4)(bA:ft):ft:=λ D σ H=>ec σ H λ J H1=>∃ W:Nat->Nat->St->av->Prop,(∃ m,W 0 m σ H1)/\∀ i m σ H,W i m σ H →
 (J.stop i H/\D.nx σ H)\/(J.go i H/\∃ N:St->av->Prop,(∀ σ' aj,N σ' aj->∃ dR,dR < m/\W (i+1) dR σ' aj)/\∀ x aj,J.ql i H x aj->g x σ aj λ σ2 a3=>bA { D with nx:=N,ct:=N,bk:=D.nx } σ2 a3)
def y7(fp:List Addr)(h:bO):List (Addr × Obj):=fp.filterMap λ b=>(h.get? b).map λ o=>(b,o)
def tJ{fp:List Addr}{h:bO}{b:Addr}{o:Obj}(af:b∈fp)(e:h.get? b=some o):(b,o)∈y7 fp h:=List.mem_filterMap.mpr ⟨b,af,by rw [e];rfl⟩
def Qq{fp:List Addr}{h:bO}{p:Addr × Obj}(ah:p∈y7 fp h):p.1∈fp/\h.get? p.1=some p.2:=by
 obtain ⟨b,af,e⟩:=List.mem_filterMap.mp ah
 cases q:h.get? b with
 | none=>rw [q] at e;cases e
 | some o=>
  rw [q] at e;have bZ:(b,o)=p:=gG.inj e;subst bZ;exact ⟨af,q⟩
theorem Inv.pinned{pins:List (Addr × Obj)}{σ:St}{H:av}{s:aF}{fp:List Addr}(I:Inv X pins σ H s)(hf:∀ b∈fp,jq X pins H b)(aR:∀ b∈fp,∃ o,s.heap.get? b=some o/\∀ v,o.data≠.cell v):Inv X (pins++y7 fp s.heap) σ H s:=
 I.HV λ p ah=>(fH.mp ah).elim (λ z=>I.pin p (h6 _ z)) λ z=>by
  obtain ⟨af,e⟩:=Qq z;obtain ⟨f0,f1,f2,_⟩:=hf p.1 af;obtain ⟨o,bZ,d⟩:=aR p.1 af;rw [e] at bZ;cases bZ;exact ⟨e,f0,f1,f2,d⟩
theorem Inv.vM{pins pl:List (Addr × Obj)}{σ:St}{H:av}{s:aF}(I:Inv X (pins++pl) σ H s):Inv X pins σ H s:=I.HV λ p ah=>I.pin p (h6 _ (jP _ ah))
theorem Qr{iter:a9}{body:List b1}{ec:TI}{g:g4}{bA:ft}{pos:Pos}(ah:p7 (a8 X.prog X.w) X.A X.env X.xe)(am:X.calm=true)(au:nX X bp iter ec)(a_:oR X bp g)(af:jY X body bA)
 (ax:∀ x,nD iter X.env x=pure x:=by intro _;rfl):jX X (.For bp iter body [] pos) (Iq ec g bA):=by
 intro pins s σ H D I h;refine wpAny_For (b2 (au pins s σ H _ I h) λ v s1 ae=>b2 ae λ y6 s2 ag=>?_) ax;obtain ⟨it,fp,hX,J,a3,e,c5,T,rH,f2,W,⟨m0,d2⟩,turn⟩:=ag;subst e
 have mK:∀{aj:av},(∀ b∈fp,aj b=none)->∀ b∈fp,jq X pins aj b:=λ aA b af=>⟨aA b af,(f2 b af).2⟩
 refine codeAny_forLoop_any (λ n aQ=>∃ i σ' aj,Inv X pins σ' aj aQ/\hX i aQ.heap/\(∀ b∈fp,aj b=none)/\W i n σ' aj) ?_ m0 ⟨0,σ,a3,c5,rH,λ b af=>(f2 b af).1,d2⟩;rintro n s3 ⟨i,σ3,dy,ei,qn,Ir,ik⟩;rcases turn i n σ3 dy ik with ⟨stop,vN⟩ | ⟨go,N,dM,step⟩
 ·refine q8 ah (b2 (T.done X rfl rfl rfl am i pins s3 σ3 dy X.xe ei (mK Ir) qn stop) λ r s4 ⟨ak,il⟩=>?_);subst ak;exact s8 ⟨σ3,dy,il,vN⟩
 ·refine q8 ah (b2 (T.item X rfl rfl rfl am i pins s3 σ3 dy X.xe ei (mK Ir) qn go) λ r s4 ⟨u,ak,bX⟩=>?_);subst ak;refine q8 ah (b2 bX λ _ s5 ⟨x,jr,oS,B4,Qs,oT,rI⟩=>?_);have Qt:=oS.pinned (mK rI) (T.obj _ _ oT);refine q8 ah (b2 (a_ _ s5 σ3 jr x u _ Qt B4 (step x jr Qs)) λ _ iJ ⟨σ6,oU,mL,lS⟩=>?_);refine q8 ah (b2 (af _ iJ σ6 oU _ mL lS) λ f jZ mM=>?_)
  have jO:∀{σ7:St}{i7:av},Inv X (pins++y7 fp s5.heap) σ7 i7 jZ->N σ7 i7->∃ m,m < n/\∃ i σ' aj,Inv X pins σ' aj jZ/\hX i jZ.heap/\(∀ b∈fp,aj b=none)/\W i m σ' aj:=λ{σ7 i7} j0 oV=>by
   obtain ⟨dR,hm,Qu⟩:=dM σ7 i7 oV;refine ⟨dR,hm,i+1,σ7,i7,j0.vM,T.keep _ _ _ oT λ b af o e=>(j0.pin (b,o) (h6 _ (h6 _ (tJ af e)))).1,λ b af=>?_,Qu⟩;obtain ⟨o,e,d⟩:=T.obj _ _ oT b af;exact (j0.pin (b,o) (h6 _ (h6 _ (tJ af e)))).2.1
  cases f with
  | next=>obtain ⟨σ7,i7,j0,oV⟩:=mM;exact jO j0 oV
  | cont=>obtain ⟨σ7,i7,j0,oV⟩:=mM;exact jO j0 oV
  | brk=>obtain ⟨σ7,i7,j0,mM⟩:=mM;exact ⟨σ7,i7,j0.vM,mM⟩
  | ret v=>obtain ⟨x7,σ7,i7,j0,vO,mM⟩:=mM;exact ⟨x7,σ7,i7,j0.vM,vO,mM⟩
end
abbrev eZ:=V->V->av->cC->Prop
def d8(X:aT)(f:Value->Value->Sem Value)(r:eZ):Prop:=
 ∀(pins:List (Addr × Obj))(s:aF)(σ:St)(H:av)(x y:V)(v u:Value)(Q:cC),Inv X pins σ H s->RelV x v->RelV y u->r x y H Q →
  aZ (a8 X.prog X.w) X.A (f v u) (gg X pins σ Q) X.xe s
def y8(X:aT)(f:Value->Sem Value)(r:V->av->cC->Prop):Prop:=
 ∀(pins:List (Addr × Obj))(s:aF)(σ:St)(H:av)(x:V)(v:Value)(Q:cC),Inv X pins σ H s->RelV x v->r x H Q →
  aZ (a8 X.prog X.w) X.A (f v) (gg X pins σ Q) X.xe s
def hY(X:aT)(f:Value)(r:List V->av->cC->Prop):Prop:=
 ∀(pins:List (Addr × Obj))(s:aF)(σ:St)(H:av)(xs:List V)(us:List Value)(Q:cC),Inv X pins σ H s->Vals xs us->r xs H Q →
  aZ (a8 X.prog X.w) X.A (call f us) (gg X pins σ Q) X.xe s
def Qv(X:aT)(r:V->av->(Bool->av->Prop)->Prop):Prop:=
 ∀(pins:List (Addr × Obj))(s:aF)(σ:St)(H:av)(x:V)(v:Value)(Q:Bool->av->Prop),Inv X pins σ H s->RelV x v->r x H Q →
  aZ (a8 X.prog X.w) X.A (truthy v) (BZ X pins σ Q) X.xe s
def qo(r:eZ)(bb bA:TE):TE:=λ σ H Q=>bb σ H λ x H1=>bA σ H1 λ y a3=>r x y a3 Q
def It(r:V->av->cC->Prop)(bb:TE):TE:=λ σ H Q=>bb σ H λ x H1=>r x H1 Q
def tK(C:Int->Int->Prop)(g:Int->Int->V):eZ:=λ x y H Q=>∃ i j,x=.int i/\y=.int j/\C i j/\Q (g i j) H
def nY(g:Int->Int->V):eZ:=λ x y H Q=>∃ i j,x=.int i/\y=.int j/\Q (g i j) H
def Iu(g:Int->V):V->av->cC->Prop:=λ x H Q=>∃ i,x=.int i/\Q (g i) H
section
variable{X:aT}{a b c:a9}{bb bA bf:TE}{pos:Pos}
def B5(ay:b5 X a bb)(af:b5 X b bA){pins:List (Addr × Obj)}{s:aF}{σ:St}{H:av}{R:V->V->av->Prop}(I:Inv X pins σ H s)
 (h:bb σ H λ x H1=>bA σ H1 λ y a3=>R x y a3) {Q:Value->aF->Prop} {f:Value->Value->Sem Value}
 (hf:∀ v u s2 x y a3,Inv X pins σ a3 s2->RelV x v->RelV y u->R x y a3->aZ (a8 X.prog X.w) X.A (f v u) Q X.xe s2) :
 aZ (a8 X.prog X.w) X.A (eval a X.env) (λ v dJ=>aZ (a8 X.prog X.w) X.A (eval b X.env) (λ u rF=>aZ (a8 X.prog X.w) X.A (f v u) Q X.xe rF) X.xe dJ) X.xe s:=by
 refine b2 (ay pins s σ H _ I h) λ v s1 ⟨x,H1,a4,aX,aH⟩=>?_;refine b2 (af pins s1 σ H1 _ a4 aH) λ u s2 ⟨y,a3,c5,bj,bl⟩=>?_;exact hf v u s2 x y a3 c5 aX bj bl
def Qw{op:oz}{r:eZ}(aR:d8 X (hC op) r)(ay:b5 X a bb)(af:b5 X b bA):b5 X (.BinOp a op b pos) (qo r bb bA):=by
 intro pins s σ H Q I h;exact wpAny_BinOp (B5 ay af I h λ v u s2 x y a3 c5 a7 cD q=>aR pins s2 σ a3 x y v u Q c5 a7 cD q)
def Qx{op:UnaryOp}{r:V->av->cC->Prop}(aR:y8 X (vj op) r)(ay:b5 X a bb):b5 X (.UnaryOp op a pos) (It r bb):=by
 intro pins s σ H Q I h;exact UnaryOp_ (b2 (ay pins s σ H _ I h) λ v s1 ⟨x,H1,a4,aX,aH⟩=>aR pins s1 σ H1 x v Q a4 aX aH)
def y9{f:Value->Value->Sem Value}{C:Int->Int->Prop}{g:Int->Int->Int}
 (rule:∀(i j:Int)(t u:Tok)(s:aF)(Q:Value->aF->Prop)(E:Value->aF->Prop),C i j->Q (.int (g i j) s.toks) { s with toks:=s.toks+1 }->aZ (a8 X.prog X.w) X.A (f (.int i t) (.int j u)) Q E s) :
 d8 X f (tK C λ i j=>.int (g i j)):=by
 intro pins s σ H x y v u Q I a7 cD h;obtain ⟨i,j,rfl,rfl,am,q⟩:=h;obtain ⟨t,rfl⟩:=a7;obtain ⟨t',rfl⟩:=cD;exact rule i j t t' s _ _ am ⟨.int (g i j),H,I.tok _,⟨_,rfl⟩,q⟩
def Iv{f:Value->Value->Sem Value}{g:Int->Int->Int}
 (rule:∀(i j:Int)(t u:Tok)(s:aF)(Q:Value->aF->Prop)(E:Value->aF->Prop),Q (.int (g i j) s.toks) { s with toks:=s.toks+1 }->aZ (a8 X.prog X.w) X.A (f (.int i t) (.int j u)) Q E s) :
 d8 X f (nY λ i j=>.int (g i j)):=by
 intro pins s σ H x y v u Q I a7 cD h;obtain ⟨i,j,rfl,rfl,q⟩:=h;obtain ⟨t,rfl⟩:=a7;obtain ⟨t',rfl⟩:=cD;exact rule i j t t' s _ _ ⟨.int (g i j),H,I.tok _,⟨_,rfl⟩,q⟩
def y_{f:Value->Value->Sem Value}{g:Int->Int->Bool}
 (rule:∀(i j:Int)(t u:Tok)(s:aF)(Q:Value->aF->Prop)(E:Value->aF->Prop),Q (.bool (g i j)) s->aZ (a8 X.prog X.w) X.A (f (.int i t) (.int j u)) Q E s) :
 d8 X f (nY λ i j=>.aJ (g i j)):=by
 intro pins s σ H x y v u Q I a7 cD h;obtain ⟨i,j,rfl,rfl,q⟩:=h;obtain ⟨t,rfl⟩:=a7;obtain ⟨t',rfl⟩:=cD;exact rule i j t t' s _ _ ⟨.aJ (g i j),H,I,rfl,q⟩
def Iw(i j:Int):Prop:=0<=j/\j<=1000000/\i.natAbs < 2 ^ 64
def za(i j:Int):Prop:=(-(2 ^ 64) < i/\i < 2 ^ 64)\/(-(2 ^ 64) < j/\j < 2 ^ 64)
theorem za.ok{i j:Int}(h:za i j):IntMulOk i j:=by
 rcases h with ⟨ae,ag⟩ | ⟨ae,ag⟩
 ·exact .of_left (intBits_le_64 ae ag)
 ·exact .of_right (intBits_le_64 ae ag)
def Qy:d8 X (hC .Add) (nY λ i j=>.int (i+j)):=Iv λ _ _ _ _ _ _ _ q=>add_int q
def Qz:d8 X (hC .Sub) (nY λ i j=>.int (i - j)):=Iv λ _ _ _ _ _ _ _ q=>sub_int q
def QA:d8 X (hC .Mult) (tK za λ i j=>.int (i * j)):=y9 λ _ _ _ _ _ _ _ am q=>mul_int q am.ok
def QB:d8 X (hC .Mod) (tK (λ _ j=>0 < j) λ i j=>.int (i % j)):=y9 λ i j _ _ _ _ _ am q=>by
 have ae:(0:Int) < j:=am;exact mod_int' (by omega) (by rw [Int.fmod_eq_emod_of_nonneg i (by omega)];exact q)
def QC:d8 X (hC .Pow) (tK Iw λ i j=>.int (i ^ j.toNat)):=y9 λ _ _ _ _ _ _ _ am q=>pow_int_small am.1 am.2.1 am.2.2 q
def QD{f:Value->Sem Value}{g:Int->Int}
 (rule:∀(i:Int)(t:Tok)(s:aF)(Q:Value->aF->Prop)(E:Value->aF->Prop),Q (.int (g i) s.toks) { s with toks:=s.toks+1 }->aZ (a8 X.prog X.w) X.A (f (.int i t)) Q E s) :
 y8 X f (Iu λ i=>.int (g i)):=by
 intro pins s σ H x v Q I a7 h;obtain ⟨i,rfl,q⟩:=h;obtain ⟨t,rfl⟩:=a7;exact rule i t s _ _ ⟨.int (g i),H,I.tok _,⟨_,rfl⟩,q⟩
def QE:y8 X (vj .USub) (Iu λ i=>.int (-i)):=QD λ _ _ _ _ _ q=>neg_int q
end
section
variable{X:aT}{a b c:a9}{bb bA bf:TE}{pos:Pos}
def QF{pins:List (Addr × Obj)}{σ:St}{H:av}{s:aF}{Q:cC}{k nZ:Bool}(I:Inv X pins σ H s)(q:Q (.aJ k) H)(e:k=nZ):gg X pins σ Q (.bool nZ) s:=by
 subst e;exact ⟨.aJ k,H,I,rfl,q⟩
def QG:d8 X (er .Lt) (nY λ i j=>.aJ (decide (i < j))):=y_ λ _ _ _ _ _ _ _ q=>lt_int q
def QH:d8 X (er .LtE) (nY λ i j=>.aJ (decide (i<=j))):=y_ λ _ _ _ _ _ _ _ q=>le_int q
def QI:d8 X (er .Gt) (nY λ i j=>.aJ (decide (j < i))):=y_ λ _ _ _ _ _ _ _ q=>gt_int q
def QJ:d8 X (er .GtE) (nY λ i j=>.aJ (decide (j<=i))):=y_ λ _ _ _ _ _ _ _ q=>ge_int q
def QK:d8 X (er .In) (λ x y H Q=>∃ i j,x=.str i/\y=.str j/\Q (.aJ (!(Builtin.Str.occurrences j i 0 j.length 1).isEmpty)) H):=by
 intro pins s σ H x y v u Q I a7 cD h;obtain ⟨i,j,rfl,rfl,q⟩:=h;obtain ⟨t,rfl⟩:=a7;obtain ⟨t',rfl⟩:=cD;exact in_str (QF I q rfl)
theorem d8.or{f:Value->Value->Sem Value}{r bD:eZ}(h:d8 X f r)(h':d8 X f bD):d8 X f (λ x y H Q=>r x y H Q\/bD x y H Q):=by
 intro pins s σ H x y v u Q I a7 cD q;rcases q with q | q
 ·exact h pins s σ H x y v u Q I a7 cD q
 ·exact h' pins s σ H x y v u Q I a7 cD q
def bF(b:a9){op:nH}(h:op≠.In:=by decide)(ag:op≠.NotIn:=by decide):p3 op b=false:=by
 have aE:(op==CmpOp.In)=false:=by cases op<;>first | rfl | exact absurd rfl h
 have aP:(op==CmpOp.NotIn)=false:=by cases op<;>first | rfl | exact absurd rfl ag
 cases b<;>simp [p3,aE,aP]
def QL{op:nH}{r:eZ}(aR:d8 X (er op) r)(ay:b5 X a bb)(af:b5 X b bA)(hm:p3 op b=false):b5 X (.Compare a [op] [b] pos) (qo r bb bA):=by
 intro pins s σ H Q I h;exact wpAny_Compare1 (B5 ay af I h λ v u s2 x y a3 c5 a7 cD q=>aR pins s2 σ a3 x y v u Q c5 a7 cD q) hm
def B6(t:TE):TT:=λ σ H Q=>t σ H λ x aj=>∃ k,x=.aJ k/\Q k aj
def QM{op:nH}{r:eZ}(aR:d8 X (er op) r)(ay:b5 X a bb)(af:b5 X b bA)(hm:p3 op b=false):kH X (.Compare a [op] [b] pos) (B6 (qo r bb bA)):=by
 intro pins s σ H Q I h
 refine wpAny_isTrue_Compare1 (b2 (ay pins s σ H _ I h) λ v s1 ⟨x,H1,a4,aX,aH⟩=>b2 (af pins s1 σ H1 _ a4 aH) λ u s2 ⟨y,a3,c5,bj,bl⟩=>
  b2 (aR pins s2 σ a3 x y v u _ c5 aX bj bl) λ c s3 ⟨z,dy,ei,mN,k,e,dZ⟩=>?_) hm
 subst e;cases mN;exact oy ⟨dy,ei,dZ⟩
def QN(r bD:eZ)(bb bA bf:TE):TE:=λ σ H Q=>bb σ H λ x H1=>bA σ H1 λ y a3=>r x y a3 λ z dy=>∃ k,z=.aJ k ∧
 (if k=true then bf σ dy λ hH js=>bD y hH js Q else Q (.aJ false) dy)
theorem QO{op rJ:nH}{r bD:eZ}(aR:d8 X (er op) r)(mG:d8 X (er rJ) bD)(ay:b5 X a bb)(af:b5 X b bA)(am:b5 X c bf)
 (hm:lastMarks [op,rJ] [b,c]=false:=by with_unfolding_all rfl):kH X (.Compare a [op,rJ] [b,c] pos) (B6 (QN r bD bb bA bf)):=by
 intro pins s σ H Q I h
 refine isTrue_chain (b2 (ay pins s σ H _ I h) λ v s1 ⟨x,H1,a4,aX,aH⟩=>test_link (b2 (af pins s1 σ H1 _ a4 aH) λ u s2 ⟨y,a3,c5,bj,bl⟩=>
  b2 (aR pins s2 σ a3 x y v u _ c5 aX bj bl) λ d s3 ⟨z,dy,ei,mN,k,e,dZ⟩=>?_)) hm
 subst e;cases mN;refine oy ?_
 cases k with
 | false=>
  obtain ⟨nZ,bZ,hj⟩:=dZ;cases bZ;exact ite_ff ⟨dy,ei,hj⟩
 | true=>
  refine ite_tt (test_last (b2 (am pins s3 σ dy _ ei dZ) λ hH s4 ⟨gn,js,il,B7,ia⟩=>b2 (mG pins s4 σ js y gn u hH _ il bj B7 ia) λ d' s5 ⟨cc,jr,oS,B4,k2,aP,lc⟩=>?_));subst aP;cases B4;exact oy ⟨jr,oS,lc⟩
def B8(K:aV)(x:V)(H:av)(k:Bool):Prop:=
 match x with
 | .bc=>k=false
 | .aJ b=>k=b
 | .int i=>k=(i !=0)
 | .str y=>y.length<=sizeLine/\k=((y.length:Int) !=0)
 | .tx y=>y.size<=sizeLine/\k=((y.size:Int) !=0)
 | .ref p=>(∃ xs,d7 K H p xs/\k=!xs.isEmpty)\/(∃ xs,eb K H p xs/\k=!xs.isEmpty)\/∃ dH,H p=some (.i6 dH)/\k=!dH.isEmpty
 | _=>False
def QP{κ:Type}{dH:List (κ × V)}{vs:List (κ × Value)}(r:BT dH vs):(!vs.isEmpty)=!dH.isEmpty:=by
 cases r<;>rfl
def Ix{xs:List V}{aw:List Value}(r:Vals xs aw):(!aw.toArray.isEmpty)=!xs.isEmpty:=by
 cases r<;>simp
def oW:(sizeLine:Nat) < 2 ^ 63:=by rw [hP];decide
def QQ:Qv X (λ x H Q=>∃ k,B8 X.K x H k/\Q k H):=by
 intro pins s σ H x v Q I a7 h;obtain ⟨k,e,q⟩:=h;have ar:=oW;have ax:sizeLine=16777216:=hP
 cases x with
 | bc=>
  cases a7;have bZ:k=false:=e;subst bZ;exact truthy_none ⟨H,I,q⟩
 | aJ b=>
  cases a7;have bZ:k=b:=e;subst bZ;exact oy ⟨H,I,q⟩
 | int i=>
  obtain ⟨t,rfl⟩:=a7;have bZ:k=(i !=0):=e;subst bZ;exact PySem.P.truthy_int ⟨H,I,q⟩
 | str y=>
  obtain ⟨t,rfl⟩:=a7;obtain ⟨bP,bZ⟩:y.length<=sizeLine/\k=((y.length:Int) !=0):=e;subst bZ;exact PySem.P.truthy_str (by omega) ⟨H,I.tok _,q⟩
 | tx y=>
  obtain ⟨t,rfl⟩:=a7;obtain ⟨bP,bZ⟩:y.size<=sizeLine/\k=((y.size:Int) !=0):=e;subst bZ;exact PySem.W.truthy_bytes (by omega) ⟨H,I.tok _,q⟩
 | ref p=>
  cases a7;have bZ:(∃ xs,d7 X.K H p xs/\k=!xs.isEmpty)\/(∃ xs,eb X.K H p xs/\k=!xs.isEmpty)\/∃ dH,H p=some (.i6 dH)/\k=!dH.isEmpty:=e;rcases bZ with ⟨xs,ai,bZ⟩ | ⟨xs,ai,bZ⟩ | ⟨dH,ai,bZ⟩
  ·subst bZ;obtain ⟨aw,r,pl,hz⟩:=I.list ai;have hlen:=r.length;exact wpAny_truthy_list pl.isList (by simp only [cH];omega) ⟨H,I.tok _,by rw [Ix r];exact q⟩
  ·subst bZ;obtain ⟨aw,r,pl,hz⟩:=I.tuple ai;have hlen:=r.length;exact truthy_tuple pl (by simp only [cH];omega) ⟨H,I.tok _,by rw [Ix r];exact q⟩
  ·subst bZ;obtain ⟨hz,dr,vs,r,m⟩:dH.length<=sizeLine/\(p==q_)=false/\∃ vs,BT dH vs/\s.heap.DictOf (BS X.prog X.w) p vs:=I.bU p _ ai;have hlen:dH.length=vs.length:=Paired.length r;exact wpAny_truthy_dict dr m (by omega) ⟨H,I.tok _,by rw [QP r];exact q⟩
 | _=>exact (show False from e).elim
def QR(ay:b5 X a bb)(he:∀ whole,isTrue a X.env whole=(do let v ← whole;p8 a.pos;jM [v] (truthy v))) :
 kH X a (λ σ H Q=>bb σ H λ x aj=>∃ k,B8 X.K x aj k/\Q k aj):=by
 intro pins s σ H Q I h;exact isTrue_plain (b2 (ay pins s σ H _ I h) λ v s1 ⟨x,H1,a4,aX,aH⟩=>QQ pins s1 σ H1 x v Q a4 aX aH) (he _)
def QS:d8 X (hC .Add) (λ x y H Q=>∃ i j,x=.str i/\y=.str j/\i.length+j.length<=sizeLine/\Q (.str (i++j)) H):=by
 intro pins s σ H x y v u Q I a7 cD h;obtain ⟨i,j,rfl,rfl,hz,q⟩:=h;obtain ⟨t,rfl⟩:=a7;obtain ⟨t',rfl⟩:=cD;exact add_str (λ t' bR=>⟨.str (i++j),H,I.tok _,⟨_,rfl⟩,q⟩) hz
def n0{x:V}{us:List Value}(r:Vals [x] us):∃ u,us=[u]/\RelV x u:=by
 cases r with
 | cons aX bj=>cases bj;exact ⟨_,rfl,aX⟩
def Iy{x y:V}{us:List Value}(r:Vals [x,y] us):∃ u hH,us=[u,hH]/\RelV x u/\RelV y hH:=by
 cases r with
 | cons aX bj=>
  cases bj with
  | cons mN B7=>cases B7;exact ⟨_,_,rfl,aX,mN⟩
def QT(am:X.calm=true):hY X (.builtin "max") (λ xs H Q=>∃ i j,xs=[.int i,.int j]/\Q (.int (if j > i then j else i)) H):=by
 intro pins s σ H xs us Q I r h;obtain ⟨i,j,rfl,q⟩:=h;obtain ⟨u,hH,rfl,⟨t,rfl⟩,⟨t',rfl⟩⟩:=Iy r
 refine max_two_ints (I.ok.hd am) λ h' bR k=>⟨_,H,I.kept k,?_,q⟩
 by_cases bw:j > i
 ·rw [if_pos bw,if_pos bw];exact ⟨_,rfl⟩
 ·rw [if_neg bw,if_neg bw];exact ⟨_,rfl⟩
def QU(am:X.calm=true):hY X (.builtin "min") (λ xs H Q=>∃ i j,xs=[.int i,.int j]/\Q (.int (if j < i then j else i)) H):=by
 intro pins s σ H xs us Q I r h;obtain ⟨i,j,rfl,q⟩:=h;obtain ⟨u,hH,rfl,⟨t,rfl⟩,⟨t',rfl⟩⟩:=Iy r
 refine min_two_ints (I.ok.hd am) λ h' bR k=>⟨_,H,I.kept k,?_,q⟩
 by_cases bw:j < i
 ·rw [if_pos bw,if_pos bw];exact ⟨_,rfl⟩
 ·rw [if_neg bw,if_neg bw];exact ⟨_,rfl⟩
def QV:hY X (.type "int") (λ xs H Q=>(∃ i,xs=[.int i]/\Q (.int i) H)\/∃ k,xs=[.aJ k]/\Q (.int (if k then 1 else 0)) H):=by
 intro pins s σ H xs us Q I r h;rcases h with ⟨i,rfl,q⟩ | ⟨k,rfl,q⟩
 ·obtain ⟨u,rfl,t,rfl⟩:=n0 r;exact call_int_int ⟨.int i,H,I,⟨_,rfl⟩,q⟩
 ·obtain ⟨u,rfl,aX⟩:=n0 r;cases aX;exact call_int_bool ⟨.int (if k then 1 else 0),H,I.tok _,⟨_,rfl⟩,q⟩
def QW:hY X (.type "str") (λ xs H Q=>∃ i,xs=[.int i]/\i.natAbs.log2 < 1920/\Q (.str (toString i)) H):=by
 intro pins s σ H xs us Q I r h;obtain ⟨i,rfl,hz,q⟩:=h;obtain ⟨u,rfl,t,rfl⟩:=n0 r;exact PySem.P.str_of_int hz ⟨.str _,H,I.tok _,⟨_,rfl⟩,q⟩
end
structure B9(h:bO)(x aU C:Addr)(mA:Str->Option Value):Prop where
 obj:h.get? x=some (PySem.W.instObj C aU)
 ns:h.Ns1 aU mA
 ne:aU≠x
def Iz{h:bO}{aU:Addr}{mA:Str->Option Value}(n:h.Ns1 aU mA):∃ eR,h.get? aU=some eR/\∀ name,yN name eR=some (mA name):=by
 obtain ⟨o,es,e9,aR,hd,aD,_,hm⟩:=n;refine ⟨o,aR,λ name=>?_⟩;have e:=hm name;unfold td findBy at e;rw [<- Array.find?_toList] at e;unfold yN;rw [hd]
 dsimp only
 split
 ·rename_i y q
  rw [q] at e;exact congrArg some e
 ·rename_i q
  rw [q] at e
  have a:es.toList.any (·.refKey)=false:=by
   rw [List.any_eq_false];intro y bP;obtain ⟨z,t,QX⟩:=aD y (yJ.mp bP);simp [DictEntry.refKey,QX]
  have tL:¬ es.toList.any (·.refKey)=true:=by rw [a];exact mE
  rw [if_neg tL];exact congrArg some e
theorem B9.look{h:bO}{x aU C:Addr}{mA:Str->Option Value}(I:B9 h x aU C mA):∃ eR,PySem.W.InstAt h x (PySem.W.instObj C aU) C (some eR)/\∀ name,yN name eR=some (mA name):=
 let ⟨eR,aR,ar⟩:=Iz I.ns
 ⟨eR,⟨I.obj,rfl,rfl,aR⟩,ar⟩
def QY{v:V}{u:Value}(r:RelV v u):PySem.W.handedIn u=true:=by
 cases v with
 | bc=>cases (show u=Value.none from r);rfl
 | aJ b=>cases (show u=Value.bool b from r);rfl
 | int i=>obtain ⟨t,e⟩:=(show ∃ t,u=Value.int i t from r);cases e;rfl
 | str x=>obtain ⟨t,e⟩:=(show ∃ t,u=Value.str x t from r);cases e;rfl
 | tx b=>obtain ⟨t,e⟩:=(show ∃ t,u=Value.bytes b t from r);cases e;rfl
 | rA b=>obtain ⟨t,e⟩:=(show ∃ t,u=Value.float b t from r);cases e;rfl
 | ref a=>cases (show u=Value.ref a from r);rfl
 | ty n=>cases (show u=Value.type n from r);rfl
section
variable{P:cS}{w:b_}{H aj:av}{h h':bO}{a C aU:Addr}{aC dY:List (Str × V)}
def QZ(bU:fC P w H h)(e:H a=some (.ins C aU aC)):∃ mA,B9 h a aU C mA/\(∀ f,oL (aC.lookup f) (mA f))/\PySem.Within mA (aC.map (·.1))/\aC.length<=1000/\H aU=some (.own a):=by
 obtain ⟨d,z,ne,dv,mA,n,r,q⟩:=(show f5 P w H h a (.ins C aU aC) from bU a _ e)
 exact ⟨mA,⟨dv,n,ne⟩,r,q,z,d⟩
end
structure B_(K:aV)(C:Addr):Prop where
 Q0:PySem.W.plainGet K C Str.empty=true
 hd:PySem.W.hasDictIn K C=true
 po:PySem.W.plainOver K C=true
 IA:nP K (.ref C) "__setattr__" = some (some (.builtin "object.__setattr__"))
theorem B_.get{K:aV}{C:Addr}(c:B_ K C)(f:Str):PySem.W.plainGet K C f=true:=c.Q0
section
variable{X:aT}{pins:List (Addr × Obj)}{σ:St}{H:av}{s:aF}{a C aU:Addr}{aC:List (Str × V)}{f:Str}{v:V}{A:cL}{E:Value->aF->Prop}
def Q1{prog:cS}{w:b_}{env:Env}{e:a9}{f:Str}{pos:Pos}{s:aF}{Q:Value->aF->Prop}(af:mv e f env (eval e env)=eval e env)
 (h:aZ (a8 prog w) A (eval e env) (λ o dJ=>aZ (a8 prog w) A (getAttr o f true) Q E dJ) E s):aZ (a8 prog w) A (eval (.Attribute e f pos) env) Q E s:=
 Attribute_any_ h (by rw [arm_eval_Attribute,af])
end
section
variable{X:aT}{pins:List (Addr × Obj)}{σ:St}{H:av}{s:aF}{A:cL}{E:Value->aF->Prop}{Q:Value->aF->Prop}{c:Value}{b:Bool}
inductive lg(K:aV)(H:av):V->Value->Prop where
 | bc:lg K H .bc (.type "NoneType")
 | aJ (x:Bool):lg K H (.aJ x) (.type "bool")
 | int (i:Int):lg K H (.int i) (.type "int")
 | str (x:Str):lg K H (.str x) (.type "str")
 | rA (x:UInt64):lg K H (.rA x) (.type "float")
 | lst {a:Addr} {xs:List V} (e:H a=some (.lst xs)):lg K H (.ref a) (.type "list")
 | ih {a:Addr} {o:Obj} {xs:List V} (e:H a=some (.ih o (.lst xs))):lg K H (.ref a) (.type "list")
 | tup {a:Addr} {xs:List V} (e:H a=some (.tup xs)):lg K H (.ref a) (.type "tuple")
 | i6 {a:Addr} {dH:List (Key × V)} (e:H a=some (.i6 dH)):lg K H (.ref a) (.type "dict")
 | iH {a:Addr} {dH:List (List Key × V)} (e:H a=some (.iH dH)):lg K H (.ref a) (.type "dict")
 | ins {a C aU:Addr} {aC:List (Str × V)} (e:H a=some (.ins C aU aC)) (cl:B_ K C) (ay:nP K (.ref C) "__class__" = some (some (.builtin "object.__class__")))
  (aA:yO K (.builtin "object.__class__") "__get__" = some (some (.builtin "getset_descriptor.__get__"))) (IB:PySem.W.takesIn K (.builtin "object.__class__")=some true)
  (hm:PySem.W.mroIn K C (.type "object")=some true):lg K H (.ref a) (.ref C)
def Q2{x:V}{u t:Value}(I:Inv X pins σ H s)(a7:RelV x u)(ty:lg X.K H x t)(e:oI X.K t c=some b)(h:∀ bR,Q (.bool b) { s with toks:=bR }) :
 aZ (a8 X.prog X.w) A (call (.builtin "isinstance") [u,c]) Q E s:=by
 cases ty with
 | bc=>cases (show u=Value.none from a7);exact jR PySem.W.kitx_none I.et True.intro e (λ z=>nomatch z) h
 | aJ y=>cases (show u=Value.bool y from a7);exact jR PySem.W.kitx_bool I.et True.intro e (λ z=>nomatch z) h
 | int i=>obtain ⟨t,q⟩:=(show ∃ t,u=Value.int i t from a7);cases q;exact jR PySem.W.kitx_int I.et True.intro e (λ z=>nomatch z) h
 | str y=>obtain ⟨t,q⟩:=(show ∃ t,u=Value.str y t from a7);cases q;exact jR PySem.W.kitx_str I.et True.intro e (λ z=>nomatch z) h
 | rA y=>obtain ⟨t,q⟩:=(show ∃ t,u=Value.float y t from a7);cases q;exact jR PySem.W.kitx_float I.et True.intro e (λ z=>nomatch z) h
 | @lst a xs fU=>
  cases (show u=Value.ref a from a7)
  obtain ⟨_,_,n,_,ae⟩:=(show f5 X.prog X.w H s.heap a (.lst xs) from I.bU a _ fU)
  exact jR PySem.W.kitx_list I.et ⟨_,ae,rfl⟩ e (λ z=>nomatch z) h
 | @ih a dv xs fU=>
  cases (show u=Value.ref a from a7)
  obtain ⟨_,_,_,n,_,ae⟩:=(show f5 X.prog X.w H s.heap a (.ih dv (.lst xs)) from I.bU a _ fU)
  exact jR PySem.W.kitx_list I.et ⟨_,ae,rfl⟩ e (λ z=>nomatch z) h
 | @tup a xs fU=>
  cases (show u=Value.ref a from a7)
  obtain ⟨_,_,_,p⟩:=(show f5 X.prog X.w H s.heap a (.tup xs) from I.bU a _ fU)
  obtain ⟨o,ae,ag,_⟩:=p;exact jR PySem.W.kitx_tuple I.et ⟨o,ae,ag⟩ e (λ z=>nomatch z) h
 | @i6 a dH fU=>
  cases (show u=Value.ref a from a7)
  obtain ⟨_,_,vs,_,p⟩:=(show f5 X.prog X.w H s.heap a (.i6 dH) from I.bU a _ fU)
  obtain ⟨o,es,e9,ae,ag,_⟩:=p;exact jR PySem.W.kitx_dict I.et ⟨o,ae,ag.1⟩ e (λ z=>nomatch z) h
 | @iH a dH fU=>
  cases (show u=Value.ref a from a7)
  obtain ⟨_,_,xs,_,o,es,e9,ae,ag,_⟩:=(show f5 X.prog X.w H s.heap a (.iH dH) from I.bU a _ fU)
  exact jR PySem.W.kitx_dict I.et ⟨o,ae,ag.1⟩ e (λ z=>nomatch z) h
 | @ins a C aU aC fU cl ay aA IB hm=>
  cases (show u=Value.ref a from a7);obtain ⟨mA,O,_⟩:=QZ I.bU fU;obtain ⟨eR,J,_⟩:=O.look;exact jR (PySem.W.kitx_own (cl.get _) cl.hd ay aA IB hm) I.et J e (λ z=>nomatch z) h
end
structure fV(k:Nat)(A:cL):Prop where
 hd:A.handled=none
 aS:A.depth+3 * k+5 < recursionLimit
 un:A.units+16 * k+200 < dP
theorem fV.mono{j k:Nat}{A:cL}(r:fV k A)(h:j<=k):fV j A:=⟨r.hd,by have:=r.aS;omega,by have:=r.un;omega⟩
theorem fV.deeper{k:Nat}{A:cL}(r:fV (k+1) A)(env:Env):fV k (A.deeper env):=
 ⟨r.hd,by have:=r.aS;show A.depth+1+3 * k+5 < _;omega,by have:=r.un;show A.units+3+16 * k+200 < _;omega⟩
def Q3{A:cL}{C:Addr}{us:List Value}{kw:List (Str × Value)}:(A.under (.builtin "type.__call__" ⟨.ref C::us,kw⟩)).depth=A.depth+1:=by
 first | rfl | simp [Around.under,Code.weight,Code.isCreation,Code.isGuard,Code.isCaller,Code.frames,Code.isFrame,guardIds]
def Q4{A:cL}{C:Addr}{us:List Value}{kw:List (Str × Value)}:(A.under (.builtin "type.__call__" ⟨.ref C::us,kw⟩)).units=A.units+1:=by
 first | rfl | simp [Around.under,Code.cUnits,Code.frames,Code.isFrame]
theorem fV.make{k:Nat}{A:cL}(r:fV (k+1) A)(C:Addr)(us:List Value)(kw:List (Str × Value)):fV k (A.under (.builtin "type.__call__" ⟨.ref C::us,kw⟩)):=
 ⟨r.hd,by have:=r.aS;rw [Q3];omega,by have:=r.un;rw [Q4];omega⟩
theorem fV.depth{k:Nat}{A:cL}(r:fV k A):A.depth < recursionLimit:=by have:=r.aS;omega
def IC:fT:=λ _ H Q=>Q [] H
def Ca(bb:TE)(zb:fT):fT:=λ σ H Q=>bb σ H λ x H1=>zb σ H1 λ xs a3=>Q (x::xs) a3
section
variable{X:aT}{e:a9}{es:List a9}{aW:TE}{t:fT}{pos:Pos}
def Cb:iI X [] IC:=λ _ _ _ _ H Q I h=>Calls.spliced_nil ⟨[],H,I,.nil,h⟩
def ID(ay:b5 X e aW)(ak:iI X es t)(ax:dU (e::es) X.env=(false,eval e X.env)::dU es X.env:=by rfl):iI X (e::es) (Ca aW t):=by
 intro pos pins s σ H Q I h;rw [ax];show aZ _ _ (spliced ((false,eval e X.env)::g0 pos (dU es X.env))) _ _ s;refine Calls.spliced_cons (b2 (ay pins s σ H _ I h) λ u s1 ⟨x,H1,a4,aX,aH⟩=>?_)
 exact b2 (ak pos pins s1 σ H1 _ a4 aH) λ us s2 ⟨xs,a3,c5,bj,bl⟩=>⟨x::xs,a3,c5,.cons aX bj,bl⟩
def IE(t:fT):TE:=λ σ H Q=>t σ H λ xs H1=>xs.length<=sizeLine/\∀ p,H1 p=none->Q (.ref p) (upd H1 p (.tup xs))
def IF(t:fT):TE:=λ σ H Q=>t σ H λ xs H1=>xs.length<=sizeLine/\∀ p,H1 p=none->Q (.ref p) (upd H1 p (.lst xs))
def Q5 {g6} (h:iI X es t):b5 X (.Tuple es g6 pos) (IE t):=by
 intro pins s σ H Q I aM;refine wpAny_Tuple_spliced (b2 (h pos pins s σ H _ I aM) λ us s1 ⟨xs,H1,a4,r,z,q⟩=>⟨by rw [<- r.length];exact z,?_⟩);have hf:H1 s1.heap.objs.size=none:=a4.bU.fresh (b4 _);refine ⟨.ref s1.heap.objs.size,upd H1 s1.heap.objs.size (.tup xs),a4.laid (t':=s1.toks) (λ b u e=>dQ _ e) (b4 _) ?_,rfl,q _ hf⟩;exact ⟨z,us,r,⟨_,hG _ rfl,rfl,_,rfl⟩⟩
def Q6(h:iI X es t):b5 X (.List es pos) (IF t):=by
 intro pins s σ H Q I aM;refine wpAny_List_spliced (b2 (h pos pins s σ H _ I aM) λ us s1 ⟨xs,H1,a4,r,z,q⟩=>⟨by rw [<- r.length];exact z,?_⟩);have hf:H1 s1.heap.objs.size=none:=a4.bU.fresh (b4 _);refine ⟨.ref s1.heap.objs.size,upd H1 s1.heap.objs.size (.lst xs),a4.laid (t':=s1.toks) (λ b u e=>dQ _ e) (b4 _) ?_,rfl,q _ hf⟩;exact ⟨z,us,0,r,hG _ rfl⟩
end
abbrev i8:=List V->av->cC->gp->Prop
abbrev mO:=List Env->av->aF->gp->Value->aF->Prop
structure rK(P:cS)(w:b_)(K:aV)(mg:Str->Option Value)(base:bO)(A:cL)(outer:List Env)(s:aF)(H:av):Prop where
 frames:A.frames=some outer
 mod:Mod K mg base
 bs:∀ b o,base.get? b=some o->s.heap.get? b=some o/\H b=none
 nU:base.objs.size<=s.heap.objs.size
 kD:s.heap.FunFrames base outer
 qh:∀ b∈eS outer,H b=none
 bU:fC P w H s.heap
 bare:my s.gens
def Cc(outer:List Env)(P:cS)(w:b_)(H:av)(s:aF)(Q:cC)(u:Value)(aQ:aF):Prop:=
 ∃ v aj,aQ.os=s.os/\my aQ.gens/\fS (eS outer) [] H aj s.heap aQ.heap/\fC P w aj aQ.heap/\RelV v u/\Q v aj
def Q7(CX:mO)(outer:List Env)(P:cS)(w:b_)(H:av)(s:aF)(Q:cC)(E:gp)(r:Result)(aQ:aF):Prop:=
 match r with
 | .ok (.ret u)=>Cc outer P w H s Q u aQ
 | .ok _=>False
 | .error e=>CX outer H s E e aQ
structure dp(P:cS)(w:b_)(K:aV)(mg:Str->Option Value)(base:bO)(CX:mO)(k:Nat)(f:Addr)(fd:gZ)(ps:List Str)(sp:i8):Prop where
 len:∀ vs H Q E,sp vs H Q E->vs.length=ps.length
 run:∀(A:cL)(outer:List Env)(s:aF)(H:av)(args:Args)(us:List Value)(vs:List V)(Q:cC)(E:gp),fV k A->rK P w K mg base A outer s H->tb s fd args (ps.zip us)->Vals vs us->sp vs H Q E →
  p9 (a8 P w) A (.call (.ref f) args) (Q7 CX outer P w H s Q E) s
theorem rK.make{P:cS}{w:b_}{K:aV}{mg:Str->Option Value}{base:bO}{A:cL}{outer:List Env}{s:aF}{H:av}(e:rK P w K mg base A outer s H)(C:Addr)(us:List Value)(kw:List (Str × Value)) :
 rK P w K mg base (A.under (.builtin "type.__call__" ⟨.ref C::us,kw⟩)) outer s H:=⟨by first | exact e.frames | (simpa [Around.under,Code.envs,Code.isFrame,pushEnvs] using e.frames),e.mod,e.bs,e.nU,e.kD,e.qh,e.bU,e.bare⟩
section
variable{X:aT}{pins:List (Addr × Obj)}{σ:St}{H:av}{s aQ:aF}
theorem Inv.Cd(I:Inv X pins σ H s):rK X.prog X.w X.K X.mg X.base X.A X.stack s H:=
 ⟨I.ok.frames,I.ok.mod,I.bs,hT I.ok.nU I.h_,I.stack,I.vD,I.bU,I.bare⟩
theorem Inv.after{Q:cC}{u:Value}(I:Inv X pins σ H s)(h:Cc X.stack X.prog X.w H s Q u aQ):gg X pins σ Q u aQ:=by
 obtain ⟨v,aj,os,bare,un,bU,r,q⟩:=h;obtain ⟨df,g,d,t,vP⟩:=aQ;obtain rfl:vP=s.os:=os;exact ⟨v,aj,I.call (h':=df) (g':=g) (d':=d) (t':=t) (ch:=[]) un bU bare (λ b z=>absurd z (by simp)),r,q⟩
end
def zc(sp:i8)(dvs:List V)(E:gp)(t:fT):TE:=λ σ H Q=>t σ H λ vs H1=>sp (vs++dvs) H1 Q E
def Binds(K:aV)(fd:gZ)(ps:List Str)(ds:List Value):Prop:=
 ∀(s:aF)(us:List Value),K.In s.heap->(us++ds).length=ps.length->tb s fd ⟨us,[]⟩ (ps.zip (us++ds))
theorem Binds.all{K:aV}{fd:gZ}{ps:List Str}(h:∀ us:List Value,us.length=ps.length->bindArgs fd ⟨us,[]⟩=pure (ps.zip us)):Binds K fd ps []:=λ s us _ ar=>by
 rw [eP] at ar ⊢;exact .of_eq (h us ar)
def zd(CX:mO)(X:aT)(E:gp):Prop:=∀(pins:List (Addr × Obj))(σ:St)(H:av)(s:aF)(e:Value)(aQ:aF),Inv X pins σ H s->CX X.stack H s E e aQ->X.xe e aQ
section
variable{X:aT}{CX:mO}{k:Nat}{f C:Addr}{fd:gZ}{ps:List Str}{sp:i8}{dvs:List V}{ds:List Value}{E:gp}{x m:Str}{p pos apos:Pos}{e o:a9}{es:List a9}{bb:TE}{t:fT}
theorem Q8{pins:List (Addr × Obj)}{σ:St}{H:av}{s:aF}{Q:cC}{us:List Value}{vs:List V}(F:dp X.prog X.w X.K X.mg X.base CX k f fd ps sp)(ak:fV k X.A)(af:Binds X.K fd ps ds)(hd:Vals dvs ds)(ai:zd CX X E)
 (I:Inv X pins σ H s) (r:Vals vs us) (h:sp (vs++dvs) H Q E):aZ (a8 X.prog X.w) X.A (call (.ref f) us) (gg X pins σ Q) X.xe s:=by
 have bj:Vals (vs++dvs) (us++ds):=r.append hd
 have ar:(us++ds).length=ps.length:=by rw [<- bj.length];exact F.len _ _ _ _ h
 refine p6 (s_ (F.run X.A X.stack s H ⟨us,[]⟩ (us++ds) (vs++dvs) Q E ak I.Cd (af s us I.et ar) bj h) λ r aQ aM=>?_)
 cases r with
 | error e=>exact ai pins σ H s e aQ I aM
 | ok fI=>
  cases fI with
  | ret u=>exact I.after aM
  | next=>exact False.elim aM
  | brk=>exact False.elim aM
  | cont=>exact False.elim aM
def IG(F:dp X.prog X.w X.K X.mg X.base CX k f fd ps sp)(ak:fV k X.A)(a_:ew X x)(hm:X.mg x=some (.ref f))(aD:lM X.K (.ref f)=true)(af:Binds X.K fd ps ds)(hd:Vals dvs ds)(ai:zd CX X E)
 (ay:iI X (e::es) t) (fJ:(x==("__debug__" : Str))=false:=by decide) (he:dU (e::es) X.env=(false,eval e X.env)::dU es X.env:=by rfl) (g7:(g0 pos (dU es X.env)).any (·.1)=false:=by rfl) :
 b5 X (.Call (.Name x p) (e::es) [] pos) (zc sp dvs E t):=by
 intro pins s σ H Q I h;refine q7 (tD I a_ hm ?_ fJ);refine PySem.W.callWith_K (h₀:=X.base) I.ok.mod.vB aD (b2 (ay pos pins s σ H _ I h) λ us s1 ⟨vs,H1,a4,r,q⟩=>⟨a4.et,?_⟩) he g7;exact Q8 F ak af hd ai a4 r q
end
structure ez(N P:List Str)(sc:gF):Prop where
 kind:sc.kind=.function
 co:sc.isCoroutine=false
 gen:sc.isGenerator=false
 bv:N.Nodup
 pre:N.take P.length=P
 par:∀ x∈P,sc.names.lookup x=some .local\/sc.names.lookup x=some .cell
 Q9:∀ y∈sc.names,y.2≠.free
theorem IH{kindOf:Str->Option XV}{x:Str}:∀{binds:List (Str × Value)}{m:Str->Option Value},(∀ v,(x,v) ∉ binds)->p_ kindOf binds m x=m x
 | [],_,_=>rfl
 | (n,v)::r,m,h=>by
  unfold p_;rw [IH λ w hw=>h w (cO _ hw)];split
  ·have:x≠n:=by rintro rfl;exact h v b3
   simp [this]
  ·rfl
theorem II{kindOf:Str->Option XV}{x:Str}:∀{binds:List (Str × Value)}{m:Str->Option Value},(∀ v,(x,v) ∉ binds)->qa kindOf binds m x=m x
 | [],_,_=>rfl
 | (n,v)::r,m,h=>by
  unfold qa;rw [II λ w hw=>h w (cO _ hw)];split
  ·rfl
  ·have:x≠n:=by rintro rfl;exact h v b3
   simp [this]
theorem IJ{kindOf:Str->Option XV}{x:Str}{v:Value}:∀{P:List Str}{vs:List Value}{i:Nat}{m:Str->Option Value},P.Nodup->P[i]?=some x->vs[i]?=some v->kindOf x=some .local →
 p_ kindOf (P.zip vs) m x=some v
 | [],_,_,_,_,h,_,_=>by simp at h
 | _::_,[],_,_,_,_,h,_=>by simp at h
 | p::P,w::vs,0,m,bv,ae,ag,aD=>by
  simp at ae ag;subst ae;subst ag;show p_ kindOf ((p,w)::P.zip vs) m p=_;unfold p_;rw [IH λ v bJ=>(rl.mp bv).1 (List.of_mem_zip bJ).1,if_pos aD];simp
 | p::P,w::vs,i+1,m,bv,ae,ag,aD=>by
  show p_ kindOf ((p,w)::P.zip vs) m x=_;unfold p_;exact IJ (i:=i) (rl.mp bv).2 (by simpa using ae) (by simpa using ag) aD
theorem IK{kindOf:Str->Option XV}{x:Str}{v:Value}:∀{P:List Str}{vs:List Value}{i:Nat}{m:Str->Option Value},P.Nodup->P[i]?=some x->vs[i]?=some v->kindOf x≠some .local →
 qa kindOf (P.zip vs) m x=some v
 | [],_,_,_,_,h,_,_=>by simp at h
 | _::_,[],_,_,_,_,h,_=>by simp at h
 | p::P,w::vs,0,m,bv,ae,ag,aD=>by
  simp at ae ag;subst ae;subst ag;show qa kindOf ((p,w)::P.zip vs) m p=_;unfold qa;rw [II λ v bJ=>(rl.mp bv).1 (List.of_mem_zip bJ).1,if_neg aD];simp
 | p::P,w::vs,i+1,m,bv,ae,ag,aD=>by
  show qa kindOf ((p,w)::P.zip vs) m x=_;unfold qa;exact IK (i:=i) (rl.mp bv).2 (by simpa using ae) (by simpa using ag) aD
def kK(N:List Str)(vs:List V):St:=vs.map some++fs (N.length - vs.length) none
def e_(CX:mO)(P:cS)(w:b_)(K:aV)(mg:Str->Option Value)(base:bO)(N:List Str)(qual:Str)(scope:gF)(f:Addr)(cd:Value)(A:cL)(outer:List Env)(s:aF)(H:av)(E:gp):aT where
 prog:=P
 w:=w
 K:=K
 mg:=mg
 base:=base
 A:=A.deeper (envOfC qual scope s.heap.objs.size f cd)
 N:=N
 s₀:=s
 H₀:=H
 env:=envOfC qual scope s.heap.objs.size f cd
 outer:=outer
 stack:=envOfC qual scope s.heap.objs.size f cd::outer
 ex:=[]
 calm:=true
 fn:=λ _=>true
 pn:=[]
 xe:=λ e aQ=>aZ (a8 P w) (A.deeper (envOfC qual scope s.heap.objs.size f cd)) (rg (envOfC qual scope s.heap.objs.size f cd) e) (λ _ vQ=>CX outer H s E e vQ) (λ bZ vQ=>CX outer H s E bZ vQ) aQ
def IL{sc:gF}{n:Nat}{x:Str}(h:sc.names.lookup x=some .cell):∃ c,(cellsFrom n sc.names []).lookup x=some c:=by
 have q:=PySem.W.cellsFrom_some sc.names n [] (.inl h);exact oH.mp q
theorem Q_{CX:mO}{P:cS}{w:b_}{K:aV}{mg:Str->Option Value}{base:bO}{N ps:List Str}{qual:Str}{scope:gF}{f:Addr}{cd:Value}{A:cL}{outer:List Env}{s s1:aF}{H:av}{E:gp}{us:List Value}{vs:List V}
 (S:ez N ps scope) (hd:A.handled=none) (dt:rK P w K mg base A outer s H) (ar:vs.length=ps.length) (r:Vals vs us)
 (x:InCallC s s.heap.objs.size (p_ (envOfC qual scope s.heap.objs.size f cd).kindOf (ps.zip us) λ _=>none) (cellsFrom (s.heap.objs.size+1) scope.names []) (qa (envOfC qual scope s.heap.objs.size f cd).kindOf (ps.zip us) λ _=>none) s1) :
 Inv (e_ CX P w K mg base N qual scope f cd A outer s H E) [] (kK N vs) H s1:=by
 have g7:ps.length<=N.length:=by have:=congrArg mB S.pre;rw [lb] at this;omega
 obtain ⟨ae,bR,rfl,aD⟩:=x.done;have vR:∀ b:Addr,b ∉ (e_ CX P w K mg base N qual scope f cd A outer s H E).ex:=λ b z=>absurd (show b∈([]:List Addr) from z) (by simp)
 refine ⟨⟨dt.mod,S.kind,rfl,rfl,b4 _,λ y z c ae ag=>?_,λ y bP=>?_,λ y c _ h=>?_,λ _=>hd,Around.frames_deeper dt.frames,.inr ⟨rfl,rfl⟩,λ b z=>absurd z (vR b),dt.bs,dt.nU,λ b _ _=>vR b,λ b z=>absurd z (vR b),dt.kD,dt.qh⟩,
  rfl,dt.bare,fS.kept aD,⟨_,x.toInCall.ns,λ i y v ae ag aO=>?_⟩,λ y c h=>⟨_,x.cell y c h⟩,dt.bU.fresh (b4 _),λ y c h=>?_,λ p ah=>absurd (show p∈([]:List (Addr × Obj)) from ah) (by simp),dt.bU.kept aD,?_⟩
 ·exact name_of_addr x.apart (ry ae) (ry ag)
 ·have bP:scope.names.lookup y=some .cell\/scope.names.lookup y=some .free:=bP;rcases bP with bP | bP
  ·exact IL bP
  ·exact absurd rfl (S.Q9 _ (ry bP))
 ·exact Nat.le_of_lt (x.above y c (ry h))
 ·have au:i < vs.length:=by
   unfold kK at ag;by_cases au:i < vs.length
   ·exact au
   ·rw [yx (by simpa using au)] at ag;rw [yy] at ag;split at ag<;>cases ag
  have ay:vs[i]?=some v:=by
   unfold kK at ag;rw [vn (by simpa using au),f3] at ag
   cases e:vs[i]? with
   | none=>rw [e] at ag;cases ag
   | some a=>rw [e] at ag;cases ag;rfl
  obtain ⟨u,bK,a5⟩:=r.get ay
  have ah:ps[i]?=some y:=by
   rw [<- S.pre,List.getElem?_take_of_lt (by omega)];exact ae
  have IM:ps.Nodup:=by rw [<- S.pre];exact S.bv.sublist (List.take_sublist _ _)
  refine ⟨u,a5,?_⟩;rcases S.par y (kz ah) with k | k
  ·exact .inl ⟨k,IJ IM ah bK k⟩
  ·obtain ⟨c,e⟩:=IL (n:=s.heap.objs.size+1) k;refine .inr ⟨.inl k,c,e,?_⟩;have q:=x.cell y c e;rw [IK IM ah bK (by show scope.names.lookup y≠_;rw [k];decide)] at q;exact q
 ·exact dt.bU.fresh (Nat.le_of_lt (x.above y c (ry h)))
 ·unfold kK;show _=N.length;rw [cI,cP,yz];omega
theorem Ce{CX:mO}{P:cS}{w:b_}{K:aV}{mg:Str->Option Value}{base:bO}{k:Nat}{f:Addr}{name qual:Str}{params:Arguments}{body:List b1}{scope:gF}{ze gR doc pm bW ct gT:Value}{an eR:Option Addr}
 {jt:Array (Option Value)} {N ps:List Str} {sp:i8} (lk:K.lookup f=some ⟨gT,eR,.func (nQ name qual params body scope ze gR doc pm an bW ct),jt⟩) (hV:tu K bW qual=true) (S:ez N ps scope)
 (len:∀ vs H Q E,sp vs H Q E->vs.length=ps.length)
 (oX:∀(A:cL)(outer:List Env)(s:aF)(H:av)(vs:List V)(Q:cC)(E:gp),fV k (A.deeper (envOfC qual scope s.heap.objs.size f bW))->sp vs H Q E →
  ∃ t,jY (e_ CX P w K mg base N qual scope f bW A outer s H E) body t/\t { nx:=λ _ aj=>Q .bc aj,rt:=Q } (kK N vs) H) :
 dp P w K mg base CX (k+1) f (nQ name qual params body scope ze gR doc pm an bW ct) ps sp:=by
 refine ⟨len,λ A outer s H args us vs Q E ak dt af r lT=>?_⟩;have ar:=len _ _ _ _ lT;have KX:K.In s.heap:=dt.mod.vB.keeps λ b o e=>(dt.bs b o e).1;have lim:s.heap.NoLimit:=dt.mod.nolimit.keeps λ b o e=>(dt.bs b o e).1
 have zf:∀ y∈ps.zip us,scope.names.lookup y.1=some .local\/(scope.names.lookup y.1=some .cell/\((cellsFrom (s.heap.objs.size+1) scope.names []).lookup y.1).isSome=true):=λ⟨n,v⟩ bP=>by
  rcases S.par n (List.of_mem_zip bP).1 with q | q
  ·exact .inl q
  ·exact .inr ⟨q,PySem.W.cellsFrom_some _ _ _ (.inl q)⟩
 refine codeAny_call_function ak.depth (KX _ _ lk) rfl S.co S.gen rfl (PySem.W.codeRec_of KX hV) (af _ _ _ _ ?_);refine wpAny_newFunctionEnv_cells S.kind zf λ env he s1 x=>?_;subst he;refine ⟨lim.keeps x.toInCall.keep,codeAny_func ?_⟩;obtain ⟨t,bu,aM⟩:=oX A outer s H vs Q E (ak.deeper _) lT;have I:Inv (e_ CX P w K mg base N qual scope f bW A outer s H E) [] (kK N vs) H s1:=Q_ S ak.hd dt ar r x;refine hR (bu [] s1 (kK N vs) H _ I aM) (λ fI aQ ax=>?_) λ e aQ ax=>ax
 have fin:∀{σ':St}{aj:av}{v:V}{u:Value},Inv (e_ CX P w K mg base N qual scope f bW A outer s H E) [] σ' aj aQ->RelV v u->Q v aj->Cc outer P w H s Q u aQ:=
  λ{σ' aj v u} J a5 q=>⟨v,aj,J.os,J.bare,J.base,J.bU,a5,q⟩
 cases fI with
 | ret u=>
  obtain ⟨v,σ',aj,J,a5,q⟩:=ax;exact fin J a5 q
 | next=>
  obtain ⟨σ',aj,J,q⟩:=ax;exact fin (v:=V.bc) (u:=Value.none) J rfl q
 | brk=>
  obtain ⟨_,_,_,q⟩:=ax;exact False.elim q
 | cont=>
  obtain ⟨_,_,_,q⟩:=ax;exact False.elim q
section
variable{X:aT}{x:Str}{p pos:Pos}{e:a9}{es:List a9}{t:fT}{id T:String}{r:List V->av->cC->Prop}
def zg(r:List V->av->cC->Prop)(t:fT):TE:=λ σ H Q=>t σ H λ vs H1=>r vs H1 Q
def Ra(am:hY X (.builtin id) r)(a_:ew X x)(hm:X.mg x=none)(bJ:k_ x=some (.builtin id))(ay:iI X (e::es) t)(aA:x≠"__name__":=by decide)(fJ:(x==("__debug__" : Str))=false:=by decide)
 (he:dU (e::es) X.env=(false,eval e X.env)::dU es X.env:=by rfl) (g7:(g0 pos (dU es X.env)).any (·.1)=false:=by rfl):b5 X (.Call (.Name x p) (e::es) [] pos) (zg r t):=by
 intro pins s σ H Q I h;refine q7 (qk I a_ hm bJ ?_ aA fJ);exact PyProof.Rows.callWith_builtin1 (b2 (ay pos pins s σ H _ I h) λ us s1 ⟨vs,H1,a4,aX,aH⟩=>am pins s1 σ H1 vs us Q a4 aX aH) he g7
def Rb(am:hY X (.type T) r)(a_:ew X x)(hm:X.mg x=none)(bJ:k_ x=some (.type T))(ay:iI X (e::es) t)(aA:x≠"__name__":=by decide)(fJ:(x==("__debug__" : Str))=false:=by decide)
 (he:dU (e::es) X.env=(false,eval e X.env)::dU es X.env:=by rfl) (g7:(g0 pos (dU es X.env)).any (·.1)=false:=by rfl):b5 X (.Call (.Name x p) (e::es) [] pos) (zg r t):=by
 intro pins s σ H Q I h;refine q7 (qk I a_ hm bJ ?_ aA fJ);exact tv (b2 (ay pos pins s σ H _ I h) λ us s1 ⟨vs,H1,a4,aX,aH⟩=>am pins s1 σ H1 vs us Q a4 aX aH) he g7
end
end L2
namespace dD
open PySem PyProof.Rows
section
variable{prog:cS}{w:b_}{A:cL}{E:Value->aF->Prop}{s:aF}
def Rc{t b:Addr}{vs ws:List Value}{Q:Value->aF->Prop}(bu:mz s.heap t vs.toArray)(af:mz s.heap b ws.toArray)(bJ:vs≠[])
 (ae:ws=[]->Q (.ref t) s) (ag:ws≠[]->Q (.ref s.heap.objs.size) { s with heap:=s.heap.push { cls:=.type "tuple", data:=.seq (vs++ws).toArray } })
 (hsz:vs.length+ws.length<=sizeLine):aZ (a8 prog w) A (hC .Add (.ref t) (.ref b)) Q E s:=by
 obtain ⟨⟨cls,dd,data,bq⟩,aR,am,n,hd⟩:=id bu;obtain ⟨⟨Cf,hn,data2,ho⟩,kL,iK,b8,hd2⟩:=id af;simp only at am hd iK hd2;subst am hd iK hd2
 have e:vs.toArray++ws.toArray=(vs++ws).toArray:=by simp
 by_cases hw:ws=[]
 ·exact BO ⟨_,aR,rfl⟩ ⟨_,kL,rfl⟩ BF BN PySem.F.slot_tuple_add PySem.F.entry_tuple_add (PySem.F.args_tuple_add_2 _ _)
   (tuple_addW1 t b vs.toArray ws.toArray n b8 dd hn bq ho (by simpa using bJ) (by simp [hw])) ⟨aR,kL,ae hw⟩
 ·refine BO ⟨_,aR,rfl⟩ ⟨_,kL,rfl⟩ BF BN PySem.F.slot_tuple_add PySem.F.entry_tuple_add (PySem.F.args_tuple_add_2 _ _)
   (tuple_addW2 t b vs.toArray ws.toArray n b8 dd hn bq ho (by simpa using bJ) (by simpa using hw) (by rw [cH,cH];exact hsz)) ⟨aR,kL,?_⟩
  rw [e];exact ag hw
def cj(n d:Nat):Option Int->Nat
 | none=>d
 | some v=>if v < 0 then (v+(n:Int)).toNat else min v.toNat n
def Rd(n d:Nat)(hd:d<=n)(o:Option Int):cj n d o<=n:=by
 cases o with
 | none=>exact hd
 | some v=>
  show (if v < 0 then (v+(n:Int)).toNat else min v.toNat n)<=n;by_cases bJ:v < 0
  ·rw [if_pos bJ];omega
  ·rw [if_neg bJ];exact Nat.min_le_right _ _
def IN(v:Int)(n d:Nat):(if v < 0 then max (v+(n:Int)) 0 else min v (n:Int))=((cj n d (some v):Nat):Int):=by
 show (if v < 0 then max (v+(n:Int)) 0 else min v (n:Int))=(((if v < 0 then (v+(n:Int)).toNat else min v.toNat n):Nat):Int)
 by_cases bJ:v < 0
 ·simp only [if_pos bJ];omega
 ·simp only [if_neg bJ];omega
def Re(lo au:Option Int)(n:Nat):Builtin.Slice.sliceAdjust lo au 1 (n:Int)=(((cj n 0 lo:Nat):Int),((cj n n au:Nat):Int)):=by
 have ae:¬ ((1:Int) < 0):=by omega
 unfold Builtin.Slice.sliceAdjust;simp only [ae,if_false];refine Prod.ext ?_ ?_
 ·cases lo with
  | none=>rfl
  | some v=>exact IN v n 0
 ·cases au with
  | none=>rfl
  | some v=>exact IN v n n
def Rf(i j:Nat):Builtin.Slice.slicePlaces (i:Int) (j:Int) 1=j - i:=by
 unfold Builtin.Slice.slicePlaces
 have ae:(1:Int) > 0:=by omega
 simp only [ae,if_true,Int.ediv_one];split<;>omega
def vS{v:Value}{o:Option Int}{Q:Option Int->aF->Prop}(p:mw v o)(h:Q o s):aZ (a8 prog w) A (Builtin.Slice.slicePartIndex v) Q E s:=by
 cases p with
 | none=>exact slicePart_none h
 | int i t=>exact slicePart_int h
def IP{bq:Addr}{fW gs:Value}{lo au:Option Int}{n:Nat}{Q:Int × Int × Nat->aF->Prop}(ax:s.heap.IsSliceOf bq fW gs .none)(pl:mw fW lo)(pu:mw gs au)
 (h:Q (((cj n 0 lo:Nat):Int),1,cj n n au - cj n 0 lo) s):aZ (a8 prog w) A (Builtin.Slice.sliceApplied (.ref bq) (pure (n:Int))) Q E s:=by
 obtain ⟨os,lU,tM,f6⟩:=id ax;unfold Builtin.Slice.sliceApplied Builtin.Slice.sliceFields;refine aK (aK (hQ lU f6 (x:=fW) rfl (aK (hQ lU f6 (x:=gs) rfl (aK (hQ lU f6 (x:=.none) rfl (bC ?_)))))));refine aK (slicePart_none ?_);show aZ _ _ (if ((1:Int)==0)=true then _ else _) _ _ s;rw [if_neg (by decide)];refine aK (vS pl (aK (vS pu (aK (bC ?_)))));show aZ _ _ (match Builtin.Slice.sliceAdjust lo au 1 (n:Int) with | (lo,au)=>pure (lo,(1:Int),Builtin.Slice.slicePlaces lo au 1)) _ _ s;rw [Re lo au n];show aZ _ _ (pure (((cj n 0 lo:Nat):Int),(1:Int),Builtin.Slice.slicePlaces ((cj n 0 lo:Nat):Int) ((cj n n au:Nat):Int) 1)) _ _ s;rw [Rf];exact bC h
def Rg(xs:Array Value)(i k:Nat):((hE k).filterMap λ(m:Nat)=>xs[((i:Int)+(m:Int) * 1).toNat]?).toArray=((xs.toList.drop i).take k).toArray:=by
 have e:(λ(m:Nat)=>xs[((i:Int)+(m:Int) * 1).toNat]?)=λ m=>xs[i+m]?:=by
  funext m
  have:((i:Int)+(m:Int) * 1).toNat=i+m:=by omega
  rw [this]
 rw [e];have:=pick_run xs i k;rw [List.filterMap_map] at this;have aP:((λ x=>xs[x]?) ∘ λ x=>i+x)=λ m=>xs[i+m]?:=rfl;rw [aP] at this;rw [this]
theorem Rh{t bq:Addr}{items:Array Value}{fW gs:Value}{lo au:Option Int}{Q:Value->aF->Prop}(bu:mz s.heap t items)(ax:s.heap.IsSliceOf bq fW gs .none)(pl:mw fW lo)(pu:mw gs au)
 (hw:¬ (cj items.size 0 lo=0/\cj items.size items.size au=items.size))
 (h:Q (.ref s.heap.objs.size) { s with heap:=s.heap.push { cls:=.type "tuple", data:=.seq ((items.toList.drop (cj items.size 0 lo)).take (cj items.size items.size au - cj items.size 0 lo)).toArray } })
 (hsz:items.size<=sizeLine):aZ (a8 prog w) A (oA (.ref t) (.ref bq)) Q E s:=by
 have oY:sizeOk (.seq ((items.toList.drop (cj items.size 0 lo)).take (cj items.size items.size au - cj items.size 0 lo)).toArray):=by
  show ((items.toList.drop (cj items.size 0 lo)).take (cj items.size items.size au - cj items.size 0 lo)).toArray.size<=sizeLine;rw [cH,lb,jQ,hF];omega
 have bw:cj items.size items.size au<=items.size:=Rd _ _ (b4 _) au;obtain ⟨os,lU,tM,f6⟩:=id ax
 have vT:s.TypeIs (.ref bq) "slice":=⟨os,lU,tM⟩
 unfold oA
 try with_reducible refine jm ?_
 first | refine aK (bC ?_) | skip
 refine aK (BD bu.typeIs (by decide) ?_)
 refine aK (wpAny_callSpecial?_slot (name:=Str.ofString "__getitem__") bu.typeIs tw
  (nE tw bu.typeIs BP ?_ (BQ _ _)))
 show aZ _ _ (Builtin.Tuple.tupleItemsOf (.ref t) >>= _) _ _ s;refine aK (BR bu ?_);refine aK (q9 vT ?_);rw [if_pos (by decide)];refine aK (IP ax pl pu ?_)
 have mP:¬ ((((cj items.size 0 lo:Nat):Int)==0&&(1:Int)==1&&(cj items.size items.size au - cj items.size 0 lo)==items.size)=true):=by
  intro q;rw [eI,eI] at q;have aH:((cj items.size 0 lo:Nat):Int)=0:=eq_of_beq q.1.1;have bl:cj items.size items.size au - cj items.size 0 lo=items.size:=eq_of_beq q.2;exact hw ⟨by omega,by omega⟩
 show aZ _ _ (if (((cj items.size 0 lo:Nat):Int)==0&&(1:Int)==1&&(cj items.size items.size au - cj items.size 0 lo)==items.size)=true then _ else _) _ _ s;rw [if_neg mP,Rg]
 first
  | exact aK (m:=Builtin.Tuple.tupleExact _) (kx (bC ⟨_,rfl,bC h⟩) oY)
  | exact aK (m:=Builtin.Tuple.tupleExact _) (kx (aK (bC (bC ⟨_,rfl,bC h⟩))) oY)
  | exact aK (aK (m:=Builtin.Tuple.tupleExact _) (kx (bC (bC ⟨_,rfl,bC h⟩)) oY))
  | exact aK (aK (m:=Builtin.Tuple.tupleExact _) (kx (bC ⟨_,rfl,bC h⟩) oY))
end
end dD
namespace L2
open PySem PySem.Spec PyProof.Rows
abbrev lh:=St->av->(Option Int->av->Prop)->Prop
def qp(X:aT)(e:Option a9)(t:lh):Prop:=
 ∀(pins:List (Addr × Obj))(s:aF)(σ:St)(H:av)(Q:Option Int->av->Prop),Inv X pins σ H s->t σ H Q →
  aZ (a8 X.prog X.w) X.A (evalPart e X.env) (λ u aQ=>∃ o aj,Inv X pins σ aj aQ/\mw u o/\Q o aj) X.xe s
def IQ:lh:=λ _ H Q=>Q none H
def IR(t:TE):lh:=λ σ H Q=>t σ H λ x H1=>∃ i,x=.int i/\Q (some i) H1
section
variable{X:aT}{e:a9}{aW:TE}{lo au:Option a9}{eN kM:lh}{pos dN:Pos}
def Ri:qp X none IQ:=by
 intro pins s σ H Q I h;rw [yl];exact bC ⟨none,H,I,.none,h⟩
def Rj(h:b5 X e aW):qp X (some e) (IR aW):=by
 intro pins s σ H Q I hw;rw [evalPart_some];refine b2 (h pins s σ H _ I hw) λ u s1 ⟨x,H1,a4,aX,aH⟩=>?_;obtain ⟨i,rfl,q⟩:=aH;obtain ⟨t,rfl⟩:=aX;exact ⟨some i,H1,a4,.int i t,q⟩
def mQ(X:aT)(r:V->Option Int->Option Int->av->cC->Prop):Prop:=
 ∀(pins:List (Addr × Obj))(s:aF)(σ:St)(H:av)(x:V)(v fW gs:Value)(lo au:Option Int)(bq:Addr)(Q:cC),Inv X pins σ H s->RelV x v->s.heap.IsSliceOf bq fW gs .none->mw fW lo->mw gs au->r x lo au H Q →
  ∃ T id,typeLookup (.type T) "__getitem__" = pure (some (.builtin id))/\s.TypeIs v T/\aZ (a8 X.prog X.w) X.A (oA v (.ref bq)) (gg X pins σ Q) X.xe s
theorem mQ.or{r bD:V->Option Int->Option Int->av->cC->Prop}(h:mQ X r)(h':mQ X bD):mQ X (λ x lo au H Q=>r x lo au H Q\/bD x lo au H Q):=by
 intro pins s σ H x v fW gs lo au bq Q I a7 ax pl pu q;rcases q with q | q
 ·exact h pins s σ H x v fW gs lo au bq Q I a7 ax pl pu q
 ·exact h' pins s σ H x v fW gs lo au bq Q I a7 ax pl pu q
def IS(r:V->Option Int->Option Int->av->cC->Prop)(aW:TE)(eN kM:lh):TE:=λ σ H Q=>aW σ H λ x H1=>eN σ H1 λ l a3=>kM σ a3 λ u dy=>r x l u dy Q
def Rk{r:V->Option Int->Option Int->av->cC->Prop}(ak:mQ X r)(he:b5 X e aW)(ar:qp X lo eN)(bK:qp X au kM):b5 X (.Subscript e (.Slice lo au none dN) pos) (IS r aW eN kM):=by
 intro pins s σ H Q I h;refine yq (b2 (he pins s σ H _ I h) λ v s1 ⟨x,H1,a4,aX,aH⟩=>?_);refine wpAny_Slice (b2 (ar pins s1 σ H1 _ a4 aH) λ fW s2 ⟨l,a3,c5,pl,bl⟩=>b2 (bK pins s2 σ a3 _ c5 bl) λ gs s3 ⟨u,dy,ei,pu,dZ⟩=>?_);rw [yl];refine bC ?_;have il:Inv X pins σ dy { s3 with heap:=s3.heap.push { cls:=.type "slice", data:=.fields #[fW,gs,.none] } }:=ei.kept (t':=s3.toks) λ b dv q=>dQ _ q;obtain ⟨T,id,eo,bu,a_⟩:=ak pins { s3 with heap:=s3.heap.push { cls:=.type "slice", data:=.fields #[fW,gs,.none] } } σ dy x v fW gs l u s3.heap.objs.size Q il aX (Heap.IsSliceOf.new ..) pl pu dZ;show aZ (a8 X.prog X.w) X.A (yp e (.Slice lo au none dN) v (.ref s3.heap.objs.size)) (gg X pins σ Q) X.xe { s3 with heap:=s3.heap.push { cls:=.type "slice", data:=.fields #[fW,gs,.none] } };exact tail_any (ops:=[.ref s3.heap.objs.size,v]) bu eo a_ (by with_unfolding_all rfl)
def lV(xs:List V)(lo au:Option Int):List V:=(xs.drop (dD.cj xs.length 0 lo)).take (dD.cj xs.length xs.length au - dD.cj xs.length 0 lo)
def IT(xs:List V)(lo au:Option Int):(lV xs lo au).length<=xs.length:=by
 unfold lV;rw [lb,jQ];omega
def Rl(K:aV):V->Option Int->Option Int->av->cC->Prop:=λ x lo au H Q=>∃ a xs,x=.ref a/\eb K H a xs ∧
 ¬ (dD.cj xs.length 0 lo=0/\dD.cj xs.length xs.length au=xs.length)/\∀ p,H p=none->Q (.ref p) (upd H p (.tup (lV xs lo au)))
def Rm:mQ X (Rl X.K):=by
 intro pins s σ H x v fW gs lo au bq Q I a7 ax pl pu h;obtain ⟨a,xs,rfl,ai,hw,q⟩:=h;cases a7;obtain ⟨aw,r,bu,hz⟩:=I.tuple ai
 have hlen:aw.toArray.size=xs.length:=by rw [cH];exact r.length.symm
 refine ⟨"tuple", _,tw.lookup,bu.typeIs,?_⟩;refine dD.Rh bu ax pl pu (by rw [hlen];exact hw) ?_ (by rw [hlen];exact hz);rw [hlen];refine ⟨.ref s.heap.objs.size,_,I.laid (t':=s.toks) (o:=.tup (lV xs lo au)) (λ b dv q=>dQ _ q) (b4 _) ?_,rfl,q _ (I.bU.fresh (b4 _))⟩;exact ⟨hT (IT xs lo au) hz,_,(r.drop (dD.cj xs.length 0 lo)).take (dD.cj xs.length xs.length au - dD.cj xs.length 0 lo),IsTup.new _ _⟩
def Rn(K:aV):eZ:=λ x y H Q=>∃ a b xs ys,x=.ref a/\y=.ref b/\eb K H a xs/\eb K H b ys/\xs≠[]/\xs.length+ys.length<=sizeLine ∧
 (ys=[]->Q (.ref a) H)/\(ys≠[]->∀ p,H p=none->Q (.ref p) (upd H p (.tup (xs++ys))))
theorem Vals.Cg{xs:List V}{us:List Value}(r:Vals xs us):us=[] ↔ xs=[]:=by
 cases r with
 | nil=>simp
 | cons _ _=>simp
def Ro:d8 X (hC .Add) (Rn X.K):=by
 intro pins s σ H x y v u Q I a7 cD h;obtain ⟨a,b,xs,ys,rfl,rfl,ay,af,ai,hz,aH,bl⟩:=h;cases a7;cases cD;obtain ⟨aw,aX,cE,_⟩:=I.tuple ay;obtain ⟨cF,bj,dN,_⟩:=I.tuple af;refine dD.Rc cE dN (λ z=>ai (aX.Cg.mp z)) (λ z=>⟨.ref a,H,I,rfl,aH (bj.Cg.mp z)⟩) (λ z=>?_) (by rw [<- aX.length,<- bj.length];exact hz);refine ⟨.ref s.heap.objs.size,_,I.laid (t':=s.toks) (o:=.tup (xs++ys)) (λ b dv q=>dQ _ q) (b4 _) ?_,rfl,bl (λ w=>z (bj.Cg.mpr w)) _ (I.bU.fresh (b4 _))⟩;exact ⟨by rw [cI];exact hz,_,aX.append bj,IsTup.new _ _⟩
end
def kN(n:Nat)(i:Int):Option Nat:=if 0<=i then (if i < n then some i.toNat else none) else if -(n:Int)<=i then some (i+n).toNat else none
def gj{α:Type}(xs:List α)(i:Int):Option α:=(kN xs.length i).bind λ j=>xs[j]?
def IU{n:Nat}{i:Int}{j:Nat}(h:kN n i=some j):seqIndex? i n=some j/\j < n/\-(n:Int)<=i/\i < n:=by
 unfold kN at h;by_cases h0:0<=i
 ·rw [if_pos h0] at h;by_cases ae:i < n
  ·rw [if_pos ae] at h;have e:i.toNat=j:=gG.inj h;exact ⟨by rw [seqIndex_of h0 ae,e],by omega,by omega,ae⟩
  ·rw [if_neg ae] at h;cases h
 ·rw [if_neg h0] at h;by_cases ae:-(n:Int)<=i
  ·rw [if_pos ae] at h;have e:(i+n).toNat=j:=gG.inj h;exact ⟨by rw [seqIndex_neg (by omega) ae,e],by omega,ae,by omega⟩
  ·rw [if_neg ae] at h;cases h
def Ch{α:Type}{xs:List α}{i:Int}{v:α}(h:gj xs i=some v):∃ j,seqIndex? i xs.length=some j/\xs[j]?=some v/\j < xs.length/\-(xs.length:Int)<=i/\i < xs.length:=by
 unfold gj at h
 cases e:kN xs.length i with
 | none=>rw [e] at h;cases h
 | some j=>
  rw [e] at h;obtain ⟨ae,ag,aO,bX⟩:=IU e;exact ⟨j,ae,h,ag,aO,bX⟩
def hp{α:Type}{xs:List α}{j:Nat}{v:α}(h:xs[j]?=some v):gj xs (j:Int)=some v:=by
 have bw:j < xs.length:=(jo.mp h).1
 have e:kN xs.length (j:Int)=some j:=by
  unfold kN;rw [if_pos (by omega),if_pos (by omega)];simp
 unfold gj;rw [e];exact h
def zh(b:a9):Prop:=∀ o i,subscripted b false o i=operate [o,i] (oA o i)
def n1(X:aT)(r:eZ):Prop:=
 ∀(value slice:a9)(pins:List (Addr × Obj))(s:aF)(σ:St)(H:av)(x y:V)(v u:Value)(Q:cC),Inv X pins σ H s->RelV x v->RelV y u->r x y H Q →
  subscripted slice false v u=operate [v,u] (oA v u)->aZ (a8 X.prog X.w) X.A (yp value slice v u) (gg X pins σ Q) X.xe s
def n2(X:aT)(id:String)(r:V->List V->av->cC->Prop):Prop:=
 ∀(pins:List (Addr × Obj))(s:aF)(σ:St)(H:av)(x:V)(xs:List V)(v:Value)(us:List Value)(Q:cC),Inv X pins σ H s->RelV x v->Vals xs us->r x xs H Q →
  aZ (a8 X.prog X.w) X.A (call (.builtin id) (v::us)) (gg X pins σ Q) X.xe s
section
variable{X:aT}{a b:a9}{bb bA:TE}{pos:Pos}
theorem n1.or{r bD:eZ}(h:n1 X r)(h':n1 X bD):n1 X (λ x y H Q=>r x y H Q\/bD x y H Q):=by
 intro value slice pins s σ H x y v u Q I a7 cD q ax;rcases q with q | q
 ·exact h value slice pins s σ H x y v u Q I a7 cD q ax
 ·exact h' value slice pins s σ H x y v u Q I a7 cD q ax
theorem n2.or{id:String}{r bD:V->List V->av->cC->Prop}(h:n2 X id r)(h':n2 X id bD):n2 X id (λ x xs H Q=>r x xs H Q\/bD x xs H Q):=by
 intro pins s σ H x xs v us Q I a7 rs q;rcases q with q | q
 ·exact h pins s σ H x xs v us Q I a7 rs q
 ·exact h' pins s σ H x xs v us Q I a7 rs q
def Rp{r:eZ}(ak:n1 X r)(ay:b5 X a bb)(af:b5 X b bA)(ax:zh b):b5 X (.Subscript a b pos) (qo r bb bA):=by
 intro pins s σ H Q I h;exact yq (B5 ay af I h λ v u s2 x y a3 c5 a7 cD q=>ak a b pins s2 σ a3 x y v u Q c5 a7 cD q (ax _ _))
def IV(K:aV):eZ:=λ x y H Q=>∃ p xs i v,x=.ref p/\y=.int i/\d7 K H p xs/\gj xs i=some v/\Q v H
def IW(K:aV):eZ:=λ x y H Q=>∃ p xs i v,x=.ref p/\y=.int i/\eb K H p xs/\gj xs i=some v/\Q v H
def IX:eZ:=λ x y H Q=>∃ z i c,x=.str z/\y=.int i/\z.length<=sizeLine/\gj z.cps.toList i=some c/\Q (.str ⟨#[c]⟩) H
def Rq:n1 X (IV X.K):=by
 intro value slice pins s σ H x y v u Q I a7 cD h ax;obtain ⟨p,xs,i,z,rfl,rfl,aM,he,q⟩:=h;cases a7;obtain ⟨t,rfl⟩:=cD;obtain ⟨aw,r,pl,hz⟩:=I.list aM;obtain ⟨j,ae,ag,aO,bX,d0⟩:=Ch he;obtain ⟨w,zi,Ci⟩:=r.get ag;have ar:=r.length;have aA:=oW
 have fin:gg X pins σ Q w s:=⟨z,H,I,Ci,q⟩
 by_cases h0:0<=i
 ·have bw:i.toNat=j:=by
   rw [seqIndex_of h0 d0] at ae;exact gG.inj ae
  exact item_listR pl.isList h0 (by omega) (by rw [bw];simpa using zi) fin ax
 ·have bw:(i+(aw.toArray.size:Int)).toNat=j:=by
   rw [seqIndex_neg (by omega) bX] at ae;rw [cH,<- ar];exact gG.inj ae
  exact HO (x:=w) pl.isList.typeIs slot_list_getitem.lookup
   (wpAny_getItem_list_neg (Q:=λ r aQ=>r=w/\gg X pins σ Q r aQ) pl.isList (by omega) (by rw [cH]<;>omega) (by omega) (by rw [bw];simpa using zi) ⟨rfl,fin⟩) ax
def Rr:n1 X (IW X.K):=by
 intro value slice pins s σ H x y v u Q I a7 cD h ax;obtain ⟨p,xs,i,z,rfl,rfl,aM,he,q⟩:=h;cases a7;obtain ⟨t,rfl⟩:=cD;obtain ⟨aw,r,pl,hz⟩:=I.tuple aM;obtain ⟨j,ae,ag,aO,bX,d0⟩:=Ch he;obtain ⟨w,zi,Ci⟩:=r.get ag;have ar:=r.length;have aA:=oW
 have fin:gg X pins σ Q w s:=⟨z,H,I,Ci,q⟩
 exact HO (x:=w) pl.typeIs slot_tuple_getitem.lookup
  (getItem_tuple (j:=j) (Q:=λ r aQ=>r=w/\gg X pins σ Q r aQ) pl (by omega) (by omega) (by rw [cH,<- ar];exact ae) (by simpa using zi) ⟨rfl,fin⟩) ax
def Rs:n1 X IX:=by
 intro value slice pins s σ H x y v u Q I a7 cD h ax;obtain ⟨z,i,c,rfl,rfl,hz,he,q⟩:=h;obtain ⟨t,rfl⟩:=a7;obtain ⟨t',rfl⟩:=cD;obtain ⟨j,ae,ag,aO,bX,d0⟩:=Ch he
 have ar:z.cps.toList.length=z.length:=by simp [Str.length]
 rw [ar] at ae bX d0;have aA:=oW
 exact tail_any (typeIs_str s z t) slot_str_getitem.lookup (getItem_str (c:=c) (by
  have aE:decide (i < -(2 ^ 63:Int))=false:=decide_eq_false (by omega);have aP:decide (i ≥ 2 ^ 63)=false:=decide_eq_false (by omega)
  rw [aE,aP,yL]) (by rw [ae];simpa using ag) ⟨.str ⟨#[c]⟩,H,I.tok _,⟨_,rfl⟩,q⟩) ax
def Rt(K:aV):eZ:=λ x y H Q=>IV K x y H Q\/IW K x y H Q\/IX x y H Q
def IY:n1 X (Rt X.K):=Rq.or (Rr.or Rs)
def Ru(aw:List Value)(n j:Nat)(u:Value):Obj.mapSeq (·.setIfInBounds j u) { cls:=.type "list", data:=.seq aw.toArray n }={ cls:=.type "list", data:=.seq (aw.set j u).toArray n }:=by
 simp [Obj.mapSeq]
theorem Inv.lst{pins:List (Addr × Obj)}{σ:St}{H:av}{s:aF}{p:Addr}{xs:List V}(I:Inv X pins σ H s)(h:H p=some (.lst xs)) :
 ∃(aw:List Value)(n:Nat),Vals xs aw/\s.heap.get? p=some { cls:=.type "list", data:=.seq aw.toArray n }/\xs.length<=sizeLine:=by
 obtain ⟨z,aw,n,r,e⟩:=I.bU p _ h;exact ⟨aw,n,r,e,z⟩
theorem Inv.Rv{pins:List (Addr × Obj)}{σ:St}{H:av}{s:aF}{p:Addr}{xs ys:List V}{aw its':List Value}{n rG:Nat}{f:Obj->Obj}(I:Inv X pins σ H s)(h:H p=some (.lst xs))
 (aR:s.heap.get? p=some { cls:=.type "list", data:=.seq aw.toArray n }) (hf:f { cls:=.type "list", data:=.seq aw.toArray n }={ cls:=.type "list", data:=.seq its'.toArray rG }) (r:Vals ys its') (hz:ys.length<=sizeLine) (t:Nat) :
 Inv X pins σ (upd H p (.lst ys)) { s with heap:=s.heap.update p f,toks:=t }:=by
 have e:(s.heap.update p f).get? p=some { cls:=.type "list", data:=.seq its'.toArray rG }:=by
  rw [qf f aR (by rw [hf]<;>rfl),hf]
 refine I.write (x:=p) (e:=p) (by rw [h];trivial) (.inl rfl) (λ b u af q=>(vy _ _ (Ne.symm af)).trans q) ⟨_,e⟩ ?_;exact ⟨hz,its',rG,r,e⟩
def Rw:V->V->V->av->(av->Prop)->Prop:=λ o i v H Q=>∃ p xs k j,o=.ref p/\i=.int k/\H p=some (.lst xs)/\kN xs.length k=some j/\Q (upd H p (.lst (xs.set j v)))
def Rx:B1 X Rw:=by
 intro pins s σ H o i v gh ij u Q I im lj a5 h;obtain ⟨p,xs,k,j,rfl,rfl,ah,bw,q⟩:=h;cases im;obtain ⟨t,rfl⟩:=lj;obtain ⟨aw,n,r,aR,hz⟩:=I.lst ah;obtain ⟨ae,ag,aO,bX⟩:=IU bw;have ar:=r.length;have aA:=oW
 have qj:Inv X pins σ (upd H p (.lst (xs.set j v))) { s with heap:=s.heap.update p (Obj.mapSeq (·.setIfInBounds j u)) }:=
  I.Rv ah aR (Ru aw n j u) (r.set a5 j) (by rw [th];exact hz) s.toks
 by_cases h0:0<=k
 ·have aD:k.toNat=j:=by
   rw [seqIndex_of h0 bX] at ae;exact gG.inj ae
  exact PySem.W.ki_setAt aR h0 (by omega) (by rw [cH,<- ar];exact bX) (by rw [aD];exact ⟨_,qj,q⟩)
 ·have aD:(k+(aw.toArray.size:Int)).toNat=j:=by
   rw [seqIndex_neg (by omega) aO] at ae;rw [cH,<- ar];exact gG.inj ae
  exact PySem.W.ki_setBack aR (by omega) (by rw [cH,<- ar];exact aO) (by omega) (by rw [aD];exact ⟨_,qj,q⟩)
def Ry(lo au:Option Int)(n:Nat):(p5 lo au none n).1=((dD.cj n 0 lo:Nat):Int)/\(p5 lo au none n).2.1=((dD.cj n n au:Nat):Int)/\(p5 lo au none n).2.2=1:=by
 refine ⟨?_,?_,rfl⟩
 ·cases lo with
  | none=>simp [p5,dD.cj]
  | some i=>
   simp only [p5,dD.cj,Option.getD_none,show (1:Int) > 0 by decide,if_true];by_cases h:i < 0
   ·simp only [h,if_true]<;>omega
   ·simp only [h,if_false]<;>omega
 ·cases au with
  | none=>simp [p5,dD.cj]
  | some i=>
   simp only [p5,dD.cj,Option.getD_none,show (1:Int) > 0 by decide,if_true];by_cases h:i < 0
   ·simp only [h,if_true]<;>omega
   ·simp only [h,if_false]<;>omega
def Rz(aw:List Value)(lo au:Option Int):yn aw.toArray lo au none=((aw.drop (dD.cj aw.length 0 lo)).take (dD.cj aw.length aw.length au - dD.cj aw.length 0 lo)).toArray:=by
 obtain ⟨ae,ag,aO⟩:=Ry lo au aw.toArray.size;unfold yn;rw [ae,ag,aO];simp only [sliceRange_one,pick_run,cH]<;>rfl
def RA(K:aV):V->Option Int->Option Int->av->cC->Prop:=λ x lo au H Q=>∃ a xs,x=.ref a/\d7 K H a xs/\∀ p,H p=none->Q (.ref p) (upd H p (.lst (lV xs lo au)))
def RB:mQ X (RA X.K):=by
 intro pins s σ H x v fW gs lo au bq Q I a7 ax pl pu h;obtain ⟨a,xs,rfl,ai,q⟩:=h;cases a7;obtain ⟨aw,r,bu,hz⟩:=I.list ai;have hlen:=r.length;refine ⟨"list", _,slot_list_getitem.lookup,bu.isList.typeIs,?_⟩;refine W1 bu.isList ax pl pu .none (by simp) ?_ (by rw [cH]<;>omega);rw [Rz,<- hlen];refine ⟨.ref s.heap.objs.size,_,I.laid (t':=s.toks) (o:=.lst (lV xs lo au)) (λ b dv q=>dQ _ q) (b4 _) ?_,rfl,q _ (I.bU.fresh (b4 _))⟩;exact ⟨hT (IT xs lo au) hz,_,0,(r.drop (dD.cj xs.length 0 lo)).take (dD.cj xs.length xs.length au - dD.cj xs.length 0 lo),hG _ rfl⟩
def n3:V->Bool
 | .bc=>true
 | .aJ _=>true
 | .int _=>true
 | .str _=>true
 | _=>false
def oZ:V->V->Bool
 | .bc,.bc=>true
 | .aJ a,.aJ b=>a==b
 | .aJ a,.int b=>(if a then 1 else 0)==b
 | .int a,.aJ b=>a==(if b then 1 else 0)
 | .int a,.int b=>a==b
 | .str a,.str b=>a==b
 | _,_=>false
def RC{A:cL}{s:aF}{y x:V}{u v:Value}(cD:RelV y u)(a7:RelV x v)(RD:n3 y=true)(g8:n3 x=true):SeqAt.EqAt A s u v (oZ y x):=by
 cases y with
 | bc=>
  cases cD
  cases x with
  | bc=>cases a7;exact SeqAt.EqAt.same _
  | aJ b=>cases a7;exact SeqAt.EqAt.none_bool b
  | int b=>obtain ⟨t,rfl⟩:=a7;exact SeqAt.EqAt.none_int b t
  | str b=>obtain ⟨t,rfl⟩:=a7;exact SeqAt.EqAt.none_str b t
  | _=>exact absurd (show false=true from g8) mE
 | aJ a=>
  cases cD
  cases x with
  | bc=>cases a7;exact SeqAt.EqAt.bool_none a
  | aJ b=>cases a7;exact SeqAt.EqAt.bool_bool a b
  | int b=>obtain ⟨t,rfl⟩:=a7;exact SeqAt.EqAt.bool_int a b t
  | str b=>obtain ⟨t,rfl⟩:=a7;exact SeqAt.EqAt.bool_str a b t
  | _=>exact absurd (show false=true from g8) mE
 | int a=>
  obtain ⟨t',rfl⟩:=cD
  cases x with
  | bc=>cases a7;exact SeqAt.EqAt.int_none a t'
  | aJ b=>cases a7;exact SeqAt.EqAt.int_bool a t' b
  | int b=>obtain ⟨t,rfl⟩:=a7;exact SeqAt.EqAt.int_int a t' b t
  | str b=>obtain ⟨t,rfl⟩:=a7;exact SeqAt.EqAt.int_str a t' b t
  | _=>exact absurd (show false=true from g8) mE
 | str a=>
  obtain ⟨t',rfl⟩:=cD
  cases x with
  | bc=>cases a7;exact SeqAt.EqAt.str_none a t'
  | aJ b=>cases a7;exact SeqAt.EqAt.str_bool a t' b
  | int b=>obtain ⟨t,rfl⟩:=a7;exact SeqAt.EqAt.str_int a t' b t
  | str b=>obtain ⟨t,rfl⟩:=a7;exact SeqAt.EqAt.str_str a t' b t
  | _=>exact absurd (show false=true from g8) mE
 | _=>exact absurd (show false=true from RD) mE
def j1(x:V)(u:Value):Bool:=match u with
 | .none=>oZ .bc x
 | .bool b=>oZ (.aJ b) x
 | .int i _=>oZ (.int i) x
 | .str z _=>oZ (.str z) x
 | _=>false
def IZ{x y:V}{u:Value}(r:RelV y u)(f:n3 y=true):j1 x u=oZ y x:=by
 cases y with
 | bc=>cases r;rfl
 | aJ b=>cases r;rfl
 | int i=>obtain ⟨t,rfl⟩:=r;rfl
 | str z=>obtain ⟨t,rfl⟩:=r;rfl
 | _=>exact absurd (show false=true from f) mE
theorem vU{x:V}:∀{xs:List V}{us:List Value},Vals xs us->xs.all n3=true->us.any (j1 x)=xs.any λ y=>oZ y x
 | _,_,.nil,_=>rfl
 | y::xs,u::us,.cons r t,f=>by
  rw [nJ,eI] at f;rw [rm,rm,IZ r f.1,vU t f.2]
theorem vV{A:cL}{s:aF}{x:V}{v:Value}(a7:RelV x v)(g8:n3 x=true):∀{xs:List V}{us:List Value},Vals xs us->xs.all n3=true->∀ u∈us,SeqAt.EqAt A s u v (j1 x u)
 | _,_,.nil,_=>λ u bK=>by cases bK
 | y::xs,u::us,.cons r t,f=>λ rE bK=>by
  rw [nJ,eI] at f;rcases cB.mp bK with rfl | bK
  ·rw [IZ r f.1];exact RC r a7 f.1 g8
  ·exact vV a7 g8 t f.2 rE bK
def zj(x:V)(xs:List V):Bool:=xs.any λ y=>oZ y x
def I0(K:aV)(neg:Bool):eZ:=λ x y H Q=>∃ p xs,y=.ref p/\(d7 K H p xs\/eb K H p xs)/\n3 x=true/\xs.all n3=true/\Q (.aJ (if neg then !zj x xs else zj x xs)) H
def RE:d8 X (er .In) (I0 X.K false):=by
 intro pins s σ H x y v u Q I a7 cD h;obtain ⟨p,xs,rfl,aM,g8,aC,q⟩:=h;cases cD;rcases aM with aM | aM
 ·obtain ⟨aw,r,pl,hz⟩:=I.list aM;refine SeqAt.in_listAt (j1 x) pl.isList (λ w hw=>vV a7 g8 r aC w (by simpa using hw)) ⟨.aJ _,H,I,rfl,?_⟩;rw [show aw.toArray.any (j1 x)=aw.any (j1 x) by simp,vU r aC];exact q
 ·obtain ⟨aw,r,pl,hz⟩:=I.tuple aM;refine SeqAt.in_tupleAt (j1 x) pl (λ w hw=>vV a7 g8 r aC w (by simpa using hw)) ⟨.aJ _,H,I,rfl,?_⟩;rw [show aw.toArray.any (j1 x)=aw.any (j1 x) by simp,vU r aC];exact q
def RF:d8 X (er .NotIn) (I0 X.K true):=by
 intro pins s σ H x y v u Q I a7 cD h;obtain ⟨p,xs,rfl,aM,g8,aC,q⟩:=h;cases cD;rcases aM with aM | aM
 ·obtain ⟨aw,r,pl,hz⟩:=I.list aM;refine SeqAt.notIn_listAt (j1 x) pl.isList (λ w hw=>vV a7 g8 r aC w (by simpa using hw)) ⟨.aJ _,H,I,rfl,?_⟩;rw [show aw.toArray.any (j1 x)=aw.any (j1 x) by simp,vU r aC];exact q
 ·obtain ⟨aw,r,pl,hz⟩:=I.tuple aM;refine SeqAt.notIn_tupleAt (j1 x) pl (λ w hw=>vV a7 g8 r aC w (by simpa using hw)) ⟨.aJ _,H,I,rfl,?_⟩;rw [show aw.toArray.any (j1 x)=aw.any (j1 x) by simp,vU r aC];exact q
def RG:d8 X (er .NotIn) (λ x y H Q=>∃ i j,x=.str i/\y=.str j/\Q (.aJ (!(!(Builtin.Str.occurrences j i 0 j.length 1).isEmpty))) H):=by
 intro pins s σ H x y v u Q I a7 cD h;obtain ⟨i,j,rfl,rfl,q⟩:=h;obtain ⟨t,rfl⟩:=a7;obtain ⟨t',rfl⟩:=cD;exact notIn_str ⟨.aJ _,H,I,rfl,q⟩
def RH:hY X (.builtin "len") (λ xs H Q=>∃ p ys,xs=[.ref p]/\(d7 X.K H p ys\/eb X.K H p ys)/\Q (.int ys.length) H):=by
 intro pins s σ H xs us Q I r h;obtain ⟨p,ys,rfl,aM,q⟩:=h;obtain ⟨u,rfl,a7⟩:=n0 r;cases a7;have aA:=oW;rcases aM with aM | aM
 ·obtain ⟨aw,bD,pl,hz⟩:=I.list aM;have hlen:=bD.length;exact Calls.call_len_list pl.isList (by simp only [cH]<;>omega) ⟨.int ys.length,H,I.tok _,⟨s.toks+1,by rw [cH,hlen]⟩,q⟩
 ·obtain ⟨aw,bD,pl,hz⟩:=I.tuple aM;have hlen:=bD.length;exact len_tuple pl (by simp only [cH]<;>omega) ⟨.int ys.length,H,I.tok _,⟨s.toks+1,by rw [cH,hlen]⟩,q⟩
def RI:hY X (.builtin "len") (λ xs H Q=>∃ z,xs=[.str z]/\z.length<=sizeLine/\Q (.int z.length) H):=by
 intro pins s σ H xs us Q I r h;obtain ⟨z,rfl,hz,q⟩:=h;obtain ⟨u,rfl,t,rfl⟩:=n0 r;have aA:=oW;exact len_str (by omega) ⟨.int z.length,H,I.tok _,⟨_,rfl⟩,q⟩
theorem hY.or{f:Value}{r bD:List V->av->cC->Prop}(h:hY X f r)(h':hY X f bD):hY X f (λ xs H Q=>r xs H Q\/bD xs H Q):=by
 intro pins s σ H xs us Q I rs q;rcases q with q | q
 ·exact h pins s σ H xs us Q I rs q
 ·exact h' pins s σ H xs us Q I rs q
def RJ:hY X (.type "list") (λ xs H Q=>∃ p ys,xs=[.ref p]/\(d7 X.K H p ys\/eb X.K H p ys)/\∀ l,H l=none->Q (.ref l) (upd H l (.lst ys))):=by
 intro pins s σ H xs us Q I r h;obtain ⟨p,ys,rfl,aM,q⟩:=h;obtain ⟨u,rfl,a7⟩:=n0 r;cases a7
 have fin:∀(aw:List Value),Vals ys aw->ys.length<=sizeLine->∀(h':bO)(dm:Nat),(∀ b dI,s.heap.get? b=some dI->h'.get? b=some dI) →
  h'.get? s.heap.objs.size=some { cls:=.type "list", dict:=none,data:=.seq aw.toArray dm,slots:=#[] }->gg X pins σ Q (.ref s.heap.objs.size) { s with heap:=h' }:=λ aw bD hz h' dm c2 e=>
  ⟨.ref s.heap.objs.size,_,I.laid (t':=s.toks) c2 (b4 _) (show f5 X.prog X.w _ h' _ (.lst ys) from ⟨hz,aw,dm,bD,e⟩),rfl,q _ (I.bU.fresh (b4 _))⟩
 rcases aM with aM | aM
 ·obtain ⟨aw,bD,pl,hz⟩:=I.list aM;have hlen:=bD.length;obtain ⟨o,aR,am,n,hd⟩:=pl.isList;exact call_list_seq p (.inl rfl) aR am hd (λ h' dm c2 e=>fin aw bD hz h' dm c2 e) (by simp only [cH]<;>omega)
 ·obtain ⟨aw,bD,pl,hz⟩:=I.tuple aM;have hlen:=bD.length;obtain ⟨o,aR,am,n,hd⟩:=pl;exact call_list_seq p (.inr rfl) aR am hd (λ h' dm c2 e=>fin aw bD hz h' dm c2 e) (by simp only [cH]<;>omega)
def RK:hY X (.type "tuple") (λ xs H Q=>∃ p ys,xs=[.ref p]/\((d7 X.K H p ys/\∀ l,H l=none->Q (.ref l) (upd H l (.tup ys)))\/(eb X.K H p ys/\Q (.ref p) H))):=by
 intro pins s σ H xs us Q I r h;obtain ⟨p,ys,rfl,h⟩:=h;obtain ⟨u,rfl,a7⟩:=n0 r;cases a7;rcases h with ⟨aM,q⟩ | ⟨aM,q⟩
 ·obtain ⟨aw,bD,pl,hz⟩:=I.list aM;have hlen:=bD.length;refine call_tuple_list pl.isList (λ h' c2=>?_) (by simp only [cH]<;>omega);have a4:Inv X pins σ H { s with heap:=h' }:=I.kept (t':=s.toks) c2
  have c5:Inv X pins σ (upd H h'.objs.size (.tup ys)) { s with heap:=h'.push { cls:=.type "tuple", data:=.seq aw.toArray } }:=
   a4.laid (t':=s.toks) (λ b o e=>dQ _ e) (b4 _) (show f5 X.prog X.w _ _ _ (.tup ys) from ⟨hz,aw,bD,IsTup.new _ _⟩)
  exact ⟨.ref h'.objs.size,_,c5,rfl,q _ (a4.bU.fresh (b4 _))⟩
 ·obtain ⟨aw,bD,pl,hz⟩:=I.tuple aM;exact call_tuple_same pl ⟨.ref p,H,I,rfl,q⟩
def tN(K:aV)(T:String)(x:V)(H:av):Prop:=match x with
 | .str _=>T = "str"
 | .int _=>T = "int"
 | .ref p=>(T = "list"/\∃ xs,d7 K H p xs)\/(T = "tuple"/\∃ o,K.lookup p=some o/\o.cls=.type "tuple"/\o.dict=none) ∨
  (T = "dict"/\((∃ dH,H p=some (.i6 dH))\/∃ dH,H p=some (.iH dH)))\/(T = "set"/\∃ S n,H p=some (.set S n))
 | _=>False
theorem I1{pins:List (Addr × Obj)}{σ:St}{H:av}{s:aF}{T:String}{x:V}{v:Value}(I:Inv X pins σ H s)(r:RelV x v)(ty:tN X.K T x H) :
 s.TypeIs v T/\∀ a,v=.ref a->∃ dv,s.heap.get? a=some dv/\dv.dict=none:=by
 cases x with
 | str z=>
  obtain ⟨t,rfl⟩:=r;cases (show T = "str" from ty);exact ⟨typeIs_str s z t,λ _ e=>nomatch e⟩
 | int i=>
  obtain ⟨t,rfl⟩:=r;cases (show T = "int" from ty);exact ⟨typeIs_int s i t,λ _ e=>nomatch e⟩
 | ref p=>
  cases r;rcases ty with ⟨rfl,xs,aM⟩ | ⟨rfl,o,aD,am,hd⟩ | ⟨rfl,aD⟩ | ⟨rfl,S,n,aD⟩
  ·obtain ⟨aw,_,pl,_⟩:=I.list aM;refine ⟨pl.isList.typeIs,λ a e=>?_⟩;cases e;obtain ⟨o,n,e,c,hd,_⟩:=pl;exact ⟨o,e,hd⟩
  ·refine ⟨⟨o,I.et p o aD,am⟩,λ a e=>?_⟩;cases e;exact ⟨o,I.et _ o aD,hd⟩
  ·have z:∃ o,s.heap.get? p=some o/\o.ExactDict:=by
    rcases aD with ⟨dH,aD⟩ | ⟨dH,aD⟩
    ·obtain ⟨_,_,_,_,o,_,_,e,ex,_⟩:=I.bU p _ aD;exact ⟨o,e,ex⟩
    ·obtain ⟨_,_,_,_,o,_,_,e,ex,_⟩:=I.bU p _ aD;exact ⟨o,e,ex⟩
   obtain ⟨o,e,ex⟩:=z;refine ⟨⟨o,e,ex.1⟩,λ a aP=>?_⟩;cases aP;exact ⟨o,e,ex.2.1⟩
  ·obtain ⟨o,_,_,_,e,ex,_⟩:=I.bU p _ aD;refine ⟨⟨o,e,ex.1⟩,λ a aP=>?_⟩;cases aP;exact ⟨o,e,ex.2.1⟩
 | _=>exact False.elim ty
def I2(K:aV)(T:String)(r:V->List V->av->cC->Prop)(to:TE):TE:=λ σ H Q=>to σ H λ x H1=>tN K T x H1/\r x [] H1 Q
def I3(K:aV)(T:String)(r:V->List V->av->cC->Prop)(to:TE)(t:fT):TE:=λ σ H Q=>to σ H λ x H1=>tN K T x H1/\t σ H1 λ xs a3=>r x xs a3 Q
variable{o e:a9}{es:List a9}{to:TE}{t:fT}{name:Str}{apos cM:Pos}{T id:String}{r:V->List V->av->cC->Prop}
def RL(ju:ra T)(slot:Slot T name id)(gI:oB (.builtin id)=pure (.type "method_descriptor"))(hm:n2 X id r)(aR:b5 X o to)
 (ll:mv o name X.env (eval o X.env)=eval o X.env:=by rfl) (lm:(apos.endLine==cM.line)=true:=by rfl):b5 X (.Call (.Attribute o name apos) [] [] cM) (I2 X.K T r to):=by
 intro pins s σ H Q I h;refine wpAny_Call_method0_late ll lm (b2 (aR pins s σ H _ I h) λ v s1 ⟨x,H1,a4,aX,ty,aH⟩=>?_);obtain ⟨ae,ag⟩:=I1 a4 aX ty;exact ⟨T,id,ju,slot,gI,ae,ag,Calls.callWith_builtin rfl (PySem.evalArgs_none (hm pins s1 σ H1 x [] v [] Q a4 aX .nil aH))⟩
def RM(ju:ra T)(slot:Slot T name id)(gI:oB (.builtin id)=pure (.type "method_descriptor"))(hm:n2 X id r)(aR:b5 X o to)(ay:iI X (e::es) t)
 (ll:mv o name X.env (eval o X.env)=eval o X.env:=by rfl)
 (RN:((g0 cM (dU (e::es) X.env)).all (λ x=>!x.1)&&(vh cM (vf [] X.env)).all (λ x=>x.1.isSome)
  &&decide ((e::es).length+([]:List tc).length+(if ([]:List tc).isEmpty then 0 else 1) < 30))=true:=by rfl)
 (lm:(apos.endLine==cM.line)=true:=by rfl) (ax:dU (e::es) X.env=(false,eval e X.env)::dU es X.env:=by rfl) (RO:(g0 cM (dU es X.env)).any (·.1)=false:=by rfl) :
 b5 X (.Call (.Attribute o name apos) (e::es) [] cM) (I3 X.K T r to t):=by
 intro pins s σ H Q I h;refine wpAny_Call_method_late ll RN lm rfl (b2 (aR pins s σ H _ I h) λ v s1 ⟨x,H1,a4,aX,ty,aH⟩=>?_);obtain ⟨ae,ag⟩:=I1 a4 aX ty;refine ⟨T,id,ju,slot,gI,ae,ag,?_⟩;have o1:=ay cM pins s1 σ H1 _ a4 aH;rw [ax] at o1 ⊢;refine Calls.callWith_builtin (by show (false||(g0 cM (dU es X.env)).any (·.1))=false;rw [RO]<;>rfl) (Calls.evalArgs_plain ?_);exact b2 o1 λ us s2 ⟨vs,a3,c5,bj,bl⟩=>hm pins s2 σ a3 x vs v us Q c5 aX bj bl
end
def zk(X:aT)(id:String)(r:V->List V->av->cC->Prop):Prop:=
 ∀(pins:List (Addr × Obj))(s:aF)(σ:St)(H:av)(x:V)(xs:List V)(v:Value)(us:List Value)(Q:cC),Inv X pins σ H s->RelV x v->Vals xs us->r x xs H Q →
  aZ (a8 X.prog X.w) X.A (call (.builtin id) (v::us)) (gg X pins σ Q) X.xe s
theorem Vals.one:∀{x:V}{us:List Value},Vals [x] us->∃ u,us=[u]/\RelV x u
 | _,_,.cons r .nil=>⟨_,rfl,r⟩
theorem Vals.two:∀{x y:V}{us:List Value},Vals [x,y] us->∃ u v,us=[u,v]/\RelV x u/\RelV y v
 | _,_,_,.cons r (.cons q .nil)=>⟨_,_,rfl,r,q⟩
theorem Vals.zero:∀{us:List Value},Vals [] us->us=[]
 | _,.nil=>rfl
theorem Vals.dropLast{xs:List V}{us:List Value}(h:Vals xs us):Vals xs.dropLast us.dropLast:=by
 induction h with
 | nil=>exact .nil
 | cons r t bN=>
  cases t with
  | nil=>exact .nil
  | cons q t'=>exact .cons r bN
def RP{α:Type}(l:List α):l.eraseIdx (l.length - 1)=l.dropLast:=by
 induction l with
 | nil=>rfl
 | cons a r bN=>
  cases r with
  | nil=>rfl
  | cons b r=>
   have e:(a::b::r).length - 1=((b::r).length - 1)+1:=by
    have ae:(a::b::r).length=r.length+2:=rfl;have ag:(b::r).length=r.length+1:=rfl;omega
   rw [e,List.eraseIdx_cons_succ,bN]
   all_goals rfl
section
variable{X:aT}{pins:List (Addr × Obj)}{σ:St}{H:av}{s:aF}{l b:Addr}{xs ys zs:List V}
theorem Inv.zl{aw its':List Value}{n:Nat}{f:Array Value->Array Value}{t':Nat}(I:Inv X pins σ H s)(g9:H l=some (.lst xs))
 (e:s.heap.get? l=some { cls:=.type "list", data:=.seq aw.toArray n }) (hf:f aw.toArray=its'.toArray) (bJ:Vals ys its') (hz:ys.length<=sizeLine) :
 Inv X pins σ (upd H l (.lst ys)) { s with heap:=s.heap.update l (Obj.mapSeq f),toks:=t' }:=by
 have q:=PySem.IsL.update e f;rw [hf] at q;refine I.write (x:=l) (e:=l) (by rw [g9];exact trivial) (.inl rfl) (λ fD u af bK=>(vy s.heap (Obj.mapSeq f) (Ne.symm af)).trans bK) ⟨_,q⟩ ?_;exact ⟨hz,its',_,bJ,q⟩
theorem Inv.RQ{aw:List Value}{t':Nat}(I:Inv X pins σ H s)(bJ:Vals ys aw)(hz:ys.length<=sizeLine) :
 Inv X pins σ (upd H s.heap.objs.size (.lst ys)) { s with heap:=s.heap.push { cls:=.type "list", data:=.seq aw.toArray },toks:=t' }:=
 I.laid (λ _ _ q=>dQ _ q) (b4 _) ⟨hz,aw,0,bJ,hG _ rfl⟩
theorem Inv.fresh(I:Inv X pins σ H s):H s.heap.objs.size=none:=I.bU.fresh (b4 _)
theorem Inv.rL(I:Inv X pins σ H s)(g9:H l=some (.lst xs)):xs.length<=sizeLine/\∃(aw:List Value)(n:Nat),Vals xs aw/\xs.length=aw.length/\s.heap.get? l=some { cls:=.type "list", data:=.seq aw.toArray n }:=by
 obtain ⟨z,aw,n,r,e⟩:=I.bU l _ g9;exact ⟨z,aw,n,r,r.length,e⟩
def I4{n:Nat}(h:n<=sizeLine):Builtin.List.listTooLong n=false:=by
 unfold Builtin.List.listTooLong;exact decide_eq_false (by omega)
end
section
variable{X:aT}
def RR:V->List V->av->cC->Prop:=λ x vs H Q=>∃ l xs y,x=.ref l/\vs=[y]/\H l=some (.lst xs)/\xs.length < sizeLine/\Q .bc (upd H l (.lst (xs++[y])))
def Cj:zk X "list.append" RR:=by
 intro pins s σ H x vs v us Q I a7 a5 h;obtain ⟨l,xs,y,rfl,rfl,g9,hz,q⟩:=h;cases a7;obtain ⟨u,rfl,c1⟩:=a5.one;obtain ⟨z,aw,n,r,ar,e⟩:=I.rL g9;refine rb F.slot_list_append ⟨_,e,rfl⟩ F.entry_list_append (F.args_list_append_2 _ _) (PySem.list_append l aw.toArray n u (by rw [cH];omega)) ⟨e,?_⟩;refine ⟨.bc,_,I.zl (its':=aw++[u]) g9 e (by simp) (r.append (.cons c1 .nil)) ?_,rfl,q⟩;rw [cI,yA];omega
def RS:V->List V->av->cC->Prop:=λ x vs H Q=>∃ l b xs zs,x=.ref l/\vs=[.ref b]/\H l=some (.lst xs)/\H b=some (.lst zs)/\xs.length+zs.length<=sizeLine/\Q .bc (upd H l (.lst (xs++zs)))
def RT:zk X "list.extend" RS:=by
 intro pins s σ H x vs v us Q I a7 a5 h;obtain ⟨l,b,xs,zs,rfl,rfl,g9,qq,hz,q⟩:=h;cases a7;obtain ⟨u,rfl,c1⟩:=a5.one;cases c1;obtain ⟨z,aw,n,r,ar,e⟩:=I.rL g9;obtain ⟨cc,cF,b8,bj,fK,aP⟩:=I.rL qq
 have hsz:aw.toArray.size+cF.toArray.size<=sizeLine:=by rw [cH,cH];omega
 have Ck:¬ (!aw.toArray.isEmpty&&Builtin.List.listTooLong (aw.toArray.size+cF.toArray.size))=true:=by
  rw [I4 hsz,tr];exact mE
 refine rb F.slot_list_extend ⟨_,e,rfl⟩ F.entry_list_extend (F.args_list_extend_2 _ _)
  (AutoSeq1.list_extend_list_list_0 l aw.toArray n b cF.toArray b8 Ck (by rw [cH];omega) (by omega)) ⟨e,aP,?_⟩
 refine ⟨.bc,_,I.zl (its':=aw++cF) g9 e (by simp) (r.append bj) ?_,rfl,q⟩;rw [cI];omega
def RU:V->List V->av->cC->Prop:=λ x vs H Q=>∃ l xs y,x=.ref l/\vs=[]/\H l=some (.lst xs)/\xs[xs.length - 1]?=some y/\Q y (upd H l (.lst xs.dropLast))
def RV:zk X "list.pop" RU:=by
 intro pins s σ H x vs v us Q I a7 a5 h;obtain ⟨l,xs,y,rfl,rfl,g9,bP,q⟩:=h;cases a7;have RW:=a5.zero;subst RW;obtain ⟨z,aw,n,r,ar,e⟩:=I.rL g9;obtain ⟨u,bK,c1⟩:=r.get bP
 have RX:aw.toArray[aw.toArray.size - 1]?=some u:=by
  show aw.toArray[aw.length - 1]?=some u;rw [<- Array.getElem?_toList,<- ar];exact bK
 refine rb F.slot_list_pop ⟨_,e,rfl⟩ F.entry_list_pop (F.args_list_pop_1 _) (MeetsSeq.list_pop_last l aw.toArray n u RX (by rw [cH];omega)) ⟨e,?_⟩;refine ⟨y,_,I.zl (its':=aw.dropLast) g9 e ?_ r.dropLast ?_,c1,q⟩
 ·show aw.toArray.eraseIdxIfInBounds (aw.toArray.size - 1)=aw.dropLast.toArray;rw [cH,List.eraseIdxIfInBounds_toArray,RP]
 ·rw [List.length_dropLast];omega
def RY:eZ:=λ x y H Q=>∃ l b xs zs,x=.ref l/\y=.ref b/\H l=some (.lst xs)/\H b=some (.lst zs)/\xs.length+zs.length<=sizeLine/\∀ p,H p=none->Q (.ref p) (upd H p (.lst (xs++zs)))
def RZ:d8 X (hC .Add) RY:=by
 intro pins s σ H x y v u Q I a7 cD h;obtain ⟨l,b,xs,zs,rfl,rfl,g9,qq,hz,q⟩:=h;cases a7;cases cD;obtain ⟨z,aw,n,r,ar,e⟩:=I.rL g9;obtain ⟨cc,cF,b8,bj,fK,aP⟩:=I.rL qq;refine PySem.P.add_list e aP ?_ (by rw [cH,cH];omega)
 have fU:aw.toArray++cF.toArray=(aw++cF).toArray:=by simp
 rw [fU];exact ⟨.ref _,_,I.RQ (t':=s.toks) (r.append bj) (by rw [cI];omega),rfl,q _ I.fresh⟩
end
end L2
namespace I5
open PySem PySem.W PySem.Calls PyProof.Rows
def R0{P:Params}{h:bO}:∀(ns:List Int)(vs:List Value),WellAll P h vs (ns.map WData.int)->vl vs ns:=by
 intro ns
 induction ns with
 | nil=>
  intro vs w;rw [nK] at w;cases w;exact .nil
 | cons n ns bN=>
  intro vs w;rw [fh] at w
  cases w with
  | cons a b=>
   cases a;exact .cons _ _ (bN _ b)
theorem R1{l:OpenLaw}{n:Nat}(aA:l.most=some n){P:Params}{h:bO}{args:List WData}{vals:List Value}
 (zm:l.row.toRowW.claim.pre args=true) (vW:WellAll P h vals args) :
 ∃ a vs ns,vals=[Value.ref a]/\args=[WData.list (ns.map WData.int)]/\h.get? a=some { cls:=.type "list", data:=.seq vs.toArray }/\vl vs ns/\ns.length<=n:=by
 have R2:WShape.hasAll [] args [.list .int]=true:=(pre_splitW zm).1;have am:l.pre.holds [] { args:=args }=true:=(pre_splitW zm).2;obtain ⟨d,r,rfl,ae,ag⟩:=hasAllW_cons R2;obtain rfl:=hasAllW_nil ag;obtain ⟨xs,rfl,aO⟩:=hasW_list ae;obtain ⟨ns,rfl⟩:=items_int aO
 have hlen:ns.length<=n:=by
  unfold OpenLaw.pre at am
  have bX:(WTm.not (.lt (.lit (.int (n:Int))) (.len (.arg 0)))).holds [] { args:=[.list (ns.map .int)] }=true:=by
   have bX:=(holds_andW am).1;rw [aA] at bX;exact bX
  have d0:=condW_of bX (w_not (w_lt w_lit (w_len_list (w_arg rfl))));rw [cP] at d0;refine Nat.le_of_not_lt λ q=>?_
  have hj:(n:Int) < ((ns.length:Nat):Int):=by omega
  first
   | (rw [decide_eq_true hj] at d0;exact absurd d0 (by decide))
   | (simp at d0;omega)
 cases vW with
 | cons gi eu=>
  cases eu
  cases gi with
  | list aR n4=>exact ⟨_,_,ns,rfl,rfl,aR,R0 ns _ n4,hlen⟩
def R3(l:OpenLaw)(args:List WData):l.row.toRowW.claim.post args (.bool true) args=true:=
 postW_of (r:=l.row.toRowW) (X:=(true==true))
  (show WShape.has [] (.bool true) .bool=true by first | rfl | decide | simp [WShape.has,WShape.arms,WShape.armsAll])
  (show (WTm.eq .res (.lit (.bool true))).value [] { args:=args,res:=some (.bool true),after:=args }=some (.bool (true==true)) from w_eq_bool (w_res rfl) w_lit) rfl
def R4{l:OpenLaw}{n:Nat}{q:cS}{loose:List Str}{rM:(Str->Option Value)->bO->Prop}{qr:b_->bO->Prop}{d:DefRec}
 (aA:l.most=some n) (vX:d.params.defaults=[])
 (call:∀(w:b_)(s₀ dJ:aF)(mg jV:Str->Option Value)(fa:Addr)(o:Obj)(pm cd doc:Value)(a:Addr)(vs:List Value)(ns:List Int),
  Ground q loose [] rM w s₀ mg jV dJ.heap->qr w dJ.heap →
  dJ.heap.get? fa=some o->o.data=.func (docDef d.name d.params d.body d.scope pm cd doc)->dJ.heap.CodeRec cd d.name->mg d.name=some (.ref fa) →
  dJ.heap.get? a=some { cls:=.type "list", data:=.seq vs.toArray }->vl vs ns->ns.length<=n->dJ.gens=#[] →
  p9 (a8 l.prog w) rh (.call (.ref fa) ⟨[.ref a],[]⟩) (λ r aQ=>r=.ok (.ret (.bool true))/\OldK dJ.heap aQ.heap/\aQ.os=dJ.os/\my aQ.gens) dJ) :
 WalkO q loose rM qr l.row.toRowW d [] (λ f vs=>PySem.call f vs):=by
 intro w s₀ dJ mg jV G Y fa o pm cd doc ze gR aR hd hV i9 hmg a_ args vals as zm afs aft vW mR;obtain rfl:ze=.none:=Dflts.none i9 vX;obtain rfl:gR=.none:=Dflts.noKw i9;obtain ⟨a,vs,ns,rfl,rfl,Cm,hints,hlen⟩:=R1 aA zm vW;refine enter_call (s_ (call w s₀ dJ mg jV fa o pm cd doc a vs ns G Y aR (fd_plain hd) hV hmg Cm hints hlen a_) λ r aQ aM=>?_);obtain ⟨rfl,ag,aO,bX⟩:=aM;exact ⟨.inl ⟨.bool true,.bool true,[],rfl,λ _=>rfl,.bool true,R3 l _,λ _=>⟨List.Pairwise.nil,λ _ hm=>(nomatch hm)⟩⟩,ag,aO,bX⟩
end I5
namespace L2
open PySem PySem.Spec PyProof.Rows
theorem I6:∀{vs:List Value}{ns:List Int},vl vs ns->Vals (ns.map V.int) vs
 | _,_,.nil=>.nil
 | _,_,.cons n t h=>.cons ⟨t,rfl⟩ (I6 h)
def zn(H:av):Prop:=∀ b,H b=none\/∃ o xs,H b=some (.ih o (.lst xs))
theorem R5{P:cS}{w:b_}{K:aV}{mg jV:Str->Option Value}{CX:mO}{k:Nat}{fa a:Addr}{fd:gZ}{x:Str}{sp:i8}{dJ:aF}{vs:List Value}{ns:List Int}
 (KX:K.In dJ.heap) (I7:dJ.heap.Ns ea mg) (af:dJ.heap.Ns builtinsNs jV) (zo:∀ x:Str,x≠"__name__"->jV x=k_ x) (R6:dJ.heap.NoLimit) (a_:dJ.gens=#[])
 (ay:dJ.heap.get? a=some { cls:=.type "list", data:=.seq vs.toArray }) (au:vl vs ns) (ar:ns.length<=sizeLine) (ak:fV k rh)
 (F:∀ base:bO,K.In base->base.Ns ea mg->dp P w K mg base CX k fa fd [x] sp) (R7:∀(s:aF)(u:Value),tb s fd ⟨[u],[]⟩ [(x,u)])
 (lT:∀ H:av,zn H->d7 K H a (ns.map V.int)->sp [.ref a] H (λ v _=>v=.aJ true) λ _ _ _=>False)
 (Cn:∀ H e aQ,CX [] H dJ (λ _ _ _=>False) e aQ->False) :
 p9 (a8 P w) rh (.call (.ref fa) ⟨[.ref a],[]⟩) (λ r aQ=>r=.ok (.ret (.bool true))/\OldK dJ.heap aQ.heap/\aQ.os=dJ.os/\my aQ.gens) dJ:=by
 have a5:=I6 au;have R8:=au.length
 have core:∀ H:av,zn H->d7 K H a (ns.map V.int)->fC P w H dJ.heap->(∀ b,H b≠none->b=a)->(H a≠none->K.lookup a=none) →
  p9 (a8 P w) rh (.call (.ref fa) ⟨[.ref a],[]⟩) (λ r aQ=>r=.ok (.ret (.bool true))/\OldK dJ.heap aQ.heap/\aQ.os=dJ.os/\my aQ.gens) dJ:=by
  intro H zp dr bU o1 d5;have I8:∀{b:Addr}{o:Obj},dJ.heap.get? b=some o->H b=none->(oP dJ.heap H).get? b=some o:=λ e n=>PL e n
  have vR:∀{b:Addr}{o:Obj}{es:Array DictEntry}{e9:Nat},dJ.heap.get? b=some o->o.data=.dict es e9->H b=none:=λ{b o es e9} e d=>by
   cases q:H b with
   | none=>rfl
   | some u=>
    have bZ:b=a:=o1 b (by rw [q];simp);subst bZ;rw [ay] at e;cases e;have d':Data.seq vs.toArray _=Data.dict es e9:=d;cases d'
  have zq:∀{b:Addr}{m:Str->Option Value},dJ.heap.Ns b m->(oP dJ.heap H).Ns b m:=λ{b m} ⟨o,es,e9,e,d,r⟩=>⟨o,es,e9,I8 e (vR e d),d,r⟩
  have I9:K.In (oP dJ.heap H):=λ b o e=>I8 (KX b o e) (by
   cases q:H b with
   | none=>rfl
   | some u=>
    have bZ:b=a:=o1 b (by rw [q];simp);subst bZ
    rw [d5 (by rw [q];simp)] at e;cases e)
  have R9:Mod K mg (oP dJ.heap H):=⟨I9,zq I7,⟨jV,zq af,zo⟩,let ⟨R_,ae,ag⟩:=R6;⟨R_,zq ae,ag⟩⟩
  have dt:rK P w K mg (oP dJ.heap H) rh [] dJ H:=⟨rfl,R9,λ b o e=>PM e,Nat.le_of_eq (PK _ _),trivial,λ b af=>absurd (show b∈([]:List Addr) from af) (by simp),bU,.of_eq a_⟩
  refine s_ ((F _ I9 (zq I7)).run rh [] dJ H ⟨[.ref a],[]⟩ [.ref a] [.ref a] _ _ ak dt (R7 dJ (.ref a)) (.cons rfl .nil) (lT H zp dr)) λ r aQ h=>?_
  cases r with
  | error e=>exact (Cn H e aQ h).elim
  | ok fI=>
   cases fI with
   | next=>exact False.elim h
   | brk=>exact False.elim h
   | cont=>exact False.elim h
   | ret u=>
    obtain ⟨v,aj,os,bare,un,Co,bD,q⟩:=h;have hj:v=.aJ true:=q;subst hj;obtain rfl:u=Value.bool true:=bD;refine ⟨rfl,OldK.of_keep λ b o e=>?_,os,bare⟩
    cases q:H b with
    | none=>exact un.keep b o e q (by intro z;exact absurd (show b∈([]:List Addr) from z) (by simp)) (by simp)
    | some u=>
     rcases zp b with z | ⟨dv,xs,z⟩
     ·rw [q] at z;cases z
     ·have cc:=un.jU b dv _ z;obtain ⟨aE,_⟩:=bU b _ z;obtain ⟨aP,_⟩:=Co b _ cc;rw [e] at aE;cases aE;exact aP
 cases aD:K.lookup a with
 | some o=>
  have e:=KX a o aD;rw [ay] at e;cases e;refine core (λ _=>none) (λ _=>.inl rfl) (.inr ⟨_,vs.toArray,_,aD,rfl,rfl,rfl,by rw [cH,R8];exact ar,by simpa using a5⟩) (λ b u z=>by have gn:(none:Option gm)=some u:=z;cases gn) (λ b z=>absurd rfl z) λ z=>absurd rfl z
 | none=>
  refine core (λ b=>if b=a then some (.ih { cls:=.type "list", data:=.seq vs.toArray } (.lst (ns.map V.int))) else none) (λ b=>?_) (.inl (.inr ⟨{ cls:=.type "list", data:=.seq vs.toArray },if_pos rfl⟩)) (λ b u z=>?_) (λ b z=>?_) λ _=>aD
  ·by_cases af:b=a
   ·exact .inr ⟨_,_,if_pos af⟩
   ·exact .inl (if_neg af)
  ·by_cases af:b=a
   ·have gn:=(if_pos af).symm.trans z;cases gn;subst af;exact ⟨ay,by rw [cP];exact ar,vs,_,a5,ay⟩
   ·have gn:=(if_neg af).symm.trans z;cases gn
  ·by_cases af:b=a
   ·exact af
   ·exact absurd (if_neg af) z
def Sa{l:PySem.W.OpenLaw}{n k:Nat}{q:cS}{loose:List Str}{rM:(Str->Option Value)->bO->Prop}{qr:b_->bO->Prop}{d:DefRec}{K:Params->aV}{CX:b_->mO}{sp:b_->i8}{x:Str}
 (aA:l.most=some n) (Sb:n<=sizeLine) (vX:d.params.defaults=[]) (ak:fV k rh)
 (Cp:∀(w:b_)(h:bO),qr w h->(K w.params).In h)
 (F:∀(w:b_)(mg:Str->Option Value)(fa:Addr)(h:bO),(K w.params).In h->h.Ns ea mg->mg d.name=some (.ref fa) →
  ∃ fd:gZ,(∀(s:aF)(u:Value),tb s fd ⟨[u],[]⟩ [(x,u)]) ∧
   ∀ base:bO,(K w.params).In base->base.Ns ea mg->dp l.prog w (K w.params) mg base (CX w) k fa fd [x] (sp w))
 (lT:∀(w:b_)(H:av)(a:Addr)(ns:List Int),ns.length<=n->zn H->d7 (K w.params) H a (ns.map V.int)->sp w [.ref a] H (λ v _=>v=.aJ true) λ _ _ _=>False)
 (Cn:∀(w:b_)(H:av)(s:aF)(e:Value)(aQ:aF),CX w [] H s (λ _ _ _=>False) e aQ->False) :
 PySem.W.WalkO q loose rM qr l.row.toRowW d [] (λ f vs=>PySem.call f vs):=by
 refine I5.R4 aA vX λ w s₀ dJ mg jV fa o pm cd doc a vs ns G Y aR hd hV hmg Cm hints hlen a_=>?_;have KX:=Cp w _ Y;obtain ⟨fd,af,bT⟩:=F w mg fa _ KX G.T.g hmg;exact R5 KX G.T.g G.T.b G.T.builtins G.T.nolimit a_ Cm hints (hT hlen Sb) ak bT af (λ H zp dr=>lT w H a ns hlen zp dr) λ H e aQ=>Cn w H dJ e aQ
def n5(s:b1):Arguments:=match s with
 | .FunctionDef _ a _ _ _ _ _ _ _ _=>a
 | _=>{ posonlyargs:=[],args:=[],vararg:=none,kwonlyargs:=[],kw_defaults:=[],kwarg:=none,defaults:=[] }
def j2(s:b1):List b1:=match s with
 | .FunctionDef _ _ b _ _ _ _ _ _ _=>b
 | _=>[]
def cW(s:b1):gF:=match s with
 | .FunctionDef _ _ _ _ _ _ sc _ _ _=>sc
 | _=>{ kind:=.function,names:=[],isGenerator:=false,isCoroutine:=false }
abbrev dz:mO:=λ _ _ _ _ _ _=>False
abbrev vY:gp:=λ _ _ _=>False
def Sc{X:aT}:zd dz X vY:=λ _ _ _ _ _ _ _ h=>h.elim
structure ed(K:aV)(x qual:Str)(st:b1)(f:Addr)(fd:gZ):Prop where
 ex:∃(gT:Value)(eR:Option Addr)(gR doc pm:Value)(an:Option Addr)(bW ct:Value)(jt:Array (Option Value)),
  fd=nQ x qual (n5 st) (j2 st) (cW st) .none gR doc pm an bW ct/\K.lookup f=some ⟨gT,eR,.func fd,jt⟩/\tu K bW qual=true
 c2:lM K (.ref f)=true
section
variable{P:cS}{w:b_}{K:aV}{mg:Str->Option Value}{base:bO}
theorem ed.ok{x qual:Str}{st:b1}{f:Addr}{fd:gZ}{N ps:List Str}{k:Nat}{sp:i8}(F:ed K x qual st f fd)(S:ez N ps (cW st))(len:∀ vs H Q E,sp vs H Q E->vs.length=ps.length)
 (oX:∀(bW:Value)(A:cL)(outer:List Env)(s:aF)(H:av)(vs:List V)(Q:cC)(E:gp),fV k (A.deeper (envOfC qual (cW st) s.heap.objs.size f bW))->sp vs H Q E →
  ∃ t,jY (e_ dz P w K mg base N qual (cW st) f bW A outer s H E).tE (j2 st) t/\t { nx:=λ _ aj=>Q .bc aj,rt:=Q } (kK N vs) H):dp P w K mg base dz (k+1) f fd ps sp:=by
 obtain ⟨gT,eR,gR,doc,pm,an,bW,ct,jt,rfl,lk,hV⟩:=F.ex;refine Ce lk hV S len λ A outer s H vs Q E ak lT=>?_;obtain ⟨t,h,q⟩:=oX bW A outer s H vs Q E ak lT;exact ⟨t,h.tE,q⟩
theorem ed.binds{x qual:Str}{st:b1}{f:Addr}{fd:gZ}{ps:List Str}(F:ed K x qual st f fd)
 (h:∀(gR doc pm:Value)(an:Option Addr)(bW ct:Value)(us:List Value),us.length=ps.length->bindArgs (nQ x qual (n5 st) (j2 st) (cW st) .none gR doc pm an bW ct) ⟨us,[]⟩=pure (ps.zip us)):Binds K fd ps []:=by
 obtain ⟨gT,eR,gR,doc,pm,an,bW,ct,jt,rfl,lk,hV⟩:=F.ex;exact .all (h gR doc pm an bW ct)
def I_{x qual:Str}{st:b1}{f:Addr}{gT:Value}{eR an:Option Addr}{jt:Array (Option Value)}{gR doc pm bW ct:Value}(l:K.lookup f=some ⟨gT,eR,.func (nQ x qual (n5 st) (j2 st) (cW st) .none gR doc pm an bW ct),jt⟩)
 (c:tu K bW qual=true) (k:lM K (.ref f)=true):ed K x qual st f (nQ x qual (n5 st) (j2 st) (cW st) .none gR doc pm an bW ct):=⟨⟨gT,eR,gR,doc,pm,an,bW,ct,jt,rfl,l,c⟩,k⟩
end
def vZ(H aj:av):Prop:=∀ b o,H b=some o->aj b=some o
theorem vZ.refl(H:av):vZ H H:=λ _ _ h=>h
def io(cells:List (Str × Addr)):List (Str × XV)->List (Str × Addr)->List (Str × Addr)
 | [],acc=>acc
 | (n,k)::r,acc=>io cells r (if k=.free then (n,(cells.lookup n).getD 0)::acc else acc)
theorem Ja{α β:Type}{f:α->β->Sem (ForInStep β)}(g:β->α->β):∀(l:List α)(c:β),(∀ x∈l,∀ c,f x c=pure (.yield (g c x)))->forIn l c f=pure (l.foldl g c)
 | [],_,_=>rfl
 | x::l,c,h=>by
  rw [List.forIn_cons,h x b3,pure_bind];exact Ja g l _ λ y bP=>h y (cO _ bP)
theorem Jb(cells:List (Str × Addr)):∀(names:List (Str × XV))(acc:List (Str × Addr)),
 names.foldl (λ c y=>if y.2=.free then (y.1,(cells.lookup y.1).getD 0)::c else c) acc=io cells names acc
 | [],_=>rfl
 | (n,k)::r,acc=>by
  rw [List.foldl_cons,io];exact Jb cells r _
def Jc{scope:gF}{env:Env}(h:∀ y∈scope.names,y.2=.free->∃ c,env.cells.lookup y.1=some c):closureFor scope env=pure (io env.cells scope.names []):=by
 rw [<- Jb];simp only [closureFor];rw [Ja (λ c y=>if y.2=.free then (y.1,(env.cells.lookup y.1).getD 0)::c else c) scope.names [] λ x ai c=>?_]
 ·rfl
 ·obtain ⟨n,k⟩:=x;by_cases aD:k=.free
  ·subst aD;obtain ⟨a,e⟩:=h _ ai rfl;have bZ:env.cells.lookup n=some a:=e;simp [cellOf,bZ]
  ·have af:(k==NameKind.free)=false:=by simpa using aD
   simp [af,aD]
theorem Jd{cells:List (Str × Addr)}:∀(names:List (Str × XV))(acc:List (Str × Addr)),(∀ y∈names,y.2=.free->∃ c,cells.lookup y.1=some c)->(∀ x c,acc.lookup x=some c->cells.lookup x=some c) →
 ∀ x c,(io cells names acc).lookup x=some c->cells.lookup x=some c
 | [],_,_,ay=>ay
 | (n,k)::r,acc,h,ay=>by
  rw [io];refine Jd r _ (λ y bP=>h y (cO _ bP)) λ x c e=>?_;by_cases aD:k=.free
  ·rw [if_pos aD] at e;obtain ⟨a,fU⟩:=h (n,k) b3 aD;have Je:cells.lookup n=some a:=fU;rw [qb] at e
   cases ai:x==n with
   | true=>
    rw [ai] at e;have aP:some ((cells.lookup n).getD 0)=some c:=e;rw [Je] at aP;have e3:a=c:=gG.inj aP;rw [eq_of_beq ai,Je,e3]
   | false=>
    rw [ai] at e;exact ay x c e
  ·rw [if_neg aD] at e;exact ay x c e
theorem Jf{cells:List (Str × Addr)}{x:Str}:∀(names:List (Str × XV))(acc:List (Str × Addr)),(acc.lookup x).isSome=true->((io cells names acc).lookup x).isSome=true
 | [],_,h=>h
 | (n,k)::r,acc,h=>by
  rw [io];refine Jf r _ ?_;by_cases aD:k=.free
  ·rw [if_pos aD,qb]
   cases ai:x==n with
   | true=>rfl
   | false=>exact h
  ·rw [if_neg aD];exact h
theorem Cq{cells:List (Str × Addr)}{x:Str}:∀(names:List (Str × XV))(acc:List (Str × Addr)),(x,NameKind.free)∈names->((io cells names acc).lookup x).isSome=true
 | [],_,h=>nomatch h
 | (n,k)::r,acc,h=>by
  rw [io];rcases cB.mp h with e | h
  ·cases e;refine Jf r _ ?_;rw [if_pos rfl,qb,beq_self_eq_true];rfl
  ·exact Cq r _ h
theorem Jg{g:Str->XV->XV}{x:Str}:∀ names:List (Str × XV),(names.map λ y=>(y.1,g y.1 y.2)).lookup x=(names.lookup x).map (g x)
 | []=>rfl
 | (n,k)::r=>by
  rw [fh,qb,qb]
  cases ai:x==n with
  | true=>
   have e:=eq_of_beq ai;subst e;rfl
  | false=>exact Jg r
def Sd(scope:gF)(env:Env):(ri scope env).names=scope.names.map λ y=>(y.1,if (y.2==.free&&env.scope.kind==.function&&env.kindOf y.1==some .cell)=true then NameKind.cell else y.2):=by
 unfold ri;refine List.map_congr_left λ y _=>?_;obtain ⟨n,k⟩:=y;show (if (k==.free&&env.scope.kind==.function&&env.kindOf n==some .cell)=true then (n,NameKind.cell) else (n,k))=_;split<;>simp_all
def Jh(scope:gF)(env:Env)(x:Str):(ri scope env).names.lookup x=(scope.names.lookup x).map λ k=>if (k==.free&&env.scope.kind==.function&&env.kindOf x==some .cell)=true then NameKind.cell else k:=by
 rw [Sd];exact Jg (g:=λ n k=>if (k==.free&&env.scope.kind==.function&&env.kindOf n==some .cell)=true then NameKind.cell else k) scope.names
def fX(X:aT)(scope:gF)(N':List Str)(C:Addr)(ex:List Addr)(s:aF)(H:av):aT:=
 { X with N:=N',s₀:=s,H₀:=H,env:=rf scope (io X.env.cells scope.names []) C X.env,outer:=X.stack,stack:=X.stack,ex:=ex,fn:=λ _=>false,pn:=[],xe:=λ _ _=>False }
def o2(nt:Nat)(cap:List Nat)(σ:St):St:=fs nt none++cap.map λ i=>(σ[i]?).join
structure g_(X:aT)(scope:gF)(N':List Str)(nt:Nat)(cap:List Nat):Prop where
 kind:scope.kind=.function
 Cr:∀ y∈scope.names,y.2≠.cell
 locs:∀ y∈scope.names,y.2=.local->scope.names.lookup y.1=some .local
 frees:∀ y∈scope.names,y.2=.free->X.env.scope.names.lookup y.1=some .cell\/X.env.scope.names.lookup y.1=some .free
 len:N'.length=nt+cap.length
 Se:∀(j i:Nat)(x:Str),cap[j]?=some i->N'[nt+j]?=some x->X.N[i]?=some x/\scope.names.lookup x=some .free
section
variable{X:aT}{scope:gF}{N':List Str}{nt:Nat}{cap:List Nat}{pins:List (Addr × Obj)}{σ:St}{H:av}{s:aF}
theorem g_.has(c:g_ X scope N' nt cap)(ok:X.Ok):∀ y∈scope.names,y.2=.free->∃ a,X.env.cells.lookup y.1=some a:=λ y bP aD=>ok.has y.1 (c.frees y bP aD)
theorem g_.cells(c:g_ X scope N' nt cap)(ok:X.Ok){x:Str}{a:Addr}(e:(io X.env.cells scope.names []).lookup x=some a):X.env.cells.lookup x=some a:=
 Jd scope.names [] (c.has ok) (λ _ _ z=>by simp at z) x a e
theorem g_.Sf(c:g_ X scope N' nt cap){x:Str}(h:(ri scope X.env).names.lookup x=some .cell\/(ri scope X.env).names.lookup x=some .free):(x,NameKind.free)∈scope.names:=by
 rw [Jh] at h
 cases q:scope.names.lookup x with
 | none=>rw [q] at h;simp at h
 | some k=>
  have hm:=ry q;have v3:k≠.cell:=c.Cr _ hm;rw [q] at h;by_cases aD:k=.free
  ·subst aD;exact hm
  ·have af:(k==NameKind.free)=false:=by simpa using aD
   simp only [rx,af,Bool.false_and,ts,if_false,gG.injEq] at h;rcases h with h | h
   ·exact absurd h v3
   ·exact absurd h aD
theorem Inv.comp(I:Inv X pins σ H s)(c:g_ X scope N' nt cap){fp:List Addr}(hf:∀ b∈fp,jq X pins H b)(gJ:∀ b∈fp,b < s.heap.objs.size){h':bO}{m:Str->Option Value}{t':Nat}
 (aD:∀ b o,s.heap.get? b=some o->h'.get? b=some o) (aA:h'.Ns s.heap.objs.size m) :
 Inv (fX X scope N' s.heap.objs.size fp s H) [] (o2 nt cap σ) H { s with heap:=h',toks:=t' }:=by
 have cl:=λ{x:Str} {a:Addr} (e:(io X.env.cells scope.names []).lookup x=some a)=>c.cells I.ok e
 have afu:∀ x a,X.env.cells.lookup x=some a->a < s.heap.objs.size:=λ x a e=>by
  obtain ⟨v,q⟩:=I.cell x a e;exact q.lt
 refine ⟨⟨I.ok.mod,c.kind,I.ok.glob,I.ok.blt,b4 _,λ x y a aE aP=>I.ok.inj x y a (cl aE) (cl aP),λ x ai=>?_,λ x a ai=>absurd ai mE,I.ok.hd,I.ok.frames,.inl rfl,λ b af=>⟨?_,λ x a e=>?_⟩,
  λ b o e=>I.bs b o e,hT I.ok.nU I.h_,λ b o e af=>?_,λ b af Sg=>?_,I.stack,λ b af=>I.vD b af⟩,
  rfl,I.bare,fS.kept aD,⟨m,aA,λ i x v aE aP e3=>?_⟩,λ x a e=>?_,I.bU.fresh (b4 _),λ x a e=>I.kE x a (cl e),λ p ah=>absurd (show p∈([]:List (Addr × Obj)) from ah) (by simp),I.bU.kept aD,?_⟩
 ·exact oH.mp (Cq scope.names [] (c.Sf ai))
 ·exact eW (gJ b af)
 ·exact (hf b af).2.2.2.2.1 x a (cl e)
 ·obtain ⟨f0,f1,f2,dn,_⟩:=hf b af;rcases dn with z | z
  ·exact I.ok.tB b o e z
  ·exact absurd (iF (dL e) (hT I.ok.nU z)) (nO _)
 ·obtain ⟨f0,f1,f2,_⟩:=hf b af;rcases cB.mp (I.tC b Sg) with z | z
  ·exact f1 z
  ·exact f2 z
 .
  have Cs:N'[i]?=some x:=aE
  have au:nt<=i:=by
   refine Nat.le_of_not_lt λ q=>?_;unfold o2 at aP;rw [vn (by simpa using q),yy,if_pos q] at aP;cases aP
  obtain ⟨j,rfl⟩:=Nat.exists_eq_add_of_le au;unfold o2 at aP;rw [yx (by simp),yz,Nat.add_sub_cancel_left,f3] at aP
  cases q:cap[j]? with
  | none=>rw [q] at aP;cases aP
  | some k=>
   rw [q] at aP;have zr:(σ[k]?).join=some v:=gG.inj aP
   have e4:σ[k]?=some (some v):=by
    cases z:σ[k]? with
    | none=>rw [z] at zr;cases zr
    | some hH=>rw [z] at zr;exact congrArg some zr
   obtain ⟨c3,b8⟩:=c.Se j k x q Cs;have Ji:=ry b8;have zf:=c.frees _ Ji rfl;obtain ⟨m0,_,ar⟩:=I.loc;obtain ⟨u,r,lk⟩:=ar k x v c3 e4 (.inr zf);refine ⟨u,r,.inr ⟨?_,?_⟩⟩
   ·show (ri scope X.env).names.lookup x=some .cell\/(ri scope X.env).names.lookup x=some .free;rw [Jh,b8]
    by_cases z:((NameKind.free==.free&&X.env.scope.kind==.function&&X.env.kindOf x==some .cell)=true)
    ·exact .inl (by rw [rx,if_pos z])
    ·exact .inr (by rw [rx,if_neg z])
   ·rcases lk with ⟨k1,_⟩ | ⟨_,a,e,z⟩
    ·have Sh:X.env.scope.names.lookup x=some .local:=k1;rcases zf with y | y<;>(rw [Sh] at y;cases y)
    ·obtain ⟨tL,fU⟩:=oH.mp (Cq (cells:=X.env.cells) scope.names [] Ji);have bZ:=cl fU;rw [e] at bZ;cases bZ;obtain ⟨o,aR,hd⟩:=z;exact ⟨a,fU,o,aD _ _ aR,hd⟩
 ·obtain ⟨v,o,aR,hd⟩:=I.cell x a (cl e);exact ⟨v,o,aD _ _ aR,hd⟩
 ·show (o2 nt cap σ).length=N'.length;unfold o2;rw [cI,yz,cP,c.len]
theorem Inv.Jj{C:Addr}{fp:List Addr}{σ':St}{aj:av}{aQ:aF}(I:Inv X pins σ H s)(gV:C=s.heap.objs.size)(hf:∀ b∈fp,jq X pins H b){N':List Str}(J:Inv (fX X scope N' C fp s H) [] σ' aj aQ) :
 ∃ m,aQ.heap.Ns C m/\∀ h',Heap.SameBut C aQ.heap h'->Inv X pins σ aj { aQ with heap:=h' }:=by
 subst gV;obtain ⟨m,aA,_⟩:=J.loc;refine ⟨m,aA,λ h' ax=>?_⟩;have ne:∀ b o,s.heap.get? b=some o->b≠s.heap.objs.size:=λ b o e=>eW (dL e);have B:=J.base;refine I.yZ (ch:=fp) J.os ⟨λ b o e n af ai=>?_,λ b o e n af ai=>?_,B.free,λ b o e ai=>?_,B.kB,B.jU,B.kC⟩ (λ b u e=>?_) J.bare λ b af=>?_
 ·exact (ax.2 b (ne b o e)).trans (B.keep b o e n af ai)
 ·obtain ⟨bq,q⟩:=B.slot b o e n af ai;exact ⟨bq,(ax.2 b (ne b o e)).trans q⟩
 ·obtain ⟨dI,q⟩:=B.there b o e ai;exact ⟨dI,(ax.2 b (ne b o e)).trans q⟩
 ·have Jk:aj s.heap.objs.size=none:=J.free;refine (J.bU b u e).nS (λ d hH hd q=>(ax.2 d ?_).trans q) (λ _ q=>q) λ _ _ q=>q;intro z;subst z;rcases hd with z | z
  ·rw [<- z,Jk] at e;cases e
  ·rw [Jk] at z;cases z
 ·obtain ⟨f0,f1,f2,dn,f4,eK⟩:=hf b af;exact ⟨dn,f1,f4,eK⟩
end
def v4(ec:TI)(g:g4)(aW:TE)(nt:Nat)(cap:List Nat):TE:=λ σ H Q=>ec σ H λ J H1=>∀ acc,H1 acc=none →
 ∃ W:Nat->Nat->List V->St->av->Prop,(∃ m,W 0 m [] (o2 nt cap σ) (upd H1 acc (.lst [])))/\∀ i m ys σ' aj,W i m ys σ' aj →
  (J.stop i aj/\Q (.ref acc) aj)\/(J.go i aj/\∀ x a3,J.ql i aj x a3->g x σ' a3 λ σ3 dy=>aW σ3 dy λ y js=>
   js acc=some (.lst ys)/\ys.length < sizeLine/\∃ dR,dR < m/\W (i+1) dR (ys++[y]) σ3 (upd js acc (.lst (ys++[y]))))
section
variable{X:aT}{scope:gF}{N':List Str}{nt:Nat}{cap:List Nat}{elt iter bp:a9}{pos:Pos}{ec:TI}{g:g4}{aW:TE}
def Si(am:X.calm=true)(c:g_ X scope N' nt cap)(au:nX X bp iter ec)(a_:∀ C ex s H,oR (fX X scope N' C ex s H) bp g)(he:∀ C ex s H,b5 (fX X scope N' C ex s H) elt aW)
 (ax:∀ x,nD iter X.env x=pure x:=by intro _;rfl):b5 X (.ListComp elt [⟨bp,iter,[],0⟩] scope pos) (v4 ec g aW nt cap):=by
 intro pins s σ H Q I h;rw [eval_ListComp];refine HM (use:=none) rfl ax (Jc (c.has I.ok)) c.kind c.locs (b2 (au pins s σ H _ I h) λ v s1 ae=>b2 ae λ y6 s2 ag=>?_);obtain ⟨it,fp,hX,J,a3,rfl,c5,T,rH,f2,R⟩:=ag;have i9:a3 s2.heap.objs.size=none:=c5.bU.fresh (b4 _);obtain ⟨W,⟨m0,d2⟩,turn⟩:=R _ i9
 have ei:Inv X pins σ (upd a3 s2.heap.objs.size (.lst [])) { s2 with heap:=s2.heap.push { cls:=.type "list", dict:=none,data:=.seq ([]:List Value).toArray } }:=
  c5.laid (t':=s2.toks) (λ b u e=>dQ _ e) (b4 _) ⟨fi _,[],0,.nil,hG _ rfl⟩
 have o3:∀ b∈fp,b < s2.heap.objs.size:=λ b af=>by
  obtain ⟨o,e,_⟩:=T.obj _ _ rH b af;exact dL e
 have dn:∀ b∈fp,jq X pins (upd a3 s2.heap.objs.size (.lst [])) b:=λ b af=>⟨by rw [cQ (eW (o3 b af))];exact (f2 b af).1,(f2 b af).2⟩
 have qn:hX 0 (s2.heap.push { cls:=.type "list", dict:=none,data:=.seq ([]:List Value).toArray }):=T.keep _ _ _ rH λ b _ o e=>dQ _ e;generalize v5:s2.heap.push { cls:=.type "list", dict:=none,data:=.seq ([]:List Value).toArray }=aO at ei qn
 have rN:s2.heap.objs.size < aO.objs.size:=by rw [<- v5,Heap.size_push];exact Nat.lt_succ_self _
 generalize Ct:s2.heap.objs.size=D at ei dn i9 d2 turn rN o3;refine kx ?_;rw [Ct,v5];refine wpAny_newFunctionEnv c.Cr (by intro y bP;simp at bP) (λ bX v6 v7=>?_) c.kind
 dsimp only at v6 v7 ⊢
 have v8:∀ b o,aO.get? b=some o->bX.get? b=some o:=λ b o e=>(v7.2 b (eW (dL e))).trans (dQ _ e);have il:=ei.comp (t':=s2.toks+([]:List (Str × Value)).length) c dn (λ b af=>tm (o3 b af) rN) v8 v6;have v9:hX 0 bX:=T.keep _ _ _ qn λ b _ o e=>v8 b o e
 dsimp only at il
 have fin:∀{σ':St}{aj:av}{aQ:aF},Inv (fX X scope N' aO.objs.size fp { s2 with heap:=aO } (upd a3 D (.lst []))) [] σ' aj aQ->Q (.ref D) aj →
  compPost (a8 X.prog X.w) X.A X.xe none (gg X pins σ Q) (.ref D) aO.objs.size (.ok .next) aQ:=λ{σ' aj aQ} zt q=>by
  obtain ⟨m,aA,df⟩:=ei.Jj rfl dn zt;exact ⟨m,aA,λ h' o4=>⟨.ref D,aj,df h' o4,rfl,q⟩⟩
 have mK:∀{aj:av},(∀ b∈fp,aj b=none)->∀ b∈fp,jq (fX X scope N' aO.objs.size fp { s2 with heap:=aO } (upd a3 D (.lst []))) [] aj b:=λ{aj} aA b af=>by
  refine ⟨aA b af,eW (tm (o3 b af) rN),λ z=>?_,.inl af,λ x a e=>(dn b af).2.2.2.2.1 x a (c.cells I.ok e),λ p ah=>absurd (show p∈([]:List (Addr × Obj)) from ah) (by simp)⟩;rcases cB.mp (I.tC b z) with y | y
  ·exact (dn b af).2.1 y
  ·exact (dn b af).2.2.1 y
 have loop:p9 (a8 X.prog X.w) X.A (.compLoop (.ListComp elt [⟨bp,iter,[],0⟩] scope pos) 0 (.ref it) (.ref D) (rf scope (io X.env.cells scope.names []) aO.objs.size X.env))
  (compPost (a8 X.prog X.w) X.A X.xe none (gg X pins σ Q) (.ref D) aO.objs.size) { s2 with heap:=bX,toks:=s2.toks+([]:List (Str × Value)).length }:=by
  refine codeAny_loop rfl (λ n aQ=>∃ i ys σ' aj,Inv (fX X scope N' aO.objs.size fp { s2 with heap:=aO } (upd a3 D (.lst []))) [] σ' aj aQ/\hX i aQ.heap/\(∀ b∈fp,aj b=none)/\W i n ys σ' aj) (λ n s5 v_=>?_) m0 ⟨0,[],_,_,il,v9,λ b af=>(dn b af).1,d2⟩;obtain ⟨i,ys,σ5,jr,oS,oT,rI,Cu⟩:=v_;show aZ _ X.A ((compTurn (.ListComp elt [⟨bp,iter,[],0⟩] scope pos) 0 (.ref it) (.ref D) (rf scope (io X.env.cells scope.names []) aO.objs.size X.env)).onRaise (λ x=>do WF x (rf scope (io X.env.cells scope.names []) aO.objs.size X.env);theTreesLotGoes x)) _ _ s5;refine wpAny_noted ?_;rw [compTurn_list1];rcases turn i n ys σ5 jr Cu with ⟨stop,vN⟩ | ⟨go,step⟩
  ·refine aK (p2 (aK (hR (T.done (fX X scope N' aO.objs.size fp { s2 with heap:=aO } (upd a3 D (.lst []))) rfl rfl rfl am i [] s5 σ5 jr (λ _ _=>False) oS (mK rI) oT stop) (λ r iJ ⟨ak,mL⟩=>?_) λ _ _ z=>z.elim)));subst ak;exact bC (fin mL vN)
  ·refine aK (p2 (aK (hR (T.item (fX X scope N' aO.objs.size fp { s2 with heap:=aO } (upd a3 D (.lst []))) rfl rfl rfl am i [] s5 σ5 jr (λ _ _=>False) oS (mK rI) oT go) (λ r iJ ⟨u,ak,hZ⟩=>?_) λ _ _ z=>z.elim)));subst ak;refine aK (hR hZ (λ _ jZ ⟨x,i7,j0,vO,Cv,rO,Cw⟩=>?_) λ _ _ z=>z.elim);have Cx:=j0.pinned (mK Cw) (T.obj _ _ rO);refine aK (hR (a_ _ _ _ _ _ jZ σ5 i7 x u _ Cx vO (step x i7 Cv)) (λ _ Cy ⟨σ8,Cz,CA,tO⟩=>?_) λ _ _ z=>z.elim);refine aK (aK (hR (he _ _ _ _ _ Cy σ8 Cz _ CA tO) (λ CB CC ⟨y,wa,CD,CE,o5,wb,dR,CF,CG⟩=>?_) λ _ _ z=>z.elim))
   refine aK (hR (Cj (X:=fX X scope N' aO.objs.size fp { s2 with heap:=aO } (upd a3 D (.lst []))) _ CC σ8 wa (.ref D) [y] (.ref D) [CB] (λ v wc=>v=.bc/\wc=upd wa D (.lst (ys++[y]))) CD rfl (.cons CE .nil) ⟨D,ys,y,rfl,rfl,o5,wb,rfl,rfl⟩)
    (λ _ Sj ⟨v10,wc,rP,_,_,CH⟩=>?_) λ _ _ z=>z.elim)
   subst CH;refine bC (bC ⟨rfl,dR,CF,i+1,ys++[y],σ8,_,rP.vM,?_,λ b af=>?_,CG⟩)
   ·exact T.keep _ _ _ rO λ b af o e=>(rP.pin (b,o) (h6 _ (h6 _ (tJ af e)))).1
   ·obtain ⟨o,e,d⟩:=T.obj _ _ rO b af;exact (rP.pin (b,o) (h6 _ (h6 _ (tJ af e)))).2.1
 exact HN loop (T.self _ 0 _ _ _ v9 loop)
end
structure Got(P:cS)(w:b_)(K:aV)(mg:Str->Option Value)(base:bO)(k:Nat)(x:Str)(ps:List Str)(sp:i8):Prop where
 ex:∃(f:Addr)(fd:gZ),dp P w K mg base dz k f fd ps sp/\mg x=some (.ref f)/\lM K (.ref f)=true/\Binds K fd ps []
section
variable{X:aT}{k j:Nat}{x:Str}{ps:List Str}{sp:i8}{p pos:Pos}{e:a9}{es:List a9}{t:fT}
def Sk(G:Got X.prog X.w X.K X.mg X.base k x ps sp)(ak:fV j X.A)(aD:k<=j)(a_:ew X x)(ay:iI X (e::es) t)(fJ:(x==("__debug__" : Str))=false:=by decide)
 (he:dU (e::es) X.env=(false,eval e X.env)::dU es X.env:=by rfl) (g7:(g0 pos (dU es X.env)).any (·.1)=false:=by rfl) :
 b5 X (.Call (.Name x p) (e::es) [] pos) (zc sp [] vY t):=by
 obtain ⟨f,fd,F,hm,c2,b⟩:=G.ex;exact IG F (ak.mono aD) a_ hm c2 b .nil Sc ay fJ he g7
end
section
variable{X:aT}
def Sl:d8 X (hC .FloorDiv) (tK (λ _ j=>0 < j/\j < 2 ^ 64) λ i j=>.int (i / j)):=y9 λ i j t u s E Q am q=>by
 have h0:j≠0:=by omega
 have ae:j.natAbs.log2 < 9000:=by
  have aE:j.natAbs < 2 ^ 64:=by omega
  exact tm ((Nat.log2_lt (by omega)).mpr aE) (by decide)
 have e:i.fdiv j=i / j:=Int.fdiv_eq_ediv_of_nonneg i (by omega);exact floordiv_int h0 (by rw [e];exact q) (.inl (PyProof.noPylong_of_log2 ae))
def Sm(l b:Addr)(items cT:Array Value)(n b8:Nat)(hn:Option Addr)(ho:Array (Option Value))(h0:¬(!items.isEmpty&&Builtin.List.listTooLong (items.size+cT.size))=true)(ae:items.size<=sizeLine)(ag:items.size+cT.size<=sizeLine+1) :
 Meets (Builtin.«list.extend» ⟨[.ref l,.ref b],[]⟩) (λ _ R s=>s.heap.get? l=some { cls:=.type "list", dict:=none,data:=.seq items n,slots:=#[] } ∧
  s.heap.get? b=some { cls:=.type "tuple", dict:=hn,data:=.seq cT b8,slots:=ho }/\R (.ok (.ret Value.none)) { s with heap:=s.heap.update l (Obj.mapSeq λ x=>x++cT),toks:=s.toks }):=
 .of_wp λ prog w A R s h=>by
  obtain ⟨ah,g,d,bR,os⟩:=s;obtain ⟨ar,af,h⟩:=h;have f1:=AutoSeq1.idx_int;have f2:=AutoSeq1.sub_tuple_tuple;have dn:=AutoSeq1.sub_list_list;have f4:=AutoSeq1.sub_tuple_list;have eK:=AutoSeq1.sub_list_tuple
  have wd:(items++cT).size<=sizeLine+1:=by rw [Array.size_append];exact ag
  wp_walk using (wpAny_updateSeq ar rfl (hz:=ae) (_hz':=wd)),nF ar,nF af
  exact ⟨_,rfl,h⟩
def Sn(K:aV):V->List V->av->cC->Prop:=λ x vs H Q=>∃ l b xs zs,x=.ref l/\vs=[.ref b]/\H l=some (.lst xs)/\eb K H b zs/\xs.length+zs.length<=sizeLine/\Q .bc (upd H l (.lst (xs++zs)))
def So:zk X "list.extend" (Sn X.K):=by
 intro pins s σ H x vs v us Q I a7 a5 h;obtain ⟨l,b,xs,zs,rfl,rfl,g9,qq,hz,q⟩:=h;cases a7;obtain ⟨u,rfl,c1⟩:=a5.one;cases c1;obtain ⟨z,aw,n,r,ar,e⟩:=I.rL g9;obtain ⟨cF,bj,⟨⟨b6,hn,afv,ho⟩,aP,iK,b8,hd2⟩,afw⟩:=I.tuple qq;simp only at iK hd2;subst iK hd2;have fK:=bj.length
 have hsz:aw.toArray.size+cF.toArray.size<=sizeLine:=by rw [cH,cH];omega
 have Ck:¬ (!aw.toArray.isEmpty&&Builtin.List.listTooLong (aw.toArray.size+cF.toArray.size))=true:=by
  rw [I4 hsz,tr];exact mE
 refine rb F.slot_list_extend ⟨_,e,rfl⟩ F.entry_list_extend (F.args_list_extend_2 _ _) (Sm l b aw.toArray cF.toArray n b8 hn ho Ck (by rw [cH];omega) (by omega)) ⟨e,aP,?_⟩;refine ⟨.bc,_,I.zl (its':=aw++cF) g9 e (by simp) (r.append bj) ?_,rfl,q⟩;rw [cI];omega
end
def gu:a9->Bool
 | .Starred ..=>false
 | _=>true
def j3{e:a9}{es:List a9}{env:Env}(h:gu e=true):dU (e::es) env=(false,eval e env)::dU es env:=by
 cases e<;>first | rfl | cases h
def pc{X:aT}{e:a9}{es:List a9}{aW:TE}{t:fT}(ay:b5 X e aW)(ak:iI X es t)(ax:gu e=true:=by rfl):iI X (e::es) (Ca aW t):=ID ay ak (j3 ax)
section
variable{κ:Type} [DecidableEq κ]
theorem oL.getD{o:Option V}{u:Option Value}{d:V}{d':Value}(r:oL o u)(fL:RelV d d'):RelV (o.getD d) (u.getD d'):=by
 cases o with
 | none=>cases u with
  | none=>exact fL
  | some _=>exact (show False from r).elim
 | some _=>cases u with
  | none=>exact (show False from r).elim
  | some _=>exact r
end
structure Jl(X:aT)(o:a9)(m:Str)(apos:Pos)(e:a9)(cM:Pos):Prop where
 base:mv o m X.env (eval o X.env)=eval o X.env
 we:((g0 cM (dU [e] X.env)).all (λ x=>!x.1)&&(vh cM (vf [] X.env)).all (λ x=>x.1.isSome)
  &&decide (([e]:List a9).length+([]:List tc).length+(if ([]:List tc).isEmpty then 0 else 1) < 30))=true
 line:(apos.endLine==cM.line)=true
 trees:g0 cM (dU [e] X.env)=[(false,eval e X.env)]
structure M2(X:aT)(o:a9)(m:Str)(apos:Pos)(e f:a9)(cM:Pos):Prop where
 base:mv o m X.env (eval o X.env)=eval o X.env
 we:((g0 cM (dU [e,f] X.env)).all (λ x=>!x.1)&&(vh cM (vf [] X.env)).all (λ x=>x.1.isSome)
  &&decide (([e,f]:List a9).length+([]:List tc).length+(if ([]:List tc).isEmpty then 0 else 1) < 30))=true
 line:(apos.endLine==cM.line)=true
 trees:g0 cM (dU [e,f] X.env)=[(false,eval e X.env),(false,eval f X.env)]
section
variable{prog:cS}{w:b_}{A:cL}{E:Value->aF->Prop}{s:aF}
theorem Sp{t bq:Addr}{items:Array Value}{fW gs:Value}{lo au:Option Int}{Q:Value->aF->Prop}(bu:mz s.heap t items)(ax:s.heap.IsSliceOf bq fW gs .none)(pl:mw fW lo)(pu:mw gs au)
 (hw:dD.cj items.size 0 lo=0/\dD.cj items.size items.size au=items.size) (h:Q (.ref t) s):aZ (a8 prog w) A (oA (.ref t) (.ref bq)) Q E s:=by
 obtain ⟨os,lU,tM,f6⟩:=id ax
 have vT:s.TypeIs (.ref bq) "slice":=⟨os,lU,tM⟩
 unfold oA
 try with_reducible refine jm ?_
 first | refine aK (bC ?_) | skip
 refine aK (BD bu.typeIs (by decide) ?_);refine aK (wpAny_callSpecial?_slot (name:=Str.ofString "__getitem__") bu.typeIs tw (nE tw bu.typeIs BP ?_ (BQ _ _)));show aZ _ _ (Builtin.Tuple.tupleItemsOf (.ref t) >>= _) _ _ s;refine aK (BR bu ?_);refine aK (q9 vT ?_);rw [if_pos (by decide)];refine aK (dD.IP ax pl pu ?_)
 have Sq:(((dD.cj items.size 0 lo:Nat):Int)==0&&(1:Int)==1&&(dD.cj items.size items.size au - dD.cj items.size 0 lo)==items.size)=true:=by
  rw [hw.1,hw.2];simp
 show aZ _ _ (if (((dD.cj items.size 0 lo:Nat):Int)==0&&(1:Int)==1&&(dD.cj items.size items.size au - dD.cj items.size 0 lo)==items.size)=true then _ else _) _ _ s;rw [if_pos Sq]
 have ex:∀{lR:Bool->aF->Prop},lR true s->aZ (a8 prog w) A.in1 (Builtin.Tuple.tupleIsExact (.ref t)) lR E s:=λ{lR} q=>by
  unfold Builtin.Tuple.tupleIsExact;refine aK (q9 bu.typeIs (bC ?_));have e:(Value.type "tuple"==Value.type "tuple")=true:=beq_self_eq_true _;rw [e];exact q
 first
  | exact aK (ex (aK (rd (bC ⟨_,rfl,bC h⟩))))
  | (unfold Builtin.Tuple.tupleIsExact
     refine aK (aK (q9 bu.typeIs (bC ?_)));have e:(Value.type "tuple"==Value.type "tuple")=true:=beq_self_eq_true _;rw [e,if_pos rfl]
     first
      | exact aK (rd (bC ⟨_,rfl,bC h⟩))
      | exact aK (rd (aK (bC (bC ⟨_,rfl,bC h⟩))))
      | exact aK (rd (aK (aK (bC (bC ⟨_,rfl,bC h⟩))))))
end
section
variable{X:aT}
def Sr(K:aV):V->Option Int->Option Int->av->cC->Prop:=λ x lo au H Q=>∃ a xs,x=.ref a/\eb K H a xs ∧
 ((dD.cj xs.length 0 lo=0/\dD.cj xs.length xs.length au=xs.length)->Q (.ref a) H)/\(¬ (dD.cj xs.length 0 lo=0/\dD.cj xs.length xs.length au=xs.length)->∀ p,H p=none->Q (.ref p) (upd H p (.tup (lV xs lo au))))
def Ss:mQ X (Sr X.K):=by
 intro pins s σ H x v fW gs lo au bq Q I a7 ax pl pu h;obtain ⟨a,xs,rfl,ai,aH,bl⟩:=h;by_cases hw:dD.cj xs.length 0 lo=0/\dD.cj xs.length xs.length au=xs.length
 ·cases a7;obtain ⟨aw,r,bu,hz⟩:=I.tuple ai
  have hlen:aw.toArray.size=xs.length:=by rw [cH];exact r.length.symm
  refine ⟨"tuple", _,tw.lookup,bu.typeIs,?_⟩;exact Sp bu ax pl pu (by rw [hlen];exact hw) ⟨.ref a,H,I,rfl,aH hw⟩
 ·exact Rm pins s σ H _ v fW gs lo au bq Q I a7 ax pl pu ⟨a,xs,rfl,ai,hw,bl hw⟩
def Su(K:aV):eZ:=λ x y H Q=>∃ a b xs ys,x=.ref a/\y=.ref b/\eb K H a xs/\eb K H b ys/\xs.length+ys.length<=sizeLine ∧
 (xs=[]->Q (.ref b) H)/\(xs≠[]->ys=[]->Q (.ref a) H)/\(xs≠[]->ys≠[]->∀ p,H p=none->Q (.ref p) (upd H p (.tup (xs++ys))))
def Sv:d8 X (hC .Add) (Su X.K):=by
 intro pins s σ H x y v u Q I a7 cD h;obtain ⟨a,b,xs,ys,rfl,rfl,ay,af,hz,CI,aH,bl⟩:=h
 by_cases ai:xs=[]
 ·cases a7;cases cD;obtain ⟨aw,r,bu,_⟩:=I.tuple ay;obtain ⟨cF,bj,Sw,_⟩:=I.tuple af;subst ai;cases r;obtain ⟨⟨cls,dd,data,bq⟩,aR,am,n,hd⟩:=id bu;obtain ⟨⟨Cf,hn,data2,ho⟩,kL,iK,b8,hd2⟩:=id Sw;simp only at am hd iK hd2;subst am hd iK hd2;refine BO ⟨_,aR,rfl⟩ ⟨_,kL,rfl⟩ BF BN PySem.F.slot_tuple_add PySem.F.entry_tuple_add (PySem.F.args_tuple_add_2 _ _) (tuple_addW0 a b _ cF.toArray n b8 dd hn bq ho (by simp)) ⟨aR,kL,?_⟩;exact ⟨.ref b,H,I,rfl,CI rfl⟩
 ·exact Ro pins s σ H _ _ v u Q I a7 cD ⟨a,b,xs,ys,rfl,rfl,ay,af,ai,hz,aH ai,bl ai⟩
structure KTab(K:aV)(w:b_)(ad:Addr)(tab:Str->Option V):Prop where
 ex:∃(es:Array DictEntry)(n:Nat),K.lookup ad=some ⟨.type "dict", none,.dict es n,#[]⟩/\PySem.W.KeysLit w.params es.toList/\∀ x,oL (tab x) (findBy Value.isStrOf es x)
 low:(ad==q_)=false
end
section
variable{X:aT}
def Sx(K:aV):V->Option Int->Option Int->av->cC->Prop:=λ x lo au H Q=>∃ a xs,x=.ref a/\eb K H a xs/\∀ t a3,vZ H a3->eb K a3 t (lV xs lo au)->Q (.ref t) a3
def Sy{xs:List V}{lo au:Option Int}(h:dD.cj xs.length 0 lo=0/\dD.cj xs.length xs.length au=xs.length):lV xs lo au=xs:=by
 unfold lV;rw [h.1,h.2,nL,Nat.sub_zero,vo]
def Sz:mQ X (Sx X.K):=by
 intro pins s σ H x v fW gs lo au bq Q I a7 ax pl pu h;obtain ⟨a,xs,rfl,ai,q⟩:=h;refine Ss pins s σ H _ v fW gs lo au bq Q I a7 ax pl pu ⟨a,xs,rfl,ai,λ w=>q a H (vZ.refl _) (by rw [Sy w];exact ai),λ _ p ah=>q p _ (λ b u e=>by rw [cQ (h9 e ah)];exact e) (eb.of eF)⟩
end
structure c4(X:aT)(e:a9)(t:TE):Prop where
 run:b5 X e t
structure ln(X:aT)(e:a9)(t:TT):Prop where
 run:kH X e t
structure o6(X:aT)(e:a9)(t:TT):Prop where
 run:nV X e t
structure lp(X:aT)(es:List a9)(t:fT):Prop where
 run:iI X es t
structure lq(X:aT)(st:b1)(t:ft):Prop where
 run:jX X st t
structure mS(X:aT)(st:List b1)(t:ft):Prop where
 run:jY X st t
structure kO(X:aT)(e:a9)(t:g4):Prop where
 run:oR X e t
structure wf(X:aT)(es:List a9)(t:mJ):Prop where
 run:vH X es t
structure tP(X:aT)(bp iter:a9)(ec:TI):Prop where
 run:nX X bp iter ec
structure wg(X:aT)(e:Option a9)(t:lh):Prop where
 run:qp X e t
structure zu(X:aT)(f:Value->Value->Sem Value)(r:eZ):Prop where
 run:d8 X f r
structure Jm(X:aT)(f:Value->Sem Value)(r:V->av->cC->Prop):Prop where
 run:y8 X f r
structure CJ(X:aT)(f:Value)(r:List V->av->cC->Prop):Prop where
 run:hY X f r
structure Jn(X:aT)(r:eZ):Prop where
 run:n1 X r
structure Jo(X:aT)(r:V->Option Int->Option Int->av->cC->Prop):Prop where
 run:mQ X r
structure qs(X:aT)(id:String)(r:V->List V->av->cC->Prop):Prop where
 run:n2 X id r
structure Jp(X:aT)(op:oz)(t:tF):Prop where
 run:y4 X op t
structure SA(X:aT)(t:vI):Prop where
 run:B1 X t
section
variable{X:aT}{a b c e o i:a9}{es:List a9}{bb bA aW to gU:TE}{t zb:fT}{pos p apos cM:Pos}
def SD{n:Int} {j}:c4 X (.Constant (.int n) j pos) (mI (.int n)):=⟨PR⟩
def SE{n:Bool} {j}:c4 X (.Constant (.bool n) j pos) (mI (.aJ n)):=⟨PS⟩
def SF{x:Str} {j}:c4 X (.Constant (.str x) j pos) (mI (.str x)):=⟨PT⟩
def SG(k:Nat){x:Str}(dM:X.N[k]?=some x:=by rfl)(bJ:qg X.env.scope x:=by first | exact Or.inl rfl | exact Or.inr (Or.inl rfl) | exact Or.inr (Or.inr rfl))(hd:(x==("__debug__" : Str))=false:=by decide)
 (hV:(x==("__classdict__" : Str))=false:=by decide):c4 X (.Name x pos) (y0 k):=⟨y1 dM bJ hd hV⟩
def SH{x:Str}{v:V}{u:Value}(a_:ew X x)(hm:X.mg x=none)(bJ:k_ x=some u)(r:RelV v u)(aA:x≠"__name__":=by decide)(hd:(x==("__debug__" : Str))=false:=by decide):c4 X (.Name x pos) (mI v):=⟨PU a_ hm bJ r aA hd⟩
def SI{x:Str}{v:V}{u:Value}(a_:ew X x)(hm:X.mg x=some u)(r:RelV v u)(hd:(x==("__debug__" : Str))=false:=by decide):c4 X (.Name x pos) (mI v):=⟨B0 a_ hm r hd⟩
def SJ:lp X [] IC:=⟨Cb⟩
def Jq(ay:c4 X e aW)(ak:lp X es t)(ax:gu e=true:=by rfl):lp X (e::es) (Ca aW t):=⟨ID ay.run ak.run (j3 ax)⟩
def Jr {g6} (h:lp X es t):c4 X (.Tuple es g6 pos) (IE t):=⟨Q5 h.run⟩
def Js(h:lp X es t):c4 X (.List es pos) (IF t):=⟨Q6 h.run⟩
def SK{op:oz}{r:eZ}(aR:zu X (hC op) r)(ay:c4 X a bb)(af:c4 X b bA):c4 X (.BinOp a op b pos) (qo r bb bA):=⟨Qw aR.run ay.run af.run⟩
def SL{op:UnaryOp}{r:V->av->cC->Prop}(aR:Jm X (vj op) r)(ay:c4 X a bb):c4 X (.UnaryOp op a pos) (It r bb):=⟨Qx aR.run ay.run⟩
def SM(ay:c4 X a bb):c4 X (.UnaryOp .Not a pos) (H6 bb):=⟨P4 ay.run⟩
def SN{op:nH}{r:eZ}(aR:zu X (er op) r)(ay:c4 X a bb)(af:c4 X b bA)(hm:p3 op b=false):c4 X (.Compare a [op] [b] pos) (qo r bb bA):=⟨QL aR.run ay.run af.run hm⟩
def SO {op} (h:c4 X a bb):c4 X (.BoolOp op [a] pos) bb:=⟨P0 h.run⟩
def SP{rest:List a9}(ay:c4 X a bb)(af:c4 X (.BoolOp .And (b::rest) pos) bA):c4 X (.BoolOp .And (a::b::rest) pos) (H4 bb bA):=⟨P1 ay.run af.run⟩
def SQ{rest:List a9}(ay:c4 X a bb)(af:c4 X (.BoolOp .Or (b::rest) pos) bA):c4 X (.BoolOp .Or (a::b::rest) pos) (H5 bb bA):=⟨P2 ay.run af.run⟩
def SR{bf:TT}(am:ln X c bf)(ay:c4 X a bb)(af:c4 X b bA):c4 X (.IfExp c a b pos) (H7 bf bb bA):=⟨P5 am.run ay.run af.run⟩
def SS:wg X none IQ:=⟨Ri⟩
def SU(h:c4 X e aW):wg X (some e) (IR aW):=⟨Rj h.run⟩
def SV{r:V->Option Int->Option Int->av->cC->Prop}{lo au:Option a9}{eN kM:lh}{dN:Pos}(ak:Jo X r)(he:c4 X e aW)(ar:wg X lo eN)(bK:wg X au kM):c4 X (.Subscript e (.Slice lo au none dN) pos) (IS r aW eN kM):=⟨Rk ak.run he.run ar.run bK.run⟩
def Jt{r:eZ}(ak:Jn X r)(ay:c4 X a bb)(af:c4 X b bA)(ax:zh b):c4 X (.Subscript a b pos) (qo r bb bA):=⟨Rp ak.run ay.run af.run ax⟩
def CK{es:List a9}{env:Env}(h:es.all gu=true):(g0 pos (dU es env)).any (·.1)=false:=by
 induction es with
 | nil=>rfl
 | cons x r bN=>
  rw [nJ,eI] at h;rw [j3 h.1];exact bN h.2
def SW{k j:Nat}{x:Str}{ps:List Str}{sp:i8}(G:Got X.prog X.w X.K X.mg X.base k x ps sp)(ak:fV j X.A)(aD:k<=j)(a_:ew X x)(ay:lp X (e::es) t)(fJ:(x==("__debug__" : Str))=false:=by decide)
 (ax:(e::es).all gu=true:=by rfl):c4 X (.Call (.Name x p) (e::es) [] pos) (zc sp [] vY t):=by
 have h:=ax;rw [nJ,eI] at h;exact ⟨Sk G ak aD a_ ay.run fJ (j3 h.1) (CK h.2)⟩
def SX{x:Str}{id:String}{r:List V->av->cC->Prop}(am:CJ X (.builtin id) r)(a_:ew X x)(hm:X.mg x=none)(bJ:k_ x=some (.builtin id))(ay:lp X (e::es) t)(aA:x≠"__name__":=by decide)(fJ:(x==("__debug__" : Str))=false:=by decide)
 (ax:(e::es).all gu=true:=by rfl):c4 X (.Call (.Name x p) (e::es) [] pos) (zg r t):=by
 have h:=ax;rw [nJ,eI] at h;exact ⟨Ra am.run a_ hm bJ ay.run aA fJ (j3 h.1) (CK h.2)⟩
def SY{x:Str}{T:String}{r:List V->av->cC->Prop}(am:CJ X (.type T) r)(a_:ew X x)(hm:X.mg x=none)(bJ:k_ x=some (.type T))(ay:lp X (e::es) t)(aA:x≠"__name__":=by decide)(fJ:(x==("__debug__" : Str))=false:=by decide)
 (ax:(e::es).all gu=true:=by rfl):c4 X (.Call (.Name x p) (e::es) [] pos) (zg r t):=by
 have h:=ax;rw [nJ,eI] at h;exact ⟨Rb am.run a_ hm bJ ay.run aA fJ (j3 h.1) (CK h.2)⟩
def Ju{name:Str}{T id:String}{r:V->List V->av->cC->Prop}(ju:ra T)(slot:Slot T name id)(gI:oB (.builtin id)=pure (.type "method_descriptor"))(hm:qs X id r)(aR:c4 X o to)(ay:lp X [e] t)
 (ll:mv o name X.env (eval o X.env)=eval o X.env:=by rfl) (lm:(apos.endLine==cM.line)=true:=by rfl) (ax:gu e=true:=by rfl):c4 X (.Call (.Attribute o name apos) [e] [] cM) (I3 X.K T r to t):=
 ⟨RM ju slot gI hm.run aR.run ay.run ll (by rw [j3 ax];rfl) lm (j3 ax) rfl⟩
def SZ{name:Str}{T id:String}{r:V->List V->av->cC->Prop}(ju:ra T)(slot:Slot T name id)(gI:oB (.builtin id)=pure (.type "method_descriptor"))(hm:qs X id r)(aR:c4 X o to)
 (ll:mv o name X.env (eval o X.env)=eval o X.env:=by rfl) (lm:(apos.endLine==cM.line)=true:=by rfl):c4 X (.Call (.Attribute o name apos) [] [] cM) (I2 X.K T r to):=⟨RL ju slot gI hm.run aR.run ll lm⟩
def S0{op:nH}{r:eZ}(aR:zu X (er op) r)(ay:c4 X a bb)(af:c4 X b bA)(hm:p3 op b=false):ln X (.Compare a [op] [b] pos) (B6 (qo r bb bA)):=⟨QM aR.run ay.run af.run hm⟩
def S1{bf:TT}(ay:ln X a bf):ln X (.UnaryOp .Not a pos) (H3 bf):=⟨PZ ay.run⟩
def S2(ay:c4 X a bb)(he:∀ whole,isTrue a X.env whole=(do let v ← whole;p8 a.pos;jM [v] (truthy v))):ln X a (λ σ H Q=>bb σ H λ x aj=>∃ k,B8 X.K x aj k/\Q k aj):=⟨QR ay.run he⟩
def S3{gq:TT}(ay:ln X a gq):o6 X (.BoolOp .And [a] pos) gq:=⟨PV ay.run⟩
def S4{gq:TT}(ay:ln X a gq):o6 X (.BoolOp .Or [a] pos) gq:=⟨PW ay.run⟩
def S5{gq nW:TT}{rest:List a9}(ay:ln X a gq)(af:o6 X (.BoolOp .And (b::rest) pos) nW):o6 X (.BoolOp .And (a::b::rest) pos) (H0 gq nW):=⟨PX ay.run af.run⟩
def S6{gq nW:TT}{rest:List a9}(ay:ln X a gq)(af:o6 X (.BoolOp .Or (b::rest) pos) nW):o6 X (.BoolOp .Or (a::b::rest) pos) (H2 gq nW):=⟨PY ay.run af.run⟩
theorem o6.pt{gq:TT}(h:o6 X e gq):ln X e gq:=⟨nV.pt h.run⟩
def S7{k:Nat}{x:Str}(dM:X.N.Nodup)(au:X.N[k]?=some x)(ai:Loc X.env.scope x)(hf:X.fn x=true\/X.env.scope.names.lookup x=some .local:=by first | exact .inl rfl | exact .inr rfl | assumption):kO X (.Name x pos) (tG k):=⟨P_ dM au ai hf⟩
def S8:wf X [] Ii:=⟨Qa⟩
def S9{bp:g4}{u:mJ}(ae:kO X e bp)(ag:wf X es u)(ax:(jn (e::es) X.env).map (·.2)=jN e X.env::(jn es X.env).map (·.2):=by rfl):wf X (e::es) (Ij bp u):=⟨Qb ae.run ag.run ax⟩
def S_{k n:Nat}{bp:mJ}(am:X.calm=true)(h:wf X es bp)(aA:(jn es X.env).length=n:=by rfl)(g5:(jn es X.env).findIdx? (·.1)=none:=by rfl):kO X (.Tuple es k pos) (Ik X.K n bp):=⟨Qc am h.run aA g5⟩
def Ta{Jv:vI}(aR:c4 X o to)(au:c4 X i gU)(ax:SA X Jv) (ay:∀ v,jN (.Subscript o i pos) X.env v=(do
 let gh ← jM [v] (eval o X.env)
 let ij ← jM [v,gh] (eval i X.env)
 p8 pos
 jM [v,gh,ij] (setItem gh ij v)
 release [v,gh,ij] []):=by intro _;rfl):kO X (.Subscript o i pos) (Il to gU Jv):=⟨Qd aR.run au.run ax.run ay⟩
def Tb{bp:a9}(a_:ew X "range")(hm:X.mg "range" = none)(ay:lp X [a] t)(ax:gu a=true:=by rfl):tP X bp (.Call (.Name "range" p) [a] [] pos) (Ip t):=⟨Qp a_ hm ay.run (j3 ax)⟩
def Jw:mS X [] H9:=⟨P7⟩
def Jx{st:b1}{rest:List b1}{en us:ft}(ae:lq X st en)(ag:mS X rest us):mS X (st::rest) (H_ en us):=⟨Ia ae.run ag.run⟩
def Jy{st:b1}{en:ft}(ae:lq X st en):mS X [st] en:=⟨Ib ae.run⟩
def Jz(he:c4 X e aW)(ax:jL e none pos.line X.env=pure false:=by rfl):lq X (.Expr e pos) (Ic aW):=⟨Ie he.run ax⟩
def JA(he:c4 X e aW):lq X (.Return (some e) pos) (Ig aW):=⟨P8 he.run⟩
def JB{ss us:List b1}{bf:TT}{en lr:ft}(am:ln X c bf)(ay:mS X ss en)(af:mS X us lr):lq X (.If c ss us pos) (Ih bf en lr):=⟨P9 am.run ay.run af.run⟩
def Tc{k:Nat}{x:Str}{pos':Pos}(dM:X.N.Nodup)(au:X.N[k]?=some x)(ai:Loc X.env.scope x)(he:c4 X e aW)(ax:jL e (some (.Name x pos')) pos.line X.env=pure false:=by rfl)(hf:X.fn x=true\/X.env.scope.names.lookup x=some .local:=by first | exact .inl rfl | exact .inr rfl | assumption) :
 lq X (.Assign [.Name x pos'] e pos) (tH aW (tG k)):=⟨Qf dM au ai he.run ax hf⟩
def Td{bp:a9}{g:g4}(he:c4 X e aW)(a_:kO X bp g)(ax:BL [bp] e pos.line X.env=pure false:=by rfl)(hw:BM [bp] e X.env=pure none:=by rfl)(ae:(jn [bp] X.env).map (·.2)=[jN bp X.env]:=by rfl):lq X (.Assign [bp] e pos) (tH aW g):=⟨Qe he.run a_.run ax hw ae⟩
def Te{k:Nat}{x:Str}{op:oz}{JC:tF}{pos':Pos}(dM:X.N.Nodup)(au:X.N[k]?=some x)(ai:Loc X.env.scope x)(he:c4 X e aW)(aR:Jp X op JC)(hf:X.fn x=true\/X.env.scope.names.lookup x=some .local:=by first | exact .inl rfl | exact .inr rfl | assumption) :
 lq X (.AugAssign (.Name x pos') op e pos) (Im k aW JC):=⟨Qg dM au ai he.run aR.run hf⟩
def JD{body:List b1}{bf:TT}{wh:ft}(ah:p7 (a8 X.prog X.w) X.A X.env X.xe)(am:ln X c bf)(af:mS X body wh):lq X (.While c body [] pos) (Io bf wh):=⟨Qk ah am.run af.run⟩
def JE{bp iter:a9}{body:List b1}{ec:TI}{g:g4}{wh:ft}(ah:p7 (a8 X.prog X.w) X.A X.env X.xe)(am:X.calm=true)(au:tP X bp iter ec)(a_:kO X bp g)(af:mS X body wh)(ax:∀ x,nD iter X.env x=pure x:=by intro _;rfl) :
 lq X (.For bp iter body [] pos) (Iq ec g wh):=⟨Qr ah am au.run a_.run af.run ax⟩
def Tf{scope:gF}{N':List Str}{nt:Nat}{cap:List Nat}{elt iter bp:a9}{ec:TI}{g:g4}(am:X.calm=true)(ok:g_ X scope N' nt cap)(au:tP X bp iter ec)(a_:∀ C ex s H,kO (fX X scope N' C ex s H) bp g)(he:∀ C ex s H,c4 (fX X scope N' C ex s H) elt aW)
 (ax:∀ x,nD iter X.env x=pure x:=by intro _;rfl):c4 X (.ListComp elt [⟨bp,iter,[],0⟩] scope pos) (v4 ec g aW nt cap):=⟨Si am ok au.run (λ C ex s H=>(a_ C ex s H).run) (λ C ex s H=>(he C ex s H).run) ax⟩
end
theorem ed.Tg{P:cS}{w:b_}{K:aV}{mg:Str->Option Value}{base:bO}{x qual:Str}{st:b1}{f:Addr}{fd:gZ}{N ps:List Str}{k:Nat}{sp:i8}(F:ed K x qual st f fd)(S:ez N ps (cW st))(len:∀ vs H Q E,sp vs H Q E->vs.length=ps.length)
 (oX:∀(bW:Value)(A:cL)(outer:List Env)(s:aF)(H:av)(vs:List V)(Q:cC)(E:gp),fV k (A.deeper (envOfC qual (cW st) s.heap.objs.size f bW))->sp vs H Q E →
  ∃ t,mS (e_ dz P w K mg base N qual (cW st) f bW A outer s H E).tE (j2 st) t/\t { nx:=λ _ aj=>Q .bc aj,rt:=Q } (kK N vs) H):dp P w K mg base dz (k+1) f fd ps sp:=
 F.ok S len λ bW A outer s H vs Q E ak h=>let ⟨t,j,q⟩:=oX bW A outer s H vs Q E ak h;⟨t,j.run,q⟩
section
variable{X:aT}{scope:gF}{N':List Str}{nt:Nat}{cap:List Nat}{elt iter bp:a9}{pos:Pos}{ec:TI}{g:g4}{aW:TE}
def Th{y:Str}{py qt:Pos}{k:Nat}(am:X.calm=true)(dM:X.N.Nodup)(aD:X.N[k]?=some y)(bP:Loc X.env.scope y)(c:g_ X scope N' nt cap)(au:nX X bp iter ec)(a_:∀ C ex s H,oR (fX X scope N' C ex s H) bp g)(he:∀ C ex s H,b5 (fX X scope N' C ex s H) elt aW)
 (ax:∀ x,nD iter X.env x=pure x:=by intro _;rfl) (mT:jL (.ListComp elt [⟨bp,iter,[],0⟩] scope pos) (some (.Name y py)) qt.line X.env=pure true:=by rfl) (hf:X.fn y=true\/X.env.scope.names.lookup y=some .local:=by first | exact .inl rfl | exact .inr rfl | assumption) :
 jX X (.Assign [.Name y py] (.ListComp elt [⟨bp,iter,[],0⟩] scope pos) qt) (tH (v4 ec g aW nt cap) (tG k)):=by
 intro pins s σ H n6 I h;rw [exec_Assign_Name_used _ _ _ _ mT];refine aK (p2 (aK ?_));show aZ _ X.A (do let _ ← comprehension (.ListComp elt [⟨bp,iter,[],0⟩] scope pos) scope X.env _ (newList []) false (eval iter X.env) (some (jN (.Name y py) X.env))) _ _ s;refine aK (hR (HM (use:=some (jN (.Name y py) X.env)) (Q:=λ _ aQ=>lQ X pins n6 .next aQ) rfl ax (Jc (c.has I.ok)) c.kind c.locs (b2 (au pins s σ H _ I h) λ v s1 ae=>b2 ae λ y6 s2 ag=>?_)) (λ _ aQ aM=>bC (bC aM)) λ _ _ e=>e);obtain ⟨it,fp,hX,J,a3,rfl,c5,T,rH,f2,R⟩:=ag;have i9:a3 s2.heap.objs.size=none:=c5.bU.fresh (b4 _);obtain ⟨W,⟨m0,d2⟩,turn⟩:=R _ i9
 have ei:Inv X pins σ (upd a3 s2.heap.objs.size (.lst [])) { s2 with heap:=s2.heap.push { cls:=.type "list", dict:=none,data:=.seq ([]:List Value).toArray } }:=
  c5.laid (t':=s2.toks) (λ b u e=>dQ _ e) (b4 _) ⟨fi _,[],0,.nil,hG _ rfl⟩
 have o3:∀ b∈fp,b < s2.heap.objs.size:=λ b af=>by
  obtain ⟨o,e,_⟩:=T.obj _ _ rH b af;exact dL e
 have dn:∀ b∈fp,jq X pins (upd a3 s2.heap.objs.size (.lst [])) b:=λ b af=>⟨by rw [cQ (eW (o3 b af))];exact (f2 b af).1,(f2 b af).2⟩
 have qn:hX 0 (s2.heap.push { cls:=.type "list", dict:=none,data:=.seq ([]:List Value).toArray }):=T.keep _ _ _ rH λ b _ o e=>dQ _ e;generalize v5:s2.heap.push { cls:=.type "list", dict:=none,data:=.seq ([]:List Value).toArray }=aO at ei qn
 have rN:s2.heap.objs.size < aO.objs.size:=by rw [<- v5,Heap.size_push];exact Nat.lt_succ_self _
 generalize Ct:s2.heap.objs.size=D at ei dn i9 d2 turn rN o3;refine kx ?_;rw [Ct,v5];refine wpAny_newFunctionEnv c.Cr (by intro y bP;simp at bP) (λ bX v6 v7=>?_) c.kind
 dsimp only at v6 v7 ⊢
 have v8:∀ b o,aO.get? b=some o->bX.get? b=some o:=λ b o e=>(v7.2 b (eW (dL e))).trans (dQ _ e);have il:=ei.comp (t':=s2.toks+([]:List (Str × Value)).length) c dn (λ b af=>tm (o3 b af) rN) v8 v6;have v9:hX 0 bX:=T.keep _ _ _ qn λ b _ o e=>v8 b o e
 dsimp only at il
 have fin:∀{σ':St}{aj:av}{aQ:aF},Inv (fX X scope N' aO.objs.size fp { s2 with heap:=aO } (upd a3 D (.lst []))) [] σ' aj aQ->n6.nx (σ.set k (some (.ref D))) aj →
  compPost (a8 X.prog X.w) X.A X.xe (some (jN (.Name y py) X.env)) (λ _ aQ=>lQ X pins n6 .next aQ) (.ref D) aO.objs.size (.ok .next) aQ:=λ{σ' aj aQ} zt q=>by
  obtain ⟨m,aA,df⟩:=ei.Jj rfl dn zt;have Ti:Inv X pins σ aj aQ:=df aQ.heap (Heap.SameBut.refl ..);have JF:aO.objs.size≠X.env.locals:=rv ei.lt
  have JG:∀ x a,X.env.cells.lookup x=some a->a≠aO.objs.size:=λ x a e=>by
   obtain ⟨v,z⟩:=ei.cell x a e;exact eW z.lt
  show aZ _ X.A (jN (.Name y py) X.env (.ref D)) _ _ aQ;refine wpAny_assign_Name (HX Ti dM aD bP (v:=.ref D) rfl (λ vQ Tj kF=>?_) hf);obtain ⟨a,hk,ay⟩:=kF
  have Tl:aO.objs.size≠a:=by
   rcases ay with z | z
   ·rw [z];exact JF
   ·exact (JG _ _ z).symm
  refine ⟨m,aA.sameBut hk Tl,λ h' o4=>⟨_,aj,?_,q⟩⟩
  exact Tj.turned (t':=vQ.toks) (λ b o af e=>(o4.2 b af).trans e) zt.free JF (.inr ei.h_) JG λ p ah z=>by
   have e:=(ei.pin p ah).1;rw [z] at e;exact absurd (dL e) (nO _)
 have mK:∀{aj:av},(∀ b∈fp,aj b=none)->∀ b∈fp,jq (fX X scope N' aO.objs.size fp { s2 with heap:=aO } (upd a3 D (.lst []))) [] aj b:=λ{aj} aA b af=>by
  refine ⟨aA b af,eW (tm (o3 b af) rN),λ z=>?_,.inl af,λ x a e=>(dn b af).2.2.2.2.1 x a (c.cells I.ok e),λ p ah=>absurd (show p∈([]:List (Addr × Obj)) from ah) (by simp)⟩;rcases cB.mp (I.tC b z) with y | y
  ·exact (dn b af).2.1 y
  ·exact (dn b af).2.2.1 y
 have loop:p9 (a8 X.prog X.w) X.A (.compLoop (.ListComp elt [⟨bp,iter,[],0⟩] scope pos) 0 (.ref it) (.ref D) (rf scope (io X.env.cells scope.names []) aO.objs.size X.env))
  (compPost (a8 X.prog X.w) X.A X.xe (some (jN (.Name y py) X.env)) (λ _ aQ=>lQ X pins n6 .next aQ) (.ref D) aO.objs.size) { s2 with heap:=bX,toks:=s2.toks+([]:List (Str × Value)).length }:=by
  refine codeAny_loop rfl (λ n aQ=>∃ i ys σ' aj,Inv (fX X scope N' aO.objs.size fp { s2 with heap:=aO } (upd a3 D (.lst []))) [] σ' aj aQ/\hX i aQ.heap/\(∀ b∈fp,aj b=none)/\W i n ys σ' aj) (λ n s5 v_=>?_) m0 ⟨0,[],_,_,il,v9,λ b af=>(dn b af).1,d2⟩;obtain ⟨i,ys,σ5,jr,oS,oT,rI,Cu⟩:=v_;show aZ _ X.A ((compTurn (.ListComp elt [⟨bp,iter,[],0⟩] scope pos) 0 (.ref it) (.ref D) (rf scope (io X.env.cells scope.names []) aO.objs.size X.env)).onRaise (λ x=>do WF x (rf scope (io X.env.cells scope.names []) aO.objs.size X.env);theTreesLotGoes x)) _ _ s5;refine wpAny_noted ?_;rw [compTurn_list1];rcases turn i n ys σ5 jr Cu with ⟨stop,vN⟩ | ⟨go,step⟩
  ·refine aK (p2 (aK (hR (T.done (fX X scope N' aO.objs.size fp { s2 with heap:=aO } (upd a3 D (.lst []))) rfl rfl rfl am i [] s5 σ5 jr (λ _ _=>False) oS (mK rI) oT stop) (λ r iJ ⟨ak,mL⟩=>?_) λ _ _ z=>z.elim)));subst ak;exact bC (fin mL vN)
  ·refine aK (p2 (aK (hR (T.item (fX X scope N' aO.objs.size fp { s2 with heap:=aO } (upd a3 D (.lst []))) rfl rfl rfl am i [] s5 σ5 jr (λ _ _=>False) oS (mK rI) oT go) (λ r iJ ⟨u,ak,hZ⟩=>?_) λ _ _ z=>z.elim)));subst ak;refine aK (hR hZ (λ _ jZ ⟨x,i7,j0,vO,Cv,rO,Cw⟩=>?_) λ _ _ z=>z.elim);have Cx:=j0.pinned (mK Cw) (T.obj _ _ rO);refine aK (hR (a_ _ _ _ _ _ jZ σ5 i7 x u _ Cx vO (step x i7 Cv)) (λ _ Cy ⟨σ8,Cz,CA,tO⟩=>?_) λ _ _ z=>z.elim);refine aK (aK (hR (he _ _ _ _ _ Cy σ8 Cz _ CA tO) (λ CB CC ⟨y,wa,CD,CE,o5,wb,dR,CF,CG⟩=>?_) λ _ _ z=>z.elim))
   refine aK (hR (Cj (X:=fX X scope N' aO.objs.size fp { s2 with heap:=aO } (upd a3 D (.lst []))) _ CC σ8 wa (.ref D) [y] (.ref D) [CB] (λ v wc=>v=.bc/\wc=upd wa D (.lst (ys++[y]))) CD rfl (.cons CE .nil) ⟨D,ys,y,rfl,rfl,o5,wb,rfl,rfl⟩)
    (λ _ Sj ⟨v10,wc,rP,_,_,CH⟩=>?_) λ _ _ z=>z.elim)
   subst CH;refine bC (bC ⟨rfl,dR,CF,i+1,ys++[y],σ8,_,rP.vM,?_,λ b af=>?_,CG⟩)
   ·exact T.keep _ _ _ rO λ b af o e=>(rP.pin (b,o) (h6 _ (h6 _ (tJ af e)))).1
   ·obtain ⟨o,e,d⟩:=T.obj _ _ rO b af;exact (rP.pin (b,o) (h6 _ (h6 _ (tJ af e)))).2.1
 exact HN loop (T.self _ 0 _ _ _ v9 loop)
end
end L2
namespace L2
open PySem PySem.Spec PyProof.Rows Builtin
section
variable{X:aT}
theorem JH{us:List Value}{xs:List V}(r:Vals xs us):∀ k:Nat,Vals (fs k xs).flatten (fs k us).flatten
 | 0=>.nil
 | k+1=>by
  rw [nM,nM,vp,vp];exact r.append (JH r k)
end
section
variable{X:aT}{a b c e:a9}{t:fT}{aW:TE}{pos p:Pos}
variable{scope:gF}{N':List Str}{nt:Nat}{cap:List Nat}{elt iter bp:a9}{ec:TI}{g:g4}
def Tn{y:Str}{py qt:Pos}{k:Nat}(am:X.calm=true)(dM:X.N.Nodup)(aD:X.N[k]?=some y)(bP:Loc X.env.scope y)(ok:g_ X scope N' nt cap)(au:tP X bp iter ec)(a_:∀ C ex s H,kO (fX X scope N' C ex s H) bp g)(he:∀ C ex s H,c4 (fX X scope N' C ex s H) elt aW)
 (ax:∀ x,nD iter X.env x=pure x:=by intro _;rfl) (mT:jL (.ListComp elt [⟨bp,iter,[],0⟩] scope pos) (some (.Name y py)) qt.line X.env=pure true:=by rfl) (hf:X.fn y=true\/X.env.scope.names.lookup y=some .local:=by first | exact .inl rfl | exact .inr rfl | assumption) :
 lq X (.Assign [.Name y py] (.ListComp elt [⟨bp,iter,[],0⟩] scope pos) qt) (tH (v4 ec g aW nt cap) (tG k)):=⟨Th am dM aD bP ok au.run (λ C ex s H=>(a_ C ex s H).run) (λ C ex s H=>(he C ex s H).run) ax mT hf⟩
end
end L2
namespace mU
open PySem PyProof.Rows
def own:Manifest.owners.lookup (String.ofList ['d', 'e', 's', 'r', 'e', 'v', 'e', 'r'].reverse)=some Manifest.sig_reversed:=by kernel_rfl
def wi:Slot "reversed" "__next__" "reversed.__next__":=.of (owner:="reversed") (n:="__next__") (by rw [yj,yh];kernel_rfl) (by trivial) (by trivial) (by trivial) (by first | exact .inl (by trivial) | exact .inr (by trivial)) (by rw [ve];kernel_rfl)
def JI:Slot "reversed" "__iter__" "reversed.__iter__":=.of (owner:="reversed") (n:="__iter__") (by rw [yj,yh];kernel_rfl) (by trivial) (by trivial) (by trivial) (by first | exact .inl (by trivial) | exact .inr (by trivial)) (by rw [ve];kernel_rfl)
def To:Slot "reversed" "__init__" "object.__init__":=.of (owner:="object") (n:="__init__") (by rw [yj,yh];kernel_rfl) (by trivial) (by trivial) (by trivial) (by first | exact .inl (by trivial) | exact .inr (by trivial)) (by rw [ve];kernel_rfl)
def JJ:entryFor table "reversed.__next__" = some Builtin.«reversed.__next__»:=entryFor_of_tree (by kernel_rfl)
def Tp:entryFor table "reversed.__iter__" = some Builtin.«dict_keyiterator.__iter__»:=entryFor_alias (id':="dict_keyiterator.__iter__") (by kernel_rfl) (by first | rfl | decide +kernel | (unfold String.splitOn;simp +decide [String.splitOnAux])) (by trivial) (by kernel_rfl)
def JK(a:Value):argsOk "reversed.__next__" ⟨[a],[]⟩:=by unfold argsOk;rw [signature?_of (id:="reversed.__next__") (n:=['_', '_', 't', 'x', 'e', 'n', '_', '_']) (o:=['d', 'e', 's', 'r', 'e', 'v', 'e', 'r']) (by kernel_rfl) own];kernel_rfl
def Tq(a:Value):argsOk "reversed.__iter__" ⟨[a],[]⟩:=by unfold argsOk;rw [signature?_of (id:="reversed.__iter__") (n:=['_', '_', 'r', 'e', 't', 'i', '_', '_']) (o:=['d', 'e', 's', 'r', 'e', 'v', 'e', 'r']) (by kernel_rfl) own];kernel_rfl
def Tr:TypeCalled "reversed" "reversed.__new__" "object.__init__":=⟨by trivial,by trivial,⟨_,_,F.mro_reversed⟩,F.made_reversed,by trivial,by rw [ve];kernel_rfl,To⟩
def Ts:typeLookup (.type "tuple") "__reversed__" = pure none:=by rw [yj,yh];kernel_rfl
def Tt:isSubtype (.type "tuple") (.type "dict")=pure false:=by rw [ve];kernel_rfl
abbrev tQ(h:bO)(it t:Addr)(k:Int):Prop:=h.get? it=some { cls:=.type "reversed", dict:=none,data:=.fields #[.ref t,hD k],slots:=#[] }
section
variable{prog:cS}{w:b_}{A:cL}{E:Value->aF->Prop}{s:aF}{it t:Addr}
def Tu{α:Type}{Q:α->aF->Prop}(df:A.handled=none)(h:∀ h' e,(∀ b o,s.heap.get? b=some o->h'.get? b=some o)->Shared.TypeIs { s with heap:=h' } (.ref e) "StopIteration"->E (.ref e) { s with heap:=h' }):aZ (a8 prog w) A (Builtin.SmallTypes.stopIteration:Sem α) Q E s:=by
 unfold Builtin.SmallTypes.stopIteration;refine aK ?_;unfold newExc newTuple;refine aK (kx ?_ (by size_fits));rw [show firstArgMember (.type "StopIteration") []=pure Value.none from by unfold firstArgMember;rfl,pure_bind];refine kx ?_ (by size_fits);unfold raiseNew;refine aK (wpAny_handled ?_);rw [df];exact wpAny_throw (h _ _ (λ b o e=>dQ _ (dQ _ e)) ⟨_,hG _ rfl,rfl⟩)
def JL{k:Int}{Q:Value->aF->Prop}(hit:tQ s.heap it t k)(h:Q (.ref it) s):aZ (a8 prog w) A (pyIter (.ref it)) Q E s:=
 have eo:s.TypeIs (.ref it) "reversed":=⟨_,hit,rfl⟩
 wpAny_pyIter_slot eo JI (nE JI eo Tp (bC ⟨_,rfl,"reversed", _,eo,wi.lookup,h⟩) (Tq _))
def nextT{k:Nat}{items:Array Value}{x:Value}{Q:Option Value->aF->Prop}(hit:tQ s.heap it t k)(bu:mz s.heap t items)(ai:items[k]?=some x)(aD:(k:Int) < 2 ^ 63)
 (hU:∀ h' bR,tQ h' it t ((k:Int) - 1)->Heap.SameBut it s.heap h'->Q (some x) { s with heap:=h',toks:=bR }):aZ (a8 prog w) A (nG (.ref it)) Q E s:=by
 have eo:s.TypeIs (.ref it) "reversed":=⟨_,hit,rfl⟩
 have eG:k < items.size:=(tp.mp ai).1;unfold nG;refine aK (p4 (wpAny_callSpecial?_slot eo wi (nE wi eo JJ ?_ (JK _))));refine (show aZ (a8 prog w) A.in1 (oC (.ref it) 0 >>= _) _ _ s from aK (hQ hit rfl (x:=.ref t) rfl ?_));refine (show aZ (a8 prog w) A.in1 (oC (.ref it) 1 >>= _) _ _ s from aK (hQ hit rfl (x:=hD k) rfl ?_));refine (show aZ (a8 prog w) A.in1 (if (k:Int) < 0 then _ else _) _ _ s from ?_);rw [if_neg (by omega)];refine aK (BI bu.typeIs slot_tuple_getitem.lookup ?_);rw [if_neg (by simp)];refine (show aZ (a8 prog w) A.in1 (mkInt k >>= _) _ _ s from aK (wpAny_mkInt ?_));refine aK (p4 (getItem_tuple (j:=k) (x:=x) (s:={ s with toks:=s.toks+1 }) bu (by omega) aD (by simp [seqIndex?];omega) ai ?_));refine (show aZ (a8 prog w) A.in1 (oC (.ref it) 1 >>= _) _ _ _ from aK (hQ hit rfl (x:=hD k) rfl ?_));exact aK (s9 hit rfl (by simp) (bC ⟨x,rfl,bC (hU _ _ (qf _ hit rfl) (Heap.SameBut.update ..))⟩))
def Tv{k:Int}{Q:Option Value->aF->Prop}(df:A.handled=none)(hit:tQ s.heap it t k)(aD:k < 0)(hU:∀ h',Heap.ExtBut it s.heap h'->Q none { s with heap:=h' }):aZ (a8 prog w) A (nG (.ref it)) Q E s:=by
 have eo:s.TypeIs (.ref it) "reversed":=⟨_,hit,rfl⟩
 unfold nG;refine aK (p4 (wpAny_callSpecial?_slot eo wi (nE wi eo JJ ?_ (JK _))));refine (show aZ (a8 prog w) A.in1 (oC (.ref it) 0 >>= _) _ _ s from aK (hQ hit rfl (x:=.ref t) rfl ?_));refine (show aZ (a8 prog w) A.in1 (oC (.ref it) 1 >>= _) _ _ s from aK (hQ hit rfl (x:=hD k) rfl ?_));refine (show aZ (a8 prog w) A.in1 (if k < 0 then _ else _) _ _ s from ?_);rw [if_pos aD];refine aK (rd (aK ?_));refine (show aZ (a8 prog w) A.in1 (vi (.ref it) 1 (hD (-1)) >>= λ _=>vi (.ref it) 0 .none) _ _ s from aK (s9 hit rfl (by simp) ?_));refine s9 (qf (Obj.mapFields (·.setIfInBounds 1 (hD (-1)))) hit rfl) rfl (by simp) ?_;refine aK (Tu (A:=A.in1) df λ h' e eY ax=>?_);refine aK (BG (T:="StopIteration") (b:=true) ax isSubtype_stop (bC (hU _ λ b o af e=>eY b o ?_)));exact ((Heap.SameBut.update ..).trans (Heap.SameBut.update ..)).extBut b o af e
end
def mV(t:Addr)(items:Array Value)(hz:(items.size:Int) < 2 ^ 63) :
 Meets (Builtin.«reversed.__new__» ⟨[.type "reversed", .ref t],[]⟩) (λ _ R s=>mz s.heap t items ∧
  ∀ bR,R (.ok (.ret (.ref s.heap.objs.size))) { s with heap:=s.heap.push { cls:=.type "reversed", data:=.fields #[.ref t,hD ((items.size:Int) - 1)] },toks:=bR }):=
 .of_wp λ prog w A R s ⟨bu,h⟩=>by
  unfold Builtin.«reversed.__new__»;refine aK (wpAny_of_eq (newClass_reversed _) (aK (m:=Builtin.SmallTypes.refuseKeywords _ _ _) (bC ?_)));refine aK (wpAny_of_eq (a:=()) (by rfl) (aK (BI bu.typeIs Ts (aK ?_))));refine (show aZ (a8 prog w) A.in1 (vg (Value.ref t) (.type "dict") >>= _) _ _ s from aK (BG (T:="tuple") (b:=false) bu.typeIs Tt ?_));rw [if_neg (by decide)];refine aK (BI bu.typeIs slot_tuple_getitem.lookup ?_);refine (show aZ (a8 prog w) A.in1 (if (["tuple.__getitem__", "str.__getitem__", "bytes.__getitem__", "bytearray.__getitem__", "memoryview.__getitem__", "numpy.ndarray.__getitem__", "sqlite3.Row.__getitem__"].contains "tuple.__getitem__")=true then _ else _) _ _ s from ?_);rw [if_pos (by decide)];refine bC ?_;rw [if_neg (by decide)];refine (show aZ (a8 prog w) A.in1 (call (.builtin "len") [.ref t] >>= _) _ _ s from aK (len_tuple bu hz ?_));refine aK (m:=asInt? (.int (items.size:Int) _)) (bC ?_);refine (show aZ (a8 prog w) A.in1 (newObj (.type "reversed") (.fields #[.ref t,hD ((items.size:Int) - 1)]) >>= _) _ _ _ from aK (kx ?_ (by size_fits)));exact bC ⟨_,rfl,h _⟩
def Tw{prog:cS}{w:b_}{A:cL}{E:Value->aF->Prop}{s:aF}{t:Addr}{items:Array Value}{Q:Value->aF->Prop}(bu:mz s.heap t items)(hz:(items.size:Int) < 2 ^ 63)
 (h:∀ bR,Q (.ref s.heap.objs.size) { s with heap:=s.heap.push { cls:=.type "reversed", data:=.fields #[.ref t,hD ((items.size:Int) - 1)] },toks:=bR }):aZ (a8 prog w) A (call (.type "reversed") [.ref t]) Q E s:=
 callType_new Tr (by decide) (F.typeCall_reversed_1 _) (F.newCall_reversed_1 _) (λ obj=>F.args_object_init_2 obj _) F.entry_reversed_new (mV t items hz) ⟨bu,λ bR=>⟨⟨_,hG _ rfl,rfl⟩,h bR⟩⟩
section
variable{prog:cS}{w:b_}{A:cL}{E:Value->aF->Prop}{s:aF}{R:Result->aF->Prop}{I S:Addr}{fp wr:List Addr}{n:Nat}{P:Nat->Value->Prop}{St:Nat->aF->Prop}
abbrev listAt(acc:Array Value)(c:Nat):Obj:={ cls:=.type "list", dict:=none,data:=.seq acc c,slots:=#[] }
end
def Tx{wr:List Addr}{s aQ:aF}(hm:Moved wr (λ a b=>b=a) s aQ):aQ={ s with heap:=aQ.heap,toks:=aQ.toks }:=by
 obtain ⟨h',g',d',afx,vP⟩:=aQ;cases (show g'=s.gens from hm.gens);cases (show d'=s.drawn from hm.drawn);cases (show vP=s.os from hm.os);rfl
end mU
namespace L2
open PySem PySem.Spec PyProof.Rows
section
variable{X:aT}{e:a9}{aW:TE}{p dN pos zv:Pos}
def Ty(X:aT)(pins:List (Addr × Obj))(σ:St)(R:Addr->List V->av->Prop)(v:Value)(s:aF):Prop:=
 ∃(a it:Addr)(xs:List V)(aw:List Value)(H:av),v=.ref it/\Inv X pins σ H s/\mU.tQ s.heap it a ((aw.toArray.size:Int) - 1)/\mz s.heap a aw.toArray/\a≠it/\Vals xs aw/\aw.toArray.size<=sizeLine/\eb X.K H a xs/\jq X pins H it/\R a xs H
def Tz(X:aT)(pins:List (Addr × Obj))(σ:St)(R:Addr->List V->av->Prop)(v:Value)(s:aF):Prop:=
 ∃(a it:Addr)(xs:List V)(aw:List Value)(H:av),v=.ref it/\Inv X pins σ H s/\s.heap.IsRevIter it a ((aw.toArray.size:Int) - 1)/\s.heap.IsList a aw.toArray/\a≠it/\Vals xs aw/\aw.toArray.size<=sizeLine/\d7 X.K H a xs/\jq X pins H it/\R a xs H
def TA{pins:List (Addr × Obj)}{s:aF}{σ:St}{H:av}{R:Addr->List V->av->Prop}(a_:ew X "reversed")(hm:X.mg "reversed" = none)(he:b5 X e aW)(ax:gu e=true)(I:Inv X pins σ H s)
 (h:aW σ H λ x H1=>∃ a xs,x=.ref a/\eb X.K H1 a xs/\R a xs H1):aZ (a8 X.prog X.w) X.A (eval (.Call (.Name "reversed" dN) [e] [] zv) X.env) (Ty X pins σ R) X.xe s:=by
 refine q7 (qk I a_ hm PyProof.Rows.boot_reversed ?_);refine tv ?_ (j3 ax) rfl;rw [j3 ax];show aZ _ _ (spliced ((false,eval e X.env)::g0 zv (dU [] X.env))) _ _ s;refine Calls.spliced_cons (b2 (he pins s σ H _ I h) λ u s1 ⟨x,H1,a4,aX,a,xs,ex,aM,q⟩=>Calls.spliced_nil ?_);subst ex;cases aX;obtain ⟨aw,a5,pl,hz⟩:=a4.tuple aM;have ar:=a5.length;have afy:=oW;refine mU.Tw pl (by rw [cH];omega) λ bR=>?_;exact ⟨a,s1.heap.objs.size,xs,aw,H1,rfl,a4.kept λ b o e=>dQ _ e,hG _ rfl,pl.push _,eW pl.lt,a5,by rw [cH];omega,aM,a4.qm (b4 _) (a4.bU.fresh (b4 _)),q⟩
def afz{pins:List (Addr × Obj)}{s:aF}{σ:St}{H:av}{R:Addr->List V->av->Prop}(a_:ew X "reversed")(hm:X.mg "reversed" = none)(he:b5 X e aW)(ax:gu e=true)(I:Inv X pins σ H s)
 (h:aW σ H λ x H1=>∃ a xs,x=.ref a/\d7 X.K H1 a xs/\R a xs H1):aZ (a8 X.prog X.w) X.A (eval (.Call (.Name "reversed" dN) [e] [] zv) X.env) (Tz X pins σ R) X.xe s:=by
 refine q7 (qk I a_ hm PyProof.Rows.boot_reversed ?_);refine tv ?_ (j3 ax) rfl;rw [j3 ax];show aZ _ _ (spliced ((false,eval e X.env)::g0 zv (dU [] X.env))) _ _ s;refine Calls.spliced_cons (b2 (he pins s σ H _ I h) λ u s1 ⟨x,H1,a4,aX,a,xs,ex,aM,q⟩=>Calls.spliced_nil ?_);subst ex;cases aX;obtain ⟨aw,a5,pl,hz⟩:=a4.list aM;have ar:=a5.length
 have eG:a < s1.heap.objs.size:=by obtain ⟨o,aR,_⟩:=pl.isList;exact dL aR
 refine call_reversed_list pl.isList ?_;exact ⟨a,s1.heap.objs.size,xs,aw,H1,rfl,a4.kept (t':=s1.toks) λ b o e=>dQ _ e,⟨_,hG _ rfl,rfl,rfl⟩,let ⟨o,aR,r⟩:=pl.isList;⟨o,dQ _ aR,r⟩,eW eG,a5,by rw [cH];omega,aM,a4.qm (b4 _) (a4.bU.fresh (b4 _)),q⟩
def afA{pins:List (Addr × Obj)}{σ:St}{H:av}{s aQ:aF}{it:Addr}{acc:Array Value}{c:Nat}{ys:List V}{Q:cC}(I:Inv X pins σ H s)(fp:jq X pins H it)(hit:it < s.heap.objs.size)
 (hm:Moved (s.heap.objs.size::[it]) (λ a b=>b=a) { s with heap:=s.heap.push (mU.listAt #[] 0) } aQ) (dr:aQ.heap.get? s.heap.objs.size=some (mU.listAt acc c))
 (a5:Vals ys acc.toList) (hz:ys.length<=sizeLine) (q:∀ l,H l=none->Q (.ref l) (upd H l (.lst ys))):gg X pins σ Q (.ref s.heap.objs.size) aQ:=by
 have c5:Inv X pins σ (upd H s.heap.objs.size (.lst ys)) { s with heap:=s.heap.push { cls:=.type "list", dict:=none,data:=.seq acc c,slots:=#[] } }:=
  I.laid (t':=s.toks) (λ b o e=>dQ _ e) (b4 _) (show f5 X.prog X.w _ _ _ (.lst ys) from ⟨hz,acc.toList,c,a5,by simpa using hG s.heap (o:={ cls:=.type "list", dict:=none,data:=.seq acc c,slots:=#[] }) rfl⟩)
 obtain ⟨f0,f1,f2,dn,f4,eK⟩:=fp;have ei:=c5.turned (h':=aQ.heap) (t':=aQ.toks) (it:=it) (λ b o af e=>?_) (by rw [cQ (eW hit)];exact f0) f1 dn f4 eK
 ·rw [mU.Tx hm];exact ⟨.ref s.heap.objs.size,_,ei,rfl,q _ (I.bU.fresh (b4 _))⟩
 ·rcases Heap.get?_push_cases e with ⟨cN,cc⟩ | e
  ·rw [cN,cc];exact dr
  ·refine hm.heap b o (λ z=>?_) (dQ _ e);simp only [cB,fR,or_false] at z;rcases z with z | z
   ·rw [z] at e;exact absurd (dL e) (nO _)
   ·exact af z
def TB:∀(bs:List Bool),(hE bs.length).all (λ i=>bs.getD i true)=bs.all id:=by
 intro bs;rw [tt,kA,kA];constructor
 ·intro h x ai;obtain ⟨i,au,e⟩:=List.getElem_of_mem ai;have:=h i (oE.mpr au);rw [i2,e8 au,vw,e] at this;exact this
 ·intro h i au;have tR:=oE.mp au;rw [i2,e8 tR,vw];exact h _ (i3 tR)
def TC(K:aV):List V->av->cC->Prop:=λ xs H Q=>∃(p:Addr)(bs:List Bool),xs=[.ref p]/\d7 K H p (bs.map V.aJ)/\Q (.aJ (bs.all id)) H
def TD(am:X.calm=true):hY X (.builtin "all") (TC X.K):=by
 intro pins s σ H xs us Q I r h;obtain ⟨p,bs,rfl,ah,hU⟩:=h;obtain ⟨u,rfl,c1⟩:=r.one;cases c1;obtain ⟨aw,a5,pl,hz⟩:=I.list ah;have hlen:=a5.length;rw [cP] at hlen
 have eG:p < s.heap.objs.size:=by obtain ⟨o,aR,_⟩:=pl.isList;exact dL aR
 refine call_all_walk (wpAny_pyIter_list pl.isList ?_);refine ⟨s.heap.objs.size,[s.heap.objs.size,p],[s.heap.objs.size],aw.toArray.size,_,_,λ i=>bs.getD i true,rfl,Walks.list (A:=X.A.in1) (I.ok.hd am) _ p (eW eG) aw.toArray,⟨⟨_,hG _ rfl,rfl,rfl⟩,let ⟨o,aR,r⟩:=pl.isList;⟨o,dQ _ aR,r⟩⟩,?_,λ h' bR eY=>?_⟩
 ·intro i v aQ lR gW bJ aM
  have au:i < aw.length:=by
   have:=(tp.mp bJ).1;simpa using this
  obtain ⟨v1,aE,aP⟩:=a5.get (i:=i) (x:=V.aJ bs[i]) (by rw [f3,e8 (by omega)];rfl)
  have e3:aw[i]?=some v:=by simpa using bJ
  rw [aE] at e3;cases e3;have e4:v=Value.bool bs[i]:=aP;subst e4;refine oy ?_
  have wj:bs.getD i true=bs[i]:=by rw [i2,e8 (by omega)];rfl
  rw [<- wj];exact aM
 ·refine ⟨.aJ (bs.all id),H,I.kept λ b o e=>eY b o ?_ (dQ _ e),?_,hU⟩
  ·simp only [cB,fR,or_false];exact eW (dL e)
  ·show Value.bool _=Value.bool _;rw [cH,<- hlen,TB]
end
theorem Inv.zw{X:aT}{pins:List (Addr × Obj)}{σ:St}{H:av}{s:aF}{h':bO}{t':Nat}{fp:List Addr}(I:Inv X pins σ H s)(hf:∀ b∈fp,jq X pins H b)(k:∀ b o,b ∉ fp->s.heap.get? b=some o->h'.get? b=some o):Inv X pins σ H { s with heap:=h',toks:=t' }:=by
 have vF:∀ b u,H b=some u->b ∉ fp:=λ b u e z=>by rw [(hf b z).1] at e;cases e
 refine I.step (g':=s.gens) (d':=s.drawn) (ch:=fp) (λ b af=>?_) (λ b o _ _ am e _=>k b o am e) (λ b o _ _ am e _=>⟨o.slots,k b o am e⟩) (λ _ _ _ _ n=>n)
  (λ b o am e=>⟨o,k b o am e⟩) (λ _ _ e=>e) (λ _ _ _ e=>e) (λ b ps e=>⟨#[],by rw [e];simp⟩) (λ m hm=>?_) (λ b u e=>?_) I.bare
 ·obtain ⟨f0,f1,f2,dn,f4,eK⟩:=hf b af;exact ⟨dn,f1,f4,eK⟩
 ·obtain ⟨o,es,e9,aR,r⟩:=hm;exact ⟨o,es,e9,k _ o (λ z=>(hf _ z).2.1 rfl) aR,r⟩
 ·refine (I.bU b u e).nS (λ c v am q=>k c v ?_ q) (λ _ q=>q) λ _ _ q=>q;rcases am with z | z
  ·rw [z];exact vF b u e
  ·exact vF c _ z
def qu(o:Obj):gm:=.ih o (.ext λ _=>True)
structure TF(H:av)(f:Addr)(name qual:Str)(st:b1)(cl:List (Str × Addr))(rQ:List V):Prop where
 fn:∃(gT:Value)(eR:Option Addr)(doc pm bW ct:Value)(bq:Array (Option Value)),H f=some (qu ⟨gT,eR,.func (PySem.W.fnX name qual (n5 st) (j2 st) (cW st) cl .none .none doc pm none bW ct),bq⟩) ∧
  ∃ c o vs t,bW=.ref c/\H c=some (qu o)/\o.data=.fields vs/\vs[1]?=some (.str qual t)
 cells:∀(i:Nat)(x:Str)(c:Addr),cl[i]?=some (x,c)->∃ v u o,rQ[i]?=some v/\RelV v u/\H c=some (qu o)/\o.data=.cell (some u)
 len:cl.length=rQ.length
 TG:(cl.map (·.2)).Nodup
def TH(env:Env)(fr:List Str):List (Str × Addr):=fr.map λ x=>(x,(env.cells.lookup x).getD 0)
structure TJ(env:Env)(H:av)(f:Addr)(name qual:Str)(st:b1)(fr:List Str):Prop where
 fn:∃(gT:Value)(eR:Option Addr)(doc pm bW ct:Value)(bq:Array (Option Value)),H f=some (qu ⟨gT,eR,.func (PySem.W.fnX name qual (n5 st) (j2 st) (cW st) (TH env fr) .none .none doc pm none bW ct),bq⟩) ∧
  ∃ c o vs t,bW=.ref c/\H c=some (qu o)/\o.data=.fields vs/\vs[1]?=some (.str qual t)
def Tab(H:av)(T:Addr)(pos:Pos)(qual:Str):Prop:=∃ ps,H T=some (.oM ps)/\TriplesOk ps.toList/\(codeAmong pos ps.toList=none\/∃ c o vs t,codeAmong pos ps.toList=some (.ref c)/\H c=some (qu o)/\o.data=.fields vs/\vs[1]?=some (.str qual t))
end L2
namespace L3
open PySem PySem.Spec L2
inductive D where
 | bc | aJ (b:Bool) | int (i:Int) | str (x:Str) | ref (a:Addr) | ty (n:String) | tup (ds:List D) | ej (ds:List D)
def tS(K:aV)(H:av)(a:Addr)(xs:List V):Prop:=
 (∃ o,H a=some (.ih o (.lst xs)))\/∃(o:Obj)(aw:Array Value)(n:Nat),K.lookup a=some o/\o.cls=.type "list"/\o.dict=none/\o.data=.seq aw n/\aw.size<=sizeLine/\Vals xs aw.toList
theorem tS.fb{K:aV}{H:av}{a:Addr}{xs:List V}(h:tS K H a xs):d7 K H a xs:=by
 rcases h with h | h
 ·exact .inl (.inr h)
 ·exact .inr h
mutual
def dg(K:aV)(H:av):D->V->Prop
 | .bc,v=>v=.bc
 | .aJ b,v=>v=.aJ b
 | .int i,v=>v=.int i
 | .str x,v=>v=.str x
 | .ref a,v=>v=.ref a
 | .ty n,v=>v=.ty n
 | .tup ds,v=>∃ a vs,v=.ref a/\eb K H a vs/\bH K H ds vs
 | .ej ds,v=>∃ a vs,v=.ref a/\tS K H a vs/\bH K H ds vs
def bH(K:aV)(H:av):List D->List V->Prop
 | [],vs=>vs=[]
 | d::ds,vs=>∃ v r,vs=v::r/\dg K H d v/\bH K H ds r
end
structure qv(K:aV)(H aj:av):Prop where
 hq:∀ a xs,eb K H a xs->eb K aj a xs
 fr:∀ a xs,tS K H a xs->tS K aj a xs
 mW:∀ a o,H a=some (qu o)->aj a=some (qu o)
section
variable{K:aV}{H aj:av}
mutual
theorem dg.mono(h:qv K H aj):∀{d:D}{v:V},dg K H d v->dg K aj d v
 | .bc,_,r=>r
 | .aJ _,_,r=>r
 | .int _,_,r=>r
 | .str _,_,r=>r
 | .ref _,_,r=>r
 | .ty _,_,r=>r
 | .tup _,_,⟨a,vs,e,q,l⟩=>⟨a,vs,e,h.hq a vs q,bH.mono h l⟩
 | .ej _,_,⟨a,vs,e,q,l⟩=>⟨a,vs,e,h.fr a vs q,bH.mono h l⟩
theorem bH.mono(h:qv K H aj):∀{ds:List D}{vs:List V},bH K H ds vs->bH K aj ds vs
 | [],_,r=>r
 | _::_,_,⟨v,r,e,q,l⟩=>⟨v,r,e,dg.mono h q,bH.mono h l⟩
end
theorem bH.len:∀{ds:List D}{vs:List V},bH K H ds vs->vs.length=ds.length
 | [],_,r=>by cases r;rfl
 | _::_,_,⟨v,r,e,_,l⟩=>by subst e;simp [l.len]
theorem bH.append:∀{ds es:List D}{vs us:List V},bH K H ds vs->bH K H es us->bH K H (ds++es) (vs++us)
 | [],_,_,_,r,s=>by cases r;exact s
 | _::_,_,_,_,⟨v,r,e,q,l⟩,s=>by subst e;exact ⟨v,_,rfl,q,l.append s⟩
theorem bH.one{d:D}{v:V}(h:dg K H d v):bH K H [d] [v]:=⟨v,[],rfl,h,rfl⟩
theorem bH.get:∀{ds:List D}{vs:List V}{i:Nat}{d:D},bH K H ds vs->ds[i]?=some d->∃ v,vs[i]?=some v/\dg K H d v
 | [],_,_,_,_,e=>by simp at e
 | _::_,_,0,_,⟨v,r,bZ,q,l⟩,e=>by simp at e;subst e bZ;exact ⟨v,rfl,q⟩
 | _::_,_,i+1,d,⟨v,r,bZ,q,l⟩,e=>by
  subst bZ;obtain ⟨u,ae,ag⟩:=bH.get (i:=i) (d:=d) l (by simpa using e);exact ⟨u,by simpa using ae,ag⟩
theorem bH.take:∀{ds:List D}{vs:List V}(n:Nat),bH K H ds vs->bH K H (ds.take n) (vs.take n)
 | _,_,0,_=>by simp [bH]
 | [],_,n+1,r=>by cases r;simp [bH]
 | _::_,_,n+1,⟨v,r,e,q,l⟩=>by subst e;exact ⟨v,_,rfl,q,l.take n⟩
theorem bH.drop:∀{ds:List D}{vs:List V}(n:Nat),bH K H ds vs->bH K H (ds.drop n) (vs.drop n)
 | _,_,0,r=>r
 | [],_,n+1,r=>by cases r;simp [bH]
 | _::_,_,n+1,⟨v,r,e,q,l⟩=>by subst e;exact l.drop n
theorem bH.reverse:∀{ds:List D}{vs:List V},bH K H ds vs->bH K H ds.reverse vs.reverse
 | [],_,r=>by cases r;simp [bH]
 | _::_,_,⟨v,r,e,q,l⟩=>by subst e;rw [ti,ti];exact l.reverse.append (.one q)
theorem bH.set{d:D}{v:V}(h:dg K H d v):∀{ds:List D}{vs:List V}(i:Nat),bH K H ds vs->bH K H (ds.set i d) (vs.set i v)
 | [],_,_,r=>by cases r;simp [bH]
 | _::_,_,0,⟨u,r,e,q,l⟩=>by subst e;exact ⟨v,r,rfl,h,l⟩
 | _::_,_,i+1,⟨u,r,e,q,l⟩=>by subst e;exact ⟨u,_,rfl,q,l.set h i⟩
theorem bH.JM:∀(ns:List Int),bH K H (ns.map D.int) (ns.map V.int)
 | []=>rfl
 | n::ns=>⟨_,_,rfl,rfl,bH.JM ns⟩
end
def cut{α:Type}(xs:List α)(lo au:Option Int):List α:=(xs.drop (dD.cj xs.length 0 lo)).take (dD.cj xs.length xs.length au - dD.cj xs.length 0 lo)
theorem bH.cut{K:aV}{H:av}{ds:List D}{vs:List V}(h:bH K H ds vs)(lo au:Option Int):bH K H (L3.cut ds lo au) (lV vs lo au):=by
 have e:=h.len;rw [L3.cut,lV,e];exact (h.drop _).take _
inductive ha where
 | lst (ds:List D)
 | ins (C:Addr) (aC:List (Str × D))
 | i6 (dH:List (Key × D))
 | iH (dH:List (List Key × D))
 | CL (dH:List (List Key × D))
 | tab (pos:Pos) (qual:Str) | made (env:Env) (name qual:Str) (st:b1) (fr:List Str) | CM (name qual:Str) (st:b1) (fr:List Str) (vals:List D)
abbrev aL:=Addr->Option ha
abbrev ef:=List (Option D)
def up(G:aL)(a:Addr)(o:ha):aL:=λ b=>if b=a then some o else G b
def bg{G:aL}{a:Addr}{o:ha}:up G a o a=some o:=by unfold up;rw [if_pos rfl]
def dh{G:aL}{a b:Addr}{o:ha}(h:b≠a):up G a o b=G b:=by unfold up;rw [if_neg h]
def ip{G:aL}{a:Addr}{o u:ha}:up (up G a o) a u=up G a u:=by funext b;unfold up;split<;>rfl
def JN{G:aL}{a b:Addr}{o u:ha}(h:a≠b):up (up G a o) b u=up (up G b u) a o:=by
 funext c;unfold up;split<;>split<;>simp_all
def TK{G:aL}{a:Addr}{o:ha}(h:G a=some o):up G a o=G:=by
 funext b;unfold up;split
 ·next e=>rw [e,h]
 ·rfl
def zx{κ:Type}(K:aV)(H:av)(aC:List (κ × D))(dS:List (κ × V)):Prop:=aC.map (·.1)=dS.map (·.1)/\bH K H (aC.map (·.2)) (dS.map (·.2))
def tT(K:aV)(H:av)(a:Addr):ha->Prop
 | .lst ds=>∃ vs,H a=some (.lst vs)/\bH K H ds vs
 | .ins C aC=>∃ aU dS,H a=some (.ins C aU dS)/\zx K H aC dS
 | .i6 dH=>∃ dS,H a=some (.i6 dS)/\zx K H dH dS
 | .iH dH=>∃ dS,H a=some (.iH dS)/\zx K H dH dS
 | .CL dH=>∃ o dS,H a=some (.ih o (.iH dS))/\zx K H dH dS
 | .tab pos qual=>Tab H a pos qual
 | .made env name qual st fr=>TJ env H a name qual st fr
 | .CM name qual st fr vals=>∃ cl rQ,TF H a name qual st cl rQ/\cl.map (·.1)=fr/\bH K H vals rQ
def fu(K:aV)(G:aL)(H:av):Prop:=∀ a o,G a=some o->tT K H a o
theorem tT.some{K:aV}{H:av}{a:Addr}{o:ha}(h:tT K H a o):∃ u,H a=.some u:=by
 cases o with
 | lst ds=>obtain ⟨_,e,_⟩:=h;exact ⟨_,e⟩
 | ins C aC=>obtain ⟨_,_,e,_⟩:=h;exact ⟨_,e⟩
 | i6 dH=>obtain ⟨_,e,_⟩:=h;exact ⟨_,e⟩
 | iH dH=>obtain ⟨_,e,_⟩:=h;exact ⟨_,e⟩
 | CL dH=>obtain ⟨_,_,e,_⟩:=h;exact ⟨_,e⟩
 | tab pos qual=>obtain ⟨_,e,_⟩:=h;exact ⟨_,e⟩
 | made env name qual st fr=>obtain ⟨_,_,_,_,_,_,_,e,_⟩:=h.fn;exact ⟨_,e⟩
 | CM name qual st fr vals=>obtain ⟨_,_,h,_⟩:=h;obtain ⟨_,_,_,_,_,_,_,e,_⟩:=h.fn;exact ⟨_,e⟩
theorem fu.none{K:aV}{G:aL}{H:av}(h:fu K G H){a:Addr}(e:H a=.none):G a=.none:=by
 cases q:G a with
 | none=>rfl
 | some o=>obtain ⟨u,z⟩:=(h a o q).some;rw [e] at z;cases z
theorem tT.mono{K:aV}{H aj:av}{a:Addr}{o:ha}(bu:qv K H aj)(e:aj a=H a)(h:tT K H a o):tT K aj a o:=by
 cases o with
 | lst ds=>obtain ⟨vs,q,l⟩:=h;exact ⟨vs,by rw [e];exact q,l.mono bu⟩
 | ins C aC=>obtain ⟨aU,dS,q,l⟩:=h;exact ⟨aU,dS,by rw [e];exact q,l.1,l.2.mono bu⟩
 | i6 dH=>obtain ⟨dS,q,l⟩:=h;exact ⟨dS,by rw [e];exact q,l.1,l.2.mono bu⟩
 | iH dH=>obtain ⟨dS,q,l⟩:=h;exact ⟨dS,by rw [e];exact q,l.1,l.2.mono bu⟩
 | CL dH=>obtain ⟨o,dS,q,l⟩:=h;exact ⟨o,dS,by rw [e];exact q,l.1,l.2.mono bu⟩
 | tab pos qual=>
  obtain ⟨ps,ae,ag,aO⟩:=h;refine ⟨ps,by rw [e];exact ae,ag,?_⟩;rcases aO with aO | ⟨c,o,vs,t,aO,bX,d0⟩
  ·exact .inl aO
  ·exact .inr ⟨c,o,vs,t,aO,bu.mW _ _ bX,d0⟩
 | made env name qual st fr=>
  obtain ⟨gT,eR,doc,pm,bW,ct,bq,ae,c,o,vs,t,ag,aO,bX⟩:=h.fn;exact ⟨gT,eR,doc,pm,bW,ct,bq,bu.mW _ _ ae,c,o,vs,t,ag,bu.mW _ _ aO,bX⟩
 | CM name qual st fr vals=>
  obtain ⟨cl,rQ,C,ae,ag⟩:=h;obtain ⟨gT,eR,doc,pm,bW,ct,bq,aO,c,o,vs,t,bX,d0,hZ⟩:=C.fn;exact ⟨cl,rQ,⟨⟨gT,eR,doc,pm,bW,ct,bq,bu.mW _ _ aO,c,o,vs,t,bX,bu.mW _ _ d0,hZ⟩,λ i x c au=>let ⟨v,u,o,cN,cc,hr,wk⟩:=C.cells i x c au;⟨v,u,o,cN,cc,bu.mW _ _ hr,wk⟩,C.len,C.TG⟩,ae,ag.mono bu⟩
structure Go(K:aV)(G:aL)(H:av)(ap:aL)(aj:av):Prop where
 tup:qv K H aj
 mX:∀ a o,H a=some o->∃ dI,aj a=some dI
 same:∀ a o,H a=some o->G a=none->aj a=some o
 new:∀ a o,H a=some o->G a=none->ap a=none
 ck:fu K ap aj
section
variable{K:aV}{G aB aY ap:aL}{H H1 a3 aj:av}
theorem Go.refl(v:fu K G H):Go K G H G H:=⟨⟨λ _ _ h=>h,λ _ _ h=>h,λ _ _ h=>h⟩,λ _ o e=>⟨o,e⟩,λ _ _ e _=>e,λ _ _ _ e=>e,v⟩
theorem Go.trans(a:Go K G H aB H1)(b:Go K aB H1 aY a3):Go K G H aY a3:=
 ⟨⟨λ x xs h=>b.tup.hq x xs (a.tup.hq x xs h),λ x xs h=>b.tup.fr x xs (a.tup.fr x xs h),λ x o h=>b.tup.mW x o (a.tup.mW x o h)⟩,λ x o e=>let ⟨dI,bZ⟩:=a.mX x o e;b.mX x dI bZ,λ x o e n=>b.same x o (a.same x o e n) (a.new x o e n),
  λ x o e n=>b.new x o (a.same x o e n) (a.new x o e n),b.ck⟩
def Sub(G ap:aL):Prop:=∀ a o,G a=some o->ap a=some o
theorem Sub.refl(G:aL):Sub G G:=λ _ _ e=>e
theorem Sub.trans{G aB aY:aL}(a:Sub G aB)(b:Sub aB aY):Sub G aY:=λ x o e=>b x o (a x o e)
theorem Sub.none{G ap:aL}(h:Sub G ap){a:Addr}(e:ap a=.none):G a=.none:=by
 cases q:G a with
 | none=>rfl
 | some o=>rw [h a o q] at e;cases e
theorem fu.sub(v:fu K ap H)(h:Sub G ap):fu K G H:=λ a o e=>v a o (h a o e)
theorem Go.sub(g:Go K G H aB H1)(h:Sub aY aB):Go K G H aY H1:=⟨g.tup,g.mX,g.same,λ x o e n=>h.none (g.new x o e n),g.ck.sub h⟩
def TL{a p:Addr}{o:gm}{xs:List V}(ah:∀ ys,¬ oN H p (.tup ys))(h:eb K H a xs):eb K (upd H p o) a xs:=by
 rcases h with h | h
 ·have ne:a≠p:=by rintro rfl;exact ah _ h
  refine .inl ?_;unfold oN at h ⊢;rw [cQ ne];exact h
 ·exact .inr h
def TM{p:Addr}{ys:List V}(h:H p=none):¬ oN H p (.tup ys):=by
 rintro (e | ⟨o,e⟩)<;>rw [h] at e<;>cases e
def TN{p:Addr}{xs ys:List V}(h:H p=some (.lst xs)):¬ oN H p (.tup ys):=by
 rintro (e | ⟨o,e⟩)<;>rw [h] at e<;>cases e
def JO{p:Addr}{o:gm}(ah:∀ ys,¬ oN H p (.tup ys))(ar:∀ o ys,H p≠some (.ih o ys)):qv K H (upd H p o) where
 hq:=λ _ _ q=>TL ah q
 fr:=λ a xs q=>by
  rcases q with ⟨z,q⟩ | q
  ·exact .inl ⟨z,by rw [cQ (by rintro rfl;exact ar _ _ q)];exact q⟩
  ·exact .inr q
 mW:=λ a u q=>by rw [cQ (by rintro rfl;exact ar _ _ q)];exact q
def wl{p:Addr}{o:gm}(h:H p=none):qv K H (upd H p o):=JO (λ _=>TM h) λ _ _ e=>by rw [h] at e;cases e
def o7{p:Addr}{o:gm}{xs:List V}(h:H p=some (.lst xs)):qv K H (upd H p o):=JO (λ _=>TN h) λ _ _ e=>by rw [h] at e;cases e
theorem Go.mV(v:fu K G H){p:Addr}{o:gm}(h:H p=none):Go K G H G (upd H p o) where
 tup:=wl h
 mX:=λ a u e=>⟨u,by rw [cQ (h9 e h)];exact e⟩
 same:=λ a u e _=>by rw [cQ (h9 e h)];exact e
 new:=λ _ _ _ e=>e
 ck:=λ a u e=>(v a u e).mono (wl h) (cQ (by rintro rfl;obtain ⟨z,q⟩:=(v _ _ e).some;rw [h] at q;cases q))
theorem Go.n7(v:fu K G H){p:Addr}{ds:List D}{vs:List V}(h:H p=none)(r:bH K H ds vs):Go K G H (up G p (.lst ds)) (upd H p (.lst vs)) where
 tup:=wl h
 mX:=λ a u e=>⟨u,by rw [cQ (h9 e h)];exact e⟩
 same:=λ a u e _=>by rw [cQ (h9 e h)];exact e
 new:=λ a u e n=>by rw [dh (h9 e h)];exact n
 ck:=λ a u e=>by
  by_cases c:a=p
  ·subst c;rw [bg] at e;cases e;exact ⟨vs,eF,r.mono (wl h)⟩
  ·rw [dh c] at e;exact (v a u e).mono (wl h) (cQ c)
theorem Go.wm(v:fu K G H){p:Addr}{TO ds:List D}{vs:List V}(h:G p=some (.lst TO))(r:bH K H ds vs):Go K G H (up G p (.lst ds)) (upd H p (.lst vs)):=by
 obtain ⟨us,ah,_⟩:=v p _ h
 exact {
  tup:=o7 ah
  mX:=λ a u e=>by
   by_cases c:a=p
   ·subst c;exact ⟨_,eF⟩
   ·exact ⟨u,by rw [cQ c];exact e⟩
  same:=λ a u e n=>by
   have c:a≠p:=by rintro rfl;rw [h] at n;cases n
   rw [cQ c];exact e
  new:=λ a u e n=>by
   have c:a≠p:=by rintro rfl;rw [h] at n;cases n
   rw [dh c];exact n
  ck:=λ a u e=>by
   by_cases c:a=p
   ·subst c;rw [bg] at e;cases e;exact ⟨vs,eF,r.mono (o7 ah)⟩
   ·rw [dh c] at e
    exact (v a u e).mono (o7 ah) (cQ c) }
theorem Go.grow(v:fu K G H)(h:vZ H aj):Go K G H G aj:=by
 have bu:qv K H aj:=⟨λ b xs q=>by
  rcases q with q | q
  ·rcases q with q | ⟨o,q⟩
   ·exact .inl (.inl (h _ _ q))
   ·exact .inl (.inr ⟨o,h _ _ q⟩)
  ·exact .inr q,λ b xs q=>by
  rcases q with ⟨o,q⟩ | q
  ·exact .inl ⟨o,h _ _ q⟩
  ·exact .inr q,λ b o q=>h _ _ q⟩
 exact ⟨bu,λ a o e=>⟨o,h a o e⟩,λ a o e _=>h a o e,λ _ _ _ e=>e,λ a u e=>by
  obtain ⟨z,q⟩:=(v a u e).some
  exact (v a u e).mono bu (by rw [q];exact h _ _ q)⟩
end
structure dq(K:aV)(ρ:ef)(G:aL)(σ:St)(H:av):Prop where
 len:ρ.length=σ.length
 st:∀(i:Nat)(d:D),ρ[i]?=some (some d)->∃ v,σ[i]?=some (some v)/\dg K H d v
 ck:fu K G H
theorem dq.go{K:aV}{ρ:ef}{G ap:aL}{σ:St}{H aj:av}(b:dq K ρ G σ H)(g:Go K G H ap aj):dq K ρ ap σ aj:=
 ⟨b.len,λ i d e=>let ⟨v,ae,ag⟩:=b.st i d e;⟨v,ae,ag.mono g.tup⟩,g.ck⟩
theorem dq.set{K:aV}{ρ:ef}{G:aL}{σ:St}{H:av}{d:D}{v:V}(b:dq K ρ G σ H)(h:dg K H d v)(i:Nat):dq K (ρ.set i (some d)) G (σ.set i (some v)) H where
 len:=by simp [b.len]
 ck:=b.ck
 st:=λ j e he=>by
  by_cases c:j=i
  ·subst c;rw [List.getElem?_set] at he ⊢;have l:=b.len;simp only [if_true] at he ⊢;split at he
   ·next q=>rw [if_pos (by omega)];simp at he;subst he;exact ⟨v,rfl,h⟩
   ·cases he
  ·rw [nI (by omega)] at he ⊢;exact b.st j e he
def zy(ρ ρ':ef):Prop:=ρ.length=ρ'.length/\∀(i:Nat)(d:D),ρ[i]?=some (some d)->ρ'[i]?=some (some d)
theorem zy.refl(ρ:ef):zy ρ ρ:=⟨rfl,λ _ _ e=>e⟩
theorem dq.weak{K:aV}{ρ ρ':ef}{G ap:aL}{σ:St}{H:av}(b:dq K ρ' ap σ H)(s:zy ρ ρ')(g:Sub G ap):dq K ρ G σ H:=
 ⟨s.1.trans b.len,λ i d e=>b.st i d (s.2 i d e),b.ck.sub g⟩
abbrev cJ:=D->aL->Prop
abbrev cm:=ef->aL->cJ->Prop
abbrev hs:=ef->aL->(Bool->aL->Prop)->Prop
abbrev gK:=ef->aL->(List D->aL->Prop)->Prop
abbrev o8:=ef->aL->(Option Int->aL->Prop)->Prop
structure qw where
 nx:ef->aL->Prop
 rt:cJ
 bk:ef->aL->Prop:=λ _ _=>False
 ct:ef->aL->Prop:=λ _ _=>False
abbrev f7:=qw->ef->aL->Prop
abbrev Fin(K:aV)(G:aL)(H:av)(az:cJ)(Q:cC):Prop:=∀ d ap v aj,Go K G H ap aj->dg K aj d v->az d ap->Q v aj
abbrev JP(K:aV)(G:aL)(H:av)(az:Bool->aL->Prop)(Q:Bool->av->Prop):Prop:=∀ b ap aj,Go K G H ap aj->az b ap->Q b aj
abbrev TP(K:aV)(G:aL)(H:av)(az:Option Int->aL->Prop)(Q:Option Int->av->Prop):Prop:=∀ b ap aj,Go K G H ap aj->az b ap->Q b aj
abbrev CN(K:aV)(n:Nat)(G:aL)(H:av)(az:List D->aL->Prop)(Q:List V->av->Prop):Prop:=∀ ds ap vs aj,Go K G H ap aj->bH K aj ds vs->ds.length=n->az ds ap->Q vs aj
structure b7(X:aT)(e:a9)(t:cm):Prop where
 run:∃ bf:TE,c4 X e bf/\∀ ρ G az σ H Q,dq X.K ρ G σ H->t ρ G az->Fin X.K G H az Q->bf σ H Q
structure AT(X:aT)(e:a9)(t:hs):Prop where
 run:∃ bf:TT,ln X e bf/\∀ ρ G az σ H Q,dq X.K ρ G σ H->t ρ G az->JP X.K G H az Q->bf σ H Q
structure fc(X:aT)(e:a9)(t:hs):Prop where
 run:∃ bf:TT,o6 X e bf/\∀ ρ G az σ H Q,dq X.K ρ G σ H->t ρ G az->JP X.K G H az Q->bf σ H Q
structure iL(X:aT)(es:List a9)(t:gK):Prop where
 run:∃ bf:fT,lp X es bf/\∀ ρ G az σ H Q,dq X.K ρ G σ H->t ρ G az->CN X.K es.length G H az Q->bf σ H Q
structure rR(X:aT)(e:Option a9)(t:o8):Prop where
 run:∃ bf:lh,wg X e bf/\∀ ρ G az σ H Q,dq X.K ρ G σ H->t ρ G az->TP X.K G H az Q->bf σ H Q
structure mY(K:aV)(G:aL)(H:av)(bY:qw)(dA:Ends):Prop where
 nx:∀ ρ ap σ aj,Go K G H ap aj->dq K ρ ap σ aj->bY.nx ρ ap->dA.nx σ aj
 rt:Fin K G H bY.rt dA.rt
 bk:∀ ρ ap σ aj,Go K G H ap aj->dq K ρ ap σ aj->bY.bk ρ ap->dA.bk σ aj
 ct:∀ ρ ap σ aj,Go K G H ap aj->dq K ρ ap σ aj->bY.ct ρ ap->dA.ct σ aj
structure eA(X:aT)(st:b1)(t:f7):Prop where
 run:∃ bf:ft,lq X st bf/\∀ bY dA ρ G σ H,dq X.K ρ G σ H->t bY ρ G->mY X.K G H bY dA->bf dA σ H
structure n8(X:aT)(st:List b1)(t:f7):Prop where
 run:∃ bf:ft,mS X st bf/\∀ bY dA ρ G σ H,dq X.K ρ G σ H->t bY ρ G->mY X.K G H bY dA->bf dA σ H
abbrev hI:=D->ef->aL->(ef->aL->Prop)->Prop
abbrev rS:=List D->ef->aL->(ef->aL->Prop)->Prop
abbrev CO(K:aV)(G:aL)(H:av)(az:ef->aL->Prop)(Q:St->av->Prop):Prop:=∀ ρ ap σ aj,Go K G H ap aj->dq K ρ ap σ aj->az ρ ap->Q σ aj
structure lu(X:aT)(bp:a9)(t:hI):Prop where
 run:∃ bf:g4,kO X bp bf/\∀ d v ρ G az σ H Q,dq X.K ρ G σ H->dg X.K H d v->t d ρ G az->CO X.K G H az Q->bf v σ H Q
structure zz(X:aT)(TQ:List a9)(t:rS):Prop where
 run:∃ bf:mJ,wf X TQ bf/\∀ ds vs ρ G az σ H Q,dq X.K ρ G σ H->bH X.K H ds vs->t ds ρ G az->CO X.K G H az Q->bf vs σ H Q
abbrev zA:=D->aL->cJ->Prop
abbrev h1:=D->D->aL->cJ->Prop
abbrev tU:=List D->aL->cJ->Prop
structure gv(X:aT)(f:Value->Value->Sem Value)(r:h1):Prop where
 run:∃ rc:eZ,zu X f rc/\∀ x y eL ib G H az Q,fu X.K G H->dg X.K H x eL->dg X.K H y ib->r x y G az->Fin X.K G H az Q->rc eL ib H Q
structure JQ(X:aT)(f:Value->Sem Value)(r:zA):Prop where
 run:∃ rc:V->av->cC->Prop,Jm X f rc/\∀ x eL G H az Q,fu X.K G H->dg X.K H x eL->r x G az->Fin X.K G H az Q->rc eL H Q
structure j4(X:aT)(f:Value)(r:tU):Prop where
 run:∃ rc:List V->av->cC->Prop,CJ X f rc/\∀ xs vs G H az Q,fu X.K G H->bH X.K H xs vs->r xs G az->Fin X.K G H az Q->rc vs H Q
structure JR(X:aT)(r:h1):Prop where
 run:∃ rc:eZ,Jn X rc/\∀ x y eL ib G H az Q,fu X.K G H->dg X.K H x eL->dg X.K H y ib->r x y G az->Fin X.K G H az Q->rc eL ib H Q
structure CP(X:aT)(r:D->Option Int->Option Int->aL->cJ->Prop):Prop where
 run:∃ rc,Jo X rc/\∀ x eL lo au G H az Q,fu X.K G H->dg X.K H x eL->r x lo au G az->Fin X.K G H az Q->rc eL lo au H Q
theorem Fin.after{K:aV}{G aB:aL}{H H1:av}{az:cJ}{Q:cC}(F:Fin K G H az Q)(g:Go K G H aB H1):Fin K aB H1 az Q:=λ d ap v aj g' a q=>F d ap v aj (g.trans g') a q
theorem mY.after{K:aV}{G aB:aL}{H H1:av}{bY:qw}{dA:Ends}(F:mY K G H bY dA)(g:Go K G H aB H1):mY K aB H1 bY dA:=
 ⟨λ ρ ap σ aj g' b q=>F.nx ρ ap σ aj (g.trans g') b q,λ d ap v aj g' a q=>F.rt d ap v aj (g.trans g') a q,λ ρ ap σ aj g' b q=>F.bk ρ ap σ aj (g.trans g') b q,λ ρ ap σ aj g' b q=>F.ct ρ ap σ aj (g.trans g') b q⟩
section
variable{X:aT}{a b c e o i:a9}{es:List a9}{bb bA aW to gU:cm}{t:gK}{pos p apos cM:Pos}
abbrev tV(d:D):cm:=λ _ G Q=>Q d G
abbrev JS(k:Nat):cm:=λ ρ G Q=>match ρ[k]? with
 | some (some d)=>Q d G
 | _=>False
def wn{v:V}{d:D}(h:c4 X e (mI v))(r:∀ H,dg X.K H d v):b7 X e (tV d):=⟨_,h,λ ρ G az σ H Q B q F=>F d G v H (.refl B.ck) (r H) q⟩
def aG{n:Int} {j}:b7 X (.Constant (.int n) j pos) (tV (.int n)):=wn SD λ _=>rfl
def qx{n:Bool} {j}:b7 X (.Constant (.bool n) j pos) (tV (.aJ n)):=wn SE λ _=>rfl
def a0{x:Str} {j}:b7 X (.Constant (.str x) j pos) (tV (.str x)):=wn SF λ _=>rfl
def ao(k:Nat){x:Str}(dM:X.N[k]?=some x:=by rfl)(bJ:qg X.env.scope x:=by first | exact Or.inl rfl | exact Or.inr (Or.inl rfl) | exact Or.inr (Or.inr rfl))(hd:(x==("__debug__" : Str))=false:=by decide)
 (hV:(x==("__classdict__" : Str))=false:=by decide):b7 X (.Name x pos) (JS k):=⟨_,SG k dM bJ hd hV,λ ρ G az σ H Q B q F=>by
 unfold JS at q;split at q
 ·next d h=>
  obtain ⟨v,ae,ag⟩:=B.st k d h;exact ⟨v,ae,F d G v H (.refl B.ck) ag q⟩
 ·exact q.elim⟩
def lw{x:Str}{n:String}(a_:ew X x)(hm:X.mg x=none)(bJ:k_ x=some (.type n))(aA:x≠"__name__":=by decide)(hd:(x==("__debug__" : Str))=false:=by decide):b7 X (.Name x pos) (tV (.ty n)):=
 wn (SH (v:=.ty n) a_ hm bJ rfl aA hd) λ _=>rfl
def kP{x:Str}{v:V}{u:Value}{d:D}(a_:ew X x)(hm:X.mg x=some u)(r:RelV v u)(ay:∀ H,dg X.K H d v)(hd:(x==("__debug__" : Str))=false:=by decide):b7 X (.Name x pos) (tV d):=wn (SI a_ hm r hd) ay
abbrev JT:gK:=λ _ G Q=>Q [] G
abbrev JU(bb:cm)(zb:gK):gK:=λ ρ G Q=>bb ρ G λ x aB=>zb ρ aB λ xs aY=>Q (x::xs) aY
def aI:iL X [] JT:=⟨_,SJ,λ ρ G az σ H Q B q F=>F [] G [] H (.refl B.ck) rfl rfl q⟩
def aq(ay:b7 X e aW)(ak:iL X es t)(ax:gu e=true:=by rfl):iL X (e::es) (JU aW t):=by
 obtain ⟨ca,cn,cp⟩:=ay.run;obtain ⟨cr,qy,cf⟩:=ak.run;refine ⟨_,Jq cn qy ax,λ ρ G az σ H Q B q F=>?_⟩;refine cp ρ G _ σ H _ B q λ x aB v H1 g1 aN aH=>cf ρ aB _ σ H1 _ (B.go g1) aH λ xs aY vs a3 g2 CQ ar bl=>?_;exact F (x::xs) aY (v::vs) a3 (g1.trans g2) ⟨v,vs,rfl,aN.mono g2.tup,CQ⟩ (by simp [ar]) bl
abbrev JV(t:gK):cm:=λ ρ G Q=>t ρ G λ ds aB=>Q (.tup ds) aB
abbrev TR(t:gK):cm:=λ ρ G Q=>t ρ G λ ds aB=>∀ p,aB p=none->Q (.ref p) (up aB p (.lst ds))
def wo{n:Nat}(h:qd n 1000=true):n<=sizeLine:=by
 have:=Nat.le_of_ble_eq_true h;rw [hP];omega
def fM {g6} (h:iL X es t) (ar:qd es.length 1000=true:=by rfl):b7 X (.Tuple es g6 pos) (JV t):=by
 obtain ⟨ca,cn,cp⟩:=h.run;refine ⟨_,Jr cn,λ ρ G az σ H Q B q F=>cp ρ G _ σ H _ B q λ ds aB vs H1 g1 al aA aH=>⟨by rw [al.len,aA];exact wo ar,λ p ah=>?_⟩⟩;have g2:=Go.mV (o:=.tup vs) g1.ck ah;exact F (.tup ds) aB _ _ (g1.trans g2) ⟨p,vs,rfl,.of eF,al.mono g2.tup⟩ aH
def gX(h:iL X es t)(ar:qd es.length 1000=true:=by rfl):b7 X (.List es pos) (TR t):=by
 obtain ⟨ca,cn,cp⟩:=h.run;refine ⟨_,Js cn,λ ρ G az σ H Q B q F=>cp ρ G _ σ H _ B q λ ds aB vs H1 g1 al aA aH=>⟨by rw [al.len,aA];exact wo ar,λ p ah=>?_⟩⟩;exact F (.ref p) _ _ _ (g1.trans (Go.n7 g1.ck ah al)) rfl (aH p (g1.ck.none ah))
def JW(ds:List D):Int->Option D
 | .ofNat k=>ds[k]?
 | .negSucc k=>gj ds (.negSucc k)
def JX(ds:List D)(i:Int):JW ds i=gj ds i:=by
 cases i with
 | negSucc k=>rfl
 | ofNat k=>
  show ds[k]?=gj ds (k:Int);by_cases h:k < ds.length
  ·rw [e8 h];exact (hp (e8 h)).symm
  ·rw [yB (by omega)];unfold gj kN;rw [if_pos (by omega),if_neg (by omega)];rfl
def o9(ds:List D)(i:Int)(G:aL)(Q:cJ):Prop:=match JW ds i with
 | some d=>Q d G
 | none=>False
def wq{ds:List D}{i:Int}{G:aL}{Q:cJ}{d:D}(h:gj ds i=some d)(q:Q d G):o9 ds i G Q:=by unfold o9;rw [JX,h];exact q
@[irreducible] def hb(G:aL)(l:Addr)(k:List D->Prop):Prop:=match G l with
 | some (.lst ds)=>k ds
 | _=>False
@[irreducible] def kQ(G:aL)(l:Addr)(k:List D->Prop):Prop:=match G l with
 | some (.lst ds)=>k ds
 | _=>False
def bn{G:aL}{l:Addr}{k:List D->Prop}{ds:List D}(h:G l=some (.lst ds))(q:k ds):hb G l k:=by unfold hb;rw [h];exact q
def dW{G:aL}{l:Addr}{k:List D->Prop}{ds:List D}(h:G l=some (.lst ds))(q:k ds):kQ G l k:=by unfold kQ;rw [h];exact q
def ic{K:aV}{G:aL}{H:av}{l:Addr}{k:List D->Prop}(v:fu K G H)(h:hb G l k):∃ ds vs,k ds/\d7 K H l vs/\bH K H ds vs:=by
 unfold hb at h;split at h
 ·next ds e=>obtain ⟨vs,z,r⟩:=v _ _ e;exact ⟨ds,vs,h,.of z,r⟩
 ·exact h.elim
def qz{K:aV}{G:aL}{H:av}{l:Addr}{k:List D->Prop}(v:fu K G H)(h:kQ G l k):∃ ds vs,k ds/\G l=some (.lst ds)/\H l=some (.lst vs)/\bH K H ds vs:=by
 unfold kQ at h;split at h
 ·next ds e=>obtain ⟨vs,z,r⟩:=v _ _ e;exact ⟨ds,vs,h,e,z,r⟩
 ·exact h.elim
abbrev zB(r:h1)(bb bA:cm):cm:=λ ρ G Q=>bb ρ G λ x aB=>bA ρ aB λ y aY=>r x y aY Q
abbrev TS(r:zA)(bb:cm):cm:=λ ρ G Q=>bb ρ G λ x aB=>r x aB Q
def bI{op:oz}{r:h1}(aR:gv X (hC op) r)(ay:b7 X a bb)(af:b7 X b bA):b7 X (.BinOp a op b pos) (zB r bb bA):=by
 obtain ⟨ca,cn,cp⟩:=ay.run;obtain ⟨jv,fv,fw⟩:=af.run;obtain ⟨co,iq,im⟩:=aR.run;refine ⟨_,SK iq cn fv,λ ρ G az σ H Q B q F=>?_⟩;exact cp ρ G _ σ H _ B q λ x aB v H1 g1 aN aH=>fw ρ aB _ σ H1 _ (B.go g1) aH λ y aY u a3 g2 a6 bl=>im x y v u aY a3 az Q g2.ck (aN.mono g2.tup) a6 bl (F.after (g1.trans g2))
def j5{op:nH}{r:h1}(aR:gv X (er op) r)(ay:b7 X a bb)(af:b7 X b bA)(hm:p3 op b=false):b7 X (.Compare a [op] [b] pos) (zB r bb bA):=by
 obtain ⟨ca,cn,cp⟩:=ay.run;obtain ⟨jv,fv,fw⟩:=af.run;obtain ⟨co,iq,im⟩:=aR.run;refine ⟨_,SN iq cn fv hm,λ ρ G az σ H Q B q F=>?_⟩;exact cp ρ G _ σ H _ B q λ x aB v H1 g1 aN aH=>fw ρ aB _ σ H1 _ (B.go g1) aH λ y aY u a3 g2 a6 bl=>im x y v u aY a3 az Q g2.ck (aN.mono g2.tup) a6 bl (F.after (g1.trans g2))
def mZ{op:UnaryOp}{r:zA}(aR:JQ X (vj op) r)(ay:b7 X a bb):b7 X (.UnaryOp op a pos) (TS r bb):=by
 obtain ⟨ca,cn,cp⟩:=ay.run;obtain ⟨co,iq,im⟩:=aR.run;refine ⟨_,SL iq cn,λ ρ G az σ H Q B q F=>?_⟩;exact cp ρ G _ σ H _ B q λ x aB v H1 g1 aN aH=>im x v aB H1 az Q g1.ck aN aH (F.after g1)
def bx{r:h1}(ak:JR X r)(ay:b7 X a bb)(af:b7 X b bA)(ax:zh b):b7 X (.Subscript a b pos) (zB r bb bA):=by
 obtain ⟨ca,cn,cp⟩:=ay.run;obtain ⟨jv,fv,fw⟩:=af.run;obtain ⟨co,iq,im⟩:=ak.run;refine ⟨_,Jt iq cn fv ax,λ ρ G az σ H Q B q F=>?_⟩;exact cp ρ G _ σ H _ B q λ x aB v H1 g1 aN aH=>fw ρ aB _ σ H1 _ (B.go g1) aH λ y aY u a3 g2 a6 bl=>im x y v u aY a3 az Q g2.ck (aN.mono g2.tup) a6 bl (F.after (g1.trans g2))
def bS(c:Bool)(A B:Prop):Prop:=(c=true->A)/\(c=false->B)
theorem bS.yes{c:Bool}{A B:Prop}(h:c=true)(q:A):bS c A B:=⟨λ _=>q,λ z=>absurd (h.symm.trans z) (by decide)⟩
theorem bS.no{c:Bool}{A B:Prop}(h:c=false)(q:B):bS c A B:=⟨λ z=>absurd (h.symm.trans z) (by decide),λ _=>q⟩
abbrev rT(x:D)(k:Bool->Prop):Prop:=match x with
 | .aJ c=>k c
 | _=>False
def zC{K:aV}{H:av}{x:D}{v:V}{k:Bool->Prop}(h:rT x k)(r:dg K H x v):∃ c,v=.aJ c/\x=.aJ c/\k c:=by
 unfold rT at h;split at h
 ·exact ⟨_,r,rfl,h⟩
 ·exact h.elim
abbrev TU(bb bA:cm):cm:=λ ρ G Q=>bb ρ G λ x aB=>rT x λ c=>bS c (bA ρ aB Q) (Q (.aJ false) aB)
abbrev TV(bb bA:cm):cm:=λ ρ G Q=>bb ρ G λ x aB=>rT x λ c=>bS c (Q (.aJ true) aB) (bA ρ aB Q)
abbrev TW(bb:cm):cm:=λ ρ G Q=>bb ρ G λ x aB=>rT x λ c=>Q (.aJ (!c)) aB
def o_ {op} (h:b7 X a bb):b7 X (.BoolOp op [a] pos) bb:=by
 obtain ⟨ca,cn,cp⟩:=h.run;exact ⟨_,SO cn,cp⟩
def lW{rest:List a9}(ay:b7 X a bb)(af:b7 X (.BoolOp .And (b::rest) pos) bA):b7 X (.BoolOp .And (a::b::rest) pos) (TU bb bA):=by
 obtain ⟨ca,cn,cp⟩:=ay.run;obtain ⟨jv,fv,fw⟩:=af.run;refine ⟨_,SP cn fv,λ ρ G az σ H Q B q F=>cp ρ G _ σ H _ B q λ x aB v H1 g1 aN aH=>?_⟩;obtain ⟨c,aE,aP,bl⟩:=zC aH aN;refine ⟨c,aE,?_⟩
 cases c with
 | true=>exact fw ρ aB _ σ H1 _ (B.go g1) (bl.1 rfl) (F.after g1)
 | false=>exact F (.aJ false) _ _ _ g1 rfl (bl.2 rfl)
def TX{rest:List a9}(ay:b7 X a bb)(af:b7 X (.BoolOp .Or (b::rest) pos) bA):b7 X (.BoolOp .Or (a::b::rest) pos) (TV bb bA):=by
 obtain ⟨ca,cn,cp⟩:=ay.run;obtain ⟨jv,fv,fw⟩:=af.run;refine ⟨_,SQ cn fv,λ ρ G az σ H Q B q F=>cp ρ G _ σ H _ B q λ x aB v H1 g1 aN aH=>?_⟩;obtain ⟨c,aE,aP,bl⟩:=zC aH aN;refine ⟨c,aE,?_⟩
 cases c with
 | false=>exact fw ρ aB _ σ H1 _ (B.go g1) (bl.2 rfl) (F.after g1)
 | true=>exact F (.aJ true) _ _ _ g1 rfl (bl.1 rfl)
def zD(ay:b7 X a bb):b7 X (.UnaryOp .Not a pos) (TW bb):=by
 obtain ⟨ca,cn,cp⟩:=ay.run;refine ⟨_,SM cn,λ ρ G az σ H Q B q F=>cp ρ G _ σ H _ B q λ x aB v H1 g1 aN aH=>?_⟩;obtain ⟨c,aE,aP,bl⟩:=zC aH aN;exact ⟨c,aE,F (.aJ (!c)) _ _ _ g1 rfl bl⟩
abbrev TY(bf:hs)(bb bA:cm):cm:=λ ρ G Q=>bf ρ G λ c aB=>bS c (bb ρ aB Q) (bA ρ aB Q)
def TZ{bf:hs}(am:AT X c bf)(ay:b7 X a bb)(af:b7 X b bA):b7 X (.IfExp c a b pos) (TY bf bb bA):=by
 obtain ⟨rU,j6,rc⟩:=am.run;obtain ⟨ca,cn,cp⟩:=ay.run;obtain ⟨jv,fv,fw⟩:=af.run;refine ⟨_,SR j6 cn fv,λ ρ G az σ H Q B q F=>rc ρ G _ σ H _ B q λ c aB H1 g1 aH=>?_⟩
 cases c with
 | true=>exact cp ρ aB _ σ H1 _ (B.go g1) (aH.1 rfl) (F.after g1)
 | false=>exact fw ρ aB _ σ H1 _ (B.go g1) (aH.2 rfl) (F.after g1)
abbrev JY(t:cm):hs:=λ ρ G Q=>t ρ G λ x aB=>rT x λ c=>Q c aB
def bQ{op:nH}{r:h1}(aR:gv X (er op) r)(ay:b7 X a bb)(af:b7 X b bA)(hm:p3 op b=false):AT X (.Compare a [op] [b] pos) (JY (zB r bb bA)):=by
 obtain ⟨ca,cn,cp⟩:=ay.run;obtain ⟨jv,fv,fw⟩:=af.run;obtain ⟨co,iq,im⟩:=aR.run;refine ⟨_,S0 iq cn fv hm,λ ρ G az σ H Q B q F=>?_⟩;refine cp ρ G _ σ H _ B q λ x aB v H1 g1 aN aH=>fw ρ aB _ σ H1 _ (B.go g1) aH λ y aY u a3 g2 a6 bl=>im x y v u aY a3 _ _ g2.ck (aN.mono g2.tup) a6 bl λ z d3 w dy g3 wt dZ=>?_;obtain ⟨c,aE,aP,ia⟩:=zC dZ wt;exact ⟨c,aE,F c d3 dy ((g1.trans g2).trans g3) ia⟩
abbrev T0(bf:hs):hs:=λ ρ G Q=>bf ρ G λ c aB=>Q (!c) aB
abbrev T1(bf pa:hs):hs:=λ ρ G Q=>bf ρ G λ c aB=>bS c (pa ρ aB Q) (Q false aB)
abbrev T2(bf pa:hs):hs:=λ ρ G Q=>bf ρ G λ c aB=>bS c (Q true aB) (pa ρ aB Q)
def m1{bf:hs}(ay:AT X a bf):AT X (.UnaryOp .Not a pos) (T0 bf):=by
 obtain ⟨ca,cn,cp⟩:=ay.run;exact ⟨_,S1 cn,λ ρ G az σ H Q B q F=>cp ρ G _ σ H _ B q λ c aB H1 g1 aH=>F _ _ _ g1 aH⟩
def lX{bf:hs}(ay:AT X a bf):fc X (.BoolOp .And [a] pos) bf:=by
 obtain ⟨ca,cn,cp⟩:=ay.run;exact ⟨_,S3 cn,cp⟩
def j7{bf:hs}(ay:AT X a bf):fc X (.BoolOp .Or [a] pos) bf:=by
 obtain ⟨ca,cn,cp⟩:=ay.run;exact ⟨_,S4 cn,cp⟩
def lY{bf pa:hs}{rest:List a9}(ay:AT X a bf)(af:fc X (.BoolOp .And (b::rest) pos) pa):fc X (.BoolOp .And (a::b::rest) pos) (T1 bf pa):=by
 obtain ⟨ca,cn,cp⟩:=ay.run;obtain ⟨jv,fv,fw⟩:=af.run;refine ⟨_,S5 cn fv,λ ρ G az σ H Q B q F=>cp ρ G _ σ H _ B q λ c aB H1 g1 aH=>?_⟩
 cases c with
 | true=>exact fw ρ aB _ σ H1 _ (B.go g1) (aH.1 rfl) λ c ap aj g'=>F c ap aj (g1.trans g')
 | false=>exact F _ _ _ g1 (aH.2 rfl)
def iu{bf pa:hs}{rest:List a9}(ay:AT X a bf)(af:fc X (.BoolOp .Or (b::rest) pos) pa):fc X (.BoolOp .Or (a::b::rest) pos) (T2 bf pa):=by
 obtain ⟨ca,cn,cp⟩:=ay.run;obtain ⟨jv,fv,fw⟩:=af.run;refine ⟨_,S6 cn fv,λ ρ G az σ H Q B q F=>cp ρ G _ σ H _ B q λ c aB H1 g1 aH=>?_⟩
 cases c with
 | false=>exact fw ρ aB _ σ H1 _ (B.go g1) (aH.2 rfl) λ c ap aj g'=>F c ap aj (g1.trans g')
 | true=>exact F _ _ _ g1 (aH.1 rfl)
theorem fc.at{bf:hs}(h:fc X e bf):AT X e bf:=by
 obtain ⟨ca,cn,cp⟩:=h.run;exact ⟨_,cn.pt,cp⟩
def T3(x:D)(G:aL)(k:Bool->Prop):Prop:=match x with
 | .bc=>k false
 | .aJ b=>k b
 | .int i=>k (i !=0)
 | .str y=>y.length<=sizeLine/\k ((y.length:Int) !=0)
 | .tup ds=>k (!ds.isEmpty)
 | .ref p=>hb G p λ ds=>k (!ds.isEmpty)
 | _=>False
theorem bH.isEmpty{K:aV}{H:av}{ds:List D}{vs:List V}(h:bH K H ds vs):vs.isEmpty=ds.isEmpty:=by
 have:=h.len;cases ds<;>cases vs<;>simp_all
abbrev T4(t:cm):hs:=λ ρ G Q=>t ρ G λ x aB=>T3 x aB λ c=>Q c aB
def jw(ay:b7 X a bb)(he:∀ whole,isTrue a X.env whole=(do let v ← whole;p8 a.pos;jM [v] (truthy v)):=by intro _;rfl):AT X a (T4 bb):=by
 obtain ⟨ca,cn,cp⟩:=ay.run;refine ⟨_,S2 cn he,λ ρ G az σ H Q B q F=>cp ρ G _ σ H _ B q λ x aB v H1 g1 aN aH=>?_⟩
 cases x with
 | bc=>cases aN;exact ⟨_,rfl,F _ _ _ g1 aH⟩
 | aJ b=>cases aN;exact ⟨_,rfl,F _ _ _ g1 aH⟩
 | int i=>cases aN;exact ⟨_,rfl,F _ _ _ g1 aH⟩
 | str y=>cases aN;exact ⟨_,⟨aH.1,rfl⟩,F _ _ _ g1 aH.2⟩
 | ref l=>
  cases aN;obtain ⟨ds,vs,k,s,r⟩:=ic g1.ck aH;exact ⟨_,.inl ⟨vs,s,rfl⟩,by rw [r.isEmpty];exact F _ _ _ g1 k⟩
 | tup ds=>
  obtain ⟨l,vs,rfl,s,r⟩:=aN;exact ⟨_,.inr (.inl ⟨vs,s,rfl⟩),by rw [r.isEmpty];exact F _ _ _ g1 aH⟩
 | ty n=>exact (show False from aH).elim
 | ej ds=>exact (show False from aH).elim
abbrev T5:o8:=λ _ G Q=>Q none G
abbrev T6(t:cm):o8:=λ ρ G Q=>t ρ G λ x aB=>match x with
 | .int i=>Q (some i) aB
 | _=>False
def jx:rR X none T5:=⟨_,SS,λ ρ G az σ H Q B q F=>F none G H (.refl B.ck) q⟩
def f9(h:b7 X e aW):rR X (some e) (T6 aW):=by
 obtain ⟨ca,cn,cp⟩:=h.run;refine ⟨_,SU cn,λ ρ G az σ H Q B q F=>cp ρ G _ σ H _ B q λ x aB v H1 g1 aN aH=>?_⟩;split at aH
 ·next i=>exact ⟨i,aN,F _ _ _ g1 aH⟩
 ·exact aH.elim
abbrev T7(r:D->Option Int->Option Int->aL->cJ->Prop)(aW:cm)(eN kM:o8):cm:=λ ρ G Q=>aW ρ G λ x aB=>eN ρ aB λ l aY=>kM ρ aY λ u d3=>r x l u d3 Q
def iM{r:D->Option Int->Option Int->aL->cJ->Prop}{lo au:Option a9}{eN kM:o8}{dN:Pos}(ak:CP X r)(he:b7 X e aW)(ar:rR X lo eN)(bK:rR X au kM):b7 X (.Subscript e (.Slice lo au none dN) pos) (T7 r aW eN kM):=by
 obtain ⟨ce,j8,re⟩:=he.run;obtain ⟨cl,CR,dK⟩:=ar.run;obtain ⟨afB,T8,c1⟩:=bK.run;obtain ⟨cr,qy,cf⟩:=ak.run;refine ⟨_,SV qy j8 CR T8,λ ρ G az σ H Q B q F=>re ρ G _ σ H _ B q λ x aB v H1 g1 aN aH=>dK ρ aB _ σ H1 _ (B.go g1) aH λ l aY a3 g2 bl=>c1 ρ aY _ σ a3 _ ((B.go g1).go g2) bl λ u d3 dy g3 dZ=>?_⟩;exact cf x v l u d3 dy az Q g3.ck ((aN.mono g2.tup).mono g3.tup) dZ (F.after ((g1.trans g2).trans g3))
abbrev JZ:f7:=λ D ρ G=>D.nx ρ G
abbrev lZ(t u:f7):f7:=λ D ρ G=>t { D with nx:=u D } ρ G
abbrev J0(aW:cm):f7:=λ D ρ G=>aW ρ G λ _ aB=>D.nx ρ aB
abbrev J1(aW:cm):f7:=λ D ρ G=>aW ρ G D.rt
abbrev J2(c:hs)(t u:f7):f7:=λ D ρ G=>c ρ G λ b aB=>bS b (t D ρ aB) (u D ρ aB)
def dw:n8 X [] JZ:=⟨_,Jw,λ bY dA ρ G σ H B q F=>F.nx ρ G σ H (.refl B.ck) B q⟩
def bt{st:b1}{rest:List b1}{en us:f7}(ae:eA X st en)(ag:n8 X rest us):n8 X (st::rest) (lZ en us):=by
 obtain ⟨cq,eT,aX⟩:=ae.run;obtain ⟨b6,j9,bj⟩:=ag.run;refine ⟨_,Jx eT j9,λ bY dA ρ G σ H B q F=>aX _ _ ρ G σ H B q ⟨λ ρ' ap σ' aj g b q=>bj bY dA ρ' ap σ' aj b q (F.after g),F.rt,F.bk,F.ct⟩⟩
def bG{st:b1}{en:f7}(ae:eA X st en):n8 X [st] en:=by
 obtain ⟨cq,eT,aX⟩:=ae.run;exact ⟨_,Jy eT,aX⟩
def i_(he:b7 X e aW)(ax:jL e none pos.line X.env=pure false:=by rfl):eA X (.Expr e pos) (J0 aW):=by
 obtain ⟨cq,eT,aX⟩:=he.run;exact ⟨_,Jz eT ax,λ bY dA ρ G σ H B q F=>aX ρ G _ σ H _ B q λ d ap v aj g _ q=>F.nx ρ ap σ aj g (B.go g) q⟩
def cu(he:b7 X e aW):eA X (.Return (some e) pos) (J1 aW):=by
 obtain ⟨cq,eT,aX⟩:=he.run;exact ⟨_,JA eT,λ bY dA ρ G σ H B q F=>aX ρ G _ σ H _ B q F.rt⟩
def c8{ss us:List b1}{bf:hs}{en lr:f7}(am:AT X c bf)(ay:n8 X ss en)(af:n8 X us lr):eA X (.If c ss us pos) (J2 bf en lr):=by
 obtain ⟨rU,j6,rc⟩:=am.run;obtain ⟨ca,cn,cp⟩:=ay.run;obtain ⟨jv,fv,fw⟩:=af.run;refine ⟨_,JB j6 cn fv,λ bY dA ρ G σ H B q F=>rc ρ G _ σ H _ B q λ c aB H1 g1 aH=>?_⟩
 cases c with
 | true=>exact cp bY dA ρ aB σ H1 (B.go g1) (aH.1 rfl) (F.after g1)
 | false=>exact fw bY dA ρ aB σ H1 (B.go g1) (aH.2 rfl) (F.after g1)
abbrev zE(k:Nat):hI:=λ d ρ G Q=>Q (ρ.set k (some d)) G
abbrev T9:rS:=λ ds ρ G Q=>match ds with
 | []=>Q ρ G
 | _=>False
abbrev T_(t:hI)(u:rS):rS:=λ ds ρ G Q=>match ds with
 | d::r=>t d ρ G λ ρ' ap=>u r ρ' ap Q
 | []=>False
abbrev Ua(t:rS):hI:=λ d ρ G Q=>match d with
 | .tup ds=>t ds ρ G Q
 | _=>False
def iN{k:Nat}{x:Str}(dM:X.N.Nodup)(au:X.N[k]?=some x)(ai:Loc X.env.scope x)(hf:X.fn x=true\/X.env.scope.names.lookup x=some .local:=by first | exact .inl rfl | exact .inr rfl | assumption):lu X (.Name x pos) (zE k):=
 ⟨_,S7 dM au ai hf,λ d v ρ G az σ H Q B a q F=>F _ G _ H (.refl B.ck) (B.set a k) q⟩
abbrev CS(aW:cm)(g:hI):f7:=λ D ρ G=>aW ρ G λ x aB=>g x ρ aB D.nx
def zF{bp:a9}{g:hI}(he:b7 X e aW)(a_:lu X bp g)(ax:BL [bp] e pos.line X.env=pure false:=by rfl)(hw:BM [bp] e X.env=pure none:=by rfl)(ae:(jn [bp] X.env).map (·.2)=[jN bp X.env]:=by rfl):eA X (.Assign [bp] e pos) (CS aW g):=by
 obtain ⟨cq,eT,aX⟩:=he.run;obtain ⟨b6,j9,bj⟩:=a_.run;exact ⟨_,Td eT j9 ax hw ae,λ bY dA ρ G σ H B q F=>aX ρ G _ σ H _ B q λ d aB v H1 g1 a aH=>bj d v ρ aB _ σ H1 _ (B.go g1) a aH λ ρ' ap σ' aj g' b hj=>F.nx ρ' ap σ' aj (g1.trans g') b hj⟩
def cU{k:Nat}{x:Str}{pos':Pos}(dM:X.N.Nodup)(au:X.N[k]?=some x)(ai:Loc X.env.scope x)(he:b7 X e aW)(ax:jL e (some (.Name x pos')) pos.line X.env=pure false:=by rfl)(hf:X.fn x=true\/X.env.scope.names.lookup x=some .local:=by first | exact .inl rfl | exact .inr rfl | assumption) :
 eA X (.Assign [.Name x pos'] e pos) (CS aW (zE k)):=by
 obtain ⟨cq,eT,aX⟩:=he.run;exact ⟨_,Tc dM au ai eT ax hf,λ bY dA ρ G σ H B q F=>aX ρ G _ σ H _ B q λ d aB v H1 g1 a aH=>F.nx _ aB _ H1 g1 ((B.go g1).set a k) aH⟩
def CT:zz X [] T9:=⟨_,S8,λ ds vs ρ G az σ H Q B a q F=>by
 cases ds with
 | nil=>cases a;exact ⟨rfl,F ρ G σ H (.refl B.ck) B q⟩
 | cons d r=>exact (show False from q).elim⟩
def tW{bp:hI}{u:rS}(ae:lu X e bp)(ag:zz X es u)(ax:(jn (e::es) X.env).map (·.2)=jN e X.env::(jn es X.env).map (·.2):=by rfl):zz X (e::es) (T_ bp u):=by
 obtain ⟨cq,eT,aX⟩:=ae.run;obtain ⟨b6,j9,bj⟩:=ag.run;refine ⟨_,S9 eT j9 ax,λ ds vs ρ G az σ H Q B a q F=>?_⟩
 cases ds with
 | nil=>exact (show False from q).elim
 | cons d r=>
  obtain ⟨v,us,rfl,ad,Ub⟩:=a;exact ⟨v,us,rfl,aX d v ρ G _ σ H _ B ad q λ ρ' ap σ' aj g b hj=>bj r us ρ' ap _ σ' aj _ b (Ub.mono g.tup) hj λ ρ2 aY σ2 a3 g2 cV bl=>F ρ2 aY σ2 a3 (g.trans g2) cV bl⟩
def CU{k n:Nat}{bp:rS}(am:X.calm=true)(h:zz X es bp)(ar:es.length=n:=by rfl)(aA:(jn es X.env).length=n:=by rfl)(g5:(jn es X.env).findIdx? (·.1)=none:=by rfl)
 (hlen:∀ ds ρ G Q,bp ds ρ G Q->ds.length=n:=by intro ds ρ G Q h;match ds,h with | [],h=>(first | rfl | exact (show False from h).elim) | [_],h=>(first | rfl | exact (show False from h).elim) | [_,_],h=>(first | rfl | exact (show False from h).elim) | [_,_,_],h=>(first | rfl | exact (show False from h).elim) | _::_::_::_::_,h=>exact (show False from h).elim):lu X (.Tuple es k pos) (Ua bp):=by
 obtain ⟨cq,eT,aX⟩:=h.run;refine ⟨_,S_ (n:=n) am eT aA g5,λ d v ρ G az σ H Q B a q F=>?_⟩
 cases d with
 | tup ds=>
  obtain ⟨l,vs,rfl,s,r⟩:=a;exact ⟨l,vs,rfl,s,by rw [r.len];exact hlen _ _ _ _ q,aX ds vs ρ G az σ H Q B r q F⟩
 | _=>exact (show False from q).elim
end
section
variable{X:aT}
def CV:h1:=λ x y G Q=>match x,y with
 | .int i,.int j=>Q (.int (i+j)) G
 | .str i,.str j=>i.length+j.length<=sizeLine/\Q (.str (i++j)) G
 | .tup xs,.tup ys=>xs.length+ys.length<=sizeLine/\Q (.tup (xs++ys)) G
 | .ref l,.ref m=>kQ G l λ xs=>kQ G m λ ys=>xs.length+ys.length<=sizeLine/\∀ p,G p=none->Q (.ref p) (up G p (.lst (xs++ys)))
 | _,_=>False
def da:gv X (hC .Add) CV:=by
 refine ⟨_,⟨Qy.or (QS.or (Sv.or RZ))⟩,λ x y eL ib G H az Q v aN a6 r F=>?_⟩
 cases x with
 | int i=>
  cases y with
  | int j=>cases aN;cases a6;exact .inl ⟨i,j,rfl,rfl,F (.int (i+j)) G _ H (.refl v) rfl r⟩
  | _=>exact (show False from r).elim
 | str i=>
  cases y with
  | str j=>cases aN;cases a6;exact .inr (.inl ⟨i,j,rfl,rfl,r.1,F (.str (i++j)) G _ H (.refl v) rfl r.2⟩)
  | _=>exact (show False from r).elim
 | tup xs=>
  cases y with
  | tup ys=>
   obtain ⟨l,vs,rfl,s1,aX⟩:=aN;obtain ⟨m,us,rfl,s2,bj⟩:=a6;have cv:=aX.len;have eM:=bj.len;refine .inr (.inr (.inl ⟨l,m,vs,us,rfl,rfl,s1,s2,by rw [cv,eM];exact r.1,λ e=>?_,λ e aP=>?_,λ e aP p ah=>?_⟩))
   ·subst e
    have bZ:xs=[]:=by cases xs<;>simp_all
    subst bZ;exact F (.tup ys) G _ H (.refl v) ⟨m,us,rfl,s2,bj⟩ (by simpa using r.2)
   ·subst aP
    have bZ:ys=[]:=by cases ys<;>simp_all
    subst bZ;exact F (.tup xs) G _ H (.refl v) ⟨l,vs,rfl,s1,aX⟩ (by simpa using r.2)
   ·have g:=Go.mV (o:=.tup (vs++us)) v ah;exact F (.tup (xs++ys)) G _ _ g ⟨p,_,rfl,.of eF,(aX.append bj).mono g.tup⟩ r.2
  | _=>exact (show False from r).elim
 | ref l=>
  cases y with
  | ref m=>
   cases aN;cases a6;obtain ⟨xs,vs,k1,aE,ae,aX⟩:=qz v r;obtain ⟨ys,us,k2,aP,ag,bj⟩:=qz v k1;have cv:=aX.len;have eM:=bj.len;exact .inr (.inr (.inr ⟨l,m,vs,us,rfl,rfl,ae,ag,by rw [cv,eM];exact k2.1,λ p ah=>F (.ref p) _ _ _ (Go.n7 v ah (aX.append bj)) rfl (k2.2 p (v.none ah))⟩))
  | _=>exact (show False from r).elim
 | _=>exact (show False from r).elim
def wu(C:Int->Int->Prop)(g:Int->Int->D):h1:=λ x y G Q=>match x,y with
 | .int i,.int j=>C i j/\Q (g i j) G
 | _,_=>False
def rV(g:Int->Int->D):h1:=λ x y G Q=>match x,y with
 | .int i,.int j=>Q (g i j) G
 | _,_=>False
def zG{f:Value->Value->Sem Value}{C:Int->Int->Prop}{g:Int->Int->Int}(h:d8 X f (tK C λ i j=>.int (g i j))):gv X f (wu C λ i j=>.int (g i j)):=by
 refine ⟨_,⟨h⟩,λ x y eL ib G H az Q v aN a6 r F=>?_⟩
 cases x with
 | int i=>
  cases y with
  | int j=>cases aN;cases a6;exact ⟨i,j,rfl,rfl,r.1,F (.int (g i j)) G _ H (.refl v) rfl r.2⟩
  | _=>exact (show False from r).elim
 | _=>exact (show False from r).elim
def Uc{f:Value->Value->Sem Value}{g:Int->Int->Int}(h:d8 X f (nY λ i j=>.int (g i j))):gv X f (rV λ i j=>.int (g i j)):=by
 refine ⟨_,⟨h⟩,λ x y eL ib G H az Q v aN a6 r F=>?_⟩
 cases x with
 | int i=>
  cases y with
  | int j=>cases aN;cases a6;exact ⟨i,j,rfl,rfl,F (.int (g i j)) G _ H (.refl v) rfl r⟩
  | _=>exact (show False from r).elim
 | _=>exact (show False from r).elim
def zH{f:Value->Value->Sem Value}{g:Int->Int->Bool}(h:d8 X f (nY λ i j=>.aJ (g i j))):gv X f (rV λ i j=>.aJ (g i j)):=by
 refine ⟨_,⟨h⟩,λ x y eL ib G H az Q v aN a6 r F=>?_⟩
 cases x with
 | int i=>
  cases y with
  | int j=>cases aN;cases a6;exact ⟨i,j,rfl,rfl,F (.aJ (g i j)) G _ H (.refl v) rfl r⟩
  | _=>exact (show False from r).elim
 | _=>exact (show False from r).elim
def iv:gv X (hC .Sub) (rV λ i j=>.int (i - j)):=Uc Qz
def qA:gv X (hC .Mult) (wu za λ i j=>.int (i * j)):=zG QA
def zI:gv X (hC .FloorDiv) (wu (λ _ j=>0 < j/\j < 2 ^ 64) λ i j=>.int (i / j)):=zG Sl
def pb:gv X (hC .Mod) (wu (λ _ j=>0 < j) λ i j=>.int (i % j)):=zG QB
def Ud:gv X (hC .Pow) (wu Iw λ i j=>.int (i ^ j.toNat)):=zG QC
def jy:gv X (er .Lt) (rV λ i j=>.aJ (decide (i < j))):=zH QG
def J3:gv X (er .LtE) (rV λ i j=>.aJ (decide (i<=j))):=zH QH
def n9:gv X (er .Gt) (rV λ i j=>.aJ (decide (j < i))):=zH QI
def Ue:gv X (er .GtE) (rV λ i j=>.aJ (decide (j<=i))):=zH QJ
def Uf:zA:=λ x G Q=>match x with
 | .int i=>Q (.int (-i)) G
 | _=>False
def m2:JQ X (vj .USub) Uf:=by
 refine ⟨_,⟨QE⟩,λ x eL G H az Q v aN r F=>?_⟩
 cases x with
 | int i=>cases aN;exact ⟨i,rfl,F (.int (-i)) G _ H (.refl v) rfl r⟩
 | _=>exact (show False from r).elim
def afC:D->Bool
 | .bc=>true
 | _=>false
def zJ{K:aV}{H:av}{ds:List D}{vs:List V}{i:Int}{d:D}(r:bH K H ds vs)(h:gj ds i=some d):∃ v,gj vs i=some v/\dg K H d v:=by
 unfold gj at h ⊢;rw [r.len]
 cases e:kN ds.length i with
 | none=>rw [e] at h;cases h
 | some j=>
  rw [e] at h;exact r.get h
def zK{ds:List D}{i:Int}{G:aL}{Q:cJ}(h:o9 ds i G Q):∃ d,gj ds i=some d/\Q d G:=by
 unfold o9 at h;rw [JX] at h;split at h
 ·next d e=>exact ⟨d,e,h⟩
 ·exact h.elim
def wv:h1:=λ x y G Q=>match x,y with
 | .tup ds,.int i=>o9 ds i G Q
 | .ref l,.int i=>hb G l λ ds=>o9 ds i G Q
 | .ej ds,.int i=>o9 ds i G Q
 | .str z,.int i=>z.length<=sizeLine/\∃ c,gj z.cps.toList i=some c/\Q (.str ⟨#[c]⟩) G
 | _,_=>False
def J4{ds:List D}{i:Int}{G:aL}{Q:cJ}{d:D}(h:gj ds i=some d)(q:Q d G):wv (.tup ds) (.int i) G Q:=wq h q
def J5{ds:List D}{i:Int}{G:aL}{Q:cJ}{d:D}(h:gj ds i=some d)(q:Q d G):wv (.ej ds) (.int i) G Q:=wq h q
def dE{l:Addr}{ds:List D}{i:Int}{G:aL}{Q:cJ}{d:D}(ar:G l=some (.lst ds))(h:gj ds i=some d)(q:Q d G):wv (.ref l) (.int i) G Q:=bn ar (wq h q)
def bz:JR X wv:=by
 refine ⟨_,⟨IY⟩,λ x y eL ib G H az Q v aN a6 r F=>?_⟩
 cases x with
 | tup ds=>
  cases y with
  | int i=>
   cases a6;obtain ⟨l,vs,rfl,s,dK⟩:=aN;obtain ⟨d,hd,q⟩:=zK r;obtain ⟨u,bK,ad⟩:=zJ dK hd;exact .inr (.inl ⟨l,vs,i,u,rfl,rfl,s,bK,F d G u H (.refl v) ad q⟩)
  | _=>exact (show False from r).elim
 | ref l=>
  cases y with
  | int i=>
   cases aN;cases a6;obtain ⟨ds,vs,k,s,dK⟩:=ic v r;obtain ⟨d,hd,q⟩:=zK k;obtain ⟨u,bK,ad⟩:=zJ dK hd;exact .inl ⟨l,vs,i,u,rfl,rfl,s,bK,F d G u H (.refl v) ad q⟩
  | _=>exact (show False from r).elim
 | ej ds=>
  cases y with
  | int i=>
   cases a6;obtain ⟨l,vs,rfl,s,dK⟩:=aN;obtain ⟨d,hd,q⟩:=zK r;obtain ⟨u,bK,ad⟩:=zJ dK hd;exact .inl ⟨l,vs,i,u,rfl,rfl,s.fb,bK,F d G u H (.refl v) ad q⟩
  | _=>exact (show False from r).elim
 | str z=>
  cases y with
  | int i=>
   cases aN;cases a6;obtain ⟨hz,c,am,q⟩:=r;exact .inr (.inr ⟨z,i,c,rfl,rfl,hz,am,F (.str ⟨#[c]⟩) G _ H (.refl v) rfl q⟩)
  | _=>exact (show False from r).elim
 | _=>exact (show False from r).elim
def Ug:D->Option Int->Option Int->aL->cJ->Prop:=λ x lo au G Q=>match x with
 | .tup ds=>Q (.tup (cut ds lo au)) G
 | .ref l=>hb G l λ ds=>∀ p,G p=none->Q (.ref p) (up G p (.lst (cut ds lo au)))
 | .ej ds=>∀ p,G p=none->Q (.ref p) (up G p (.lst (cut ds lo au)))
 | _=>False
def n_:CP X Ug:=by
 refine ⟨_,⟨Sz.or RB⟩,λ x eL lo au G H az Q v aN r F=>?_⟩
 cases x with
 | tup ds=>
  obtain ⟨l,vs,rfl,s,dK⟩:=aN;refine .inl ⟨l,vs,rfl,s,λ t a3 Uh st=>?_⟩;have g:=Go.grow v Uh;exact F (.tup (cut ds lo au)) G _ _ g ⟨t,_,rfl,st,(dK.cut lo au).mono g.tup⟩ r
 | ref l=>
  cases aN;obtain ⟨ds,vs,k,s,dK⟩:=ic v r;exact .inr ⟨l,vs,rfl,s,λ p ah=>F (.ref p) _ _ _ (Go.n7 v ah (dK.cut lo au)) rfl (k p (v.none ah))⟩
 | ej ds=>
  obtain ⟨l,vs,rfl,s,dK⟩:=aN;exact .inr ⟨l,vs,rfl,s.fb,λ p ah=>F (.ref p) _ _ _ (Go.n7 v ah (dK.cut lo au)) rfl (r p (v.none ah))⟩
 | _=>exact (show False from r).elim
def j_:D->Bool
 | .bc=>true
 | .aJ _=>true
 | .int _=>true
 | .str _=>true
 | _=>false
def toV:D->V
 | .bc=>.bc
 | .aJ b=>.aJ b
 | .int i=>.int i
 | .str x=>.str x
 | _=>.bc
def ww{K:aV}{H:av}{d:D}{v:V}(a:dg K H d v)(h:j_ d=true):v=toV d/\n3 v=true:=by
 cases d with
 | bc=>cases a;exact ⟨rfl,rfl⟩
 | aJ b=>cases a;exact ⟨rfl,rfl⟩
 | int b=>cases a;exact ⟨rfl,rfl⟩
 | str b=>cases a;exact ⟨rfl,rfl⟩
 | _=>exact absurd h (by simp [j_])
theorem toVs{K:aV}{H:av}:∀{ds:List D}{vs:List V},bH K H ds vs->ds.all j_=true->vs=ds.map toV/\vs.all n3=true
 | [],_,r,_=>by cases r;exact ⟨rfl,rfl⟩
 | _::_,_,⟨v,r,e,q,l⟩,h=>by
  subst e;rw [nJ,eI] at h;obtain ⟨ae,ag⟩:=ww q h.1;obtain ⟨aO,bX⟩:=toVs l h.2;exact ⟨by rw [fh,<- ae,<- aO],by rw [nJ,ag,bX];rfl⟩
def wx:D->D->Bool
 | .bc,.bc=>true
 | .aJ a,.aJ b=>a==b
 | .aJ a,.int b=>(if a then 1 else 0)==b
 | .int a,.aJ b=>a==(if b then 1 else 0)
 | .int a,.int b=>a==b
 | .str a,.str b=>a==b
 | _,_=>false
def Ui{x y:D}(ai:j_ x=true)(bP:j_ y=true):oZ (toV x) (toV y)=wx x y:=by
 cases x<;>cases y<;>first | rfl | (simp [j_] at ai;done) | (simp [j_] at bP;done)
def m3(x:D)(ds:List D):Bool:=ds.any λ y=>wx y x
theorem wy{x:D}(ai:j_ x=true):∀{ds:List D},ds.all j_=true->zj (toV x) (ds.map toV)=m3 x ds
 | [],_=>rfl
 | d::ds,h=>by
  rw [nJ,eI] at h;have bN:=wy ai h.2;unfold zj m3 at *;rw [fh,rm,rm,bN,Ui h.1 ai]
def inD(neg:Bool):h1:=λ x y G Q=>match y with
 | .tup ds=>j_ x=true/\ds.all j_=true/\Q (.aJ (neg ^^ m3 x ds)) G
 | .ref l=>hb G l λ ds=>j_ x=true/\ds.all j_=true/\Q (.aJ (neg ^^ m3 x ds)) G
 | .str j=>(match x with
  | .str i=>Q (.aJ (neg ^^ !(Builtin.Str.occurrences j i 0 j.length 1).isEmpty)) G
  | _=>False)
 | _=>False
def tX:gv X (er .In) (inD false):=by
 refine ⟨_,⟨RE.or QK⟩,λ x y eL ib G H az Q v aN a6 r F=>?_⟩
 cases y with
 | tup ds=>
  obtain ⟨ae,ag,q⟩:=r;obtain ⟨l,vs,rfl,s,dK⟩:=a6;obtain ⟨aE,f1⟩:=ww aN ae;obtain ⟨aP,f2⟩:=toVs dK ag;refine .inl ⟨l,vs,rfl,.inr s,f1,f2,?_⟩;rw [aE,aP,wy ae ag];exact F (.aJ _) G _ H (.refl v) rfl (by simpa using q)
 | ref l=>
  cases a6;obtain ⟨ds,vs,⟨ae,ag,q⟩,s,dK⟩:=ic v r;obtain ⟨aE,f1⟩:=ww aN ae;obtain ⟨aP,f2⟩:=toVs dK ag;refine .inl ⟨l,vs,rfl,.inl s,f1,f2,?_⟩;rw [aE,aP,wy ae ag];exact F (.aJ _) G _ H (.refl v) rfl (by simpa using q)
 | str j=>
  cases x with
  | str i=>cases aN;cases a6;exact .inr ⟨i,j,rfl,rfl,F (.aJ _) G _ H (.refl v) rfl (by simpa [inD] using r)⟩
  | _=>exact (show False from r).elim
 | _=>exact (show False from r).elim
def Uj:gv X (er .NotIn) (inD true):=by
 refine ⟨_,⟨RF.or RG⟩,λ x y eL ib G H az Q v aN a6 r F=>?_⟩
 cases y with
 | tup ds=>
  obtain ⟨ae,ag,q⟩:=r;obtain ⟨l,vs,rfl,s,dK⟩:=a6;obtain ⟨aE,f1⟩:=ww aN ae;obtain ⟨aP,f2⟩:=toVs dK ag;refine .inl ⟨l,vs,rfl,.inr s,f1,f2,?_⟩;rw [aE,aP,wy ae ag];exact F (.aJ _) G _ H (.refl v) rfl (by simpa using q)
 | ref l=>
  cases a6;obtain ⟨ds,vs,⟨ae,ag,q⟩,s,dK⟩:=ic v r;obtain ⟨aE,f1⟩:=ww aN ae;obtain ⟨aP,f2⟩:=toVs dK ag;refine .inl ⟨l,vs,rfl,.inl s,f1,f2,?_⟩;rw [aE,aP,wy ae ag];exact F (.aJ _) G _ H (.refl v) rfl (by simpa using q)
 | str j=>
  cases x with
  | str i=>cases aN;cases a6;exact .inr ⟨i,j,rfl,rfl,F (.aJ _) G _ H (.refl v) rfl (by simpa [inD] using r)⟩
  | _=>exact (show False from r).elim
 | _=>exact (show False from r).elim
variable{e o:a9}{es:List a9}{aW to:cm}{t:gK}{pos p apos cM:Pos}
abbrev J6(r:tU)(t:gK):cm:=λ ρ G Q=>t ρ G λ ds aB=>r ds aB Q
def du{x:Str}{id:String}{r:tU}(am:j4 X (.builtin id) r)(a_:ew X x)(hm:X.mg x=none)(bJ:k_ x=some (.builtin id))(ay:iL X (e::es) t)(aA:x≠"__name__":=by decide)(fJ:(x==("__debug__" : Str))=false:=by decide)
 (ax:(e::es).all gu=true:=by rfl):b7 X (.Call (.Name x p) (e::es) [] pos) (J6 r t):=by
 obtain ⟨ca,cn,cp⟩:=ay.run;obtain ⟨rU,j6,rc⟩:=am.run;exact ⟨_,SX j6 a_ hm bJ cn aA fJ ax,λ ρ G az σ H Q B q F=>cp ρ G _ σ H _ B q λ ds aB vs H1 g1 al _ aH=>rc ds vs aB H1 az Q g1.ck al aH (F.after g1)⟩
def lx{x:Str}{T:String}{r:tU}(am:j4 X (.type T) r)(a_:ew X x)(hm:X.mg x=none)(bJ:k_ x=some (.type T))(ay:iL X (e::es) t)(aA:x≠"__name__":=by decide)(fJ:(x==("__debug__" : Str))=false:=by decide)
 (ax:(e::es).all gu=true:=by rfl):b7 X (.Call (.Name x p) (e::es) [] pos) (J6 r t):=by
 obtain ⟨ca,cn,cp⟩:=ay.run;obtain ⟨rU,j6,rc⟩:=am.run;exact ⟨_,SY j6 a_ hm bJ cn aA fJ ax,λ ρ G az σ H Q B q F=>cp ρ G _ σ H _ B q λ ds aB vs H1 g1 al _ aH=>rc ds vs aB H1 az Q g1.ck al aH (F.after g1)⟩
abbrev m4(r:D->aL->cJ->Prop):tU:=λ xs G Q=>match xs with
 | [x]=>r x G Q
 | _=>False
abbrev tY(r:D->D->aL->cJ->Prop):tU:=λ xs G Q=>match xs with
 | [x,y]=>r x y G Q
 | _=>False
def pd{K:aV}{H:av}{r:D->aL->cJ->Prop}{xs:List D}{vs:List V}{G:aL}{Q:cJ}(h:m4 r xs G Q)(a:bH K H xs vs):∃ x v,xs=[x]/\vs=[v]/\dg K H x v/\r x G Q:=by
 unfold m4 at h;split at h
 ·obtain ⟨v,r,rfl,q,l⟩:=a;cases l;exact ⟨_,v,rfl,rfl,q,h⟩
 ·exact h.elim
def zL{K:aV}{H:av}{r:D->D->aL->cJ->Prop}{xs:List D}{vs:List V}{G:aL}{Q:cJ}(h:tY r xs G Q)(a:bH K H xs vs):∃ x y v u,xs=[x,y]/\vs=[v,u]/\dg K H x v/\dg K H y u/\r x y G Q:=by
 unfold tY at h;split at h
 ·obtain ⟨v,r,rfl,q,u,bj,rfl,bl,l⟩:=a;cases l;exact ⟨_,_,v,u,rfl,rfl,q,bl,h⟩
 ·exact h.elim
def Uk:D->aL->cJ->Prop:=λ x G Q=>match x with
 | .tup ds=>Q (.int ds.length) G
 | .ref l=>hb G l λ ds=>Q (.int ds.length) G
 | .ej ds=>Q (.int ds.length) G
 | .str z=>z.length<=sizeLine/\Q (.int z.length) G
 | _=>False
def eU:j4 X (.builtin "len") (m4 Uk):=by
 refine ⟨_,⟨RH.or RI⟩,λ xs vs G H az Q v a r F=>?_⟩;obtain ⟨x,u,rfl,rfl,aN,r⟩:=pd r a
 cases x with
 | tup ds=>
  obtain ⟨l,ws,rfl,s,dK⟩:=aN;exact .inl ⟨l,ws,rfl,.inr s,by rw [dK.len];exact F (.int ds.length) G _ H (.refl v) rfl r⟩
 | ref l=>
  cases aN;obtain ⟨ds,ws,k,s,dK⟩:=ic v r;exact .inl ⟨l,ws,rfl,.inl s,by rw [dK.len];exact F (.int ds.length) G _ H (.refl v) rfl k⟩
 | ej ds=>
  obtain ⟨l,ws,rfl,s,dK⟩:=aN;exact .inl ⟨l,ws,rfl,.inl s.fb,by rw [dK.len];exact F (.int ds.length) G _ H (.refl v) rfl r⟩
 | str z=>cases aN;exact .inr ⟨z,rfl,r.1,F (.int z.length) G _ H (.refl v) rfl r.2⟩
 | _=>exact (show False from r).elim
def intD:D->aL->cJ->Prop:=λ x G Q=>match x with
 | .int i=>Q (.int i) G
 | .aJ k=>Q (.int (if k then 1 else 0)) G
 | _=>False
def Ul:j4 X (.type "int") (m4 intD):=by
 refine ⟨_,⟨QV⟩,λ xs vs G H az Q v a r F=>?_⟩;obtain ⟨x,u,rfl,rfl,aN,r⟩:=pd r a
 cases x with
 | int i=>cases aN;exact .inl ⟨i,rfl,F (.int i) G _ H (.refl v) rfl r⟩
 | aJ k=>cases aN;exact .inr ⟨k,rfl,F (.int (if k then 1 else 0)) G _ H (.refl v) rfl r⟩
 | _=>exact (show False from r).elim
def J7(g:Int->Int->Int):D->D->aL->cJ->Prop:=λ x y G Q=>match x,y with
 | .int i,.int j=>Q (.int (g i j)) G
 | _,_=>False
def Um(am:X.calm=true):j4 X (.builtin "max") (tY (J7 λ i j=>if j > i then j else i)):=by
 refine ⟨_,⟨QT am⟩,λ xs vs G H az Q v a r F=>?_⟩;obtain ⟨x,y,u,w,rfl,rfl,aN,a6,r⟩:=zL r a
 cases x with
 | int i=>
  cases y with
  | int j=>cases aN;cases a6;exact ⟨i,j,rfl,F (.int (if j > i then j else i)) G _ H (.refl v) rfl r⟩
  | _=>exact (show False from r).elim
 | _=>exact (show False from r).elim
def Un(am:X.calm=true):j4 X (.builtin "min") (tY (J7 λ i j=>if j < i then j else i)):=by
 refine ⟨_,⟨QU am⟩,λ xs vs G H az Q v a r F=>?_⟩;obtain ⟨x,y,u,w,rfl,rfl,aN,a6,r⟩:=zL r a
 cases x with
 | int i=>
  cases y with
  | int j=>cases aN;cases a6;exact ⟨i,j,rfl,F (.int (if j < i then j else i)) G _ H (.refl v) rfl r⟩
  | _=>exact (show False from r).elim
 | _=>exact (show False from r).elim
def Uo:D->aL->cJ->Prop:=λ x G Q=>match x with
 | .tup ds=>Q (.tup ds) G
 | .ref l=>hb G l λ ds=>Q (.tup ds) G
 | _=>False
def wz:j4 X (.type "tuple") (m4 Uo):=by
 refine ⟨_,⟨RK⟩,λ xs vs G H az Q v a r F=>?_⟩;obtain ⟨x,u,rfl,rfl,aN,r⟩:=pd r a
 cases x with
 | tup ds=>
  obtain ⟨l,ws,rfl,s,dK⟩:=aN;exact ⟨l,ws,rfl,.inr ⟨s,F (.tup ds) G _ H (.refl v) ⟨l,ws,rfl,s,dK⟩ r⟩⟩
 | ref l=>
  cases aN;obtain ⟨ds,ws,k,s,dK⟩:=ic v r;refine ⟨l,ws,rfl,.inl ⟨s,λ p ah=>?_⟩⟩;have g:=Go.mV (o:=.tup ws) v ah;exact F (.tup ds) G _ _ g ⟨p,ws,rfl,.of eF,dK.mono g.tup⟩ k
 | _=>exact (show False from r).elim
def Up:D->aL->cJ->Prop:=λ x G Q=>match x with
 | .tup ds=>∀ p,G p=none->Q (.ref p) (up G p (.lst ds))
 | .ref l=>hb G l λ ds=>∀ p,G p=none->Q (.ref p) (up G p (.lst ds))
 | _=>False
def wA:j4 X (.type "list") (m4 Up):=by
 refine ⟨_,⟨RJ⟩,λ xs vs G H az Q v a r F=>?_⟩;obtain ⟨x,u,rfl,rfl,aN,r⟩:=pd r a
 cases x with
 | tup ds=>
  obtain ⟨l,ws,rfl,s,dK⟩:=aN;exact ⟨l,ws,rfl,.inr s,λ p ah=>F (.ref p) _ _ _ (Go.n7 v ah dK) rfl (r p (v.none ah))⟩
 | ref l=>
  cases aN;obtain ⟨ds,ws,k,s,dK⟩:=ic v r;exact ⟨l,ws,rfl,.inl s,λ p ah=>F (.ref p) _ _ _ (Go.n7 v ah dK) rfl (k p (v.none ah))⟩
 | _=>exact (show False from r).elim
end
end L3
namespace L2
open PySem PySem.Spec PyProof.Rows
def J8(K:aV)(eN:TE):TI:=λ σ H R=>eN σ H λ x H1=>∃ a,x=.ref a/\(((∃ xs,d7 K H1 a xs)/\R (vK K a) H1)\/((∃ xs,eb K H1 a xs)/\R (vL K a) H1))
def Uq{X:aT}{bp l:a9}{eN:TE}(ar:b5 X l eN):nX X bp l (J8 X.K eN):=by
 intro pins s σ H R I h;refine b2 (ar pins s σ H _ I h) λ v s1 ⟨x,H1,a4,aX,aH⟩=>?_;obtain ⟨a,e,aH⟩:=aH;subst e;cases aX;rcases aH with ⟨⟨xs,aM⟩,q⟩ | ⟨⟨xs,aM⟩,q⟩
 ·obtain ⟨aw,a5,p,hz⟩:=a4.list aM;refine wpAny_pyIter_list p.isList ?_;refine ⟨s1.heap.objs.size,[s1.heap.objs.size],_,_,H1,rfl,a4.kept (t':=s1.toks) λ b o e=>dQ _ e,Ql a _,⟨_,hG _ rfl,rfl,rfl⟩,λ b af=>?_,q⟩
  have e:b=s1.heap.objs.size:=by simpa using af
  subst e;exact a4.qm (b4 _) (a4.bU.fresh (b4 _))
 ·obtain ⟨aw,a5,p,hz⟩:=a4.tuple aM;refine wpAny_pyIter_tuple (show s1.heap.IsTuple a aw.toArray from p) ?_;refine ⟨s1.heap.objs.size,[s1.heap.objs.size],_,_,H1,rfl,a4.kept (t':=s1.toks) λ b o e=>dQ _ e,Qm a _,⟨_,hG _ rfl,rfl,rfl⟩,λ b af=>?_,q⟩
  have e:b=s1.heap.objs.size:=by simpa using af
  subst e;exact a4.qm (b4 _) (a4.bU.fresh (b4 _))
end L2
namespace L3
open PySem PySem.Spec L2
section
variable{X:aT}{a b c e o i bp iter:a9}{es:List a9}{bb bA aW to gU:cm}{t:gK}{pos p apos cM:Pos}
structure ly where
 items:List D
 held:aL->Prop
abbrev kR:=ef->aL->(ly->aL->Prop)->Prop
def J9(K:aV)(J:ly)(l0:kJ)(G:aL)(H:av):Prop:=∀ aB H1,Go K G H aB H1->J.held aB →
 (∀(i:Nat)(d:D),J.items[i]?=some d->l0.go i H1/\∀ x aj,l0.ql i H1 x aj->Go K aB H1 aB aj/\dg K aj d x)/\∀ i,J.items.length<=i->l0.stop i H1
structure oa(X:aT)(bp iter:a9)(ec:kR):Prop where
 run:∃ J_:TI,tP X bp iter J_/\∀ ρ G l1 σ H R,dq X.K ρ G σ H->ec ρ G l1->(∀ J l0 ap aj,Go X.K G H ap aj->J9 X.K J l0 ap aj->l1 J ap->R l0 aj)->J_ σ H R
@[irreducible] def wB(G:aL)(l:Addr)(k:ly->Prop):Prop:=match G l with
 | some (.lst ds)=>k ⟨ds,λ G=>G l=some (.lst ds)⟩
 | _=>False
abbrev Ur(bb:cm):kR:=λ ρ G R=>bb ρ G λ x aB=>match x with
 | .tup ds=>R ⟨ds,λ _=>True⟩ aB
 | .ref l=>wB aB l λ J=>R J aB
 | .ej ds=>R ⟨ds,λ _=>True⟩ aB
 | _=>False
def wC{G:aL}{l:Addr}{k:ly->Prop}{ds:List D}(h:G l=some (.lst ds))(q:k ⟨ds,λ G=>G l=some (.lst ds)⟩):wB G l k:=by unfold wB;rw [h];exact q
def Us{K:aV}{ds:List D}{vs:List V}{l:Addr}{aB:aL}{H1:av}(v:fu K aB H1)(s:eb K H1 l vs)(r:bH K H1 ds vs) :
 (∀(i:Nat)(d:D),ds[i]?=some d->(vL K l).go i H1/\∀ x aj,(vL K l).ql i H1 x aj->Go K aB H1 aB aj/\dg K aj d x)/\∀ i,ds.length<=i->(vL K l).stop i H1:=by
 refine ⟨λ i d hd=>?_,λ i au=>⟨vs,s,by rw [r.len];exact au⟩⟩;obtain ⟨w,hw,pe⟩:=r.get hd;refine ⟨⟨vs,w,s,hw⟩,λ x aj y=>?_⟩;obtain ⟨rfl,y⟩:=y;have z:=y vs s;rw [hw] at z;cases z;exact ⟨.refl v,pe⟩
def Ka{K:aV}{ds:List D}{vs:List V}{l:Addr}{aB:aL}{H1:av}(v:fu K aB H1)(s:d7 K H1 l vs)(r:bH K H1 ds vs) :
 (∀(i:Nat)(d:D),ds[i]?=some d->(vK K l).go i H1/\∀ x aj,(vK K l).ql i H1 x aj->Go K aB H1 aB aj/\dg K aj d x)/\∀ i,ds.length<=i->(vK K l).stop i H1:=by
 refine ⟨λ i d hd=>?_,λ i au=>⟨vs,s,by rw [r.len];exact au⟩⟩;obtain ⟨w,hw,pe⟩:=r.get hd;refine ⟨⟨vs,w,s,hw⟩,λ x aj y=>?_⟩;obtain ⟨rfl,y⟩:=y;have z:=y vs s;rw [hw] at z;cases z;exact ⟨.refl v,pe⟩
def Ut{bf:TE}(ar:c4 X a bf):tP X bp a (J8 X.K bf):=⟨Uq ar.run⟩
def rW(ay:b7 X a bb):oa X bp a (Ur bb):=by
 obtain ⟨ca,cn,cp⟩:=ay.run;refine ⟨_,Ut cn,λ ρ G l1 σ H R B q F=>cp ρ G _ σ H _ B q λ x aB v H1 g1 aN aH=>?_⟩
 cases x with
 | tup ds=>
  obtain ⟨l,vs,rfl,s,r⟩:=aN;exact ⟨l,rfl,.inr ⟨⟨vs,s⟩,F ⟨ds,λ _=>True⟩ _ aB H1 g1 (λ aY a3 g2 _=>Us g2.ck (g2.tup.hq _ _ s) (r.mono g2.tup)) aH⟩⟩
 | ref l=>
  cases aN;refine ⟨l,rfl,.inl ?_⟩
  replace aH:wB aB l λ J=>l1 J aB:=aH
  unfold wB at aH;split at aH
  ·next ds hd=>
   obtain ⟨vs,z,r⟩:=g1.ck _ _ hd;refine ⟨⟨vs,.of z⟩,F ⟨ds,λ G=>G l=some (.lst ds)⟩ _ aB H1 g1 (λ aY a3 g2 ag=>?_) aH⟩;obtain ⟨us,cc,bj⟩:=g2.ck _ _ ag;exact Ka g2.ck (.of cc) bj
  ·exact aH.elim
 | ej ds=>
  obtain ⟨l,vs,rfl,s,r⟩:=aN;exact ⟨l,rfl,.inl ⟨⟨vs,s.fb⟩,F ⟨ds,λ _=>True⟩ _ aB H1 g1 (λ aY a3 g2 _=>Ka g2.ck (g2.tup.fr _ _ s).fb (r.mono g2.tup)) aH⟩⟩
 | _=>exact (show False from aH).elim
def kS(lo:Int)(n:Nat):List D:=(hE n).map λ(i:Nat)=>D.int (lo+(i:Int))
def Uu{lo:Int}{n i:Nat}{d:D}(h:(kS lo n)[i]?=some d):i < n/\d=.int (lo+i):=by
 unfold kS at h;rw [f3] at h;by_cases c:i < n
 ·rw [List.getElem?_range c] at h;simp at h;exact ⟨c,h.symm⟩
 ·rw [yB (by simpa using c)] at h;cases h
def tZ{lo:Int}{n:Nat}:(kS lo n).length=n:=by simp [kS]
@[irreducible] def wD(r:List D->Option (Int × Nat))(ds:List D)(k:Int->Nat->Prop):Prop:=match r ds with
 | some (lo,n)=>k lo n
 | none=>False
abbrev Uv(r:List D->Option (Int × Nat))(t:gK):kR:=λ ρ G R=>t ρ G λ ds aB=>wD r ds λ lo n=>R ⟨kS lo n,λ _=>True⟩ aB
def CW(i:Int):Bool:=decide (-(2 ^ 62)<=i)&&decide (i < 2 ^ 62)
def wE:List D->Option (Int × Nat)
 | [.int j]=>if CW j=true then some (0,j.toNat) else none
 | _=>none
def Kb{i:Int}:CW i=true ↔ -(2 ^ 62)<=i/\i < 2 ^ 62:=by unfold CW;simp
def Uw{K:aV}{lo:Int}{n:Nat}{aB:aL}{H1:av}(v:fu K aB H1) :
 (∀(i:Nat)(d:D),(kS lo n)[i]?=some d->(tI lo n).go i H1/\∀ x aj,(tI lo n).ql i H1 x aj->Go K aB H1 aB aj/\dg K aj d x)/\∀ i,(kS lo n).length<=i->(tI lo n).stop i H1:=by
 refine ⟨λ i d hd=>?_,λ i au=>by rw [tZ] at au;exact au⟩;obtain ⟨ae,rfl⟩:=Uu hd;refine ⟨ae,λ x aj y=>?_⟩;obtain ⟨rfl,rfl⟩:=y;exact ⟨.refl v,rfl⟩
def Ux{ds:List D}{lo:Int}{n:Nat}(h:wE ds=some (lo,n)):∃ j,ds=[.int j]/\(-(2 ^ 62)<=j/\j < 2 ^ 62)/\lo=0/\n=j.toNat:=by
 unfold wE at h;split at h
 ·next j=>
  split at h
  ·next c=>cases h;exact ⟨j,rfl,Kb.mp c,rfl,rfl⟩
  ·cases h
 ·cases h
def CY{j:Int}{k:Int->Nat->Prop}(h:-(2 ^ 62)<=j/\j < 2 ^ 62)(q:k 0 j.toNat):wD wE [.int j] k:=by
 have e:wE [.int j]=some (0,j.toNat):=if_pos (Kb.mpr h);unfold wD;rw [e];exact q
def Uy{r:List D->Option (Int × Nat)}{ds:List D}{R:ly->aL->Prop}{G:aL}(h:wD r ds λ lo n=>R ⟨kS lo n,λ _=>True⟩ G):∃ lo n,r ds=some (lo,n)/\R ⟨kS lo n,λ _=>True⟩ G:=by
 unfold wD at h;split at h
 ·next lo n e=>exact ⟨lo,n,e,h⟩
 ·exact h.elim
def CZ(a_:ew X "range")(hm:X.mg "range" = none)(ay:iL X [a] t)(ax:gu a=true:=by rfl):oa X bp (.Call (.Name "range" p) [a] [] pos) (Uv wE t):=by
 obtain ⟨ca,cn,cp⟩:=ay.run;refine ⟨_,Tb a_ hm cn ax,λ ρ G l1 σ H R B q F=>cp ρ G _ σ H _ B q λ ds aB vs H1 g1 al ar aH=>?_⟩;obtain ⟨lo,n,e,bl⟩:=Uy aH;obtain ⟨j,rfl,c,rfl,rfl⟩:=Ux e;obtain ⟨v,r,rfl,C0,l⟩:=al;cases l;cases C0;exact ⟨j,rfl,c.1,c.2,F _ _ aB H1 g1 (λ aY a3 g2 _=>Uw g2.ck) bl⟩
def e0(P:ef->aL->Prop):ef->aL->Prop:=λ ρ G=>∃ ρ' ap,zy ρ' ρ/\Sub ap G/\P ρ' ap
theorem e0.of{P:ef->aL->Prop}{ρ:ef}{G:aL}(h:P ρ G):e0 P ρ G:=⟨ρ,G,.refl _,.refl _,h⟩
abbrev Kc(ec:kR)(g:hI)(bA:f7):f7:=λ bY ρ G=>ec ρ G λ J aB=>∃ P:Nat->ef->aL->Prop,P 0 ρ aB/\(∀ i ρ G,i<=J.items.length->P i ρ G->J.held G) ∧
 (∀(i:Nat)(d:D)(ρ:ef)(G:aL),J.items[i]?=some d->P i ρ G->g d ρ G λ ρ' ap=>bA { bY with nx:=e0 (P (i+1)),ct:=e0 (P (i+1)),bk:=bY.nx } ρ' ap)/\∀ ρ G,P J.items.length ρ G->bY.nx ρ G
def wF{body:List b1}{ec:kR}{g:hI}{bA:f7}(ah:p7 (a8 X.prog X.w) X.A X.env X.xe)(am:X.calm=true)(au:oa X bp iter ec)(a_:lu X bp g)(af:n8 X body bA)(ax:∀ x,nD iter X.env x=pure x:=by intro _;rfl) :
 eA X (.For bp iter body [] pos) (Kc ec g bA):=by
 obtain ⟨ci,pf,lj⟩:=au.run;obtain ⟨t2,rX,pg⟩:=a_.run;obtain ⟨jv,fv,fw⟩:=af.run;refine ⟨_,JE ah am pf rX fv ax,λ bY dA ρ G σ H B q F=>lj ρ G _ σ H _ B q λ J l0 aB H1 g1 ok aH=>?_⟩;obtain ⟨P,hc,held,turn,done⟩:=aH;refine ⟨λ i m σ' aj=>m=J.items.length - i/\i<=J.items.length/\∃ ρ' ap,P i ρ' ap/\dq X.K ρ' ap σ' aj/\Go X.K aB H1 ap aj,⟨_,rfl,fi _,ρ,aB,hc,B.go g1,.refl g1.ck⟩,?_⟩;rintro i m σ2 a3 ⟨rfl,au,ρ2,aY,dN,cV,g2⟩;have k2:=ok aY a3 g2 (held i ρ2 aY au dN);by_cases eG:i < J.items.length
 ·have hd:J.items[i]?=some J.items[i]:=by simp [eG]
  obtain ⟨go,wG⟩:=k2.1 i _ hd;refine .inr ⟨go,λ σ' aj=>∃ ρ' ap,P (i+1) ρ' ap/\dq X.K ρ' ap σ' aj/\Go X.K aB H1 ap aj,λ σ' aj ⟨ρ',ap,cN,cc,hr⟩=>⟨J.items.length - (i+1),by omega,rfl,eG,ρ',ap,cN,cc,hr⟩,λ x aj y=>?_⟩;obtain ⟨g3,aN⟩:=wG x aj y;refine pg _ x ρ2 aY _ σ2 aj _ (cV.go g3) aN (turn i _ ρ2 aY hd dN) λ ρ4 ht σ4 js gw t3 ia=>?_;have gk:=(g2.trans g3).trans gw
  have jO:∀ ρ' ap σ' aj,Go X.K ht js ap aj->dq X.K ρ' ap σ' aj->e0 (P (i+1)) ρ' ap->∃ ρ' ap,P (i+1) ρ' ap/\dq X.K ρ' ap σ' aj/\Go X.K aB H1 ap aj:=λ ρ' ap σ' aj g' fD ⟨ρ5,l2,s1,s2,w⟩=>
   ⟨ρ5,l2,w,fD.weak s1 s2,(gk.trans g').sub s2⟩
  exact fw _ _ ρ4 ht σ4 js t3 ia ⟨λ ρ' ap σ' aj g' fD w=>jO ρ' ap σ' aj g' fD w,(F.after ((g1.trans gk))).rt,λ ρ' ap σ' aj g' fD w=>F.nx ρ' ap σ' aj ((g1.trans gk).trans g') fD w,λ ρ' ap σ' aj g' fD w=>jO ρ' ap σ' aj g' fD w⟩
 ·have e:i=J.items.length:=by omega
  subst e;exact .inl ⟨k2.2 _ (b4 _),F.nx ρ2 aY σ2 a3 (g1.trans g2) cV (done ρ2 aY dN)⟩
abbrev Kd(bf:hs)(bA:f7):f7:=λ bY ρ G=>∃ W:Nat->ef->aL->Prop,(∃ m,W m ρ G)/\∀ m ρ G,W m ρ G →
 bf ρ G λ b aB=>bS b (bA { bY with nx:=e0 λ ρ' ap=>∃ dR,dR < m/\W dR ρ' ap,ct:=e0 λ ρ' ap=>∃ dR,dR < m/\W dR ρ' ap,bk:=bY.nx } ρ aB) (bY.nx ρ aB)
def zM{body:List b1}{bf:hs}{bA:f7}(ah:p7 (a8 X.prog X.w) X.A X.env X.xe)(am:AT X c bf)(af:n8 X body bA):eA X (.While c body [] pos) (Kd bf bA):=by
 obtain ⟨rU,j6,rc⟩:=am.run;obtain ⟨jv,fv,fw⟩:=af.run;refine ⟨_,JD ah j6 fv,λ bY dA ρ G σ H B q F=>?_⟩;obtain ⟨W,⟨m0,d2⟩,turn⟩:=q;refine ⟨λ m σ' aj=>∃ ρ' ap,W m ρ' ap/\dq X.K ρ' ap σ' aj/\Go X.K G H ap aj,⟨m0,ρ,G,d2,B,.refl B.ck⟩,?_⟩;rintro m σ2 a3 ⟨ρ2,aY,eu,cV,g2⟩;refine rc ρ2 aY _ σ2 a3 _ cV (turn m ρ2 aY eu) λ k d3 dy g3 dZ=>?_
 cases k with
 | true=>
  refine ⟨λ σ' aj=>∃ dR,dR < m/\∃ ρ' ap,W dR ρ' ap/\dq X.K ρ' ap σ' aj/\Go X.K G H ap aj,λ σ' aj ⟨dR,z,ρ',ap,cN,cc,hr⟩=>⟨dR,z,ρ',ap,cN,cc,hr⟩,?_⟩;have gk:=g2.trans g3
  have jO:∀ ρ' ap σ' aj,Go X.K d3 dy ap aj->dq X.K ρ' ap σ' aj->e0 (λ ρ' ap=>∃ dR,dR < m/\W dR ρ' ap) ρ' ap->∃ dR,dR < m/\∃ ρ' ap,W dR ρ' ap/\dq X.K ρ' ap σ' aj/\Go X.K G H ap aj:=λ ρ' ap σ' aj g' fD ⟨ρ5,l2,s1,s2,dR,hm,w⟩=>
   ⟨dR,hm,ρ5,l2,w,fD.weak s1 s2,(gk.trans g').sub s2⟩
  exact fw _ _ ρ2 d3 σ2 dy (cV.go g3) (dZ.1 rfl) ⟨λ ρ' ap σ' aj g' fD w=>jO ρ' ap σ' aj g' fD w,(F.after gk).rt,λ ρ' ap σ' aj g' fD w=>F.nx ρ' ap σ' aj (gk.trans g') fD w,λ ρ' ap σ' aj g' fD w=>jO ρ' ap σ' aj g' fD w⟩
 | false=>exact F.nx ρ2 d3 σ2 dy (g2.trans g3) (cV.go g3) (dZ.2 rfl)
end
end L3
namespace L2
open PySem PySem.Spec PyProof.Rows
theorem c4.imp{X:aT}{e:a9}{t t':TE}(h:c4 X e t)(i:∀ σ H Q,t' σ H Q->t σ H Q):c4 X e t':=⟨λ pins s σ H Q I q=>h.run pins s σ H Q I (i σ H Q q)⟩
theorem kO.imp{X:aT}{e:a9}{t t':g4}(h:kO X e t)(i:∀ v σ H Q,t' v σ H Q->t v σ H Q):kO X e t':=⟨λ pins s σ H x v Q I r q=>h.run pins s σ H x v Q I r (i _ _ _ _ q)⟩
end L2
namespace L3
open PySem PySem.Spec L2
section
variable{X:aT}{a b c e o i bp iter elt ct:a9}{es:List a9}{bb bA aW to gU:cm}{t:gK}{pos p apos cM:Pos}
abbrev zN(K:aV)(bf:TE)(t:cm):Prop:=∀ ρ G az σ H Q,dq K ρ G σ H->t ρ G az->Fin K G H az Q->bf σ H Q
abbrev C1(K:aV)(bf:g4)(t:hI):Prop:=∀ d v ρ G az σ H Q,dq K ρ G σ H->dg K H d v->t d ρ G az->CO K G H az Q->bf v σ H Q
theorem b7.wH{ι:Type}{cx:ι->aT}{K:aV}(d5:∀ z,(cx z).K=K)(h:∀ z,b7 (cx z) e aW):∃ bf:TE,(∀ z,c4 (cx z) e bf)/\zN K bf aW:=by
 have h':∀ z,∃ bf,c4 (cx z) e bf/\zN K bf aW:=λ z=>by
  have q:=(h z).run;rw [d5 z] at q;exact q
 exact ⟨λ σ H Q=>∀ z,Classical.choose (h' z) σ H Q,λ z=>(Classical.choose_spec (h' z)).1.imp λ σ H Q q=>q z,λ ρ G az σ H Q B q F z=>(Classical.choose_spec (h' z)).2 ρ G az σ H Q B q F⟩
theorem lu.wH{ι:Type}{cx:ι->aT}{K:aV}{aW:hI}(d5:∀ z,(cx z).K=K)(h:∀ z,lu (cx z) e aW):∃ bf:g4,(∀ z,kO (cx z) e bf)/\C1 K bf aW:=by
 have h':∀ z,∃ bf,kO (cx z) e bf/\C1 K bf aW:=λ z=>by
  have q:=(h z).run;rw [d5 z] at q;exact q
 exact ⟨λ v σ H Q=>∀ z,Classical.choose (h' z) v σ H Q,λ z=>(Classical.choose_spec (h' z)).1.imp λ v σ H Q q=>q z,λ d v ρ G az σ H Q B ad q F z=>(Classical.choose_spec (h' z)).2 d v ρ G az σ H Q B ad q F⟩
def m5(nt:Nat)(cap:List Nat)(ρ:ef):ef:=fs nt none++cap.map λ i=>(ρ[i]?).join
def Ke{nt:Nat}{cap:List Nat}{ρ:ef}{i:Nat}{d:D}(h:(m5 nt cap ρ)[i]?=some (some d)):nt<=i:=by
 by_cases c:nt<=i
 ·exact c
 ·unfold m5 at h;rw [vn (by simpa using c),yy] at h;rw [if_pos (by omega)] at h;cases h
theorem dq.comp{K:aV}{ρ:ef}{G:aL}{σ:St}{H:av}(B:dq K ρ G σ H)(nt:Nat)(cap:List Nat):dq K (m5 nt cap ρ) G (o2 nt cap σ) H:=by
 refine ⟨by simp [m5,o2],λ i d h=>?_,B.ck⟩;have au:=Ke h;unfold m5 at h;unfold o2;rw [yx (by simpa using au)] at h ⊢;rw [yz,f3] at h ⊢
 cases e:cap[i - nt]? with
 | none=>rw [e] at h;cases h
 | some k=>
  rw [e] at h
  have h':(ρ[k]?).join=some d:=by simpa using h
  have ag:ρ[k]?=some (some d):=by
   cases q:ρ[k]? with
   | none=>rw [q] at h';cases h'
   | some z=>rw [q] at h';cases z with
    | none=>cases h'
    | some y=>simp at h';rw [h']
  obtain ⟨v,aO,bX⟩:=B.st k d ag;exact ⟨v,by simp [aO],bX⟩
def zO(nt:Nat)(g:hI):Prop:=∀ d ρ G Q,g d ρ G Q->g d ρ G λ ρ' ap=>Q ρ' ap/\ρ'.length=ρ.length/\∀ i,nt<=i->ρ'[i]?=ρ[i]?
def ph{nt k:Nat}(h:k < nt):zO nt (zE k):=λ d ρ G Q q=>⟨q,by simp,λ i au=>nI (by omega)⟩
def wI(P:aL->Prop):aL->Prop:=λ G=>∃ ap,Sub ap G/\P ap
theorem wI.of{P:aL->Prop}{G:aL}(h:P G):wI P G:=⟨G,.refl _,h⟩
@[irreducible] def rY(g:hI)(aW:cm)(nt:Nat)(cap:List Nat)(ρ:ef)(Q:cJ)(J:ly)(aB:aL):Prop:=J.items.length < sizeLine/\∃ P:Nat->List D->aL->Prop,P 0 [] aB/\(∀ i ds G,i<=J.items.length->P i ds G->J.held G) ∧
 (∀(i:Nat)(d:D)(ds:List D)(G:aL),J.items[i]?=some d->P i ds G->g d (m5 nt cap ρ) G λ ρ3 d3=>aW ρ3 d3 λ y ht=>wI (P (i+1) (ds++[y])) ht)/\∀ ds G,P J.items.length ds G->∀ p,G p=none->Q (.ref p) (up G p (.lst ds))
abbrev C2(ec:kR)(g:hI)(aW:cm)(nt:Nat)(cap:List Nat):cm:=λ ρ G Q=>ec ρ G (rY g aW nt cap ρ Q)
def Kf{g:hI}{aW:cm}{nt:Nat}{cap:List Nat}{ρ:ef}{Q:cJ}{J:ly}{aB:aL}(P:Nat->List D->aL->Prop)(hz:J.items.length < sizeLine)(h0:P 0 [] aB)(held:∀ i ds G,i<=J.items.length->P i ds G->J.held G)
 (turn:∀(i:Nat)(d:D)(ds:List D)(G:aL),J.items[i]?=some d->P i ds G->g d (m5 nt cap ρ) G λ ρ3 d3=>aW ρ3 d3 λ y ht=>wI (P (i+1) (ds++[y])) ht) (done:∀ ds G,P J.items.length ds G->∀ p,G p=none->Q (.ref p) (up G p (.lst ds))):rY g aW nt cap ρ Q J aB:=by
 unfold rY;exact ⟨hz,P,h0,held,turn,done⟩
theorem qB{α:Type}{J:ly}{aB:aL}{g:hI}{aW:cm}{nt:Nat}{cap:List Nat}{ρ:ef}{Q:cJ}(xs:List α)(pi fn:α->D)(he:J.items=xs.map pi)(hz:xs.length < sizeLine)(held:J.held aB)
 (turn:∀ x∈xs,∀ R:cJ,R (fn x) aB->g (pi x) (m5 nt cap ρ) aB λ ρ3 d3=>aW ρ3 d3 R) (q:∀ p,aB p=none->Q (.ref p) (up aB p (.lst (xs.map fn)))) :
 rY g aW nt cap ρ Q J aB:=by
 unfold rY;refine ⟨by rw [he,cP];exact hz,λ i ds G=>G=aB/\ds=(xs.take i).map fn,⟨rfl,rfl⟩,λ i ds G _ h=>h.1 ▸ held,?_,?_⟩
 ·rintro i d ds G hd ⟨rfl,rfl⟩;rw [he,f3] at hd
  cases e:xs[i]? with
  | none=>rw [e] at hd;cases hd
  | some x=>
   rw [e] at hd;cases hd;refine turn x (kz e) _ (wI.of ⟨rfl,?_⟩);rw [rn,e,mC];rfl
 ·rintro ds G ⟨rfl,rfl⟩ p ah;rw [he,cP,vo];exact q p ah
theorem fu.t4{K:aV}{G:aL}{H:av}{acc:Addr}{ys zs:List V}(v:fu K G H)(h:H acc=some (.lst ys))(n:G acc=tq):fu K G (upd H acc (.lst zs)):=λ a o e=>
 (v a o e).mono (o7 h) (cQ (by rintro rfl;rw [n] at e;cases e))
theorem Go.t4{K:aV}{G ap:aL}{H aj:av}{acc:Addr}{ys zs:List V}(g:Go K G H ap aj)(h0:H acc=none)(h:aj acc=some (.lst ys))(n:ap acc=none):Go K G H ap (upd aj acc (.lst zs)) where
 tup:=⟨λ a xs q=>(o7 h).hq a xs (g.tup.hq a xs q),λ a xs q=>(o7 h).fr a xs (g.tup.fr a xs q),λ a o q=>(o7 (K:=K) h).mW a o (g.tup.mW a o q)⟩
 mX:=λ a o e=>by
  obtain ⟨dI,bZ⟩:=g.mX a o e;exact ⟨dI,by rw [cQ (h9 e h0)];exact bZ⟩
 same:=λ a o e z=>by rw [cQ (h9 e h0)];exact g.same a o e z
 new:=g.new
 ck:=g.ck.t4 h n
theorem dq.t4{K:aV}{ρ:ef}{G:aL}{σ:St}{H:av}{acc:Addr}{ys zs:List V}(B:dq K ρ G σ H)(h:H acc=some (.lst ys))(n:G acc=none):dq K ρ G σ (upd H acc (.lst zs)):=
 ⟨B.len,λ i d e=>let ⟨v,ae,ag⟩:=B.st i d e;⟨v,ae,ag.mono (o7 h)⟩,B.ck.t4 h n⟩
theorem Go.held{K:aV}{G ap:aL}{H aj:av}{acc:Addr}{ds:List D}{ys:List V}(g:Go K G H ap aj)(h0:H acc=none)(h:aj acc=some (.lst ys))(r:bH K aj ds ys):Go K G H (up ap acc (.lst ds)) aj where
 tup:=g.tup
 mX:=g.mX
 same:=g.same
 new:=λ a o e z=>by rw [dh (h9 e h0)];exact g.new a o e z
 ck:=λ a o e=>by
  by_cases c:a=acc
  ·subst c;rw [bg] at e;cases e;exact ⟨ys,h,r⟩
  ·rw [dh c] at e;exact g.ck a o e
theorem Kg{K:aV}{ci:TI}{t2:g4}{ce:TE}{ec:kR}{g:hI}{aW:cm}{nt:Nat}{cap:List Nat}(aD:zO nt g)
 (lj:∀ ρ G l1 σ H R,dq K ρ G σ H->ec ρ G l1->(∀ J l0 ap aj,Go K G H ap aj->J9 K J l0 ap aj->l1 J ap->R l0 aj)->ci σ H R) (pg:C1 K t2 g) (re:zN K ce aW):zN K (v4 ci t2 ce nt cap) (C2 ec g aW nt cap):=by
 intro ρ G az σ H Q B q F;refine lj ρ G _ σ H _ B q λ J l0 aB H1 g1 ok aH=>?_;unfold rY at aH;obtain ⟨hsz,P,hc,held,turn,done⟩:=aH;intro acc zP;have c3:=g1.ck.none zP;have Kh:=Go.mV (o:=.lst []) g1.ck zP
 refine ⟨λ i m ys σ' aj=>m=J.items.length - i/\i<=J.items.length/\∃ ds ap,P i ds ap/\bH K aj ds ys/\ds.length<=i/\dq K (m5 nt cap ρ) ap σ' aj/\Go K aB H1 ap aj/\ap acc=none/\aj acc=some (.lst ys),
  ⟨_,rfl,fi _,[],aB,hc,rfl,b4 _,((B.go g1).comp nt cap).go Kh,Kh,c3,eF⟩,?_⟩
 rintro i m ys σ2 a3 ⟨rfl,au,ds,aY,dN,bj,eM,cV,g2,b8,ag⟩;have k2:=ok aY a3 g2 (held i ds aY au dN);by_cases eG:i < J.items.length
 ·have hd:J.items[i]?=some J.items[i]:=by simp [eG]
  obtain ⟨go,wG⟩:=k2.1 i _ hd;refine .inr ⟨go,λ x aj y=>?_⟩;obtain ⟨g3,aN⟩:=wG x aj y;refine pg _ x _ aY _ σ2 aj _ (cV.go g3) aN (aD _ _ _ _ (turn i _ ds aY hd dN)) λ ρ4 ht σ4 js gw t3 ⟨ia,t5,Uz⟩=>?_;refine re ρ4 ht _ σ4 js _ t3 ia λ z l2 u jr zQ wt lc=>?_;obtain ⟨qC,iJ,C3⟩:=lc;have gk:=(g3.trans gw).trans zQ;have d0:=gk.same acc _ ag b8;have UA:=gk.new acc _ ag b8;have wJ:=iJ.none UA;have UB:dq K (m5 nt cap ρ) qC σ4 jr:=(t3.go zQ).weak ⟨t5.symm,λ j d e=>by rw [Uz j (Ke e)];exact e⟩ iJ;refine ⟨d0,by rw [bj.len];omega,J.items.length - (i+1),by omega,rfl,eG,ds++[z],qC,C3,((bj.mono gk.tup).append (.one wt)).mono (o7 d0),by simp;omega,UB.t4 d0 wJ,(((g2.trans gk).sub iJ)).t4 zP d0 wJ,wJ,eF⟩
 ·have e:i=J.items.length:=by omega
  subst e;refine .inl ⟨k2.2 _ (b4 _),F (.ref acc) (up aY acc (.lst ds)) _ _ ((g1.trans g2).held ?_ ag bj) rfl (done ds aY dN acc b8)⟩
  cases z:H acc with
  | none=>rfl
  | some o=>obtain ⟨dI,bZ⟩:=g1.mX acc o z;rw [zP] at bZ;cases bZ
def t6{scope:gF}{N':List Str}{nt:Nat}{cap:List Nat}{ec:kR}{g:hI}(am:X.calm=true)(ok:g_ X scope N' nt cap)(aD:zO nt g)(au:oa X bp iter ec)(a_:∀ C ex s H,lu (fX X scope N' C ex s H) bp g)(he:∀ C ex s H,b7 (fX X scope N' C ex s H) elt aW)
 (ax:∀ x,nD iter X.env x=pure x:=by intro _;rfl):b7 X (.ListComp elt [⟨bp,iter,[],0⟩] scope pos) (C2 ec g aW nt cap):=by
 obtain ⟨ci,pf,lj⟩:=au.run;obtain ⟨t2,rX,pg⟩:=lu.wH (ι:=Addr × List Addr × aF × av) (cx:=λ z=>fX X scope N' z.1 z.2.1 z.2.2.1 z.2.2.2) (K:=X.K) (λ _=>rfl) λ z=>a_ _ _ _ _;obtain ⟨ce,j8,re⟩:=b7.wH (ι:=Addr × List Addr × aF × av) (cx:=λ z=>fX X scope N' z.1 z.2.1 z.2.2.1 z.2.2.2) (K:=X.K) (λ _=>rfl) λ z=>he _ _ _ _;exact ⟨_,Tf am ok pf (λ C ex s H=>rX (C,ex,s,H)) (λ C ex s H=>j8 (C,ex,s,H)) ax,Kg aD lj pg re⟩
def C4{scope:gF}{N':List Str}{nt:Nat}{cap:List Nat}{ec:kR}{g:hI}{y:Str}{py qt:Pos}{k:Nat}(am:X.calm=true)(dM:X.N.Nodup)(bP:X.N[k]?=some y)(ar:Loc X.env.scope y)(ok:g_ X scope N' nt cap)(aD:zO nt g)(au:oa X bp iter ec)(a_:∀ C ex s H,lu (fX X scope N' C ex s H) bp g)(he:∀ C ex s H,b7 (fX X scope N' C ex s H) elt aW)
 (ax:∀ x,nD iter X.env x=pure x:=by intro _;rfl) (mT:jL (.ListComp elt [⟨bp,iter,[],0⟩] scope pos) (some (.Name y py)) qt.line X.env=pure true:=by rfl) (hf:X.fn y=true\/X.env.scope.names.lookup y=some .local:=by first | exact .inl rfl | exact .inr rfl | assumption) :
 eA X (.Assign [.Name y py] (.ListComp elt [⟨bp,iter,[],0⟩] scope pos) qt) (CS (C2 ec g aW nt cap) (zE k)):=by
 obtain ⟨ci,pf,lj⟩:=au.run;obtain ⟨t2,rX,pg⟩:=lu.wH (ι:=Addr × List Addr × aF × av) (cx:=λ z=>fX X scope N' z.1 z.2.1 z.2.2.1 z.2.2.2) (K:=X.K) (λ _=>rfl) λ z=>a_ _ _ _ _;obtain ⟨ce,j8,re⟩:=b7.wH (ι:=Addr × List Addr × aF × av) (cx:=λ z=>fX X scope N' z.1 z.2.1 z.2.2.1 z.2.2.2) (K:=X.K) (λ _=>rfl) λ z=>he _ _ _ _;exact ⟨_,Tn am dM bP ar ok pf (λ C ex s H=>rX (C,ex,s,H)) (λ C ex s H=>j8 (C,ex,s,H)) ax mT hf,λ bY dA ρ G σ H B q F=>Kg aD lj pg re ρ G _ σ H _ B q λ d aB v H1 g1 a aH=>F.nx _ aB _ H1 g1 ((B.go g1).set a k) aH⟩
structure pj(X:aT)(T id:String)(ty:D->aL->Prop)(r:D->List D->aL->cJ->Prop):Prop where
 run:∃ rc:V->List V->av->cC->Prop,qs X id rc/\(∀ x v G H,fu X.K G H->dg X.K H x v->ty x G->tN X.K T v H) ∧
  ∀ x xs eL vs G H az Q,fu X.K G H->dg X.K H x eL->bH X.K H xs vs->r x xs G az->Fin X.K G H az Q->rc eL vs H Q
abbrev Ki(ty:D->aL->Prop)(r:D->List D->aL->cJ->Prop)(to:cm)(t:gK):cm:=λ ρ G Q=>to ρ G λ x aB=>ty x aB/\t ρ aB λ xs aY=>r x xs aY Q
abbrev UC(ty:D->aL->Prop)(r:D->List D->aL->cJ->Prop)(to:cm):cm:=λ ρ G Q=>to ρ G λ x aB=>ty x aB/\r x [] aB Q
def hu{name:Str}{T id:String}{ty:D->aL->Prop}{r:D->List D->aL->cJ->Prop}(ju:ra T)(slot:Slot T name id)(gI:oB (.builtin id)=pure (.type "method_descriptor"))(hm:pj X T id ty r)(aR:b7 X o to)(ay:iL X [e] t)
 (ll:mv o name X.env (eval o X.env)=eval o X.env:=by rfl) (lm:(apos.endLine==cM.line)=true:=by rfl) (ax:gu e=true:=by rfl):b7 X (.Call (.Attribute o name apos) [e] [] cM) (Ki ty r to t):=by
 obtain ⟨co,iq,im⟩:=aR.run;obtain ⟨ca,cn,cp⟩:=ay.run;obtain ⟨rZ,wK,bP,wL⟩:=hm.run;refine ⟨_,Ju ju slot gI wK iq cn ll lm ax,λ ρ G az σ H Q B q F=>im ρ G _ σ H _ B q λ x aB v H1 g1 aN ⟨ae,aH⟩=>⟨bP x v aB H1 g1.ck aN ae,?_⟩⟩;exact cp ρ aB _ σ H1 _ (B.go g1) aH λ xs aY vs a3 g2 al _ bl=>wL x xs v vs aY a3 az Q g2.ck (aN.mono g2.tup) al bl (F.after (g1.trans g2))
def wM{name:Str}{T id:String}{ty:D->aL->Prop}{r:D->List D->aL->cJ->Prop}(ju:ra T)(slot:Slot T name id)(gI:oB (.builtin id)=pure (.type "method_descriptor"))(hm:pj X T id ty r)(aR:b7 X o to)
 (ll:mv o name X.env (eval o X.env)=eval o X.env:=by rfl) (lm:(apos.endLine==cM.line)=true:=by rfl):b7 X (.Call (.Attribute o name apos) [] [] cM) (UC ty r to):=by
 obtain ⟨co,iq,im⟩:=aR.run;obtain ⟨rZ,wK,bP,wL⟩:=hm.run;exact ⟨_,SZ ju slot gI wK iq ll lm,λ ρ G az σ H Q B q F=>im ρ G _ σ H _ B q λ x aB v H1 g1 aN ⟨ae,aH⟩=>⟨bP x v aB H1 g1.ck aN ae,wL x [] v [] aB H1 az Q g1.ck aN rfl aH (F.after g1)⟩⟩
def zR:D->aL->Prop:=λ x G=>match x with
 | .ref l=>hb G l λ _=>True
 | _=>False
def C5{K:aV}{x:D}{v:V}{G:aL}{H:av}(w:fu K G H)(aN:dg K H x v)(h:zR x G):tN K "list" v H:=by
 cases x with
 | ref l=>cases aN;obtain ⟨ds,vs,_,s,_⟩:=ic w h;exact .inl ⟨rfl,vs,s⟩
 | _=>exact (show False from h).elim
def Kj:D->List D->aL->cJ->Prop:=λ x xs G Q=>match x,xs with
 | .ref l,[y]=>kQ G l λ ds=>ds.length < sizeLine/\Q .bc (up G l (.lst (ds++[y])))
 | _,_=>False
def iO:pj X "list" "list.append" zR Kj:=by
 refine ⟨_,⟨Cj⟩,λ x v G H w aN h=>C5 w aN h,λ x xs eL vs G H az Q v aN al r F=>?_⟩;unfold Kj at r;split at r
 ·next l y=>
  cases aN;obtain ⟨u,us,rfl,wN,z⟩:=al;cases z;obtain ⟨ds,ws,k,aE,ae,aX⟩:=qz v r;exact ⟨l,ws,u,rfl,rfl,ae,by rw [aX.len];exact k.1,F .bc _ _ _ (Go.wm v aE (aX.append (.one wN))) rfl k.2⟩
 ·exact r.elim
def Kk:D->List D->aL->cJ->Prop:=λ x xs G Q=>match x,xs with
 | .ref l,[.tup es]=>kQ G l λ ds=>ds.length+es.length<=sizeLine/\Q .bc (up G l (.lst (ds++es)))
 | .ref l,[.ref m]=>kQ G l λ ds=>kQ G m λ es=>ds.length+es.length<=sizeLine/\Q .bc (up G l (.lst (ds++es)))
 | _,_=>False
theorem qs.or{id:String}{r bD:V->List V->av->cC->Prop}(h:qs X id r)(h':qs X id bD):qs X id (λ x xs H Q=>r x xs H Q\/bD x xs H Q):=⟨h.run.or h'.run⟩
def C6:pj X "list" "list.extend" zR Kk:=by
 refine ⟨_,qs.or ⟨So⟩ ⟨RT⟩,λ x v G H w aN h=>C5 w aN h,λ x xs eL vs G H az Q v aN al r F=>?_⟩;unfold Kk at r;split at r
 ·next l jW=>
  cases aN;obtain ⟨u,us,rfl,⟨m,zs,rfl,s,Kl⟩,z⟩:=al;cases z;obtain ⟨ds,ws,k,aE,ae,aX⟩:=qz v r;exact .inl ⟨l,m,ws,zs,rfl,rfl,ae,s,by rw [aX.len,Kl.len];exact k.1,F .bc _ _ _ (Go.wm v aE (aX.append Kl)) rfl k.2⟩
 ·next l m=>
  cases aN;obtain ⟨u,us,rfl,wN,z⟩:=al;cases z;cases wN;obtain ⟨ds,ws,k,aE,ae,aX⟩:=qz v r;obtain ⟨jW,zs,k2,aP,ag,bj⟩:=qz v k;exact .inr ⟨l,m,ws,zs,rfl,rfl,ae,ag,by rw [aX.len,bj.len];exact k2.1,F .bc _ _ _ (Go.wm v aE (aX.append bj)) rfl k2.2⟩
 ·exact r.elim
def Km:D->List D->aL->cJ->Prop:=λ x xs G Q=>match x,xs with
 | .ref l,[]=>kQ G l λ ds=>∃ es d,ds=es++[d]/\Q d (up G l (.lst es))
 | _,_=>False
def zS:pj X "list" "list.pop" zR Km:=by
 refine ⟨_,⟨RV⟩,λ x v G H w aN h=>C5 w aN h,λ x xs eL vs G H az Q v aN al r F=>?_⟩;unfold Km at r;split at r
 ·next l=>
  cases aN;cases al;obtain ⟨ds,ws,⟨jW,d,rfl,k⟩,aE,ae,aX⟩:=qz v r;have ar:=aX.len
  have hd:(jW++[d])[jW.length]?=some d:=by simp
  obtain ⟨u,bK,wN⟩:=aX.get hd
  have e:ws.length - 1=jW.length:=by rw [ar];simp
  have bj:bH X.K H jW ws.dropLast:=by
   have z:=aX.take jW.length;rw [List.take_left] at z;rw [List.dropLast_eq_take,e];exact z
  have g:=Go.wm v aE bj;exact ⟨l,ws,u,rfl,rfl,ae,by rw [e];exact bK,F d _ _ _ g (wN.mono g.tup) k⟩
 ·exact r.elim
abbrev fe:=List D->aL->cJ->Prop
def bB(K:aV)(fE:fe):i8:=λ vs H Q _=>∃ ds G az,bH K H ds vs/\fu K G H/\fE ds G az/\Fin K G H az Q
abbrev UD(fE:fe)(t:gK):cm:=λ ρ G Q=>t ρ G λ ds aB=>fE ds aB Q
def cG{k j:Nat}{x:Str}{ps:List Str}{fE:fe}(Gt:Got X.prog X.w X.K X.mg X.base k x ps (bB X.K fE))(ak:fV j X.A)(aD:k<=j)(a_:ew X x)(ay:iL X (e::es) t)(fJ:(x==("__debug__" : Str))=false:=by decide)
 (ax:(e::es).all gu=true:=by rfl):b7 X (.Call (.Name x p) (e::es) [] pos) (UD fE t):=by
 obtain ⟨ca,cn,cp⟩:=ay.run;exact ⟨_,SW Gt ak aD a_ cn fJ ax,λ ρ G az σ H Q B q F=>cp ρ G _ σ H _ B q λ ds aB vs H1 g1 al _ aH=>⟨ds,aB,az,by rw [eP];exact al,g1.ck,aH,F.after g1⟩⟩
def bo(az:cJ):cJ:=λ d G=>∃ ap,Sub ap G/\az d ap
theorem bo.of{az:cJ}{d:D}{G:aL}(h:az d G):bo az d G:=⟨G,.refl _,h⟩
def r0(N:List Str)(ds:List D):ef:=ds.map some++fs (N.length - ds.length) none
def Kn{K:aV}{N:List Str}{ds:List D}{vs:List V}{G:aL}{H:av}(r:bH K H ds vs)(v:fu K G H):dq K (r0 N ds) G (L2.kK N vs) H:=by
 have ar:=r.len;refine ⟨by simp [r0,L2.kK,ar],λ i d h=>?_,v⟩;unfold r0 at h;unfold L2.kK;by_cases c:i < ds.length
 ·rw [vn (by simpa using c),f3] at h;rw [vn (by simpa [ar] using c),f3]
  cases e:ds[i]? with
  | none=>rw [e] at h;cases h
  | some z=>
   rw [e] at h;simp at h;subst h;obtain ⟨u,ae,ag⟩:=r.get e;exact ⟨u,by rw [ae];rfl,ag⟩
 ·rw [yx (by simpa using c),yy] at h;split at h<;>cases h
def gx{P:cS}{w:b_}{K:aV}{mg:Str->Option Value}{base:bO}{x qual:Str}{st:b1}{f:Addr}{fd:gZ}{N ps:List Str}{k:Nat}{fE:fe}(F:ed K x qual st f fd)(S:ez N ps (cW st))(len:∀ ds G az,fE ds G az->ds.length=ps.length)
 (oX:∀(bW:Value)(A:cL)(outer:List Env)(s:aF)(H:av)(E:gp),fV k (A.deeper (PyProof.Rows.envOfC qual (cW st) s.heap.objs.size f bW))->∀(ds:List D)(G:aL)(az:cJ),fE ds G az →
  ∃ t,n8 (e_ dz P w K mg base N qual (cW st) f bW A outer s H E).tE (j2 st) t/\t { nx:=λ _ ap=>bo az .bc ap,rt:=bo az } (r0 N ds) G):dp P w K mg base dz (k+1) f fd ps (bB K fE):=by
 refine F.Tg S (λ vs H Q E h=>?_) (λ bW A outer s H vs Q E ak h=>?_)
 ·obtain ⟨ds,G,az,r,_,h,_⟩:=h;rw [r.len];exact len ds G az h
 ·obtain ⟨ds,G,az,r,v,h,wO⟩:=h;obtain ⟨t,⟨bf,j,imp⟩,q⟩:=oX bW A outer s H E ak ds G az h;refine ⟨bf,j,imp _ _ (r0 N ds) G (L2.kK N vs) H (Kn r v) q ⟨λ ρ' ap σ' aj g b ⟨aY,s2,bl⟩=>wO .bc aY .bc aj (g.sub s2) rfl bl,λ d ap v aj g a ⟨aY,s2,bl⟩=>wO d aY v aj (g.sub s2) a bl,λ _ _ _ _ _ _ z=>z.elim,λ _ _ _ _ _ _ z=>z.elim⟩⟩
end
mutual
def cw:D->D->Bool
 | .bc,.bc=>true
 | .aJ a,.aJ b=>a==b
 | .aJ a,.int b=>(if a then 1 else 0)==b
 | .int a,.aJ b=>a==(if b then 1 else 0)
 | .int a,.int b=>a==b
 | .str a,.str b=>a==b
 | .tup xs,.tup ys=>ek xs ys
 | _,_=>false
def ek:List D->List D->Bool
 | [],[]=>true
 | x::xs,y::ys=>cw x y&&ek xs ys
 | _,_=>false
end
mutual
def D.data:D->Bool
 | .ref _=>false
 | .ty _=>false
 | .ej _=>false
 | .tup ds=>cY ds
 | _=>true
def cY:List D->Bool
 | []=>true
 | d::ds=>d.data&&cY ds
end
mutual
def D.aS:D->Nat
 | .tup ds=>1+cb ds
 | _=>0
def cb:List D->Nat
 | []=>0
 | d::ds=>max d.aS (cb ds)
end
def gy(ds es:List D)(j:Nat):Bool:=match ds[j]?,es[j]? with
 | some d,some e=>cw d e
 | _,_=>false
theorem wP:∀(ds es:List D),((hE (min ds.length es.length)).all (gy ds es)&&ds.length==es.length)=ek ds es
 | [],[]=>by simp [ek]
 | [],e::es=>by simp [ek]
 | d::ds,[]=>by simp [ek]
 | d::ds,e::es=>by
  rw [ek,<- wP ds es,be,be,Nat.succ_min_succ,List.range_succ_eq_map,nJ,yC];have ae:gy (d::ds) (e::es) 0=cw d e:=rfl
  have ag:(gy (d::ds) (e::es) ∘ Nat.succ)=gy ds es:=by funext j;simp [gy]
  rw [ae,ag,Bool.and_assoc];congr 2;rw [tt];simp
section
variable{X:aT}{pins:List (Addr × Obj)}{σ:L2.St}{H:av}{s:aF}
mutual
theorem UE(I:Inv X pins σ H s):∀{d e:D}{v:V},d.data=true->e.data=true->dg X.K H d v->dg X.K H e v->d=e
 | .bc,e,v,_,h,a,b=>by
  cases a;cases e<;>first | rfl | (cases b;done) | (obtain ⟨_,_,z,_⟩:=b;cases z)
 | .aJ _,e,v,_,h,a,b=>by
  cases a;cases e<;>first | (cases b;rfl) | (cases b;done) | (obtain ⟨_,_,z,_⟩:=b;cases z)
 | .int _,e,v,_,h,a,b=>by
  cases a;cases e<;>first | (cases b;rfl) | (cases b;done) | (obtain ⟨_,_,z,_⟩:=b;cases z)
 | .str _,e,v,_,h,a,b=>by
  cases a;cases e<;>first | (cases b;rfl) | (cases b;done) | (obtain ⟨_,_,z,_⟩:=b;cases z)
 | .ref _,_,_,h,_,_,_=>by simp [D.data] at h
 | .ty _,_,_,h,_,_,_=>by simp [D.data] at h
 | .ej _,_,_,h,_,_,_=>by simp [D.data] at h
 | .tup ds,e,v,h0,h,a,b=>by
  obtain ⟨l,vs,rfl,s1,aX⟩:=a
  cases e with
  | tup es=>
   obtain ⟨m,us,z,s2,bj⟩:=b;cases z;have e:=I.y3 s1 s2;subst e;rw [C7 I (by simpa [D.data] using h0) (by simpa [D.data] using h) aX bj]
  | ref m=>simp [D.data] at h
  | ej m=>simp [D.data] at h
  | _=>cases b
theorem C7(I:Inv X pins σ H s):∀{ds es:List D}{vs:List V},cY ds=true->cY es=true->bH X.K H ds vs->bH X.K H es vs->ds=es
 | [],[],_,_,_,_,_=>rfl
 | [],e::es,_,_,_,a,b=>by cases a;obtain ⟨_,_,z,_⟩:=b;cases z
 | d::ds,[],_,_,_,a,b=>by cases b;obtain ⟨_,_,z,_⟩:=a;cases z
 | d::ds,e::es,vs,ae,ag,⟨v,r,aE,a1,cv⟩,⟨u,q,aP,a2,eM⟩=>by
  subst aE;cases aP;simp only [cY,eI] at ae ag;rw [UE I ae.1 ag.1 a1 a2,C7 I ae.2 ag.2 cv eM]
end
mutual
theorem ob:∀{d:D},d.data=true->cw d d=true
 | .bc,_=>rfl
 | .aJ _,_=>by simp [cw]
 | .int _,_=>by simp [cw]
 | .str _,_=>by simp [cw]
 | .ref _,h=>by simp [D.data] at h
 | .ty _,h=>by simp [D.data] at h
 | .ej _,h=>by simp [D.data] at h
 | .tup ds,h=>by rw [cw];exact C8 (by simpa [D.data] using h)
theorem C8:∀{ds:List D},cY ds=true->ek ds ds=true
 | [],_=>rfl
 | d::ds,h=>by
  simp only [cY,eI] at h;rw [ek,ob h.1,C8 h.2];rfl
end
mutual
theorem C9(I:Inv X pins σ H s):∀(d e:D)(A:cL)(x y:V)(u v:Value),d.data=true->e.data=true->dg X.K H d x->dg X.K H e y->RelV x u->RelV y v->A.units+d.aS < dP->SeqAt.EqAt A s u v (cw d e)
 | .tup ds,e,A,x,y,u,v,hd,he,aN,a6,c1,a5,bK=>by
  obtain ⟨a,vs,rfl,s1,aX⟩:=aN;cases c1;obtain ⟨aw,cf,t1,_⟩:=I.tuple s1
  have fx:A.units < dP:=by omega
  cases e with
  | bc=>cases a6;cases a5;exact SeqAt.EqAt.tuple_none t1 fx
  | aJ b=>cases a6;cases a5;exact SeqAt.EqAt.tuple_bool b t1 fx
  | int b=>cases a6;obtain ⟨t,rfl⟩:=a5;exact SeqAt.EqAt.tuple_int b t t1 fx
  | str b=>cases a6;obtain ⟨t,rfl⟩:=a5;exact SeqAt.EqAt.tuple_str b t t1 fx
  | ref b=>simp [D.data] at he
  | ty b=>simp [D.data] at he
  | ej b=>simp [D.data] at he
  | tup es=>
   obtain ⟨b,us,rfl,s2,bj⟩:=a6;cases a5;by_cases Ko:a=b
   ·subst Ko;have aE:=I.y3 s1 s2;subst aE;have aP:=C7 I (by simpa [D.data] using hd) (by simpa [D.data] using he) aX bj;subst aP;rw [ob hd];exact SeqAt.EqAt.same _
   ·obtain ⟨cF,dX,di,_⟩:=I.tuple s2;have cv:=cf.length;have eM:=dX.length;have iw:=aX.len;have fj:=bj.len;simp only [D.aS] at bK
    have z:=SeqAt.RcAt.tuples (A:=A) (e:=gy ds es) t1 di fx (λ j ae ag=>by
     have q:=pk I ds es A.in1 vs us aw cF (by simpa [D.data] using hd) (by simpa [D.data] using he) aX bj cf dX (by show A.units+1+cb ds < dP;omega) j (by simpa using ae) (by simpa using ag)
     simpa using q)
    have ja:((hE (min aw.toArray.size cF.toArray.size)).all (gy ds es)&&aw.toArray.size==cF.toArray.size)=cw (.tup ds) (.tup es):=by
     rw [cH,cH,<- cv,<- eM,iw,fj,wP];rfl
    rw [ja] at z;exact SeqAt.EqAt.of_refs Ko z
 | .ref _,_,_,_,_,_,_,hd,_,_,_,_,_,_=>by simp [D.data] at hd
 | .ty _,_,_,_,_,_,_,hd,_,_,_,_,_,_=>by simp [D.data] at hd
 | .ej _,_,_,_,_,_,_,hd,_,_,_,_,_,_=>by simp [D.data] at hd
 | .bc,e,A,x,y,u,v,hd,he,aN,a6,c1,a5,bK=>by
  cases aN;cases c1
  have fx:A.units < dP:=by omega
  cases e with
  | bc=>cases a6;cases a5;exact SeqAt.EqAt.same _
  | aJ b=>cases a6;cases a5;exact SeqAt.EqAt.none_bool b
  | int b=>cases a6;obtain ⟨t,rfl⟩:=a5;exact SeqAt.EqAt.none_int b t
  | str b=>cases a6;obtain ⟨t,rfl⟩:=a5;exact SeqAt.EqAt.none_str b t
  | ref b=>simp [D.data] at he
  | ty b=>simp [D.data] at he
  | ej b=>simp [D.data] at he
  | tup es=>obtain ⟨b,us,rfl,s2,bj⟩:=a6;cases a5;obtain ⟨cF,dX,di,_⟩:=I.tuple s2;exact SeqAt.EqAt.none_tuple di fx
 | .aJ a,e,A,x,y,u,v,hd,he,aN,a6,c1,a5,bK=>by
  cases aN;cases c1
  have fx:A.units < dP:=by omega
  cases e with
  | bc=>cases a6;cases a5;exact SeqAt.EqAt.bool_none a
  | aJ b=>cases a6;cases a5;exact SeqAt.EqAt.bool_bool a b
  | int b=>cases a6;obtain ⟨t,rfl⟩:=a5;exact SeqAt.EqAt.bool_int a b t
  | str b=>cases a6;obtain ⟨t,rfl⟩:=a5;exact SeqAt.EqAt.bool_str a b t
  | ref b=>simp [D.data] at he
  | ty b=>simp [D.data] at he
  | ej b=>simp [D.data] at he
  | tup es=>obtain ⟨b,us,rfl,s2,bj⟩:=a6;cases a5;obtain ⟨cF,dX,di,_⟩:=I.tuple s2;exact SeqAt.EqAt.bool_tuple a di fx
 | .int a,e,A,x,y,u,v,hd,he,aN,a6,c1,a5,bK=>by
  cases aN;obtain ⟨t',rfl⟩:=c1
  have fx:A.units < dP:=by omega
  cases e with
  | bc=>cases a6;cases a5;exact SeqAt.EqAt.int_none a t'
  | aJ b=>cases a6;cases a5;exact SeqAt.EqAt.int_bool a t' b
  | int b=>cases a6;obtain ⟨t,rfl⟩:=a5;exact SeqAt.EqAt.int_int a t' b t
  | str b=>cases a6;obtain ⟨t,rfl⟩:=a5;exact SeqAt.EqAt.int_str a t' b t
  | ref b=>simp [D.data] at he
  | ty b=>simp [D.data] at he
  | ej b=>simp [D.data] at he
  | tup es=>obtain ⟨b,us,rfl,s2,bj⟩:=a6;cases a5;obtain ⟨cF,dX,di,_⟩:=I.tuple s2;exact SeqAt.EqAt.int_tuple a t' di fx
 | .str a,e,A,x,y,u,v,hd,he,aN,a6,c1,a5,bK=>by
  cases aN;obtain ⟨t',rfl⟩:=c1
  have fx:A.units < dP:=by omega
  cases e with
  | bc=>cases a6;cases a5;exact SeqAt.EqAt.str_none a t'
  | aJ b=>cases a6;cases a5;exact SeqAt.EqAt.str_bool a t' b
  | int b=>cases a6;obtain ⟨t,rfl⟩:=a5;exact SeqAt.EqAt.str_int a t' b t
  | str b=>cases a6;obtain ⟨t,rfl⟩:=a5;exact SeqAt.EqAt.str_str a t' b t
  | ref b=>simp [D.data] at he
  | ty b=>simp [D.data] at he
  | ej b=>simp [D.data] at he
  | tup es=>obtain ⟨b,us,rfl,s2,bj⟩:=a6;cases a5;obtain ⟨cF,dX,di,_⟩:=I.tuple s2;exact SeqAt.EqAt.str_tuple a t' di fx
theorem pk(I:Inv X pins σ H s):∀(ds es:List D)(A:cL)(vs us:List V)(aw cF:List Value),cY ds=true->cY es=true->bH X.K H ds vs->bH X.K H es us->Vals vs aw->Vals us cF->A.units+cb ds < dP →
 ∀ j (ae:j < aw.length) (ag:j < cF.length),SeqAt.EqAt A s aw[j] cF[j] (gy ds es j)
 | [],es,A,vs,us,aw,cF,_,_,e,bZ,cf,dX,_,j,ae,ag=>by
  rw [show vs=[] from e] at cf;cases cf;exact absurd ae (by simp)
 | d::ds,[],A,vs,us,aw,cF,_,_,e,bZ,cf,dX,_,j,ae,ag=>by
  rw [show us=[] from bZ] at dX;cases dX;exact absurd ag (by simp)
 | d::ds,dt::es,A,vs,us,aw,cF,hd,he,⟨v,r,e,q,t⟩,⟨kG,bD,bZ,hj,t'⟩,cf,dX,bK,j,ae,ag=>by
  subst e bZ
  cases cf with
  | cons aX rt=>
   cases dX with
   | cons bj pp=>
    simp only [cb] at bK;simp only [cY,eI] at hd he
    cases j with
    | zero=>exact C9 I d dt A _ _ _ _ hd.1 he.1 q hj aX bj (by omega)
    | succ j=>
     have z:=pk I ds es A _ _ _ _ hd.2 he.2 t t' rt pp (by omega) j (by simpa using ae) (by simpa using ag);simpa [gy] using z
end
def UF(I:Inv X pins σ H s)(d e:D)(A:cL)(x y:V)(u v:Value)(hd:d.data=true)(he:e.data=true)(aN:dg X.K H d x)(a6:dg X.K H e y)(c1:RelV x u)(a5:RelV y v)(bK:A.units+d.aS < dP):SeqAt.RcAt A s u v (cw d e):=by
 have fx:A.units < dP:=by omega
 cases d with
 | tup ds=>
  obtain ⟨a,vs,rfl,s1,aX⟩:=aN;cases c1;obtain ⟨aw,cf,t1,_⟩:=I.tuple s1
  cases e with
  | bc=>cases a6;cases a5;exact SeqAt.RcAt.tuple_none t1 fx
  | aJ b=>cases a6;cases a5;exact SeqAt.RcAt.tuple_bool b t1 fx
  | int b=>cases a6;obtain ⟨t,rfl⟩:=a5;exact SeqAt.RcAt.tuple_int b t t1 fx
  | str b=>cases a6;obtain ⟨t,rfl⟩:=a5;exact SeqAt.RcAt.tuple_str b t t1 fx
  | ref b=>simp [D.data] at he
  | ty b=>simp [D.data] at he
  | ej b=>simp [D.data] at he
  | tup es=>
   obtain ⟨b,us,rfl,s2,bj⟩:=a6;cases a5;obtain ⟨cF,dX,di,_⟩:=I.tuple s2;have cv:=cf.length;have eM:=dX.length;have iw:=aX.len;have fj:=bj.len;simp only [D.aS] at bK
   have z:=SeqAt.RcAt.tuples (A:=A) (e:=gy ds es) t1 di fx (λ j ae ag=>by
    have q:=pk I ds es A.in1 vs us aw cF (by simpa [D.data] using hd) (by simpa [D.data] using he) aX bj cf dX (by show A.units+1+cb ds < dP;omega) j (by simpa using ae) (by simpa using ag)
    simpa using q)
   have ja:((hE (min aw.toArray.size cF.toArray.size)).all (gy ds es)&&aw.toArray.size==cF.toArray.size)=cw (.tup ds) (.tup es):=by
    rw [cH,cH,<- cv,<- eM,iw,fj,wP];rfl
   rw [ja] at z;exact z
 | ref a=>simp [D.data] at hd
 | ty a=>simp [D.data] at hd
 | ej a=>simp [D.data] at hd
 | bc=>
  cases aN;cases c1
  cases e with
  | bc=>cases a6;cases a5;exact SeqAt.RcAt.none_none
  | aJ b=>cases a6;cases a5;exact SeqAt.RcAt.none_bool b
  | int b=>cases a6;obtain ⟨t,rfl⟩:=a5;exact SeqAt.RcAt.none_int b t
  | str b=>cases a6;obtain ⟨t,rfl⟩:=a5;exact SeqAt.RcAt.none_str b t
  | ref b=>simp [D.data] at he
  | ty b=>simp [D.data] at he
  | ej b=>simp [D.data] at he
  | tup es=>obtain ⟨b,us,rfl,s2,bj⟩:=a6;cases a5;obtain ⟨cF,dX,di,_⟩:=I.tuple s2;exact SeqAt.RcAt.none_tuple di fx
 | aJ a=>
  cases aN;cases c1
  cases e with
  | bc=>cases a6;cases a5;exact SeqAt.RcAt.bool_none a
  | aJ b=>cases a6;cases a5;exact SeqAt.RcAt.bool_bool a b
  | int b=>cases a6;obtain ⟨t,rfl⟩:=a5;exact SeqAt.RcAt.bool_int a b t
  | str b=>cases a6;obtain ⟨t,rfl⟩:=a5;exact SeqAt.RcAt.bool_str a b t
  | ref b=>simp [D.data] at he
  | ty b=>simp [D.data] at he
  | ej b=>simp [D.data] at he
  | tup es=>obtain ⟨b,us,rfl,s2,bj⟩:=a6;cases a5;obtain ⟨cF,dX,di,_⟩:=I.tuple s2;exact SeqAt.RcAt.bool_tuple a di fx
 | int a=>
  cases aN;obtain ⟨t',rfl⟩:=c1
  cases e with
  | bc=>cases a6;cases a5;exact SeqAt.RcAt.int_none a t'
  | aJ b=>cases a6;cases a5;exact SeqAt.RcAt.int_bool a t' b
  | int b=>cases a6;obtain ⟨t,rfl⟩:=a5;exact SeqAt.RcAt.int_int a t' b t
  | str b=>cases a6;obtain ⟨t,rfl⟩:=a5;exact SeqAt.RcAt.int_str a t' b t
  | ref b=>simp [D.data] at he
  | ty b=>simp [D.data] at he
  | ej b=>simp [D.data] at he
  | tup es=>obtain ⟨b,us,rfl,s2,bj⟩:=a6;cases a5;obtain ⟨cF,dX,di,_⟩:=I.tuple s2;exact SeqAt.RcAt.int_tuple a t' di fx
 | str a=>
  cases aN;obtain ⟨t',rfl⟩:=c1
  cases e with
  | bc=>cases a6;cases a5;exact SeqAt.RcAt.str_none a t'
  | aJ b=>cases a6;cases a5;exact SeqAt.RcAt.str_bool a t' b
  | int b=>cases a6;obtain ⟨t,rfl⟩:=a5;exact SeqAt.RcAt.str_int a t' b t
  | str b=>cases a6;obtain ⟨t,rfl⟩:=a5;exact SeqAt.RcAt.str_str a t' b t
  | ref b=>simp [D.data] at he
  | ty b=>simp [D.data] at he
  | ej b=>simp [D.data] at he
  | tup es=>obtain ⟨b,us,rfl,s2,bj⟩:=a6;cases a5;obtain ⟨cF,dX,di,_⟩:=I.tuple s2;exact SeqAt.RcAt.str_tuple a t' di fx
end
section
variable{X:aT}{pins:List (Addr × Obj)}{σ:L2.St}{H:av}{s:aF}
def UG(I:Inv X pins σ H s)(d e:D)(A:cL)(x y:V)(u v:Value)(hd:d.data=true)(he:e.data=true)(aN:dg X.K H d x)(a6:dg X.K H e y)(c1:RelV x u)(a5:RelV y v)(bK:A.units+d.aS < dP):SeqAt.RcNeAt A s u v (!cw d e):=by
 have fx:A.units < dP:=by omega
 cases d with
 | tup ds=>
  obtain ⟨a,vs,rfl,s1,aX⟩:=aN;cases c1;obtain ⟨aw,cf,t1,_⟩:=I.tuple s1
  cases e with
  | bc=>cases a6;cases a5;exact SeqAt.RcNeAt.tuple_none t1 fx
  | aJ b=>cases a6;cases a5;exact SeqAt.RcNeAt.tuple_bool b t1 fx
  | int b=>cases a6;obtain ⟨t,rfl⟩:=a5;exact SeqAt.RcNeAt.tuple_int b t t1 fx
  | str b=>cases a6;obtain ⟨t,rfl⟩:=a5;exact SeqAt.RcNeAt.tuple_str b t t1 fx
  | ref b=>simp [D.data] at he
  | ty b=>simp [D.data] at he
  | ej b=>simp [D.data] at he
  | tup es=>
   obtain ⟨b,us,rfl,s2,bj⟩:=a6;cases a5;obtain ⟨cF,dX,di,_⟩:=I.tuple s2;have cv:=cf.length;have eM:=dX.length;have iw:=aX.len;have fj:=bj.len;simp only [D.aS] at bK
   have z:=SeqAt.RcNeAt.tuples (A:=A) (e:=gy ds es) t1 di fx (λ j ae ag=>by
    have q:=pk I ds es A.in1 vs us aw cF (by simpa [D.data] using hd) (by simpa [D.data] using he) aX bj cf dX (by show A.units+1+cb ds < dP;omega) j (by simpa using ae) (by simpa using ag)
    simpa using q)
   have ja:((hE (min aw.toArray.size cF.toArray.size)).all (gy ds es)&&aw.toArray.size==cF.toArray.size)=cw (.tup ds) (.tup es):=by
    rw [cH,cH,<- cv,<- eM,iw,fj,wP];rfl
   rw [ja] at z;exact z
 | ref a=>simp [D.data] at hd
 | ty a=>simp [D.data] at hd
 | ej a=>simp [D.data] at hd
 | bc=>
  cases aN;cases c1
  cases e with
  | bc=>cases a6;cases a5;exact SeqAt.RcNeAt.none_none
  | aJ b=>cases a6;cases a5;exact SeqAt.RcNeAt.none_bool b
  | int b=>cases a6;obtain ⟨t,rfl⟩:=a5;exact SeqAt.RcNeAt.none_int b t
  | str b=>cases a6;obtain ⟨t,rfl⟩:=a5;exact SeqAt.RcNeAt.none_str b t
  | ref b=>simp [D.data] at he
  | ty b=>simp [D.data] at he
  | ej b=>simp [D.data] at he
  | tup es=>obtain ⟨b,us,rfl,s2,bj⟩:=a6;cases a5;obtain ⟨cF,dX,di,_⟩:=I.tuple s2;exact SeqAt.RcNeAt.none_tuple di fx
 | aJ a=>
  cases aN;cases c1
  cases e with
  | bc=>cases a6;cases a5;exact SeqAt.RcNeAt.bool_none a
  | aJ b=>cases a6;cases a5;exact SeqAt.RcNeAt.bool_bool a b
  | int b=>cases a6;obtain ⟨t,rfl⟩:=a5;exact SeqAt.RcNeAt.bool_int a b t
  | str b=>cases a6;obtain ⟨t,rfl⟩:=a5;exact SeqAt.RcNeAt.bool_str a b t
  | ref b=>simp [D.data] at he
  | ty b=>simp [D.data] at he
  | ej b=>simp [D.data] at he
  | tup es=>obtain ⟨b,us,rfl,s2,bj⟩:=a6;cases a5;obtain ⟨cF,dX,di,_⟩:=I.tuple s2;exact SeqAt.RcNeAt.bool_tuple a di fx
 | int a=>
  cases aN;obtain ⟨t',rfl⟩:=c1
  cases e with
  | bc=>cases a6;cases a5;exact SeqAt.RcNeAt.int_none a t'
  | aJ b=>cases a6;cases a5;exact SeqAt.RcNeAt.int_bool a t' b
  | int b=>cases a6;obtain ⟨t,rfl⟩:=a5;exact SeqAt.RcNeAt.int_int a t' b t
  | str b=>cases a6;obtain ⟨t,rfl⟩:=a5;exact SeqAt.RcNeAt.int_str a t' b t
  | ref b=>simp [D.data] at he
  | ty b=>simp [D.data] at he
  | ej b=>simp [D.data] at he
  | tup es=>obtain ⟨b,us,rfl,s2,bj⟩:=a6;cases a5;obtain ⟨cF,dX,di,_⟩:=I.tuple s2;exact SeqAt.RcNeAt.int_tuple a t' di fx
 | str a=>
  cases aN;obtain ⟨t',rfl⟩:=c1
  cases e with
  | bc=>cases a6;cases a5;exact SeqAt.RcNeAt.str_none a t'
  | aJ b=>cases a6;cases a5;exact SeqAt.RcNeAt.str_bool a t' b
  | int b=>cases a6;obtain ⟨t,rfl⟩:=a5;exact SeqAt.RcNeAt.str_int a t' b t
  | str b=>cases a6;obtain ⟨t,rfl⟩:=a5;exact SeqAt.RcNeAt.str_str a t' b t
  | ref b=>simp [D.data] at he
  | ty b=>simp [D.data] at he
  | ej b=>simp [D.data] at he
  | tup es=>obtain ⟨b,us,rfl,s2,bj⟩:=a6;cases a5;obtain ⟨cF,dX,di,_⟩:=I.tuple s2;exact SeqAt.RcNeAt.str_tuple a t' di fx
end
section
variable{X:aT}{a b c e o i bp iter:a9}{es:List a9}{bb bA aW to gU bf:cm}{t:gK}{pos p apos cM:Pos}
def b9{A:cL}{k:Nat}(ak:fV k A):A.units+200 < dP:=by have:=ak.un;omega
def zT(K:aV)(f:Bool->Bool):eZ:=λ x y H Q=>∃ d e,dg K H d x/\dg K H e y/\d.data=true/\e.data=true/\d.aS<=150/\Q (.aJ (f (cw d e))) H
def C_(K:aV)(f:Bool->Bool):eZ:=λ x y H Q=>∃ l m vs us ds es,x=.ref l/\y=.ref m/\d7 K H l vs/\d7 K H m us/\bH K H ds vs/\bH K H es us/\cY ds=true/\cY es=true/\cb ds<=150/\Q (.aJ (f (ek ds es))) H
def UH(bK:X.A.units+200 < dP):d8 X (er .Eq) (zT X.K id):=by
 intro pins s σ H x y v u Q I a7 cD h;obtain ⟨d,e,aN,a6,hd,he,hz,q⟩:=h;exact UF I d e X.A x y v u hd he aN a6 a7 cD (by omega) X.prog X.w X.xe _ ⟨.aJ _,H,I,rfl,q⟩
def UI(bK:X.A.units+200 < dP):d8 X (er .NotEq) (zT X.K (!·)):=by
 intro pins s σ H x y v u Q I a7 cD h;obtain ⟨d,e,aN,a6,hd,he,hz,q⟩:=h;exact UG I d e X.A x y v u hd he aN a6 a7 cD (by omega) X.prog X.w X.xe _ ⟨.aJ _,H,I,rfl,q⟩
theorem zU:∀{ds es:List D},ds.length≠es.length->ek ds es=false
 | [],[],h=>absurd rfl h
 | [],_::_,_=>rfl
 | _::_,[],_=>rfl
 | d::ds,e::es,h=>by rw [ek,zU (by simpa using h),tr]
def Da{ds es:List D}(h:ds.length=es.length):(hE ds.length).all (gy ds es)=ek ds es:=by
 rw [<- wP,<- h,Nat.min_self];simp
def UJ(bK:X.A.units+200 < dP):d8 X (er .Eq) (C_ X.K id):=by
 intro pins s σ H x y v u Q I a7 cD h;obtain ⟨l,m,vs,us,ds,es,rfl,rfl,s1,s2,aX,bj,hd,he,hz,q⟩:=h;cases a7;cases cD;obtain ⟨aw,cf,t1,_⟩:=I.list s1;obtain ⟨cF,dX,di,_⟩:=I.list s2;have cv:=cf.length;have eM:=dX.length;have iw:=aX.len;have fj:=bj.len;by_cases ar:ds.length=es.length
 ·refine SeqAt.RcAt.lists (e:=gy ds es) t1.isList di.isList (by rw [cH,cH];omega) (by omega) (λ j ae ag=>?_) X.prog X.w X.xe _ ⟨.aJ _,H,I,?_,q⟩
  ·have q:=pk I ds es X.A.in1 vs us aw cF hd he aX bj cf dX (by show X.A.units+1+cb ds < dP;omega) j (by simpa using ae) (by simpa using ag);simpa using q
  ·show Value.bool _=Value.bool _;rw [cH,<- cv,iw,Da ar];rfl
 ·refine SeqAt.RcAt.lists_lengths t1.isList di.isList (by rw [cH,cH];simp;omega) (by omega) X.prog X.w X.xe _ ⟨.aJ _,H,I,?_,q⟩;rw [zU ar];rfl
def UK(bK:X.A.units+200 < dP):d8 X (er .NotEq) (C_ X.K (!·)):=by
 intro pins s σ H x y v u Q I a7 cD h;obtain ⟨l,m,vs,us,ds,es,rfl,rfl,s1,s2,aX,bj,hd,he,hz,q⟩:=h;cases a7;cases cD;obtain ⟨aw,cf,t1,_⟩:=I.list s1;obtain ⟨cF,dX,di,_⟩:=I.list s2;have cv:=cf.length;have eM:=dX.length;have iw:=aX.len;have fj:=bj.len;by_cases ar:ds.length=es.length
 ·refine SeqAt.RcNeAt.lists (e:=gy ds es) t1.isList di.isList (by rw [cH,cH];omega) (by omega) (λ j ae ag=>?_) X.prog X.w X.xe _ ⟨.aJ _,H,I,?_,q⟩
  ·have q:=pk I ds es X.A.in1 vs us aw cF hd he aX bj cf dX (by show X.A.units+1+cb ds < dP;omega) j (by simpa using ae) (by simpa using ag);simpa using q
  ·show Value.bool _=Value.bool _;rw [cH,<- cv,iw,Da ar]
 ·refine SeqAt.RcNeAt.lists_lengths t1.isList di.isList (by rw [cH,cH];simp;omega) (by omega) X.prog X.w X.xe _ ⟨.aJ _,H,I,?_,q⟩;rw [zU ar];rfl
def r1(f:Bool->Bool):h1:=λ x y G Q=>match x,y with
 | .int i,.int j=>Q (.aJ (f (i==j))) G
 | .str i,.str j=>Q (.aJ (f (i==j))) G
 | .tup _,.str _=>Q (.aJ (f false)) G
 | .str _,.tup _=>Q (.aJ (f false)) G
 | .ref l,.ref m=>hb G l λ ds=>hb G m λ es=>cY ds=true/\cY es=true/\cb ds<=150/\Q (.aJ (f (ek ds es))) G
 | x,y=>x.data=true/\y.data=true/\x.aS<=150/\Q (.aJ (f (cw x y))) G
def t7{f:Bool->Bool}{x y:D}{G:aL}{Q:cJ}(ai:x.data=true)(bP:y.data=true)(hd:x.aS<=150)(q:Q (.aJ (f (cw x y))) G):r1 f x y G Q:=by
 cases x<;>cases y<;>first | exact q | exact ⟨ai,bP,hd,q⟩ | (simp [D.data] at ai;done) | (simp [D.data] at bP;done)
def Db(K:aV)(f:Bool->Bool):eZ:=λ x y H Q=>(∃ a vs z,x=.ref a/\eb K H a vs/\y=.str z/\Q (.aJ (f false)) H)\/∃ a vs z,y=.ref a/\eb K H a vs/\x=.str z/\Q (.aJ (f false)) H
def UL(bK:X.A.units+200 < dP):d8 X (er .Eq) (Db X.K id):=by
 intro pins s σ H x y v u Q I a7 cD h;rcases h with ⟨a,vs,z,rfl,fb,rfl,q⟩ | ⟨a,vs,z,rfl,fb,rfl,q⟩
 ·cases a7;obtain ⟨t,rfl⟩:=cD;obtain ⟨aw,cf,t1,_⟩:=I.tuple fb;exact SeqAt.RcAt.tuple_str z t t1 (by omega) X.prog X.w X.xe _ ⟨.aJ false,H,I,rfl,q⟩
 ·cases cD;obtain ⟨t,rfl⟩:=a7;obtain ⟨aw,cf,t1,_⟩:=I.tuple fb;exact SeqAt.RcAt.str_tuple z t t1 (by omega) X.prog X.w X.xe _ ⟨.aJ false,H,I,rfl,q⟩
def UM(bK:X.A.units+200 < dP):d8 X (er .NotEq) (Db X.K (!·)):=by
 intro pins s σ H x y v u Q I a7 cD h;rcases h with ⟨a,vs,z,rfl,fb,rfl,q⟩ | ⟨a,vs,z,rfl,fb,rfl,q⟩
 ·cases a7;obtain ⟨t,rfl⟩:=cD;obtain ⟨aw,cf,t1,_⟩:=I.tuple fb;exact SeqAt.RcNeAt.tuple_str z t t1 (by omega) X.prog X.w X.xe _ ⟨.aJ true,H,I,rfl,q⟩
 ·cases cD;obtain ⟨t,rfl⟩:=a7;obtain ⟨aw,cf,t1,_⟩:=I.tuple fb;exact SeqAt.RcNeAt.str_tuple z t t1 (by omega) X.prog X.w X.xe _ ⟨.aJ true,H,I,rfl,q⟩
def Kp{f:Bool->Bool}{op:nH}(ae:d8 X (er op) (zT X.K f))(ag:d8 X (er op) (C_ X.K f))(aO:d8 X (er op) (Db X.K f)):gv X (er op) (r1 f):=by
 refine ⟨_,⟨ae.or (ag.or aO)⟩,λ x y eL ib G H az Q v aN a6 r F=>?_⟩;have fin:∀ b:Bool,az (.aJ b) G->Q (.aJ b) H:=λ b q=>F (.aJ b) G _ H (.refl v) rfl q
 have gen:x.data=true/\y.data=true/\x.aS<=150/\az (.aJ (f (cw x y))) G->zT X.K f eL ib H Q:=λ⟨cN,cc,hr,wk⟩=>⟨x,y,aN,a6,cN,cc,hr,fin _ wk⟩
 unfold r1 at r;split at r
 ·exact .inl (gen ⟨rfl,rfl,fi _,r⟩)
 ·exact .inl (gen ⟨rfl,rfl,fi _,r⟩)
 ·obtain ⟨l,vs,rfl,s1,_⟩:=aN;cases a6;exact .inr (.inr (.inl ⟨l,vs,_,rfl,s1,rfl,fin _ r⟩))
 ·obtain ⟨l,vs,rfl,s1,_⟩:=a6;cases aN;exact .inr (.inr (.inr ⟨l,vs,_,rfl,s1,rfl,fin _ r⟩))
 ·cases aN;cases a6;obtain ⟨ds,vs,k1,s1,aX⟩:=ic v r;obtain ⟨es,us,⟨cN,cc,hr,k2⟩,s2,bj⟩:=ic v k1;exact .inr (.inl ⟨_,_,vs,us,ds,es,rfl,rfl,s1,s2,aX,bj,cN,cc,hr,fin _ k2⟩)
 ·exact .inl (gen r)
def c6(bK:X.A.units+200 < dP):gv X (er .Eq) (r1 id):=Kp (UH bK) (UJ bK) (UL bK)
def pq(bK:X.A.units+200 < dP):gv X (er .NotEq) (r1 (!·)):=Kp (UI bK) (UK bK) (UM bK)
abbrev UN(t:cm):cm:=λ ρ G Q=>t ρ G λ d ap=>∃ aY,Sub aY ap/\Q d aY
def l3(h:b7 X e aW):b7 X e (UN aW):=by
 obtain ⟨ca,cn,cp⟩:=h.run;exact ⟨_,cn,λ ρ G az σ H Q B q F=>cp ρ G _ σ H _ B q λ d ap v aj g a ⟨aY,s2,bl⟩=>F d aY v aj (g.sub s2) a bl⟩
@[irreducible] def atS(ds:List D)(i:Int)(G:aL)(Q:cJ):Prop:=o9 ds i G Q
def wQ{ds:List D}{i:Int}{G:aL}{Q:cJ}(h:o9 ds i G Q):atS ds i G Q:=by unfold atS;exact h
abbrev UO(t:gK)(bA:cm):cm:=λ ρ G Q=>t ρ G λ ds aB=>bA ρ aB λ y aY=>match y with
 | .int i=>atS ds i aY Q
 | _=>False
def oc{UP:Pos}(h:iL X es t)(af:b7 X b bA)(ax:zh b)(ar:qd es.length 1000=true:=by rfl):b7 X (.Subscript (.List es UP) b pos) (UO t bA):=by
 obtain ⟨ca,cn,cp⟩:=h.run;obtain ⟨jv,fv,fw⟩:=af.run;refine ⟨_,Jt ⟨IY⟩ (Js cn) fv ax,λ ρ G az σ H Q B q F=>cp ρ G _ σ H _ B q λ ds aB vs H1 g1 al aA aH=>⟨by rw [al.len,aA];exact wo ar,λ p ah=>?_⟩⟩;have g2:=Go.mV (o:=.lst vs) g1.ck ah;have c3:=g1.ck.none ah;refine fw ρ aB _ σ _ _ ((B.go g1).go g2) aH λ y d3 u dy g3 a6 dZ=>?_;have aO:=g3.same p _ eF c3;split at dZ
 ·next i=>
  cases a6;unfold atS at dZ;obtain ⟨d,hd,ia⟩:=zK dZ;obtain ⟨w,hw,pe⟩:=zJ ((al.mono g2.tup).mono g3.tup) hd;exact .inl ⟨p,vs,i,w,rfl,rfl,.of aO,hw,F d d3 w dy ((g1.trans g2).trans g3) pe ia⟩
 ·exact dZ.elim
def Kq(sc:gF)(N:List Str)(scope:gF)(N':List Str)(nt:Nat)(cap:List Nat):Bool:=
 scope.names.all (λ y=>y.2 !=.cell)&&scope.names.all (λ y=>y.2 !=.local||scope.names.lookup y.1==some .local) &&
 scope.names.all (λ y=>y.2 !=.free||(sc.names.lookup y.1==some .cell||sc.names.lookup y.1==some .free))&&N'.length==nt+cap.length &&
 (hE cap.length).all λ j=>match cap[j]?,N'[nt+j]? with
  | some i,some x=>N[i]?==some x&&scope.names.lookup x==some .free
  | _,_=>true
theorem g_.of{scope:gF}{N':List Str}{nt:Nat}{cap:List Nat}(aD:scope.kind=.function)(h:Kq X.env.scope X.N scope N' nt cap=true):g_ X scope N' nt cap:=by
 unfold Kq at h;simp only [eI,kA] at h;obtain ⟨⟨⟨⟨ae,ag⟩,aO⟩,bX⟩,d0⟩:=h;refine ⟨aD,λ y bP=>by simpa using ae y bP,λ y bP e=>?_,λ y bP e=>?_,by simpa using bX,λ j i x bw ai=>?_⟩
 ·have z:=ag y bP;rw [e] at z;simpa using z
 ·have z:=aO y bP;rw [e] at z;simpa using z
 ·have lt:j < cap.length:=by
   rcases yH j cap.length with z | z
   ·exact z
   ·rw [yB z] at bw;cases bw
  have z:=d0 j (oE.mpr lt);rw [bw,ai] at z;simpa using z
abbrev UQ(to gU:cm):hI:=λ d ρ G Q=>to ρ G λ x aB=>gU ρ aB λ y aY=>match x,y with
 | .ref l,.int k=>kQ aY l λ ds=>∃ j,kN ds.length k=some j/\Q ρ (up aY l (.lst (ds.set j d)))
 | _,_=>False
def zV(aR:b7 X o to)(au:b7 X i gU) (ay:∀ v,jN (.Subscript o i pos) X.env v=(do
 let gh ← jM [v] (eval o X.env)
 let ij ← jM [v,gh] (eval i X.env)
 p8 pos
 jM [v,gh,ij] (setItem gh ij v)
 release [v,gh,ij] []):=by intro _;rfl):lu X (.Subscript o i pos) (UQ to gU):=by
 obtain ⟨co,iq,im⟩:=aR.run;obtain ⟨ci,pf,lj⟩:=au.run;refine ⟨_,Ta iq pf ⟨Rx⟩ ay,λ d v ρ G az σ H Q B ad q F=>im ρ G _ σ H _ B q λ x aB eL H1 g1 aN aH=>lj ρ aB _ σ H1 _ (B.go g1) aH λ y aY ib a3 g2 a6 bl=>?_⟩;split at bl
 ·next l k=>
  cases aN;cases a6;obtain ⟨ds,vs,⟨j,bw,dZ⟩,aE,ae,aX⟩:=qz g2.ck bl;have UR:=(ad.mono g1.tup).mono g2.tup;have g3:=Go.wm g2.ck aE (aX.set UR j);have gk:=(g1.trans g2).trans g3;exact ⟨l,vs,k,j,rfl,rfl,ae,by rw [aX.len];exact bw,F ρ _ σ _ gk (B.go gk) dZ⟩
 ·exact bl.elim
abbrev Kr(k:Nat)(aW:cm)(f:Int->Int->Int):f7:=λ bY ρ G=>match ρ[k]? with
 | some (some (.int x))=>aW ρ G λ y aB=>(match y with
  | .int z=>bY.nx (ρ.set k (some (.int (f x z)))) aB
  | _=>False)
 | _=>False
structure Dc(X:aT)(op:oz)(f:Int->Int->Int):Prop where
 run:Jp X op (B2 f)
def Dd:Dc X .Add (λ i j=>i+j):=⟨⟨Qi⟩⟩
def US:Dc X .Sub (λ i j=>i - j):=⟨⟨Qj⟩⟩
def zW{k:Nat}{x:Str}{op:oz}{f:Int->Int->Int}{pos':Pos}(dM:X.N.Nodup)(au:X.N[k]?=some x)(ai:Loc X.env.scope x)(he:b7 X e aW)(aR:Dc X op f)(hf:X.fn x=true\/X.env.scope.names.lookup x=some .local:=by first | exact .inl rfl | exact .inr rfl | assumption) :
 eA X (.AugAssign (.Name x pos') op e pos) (Kr k aW f):=by
 obtain ⟨ce,j8,re⟩:=he.run;refine ⟨_,Te dM au ai j8 aR.run hf,λ bY dA ρ G σ H B q F=>?_⟩;unfold Kr at q;split at q
 ·next x h=>
  obtain ⟨v,ae,ag⟩:=B.st k _ h;cases ag;refine ⟨.int x,ae,re ρ G _ σ H _ B q λ y aB u H1 g1 a6 aH=>?_⟩;split at aH
  ·next z=>cases a6;exact ⟨x,z,rfl,rfl,F.nx _ aB _ H1 g1 ((B.go g1).set (d:=.int (f x z)) rfl k) aH⟩
  ·exact aH.elim
 ·exact q.elim
abbrev afD(aW:cm):cm:=λ ρ G Q=>aW ρ G λ x aB=>match x with
 | .ref l=>hb aB l λ ds=>∀ p,aB p=none->Q (.ref p) (up aB p (.lst ds.reverse))
 | _=>False
def r2:List D->Option (List Bool)
 | []=>some []
 | .aJ i::r=>(r2 r).map (i::·)
 | _::_=>none
theorem Ks{K:aV}{H:av}:∀{ds:List D}{bs:List Bool}{vs:List V},r2 ds=some bs->bH K H ds vs->vs=bs.map V.aJ
 | [],bs,vs,h,r=>by cases h;exact r
 | d::ds,bs,vs,h,⟨v,q,e,C0,l⟩=>by
  cases d with
  | aJ i=>
   simp only [r2,Option.map_eq_some_iff] at h;obtain ⟨ms,ae,rfl⟩:=h;subst e;cases C0;rw [Ks ae l];rfl
  | _=>simp [r2] at h
theorem zX:∀ bs:List Bool,r2 (bs.map D.aJ)=some bs
 | []=>rfl
 | b::bs=>by simp [r2,zX bs]
def UT:D->aL->cJ->Prop:=λ x G Q=>match x with
 | .ref l=>hb G l λ ds=>∃ bs,r2 ds=some bs/\Q (.aJ (bs.all id)) G
 | _=>False
def De(am:X.calm=true):j4 X (.builtin "all") (m4 UT):=by
 refine ⟨_,⟨TD am⟩,λ xs vs G H az Q v a r F=>?_⟩;obtain ⟨x,u,rfl,rfl,aN,r⟩:=pd r a
 cases x with
 | ref l=>
  cases aN;obtain ⟨ds,ws,⟨bs,e,k⟩,s,dK⟩:=ic v r;rw [Ks e dK] at s;exact ⟨l,bs,rfl,s,F (.aJ (bs.all id)) G _ H (.refl v) rfl k⟩
 | _=>exact (show False from r).elim
def UU(x:D)(G:aL)(k:String->Prop):Prop:=match x with
 | .bc=>k "NoneType"
 | .aJ _=>k "bool"
 | .int _=>k "int"
 | .str _=>k "str"
 | .tup _=>k "tuple"
 | .ref l=>hb G l λ _=>k "list"
 | _=>False
def Df(t T:String):Option Bool:=
 if (t = "NoneType"\/t = "bool"\/t = "int"\/t = "str"\/t = "tuple"\/t = "list")/\(T = "bool"\/T = "int"\/T = "str"\/T = "tuple"\/T = "list") then some (decide (t=T)||(decide (t = "bool")&&decide (T = "int"))) else none
def t8{K:aV}{t T:String}{b:Bool}(h:Df t T=some b):oI K (.type t) (.type T)=some b:=by
 unfold Df at h;split at h
 ·next c=>
  obtain ⟨cq,b6⟩:=c;rcases cq with rfl | rfl | rfl | rfl | rfl | rfl<;>rcases b6 with rfl | rfl | rfl | rfl | rfl<;>(simp at h;subst h;first | rfl | exact afE rfl (by decide))
 ·cases h
def UV(K:aV):List V->av->cC->Prop:=λ xs H Q=>∃ x T t b,xs=[x,.ty T]/\((lg K H x (.type t))\/(t = "tuple"/\∃ a vs,x=.ref a/\eb K H a vs)\/(t = "list"/\∃ a vs,x=.ref a/\d7 K H a vs))/\oI K (.type t) (.type T)=some b/\Q (.aJ b) H
def UW:hY X (.builtin "isinstance") (UV X.K):=by
 intro pins s σ H xs us Q I r h;obtain ⟨x,T,t,b,rfl,ty,aD,hU⟩:=h;obtain ⟨u,v,rfl,c1,a5⟩:=Vals.two r;cases a5;rcases ty with ty | ⟨rfl,a,vs,rfl,fb⟩ | ⟨rfl,a,vs,rfl,fb⟩
 ·exact Q2 I c1 ty aD λ bR=>⟨.aJ b,H,I.tok bR,rfl,hU⟩
 ·cases c1;obtain ⟨aw,_,⟨o,ae,ag,_⟩,_⟩:=I.tuple fb
  exact jR PySem.W.kitx_tuple I.et ⟨o,ae,ag⟩ aD (λ z=>nomatch z) λ bR=>⟨.aJ b,H,I.tok bR,rfl,hU⟩
 ·cases c1;obtain ⟨aw,_,⟨o,n,ae,ag,_⟩,_⟩:=I.list fb
  exact jR PySem.W.kitx_list I.et ⟨o,ae,ag⟩ aD (λ z=>nomatch z) λ bR=>⟨.aJ b,H,I.tok bR,rfl,hU⟩
def UX:D->D->aL->cJ->Prop:=λ x y G Q=>match y with
 | .ty T=>UU x G λ t=>∃ b,Df t T=some b/\Q (.aJ b) G
 | _=>False
def l4:j4 X (.builtin "isinstance") (tY UX):=by
 refine ⟨_,⟨UW⟩,λ xs vs G H az Q v a r F=>?_⟩;obtain ⟨x,y,u,w,rfl,rfl,aN,a6,r⟩:=zL r a
 cases y with
 | ty T=>
  cases a6
  cases x with
  | bc=>cases aN;obtain ⟨b,af,q⟩:=r;exact ⟨_,T,_,b,rfl,.inl .bc,t8 af,F (.aJ b) G _ H (.refl v) rfl q⟩
  | aJ z=>cases aN;obtain ⟨b,af,q⟩:=r;exact ⟨_,T,_,b,rfl,.inl (.aJ z),t8 af,F (.aJ b) G _ H (.refl v) rfl q⟩
  | int z=>cases aN;obtain ⟨b,af,q⟩:=r;exact ⟨_,T,_,b,rfl,.inl (.int z),t8 af,F (.aJ b) G _ H (.refl v) rfl q⟩
  | str z=>cases aN;obtain ⟨b,af,q⟩:=r;exact ⟨_,T,_,b,rfl,.inl (.str z),t8 af,F (.aJ b) G _ H (.refl v) rfl q⟩
  | tup ds=>obtain ⟨l,ws,rfl,s,_⟩:=aN;obtain ⟨b,af,q⟩:=r;exact ⟨_,T,"tuple", b,rfl,.inr (.inl ⟨rfl,l,ws,rfl,s⟩),t8 af,F (.aJ b) G _ H (.refl v) rfl q⟩
  | ref l=>
   cases aN;obtain ⟨ds,ws,⟨b,af,q⟩,s,_⟩:=ic v r;exact ⟨_,T,"list", b,rfl,.inr (.inr ⟨rfl,l,ws,rfl,s⟩),t8 af,F (.aJ b) G _ H (.refl v) rfl q⟩
  | ty z=>exact (show False from r).elim
  | ej z=>exact (show False from r).elim
 | _=>exact (show False from r).elim
end
end L3
namespace L3
open PySem PyProof L2
open PySem.MeetsSeq
theorem Dg{K:aV}{H:av}:∀ ws:List Str,bH K H (ws.map D.str) (ws.map V.str)
 | []=>rfl
 | w::ws=>⟨_,_,rfl,rfl,Dg ws⟩
inductive Tm where
 | name (k:Nat) | whole (n:Int) | way (t:Tm) | give (t u:Tm) | pair (t u:Tm) | first (t:Tm) | second (t:Tm) | plus (t u:Tm) | look (t u v:Tm)
abbrev pr(x y:Int):ha:=.lst [.int x,.int y]
def hJ(G:aL)(a:Addr):Prop:=∃ x y,G a=some (pr x y)
theorem hJ.up{G:aL}{a:Addr}{x y:Int}:hJ (up G a (pr x y)) a:=⟨x,y,bg⟩
theorem hJ.new{G:aL}{a l:Addr}{o:ha}(h:hJ G a)(n:G l=none):hJ (L3.up G l o) a:=by
 obtain ⟨x,y,e⟩:=h;exact ⟨x,y,by rw [dh (by rintro rfl;rw [n] at e;cases e)];exact e⟩
theorem hJ.ne{G:aL}{a l:Addr}(h:hJ G a)(n:G l=none):l≠a:=by
 obtain ⟨x,y,e⟩:=h;rintro rfl;rw [n] at e;cases e
def wR{G:aL}{a l:Addr}{f o:ha}(n:up G a f l=none):up (up G a f) l o=up (up G l o) a f/\G l=none/\l≠a:=by
 have ne:l≠a:=by rintro rfl;rw [bg] at n;cases n
 exact ⟨JN (Ne.symm ne),by rw [dh ne] at n;exact n,ne⟩
theorem Sub.new{G aB:aL}{p:Addr}{o:ha}(h:Sub G aB)(n:G p=tq):Sub G (up aB p o):=λ b u e=>by
 rw [dh (by rintro rfl;rw [n] at e;cases e)];exact h b u e
theorem Sub.put{G aB:aL}{a:Addr}{o:ha}(h:Sub G aB):Sub (up G a o) (up aB a o):=λ b u e=>by
 by_cases c:b=a
 ·subst c;rw [bg] at e ⊢;exact e
 ·rw [dh c] at e ⊢;exact h b u e
def eH(a:Addr)(G ap:aL):Prop:=∃ x y,ap=up G a (pr x y)
theorem eH.mk{a:Addr}{G:aL}{x y:Int}:eH a G (up G a (pr x y)):=⟨x,y,rfl⟩
theorem eH.trans{a:Addr}{G aB aY:aL}(h:eH a G aB)(k:eH a aB aY):eH a G aY:=by
 obtain ⟨x,y,rfl⟩:=h;obtain ⟨z,u,rfl⟩:=k;exact ⟨z,u,ip⟩
theorem eH.fd{a:Addr}{G ap:aL}(h:eH a G ap):hJ ap a:=by obtain ⟨x,y,rfl⟩:=h;exact .up
theorem eH.refl{a:Addr}{G:aL}(h:hJ G a):eH a G G:=by obtain ⟨x,y,e⟩:=h;exact ⟨x,y,(TK e).symm⟩
theorem eH.other{a l:Addr}{G ap:aL}(h:eH a G ap)(n:l≠a):ap l=G l:=by obtain ⟨x,y,rfl⟩:=h;exact dh n
theorem eH.none{a l:Addr}{G ap:aL}(h:eH a G ap)(n:ap l=tq):G l=tq:=by
 obtain ⟨x,y,rfl⟩:=h;exact (wR (o:=pr 0 0) n).2.1
theorem eH.drop{a l:Addr}{G ap:aL}{o:ha}(n:G l=tq)(h:eH a (up G l o) ap)(F:hJ G a):∃ aY,Sub aY ap/\eH a G aY:=by
 obtain ⟨x,y,rfl⟩:=h;exact ⟨up G a (pr x y),Sub.put (Sub.new (Sub.refl _) n),x,y,rfl⟩
def m6:fe:=λ ds G Q=>match ds with
 | [.ref a,.int m]=>hJ G a/\0 < m/\m < 2 ^ 62/\∀ d ap,eH a G ap->0<=d->d < m->Q (.int d) ap
 | _=>False
def wS:fe:=λ ds G Q=>match ds with
 | [.ej ss,.int k]=>∃ ns:List Int,ss=ns.map D.int/\ns.length<=63/\0<=k/\k < 2 ^ 32/\∀ r x y,G r=none->Q (.ref r) (up G r (pr x y))
 | _=>False
def Kt:fe:=λ ds _ Q=>∃ ns:List Int,ds=[.ej (ns.map D.int)]/\ns.length<=63/\∀ ap,Q (.aJ true) ap
abbrev zY(K:aV):i8:=bB K Kt
def UY{K:aV}{H:av}{a:Addr}{ns:List Int}(ar:ns.length<=63)(o:zn H)(h:d7 K H a (ns.map V.int)):zY K [.ref a] H (λ v _=>v=.aJ true) λ _ _ _=>False:=by
 have f:tS K H a (ns.map V.int):=by
  rcases h with (h | h) | h
  ·rcases o a with z | ⟨_,_,z⟩<;>(rw [h] at z;cases z)
  ·exact .inl h
  ·exact .inr h
 refine ⟨[.ej (ns.map D.int)],λ _=>none,λ d _=>d=.aJ true,⟨.ref a,[],rfl,⟨a,_,rfl,f,bH.JM ns⟩,rfl⟩,(λ _ _ e=>by cases e),⟨ns,rfl,ar,λ _=>rfl⟩,λ d ap v aj g ad e=>?_⟩;subst e;exact ad
def r3{P:cS}{w:b_}{K:aV}{mg:Str->Option Value}{base:bO}{f:Addr}{fd:gZ}{ps:List Str}{k:Nat}{fE:fe}(no:∀ ds G az,¬ fE ds G az):dp P w K mg base dz k f fd ps (bB K fE):=
 ⟨λ vs H Q E ⟨ds,G,az,_,_,h,_⟩=>absurd h (no ds G az),λ A outer s H args us vs Q E _ _ _ _ ⟨ds,G,az,_,_,h,_⟩=>absurd h (no ds G az)⟩
def at2{x y:D}{G:aL}{Q:cJ}{i:Int}(h0:0<=i)(ae:i < 2)(ai:i=0->Q x G)(bP:i=1->Q y G):atS [x,y] i G Q:=by
 refine wQ ?_;rcases (by omega:i=0\/i=1) with rfl | rfl
 ·exact ai rfl
 ·exact bP rfl
def UZ{x y z:D}{G:aL}{Q:cJ}{i:Int}(h0:0<=i)(ae:i < 3)(ai:i=0->Q x G)(bP:i=1->Q y G)(hz:i=2->Q z G):atS [x,y,z] i G Q:=by
 refine wQ ?_;rcases (by omega:i=0\/i=1\/i=2) with rfl | rfl | rfl
 ·exact ai rfl
 ·exact bP rfl
 ·exact hz rfl
section
variable{α:Type}{all:α->List (List Int × α)}{ka:α->List α}
def kb{n:Nat}(h:n<=200000):n<=sizeLine:=by rw [hP];omega
def gL{n:Nat}(h:n<=200000):n < sizeLine:=by rw [hP];omega
def Dh{G:aL}{p q:Addr}{x y z:ha}(h:p≠q):up (up (up G q x) p y) q z=up (up G q z) p y:=by
 rw [JN h,ip]
end
theorem t9:∀{ds:List D}{d:D},d∈ds->d.aS<=cb ds
 | d::ds,e,m=>by
  rcases cB.mp m with rfl | m
  ·simp only [cb];omega
  ·have:=t9 m;simp only [cb];omega
def Di{p:Prop}(c:false=true):p:=nomatch c
def zZ{p:Prop}(c:true=false):p:=nomatch c
theorem eH.c2{a b:Addr}{G ap:aL}{u:ha}(h:eH a G ap)(n:b≠a)(e:G b=some u):ap b=some u:=by rw [h.other n];exact e
end L3
namespace L2
open PySem PySem.Spec PyProof.Rows
section
variable{X:aT}
def U0{x:Str}{ad:Addr}{tab:Str->Option V}{e f:a9}{ty Ku:TE}{p apos cM:Pos}(a_:ew X x)(hm:X.mg x=some (.ref ad))(T:KTab X.K X.w ad tab)(he:b5 X e ty)(hf:b5 X f Ku)(m:M2 X (.Name x p) "get" apos e f cM)(hd:(x==("__debug__" : Str))=false:=by decide) :
 b5 X (.Call (.Attribute (.Name x p) "get" apos) [e,f] [] cM) (λ σ H Q=>ty σ H λ y H1=>Ku σ H1 λ d a3=>∃ z,y=.str z/\Q ((tab z).getD d) a3):=by
 intro pins s σ H Q I h;obtain ⟨⟨es,n,ar,aD,bu⟩,lo⟩:=T;refine wpAny_Call_method m.base m.we m.line PySem.F.plainAttrs_dict PySem.F.slot_dict_get PySem.F.type_dict_get (b2 (B0 (v:=.ref ad) a_ hm rfl hd pins s σ H (λ v H1=>v=.ref ad/\H1=H) I ⟨rfl,rfl⟩) λ u s1 ⟨g6,H1,a4,a7,ex,wT⟩=>?_);subst ex wT;obtain rfl:u=Value.ref ad:=a7;have mp:∀{aQ:aF},X.K.In aQ.heap->aQ.heap.MapOf (strKind X.prog X.w) ad (λ k=>findBy Value.isStrOf es k):=λ k=>PySem.W.mapOf_K k ar aD;refine ⟨(mp a4.et).typeIs,(mp a4.et).noDict,?_⟩;rw [m.trees];refine Calls.callWith_builtin rfl (Calls.evalArgs_plain (Calls.spliced_cons (b2 (he pins s1 σ H1 _ a4 h) λ ij s2 ⟨y,a3,c5,cD,bl⟩=>Calls.spliced_cons (b2 (hf pins s2 σ a3 _ c5 bl) λ U1 s3 ⟨d,dy,ei,fL,z,Dj,dZ⟩=>Calls.spliced_nil ?_))));subst Dj;obtain ⟨t,rfl⟩:=cD;refine call_meetsIn PySem.F.slot_dict_get (mp ei.et).typeIs PySem.F.entry_dict_get (PySem.F.args_dict_get_3 _ _ _) (meets_dict_get_default (strKind X.prog X.w) ad (strKind_is X.prog X.w z t) lo U1) ⟨_,mp ei.et,(tab z).getD d,dy,ei.tok _,?_,dZ⟩;exact (bu z).getD fL
end
end L2
namespace L3
open PySem PySem.Spec L2
structure r4(K:aV)(w:b_)(ad:Addr)(tab:Str->Option D):Prop where
 ex:∃ m7:Str->Option V,KTab K w ad m7/\(∀ z,tab z=none->m7 z=none)/\∀ z d,tab z=some d->∃ v,m7 z=some v/\∀ H,dg K H d v
section
variable{X:aT}{a b c e f o i bp iter value:a9}{x:Str}{ad C:Addr}{tab:Str->Option D}{bb m7 aW t_ to gU:cm}{pos pos' afF p apos cM:Pos}
abbrev U2(tab:Str->Option D)(aW t_:cm):cm:=λ ρ G Q=>aW ρ G λ y aB=>t_ ρ aB λ d aY=>match y with
 | .str z=>Q ((tab z).getD d) aY
 | _=>False
def U3(a_:ew X x)(hm:X.mg x=some (.ref ad))(T:r4 X.K X.w ad tab)(he:b7 X e aW)(hf:b7 X f t_)(m:M2 X (.Name x p) "get" apos e f cM:=by exact ⟨rfl,rfl,rfl,rfl⟩)(hd:(x==("__debug__" : Str))=false:=by decide) :
 b7 X (.Call (.Attribute (.Name x p) "get" apos) [e,f] [] cM) (U2 tab aW t_):=by
 obtain ⟨m7,T,t1,di⟩:=T;obtain ⟨ce,j8,re⟩:=he.run;obtain ⟨wU,U4,U5⟩:=hf.run;refine ⟨_,⟨U0 a_ hm T j8.run U4.run m hd⟩,λ ρ G az σ H Q B q F=>re ρ G _ σ H _ B q λ y aB v H1 g1 a6 aH=>U5 ρ aB _ σ H1 _ (B.go g1) aH λ d aY u a3 g2 ad bl=>?_⟩
 cases y with
 | str z=>
  cases a6;refine ⟨z,rfl,?_⟩
  replace bl:az ((tab z).getD d) aY:=bl
  cases ja:tab z with
  | none=>rw [t1 z ja];rw [ja] at bl;exact F d aY u a3 (g1.trans g2) ad bl
  | some d'=>
   obtain ⟨kG,aE,aP⟩:=di z d' ja;rw [aE];rw [ja] at bl;exact F d' aY kG a3 (g1.trans g2) (aP _) bl
 | _=>exact (show False from bl).elim
end
end L3
namespace L3
open PySem PySem.Spec L2 PySem.SeqAt
def ix(e c:Nat->Bool)(fin:Bool):Nat->Nat->Bool
 | 0,_=>fin
 | k+1,i=>if e i then ix e c fin k (i+1) else c i
def od(A:cL)(s:aF)(y x:Value)(b:Bool):Prop:=
 ∀(prog:cS)(w:b_)(E:Value->aF->Prop)(Q:Value->aF->Prop),Q (.bool b) s->aZ (a8 prog w) A (richCompare .Lt y x) Q E s
open AutoSeq1 (wpAny_loadPart') in
theorem U6(l b:Addr)(items cT:Array Value)(n b8:Nat)(dd hn:Option Addr)(bq ho:Array (Option Value))(e c:Nat->Bool) :
 Meets (Builtin.«tuple.__lt__» ⟨[.ref l,.ref b],[]⟩)
  (λ A R s=>s.heap.get? l=some { cls:=.type "tuple", dict:=dd,data:=.seq items n,slots:=bq }/\s.heap.get? b=some { cls:=.type "tuple", dict:=hn,data:=.seq cT b8,slots:=ho } ∧
   (∀ j (ae:j < items.size) (ag:j < cT.size),EqAt A.in1 s items[j] cT[j] (e j)) ∧
   (∀ j (ae:j < items.size) (ag:j < cT.size),(∀ i,i < j->e i=true)->e j=false->od A.in1 s items[j] cT[j] (c j)) ∧
   R (.ok (.ret (.bool (ix e c (decide (items.size < cT.size)) (min items.size cT.size) 0)))) s):=
 .of_wp λ prog w A R s h=>by
  obtain ⟨ah,g,d,bR,os⟩:=s;obtain ⟨ar,af,he,am,h⟩:=h;have f2:=AutoSeq1.sub_tuple_tuple
  have Kv:(items.toList.zip cT.toList).length=min items.size cT.size:=by simp
  wp_walk using nF ar,nF af,wpAny_forIn_list _ (λ rest b aQ=>b.1=none/\aQ=⟨ah,g,d,bR,os⟩/\∃ i,rest=(items.toList.zip cT.toList).drop i/\(∀ k,k < i->e k=true) ∧
   R (.ok (.ret (.bool (ix e c (decide (items.size < cT.size)) (min items.size cT.size - i) i)))) ⟨ah,g,d,bR,os⟩) _
  case turn=>
   rintro ⟨y,x⟩ rest b aQ ⟨fN,rfl,i,hz,aD,dT⟩
   have eG:i < (items.toList.zip cT.toList).length:=by
    rcases yH i (items.toList.zip cT.toList).length with h' | h'
    ·exact h'
    ·rw [List.drop_of_length_le h'] at hz;cases hz
   have hm:i < min items.size cT.size:=Kv ▸ eG;have ae:i < items.size:=iF hm (Nat.min_le_left _ _);have ag:i < cT.size:=iF hm (Nat.min_le_right _ _);rw [ro eG] at hz;injection hz with Kw wV
   have bP:y=items[i]:=by have:=congrArg Prod.fst Kw;simpa using this
   have ai:x=cT[i]:=by have:=congrArg Prod.snd Kw;simpa using this
   subst bP ai;rw [show min items.size cT.size - i=(min items.size cT.size - (i+1))+1 by omega,ix] at dT;refine aK (he i ae ag prog w _ _ ?_)
   cases bP:e i with
   | true=>
    rw [bP] at dT
    wp_walk
    exact ⟨rfl,rfl,i+1,wV,λ k wW=>by rcases Nat.lt_succ_iff_lt_or_eq.mp wW with z | rfl;exact aD k z;exact bP,by simpa using dT⟩
   | false=>
    rw [bP,if_neg (by decide)] at dT;simp only [Bool.not_false,if_true];refine aK (rd (aK (am i ae ag aD bP prog w _ _ ?_)))
    wp_walk
    exact ⟨_,rfl,dT⟩
  case fin=>
   rintro ⟨dx,cV⟩ aQ ⟨fN,rfl,i,hz,aD,dT⟩;simp only at fN;subst fN
   have Kx:min items.size cT.size<=i:=by
    rcases yH i (items.toList.zip cT.toList).length with h' | h'
    ·rw [ro h'] at hz;cases hz
    ·exact Kv ▸ h'
   rw [show min items.size cT.size - i=0 by omega,ix] at dT
   wp_walk
   exact ⟨_,rfl,by simpa [Builtin.Tuple.tupleCompareSizes] using dT⟩
  case h=>
   exact ⟨rfl,rfl,0,rfl,by simp,by simpa using h⟩
theorem od.tuples{A:cL}{s:aF}{l b:Addr}{items cT:Array Value}{e c:Nat->Bool}(ar:s.heap.IsTuple l items)(af:s.heap.IsTuple b cT)(bK:A.units < dP)
 (he:∀ j (ae:j < items.size) (ag:j < cT.size),EqAt A.in1 s items[j] cT[j] (e j))
 (am:∀ j (ae:j < items.size) (ag:j < cT.size),(∀ i,i < j->e i=true)->e j=false->od A.in1 s items[j] cT[j] (c j)) :
 od A s (.ref l) (.ref b) (ix e c (decide (items.size < cT.size)) (min items.size cT.size) 0):=λ prog w E Q h=>by
 obtain ⟨⟨cls,dd,data,bq⟩,aR,pv,n,hd⟩:=id ar;obtain ⟨⟨Cf,hn,data2,ho⟩,kL,iK,b8,hd2⟩:=id af;simp only at pv hd iK hd2;subst pv hd iK hd2
 exact richCompare_meets_room (op:=.Lt) ⟨_,aR,rfl⟩ ⟨_,kL,rfl⟩ F.slot_tuple_lt F.entry_tuple_lt (F.args_tuple_lt_2 _ _) (U6 l b items cT n b8 dd hn bq ho e c)
  ⟨aR,kL,he,am,show Value.bool _≠Value.notImplemented/\Q _ s from ⟨(λ x=>nomatch x),h⟩⟩ bK
mutual
def cg:D->D->Option Bool
 | .int i,.int j=>some (decide (i < j))
 | .str a,.str b=>some (decide (a.cps.toList < b.cps.toList))
 | .tup ds,.tup es=>cy ds es
 | _,_=>none
def cy:List D->List D->Option Bool
 | [],es=>some (decide (0 < es.length))
 | _::_,[]=>some false
 | d::ds,e::es=>if cw d e then cy ds es else cg d e
end
theorem Ky(e c:Nat->Bool)(fin:Bool):∀ n i,ix e c fin n (i+1)=ix (λ k=>e (k+1)) (λ k=>c (k+1)) fin n i
 | 0,_=>rfl
 | n+1,i=>by rw [ix,ix,Ky e c fin n (i+1)]
def Kz(d e:D)(ds es:List D):(λ k=>gy (d::ds) (e::es) (k+1))=gy ds es:=by funext j;simp [gy]
theorem Dk{b:Bool}:∀{ds es:List D},cy ds es=some b->ix (gy ds es) (λ _=>b) (decide (ds.length < es.length)) (min ds.length es.length) 0=b
 | [],es,h=>by
  rw [cy] at h;simp only [c7,Nat.zero_min,ix];exact gG.inj h
 | _::_,[],h=>by
  rw [cy] at h;simp only [c7,Nat.min_zero,ix];cases h;simp
 | d::ds,e::es,h=>by
  rw [cy] at h;rw [be,be,Nat.succ_min_succ,ix,Ky,Kz,show gy (d::ds) (e::es) 0=cw d e from rfl];by_cases c:cw d e=true
  ·rw [if_pos c] at h ⊢;have z:=Dk h;simpa using z
  ·rw [if_neg c]
theorem Dl{b:Bool}:∀{ds es:List D}{j:Nat},cy ds es=some b->j < ds.length->j < es.length->(∀ i,i < j->gy ds es i=true)->gy ds es j=false->∃ d e,ds[j]?=some d/\es[j]?=some e/\cg d e=some b
 | [],_,_,_,h,_,_,_=>by simp at h
 | _::_,[],_,_,_,h,_,_=>by simp at h
 | d::ds,e::es,0,h,_,_,_,bw=>by
  rw [cy,if_neg (by rw [show cw d e=false from bw];decide)] at h;exact ⟨d,e,rfl,rfl,h⟩
 | d::ds,e::es,j+1,h,ae,ag,au,bw=>by
  rw [cy,if_pos (show cw d e=true from au 0 (by omega))] at h;have aE:=Kz d e ds es;obtain ⟨d',bZ,g1,g2,g3⟩:=Dl (ds:=ds) (es:=es) (j:=j) h (by simpa using ae) (by simpa using ag) (λ i eG=>by rw [<- aE];exact au (i+1) (by omega)) (by rw [<- aE];exact bw);exact ⟨d',bZ,g1,g2,g3⟩
section
variable{X:aT}{pins:List (Addr × Obj)}{σ:L2.St}{H:av}{s:aF}
mutual
theorem KA(I:Inv X pins σ H s):∀(d e:D)(b:Bool)(A:cL)(x y:V)(u v:Value),d.data=true->e.data=true->dg X.K H d x->dg X.K H e y->RelV x u->RelV y v->A.units+d.aS < dP->cg d e=some b->od A s u v b
 | .tup ds,e,b,A,x,y,u,v,hd,he,aN,a6,c1,a5,bK,af=>by
  obtain ⟨es,rfl⟩:∃ es,e=.tup es:=by cases e<;>first | exact ⟨_,rfl⟩ | (simp [cg] at af)
  obtain ⟨a,vs,rfl,s1,aX⟩:=aN;cases c1;obtain ⟨aw,cf,t1,_⟩:=I.tuple s1;obtain ⟨a2,us,rfl,s2,bj⟩:=a6;cases a5;obtain ⟨cF,dX,di,_⟩:=I.tuple s2;have cv:=cf.length;have eM:=dX.length;have iw:=aX.len;have fj:=bj.len;rw [cg] at af;simp only [D.aS] at bK;simp only [D.data] at hd he
  have z:=od.tuples (A:=A) (e:=gy ds es) (c:=λ _=>b) t1 di (by omega) (λ j ae ag=>by
   have q:=pk I ds es A.in1 vs us aw cF hd he aX bj cf dX (by show A.units+1+cb ds < dP;omega) j (by simpa using ae) (by simpa using ag)
   simpa using q) (λ j ae ag au bw=>by
   have eT:j < aw.length:=by simpa using ae
   have j9:j < cF.length:=by simpa using ag
   obtain ⟨d,e,g1,g2,g3⟩:=Dl af (by omega) (by omega) au bw;have q:=Dm I ds es A.in1 vs us aw cF hd he aX bj cf dX (by show A.units+1+cb ds < dP;omega) j eT j9 d e b g1 g2 g3
   simpa using q)
  have ja:ix (gy ds es) (λ _=>b) (decide (aw.toArray.size < cF.toArray.size)) (min aw.toArray.size cF.toArray.size) 0=b:=by
   rw [cH,cH,<- cv,<- eM,iw,fj];exact Dk af
  rw [ja] at z;exact z
 | .int i,e,b,A,x,y,u,v,_,_,aN,a6,c1,a5,_,af=>by
  obtain ⟨j,rfl⟩:∃ j,e=.int j:=by cases e<;>first | exact ⟨_,rfl⟩ | (simp [cg] at af)
  cases aN;cases a6;obtain ⟨t,rfl⟩:=c1;obtain ⟨t',rfl⟩:=a5;rw [cg] at af;cases af;exact λ prog w E Q h=>PyProof.Rows.lt_int h
 | .str i,e,b,A,x,y,u,v,_,_,aN,a6,c1,a5,_,af=>by
  obtain ⟨j,rfl⟩:∃ j,e=.str j:=by cases e<;>first | exact ⟨_,rfl⟩ | (simp [cg] at af)
  cases aN;cases a6;obtain ⟨t,rfl⟩:=c1;obtain ⟨t',rfl⟩:=a5;rw [cg] at af;cases af;exact λ prog w E Q h=>PyProof.Rows.lt_str h
 | .bc,e,b,A,x,y,u,v,_,_,_,_,_,_,_,af=>by simp [cg] at af
 | .aJ _,e,b,A,x,y,u,v,_,_,_,_,_,_,_,af=>by simp [cg] at af
 | .ref _,e,b,A,x,y,u,v,h,_,_,_,_,_,_,_=>by simp [D.data] at h
 | .ty _,e,b,A,x,y,u,v,h,_,_,_,_,_,_,_=>by simp [D.data] at h
 | .ej _,e,b,A,x,y,u,v,h,_,_,_,_,_,_,_=>by simp [D.data] at h
theorem Dm(I:Inv X pins σ H s):∀(ds es:List D)(A:cL)(vs us:List V)(aw cF:List Value),cY ds=true->cY es=true->bH X.K H ds vs->bH X.K H es us->Vals vs aw->Vals us cF->A.units+cb ds < dP →
 ∀ j (ae:j < aw.length) (ag:j < cF.length) d e b,ds[j]?=some d->es[j]?=some e->cg d e=some b->od A s aw[j] cF[j] b
 | [],es,A,vs,us,aw,cF,_,_,_,_,_,_,_,j,ae,ag,d,e,b,g1,_,_=>by cases g1
 | _::_,[],A,vs,us,aw,cF,_,_,_,_,_,_,_,j,ae,ag,d,e,b,_,g2,_=>by cases g2
 | jz::ds,dt::es,A,vs,us,aw,cF,hd,he,⟨v,r,e,q,t⟩,⟨kG,bD,bZ,hj,t'⟩,cf,dX,bK,j,ae,ag,ey,aE,b,g1,g2,g3=>by
  subst e bZ
  cases cf with
  | cons aX rt=>
   cases dX with
   | cons bj pp=>
    simp only [cb] at bK;simp only [cY,eI] at hd he
    cases j with
    | zero=>
     cases g1;cases g2;exact KA I jz dt b A _ _ _ _ hd.1 he.1 q hj aX bj (by omega) g3
    | succ j=>
     have z:=Dm I ds es A _ _ _ _ hd.2 he.2 t t' rt pp (by omega) j (by simpa using ae) (by simpa using ag) ey aE b g1 g2 g3;simpa using z
end
end
end L3
namespace L2
open PySem PySem.W PyProof.Rows
def gA(n:Nat){α:Type}(P:α->Prop):KasT α->Prop
 | .ret a=>P a
 | .ask i j k=>i < n/\j < n/\∀ b,gA n P (k b)
theorem gA.mono{n:Nat}{α:Type}{P R:α->Prop}(h:∀ a,P a->R a):∀{t:KasT α},gA n P t->gA n R t
 | .ret a,g=>h a g
 | .ask _ _ k,g=>⟨g.1,g.2.1,λ b=>gA.mono h (g.2.2 b)⟩
theorem gA.bind{n:Nat}{α β:Type}{P:α->Prop}{R:β->Prop}{f:α->KasT β}(h:∀ a,P a->gA n R (f a)):∀{t:KasT α},gA n P t->gA n R (t.bind f)
 | .ret a,g=>h a g
 | .ask _ _ k,g=>⟨g.1,g.2.1,λ b=>gA.bind h (g.2.2 b)⟩
theorem gA.wp{n:Nat}{α:Type}{P:α->Prop}{cmp:Nat->Nat->(Bool->aF->Prop)->aF->Prop}{G:α->aF->Prop}{s:aF}{lt:Nat->Nat->Bool}(am:∀ i j C,i < n->j < n->C (lt i j) s->cmp i j C s)(wX:∀ a,P a->G a s):∀{t:KasT α},gA n P t->t.kasWp cmp G s
 | .ret a,g=>wX a g
 | .ask i j k,g=>am i j _ g.1 g.2.1 (gA.wp am wX (g.2.2 _))
abbrev el(n:Nat)(p:Array Nat):Prop:=p.toList.Perm (hE n)
def hg{n:Nat}{p:Array Nat}(h:el n p)(aA:0 < n)(k:Nat):p.getD k 0 < n:=by
 by_cases c:k < p.size
 ·have e:p.getD k 0=p[k]:=by simp [yK,c]
  rw [e];exact oE.mp (h.mem_iff.mp (yJ.mpr (Array.getElem_mem c)))
 ·rw [show p.getD k 0=0 by simp [yK,c]];exact aA
def oe{n:Nat}{p:Array Nat}(h:el n p)(i j:Nat):el n (rj p i j):=(Array.perm_iff_toList_perm.mp (mirror_perm p i j _)).trans h
def KC{n:Nat}{p:Array Nat}(h:el n p)(i j:Nat):el n (tf p i j):=(Array.perm_iff_toList_perm.mp (bubble_perm p i j)).trans h
section
variable{n:Nat}(aA:0 < n)
include aA
theorem Dn{p:Array Nat}(h:el n p):∀ f m,gA n (λ _=>True) (kas_asc p f m)
 | 0,_=>trivial
 | f+1,m=>⟨hg h aA _,hg h aA _,λ b=>by cases b;exact Dn h f (m+1);exact trivial⟩
theorem z0:∀ f p m q,el n p->gA n (λ r:Array Nat × Nat × Nat=>el n r.1) (kas_desc f p m q)
 | 0,_,_,_,h=>h
 | f+1,p,m,q,h=>⟨hg h aA _,hg h aA _,λ b=>by
  cases b with
  | true=>
   by_cases c:q > 0
   ·simp only [if_true,if_pos c];exact z0 f _ _ _ (oe h _ _)
   ·simp only [if_true,if_neg c];exact z0 f _ _ _ h
  | false=>exact ⟨hg h aA _,hg h aA _,λ d=>by cases d;exact z0 f _ _ _ h;exact h⟩⟩
theorem KD{p:Array Nat}(h:el n p)(m wY:Nat):gA n (λ r:Nat × Array Nat=>el n r.2) (yu m wY p):=by
 unfold yu;exact gA.bind (R:=λ r:Nat × Array Nat=>el n r.2) (λ _ _=>by exact oe h 0 m) (Dn aA (oe h 0 m) _ _)
theorem KE{p:Array Nat}(h:el n p)(m wY:Nat):gA n (λ r:Nat × Array Nat=>el n r.2) (kas_descPart m wY p):=by
 refine gA.bind (λ r ak=>?_) (z0 aA _ _ _ _ h);split
 ·exact KD aA (oe ak _ _) _ _
 ·exact KD aA ak _ _
theorem U7{p:Array Nat}(h:el n p)(wY:Nat):gA n (λ r:Nat × Array Nat=>el n r.2) (kas_count wY p):=by
 refine gA.bind (λ m _=>?_) (Dn aA h _ _);split
 ·exact h
 ·split
  ·exact ⟨hg h aA _,hg h aA _,λ b=>by cases b;exact KE aA (oe h _ _) _ _;exact h⟩
  ·exact KE aA h _ _
theorem Do{p:Array Nat}(h:el n p)(k:Nat):∀ f l r,gA n (λ _=>True) (yv p k f l r)
 | 0,_,_=>trivial
 | f+1,l,r=>by
  rw [yv];split
  ·exact trivial
  ·exact ⟨hg h aA _,hg h aA _,λ b=>by cases b;exact Do h k f _ _;exact Do h k f _ _⟩
theorem KG:∀ f p k,el n p->gA n (el n) (kas_bin f p k)
 | 0,_,_,h=>h
 | f+1,_,k,h=>gA.bind (λ _ _=>KG f _ _ (KC h _ _)) (Do aA h k _ _ _)
theorem U8:gA n (el n) (kas_sort n):=by
 refine gA.bind (λ r ak=>?_) (U7 aA (p:=yD (hE n)) (by exact .refl _) n);split
 ·exact KG aA _ _ _ ak
 ·exact ak
end
def U9{vs:List Value}{p:Array Nat}(h:el vs.length p):(p.toList.map λ i=>vs.getD i Value.none).Perm vs:=by
 have e:(hE vs.length).map (λ i=>vs.getD i Value.none)=vs:=by
  apply vq
  ·simp
  ·intro i ae ag;simp [i2,e8 ag]
 have:=h.map (λ i=>vs.getD i Value.none)
 rwa [e] at this
abbrev jb(h:bO)(a:Addr)(vs:List Value):bO:=((h.update a (Obj.mapSeq λ _=>#[])).push (gQ "tuple" vs.toArray 0)).push (gQ "list" #[] 0)
section
variable{prog:cS}{w:b_}{A:cL}{E:Value->aF->Prop}{s:aF}
def U_{a:Addr}{vs:List Value}{n:Nat}{κ:oD}{lt:Nat->Nat->Bool}{P:PySem.Fin->aF->Prop}(aR:s.heap.get? a=some (gQ "list" vs.toArray n))(r5:vs.length < 64)
 (aD:2<=vs.length->∀ Q:oD->aF->Prop,Q κ { s with heap:=jb s.heap a vs }->aZ (a8 prog w) A (vk vs.toArray) Q E { s with heap:=jb s.heap a vs })
 (am:∀ i j C,i < vs.length->j < vs.length->C (lt i j) { s with heap:=jb s.heap a vs }->tg prog w A κ vs i j C { s with heap:=jb s.heap a vs })
 (h:∀ out:List Value,out.Perm vs->P (.done (.ret .none)) { s with heap:=sortedHeap s.heap a vs out.toArray }) :
 aZ (a8 prog w) A (Builtin.«list.sort» ⟨[.ref a],[]⟩) P E s:=by
 rw [list_sort_plain];have ay:a < s.heap.objs.size:=dL aR;refine aK (listItems_at aR rfl ?_);refine aK (te aR rfl ?_ (hsz:=by rw [cH,hP];omega))
 obtain ⟨aE,wZ⟩:∃ aE,(s.heap.update a (Obj.mapSeq λ _=>#[])).get? a=some (gQ "list" #[] aE):=⟨_,get?_update_seq aR (λ _=>#[])⟩
 refine aK (Vs wZ rfl ?_);refine aK (BK ?_);refine aK (ym ?_);refine jm ?_
 have pw:(jb s.heap a vs).get? a=some (gQ "list" #[] aE):=by
  rw [yS _ _ _ (by rw [yr,Wp];exact eW (Nat.lt_succ_of_lt ay)),yS _ _ _ (by rw [Wp];exact eW ay)];exact wZ
 show aZ (a8 prog w) A _ P E { s with heap:=jb s.heap a vs }
 dsimp only
 have hsz:vs.toArray.size=vs.length:=by simp
 by_cases ag:vs.toArray.size < 2
 ·rw [if_pos ag,if_pos ag];refine aK (bC ?_);rw [StateT.run_pure];refine aK (bC ?_)
  dsimp only
  refine aK (Vs pw rfl ?_)
  have lz:(arrOf (SortSt.mk' general' (vs.toArray.zip vs.toArray) #[] 7 none)).map (·.2)=vs.toArray:=by
   show (vs.toArray.zip vs.toArray).map (·.2)=vs.toArray;apply Array.toList_inj.mp;rw [Array.toList_map,Array.toList_zip,List.map_snd_zip (b4 _)]
  rw [lz];refine aK (te pw rfl ?_ (hsz2:=by show vs.toArray.size<=_;rw [hsz,hP];omega));simp only [bne_self_eq_false,ts,if_false];exact bC (h vs (.refl _))
 ·rw [if_neg ag,if_neg ag]
  have fK:2<=vs.length:=by omega
  refine aK (aD fK _ ?_)
  refine aK (hR (kat_run (ks:=vs) (vs:=vs) (Q:=λ gH aQ=>aQ={ s with heap:=jb s.heap a vs }/\failedOf gH=none/\∃ out:List Value,out.Perm vs/\(arrOf gH).map (·.2)=out.toArray) (G:=λ p aQ=>aQ={ s with heap:=jb s.heap a vs }/\el vs.length p) rfl fK r5 (λ p gH aQ _ Dp hf g=>⟨g.1,hf,_,U9 g.2,kat_snds rfl Dp⟩)
   (gA.wp am (λ p ah=>⟨rfl,ah⟩) (U8 (by omega)))) ?_ λ _ _ e=>e)
  rintro ⟨⟨⟩,gH⟩ aQ ⟨rfl,hf,out,ah,lz⟩
  dsimp only at lz ⊢
  rw [lz];refine aK (Vs pw rfl ?_);refine aK (te pw rfl ?_ (hsz2:=by show out.toArray.size<=_;rw [cH,ah.length_eq,hP];omega));rw [hf];simp only [bne_self_eq_false,ts,if_false];exact bC (h out ah)
end
abbrev m8(h:bO)(vs:List Value):bO:=jb (((h.push (gQ "list" #[] 0)).update h.objs.size (Obj.mapSeq (·++vs.toArray))).push (gQ "list" vs.toArray 0)) (h.objs.size+1) vs
section
variable{prog:cS}{w:b_}{A:cL}{E:Value->aF->Prop}{s:aF}
def KH{l:Addr}{vs:List Value}{κ:oD}{lt:Nat->Nat->Bool}{Q:Value->aF->Prop}(ar:s.heap.IsList l vs.toArray)(r5:vs.length < 64)
 (aD:2<=vs.length->∀(A:cL)(E:Value->aF->Prop)(R:oD->aF->Prop),R κ { s with heap:=m8 s.heap vs }->aZ (a8 prog w) A (vk vs.toArray) R E { s with heap:=m8 s.heap vs })
 (am:∀(lA:cL) i j C,lA.units<=A.units+5->i < vs.length->j < vs.length->C (lt i j) { s with heap:=m8 s.heap vs }->tg prog w lA κ vs i j C { s with heap:=m8 s.heap vs })
 (h:∀ out:List Value,out.Perm vs->Q (.ref (s.heap.objs.size+1)) { s with heap:=yt s.heap vs out.toArray }) :
 aZ (a8 prog w) A (call (.builtin "sorted") [.ref l]) Q E s:=by
 refine Calls.call_function_entry kind_sorted plain_sorted entry_sorted (args_sorted1 _) ?_;unfold Builtin.«sorted»;refine aK (m:=checkCount "sorted" 1 1 _) (bC ?_);refine aK (collect_list ar ?_ (hsz:=by rw [hP];omega));refine aK (ym ?_)
 have hsz:((s.heap.push (gQ "list" #[] 0)).update s.heap.objs.size (Obj.mapSeq (·++vs.toArray))).objs.size=s.heap.objs.size+1:=by
  rw [Wp,yr]
 have rD:(((s.heap.push (gQ "list" #[] 0)).update s.heap.objs.size (Obj.mapSeq (·++vs.toArray))).push (gQ "list" vs.toArray 0)).get? (s.heap.objs.size+1)=some (gQ "list" vs.toArray 0):=by
  rw [<- hsz];exact hG _ rfl
 show aZ _ _ _ _ _ { s with heap:=((s.heap.push (gQ "list" #[] 0)).update s.heap.objs.size (Obj.mapSeq (·++vs.toArray))).push (gQ "list" vs.toArray 0) };rw [hsz];refine aK (jm (nE slot_list_sort ⟨_,rD,rfl⟩ entry_list_sort (U_ (κ:=κ) (lt:=lt) rD r5 (λ ag R dT=>aD ag _ _ R dT) (λ i j C au bw gV=>am _ i j C ?_ au bw gV) λ out ah=>⟨_,rfl,?_⟩) (args_list_sort _)))
 ·show A.units+1+1<=A.units+5;omega
 exact bC ⟨_,rfl,h out ah⟩
end
end L2
namespace L3
open PySem PySem.Spec PySem.W PyProof.Rows L2
section
variable{X:aT}{pins:List (Addr × Obj)}{σ:L2.St}{H:av}{s:aF}
theorem KI(I:Inv X pins σ H s){prog:cS}{w:b_}{A:cL}{b fin r:Bool}{Q:Bool->aF->Prop}(q:Q r s):∀(ds es:List D)(vs us:List V)(aw cF:List Value)(i:Nat),0 < i->cY ds=true->cY es=true->bH X.K H ds vs->bH X.K H es us->Vals vs aw->Vals us cF->A.units+cb ds < dP->cy ds es=some r->fin=decide (ds.length < es.length)->KatLex prog w A b fin Q (aw.zip cF) i s
 | [],es,vs,us,aw,cF,i,_,_,_,e,_,cf,_,_,h,hf=>by
  rw [show vs=[] from e] at cf;cases cf;rw [cy] at h
  have aE:fin=r:=by rw [hf];exact gG.inj h
  exact kat_nil (by rw [aE];exact q)
 | _::_,[],vs,us,aw,cF,i,_,_,_,_,e,_,dX,_,h,hf=>by
  rw [show us=[] from e] at dX;cases dX;rw [cy] at h
  have aE:fin=r:=by rw [hf];cases h;simp
  rw [List.zip_nil_right];exact kat_nil (by rw [aE];exact q)
 | d::ds,e::es,vs,us,aw,cF,i,au,hd,he,⟨v,aX,aE,aH,t1⟩,⟨kG,afG,Cs,KJ,ua⟩,cf,dX,bK,h,hf=>by
  subst aE Cs
  cases cf with
  | cons a1 rt=>
   cases dX with
   | cons a2 pp=>
    simp only [cb] at bK;simp only [cY,eI] at hd he;rw [cy] at h;refine kat_cons (C9 I d e A _ _ _ _ hd.1 he.1 aH KJ a1 a2 (by omega) prog w _ _ ?_)
    cases c:cw d e with
    | true=>
     rw [if_pos c] at h;exact kat_yes (KI I q ds es _ _ _ _ (i+1) (by omega) hd.2 he.2 t1 ua rt pp (by omega) h (by rw [hf];simp))
    | false=>
     rw [if_neg (by rw [c];decide)] at h;refine kat_no ?_;rw [show (b&&i==0)=false by rw [show (i==0)=false from by simp;omega];simp];exact kat_one _ _ (KA I d e r A _ _ _ _ hd.1 he.1 aH KJ a1 a2 (by omega) h prog w _ _ q)
theorem Va(I:Inv X pins σ H s){prog:cS}{w:b_}{A:cL}{E:Value->aF->Prop}{r:Bool}{Q:Bool->aF->Prop}(q:Q r s){z cc:Str}{ds es:List D}{x y:V}{u v:Value}(hd:cY ds=true)(he:cY es=true)(aN:dg X.K H (.tup (.str z::ds)) x)(a6:dg X.K H (.tup (.str cc::es)) y)(c1:RelV x u)(a5:RelV y v)
 (bK:A.units+cb ds < dP) (h:cg (.tup (.str z::ds)) (.tup (.str cc::es))=some r):aZ (a8 prog w) A (keyLt' (tuples' true) u v) Q E s:=by
 obtain ⟨a,vs,rfl,s1,aX⟩:=aN;cases c1;obtain ⟨aw,cf,t1,_⟩:=I.tuple s1;obtain ⟨a2,us,rfl,s2,bj⟩:=a6;cases a5;obtain ⟨cF,dX,di,_⟩:=I.tuple s2;obtain ⟨o,aR,am,n,w0⟩:=id t1;obtain ⟨cZ,kL,iK,b8,Vb⟩:=id di;rw [cg,cy] at h;obtain ⟨v,bD,aE,aH,ua⟩:=aX;obtain ⟨v2,afH,aP,bl,KK⟩:=bj;subst aE aP;cases aH;cases bl
 cases cf with
 | cons a1 rt=>
  cases dX with
  | cons ub pp=>
   obtain ⟨t,rfl⟩:=a1;obtain ⟨t',rfl⟩:=ub;have cv:=rt.length;have eM:=pp.length;have iw:=ua.len;have fj:=KK.len;refine kat_lt aR w0 kL Vb ?_;refine kat_cons (C9 I (.str z) (.str cc) A _ _ _ _ rfl rfl rfl rfl ⟨t,rfl⟩ ⟨t',rfl⟩ (by simp only [D.aS];omega) prog w _ _ ?_)
   cases c:cw (.str z) (.str cc) with
   | true=>
    rw [if_pos c] at h;exact kat_yes (KI I q ds es _ _ _ _ 1 (by omega) hd he ua KK rt pp bK h (by simp;omega))
   | false=>
    rw [if_neg (by rw [c];decide),cg] at h;cases h;exact kat_no (oneLt_str q)
end
def Dq(d:D):Prop:=∃ z r,d=.tup (.str z::r)/\cY r=true/\cb r<=150
section
variable{X:aT}{pins:List (Addr × Obj)}{σ:L2.St}{H:av}{s:aF}
theorem KL(I:Inv X pins σ H s):∀(ds:List D)(vs:List V)(aw:List Value),(∀ d∈ds,Dq d)->bH X.K H ds vs->Vals vs aw->∃ aC,KatTups s.heap aw aC/\aC.length=aw.length/\∀ v∈aC,∃ z t,v=Value.str z t
 | [],vs,aw,_,e,cf=>by
  rw [show vs=[] from e] at cf;cases cf;exact ⟨[],.nil,rfl,by simp⟩
 | d::ds,vs,aw,ax,⟨v,aX,aE,aH,t1⟩,cf=>by
  subst aE
  cases cf with
  | cons a1 rt=>
   obtain ⟨aC,k1,k2,k3⟩:=KL I ds _ _ (λ d h=>ax d (cO _ h)) t1 rt;obtain ⟨z,r,rfl,-,-⟩:=ax d (b3 ..);obtain ⟨a,z1,rfl,s1,bj⟩:=aH;cases a1;obtain ⟨its',Vc,ua,_⟩:=I.tuple s1;obtain ⟨v2,mN,aP,bl,-⟩:=bj;subst aP;cases bl;obtain ⟨o,aR,am,n,w0⟩:=id ua
   cases Vc with
   | cons a2 pp=>
    obtain ⟨t,rfl⟩:=a2
    exact ⟨_::aC,.cons aR am w0 rfl k1,by simp [k2],λ v bJ=>by
     rcases cB.mp bJ with rfl | bJ
     ·exact ⟨z,t,rfl⟩
     ·exact k3 v bJ⟩
def Vd(I:Inv X pins σ H s){M:mx}{A:cL}{E:Value->aF->Prop}{ds:List D}{vs:List V}{aw:List Value}{R:oD->aF->Prop}(ax:∀ d∈ds,Dq d)(ay:bH X.K H ds vs)(cf:Vals vs aw)(aA:0 < aw.length)(h:R (tuples' true) s):aZ M A (vk aw.toArray) R E s:=by
 obtain ⟨aC,k1,k2,k3⟩:=KL I ds vs aw ax ay cf;refine kat_kind (T:=.type "str") k1 (by omega) (λ v bJ=>?_) rfl h;obtain ⟨z,t,rfl⟩:=k3 v bJ;exact Looks.of_pure rfl
end
def KM{h:bO}{vs:List Value}{b:Addr}{o:Obj}(af:h.get? b=some o):(m8 h vs).get? b=some o:=by
 have KN:b < h.objs.size:=dL af;have ae:(h.push (gQ "list" #[] 0)).get? b=some o:=dQ _ af
 have ag:((h.push (gQ "list" #[] 0)).update h.objs.size (Obj.mapSeq (·++vs.toArray))).get? b=some o:=by
  rw [vz _ _ _ _ (eW KN)];exact ae
 have aO:=dQ (gQ "list" vs.toArray 0) ag;refine dQ _ (dQ _ ?_);rw [vz _ _ _ _ (show b≠h.objs.size+1 from eW (Nat.lt_succ_of_lt KN))];exact aO
inductive z2 where
 | is (n:Int)
 | some
 | both (a b:z2)
def Tm.KO:Tm->z2
 | .whole n=>.is n
 | .pair a b=>.both a.KO b.KO
 | _=>.some
def Tm.afI:Tm->List z2->z2
 | .whole n,_=>.is n
 | .pair _ _,[x,y]=>.both x y
 | _,_=>.some
inductive bM:D->Prop
 | is (n:Int):bM (.tup [.str "is", .int n])
 | some:bM (.tup [.str "some"])
 | both {a b:D}:bM a->bM b->bM (.tup [.str "both", a,b])
 | left {a:D}:bM a->bM (.tup [.str "left", a])
 | right {a:D}:bM a->bM (.tup [.str "right", a])
 | way {ds:List D} {k:D}:(∀ d∈ds,bM d)->bM k->bM (.tup [.str "way", .tup ds,k])
theorem qD:∀{ds:List D},(∀ d∈ds,d.data=true)->cY ds=true
 | [],_=>rfl
 | d::ds,h=>by rw [cY,h d (b3 ..),qD λ e he=>h e (cO _ he)];rfl
theorem bM.data{d:D}(h:bM d):d.data=true:=by
 induction h with
 | is n=>rfl
 | some=>rfl
 | both _ _ ae ag=>simp only [D.data,cY,ae,ag];rfl
 | left _ ae=>simp only [D.data,cY,ae];rfl
 | right _ ae=>simp only [D.data,cY,ae];rfl
 | way _ _ ae ag=>simp only [D.data,cY,qD ae,ag];rfl
theorem KP:∀{ds es:List D},(∀ d∈ds,∀ e∈es,(cg d e).isSome=true)->(cy ds es).isSome=true
 | [],_,_=>by rw [cy];rfl
 | _::_,[],_=>by rw [cy];rfl
 | d::ds,e::es,h=>by
  rw [cy];split
  ·exact KP λ d hd e he=>h d (cO _ hd) e (cO _ he)
  ·exact h d (b3 ..) e (b3 ..)
def r6{z cc:Str}{ds es:List D}(h:z=cc->(cy ds es).isSome=true):(cg (.tup (.str z::ds)) (.tup (.str cc::es))).isSome=true:=by
 rw [cg,cy];split
 ·next c=>exact h (by simpa [cw] using c)
 ·rw [cg];rfl
def r7{a b:D}{ds es:List D}(h:(cg a b).isSome=true)(ag:(cy ds es).isSome=true):(cy (a::ds) (b::es)).isSome=true:=by
 rw [cy];split
 ·exact ag
 ·exact h
theorem bM.lt{d:D}(h:bM d):∀{e:D},bM e->(cg d e).isSome=true:=by
 induction h with
 | is n=>intro e he;cases he<;>refine r6 λ c=>?_<;>first | (exact absurd c (by decide)) | (exact r7 rfl rfl)
 | some=>intro e he;cases he<;>refine r6 λ c=>?_<;>first | (exact absurd c (by decide)) | rfl
 | both _ _ ae ag=>intro e he;cases he<;>refine r6 λ c=>?_<;>first | (exact absurd c (by decide)) | exact r7 (ae ‹_›) (r7 (ag ‹_›) rfl)
 | left _ ae=>intro e he;cases he<;>refine r6 λ c=>?_<;>first | (exact absurd c (by decide)) | exact r7 (ae ‹_›) rfl
 | right _ ae=>intro e he;cases he<;>refine r6 λ c=>?_<;>first | (exact absurd c (by decide)) | exact r7 (ae ‹_›) rfl
 | way _ _ ae ag=>
  intro e he
  cases he with
  | way g1 g2=>exact r6 λ _=>r7 (by rw [cg];exact KP λ d hd e he=>ae d hd (g1 e he)) (r7 (ag g2) rfl)
  | _=>exact r6 λ c=>absurd c (by decide)
theorem bM.Dr{d:D}(h:bM d)(hd:d.aS<=150):Dq d:=by
 have ai:=h.data;cases h<;>exact ⟨_,_,rfl,by simpa [D.data,cY] using ai,by simp only [D.aS,cb] at hd ⊢;omega⟩
def iP(d:D):Bool:=match d with
 | .tup (.str z::_)=>z=="is"||z=="some"||z=="both"
 | _=>false
theorem bM.head{d:D}(h:bM d):∃ z r,d=.tup (.str z::r)/\r.length<=2:=by
 cases h<;>exact ⟨_,_,rfl,by simp⟩
def KQ{ds:List D}{i:Int}{G:aL}{Q:cJ}(h0:0<=i)(ae:i < ds.length)(h:∀ d∈ds,Q d G):atS ds i G Q:=by
 obtain ⟨n,rfl⟩:∃ n:Nat,i=n:=⟨i.toNat,by omega⟩
 have ar:n < ds.length:=by omega
 exact wQ (wq (d:=ds[n]) (hp (e8 ar)) (h _ (i3 ar)))
def KR{α:Type}(a:Addr)(pi:α->D)(P:α->Prop){J:ly}{aB:aL}{g:hI}{aW:cm}{nt:Nat}{cap:List Nat}{ρ:ef}{Q:cJ}(hz:J.items.length<=1000)(held:∀ G,J.held G)(bT:hJ aB a)
 (turn:∀ d G (R:cJ),hJ G a->(∀ x ap,(∃ bV,eH a G bV/\Sub bV ap)->P x->R (pi x) ap)->g d (m5 nt cap ρ) G λ ρ3 d3=>aW ρ3 d3 R)
 (q:∀(xs:List α) ap,xs.length=J.items.length->(∀ x∈xs,P x)->eH a aB ap->∀ p,ap p=none->Q (.ref p) (up ap p (.lst (xs.map pi)))):rY g aW nt cap ρ Q J aB:=by
 refine Kf (λ i ds ap=>∃ xs:List α,ds=xs.map pi/\xs.length=i/\(∀ x∈xs,P x)/\eH a aB ap) (gL (by omega)) ⟨[],rfl,rfl,by simp,.refl bT⟩ (λ _ _ _ _ _=>held _) ?_ ?_
 ·rintro i d ds ap hd ⟨xs,rfl,w1,ai,u⟩
  refine turn d ap _ u.fd λ x aY ⟨bV,d4,s2⟩ ah=>⟨bV,s2,xs++[x],by simp,by simp [w1],λ y bP=>?_,u.trans d4⟩
  rcases fH.mp bP with bP | bP
  ·exact ai y bP
  ·simp at bP;subst bP;exact ah
 ·rintro ds ap ⟨xs,rfl,w1,ai,u⟩ p ah;exact q xs ap w1 ai u p ah
theorem uc{n:Nat}:∀{ds:List D},(∀ d∈ds,d.aS<=n)->cb ds<=n
 | [],_=>fi _
 | d::ds,h=>by
  have ae:=h d (b3 ..);have ag:=uc λ e he=>h e (cO _ he);rw [cb];omega
def Ve(z:Str):m3 (.str z) [.str "is", .str "some", .str "both"]=(z=="is"||z=="some"||z=="both"):=by
 have e:∀ a b:Str,(a==b)=(b==a):=λ a b=>by rw [tt,beq_iff_eq,beq_iff_eq];exact eq_comm
 simp only [m3,rm,List.any_nil,wx,yL];rw [e "is" z,e "some" z,e "both" z,Bool.or_assoc]
def KS{ds:List D}{x:D}{i:Nat}{P:D->Prop}(h:∀ d∈ds,P d)(ai:P x):∀ d∈ds.set i x,P d:=λ d hd=>by
 rcases List.mem_or_eq_of_mem_set hd with ae | rfl
 ·exact h d ae
 ·exact ai
def z3{a:Addr}{G aB bV e1:aL}(h:∀ b o,b≠a->G b=some o->aB b=some o)(u:eH a aB bV)(s:Sub bV e1):∃ bV,eH a G bV/\Sub bV e1:=by
 obtain ⟨x,y,rfl⟩:=u;refine ⟨_,.mk (x:=x) (y:=y),λ b o e=>?_⟩;by_cases c:b=a
 ·subst c;rw [bg] at e;exact s _ _ (by rw [bg];exact e)
 ·rw [dh c] at e;exact s _ _ (by rw [dh c];exact h b o c e)
end L3
namespace L2
open PySem PySem.W PyProof.Rows
def fY(n:Nat)(lt:Nat->Nat->Bool){α:Type}(P:α->Prop):KasT α->Prop
 | .ret a=>P a
 | .ask i j k=>i < n/\j < n/\fY n lt P (k (lt i j))
theorem fY.bind{n:Nat}{lt:Nat->Nat->Bool}{α β:Type}{P:α->Prop}{R:β->Prop}{f:α->KasT β}(h:∀ a,P a->fY n lt R (f a)):∀{t:KasT α},fY n lt P t->fY n lt R (t.bind f)
 | .ret a,g=>h a g
 | .ask _ _ k,g=>⟨g.1,g.2.1,fY.bind h g.2.2⟩
theorem fY.mono{n:Nat}{lt:Nat->Nat->Bool}{α:Type}{P R:α->Prop}(h:∀ a,P a->R a):∀{t:KasT α},fY n lt P t->fY n lt R t
 | .ret a,g=>h a g
 | .ask _ _ k,g=>⟨g.1,g.2.1,fY.mono h g.2.2⟩
theorem fY.wp{n:Nat}{α:Type}{P:α->Prop}{cmp:Nat->Nat->(Bool->aF->Prop)->aF->Prop}{G:α->aF->Prop}{s:aF}{lt:Nat->Nat->Bool}(am:∀ i j C,i < n->j < n->C (lt i j) s->cmp i j C s)(wX:∀ a,P a->G a s):∀{t:KasT α},fY n lt P t->t.kasWp cmp G s
 | .ret a,g=>wX a g
 | .ask i j k,g=>am i j _ g.1 g.2.1 (fY.wp am wX g.2.2)
structure z4(lt:Nat->Nat->Bool):Prop where
 iy:∀ a,lt a a=false
 neg:∀ a b c,lt a b=false->lt b c=false->lt a c=false
 ud:∀ a b,lt a b=true->lt b a=false
abbrev gt(p:Array Nat)(i:Nat):Nat:=p.getD i 0
def hv(lt:Nat->Nat->Bool)(p:Array Nat)(k:Nat):Prop:=∀ i j,i < j->j < k->lt (gt p j) (gt p i)=false
def px(lt:Nat->Nat->Bool)(p:Array Nat)(k:Nat):Prop:=∀ i j,i < j->j < k->lt (gt p i) (gt p j)=false
def w2{p q:Array Nat}{i j:Nat}(h:p[i]?=q[j]?):gt p i=gt q j:=by
 unfold gt;rw [Array.getD_eq_getD_getElem?,Array.getD_eq_getD_getElem?,h]
section
variable{n:Nat}(aA:0 < n){lt:Nat->Nat->Bool}(O:z4 lt)
include aA O
theorem KU{p:Array Nat}{m:Nat}(hm:1<=m)(h:hv lt p m)(c:lt (gt p m) (gt p (m - 1))=false):hv lt p (m+1):=λ i j jA bw=>by
 by_cases e:j=m
 ·subst e;by_cases aP:i=j - 1
  ·subst aP;exact c
  ·exact O.neg _ _ _ c (h i (j - 1) (by omega) (by omega))
 ·exact h i j jA (by omega)
theorem KV{p:Array Nat}(ah:el n p):∀ f m,1<=m->hv lt p m->fY n lt (λ r=>hv lt p r/\m<=r/\r<=m+f) (kas_asc p f m)
 | 0,m,_,h=>⟨h,b4 _,by omega⟩
 | f+1,m,hm,h=>by
  refine ⟨hg ah aA _,hg ah aA _,?_⟩
  cases c:lt (p.getD m 0) (p.getD (m - 1) 0) with
  | true=>exact ⟨h,b4 _,by omega⟩
  | false=>exact fY.mono (λ r ⟨ae,ag,aO⟩=>⟨ae,by omega,by omega⟩) (KV ah f (m+1) (by omega) (KU aA O hm h c))
theorem Ds{p:Array Nat}(ah:el n p){k:Nat}(aD:hv lt p k):∀ f l r,l<=r->r<=k->r - l<=f->(∀ i,i < l->lt (gt p k) (gt p i)=false)->(∀ i,r<=i->i < k->lt (gt p k) (gt p i)=true) →
 fY n lt (λ m=>m<=k/\(∀ i,i < m->lt (gt p k) (gt p i)=false)/\∀ i,m<=i->i < k->lt (gt p k) (gt p i)=true) (yv p k f l r)
 | 0,l,r,ae,ag,aO,bX,d0=>by
  have e:l=r:=by omega
  subst e;exact ⟨ag,bX,d0⟩
 | f+1,l,r,ae,ag,aO,bX,d0=>by
  rw [yv];split
  ·next c=>
   have e:l=r:=by omega
   subst e;exact ⟨ag,bX,d0⟩
  ·next c=>
   refine ⟨hg ah aA _,hg ah aA _,?_⟩
   cases d:lt (p.getD k 0) (p.getD ((l+r) / 2) 0) with
   | true=>
    refine Ds ah aD f l ((l+r) / 2) (by omega) (by omega) (by omega) bX λ i au w3=>?_;by_cases e:i=(l+r) / 2
    ·subst e;exact d
    ·have z:=aD ((l+r) / 2) i (by omega) w3
     cases w:lt (gt p k) (gt p i) with
     | true=>rfl
     | false=>exact absurd d (by rw [O.neg _ _ _ w z];decide)
   | false=>
    refine Ds ah aD f ((l+r) / 2+1) r (by omega) (by omega) (by omega) (λ i au=>?_) d0;by_cases e:i=(l+r) / 2
    ·subst e;exact d
    ·exact O.neg _ _ _ d (aD i ((l+r) / 2) (by omega) (by omega))
theorem Vf{p:Array Nat}{k m:Nat}(ax:k < p.size)(hm:m<=k)(h:hv lt p k)(bX:∀ i,i < m->lt (gt p k) (gt p i)=false)(d0:∀ i,m<=i->i < k->lt (gt p k) (gt p i)=true):hv lt (tf p k (k - m)) (k+1):=by
 have e:∀ i,gt (tf p k (k - m)) i=if i=m then gt p k else if m < i/\i<=k then gt p (i - 1) else gt p i:=λ i=>by
  have z:=getElem?_bubble ax (k - m) (by omega) i;rw [show k - (k - m)=m by omega] at z;by_cases c:i=m
  ·rw [if_pos c] at z ⊢;exact w2 z
  ·rw [if_neg c] at z ⊢;by_cases d:m < i/\i<=k
   ·rw [if_pos d] at z ⊢;exact w2 z
   ·rw [if_neg d] at z ⊢;exact w2 z
 intro i j jA bw
 have low:∀ i,i < m->gt (tf p k (k - m)) i=gt p i:=λ i au=>by rw [e i,if_neg (by omega),if_neg (by omega)]
 have mid:gt (tf p k (k - m)) m=gt p k:=by rw [e m,if_pos rfl]
 have high:∀ i,m < i->i<=k->gt (tf p k (k - m)) i=gt p (i - 1):=λ i au aD=>by rw [e i,if_neg (by omega),if_pos ⟨au,aD⟩]
 rcases Nat.lt_trichotomy i m with cq | cq | cq
 ·rw [low i cq];rcases Nat.lt_trichotomy j m with b6 | b6 | b6
  ·rw [low j b6];exact h i j jA (by omega)
  ·rw [b6,mid];exact bX i cq
  ·rw [high j b6 (by omega)];exact h i (j - 1) (by omega) (by omega)
 ·subst cq;rw [mid,high j jA (by omega)];exact O.ud _ _ (d0 (j - 1) (by omega) (by omega))
 ·rw [high i cq (by omega),high j (by omega) (by omega)];exact h (i - 1) (j - 1) (by omega) (by omega)
theorem KW:∀ f (p:Array Nat) k,el n p->k+f=n->hv lt p k->fY n lt (λ q=>el n q/\hv lt q n) (kas_bin f p k)
 | 0,p,k,ah,he,h=>⟨ah,by rw [<- he];exact h⟩
 | f+1,p,k,ah,he,h=>by
  refine fY.bind (λ m ⟨ae,ag,aO⟩=>?_) (Ds aA O ah h k 0 k (by omega) (by omega) (by omega) (λ i au=>by omega) (λ i au w3=>by omega))
  have hsz:p.size=n:=by
   have:=ah.length_eq;simpa using this
  exact KW f _ (k+1) (KC ah _ _) (by omega) (Vf aA O (by omega) ae h ag aO)
omit aA O in
theorem w4{p:Array Nat}(h:el n p):p.size=n:=by
 have:=h.length_eq;simpa using this
omit aA O in
theorem pz{p:Array Nat}{i j k:Nat}(bw:j<=p.size):gt (rj p i j) k=if i<=k/\k < j then gt p (i+j - 1 - k) else gt p k:=by
 have z:=getElem?_mirror_all (i:=i) bw k;by_cases c:i<=k/\k < j
 ·rw [if_pos c] at z ⊢;exact w2 z
 ·rw [if_neg c] at z ⊢;exact w2 z
structure Dt(n:Nat)(lt:Nat->Nat->Bool)(p:Array Nat)(m q:Nat):Prop where
 pm:el n p
 jc:px lt p m
 le:m<=n
 aH:q+1<=m
 al:∀ i,m - (q+1)<=i->i < m->lt (gt p (m - 1)) (gt p i)=false
omit aA in
theorem Du{p:Array Nat}{m i:Nat}(h:px lt p m)(au:i < m):lt (gt p i) (gt p (m - 1))=false:=by
 by_cases c:i=m - 1
 ·subst c;exact O.iy _
 ·exact h i (m - 1) (by omega) (by omega)
omit aA in
theorem KY{p:Array Nat}{m q:Nat}(F:Dt n lt p m q):px lt (rj p (m - (q+1)) m) m:=λ i j jA bw=>by
 have ax:m<=p.size:=by rw [w4 F.pm];exact F.le
 have aM:=F.aH;rw [pz ax,pz ax];by_cases b6:m - (q+1)<=j/\j < m
 ·rw [if_pos b6];by_cases cq:m - (q+1)<=i/\i < m
  ·rw [if_pos cq];exact O.neg _ _ _ (Du O F.jc (by omega)) (F.al _ (by omega) (by omega))
  ·rw [if_neg cq];exact F.jc _ _ (by omega) (by omega)
 ·rw [if_neg b6,if_neg (by omega)];exact F.jc i j jA bw
omit aA in
theorem z5{p:Array Nat}{m:Nat}(h:px lt p m){x:Nat}(ai:∀ i,i < m->lt (gt p i) x=false)(e:gt p m=x):px lt p (m+1):=λ i j jA bw=>by
 by_cases c:j=m
 ·subst c;rw [e];exact ai i jA
 ·exact h i j jA (by omega)
theorem z6:∀ f p m q,m+f<=n->Dt n lt p m q->fY n lt (λ r:Array Nat × Nat × Nat=>Dt n lt r.1 r.2.1 r.2.2) (kas_desc f p m q)
 | 0,p,m,q,_,F=>F
 | f+1,p,m,q,hf,F=>by
  have aM:=F.aH
  have ax:m<=p.size:=by rw [w4 F.pm];exact F.le
  refine ⟨hg F.pm aA _,hg F.pm aA _,?_⟩
  cases c:lt (p.getD m 0) (p.getD (m - 1) 0) with
  | true=>
   have below:∀ i,i < m->lt (gt p i) (gt p m)=false:=λ i au=>O.neg _ _ _ (Du O F.jc au) (O.ud _ _ c);by_cases d:q > 0
   ·simp only [if_true,if_pos d]
    have KZ:∀ i,gt (rj p (m - (q+1)) m) i=if m - (q+1)<=i/\i < m then gt p (m - (q+1)+m - 1 - i) else gt p i:=λ i=>pz ax
    refine z6 f _ (m+1) 0 (by omega) ⟨oe F.pm _ _,z5 O (KY O F) (x:=gt p m) (λ i au=>?_) (by rw [KZ,if_neg (by omega)]),by omega,by omega,λ i ae ag=>?_⟩
    ·rw [KZ];split
     ·exact below _ (by omega)
     ·exact below _ au
    ·rw [show i=m+1 - 1 by omega];exact O.iy _
   ·simp only [if_true,if_neg d];refine z6 f _ (m+1) 0 (by omega) ⟨F.pm,z5 O F.jc below rfl,by omega,by omega,λ i ae ag=>?_⟩;rw [show i=m+1 - 1 by omega];exact O.iy _
  | false=>
   refine ⟨hg F.pm aA _,hg F.pm aA _,?_⟩
   cases d:lt (p.getD (m - 1) 0) (p.getD m 0) with
   | true=>exact F
   | false=>
    refine z6 f _ (m+1) (q+1) (by omega) ⟨F.pm,z5 O F.jc (x:=gt p m) (λ i au=>O.neg _ _ _ (Du O F.jc au) d) rfl,by omega,by omega,λ i ae ag=>?_⟩;rw [show m+1 - 1=m by omega];by_cases e:i=m
    ·subst e;exact O.iy _
    ·exact O.neg _ _ _ c (F.al i (by omega) (by omega))
omit aA in
theorem Vg{p:Array Nat}{m:Nat}(ax:m<=p.size)(h:px lt p m):hv lt (rj p 0 m) m:=λ i j jA bw=>by
 rw [pz ax,pz ax,if_pos (by omega),if_pos (by omega)];exact h _ _ (by omega) (by omega)
theorem K0{p:Array Nat}{m:Nat}(ah:el n p)(hm:m<=n)(ae:1<=m)(h:px lt p m):fY n lt (λ r:Nat × Array Nat=>el n r.2/\hv lt r.2 r.1/\1<=r.1/\r.1<=n) (yu m n p):=by
 unfold yu;refine fY.bind (P:=λ r=>hv lt (rj p 0 m) r/\m<=r/\r<=m+(n - m)) (R:=λ r:Nat × Array Nat=>el n r.2/\hv lt r.2 r.1/\1<=r.1/\r.1<=n) (λ r ⟨a,b,c⟩=>?_) (KV aA O (oe ah 0 m) (n - m) m ae (Vg O (by rw [w4 ah];exact hm) h));exact ⟨oe ah 0 m,a,by omega,by omega⟩
theorem K1{p:Array Nat}{m:Nat}(ah:el n p)(hm:m+1<=n)(h:px lt p (m+1)):fY n lt (λ r:Nat × Array Nat=>el n r.2/\hv lt r.2 r.1/\1<=r.1/\r.1<=n) (kas_descPart m n p):=by
 refine fY.bind (λ r F=>?_) (z6 aA O (n - (m+1)) p (m+1) 0 (by omega) ⟨ah,h,hm,by omega,λ i ae ag=>by rw [show i=m+1 - 1 by omega];exact O.iy _⟩);have aM:=F.aH;split
 ·exact K0 aA O (oe F.pm _ _) F.le (by omega) (KY O F)
 ·exact K0 aA O F.pm F.le (by omega) F.jc
theorem K2{p:Array Nat}(ah:el n p):∀ f m,1<=m->hv lt p m->fY n lt (λ r=>(hv lt p r/\m<=r/\r<=m+f)/\(r < m+f->lt (gt p r) (gt p (r - 1))=true)) (kas_asc p f m)
 | 0,m,_,h=>⟨⟨h,b4 _,by omega⟩,λ z=>by omega⟩
 | f+1,m,hm,h=>by
  refine ⟨hg ah aA _,hg ah aA _,?_⟩
  cases c:lt (p.getD m 0) (p.getD (m - 1) 0) with
  | true=>exact ⟨⟨h,b4 _,by omega⟩,λ _=>c⟩
  | false=>exact fY.mono (λ r ⟨⟨ae,ag,aO⟩,bX⟩=>⟨⟨ae,by omega,by omega⟩,λ z=>bX (by omega)⟩) (K2 ah f (m+1) (by omega) (KU aA O hm h c))
theorem Vh{p:Array Nat}(ah:el n p):fY n lt (λ r:Nat × Array Nat=>el n r.2/\hv lt r.2 r.1/\1<=r.1/\r.1<=n) (kas_count n p):=by
 refine fY.bind (λ m ⟨⟨ae,ag,aO⟩,bX⟩=>?_) (K2 aA O ah (n - 1) 1 (by omega) (λ i j jA bw=>by omega));split
 ·exact ⟨ah,ae,by omega,by omega⟩
 ·next c=>
  have dm:m≠n:=λ e=>c (by simp [e]);have K3:=bX (by omega);split
  ·next d=>
   refine ⟨hg ah aA _,hg ah aA _,?_⟩
   cases w:lt (p.getD 0 0) (p.getD (m - 1) 0) with
   | true=>exact ⟨ah,ae,by omega,by omega⟩
   | false=>
    have ax:m<=p.size:=by rw [w4 ah];omega
    have afJ:∀ i,i < m->lt (gt p (m - 1)) (gt p i)=false:=λ i au=>by
     by_cases e:i=m - 1
     ·subst e;exact O.iy _
     ·exact ae i (m - 1) (by omega) (by omega)
    have Vi:∀ i,i < m->lt (gt p i) (gt p 0)=false:=λ i au=>by
     by_cases e:i=0
     ·subst e;exact O.iy _
     ·exact ae 0 i (by omega) au
    have Vj:px lt (rj p 0 m) m:=λ i j jA bw=>by
     rw [pz ax,pz ax,if_pos (by omega),if_pos (by omega)];exact ae _ _ (by omega) (by omega)
    refine K1 aA O (oe ah 0 m) (by omega) (z5 O Vj (x:=gt p m) (λ i au=>?_) (by rw [pz ax,if_neg (by omega)]));rw [pz ax,if_pos (by omega)];exact O.neg _ _ _ (O.neg _ _ _ (Vi _ (by omega)) w) (O.ud _ _ K3)
  ·next d=>
   have e:m=1:=by omega
   subst e;refine K1 aA O ah (by omega) λ i j jA bw=>?_;rw [show i=0 by omega,show j=1 by omega];exact O.ud _ _ K3
theorem Vk:fY n lt (λ q=>el n q/\hv lt q n) (kas_sort n):=by
 refine fY.bind (λ r ⟨ae,ag,aO,bX⟩=>?_) (Vh aA O (p:=yD (hE n)) (by exact .refl _));split
 ·next c=>
  rw [show max r.1 1=r.1 by omega];exact KW aA O (n - r.1) r.2 r.1 ae (by omega) ag
 ·next c=>
  have e:r.1=n:=by omega
  rw [e] at ag;exact ⟨ae,ag⟩
end
def Vl(vs:List Value):(hE vs.length).map (λ i=>vs.getD i Value.none)=vs:=by
 apply vq
 ·simp
 ·intro i ae ag;simp [i2,e8 ag]
section
variable{prog:cS}{w:b_}{A:cL}{E:Value->aF->Prop}{s:aF}
def Vm{a:Addr}{vs:List Value}{n:Nat}{κ:oD}{lt:Nat->Nat->Bool}{P:PySem.Fin->aF->Prop}(aR:s.heap.get? a=some (gQ "list" vs.toArray n))(r5:vs.length < 64)
 (aD:2<=vs.length->∀ Q:oD->aF->Prop,Q κ { s with heap:=jb s.heap a vs }->aZ (a8 prog w) A (vk vs.toArray) Q E { s with heap:=jb s.heap a vs })
 (am:∀ i j C,i < vs.length->j < vs.length->C (lt i j) { s with heap:=jb s.heap a vs }->tg prog w A κ vs i j C { s with heap:=jb s.heap a vs })
 (O:z4 lt) (h:∀ p:Array Nat,el vs.length p->hv lt p vs.length->P (.done (.ret .none)) { s with heap:=sortedHeap s.heap a vs (p.toList.map λ i=>vs.getD i Value.none).toArray }) :
 aZ (a8 prog w) A (Builtin.«list.sort» ⟨[.ref a],[]⟩) P E s:=by
 rw [list_sort_plain];have ay:a < s.heap.objs.size:=dL aR;refine aK (listItems_at aR rfl ?_);refine aK (te aR rfl ?_ (hsz:=by rw [cH,hP];omega))
 obtain ⟨aE,wZ⟩:∃ aE,(s.heap.update a (Obj.mapSeq λ _=>#[])).get? a=some (gQ "list" #[] aE):=⟨_,get?_update_seq aR (λ _=>#[])⟩
 refine aK (Vs wZ rfl ?_);refine aK (BK ?_);refine aK (ym ?_);refine jm ?_
 have pw:(jb s.heap a vs).get? a=some (gQ "list" #[] aE):=by
  rw [yS _ _ _ (by rw [yr,Wp];exact eW (Nat.lt_succ_of_lt ay)),yS _ _ _ (by rw [Wp];exact eW ay)];exact wZ
 show aZ (a8 prog w) A _ P E { s with heap:=jb s.heap a vs }
 dsimp only
 have hsz:vs.toArray.size=vs.length:=by simp
 by_cases ag:vs.toArray.size < 2
 ·rw [if_pos ag,if_pos ag];refine aK (bC ?_);rw [StateT.run_pure];refine aK (bC ?_)
  dsimp only
  refine aK (Vs pw rfl ?_)
  have lz:(arrOf (SortSt.mk' general' (vs.toArray.zip vs.toArray) #[] 7 none)).map (·.2)=vs.toArray:=by
   show (vs.toArray.zip vs.toArray).map (·.2)=vs.toArray;apply Array.toList_inj.mp;rw [Array.toList_map,Array.toList_zip,List.map_snd_zip (b4 _)]
  rw [lz];refine aK (te pw rfl ?_ (hsz2:=by show vs.toArray.size<=_;rw [hsz,hP];omega));simp only [bne_self_eq_false,ts,if_false];have z:=h (yD (hE vs.length)) (.refl _) (λ i j jA bw=>by omega);rw [show ((yD (hE vs.length)).toList.map λ i=>vs.getD i Value.none)=vs from Vl vs] at z;exact bC z
 ·rw [if_neg ag,if_neg ag]
  have fK:2<=vs.length:=by omega
  refine aK (aD fK _ ?_)
  refine aK (hR (kat_run (ks:=vs) (vs:=vs) (Q:=λ gH aQ=>aQ={ s with heap:=jb s.heap a vs }/\failedOf gH=none/\∃ p:Array Nat,el vs.length p/\hv lt p vs.length/\(arrOf gH).map (·.2)=(p.toList.map λ i=>vs.getD i Value.none).toArray) (G:=λ p aQ=>aQ={ s with heap:=jb s.heap a vs }/\el vs.length p/\hv lt p vs.length) rfl fK r5 (λ p gH aQ _ Dp hf g=>⟨g.1,hf,p,g.2.1,g.2.2,kat_snds rfl Dp⟩)
   (fY.wp am (λ p ah=>⟨rfl,ah⟩) (Vk (by omega) O))) ?_ λ _ _ e=>e)
  rintro ⟨⟨⟩,gH⟩ aQ ⟨rfl,hf,p,ah,r8,lz⟩
  dsimp only at lz ⊢
  rw [lz];refine aK (Vs pw rfl ?_);refine aK (te pw rfl ?_ (hsz2:=by show (p.toList.map λ i=>vs.getD i Value.none).toArray.size<=_;rw [cH,cP,ah.length_eq,List.length_range,hP];omega));rw [hf];simp only [bne_self_eq_false,ts,if_false];exact bC (h p ah r8)
def K4{l:Addr}{vs:List Value}{κ:oD}{lt:Nat->Nat->Bool}{Q:Value->aF->Prop}(ar:s.heap.IsList l vs.toArray)(r5:vs.length < 64)
 (aD:2<=vs.length->∀(A:cL)(E:Value->aF->Prop)(R:oD->aF->Prop),R κ { s with heap:=m8 s.heap vs }->aZ (a8 prog w) A (vk vs.toArray) R E { s with heap:=m8 s.heap vs })
 (am:∀(lA:cL) i j C,lA.units<=A.units+5->i < vs.length->j < vs.length->C (lt i j) { s with heap:=m8 s.heap vs }->tg prog w lA κ vs i j C { s with heap:=m8 s.heap vs })
 (O:z4 lt) (h:∀ p:Array Nat,el vs.length p->hv lt p vs.length->Q (.ref (s.heap.objs.size+1)) { s with heap:=yt s.heap vs (p.toList.map λ i=>vs.getD i Value.none).toArray }) :
 aZ (a8 prog w) A (call (.builtin "sorted") [.ref l]) Q E s:=by
 refine Calls.call_function_entry kind_sorted plain_sorted entry_sorted (args_sorted1 _) ?_;unfold Builtin.«sorted»;refine aK (m:=checkCount "sorted" 1 1 _) (bC ?_);refine aK (collect_list ar ?_ (hsz:=by rw [hP];omega));refine aK (ym ?_)
 have hsz:((s.heap.push (gQ "list" #[] 0)).update s.heap.objs.size (Obj.mapSeq (·++vs.toArray))).objs.size=s.heap.objs.size+1:=by
  rw [Wp,yr]
 have rD:(((s.heap.push (gQ "list" #[] 0)).update s.heap.objs.size (Obj.mapSeq (·++vs.toArray))).push (gQ "list" vs.toArray 0)).get? (s.heap.objs.size+1)=some (gQ "list" vs.toArray 0):=by
  rw [<- hsz];exact hG _ rfl
 show aZ _ _ _ _ _ { s with heap:=((s.heap.push (gQ "list" #[] 0)).update s.heap.objs.size (Obj.mapSeq (·++vs.toArray))).push (gQ "list" vs.toArray 0) };rw [hsz];refine aK (jm (nE slot_list_sort ⟨_,rD,rfl⟩ entry_list_sort (Vm (κ:=κ) (lt:=lt) rD r5 (λ ag R dT=>aD ag _ _ R dT) (λ i j C au bw gV=>am _ i j C ?_ au bw gV) O λ p ah r8=>⟨_,rfl,?_⟩) (args_list_sort _)))
 ·show A.units+1+1<=A.units+5;omega
 exact bC ⟨_,rfl,h p ah r8⟩
end
end L2
namespace L3
open PySem L2
structure Std(x y:D):Prop where
 aE:cw x y=true->x=y
 aP:cw y x=true->x=y
 aX:cw x x=true
 uf:x=y\/cg x y=some true\/cg y x=some true
def kc{x y:D}{r bD:List D}(h:Std x y)(t:x=y->r=bD\/cy r bD=some true\/cy bD r=some true):x::r=y::bD\/cy (x::r) (y::bD)=some true\/cy (y::bD) (x::r)=some true:=by
 by_cases c:x=y
 ·subst c;rcases t rfl with ae | ae | ae
  ·exact .inl (by rw [ae])
  ·exact .inr (.inl (by rw [cy,if_pos h.aX];exact ae))
  ·exact .inr (.inr (by rw [cy,if_pos h.aX];exact ae))
 ·rcases h.uf with ae | ae | ae
  ·exact absurd ae c
  ·exact .inr (.inl (by rw [cy,if_neg λ z=>c (h.aE z)];exact ae))
  ·exact .inr (.inr (by rw [cy,if_neg λ z=>c (h.aP z)];exact ae))
def pA{x y z:D}{r bD z7:List D}(aE:cw x y=true->x=y)(aP:cw y z=true->y=z)(e3:cw x z=true->x=z)(iy:cg x x≠some true)(t:cg x y=some true->cg y z=some true->cg x z=some true)
 (di:x=y->y=z->cy r bD=some true->cy bD z7=some true->cy r z7=some true) (a1:cy (x::r) (y::bD)=some true) (a2:cy (y::bD) (z::z7)=some true):cy (x::r) (z::z7)=some true:=by
 rw [cy] at a1 a2 ⊢;by_cases c:cw x y=true
 ·have q:=aE c;subst q;rw [if_pos c] at a1;by_cases b6:cw x z=true
  ·rw [if_pos b6] at a2 ⊢;exact di rfl (aP b6) a1 a2
  ·rw [if_neg b6] at a2 ⊢;exact a2
 ·rw [if_neg c] at a1;by_cases b6:cw y z=true
  ·have q:=aP b6;subst q;rw [if_neg c];exact a1
  ·rw [if_neg b6] at a2;have w:=t a1 a2;rw [if_neg λ q=>by have hj:=e3 q;subst hj;exact iy w];exact w
def og(z cc:Str):Std (.str z) (.str cc):=by
 have e:∀ a b:Str,cw (.str a) (.str b)=true->(D.str a)=.str b:=λ a b h=>by
  rw [cw,beq_iff_eq] at h;rw [h]
 refine ⟨e z cc,λ h=>(e cc z h).symm,by simp [cw],?_⟩;rw [cg,cg];rcases Nat.lt_trichotomy 0 0 with h | h | h
 ·omega
 ·by_cases c:z.cps.toList < cc.cps.toList
  ·exact .inr (.inl (by simp [c]))
  ·by_cases d:cc.cps.toList < z.cps.toList
   ·exact .inr (.inr (by simp [d]))
   ·have q:z.cps.toList=cc.cps.toList:=List.le_antisymm (List.not_lt.mp d) (List.not_lt.mp c);obtain ⟨⟨a⟩⟩:=z;obtain ⟨⟨b⟩⟩:=cc;simp at q;subst q;exact .inl rfl
 ·omega
def Vn{a b c:Str}(ae:cg (.str a) (.str b)=some true)(ag:cg (.str b) (.str c)=some true):cg (.str a) (.str c)=some true:=by
 rw [cg] at ae ag ⊢;have cN:=of_decide_eq_true (gG.inj ae);have cc:=of_decide_eq_true (gG.inj ag);rw [decide_eq_true (List.lt_trans cN cc)]
def Vo(a:Str):cg (.str a) (.str a)≠some true:=by
 rw [cg];simp
def w5(m n:Int):Std (.int m) (.int n):=by
 have e:∀ a b:Int,cw (.int a) (.int b)=true->(D.int a)=.int b:=λ a b h=>by
  rw [cw,beq_iff_eq] at h;rw [h]
 refine ⟨e m n,λ h=>(e n m h).symm,by simp [cw],?_⟩;rw [cg,cg];rcases Int.lt_trichotomy m n with h | h | h
 ·exact .inr (.inl (by simp [h]))
 ·exact .inl (by rw [h])
 ·exact .inr (.inr (by simp [h]))
theorem z8:∀{ds:List D},cY ds=true->cy ds ds=some false
 | [],_=>rfl
 | d::ds,h=>by
  rw [cY,eI] at h;rw [cy,if_pos (ob h.1)];exact z8 h.2
def Vp{d:D}{ds:List D}(e:d=.tup ds)(h:d.data=true):cg d d=some false:=by
 subst e;rw [cg];exact z8 (by simpa [D.data] using h)
theorem bM.iy{d:D}(h:bM d):cg d d=gG false:=by
 have z:=h.data;cases h<;>exact Vp rfl z
theorem ug{S:D->Prop}:∀{ds es:List D},(∀ d∈ds,∀ e,S e->cw d e=true->d=e)->(∀ e∈es,S e)->ek ds es=true->ds=es
 | [],[],_,_,_=>rfl
 | [],_::_,_,_,h=>by rw [ek] at h;cases h;all_goals simp
 | _::_,[],_,_,h=>by rw [ek] at h;cases h;all_goals simp
 | d::ds,e::es,ae,ag,h=>by
  rw [ek,eI] at h;rw [ae d (b3 ..) e (ag e (b3 ..)) h.1,ug (λ x ai=>ae x (cO _ ai)) (λ x ai=>ag x (cO _ ai)) h.2]
def r9{z cc:Str}{r bD:List D}(h:cw (.tup (.str z::r)) (.tup (.str cc::bD))=true):z=cc/\ek r bD=true:=by
 rw [cw,ek,eI] at h;exact ⟨by simpa [cw] using h.1,h.2⟩
def r_{a b:D}{r bD:List D}(h:ek (a::r) (b::bD)=true):cw a b=true/\ek r bD=true:=by
 rw [ek,eI] at h;exact h
theorem bM.eq1{a:D}(h:bM a):∀ b,bM b->cw a b=true->a=b:=by
 induction h with
 | is n=>
  intro b af e;cases af<;>obtain ⟨aE,aP⟩:=r9 e<;>first | (exact absurd aE (by decide)) | skip
  obtain ⟨e3,-⟩:=r_ aP;rw [(w5 _ _).aE e3]
 | some=>intro b af e;cases af<;>obtain ⟨aE,aP⟩:=r9 e<;>first | (exact absurd aE (by decide)) | rfl
 | both _ _ ae ag=>
  intro b af e;cases af<;>obtain ⟨aE,aP⟩:=r9 e<;>first | (exact absurd aE (by decide)) | skip
  obtain ⟨e3,e4⟩:=r_ aP;rw [ae _ ‹_› e3,ag _ ‹_› (r_ e4).1]
 | left _ ae=>
  intro b af e;cases af<;>obtain ⟨aE,aP⟩:=r9 e<;>first | (exact absurd aE (by decide)) | skip
  rw [ae _ ‹_› (r_ aP).1]
 | right _ ae=>
  intro b af e;cases af<;>obtain ⟨aE,aP⟩:=r9 e<;>first | (exact absurd aE (by decide)) | skip
  rw [ae _ ‹_› (r_ aP).1]
 | way _ _ ae ag=>
  intro b af e
  cases af with
  | way g1 g2=>
   obtain ⟨-,aP⟩:=r9 e;obtain ⟨e3,e4⟩:=r_ aP;rw [cw] at e3;rw [ug ae g1 e3,ag _ g2 (r_ e4).1]
  | _=>exact absurd (r9 e).1 (by decide)
theorem bM.uh{a b:D}(h:bM a)(af:bM b)(t:a=b\/cg a b=gG true\/cg b a=gG true):Std a b:=⟨h.eq1 b af,λ e=>(af.eq1 a h e).symm,ob h.data,t⟩
def qE{xs ys:List D}(h:xs=ys\/cy xs ys=some true\/cy ys xs=some true):D.tup xs=D.tup ys\/cg (.tup xs) (.tup ys)=some true\/cg (.tup ys) (.tup xs)=some true:=by
 rw [cg,cg];rcases h with h | h | h
 ·exact .inl (by rw [h])
 ·exact .inr (.inl h)
 ·exact .inr (.inr h)
theorem K5:∀{ds es:List D},(∀ d∈ds,bM d/\∀ b,bM b->d=b\/cg d b=some true\/cg b d=some true)->(∀ e∈es,bM e)->ds=es\/cy ds es=some true\/cy es ds=some true
 | [],[],_,_=>.inl rfl
 | [],e::es,_,_=>.inr (.inl (by rw [cy];simp))
 | d::ds,[],_,_=>.inr (.inr (by rw [cy];simp))
 | d::ds,e::es,ae,ag=>by
  obtain ⟨k,t⟩:=ae d (b3 ..);have k2:=ag e (b3 ..);exact kc (k.uh k2 (t e k2)) λ _=>K5 (λ x ai=>ae x (cO _ ai)) (λ x ai=>ag x (cO _ ai))
theorem bM.uf{a:D}(h:bM a):∀ b,bM b->a=b\/cg a b=gG true\/cg b a=gG true:=by
 induction h with
 | is n=>intro b af;cases af<;>refine qE (kc (og _ _) λ e=>?_)<;>first | (exact absurd (D.str.inj e) (by decide)) | exact kc (w5 _ _) λ _=>.inl rfl
 | some=>intro b af;cases af<;>refine qE (kc (og _ _) λ e=>?_)<;>first | (exact absurd (D.str.inj e) (by decide)) | exact .inl rfl
 | both k1 k2 ae ag=>intro b af;cases af<;>refine qE (kc (og _ _) λ e=>?_)<;>first | (exact absurd (D.str.inj e) (by decide)) | exact kc (k1.uh ‹_› (ae _ ‹_›)) λ _=>kc (k2.uh ‹_› (ag _ ‹_›)) λ _=>.inl rfl
 | left k1 ae=>intro b af;cases af<;>refine qE (kc (og _ _) λ e=>?_)<;>first | (exact absurd (D.str.inj e) (by decide)) | exact kc (k1.uh ‹_› (ae _ ‹_›)) λ _=>.inl rfl
 | right k1 ae=>intro b af;cases af<;>refine qE (kc (og _ _) λ e=>?_)<;>first | (exact absurd (D.str.inj e) (by decide)) | exact kc (k1.uh ‹_› (ae _ ‹_›)) λ _=>.inl rfl
 | way k1 k2 ae ag=>
  intro b af
  cases af with
  | way g1 g2=>
   refine qE (kc (og _ _) λ _=>kc ⟨λ e=>?_,λ e=>?_,?_,qE (K5 (λ d hd=>⟨k1 d hd,ae d hd⟩) g1)⟩ λ _=>kc (k2.uh g2 (ag _ g2)) λ _=>.inl rfl)
   ·rw [cw] at e;rw [ug (λ d hd=>(k1 d hd).eq1) g1 e]
   ·rw [cw] at e;rw [ug (λ d hd=>(g1 d hd).eq1) k1 e]
   ·exact ob (by rw [D.data];exact qD λ d hd=>(k1 d hd).data)
  | _=>
   refine qE (kc (og _ _) λ e=>?_);exact absurd (D.str.inj e) (by decide)
def kT{z cc hr:Str}{r bj mN:List D}(di:z=cc->cc=hr->cy r bj=some true->cy bj mN=some true->cy r mN=some true)(a1:cg (.tup (.str z::r)) (.tup (.str cc::bj))=some true)(a2:cg (.tup (.str cc::bj)) (.tup (.str hr::mN))=some true):cg (.tup (.str z::r)) (.tup (.str hr::mN))=some true:=by
 rw [cg] at a1 a2 ⊢;exact pA (og _ _).aE (og _ _).aE (og _ _).aE (Vo _) Vn (λ aE aP=>di (D.str.inj aE) (D.str.inj aP)) a1 a2
def ui{r:List D}(h:cy [] []=some true):cy [] r=some true:=by rw [cy] at h;cases h
theorem K6:∀{ds es aC:List D},(∀ d∈ds,bM d/\∀ b c,bM b->bM c->cg d b=some true->cg b c=some true->cg d c=some true)->(∀ e∈es,bM e)->(∀ f∈aC,bM f)->cy ds es=some true->cy es aC=some true->cy ds aC=some true
 | [],es,aC,_,_,_,_,h=>by
  rw [cy]
  cases aC with
  | nil=>cases es with
   | nil=>rw [cy] at h;exact h
   | cons _ _=>rw [cy] at h;cases h
  | cons _ _=>simp
 | d::ds,[],aC,_,_,_,h,_=>by rw [cy] at h;cases h
 | d::ds,e::es,[],_,_,_,_,h=>by rw [cy] at h;cases h
 | d::ds,e::es,f::aC,ae,ag,aO,a1,a2=>by
  obtain ⟨k,t⟩:=ae d (b3 ..);have k2:=ag e (b3 ..);have k3:=aO f (b3 ..);exact pA (k.eq1 e k2) (k2.eq1 f k3) (k.eq1 f k3) (by rw [k.iy];simp) (t e f k2 k3) (λ _ _=>K6 (λ x ai=>ae x (cO _ ai)) (λ x ai=>ag x (cO _ ai)) λ x ai=>aO x (cO _ ai)) a1 a2
def Dv{a:D}(h:bM a):∀ b c,bM b->bM c->cg a b=some true->cg b c=some true->cg a c=some true:=by
 induction h with
 | is n=>
  intro b c af am a1 a2
  cases af<;>cases am<;>refine kT (λ aE aP dx cV=>?_) a1 a2<;>first | (exact absurd aE (by decide)) | (exact absurd aP (by decide)) | skip
  refine pA (w5 _ _).aE (w5 _ _).aE (w5 _ _).aE (by rw [cg];simp) (λ x y=>?_) (λ _ _ x _=>ui x) dx cV;rw [cg] at x y ⊢;have K7:=of_decide_eq_true (gG.inj x);have K8:=of_decide_eq_true (gG.inj y);rw [decide_eq_true (by omega)]
 | some=>
  intro b c af am a1 a2;cases af<;>cases am<;>refine kT (λ aE aP dx cV=>?_) a1 a2<;>first | (exact absurd aE (by decide)) | (exact absurd aP (by decide)) | exact ui dx
 | both k1 k2 ae ag=>
  intro b c af am a1 a2
  cases af with
  | both g1 g2=>
   cases am with
   | both g3 gw=>exact kT (λ aE aP dx cV=>pA (k1.eq1 _ g1) (g1.eq1 _ g3) (k1.eq1 _ g3) (by rw [k1.iy];simp) (ae _ _ g1 g3) (λ _ _=>pA (k2.eq1 _ g2) (g2.eq1 _ gw) (k2.eq1 _ gw) (by rw [k2.iy];simp) (ag _ _ g2 gw) λ _ _ x _=>ui x) dx cV) a1 a2
   | _=>
    refine kT (λ aE aP dx cV=>?_) a1 a2;exact absurd aP (by decide)
  | _=>
   cases am<;>refine kT (λ aE aP dx cV=>?_) a1 a2<;>exact absurd aE (by decide)
 | left k1 ae=>
  intro b c af am a1 a2
  cases af with
  | left g1=>
   cases am with
   | left g3=>exact kT (λ aE aP dx cV=>pA (k1.eq1 _ g1) (g1.eq1 _ g3) (k1.eq1 _ g3) (by rw [k1.iy];simp) (ae _ _ g1 g3) (λ _ _ x _=>ui x) dx cV) a1 a2
   | _=>
    refine kT (λ aE aP dx cV=>?_) a1 a2;exact absurd aP (by decide)
  | _=>
   cases am<;>refine kT (λ aE aP dx cV=>?_) a1 a2<;>exact absurd aE (by decide)
 | right k1 ae=>
  intro b c af am a1 a2
  cases af with
  | right g1=>
   cases am with
   | right g3=>exact kT (λ aE aP dx cV=>pA (k1.eq1 _ g1) (g1.eq1 _ g3) (k1.eq1 _ g3) (by rw [k1.iy];simp) (ae _ _ g1 g3) (λ _ _ x _=>ui x) dx cV) a1 a2
   | _=>
    refine kT (λ aE aP dx cV=>?_) a1 a2;exact absurd aP (by decide)
  | _=>
   cases am<;>refine kT (λ aE aP dx cV=>?_) a1 a2<;>exact absurd aE (by decide)
 | way k1 k2 ae ag=>
  intro b c af am a1 a2
  cases af with
  | way g1 g2=>
   cases am with
   | way g3 gw=>
    have iQ:∀{xs ys:List D},(∀ d∈xs,bM d)->(∀ d∈ys,bM d)->cw (.tup xs) (.tup ys)=true->D.tup xs=.tup ys:=λ ai bP e=>by
     rw [cw] at e;rw [ug (λ d hd=>(ai d hd).eq1) bP e]
    refine kT (λ aE aP dx cV=>pA (iQ k1 g1) (iQ g1 g3) (iQ k1 g3) ?_ (λ x y=>?_) (λ _ _=>pA (k2.eq1 _ g2) (g2.eq1 _ gw) (k2.eq1 _ gw) (by rw [k2.iy];simp) (ag _ _ g2 gw) λ _ _ x _=>ui x) dx cV) a1 a2
    ·rw [cg,z8 (qD λ d hd=>(k1 d hd).data)];simp
    ·rw [cg] at x y ⊢;exact K6 (λ d hd=>⟨k1 d hd,ae d hd⟩) g1 g3 x y
   | _=>
    refine kT (λ aE aP dx cV=>?_) a1 a2;exact absurd aP (by decide)
  | _=>
   cases am<;>refine kT (λ aE aP dx cV=>?_) a1 a2<;>exact absurd aE (by decide)
def K9{ds:List D}(h:∀ d∈ds,bM d)(aA:0 < ds.length):z4 λ i j=>(cg (ds.getD (min i (ds.length - 1)) .bc) (ds.getD (min j (ds.length - 1)) .bc)).getD false:=by
 have k:∀ i,bM (ds.getD (min i (ds.length - 1)) .bc):=λ i=>by
  have au:min i (ds.length - 1) < ds.length:=by omega
  rw [i2,e8 au];exact h _ (i3 au)
 have ud:∀{a b:D},bM a->bM b->cg a b=some true->cg b a≠some true:=λ iR l5 ae ag=>by
  have:=Dv iR _ _ l5 iR ae ag;rw [iR.iy] at this;cases this
 have val:∀{a b:D},bM a->bM b->((cg a b).getD false=false ↔ a=b\/cg b a=some true):=λ{a b} iR l5=>by
  obtain ⟨v,bJ⟩:=oH.mp (iR.lt l5);rw [bJ];constructor
  ·intro e;have bZ:v=false:=e;subst bZ;rcases iR.uf b l5 with ae | ae | ae
   ·exact .inl ae
   ·rw [bJ] at ae;cases ae
   ·exact .inr ae
  ·rintro (rfl | ae)
   ·rw [iR.iy] at bJ;cases bJ;rfl
   ·cases v with
    | false=>rfl
    | true=>exact absurd ae (ud iR l5 bJ)
 refine ⟨λ i=>?_,λ i j l ae ag=>?_,λ i j ae=>?_⟩
 ·exact (val (k i) (k i)).mpr (.inl rfl)
 ·rw [val (k _) (k _)] at ae ag ⊢;rcases ae with ae | ae
  ·rw [ae];exact ag
  ·rcases ag with ag | ag
   ·rw [<- ag];exact .inr ae
   ·exact .inr (Dv (k l) _ _ (k j) (k i) ag ae)
 ·rw [val (k _) (k _)];obtain ⟨v,bJ⟩:=oH.mp ((k i).lt (k j));rw [bJ] at ae;have e:v=true:=ae;subst e;exact .inr bJ
end L3
namespace L3
open PySem PySem.Spec PySem.W PyProof.Rows L2
theorem Dw{vs:List V}{aw:List Value}(h:Vals vs aw):∀ l:List Nat,(∀ i∈l,i < vs.length)->Vals (l.map λ i=>vs.getD i .bc) (l.map λ i=>aw.getD i Value.none)
 | [],_=>.nil
 | i::l,ar=>by
  have au:=ar i (b3 ..);obtain ⟨u,ae,ag⟩:=h.get (e8 au);rw [fh,fh];refine .cons ?_ (Dw h l λ j bw=>ar j (cO _ bw));rw [i2,i2,e8 au,ae];exact ag
theorem K_{K:aV}{H:av}{ds:List D}{vs:List V}(h:bH K H ds vs):∀ l:List Nat,(∀ i∈l,i < ds.length)->bH K H (l.map λ i=>ds.getD i .bc) (l.map λ i=>vs.getD i .bc)
 | [],_=>rfl
 | i::l,ar=>by
  have au:=ar i (b3 ..);obtain ⟨v,ae,ag⟩:=h.get (e8 au);refine ⟨_,_,rfl,?_,K_ h l λ j bw=>ar j (cO _ bw)⟩
  dsimp only
  rw [i2,i2,e8 au,ae];exact ag
def kd(ds:List D):Prop:=ds.Pairwise λ a b=>cg b a=some false
def Vq{ds:List D}{p:Array Nat}(h:el ds.length p):ds.Perm (p.toList.map λ i=>ds.getD i .bc):=by
 have e:(hE ds.length).map (λ i=>ds.getD i .bc)=ds:=by
  apply vq
  ·simp
  ·intro i ae ag;simp [i2,e8 ag]
 have:=h.map (λ i=>ds.getD i .bc);rw [e] at this;exact this.symm
abbrev ltI(ds:List D):Nat->Nat->Bool:=λ i j=>(cg (ds.getD (min i (ds.length - 1)) .bc) (ds.getD (min j (ds.length - 1)) .bc)).getD false
def La{ds:List D}(aD:∀ d∈ds,bM d){p:Array Nat}(h:el ds.length p)(up:hv (ltI ds) p ds.length):kd (p.toList.map λ i=>ds.getD i .bc):=by
 have hsz:=w4 h
 have eY:∀ i,i < ds.length->bM (ds.getD i .bc):=λ i au=>by
  rw [i2,e8 au];exact aD _ (i3 au)
 unfold kd;rw [List.pairwise_iff_getElem];intro i j au bw jA;rw [cP,hF] at au bw;have z:=up i j jA (by omega)
 have Vr:gt p i=p.toList[i]'(by simpa using au):=by simp [gt,yK,au]
 have Vt:gt p j=p.toList[j]'(by simpa using bw):=by simp [gt,yK,bw]
 have aA:0 < ds.length:=by omega
 have li:gt p i < ds.length:=hg h aA i;have w6:gt p j < ds.length:=hg h aA j;simp only [ltI] at z;rw [show min (gt p j) (ds.length - 1)=gt p j from Nat.min_eq_left (Nat.le_sub_one_of_lt w6),show min (gt p i) (ds.length - 1)=gt p i from Nat.min_eq_left (Nat.le_sub_one_of_lt li)] at z;rw [vr,vr,<- Vr,<- Vt];obtain ⟨v,bJ⟩:=oH.mp ((eY _ w6).lt (eY _ li));rw [bJ] at z ⊢;have e:v=false:=z;rw [e]
def Vu(K:aV):List V->av->cC->Prop:=λ xs H Q=>∃(l:Addr)(vs:List V)(ds:List D),xs=[.ref l]/\d7 K H l vs/\bH K H ds vs/\ds.length < 64/\(∀ d∈ds,bM d/\d.aS<=150) ∧
 ∀(ke:List D)(z1:List V),ds.Perm ke->kd ke->bH K H ke z1->∀ p,H p=none->Q (.ref p) (upd H p (.lst z1))
section
variable{X:aT}
def Vv(bK:X.A.units+200 < dP):hY X (.builtin "sorted") (Vu X.K):=by
 intro pins s σ H xs us Q I r h;obtain ⟨l,vs,ds,rfl,aM,ay,ar,ax,q⟩:=h;obtain ⟨u,rfl,a7⟩:=n0 r;cases a7;obtain ⟨aw,a5,pl,hz⟩:=I.list aM;have hlen:=a5.length;have afK:=ay.len;have aD:∀ d∈ds,bM d:=λ d hd=>(ax d hd).1;have mL:Inv X pins σ H { s with heap:=m8 s.heap aw }:=I.kept (t':=s.toks) λ b o e=>KM e
 have fin:∀ p:Array Nat,el aw.length p->kd (p.toList.map λ i=>ds.getD i .bc)->gg X pins σ Q (.ref (s.heap.objs.size+1)) { s with heap:=yt s.heap aw (p.toList.map λ i=>aw.getD i Value.none).toArray }:=λ p ah l6=>by
  have hm:∀ i∈p.toList,i < aw.length:=λ i au=>oE.mp (ah.mem_iff.mp au);obtain ⟨c,qi⟩:=sortedAll_at s.heap aw (p.toList.map λ i=>aw.getD i Value.none).toArray;have z:=ah.length_eq;rw [List.length_range] at z;have bq:=hP;have aX:=Dw a5 p.toList (λ i au=>by have:=hm i au;omega);have bj:=K_ ay p.toList (λ i au=>by have:=hm i au;omega);exact ⟨.ref _,_,I.laid (t':=s.toks) (λ b o e=>sortedAll_old e) (tn _) (show f5 X.prog X.w _ _ _ (.lst (p.toList.map λ i=>vs.getD i .bc)) from ⟨by rw [cP];omega,_,c,aX,by simpa using qi⟩),rfl,q _ _ (Vq (by rw [show ds.length=aw.length by omega];exact ah)) l6 bj _ (I.bU.fresh (tn _))⟩
 by_cases h0:0 < ds.length
 ·refine K4 (κ:=tuples' true) (lt:=ltI ds) pl.isList (by omega) (λ ag A E R dT=>Vd mL (λ d hd=>(aD d hd).Dr (ax d hd).2) ay a5 (by omega) dT) (λ lA i j C o1 au bw gV=>?_) (K9 aD h0) λ p ah r8=>fin p ah (La aD (by rw [show ds.length=aw.length by omega];exact ah) (by rw [show ds.length=aw.length by omega];exact r8))
  have ge:∀ k,k < aw.length->∃ d v u,ds.getD (min k (ds.length - 1)) .bc=d/\d∈ds/\dg X.K H d v/\RelV v u/\aw.getD k Value.none=u:=λ k wW=>by
   have qF:k < ds.length:=by omega
   obtain ⟨v,g1,g2⟩:=ay.get (e8 qF);obtain ⟨u,g3,gw⟩:=a5.get g1;exact ⟨ds[k],v,u,by rw [show min k (ds.length - 1)=k by omega,i2,e8 qF];rfl,i3 qF,g2,gw,by rw [i2,g3];rfl⟩
  obtain ⟨d,v,u,aE,eg,a1,dx,f1⟩:=ge i au;obtain ⟨e,kG,rE,aP,eh,a2,cV,f2⟩:=ge j bw;unfold tg;rw [f1,f2];simp only [ltI,aE,aP] at gV;obtain ⟨b,af⟩:=oH.mp ((aD _ eg).lt (aD _ eh));obtain ⟨z,r,rfl,k1,k2⟩:=(aD d eg).Dr (ax d eg).2;obtain ⟨cc,bj,rfl,k3,jB⟩:=(aD e eh).Dr (ax e eh).2;rw [af] at gV;exact Va mL gV k1 k3 a1 a2 dx cV (by omega) af
 ·have dt:aw=[]:=vt.mp (by omega);subst dt;refine KH (κ:=tuples' true) (lt:=λ _ _=>false) pl.isList (by simp) (λ ag=>by simp at ag) (λ lA i j C o1 au=>by simp at au) λ out ah=>?_;have lz:out=[]:=vt.mp (by have:=ah.length_eq;simpa using this);subst lz;have uj:ds=[]:=vt.mp (by omega);exact fin #[] (.refl _) (by simp [kd])
def Vw:D->aL->cJ->Prop:=λ x G Q=>match x with
 | .ref l=>hb G l λ ds=>ds.length < 64/\(∀ d∈ds,bM d/\d.aS<=150)/\∀ ke:List D,ds.Perm ke->kd ke->∀ p,G p=none->Q (.ref p) (up G p (.lst ke))
 | _=>False
def Vx(bK:X.A.units+200 < dP):j4 X (.builtin "sorted") (m4 Vw):=by
 refine ⟨_,⟨Vv bK⟩,λ xs vs G H az Q v a r F=>?_⟩;obtain ⟨x,u,rfl,rfl,aN,r⟩:=pd r a
 cases x with
 | ref l=>
  cases aN;obtain ⟨ds,ws,⟨ar,ax,k⟩,s,dK⟩:=ic v r;exact ⟨l,ws,ds,rfl,s,dK,ar,ax,λ ke z1 ah sa ay p ep=>F (.ref p) _ _ _ (Go.n7 v ep ay) rfl (k ke ah sa p (v.none ep))⟩
 | _=>exact (show False from r).elim
end
end L3
namespace L3
open PySem PySem.Spec L2 PySem.SeqAt
open AutoSeq1 (wpAny_loadPart')
open MeetsSeq MeetsSeq2 MeetsSeq3 SeqRoads2
theorem Vy(l b:Addr)(items cT:Array Value)(n b8:Nat)(dd hn:Option Addr)(bq ho:Array (Option Value))(e c:Nat->Bool)(k:Nat) :
 ∀ i:Nat,min items.size cT.size - i=k->i<=min items.size cT.size->Meets (Builtin.«list.__eq__.loop» ⟨[.ref l,.ref b,hD i,hD 0],[]⟩)
  (λ A R s=>s.heap.get? l=some { cls:=.type "list", dict:=dd,data:=.seq items n,slots:=bq }/\s.heap.get? b=some { cls:=.type "list", dict:=hn,data:=.seq cT b8,slots:=ho } ∧
   (∀ j (ae:j < items.size) (ag:j < cT.size),EqAt A.in1 s items[j] cT[j] (e j)) ∧
   (∀ j (ae:j < items.size) (ag:j < cT.size),(∀ i,i < j->e i=true)->e j=false->od A.in1 s items[j] cT[j] (c j))/\(∀ j,j < i->e j=true) ∧
   R (.ok (.ret (.bool (ix e c (decide (items.size < cT.size)) k i)))) s):=by
 induction k with
 | zero=>
  intro i aD hle prog w A R s h;obtain ⟨ah,g,d,bR,os⟩:=s;obtain ⟨ar,af,he,am,au,h⟩:=h
  wp_walk using nF ar,nF af
  have fin:aZ (a8 prog w) A.in1 (do
   let x ← Builtin.List.listItems (Value.ref l)
   let y ← Builtin.List.listItems (Value.ref b)
   ret (Value.bool (decide (x.size < y.size)))) (λ fin aQ=>match fin with
    | .done f=>R (.ok f) aQ
    | .again dm=>dm.quiet=true/\p9 (a8 prog w) A dm R aQ) (λ e aQ=>R (Except.error e) aQ) { heap:=ah,gens:=g,drawn:=d,toks:=bR,os:=os }:=by
   refine aK (yP ar rfl (aK (yP af rfl ?_)))
   wp_walk
   exact h
  rcases (by omega:items.size<=i\/cT.size<=i) with q | q
  ·have z9:items[((i:Nat):Int).toNat]?=none:=by simp;omega
   rw [z9];exact fin
  ·have z_:cT[((i:Nat):Int).toNat]?=none:=by simp;omega
   rw [z_];cases items[((i:Nat):Int).toNat]?<;>exact fin
 | succ k bN=>
  intro i aD hle prog w A R s h;obtain ⟨ah,g,d,bR,os⟩:=s;obtain ⟨ar,af,he,am,au,h⟩:=h
  wp_walk using nF ar,nF af
  have eG:i < items.size:=by omega
  have Dx:i < cT.size:=by omega
  have z9:items[((i:Nat):Int).toNat]?=some items[i]:=by simp [eG]
  have z_:cT[((i:Nat):Int).toNat]?=some cT[i]:=by simp [Dx]
  have qi:((i:Int)+1)=((i+1:Nat):Int):=by push_cast;rfl
  rw [ix] at h;rw [z9,z_];refine aK (he i eG Dx prog w _ _ ?_)
  cases fN:e i with
  | true=>
   rw [fN,if_pos rfl] at h
   wp_walk
   rw [qi]
   exact ⟨plainId_quiet plain_eq_loop _,BJ entry_eq_loop (by
    rw [Around.under_plainId plain_eq_loop _]
    exact bN (i+1) (by omega) (by omega) prog w A R _ ⟨ar,af,he,am,λ j bw=>by rcases Nat.lt_succ_iff_lt_or_eq.mp bw with z | rfl;exact au j z;exact fN,h⟩)⟩
  | false=>
   rw [fN,if_neg (by decide)] at h;simp only [ts,if_false];refine aK (yP ar rfl (aK (yP af rfl ?_)));rw [z9,z_];refine aK (am i eG Dx au fN prog w _ _ ?_)
   wp_walk
   exact h
def Vz(l b:Addr)(items cT:Array Value)(n b8:Nat)(dd hn:Option Addr)(bq ho:Array (Option Value))(e c:Nat->Bool) :
 Meets (Builtin.«list.__lt__» ⟨[.ref l,.ref b],[]⟩)
  (λ A R s=>s.heap.get? l=some { cls:=.type "list", dict:=dd,data:=.seq items n,slots:=bq }/\s.heap.get? b=some { cls:=.type "list", dict:=hn,data:=.seq cT b8,slots:=ho } ∧
   (∀ j (ae:j < items.size) (ag:j < cT.size),EqAt A.in1 s items[j] cT[j] (e j)) ∧
   (∀ j (ae:j < items.size) (ag:j < cT.size),(∀ i,i < j->e i=true)->e j=false->od A.in1 s items[j] cT[j] (c j)) ∧
   R (.ok (.ret (.bool (ix e c (decide (items.size < cT.size)) (min items.size cT.size) 0)))) s):=by
 intro prog w A R s h;obtain ⟨ah,g,d,bR,os⟩:=s;obtain ⟨ar,af,he,am,h⟩:=h;have dn:=AutoSeq1.sub_list_list
 wp_walk using nF ar,nF af
 exact ⟨plainId_quiet plain_eq_loop _,BJ entry_eq_loop (by
  rw [Around.under_plainId plain_eq_loop _]
  exact Vy l b items cT n b8 dd hn bq ho e c _ 0 rfl (fi _) prog w A R _ ⟨ar,af,he,am,λ j bw=>by omega,by simpa using h⟩)⟩
open PyProof.Rows in
def VA{prog:cS}{w:b_}{E:Value->aF->Prop}{A:cL}{s:aF}{l b:Addr}{items cT:Array Value}{e c:Nat->Bool}{Q:Bool->aF->Prop}(ar:s.heap.IsList l items)(af:s.heap.IsList b cT)(bK:A.units < dP)
 (he:∀ j (ae:j < items.size) (ag:j < cT.size),EqAt A.in1 s items[j] cT[j] (e j))
 (am:∀ j (ae:j < items.size) (ag:j < cT.size),(∀ i,i < j->e i=true)->e j=false->od A.in1 s items[j] cT[j] (c j))
 (h:Q (ix e c (decide (items.size < cT.size)) (min items.size cT.size) 0) s):aZ (a8 prog w) A (oneLt' true (.ref l) (.ref b)) Q E s:=by
 obtain ⟨⟨cls,dd,data,bq⟩,aR,pv,n,hd⟩:=id ar;obtain ⟨⟨Cf,hn,data2,ho⟩,kL,iK,b8,hd2⟩:=id af;simp only at pv hd iK hd2;subst pv hd iK hd2;rw [oneLt'_eq];simp only [if_true];refine aK (wpAny_cRoomFor bK ?_);refine aK (wpAny_callSpecialIfBound?_slot ⟨_,aR,rfl⟩ F.slot_list_lt (rb F.slot_list_lt ⟨_,aR,rfl⟩ F.entry_list_lt (F.args_list_lt_2 _ _) (Vz l b items cT n b8 dd hn bq ho e c) ⟨aR,kL,he,am,?_⟩));exact oy h
def D.Aa:D->Bool
 | .str _=>true
 | _=>false
mutual
def dF:D->List D
 | .tup ds=>l7 ds
 | d=>[d]
def l7:List D->List D
 | []=>[.int 0]
 | d::ds=>if d.Aa then d::fF ds else .int 1::(dF d++hx ds)
def fF:List D->List D
 | []=>[]
 | d::ds=>dF d++fF ds
def hx:List D->List D
 | []=>[.int 0]
 | d::ds=>.int 1::(dF d++hx ds)
end
def Cl(a b:D):Prop:=∀ r bD:List D,cy (dF a++r) (dF b++bD)=if cw a b then cy r bD else cg a b
def uk(xs ys:List D):Prop:=∀ r bD:List D,cy (fF xs++r) (fF ys++bD)=if ek xs ys then cy r bD else cy xs ys
theorem uk.nil:uk [] []:=λ r bD=>by simp [fF,ek]
theorem uk.cons{x y:D}{xs ys:List D}(h:Cl x y)(t:uk xs ys):uk (x::xs) (y::ys):=λ r bD=>by
 rw [fF,fF,c_,c_,h,t,ek,cy];cases cw x y<;>simp
theorem Cl.one{x y:D}(ai:dF x=[x])(bP:dF y=[y]):Cl x y:=λ r bD=>by
 rw [ai,bP,mD,mD,cy]
theorem Cl.tup{z gn:Str}{xs ys:List D}(h:z=gn->uk xs ys):Cl (.tup (.str z::xs)) (.tup (.str gn::ys)):=λ r bD=>by
 rw [dF,dF,l7,l7,if_pos (show (D.str z).Aa=true from rfl),if_pos (show (D.str gn).Aa=true from rfl),de,de,cg,cw,ek];simp only [cy]
 cases c:cw (.str z) (.str gn) with
 | false=>simp
 | true=>rw [if_pos rfl,h (by simpa [cw] using c) r bD];simp
theorem Lb:∀{xs ys:List D},(∀ x∈xs,∀ y∈ys,Cl x y)->∀ r bD,cy (hx xs++r) (hx ys++bD)=if ek xs ys then cy r bD else cy xs ys
 | [],[],_,r,bD=>by simp [hx,ek,cy,cw]
 | [],y::ys,_,r,bD=>by simp [hx,ek,cy,cw,cg]
 | x::xs,[],_,r,bD=>by simp [hx,ek,cy,cw,cg]
 | x::xs,y::ys,h,r,bD=>by
  rw [hx,hx,de,de,cy,if_pos (by simp [cw]),c_,c_,h x (b3 ..) y (b3 ..),Lb (λ a ay b af=>h a (cO _ ay) b (cO _ af)),ek,cy];cases cw x y<;>simp
def Ab{ds:List D}(h:∀ d∈ds,bM d):dF (.tup ds)=hx ds:=by
 rw [dF]
 cases ds with
 | nil=>rw [l7,hx]
 | cons d ds=>
  rw [l7,hx];obtain ⟨z,r,e,_⟩:=(h d (b3 ..)).head;rw [e];rfl
theorem bM.cl{a:D}(h:bM a):∀{b:D},bM b->Cl a b:=by
 induction h with
 | is n=>intro b af;cases af<;>refine Cl.tup λ e=>?_<;>first | (exact absurd e (by decide)) | exact .cons (.one rfl rfl) .nil
 | some=>intro b af;cases af<;>refine Cl.tup λ e=>?_<;>first | (exact absurd e (by decide)) | exact .nil
 | both _ _ ae ag=>intro b af;cases af<;>refine Cl.tup λ e=>?_<;>first | (exact absurd e (by decide)) | exact .cons (ae ‹_›) (.cons (ag ‹_›) .nil)
 | left _ ae=>intro b af;cases af<;>refine Cl.tup λ e=>?_<;>first | (exact absurd e (by decide)) | exact .cons (ae ‹_›) .nil
 | right _ ae=>intro b af;cases af<;>refine Cl.tup λ e=>?_<;>first | (exact absurd e (by decide)) | exact .cons (ae ‹_›) .nil
 | way k1 _ ae ag=>
  intro b af
  cases af with
  | way g1 g2=>
   refine Cl.tup λ _=>.cons (λ r bD=>?_) (.cons (ag g2) .nil);rw [Ab k1,Ab g1,Lb λ x ai y bP=>ae x ai (g1 y bP),cw,cg]
  | _=>refine Cl.tup λ e=>?_;exact absurd e (by decide)
theorem bM.Dy{a b:D}(h:bM a)(af:bM b):cy (dF a) (dF b)=cg a b:=by
 have z:=h.cl af [] [];rw [eP,eP] at z;rw [z]
 cases c:cw a b with
 | false=>rfl
 | true=>rw [h.eq1 b af c,af.iy];rfl
mutual
theorem pB:∀{d:D},d.data=true->cY (dF d)=true
 | .tup ds,h=>by rw [dF];exact VB (by simpa [D.data] using h)
 | .int _,_=>rfl
 | .str _,_=>rfl
 | .bc,_=>rfl
 | .aJ _,_=>rfl
theorem VB:∀{ds:List D},cY ds=true->cY (l7 ds)=true
 | [],_=>rfl
 | d::ds,h=>by
  rw [cY,eI] at h;rw [l7];split
  ·rw [cY,h.1,Lc h.2];rfl
  ·rw [cY,Ac (pB h.1) (Ld h.2)];rfl
theorem Lc:∀{ds:List D},cY ds=true->cY (fF ds)=true
 | [],_=>rfl
 | d::ds,h=>by
  rw [cY,eI] at h;rw [fF];exact Ac (pB h.1) (Lc h.2)
theorem Ld:∀{ds:List D},cY ds=true->cY (hx ds)=true
 | [],_=>rfl
 | d::ds,h=>by
  rw [cY,eI] at h;rw [hx,cY,Ac (pB h.1) (Ld h.2)];rfl
theorem Ac:∀{ds es:List D},cY ds=true->cY es=true->cY (ds++es)=true
 | [],_,_,h=>h
 | d::ds,es,ae,ag=>by
  rw [cY,eI] at ae;rw [de,cY,ae.1,Ac ae.2 ag];rfl
end
theorem bM.Le{a b:D}(h:bM a)(af:bM b)(e:dF a=dF b):a=b:=by
 have z:=z8 (pB h.data);rcases h.uf b af with ae | ae | ae
 ·exact ae
 ·rw [<- h.Dy af,<- e,z] at ae;cases ae
 ·rw [<- af.Dy h,<- e,z] at ae;cases ae
def jC(d:D):Prop:=(∃ n,d=.int n)\/∃ z,d=.str z
theorem jC.eq{d e:D}(h:jC d)(g:jC e)(q:cw d e=true):d=e:=by
 rcases h with ⟨n,rfl⟩ | ⟨z,rfl⟩<;>rcases g with ⟨m,rfl⟩ | ⟨y,rfl⟩<;>simp [cw] at q<;>rw [q]
theorem Lf:∀{ds:List D},(∀ d∈ds,∀ x∈dF d,jC x)->∀ x∈hx ds,jC x
 | [],_,x,ai=>by simp [hx] at ai;exact .inl ⟨_,ai⟩
 | d::ds,h,x,ai=>by
  rw [hx,cB,fH] at ai;rcases ai with rfl | ai | ai
  ·exact .inl ⟨_,rfl⟩
  ·exact h d (b3 ..) x ai
  ·exact Lf (λ e he=>h e (cO _ he)) x ai
theorem Lg:∀{ds:List D},(∀ d∈ds,∀ x∈dF d,jC x)->∀ x∈fF ds,jC x
 | [],_,x,ai=>by simp [fF] at ai
 | d::ds,h,x,ai=>by
  rw [fF,fH] at ai;rcases ai with ai | ai
  ·exact h d (b3 ..) x ai
  ·exact Lg (λ e he=>h e (cO _ he)) x ai
def ul{z:Str}{ds:List D}(h:∀ d∈ds,∀ x∈dF d,jC x):∀ x∈dF (.tup (.str z::ds)),jC x:=λ x ai=>by
 rw [dF,l7,if_pos (show (D.str z).Aa=true from rfl),cB] at ai;rcases ai with rfl | ai
 ·exact .inr ⟨_,rfl⟩
 ·exact Lg h x ai
theorem bM.Ad{a:D}(h:bM a):∀ x∈dF a,jC x:=by
 induction h with
 | is n=>exact ul λ d hd x ai=>by simp at hd;subst hd;simp [dF] at ai;exact .inl ⟨_,ai⟩
 | some=>exact ul λ d hd=>by simp at hd
 | both _ _ ae ag=>exact ul λ d hd x ai=>by simp at hd;rcases hd with rfl | rfl;exact ae x ai;exact ag x ai
 | left _ ae=>exact ul λ d hd x ai=>by simp at hd;subst hd;exact ae x ai
 | right _ ae=>exact ul λ d hd x ai=>by simp at hd;subst hd;exact ae x ai
 | way k1 _ ae ag=>
  refine ul λ d hd x ai=>?_;simp at hd;rcases hd with rfl | rfl
  ·rw [Ab k1] at ai;exact Lf ae x ai
  ·exact ag x ai
theorem jC.aS:∀{ds:List D},(∀ d∈ds,jC d)->cb ds=0
 | [],_=>rfl
 | d::ds,h=>by
  rw [cb,jC.aS λ e he=>h e (cO _ he)];rcases h d (b3 ..) with ⟨n,rfl⟩ | ⟨z,rfl⟩<;>rfl
theorem bM.VC{a b:D}(h:bM a)(af:bM b):ek (dF a) (dF b)=cw a b:=by
 cases c:cw a b with
 | true=>rw [h.eq1 b af c];exact C8 (pB af.data)
 | false=>
  cases b6:ek (dF a) (dF b) with
  | false=>rfl
  | true=>
   have e:=ug (S:=jC) (λ d hd e he=>(h.Ad d hd).eq he) af.Ad b6;rw [h.Le af e,ob af.data] at c;cases c
end L3
namespace L3
open PySem PySem.Spec PySem.W PyProof.Rows L2 PySem.SeqAt
section
variable{X:aT}{pins:List (Addr × Obj)}{σ:L2.St}{H:av}{s:aF}
def VD(I:Inv X pins σ H s){prog:cS}{w:b_}{A:cL}{E:Value->aF->Prop}{ds es:List D}{l m:Addr}{vs us:List V}{b:Bool}{Q:Bool->aF->Prop}(s1:d7 X.K H l vs)(s2:d7 X.K H m us)(aX:bH X.K H ds vs)(bj:bH X.K H es us)(hd:cY ds=true)(he:cY es=true)(bK:A.units+1+cb ds < dP)(h:cy ds es=some b)(q:Q b s):aZ (a8 prog w) A (keyLt' oneType' (.ref l) (.ref m)) Q E s:=by
 rw [keyLt'_oneType];obtain ⟨aw,cf,t1,_⟩:=I.list s1;obtain ⟨cF,dX,di,_⟩:=I.list s2;have cv:=cf.length;have eM:=dX.length;have iw:=aX.len;have fj:=bj.len;refine VA (e:=gy ds es) (c:=λ _=>b) t1.isList di.isList (by omega) (λ j ae ag=>?_) (λ j ae ag au bw=>?_) ?_
 ·have q:=pk I ds es A.in1 vs us aw cF hd he aX bj cf dX (by show A.units+1+cb ds < dP;omega) j (by simpa using ae) (by simpa using ag);simpa using q
 ·have eT:j < aw.length:=by simpa using ae
  have j9:j < cF.length:=by simpa using ag
  obtain ⟨d,e,g1,g2,g3⟩:=Dl h (by omega) (by omega) au bw;have q:=Dm I ds es A.in1 vs us aw cF hd he aX bj cf dX (by show A.units+1+cb ds < dP;omega) j eT j9 d e b g1 g2 g3;simpa using q
 ·rw [cH,cH,<- cv,<- eM,iw,fj,Dk h];exact q
def Ae(K:aV)(H:av)(z:Addr × D):Prop:=bM z.2/\∃ us,d7 K H z.1 us/\bH K H (dF z.2) us
def VE(K:aV):List V->av->cC->Prop:=λ xs H Q=>∃(l:Addr)(zs:List (Addr × D)),xs=[.ref l]/\d7 K H l (zs.map λ z=>V.ref z.1)/\zs.length < 64/\(∀ z∈zs,Ae K H z) ∧
 ∀ lB:List (Addr × D),zs.Perm lB->kd (lB.map (·.2))->∀ p,H p=none->Q (.ref p) (upd H p (.lst (lB.map λ z=>V.ref z.1)))
theorem Af:∀{zs:List (Addr × D)}{aw:List Value},Vals (zs.map λ z=>V.ref z.1) aw->aw=zs.map λ z=>Value.ref z.1
 | [],_,h=>by cases h;rfl
 | z::zs,_,h=>by
  cases h with
  | cons h t=>cases h;rw [Af t];rfl
def Ag{α β:Type}{f:α->β}{xs:List α}{i:Nat}{d:β}{x:α}(h:xs[i]?=some x):(xs.map f).getD i d=f x:=by
 rw [i2,f3,h];rfl
def VF(bK:X.A.units+200 < dP):hY X (.builtin "sorted") (VE X.K):=by
 intro pins s σ H xs us Q I r h;obtain ⟨l,zs,rfl,aM,ar,hz,q⟩:=h;obtain ⟨u,rfl,a7⟩:=n0 r;cases a7;obtain ⟨aw,a5,pl,_⟩:=I.list aM;have Dz:=Af a5
 have hlen:aw.length=zs.length:=by rw [Dz,cP]
 have aD:∀ d∈zs.map (·.2),bM d:=λ d hd=>by obtain ⟨z,wd,rfl⟩:=hS.mp hd;exact (hz z wd).1
 have mL:Inv X pins σ H { s with heap:=m8 s.heap aw }:=I.kept (t':=s.toks) λ b o e=>KM e
 have fin:∀ p:Array Nat,el aw.length p->kd (p.toList.map λ i=>(zs.map (·.2)).getD i .bc)->gg X pins σ Q (.ref (s.heap.objs.size+1)) { s with heap:=yt s.heap aw (p.toList.map λ i=>aw.getD i Value.none).toArray }:=λ p ah l6=>by
  have hm:∀ i∈p.toList,i < aw.length:=λ i au=>oE.mp (ah.mem_iff.mp au);obtain ⟨c,qi⟩:=sortedAll_at s.heap aw (p.toList.map λ i=>aw.getD i Value.none).toArray;have bq:=hP;have gM:=ah.length_eq;rw [List.length_range] at gM
  have gz:∀ i∈p.toList,zs[i]?=some (zs.getD i (0,.bc)):=λ i au=>by
   have tR:i < zs.length:=by have:=hm i au;omega
   rw [i2,e8 tR];rfl
  have aE:(p.toList.map λ i=>(zs.map λ z=>V.ref z.1).getD i .bc)=(p.toList.map λ i=>zs.getD i (0,.bc)).map λ z=>V.ref z.1:=by
   rw [oF];exact List.map_congr_left λ i au=>Ag (gz i au)
  have aP:(p.toList.map λ i=>(zs.map (·.2)).getD i .bc)=(p.toList.map λ i=>zs.getD i (0,.bc)).map (·.2):=by
   rw [oF];exact List.map_congr_left λ i au=>Ag (gz i au)
  rw [aP] at l6;have aX:=Dw a5 p.toList (λ i au=>by have:=hm i au;rw [cP];omega);rw [aE] at aX
  have perm:zs.Perm (p.toList.map λ i=>zs.getD i (0,.bc)):=by
   have e:(hE zs.length).map (λ i=>zs.getD i (0,.bc))=zs:=by
    apply vq
    ·simp
    ·intro i ae ag;simp [i2,e8 ag]
   have ep:el zs.length p:=by rw [<- hlen];exact ah
   have:=ep.map (λ i=>zs.getD i (0,D.bc));rw [e] at this;exact this.symm
  exact ⟨.ref _,_,I.laid (t':=s.toks) (λ b o e=>sortedAll_old e) (tn _) (show f5 X.prog X.w _ _ _ (.lst ((p.toList.map λ i=>zs.getD i (0,.bc)).map λ z=>V.ref z.1)) from ⟨by rw [cP,cP];omega,_,c,aX,by simpa using qi⟩),rfl,q _ perm l6 _ (I.bU.fresh (tn _))⟩
 have l8:(zs.map (·.2)).length=zs.length:=cP ..;by_cases h0:0 < zs.length
 ·refine K4 (κ:=oneType') (lt:=ltI (zs.map (·.2))) pl.isList (by omega) (λ ag A E R dT=>kas_kind (T:=.type "list") ag (λ v bJ=>?_) (by decide) (by decide) dT) (λ lA i j C o1 au bw gV=>?_) (K9 aD (by omega)) λ p ah r8=>fin p ah (La aD (by rw [l8,<- hlen];exact ah) (by rw [l8,<- hlen];exact r8))
  ·rw [Dz] at bJ;obtain ⟨z,wd,rfl⟩:=hS.mp bJ;obtain ⟨_,us,fb,_⟩:=hz z wd;obtain ⟨its',_,w7,_⟩:=mL.list fb;obtain ⟨o,aR,am,_⟩:=w7.isList;exact λ A Q E aQ k q=>q9 (T:="list") ⟨o,k _ _ aR,am⟩ q
  ·have ge:∀ k,k < aw.length->∃ z,zs[k]?=some z/\z∈zs/\(zs.map (·.2)).getD (min k ((zs.map (·.2)).length - 1)) .bc=z.2/\aw.getD k Value.none=.ref z.1:=λ k wW=>by
    have qF:k < zs.length:=by omega
    refine ⟨zs[k],e8 qF,i3 qF,?_,?_⟩
    ·rw [show min k ((zs.map (·.2)).length - 1)=k by omega];exact Ag (e8 qF)
    ·rw [Dz];exact Ag (e8 qF)
   obtain ⟨z,_,eg,aE,f1⟩:=ge i au;obtain ⟨y,_,eh,aP,f2⟩:=ge j bw;unfold tg;rw [f1,f2];simp only [ltI,aE,aP] at gV;obtain ⟨k1,Lh,DA,a1⟩:=hz z eg;obtain ⟨k2,Li,um,a2⟩:=hz y eh;obtain ⟨b,af⟩:=oH.mp (k1.lt k2);rw [af] at gV;exact VD mL DA um a1 a2 (pB k1.data) (pB k2.data) (by rw [jC.aS k1.Ad];omega) (by rw [k1.Dy k2];exact af) gV
 ·have dt:aw=[]:=vt.mp (by omega);subst dt;refine KH (κ:=oneType') (lt:=λ _ _=>false) pl.isList (by simp) (λ ag=>by simp at ag) (λ lA i j C o1 au=>by simp at au) λ out ah=>?_;have lz:out=[]:=vt.mp (by have:=ah.length_eq;simpa using this);subst lz;exact fin #[] (.refl _) (by simp [kd])
def qG(G:aL)(z:Addr × D):Prop:=bM z.2/\G z.1=some (.lst (dF z.2))
theorem qG.to{K:aV}{G:aL}{H:av}{z:Addr × D}(v:fu K G H)(h:qG G z):Ae K H z:=by
 obtain ⟨us,e,r⟩:=v _ _ h.2;exact ⟨h.1,us,.inl (.inl e),r⟩
def VG:D->aL->cJ->Prop:=λ x G Q=>match x with
 | .ref l=>∃ zs:List (Addr × D),G l=some (.lst (zs.map λ z=>D.ref z.1))/\zs.length < 64/\(∀ z∈zs,qG G z)/\∀ lB:List (Addr × D),zs.Perm lB->kd (lB.map (·.2))->∀ p,G p=none->Q (.ref p) (up G p (.lst (lB.map λ z=>D.ref z.1)))
 | _=>False
theorem Ah{K:aV}{H:av}:∀{zs:List (Addr × D)}{vs:List V},bH K H (zs.map λ z=>D.ref z.1) vs->vs=zs.map λ z=>V.ref z.1
 | [],_,h=>h
 | z::zs,_,⟨v,r,e,q,l⟩=>by subst e;rw [Ah l,show v=V.ref z.1 from q];rfl
theorem Lj{K:aV}{H:av}:∀(zs:List (Addr × D)),bH K H (zs.map λ z=>D.ref z.1) (zs.map λ z=>V.ref z.1)
 | []=>rfl
 | z::zs=>⟨_,_,rfl,rfl,Lj zs⟩
def VH(bK:X.A.units+200 < dP):j4 X (.builtin "sorted") (m4 VG):=by
 refine ⟨_,⟨VF bK⟩,λ xs vs G H az Q v a r F=>?_⟩;obtain ⟨x,u,rfl,rfl,aN,r⟩:=pd r a
 cases x with
 | ref l=>
  cases aN;obtain ⟨zs,e,ar,hz,k⟩:=r;obtain ⟨ws,aE,dK⟩:=v _ _ e;rw [Ah dK] at aE;exact ⟨l,zs,rfl,.inl (.inl aE),ar,λ z h=>(hz z h).to v,λ lB ah ax p ep=>F (.ref p) _ _ _ (Go.n7 v ep (Lj lB)) rfl (k lB ah ax p (v.none ep))⟩
 | _=>exact (show False from r).elim
def VI(K:aV):eZ:=λ x y H Q=>∃(l m:Addr)(zs ys:List (Addr × D)),x=.ref l/\y=.ref m/\d7 K H l (zs.map λ z=>V.ref z.1)/\d7 K H m (ys.map λ z=>V.ref z.1)/\(∀ z∈zs,Ae K H z)/\(∀ z∈ys,Ae K H z)/\zs.length=ys.length/\(∀ z∈zs,∀ y∈ys,z.1=y.1->z.2=y.2) ∧
 ∀ b:Bool,(b=true ↔ zs.map (·.2)=ys.map (·.2))->Q (.aJ b) H
def VJ(bK:X.A.units+200 < dP):d8 X (er .Eq) (VI X.K):=by
 intro pins s σ H x y v u Q I a7 cD h;obtain ⟨l,m,zs,ys,rfl,rfl,s1,s2,hz,bP,hlen,VK,q⟩:=h;cases a7;cases cD;obtain ⟨aw,cf,t1,_⟩:=I.list s1;obtain ⟨cF,dX,di,_⟩:=I.list s2;have aE:=Af cf;have aP:=Af dX;subst aE aP;refine SeqAt.RcAt.lists (e:=λ j=>cw (((zs.map (·.2))[j]?).getD .bc) (((ys.map (·.2))[j]?).getD .bc)) t1.isList di.isList (by simp [hlen]) (by omega) (λ j ae ag=>?_) X.prog X.w X.xe _ ⟨.aJ _,H,I,rfl,q _ ?_⟩
 ·have eT:j < zs.length:=by simpa using ae
  have j9:j < ys.length:=by simpa using ag
  obtain ⟨k1,Lh,DA,a1⟩:=hz _ (i3 eT);obtain ⟨k2,Li,um,a2⟩:=bP _ (i3 j9);simp only [f3,e8 eT,e8 j9,rx,vw,List.getElem_toArray,vr];by_cases cX:zs[j].1=ys[j].1
  ·rw [cX,VK _ (i3 eT) _ (i3 j9) cX,ob k2.data];exact SeqAt.EqAt.same _
  ·refine SeqAt.EqAt.of_refs cX ?_;rw [<- k1.VC k2];obtain ⟨VL,qy,gi,_⟩:=I.list DA;obtain ⟨VM,Lk,eu,_⟩:=I.list um;have cv:=qy.length;have eM:=Lk.length;have iw:=a1.len;have fj:=a2.len;by_cases ar:(dF zs[j].2).length=(dF ys[j].2).length
   ·have z:=SeqAt.RcAt.lists (A:=X.A.in1) (e:=gy (dF zs[j].2) (dF ys[j].2)) gi.isList eu.isList (by rw [cH,cH];omega) (by show X.A.units+1 < dP;omega) (λ i ae ag=>by
     have q:=pk I (dF zs[j].2) (dF ys[j].2) X.A.in1.in1 Lh Li VL VM (pB k1.data) (pB k2.data) a1 a2 qy Lk (by show X.A.units+1+1+cb _ < dP;rw [jC.aS k1.Ad];omega) i (by simpa using ae) (by simpa using ag)
     simpa using q)
    rw [cH,<- cv,iw,Da ar] at z;exact z
   ·rw [zU ar];exact SeqAt.RcAt.lists_lengths gi.isList eu.isList (by rw [cH,cH];simp;omega) (by show X.A.units+1 < dP;omega)
 ·rw [kA]
  have ax:(zs.map λ z=>Value.ref z.1).toArray.size=zs.length:=by simp
  constructor
  ·intro n4;refine vq (by simp [hlen]) λ i ae ag=>?_;rw [cP] at ae ag;have q:=n4 i (oE.mpr (by rw [ax];exact ae));simp only [f3,e8 ae,e8 ag,rx,vw] at q;rw [vr,vr];exact (hz _ (i3 ae)).1.eq1 _ (bP _ (i3 ag)).1 q
  ·intro e i au
   have ae:i < zs.length:=by rw [<- ax];exact oE.mp au
   simp only [<- e];rw [f3,e8 ae];exact ob (hz _ (i3 ae)).1.data
abbrev VN:h1:=λ x y G Q=>match x,y with
 | .ref l,.ref m=>∃ zs ys:List (Addr × D),G l=some (.lst (zs.map λ z=>D.ref z.1))/\G m=some (.lst (ys.map λ z=>D.ref z.1))/\(∀ z∈zs,qG G z)/\(∀ z∈ys,qG G z)/\zs.length=ys.length/\∀ b:Bool,(b=true ↔ zs.map (·.2)=ys.map (·.2))->Q (.aJ b) G
 | _,_=>False
def VO(bK:X.A.units+200 < dP):gv X (er .Eq) VN:=by
 refine ⟨_,⟨VJ bK⟩,λ x y eL ib G H az Q v aN a6 r F=>?_⟩
 cases x with
 | ref l=>
  cases y with
  | ref m=>
   cases aN;cases a6;obtain ⟨zs,ys,aE,aP,hz,bP,ar,q⟩:=r;obtain ⟨ws,g1,aX⟩:=v _ _ aE;obtain ⟨afL,g2,bj⟩:=v _ _ aP;rw [Ah aX] at g1;rw [Ah bj] at g2;refine ⟨l,m,zs,ys,rfl,rfl,.inl (.inl g1),.inl (.inl g2),λ z h=>(hz z h).to v,λ z h=>(bP z h).to v,ar,λ z ae y ag e=>?_,λ b af=>F (.aJ b) G _ H (.refl v) rfl (q b af)⟩;have gi:=(hz z ae).2;have eu:=(bP y ag).2;rw [e,eu] at gi;exact (hz z ae).1.Le (bP y ag).1 (by simpa using gi.symm)
  | _=>exact (show False from r).elim
 | _=>exact (show False from r).elim
end
end L3
namespace L2
open PySem PySem.Spec PyProof.Rows
section
variable{X:aT}
def VP(K:aV):eZ:=λ x y H Q=>∃ a vs z,x=.ref a/\d7 K H a vs/\y=.str z/\Q (.aJ false) H
def VQ(bK:X.A.units+200 < dP):d8 X (er .Eq) (VP X.K):=by
 intro pins s σ H x y v u Q I a7 cD h;obtain ⟨a,vs,z,rfl,fb,rfl,q⟩:=h;cases a7;obtain ⟨t,rfl⟩:=cD;obtain ⟨aw,cf,t1,_⟩:=I.list fb;exact SeqAt.RcAt.list_str z t t1.isList (by omega) X.prog X.w X.xe _ ⟨.aJ false,H,I,rfl,q⟩
def VR(K:aV):eZ:=λ x y H Q=>∃(p a:Addr)(zs:List Str),y=.ref p/\eb K H p (zs.map V.str)/\x=.ref a/\((∃ vs,eb K H a vs)\/∃ vs,d7 K H a vs)/\Q (.aJ false) H
theorem Ll:∀{zs:List Str}{aw:List Value},Vals (zs.map V.str) aw->∀ w∈aw,∃ z t,w=Value.str z t
 | [],_,h,w,hw=>by cases h;simp at hw
 | z::zs,_,h,w,hw=>by
  cases h with
  | cons h t=>
   obtain ⟨bR,rfl⟩:=h;rcases cB.mp hw with rfl | hw
   ·exact ⟨_,_,rfl⟩
   ·exact Ll t w hw
def VS(bK:X.A.units+200 < dP):d8 X (er .In) (VR X.K):=by
 intro pins s σ H x y v u Q I a7 cD h;obtain ⟨p,a,zs,rfl,fb,rfl,ai,q⟩:=h;cases cD;cases a7;obtain ⟨aw,r,pl,_⟩:=I.tuple fb;refine SeqAt.in_tupleAt (λ _=>false) pl (λ w hw=>?_) ⟨.aJ _,H,I,rfl,?_⟩
 ·obtain ⟨z,t,rfl⟩:=Ll r w (by simpa using hw);rcases ai with ⟨vs,h⟩ | ⟨vs,h⟩
  ·obtain ⟨its',_,w7,_⟩:=I.tuple h;exact SeqAt.EqAt.str_tuple z t w7 (by show X.A.units+1 < dP;omega)
  ·obtain ⟨its',_,w7,_⟩:=I.list h;exact SeqAt.EqAt.str_list z t w7.isList (by show X.A.units+1 < dP;omega)
 ·rw [show aw.toArray.any (λ _=>false)=false by simp];exact q
end
end L2
namespace L3
open PySem PySem.Spec L2
section
variable{X:aT}
def DB:h1:=λ x y G Q=>match x,y with
 | .ref l,.str _=>hb G l λ _=>Q (.aJ false) G
 | x,y=>r1 id x y G Q
def sb(bK:X.A.units+200 < dP):gv X (er .Eq) DB:=by
 obtain ⟨rc,j,cf⟩:=(c6 (X:=X) bK).run;refine ⟨_,⟨j.run.or (VQ bK)⟩,λ x y eL ib G H az Q v aN a6 r F=>?_⟩;unfold DB at r;split at r
 ·cases aN;cases a6;obtain ⟨ds,vs,k,s,dK⟩:=ic v r;exact .inr ⟨_,vs,_,rfl,s,rfl,F (.aJ false) G _ H (.refl v) rfl k⟩
 ·exact .inl (cf x y eL ib G H az Q v aN a6 r F)
def Lm:h1:=λ x y G Q=>match y with
 | .tup ds=>∃ zs:List Str,ds=zs.map D.str/\(match x with
  | .ref l=>hb G l λ _=>Q (.aJ false) G
  | .tup _=>Q (.aJ false) G
  | x=>j_ x=true/\Q (.aJ (m3 x ds)) G)
 | _=>False
def VT(zs:List Str):(zs.map D.str).all j_=true:=by
 rw [yC,kA];intro z _;rfl
theorem Ln{K:aV}{H:av}:∀{zs:List Str}{vs:List V},bH K H (zs.map D.str) vs->vs=zs.map V.str
 | [],_,h=>h
 | z::zs,_,⟨v,r,e,q,l⟩=>by subst e;rw [Ln l,show v=V.str z from q];rfl
def Lo(bK:X.A.units+200 < dP):gv X (er .In) Lm:=by
 obtain ⟨rc,j,cf⟩:=(tX (X:=X)).run;refine ⟨_,⟨j.run.or (VS bK)⟩,λ x y eL ib G H az Q v aN a6 r F=>?_⟩;unfold Lm at r;split at r
 ·obtain ⟨zs,rfl,r⟩:=r;obtain ⟨p,ws,rfl,fb,dK⟩:=id a6;have DC:=fb;rw [Ln dK] at DC;split at r
  ·cases aN;obtain ⟨ds,vs,k,s,_⟩:=ic v r;exact .inr ⟨p,_,zs,rfl,DC,rfl,.inr ⟨_,s⟩,F (.aJ false) G _ H (.refl v) rfl k⟩
  ·obtain ⟨a,vs,rfl,s1,_⟩:=aN;exact .inr ⟨p,a,zs,rfl,DC,rfl,.inl ⟨_,s1⟩,F (.aJ false) G _ H (.refl v) rfl r⟩
  ·exact .inl (cf x _ eL _ G H az Q v aN a6 ⟨r.1,VT zs,by simpa using r.2⟩ F)
 ·exact r.elim
end
end L3
namespace L2
open PySem PySem.Spec PyProof.Rows
section
variable{X:aT}{e st:a9}{aW:TE}{bR:lh}{pos dN:Pos}
theorem Lp:∀{xs:List V}{us:List Value},Vals xs us->Vals xs.reverse us.reverse
 | _,_,.nil=>.nil
 | _,_,.cons r t=>by
  rw [ti,ti];exact (Lp t).append (.cons r .nil)
end
section
variable{prog:cS}{w:b_}{A:cL}{E:Value->aF->Prop}{s:aF}
def VU(n:Nat):Builtin.Slice.sliceAdjust none none (-1) (n:Int)=((n:Int) - 1,-1):=by
 unfold Builtin.Slice.sliceAdjust;simp
def VV(n:Nat):Builtin.Slice.slicePlaces ((n:Int) - 1) (-1) (-1)=n:=by
 unfold Builtin.Slice.slicePlaces;simp
 try omega
def VW(xs:Array Value):((hE xs.size).filterMap λ(m:Nat)=>xs[((xs.size:Int) - 1+(m:Int) * -1).toNat]?).toArray=xs.toList.reverse.toArray:=by
 congr 1
 have e:(λ(m:Nat)=>xs[((xs.size:Int) - 1+(m:Int) * -1).toNat]?)=λ m=>xs[xs.size - 1 - m]?:=by
  funext m
  have:((xs.size:Int) - 1+(m:Int) * -1).toNat=xs.size - 1 - m:=by omega
  rw [this]
 rw [e];have h:=PySem.W.krv_range xs.size;have ag:=PySem.W.krv_all xs
 have:(hE xs.size).filterMap (λ m=>xs[xs.size - 1 - m]?)=((hE xs.size).map λ k=>xs.size - 1 - k).filterMap (xs[·]?):=by rw [List.filterMap_map];rfl
 rw [this,h,List.filterMap_reverse,ag]
theorem VX{t bq:Addr}{items:Array Value}{pC:Value}{Q:Value->aF->Prop}(bu:mz s.heap t items)(ax:s.heap.IsSliceOf bq .none .none pC)(iz:mw pC (some (-1)))
 (h:Q (.ref s.heap.objs.size) { s with heap:=s.heap.push { cls:=.type "tuple", data:=.seq items.toList.reverse.toArray } })
 (hsz:items.size<=sizeLine):aZ (a8 prog w) A (oA (.ref t) (.ref bq)) Q E s:=by
 have oY:sizeOk (.seq items.toList.reverse.toArray):=by
  show items.toList.reverse.toArray.size<=sizeLine;rw [cH,i4,hF];omega
 obtain ⟨os,lU,tM,f6⟩:=id ax
 have vT:s.TypeIs (.ref bq) "slice":=⟨os,lU,tM⟩
 unfold oA
 try with_reducible refine jm ?_
 first | refine aK (bC ?_) | skip
 refine aK (BD bu.typeIs (by decide) ?_);refine aK (wpAny_callSpecial?_slot (name:=Str.ofString "__getitem__") bu.typeIs slot_tuple_getitem (nE slot_tuple_getitem bu.typeIs BP ?_ (BQ _ _)));refine (show aZ _ _ (Builtin.Tuple.tupleItemsOf (.ref t) >>= _) _ _ s from aK (BR bu (aK (q9 vT ?_))));rw [if_pos (by decide)]
 have VY:∀(lR:Int × Int × Nat->aF->Prop)(gW:Value->aF->Prop)(lA:cL),lR ((items.size:Int) - 1,-1,items.size) s->aZ (a8 prog w) lA (Builtin.Slice.sliceApplied (.ref bq) (pure (items.size:Int))) lR gW s:=λ lR gW lA q=>by
  unfold Builtin.Slice.sliceApplied Builtin.Slice.sliceFields;refine aK (aK (hQ lU f6 (x:=.none) rfl (aK (hQ lU f6 (x:=.none) rfl (aK (hQ lU f6 (x:=pC) rfl (bC ?_)))))));refine aK (dD.vS iz ?_);refine (show aZ _ _ (if ((-1:Int)==0)=true then _ else _) _ _ s from ?_);rw [if_neg (by decide)];refine aK (dD.vS .none (aK (dD.vS .none (aK (bC ?_)))));show aZ _ _ (match Builtin.Slice.sliceAdjust none none (-1) (items.size:Int) with | (lo,au)=>pure (lo,(-1:Int),Builtin.Slice.slicePlaces lo au (-1))) _ _ s;rw [VU];show aZ _ _ (pure ((items.size:Int) - 1,(-1:Int),Builtin.Slice.slicePlaces ((items.size:Int) - 1) (-1) (-1))) _ _ s;rw [VV];exact bC q
 refine aK (VY _ _ _ ?_);refine (show aZ _ _ (if ((((items.size:Int) - 1)==0&&(-1:Int)==1&&items.size==items.size)=true) then _ else _) _ _ s from ?_);rw [if_neg (by simp),VW]
 first
  | exact aK (m:=Builtin.Tuple.tupleExact _) (kx (bC ⟨_,rfl,bC h⟩) oY)
  | exact aK (m:=Builtin.Tuple.tupleExact _) (kx (aK (bC (bC ⟨_,rfl,bC h⟩))) oY)
  | exact aK (aK (m:=Builtin.Tuple.tupleExact _) (kx (bC (bC ⟨_,rfl,bC h⟩)) oY))
  | exact aK (aK (m:=Builtin.Tuple.tupleExact _) (kx (bC ⟨_,rfl,bC h⟩) oY))
end
section
variable{X:aT}{e st:a9}{aW:TE}{bR:lh}{pos dN:Pos}
def VZ(K:aV)(aW:TE)(bR:lh):TE:=λ σ H Q=>aW σ H λ x H1=>bR σ H1 λ k a3=>k=some (-1)/\∃(a:Addr)(xs:List V),x=.ref a/\eb K a3 a xs/\∀ p,a3 p=none->Q (.ref p) (upd a3 p (.tup xs.reverse))
def V0(he:b5 X e aW)(aD:qp X (some st) bR):b5 X (.Subscript e (.Slice none none (some st) dN) pos) (VZ X.K aW bR):=by
 intro pins s σ H Q I h;refine yq (b2 (he pins s σ H _ I h) λ v s1 ⟨x,H1,a4,aX,aH⟩=>?_);refine wpAny_Slice ?_;rw [yl];refine bC (bC ?_);refine b2 (aD pins s1 σ H1 _ a4 aH) λ pC s3 ⟨k,dy,ei,iz,aE,a,xs,aP,ai,dZ⟩=>?_;subst aE aP;cases aX;have il:Inv X pins σ dy { s3 with heap:=s3.heap.push { cls:=.type "slice", data:=.fields #[.none,.none,pC] } }:=ei.kept (t':=s3.toks) λ b dv q=>dQ _ q;obtain ⟨aw,r,bu,hz⟩:=il.tuple ai;have hlen:=r.length;show aZ (a8 X.prog X.w) X.A (yp e (.Slice none none (some st) dN) (.ref a) (.ref s3.heap.objs.size)) (gg X pins σ Q) X.xe { s3 with heap:=s3.heap.push { cls:=.type "slice", data:=.fields #[.none,.none,pC] } };refine tail_any (ops:=[.ref a,.ref s3.heap.objs.size]) bu.typeIs slot_tuple_getitem.lookup ?_ (by with_unfolding_all rfl);refine VX bu (Heap.IsSliceOf.new ..) iz ?_ (by rw [cH];omega);refine ⟨.ref _,_,il.laid (t':=s3.toks) (o:=.tup xs.reverse) (λ b dv q=>dQ _ q) (b4 _) ?_,rfl,dZ _ (il.bU.fresh (b4 _))⟩;exact ⟨by rw [i4];exact hz,aw.reverse,Lp r,IsTup.new _ _⟩
end
end L2
namespace L3
open PySem PySem.Spec L2
section
variable{X:aT}{e st:a9}{aW:cm}{bR:o8}{pos dN:Pos}
abbrev V1(aW:cm)(bR:o8):cm:=λ ρ G Q=>aW ρ G λ x aB=>bR ρ aB λ k aY=>k=some (-1)/\match x with
 | .tup ds=>Q (.tup ds.reverse) aY
 | _=>False
def V2(he:b7 X e aW)(aD:rR X (some st) bR):b7 X (.Subscript e (.Slice none none (some st) dN) pos) (V1 aW bR):=by
 obtain ⟨ce,j8,re⟩:=he.run;obtain ⟨DD,DE,DF⟩:=aD.run;refine ⟨_,⟨V0 j8.run DE.run⟩,λ ρ G az σ H Q B q F=>re ρ G _ σ H _ B q λ x aB v H1 g1 aN aH=>DF ρ aB _ σ H1 _ (B.go g1) aH λ k aY a3 g2 ⟨aE,bl⟩=>?_⟩
 cases x with
 | tup ds=>
  obtain ⟨a,vs,rfl,s,dK⟩:=aN.mono g2.tup;refine ⟨aE,a,vs,rfl,s,λ p ah=>?_⟩;have g3:=Go.mV (G:=aY) (o:=.tup vs.reverse) g2.ck ah;exact F (.tup ds.reverse) _ _ _ ((g1.trans g2).trans g3) ⟨p,vs.reverse,rfl,.inl (.inl eF),dK.reverse.mono g3.tup⟩ bl
 | _=>exact (show False from bl).elim
end
end L3
namespace L2
open PySem PySem.Spec PyProof.Rows
def DG(K:aV)(a:Addr)(n:Nat):kJ:=
 ⟨λ i H=>i < n/\∃ xs,eb K H a xs/\xs.length=n,λ i H x aj=>aj=H/\∀ xs,eb K H a xs->xs[n - 1 - i]?=some x,λ i _=>n<=i⟩
def V3{P:cS}{w:b_}{K:aV}{bp:a9}(a it:Addr)(n:Nat):Turn P w K bp (DG K a n) [it] it (λ i h=>i<=n/\mU.tQ h it a ((n:Int) - 1 - (i:Int))) where
 mem:=by simp
 obj:=λ i h st b af=>by
  have e:b=it:=by simpa using af
  subst e;exact ⟨_,st.2,λ v z=>by cases (show Data.fields _=Data.cell v from z)⟩
 keep:=λ i h h' st k=>⟨st.1,k it (by simp) _ st.2⟩
 item:=by
  intro X eJ hw d5 am i pins s σ H E I hf st a_;subst eJ hw d5;obtain ⟨au,xs,aM,ai⟩:=a_;obtain ⟨_,st⟩:=st;obtain ⟨aw,a5,p,hz⟩:=I.tuple aM
  have eG:n - 1 - i < xs.length:=by omega
  have Lq:xs[n - 1 - i]?=some xs[n - 1 - i]:=e8 eG;obtain ⟨u,bK,c1⟩:=a5.get Lq;obtain ⟨f0,f1,f2,dn,f4,eK⟩:=hf it (by simp);have aA:=oW;rw [show (n:Int) - 1 - (i:Int)=((n - 1 - i:Nat):Int) by omega] at st;refine mU.nextT st p (x:=u) (by simpa using bK) (by omega) λ h' bR gH hk=>?_;have a4:Inv X pins σ H { s with heap:=h',toks:=bR }:=I.turned (λ b o af e=>(hk.2 b af).trans e) f0 f1 dn f4 eK;refine ⟨u,rfl,vJ (s:={ s with heap:=h',toks:=bR }) gH rfl rfl (by decide) ⟨_,H,a4,c1,⟨rfl,λ ys bP=>by rw [I.y3 bP aM];exact Lq⟩,⟨au,?_⟩,λ b af=>(hf b af).1⟩⟩;rw [show (n:Int) - 1 - ((i+1:Nat):Int)=((n - 1 - i:Nat):Int) - 1 by omega];exact gH
 done:=by
  intro X eJ hw d5 am i pins s σ H E I hf st a_;subst eJ hw d5;have afM:n<=i:=a_;obtain ⟨au,st⟩:=st;obtain ⟨f0,f1,f2,dn,f4,eK⟩:=hf it (by simp)
  exact mU.Tv (I.ok.hd am) st (by omega) λ h' hl=>⟨rfl,I.turned (t':=s.toks) (λ b o af e=>hl b o af e) f0 f1 dn f4 eK⟩
 self:=λ _ _ _ _ _ st h=>mU.JL st.2 h
section
variable{X:aT}
def V4(K:aV)(eN:TE):TI:=λ σ H R=>eN σ H λ x H1=>∃ a xs,x=.ref a/\eb K H1 a xs/\R (DG K a xs.length) H1
def V5{bp e:a9}{eN:TE}{p pos:Pos}(a_:ew X "reversed")(hm:X.mg "reversed" = none)(ar:b5 X e eN)(ax:gu e=true):nX X bp (.Call (.Name "reversed" p) [e] [] pos) (V4 X.K eN):=by
 intro pins s σ H R I h;refine b2 (TA (R:=λ a xs H1=>R (DG X.K a xs.length) H1) a_ hm ar ax I h) λ v s1 ae=>?_;obtain ⟨a,it,xs,aw,H1,rfl,a4,hit,bu,cX,a5,hz,_,fp,q⟩:=ae;have w8:=a5.length;refine mU.JL hit ⟨it,[it],_,_,H1,rfl,a4,V3 a it xs.length,?_,λ b af=>?_,q⟩
 ·rw [cH,<- w8] at hit;exact ⟨fi _,by simpa using hit⟩
 ·have e:b=it:=by simpa using af
  subst e;exact fp
end
end L2
namespace L3
open PySem PySem.Spec L2
section
variable{X:aT}{bp a:a9}{bb:cm}{p pos:Pos}
abbrev V6(bb:cm):kR:=λ ρ G R=>bb ρ G λ x aB=>match x with
 | .tup ds=>R ⟨ds.reverse,λ _=>True⟩ aB
 | _=>False
def V7(a_:ew X "reversed")(hm:X.mg "reversed" = none)(ay:b7 X a bb)(ax:gu a=true:=by rfl):oa X bp (.Call (.Name "reversed" p) [a] [] pos) (V6 bb):=by
 obtain ⟨ca,cn,cp⟩:=ay.run;refine ⟨_,⟨V5 a_ hm cn.run ax⟩,λ ρ G l1 σ H R B q F=>cp ρ G _ σ H _ B q λ x aB v H1 g1 aN aH=>?_⟩
 cases x with
 | tup ds=>
  obtain ⟨l,vs,rfl,fb,r⟩:=aN;refine ⟨l,vs,rfl,fb,F ⟨ds.reverse,λ _=>True⟩ _ aB H1 g1 (λ aY a3 g2 _=>?_) aH⟩;have um:=g2.tup.hq _ _ fb;have bj:=r.mono g2.tup;have c3:=r.len;refine ⟨λ i d ii=>?_,λ i au=>?_⟩
  ·replace ii:ds.reverse[i]?=some d:=ii
   have au:i < ds.length:=by
    rcases yH i ds.length with c | c
    ·exact c
    ·rw [yB (by rw [i4];exact c)] at ii;cases ii
   rw [List.getElem?_reverse au] at ii;obtain ⟨w,hw,pe⟩:=bj.get ii;refine ⟨⟨by omega,vs,um,rfl⟩,λ x aj y=>?_⟩;obtain ⟨rfl,y⟩:=y;have z:=y vs um;rw [c3,hw] at z;cases z;exact ⟨.refl g2.ck,pe⟩
  ·have tR:ds.reverse.length<=i:=au;rw [i4] at tR;show vs.length<=i;omega
 | _=>exact (show False from aH).elim
end
def hy:List D->Bool
 | a::b::r=>(cg b a==some false)&&hy (b::r)
 | _=>true
inductive e2:D->Prop
 | is (n:Int):e2 (.tup [.str "is", .int n])
 | some:e2 (.tup [.str "some"])
 | both {a b:D}:e2 a->e2 b->iP a=true->iP b=true->e2 (.tup [.str "both", a,b])
 | left {a:D}:e2 a->e2 (.tup [.str "left", a])
 | right {a:D}:e2 a->e2 (.tup [.str "right", a])
 | way {ds:List D} {k:D}:(∀ d∈ds,e2 d)->hy ds=true->e2 k->e2 (.tup [.str "way", .tup ds,k])
theorem e2.l9{d:D}(h:e2 d):bM d:=by
 induction h with
 | is n=>exact .is n
 | some=>exact .some
 | both _ _ _ _ ae ag=>exact .both ae ag
 | left _ h=>exact .left h
 | right _ h=>exact .right h
 | way _ _ _ ae ag=>exact .way ae ag
inductive h2:D->Prop
 | is (n:Int):h2 (.tup [.str "is", .int n])
 | some:h2 (.tup [.str "some"])
 | both {a b:D}:h2 a->h2 b->iP a=true->iP b=true->h2 (.tup [.str "both", a,b])
 | left {a:D}:h2 a->h2 (.tup [.str "left", a])
 | right {a:D}:h2 a->h2 (.tup [.str "right", a])
 | way {ds:List D} {k:D}:(∀ d∈ds,h2 d)->h2 k->h2 (.tup [.str "way", .tup ds,k])
theorem h2.l9{d:D}(h:h2 d):bM d:=by
 induction h with
 | is n=>exact .is n
 | some=>exact .some
 | both _ _ _ _ ae ag=>exact .both ae ag
 | left _ h=>exact .left h
 | right _ h=>exact .right h
 | way _ _ ae ag=>exact .way ae ag
inductive fk:D->List D->List (List D)->Prop
 | is (n:Int):fk (.tup [.str "is", .int n]) [] []
 | some:fk (.tup [.str "some"]) [] []
 | both {a b:D}:iP a=true->iP b=true->fk (.tup [.str "both", a,b]) [a,b] []
 | left (a:D):fk (.tup [.str "left", a]) [a] []
 | right (a:D):fk (.tup [.str "right", a]) [a] []
 | way (ds:List D) (k:D):fk (.tup [.str "way", .tup ds,k]) (ds++[k]) [ds]
theorem fk.iS{d:D}{is:List D}{bs:List (List D)}(h:fk d is bs):e2 d ↔ (∀ x∈is,e2 x)/\∀ b∈bs,hy b=true:=by
 cases h with
 | is n=>exact ⟨λ _=>by simp,λ _=>.is n⟩
 | some=>exact ⟨λ _=>by simp,λ _=>.some⟩
 | both d9 cZ=>exact ⟨λ z=>by cases z with | both ae ag _ _=>simp [ae,ag],λ z=>.both (z.1 _ (by simp)) (z.1 _ (by simp)) d9 cZ⟩
 | left a=>exact ⟨λ z=>by cases z with | left h=>simp [h],λ z=>.left (z.1 _ (by simp))⟩
 | right a=>exact ⟨λ z=>by cases z with | right h=>simp [h],λ z=>.right (z.1 _ (by simp))⟩
 | way ds k=>
  refine ⟨λ z=>by cases z with | way ae ag aO=>exact ⟨λ x ai=>by rcases fH.mp ai with ai | ai;exact ae x ai;simp at ai;subst ai;exact aO,by simpa using ag⟩,λ z=>.way (λ d hd=>z.1 d (jP _ hd)) (z.2 _ (by simp)) (z.1 _ (by simp))⟩
theorem fk.fr{d:D}{is:List D}{bs:List (List D)}(h:fk d is bs)(au:∀ x∈is,h2 x):h2 d/\∀ b∈bs,∀ x∈b,h2 x:=by
 cases h with
 | is n=>exact ⟨.is n,by simp⟩
 | some=>exact ⟨.some,by simp⟩
 | both d9 cZ=>exact ⟨.both (au _ (by simp)) (au _ (by simp)) d9 cZ,by simp⟩
 | left a=>exact ⟨.left (au _ (by simp)),by simp⟩
 | right a=>exact ⟨.right (au _ (by simp)),by simp⟩
 | way ds k=>exact ⟨.way (λ d hd=>au d (jP _ hd)) (au _ (by simp)),λ b af x ai=>by simp at af;subst af;exact au x (jP _ ai)⟩
theorem e2.hf{d:D}(h:e2 d):∃ is bs,fk d is bs:=by
 cases h with
 | is n=>exact ⟨_,_,.is n⟩
 | some=>exact ⟨_,_,.some⟩
 | both _ _ d9 cZ=>exact ⟨_,_,.both d9 cZ⟩
 | left _=>exact ⟨_,_,.left _⟩
 | right _=>exact ⟨_,_,.right _⟩
 | way _ _ _=>exact ⟨_,_,.way _ _⟩
inductive eO(L:Addr->Prop):D->Prop
 | int (n:Int):eO L (.int n)
 | str (z:Str):eO L (.str z)
 | bc:eO L .bc
 | aJ (b:Bool):eO L (.aJ b)
 | ref {a:Addr} (h:L a):eO L (.ref a)
 | tup {ds:List D} (h:∀ d∈ds,eO L d):eO L (.tup ds)
theorem eO.mono{L M:Addr->Prop}(h:∀ a,L a->M a){d:D}(t:eO L d):eO M d:=by
 induction t with
 | int n=>exact .int n
 | str z=>exact .str z
 | bc=>exact .bc
 | aJ b=>exact .aJ b
 | ref q=>exact .ref (h _ q)
 | tup _ bN=>exact .tup bN
theorem eO.items{L:Addr->Prop}{ds:List D}(h:eO L (.tup ds)):∀ d∈ds,eO L d:=by cases h with | tup h=>exact h
abbrev oh(G:aL)(a:Addr):Prop:=∃ ds,G a=some (.lst ds)
mutual
def dc:D->Nat
 | .tup ds=>1+cR ds
 | _=>1
def cR:List D->Nat
 | []=>0
 | d::ds=>dc d+cR ds
end
mutual
def kf:D->Nat
 | .tup ds=>max ds.length (kU ds)
 | _=>0
def kU:List D->Nat
 | []=>0
 | d::ds=>max (kf d) (kU ds)
end
theorem Ai:∀ xs ys:List D,cR (xs++ys)=cR xs+cR ys
 | [],ys=>by simp [cR]
 | x::xs,ys=>by rw [de,cR,cR,Ai xs ys,qe]
theorem Aj{d:D}:∀{ds:List D},d∈ds->dc d<=cR ds
 | [],h=>by simp at h
 | e::ds,h=>by
  rw [cR];rcases cB.mp h with rfl | h
  ·omega
  ·have:=Aj h;omega
theorem Lr{d:D}:∀{ds:List D},d∈ds->kf d<=kU ds
 | [],h=>by simp at h
 | e::ds,h=>by
  rw [kU];rcases cB.mp h with rfl | h
  ·omega
  ·have:=Lr h;omega
theorem Ls:∀ d:D,1<=dc d
 | .tup ds=>by rw [dc];omega
 | .int _=>b4 _
 | .str _=>b4 _
 | .bc=>b4 _
 | .aJ _=>b4 _
 | .ref _=>b4 _
 | .ty _=>b4 _
 | .ej _=>b4 _
theorem Ak:∀ ds:List D,ds.length<=cR ds
 | []=>fi _
 | d::ds=>by have:=Ak ds;have:=Ls d;rw [cR,be];omega
def V8{xs ys:List D}(h:xs.Perm ys):cR xs=cR ys:=by
 induction h with
 | nil=>rfl
 | cons _ _ bN=>rw [cR,cR,bN]
 | swap _ _ _=>rw [cR,cR,cR,cR];omega
 | trans _ _ ae ag=>rw [ae,ag]
theorem Lu{n:Nat}:∀{ds:List D},(∀ d∈ds,kf d<=n)->kU ds<=n
 | [],_=>fi _
 | d::ds,h=>by
  have ae:=h d (b3 ..);have ag:=Lu λ e he=>h e (cO _ he);rw [kU];omega
structure h3(s p w:Nat)(d:D):Prop where
 h_:dc d<=s
 aS:d.aS<=p
 DH:kf d<=w
theorem h3.mono{s p w aQ dO hH:Nat}{d:D}(h:h3 s p w d)(ae:s<=aQ)(ag:p<=dO)(aO:w<=hH):h3 aQ dO hH d:=⟨hT h.h_ ae,hT h.aS ag,hT h.DH aO⟩
theorem h3.item{s p w:Nat}{ds:List D}(h:h3 s p w (.tup ds)){d:D}(hd:d∈ds):h3 (s - 1) (p - 1) w d:=by
 have ae:=h.h_;have ag:=h.aS;have aO:=h.DH;rw [dc] at ae;rw [D.aS] at ag;rw [kf] at aO;have:=Aj hd;have:=t9 hd;have:=Lr hd;exact ⟨by omega,by omega,by omega⟩
def Al{ds:List D}(h:kd ds):hy ds=true:=by
 induction ds with
 | nil=>rfl
 | cons a r bN=>
  cases r with
  | nil=>rfl
  | cons b r=>
   rw [hy,bN (List.Pairwise.of_cons h),(yE.mp h).1 b (b3 ..)];rfl
theorem Lv{a:D}:∀{r:List D},bM a->(∀ d∈r,bM d)->hy (a::r)=true->∀ d∈r,cg d a=some false
 | [],_,_,_,d,hd=>by simp at hd
 | b::r,ay,ak,h,d,hd=>by
  rw [hy,eI,beq_iff_eq] at h;have l5:=ak b (b3 ..);rcases cB.mp hd with rfl | hd
  ·exact h.1
  ·have iS:=ak d (cO _ hd);have ag:=Lv l5 (λ e he=>ak e (cO _ he)) h.2 d hd;obtain ⟨v,bJ⟩:=oH.mp (iS.lt ay)
   cases v with
   | false=>exact bJ
   | true=>
    rcases l5.uf d iS with e | e | e
    ·subst e;rw [h.1] at bJ;cases bJ
    ·have z:=Dv l5 d a iS ay e bJ;rw [h.1] at z;cases z
    ·rw [ag] at e;cases e
theorem Lw:∀{ds:List D},(∀ d∈ds,bM d)->hy ds=true->kd ds
 | [],_,_=>List.Pairwise.nil
 | a::r,aD,h=>by
  have ak:∀ d∈r,bM d:=λ d hd=>aD d (cO _ hd);refine yE.mpr ⟨Lv (aD a (b3 ..)) ak h,Lw ak ?_⟩
  cases r with
  | nil=>rfl
  | cons b r=>rw [hy,eI] at h;exact h.2
def V9{a b:D}(ay:bM a)(af:bM b)(ae:cg a b=some false)(ag:cg b a=some false):a=b:=by
 rcases ay.uf b af with h | h | h
 ·exact h
 ·rw [ae] at h;cases h
 ·rw [ag] at h;cases h
theorem Lx:∀{xs ys:List D},(∀ d∈xs,bM d)->xs.Perm ys->kd xs->kd ys->xs=ys
 | [],ys,_,ah,_,_=>(List.perm_nil.mp ah.symm).symm
 | x::xs,[],_,ah,_,_=>absurd (List.perm_nil.mp ah) (by simp)
 | x::xs,y::ys,aD,ah,ae,ag=>by
  have V_:=aD x (b3 ..);have Wa:bM y:=aD y (ah.mem_iff.mpr (b3 ..))
  have e:x=y:=by
   have eg:x∈y::ys:=ah.mem_iff.mp (b3 ..);have eh:y∈x::xs:=ah.mem_iff.mpr (b3 ..);rcases cB.mp eg with h | h
   ·exact h
   ·rcases cB.mp eh with g | g
    ·exact g.symm
    ·exact V9 V_ Wa ((yE.mp ag).1 x h) ((yE.mp ae).1 y g)
  subst e;rw [Lx (λ d hd=>aD d (cO _ hd)) (List.Perm.cons_inv ah) (List.Pairwise.of_cons ae) (List.Pairwise.of_cons ag)]
def Wb{xs ys:List D}(aD:∀ d∈xs,bM d)(ah:xs.Perm ys)(ax:kd ys):xs=ys ↔ hy xs=true:=
 ⟨λ e=>by rw [e];exact Al ax,λ h=>Lx aD ah (Lw aD h) ax⟩
def DI:fe:=λ ds G Q=>∃ d:D,ds=[d]/\eO (oh G) d/\∀ b:Bool,(b=true ↔ ∃ n,d=.int n)->Q (.aJ b) G
def DJ:fe:=λ ds G Q=>∃ d:D,ds=[d]/\eO (oh G) d/\Q (.aJ (iP d)) G
def DK:fe:=λ ds G Q=>∃ d:D,ds=[d]/\eO (oh G) d/\∀ b:Bool,(b=true ↔ ∃ is bs,fk d is bs)->Q (.aJ b) G
def DL:fe:=λ ds G Q=>∃(d:D)(is:List D)(bs:List (List D)),ds=[d]/\fk d is bs/\dc d<=100000/\Q (.tup is) G
def DN:fe:=λ ds G Q=>∃ d:D,ds=[d]/\bM d/\dc d<=49000/\∀ l,G l=none->Q (.ref l) (up G l (.lst (dF d)))
def DO:fe:=λ ds G Q=>∃ es:List D,ds=[.tup es]/\(∀ d∈es,bM d/\dc d<=49000)/\es.length < 64/\Q (.aJ (hy es)) G
def DP:fe:=λ ds G Q=>∃ d:D,ds=[d]/\eO (oh G) d/\h3 49000 150 63 d/\∀ b:Bool,(b=true ↔ e2 d)->Q (.aJ b) G
def e5(a:Addr)(G ap:aL):Prop:=∃ bV,eH a G bV/\Sub bV ap
theorem fk.inv{d:D}{is:List D}{bs:List (List D)}(h:fk d is bs):∀{z:Str}{r:List D},d=.tup (.str z::r)->(z = "is"/\(∃ n,r=[.int n]))\/(z = "some"/\r=[])\/(z = "both"/\∃ a b,r=[a,b]/\iP a=true/\iP b=true)\/((z = "left"\/z = "right")/\∃ a,r=[a])\/(z = "way"/\∃ ds k,r=[.tup ds,k]):=by
 intro z r e
 cases h with
 | is n=>cases e;exact .inl ⟨rfl,_,rfl⟩
 | some=>cases e;exact .inr (.inl ⟨rfl,rfl⟩)
 | both d9 cZ=>cases e;exact .inr (.inr (.inl ⟨rfl,_,_,rfl,d9,cZ⟩))
 | left a=>cases e;exact .inr (.inr (.inr (.inl ⟨.inl rfl,_,rfl⟩)))
 | right a=>cases e;exact .inr (.inr (.inr (.inl ⟨.inr rfl,_,rfl⟩)))
 | way ds k=>cases e;exact .inr (.inr (.inr (.inr ⟨rfl,_,_,rfl⟩)))
def Am{r:List D}:(∃ is bs,fk (.tup (.str "is"::r)) is bs) ↔ ∃ n,r=[.int n]:=by
 constructor
 ·rintro ⟨_,_,h⟩;rcases h.inv rfl with ⟨_,h⟩ | ⟨e,_⟩ | ⟨e,_⟩ | ⟨e | e,_⟩ | ⟨e,_⟩<;>first | exact h | exact absurd e (by decide)
 ·rintro ⟨n,rfl⟩;exact ⟨_,_,.is n⟩
def Wc{r:List D}:(∃ is bs,fk (.tup (.str "some"::r)) is bs) ↔ r=[]:=by
 constructor
 ·rintro ⟨_,_,h⟩;rcases h.inv rfl with ⟨e,_⟩ | ⟨_,h⟩ | ⟨e,_⟩ | ⟨e | e,_⟩ | ⟨e,_⟩<;>first | exact h | exact absurd e (by decide)
 ·rintro rfl;exact ⟨_,_,.some⟩
def uo{r:List D}:(∃ is bs,fk (.tup (.str "both"::r)) is bs) ↔ ∃ a b,r=[a,b]/\iP a=true/\iP b=true:=by
 constructor
 ·rintro ⟨_,_,h⟩;rcases h.inv rfl with ⟨e,_⟩ | ⟨e,_⟩ | ⟨_,h⟩ | ⟨e | e,_⟩ | ⟨e,_⟩<;>first | exact h | exact absurd e (by decide)
 ·rintro ⟨a,b,rfl,d9,cZ⟩;exact ⟨_,_,.both d9 cZ⟩
def w9{r:List D}:(∃ is bs,fk (.tup (.str "way"::r)) is bs) ↔ ∃ ds k,r=[.tup ds,k]:=by
 constructor
 ·rintro ⟨_,_,h⟩;rcases h.inv rfl with ⟨e,_⟩ | ⟨e,_⟩ | ⟨e,_⟩ | ⟨e | e,_⟩ | ⟨_,h⟩<;>first | exact h | exact absurd e (by decide)
 ·rintro ⟨a,b,rfl⟩;exact ⟨_,_,.way _ _⟩
def Wd{z:Str}{r:List D}(ae:z≠"is")(ag:z≠"some")(aO:z≠"way")(bX:z≠"both"):(∃ is bs,fk (.tup (.str z::r)) is bs) ↔ (z = "left"\/z = "right")/\∃ a,r=[a]:=by
 constructor
 ·rintro ⟨_,_,h⟩;rcases h.inv rfl with ⟨e,_⟩ | ⟨e,_⟩ | ⟨e,_⟩ | h | ⟨e,_⟩
  ·exact absurd e ae
  ·exact absurd e ag
  ·exact absurd e bX
  ·exact h
  ·exact absurd e aO
 ·rintro ⟨rfl | rfl,a,rfl⟩
  ·exact ⟨_,_,.left a⟩
  ·exact ⟨_,_,.right a⟩
def We{d:D}{is:List D}{bs:List (List D)}(h:fk d is bs):∃ z r,d=.tup (.str z::r):=by cases h<;>exact ⟨_,_,rfl⟩
def Wf{d:D}(h:∀ z r,d≠.tup (.str z::r)):¬ ∃ is bs,fk d is bs:=λ⟨_,_,f⟩=>by
 obtain ⟨z,r,e⟩:=We f;exact h z r e
def Ly(z:Str):m3 (.str z) [.str "left", .str "right"]=(z=="left"||z=="right"):=by
 have e:∀ a b:Str,(a==b)=(b==a):=λ a b=>by rw [tt,beq_iff_eq,beq_iff_eq];exact eq_comm
 simp only [m3,rm,List.any_nil,wx,yL];rw [e "left" z,e "right" z]
mutual
def ws:D->Nat
 | .tup ds=>2+eV ds+ds.length
 | _=>1
def eV:List D->Nat
 | []=>0
 | d::ds=>ws d+eV ds
end
theorem Lz:∀ xs ys:List D,eV (xs++ys)=eV xs+eV ys
 | [],ys=>by simp [eV]
 | x::xs,ys=>by rw [de,eV,eV,Lz xs ys,qe]
mutual
theorem LA:∀ d:D,ws d+1<=4 * dc d
 | .tup ds=>by rw [ws,dc];have:=LB ds;omega
 | .int _=>by simp [ws,dc]
 | .str _=>by simp [ws,dc]
 | .bc=>by simp [ws,dc]
 | .aJ _=>by simp [ws,dc]
 | .ref _=>by simp [ws,dc]
 | .ty _=>by simp [ws,dc]
 | .ej _=>by simp [ws,dc]
theorem LB:∀ ds:List D,eV ds+ds.length<=4 * cR ds
 | []=>by simp [eV,cR]
 | d::ds=>by rw [eV,cR,be];have:=LA d;have:=LB ds;omega
end
def LC(d:D):1<=ws d:=by cases d<;>simp [ws]<;>omega
theorem An:∀ ds:List D,ds.length<=eV ds
 | []=>fi _
 | d::ds=>by have:=An ds;have:=LC d;rw [eV,be];omega
mutual
theorem Ao:∀ d:D,(dF d).length<=ws d
 | .tup ds=>by rw [dF,ws];have:=Wg ds;omega
 | .int _=>by simp [ws,dF]
 | .str _=>by simp [ws,dF]
 | .bc=>by simp [ws,dF]
 | .aJ _=>by simp [ws,dF]
 | .ref _=>by simp [ws,dF]
 | .ty _=>by simp [ws,dF]
 | .ej _=>by simp [ws,dF]
theorem Wg:∀ ds:List D,(l7 ds).length<=1+eV ds+ds.length
 | []=>by simp [l7,eV]
 | d::ds=>by
  have ae:=Ao d;have ag:=LD ds;have aO:=LF ds;have bX:=LC d;rw [l7,eV,be];split<;>simp only [be,cI]<;>omega
theorem LD:∀ ds:List D,(fF ds).length<=eV ds
 | []=>by simp [fF]
 | d::ds=>by rw [fF,eV,cI];have:=Ao d;have:=LD ds;omega
theorem LF:∀ ds:List D,(hx ds).length<=1+eV ds+ds.length
 | []=>by simp [hx,eV]
 | d::ds=>by rw [hx,eV,be,cI,be];have:=Ao d;have:=LF ds;omega
end
theorem LG:∀ xs ys:List D,fF (xs++ys)=fF xs++fF ys
 | [],ys=>by simp [fF]
 | x::xs,ys=>by rw [de,fF,fF,LG xs ys,c_]
abbrev oi(ds:List D):List D:=ds.flatMap λ d=>[.int 1,d]
theorem LH(ps:List D):∀ ds:List D,fF (oi ds++.int 0::ps)=hx ds++fF ps
 | []=>by simp [oi,fF,dF,hx]
 | d::ds=>by
  have:=LH ps ds;simp only [oi,List.flatMap_cons,de,h7,fF,dF,hx,c_] at this ⊢;rw [this]
theorem LI(ps:List D):∀ ds:List D,eV (oi ds++.int 0::ps)=1+eV ds+ds.length+eV ps
 | []=>by simp [oi,eV,ws]
 | d::ds=>by
  have:=LI ps ds;simp only [oi,List.flatMap_cons,de,h7,eV,ws,be] at this ⊢;omega
def Wh(ds:List D):(oi ds).reverse=ds.reverse.flatMap λ d=>[d,.int 1]:=by
 induction ds with
 | nil=>rfl
 | cons d ds bN=>
  have e:oi (d::ds)=[.int 1,d]++oi ds:=rfl;rw [e,List.reverse_append,bN,show (d::ds).reverse=ds.reverse++[d] from ti,List.flatMap_append];rfl
theorem LJ:∀ xs:List D,(xs.flatMap λ x=>[x,D.int 1]).length=2 * xs.length
 | []=>rfl
 | x::xs=>by rw [List.flatMap_cons,cI,LJ xs];simp;omega
inductive pD:D->Prop
 | k {d:D}:bM d->pD d
 | ff {ds:List D}:(∀ d∈ds,bM d)->pD (.tup ds)
 | int (n:Int):pD (.int n)
 | str (z:Str):pD (.str z)
theorem bM.Wi{d:D}(h:bM d):∃ z r,d=.tup (.str z::r)/\∀ x∈r,pD x:=by
 cases h with
 | is n=>exact ⟨_,_,rfl,λ x ai=>by simp at ai;subst ai;exact .int _⟩
 | some=>exact ⟨_,_,rfl,by simp⟩
 | both ae ag=>exact ⟨_,_,rfl,λ x ai=>by simp at ai;rcases ai with rfl | rfl;exact .k ae;exact .k ag⟩
 | left ae=>exact ⟨_,_,rfl,λ x ai=>by simp at ai;subst ai;exact .k ae⟩
 | right ae=>exact ⟨_,_,rfl,λ x ai=>by simp at ai;subst ai;exact .k ae⟩
 | way ae ag=>exact ⟨_,_,rfl,λ x ai=>by simp at ai;rcases ai with rfl | rfl;exact .ff ae;exact .k ag⟩
theorem fk.h_{d:D}{is:List D}{bs:List (List D)}(h:fk d is bs):cR is < dc d/\∀ b∈bs,cR b < dc d/\b.length<=kf d:=by
 cases h with
 | way ds k=>
  refine ⟨by simp only [Ai,cR,dc];omega,λ b af=>?_⟩;simp at af;subst af;exact ⟨by simp only [cR,dc];omega,by simp only [kf,kU];omega⟩
 | _=>exact ⟨by simp only [cR,dc];omega,by simp⟩
theorem fk.mem{d:D}{is:List D}{bs:List (List D)}(h:fk d is bs){L:Addr->Prop}(t:eO L d){s p w:Nat}(b:h3 s p w d):∀ x∈is,eO L x/\h3 s p w x:=by
 have it:∀ ds:List D,eO L (.tup ds)->h3 s p w (.tup ds)->∀ x∈ds,eO L x/\h3 s p w x:=λ ds t b x ai=>⟨t.items x ai,(b.item ai).mono (by omega) (by omega) (b4 _)⟩
 cases h with
 | is n=>intro x ai;simp at ai
 | some=>intro x ai;simp at ai
 | both _ _=>intro x ai;exact it _ t b x (cO _ ai)
 | left a=>intro x ai;exact it _ t b x (cO _ ai)
 | right a=>intro x ai;exact it _ t b x (cO _ ai)
 | way ds k=>
  intro x ai;rcases fH.mp ai with ai | ai
  ·obtain ⟨di,cV⟩:=it _ t b (.tup ds) (by simp);exact it _ di cV x ai
  ·simp at ai;subst ai;exact it _ t b _ (by simp)
def LK(ds:List D):cR ds.reverse=cR ds:=V8 (List.reverse_perm ds)
theorem e5.of{a:Addr}{G ap:aL}(h:eH a G ap):e5 a G ap:=⟨ap,h,.refl _⟩
theorem e5.c2{a:Addr}{G ap:aL}(h:e5 a G ap){b:Addr}{o:ha}(af:b≠a)(e:G b=some o):ap b=some o:=by
 obtain ⟨bV,u,s⟩:=h;exact s _ _ (u.c2 af e)
theorem e5.fd{a:Addr}{G ap:aL}(h:e5 a G ap):hJ ap a:=by
 obtain ⟨bV,u,s⟩:=h;obtain ⟨x,y,e⟩:=u.fd;exact ⟨x,y,s _ _ e⟩
theorem e5.trans{a:Addr}{G aB aY:aL}(h:e5 a G aB)(g:e5 a aB aY):e5 a G aY:=by
 obtain ⟨bV,u,s⟩:=g;exact z3 (λ b o nb e=>h.c2 nb e) u s
mutual
def w_:D->List Addr
 | .ref a=>[a]
 | .tup ds=>Ap ds
 | _=>[]
def Ap:List D->List Addr
 | []=>[]
 | d::ds=>w_ d++Ap ds
end
mutual
def uq:D->Bool
 | .ty _=>false
 | .ej _=>false
 | .tup ds=>Aq ds
 | _=>true
def Aq:List D->Bool
 | []=>true
 | d::ds=>uq d&&Aq ds
end
mutual
theorem eO.of{L:Addr->Prop}:∀(d:D),uq d=true->(∀ r∈w_ d,L r)->eO L d
 | .int n,_,_=>.int n
 | .str z,_,_=>.str z
 | .bc,_,_=>.bc
 | .aJ b,_,_=>.aJ b
 | .ref a,_,h=>.ref (h a (by simp [w_]))
 | .tup ds,ae,ag=>.tup λ d hd=>LL.of ds (by rw [uq] at ae;exact ae) (by rw [w_] at ag;exact ag) d hd
 | .ty _,h,_=>absurd h (by simp [uq])
 | .ej _,h,_=>absurd h (by simp [uq])
theorem LL.of{L:Addr->Prop}:∀(ds:List D),Aq ds=true->(∀ r∈Ap ds,L r)->∀ d,d∈ds->eO L d
 | [],_,_,d,hd=>absurd hd (by simp)
 | e::ds,ae,ag,d,hd=>by
  rw [Aq,eI] at ae;rw [Ap] at ag;have aO:=eO.of e ae.1 λ r ak=>ag r (jP _ ak);have bX:=LL.of ds ae.2 λ r ak=>ag r (h6 _ ak);rcases cB.mp hd with h | h
  ·rw [h];exact aO
  ·exact bX d h
end
def DQ{G X:aL}{p:Addr}(ls:List Addr){L:List D}{R:aL->Prop}(ah:X p=none)(dr:Sub G X)(ar:∀ r∈ls,oh X r)(h:∀ aY,Sub G aY->(∀ r∈ls,oh aY r)->aY p=some (.lst L)->R aY):∃ aY,Sub aY (up X p (.lst L))/\R aY:=
 ⟨_,Sub.refl _,h _ (Sub.trans dr (Sub.new (Sub.refl _) ah)) (λ r ak=>let ⟨ds,e⟩:=ar r ak;⟨ds,Sub.new (Sub.refl _) ah _ _ e⟩) bg⟩
def Wj{α:Type}{xs:List α}{k:Nat}(h:k<=xs.length):cut xs (some (k:Int)) none=xs.drop k:=by
 unfold cut;rw [show dD.cj xs.length xs.length none=xs.length from rfl,show dD.cj xs.length 0 (some (k:Int))=k by unfold dD.cj;simp only [];rw [if_neg (by omega)];omega];rw [tj (by rw [jQ];omega)]
end L3
namespace L2
open PySem PySem.Spec PyProof.Rows
section
variable{X:aT}
def Wk(i:Str)(n:Nat):Str:=⟨(fs n i.cps.toList).flatten.toArray⟩
def Wl:V->Option Int->Option Int->av->cC->Prop:=λ x lo au H Q=>∃ z:Str,x=.str z/\z.length<=sizeLine/\Q (.str (Txt.slice z lo au)) H
def Wm:mQ X Wl:=by
 intro pins s σ H x v fW gs lo au bq Q I a7 ax pl pu h;obtain ⟨z,rfl,hz,q⟩:=h;obtain ⟨t,rfl⟩:=a7;refine ⟨"str", _,F.slot_str_getitem.lookup,typeIs_str _ _ _,?_⟩
 have fin:∀ t' k,gg X pins σ Q (.str (Txt.slice z lo au) t') { s with toks:=k }:=λ t' k=>⟨.str _,H,I.tok _,⟨_,rfl⟩,q⟩
 cases pl with
 | none=>cases pu with
  | none=>exact yg (l:=none) (u:=none) (st:=none) ax rfl (yk ⟨hT (Txt.slice_le z _ _) hz,fin⟩)
  | int j u=>exact yg (l:=none) (u:=some (j,u)) (st:=none) ax rfl (yk ⟨hT (Txt.slice_le z _ _) hz,fin⟩)
 | int i t0=>cases pu with
  | none=>exact yg (l:=some (i,t0)) (u:=none) (st:=none) ax rfl (yk ⟨hT (Txt.slice_le z _ _) hz,fin⟩)
  | int j u=>exact yg (l:=some (i,t0)) (u:=some (j,u)) (st:=none) ax rfl (yk ⟨hT (Txt.slice_le z _ _) hz,fin⟩)
end
end L2
namespace L3
open PySem PySem.Spec L2
section
variable{X:aT}
def afN:h1:=λ x y G Q=>match x,y with
 | .str z,.int n=>0<=n/\n<=1000/\z.length<=1000/\Q (.str (Wk z n.toNat)) G
 | _,_=>False
def Wn:D->Option Int->Option Int->aL->cJ->Prop:=λ x lo au G Q=>match x with
 | .str z=>z.length<=sizeLine/\Q (.str (Txt.slice z lo au)) G
 | _=>False
def qH:CP X Wn:=by
 refine ⟨_,⟨Wm⟩,λ x eL lo au G H az Q v aN r F=>?_⟩
 cases x with
 | str z=>cases aN;exact ⟨z,rfl,r.1,F (.str (Txt.slice z lo au)) G _ H (.refl v) rfl r.2⟩
 | _=>exact (show False from r).elim
def Ar:D->aL->Prop:=λ x _=>match x with
 | .str _=>True
 | _=>False
def DR{K:aV}{x:D}{v:V}{G:aL}{H:av}(aN:dg K H x v)(h:Ar x G):tN K "str" v H:=by
 cases x with
 | str z=>cases aN;exact rfl
 | _=>exact (show False from h).elim
end
end L3
namespace L2
open PySem PySem.Spec PyProof.Rows
section
variable{X:aT}{bp:a9}
def Wo:n2 X "str.startswith" (λ x xs H Q=>∃ z y:Str,x=.str z/\xs=[.str y]/\Q (.aJ (Txt.startswith z y)) H):=by
 intro pins s σ H x xs v us Q I a7 a5 h;obtain ⟨z,y,rfl,rfl,q⟩:=h;obtain ⟨t,rfl⟩:=a7;obtain ⟨u,rfl,c1⟩:=a5.one;obtain ⟨t',rfl⟩:=c1
 exact PySem.SC.startswith ⟨.aJ _,H,I,rfl,q⟩
def Wq:n2 X "str.upper" (λ x xs H Q=>∃ z:Str,x=.str z/\xs=[]/\(Txt.upper z).length<=1000/\Q (.str (Txt.upper z)) H):=by
 intro pins s σ H x xs v us Q I a7 a5 h;obtain ⟨z,rfl,rfl,hz,q⟩:=h;obtain ⟨t,rfl⟩:=a7;cases a5;refine PySem.SC.upper (by unfold Builtin.Str.tooLong;exact decide_eq_false (by rw [hP];omega)) ⟨.str _,H,I.tok _,⟨_,rfl⟩,q⟩
theorem LM:∀{ys:List Str}{us:List Value},Vals (ys.map V.str) us->StrsAre us ys
 | [],_,h=>by cases h;exact .nil
 | y::ys,_,h=>by
  cases h with
  | cons r cf=>
   obtain ⟨t,rfl⟩:=r;exact .cons _ _ (LM cf)
def Wr(K:aV)(d5:K=X.K):n2 X "str.join" (λ x xs H Q=>∃(z:Str)(l:Addr)(ys:List Str),x=.str z/\xs=[.ref l]/\d7 K H l (ys.map V.str)/\z.length<=16/\(ys.map (·.length)).sum+ys.length<=1048576/\Q (.str (Txt.join z ys)) H):=by
 subst d5;intro pins s σ H x xs v us Q I a7 a5 h;obtain ⟨z,l,ys,rfl,rfl,ar,hz,hw,q⟩:=h;obtain ⟨t,rfl⟩:=a7;obtain ⟨u,rfl,c1⟩:=a5.one;cases c1;obtain ⟨aw,r,p,_⟩:=I.list ar
 exact PyProof.Rows.join_listW p.isList (by simpa using LM r) hz hw λ t' k=>⟨.str _,H,I.tok _,⟨_,rfl⟩,q⟩
def xa(z:Str):kJ:=⟨λ i _=>i < z.length,λ i H x aj=>aj=H/\∃ c,z.cps[i]?=some c/\x=.str ⟨#[c]⟩,λ i _=>z.length<=i⟩
def Ws{P:cS}{w:b_}{K:aV}{bp:a9}(it:Addr)(z:Str)(t:Tok)(ty:String)(gI:ty = "str_ascii_iterator"\/ty = "str_iterator"):Turn P w K bp (xa z) [it] it (λ i h=>i<=z.length/\h.IsStrIter it ty z t i) where
 mem:=by simp
 obj:=λ i h st b af=>by
  have e:b=it:=by simpa using af
  subst e;obtain ⟨_,o,e,c,d⟩:=st;exact ⟨o,e,λ v z=>by rw [d] at z;cases z⟩
 keep:=λ i h h' st k=>⟨st.1,let ⟨o,aR,r⟩:=st.2;⟨o,k it (by simp) o aR,r⟩⟩
 item:=by
  intro X eJ hw d5 am i pins s σ H E I hf st a_;subst eJ hw d5;obtain ⟨f0,f1,f2,dn,f4,eK⟩:=hf it (by simp)
  have W:Walks X.prog X.w X.A it [it] [it] z.cps.size (SignAt z) (λ i h=>h.IsStrIter it ty z t i):=by
   rcases gI with rfl | rfl
   ·exact Walks.strAscii (I.ok.hd am) it z t
   ·exact Walks.strWide (I.ok.hd am) it z t
  refine W.item i s _ _ a_ st.2 λ v h' bR bJ gH eY=>?_;obtain ⟨c,u,yX,rfl⟩:=bJ;have a4:Inv X pins σ H { s with heap:=h',toks:=bR }:=I.turned (λ b o af e=>eY b o (by simpa using af) e) f0 f1 dn f4 eK;obtain ⟨o,e,cq,d⟩:=id gH;refine ⟨_,rfl,vJ (s:={ s with heap:=h',toks:=bR }) e cq d (by rcases gI with rfl | rfl<;>decide) ⟨.str ⟨#[c]⟩,H,a4,⟨u,rfl⟩,⟨rfl,c,yX,rfl⟩,⟨a_,gH⟩,λ b af=>(hf b af).1⟩⟩
 done:=by
  intro X eJ hw d5 am i pins s σ H E I hf st a_;subst eJ hw d5;obtain ⟨f0,f1,f2,dn,f4,eK⟩:=hf it (by simp)
  have W:Walks X.prog X.w X.A it [it] [it] z.cps.size (SignAt z) (λ i h=>h.IsStrIter it ty z t i):=by
   rcases gI with rfl | rfl
   ·exact Walks.strAscii (I.ok.hd am) it z t
   ·exact Walks.strWide (I.ok.hd am) it z t
  have au:i=z.cps.size:=Nat.le_antisymm st.1 a_;subst au
  exact W.done s _ _ st.2 λ h' bR eY=>⟨rfl,I.turned (λ b o af e=>eY b o (by simpa using af) e) f0 f1 dn f4 eK⟩
 self:=λ _ _ _ _ _ st h=>by
  rcases gI with rfl | rfl
  ·exact wpAny_pyIter_striter_ascii st.2 h
  ·exact wpAny_pyIter_striter_wide st.2 h
def Wt{l:a9}{eN:TE}(ar:b5 X l eN):nX X bp l (λ σ H R=>eN σ H λ x H1=>∃ z,x=.str z/\R (xa z) H1):=by
 intro pins s σ H R I h;refine b2 (ar pins s σ H _ I h) λ v s1 ⟨x,H1,a4,aX,aH⟩=>?_;obtain ⟨z,rfl,q⟩:=aH;obtain ⟨t,rfl⟩:=aX
 have fin:∀ ty:String,(ty = "str_ascii_iterator"\/ty = "str_iterator")->B3 X pins σ bp R (.ref s1.heap.objs.size) { s1 with heap:=s1.heap.push { cls:=.type ty,data:=.fields #[.str z t,.int 0 0] } }:=λ ty gI=>by
  refine ⟨s1.heap.objs.size,[s1.heap.objs.size],_,_,H1,rfl,a4.kept (t':=s1.toks) λ b o e=>dQ _ e,Ws _ z t ty gI,⟨fi _,_,hG _ rfl,rfl,rfl⟩,λ b af=>?_,q⟩
  have e:b=s1.heap.objs.size:=by simpa using af
  subst e;exact a4.qm (b4 _) (a4.bU.fresh (b4 _))
 cases ay:z.cps.all (· < 128)
 ·exact wpAny_pyIter_wide ay (fin _ (.inr rfl))
 ·exact wpAny_pyIter_ascii ay (fin _ (.inl rfl))
end
end L2
namespace L3
open PySem PySem.Spec L2
section
variable{X:aT}{bp a b c:a9}{bb bA bf:cm}{pos p:Pos}
abbrev afO(ad:Addr)(tab:Str->Option D):h1:=λ x y G Q=>match x with
 | .str z=>y=.ref ad/\Q (.aJ (!(tab z).isSome)) G
 | _=>False
def ur(z:Str):List D:=z.cps.toList.map λ c=>.str ⟨#[c]⟩
abbrev Wu(bb:cm):kR:=λ ρ G R=>bb ρ G λ x aB=>match x with
 | .str z=>R ⟨ur z,λ _=>True⟩ aB
 | _=>False
theorem Wv{K:aV}{z:Str}{aB:aL}{H1:av}(v:fu K aB H1) :
 (∀(i:Nat)(d:D),(ur z)[i]?=some d->(xa z).go i H1/\∀ x aj,(xa z).ql i H1 x aj->Go K aB H1 aB aj/\dg K aj d x)/\∀ i,(ur z).length<=i->(xa z).stop i H1:=by
 refine ⟨λ i d hd=>?_,λ i au=>?_⟩
 ·unfold ur at hd;rw [f3] at hd
  cases am:z.cps.toList[i]? with
  | none=>rw [am] at hd;cases hd
  | some c=>
   rw [am] at hd;cases hd;have au:=(jo.mp am).1;refine ⟨au,λ x aj y=>?_⟩;obtain ⟨rfl,dm,e,rfl⟩:=y
   have bZ:z.cps.toList[i]?=some dm:=by simpa using e
   rw [am] at bZ;cases bZ;exact ⟨.refl v,rfl⟩
 ·unfold ur at au;rw [cP] at au;exact au
def Ww(ay:b7 X a bb):oa X bp a (Wu bb):=by
 obtain ⟨ca,cn,cp⟩:=ay.run;refine ⟨_,⟨Wt cn.run⟩,λ ρ G l1 σ H R B q F=>cp ρ G _ σ H _ B q λ x aB v H1 g1 aN aH=>?_⟩
 cases x with
 | str z=>cases aN;exact ⟨z,rfl,F ⟨ur z,λ _=>True⟩ _ aB H1 g1 (λ aY a3 g2 _=>Wv g2.ck) aH⟩
 | _=>exact (show False from aH).elim
abbrev Wx(r bD:h1)(bb bA bf:cm):cm:=λ ρ G Q=>bb ρ G λ x aB=>bA ρ aB λ y aY=>r x y aY λ z d3=>rT z λ k=>bS k (bf ρ d3 λ w ht=>bD y w ht Q) (Q (.aJ false) d3)
def Wy{op rJ:nH}{r bD:h1}(aR:gv X (er op) r)(mG:gv X (er rJ) bD)(ay:b7 X a bb)(af:b7 X b bA)(am:b7 X c bf)(hm:lastMarks [op,rJ] [b,c]=false:=by with_unfolding_all rfl):AT X (.Compare a [op,rJ] [b,c] pos) (JY (Wx r bD bb bA bf)):=by
 obtain ⟨ca,cn,cp⟩:=ay.run;obtain ⟨jv,fv,fw⟩:=af.run;obtain ⟨rU,j6,rc⟩:=am.run;obtain ⟨co,iq,Wz⟩:=aR.run;obtain ⟨afP,WA,WB⟩:=mG.run;refine ⟨_,⟨QO iq.run WA.run cn.run fv.run j6.run hm⟩,λ ρ G az σ H Q B q F=>cp ρ G _ σ H _ B q λ x aB v H1 g1 aN aH=>fw ρ aB _ σ H1 _ (B.go g1) aH λ y aY u a3 g2 a6 bl=>Wz x y v u aY a3 _ _ g2.ck (aN.mono g2.tup) a6 bl λ z d3 afQ dy g3 wt dZ=>?_⟩
 cases z with
 | aJ k=>
  cases wt;refine ⟨k,rfl,?_⟩
  cases k with
  | true=>
   rw [if_pos rfl];refine rc ρ d3 _ σ dy _ (((B.go g1).go g2).go g3) (dZ.1 rfl) λ w ht ck js gw pe ia=>WB y w u ck ht js _ _ gw.ck ((a6.mono g3.tup).mono gw.tup) pe ia λ DS l2 afR jr zQ DU lc=>?_
   cases DS with
   | aJ k5=>cases DU;exact ⟨k5,rfl,F k5 l2 jr ((((g1.trans g2).trans g3).trans gw).trans zQ) lc⟩
   | _=>exact (show False from lc).elim
  | false=>rw [if_neg (by decide)];exact ⟨false,rfl,F false d3 dy ((g1.trans g2).trans g3) (dZ.2 rfl)⟩
 | _=>exact (show False from dZ).elim
def LN:D->List D->aL->cJ->Prop:=λ x xs G Q=>match x,xs with
 | .str z,[.str y]=>Q (.aJ (Txt.startswith z y)) G
 | _,_=>False
def WC{K:aV}{H:av}{xs:List D}{vs:List V}{y:Str}(e:xs=[.str y])(al:bH K H xs vs):vs=[.str y]:=by
 subst e;obtain ⟨u,bD,e,a,l⟩:=al;subst e;cases a;cases (show bD=[] from l);rfl
def LO:pj X "str" "str.startswith" Ar LN:=by
 refine ⟨_,⟨Wo⟩,λ x v G H _ aN h=>DR aN h,λ x xs eL vs G H az Q v aN al r F=>?_⟩;unfold LN at r;split at r
 ·next z y=>cases aN;exact ⟨z,y,rfl,WC rfl al,F (.aJ _) G _ H (.refl v) rfl r⟩
 ·exact r.elim
def LP:D->List D->aL->cJ->Prop:=λ x xs G Q=>match x,xs with
 | .str z,[]=>(Txt.upper z).length<=1000/\Q (.str (Txt.upper z)) G
 | _,_=>False
def WD:pj X "str" "str.upper" Ar LP:=by
 refine ⟨_,⟨Wq⟩,λ x v G H _ aN h=>DR aN h,λ x xs eL vs G H az Q v aN al r F=>?_⟩;unfold LP at r;split at r
 ·next z=>cases aN;exact ⟨z,rfl,al,r.1,F (.str _) G _ H (.refl v) rfl r.2⟩
 ·exact r.elim
theorem bH.strs{K:aV}{H:av}{ys:List Str}:∀{vs:List V},bH K H (ys.map D.str) vs->vs=ys.map V.str:=by
 induction ys with
 | nil=>intro vs h;exact h
 | cons n ns bN=>rintro vs ⟨v,r,e,q,l⟩;subst e;rw [bN l,show v=V.str n from q];rfl
def LQ:D->List D->aL->cJ->Prop:=λ x xs G Q=>match x,xs with
 | .str z,[.ref l]=>hb G l λ ds=>∃ ys:List Str,ds=ys.map D.str/\z.length<=16/\(ys.map (·.length)).sum+ys.length<=1048576/\Q (.str (Txt.join z ys)) G
 | _,_=>False
def As:pj X "str" "str.join" Ar LQ:=by
 refine ⟨_,⟨Wr X.K rfl⟩,λ x v G H _ aN h=>DR aN h,λ x xs eL vs G H az Q v aN al r F=>?_⟩;unfold LQ at r;split at r
 ·next z l=>
  cases aN;obtain ⟨u,bD,e,a,aP⟩:=al;subst e;cases a;cases (show bD=[] from aP);obtain ⟨ds,ws,⟨ys,rfl,ae,ag,q⟩,s,dK⟩:=ic v r;rw [dK.strs] at s;exact ⟨z,l,ys,rfl,rfl,s,ae,ag,F (.str _) G _ H (.refl v) rfl q⟩
 ·exact r.elim
def WE:D->aL->cJ->Prop:=λ x G Q=>match x with
 | .int i=>i.natAbs.log2 < 1920/\Q (.str (toString i)) G
 | _=>False
def WG:j4 X (.type "str") (m4 WE):=by
 refine ⟨_,⟨QW⟩,λ xs vs G H az Q v a r F=>?_⟩;obtain ⟨x,u,rfl,rfl,aN,r⟩:=pd r a
 cases x with
 | int i=>cases aN;exact ⟨i,rfl,r.1,F (.str _) G _ H (.refl v) rfl r.2⟩
 | _=>exact (show False from r).elim
end
def FnAt(K:aV)(x q:Str)(st:b1)(f:Addr)(cd:Value):Prop:=∃(gT:Value)(eR:Option Addr)(gR doc pm:Value)(an:Option Addr)(ct:Value)(jt:Array (Option Value)),
 K.lookup f=some ⟨gT,eR,.func (nQ x q (n5 st) (j2 st) (cW st) .none gR doc pm an cd ct),jt⟩/\tu K cd q=true/\lM K (.ref f)=true
def DT(K:aV)(x:Str)(st:b1):Prop:=∃(f:Addr)(cd:Value),eX K ea x=some (some (.ref f))/\FnAt K x x st f cd
section
variable{K:aV}{x m q:Str}{st:b1}{C c:Addr}
theorem DT.mk{f:Addr}{cd gT gR doc pm ct:Value}{eR an:Option Addr}{jt:Array (Option Value)}(a:eX K ea x=some (some (.ref f)))(l:K.lookup f=some ⟨gT,eR,.func (nQ x x (n5 st) (j2 st) (cW st) .none gR doc pm an cd ct),jt⟩)(k:tu K cd x=true)(p:lM K (.ref f)=true):DT K x st:=⟨f,cd,a,_,_,_,_,_,_,_,_,l,k,p⟩
theorem DT.ok(h:DT K x st):∃(f:Addr)(fd:gZ),eX K ea x=some (some (.ref f))/\ed K x x st f fd:=
 let ⟨f,_,a,_,_,_,_,_,_,_,_,l,k,p⟩:=h;⟨f,_,a,I_ l k p⟩
end
theorem h4{α:Type}{P:List α->Prop}(h:∀ a,P [a]):∀ us:List α,us.length=1->P us
 | [a],_=>h a
theorem oj{α:Type}{P:List α->Prop}(h:∀ a b,P [a,b]):∀ us:List α,us.length=2->P us
 | [a,b],_=>h a b
theorem WH{α:Type}{P:List α->Prop}(h:∀ a b c,P [a,b,c]):∀ us:List α,us.length=3->P us
 | [a,b,c],_=>h a b c
theorem LR{α:Type}{P:List α->Prop}(h:∀ a b c d,P [a,b,c,d]):∀ us:List α,us.length=4->P us
 | [a,b,c,d],_=>h a b c d
def WI:b1->List b1
 | .ClassDef _ _ _ b _ _ _ _ _ _ _=>b
 | _=>[]
def LS{β:Type}{k z:Str}{v:β}{r:List (Str × β)}:(((k,v)::r).find? λ e6=>decide (e6.1=z)).map (·.2)=if z=k then some v else (r.find? λ e6=>decide (e6.1=z)).map (·.2):=by
 by_cases h:k=z
 ·simp [h]
 ·rw [if_neg (Ne.symm h),oG,decide_eq_false h]
theorem LU:∀{t:List (Str × V)}{es:List DictEntry},la (λ(e6:Str × V) (e:DictEntry)=>(∃ t1,e.key=.str e6.1 t1)/\RelV e6.2 e.val) t es →
 ∀ x,oL ((t.find? λ e6=>decide (e6.1=x)).map (·.2)) ((es.find? λ d=>Value.isStrOf x d.key).map (·.val))
 | _,_,.nil,_=>trivial
 | p::t,e::es,.cons ⟨⟨t1,aE⟩,aP⟩ r,x=>by
  by_cases h:p.1=x
  ·have z:Value.isStrOf x e.key=true:=by rw [aE,h];simp [Value.isStrOf]
   rw [oG,decide_eq_true h,oG,z];exact aP
  ·have z:Value.isStrOf x e.key=false:=by
    rw [aE];simp only [Value.isStrOf];exact beq_false_of_ne h
   rw [oG,decide_eq_false h,oG,z];exact LU r x
theorem LV{K:aV}{w:b_}{ad:Addr}{es:Array DictEntry}{n:Nat}{qI:List (Str × V)}{L:List (Str × D)}{tab:Str->Option D}(ae:K.lookup ad=some ⟨.type "dict", none,.dict es n,#[]⟩)(ag:(ad==q_)=false)(aO:PySem.W.KeysLit w.params es.toList)
 (bX:la (λ(e6:Str × V) (e:DictEntry)=>(∃ t1,e.key=.str e6.1 t1)/\RelV e6.2 e.val) qI es.toList) (d0:∀ z,tab z=(L.find? λ e6=>decide (e6.1=z)).map (·.2)) (hZ:la (λ(a:Str × D) (b:Str × V)=>a.1=b.1/\∀ H,dg K H a.2 b.2) L qI):r4 K w ad tab:=by
 have key:∀{L:List (Str × D)}{qI:List (Str × V)},la (λ(a:Str × D) (b:Str × V)=>a.1=b.1/\∀ H,dg K H a.2 b.2) L qI->∀ z,(((L.find? λ e6=>decide (e6.1=z)).map (·.2))=none->((qI.find? λ e6=>decide (e6.1=z)).map (·.2))=none)/\∀ d,((L.find? λ e6=>decide (e6.1=z)).map (·.2))=some d->∃ v,((qI.find? λ e6=>decide (e6.1=z)).map (·.2))=some v/\∀ H,dg K H d v:=by
  intro L qI h
  induction h with
  | nil=>intro z;exact ⟨λ _=>rfl,λ d e=>by cases e⟩
  | @cons a b as bs q r bN=>
   intro z;obtain ⟨a1,a2⟩:=a;obtain ⟨dx,cV⟩:=b;obtain ⟨aH,bl⟩:=q;cases (show a1=dx from aH);rw [LS,LS];by_cases c:z=a1
   ·rw [if_pos c,if_pos c];exact ⟨λ e=>(by cases e),λ d e=>(by cases e;exact ⟨_,rfl,bl⟩)⟩
   ·rw [if_neg c,if_neg c];exact bN z
 refine ⟨λ z=>(qI.find? λ e6=>decide (e6.1=z)).map (·.2),⟨⟨es,n,ae,aO,λ x=>?_⟩,ag⟩,λ z e=>((key hZ z).1 (by rw [<- d0];exact e)),λ z d e=>(key hZ z).2 d (by rw [<- d0];exact e)⟩;have:=LU bX x;unfold findBy;obtain ⟨l⟩:=es;rw [List.find?_toArray];exact this
def LW{K:aV}{H:av}{a:Addr}{aw:Array Value}{n:Nat}{vs:List V}(h:K.lookup a=some ⟨.type "tuple", none,.seq aw n,#[]⟩)(hz:qd aw.size 1000=true)(bJ:Vals vs aw.toList):eb K H a vs:=.inr ⟨_,aw,n,h,rfl,rfl,wo hz,bJ⟩
abbrev kV:Str:="0123456789"
def l_(z y:Str):Bool:=z.cps.toList.all λ c=>decide (c∈y.cps.toList)
def DV(y:Str)(c:Nat):(!(Builtin.Str.occurrences y ⟨#[c]⟩ 0 y.length 1).isEmpty)=decide (c∈y.cps.toList):=by
 rw [PyProof.Rows.empty_one,Bool.not_not]
def bare(z:Str):Str:=if Txt.startswith z "-" then Txt.slice z (some 1) none else z
def DW:fe:=λ ds G Q=>∃ z y:Str,ds=[.str z,.str y]/\z.length<=7000/\Q (.aJ (l_ z y)) G
def ut(z:Str)(c:Nat):Txt.startswith z ⟨#[c]⟩=(z.cps.toList.head?==some c):=by
 obtain ⟨a⟩:=z;obtain ⟨l⟩:=a;unfold Txt.startswith Builtin.Str.subAt Str.length
 cases l with
 | nil=>simp
 | cons x l=>
  simp
def dash:(("-" : String):Str)=⟨#[45]⟩:=by trivial
def LX:(("0" : String):Str)=⟨#[48]⟩:=by trivial
def LY(z:Str):(bare z).length<=z.length:=by
 unfold bare;split
 ·exact Txt.slice_le z _ _
 ·exact b4 _
end L3
namespace L2
open PySem PySem.Spec PyProof.Rows
section
variable{prog:cS}{w:b_}{A:cL}{E:Value->aF->Prop}{s:aF}{e it:Addr}{i:Nat}{old:Value}
def lEq{R:Value->Prop}{P:bO->Prop}{Q:Option Value->aF->Prop}(he:WP s.heap e it i old)(cX:e≠it)(eJ:∀ h h',P h->(∀ o,h.get? it=some o->h'.get? it=some o)->P h')
 (aA:∀(A:cL)(Q:Value->aF->Prop)(E:Value->aF->Prop),(∀ m9 bR x,R x->Heap.SameBut it s.heap m9->P m9->Q x { s with heap:=m9,toks:=bR })->aZ (a8 prog w) A (Builtin.SmallTypes.nextOf (.ref it)) Q E s)
 (hU:∀ h' bR x t,R x->IsEnumOut h' e it ((i:Int)+1) x s.heap.objs.size->P h'->h'.get? s.heap.objs.size=some { cls:=.type "tuple", data:=.seq #[.int i t,x] } →
  (∀ b o,b≠e->b≠it->s.heap.get? b=some o->h'.get? b=some o)->Q (some (.ref s.heap.objs.size)) { s with heap:=h',toks:=bR }) :
 aZ (a8 prog w) A (nG (.ref e)) Q E s:=by
 have eo:s.TypeIs (.ref e) "enumerate":=⟨_,he,rfl⟩
 unfold nG;refine aK (p4 (wpAny_callSpecial?_slot (name:=Str.ofString "__next__") eo PySem.F.slot_enumerate_next (nE PySem.F.slot_enumerate_next eo PySem.F.entry_enumerate_next ?_ (PySem.F.args_enumerate_next_1 _))));obtain ⟨ah,g,d,bR,os⟩:=s;refine (show aZ _ _ (oC (.ref e) 2 >>= _) _ _ _ from aK (hQ he rfl (x:=.ref it) rfl (aK (aA _ _ _ λ m9 jD x a7 s1 cE=>?_))))
 replace s1:Heap.SameBut it ah m9:=s1
 have aE:WP m9 e it i old:=(s1.2 e cX).trans he;refine (show aZ _ _ (oC (.ref e) 3 >>= _) _ _ ⟨m9,g,d,jD,os⟩ from aK (hQ aE rfl (x:=hD i) rfl ?_));refine (show aZ _ _ (oC (.ref e) 4 >>= _) _ _ ⟨m9,g,d,jD,os⟩ from aK (hQ aE rfl (x:=.none) rfl ?_));refine (show aZ _ _ (mkInt i >>= _) _ _ ⟨m9,g,d,jD,os⟩ from aK (wpAny_mkInt ?_));refine (show aZ _ _ (vi (.ref e) 3 (hD ((i:Int)+1)) >>= _) _ _ ⟨m9,g,d,jD+1,os⟩ from aK (vb aE (by simp) λ At aP s2=>?_))
 replace s2:Heap.SameBut e m9 At:=s2
 replace aP:WP At e it ((i:Int)+1) old:=aP
 refine (show aZ _ _ (vi (.ref e) 4 .none >>= _) _ _ ⟨At,g,d,jD+1,os⟩ from aK (vb aP (by simp) λ m_ e3 s3=>?_))
 replace s3:Heap.SameBut e At m_:=s3
 replace e3:WP m_ e it ((i:Int)+1) old:=e3
 refine (show aZ _ _ (newTuple [.int i jD,x] >>= _) _ _ ⟨m_,g,d,jD+1,os⟩ from aK (BK ?_));have e4:WP (m_.push { cls:=.type "tuple", data:=.seq #[.int i jD,x] }) e it ((i:Int)+1) old:=dQ _ e3
 have hsz:m_.objs.size=ah.objs.size:=by rw [s3.1,s2.1,s1.1]
 have LZ:e < ah.objs.size:=dL he
 have L0:(m_.push { cls:=.type "tuple", data:=.seq #[.int i jD,x] }).get? ah.objs.size=some { cls:=.type "tuple", data:=.seq #[.int i jD,x] }:=by rw [<- hsz];exact hG _ rfl
 have jB:∀ b o,b≠e->b≠it->ah.get? b=some o->(m_.push { cls:=.type "tuple", data:=.seq #[.int i jD,x] }).get? b=some o:=λ b o nT WJ af=>dQ _ (s3.extBut b o nT (s2.extBut b o nT (s1.extBut b o WJ af)));have xb:P (m_.push { cls:=.type "tuple", data:=.seq #[.int i jD,x] }):=eJ _ _ cE λ o aR=>dQ _ (s3.extBut _ _ (Ne.symm cX) (s2.extBut _ _ (Ne.symm cX) aR));rw [hsz];generalize m_.push { cls:=.type "tuple", data:=.seq #[.int i jD,x] }=DX at e4 L0 jB xb ⊢;refine (show aZ _ _ (Builtin.SmallTypes.ownedTupleIsFree (.ref e) >>= _) _ _ ⟨DX,g,d,jD+1,os⟩ from aK ?_);unfold Builtin.SmallTypes.ownedTupleIsFree;refine aK (hQ e4 rfl (x:=.none) rfl (bC ?_));simp only [if_true];refine aK (rd (aK (hQ e4 rfl (x:=old) rfl (aK (vb e4 (by simp) λ Au wj s5=>?_)))))
 replace s5:Heap.SameBut e DX Au:=s5
 replace wj:WP Au e it ((i:Int)+1) x:=wj
 refine (show aZ _ _ (Builtin.SmallTypes.ownedTupleHandOut (.ref e) (.ref ah.objs.size) >>= _) _ _ ⟨Au,g,d,jD+1,os⟩ from aK ?_);unfold Builtin.SmallTypes.ownedTupleHandOut;refine aK (vb wj (by simp) λ DY DZ iJ=>?_)
 replace iJ:Heap.SameBut e Au DY:=iJ
 replace DZ:IsEnumOut DY e it ((i:Int)+1) x ah.objs.size:=DZ
 refine vb DZ (by simp) λ Av D0 jZ=>?_
 replace jZ:Heap.SameBut e DY Av:=jZ
 replace D0:IsEnumOut Av e it ((i:Int)+1) x ah.objs.size:=D0
 have eY:∀ b o,b≠e->DX.get? b=some o->Av.get? b=some o:=λ b o af q=>jZ.extBut b o af (iJ.extBut b o af (s5.extBut b o af q));exact aK (wpAny_letGo (bC ⟨_,rfl,bC (hU Av _ x jD a7 D0 (eJ _ _ xb λ o aR=>eY _ _ (Ne.symm cX) aR) (eY _ _ (rv LZ) L0) λ b o af au q=>eY b o af (jB b o af au q))⟩))
def L1{Q:Option Value->aF->Prop}(he:WP s.heap e it i old)
 (aA:∀(A:cL)(Q:Value->aF->Prop)(E:Value->aF->Prop),A.handled=none->(∀ h' x,Heap.ExtBut it s.heap h'->(∃ o,h'.get? x=some o/\o.cls=.type "StopIteration")->E (.ref x) { s with heap:=h' })->aZ (a8 prog w) A (Builtin.SmallTypes.nextOf (.ref it)) Q E s)
 (df:A.handled=none) (hU:∀ h',Heap.ExtBut it s.heap h'->Q none { s with heap:=h' }):aZ (a8 prog w) A (nG (.ref e)) Q E s:=by
 have eo:s.TypeIs (.ref e) "enumerate":=⟨_,he,rfl⟩
 unfold nG;refine aK (p4 (wpAny_callSpecial?_slot (name:=Str.ofString "__next__") eo PySem.F.slot_enumerate_next (nE PySem.F.slot_enumerate_next eo PySem.F.entry_enumerate_next ?_ (PySem.F.args_enumerate_next_1 _))));refine (show aZ _ _ (oC (.ref e) 2 >>= _) _ _ _ from aK (hQ he rfl (x:=.ref it) rfl (aK (aA _ _ _ df λ h' x bZ ai=>?_))));obtain ⟨o,aR,am⟩:=ai;refine aK (BG (T:="StopIteration") (b:=true) ⟨o,aR,am⟩ isSubtype_stop ?_);exact bC (hU _ bZ)
end
def L4(z:Str):kJ:=⟨λ i _=>i < z.length,λ i H x aj=>∃ T c,z.cps[i]?=some c/\x=.ref T/\H T=none/\aj=upd H T (.tup [.int i,.str ⟨#[c]⟩]),λ i _=>z.length<=i⟩
def D1{h h':bO}{it:Addr}{ty:String}{z:Str}{t:Tok}{i:Nat}(x:h.IsStrIter it ty z t i)(k:∀ o,h.get? it=some o->h'.get? it=some o):h'.IsStrIter it ty z t i:=let ⟨o,aR,r⟩:=x;⟨o,k o aR,r⟩
def WK{P:cS}{w:b_}{K:aV}{es:List a9}{k:Nat}{pos:Pos}(e it:Addr)(z:Str)(t:Tok)(ty:String)(gI:ty = "str_ascii_iterator"\/ty = "str_iterator")(cX:e≠it) :
 Turn P w K (.Tuple es k pos) (L4 z) [e,it] e (λ i h=>i<=z.length/\(∃ old,WP h e it i old)/\h.IsStrIter it ty z t i) where
 mem:=by simp
 obj:=λ i h st b af=>by
  obtain ⟨_,⟨old,a1⟩,o,a2,c,d⟩:=st;simp only [cB,fR,or_false] at af;rcases af with rfl | rfl
  ·exact ⟨_,a1,λ v z=>by cases (show Data.fields _=Data.cell v from z)⟩
  ·exact ⟨o,a2,λ v z=>by rw [d] at z;cases z⟩
 keep:=λ i h h' st eY=>⟨st.1,let ⟨old,a1⟩:=st.2.1;⟨old,eY _ (by simp) _ a1⟩,D1 st.2.2 λ o aR=>eY _ (by simp) _ aR⟩
 item:=by
  intro X eJ hw d5 am i pins s σ H E I hf st a_;subst eJ hw d5;obtain ⟨_,⟨old,a1⟩,a2⟩:=st
  obtain ⟨c,ai⟩:∃ c,z.cps[i]?=some c:=⟨z.cps[i]'a_,Array.getElem?_eq_getElem a_⟩
  refine lEq (R:=λ x=>∃ u,x=.str ⟨#[c]⟩ u) (P:=λ h=>h.IsStrIter it ty z t (i+1)) a1 cX (λ h h' p k=>D1 p k) (λ A Q E q=>?_) λ h' bR x u a7 Out dO eo eY=>?_
  ·rcases gI with rfl | rfl
   ·exact wpAny_nextOf_ascii_item a2 ai λ h' p hk=>q h' _ _ ⟨_,rfl⟩ hk p
   ·exact wpAny_nextOf_wide_item a2 ai λ h' p hk=>q h' _ _ ⟨_,rfl⟩ hk p
  obtain ⟨d4,rfl⟩:=a7;refine ⟨_,rfl,HL (s:={ s with heap:=h',toks:=bR }) Out λ ag D2 hk=>?_⟩;have iQ:e < s.heap.objs.size:=dL a1
  have D3:it < s.heap.objs.size:=let ⟨_,aR,_⟩:=a2;dL aR
  have a4:Inv X pins σ (upd H s.heap.objs.size (.tup [.int i,.str ⟨#[c]⟩])) { s with heap:=s.heap.push { cls:=.type "tuple", data:=.seq #[.int i u,.str ⟨#[c]⟩ d4] } }:=
   I.laid (t':=s.toks) (λ b o e=>dQ _ e) (b4 _) (show f5 X.prog X.w _ _ _ (.tup [.int i,.str ⟨#[c]⟩]) from ⟨by show 2<=sizeLine;decide,[.int i u,.str ⟨#[c]⟩ d4],.cons ⟨_,rfl⟩ (.cons ⟨_,rfl⟩ .nil),IsTup.new _ _⟩)
  have xc:∀ b∈[e,it],b < s.heap.objs.size:=λ b af=>by
   simp only [cB,fR,or_false] at af;rcases af with rfl | rfl
   ·exact iQ
   ·exact D3
  have c5:Inv X pins σ (upd H s.heap.objs.size (.tup [.int i,.str ⟨#[c]⟩])) { s with heap:=ag,toks:=bR }:=
   Inv.zw (s:={ s with heap:=s.heap.push { cls:=.type "tuple", data:=.seq #[.int i u,.str ⟨#[c]⟩ d4] } }) (h':=ag) (t':=bR) (fp:=[e,it]) a4 (λ b af=>by
    obtain ⟨f0,fr⟩:=hf b af
    exact ⟨by rw [cQ (eW (xc b af))];exact f0,fr⟩) (λ b o af q=>by
    have fN:b≠e/\b≠it:=by simpa using af
    rcases Heap.get?_push_cases q with ⟨cN,cc⟩ | q
    ·rw [cN,cc];exact hk.extBut _ _ (rv iQ) eo
    ·exact hk.extBut _ _ fN.1 (eY b o fN.1 fN.2 q))
  exact ⟨.ref s.heap.objs.size,_,c5,rfl,⟨_,c,ai,rfl,I.bU.fresh (b4 _),rfl⟩,⟨a_,⟨_,D2⟩,D1 dO λ o aR=>hk.extBut _ _ (Ne.symm cX) aR⟩,λ b af=>by rw [cQ (eW (xc b af))];exact (hf b af).1⟩
 done:=by
  intro X eJ hw d5 am i pins s σ H E I hf st a_;subst eJ hw d5;obtain ⟨_,⟨old,a1⟩,a2⟩:=st;have ai:z.cps[i]?=none:=Array.getElem?_eq_none a_
  refine L1 a1 (λ A Q E df q=>?_) (I.ok.hd am) λ h' hl=>⟨rfl,?_⟩
  ·rcases gI with rfl | rfl
   ·exact wpAny_nextOf_ascii_end df a2 ai q
   ·exact wpAny_nextOf_wide_end df a2 ai q
  ·refine I.zw (t':=s.toks) (fp:=[e,it]) hf λ b o af q=>?_
   have fN:b≠e/\b≠it:=by simpa using af
   exact hl b o fN.2 q
 self:=λ _ _ _ _ _ st h=>by
  obtain ⟨_,⟨old,a1⟩,_⟩:=st;exact yi a1 h
section
variable{X:aT}
def WL(x:Str):strIterType x = "str_ascii_iterator"\/strIterType x = "str_iterator":=by
 unfold strIterType;split<;>simp
def WM(t:fT):TI:=λ σ H R=>t σ H λ vs H1=>∃ z,vs=[.str z]/\R (L4 z) H1
def WN{es:List a9}{k:Nat}{hq:Pos}{a:a9}{bb:fT}{p pos:Pos}(a_:ew X "enumerate")(hm:X.mg "enumerate" = none)(ay:iI X [a] bb)(ax:gu a=true):nX X (.Tuple es k hq) (.Call (.Name "enumerate" p) [a] [] pos) (WM bb):=by
 intro pins s σ H R I h;refine Call_ (qk I a_ hm PyProof.Rows.boot_enumerate (tv (b2 (ay pos pins s σ H _ I h) λ us s1 ⟨vs,H1,a4,aX,z,ev,q⟩=>?_) (j3 ax) rfl));subst ev
 cases aX with
 | cons r cf=>
  cases cf;obtain ⟨t,rfl⟩:=r;refine call_enumerate_str λ h' a1 a2 _ eY=>?_;refine yi a1 ?_;refine ⟨s1.heap.objs.size+1,[s1.heap.objs.size+1,s1.heap.objs.size],_,_,H1,rfl,a4.kept (t':=s1.toks) eY,WK _ _ z t _ (WL z) (Nat.succ_ne_self _),⟨fi _,⟨_,a1⟩,a2⟩,λ b af=>?_,q⟩
  have fN:s1.heap.objs.size<=b:=by
   simp only [cB,fR,or_false] at af;rcases af with e | e<;>(rw [e];first | exact b4 _ | exact Nat.le_add_right _ _)
  exact a4.qm fN (a4.bU.fresh fN)
end
end L2
namespace L3
open PySem PySem.Spec L2
section
variable{X:aT}{es:List a9}{a:a9}{t:gK}{p pos:Pos}
def nc(z:Str):List D:=z.cps.toList.zipIdx.map λ c=>.tup [.int (c.2:Int),.str ⟨#[c.1]⟩]
abbrev WO(t:gK):kR:=λ ρ G R=>t ρ G λ ds aB=>match ds with
 | [.str z]=>R ⟨nc z,λ _=>True⟩ aB
 | _=>False
def WQ{k:Nat}{hq:Pos}(a_:ew X "enumerate")(hm:X.mg "enumerate" = none)(ay:iL X [a] t)(ax:gu a=true:=by rfl):oa X (.Tuple es k hq) (.Call (.Name "enumerate" p) [a] [] pos) (WO t):=by
 obtain ⟨ca,cn,cp⟩:=ay.run;refine ⟨_,⟨WN a_ hm cn.run ax⟩,λ ρ G l1 σ H R B q F=>cp ρ G _ σ H _ B q λ ds aB vs H1 g1 al ar aH=>?_⟩;split at aH
 ·next z=>
  obtain ⟨v,r,rfl,rfl,e⟩:=al;cases e;refine ⟨z,rfl,F ⟨nc z,λ _=>True⟩ _ aB H1 g1 (λ aY a3 g2 _=>⟨λ n d hd=>?_,λ n aA=>?_⟩) aH⟩
  ·replace hd:(nc z)[n]?=some d:=hd
   unfold nc at hd;rw [f3,vu] at hd
   cases am:z.cps.toList[n]? with
   | none=>rw [am] at hd;cases hd
   | some c=>
    rw [am] at hd;simp at hd;subst hd;have eG:=(jo.mp am).1;refine ⟨eG,λ x aj y=>?_⟩;obtain ⟨T,dm,aE,rfl,eo,rfl⟩:=y;rw [<- Array.getElem?_toList,am] at aE;cases aE;have g3:=Go.mV (o:=.tup [.int n,.str ⟨#[c]⟩]) g2.ck eo;exact ⟨g3,T,_,rfl,.of eF,⟨_,_,rfl,rfl,.one rfl⟩⟩
  ·replace aA:(nc z).length<=n:=aA
   unfold nc at aA;rw [cP,List.length_zipIdx] at aA;exact aA
 ·exact aH.elim
end
end L3
namespace L2
open PySem PySem.Spec PyProof.Rows
section
variable{X:aT}
def cz{α:Type}:List α->List α
 | x::_::r=>x::cz r
 | [x]=>[x]
 | []=>[]
theorem L5{α:Type}:∀(xs:List α)(i:Nat),(cz xs)[i]?=xs[2 * i]?
 | [],i=>by simp [cz]
 | [x],0=>rfl
 | [x],i+1=>by simp [cz]
 | x::y::r,0=>rfl
 | x::y::r,i+1=>by
  rw [cz,List.getElem?_cons_succ,L5 r i,show 2 * (i+1)=2 * i+1+1 by omega,List.getElem?_cons_succ,List.getElem?_cons_succ]
theorem D4{α:Type}:∀ xs:List α,(cz xs).length=(xs.length+1) / 2
 | []=>by simp [cz]
 | [x]=>by simp [cz]
 | x::y::r=>by rw [cz,be,D4 r,be,be];omega
def WR(aw:List Value)(a:Nat):yn aw.toArray (some (a:Int)) none (some 2)=(cz (aw.drop a)).toArray:=by
 unfold yn p5 sliceRange;simp only [vw,cH];congr 1;by_cases ay:a<=aw.length
 case neg=>
  have aE:(max (0:Int) (min (if (a:Int) < 0 then (a:Int)+aw.length else a) aw.length))=aw.length:=by rw [if_neg (by omega)];omega
  simp only [show (2:Int) > 0 by decide,if_true,aE];rw [if_neg (by omega),tk (by omega)];rfl
 have aE:(max (0:Int) (min (if (a:Int) < 0 then (a:Int)+aw.length else a) aw.length))=a:=by rw [if_neg (by omega)];omega
 simp only [show (2:Int) > 0 by decide,if_true,aE]
 have am:(if (a:Int) < (aw.length:Int) then ((aw.length:Int) - a+2 - 1) / 2 else 0).toNat=(cz (aw.drop a)).length:=by
  rw [D4,jQ];split<;>omega
 rw [am,List.filterMap_map]
 have hf:((λ x=>aw.toArray[x]?) ∘ λ(k:Nat)=>((a:Int)+2 * (k:Int)).toNat)=λ k=>(cz (aw.drop a)).toArray[k]?:=by
  funext k;show aw.toArray[((a:Int)+2 * (k:Int)).toNat]?=(cz (aw.drop a)).toArray[k]?;rw [show ((a:Int)+2 * (k:Int)).toNat=a+2 * k by omega,List.getElem?_toArray,List.getElem?_toArray,L5,List.getElem?_drop]
 rw [hf];have z:=PySem.W.krv_all (cz (aw.drop a)).toArray;rw [cH] at z;exact z
theorem L6:∀{xs:List V}{us:List Value}(n:Nat),Vals xs us->Vals (xs.drop n) (us.drop n)
 | _,_,0,r=>r
 | _,_,_+1,.nil=>.nil
 | _,_,n+1,.cons _ t=>L6 n t
theorem L7:∀{xs:List V}{us:List Value},Vals xs us->Vals (cz xs) (cz us)
 | _,_,.nil=>.nil
 | _,_,.cons r .nil=>.cons r .nil
 | _,_,.cons r (.cons _ t)=>.cons r (L7 t)
variable{e lo st:a9}{aW:TE}{eN bR:lh}{pos dN:Pos}
def WS(K:aV)(aW:TE)(eN bR:lh):TE:=λ σ H Q=>aW σ H λ x H1=>eN σ H1 λ l a3=>bR σ a3 λ k dy=>k=some 2/\∃(a:Addr)(xs:List V)(n:Nat),l=some (n:Int)/\x=.ref a/\d7 K dy a xs/\∀ p,dy p=none->Q (.ref p) (upd dy p (.lst (cz (xs.drop n))))
def WT(he:b5 X e aW)(ar:qp X (some lo) eN)(aD:qp X (some st) bR):b5 X (.Subscript e (.Slice (some lo) none (some st) dN) pos) (WS X.K aW eN bR):=by
 intro pins s σ H Q I h;refine yq (b2 (he pins s σ H _ I h) λ v s1 ⟨x,H1,a4,aX,aH⟩=>?_);refine wpAny_Slice (b2 (ar pins s1 σ H1 _ a4 aH) λ fW s2 ⟨l,a3,c5,pl,bl⟩=>?_);rw [yl];refine bC ?_;refine b2 (aD pins s2 σ a3 _ c5 bl) λ pC s3 ⟨k,dy,ei,iz,aE,a,xs,n,aP,e3,ai,dZ⟩=>?_;subst aE aP e3;cases aX;have il:Inv X pins σ dy { s3 with heap:=s3.heap.push { cls:=.type "slice", data:=.fields #[fW,.none,pC] } }:=ei.kept (t':=s3.toks) λ b dv q=>dQ _ q;obtain ⟨aw,r,bu,hz⟩:=il.list ai;have hlen:=r.length;show aZ (a8 X.prog X.w) X.A (yp e (.Slice (some lo) none (some st) dN) (.ref a) (.ref s3.heap.objs.size)) (gg X pins σ Q) X.xe { s3 with heap:=s3.heap.push { cls:=.type "slice", data:=.fields #[fW,.none,pC] } };refine tail_any (ops:=[.ref a,.ref s3.heap.objs.size]) bu.isList.typeIs slot_list_getitem.lookup ?_ (by with_unfolding_all rfl);refine W1 bu.isList (Heap.IsSliceOf.new ..) pl .none iz (by simp) ?_ (by rw [cH];omega);rw [WR aw n]
 have hle:(cz (xs.drop n)).length<=xs.length:=by rw [D4,jQ];omega
 refine ⟨.ref _,_,il.laid (t':=s3.toks) (o:=.lst (cz (xs.drop n))) (λ b dv q=>dQ _ q) (b4 _) ?_,rfl,dZ _ (il.bU.fresh (b4 _))⟩;exact ⟨by omega,_,0,L7 (L6 n r),hG _ rfl⟩
def WU:List V->av->cC->Prop:=λ xs H Q=>∃ z n,xs=[.str z]/\rz z=some n/\z.length<=640/\Q (.int n) H
def WV:hY X (.type "int") WU:=by
 intro pins s σ H xs us Q I r h;obtain ⟨z,n,rfl,aA,ar,q⟩:=h;obtain ⟨u,rfl,a7⟩:=n0 r;obtain ⟨t,rfl⟩:=a7;exact PySem.W.KIN.call_text aA ar ⟨.int n,H,I.tok _,⟨_,rfl⟩,q⟩
end
end L2
namespace L3
open PySem PySem.Spec L2
section
variable{X:aT}{e lo st:a9}{aW:cm}{eN bR:o8}{pos dN:Pos}
def afS:D->List D->aL->cJ->Prop:=λ x xs G Q=>match x,xs with
 | .ref l,[]=>kQ G l λ ds=>Q .bc (up G l (.lst ds.reverse))
 | _,_=>False
theorem bH.cz{K:aV}{H:av}:∀{ds:List D}{vs:List V},bH K H ds vs->bH K H (L2.cz ds) (L2.cz vs)
 | [],_,h=>by rw [show _=[] from h];rfl
 | [d],_,⟨v,r,e,q,l⟩=>by subst e;rw [show r=[] from l];exact ⟨v,[],rfl,q,rfl⟩
 | d::d'::ds,_,⟨v,r,e,q,kG,bD,bZ,hj,l⟩=>by subst e bZ;exact ⟨v,_,rfl,q,bH.cz l⟩
abbrev WW(aW:cm)(eN bR:o8):cm:=λ ρ G Q=>aW ρ G λ x aB=>eN ρ aB λ l aY=>bR ρ aY λ k d3=>k=some 2/\match x with
 | .ref a=>hb d3 a λ ds=>∃ n:Nat,l=some (n:Int)/\∀ p,d3 p=none->Q (.ref p) (up d3 p (.lst (L2.cz (ds.drop n))))
 | _=>False
def Aw(he:b7 X e aW)(ar:rR X (some lo) eN)(aD:rR X (some st) bR):b7 X (.Subscript e (.Slice (some lo) none (some st) dN) pos) (WW aW eN bR):=by
 obtain ⟨ce,j8,re⟩:=he.run;obtain ⟨cl,CR,dK⟩:=ar.run;obtain ⟨DD,DE,DF⟩:=aD.run;refine ⟨_,⟨WT j8.run CR.run DE.run⟩,λ ρ G az σ H Q B q F=>re ρ G _ σ H _ B q λ x aB v H1 g1 aN aH=>dK ρ aB _ σ H1 _ (B.go g1) aH λ l aY a3 g2 bl=>DF ρ aY _ σ a3 _ ((B.go g1).go g2) bl λ k d3 dy g3 ⟨aE,dZ⟩=>?_⟩
 cases x with
 | ref a=>
  cases aN;obtain ⟨ds,vs,⟨n,aP,k2⟩,s,r⟩:=ic g3.ck dZ;exact ⟨aE,a,vs,n,aP,rfl,s,λ p ah=>F (.ref p) _ _ _ (((g1.trans g2).trans g3).trans (Go.n7 g3.ck ah (r.drop n).cz)) rfl (k2 p (g3.ck.none ah))⟩
 | _=>exact (show False from dZ).elim
def WX:D->aL->cJ->Prop:=λ x G Q=>match x with
 | .str z=>∃ n,rz z=some n/\z.length<=640/\Q (.int n) G
 | _=>False
def WY:j4 X (.type "int") (m4 WX):=by
 refine ⟨_,⟨WV⟩,λ xs vs G H az Q v a r F=>?_⟩;obtain ⟨x,u,rfl,rfl,aN,r⟩:=pd r a
 cases x with
 | str z=>cases aN;obtain ⟨n,aA,ar,q⟩:=r;exact ⟨z,n,rfl,aA,ar,F (.int n) G _ H (.refl v) rfl q⟩
 | _=>exact (show False from r).elim
end
end L3
namespace L3
open PySem L2 PySem.NumText PyProof.Rows PySem.W PySem.W.KIN
abbrev eB(n:Int):Str:=Str.ofString (toString n)
abbrev jE(m:Nat):List Nat:=(ZB 10 m).map Char.toNat
def uu(m:Nat):AllDigits (jE m):=by
 intro c am;obtain ⟨ch,kF,e⟩:=hS.mp am;rw [<- e];exact digit_range (Nat.isDigit_of_mem_toDigits (by decide) (by decide) kF)
def sd(m:Nat):jE m≠[]:=by
 intro e;have h:=toDigits_len_ge 10 m;rw [List.map_eq_nil_iff.mp e] at h;exact absurd h (by decide)
def Ax{m:Nat}(h:m < 10 ^ 12):(jE m).length<=12:=by
 rw [cP];exact toDigits_len_pow (by decide) (by decide) h
def D5(m:Nat):(eB (m:Int)).cps.toList=jE m:=signs_num m
def D6(m:Nat):(eB (oJ m)).cps.toList=45::jE (m+1):=by
 rw [signs_ofString];show (("-"++Nat.repr (m+1)).toList.map Char.toNat)=_;rw [String.toList_append,mC,Nat.toList_repr];rfl
def D7{n:Int}(h:n.natAbs < 10 ^ 12):rz (eB n)=some n/\(eB n).length<=13:=by
 have ar:(eB n).cps.toList.length=(eB n).length:=hF
 cases n with
 | ofNat m=>
  have e:=D5 m;have l:=Ax h;have ar:(eB (m:Int)).cps.toList.length=(eB (m:Int)).length:=hF;rw [e] at ar
  have le:(eB (m:Int)).length<=12:=by rw [<- ar];exact l
  have z:=intText_digits (x:=eB (m:Int)) (by rw [e];exact uu m) (by rw [e];exact sd m) (by omega);rw [e,val_back] at z;exact ⟨z,by show (eB (m:Int)).length<=13;omega⟩
 | negSucc m=>
  have e:=D6 m;have l:=Ax (m:=m+1) h
  have le:(eB (oJ m)).length<=13:=by rw [<- ar,e,be];omega
  have z:=intText_neg (x:=eB (oJ m)) e (uu _) (sd _) (by omega);rw [val_back] at z;exact ⟨z,le⟩
def L8(m:Nat)(h:0 < m):(jE m).head?≠some 48:=by
 induction m using Nat.strongRecOn with
 | _ m bN=>
  by_cases ae:m < 10
  ·have key:∀ k < 10,0 < k->(jE k).head?≠some 48:=by trivial
   exact key m ae h
  ·have hm:m % 10 < 10:=Nat.mod_lt m (by decide);have t:ZB 10 (m / 10)++ZB 10 (m % 10)=ZB 10 (10 * (m / 10)+m % 10):=Nat.toDigits_append_toDigits (by decide) (by omega) hm;rw [Nat.div_add_mod] at t;have i:=bN (m / 10) (by omega) (by omega);have ne:=sd (m / 10);show ((ZB 10 m).map Char.toNat).head?≠_;rw [<- t,mC]
   cases e:jE (m / 10) with
   | nil=>exact absurd e ne
   | cons c r=>rw [show (ZB 10 (m / 10)).map Char.toNat=c::r from e];rw [e] at i;simpa using i
def jd(z:Str):Bool:=decide (1<=((bare z).length:Int))&&(decide (((bare z).length:Int)<=12)&&l_ (bare z) kV)&&(!Txt.startswith (bare z) "0"||z=="0")
def L9:kV.cps.toList=[48,49,50,51,52,53,54,55,56,57]:=by trivial
def L_{z:Str}{m:Nat}(e:z.cps.toList=jE m):l_ z kV=true:=by
 unfold l_;rw [e,L9,kA];intro c am;have:=uu m c am;rw [decide_eq_true_iff];simp;omega
def WZ{n:Int}(h:n.natAbs < 10 ^ 12):jd (eB n)=true:=by
 cases n with
 | ofNat m=>
  have e:=D5 m;have l:(jE m).length<=12:=Ax h
  have b:bare (eB (m:Int))=eB (m:Int):=by
   unfold bare;rw [dash,ut,e,if_neg];intro c;have c:=eq_of_beq c
   cases hd:jE m with
   | nil=>exact sd m hd
   | cons x r=>
    rw [hd] at c;cases c;have:=uu m 45 (by rw [hd];exact b3 ..);omega
  have ar:(eB (m:Int)).cps.toList.length=(eB (m:Int)).length:=hF;have cv:1<=(jE m).length:=vv.mpr (sd m);rw [e] at ar;show jd (eB (m:Int))=true;unfold jd;rw [b,L_ e,LX,ut,e,decide_eq_true (by omega),decide_eq_true (by omega)];by_cases h0:m=0
  ·subst h0;decide +kernel
  ·have:=L8 m (by omega)
   have df:((jE m).head?==some 48)=false:=by rw [beq_eq_false_iff_ne];exact this
   rw [df];rfl
 | negSucc m=>
  have e:=D6 m;have l:=Ax (m:=m+1) h;have ar:(eB (oJ m)).cps.toList.length=(eB (oJ m)).length:=hF
  have b:(bare (eB (oJ m))).cps.toList=jE (m+1):=by
   unfold bare;rw [dash,ut,e,if_pos (by rfl),PyProof.Rows.slice_from_eq (by decide) (by rw [<- ar,e,be];omega) rfl];show (((eB (oJ m)).cps.toList.drop 1).take _)=_;rw [e,rp,nL,tj];rw [<- ar,e,be];omega
  have af:(bare (eB (oJ m))).cps.toList.length=(bare (eB (oJ m))).length:=hF;have cv:1<=(jE (m+1)).length:=vv.mpr (sd _);rw [b] at af;unfold jd;rw [L_ b,LX,ut,b,decide_eq_true (by omega),decide_eq_true (by omega)]
  have df:((jE (m+1)).head?==some 48)=false:=by rw [beq_eq_false_iff_ne];exact L8 _ (by omega)
  rw [df];rfl
def Ay(n:Int):(∀ c∈(eB n).cps.toList,c=45\/48<=c/\c<=57)/\(eB n).cps.toList≠[]:=by
 cases n with
 | ofNat m=>show (∀ c∈(eB (m:Int)).cps.toList,_)/\(eB (m:Int)).cps.toList≠[];rw [D5];exact ⟨λ c am=>.inr (uu m c am),sd m⟩
 | negSucc m=>
  rw [D6];refine ⟨λ c am=>?_,by simp⟩;rcases cB.mp am with rfl | am
  ·exact .inl rfl
  ·exact .inr (uu _ c am)
end L3
namespace L3
open PySem PySem.Spec PyProof.Rows L2
inductive je:D->Prop
 | is (n:Int):n.natAbs < 10 ^ 12->je (.tup [.str "is", .int n])
 | some:je (.tup [.str "some"])
 | both {a b:D}:je a->je b->iP a=true->iP b=true->je (.tup [.str "both", a,b])
 | left {a:D}:je a->je (.tup [.str "left", a])
 | right {a:D}:je a->je (.tup [.str "right", a])
 | way {ds:List D} {k:D}:(∀ d∈ds,je d)->hy ds=true->je k->je (.tup [.str "way", .tup ds,k])
theorem je.iS{d:D}(h:je d):e2 d:=by
 induction h with
 | is n=>exact .is n
 | some=>exact .some
 | both _ _ d9 cZ ae ag=>exact .both ae ag d9 cZ
 | left _ h=>exact .left h
 | right _ h=>exact .right h
 | way _ s _ ae ag=>exact .way ae s ag
theorem je.l9{d:D}(h:je d):bM d:=h.iS.l9
def dB{α:Type}(s:α):List (List α)->List α
 | []=>[]
 | [x]=>x
 | x::y::r=>x++s::dB s (y::r)
inductive Tk:D->List Str->Prop
 | is (n:Int):n.natAbs < 10 ^ 12->Tk (.tup [.str "is", .int n]) [eB n]
 | some:Tk (.tup [.str "some"]) ["~"]
 | left {a:D} {x:List Str}:Tk a x->Tk (.tup [.str "left", a]) (("(" : Str)::(x++[(",":Str),(")":Str)]))
 | right {a:D} {x:List Str}:Tk a x->Tk (.tup [.str "right", a]) (("(" : Str)::("," : Str)::(x++[(")":Str)]))
 | both {a b:D} {x y:List Str}:Tk a x->Tk b y->Tk (.tup [.str "both", a,b]) (("(" : Str)::(x++("," : Str)::(y++[(")":Str)])))
 | way {ps:List (D × List Str)} {k:D} {y:List Str}:(∀ p∈ps,Tk p.1 p.2)->Tk k y->ps.length<=40->Tk (.tup [.str "way", .tup (ps.map (·.1)),k]) (("[" : Str)::(dB (" " : Str) (ps.map (·.2))++(":" : Str)::(y++[("]":Str)])))
theorem D8{P:D->List Str->Prop}:∀{ds:List D},(∀ d∈ds,∃ x,P d x)->∃ ps:List (D × List Str),ps.map (·.1)=ds/\∀ p∈ps,P p.1 p.2
 | [],_=>⟨[],rfl,by simp⟩
 | d::ds,h=>by
  obtain ⟨x,ai⟩:=h d (b3 ..);obtain ⟨ps,e,ah⟩:=D8 λ e he=>h e (cO _ he);refine ⟨(d,x)::ps,by rw [fh,e],λ p m=>?_⟩;rcases cB.mp m with rfl | m
  ·exact ai
  ·exact ah p m
theorem Ma{α:Type}{s:α}:∀ xs:List (List α),(dB s xs).length+1<=(xs.map λ x=>x.length+1).sum+1
 | []=>by simp [dB]
 | [x]=>by simp [dB]
 | x::y::r=>by
  have:=Ma (s:=s) (y::r);rw [dB,cI,be,fh,rq];omega
theorem Mb{α:Type}{s a:α}:∀{xs:List (List α)},a∈dB s xs->a=s\/∃ x∈xs,a∈x
 | [],h=>by simp [dB] at h
 | [x],h=>.inr ⟨x,by simp,h⟩
 | x::y::r,h=>by
  rw [dB] at h;rcases fH.mp h with h | h
  ·exact .inr ⟨x,by simp,h⟩
  ·rcases cB.mp h with h | h
   ·exact .inl h
   ·rcases Mb h with h | ⟨z,ae,ag⟩
    ·exact .inl h
    ·exact .inr ⟨z,cO _ ae,ag⟩
theorem Mc:∀{ps:List (D × List Str)},(∀ p∈ps,p.2.length+1<=2 * dc p.1)->((ps.map (·.2)).map λ x=>x.length+1).sum<=2 * cR (ps.map (·.1))
 | [],_=>by simp
 | p::ps,h=>by
  have ae:=h p (b3 ..);have ag:=Mc λ q aM=>h q (cO _ aM);simp only [fh,rq,cR] at *;omega
theorem Tk.len{d:D}{x:List Str}(h:Tk d x):x.length+1<=2 * dc d:=by
 induction h with
 | is n=>simp [dc,cR]
 | some=>simp [dc,cR]
 | left _ h=>simp only [be,cI,c7,dc,cR] at *;omega
 | right _ h=>simp only [be,cI,c7,dc,cR] at *;omega
 | both _ _ ae ag=>simp only [be,cI,c7,dc,cR] at *;omega
 | @way ps k y _ _ ar ae ag=>
  have a:=Ma (s:=(" " : Str)) (ps.map (·.2));have b:=Mc ae;simp only [be,cI,c7,dc,cR] at *;omega
theorem Tk.we{d:D}{x:List Str}(h:Tk d x):∀ z∈x,z.length<=13:=by
 have cv:∀ z∈([",", ")", "(", "[", "]", " ", ":", "~"]:List Str),z.length<=13:=by trivial
 induction h with
 | is n h=>intro z hz;simp at hz;subst hz;exact (D7 h).2
 | some=>intro z hz;exact cv z (by simp at hz;subst hz;simp)
 | left _ h=>
  intro z hz;simp only [cB,fH,fR,or_false] at hz;rcases hz with e | e | e | e
  ·exact cv z (by simp [e])
  ·exact h z e
  ·exact cv z (by simp [e])
  ·exact cv z (by simp [e])
 | right _ h=>
  intro z hz;simp only [cB,fH,fR,or_false] at hz;rcases hz with e | e | e | e
  ·exact cv z (by simp [e])
  ·exact cv z (by simp [e])
  ·exact h z e
  ·exact cv z (by simp [e])
 | both _ _ ae ag=>
  intro z hz;simp only [cB,fH,fR,or_false] at hz;rcases hz with e | e | e | e | e
  ·exact cv z (by simp [e])
  ·exact ae z e
  ·exact cv z (by simp [e])
  ·exact ag z e
  ·exact cv z (by simp [e])
 | way _ _ _ ae ag=>
  intro z hz;simp only [cB,fH,fR,or_false] at hz;rcases hz with e | e | e | e | e
  ·exact cv z (by simp [e])
  ·rcases Mb e with e | ⟨x,ai,e⟩
   ·exact cv z (by simp [e])
   ·obtain ⟨p,ah,rfl⟩:=hS.mp ai;exact ae p ah z e
  ·exact cv z (by simp [e])
  ·exact ag z e
  ·exact cv z (by simp [e])
def cat:List Str->List Nat
 | []=>[]
 | z::r=>z.cps.toList++cat r
theorem dj:∀ x y:List Str,cat (x++y)=cat x++cat y
 | [],y=>rfl
 | z::x,y=>by rw [de,cat,cat,dj x y,c_]
def cK(l:List Nat):Str:=⟨l.toArray⟩
abbrev txt(x:List Str):Str:=cK (cat x)
def dk(l:List Nat):(cK l).cps.toList=l:=rfl
def ma{a b:Str}(h:a.cps.toList=b.cps.toList):a=b:=by
 obtain ⟨x⟩:=a;obtain ⟨y⟩:=b;rw [show x=y from Array.toList_inj.mp h]
def f_(a b:Str):(a++b).cps.toList=a.cps.toList++b.cps.toList:=PySem.W.KT.app_list a b
theorem Md:∀{x:List Str},(∀ z∈x,z.length<=13)->(cat x).length<=13 * x.length
 | [],_=>by simp [cat]
 | z::x,h=>by
  have ae:=h z (b3 ..);have ag:=Md λ y bP=>h y (cO _ bP);have e:z.cps.toList.length=z.length:=hF;rw [cat,cI,be];omega
def W0(ys:List Str):Txt.join "" ys=cK (cat ys):=by
 rw [eq_of_beq (PyProof.Rows.join_plain_closes "" ys)];refine ma ?_;rw [dk]
 have he:(("" : String):Str).cps.toList=[]:=by trivial
 induction ys with
 | nil=>rfl
 | cons y ys bN=>
  cases ys with
  | nil=>simp [Str.join,cat]
  | cons z zs=>rw [show Str.join "" (y::z::zs)=y++""++Str.join "" (z::zs) from rfl,f_,f_,he,bN,eP];rfl
def iA:((" " : String):Str).cps.toList=[32]:=by trivial
def Az(xs:List (List Str)):Txt.join " " (xs.map txt)=txt (dB (" " : Str) xs):=by
 rw [eq_of_beq (PyProof.Rows.join_plain_closes " " _)];refine ma ?_;rw [dk]
 induction xs with
 | nil=>rfl
 | cons y ys bN=>
  cases ys with
  | nil=>rfl
  | cons z zs=>
   rw [show Str.join " " ((y::z::zs).map txt)=txt y++" "++Str.join " " ((z::zs).map txt) from rfl,f_,f_,bN,dB,dj,cat,c_];rfl
def bh(S:List Nat):List Nat->List Nat->List Str
 | cur,[]=>if cur=[] then [] else [cK cur]
 | cur,c::r=>if c∈S then (if cur=[] then [] else [cK cur])++cK [c]::bh S [] r else bh S (cur++[c]) r
def jf(S rest:List Nat):Prop:=rest=[]\/∃ c r,rest=c::r/\c∈S
def gB{S:List Nat}{c:Nat}{r:List Nat}(h:c∈S):bh S [] (c::r)=cK [c]::bh S [] r:=by
 rw [bh,if_pos h,if_pos rfl];rfl
theorem qJ{S rest:List Nat}(ak:jf S rest):∀(l cur:List Nat),(∀ c∈l,c ∉ S)->cur++l≠[]->bh S cur (l++rest)=cK (cur++l)::bh S [] rest
 | [],cur,_,cX=>by
  rw [eP] at cX ⊢;rcases ak with rfl | ⟨c,r,rfl,am⟩
  ·rw [h7,bh,if_neg cX,bh,if_pos rfl]
  ·rw [h7,bh,if_pos am,if_neg cX,gB am];rfl
 | c::l,cur,h,_=>by
  rw [de,bh,if_neg (h c (b3 ..)),qJ ak l (cur++[c]) (λ d hd=>h d (cO _ hd)) (by simp),c_];rfl
abbrev d6:List Nat:=[91,93,40,41,32,58,44,126]
def W2:(("[]() :,~" : String):Str).cps.toList=d6:=by trivial
def D9(x:List Str):Prop:=∀ rest,jf d6 rest->bh d6 [] (cat x++rest)=x++bh d6 [] rest
def kW{z:Str}{c:Nat}(h:z=cK [c])(x:List Str)(rest:List Nat)(am:c∈d6):bh d6 [] (cat (z::x)++rest)=z::bh d6 [] (cat x++rest):=by
 subst h;exact gB am
def se{z:Str}{c:Nat}(h:z=cK [c])(x:List Str)(rest:List Nat)(am:c∈d6):jf d6 (cat (z::x)++rest):=by
 subst h;exact .inr ⟨c,_,rfl,am⟩
def fl:(("(" : String):Str)=cK [40]:=by trivial
def fm:((")" : String):Str)=cK [41]:=by trivial
def pE:(("[" : String):Str)=cK [91]:=by trivial
def pF:(("]" : String):Str)=cK [93]:=by trivial
def nd:((" " : String):Str)=cK [32]:=by trivial
def sf:((":" : String):Str)=cK [58]:=by trivial
def iT:(("," : String):Str)=cK [44]:=by trivial
def mb:(("~" : String):Str)=cK [126]:=by trivial
theorem Me:∀{xs:List (List Str)},(∀ x∈xs,D9 x)->D9 (dB (" " : Str) xs)
 | [],_,rest,_=>rfl
 | [x],h,rest,ak=>h x (by simp) rest ak
 | x::y::r,h,rest,ak=>by
  rw [dB,dj,c_,h x (by simp) _ (se nd _ _ (by decide)),kW nd _ _ (by decide),Me (λ z hz=>h z (cO _ hz)) rest ak,c_];rfl
theorem Tk.Mf{d:D}{x:List Str}(h:Tk d x):D9 x:=by
 induction h with
 | is n aA=>
  intro rest ak;obtain ⟨ae,ag⟩:=Ay n;have z:=qJ ak (eB n).cps.toList [] (λ c am dr=>by have:=ae c am;simp at dr;omega) (by simpa using ag);rw [cat,cat,eP,z];rfl
 | some=>intro rest ak;rw [kW mb _ _ (by decide)];rfl
 | left _ h=>
  intro rest ak;rw [kW fl _ _ (by decide),dj,c_,h _ (se iT _ _ (by decide)),kW iT _ _ (by decide),kW fm _ _ (by decide)];simp [cat]
 | right _ h=>
  intro rest ak;rw [kW fl _ _ (by decide),kW iT _ _ (by decide),dj,c_,h _ (se fm _ _ (by decide)),kW fm _ _ (by decide)];simp [cat]
 | both _ _ ae ag=>
  intro rest ak;rw [kW fl _ _ (by decide),dj,c_,ae _ (se iT _ _ (by decide)),kW iT _ _ (by decide),dj,c_,ag _ (se fm _ _ (by decide)),kW fm _ _ (by decide)];simp [cat]
 | @way ps k y _ _ ar ae ag=>
  intro rest ak
  have g:=Me (xs:=ps.map (·.2)) λ x ai=>by obtain ⟨p,ah,rfl⟩:=hS.mp ai;exact ae p ah
  rw [kW pE _ _ (by decide),dj,c_,g _ (se sf _ _ (by decide)),kW sf _ _ (by decide),dj,c_,ag _ (se pF _ _ (by decide)),kW pF _ _ (by decide)];simp [cat]
theorem Tk.pieces{d:D}{x:List Str}(h:Tk d x):bh d6 [] (cat x)=x:=by
 have:=h.Mf [] (.inl rfl);rw [eP,bh,if_pos rfl,eP] at this;exact this
abbrev kX(ds:List D):List D:=dB (.str " ") (ds.map λ d=>[d])
def D_(d e:D)(ds:List D):kX (d::e::ds)=d::.str " "::kX (e::ds):=rfl
theorem Mg:∀ ds:List D,cz (kX ds)=ds/\cz ((kX ds).drop 1)=fs (ds.length - 1) (.str " ")
 | []=>⟨rfl,rfl⟩
 | [d]=>⟨rfl,rfl⟩
 | d::e::ds=>by
  obtain ⟨ae,ag⟩:=Mg (e::ds);rw [D_];refine ⟨by rw [cz,ae],?_⟩;rw [rp,nL]
  have ai:∀(a:D)(l:List D),cz (a::l)=a::cz (l.drop 1):=λ a l=>by cases l<;>rfl
  rw [ai,ag];rfl
end L3
namespace L3
open PySem PySem.Spec L2
theorem bH.rep{K:aV}{H:av}{ds:List D}{vs:List V}(h:bH K H ds vs):∀ n,bH K H (fs n ds).flatten (fs n vs).flatten
 | 0=>rfl
 | n+1=>by rw [nM,nM,vp,vp];exact h.append (bH.rep h n)
end L3
namespace L2
open PySem PySem.Spec PyProof.Rows
section
variable{X:aT}
def W3{α:Type}(xs:List α)(n:Nat)(ae:n<=10000)(ag:xs.length<=100):(fs n xs).flatten.length<=1000000:=by
 have e:(fs n xs).flatten.length=n * xs.length:=by simp
 have:=Nat.mul_le_mul ae ag;omega
def W4(K:aV):eZ:=λ x y H Q=>∃(a:Addr)(xs:List V)(n:Int),x=.ref a/\y=.int n/\d7 K H a xs/\-1000<=n/\n<=10000/\xs.length<=100/\∀ p,H p=none->Q (.ref p) (upd H p (.lst (fs n.toNat xs).flatten))
def W5:d8 X (hC .Mult) (W4 X.K):=by
 intro pins s σ H x y v u Q I a7 cD h;obtain ⟨a,xs,n,rfl,rfl,ay,h0,aA,ai,q⟩:=h;cases a7;obtain ⟨t,rfl⟩:=cD;obtain ⟨aw,r,p,hz⟩:=I.list ay;have hlen:=r.length
 have mH:n.toNat<=10000:=by omega
 obtain ⟨⟨cls,d,data,bq⟩,aR,qK,k,hd⟩:=id p.isList;simp only at qK hd;subst qK hd
 have afT:aw.toArray.size * n.toNat<=1000000:=by
  rw [cH,<- hlen];have:=Nat.mul_le_mul ai mH;omega
 refine wpAny_binaryOp_repeat_ref (T:="list") (U:="int") (by decide) ⟨_,aR,rfl⟩ (λ aQ=>typeIs_int aQ n t) noFill_list_mul F.fills_int_mul F.slot_int_rmul repeat_list F.slot_int_index.lookup
  (rb F.slot_int_rmul (typeIs_int s n t) F.entry_int_rmul (F.args_int_rmul_2 _ _) (lm_int_rmul_list_any n t a aw.toArray k d bq)
   ⟨aR,rfl,⟨_,aR,rfl⟩,rb F.slot_list_mul ⟨_,aR,rfl⟩ F.entry_list_mul (F.args_list_mul_2 _ _)
    (lm_list_mul_any a aw.toArray k d bq n t (by simp [Builtin.List.listFitsIndex];omega) (by omega) (by unfold Builtin.List.listTooLong;rw [decide_eq_true_eq,hP];omega))
    ⟨aR,?_⟩⟩)
 rw [listMul_foldl_if];refine ⟨.ref s.heap.objs.size,_,I.laid (t':=s.toks) (o:=.lst (fs n.toNat xs).flatten) (λ b dv q=>dQ _ q) (b4 _) ?_,rfl,q _ (I.bU.fresh (b4 _))⟩;exact ⟨by have:=W3 xs n.toNat mH ai;rw [hP];omega,_,0,JH r n.toNat,hG _ rfl⟩
end
end L2
namespace L3
open PySem PySem.Spec L2
section
variable{X:aT}
def Mh:h1:=λ x y G Q=>match x,y with
 | .ref l,.int n=>hb G l λ ds=>-1000<=n/\n<=10000/\ds.length<=100/\∀ p,G p=none->Q (.ref p) (up G p (.lst (fs n.toNat ds).flatten))
 | _,_=>False
def Mi:gv X (hC .Mult) Mh:=by
 refine ⟨_,⟨W5⟩,λ x y eL ib G H az Q v aN a6 r F=>?_⟩;unfold Mh at r;split at r
 ·next l n=>
  cases aN;cases a6;obtain ⟨ds,vs,⟨h0,ae,ag,k⟩,s,dK⟩:=ic v r;exact ⟨l,vs,n,rfl,rfl,s,h0,ae,by rw [dK.len];exact ag,λ p ah=>F (.ref p) _ _ _ (Go.n7 v ah (dK.rep _)) rfl (k p (v.none ah))⟩
 ·exact r.elim
end
def W6:((",)" : String):Str).cps.toList=(("," : String):Str).cps.toList++((")" : String):Str).cps.toList:=by trivial
def W7:(("(," : String):Str).cps.toList=(("(" : String):Str).cps.toList++(("," : String):Str).cps.toList:=by trivial
def Ea:fe:=λ ds G Q=>∃ z:Str,ds=[.str z,.int 12]/\z.length<=7000/\Q (.aJ (jd z)) G
abbrev Eb:Str:="[]() :,~"
def W8(xd:Str)(S:List Nat):fe:=λ ds G Q=>∃ z:Str,ds=[.str z,.str xd]/\z.length<=300000/\∀ l,G l=none->Q (.ref l) (up G l (.lst ((bh S [] z.cps.toList).map D.str)))
def Mj:fe:=λ ds G Q=>∃ z:Str,ds=[.str z,.str Eb]/\z.length<=300000/\∀ l,G l=none->Q (.ref l) (up G l (.lst ((bh d6 [] z.cps.toList).map D.str)))
inductive sg:D->Prop
 | int (n:Int):sg (.int n)
 | str (z:Str):sg (.str z)
 | tup {ds:List D}:(∀ d∈ds,sg d)->sg (.tup ds)
theorem bM.ad{d:D}(h:bM d):sg d:=by
 induction h with
 | is n=>exact .tup λ d hd=>by simp at hd;rcases hd with rfl | rfl;exact .str _;exact .int _
 | some=>exact .tup λ d hd=>by simp at hd;subst hd;exact .str _
 | both _ _ ae ag=>exact .tup λ d hd=>by simp at hd;rcases hd with rfl | rfl | rfl;exact .str _;exact ae;exact ag
 | left _ ae=>exact .tup λ d hd=>by simp at hd;rcases hd with rfl | rfl;exact .str _;exact ae
 | right _ ae=>exact .tup λ d hd=>by simp at hd;rcases hd with rfl | rfl;exact .str _;exact ae
 | way _ _ ae ag=>exact .tup λ d hd=>by simp at hd;rcases hd with rfl | rfl | rfl;exact .str _;exact .tup ae;exact ag
def xf{α:Type}(x:α)(r:List α):cut (x::r) (some 1) none=r:=Wj (xs:=x::r) (k:=1) (by simp)
def AA{n:Nat}(h:n<=700000):n < sizeLine:=by rw [hP];omega
def big{n:Nat}(h:n<=700000):n<=sizeLine:=by rw [hP];omega
def W9{m:Nat}(h:m < 10 ^ 12):m.log2 < 1920:=by
 by_cases h0:m=0
 ·subst h0;decide
 ·have:m.log2 < 40:=(Nat.log2_lt h0).mpr (tm h (by decide));omega
theorem Mk:∀ ys:List Str,(ys.map (·.length)).sum=(cat ys).length
 | []=>rfl
 | y::ys=>by rw [fh,rq,Mk ys,cat,cI];rfl
def Ec{ds:List D}{i:Int}{j:Nat}{d:D}(h0:i < 0)(ae:(j:Int)=ds.length+i)(h:ds[j]?=some d):gj ds i=some d:=by
 have e:kN ds.length i=some j:=by
  unfold kN;rw [if_neg (by omega),if_pos (by omega)];congr 1;omega
 unfold gj;rw [e];exact h
theorem Ed(z:Str):∀ n,ek (fs n (.str z)) (fs n (.str z))=true
 | 0=>rfl
 | n+1=>by rw [nM,ek,Ed z n];simp [cw]
theorem Ee(z:Str):∀ n,cY (fs n (.str z))=true/\cb (fs n (.str z))<=150
 | 0=>⟨rfl,by simp [cb]⟩
 | n+1=>by
  obtain ⟨ae,ag⟩:=Ee z n;rw [nM];exact ⟨by rw [cY,ae];rfl,by rw [cb];simp only [D.aS];omega⟩
theorem Ef(z:D):∀ n,(fs n [z]).flatten=fs n z
 | 0=>rfl
 | n+1=>by rw [nM,vp,Ef z n];rfl
structure Frs(G:aL)(fr:Addr)(aC:List (Addr × List D)):Prop where
 top:G fr=some (.lst ((aC.map (·.1)).reverse.map D.ref))
 at_:∀ p∈aC,G p.1=some (.lst p.2)
 bv:(aC.map (·.1)).Nodup
 ne:∀ p∈aC,p.1≠fr
theorem Frs.push{G:aL}{fr q:Addr}{aC:List (Addr × List D)}{f:List D}(h:Frs G fr aC)(aM:G q=none):Frs (up (up G q (.lst f)) fr (.lst ((aC.map (·.1)).reverse.map D.ref++[.ref q]))) fr ((q,f)::aC):=by
 have c3:q≠fr:=by rintro rfl;rw [h.top] at aM;cases aM
 have b8:∀ p∈aC,p.1≠q:=λ p ah e=>by rw [<- e,h.at_ p ah] at aM;cases aM
 refine ⟨by rw [bg];simp,λ p ah=>?_,?_,λ p ah=>?_⟩
 ·rcases cB.mp ah with rfl | ah
  ·rw [dh c3];exact bg
  ·rw [dh (h.ne p ah),dh (b8 p ah)];exact h.at_ p ah
 ·rw [fh,rl];refine ⟨λ m=>?_,h.bv⟩;obtain ⟨p,ah,e⟩:=hS.mp m;exact b8 p ah e
 ·rcases cB.mp ah with rfl | ah
  ·exact c3
  ·exact h.ne p ah
theorem Frs.pop{G:aL}{fr:Addr}{p:Addr × List D}{aC:List (Addr × List D)}(h:Frs G fr (p::aC)):Frs (up G fr (.lst ((aC.map (·.1)).reverse.map D.ref))) fr aC:=
 ⟨bg,λ q aM=>by rw [dh (h.ne q (cO _ aM))];exact h.at_ q (cO _ aM),(rl.mp h.bv).2,λ q aM=>h.ne q (cO _ aM)⟩
theorem Frs.set{G:aL}{fr a:Addr}{t t':List D}{aC:List (Addr × List D)}(h:Frs G fr ((a,t)::aC)):Frs (up G a (.lst t')) fr ((a,t')::aC):=by
 have c3:=h.ne (a,t) (b3 ..);refine ⟨by rw [dh c3.symm];exact h.top,λ p ah=>?_,h.bv,λ p ah=>?_⟩
 ·rcases cB.mp ah with rfl | ah
  ·exact bg
  ·rw [dh]
   ·exact h.at_ p (cO _ ah)
   ·intro e;exact (rl.mp h.bv).1 (by rw [<- e];exact h8 (f:=(·.1)) ah)
 ·rcases cB.mp ah with rfl | ah
  ·exact c3
  ·exact h.ne p (cO _ ah)
theorem Sub.ext'{G aB:aL}{p:Addr}{o:ha}(h:Sub G aB)(n:aB p=tq):Sub G (up aB p o):=λ b u e=>Sub.new (Sub.refl _) n b u (h b u e)
def xg(z:Str):txt [z]=z:=ma (by simp [dk,cat])
theorem Tk.sh{d:D}{x:List Str}(h:Tk d x)(ax:dc d<=9100):(txt x).length<=240000:=by
 have ae:=h.len;have ag:=Md h.we;show (cat x).length<=_;omega
def gb(a b:Str):(a++b).length=a.length+b.length:=by
 show (a.cps++b.cps).size=_;rw [Array.size_append];rfl
def lits{z t:Str}(ae:z.length<=2)(ag:t.length<=240000):z.length+t.length<=sizeLine:=big (by omega)
def AB{z t:Str}(ae:z.length<=2)(ag:t.length<=240002):t.length+z.length<=sizeLine:=big (by omega)
def AC{z t:Str}(ae:z.length<=2)(ag:t.length<=240000):(z++t).length<=240002:=by rw [gb];omega
def W_:(("," : String):Str).length=1:=by decide
def Xa:((":" : String):Str).length=1:=by decide
def Ml:((")" : String):Str).length=1:=by decide
def Xb:(("]" : String):Str).length=1:=by decide
theorem xh:∀ xs:List (List Str),(xs.map λ x=>(cat x).length).sum<=(cat (dB (" " : Str) xs)).length
 | []=>b4 _
 | [x]=>by simp [dB]
 | x::y::r=>by
  have:=xh (y::r);rw [dB,dj,cat,cI,cI,fh,rq];omega
abbrev cA:List Nat:=[40,41,91,93,32,35,46,126]
def Xc:(("()[] #.~" : String):Str).cps.toList=cA:=by trivial
theorem kg(S:List Nat):∀ l cur,cat (bh S cur l)=cur++l
 | [],cur=>by
  rw [bh,eP];split
  ·next h=>rw [h];rfl
  ·simp [cat,dk]
 | c::l,cur=>by
  rw [bh];split
  ·rw [dj,cat,kg S l []];split
   ·next h=>rw [h];rfl
   ·simp [cat,dk]
  ·rw [kg S l,c_];rfl
theorem qL{S rest:List Nat}(ak:jf S rest):∀ l cur,bh S cur (l++rest)=bh S cur l++bh S [] rest
 | [],cur=>by
  rw [h7];rcases ak with rfl | ⟨c,r,rfl,am⟩
  ·simp [bh]
  ·conv=>lhs;rw [bh,if_pos am]
   rw [gB am,bh]
 | c::l,cur=>by
  rw [de,bh,bh];split
  ·rw [qL ak l [],c_];rfl
  ·rw [qL ak l]
def Eg(S:List Nat)(x:List Str):Prop:=∀ z∈x,(∃ c∈S,z=cK [c])\/(z.cps.toList≠[]/\∀ c∈z.cps.toList,c ∉ S)
theorem Eh(S:List Nat):∀ l cur,(∀ c∈cur,c ∉ S)->Eg S (bh S cur l)
 | [],cur,h,z,hz=>by
  rw [bh] at hz;split at hz
  ·cases hz
  ·next cX=>simp at hz;subst hz;exact .inr ⟨cX,h⟩
 | c::l,cur,h,z,hz=>by
  rw [bh] at hz;split at hz
  ·next am=>
   rcases fH.mp hz with hz | hz
   ·split at hz
    ·cases hz
    ·next cX=>simp at hz;subst hz;exact .inr ⟨cX,h⟩
   ·rcases cB.mp hz with rfl | hz
    ·exact .inl ⟨c,am,rfl⟩
    ·exact Eh S l [] (by simp) z hz
  ·next am=>exact Eh S l (cur++[c]) (λ d hd=>by rcases fH.mp hd with hd | hd;exact h d hd;simp at hd;subst hd;exact am) z hz
theorem AD(S:List Nat):∀ l cur,(bh S cur l).length<=cur.length+l.length
 | [],cur=>by
  rw [bh];split
  ·simp
  ·next h=>
   have:1<=cur.length:=vv.mpr h;simp;omega
 | c::l,cur=>by
  rw [bh];split
  ·have:=AD S l [];rw [cI,be];split
   ·simp only [c7,be] at *;omega
   ·next h=>
    have:1<=cur.length:=vv.mpr h;simp only [c7,be] at *;omega
  ·have:=AD S l (cur++[c]);simp only [cI,c7,be] at *;omega
def pG(e c:Nat):Option Nat:=
 if e=0/\(c=32\/c=41\/c=93) then none else if c=40\/c=91 then some (e+1) else if c=41\/c=93 then some (e - 1) else some e
def fO:Nat->List Nat->Option Nat
 | e,[]=>some e
 | e,c::l=>(pG e c).bind λ bZ=>fO bZ l
theorem nf:∀(l:List Nat){e bZ:Nat}{r:List Nat},fO e l=some bZ->fO e (l++r)=fO bZ r
 | [],e,bZ,r,h=>by cases h;rfl
 | c::l,e,bZ,r,h=>by
  rw [de,fO] at *
  cases ax:pG e c with
  | none=>rw [ax] at h;cases h
  | some aE=>rw [ax] at h;exact nf l h
theorem uv{e:Nat}:∀{l:List Nat},(∀ c∈l,c≠32/\c≠41/\c≠40/\c≠91/\c≠93)->fO e l=some e
 | [],_=>rfl
 | c::l,h=>by
  have ae:=h c (b3 ..);have ag:=uv (e:=e) λ d hd=>h d (cO _ hd);rw [fO,pG,if_neg (by omega),if_neg (by omega),if_neg (by omega)];exact ag
def Ei(l:List Nat):Prop:=∀ e,fO e l=some e
def AE{l:List Nat}(o c:Nat)(aR:o=40\/o=91)(am:c=41\/c=93)(h:∀ e,0 < e->fO e l=some e):Ei (o::(l++[c])):=λ e=>by
 rw [fO,pG,if_neg (by omega),if_pos aR];show fO (e+1) (l++[c])=some e;rw [nf l (h (e+1) (by omega)),fO,pG,if_neg (by omega),if_neg (by omega),if_pos am];rfl
theorem Mm:∀{xs:List (List Str)},(∀ x∈xs,Ei (cat x))->∀ e,0 < e->fO e (cat (dB (" " : Str) xs))=some e
 | [],_,e,_=>rfl
 | [x],h,e,_=>h x (by simp) e
 | x::y::r,h,e,he=>by
  rw [dB,dj,nf _ (h x (by simp) e),cat,iA];show fO e (32::cat (dB (" " : Str) (y::r)))=some e;rw [fO,pG,if_neg (by omega),if_neg (by omega),if_neg (by omega)];exact Mm (λ z hz=>h z (cO _ hz)) e he
def AF{d:D}{x:List Str}(h:Tk d x):Ei (cat x):=by
 have dx:∀ e,fO e [44]=some e:=λ e=>uv (by simp);have cV:∀ e,fO e [58]=some e:=λ e=>uv (by simp)
 induction h with
 | is n aA=>
  intro e;rw [cat,cat,eP];exact uv λ c am=>by have:=(Ay n).1 c am;omega
 | some=>intro e;rw [mb];exact uv (by simp [cat,cK])
 | @left a x _ h=>
  have e:cat ("("::(x++[(",":Str),(")":Str)]))=40::((cat x++[44])++[41]):=by rw [fl,iT,fm];simp [cat,dj,dk]
  rw [e];exact AE _ _ (.inl rfl) (.inl rfl) λ e _=>by rw [nf _ (h e)];exact dx e
 | @right a x _ h=>
  have e:cat ("("::","::(x++[(")":Str)]))=40::(([44]++cat x)++[41]):=by rw [fl,iT,fm];simp [cat,dj,dk]
  rw [e];exact AE _ _ (.inl rfl) (.inl rfl) λ e _=>by rw [nf _ (dx e)];exact h e
 | @both a b x y _ _ ae ag=>
  have e:cat ("("::(x++("," : Str)::(y++[(")":Str)])))=40::((cat x++([44]++cat y))++[41]):=by rw [fl,iT,fm];simp [cat,dj,dk]
  rw [e];exact AE _ _ (.inl rfl) (.inl rfl) λ e _=>by rw [nf _ (ae e),nf _ (dx e)];exact ag e
 | @way ps k y _ _ _ ae ag=>
  have e:cat ("["::(dB (" " : Str) (ps.map (·.2))++(":" : Str)::(y++[("]":Str)])))=91::((cat (dB (" " : Str) (ps.map (·.2)))++([58]++cat y))++[93]):=by rw [pE,sf,pF];simp [cat,dj,dk]
  rw [e]
  exact AE _ _ (.inr rfl) (.inr rfl) λ e he=>by
   rw [nf _ (Mm (λ x ai=>by obtain ⟨p,ah,rfl⟩:=hS.mp ai;exact ae p ah) e he),nf _ (cV e)];exact ag e
def hK:List Str:=["way", "left", "right", "first", "second"]
def hA:List Str:=["both", "plus", "look"]
inductive iU:Str->List D->D->Prop
 | un {w:Str} (p:D):w∈hK->iU w [p] (.tup [.str w,p])
 | bi {w:Str} (p q:D):w∈hA->iU w [p,q] (.tup [.str w,p,q])
 | give (p:D) (ps:List D):ps.length<=6->iU "give" (p::ps) (.tup [.str "give", p,.tup ps])
def br:List (List Str)->List Str
 | []=>[]
 | x::xs=>" "::(x++br xs)
inductive dC:D->List Str->Prop
 | some:dC (.tup [.str "some"]) ["~"]
 | whole:dC (.tup [.str "whole"]) ["."]
 | name {k:D} {x:List Str}:Tk k x->e2 k->h3 9100 120 40 k->(cat x).length<=1300->dC (.tup [.str "name", k]) (("#" : Str)::bh cA [] (cat x))
 | node {w:Str} {ps:List (D × List Str)} {d:D}:iU w (ps.map (·.1)) d->(∀ p∈ps,dC p.1 p.2)->dC d (("(" : Str)::w::(br (ps.map (·.2))++[(")" : Str)]))
def jF{w:Str}{ds:List D}{d:D}(h:iU w ds d):w∈hK++hA++[("give" : Str)]:=by
 cases h with
 | un _ h=>simp [h]
 | bi _ _ h=>simp [h]
 | give=>simp
def ol:∀ w∈hK++hA++[("give" : Str)],w.cps.toList≠[]/\(∀ c∈w.cps.toList,c ∉ cA)/\w.length<=6:=by trivial
def si{w:Str}{ds:List D}{d:D}(h:iU w ds d):ds≠[]/\ds.length<=7:=by
 cases h with
 | un=>simp
 | bi=>simp
 | give p ps h=>simp;omega
def pH:(("#" : String):Str)=cK [35]:=by trivial
def uw:(("." : String):Str)=cK [46]:=by trivial
def AG(x:List Str):Prop:=∀ rest,jf cA rest->bh cA [] (cat x++rest)=x++bh cA [] rest
def ux{z:Str}{c:Nat}(h:z=cK [c])(x:List Str)(rest:List Nat)(am:c∈cA):bh cA [] (cat (z::x)++rest)=z::bh cA [] (cat x++rest):=by
 subst h;exact gB am
def Ej{z:Str}{c:Nat}(h:z=cK [c])(x:List Str)(rest:List Nat)(am:c∈cA):jf cA (cat (z::x)++rest):=by
 subst h;exact .inr ⟨c,_,rfl,am⟩
def uy(xs:List (List Str)){rest:List Nat}(ak:jf cA rest):jf cA (cat (br xs)++rest):=by
 cases xs with
 | nil=>exact ak
 | cons x xs=>exact Ej nd _ _ (by decide)
theorem Ek:∀{xs:List (List Str)},(∀ x∈xs,AG x)->AG (br xs)
 | [],_,rest,_=>rfl
 | x::xs,h,rest,ak=>by
  rw [br,ux nd _ _ (by decide),dj,c_,h x (by simp) _ (uy xs ak),Ek (λ z hz=>h z (cO _ hz)) rest ak];simp
def sj{d:D}{x:List Str}(h:dC d x):AG x:=by
 induction h with
 | some=>intro rest ak;rw [ux mb _ _ (by decide)];rfl
 | whole=>intro rest ak;rw [ux uw _ _ (by decide)];rfl
 | @name k x _ _ _ _=>intro rest ak;rw [ux pH _ _ (by decide),kg,h7,qL ak];rfl
 | @node w ps d aA _ h=>
  intro rest ak;obtain ⟨gi,eu,_⟩:=ol w (jF aA)
  have dT:=Ek (xs:=ps.map (·.2)) λ x ai=>by obtain ⟨p,ah,rfl⟩:=hS.mp ai;exact h p ah
  rw [ux fl _ _ (by decide),cat,c_,qJ (show jf cA (cat (br (ps.map (·.2))++[(")" : Str)])++rest) by rw [dj,c_];exact uy _ (Ej fm _ _ (by decide))) _ _ eu (by simpa using gi),dj,c_,dT _ (Ej fm _ _ (by decide)),ux fm _ _ (by decide)];simp [cat,cK]
def xi{d:D}{x:List Str}(h:dC d x):bh cA [] (cat x)=x:=by
 have:=sj h [] (.inl rfl);rw [eP,bh,if_pos rfl,eP] at this;exact this
def eC:List D->List D
 | []=>[]
 | d::ds=>.str " "::d::eC ds
def iB(r:List Str):Prop:=r=[]\/∃ z bD,r=z::bD/\(z = " "\/z = ")")
def Xd{w:Str}{ds:List D}{d:D}(h:iU w ds d):∃ xs,d=.tup xs:=by cases h<;>exact ⟨_,rfl⟩
def uz{d:D}{x:List Str}(h:dC d x):∃ xs,d=.tup xs:=by
 cases h with
 | some=>exact ⟨_,rfl⟩
 | whole=>exact ⟨_,rfl⟩
 | name=>exact ⟨_,rfl⟩
 | node aA _=>exact Xd aA
theorem Mn:∀ ds:List D,cz (eC ds)=fs ds.length (.str " ")/\cz ((eC ds).drop 1)=ds
 | []=>⟨rfl,rfl⟩
 | d::ds=>by
  obtain ⟨ae,ag⟩:=Mn ds
  have ai:∀(a:D)(l:List D),cz (a::l)=a::cz (l.drop 1):=λ a l=>by cases l<;>rfl
  rw [eC];refine ⟨by rw [cz,ae];rfl,?_⟩;rw [rp,nL,ai,ag]
def Mo{d:D}{x:List Str}(h:Tk d x):1<=(cat x).length:=by
 have ae:=h.Mf [] (.inl rfl)
 cases e:cat x with
 | nil=>
  exfalso;have ag:=h.pieces;rw [e,bh,if_pos rfl] at ag;rw [<- ag] at h;cases h
 | cons _ _=>simp
def Xe(xs:List (List Str)):(xs.map λ x=>(cat x).length).sum<=(cat (dB (" " : Str) xs)).length:=xh xs
theorem Mp:∀{ps:List (D × List Str)},(∀ p∈ps,dc p.1<=3 * (cat p.2).length)->cR (ps.map (·.1))<=3 * ((ps.map (·.2)).map λ x=>(cat x).length).sum
 | [],_=>by simp [cR]
 | p::ps,h=>by
  have ae:=h p (b3 ..);have ag:=Mp λ q aM=>h q (cO _ aM);simp only [fh,rq,cR] at *;omega
def Xf{d:D}{x:List Str}(h:Tk d x):dc d<=3 * (cat x).length:=by
 induction h with
 | is n aA=>
  have:=Mo (.is n aA);simp only [dc,cR];omega
 | some=>have:=Mo .some;simp only [dc,cR];omega
 | left _ h=>rw [fl];simp only [dc,cR,cat,dj,dk,cI,be,c7];omega
 | right _ h=>rw [fl];simp only [dc,cR,cat,dj,dk,cI,be,c7];omega
 | both _ _ ae ag=>rw [fl];simp only [dc,cR,cat,dj,dk,cI,be,c7];omega
 | @way ps k y _ _ _ ae ag=>
  have a:=Mp ae;have b:=Xe (ps.map (·.2));rw [pE,pF];simp only [dc,cR,cat,dj,dk,cI,be,c7];omega
def Xg{d:D}{x:List Str}(h:Tk d x):kf d<=40:=by
 induction h with
 | is n aA=>simp [kf,kU]
 | some=>simp [kf,kU]
 | left _ h=>simp only [kf,kU,be,c7];omega
 | right _ h=>simp only [kf,kU,be,c7];omega
 | both _ _ ae ag=>simp only [kf,kU,be,c7];omega
 | @way ps k y _ _ ar ae ag=>
  have:kU (ps.map (·.1))<=40:=Lu λ d hd=>by obtain ⟨p,ah,rfl⟩:=hS.mp hd;exact ae p ah
  simp only [kf,kU,be,c7,cP];omega
def gc(c p:Nat)(d:D):Prop:=je d/\d.aS<=p/\∃ x,Tk d x/\(cat x).length<=c
theorem gc.mono{c p dm dO:Nat}{d:D}(h:gc c p d)(ae:c<=dm)(ag:p<=dO):gc dm dO d:=by
 obtain ⟨a,b,x,t,l⟩:=h;exact ⟨a,by omega,x,t,by omega⟩
theorem gc.bd{d:D}(h:gc 1300 100 d):h3 9100 120 40 d:=by
 obtain ⟨_,b,x,t,l⟩:=h;have:=Xf t;exact ⟨by omega,by omega,Xg t⟩
def AH{n:Int}(h:n.natAbs < 10 ^ 12):gc 13 1 (.tup [.str "is", .int n]):=⟨.is n h,by simp [D.aS,cb],_,.is n h,by rw [cat,cat,eP];exact (D7 h).2⟩
def Mq:gc 13 1 (.tup [.str "some"]):=⟨.some,by simp [D.aS,cb],_,.some,by rw [mb];simp [cat,cK]⟩
def Xh{c p dm dO:Nat}{a b:D}(ae:gc c p a)(ag:gc dm dO b)(d9:iP a=true)(cZ:iP b=true):gc (c+dm+3) (1+max p dO) (.tup [.str "both", a,b]):=by
 obtain ⟨k1,ey,x,t1,cv⟩:=ae;obtain ⟨k2,fy,y,di,eM⟩:=ag;refine ⟨.both k1 k2 d9 cZ,by simp only [D.aS,cb];omega,_,.both t1 di,?_⟩;rw [fl,iT,fm];simp only [cat,dj,dk,cI,be,c7];omega
def Mr{c p:Nat}{a:D}(ae:gc c p a):gc (c+3) (1+p) (.tup [.str "left", a]):=by
 obtain ⟨k1,ey,x,t1,cv⟩:=ae;refine ⟨.left k1,by simp only [D.aS,cb];omega,_,.left t1,?_⟩;rw [fl,iT,fm];simp only [cat,dj,dk,cI,be,c7];omega
def Ms{c p:Nat}{a:D}(ae:gc c p a):gc (c+3) (1+p) (.tup [.str "right", a]):=by
 obtain ⟨k1,ey,x,t1,cv⟩:=ae;refine ⟨.right k1,by simp only [D.aS,cb];omega,_,.right t1,?_⟩;rw [fl,iT,fm];simp only [cat,dj,dk,cI,be,c7];omega
theorem Mt{c:Nat}:∀{xs:List (List Str)},(∀ x∈xs,(cat x).length<=c)->(cat (dB (" " : Str) xs)).length<=xs.length * (c+1)
 | [],_=>by simp [dB,cat]
 | [x],h=>by have:=h x (by simp);simp [dB];omega
 | x::y::r,h=>by
  have ae:=h x (by simp);have ag:=Mt (xs:=y::r) λ z hz=>h z (cO _ hz);rw [dB,dj,cat,iA,be,Nat.succ_mul];simp only [cI,be,c7] at *;omega
def El{c p dm dO n:Nat}{ds:List D}{k:D}(ae:∀ d∈ds,gc c p d)(ax:hy ds=true)(ag:gc dm dO k)(ar:ds.length<=n)(aA:n<=40):gc (n * (c+1)+dm+3) (1+max (1+p) dO) (.tup [.str "way", .tup ds,k]):=by
 obtain ⟨k2,fy,y,di,eM⟩:=ag;obtain ⟨ps,e,ah⟩:=D8 λ d hd=>(ae d hd).2.2;have hd:cb ds<=p:=uc λ d hd=>(ae d hd).2.1;refine ⟨.way (λ d hd=>(ae d hd).1) ax k2,by simp only [D.aS,cb];omega,?_⟩;subst e;rw [cP] at ar;refine ⟨_,.way (λ p ep=>(ah p ep).1) di (by omega),?_⟩
 have:=Mt (xs:=ps.map (·.2)) (c:=c) λ x ai=>by obtain ⟨p,ep,rfl⟩:=hS.mp ai;exact (ah p ep).2
 have aO:(ps.map (·.2)).length * (c+1)<=n * (c+1):=Nat.mul_le_mul_right _ (by rw [cP];exact ar);rw [pE,sf,pF];simp only [cat,dj,dk,cI,be,c7];omega
def gC(c p:Nat)(d:D):Prop:=d.aS<=p/\∃ x,dC d x/\(cat x).length<=c
theorem gC.mono{c p dm dO:Nat}{d:D}(h:gC c p d)(ae:c<=dm)(ag:p<=dO):gC dm dO d:=by
 obtain ⟨b,x,t,l⟩:=h;exact ⟨by omega,x,t,by omega⟩
def Em:gC 2000 1 (.tup [.str "some"]):=⟨by simp [D.aS,cb],_,.some,by rw [mb];simp [cat,cK]⟩
def En:gC 2000 1 (.tup [.str "whole"]):=⟨by simp [D.aS,cb],_,.whole,by rw [uw];simp [cat,cK]⟩
def Xi{k:D}(h:gc 1300 100 k):gC 2000 (1+k.aS) (.tup [.str "name", k]):=by
 have af:=h.bd;obtain ⟨k1,ey,x,t1,cv⟩:=h;refine ⟨by simp only [D.aS,cb];omega,_,.name t1 k1.iS af (by omega),?_⟩;rw [pH,cat,kg];simp only [dk,cI,be,c7];omega
def Xj{c p:Nat}{w:Str}{a:D}(hw:w∈hK)(h:gC c p a):gC (c+20) (1+p) (.tup [.str w,a]):=by
 obtain ⟨ey,x,t1,cv⟩:=h;refine ⟨by simp only [D.aS,cb];omega,_,.node (ps:=[(a,x)]) (.un a hw) (by simpa using t1),?_⟩;have:=(ol w (by simp [hw])).2.2;have e:w.cps.toList.length=w.length:=hF;rw [fl,fm];simp only [fh,nK,br,cat,dj,iA,dk,cI,be,c7];omega
def Xk{c p dm dO:Nat}{w:Str}{a b:D}(hw:w∈hA)(h:gC c p a)(h':gC dm dO b):gC (c+dm+20) (1+max p dO) (.tup [.str w,a,b]):=by
 obtain ⟨ey,x,t1,cv⟩:=h;obtain ⟨fy,y,di,eM⟩:=h';refine ⟨by simp only [D.aS,cb];omega,_,.node (ps:=[(a,x),(b,y)]) (.bi a b hw) (by simpa using ⟨t1,di⟩),?_⟩;have:=(ol w (by simp [hw])).2.2;have e:w.cps.toList.length=w.length:=hF;rw [fl,fm];simp only [fh,nK,br,cat,dj,iA,dk,cI,be,c7];omega
theorem Mu{c:Nat}:∀{xs:List (List Str)},(∀ x∈xs,(cat x).length<=c)->(cat (br xs)).length<=xs.length * (c+1)
 | [],_=>by simp [br,cat]
 | x::xs,h=>by
  have ae:=h x (by simp);have ag:=Mu (xs:=xs) λ z hz=>h z (cO _ hz);rw [br,cat,iA,dj,be,Nat.succ_mul];simp only [cI,be,c7] at *;omega
def Xl{c p dm dO n:Nat}{a:D}{ds:List D}(h:gC c p a)(h':∀ d∈ds,gC dm dO d)(ar:ds.length<=n)(aA:n<=6):gC (c+n * (dm+1)+20) (1+max p (1+dO)) (.tup [.str "give", a,.tup ds]):=by
 obtain ⟨ey,x,t1,cv⟩:=h;obtain ⟨ps,e,ah⟩:=D8 λ d hd=>(h' d hd).2;have hd:cb ds<=dO:=uc λ d hd=>(h' d hd).1;refine ⟨by simp only [D.aS,cb];omega,?_⟩;subst e;rw [cP] at ar;refine ⟨_,.node (w:="give") (ps:=(a,x)::ps) (.give a _ (by rw [cP];omega)) (λ q aM=>by rcases cB.mp aM with rfl | aM;exact t1;exact (ah q aM).1),?_⟩
 have:=Mu (xs:=ps.map (·.2)) (c:=dm) λ x ai=>by obtain ⟨p,ep,rfl⟩:=hS.mp ai;exact (ah p ep).2
 have aO:(ps.map (·.2)).length * (dm+1)<=n * (dm+1):=Nat.mul_le_mul_right _ (by rw [cP];exact ar)
 have e:("give" : Str).cps.toList.length=4:=by decide
 rw [fl,fm];simp only [fh,br,cat,dj,iA,dk,cI,be,c7,e];omega
end L3
namespace L2
open PySem PySem.Spec PyProof.Rows
section
variable{X:aT}
def Xm{x:Str}{ad:Addr}{tab:Str->Option V}{e:a9}{ty:TE}{p apos cM:Pos}(a_:ew X x)(hm:X.mg x=some (.ref ad))(T:KTab X.K X.w ad tab)(he:b5 X e ty)(m:Jl X (.Name x p) "get" apos e cM)(hd:(x==("__debug__" : Str))=false:=by decide) :
 b5 X (.Call (.Attribute (.Name x p) "get" apos) [e] [] cM) (λ σ H Q=>ty σ H λ y H1=>∃ z,y=.str z/\Q ((tab z).getD .bc) H1):=by
 intro pins s σ H Q I h;obtain ⟨⟨es,n,ar,aD,bu⟩,lo⟩:=T;refine wpAny_Call_method m.base m.we m.line PySem.F.plainAttrs_dict PySem.F.slot_dict_get PySem.F.type_dict_get (b2 (B0 (v:=.ref ad) a_ hm rfl hd pins s σ H (λ v H1=>v=.ref ad/\H1=H) I ⟨rfl,rfl⟩) λ u s1 ⟨g6,H1,a4,a7,ex,wT⟩=>?_);subst ex wT;obtain rfl:u=Value.ref ad:=a7;have mp:∀{aQ:aF},X.K.In aQ.heap->aQ.heap.MapOf (strKind X.prog X.w) ad (λ k=>findBy Value.isStrOf es k):=λ k=>PySem.W.mapOf_K k ar aD;refine ⟨(mp a4.et).typeIs,(mp a4.et).noDict,?_⟩;rw [m.trees];refine Calls.callWith_builtin rfl (Calls.evalArgs_plain (Calls.spliced_cons (b2 (he pins s1 σ H1 _ a4 h) λ ij s2 ⟨y,a3,c5,cD,z,Dj,bl⟩=>Calls.spliced_nil ?_)));subst Dj;obtain ⟨t,rfl⟩:=cD;refine call_meetsIn PySem.F.slot_dict_get (mp c5.et).typeIs PySem.F.entry_dict_get (PySem.F.args_dict_get_2 _ _) (meets_dict_get (strKind X.prog X.w) ad (strKind_is X.prog X.w z t) lo) ⟨_,mp c5.et,(tab z).getD .bc,a3,c5.tok _,?_,bl⟩;exact (bu z).getD rfl
end
end L2
namespace L3
open PySem PySem.Spec L2
section
variable{X:aT}{e:a9}{x:Str}{ad:Addr}{tab:Str->Option D}{aW:cm}{p apos cM:Pos}
abbrev Xn(tab:Str->Option D)(aW:cm):cm:=λ ρ G Q=>aW ρ G λ y aB=>match y with
 | .str z=>Q ((tab z).getD .bc) aB
 | _=>False
def Xo(a_:ew X x)(hm:X.mg x=some (.ref ad))(T:r4 X.K X.w ad tab)(he:b7 X e aW)(m:Jl X (.Name x p) "get" apos e cM:=by exact ⟨rfl,rfl,rfl,rfl⟩)(hd:(x==("__debug__" : Str))=false:=by decide) :
 b7 X (.Call (.Attribute (.Name x p) "get" apos) [e] [] cM) (Xn tab aW):=by
 obtain ⟨m7,T,t1,di⟩:=T;obtain ⟨ce,j8,re⟩:=he.run;refine ⟨_,⟨Xm a_ hm T j8.run m hd⟩,λ ρ G az σ H Q B q F=>re ρ G _ σ H _ B q λ y aB v H1 g1 a6 aH=>?_⟩
 cases y with
 | str z=>
  cases a6;refine ⟨z,rfl,?_⟩
  replace aH:az ((tab z).getD .bc) aB:=aH
  cases ja:tab z with
  | none=>rw [t1 z ja];rw [ja] at aH;exact F .bc aB _ H1 g1 rfl aH
  | some d'=>
   obtain ⟨kG,aE,aP⟩:=di z d' ja;rw [aE];rw [ja] at aH;exact F d' aB kG H1 g1 (aP _) aH
 | _=>exact (show False from aH).elim
end
theorem xj:∀ ds:List D,(eC ds).length=2 * ds.length
 | []=>rfl
 | d::ds=>by rw [eC,be,be,xj ds,be];omega
abbrev Eo:Str:="()[] #.~"
def Mv:fe:=λ ds G Q=>∃ z:Str,ds=[.str z,.str Eo]/\z.length<=300000/\∀ l,G l=none->Q (.ref l) (up G l (.lst ((bh cA [] z.cps.toList).map D.str)))
def lC(k:Nat):Nat:=if k=0 then 13 else if k=1 then 100 else if k=2 then 406 else 1223
def kY(k:Nat):Nat:=if k=0 then 1 else 22+2 * k
def xk(n:Nat):fe:=λ ds G Q=>∃(a:Addr)(k:Int),ds=[.ref a,.int k]/\hJ G a/\0<=k/\k < n/\k<=3/\∀ d ap,eH a G ap->gc (16 * 2 ^ k.toNat - 3) (k.toNat+1) d->iP d=true->Q d ap
def xl(n:Nat):fe:=λ ds G Q=>∃(a:Addr)(k:Int),ds=[.ref a,.int k]/\hJ G a/\0<=k/\k < n/\k<=3/\∀ d ap,e5 a G ap->gc (lC k.toNat) (kY k.toNat) d->(k=0->iP d=true)->Q d ap
def xm(n:Nat):fe:=λ ds G Q=>∃(a:Addr)(r k:Int),ds=[.ref a,.int r,.int k]/\hJ G a/\0<=r/\r<=40/\0<=k/\k < n/\k<=14/\∀ d ap,e5 a G ap->gC (2100 * (8 * r.toNat+1)) (40+2 * k.toNat) d->Q d ap
def xn(n:Nat):fe:=λ ds G Q=>∃(d:D)(x:List Str),ds=[d]/\Tk d x/\d.aS < n/\dc d<=9100/\Q (.str (txt x)) G
def pI(n:Nat):fe:=λ ds G Q=>∃(d:D)(x:List Str),ds=[d]/\dC d x/\d.aS < n/\(cat x).length<=700000/\Q (.str (txt x)) G
def AI:List (Str × D):=[("some", .int 0),("whole", .int 0),("way", .int 1),("left", .int 1),("right", .int 1),("first", .int 1),("second", .int 1),("both", .int 2),("plus", .int 2),("look", .int 2)]
def Mw:List (Str × V):=[("some", .int 0),("whole", .int 0),("way", .int 1),("left", .int 1),("right", .int 1),("first", .int 1),("second", .int 1),("both", .int 2),("plus", .int 2),("look", .int 2)]
def qM(z:Str):Option D:=(AI.find? λ e6=>decide (e6.1=z)).map (·.2)
def Xp{K:aV}:la (λ(a:Str × D) (b:Str × V)=>a.1=b.1/\∀ H,dg K H a.2 b.2) AI Mw:=
 .cons ⟨rfl,λ _=>rfl⟩ (.cons ⟨rfl,λ _=>rfl⟩ (.cons ⟨rfl,λ _=>rfl⟩ (.cons ⟨rfl,λ _=>rfl⟩ (.cons ⟨rfl,λ _=>rfl⟩ (.cons ⟨rfl,λ _=>rfl⟩ (.cons ⟨rfl,λ _=>rfl⟩ (.cons ⟨rfl,λ _=>rfl⟩ (.cons ⟨rfl,λ _=>rfl⟩ (.cons ⟨rfl,λ _=>rfl⟩ .nil)))))))))
def AJ:List (Str × D):=[(".", .tup [.str "whole"]),("~", .tup [.str "some"])]
def xo(z:Str):Option D:=(AJ.find? λ e6=>decide (e6.1=z)).map (·.2)
def Xq:∀ w∈hK,qM w=some (.int 1):=by intro w hw;simp only [hK,cB,fR,or_false] at hw;rcases hw with rfl | rfl | rfl | rfl | rfl<;>rfl
def Mx:∀ w∈hA,qM w=some (.int 2):=by intro w hw;simp only [hA,cB,fR,or_false] at hw;rcases hw with rfl | rfl | rfl<;>rfl
def My{d:D}{x:List Str}(h:dC d x):d.data=true/\sg d:=by
 induction h with
 | some=>exact ⟨rfl,.tup λ d hd=>by simp at hd;subst hd;exact .str _⟩
 | whole=>exact ⟨rfl,.tup λ d hd=>by simp at hd;subst hd;exact .str _⟩
 | @name k x ae ag aO _=>exact ⟨by simp [D.data,cY,ag.l9.data],.tup λ d hd=>by simp at hd;rcases hd with rfl | rfl;exact .str _;exact ag.l9.ad⟩
 | @node w ps d aA _ bN=>
  have ae:∀ e∈ps.map (·.1),e.data=true/\sg e:=λ e he=>by obtain ⟨p,ah,rfl⟩:=hS.mp he;exact bN p ah
  generalize ps.map (·.1)=es at aA ae
  cases aA with
  | un p hw=>exact ⟨by simp [D.data,cY,(ae p (by simp)).1],.tup λ d hd=>by simp at hd;rcases hd with rfl | rfl;exact .str _;exact (ae _ (by simp)).2⟩
  | bi p q hw=>exact ⟨by simp [D.data,cY,(ae p (by simp)).1,(ae q (by simp)).1],.tup λ d hd=>by simp at hd;rcases hd with rfl | rfl | rfl;exact .str _;exact (ae _ (by simp)).2;exact (ae _ (by simp)).2⟩
  | give p bE ar=>
   have aM:cY bE=true:=qD λ d hd=>(ae d (by simp [hd])).1;exact ⟨by simp [D.data,cY,(ae p (by simp)).1,aM],.tup λ d hd=>by simp at hd;rcases hd with rfl | rfl | rfl;exact .str _;exact (ae _ (by simp)).2;exact .tup λ d hd=>(ae d (by simp [hd])).2⟩
def xp:((" " : String):Str).length=1:=by decide
theorem AK:∀{xs:List (List Str)},xs≠[]->br xs=(" " : Str)::dB (" " : Str) xs
 | [],h=>absurd rfl h
 | [x],_=>by simp [br,dB]
 | x::y::r,_=>by rw [br,AK (xs:=y::r) (by simp),dB]
def Mz{w:Str}{xs:List (List Str)}(h:xs≠[]):("(" : Str)++w++(" " : Str)++txt (dB (" " : Str) xs)++(")" : Str)=txt (("(" : Str)::w::(br xs++[(")" : Str)])):=by
 rw [AK h];exact ma (by simp [f_,dk,cat,dj])
def Xr(x:List Str):("#" : Str)++txt x=txt (("#" : Str)::bh cA [] (cat x)):=ma (by simp [f_,dk,cat,kg])
def mc{w:Str}{es:List D}{d e:D}(h:iU w es d)(he:e∈es):e.aS < d.aS:=by
 cases h with
 | un p _=>simp at he;subst he;simp only [D.aS,cb];omega
 | bi p q _=>simp at he;rcases he with rfl | rfl<;>(simp only [D.aS,cb];omega)
 | give p ps _=>
  rcases cB.mp he with rfl | he
  ·simp only [D.aS,cb];omega
  ·have:=t9 he;simp only [D.aS,cb];omega
theorem Ep{x:List Str}:∀{xs:List (List Str)},x∈xs->(cat x).length<=(cat (br xs)).length
 | [],h=>by simp at h
 | y::ys,h=>by
  rw [br];simp only [cat,dj,cI];rcases cB.mp h with rfl | h
  ·omega
  ·have:=Ep h;omega
def md(p a b:Str):m3 (.str p) [.str a,.str b]=(p==a||p==b):=by
 have e:∀ a b:Str,(a==b)=(b==a):=λ a b=>by rw [tt,beq_iff_eq,beq_iff_eq];exact eq_comm
 simp only [m3,rm,List.any_nil,wx,yL];rw [e a p,e b p]
def Xs{p:Str}{e:Nat}{l:List Nat}(ah:(∃ c∈cA,p=cK [c])\/(p.cps.toList≠[]/\∀ c∈p.cps.toList,c ∉ cA))(h:fO e (p.cps.toList++l)=some 0) :
 (e=0->(p==" "||p==")")=false)/\(((p=="("||p=="[")=true/\fO (e+1) l=some 0)\/((p=="("||p=="[")=false/\(p==")"||p=="]")=true/\1<=e/\fO (e - 1) l=some 0)\/((p=="("||p=="[")=false/\(p==")"||p=="]")=false/\fO e l=some 0)):=by
 rcases ah with ⟨c,am,rfl⟩ | ⟨cX,ah⟩
 ·have h':((pG e c).bind λ bZ=>fO bZ l)=some 0:=h;simp only [cB,fR,or_false] at am;rw [nd,fm,fl,pE,pF];unfold pG at h';rcases am with rfl | rfl | rfl | rfl | rfl | rfl | rfl | rfl
  ·exact ⟨λ _=>by decide,.inl ⟨by decide,by simpa using h'⟩⟩
  ·by_cases dt:e=0
   ·subst dt;simp at h'
   ·rw [if_neg (by omega),if_neg (by decide),if_pos (by decide)] at h';exact ⟨λ h=>absurd h dt,.inr (.inl ⟨by decide,by decide,by omega,h'⟩)⟩
  ·exact ⟨λ _=>by decide,.inl ⟨by decide,by simpa using h'⟩⟩
  ·by_cases dt:e=0
   ·subst dt;simp at h'
   ·rw [if_neg (by omega),if_neg (by decide),if_pos (by decide)] at h';exact ⟨λ h=>absurd h dt,.inr (.inl ⟨by decide,by decide,by omega,h'⟩)⟩
  ·by_cases dt:e=0
   ·subst dt;simp at h'
   ·rw [if_neg (by omega),if_neg (by decide),if_neg (by decide)] at h';exact ⟨λ h=>absurd h dt,.inr (.inr ⟨by decide,by decide,h'⟩)⟩
  ·rw [if_neg (by omega),if_neg (by decide),if_neg (by decide)] at h';exact ⟨λ _=>by decide,.inr (.inr ⟨by decide,by decide,h'⟩)⟩
  ·rw [if_neg (by omega),if_neg (by decide),if_neg (by decide)] at h';exact ⟨λ _=>by decide,.inr (.inr ⟨by decide,by decide,h'⟩)⟩
  ·rw [if_neg (by omega),if_neg (by decide),if_neg (by decide)] at h';exact ⟨λ _=>by decide,.inr (.inr ⟨by decide,by decide,h'⟩)⟩
 ·have no:∀ c∈cA,(p==cK [c])=false:=λ c am=>by
   rw [beq_eq_false_iff_ne];intro e;subst e;exact ah c (by simp [cK]) am
  have pl:fO e p.cps.toList=some e:=uv λ c am=>by
   have:=ah c am;simp at this;omega
  rw [nf _ pl] at h;rw [nd,fm,fl,pE,pF,no 32 (by decide),no 41 (by decide),no 40 (by decide),no 91 (by decide),no 93 (by decide)];exact ⟨λ _=>rfl,.inr (.inr ⟨rfl,rfl,h⟩)⟩
def Xt{α:Type}{xs ys r:List α}{a:Nat}(h:xs.drop a=ys++r)(ay:a<=xs.length):cut xs (some (a:Int)) (some ((a+ys.length:Nat):Int))=ys:=by
 have ar:=congrArg mB h;rw [jQ,cI] at ar;unfold cut;rw [show dD.cj xs.length 0 (some (a:Int))=a by unfold dD.cj;simp only [];rw [if_neg (by omega)];omega,show dD.cj xs.length xs.length (some ((a+ys.length:Nat):Int))=a+ys.length by unfold dD.cj;simp only [];rw [if_neg (by omega)];omega,h,show a+ys.length - a=ys.length by omega];exact List.take_left' rfl
end L3
namespace L2
open PySem PySem.Spec PyProof.Rows
def MA(K:aV)(a:Addr):kJ:=⟨λ i H=>∃ xs x,d7 K H a xs/\xs[i]?=some x,λ i H v aj=>∃ T x,v=.ref T/\H T=none/\aj=upd H T (.tup [.int i,x])/\∀ xs,d7 K H a xs->xs[i]?=some x,λ i H=>∃ xs,d7 K H a xs/\xs.length<=i⟩
def Xu{P:cS}{w:b_}{K:aV}{es:List a9}{k:Nat}{pos:Pos}(e it a:Addr)(cX:e≠it) :
 Turn P w K (.Tuple es k pos) (MA K a) [e,it] e (λ i h=>(∃ old,WP h e it i old)/\h.IsListIter it a i) where
 mem:=by simp
 obj:=λ i h st b af=>by
  obtain ⟨⟨old,a1⟩,o,a2,c,d⟩:=st;simp only [cB,fR,or_false] at af;rcases af with rfl | rfl
  ·exact ⟨_,a1,λ v z=>by cases (show Data.fields _=Data.cell v from z)⟩
  ·exact ⟨o,a2,λ v z=>by rw [d] at z;cases z⟩
 keep:=λ i h h' st eY=>⟨let ⟨old,a1⟩:=st.1;⟨old,eY _ (by simp) _ a1⟩,st.2.at λ o aR=>eY _ (by simp) _ aR⟩
 item:=by
  intro X eJ hw d5 am i pins s σ H E I hf st a_;subst eJ hw d5;obtain ⟨⟨old,a1⟩,a2⟩:=st;obtain ⟨xs,v0,aM,ai⟩:=a_;obtain ⟨aw,a5,p,hz⟩:=I.list aM;obtain ⟨Er,bK,c1⟩:=a5.get ai;refine lEq (R:=λ y=>y=Er) (P:=λ h=>h.IsListIter it a (i+1)) a1 cX (λ h h' p k=>p.at k) (λ A Q E q=>wpAny_nextOf_list_item a2 p.isList (x:=Er) (by simpa using bK) λ h' gH hk=>q h' _ _ rfl hk gH) λ h' bR x u a7 Out dO eo eY=>?_;subst a7;refine ⟨_,rfl,HL (s:={ s with heap:=h',toks:=bR }) Out λ ag D2 hk=>?_⟩;have iQ:e < s.heap.objs.size:=dL a1
  have D3:it < s.heap.objs.size:=let ⟨_,aR,_⟩:=a2;dL aR
  have a4:Inv X pins σ (upd H s.heap.objs.size (.tup [.int i,v0])) { s with heap:=s.heap.push { cls:=.type "tuple", data:=.seq #[.int i u,x] } }:=
   I.laid (t':=s.toks) (λ b o e=>dQ _ e) (b4 _) (show f5 X.prog X.w _ _ _ (.tup [.int i,v0]) from ⟨by show 2<=sizeLine;decide,[.int i u,x],.cons ⟨_,rfl⟩ (.cons c1 .nil),IsTup.new _ _⟩)
  have xc:∀ b∈[e,it],b < s.heap.objs.size:=λ b af=>by
   simp only [cB,fR,or_false] at af;rcases af with rfl | rfl
   ·exact iQ
   ·exact D3
  have c5:Inv X pins σ (upd H s.heap.objs.size (.tup [.int i,v0])) { s with heap:=ag,toks:=bR }:=
   Inv.zw (s:={ s with heap:=s.heap.push { cls:=.type "tuple", data:=.seq #[.int i u,x] } }) (h':=ag) (t':=bR) (fp:=[e,it]) a4 (λ b af=>by
    obtain ⟨f0,fr⟩:=hf b af
    exact ⟨by rw [cQ (eW (xc b af))];exact f0,fr⟩) (λ b o af q=>by
    have fN:b≠e/\b≠it:=by simpa using af
    rcases Heap.get?_push_cases q with ⟨cN,cc⟩ | q
    ·rw [cN,cc];exact hk.extBut _ _ (rv iQ) eo
    ·exact hk.extBut _ _ fN.1 (eY b o fN.1 fN.2 q))
  exact ⟨.ref s.heap.objs.size,_,c5,rfl,⟨_,v0,rfl,I.bU.fresh (b4 _),rfl,λ afU h=>by rw [I.H8 h aM];exact ai⟩,⟨⟨_,D2⟩,dO.at λ o aR=>hk.extBut _ _ (Ne.symm cX) aR⟩,λ b af=>by rw [cQ (eW (xc b af))];exact (hf b af).1⟩
 done:=by
  intro X eJ hw d5 am i pins s σ H E I hf st a_;subst eJ hw d5;obtain ⟨⟨old,a1⟩,a2⟩:=st;obtain ⟨xs,aM,ai⟩:=a_;obtain ⟨aw,a5,p,hz⟩:=I.list aM;have ar:=a5.length
  refine L1 a1 (λ A Q E df q=>wpAny_nextOf_list_end df a2 p.isList (by simp;omega) q) (I.ok.hd am) λ h' hl=>⟨rfl,?_⟩
  refine I.zw (t':=s.toks) (fp:=[e,it]) hf λ b o af q=>?_
  have fN:b≠e/\b≠it:=by simpa using af
  exact hl b o fN.2 q
 self:=λ _ _ _ _ _ st h=>by
  obtain ⟨⟨old,a1⟩,_⟩:=st;exact yi a1 h
section
variable{X:aT}
def Xv(K:aV)(t:fT):TI:=λ σ H R=>t σ H λ vs H1=>∃ a xs,vs=[.ref a]/\d7 K H1 a xs/\R (MA K a) H1
def Xw{es:List a9}{k:Nat}{hq:Pos}{a:a9}{bb:fT}{p pos:Pos}(a_:ew X "enumerate")(hm:X.mg "enumerate" = none)(ay:iI X [a] bb)(ax:gu a=true):nX X (.Tuple es k hq) (.Call (.Name "enumerate" p) [a] [] pos) (Xv X.K bb):=by
 intro pins s σ H R I h;refine Call_ (qk I a_ hm PyProof.Rows.boot_enumerate (tv (b2 (ay pos pins s σ H _ I h) λ us s1 ⟨vs,H1,a4,aX,l,xs,ev,fb,q⟩=>?_) (j3 ax) rfl));subst ev
 cases aX with
 | cons r cf=>
  cases cf;cases r;obtain ⟨aw,a5,pl,_⟩:=a4.list fb;refine call_enumerate_list pl.isList λ h' a1 a2 _ eY=>?_;refine yi a1 ?_;refine ⟨s1.heap.objs.size+1,[s1.heap.objs.size+1,s1.heap.objs.size],_,_,H1,rfl,a4.kept (t':=s1.toks) eY,Xu _ _ l (Nat.succ_ne_self _),⟨⟨_,a1⟩,a2⟩,λ b af=>?_,q⟩
  have fN:s1.heap.objs.size<=b:=by
   simp only [cB,fR,or_false] at af;rcases af with e | e<;>(rw [e];first | exact b4 _ | exact Nat.le_add_right _ _)
  exact a4.qm fN (a4.bU.fresh fN)
end
end L2
namespace L3
open PySem PySem.Spec L2
section
variable{X:aT}{es:List a9}{a:a9}{t:gK}{p pos:Pos}
def kh(xs:List D):List D:=xs.zipIdx.map λ c=>.tup [.int (c.2:Int),c.1]
abbrev Xx(t:gK):kR:=λ ρ G R=>t ρ G λ ds aB=>match ds with
 | [.ref l]=>hb aB l λ xs=>aB l=some (.lst xs)/\R ⟨kh xs,λ G=>G l=some (.lst xs)⟩ aB
 | _=>False
def MB{k:Nat}{hq:Pos}(a_:ew X "enumerate")(hm:X.mg "enumerate" = none)(ay:iL X [a] t)(ax:gu a=true:=by rfl):oa X (.Tuple es k hq) (.Call (.Name "enumerate" p) [a] [] pos) (Xx t):=by
 obtain ⟨ca,cn,cp⟩:=ay.run;refine ⟨_,⟨Xw a_ hm cn.run ax⟩,λ ρ G l1 σ H R B q F=>cp ρ G _ σ H _ B q λ ds aB vs H1 g1 al ar aH=>?_⟩;split at aH
 ·next l=>
  obtain ⟨v,r,rfl,rfl,e⟩:=al;cases e;obtain ⟨xs,ws,⟨aE,bl⟩,s1,aX⟩:=ic g1.ck aH;refine ⟨l,ws,rfl,s1,F ⟨kh xs,λ G=>G l=some (.lst xs)⟩ _ aB H1 g1 (λ aY a3 g2 f1=>?_) bl⟩;obtain ⟨Es,gi,t1⟩:=g2.ck _ _ f1;have cv:=t1.len;refine ⟨λ n d hd=>?_,λ n aA=>⟨Es,.of gi,?_⟩⟩
  ·replace hd:(kh xs)[n]?=some d:=hd
   unfold kh at hd;rw [f3,vu] at hd
   cases e:xs[n]? with
   | none=>rw [e] at hd;cases hd
   | some z=>
    rw [e] at hd;simp at hd;subst hd;obtain ⟨v1,k1,a1⟩:=t1.get e;refine ⟨⟨Es,v1,.of gi,k1⟩,λ x aj y=>?_⟩;obtain ⟨T,g6,rfl,eo,rfl,ai⟩:=y;have cN:=ai Es (.of gi);rw [k1] at cN;cases cN;have g3:=Go.mV (o:=.tup [.int n,v1]) g2.ck eo;exact ⟨g3,T,_,rfl,.of eF,⟨_,_,rfl,rfl,.one (a1.mono g3.tup)⟩⟩
  ·have mH:(kh xs).length<=n:=aA;simp only [kh,cP,List.length_zipIdx] at mH;omega
 ·exact aH.elim
end
end L3
namespace L3
open PySem L2
def om(x:Str):Int:=(rz x).getD 0
end L3
namespace L2
open PySem PySem.Spec PyProof.Rows
def Et{P:cS}{w:b_}{H:av}{h h':bO}(k:fC P w H h)(aD:∀ b u,H b≠none->h.get? b=some u->h'.get? b=some u):fC P w H h':=λ a o e=>
 (k a o e).nS (λ b u af q=>aD b u (by rcases af with rfl | af;rw [e];simp;rw [af];simp) q) (λ _ q=>q) λ _ _ q=>q
def Xy{P:cS}{w:b_}{H:av}{h:bO}{a:Addr}{o:gm}(x:f5 P w H h a o):∃ u,h.get? a=some u:=by
 cases o with
 | lst xs=>obtain ⟨_,_,_,_,e⟩:=x;exact ⟨_,e⟩
 | tup xs=>obtain ⟨_,_,_,o,e,_⟩:=x;exact ⟨_,e⟩
 | i6 dH=>obtain ⟨_,_,_,_,o,_,_,e,_⟩:=x;exact ⟨_,e⟩
 | iH dH=>obtain ⟨_,_,_,_,o,_,_,e,_⟩:=x;exact ⟨_,e⟩
 | set S n=>obtain ⟨o,_,_,_,e,_⟩:=x;exact ⟨_,e⟩
 | ins C aU aC=>obtain ⟨_,_,_,e,_⟩:=x;exact ⟨_,e⟩
 | own y=>obtain ⟨_,e⟩:=x;exact ⟨_,e⟩
 | gS aC=>obtain ⟨_,⟨_,_,_,e,_⟩,_⟩:=x;exact ⟨_,e⟩
 | yT lo au=>obtain ⟨_,_,_,e⟩:=x;exact ⟨_,e⟩
 | ih dv u=>obtain ⟨e,_⟩:=x;exact ⟨_,e⟩
 | oM ps=>exact ⟨_,show h.get? a=some _ from x⟩
 | met f y=>exact ⟨_,show h.get? a=some _ from x⟩
 | ext φ=>obtain ⟨_,⟨_,e⟩,_⟩:=x;exact ⟨_,e⟩
def MC{P:cS}{w:b_}{H:av}{h:bO}(k:fC P w H h){b:Addr}(af:h.get? b=none):H b=none:=by
 cases e:H b with
 | none=>rfl
 | some o=>
  obtain ⟨u,bK⟩:=Xy (k b o e);rw [af] at bK;cases bK
section
variable{X:aT}{pins:List (Addr × Obj)}{σ:St}{H:av}{s:aF}{h':bO}{e T:Addr}{cls:Value}
def Eu(I:Inv X pins σ H s){b:Addr}(af:b∈X.aC):b∈eS X.stack:=by
 rcases I.ok.tA with z | ⟨z,hf⟩
 ·rw [z];exact af
 ·rw [z];unfold eS;rw [yw,hf];exact cO _ af
def Xz(I:Inv X pins σ H s)(keep:∀ b u,b ∉ eS X.stack->b≠e->b≠T->s.heap.get? b=some u->h'.get? b=some u)(slot:∀ b u,b∈eS X.stack->s.heap.get? b=some u->∃ bq,h'.get? b=some { u with slots:=bq })
 (XA:∃ dG vs,s.heap.get? e=some dG/\dG.data=Data.fields vs) (iH:∃ iC vs,s.heap.get? T=some iC/\iC.data=Data.fields vs) (ne:X.s₀.heap.get? e=none) (jG:X.s₀.heap.get? T=none) (xq:∀ p∈X.pn++pins,p.1≠e/\p.1≠T) (he:H e=none) (eo:H T=none) :
 Inv X pins σ H { s with heap:=h' }:=by
 have bv:∀{b:Addr}{o:Obj},s.heap.get? b=some o->(∀ vs,o.data≠Data.fields vs)->b≠e/\b≠T:=λ{b o} z hd=>by
  obtain ⟨dG,vs,cN,ey⟩:=XA;obtain ⟨iC,MD,cc,fy⟩:=iH;refine ⟨?_,?_⟩
  ·rintro rfl;rw [z] at cN;cases cN;exact hd _ ey
  ·rintro rfl;rw [z] at cc;cases cc;exact hd _ fy
 have any:∀ b u,b≠e->b≠T->s.heap.get? b=some u->∃ bq,h'.get? b=some { u with slots:=bq }:=λ b u c3 b8 z=>by
  by_cases af:b∈eS X.stack
  ·exact slot b u af z
  ·exact ⟨u.slots,keep b u af c3 b8 z⟩
 have lP:∀ b,b≠X.env.locals->b ∉ X.aC->b ∉ eS X.stack:=λ b ae ag aO=>by
  rcases cB.mp (I.tC b aO) with z | z
  ·exact ae z
  ·exact ag z
 have hL:∀ b o,X.s₀.heap.get? b=some o->b≠X.env.locals/\b≠e/\b≠T:=λ b o z=>by
  refine ⟨?_,?_,?_⟩
  ·rintro rfl;exact absurd (dL z) (Nat.not_lt.mpr I.ok.above)
  ·rintro rfl;rw [z] at ne;cases ne
  ·rintro rfl;rw [z] at jG;cases jG
 have cellK:∀ c v,s.heap.IsCell c v->h'.IsCell c v:=λ c v ⟨o,z,d⟩=>by
  obtain ⟨c3,b8⟩:=bv z (λ vs hd=>by rw [d] at hd;cases hd);obtain ⟨bq,cc⟩:=any c o c3 b8 z;exact ⟨_,cc,d⟩
 have iD:=I.base;refine ⟨I.ok,I.os,I.bare,⟨λ b o z n af ai=>?_,λ b o z n af ai=>?_,iD.free,λ b o z ai=>?_,iD.kB,iD.jU,iD.kC⟩,?_,λ x c z=>let ⟨v,bJ⟩:=I.cell x c z;⟨v,cellK c v bJ⟩,I.free,I.kE,λ p ah=>?_,Et I.bU λ b u af z=>keep b u (λ ag=>af (I.vD b ag)) (by rintro rfl;exact af he) (by rintro rfl;exact af eo) z,I.len⟩
 ·obtain ⟨eg,eh,ki⟩:=hL b o z;exact keep b o (lP b eg af) eh ki (iD.keep b o z n af ai)
 ·obtain ⟨bq,cN⟩:=iD.slot b o z n af ai;obtain ⟨rC,cc⟩:=slot b _ (Eu I af) cN;exact ⟨rC,cc⟩
 ·obtain ⟨dI,cN⟩:=iD.there b o z ai;obtain ⟨eg,eh,ki⟩:=hL b o z;obtain ⟨bq,cc⟩:=any b dI eh ki cN;exact ⟨_,cc⟩
 ·obtain ⟨m,⟨o,es,e9,aR,r⟩,ar⟩:=I.loc;obtain ⟨c3,b8⟩:=bv aR (λ vs hd=>by rw [r.1] at hd;cases hd);obtain ⟨bq,cc⟩:=any _ o c3 b8 aR;refine ⟨m,⟨_,es,e9,cc,r⟩,λ i x v aE aP e3=>?_⟩;obtain ⟨u,c1,l⟩:=ar i x v aE aP e3;refine ⟨u,c1,?_⟩;rcases l with l | ⟨k,c,z,am⟩
  ·exact .inl l
  ·exact .inr ⟨k,c,z,cellK c _ am⟩
 ·obtain ⟨z,n,eg,eh,d⟩:=I.pin p ah;obtain ⟨aH,bl⟩:=xq p ah;exact ⟨keep p.1 p.2 (lP p.1 eg eh) aH bl z,n,eg,eh,d⟩
end
section
variable{X:aT}{pins:List (Addr × Obj)}{σ:St}{H:av}{s:aF}
def AL{M:mx}{A:cL}{E:Value->aF->Prop}{i:Nat}{n:Str}{pos:Pos}{Q:Unit->aF->Prop}(I:Inv X pins σ H s)(dM:X.N.Nodup)(au:X.N[i]?=some n)(mR:X.env.scope.names.lookup n=some .local)(h:∀ aQ,Inv X pins (σ.set i none) H aQ->Q () aQ) :
 aZ M A (do bindName X.env n Value.none;unbindBehindTheSuite X.env n pos) Q E s:=by
 obtain ⟨m,aA,ar⟩:=id I.loc
 have BX:(X.env.scope.kind==.class||(X.env.scope.kind==.module&&X.env.locals !=X.env.globals))=false:=by rw [I.ok.kind];rfl
 refine wpAny_nameGoes_keeps mR aA BX λ h' v mH hk=>h _ ?_
 have c0:∀ b u,b≠X.env.locals->s.heap.get? b=some u->h'.get? b=some u:=λ b u nb z=>by rw [hk.2 b nb];exact z
 have hL:∀ b o,X.s₀.heap.get? b=some o->b≠X.env.locals:=λ b o z=>by
  rintro rfl;exact absurd (dL z) (Nat.not_lt.mpr I.ok.above)
 have v3:∀ c v,s.heap.IsCell c v->c≠X.env.locals:=λ c v ⟨o,z,d⟩=>by
  rintro rfl;obtain ⟨dI,es,e9,gn,r⟩:=aA;rw [z] at gn;cases gn;rw [d] at r;cases r.1
 have cellK:∀ c v,s.heap.IsCell c v->h'.IsCell c v:=λ c v am=>by
  have ne:=v3 c v am;obtain ⟨o,z,d⟩:=am;exact ⟨o,c0 c o ne z,d⟩
 have iD:=I.base
 have ME:∀ b,b∈X.aC->b≠X.env.locals:=λ b af=>by
  obtain ⟨_,o,aR,_⟩:=I.ok.kD.mem af;exact hL b o aR
 refine ⟨I.ok,I.os,I.bare,⟨λ b o z n af ai=>c0 b o (hL b o z) (iD.keep b o z n af ai),λ b o z n af ai=>?_,iD.free,λ b o z ai=>?_,iD.kB,iD.jU,iD.kC⟩,⟨_,mH,λ MF x w aE aP e3=>?_⟩,λ x c z=>let ⟨v,bJ⟩:=I.cell x c z;⟨v,cellK c v bJ⟩,I.free,I.kE,λ p ah=>?_,Et I.bU λ b u af z=>c0 b u (by rintro rfl;exact af I.free) z,by rw [th];exact I.len⟩
 ·obtain ⟨bq,cN⟩:=iD.slot b o z n af ai;exact ⟨bq,c0 b _ (hL b o z) cN⟩
 ·obtain ⟨dI,cN⟩:=iD.there b o z ai;exact ⟨dI,c0 b dI (hL b o z) cN⟩
 ·have cX:i≠MF:=by
   rintro rfl;rw [List.getElem?_set] at aP;split at aP
   ·split at aP<;>cases aP
   ·next c=>exact c rfl
  rw [nI cX] at aP
  have XB:x≠n:=by
   rintro rfl;exact cX (BW dM au aE)
  obtain ⟨u,c1,l⟩:=ar MF x w aE aP e3;refine ⟨u,c1,?_⟩;rcases l with ⟨k,hm⟩ | ⟨k,c,z,am⟩
  ·exact .inl ⟨k,by show (if x=n then v else m x)=some u;rw [if_neg XB];exact hm⟩
  ·exact .inr ⟨k,c,z,cellK c _ am⟩
 ·obtain ⟨z,n,eg,eh,d⟩:=I.pin p ah;exact ⟨c0 p.1 p.2 eg z,n,eg,eh,d⟩
def AM(i:Nat)(D:Ends):Ends:=⟨λ σ H=>D.nx (σ.set i none) H,D.rt,λ σ H=>D.bk (σ.set i none) H,λ σ H=>D.ct (σ.set i none) H⟩
end
end L2
namespace L2
open PySem PySem.Spec PyProof.Rows PySem.W PySem.Calls Builtin Builtin.ObjectAttr Builtin.Getset_descriptor
structure kZ(K:Frag)(C:Addr):Prop where
 ga:findIn K (.ref C) "__getattribute__" = some (some (.builtin "BaseException.__getattribute__"))
 gr:findIn K (.ref C) "__getattr__" = some none
 ca:findIn K (.ref C) "__class__" = some (some (.builtin "object.__class__"))
 gt:specialIn K (.builtin "object.__class__") "__get__" = some (some (.builtin "getset_descriptor.__get__"))
 bR:takesIn K (.builtin "object.__class__")=some true
 mo:mroIn K C (.type "object")=some true
 jV:subIn K (.ref C) (.type "BaseException")=some true
 cl:(clsIn K C).isSome=true
def ExcAt(e C:Addr)(h:bO):Prop:=∃ dG,h.get? e=some dG/\dG.cls=.ref C
theorem ExcAt.ty{M:mx}{e C:Addr}{h:bO}(x:ExcAt e C h):Looks M h (oB (.ref e)) (.ref C):=by
 obtain ⟨dG,ae,ag⟩:=x;exact ag ▸ (Looks.ld ae).andThen .now
section
variable{prog:cS}{w:b_}{A:cL}{E:Value->aF->Prop}{s:aF}{K:Frag}{e C:Addr}
def XC{R:Result->aF->Prop}{hq:Value}(F:kZ K C)(X:K.In s.heap)(I:ExcAt e C s.heap)
 (h:R (.ok (.ret (.ref C))) s):p9 (a8 prog w) A (.call (.builtin "getset_descriptor.__get__") ⟨[.builtin "object.__class__", .ref e,hq],[]⟩) R s:=by
 obtain ⟨df,g,afV,t,os⟩:=s;have on:=I.ty (M:=a8 prog w);have lD:=looks_mroIn (M:=a8 prog w) X F.mo;refine va KF.slot_gs.plain KF.entry_gs (KF.slot_gs.check _ _ _ _ _ _ _ _ KF.type_class (KF.args_gs _ _ _) ?_);unfold Builtin.«getset_descriptor.__get__» descrGet;rw [dga_obj];refine aK (bC ?_);unfold descrGetter descrCheckInstance descrNameAndClass vg;simp only [KF.owner_class]
 repeat lk
 refine ⟨Code.quiet_builtin _ (by trivial),BJ KF.entry_class ?_⟩;unfold Builtin.«object.__class__» shownTypeOf
 repeat lk
 exact h
def MG(x:Value):bindSpecial (.builtin "BaseException.__getattribute__") x=pure (.builtin "BaseException.__getattribute__", [x]):=by kernel_rfl
def XD{M:mx}{h:bO}(F:kZ K C)(X:K.In h):Looks M h (find (.ref e) (.ref C) "__class__") (.bind (.builtin "getset_descriptor.__get__") (.builtin "object.__class__")):=by
 have lD:=vm (M:=M) X F.ca;have L2:Looks M h (getOf (some (.builtin "object.__class__"))) (some (.builtin "getset_descriptor.__get__")):=looks_specialIn X F.gt;have L3:=looks_takesIn (M:=M) X F.bR;refine lD.andThen (L2.andThen ?_);exact (show Looks M h (dataDescriptor? (some (.builtin "object.__class__")) (some (.builtin "getset_descriptor.__get__"))) (some (.builtin "getset_descriptor.__get__", .builtin "object.__class__")) from L3.andThen .now).andThen (Looks.tag .now)
def XE{Q:Option Value->aF->Prop}(F:kZ K C)(X:K.In s.heap)(I:ExcAt e C s.heap)(h:Q (some (.ref C)) { s with toks:=s.toks+1 }):aZ (a8 prog w) A (getAttr? (.ref e) "__class__") Q E s:=by
 obtain ⟨df,g,d,t,os⟩:=s;have on:=I.ty (M:=a8 prog w);have lD:=vm (M:=a8 prog w) X F.ga;have L2:=vm (M:=a8 prog w) X F.gr;have L3:=XD (M:=a8 prog w) (e:=e) F X;unfold getAttr? getAttrBy? getAttrBy;refine aK (wpAny_mkText (aK (p4 (jm (aK (on.at (aK (lD.at ?_))))))))
 dsimp only
 rw [show (yo (.ref C)&&Value.builtin "BaseException.__getattribute__"==Value.builtin "object.__getattribute__")=false from by rw [show (Value.builtin "BaseException.__getattribute__"==Value.builtin "object.__getattribute__")=false from by trivial,tr],if_neg (by decide)];refine aK ((show Looks (a8 prog w) df (hookBefore (.ref C)) none from L2).at (aK (p4 (jm ?_))));unfold callGetattribute;rw [show (false&&yo (Value.builtin "BaseException.__getattribute__"))=false from rfl,if_neg (by decide)];unfold boundAndCalled;rw [MG];refine aK (bC ?_);show aZ _ _ (call (.builtin "BaseException.__getattribute__") [.ref e,.str "__class__" t]) _ _ _;refine p6 ?_;refine va (by first | exact Code.quiet_builtin _ (by trivial) | decide +kernel) PySem.F.entry_bexc_ga ?_;refine @check_slot (a8 prog w) _ _ _ "BaseException.__getattribute__" "BaseException" "__getattribute__" (.ref e) [.str "__class__" t] [] _ (by trivial) (by trivial) (on.andThen (looks_subIn X F.jV)) (PySem.F.args_bexc_ga (.ref e) (.str "__class__" t)) ?_;refine aK (bC (aK (bC (aK (on.at (aK (L3.at ?_)))))));show aZ _ _ (jM [.builtin "object.__class__"] (call (.builtin "getset_descriptor.__get__") [.builtin "object.__class__", .ref e,.ref C]) >>= ret) _ _ _;refine aK (jm (p6 (XC F X I ?_)));refine bC ?_;exact handed_on rfl (bC h)
def Ev(F:kZ K C):KitX K (.ref e) (.ref C) (ExcAt e C) where
 ty:=λ M h _ p=>p.ty
 it:=λ M h X _=>by
  have aE:=F.cl;unfold clsIn at aE;split at aE
  ·rename_i dm d' XF rC aR
   intro lA lR gW aQ k q;unfold isType loadHead;exact aK (wpAny_loadPart (k _ _ (X _ _ aR)) (bC q))
  ·cases aE
 ne:=λ h hq dd aw n bq X XG=>yM.mpr λ q=>by
  cases beq_iff_eq.mp q;have aE:=F.cl;unfold clsIn at aE;split at aE
  ·rename_i dm d' XF rC aR
   have:=X _ _ aR;rw [XG] at this;cases this
  ·cases aE
 ca:=λ X p k=>XE F X p k
end
end L2
namespace L2
open PySem PySem.Spec PyProof.Rows
def XH(e:Addr)(C:Addr)(K:aV):List V->av->cC->Prop:=λ xs H Q=>∃ y,xs=[.ref e,y]/\((∃ c b,y=.ref c/\oI K (.ref C) (.ref c)=some b/\Q (.aJ b) H)\/(∃ T b,y=.ty T/\oI K (.ref C) (.type T)=some b/\Q (.aJ b) H) ∨
 ∃(a:Addr)(cs:List Addr)(b:Bool),y=.ref a/\eb K H a (cs.map V.ref)/\PySem.W.kitAny K (.ref C) (cs.map Value.ref)=some b/\Q (.aJ b) H)
theorem MH:∀{cs:List Addr}{aw:List Value},Vals (cs.map V.ref) aw->aw=cs.map Value.ref
 | [],aw,h=>by cases h;rfl
 | c::cs,aw,h=>by
  cases h with
  | cons r h=>rw [fh,<- MH h];cases r;rfl
end L2
namespace L3
open PySem PySem.Spec L2
section
variable{X:aT}
def Ew(i:Nat)(bY:qw):qw:=⟨λ ρ G=>bY.nx (ρ.set i none) G,bY.rt,λ ρ G=>bY.bk (ρ.set i none) G,λ ρ G=>bY.ct (ρ.set i none) G⟩
theorem dq.off{K:aV}{ρ:ef}{G:aL}{σ:St}{H:av}(b:dq K ρ G σ H)(i:Nat):dq K (ρ.set i none) G (σ.set i none) H where
 len:=by simp [b.len]
 ck:=b.ck
 st:=λ j e he=>by
  by_cases c:j=i
  ·subst c;rw [List.getElem?_set] at he;split at he
   ·split at he<;>cases he
   ·next z=>exact absurd rfl z
  ·rw [nI (Ne.symm c)] at he;rw [nI (Ne.symm c)];exact b.st j e he
theorem mY.off{K:aV}{G:aL}{H:av}{bY:qw}{dA:Ends}(F:mY K G H bY dA)(i:Nat):mY K G H (Ew i bY) (AM i dA):=
 ⟨λ ρ ap σ aj g b q=>F.nx _ ap _ aj g (b.off i) q,F.rt,λ ρ ap σ aj g b q=>F.bk _ ap _ aj g (b.off i) q,λ ρ ap σ aj g b q=>F.ct _ ap _ aj g (b.off i) q⟩
def uA:List D->Option (List Addr)
 | []=>some []
 | .ref a::ds=>(uA ds).map (a::·)
 | _=>none
theorem MI{K:aV}{H:av}:∀{ds:List D}{vs:List V}{cs:List Addr},uA ds=some cs->bH K H ds vs->vs=cs.map V.ref
 | [],vs,cs,h,a=>by cases h;cases a;rfl
 | .ref x::ds,vs,cs,h,a=>by
  unfold uA at h
  cases z:uA ds with
  | none=>rw [z] at h;cases h
  | some l=>
   rw [z] at h;cases h;obtain ⟨v,r,rfl,a1,a2⟩:=a;rw [MI z a2];cases a1;rfl
 | .bc::_,_,_,h,_=>by cases h
 | .aJ _::_,_,_,h,_=>by cases h
 | .int _::_,_,_,h,_=>by cases h
 | .str _::_,_,_,h,_=>by cases h
 | .ty _::_,_,_,h,_=>by cases h
 | .tup _::_,_,_,h,_=>by cases h
 | .ej _::_,_,_,h,_=>by cases h
def AN(K:aV)(C:Addr):D->Option Bool
 | .ref c=>oI K (.ref C) (.ref c)
 | .ty T=>oI K (.ref C) (.type T)
 | .tup ds=>match uA ds with
  | some cs=>PySem.W.kitAny K (.ref C) (cs.map Value.ref)
  | none=>none
 | _=>none
@[irreducible] def AO(K:aV)(C e:Addr):D->D->aL->cJ->Prop:=λ x y G Q=>x=.ref e/\∃ b,AN K C y=some b/\Q (.aJ b) G
def MJ{K:aV}{C e:Addr}{x y:D}{G:aL}{Q:cJ}:AO K C e x y G Q=(x=.ref e/\∃ b,AN K C y=some b/\Q (.aJ b) G):=by unfold AO;rfl
def Ex{K:aV}{C e:Addr}{y:D}{G:aL}{Q:cJ}{b:Bool}(k:AN K C y=some b)(q:Q (.aJ b) G):AO K C e (.ref e) y G Q:=by rw [MJ];exact ⟨rfl,b,k,q⟩
end
end L3
namespace L2
open PySem PySem.Spec PyProof.Rows
def ng(C:Addr)(aU:Option Addr)(t:Addr):Obj:={ cls:=.ref C,dict:=aU,data:=.fields #[.ref t,.none,.none,.none,.bool false,.none] }
section
variable{A:cL}{E:Value->aF->Prop}{nm q:Str}{C N:Addr}{bs bm MK:List Value}{hdct:Bool}{sn:List Str}{sub:List Value}{ab:Bool}{col:Option Bool}{dd:Option Addr}{k0 k1 k2 k3 k5:Option Value}{B newId XI:String}
def XJ{M:mx}{s:aF}{env:Env}{x:Sem Value}{Q:Flow->aF->Prop}(af:bm.contains (.type "BaseException")=true)(df:A.handled=none)
 (h:aZ M A x (λ v dJ=>∃ e t aU,v=.ref e/\dJ.heap.get? C=some (ta nm q C N bs bm hdct sn sub ab col dd k0 k1 k2 k3 k5 newId)/\dJ.heap.get? e=some (ng C aU t)/\E (.ref e) dJ) E s) :
 aZ M A (raiseStmt env (some x) none) Q E s:=by
 have cq:(Value.ref C::bm).contains (.type "BaseException")=true:=by rw [List.contains_cons,af,Bool.or_true]
 unfold raiseStmt;refine aK (hR h (λ v dJ z=>?_) λ _ _ y=>y);obtain ⟨e,t,aU,rfl,gV,he,Ey⟩:=z;unfold ng at he;obtain ⟨ah,g,d,bR,os⟩:=dJ
 repeat (first | with_reducible refine vd he ?_ | with_reducible refine vd gV ?_ | (with_reducible refine wpAny_isSubtype_exc gV ?_;rw [cq]) | wp_step)
 exact wpAny_raiseNew_none df Ey
variable{prog:cS}{w:b_}{h:bO}{g:Array GenState}{d:Drawn}{t:Nat}{os:OsState}
def XK(F:ExcBaseFacts B newId XI MK)(T:OwnTail h MK bm){sk:Str->Option Value}{rest:List Value}{gY:Addr}{sl:Obj}{Q:Value->aF->Prop}
 (gV:h.get? C=some (ta nm q C N bs bm hdct sn sub ab col dd k0 k1 k2 k3 k5 newId)) (aA:h.Ns N sk) (au:sk "__init__" = some (.ref gY)) (XM:h.get? gY=some sl) (XN:sl.cls=.type "function")
 (aM:∀ h' e,Heap.MadeExcOf h h' e (.ref C) rest->h.objs.size<=e->aZ (a8 prog w) (A.under (.builtin "type.__call__" ⟨.ref C::rest,[]⟩)) (call (.ref gY) (.ref e::rest)) (λ r aQ=>r=.none/\Q (.ref e) aQ) E ⟨h',g,d,t,os⟩)
 (wV:rest.length<=sizeLine):aZ (a8 prog w) A (call (.ref C) rest) Q E ⟨h,g,d,t,os⟩:=by
 have f1:=tc_lookup;have f2:=tc_bind (.ref C)
 have eo:(⟨h,g,d,t,os⟩:aF).TypeIs (.ref C) "type":=⟨_,gV,rfl⟩
 refine p6 (codeAny_of_tree ?_);show aZ _ _ (callAny (.ref C) _) _ _ _
 repeat (any_goals (first | assumption | with_reducible refine vd gV ?_ | wp_step))
 refine ⟨rfl,codeAny_call_builtin_at (Code.quiet_builtin _ (by trivial)) entry_typeCall (wpAny_check_type_call_sub gV ?_)⟩
 repeat (first | with_reducible refine vd gV ?_ | with_reducible refine wpAny_madeBy_exc gV ?_ | wp_step)
 refine codeAny_call_builtin_code (Code.quiet_builtin _ F.quiet) (wpAny_check_new_subT F T gV (codeAny_exc_new_subT F T gV ?_ wV));show aZ _ _ _ _ _ ⟨(h.push { cls:=.type "tuple", data:=.seq rest.toArray }).push { cls:=.ref C,data:=.fields #[.ref h.objs.size,.none,.none,.none,.bool false,.none] },g,d,t,os⟩;generalize sm:(h.push { cls:=.type "tuple", data:=.seq rest.toArray }).push { cls:=.ref C,data:=.fields #[.ref h.objs.size,.none,.none,.none,.bool false,.none] }=ae
 have keep:∀ b o,h.get? b=some o->ae.get? b=some o:=λ b o z=>by rw [<- sm];exact dQ _ (dQ _ z)
 have he:ae.get? (h.objs.size+1)=some { cls:=.ref C,data:=.fields #[.ref h.objs.size,.none,.none,.none,.bool false,.none] }:=by rw [<- sm];heap_get
 have bu:ae.get? h.objs.size=some { cls:=.type "tuple", data:=.seq rest.toArray }:=by rw [<- sm];exact dQ _ (Heap.get?_push_at rfl rfl)
 have ML:=keep _ _ gV
 have cq:(Value.ref C::bm).contains (.ref C)=true:=by simp
 unfold vg
 repeat (first | with_reducible refine vd he ?_ | (show aZ _ _ (isSubtype (.ref C) (.ref C)) _ _ _;refine wpAny_isSubtype_exc ML ?_;rw [cq]) | wp_step)
 show aZ _ _ (typeLookup (.ref C) _) _ _ _;refine wpAny_typeLookup_tail ML (aA.keeps keep) (T.keeps keep) F.mroIs F.init.lookup ?_;rw [au];refine jm (aK ?_);unfold bindSpecial;refine aK (q9 (T:="function") ⟨_,keep _ _ XM,XN⟩ ?_);rw [if_pos (by decide)];refine bC (aK (hR (aM ae (h.objs.size+1) ⟨keep,yR (tn _),h.objs.size,he,yR (b4 _),bu⟩ (tn _)) (λ r aQ ak=>?_) λ _ _ x=>x));obtain ⟨rfl,hU⟩:=ak
 wp_walk
 exact hU
end
abbrev AP:List Value:=[.type "ValueError", .type "Exception", .type "BaseException", .type "object"]
section
open Builtin Builtin.ObjectAttr
variable{prog:cS}{w:b_}{A:cL}{E:Value->aF->Prop}{s:aF}{K:aV}{C B e t:Addr}{name:Str}{v:Value}{cd:ky}
theorem XO{Q:Unit->aF->Prop}(X:K.In s.heap)(he:s.heap.get? e=some (ng C none t))(ax:nP K (.ref C) "__setattr__" = some (some (.builtin "object.__setattr__")))(am:lN K C=some cd)(hm:cd.mro=.ref C::.ref B::AP)(hd:cd.hasDict=true)
 (bu:PySem.W.takerIn K C name=some none)
  (h:∀ h' bR,h'.get? e=some (ng C (some s.heap.objs.size) t)->h'.Ns1 s.heap.objs.size (λ y=>if y=name then some v else none)->(∀ b o,b≠e->s.heap.get? b=some o->h'.get? b=some o)->Q () { s with heap:=h',toks:=bR }) :
  aZ (a8 prog w) A (setAttr (.ref e) name v) Q E s:=by
  have J:PySem.W.InstAt s.heap e (ng C none t) C none:=⟨he,rfl,rfl,trivial⟩
  refine PySem.W.set_plain X J ax ?_;have xr:=PySem.F.store_object
  have ne:cd.mro.isEmpty=false:=by rw [hm];rfl
  have sub:PySem.W.Looks (a8 prog w) s.heap (vg (.ref e) (.type "object")) true:=J.type.andThen (PySem.W.looks_mroIn X (by unfold PySem.W.mroIn;rw [am,Option.bind_some,if_neg (by rw [ne];decide),hm];rfl));have XP:PySem.W.Looks (a8 prog w) s.heap (mroOf (.ref C)) cd.mro:=(PySem.W.looks_clsIn X am).andThen .now;obtain ⟨attr,ay,ak⟩:=Option.bind_eq_some_iff.mp bu
  have L3:PySem.W.Looks (a8 prog w) s.heap (storeTaker? attr) none:=by
   cases attr with
   | none=>exact .now
   | some a=>
    obtain ⟨b,af,z⟩:=Option.map_eq_some_iff.mp ak;refine (PySem.W.looks_takesIn X af).andThen ?_
    cases b with
    | true=>cases z
    | false=>exact .now
  refine va xr.slot.plain xr.entry (@PySem.W.check_slot (a8 prog w) _ _ { s with toks:=s.toks+1 } "object.__setattr__" "object" "__setattr__" (.ref e) [.str name s.toks,v] [] _ xr.kind xr.split sub (xr.args (.ref e) (.str name s.toks) v) ?_);rw [PySem.W.osa_eq,refuse_eq];refine aK (aK (J.type.here (s:={ s with toks:=s.toks+1 }) (aK (XP.here (s:={ s with toks:=s.toks+1 }) ?_))));rw [hm,refuseLoop_ref,refuseLoop_ref,PySem.F.store_ValueError.passes];refine bC (aK (J.type.here (s:={ s with toks:=s.toks+1 }) (aK ((PySem.W.looks_findIn X ay).here (s:={ s with toks:=s.toks+1 }) (aK (L3.here (s:={ s with toks:=s.toks+1 }) ?_))))));show aZ _ _ (storeInOwnDict _ _ _ _ _ _) _ _ _;unfold storeInOwnDict;refine aK (bC (aK (aK (wpAny_loadPart he (aK (PySem.W.Looks.here (s:={ s with toks:=s.toks+1 }) (PySem.W.looks_clsIn X am) ?_))))));rw [hd,if_neg (by decide)];show aZ _ _ (if (!true||!typeHasDict (.ref C))=true then pure none else do let d ← alloc { cls:=.type "dict", data:=.dict #[] };update e λ o=>{ cls:=o.cls,dict:=some d,data:=o.data,slots:=o.slots };dictMade (.ref C) e d) _ _ _;rw [if_neg (by simp [typeHasDict])];have MM:(s.heap.push { cls:=.type "dict", data:=.dict #[] }).get? e=some (ng C none t):=dQ _ he;have ns:e≠s.heap.objs.size:=eW (dL he);refine aK (wpAny_alloc' (aK (wpAny_update' MM (bC ?_))));generalize sm:(s.heap.push { cls:=.type "dict", data:=.dict #[] }).update e (λ o=>{ cls:=o.cls,dict:=some s.heap.objs.size,data:=o.data,slots:=o.slots })=ae
  have g1:ae.get? s.heap.objs.size=some { cls:=.type "dict", data:=.dict #[] }:=by
   rw [<- sm];exact (vz _ _ _ _ ns.symm).trans (Heap.get?_push_at rfl rfl)
  have g2:ae.get? e=some (ng C (some s.heap.objs.size) t):=by rw [<- sm];exact qf _ MM rfl
  have c3:ae.Ns s.heap.objs.size (λ _=>none):=⟨_,#[],_,g1,rfl,λ e he=>absurd he (by simp),λ _=>rfl⟩
  show aZ _ _ (storeInDict s.heap.objs.size (.str name s.toks) name v) _ _ _;unfold storeInDict newKeyGuard;refine aK (bC (aK (wpAny_nsSet1 (Heap.Ns1.of_empty c3) λ h' mH ax=>?_)));obtain ⟨afW,afX,afY,XQ,XR,XS⟩:=mH.count (Within.cons name v Within.nil);refine aK (wpAny_lookBehind XQ (by rw [XR];exact pastItsLine_dict (hT XS (by rw [be,c7,hP];omega))) ?_)
  wp_walk
  refine h h' _ ((ax.2 e ns).trans g2) mH λ b o af z=>?_;rw [ax.2 b (eW (dL z)),<- sm,vz _ _ _ _ af];exact dQ _ z
end
def jH(e C:Addr)(aU:Option Addr):bO->Prop:=λ h=>∃ t,h.get? e=some (ng C aU t)
def Ez{P:cS}{w:b_}{H:av}{h:bO}{e C:Addr}{aU:Option Addr}(x:jH e C aU h):f5 P w H h e (.ext (jH e C aU)):=
 ⟨x,let ⟨_,z⟩:=x;⟨_,z⟩,λ _ _ ⟨t,z⟩ k=>⟨t,k _ z⟩⟩
structure so(K:aV)(C gY:Addr):Prop where
 ex:∃(bm:List Value)(N:Addr)(nm q:Str)(bs:List Value)(hdct:Bool)(sn:List Str)(sub:List Value)(ab:Bool)(col:Option Bool)(dd:Option Addr)(k0 k1 k2 k3 k5:Option Value)(sk:Str->Option Value)(sl:Obj),
  bm.contains (.type "BaseException")=true/\sk "__init__" = some (.ref gY)/\sl.cls=.type "function"/\∀ h:bO,K.In h->h.get? C=some (ta nm q C N bs bm hdct sn sub ab col dd k0 k1 k2 k3 k5 "ValueError.__new__")/\h.Ns N sk/\h.get? gY=some sl/\OwnTail h AP bm
structure AQ(K:aV)(C:Addr)(name:Str):Prop where
 IA:nP K (.ref C) "__setattr__" = some (some (.builtin "object.__setattr__"))
 cls:∃(cd:ky)(B:Addr),lN K C=some cd/\cd.mro=.ref C::.ref B::AP/\cd.hasDict=true
 bR:PySem.W.takerIn K C name=some none
structure AR(K:aV)(B:Addr):Prop where
 a_:yO K (.ref B) "__getattribute__" = some (some (.builtin "type.__getattribute__"))
 ak:PySem.W.readsIn K B (.type "type")=true
 hf:PySem.W.findCls K (.ref B) (.type "type") "__init__" = some (.val (.builtin "ValueError.__init__"))
def XT(C:Addr)(t:fT):TE:=λ σ H Q=>t σ H λ vs H1=>∃ a v,vs=[.ref a,v]/\H1 a=some (.ext (jH a C none))/\Q .bc H1
section
variable{X:aT}{pins:List (Addr × Obj)}{σ:St}{H:av}{s:aF}{C gY B:Addr}{name:Str}
def XU{H:av}{a:Addr}{o:gm}(h:H a=some o):upd H a o=H:=by
 funext b;by_cases c:b=a
 ·subst c;rw [eF,h]
 ·rw [cQ c]
def XW{A:cL}{E:Value->aF->Prop}{a:Addr}{u:Value}{Q:Value->aF->Prop}(nh:so X.K C gY)(I:Inv X pins σ H s)(g9:H a=some (.ext (jH a C none)))(aM:∀ aQ,Inv X pins σ H aQ->Q .none aQ) :
 aZ (a8 X.prog X.w) A (call (.builtin "ValueError.__init__") [.ref a,u]) Q E s:=by
 obtain ⟨bm,N,nm,q,bs,hdct,sn,sub,ab,col,dd,k0,k1,k2,k3,k5,sk,sl,f1,f2,dn,f4⟩:=nh.ex;obtain ⟨g1,g2,g3,gw⟩:=f4 s.heap I.et;obtain ⟨⟨t,he⟩,_⟩:=I.bU a _ g9;have F:=PySem.F.excBase_ValueError;obtain ⟨ah,g,d,bR,os⟩:=s;refine p6 (va F.init.plain F.initEntry (wpAny_check_init_subT F gw g1 he rfl ?_));have iV:=he;unfold ng at iV
 wp_walk
 refine aM _ ?_;have MN:((ah.push { cls:=.type "tuple", data:=.seq #[u] }).update a (Obj.mapFields λ x=>x.setIfInBounds 0 (.ref ah.objs.size))).get? a=some (ng C none ah.objs.size):=qf _ (dQ _ he) rfl
 have J:=I.write (x:=a) (e:=a) (o:=.ext (jH a C none)) (h':=(ah.push { cls:=.type "tuple", data:=.seq #[u] }).update a (Obj.mapFields λ x=>x.setIfInBounds 0 (.ref ah.objs.size))) (t':=bR) (by rw [g9];exact True.intro) (.inl rfl)
  (λ b o af z=>by rw [vz _ _ _ _ af];exact dQ _ z) ⟨_,MN⟩ (Ez ⟨_,MN⟩)
 rw [XU g9] at J;exact J
def XX{uB:Str}{cE apos cM:Pos}{aE aP:a9}{t:fT}{pl:Sem Bool}(nh:so X.K C gY)(pJ:AR X.K B)(a_:ew X uB)(hm:X.mg uB=some (.ref B))(ay:iI X [aE,aP] t)(fJ:(uB==("__debug__" : Str))=false:=by decide)
 (g5:dU [aE,aP] X.env=(false,eval aE X.env)::dU [aP] X.env:=by rfl) (g7:(g0 cM (dU [aP] X.env)).any (·.1)=false:=by rfl)
 (bu:eval (.Call (.Attribute (.Name uB cE) "__init__" apos) [aE,aP] [] cM) X.env=(do
  let gh ← eval (.Name uB cE) X.env
  p8 apos.atName
  let (f,first) ← jM [gh] (getMethod gh "__init__" pl)
  callWith cM f first (g0 cM (dU [aE,aP] X.env)) (vh cM (vf [] X.env))):=by rfl) :
 b5 X (.Call (.Attribute (.Name uB cE) "__init__" apos) [aE,aP] [] cM) (XT C t):=by
 intro pins s σ H Q I h;refine PySem.W.methodCall_KW (pl:=pl) (tD I a_ hm ?_ fJ) bu;refine PySem.W.method_cls I.et pJ.a_ (PySem.W.cls_value I.et pJ.ak pJ.hf (by decide) ?_);show aZ _ _ (callWith cM (.builtin "ValueError.__init__") [] (g0 cM (dU [aE,aP] X.env)) []) _ _ _;refine PyProof.Rows.callWith_builtin1 (b2 (ay cM pins _ σ H _ (I.tok _) h) λ us s1 ⟨vs,H1,a4,r,a,v,ev,fU,q⟩=>?_) g5 g7;subst ev;obtain ⟨c9,d4,rfl,aX,bj⟩:=Vals.two r;cases aX
 exact XW nh a4 fU λ s2 c5=>⟨.bc,H1,c5,rfl,q⟩
theorem Inv.writeNew{a aU:Addr}{o u:gm}{h':bO}{t':Nat}(I:Inv X pins σ H s)(jT:vA (H a))(k:∀ b u,b≠a->s.heap.get? b=some u->h'.get? b=some u)(oO:∃ u,h'.get? a=some u)(hd:s.heap.objs.size<=aU)(uC:aU≠a)
 (XY:∀ aj,f5 X.prog X.w aj h' a o) (newD:∀ aj,f5 X.prog X.w aj h' aU u):Inv X pins σ (upd (upd H aU u) a o) { s with heap:=h',toks:=t' }:=by
 have aA:H aU=none:=I.bU.fresh hd;have c9:fS X.aC [] H (upd H a o) s.heap h':=fS.write jT (.inl rfl) k oO;have ae:fC X.prog X.w (upd H a o) h':=I.bU.write jT (.inl rfl) k oO (XY _)
 have dt:upd (upd H aU u) a o=upd (upd H a o) aU u:=by
  funext b;by_cases c:b=a
  ·subst c;rw [eF,cQ uC.symm,eF]
  ·rw [cQ c];by_cases b6:b=aU
   ·subst b6;rw [eF,eF]
   ·rw [cQ b6,cQ b6,cQ c]
 have kj:upd H a o aU=none:=by rw [cQ uC];exact aA
 rw [dt];refine I.un ⟨c9.keep,c9.slot,λ b dv z n ai=>?_,c9.there,λ b xs z=>?_,λ b dv v z=>?_,λ b ps z=>?_⟩ λ b v z=>?_
 ·rw [cQ (eW (iF (dL z) hd))];exact c9.free b dv z n ai
 ·have e:=c9.kB b xs z;rw [cQ (h9 e kj)];exact e
 ·have e:=c9.jU b dv v z;rw [cQ (h9 e kj)];exact e
 ·obtain ⟨m,e⟩:=c9.kC b ps z;exact ⟨m,by rw [cQ (h9 e kj)];exact e⟩
 ·by_cases af:b=aU
  ·subst af;rw [eF] at z;cases z;exact newD _
  ·rw [cQ af] at z;exact (ae b v z).nS (λ _ _ _ q=>q) (λ c q=>by rw [cQ (h9 q kj)];exact q) λ c xs q=>by rw [cQ (h9 q kj)];exact q
def XZ(C:Addr)(bb m7:TE)(name:Str):ft:=λ D σ H=>m7 σ H λ y H1=>bb σ H1 λ x a3=>∃ a,x=.ref a/\a3 a=some (.ext (jH a C none))/\∀ aU,a3 aU=none->aU≠a->D.nx σ (upd (upd a3 aU (.gS [(name,y)])) a (.ext (jH a C (some aU))))
def X0{o value:a9}{pos pos':Pos}{bb m7:TE}(sq:AQ X.K C name)(ay:b5 X o bb)(bJ:b5 X value m7)(ax:jL value (some (.Attribute o name pos')) pos.line X.env=pure false):jX X (.Assign [.Attribute o name pos'] value pos) (XZ C bb m7 name):=by
 intro pins s σ H D I h;refine plainObj_wpAny_Assign_Attribute (b2 (bJ pins s σ H _ I h) λ u s1 ⟨y,H1,a4,cD,q⟩=>b2 (ay pins s1 σ H1 _ a4 q) λ gh s2 ⟨x,a3,c5,a7,a,ex,fU,bl⟩=>?_) ax;subst ex;obtain rfl:gh=Value.ref a:=a7;obtain ⟨⟨t,he⟩,_⟩:=c5.bU a _ fU;obtain ⟨cd,B,cq,b6,fz⟩:=sq.cls;have aA:a3 s2.heap.objs.size=none:=c5.bU.fresh (b4 _);have na:s2.heap.objs.size≠a:=rv (dL he)
 refine XO c5.et he sq.IA cq b6 fz sq.bR λ h' bR aE aP e3=>⟨σ,_,?_,bl s2.heap.objs.size aA na⟩
 refine c5.writeNew (by rw [fU];exact True.intro) e3 ⟨_,aE⟩ (b4 _) na (λ _=>Ez ⟨t,aE⟩) λ _=>⟨_,aP,λ f=>?_⟩
 by_cases c:f=name
 ·subst c;simp only [qb,beq_self_eq_true,if_true];exact cD
 ·have dm:(f==name)=false:=beq_eq_false_iff_ne.mpr c;simp only [qb,dm,if_neg c,List.lookup_nil];exact True.intro
def xt(C:Addr)(name:Str):i8:=λ vs H Q _=>∃ a v,vs=[.ref a,v]/\H a=some (.ext (jH a C none))/\∀ aU,H aU=none->aU≠a->Q .bc (upd (upd H aU (.gS [(name,v)])) a (.ext (jH a C (some aU))))
end
def X1{P:cS}{w:b_}{K:aV}{mg:Str->Option Value}{base:bO}{x qual cE name:Str}{st:b1}{f C B gY:Addr}{fd:gZ}{aH bl dZ ia lc lS mM tO MO MP:Pos}
 (F:ed K x qual st f fd) (S:ez ["self", cE] ["self", cE] (cW st)) (nh:so K C gY) (pJ:AR K B) (sq:AQ K C name) (hm:mg "BagError" = some (.ref B))
 (af:j2 st=[.Expr (.Call (.Attribute (.Name "BagError" aH) "__init__" bl) [.Name "self" dZ,.Name cE ia] [] lc) lS,.Assign [.Attribute (.Name "self" mM) name tO] (.Name cE MO) MP])
 (X2:∀(bW:Value)(A:cL)(outer:List Env)(s:aF)(H:av)(E:gp),ew (e_ dz P w K mg base ["self", cE] qual (cW st) f bW A outer s H E) "BagError") (bu:∀(bW:Value)(A:cL)(outer:List Env)(s:aF)(H:av)(E:gp),∃ pl:Sem Bool,eval (.Call (.Attribute (.Name "BagError" aH) "__init__" bl) [.Name "self" dZ,.Name cE ia] [] lc) (e_ dz P w K mg base ["self", cE] qual (cW st) f bW A outer s H E).env=(do
  let gh ← eval (.Name "BagError" aH) (e_ dz P w K mg base ["self", cE] qual (cW st) f bW A outer s H E).env
  p8 bl.atName
  let (MQ,first) ← jM [gh] (getMethod gh "__init__" pl)
  callWith lc MQ first (g0 lc (dU [.Name "self" dZ,.Name cE ia] (e_ dz P w K mg base ["self", cE] qual (cW st) f bW A outer s H E).env)) (vh lc (vf [] (e_ dz P w K mg base ["self", cE] qual (cW st) f bW A outer s H E).env))))
 (X3:qg (cW st) "self") (X4:qg (cW st) cE)
 (mT:∀{env:Env},jL (.Call (.Attribute (.Name "BagError" aH) "__init__" bl) [.Name "self" dZ,.Name cE ia] [] lc) none lS.line env=pure false) (X5:∀{env:Env},jL (.Name cE MO) (some (.Attribute (.Name "self" mM) name tO)) MP.line env=pure false) (MR:(cE==("__debug__" : Str))=false:=by decide) (pv:(cE==("__classdict__" : Str))=false:=by decide) :
 dp P w K mg base dz 1 f fd ["self", cE] (xt C name):=by
 obtain ⟨gT,eR,gR,doc,pm,an,bW,ct,jt,rfl,lk,hV⟩:=F.ex;refine Ce (k:=0) lk hV S (λ vs H Q E h=>?_) λ A outer s H vs Q E ak lT=>?_
 ·obtain ⟨_,_,rfl,_⟩:=h;rfl
 ·obtain ⟨a,v,rfl,g9,q⟩:=lT;rw [af];have v0:∀{q:Pos},b5 (e_ dz P w K mg base ["self", cE] qual (cW st) f bW A outer s H E) (.Name "self" q) (y0 0):=y1 rfl X3 (by decide) (by decide);have v1:∀{q:Pos},b5 (e_ dz P w K mg base ["self", cE] qual (cW st) f bW A outer s H E) (.Name cE q) (y0 1):=y1 rfl X4 MR pv;obtain ⟨pl,bu⟩:=bu bW A outer s H E;refine ⟨_,Ia (Ie (XX (C:=C) (pl:=pl) nh pJ (X2 bW A outer s H E) hm (pc v0 (pc v1 Cb)) (by decide) rfl rfl bu) mT) (Ib (X0 sq v0 v1 X5)),?_⟩;exact ⟨_,rfl,_,rfl,a,v,rfl,g9,_,rfl,_,rfl,a,rfl,g9,λ aU ae ag=>q aU ae ag⟩
section
variable{X:aT}{C gY:Addr}{name cx:Str}{fd:gZ}{ps:List Str}{e:a9}{aW:TE}{W:V->av->Prop}{np cM pos:Pos}
theorem X6{k:Nat}(nh:so X.K C gY)(F:dp X.prog X.w X.K X.mg X.base dz k gY fd ps (xt C name))(ak:fV (k+1) X.A)(a_:ew X cx)(hm:X.mg cx=some (.ref C))(aD:lM X.K (.ref C)=true)(af:Binds X.K fd ps [])(ay:b5 X e aW)(am:X.calm=true)(hex:X.ex=[])
 (ai:∀(pins:List (Addr × Obj))(σ:St)(H:av)(s:aF)(a aU:Addr)(v:V),Inv X pins σ (upd (upd H aU (.gS [(name,v)])) a (.ext (jH a C (some aU)))) s->H a=none->H aU=none->aU≠a->X.s₀.heap.get? a=none->X.s₀.heap.get? aU=none->W v H->X.xe (.ref a) s)
 (bK:gu e=true:=by rfl) (fJ:(cx==("__debug__" : Str))=false:=by decide) (he:dU [e] X.env=(false,eval e X.env)::dU [] X.env:=by rfl) (g7:(g0 cM (dU [] X.env)).any (·.1)=false:=by rfl) :
 jX X (.Raise (some (.Call (.Name cx np) [e] [] cM)) none pos) (λ _ σ H=>aW σ H λ x H1=>∃ v,[x]=[v]/\W v H1):=by
 intro pins s σ H D I h;obtain ⟨bm,N,nm,q,bs,hdct,sn,sub,ab,col,dd,k0,k1,k2,k3,k5,sk,sl,f1,f2,dn,f4⟩:=nh.ex;rw [arm_exec_Raise];refine aK (p2 (XJ (C:=C) (nm:=nm) (q:=q) (N:=N) (bs:=bs) (bm:=bm) (hdct:=hdct) (sn:=sn) (sub:=sub) (ab:=ab) (col:=col) (dd:=dd) (k0:=k0) (k1:=k1) (k2:=k2) (k3:=k3) (k5:=k5) (newId:="ValueError.__new__") f1 (I.ok.hd am) ?_));refine aK (b2 (Q:=λ v dJ=>∃ e t aU,v=.ref e/\dJ.heap.get? C=some (ta nm q C N bs bm hdct sn sub ab col dd k0 k1 k2 k3 k5 "ValueError.__new__")/\dJ.heap.get? e=some (ng C aU t)/\X.xe (.ref e) dJ) ?_ λ v y5 m_=>aK (p2 (bC m_)));refine q7 (tD I a_ hm ?_ fJ);refine PySem.W.callWith_K (h₀:=X.base) I.ok.mod.vB aD (b2 (pc ay Cb bK cM pins s σ H (λ vs H1=>∃ v,vs=[v]/\W v H1) I h) λ us s1 ⟨vs,H1,a4,r,v,ev,EA⟩=>⟨a4.et,?_⟩) he g7;subst ev;obtain ⟨u,rfl,c1⟩:=Vals.one r;obtain ⟨g1,g2,g3,gw⟩:=f4 s1.heap a4.et;show aZ _ _ (call (.ref C) [u]) _ _ _;obtain ⟨ah,gk,d,bR,os⟩:=s1;refine XK PySem.F.excBase_ValueError gw g1 g2 f2 g3 dn (λ h' a hm h_=>?_) (by show 1<=sizeLine;decide);obtain ⟨t,cN,cc,hr⟩:=hm.there;have c5:Inv X pins σ (upd H1 a (.ext (jH a C none))) ⟨h',gk,d,bR,os⟩:=a4.laid (t':=bR) hm.keeps h_ (Ez ⟨t,cN⟩);have kj:H1 a=none:=a4.bU.fresh h_;have bj:Vals [V.ref a,v] [Value.ref a,u]:=.cons rfl (.cons c1 .nil)
 have aM:xt C name [.ref a,v] (upd H1 a (.ext (jH a C none))) (λ y aj=>y=.bc/\∃ aU,H1 aU=none/\aU≠a/\aj=upd (upd H1 aU (.gS [(name,v)])) a (.ext (jH a C (some aU)))) vY:=
  ⟨a,v,rfl,eF,λ aU ae ag=>⟨rfl,aU,by rw [cQ ag] at ae;exact ae,ag,by
   funext b;by_cases c:b=a
   ·subst c;rw [eF,eF]
   ·rw [cQ c,cQ c];by_cases b6:b=aU
    ·subst b6;rw [eF,eF]
    ·rw [cQ b6,cQ b6,cQ c]⟩⟩
 have ar:[Value.ref a,u].length=ps.length:=F.len _ _ _ _ aM;have fN:=af ⟨h',gk,d,bR,os⟩ [Value.ref a,u] c5.et (by rw [eP];exact ar);rw [eP] at fN;refine p6 (s_ (F.run _ X.stack _ _ ⟨[Value.ref a,u],[]⟩ [Value.ref a,u] [V.ref a,v] _ vY (ak.make C [u] []) (c5.Cd.make C [u] []) fN bj aM) λ r aQ jg=>?_)
 cases r with
 | error e=>exact (show False from jg).elim
 | ok fI=>
  cases fI with
  | ret y=>
   obtain ⟨afZ,aj,vP,X7,un,Co,cD,rfl,aU,c3,b8,rfl⟩:=jg;cases cD;have ei:=c5.yZ (ch:=[]) vP un Co X7 (λ b z=>absurd z (by simp))
   have bv:X.s₀.heap.get? aU=none:=by
    cases z:X.s₀.heap.get? aU with
    | none=>rfl
    | some o=>
     obtain ⟨dI,cN⟩:=c5.base.there aU o z (by rw [hex];simp);have cc:=un.free aU dI cN (by rw [cQ b8];exact c3) (by simp);rw [cQ b8,eF] at cc;cases cc
   have na:X.s₀.heap.get? a=none:=yR (hT a4.h_ h_);obtain ⟨⟨t',gi⟩,_⟩:=ei.bU a _ eF;exact ⟨rfl,a,t',some aU,rfl,(f4 aQ.heap ei.et).1,gi,ai pins σ H1 aQ a aU v ei kj c3 b8 na bv EA⟩
  | next=>exact False.elim jg
  | brk=>exact False.elim jg
  | cont=>exact False.elim jg
end
end L2
namespace L2
open PySem PySem.Spec PyProof.Rows
def lE(h:bO)(e T:Addr)(cls:Value)(dd:Option Addr)(fI:Value):Prop:=
 ∃ dG vs iC en,h.get? e=some dG/\dG.cls=cls/\dG.dict=dd/\dG.data=Data.fields vs/\vs[1]?=some (Value.ref T)/\T≠e/\h.get? T=some iC/\iC.data=Data.fields en/\en[3]?=some fI
def MS(h:bO)(e:Addr)(cls:Value)(dd:Option Addr):Prop:=
 ∃ dG vs,h.get? e=some dG/\dG.cls=cls/\dG.dict=dd/\dG.data=Data.fields vs/\vs[1]?=some Value.none
section
variable{M:mx}{A:cL}{E:Value->aF->Prop}{s:aF}{e T L:Addr}{cls fI:Value}{dd:Option Addr}{base:bO}{env:Env}{outer:List Env}{Q:Unit->aF->Prop}
def AS(f:lE s.heap e T cls dd fI)(aM:∀ h',lE h' e T cls dd .none->(∀ b,b≠T->h'.get? b=s.heap.get? b)->Q () { s with heap:=h' }):aZ M A (setFlight (.ref e) none) Q E s:=by
 obtain ⟨dG,vs,iC,en,f1,f2,dn,f4,eK,lF,lG,f8,qN⟩:=f;have hr:3 < en.size:=(tp.mp qN).1;unfold setFlight;refine aK (hQ f1 f4 eK ?_);rw [if_pos (show (Value.ref T !=Value.none)=true from by simp)];have c0:∀ b,b≠T->(s.heap.update T (Obj.mapFields (·.setIfInBounds 3 ((none:Option Addr).elim Value.none λ f=>hD f)))).get? b=s.heap.get? b:=λ b af=>vy _ _ af.symm;exact s9 lG f8 hr (aM _ ⟨dG,vs,_,_,(c0 e lF.symm).trans f1,f2,dn,f4,eK,lF,qf _ lG (Obj.isFreed_of_fields (Obj.data_mapFields f8 _)),Obj.data_mapFields f8 _,by simp [hr]⟩ c0)
def X8(o:Obj)(g:Array Value->Array Value):(Obj.mapFields g o).dict=o.dict:=by
 obtain ⟨c,d,EB,bq⟩:=o;cases EB<;>rfl
theorem MT{dG:Obj}{vs:Array Value}{head:Value}{aA:Bool}(gN:A.frames=some (env::outer))(ar:s.heap.FunFrames base (env::outer))(hf:env.frame=some L)(he:s.heap.get? e=some dG)(hd:dG.data=Data.fields vs)(hz:1 < vs.size)
 (aM:∀ h' em,lE h' e em dG.cls dG.dict (hD L)->s.heap.get? em=none->(∀ b o,b ∉ eS (env::outer)->b≠e->s.heap.get? b=some o->h'.get? b=some o)->(∀ b o,b≠e->s.heap.get? b=some o->∃ bq,h'.get? b=some { o with slots:=bq })->Q () { s with heap:=h' }) :
 aZ M A (do let a ← frameOf env;let pl ← entryPlaceOf L aA;let b ← EntryCells.newEntry head a .none (hD L) .none pl;vi (.ref e) 1 b) Q E s:=by
 have ne:e ∉ (env::outer).filterMap (·.frame):=λ hm=>by
  obtain ⟨_,o,aR,ai⟩:=ar.mem hm;rw [he] at aR;cases aR;exact ai vs hd
 refine aK (wpAny_frameOf_fun gN ar hf λ ae kk=>aK (wpAny_entryPlaceOf λ pl g7=>?_));unfold EntryCells.newEntry newFields;refine aK (kx ?_ (g7.sizeOk5 _ _ _ _ _));have aE:ae.get? e=some dG:=(kk.2.1 e ne).trans he;generalize eo:({ cls:=.type "traceback", dict:=none,data:=.fields ([head,.ref L,.none,hD L,.none]++(if pl.isEmpty then fs 6 Value.none else pl)).toArray }:Obj)=iC;have aP:(ae.push iC).get? e=some dG:=dQ _ aE;refine s9 aP hd hz ?_;have jG:ae.objs.size≠e:=rv (dL aE);have uD:=Obj.data_mapFields hd (·.setIfInBounds 1 (Value.ref ae.objs.size));have c0:∀ b,b≠e->((ae.push iC).update e (Obj.mapFields (·.setIfInBounds 1 (Value.ref ae.objs.size)))).get? b=(ae.push iC).get? b:=λ b af=>vy _ _ af.symm;have EC:(ae.push iC).get? ae.objs.size=some iC:=hG ae (by rw [<- eo];rfl)
 have fresh:s.heap.get? ae.objs.size=none:=by
  cases z:s.heap.get? ae.objs.size with
  | none=>rfl
  | some o=>
   obtain ⟨bq,cN⟩:=kk.2.2 _ o z;exact absurd (dL cN) (nO _)
 refine aM _ ae.objs.size ⟨_,_,iC,_,qf _ aP (Obj.isFreed_of_fields uD),Obj.cls_mapFields _ _,X8 _ _,uD,by simp [hz],jG,(c0 _ jG).trans EC,by rw [<- eo],?_⟩ fresh (λ b o c3 b8 z=>?_) λ b o b8 z=>?_
 ·first | (simp;done) | (rcases g7 with rfl | ⟨_,_,_,_,_,_,_,rfl⟩<;>simp)
 ·rw [c0 b b8];exact dQ _ ((kk.2.1 b c3).trans z)
 ·rw [c0 b b8];obtain ⟨bq,cN⟩:=kk.2.2 b o z;exact ⟨bq,dQ _ cN⟩
end
section
variable{M:mx}{A:cL}{E:Value->aF->Prop}{s:aF}{e T L:Addr}{cls fI:Value}{dd:Option Addr}{base:bO}{env:Env}{outer:List Env}{Q:Unit->aF->Prop}
def X9(gN:A.frames=some (env::outer))(ar:s.heap.FunFrames base (env::outer))(hf:env.frame=some L)(f:MS s.heap e cls dd)
 (aM:∀ h' em,lE h' e em cls dd (hD L)->s.heap.get? em=none->(∀ b o,b ∉ eS (env::outer)->b≠e->s.heap.get? b=some o->h'.get? b=some o)->(∀ b o,b≠e->s.heap.get? b=some o->∃ bq,h'.get? b=some { o with slots:=bq })->Q () { s with heap:=h' }) :
 aZ M A (WF (.ref e) env) Q E s:=by
 obtain ⟨dG,vs,f1,rfl,rfl,f4,eK⟩:=f;unfold WF;simp only [hf];refine aK (hQ f1 f4 eK ?_);rw [if_neg (by decide)];exact MT gN ar hf f1 f4 (tp.mp eK).1 aM
def MU(gN:A.frames=some (env::outer))(ar:s.heap.FunFrames base (env::outer))(hf:env.frame=some L)(f:lE s.heap e T cls dd .none)
 (aM:∀ h' em,lE h' e em cls dd (hD L)->s.heap.get? em=none->(∀ b o,b ∉ eS (env::outer)->b≠e->b≠T->s.heap.get? b=some o->h'.get? b=some o)->(∀ b o,b≠e->b≠T->s.heap.get? b=some o->∃ bq,h'.get? b=some { o with slots:=bq })->Q () { s with heap:=h' }) :
 aZ M A (WF (.ref e) env) Q E s:=by
 obtain ⟨dG,vs,iC,en,f1,rfl,rfl,f4,eK,lF,lG,f8,qN⟩:=f;unfold WF;simp only [hf];refine aK (hQ f1 f4 eK ?_);rw [if_pos (show (Value.ref T !=Value.none)=true from by simp)];refine aK (hQ lG f8 qN ?_);rw [if_neg (show ¬ ((Value.none==hD L)=true) from by simp [hD])];refine aK (s9 lG f8 (tp.mp qN).1 ?_);have c0:∀ b,b≠T->(s.heap.update T (Obj.mapFields (·.setIfInBounds 3 Value.none))).get? b=s.heap.get? b:=λ b af=>vy _ _ af.symm
 have X_:∀ b o,s.heap.get? b=some o->(∀ vs,o.data≠.fields vs)->b≠T:=λ b o z ai q=>by
  rw [q,lG] at z;cases z;exact ai en f8
 have EC:(s.heap.update T (Obj.mapFields (·.setIfInBounds 3 Value.none))).get? T=some _:=qf _ lG (Obj.isFreed_of_fields (Obj.data_mapFields f8 _));refine MT (s:={ s with heap:=s.heap.update T (Obj.mapFields (·.setIfInBounds 3 Value.none)) }) gN (ar.of_keeps λ b o z ai=>⟨o,(c0 b (X_ b o z ai)).trans z,rfl⟩) hf ((c0 e lF.symm).trans f1) f4 (tp.mp eK).1 λ h' em k1 k2 k3 jB=>?_
 have jG:em≠T:=by
  rintro rfl;have z:(s.heap.update em (Obj.mapFields (·.setIfInBounds 3 Value.none))).get? em=none:=k2;rw [EC] at z;cases z
 exact aM h' em k1 ((c0 em jG).symm.trans k2) (λ b o c3 b8 hW z=>k3 b o c3 b8 ((c0 b hW).trans z)) λ b o b8 hW z=>jB b o b8 ((c0 b hW).trans z)
def Ya(gN:A.frames=some (env::outer))(ar:s.heap.FunFrames base (env::outer))(hf:env.frame=some L)(f:MS s.heap e cls dd)
 (aM:∀ h' em,lE h' e em cls dd .none->s.heap.get? em=none->(∀ b o,b ∉ eS (env::outer)->b≠e->s.heap.get? b=some o->h'.get? b=some o)->(∀ b o,b≠e->s.heap.get? b=some o->∃ bq,h'.get? b=some { o with slots:=bq })->Q () { s with heap:=h' }) :
 aZ M A (rg env (.ref e)) Q E s:=by
 unfold rg;refine aK (X9 gN ar hf f λ ae em k1 k2 k3 jB=>?_);refine AS (s:={ s with heap:=ae }) k1 λ ag k5 qO=>aM ag em k5 k2 (λ b o c3 b8 z=>?_) λ b o b8 z=>?_
 ·have nb:b≠em:=by rintro rfl;rw [k2] at z;cases z
  exact (qO b nb).trans (k3 b o c3 b8 z)
 ·have nb:b≠em:=by rintro rfl;rw [k2] at z;cases z
  obtain ⟨bq,cN⟩:=jB b o b8 z;exact ⟨bq,(qO b nb).trans cN⟩
def Yb(gN:A.frames=some (env::outer))(ar:s.heap.FunFrames base (env::outer))(hf:env.frame=some L)(f:lE s.heap e T cls dd .none)
 (aM:∀ h' em,lE h' e em cls dd .none->s.heap.get? em=none->(∀ b o,b ∉ eS (env::outer)->b≠e->b≠T->s.heap.get? b=some o->h'.get? b=some o)->(∀ b o,b≠e->b≠T->s.heap.get? b=some o->∃ bq,h'.get? b=some { o with slots:=bq })->Q () { s with heap:=h' }) :
 aZ M A (rg env (.ref e)) Q E s:=by
 unfold rg;refine aK (MU gN ar hf f λ ae em k1 k2 k3 jB=>?_);refine AS (s:={ s with heap:=ae }) k1 λ ag k5 qO=>aM ag em k5 k2 (λ b o c3 b8 hW z=>?_) λ b o b8 hW z=>?_
 ·have nb:b≠em:=by rintro rfl;rw [k2] at z;cases z
  exact (qO b nb).trans (k3 b o c3 b8 hW z)
 ·have nb:b≠em:=by rintro rfl;rw [k2] at z;cases z
  obtain ⟨bq,cN⟩:=jB b o b8 hW z;exact ⟨bq,(qO b nb).trans cN⟩
end
abbrev xu(H:av)(dd:Option Addr)(aC:List (Str × V)):av:=match dd with
 | some aU=>upd H aU (.gS aC)
 | none=>H
def uE(h:bO)(dd:Option Addr)(aC:List (Str × V)):Prop:=match dd with
 | some aU=>∃ mA,h.Ns1 aU mA/\∀ f,oL (aC.lookup f) (mA f)
 | none=>aC=[]
structure MV(P:cS)(w:b_)(outer:List Env)(H:av)(s:aF)(a T:Addr)(C:Addr)(dd:Option Addr)(aC:List (Str × V))(aj:av)(aQ:aF):Prop where
 os:aQ.os=s.os
 bare:my aQ.gens
 un:fS (eS outer) [] H aj s.heap aQ.heap
 bU:fC P w aj aQ.heap
 fI:lE aQ.heap a T (.ref C) dd .none
 dict:uE aQ.heap dd aC
 ay:aj a=none
 eo:aj T=none
 hd:∀ aU,dd=some aU->aj aU=none/\s.heap.get? aU=none/\aU≠a/\aU≠T
 na:s.heap.get? a=none
 jG:s.heap.get? T=none
def fo(P:cS)(w:b_):mO:=λ outer H s E e aQ=>∃(a T C:Addr)(dd:Option Addr)(aC:List (Str × V))(aj:av),e=.ref a/\MV P w outer H s a T C dd aC aj aQ/\E (.ref C) dd (xu aj dd aC)
def MW:gm->Prop
 | .ext _=>True
 | .gS _=>True
 | _=>False
section
variable{P:cS}{w:b_}{H H1:av}{h h':bO}{x:Addr}{o:gm}{aC ex:List Addr}
def oEq(u:fS aC ex H (upd H1 x o) h h')(ar:MW o)(aA:H1 x=none)(ai:h.get? x=none):fS aC ex H H1 h h':=by
 have ne:∀ b dv,h.get? b=some dv->b≠x:=λ b dv z=>by rintro rfl;rw [ai] at z;cases z
 refine ⟨u.keep,u.slot,λ b dv z n af=>?_,u.there,λ b xs z=>?_,λ b dv v z=>?_,λ b ps z=>?_⟩
 ·have e:=u.free b dv z n af;rw [cQ (ne b dv z)] at e;exact e
 ·have e:=u.kB b xs z;by_cases c:b=x
  ·subst c;rw [eF] at e;cases e;exact ar.elim
  ·rw [cQ c] at e;exact e
 ·have e:=u.jU b dv v z;by_cases c:b=x
  ·subst c;rw [eF] at e;cases e;exact ar.elim
  ·rw [cQ c] at e;exact e
 ·obtain ⟨m,e⟩:=u.kC b ps z;by_cases c:b=x
  ·subst c;rw [eF] at e;cases e;exact ar.elim
  ·rw [cQ c] at e;exact ⟨m,e⟩
def MX(k:fC P w (upd H1 x o) h)(ar:MW o)(aA:H1 x=none):fC P w H1 h:=λ b u e=>by
 have nb:b≠x:=h9 e aA;refine (k b u (by rw [cQ nb];exact e)).nS (λ _ _ _ q=>q) (λ c q=>?_) λ c xs q=>?_
 ·by_cases z:c=x
  ·subst z;rw [eF] at q;cases q;exact ar.elim
  ·rw [cQ z] at q;exact q
 ·by_cases z:c=x
  ·subst z;rw [eF] at q;cases q;exact ar.elim
  ·rw [cQ z] at q;exact q
end
section
variable{P:cS}{w:b_}{K:aV}{mg:Str->Option Value}{base:bO}{N:List Str}{qual:Str}{scope:gF}{f:Addr}{cd:Value}{A:cL}{outer:List Env}{s s1:aF}{H H1 aj:av}{E:gp}{pins:List (Addr × Obj)}{σ:St}{h':bO}{a T em C aU:Addr}{dd:Option Addr}{aC:List (Str × V)}
theorem uE.keeps{h h':bO}(x:uE h dd aC)(k:∀ aU o,dd=some aU->h.get? aU=some o->h'.get? aU=some o):uE h' dd aC:=by
 cases dd with
 | none=>exact x
 | some aU=>obtain ⟨mA,n,r⟩:=x;exact ⟨mA,n.at λ o z=>k aU o rfl z,r⟩
theorem MY(un:fS (eS outer) [] H aj s.heap s1.heap)(bU:fC P w aj s1.heap)(os:s1.os=s.os)(bare:my s1.gens)(Yc:∀ b∈eS (envOfC qual scope s.heap.objs.size f cd::outer),aj b=none)
 (keep:∀ b o,b ∉ eS (envOfC qual scope s.heap.objs.size f cd::outer)->b≠a->b≠T->s1.heap.get? b=some o->h'.get? b=some o) (slot:∀ b o,b≠a->b≠T->s1.heap.get? b=some o->∃ bq,h'.get? b=some { o with slots:=bq })
 (fI:lE h' a em (.ref C) dd .none) (qP:s1.heap.get? em=none) (ay:aj a=none) (eo:aj T=none) (na:s.heap.get? a=none) (jG:s.heap.get? T=none) (dict:uE s1.heap dd aC)
 (hd:∀ aU,dd=some aU->aj aU=none/\s.heap.get? aU=none/\aU≠a/\aU≠T/\aU ∉ eS (envOfC qual scope s.heap.objs.size f cd::outer)):MV P w outer H s a em C dd aC aj { s1 with heap:=h' }:=by
 have hL:∀ b o,s.heap.get? b=some o->b≠a/\b≠T:=λ b o z=>⟨(by rintro rfl;rw [na] at z;cases z),(by rintro rfl;rw [jG] at z;cases z)⟩
 have Yd:∀ b,b∈eS (envOfC qual scope s.heap.objs.size f cd::outer)->b=s.heap.objs.size\/b∈eS outer:=λ b af=>by
  have fN:b∈s.heap.objs.size::eS outer:=af;exact cB.mp fN
 refine ⟨os,bare,⟨λ b o z n af ai=>?_,λ b o z n af ai=>?_,un.free,λ b o z ai=>?_,un.kB,un.jU,un.kC⟩,Et bU λ b u af z=>?_,fI,dict.keeps λ aU o e z=>?_,ay,MC bU qP,λ aU e=>?_,na,?_⟩
 ·obtain ⟨eg,eh⟩:=hL b o z;refine keep b o (λ hm=>?_) eg eh (un.keep b o z n af ai);rcases Yd b hm with r | r
  ·exact absurd (dL z) (by rw [r];exact nO _)
  ·exact af r
 ·obtain ⟨bq,cN⟩:=un.slot b o z n af ai;obtain ⟨eg,eh⟩:=hL b o z;obtain ⟨rC,cc⟩:=slot b _ eg eh cN;exact ⟨rC,cc⟩
 ·obtain ⟨dI,cN⟩:=un.there b o z ai;obtain ⟨eg,eh⟩:=hL b o z;obtain ⟨bq,cc⟩:=slot b dI eg eh cN;exact ⟨_,cc⟩
 ·exact keep b u (λ hm=>af (Yc b hm)) (by rintro rfl;exact af ay) (by rintro rfl;exact af eo) z
 ·obtain ⟨_,_,eg,eh,ki⟩:=hd aU e;exact keep aU o ki eg eh z
 ·obtain ⟨m0,eg,eh,ki,ni⟩:=hd aU e;refine ⟨m0,eg,eh,?_⟩;rintro rfl;subst e;obtain ⟨mA,⟨o,_,_,z,_⟩,_⟩:=dict;rw [qP] at z;cases z
 ·cases z:s.heap.get? em with
  | none=>rfl
  | some o=>
   obtain ⟨dI,cN⟩:=un.there em o z (by simp);rw [qP] at cN;cases cN
def Ye(I:Inv (e_ (fo P w) P w K mg base N qual scope f cd A outer s H E) pins σ (upd (upd H1 aU (.gS aC)) a (.ext (jH a C (some aU)))) s1)(ay:H1 a=none)(hd:H1 aU=none)(uC:aU≠a)(na:s.heap.get? a=none)(bv:s.heap.get? aU=none)
 (q:E (.ref C) (some aU) (upd H1 aU (.gS aC))):(e_ (fo P w) P w K mg base N qual scope f cd A outer s H E).xe (.ref a) s1:=by
 have ED:s1.heap.FunFrames base (envOfC qual scope s.heap.objs.size f cd::outer):=I.stack;have gN:(A.deeper (envOfC qual scope s.heap.objs.size f cd)).frames=some (envOfC qual scope s.heap.objs.size f cd::outer):=I.ok.frames;obtain ⟨⟨t,he⟩,_⟩:=I.bU a _ eF;have iD:fS (eS outer) [] H (upd (upd H1 aU (.gS aC)) a (.ext (jH a C (some aU)))) s.heap s1.heap:=I.base
 have MZ:upd H1 aU (.gS aC) a=none:=by rw [cQ uC.symm];exact ay
 have c9:=oEq (oEq iD True.intro MZ na) True.intro hd bv;have k0:=MX I.bU True.intro MZ;have k1:=MX k0 True.intro hd;obtain ⟨mA,ns,rel⟩:=k0 aU _ eF;have frees:∀ b∈eS (envOfC qual scope s.heap.objs.size f cd::outer),upd (upd H1 aU (.gS aC)) a (.ext (jH a C (some aU))) b=none:=I.vD
 have M0:∀ b∈eS (envOfC qual scope s.heap.objs.size f cd::outer),b≠aU/\H1 b=none:=λ b af=>by
  have e:=frees b af
  have c3:b≠a:=by rintro rfl;rw [eF] at e;cases e
  rw [cQ c3] at e
  have b8:b≠aU:=by rintro rfl;rw [eF] at e;cases e
  rw [cQ b8] at e;exact ⟨b8,e⟩
 show aZ (a8 P w) (A.deeper (envOfC qual scope s.heap.objs.size f cd)) (rg (envOfC qual scope s.heap.objs.size f cd) (.ref a)) _ _ _;refine Ya (dd:=some aU) (cls:=.ref C) gN ED rfl ⟨_,_,he,rfl,rfl,rfl,rfl⟩ λ h' em f1 f2 dn f4=>?_;refine ⟨a,em,C,some aU,aC,H1,rfl,MY (T:=a) c9 k1 I.os I.bare (λ b af=>(M0 b af).2) (λ b o c3 b8 _ z=>dn b o c3 b8 z) (λ b o c3 _ z=>f4 b o c3 z) f1 f2 ay ay na na ⟨mA,ns,rel⟩ (λ Yf e=>?_),q⟩;cases e;exact ⟨hd,bv,uC,uC,λ af=>(M0 aU af).1 rfl⟩
end
section
variable{P:cS}{w:b_}{K:aV}{mg:Str->Option Value}{base:bO}{N:List Str}{qual:Str}{scope:gF}{f:Addr}{cd:Value}{A:cL}{outer:List Env}{s s1:aF}{H H1:av}{E:gp}{pins:List (Addr × Obj)}{σ:St}{h0:bO}{a C:Addr}{args:List Value}
def Yg:zd (fo P w) (e_ (fo P w) P w K mg base N qual scope f cd A outer s H E) E:=by
 intro pins σ H1 s1 e aQ I ai;obtain ⟨a,T,C,dd,aC,aj,rfl,x,q⟩:=ai;have gN:(A.deeper (envOfC qual scope s.heap.objs.size f cd)).frames=some (envOfC qual scope s.heap.objs.size f cd::outer):=I.ok.frames;have J:Inv (e_ (fo P w) P w K mg base N qual scope f cd A outer s H E) pins σ aj aQ:=I.yZ (ch:=[]) x.os x.un x.bU x.bare (λ b z=>absurd z (by simp));have iD:fS (eS outer) [] H H1 s.heap s1.heap:=I.base
 have hL:∀ b,s1.heap.get? b=none->s.heap.get? b=none:=λ b z=>by
  cases xv:s.heap.get? b with
  | none=>rfl
  | some o=>
   obtain ⟨dI,cN⟩:=iD.there b o xv (by simp);rw [z] at cN;cases cN
 show aZ (a8 P w) (A.deeper (envOfC qual scope s.heap.objs.size f cd)) (rg (envOfC qual scope s.heap.objs.size f cd) (.ref a)) _ _ _;refine Yb gN J.stack rfl x.fI λ h' em f1 f2 dn f4=>?_;refine ⟨a,em,C,dd,aC,aj,rfl,MY (T:=T) J.base x.bU J.os J.bare J.vD dn f4 f1 f2 x.ay x.eo (hL a x.na) (hL T x.jG) x.dict (λ aU e=>?_),q⟩;obtain ⟨eg,eh,ki,ni⟩:=x.hd aU e;refine ⟨eg,hL aU eh,ki,ni,λ af=>?_⟩;obtain ⟨_,o,z,_⟩:=I.stack.mem af;rw [eh] at z;cases z
end
end L2
namespace L2
open PySem PySem.Spec PyProof.Rows
structure sr(K:aV)(D:Addr):Prop where
 ty:nR K (.ref D)=some (.type "type")
 cls:∃ qQ jz cd bq,K.lookup D=some ⟨qQ,jz,.cls cd,bq⟩
 sub:iG K (.ref D) (.type "BaseException")=some true
theorem vEq{prog:cS}{w:b_}{A:cL}{E:Value->aF->Prop}{s:aF}{K:aV}{C D e:Addr}{dG:Obj}{b:Bool}{Q:Bool->aF->Prop}(X:K.In s.heap)(he:s.heap.get? e=some dG)(am:dG.cls=.ref C)(su:sr K D)(bX:iG K (.ref C) (.ref D)=some b)(aM:Q b s) :
 aZ (a8 prog w) A (excMatches (.ref e) (.ref D)) Q E s:=by
 obtain ⟨qQ,jz,cd,bq,hV⟩:=su.cls;have i9:=X _ _ hV;have lD:=PySem.W.looks_typeIn (M:=a8 prog w) X su.ty;have L2:=PySem.W.looks_subIn (M:=a8 prog w) X su.sub;have L3:=PySem.W.looks_subIn (M:=a8 prog w) X bX;have f:=tc_notTuple;obtain ⟨ah,g,d,bR,os⟩:=s
 dsimp only at he i9 lD L2 L3
 have on:PySem.W.Looks (a8 prog w) ah (oB (.ref e)) (.ref C):=by
  rw [<- am];exact (PySem.W.Looks.ld (part:=some headPart) he).andThen .now
 have Yh:PySem.W.Looks (a8 prog w) ah (isType (.ref D)) true:=(PySem.W.Looks.ld (part:=some headPart) i9).andThen .now;unfold excMatches vg;refine aK (aK (lD.at ?_));rw [f];refine bC ?_;rw [if_neg (by decide)];refine aK (bC (aK ?_));simp only [List.forIn_cons,List.forIn_nil];refine aK (aK ?_);unfold isExcClass;refine aK (Yh.at ?_);rw [if_pos rfl];refine L2.at ?_;rw [if_neg (by decide)];refine bC (bC (aK (on.at (aK (aK (aK (L3.at ?_)))))))
 cases b with
 | true=>exact bC (bC (bC aM))
 | false=>exact bC (bC (bC aM))
end L2
namespace L2
open PySem PySem.Spec PyProof.Rows PySem.W PySem.Calls Builtin Builtin.ObjectAttr
section
variable{prog:cS}{w:b_}{A:cL}{E:Value->aF->Prop}{s:aF}{K:Frag}{e C:Addr}{dG me:Obj}{cd:ky}{name:Str}{v:Value}{expr:Bool}
def Yi{Q:Value->aF->Prop}(F:kZ K C)(X:K.In s.heap)(I:InstAt s.heap e dG C (some me))(am:clsIn K C=some cd)(hd:cd.hasDict=true)(aA:findIn K (.ref C) name=some none)(ar:lookIn name me=some (some v))(df:handedIn v=true)
 (h:Q v { s with toks:=s.toks+1 }):aZ (a8 prog w) A (getAttr (.ref e) name expr) Q E s:=by
 obtain ⟨ah,g,d,t,os⟩:=s;have on:=I.type (M:=a8 prog w);have lD:=vm (M:=a8 prog w) X F.ga;have L2:=vm (M:=a8 prog w) X F.gr;have L3:Looks (a8 prog w) ah (find (.ref e) (.ref C) name) (.value v):=looks_find X I (by unfold findObj;rw [am,aA];simp [PySem.W.ownOf,hd,ar]);unfold getAttr getAttrBy;refine aK (wpAny_mkText (jm (aK (on.at (aK (lD.at ?_))))))
 dsimp only
 rw [show (yo (.ref C)&&Value.builtin "BaseException.__getattribute__"==Value.builtin "object.__getattribute__")=false from by rw [show (Value.builtin "BaseException.__getattribute__"==Value.builtin "object.__getattribute__")=false from by trivial,tr],if_neg (by decide)];refine aK ((show Looks (a8 prog w) ah (hookBefore (.ref C)) none from L2).at (aK (p4 (jm ?_))));unfold callGetattribute;rw [show (expr&&yo (Value.builtin "BaseException.__getattribute__"))=false from tr _,if_neg (by decide)];unfold boundAndCalled;rw [MG];refine aK (bC ?_);show aZ _ _ (call (.builtin "BaseException.__getattribute__") [.ref e,.str name t]) _ _ _;refine p6 ?_;refine va (by first | exact Code.quiet_builtin _ (by trivial) | decide +kernel) PySem.F.entry_bexc_ga ?_;refine @check_slot (a8 prog w) _ _ _ "BaseException.__getattribute__" "BaseException" "__getattribute__" (.ref e) [.str name t] [] _ (by trivial) (by trivial) (on.andThen (looks_subIn X F.jV)) (PySem.F.args_bexc_ga (.ref e) (.str name t)) ?_;refine aK (bC (aK (bC (aK (on.at (aK (L3.at ?_)))))));refine bC ?_;exact handed_on df h
end
structure uF(X:aT)(pins:List (Addr × Obj))(H:av)(a T C:Addr)(dd:Option Addr)(aC:List (Str × V))(h:bO):Prop where
 fI:lE h a T (.ref C) dd .none
 dict:uE h dd aC
 ay:H a=none
 eo:H T=none
 na:X.s₀.heap.get? a=none
 jG:X.s₀.heap.get? T=none
 xq:∀ p∈X.pn++pins,p.1≠a/\p.1≠T
 hd:∀ aU,dd=some aU->H aU=none/\aU≠a/\aU≠T/\aU ∉ eS X.stack
section
variable{X:aT}{pins:List (Addr × Obj)}{σ:St}{H:av}{s:aF}{h':bO}{a T em C:Addr}{dd:Option Addr}{aC:List (Str × V)}
theorem uF.step(I:Inv X pins σ H s)(x:uF X pins H a T C dd aC s.heap)(hex:X.ex=[])(keep:∀ b o,b ∉ eS X.stack->b≠a->b≠T->s.heap.get? b=some o->h'.get? b=some o)(slot:∀ b o,b≠a->b≠T->s.heap.get? b=some o->∃ bq,h'.get? b=some { o with slots:=bq })
 (fI:lE h' a em (.ref C) dd .none) (qP:em=T\/s.heap.get? em=none):Inv X pins σ H { s with heap:=h' }/\uF X pins H a em C dd aC h':=by
 obtain ⟨dG,vs,iC,en,f1,f2,dn,f4,eK,lF,lG,f8,qN⟩:=x.fI
 have lP:∀ b,b∈eS X.stack->b≠a/\b≠T:=λ b af=>by
  obtain ⟨_,o,z,ai⟩:=I.stack.mem af;refine ⟨?_,?_⟩
  ·rintro rfl;rw [f1] at z;cases z;exact ai _ f4
  ·rintro rfl;rw [lG] at z;cases z;exact ai _ f8
 have J:=Xz I keep (λ b u af z=>slot b u (lP b af).1 (lP b af).2 z) ⟨dG,vs,f1,f4⟩ ⟨iC,en,lG,f8⟩ x.na x.jG x.xq x.ay x.eo;refine ⟨J,fI,x.dict.keeps λ aU o e z=>?_,x.ay,?_,x.na,?_,λ p ah=>⟨(x.xq p ah).1,?_⟩,λ aU e=>?_⟩
 ·obtain ⟨_,eh,ki,ni⟩:=x.hd aU e;exact keep aU o ni eh ki z
 ·rcases qP with rfl | z
  ·exact x.eo
  ·exact MC I.bU z
 ·rcases qP with rfl | z
  ·exact x.jG
  ·cases q:X.s₀.heap.get? em with
   | none=>rfl
   | some o=>
    obtain ⟨dI,cN⟩:=I.base.there em o q (by rw [hex];simp);rw [z] at cN;cases cN
 ·rcases qP with rfl | z
  ·exact (x.xq p ah).2
  ·rintro rfl;rw [(I.pin p ah).1] at z;cases z
 ·obtain ⟨eg,eh,ki,ni⟩:=x.hd aU e;refine ⟨eg,eh,?_,ni⟩;rcases qP with rfl | z
  ·exact ki
  ·rintro rfl;subst e;obtain ⟨mA,⟨o,_,_,cN,_⟩,_⟩:=x.dict;rw [z] at cN;cases cN
abbrev aT.kl(X:aT)(a:Addr)(pn:List (Addr × Obj)):aT:={ X with A:=X.A.mark (some (.ref a)),calm:=false,pn:=pn++X.pn,xe:=λ _ _=>False }
structure sv(a C:Addr)(aC:List (Str × V))(pn:List (Addr × Obj)):Prop where
 obj:∃ dG vs,(a,dG)∈pn/\dG.cls=.ref C/\dG.data=Data.fields vs/\((dG.dict=none/\aC=[])\/∃(aU:Addr)(me:Obj)(mA:Str->Option Value),dG.dict=some aU/\(aU,me)∈pn/\(∀ n,yN n me=some (mA n))/\∀ f,oL (aC.lookup f) (mA f))
theorem Inv.kl(I:Inv X pins σ H s)(g5:X.stack=X.env::X.outer)(gN:X.env.frame=some X.env.locals)(x:uF X pins H a T C dd aC s.heap):∃ pn,sv a C aC pn/\Inv (X.kl a pn) pins σ H s:=by
 obtain ⟨dG,vs,iC,en,f1,f2,dn,f4,eK,lF,lG,f8,qN⟩:=x.fI;have ok:=I.ok
 have mk:∀ pn:List (Addr × Obj),(∀ p∈pn,s.heap.get? p.1=some p.2/\H p.1=none/\p.1≠X.env.locals/\p.1 ∉ X.aC/\∀ v,p.2.data≠.cell v)->Inv (X.kl a pn) pins σ H s:=λ pn Yj=>by
  refine ⟨⟨ok.mod,ok.kind,ok.glob,ok.blt,ok.above,ok.inj,ok.has,ok.tz,λ z=>(by cases z),ok.frames,ok.tA,ok.BU,ok.bs,ok.nU,ok.tB,ok.vC,ok.kD,ok.qh⟩,I.os,I.bare,I.base,I.loc,I.cell,I.free,I.kE,λ p ah=>?_,I.bU,I.len⟩;have ep:p∈(pn++X.pn)++pins:=ah;rw [c_] at ep;rcases fH.mp ep with ah | ah
  ·exact Yj p ah
  ·exact I.pin p ah
 have nl:∀ b o,s.heap.get? b=some o->(∀ es n,o.data≠.dict es n)->b≠X.env.locals:=λ b o z ai=>by
  rintro rfl;obtain ⟨m,⟨dI,jW,e9,gn,bD⟩,_⟩:=I.loc;rw [z] at gn;cases gn;exact ai _ _ bD.1
 have ju:s.heap.get? a=some dG/\H a=none/\a≠X.env.locals/\a ∉ X.aC/\∀ v,dG.data≠.cell v:=by
  refine ⟨f1,x.ay,nl a dG f1 (λ es n q=>by rw [f4] at q;cases q),λ af=>?_,λ v q=>by rw [f4] at q;cases q⟩;obtain ⟨_,dI,gn,ai⟩:=I.stack.mem (Eu I af);rw [f1] at gn;cases gn;exact ai _ f4
 cases dd with
 | none=>exact ⟨[(a,dG)],⟨⟨dG,vs,b3 ..,f2,f4,.inl ⟨dn,x.dict⟩⟩⟩,mk _ λ p ah=>by rcases cB.mp ah with rfl | ah;exact ju;cases ah⟩
 | some aU=>
  obtain ⟨mA,ns,rel⟩:=x.dict;obtain ⟨eg,eh,ki,ni⟩:=x.hd aU rfl;obtain ⟨me,aR,ar⟩:=Iz ns
  have ME:aU≠X.env.locals:=by
   rintro rfl;refine ni ?_;rw [g5];exact List.mem_filterMap.mpr ⟨X.env,b3 ..,gN⟩
  have Yk:∀ v,me.data≠.cell v:=λ v q=>by
   obtain ⟨o,es,e9,z,hd,_⟩:=ns;rw [aR] at z;cases z;rw [hd] at q;cases q
  refine ⟨[(a,dG),(aU,me)],⟨⟨dG,vs,b3 ..,f2,f4,.inr ⟨aU,me,mA,dn,cO _ (b3 ..),ar,rel⟩⟩⟩,mk _ λ p ah=>?_⟩;rcases cB.mp ah with rfl | ah
  ·exact ju
  ·rcases cB.mp ah with rfl | ah
   ·exact ⟨aR,eg,ME,λ af=>ni (Eu I af),Yk⟩
   ·cases ah
theorem Inv.AU{pn:List (Addr × Obj)}(ok:X.Ok)(I:Inv (X.kl a pn) pins σ H s):Inv X pins σ H s:=
 ⟨ok,I.os,I.bare,I.base,I.loc,I.cell,I.free,I.kE,λ p ah=>I.pin p (by
  have:p∈(pn++X.pn)++pins:=by rw [c_];exact h6 _ ah
  exact this),I.bU,I.len⟩
abbrev qR:=Addr->List (Str × V)->Ends->St->av->Prop
def uG(X:aT)(ax:List XL)(fL:qR):Prop:=∀(pins:List (Addr × Obj))(s:aF)(σ:St)(H:av)(D:Ends)(a T C:Addr)(dd:Option Addr)(aC:List (Str × V)),Inv X pins σ H s->uF X pins H a T C dd aC s.heap->fL C aC D σ H →
 aZ (a8 X.prog X.w) X.A (handleBy (.ref a) X.env ax) (lQ X pins D) X.xe s
def Yl(K:aV)(D:Addr)(i:Nat)(u:Addr->Addr->List (Str × V)->ft)(fL:qR):qR:=λ C aC bY σ H=>∃ b,iG K (.ref C) (.ref D)=some b/\(b=true->∀ e,H e=none->u e C aC (AM i bY) (σ.set i (some (.ref e))) H)/\(b=false->fL C aC bY σ H)
def Ym:uG X [] (λ _ _ _ _ _=>False):=λ _ _ _ _ _ _ _ _ _ _ _ _ h=>h.elim
variable{D:Addr}{cx n:Str}{np EE:Pos}{xw:b1}{xx:List b1}{rest:List XL}{u:Addr->Addr->List (Str × V)->ft}{fL:qR}{i:Nat}
theorem Yn(hex:X.ex=[])(g5:X.stack=X.env::X.outer)(gN:X.env.frame=some X.env.locals)(su:sr X.K D)(EF:ew X cx)(EG:X.mg cx=some (.ref D))(dM:X.N.Nodup)(au:X.N[i]?=some n)(mR:X.env.scope.names.lookup n=some .local)
 (ax:∀ e C aC pn,sv e C aC pn->jY (X.kl e pn) (xw::xx) (u e C aC)) (ak:uG X rest fL) (xy:(cx==("__debug__" : Str))=false:=by decide):uG X (.ExceptHandler (some (.Name cx np)) (some n) (xw::xx) EE::rest) (Yl X.K D i u fL):=by
 intro pins s σ H bY a T C dd aC I x h;obtain ⟨b,af,ae,ag⟩:=h;obtain ⟨pn,rM,J⟩:=I.kl g5 gN x;obtain ⟨dG,vs,iC,en,f1,f2,dn,f4,eK,lF,lG,f8,qN⟩:=id x.fI;refine wpAny_handleBy_cons (codeAny_handlers_test (tD (X:=X.kl a pn) J EF EG (vEq I.et f1 f2 su af ?_) xy)) (by intro q;cases q)
 cases b with
 | false=>exact ak pins s σ H bY a T C dd aC I x (ag rfl)
 | true=>
  refine codeAny_handlers_suite_as (AS x.fI λ aO k1 k2=>?_);obtain ⟨EH,xA⟩:=x.step I hex (λ b o _ _ hW z=>(k2 b hW).trans z) (λ b o _ hW z=>⟨o.slots,(k2 b hW).trans z⟩) k1 (.inl rfl);obtain ⟨M1,Yo,Yp⟩:=EH.kl g5 gN xA;refine yY (X:=X.kl a M1) (v:=.ref a) Yp dM au (.inl mR) rfl (λ s5 Yq=>?_) (.inr mR);refine hR (ax a C aC M1 Yo pins s5 _ H (AM i bY) Yq (ae rfl a x.ay)) (λ fI iJ q=>?_) (λ _ _ z=>z.elim)
  cases fI with
  | next=>obtain ⟨σ',oU,sx,lS⟩:=q;exact AL (sx.AU I.ok) dM au mR λ jZ sy=>⟨_,oU,sy,lS⟩
  | brk=>obtain ⟨σ',oU,sx,lS⟩:=q;exact AL (sx.AU I.ok) dM au mR λ jZ sy=>⟨_,oU,sy,lS⟩
  | cont=>obtain ⟨σ',oU,sx,lS⟩:=q;exact AL (sx.AU I.ok) dM au mR λ jZ sy=>⟨_,oU,sy,lS⟩
  | ret af0=>obtain ⟨v,σ',oU,sx,a5,lS⟩:=q;exact AL (sx.AU I.ok) dM au mR λ jZ sy=>⟨v,_,oU,sy,a5,lS⟩
end
end L2
namespace L2
open PySem PySem.Spec PyProof.Rows
def M3(fL:qR)(D:Ends)(σ:St):gp:=λ cls dd Yr=>∃(C:Addr)(aC:List (Str × V))(aj:av),cls=.ref C/\Yr=xu aj dd aC/\(∀ aU,dd=some aU->aj aU=none)/\(dd=none->aC=[])/\fL C aC D σ aj
def Ys{H aj:av}{dd:Option Addr}{aC dY:List (Str × V)}(e:xu H dd aC=xu aj dd dY)(h:∀ aU,dd=some aU->H aU=none)(h':∀ aU,dd=some aU->aj aU=none)(n:dd=none->aC=[])(rG:dd=none->dY=[]):H=aj/\aC=dY:=by
 cases dd with
 | none=>exact ⟨e,(n rfl).trans (rG rfl).symm⟩
 | some aU=>
  have aE:upd H aU (.gS aC)=upd aj aU (.gS dY):=e;refine ⟨funext λ b=>?_,?_⟩
  ·by_cases c:b=aU
   ·subst c;rw [h b rfl,h' b rfl]
   ·have:=congrFun aE b;rw [cQ c,cQ c] at this;exact this
  ·have:=congrFun aE aU;rw [eF,eF] at this;cases this;rfl
def M4(X:aT)(e:a9)(t:gp->TE):Prop:=∀(pins:List (Addr × Obj))(s:aF)(σ:St)(H:av)(Q:cC)(uH:gp)(gW:Value->aF->Prop),Inv X pins σ H s->t uH σ H Q->(∀ H1 s1 ev aQ,Inv X pins σ H1 s1->fo X.prog X.w X.stack H1 s1 uH ev aQ->gW ev aQ) →
 aZ (a8 X.prog X.w) X.A (eval e X.env) (gg X pins σ Q) gW s
section
variable{X:aT}{pins:List (Addr × Obj)}{σ:St}{H:av}{s:aF}
theorem Yt{k:Nat}{g8:Str}{ps:List Str}{f:Addr}{fd:gZ}{sp:i8}{hc cM:Pos}{e:a9}{es:List a9}{t:fT}
 (F:dp X.prog X.w X.K X.mg X.base (fo X.prog X.w) k f fd ps sp) (ak:fV k X.A) (a_:ew X g8) (hm:X.mg g8=some (.ref f)) (aD:lM X.K (.ref f)=true) (af:Binds X.K fd ps []) (ay:∀ gW,iI (X.kI gW) (e::es) t)
 (fJ:(g8==("__debug__" : Str))=false:=by decide) (he:dU (e::es) X.env=(false,eval e X.env)::dU es X.env:=by rfl) (g7:(g0 cM (dU es X.env)).any (·.1)=false:=by rfl) :
 M4 X (.Call (.Name g8 hc) (e::es) [] cM) (λ uH=>zc sp [] uH t):=by
 intro pins s σ H Q uH gW I h Ey;refine q7 (tD I a_ hm ?_ fJ);refine PySem.W.callWith_K (h₀:=X.base) I.ok.mod.vB aD (b2 (ay gW cM pins s σ H _ (I.kI gW) h) λ us s1 ⟨vs,H1,a4,r,q⟩=>⟨a4.et,?_⟩) he g7
 replace q:sp (vs++[]) H1 Q uH:=q
 rw [eP] at q;have AV:=a4.oQ
 have ar:(us++[]).length=ps.length:=by rw [eP,<- r.length];exact F.len _ _ _ _ q
 refine p6 (s_ (F.run X.A X.stack s1 H1 ⟨us,[]⟩ (us++[]) vs _ _ ak AV.Cd (af s1 us AV.et ar) (by rw [eP];exact r) q) λ rs aQ aM=>?_)
 cases rs with
 | ok fI=>
  cases fI with
  | ret v=>exact AV.after aM
  | next=>exact False.elim aM
  | brk=>exact False.elim aM
  | cont=>exact False.elim aM
 | error ev=>exact Ey H1 s1 ev aQ AV aM
theorem Yu{ax:List XL}{fL:qR}{D:Ends}{ev:Value}{aQ:aF}(hex:X.ex=[])(g5:X.stack=X.env::X.outer)(gN:X.env.frame=some X.env.locals)(df:uG X ax fL)(I:Inv X pins σ H s)(ai:fo X.prog X.w X.stack H s (M3 fL D σ) ev aQ) :
 aZ (a8 X.prog X.w) X.A (WF ev X.env) (λ _ rF=>aZ (a8 X.prog X.w) X.A (setFlight ev none) (λ _ y5=>aZ (a8 X.prog X.w) X.A (handleBy ev X.env ax) (lQ X pins D) X.xe y5) X.xe rF) X.xe aQ:=by
 obtain ⟨a,T,C,dd,aC,aj,rfl,x,af1,dY,af2,aE,aP,e3,e4,q⟩:=ai;cases aE
 have Yv:dd=none->aC=[]:=by rintro rfl;exact x.dict
 obtain ⟨rfl,rfl⟩:=Ys aP (λ aU e=>(x.hd aU e).1) e3 Yv e4;have J:Inv X pins σ aj aQ:=I.yZ (ch:=[]) x.os x.un x.bU x.bare (λ b z=>absurd z (by simp))
 have hL:∀ b,s.heap.get? b=none->X.s₀.heap.get? b=none:=λ b z=>by
  cases CI:X.s₀.heap.get? b with
  | none=>rfl
  | some o=>
   obtain ⟨dI,cN⟩:=I.base.there b o CI (by rw [hex];simp);rw [z] at cN;cases cN
 have Yw:uF X pins aj a T C dd aC aQ.heap:=⟨x.fI,x.dict,x.ay,x.eo,hL a x.na,hL T x.jG,λ p ah=>⟨(by rintro rfl;have:=x.na;rw [(I.pin p ah).1] at this;cases this),(by rintro rfl;have:=x.jG;rw [(I.pin p ah).1] at this;cases this)⟩,λ aU e=>by
  obtain ⟨eg,eh,ki,ni⟩:=x.hd aU e;refine ⟨eg,ki,ni,λ af=>?_⟩;obtain ⟨_,o,z,_⟩:=I.stack.mem af
  rw [eh] at z;cases z⟩
 have gJ:X.A.frames=some (X.env::X.outer):=by rw [J.ok.frames,g5]
 have ED:aQ.heap.FunFrames X.base (X.env::X.outer):=by rw [<- g5];exact J.stack
 refine MU gJ ED gN x.fI λ ag uI k1 k2 k3 jB=>?_;refine AS (s:={ aQ with heap:=ag }) k1 λ aO k5 qO=>?_
 have ne:∀ b o,aQ.heap.get? b=some o->b≠uI:=λ b o z=>by rintro rfl;rw [k2] at z;cases z
 obtain ⟨EH,xA⟩:=Yw.step J hex (h':=aO) (λ b o c3 b8 hW z=>(qO b (ne b o z)).trans (k3 b o (by rw [<- g5];exact c3) b8 hW z)) (λ b o b8 hW z=>let ⟨bq,cN⟩:=jB b o b8 hW z;⟨bq,(qO b (ne b o z)).trans cN⟩) k5 (.inr k2);exact df pins _ σ aj D a uI C dd aC EH xA q
variable{ax:List XL}{h₀:XL}{fL:qR}{e:a9}{t:gp->TE}{xB pos:Pos}
def Yx(hex:X.ex=[])(g5:X.stack=X.env::X.outer)(gN:X.env.frame=some X.env.locals)(he:M4 X e t)(df:uG X (h₀::ax) fL)(mT:jL e none xB.line X.env=pure false:=by rfl) :
 jX X (.Try [.Expr e xB] (h₀::ax) [] [] pos) (λ D σ H=>t (M3 fL D σ) σ H λ _ a3=>D.nx σ a3):=by
 intro pins s σ H D I h;refine wpAny_Try_except (BE (b2 (wpAny_Expr_any (Q:=lQ X pins D) (he pins s σ H (λ _ a3=>D.nx σ a3) _ _ I h (λ H1 s1 ev aQ a4 ai=>Yu hex g5 gN df a4 ai) |> λ z=>b2 z λ v s1 ⟨x,a3,J,_,q⟩=>⟨σ,a3,J,q⟩) I.quiet mT) λ fI s1 q=>?_))
 cases fI with
 | next=>exact s8 (s8 q)
 | ret v=>exact q
 | brk=>exact q
 | cont=>exact q
end
end L2
namespace L3
open PySem PySem.Spec L2
abbrev nj:=Addr->List (Str × D)->aL->Prop
abbrev k4:=List D->aL->cJ->nj->Prop
def sz(K:aV):List (Str × D)->List (Str × V)->Prop:=la λ p q=>p.1=q.1/\∀ H,dg K H p.2 q.2
def M5:D->Bool
 | .int _=>true
 | .str _=>true
 | .bc=>true
 | .aJ _=>true
 | _=>false
def Yy{K:aV}{H:av}{d:D}{v:V}(h:M5 d=true)(a:dg K H d v):∀ aj,dg K aj d v:=by
 intro aj
 cases d with
 | int i=>exact a
 | str x=>exact a
 | bc=>exact a
 | aJ b=>exact a
 | _=>cases h
def pK(K:aV)(bV:aL)(d1:av)(dl:nj)(E:gp):Prop:=∀ C dd aC dY ap aj,Go K bV d1 ap aj->sz K aC dY->(∀ aU,dd=some aU->aj aU=none)->(dd=none->aC=[])->dl C aC ap->E (.ref C) dd (xu aj dd dY)
theorem pK.after{K:aV}{bV aB:aL}{d1 H1:av}{dl:nj}{E:gp}(x:pK K bV d1 dl E)(g:Go K bV d1 aB H1):pK K aB H1 dl E:=λ C dd aC dY ap aj g'=>x C dd aC dY ap aj (g.trans g')
def gD(K:aV)(fE:k4):i8:=λ vs H Q E=>∃ ds G az dl,bH K H ds vs/\fu K G H/\fE ds G az dl/\Fin K G H az Q/\pK K G H dl E
structure iE(P:cS)(w:b_)(K:aV)(mg:Str->Option Value)(base:bO)(k:Nat)(x:Str)(ps:List Str)(sp:i8):Prop where
 ex:∃(f:Addr)(fd:gZ),dp P w K mg base (fo P w) k f fd ps sp/\mg x=some (.ref f)/\lM K (.ref f)=true/\Binds K fd ps []
structure sA(X:aT)(bV:aL)(d1:av)(e:a9)(t:cm):Prop where
 run:∃ bf:TE,c4 X e bf/\∀ ρ G az σ H Q,dq X.K ρ G σ H->Go X.K bV d1 G H->t ρ G az->Fin X.K G H az Q->bf σ H Q
structure pL(X:aT)(bV:aL)(d1:av)(st:b1)(t:f7):Prop where
 run:∃ bf:ft,lq X st bf/\∀ bY dA ρ G σ H,dq X.K ρ G σ H->Go X.K bV d1 G H->t bY ρ G->mY X.K G H bY dA->bf dA σ H
structure pM(X:aT)(bV:aL)(d1:av)(st:List b1)(t:f7):Prop where
 run:∃ bf:ft,mS X st bf/\∀ bY dA ρ G σ H,dq X.K ρ G σ H->Go X.K bV d1 G H->t bY ρ G->mY X.K G H bY dA->bf dA σ H
section
variable{X:aT}{bV:aL}{d1:av}{st:b1}{rest ss us body:List b1}{en lr bA:f7}{e c bp iter:a9}{aW:cm}{bf:hs}{pos:Pos}
theorem b7.x(h:b7 X e aW):sA X bV d1 e aW:=let ⟨t,j,r⟩:=h.run;⟨t,j,λ ρ G az σ H Q B _ q F=>r ρ G az σ H Q B q F⟩
theorem eA.x(h:eA X st en):pL X bV d1 st en:=let ⟨t,j,r⟩:=h.run;⟨t,j,λ bY dA ρ G σ H B _ q F=>r bY dA ρ G σ H B q F⟩
def mf:pM X bV d1 [] JZ:=⟨_,Jw,λ bY dA ρ G σ H B _ q F=>F.nx ρ G σ H (.refl B.ck) B q⟩
def fA(ae:pL X bV d1 st en)(ag:pM X bV d1 rest lr):pM X bV d1 (st::rest) (lZ en lr):=by
 obtain ⟨cq,eT,aX⟩:=ae.run;obtain ⟨b6,j9,bj⟩:=ag.run;exact ⟨_,Jx eT j9,λ bY dA ρ G σ H B gd q F=>aX _ _ ρ G σ H B gd q ⟨λ ρ' ap σ' aj g b q=>bj bY dA ρ' ap σ' aj b (gd.trans g) q (F.after g),F.rt,F.bk,F.ct⟩⟩
def fP(ae:pL X bV d1 st en):pM X bV d1 [st] en:=by
 obtain ⟨cq,eT,aX⟩:=ae.run;exact ⟨_,Jy eT,aX⟩
def jh(am:AT X c bf)(ay:pM X bV d1 ss en)(af:pM X bV d1 us lr):pL X bV d1 (.If c ss us pos) (J2 bf en lr):=by
 obtain ⟨rU,j6,rc⟩:=am.run;obtain ⟨ca,cn,cp⟩:=ay.run;obtain ⟨jv,fv,fw⟩:=af.run;refine ⟨_,JB j6 cn fv,λ bY dA ρ G σ H B gd q F=>rc ρ G _ σ H _ B q λ k aB H1 g1 aH=>?_⟩
 cases k with
 | true=>exact cp bY dA ρ aB σ H1 (B.go g1) (gd.trans g1) (aH.1 rfl) (F.after g1)
 | false=>exact fw bY dA ρ aB σ H1 (B.go g1) (gd.trans g1) (aH.2 rfl) (F.after g1)
def AW(he:sA X bV d1 e aW)(ax:jL e none pos.line X.env=pure false:=by rfl):pL X bV d1 (.Expr e pos) (J0 aW):=by
 obtain ⟨cq,eT,aX⟩:=he.run;exact ⟨_,Jz eT ax,λ bY dA ρ G σ H B gd q F=>aX ρ G _ σ H _ B gd q λ d ap v aj g _ q=>F.nx ρ ap σ aj g (B.go g) q⟩
def M6(he:sA X bV d1 e aW):pL X bV d1 (.Return (some e) pos) (J1 aW):=by
 obtain ⟨cq,eT,aX⟩:=he.run;exact ⟨_,JA eT,λ bY dA ρ G σ H B gd q F=>aX ρ G _ σ H _ B gd q F.rt⟩
def Yz{ec:kR}{g:hI}(ah:p7 (a8 X.prog X.w) X.A X.env X.xe)(am:X.calm=true)(au:oa X bp iter ec)(a_:lu X bp g)(af:pM X bV d1 body bA)(ax:∀ x,nD iter X.env x=pure x:=by intro _;rfl) :
 pL X bV d1 (.For bp iter body [] pos) (Kc ec g bA):=by
 obtain ⟨ci,pf,lj⟩:=au.run;obtain ⟨t2,rX,pg⟩:=a_.run;obtain ⟨jv,fv,fw⟩:=af.run;refine ⟨_,JE ah am pf rX fv ax,λ bY dA ρ G σ H B gd q F=>lj ρ G _ σ H _ B q λ J l0 aB H1 g1 ok aH=>?_⟩;obtain ⟨P,hc,held,turn,done⟩:=aH;refine ⟨λ i m σ' aj=>m=J.items.length - i/\i<=J.items.length/\∃ ρ' ap,P i ρ' ap/\dq X.K ρ' ap σ' aj/\Go X.K aB H1 ap aj,⟨_,rfl,fi _,ρ,aB,hc,B.go g1,.refl g1.ck⟩,?_⟩;rintro i m σ2 a3 ⟨rfl,au,ρ2,aY,dN,cV,g2⟩;have k2:=ok aY a3 g2 (held i ρ2 aY au dN);by_cases eG:i < J.items.length
 ·have hd:J.items[i]?=some J.items[i]:=by simp [eG]
  obtain ⟨go,wG⟩:=k2.1 i _ hd;refine .inr ⟨go,λ σ' aj=>∃ ρ' ap,P (i+1) ρ' ap/\dq X.K ρ' ap σ' aj/\Go X.K aB H1 ap aj,λ σ' aj ⟨ρ',ap,cN,cc,hr⟩=>⟨J.items.length - (i+1),by omega,rfl,eG,ρ',ap,cN,cc,hr⟩,λ x aj y=>?_⟩;obtain ⟨g3,aN⟩:=wG x aj y;refine pg _ x ρ2 aY _ σ2 aj _ (cV.go g3) aN (turn i _ ρ2 aY hd dN) λ ρ4 ht σ4 js gw t3 ia=>?_;have gk:=(g2.trans g3).trans gw
  have jO:∀ ρ' ap σ' aj,Go X.K ht js ap aj->dq X.K ρ' ap σ' aj->e0 (P (i+1)) ρ' ap->∃ ρ' ap,P (i+1) ρ' ap/\dq X.K ρ' ap σ' aj/\Go X.K aB H1 ap aj:=λ ρ' ap σ' aj g' fD ⟨ρ5,l2,s1,s2,w⟩=>
   ⟨ρ5,l2,w,fD.weak s1 s2,(gk.trans g').sub s2⟩
  exact fw _ _ ρ4 ht σ4 js t3 (gd.trans (g1.trans gk)) ia ⟨λ ρ' ap σ' aj g' fD w=>jO ρ' ap σ' aj g' fD w,(F.after ((g1.trans gk))).rt,λ ρ' ap σ' aj g' fD w=>F.nx ρ' ap σ' aj ((g1.trans gk).trans g') fD w,λ ρ' ap σ' aj g' fD w=>jO ρ' ap σ' aj g' fD w⟩
 ·have e:i=J.items.length:=by omega
  subst e;exact .inl ⟨k2.2 _ (b4 _),F.nx ρ2 aY σ2 a3 (g1.trans g2) cV (done ρ2 aY dN)⟩
def YA(ah:p7 (a8 X.prog X.w) X.A X.env X.xe)(am:AT X c bf)(af:pM X bV d1 body bA):pL X bV d1 (.While c body [] pos) (Kd bf bA):=by
 obtain ⟨rU,j6,rc⟩:=am.run;obtain ⟨jv,fv,fw⟩:=af.run;refine ⟨_,JD ah j6 fv,λ bY dA ρ G σ H B gd q F=>?_⟩;obtain ⟨W,⟨m0,d2⟩,turn⟩:=q;refine ⟨λ m σ' aj=>∃ ρ' ap,W m ρ' ap/\dq X.K ρ' ap σ' aj/\Go X.K G H ap aj,⟨m0,ρ,G,d2,B,.refl B.ck⟩,?_⟩;rintro m σ2 a3 ⟨ρ2,aY,eu,cV,g2⟩;refine rc ρ2 aY _ σ2 a3 _ cV (turn m ρ2 aY eu) λ k d3 dy g3 dZ=>?_
 cases k with
 | true=>
  refine ⟨λ σ' aj=>∃ dR,dR < m/\∃ ρ' ap,W dR ρ' ap/\dq X.K ρ' ap σ' aj/\Go X.K G H ap aj,λ σ' aj ⟨dR,z,ρ',ap,cN,cc,hr⟩=>⟨dR,z,ρ',ap,cN,cc,hr⟩,?_⟩;have gk:=g2.trans g3
  have jO:∀ ρ' ap σ' aj,Go X.K d3 dy ap aj->dq X.K ρ' ap σ' aj->e0 (λ ρ' ap=>∃ dR,dR < m/\W dR ρ' ap) ρ' ap->∃ dR,dR < m/\∃ ρ' ap,W dR ρ' ap/\dq X.K ρ' ap σ' aj/\Go X.K G H ap aj:=λ ρ' ap σ' aj g' fD ⟨ρ5,l2,s1,s2,dR,hm,w⟩=>
   ⟨dR,hm,ρ5,l2,w,fD.weak s1 s2,(gk.trans g').sub s2⟩
  exact fw _ _ ρ2 d3 σ2 dy (cV.go g3) (gd.trans gk) (dZ.1 rfl) ⟨λ ρ' ap σ' aj g' fD w=>jO ρ' ap σ' aj g' fD w,(F.after gk).rt,λ ρ' ap σ' aj g' fD w=>F.nx ρ' ap σ' aj (gk.trans g') fD w,λ ρ' ap σ' aj g' fD w=>jO ρ' ap σ' aj g' fD w⟩
 | false=>exact F.nx ρ2 d3 σ2 dy (g2.trans g3) (cV.go g3) (dZ.2 rfl)
end
def YB{K:aV}{bV:aL}{d1:av}{dl:nj}{E:gp}(x:pK K bV d1 dl E):pK K bV d1 (λ C aC G=>∃ ap,Sub ap G/\dl C aC ap) E:=λ C dd aC dY ap aj g f ae ag ⟨aY,s2,q⟩=>x C dd aC dY aY aj (g.sub s2) f ae ag q
abbrev YC(dl:nj):nj:=λ C aC G=>∃ ap,Sub ap G/\dl C aC ap
def sC{P:cS}{w:b_}{K:aV}{mg:Str->Option Value}{base:bO}{x qual:Str}{st:b1}{f:Addr}{fd:gZ}{N ps:List Str}{k:Nat}{fE:k4}(F:ed K x qual st f fd)(S:ez N ps (cW st))(len:∀ ds G az dl,fE ds G az dl->ds.length=ps.length)
 (oX:∀(bW:Value)(A:cL)(outer:List Env)(s:aF)(H:av)(E:gp),fV k (A.deeper (PyProof.Rows.envOfC qual (cW st) s.heap.objs.size f bW))->∀(ds:List D)(G:aL)(az:cJ)(dl:nj),fE ds G az dl->pK K G H (YC dl) E →
  ∃ t,pM (e_ (fo P w) P w K mg base N qual (cW st) f bW A outer s H E) G H (j2 st) t/\t { nx:=λ _ ap=>bo az .bc ap,rt:=bo az } (r0 N ds) G):dp P w K mg base (fo P w) (k+1) f fd ps (gD K fE):=by
 obtain ⟨gT,eR,gR,doc,pm,an,bW,ct,jt,rfl,lk,hV⟩:=F.ex;refine Ce lk hV S (λ vs H Q E h=>?_) λ A outer s H vs Q E ak lT=>?_
 ·obtain ⟨ds,G,az,dl,r,_,h,_⟩:=h;rw [r.len];exact len ds G az dl h
 ·obtain ⟨ds,G,az,dl,r,v,h,wO,fZ⟩:=lT;obtain ⟨t,⟨bf,j,imp⟩,q⟩:=oX bW A outer s H E ak ds G az dl h (YB fZ);refine ⟨bf,j.run,imp _ _ (r0 N ds) G (L2.kK N vs) H (Kn r v) (.refl v) q ⟨λ ρ' ap σ' aj g b ⟨aY,s2,bl⟩=>wO .bc aY .bc aj (g.sub s2) rfl bl,λ d ap v aj g a ⟨aY,s2,bl⟩=>wO d aY v aj (g.sub s2) a bl,λ _ _ _ _ _ _ z=>z.elim,λ _ _ _ _ _ _ z=>z.elim⟩⟩
section
variable{P:cS}{w:b_}{K:aV}{mg:Str->Option Value}{base:bO}{N:List Str}{qual:Str}{scope:gF}{f:Addr}{cd:Value}{A:cL}{outer:List Env}{s:aF}{km:av}{E:gp}{bV:aL}{d1:av}{dl:nj}{C gY:Addr}{fd:gZ}{ps:List Str}{cx name:Str}{e:a9}{es:List a9}{aW:cm}{t:gK}{np cM pos p:Pos}
abbrev YD(C:Addr)(name:Str)(dl:nj)(aW:cm):f7:=λ _ ρ G=>aW ρ G λ d aB=>M5 d=true/\dl C [(name,d)] aB
structure pN(P:cS)(w:b_)(K:aV)(mg:Str->Option Value)(base:bO)(k:Nat)(cx:Str)(C:Addr)(name:Str):Prop where
 ex:∃(gY:Addr)(fd:gZ)(ps:List Str),so K C gY/\dp P w K mg base dz k gY fd ps (xt C name)/\mg cx=some (.ref C)/\lM K (.ref C)=true/\Binds K fd ps []
def mh{k j:Nat}(fZ:pK K bV d1 dl E)(R:pN P w K mg base k cx C name)(ak:fV j (e_ (fo P w) P w K mg base N qual scope f cd A outer s km E).A)(aD:k+1<=j)(a_:ew (e_ (fo P w) P w K mg base N qual scope f cd A outer s km E) cx)(ay:b7 (e_ (fo P w) P w K mg base N qual scope f cd A outer s km E) e aW)(bK:gu e=true:=by rfl)(fJ:(cx==("__debug__" : Str))=false:=by decide)
 (he:dU [e] (e_ (fo P w) P w K mg base N qual scope f cd A outer s km E).env=(false,eval e (e_ (fo P w) P w K mg base N qual scope f cd A outer s km E).env)::dU [] (e_ (fo P w) P w K mg base N qual scope f cd A outer s km E).env:=by rfl) :
 pL (e_ (fo P w) P w K mg base N qual scope f cd A outer s km E) bV d1 (.Raise (some (.Call (.Name cx np) [e] [] cM)) none pos) (YD C name dl aW):=by
 obtain ⟨gY,fd,ps,nh,F,hm,sD,af⟩:=R.ex;obtain ⟨cq,eT,aX⟩:=ay.run;refine ⟨_,⟨X6 (C:=C) (name:=name) (W:=λ v H1=>∀ aU,H1 aU=none->E (.ref C) (some aU) (upd H1 aU (.gS [(name,v)]))) nh F (ak.mono aD) a_ hm sD af eT.run rfl rfl (λ pins σ H s1 a aU v I ae ag aO c3 b8 EA=>Ye I ae ag aO c3 b8 (EA aU ag)) bK fJ he rfl⟩,λ bY dA ρ G σ H B gd q F=>?_⟩
 refine aX ρ G _ σ H _ B q λ d aB v H1 g1 ad aH=>⟨v,rfl,λ aU YE=>?_⟩
 exact fZ C (some aU) [(name,d)] [(name,v)] aB H1 (gd.trans g1) (.cons ⟨rfl,Yy aH.1 ad⟩ .nil) (λ Yf e=>by cases e;exact YE) (λ e=>by cases e) aH.2
abbrev YF(fE:k4)(dl:nj)(t:gK):cm:=λ ρ G Q=>t ρ G λ ds aB=>fE ds aB Q dl
def uJ{k j:Nat}{x:Str}{fE:k4}(fZ:pK K bV d1 dl E)(Gt:iE P w K mg base k x ps (gD K fE))(ak:fV j (e_ (fo P w) P w K mg base N qual scope f cd A outer s km E).A)(aD:k<=j)(a_:ew (e_ (fo P w) P w K mg base N qual scope f cd A outer s km E) x)(ay:iL (e_ (fo P w) P w K mg base N qual scope f cd A outer s km E) (e::es) t)(fJ:(x==("__debug__" : Str))=false:=by decide)
 (he:dU (e::es) (e_ (fo P w) P w K mg base N qual scope f cd A outer s km E).env=(false,eval e (e_ (fo P w) P w K mg base N qual scope f cd A outer s km E).env)::dU es (e_ (fo P w) P w K mg base N qual scope f cd A outer s km E).env:=by rfl)
 (g7:(g0 pos (dU es (e_ (fo P w) P w K mg base N qual scope f cd A outer s km E).env)).any (·.1)=false:=by rfl):sA (e_ (fo P w) P w K mg base N qual scope f cd A outer s km E) bV d1 (.Call (.Name x p) (e::es) [] pos) (YF fE dl t):=by
 obtain ⟨YG,af3,F,hm,c2,b⟩:=Gt.ex;obtain ⟨ca,cn,cp⟩:=ay.run;refine ⟨_,⟨IG (CX:=fo P w) (dvs:=[]) F (ak.mono aD) a_ hm c2 b .nil Yg cn.run fJ he g7⟩,λ ρ G az σ H Q B gd q F=>cp ρ G _ σ H _ B q λ ds aB vs H1 g1 al _ aH=>?_⟩;exact ⟨ds,aB,az,dl,by rw [eP];exact al,g1.ck,aH,F.after g1,fZ.after (gd.trans g1)⟩
end
structure AX(X:aT)(ax:List XL)(YH:Addr->List (Str × D)->f7):Prop where
 run:∃ fL:qR,uG X ax fL/\∀ C aC dY bY dA ρ G σ H,dq X.K ρ G σ H->sz X.K aC dY->YH C aC bY ρ G->mY X.K G H bY dA->fL C dY dA σ H
abbrev sE:=Addr->List (Str × D)->f7
abbrev YI(K:aV)(n6:Addr)(i:Nat)(u:Addr->sE)(fL:sE):sE:=λ C aC bY ρ G=>∃ b,iG K (.ref C) (.ref n6)=some b/\(b=true->kZ K C/\∀ e,G e=none->u e C aC (Ew i bY) (ρ.set i (some (.ref e))) G)/\(b=false->fL C aC bY ρ G)
section
variable{X:aT}{n6:Addr}{cx n:Str}{np EE:Pos}{xw:b1}{xx:List b1}{rest:List XL}{u:Addr->sE}{fL:sE}{i:Nat}
def M7:AX X [] (λ _ _ _ _ _=>False):=⟨_,Ym,λ _ _ _ _ _ _ _ _ _ _ _ q _=>q⟩
theorem M8(hex:X.ex=[])(g5:X.stack=X.env::X.outer)(gN:X.env.frame=some X.env.locals)(su:sr X.K n6)(EF:ew X cx)(EG:X.mg cx=some (.ref n6))(dM:X.N.Nodup)(au:X.N[i]?=some n)(mR:X.env.scope.names.lookup n=some .local)
 (ax:∀ e C aC dY pn,sz X.K aC dY->sv e C dY pn->kZ X.K C->n8 (X.kl e pn) (xw::xx) (u e C aC)) (ak:AX X rest fL) (xy:(cx==("__debug__" : Str))=false:=by decide):AX X (.ExceptHandler (some (.Name cx np)) (some n) (xw::xx) EE::rest) (YI X.K n6 i u fL):=by
 obtain ⟨rc,EI,cf⟩:=ak.run;refine ⟨_,Yn (i:=i) (u:=λ e C dY D σ H=>∃ aC,sz X.K aC dY/\kZ X.K C/\∀ pn ae ag aO,Classical.choose (ax e C aC dY pn ae ag aO).run D σ H) hex g5 gN su EF EG dM au mR (λ e C dY pn oo=>λ pins s σ H D I ⟨aC,ae,aO,h⟩=>(Classical.choose_spec (ax e C aC dY pn ae oo aO).run).1.run pins s σ H D I (h pn ae oo aO)) EI xy,λ C aC dY bY dA ρ G σ H B fa q F=>?_⟩;obtain ⟨b,af,aH,bl⟩:=q;refine ⟨b,af,λ hl e he=>?_,λ hl=>cf C aC dY bY dA ρ G σ H B fa (bl hl) F⟩;obtain ⟨YJ,aH⟩:=aH hl;refine ⟨aC,fa,YJ,λ pn ae ag aO=>(Classical.choose_spec (ax e C aC dY pn ae ag aO).run).2 (Ew i bY) (AM i dA) _ G _ H (B.set (show dg X.K H (.ref e) (.ref e) from rfl) i) (aH e ?_) (F.off i)⟩
 cases z:G e with
 | none=>rfl
 | some o=>
  obtain ⟨rE,M9⟩:=(B.ck e o z).some;rw [he] at M9;cases M9
end
section
variable{X:aT}{ax:List XL}{h₀:XL}{fL:sE}{hc cM xB pos af4:Pos}{e:a9}{es:List a9}{t:gK}{fE:k4}{ps:List Str}{g8:Str}
abbrev YK(fE:k4)(t:gK)(fL:sE):f7:=λ bY ρ G=>t ρ G λ ds aB=>fE ds aB (λ _ aY=>bY.nx ρ aY) λ C aC aY=>fL C aC bY ρ aY
def YL{K:aV}{aC:List (Str × D)}{dY:List (Str × V)}(h:sz K aC dY)(e:aC=[]):dY=[]:=by subst e;cases h;rfl
def M_{k j:Nat}(Gt:iE X.prog X.w X.K X.mg X.base k g8 ps (gD X.K fE))(ak:fV j X.A)(aD:k<=j)(a_:ew X g8)(ay:∀ gW,iL (X.kI gW) (e::es) t)(df:AX X (h₀::ax) fL)(hex:X.ex=[]:=by rfl)(g5:X.stack=X.env::X.outer:=by rfl)(gN:X.env.frame=some X.env.locals:=by rfl)
 (fJ:(g8==("__debug__" : Str))=false:=by decide) (he:dU (e::es) X.env=(false,eval e X.env)::dU es X.env:=by rfl) (g7:(g0 cM (dU es X.env)).any (·.1)=false:=by rfl) (mT:jL (.Call (.Name g8 hc) (e::es) [] cM) none xB.line X.env=pure false:=by rfl) :
 eA X (.Try [.Expr (.Call (.Name g8 hc) (e::es) [] cM) xB] (h₀::ax) [] [] pos) (YK fE t fL):=by
 obtain ⟨f,fd,F,hm,c2,b⟩:=Gt.ex;obtain ⟨rc,EI,cf⟩:=df.run;have ca:∀ gW,∃ bf:fT,lp (X.kI gW) (e::es) bf/\∀ ρ G az σ H Q,dq X.K ρ G σ H->t ρ G az->CN X.K (e::es).length G H az Q->bf σ H Q:=λ gW=>(ay gW).run;obtain ⟨bb,Na⟩:=Classical.axiomOfChoice ca;refine ⟨_,⟨Yx hex g5 gN (Yt (t:=λ σ H Q=>∀ gW,bb gW σ H Q) F (ak.mono aD) a_ hm c2 b (λ gW=>λ YM pins s σ H Q I h=>(Na gW).1.run YM pins s σ H Q I (h gW)) fJ he g7) EI mT⟩,λ bY dA ρ G σ H B q Nb=>?_⟩;intro gW
 refine (Na gW).2 ρ G _ σ H _ B q λ ds aB vs H1 g1 al _ aH=>⟨ds,aB,_,_,by rw [eP];exact al,g1.ck,aH,λ d aY v a3 g2 ad bl=>Nb.nx ρ aY σ a3 (g1.trans g2) (B.go (g1.trans g2)) bl,λ C dd aC dY ap aj g fa c3 b8 YN=>?_⟩
 exact ⟨C,dY,aj,rfl,rfl,c3,λ e=>YL fa (b8 e),cf C aC dY bY dA ρ ap σ aj (B.go (g1.trans g)) fa YN (Nb.after (g1.trans g))⟩
end
structure AY(K:aV)(C:Addr)(name:Str):Prop where
 cls:∃ cd,lN K C=some cd/\cd.hasDict=true
 no:nP K (.ref C) name=some none
section
variable{X:aT}{a C:Addr}{aC:List (Str × D)}{dY:List (Str × V)}{pn:List (Addr × Obj)}{n name:Str}{i:Nat}{p pos:Pos}
def YO(oo:sv a C dY pn){pins:List (Addr × Obj)}{σ:St}{H:av}{s:aF}(I:Inv (X.kl a pn) pins σ H s):ExcAt a C s.heap:=by
 obtain ⟨dG,vs,m,c,_⟩:=oo.obj;exact ⟨dG,(I.pin (a,dG) (jP _ (jP _ m))).1,c⟩
abbrev YP(K:aV)(i:Nat)(a C:Addr)(aC:List (Str × D))(name:Str):cm:=λ ρ G Q=>ρ[i]?=some (some (.ref a))/\AY K C name/\∃ d,aC.lookup name=some d/\Q d G
def YQ{K:aV}{aC:List (Str × D)}{dY:List (Str × V)}(h:sz K aC dY){d:D}(e:aC.lookup name=some d):∃ v,dY.lookup name=some v/\∀ H,dg K H d v:=by
 induction h with
 | nil=>cases e
 | @cons p q aC dY ah _ bN=>
  obtain ⟨f,d'⟩:=p;obtain ⟨YG,kG⟩:=q;obtain ⟨ae,ag⟩:=ah;simp only at ae ag;subst ae;rw [qb] at e ⊢;split at e
  ·cases e;exact ⟨kG,rfl,ag⟩
  ·exact bN e
def EJ(sF:kZ X.K C)(fa:sz X.K aC dY)(oo:sv a C dY pn)(dM:X.N[i]?=some n)(bJ:qg X.env.scope n)(af:mv (.Name n p) name X.env (eval (.Name n p) X.env)=eval (.Name n p) X.env:=by rfl)(hd:(n==("__debug__" : Str))=false:=by decide)(hV:(n==("__classdict__" : Str))=false:=by decide) :
 b7 (X.kl a pn) (.Attribute (.Name n p) name pos) (YP X.K i a C aC name):=by
 refine ⟨λ σ H Q=>σ[i]?=some (some (.ref a))/\AY X.K C name/\∃ v,dY.lookup name=some v/\Q v H,⟨λ pins s σ H Q I h=>?_⟩,λ ρ G az σ H Q B q F=>?_⟩
 ·obtain ⟨ae,ag,v,aO,bX⟩:=h;refine Q1 af (b2 (y1 (X:=X.kl a pn) (i:=i) dM bJ hd hV pins s σ H (λ x H1=>x=.ref a/\H1=H) I ⟨_,ae,rfl,rfl⟩) λ u s1 ⟨x,H1,a4,a7,ex,wT⟩=>?_);subst ex wT;obtain rfl:u=Value.ref a:=a7;obtain ⟨dG,vs,m,c,EB,xy⟩:=oo.obj;obtain ⟨cd,cq,b6⟩:=ag.cls;rcases xy with ⟨_,rfl⟩ | ⟨aU,me,mA,ey,fy,uD,EK⟩
  ·cases aO
  ·have cf:=EK name;rw [aO] at cf
   cases hm:mA name with
   | none=>rw [hm] at cf;exact (show False from cf).elim
   | some u=>
    rw [hm] at cf;have g1:=(a4.pin (a,dG) (jP _ (jP _ m))).1;have g2:=(a4.pin (aU,me) (jP _ (jP _ fy))).1
    have YR:PySem.W.InstAt s1.heap a dG C (some me):=⟨g1,c,by unfold PySem.W.notCls;rw [EB],by rw [ey];exact g2⟩
    exact Yi sF a4.et YR cq b6 ag.no (by rw [uD,hm]) (QY cf) ⟨v,_,a4.tok _,cf,bX⟩
 ·obtain ⟨aH,bl,d,dZ,ia⟩:=q;obtain ⟨v,aE,aP⟩:=YQ fa dZ;obtain ⟨v0,s1,a1⟩:=B.st i _ aH;cases a1;exact ⟨s1,bl,v,aE,F d G v H (.refl B.ck) (aP H) ia⟩
def YS(sF:kZ X.K C)(oo:sv a C dY pn):hY (X.kl a pn) (.builtin "isinstance") (XH a C X.K):=by
 intro pins s σ H xs us Q I r h;obtain ⟨y,rfl,h⟩:=h;obtain ⟨u,v,rfl,c1,a5⟩:=Vals.two r;cases c1;have h5:ExcAt a C s.heap:=YO oo I;rcases h with ⟨c,b,rfl,k,q⟩ | ⟨T,b,rfl,k,q⟩ | ⟨l,cs,b,rfl,fb,k,q⟩
 ·cases a5
  exact jR (Ev sF) I.et h5 k (λ z=>nomatch z) λ bR=>⟨.aJ b,H,I.tok bR,rfl,q⟩
 ·cases a5
  exact jR (Ev sF) I.et h5 k (λ z=>nomatch z) λ bR=>⟨.aJ b,H,I.tok bR,rfl,q⟩
 ·cases a5;obtain ⟨aw,MD,⟨⟨cls,dd,data,bq⟩,ae,ag,aO⟩,_⟩:=I.tuple fb;have bZ:=MH MD;subst bZ;simp only at ag aO;subst ag
  obtain ⟨n,rfl⟩:∃ n,data=.seq (cs.map Value.ref).toArray n:=by
   first | exact ⟨_,aO⟩ | exact aO | (obtain ⟨n,aO⟩:=aO;exact ⟨n,aO⟩)
  exact PySem.W.kia_tup (Ev sF) I.et h5 ae k (λ z=>nomatch z) λ bR=>⟨.aJ b,H,I.tok bR,rfl,q⟩
def EL(sF:kZ X.K C)(oo:sv a C dY pn):j4 (X.kl a pn) (.builtin "isinstance") (tY (AO X.K C a)):=by
 refine ⟨_,⟨YS sF oo⟩,λ xs vs G H az Q v al r F=>?_⟩;obtain ⟨x,y,u,w,rfl,rfl,aN,a6,aX⟩:=zL r al;clear r;rw [MJ] at aX;obtain ⟨rfl,b,k,q⟩:=aX;cases aN;refine ⟨w,rfl,?_⟩;have fin:=F (.aJ b) G _ H (.refl v) rfl q
 cases y with
 | ref c=>cases a6;exact .inl ⟨c,b,rfl,k,fin⟩
 | ty T=>cases a6;exact .inr (.inl ⟨T,b,rfl,k,fin⟩)
 | tup ds=>
  obtain ⟨l,ws,rfl,fb,dK⟩:=a6
  dsimp only [AN] at k
  cases z:uA ds with
  | none=>rw [z] at k;cases k
  | some cs=>
   rw [z] at k;rw [MI z dK] at fb;exact .inr (.inr ⟨l,cs,b,rfl,fb,k,fin⟩)
 | _=>cases k
end
end L3
namespace L3
open PySem L2 PySem.NumText PyProof.Rows PySem.W PySem.W.KIN
def Nc{x:Str}{r:List Nat}(h:x.cps.toList=45::r):(bare x).cps.toList=r:=by
 have ar:x.cps.toList.length=x.length:=hF;unfold bare;rw [dash,ut,h,if_pos (by rfl),PyProof.Rows.slice_from_eq (by decide) (by rw [<- ar,h,be];omega) rfl];show ((x.cps.toList.drop 1).take _)=_;rw [h,rp,nL,tj];rw [<- ar,h,be];omega
def Nd{x:Str}(h:x.cps.toList.head?≠some 45):bare x=x:=by
 unfold bare;rw [dash,ut,if_neg];intro c;exact h (eq_of_beq c)
def Nf{z:Str}(h:l_ z kV=true):AllDigits z.cps.toList:=by
 unfold l_ at h;rw [L9,kA] at h;intro c am;have:=h c am;rw [decide_eq_true_iff] at this;simp at this;omega
end L3
namespace L3
open PySem PySem.Spec PyProof.Rows L2
structure uK(X:aT)(bV:aL)(d1:av)(es:List a9)(t:gK):Prop where
 run:∃ bf:fT,lp X es bf/\∀ ρ G az σ H Q,dq X.K ρ G σ H->Go X.K bV d1 G H->t ρ G az->CN X.K es.length G H az Q->bf σ H Q
section
variable{X:aT}{bV:aL}{d1:av}{e o:a9}{es:List a9}{aW to:cm}{t:gK}{pos apos cM:Pos}
theorem iL.x(h:iL X es t):uK X bV d1 es t:=let ⟨c,j,r⟩:=h.run;⟨c,j,λ ρ G az σ H Q B _ q F=>r ρ G az σ H Q B q F⟩
def xC:uK X bV d1 [] JT:=iL.x aI
def uL(ay:sA X bV d1 e aW)(ak:uK X bV d1 es t)(ax:gu e=true:=by rfl):uK X bV d1 (e::es) (JU aW t):=by
 obtain ⟨ca,cn,cp⟩:=ay.run;obtain ⟨cr,qy,cf⟩:=ak.run;refine ⟨_,Jq cn qy ax,λ ρ G az σ H Q B gd q F=>?_⟩;refine cp ρ G _ σ H _ B gd q λ x aB v H1 g1 aN aH=>cf ρ aB _ σ H1 _ (B.go g1) (gd.trans g1) aH λ xs aY vs a3 g2 CQ ar bl=>?_;exact F (x::xs) aY (v::vs) a3 (g1.trans g2) ⟨v,vs,rfl,aN.mono g2.tup,CQ⟩ (by simp [ar]) bl
def YT {g6} (h:uK X bV d1 es t) (ar:qd es.length 1000=true:=by rfl):sA X bV d1 (.Tuple es g6 pos) (JV t):=by
 obtain ⟨ca,cn,cp⟩:=h.run;refine ⟨_,Jr cn,λ ρ G az σ H Q B gd q F=>cp ρ G _ σ H _ B gd q λ ds aB vs H1 g1 al aA aH=>⟨by rw [al.len,aA];exact wo ar,λ p ah=>?_⟩⟩;have g2:=Go.mV (o:=.tup vs) g1.ck ah;exact F (.tup ds) aB _ _ (g1.trans g2) ⟨p,vs,rfl,.of eF,al.mono g2.tup⟩ aH
def AZ{name:Str}{T id:String}{ty:D->aL->Prop}{r:D->List D->aL->cJ->Prop}(ju:ra T)(slot:Slot T name id)(gI:oB (.builtin id)=pure (.type "method_descriptor"))(hm:pj X T id ty r)(aR:b7 X o to)(ay:uK X bV d1 [e] t)
 (ll:mv o name X.env (eval o X.env)=eval o X.env:=by rfl) (lm:(apos.endLine==cM.line)=true:=by rfl) (ax:gu e=true:=by rfl):sA X bV d1 (.Call (.Attribute o name apos) [e] [] cM) (Ki ty r to t):=by
 obtain ⟨co,iq,im⟩:=aR.run;obtain ⟨ca,cn,cp⟩:=ay.run;obtain ⟨rZ,wK,bP,wL⟩:=hm.run;refine ⟨_,Ju ju slot gI wK iq cn ll lm ax,λ ρ G az σ H Q B gd q F=>im ρ G _ σ H _ B q λ x aB v H1 g1 aN ⟨ae,aH⟩=>⟨bP x v aB H1 g1.ck aN ae,?_⟩⟩;exact cp ρ aB _ σ H1 _ (B.go g1) (gd.trans g1) aH λ xs aY vs a3 g2 al _ bl=>wL x xs v vs aY a3 az Q g2.ck (aN.mono g2.tup) al bl (F.after (g1.trans g2))
end
end L3
namespace L3
open PySem L2 PySem.NumText PyProof.Rows PySem.W PySem.W.KIN
def lH(p:Str):Bool:=!(Builtin.Str.occurrences (" :," : Str) p 0 (" :," : Str).length 1).isEmpty
def hh(p:Str):Option D:=if lH p=true then some (.str p) else if p = "~" then some (.tup [.str "some"]) else if jd p=true then some (.tup [.str "is", .int (om p)]) else none
def YU{x:Str}(h:jd x=true):rz x=some (om x)/\x.length<=13:=by
 unfold jd at h;rw [eI,eI,eI,decide_eq_true_iff,decide_eq_true_iff] at h;obtain ⟨⟨ae,ag,aO⟩,bX⟩:=h;have hd:=Nf aO;have ar:x.cps.toList.length=x.length:=hF;have af:(bare x).cps.toList.length=(bare x).length:=hF
 have fin:∀{v:Int},rz x=some v->rz x=some (om x):=λ e=>by unfold om;rw [e];rfl
 by_cases c:x.cps.toList.head?=some 45
 ·cases e:x.cps.toList with
  | nil=>rw [e] at c;cases c
  | cons a r=>
   rw [e] at c;cases c;have hl:=Nc e;rw [hl] at hd af
   have ne:r≠[]:=by rintro rfl;rw [c7] at af;omega
   have af5:x.length=r.length+1:=by rw [<- ar,e,be]
   exact ⟨fin (intText_neg (x:=x) e hd ne (by omega)),by omega⟩
 ·have hl:=Nd c;rw [hl] at hd ae ag
  have ne:x.cps.toList≠[]:=by intro z;rw [z,c7] at ar;omega
  exact ⟨fin (intText_digits (x:=x) hd ne (by omega)),by omega⟩
def sG(row:List D):Option D:=match row.reverse with
 | k::c::ff=>if cw c (.str ":")=true/\ek (cz (ff.reverse.drop 1)) (fs ((cz ff.reverse).length - 1) (.str " "))=true then some (.tup [.str "way", .tup (cz ff.reverse),k]) else none
 | _=>none
def pO:List D->Option D
 | [a,b]=>if cw b (.str ",")=true then some (.tup [.str "left", a]) else if cw a (.str ",")=true then some (.tup [.str "right", b]) else none
 | [a,b,c]=>if cw b (.str ",")=true then some (.tup [.str "both", a,c]) else none
 | _=>none
def gO(fr:List D)(p:Str):Option D:=match fr with
 | .str b::row=>if b = "["/\p = "]" then sG row else if b = "("/\p = ")" then pO row else none
 | _=>none
section
variable(bL:Addr)
def sH(dl:nj)(G:aL):Prop:=dl bL [("at", .int 0)] G
def EM:k4:=λ ds G az dl=>∃ p:Str,ds=[.str p]/\p.length<=7000/\(∀ d,hh p=some d->az d G)/\(hh p=none->sH bL dl G)
def iW(ds:List D):Prop:=∀ d∈ds,d.data=true/\d.aS<=140
def EN:k4:=λ ds G az dl=>∃(l:Addr)(row:List D),ds=[.ref l]/\G l=some (.lst row)/\iW row/\row.length<=6000/\(∀ d,sG row=some d->az d G)/\(sG row=none->sH bL dl G)
def EO:k4:=λ ds G az dl=>∃(l:Addr)(row:List D),ds=[.ref l]/\G l=some (.lst row)/\iW row/\(∀ d,pO row=some d->az d G)/\(pO row=none->sH bL dl G)
def EP:k4:=λ ds G az dl=>∃(l:Addr)(b p:Str)(row:List D),ds=[.ref l,.str p]/\G l=some (.lst (.str b::row))/\iW row/\row.length<=6000/\(∀ d,gO (.str b::row) p=some d->az d G)/\(gO (.str b::row) p=none->sH bL dl G)
end
def EQ{x:D}{z:Str}{G:aL}{Q:cJ}(ai:x.data=true)(hd:x.aS<=150)(q:Q (.aJ (cw x (.str z))) G):DB x (.str z) G Q:=by
 have h:r1 id x (.str z) G Q:=t7 (f:=id) ai (show (D.str z).data=true by simp [D.data]) hd q
 cases x with
 | ref a=>simp [D.data] at ai
 | _=>exact h
theorem iW.at_{ds:List D}(h:iW ds){i:Nat}{d:D}(e:ds[i]?=some d):d.data=true/\d.aS<=150:=by
 obtain ⟨ae,ag⟩:=h d (kz e);exact ⟨ae,by omega⟩
def YV{row:List D}(ag:row.length≠2)(aO:row.length≠3):pO row=none:=by
 match row,ag,aO with
 | [],_,_=>rfl
 | [a],_,_=>rfl
 | [a,b],h,_=>exact absurd rfl h
 | [a,b,c],_,h=>exact absurd rfl h
 | a::b::c::d::r,_,_=>rfl
def Ng(ff:List D)(c k:D):sG (ff++[c,k])=if cw c (.str ":")=true/\ek (cz (ff.drop 1)) (fs ((cz ff).length - 1) (.str " "))=true then some (.tup [.str "way", .tup (cz ff),k]) else none:=by
 unfold sG;rw [show (ff++[c,k]).reverse=k::c::ff.reverse by simp];simp only [List.reverse_reverse]
def YW{row:List D}(h:row.length < 2):sG row=none:=by
 match row,h with
 | [],_=>rfl
 | [a],_=>rfl
def YX{row:List D}(h:¬ row.length < 2):∃ ff c k,row=ff++[c,k]:=by
 have e:row.reverse.reverse=row:=List.reverse_reverse _
 cases ae:row.reverse with
 | nil=>have:=congrArg mB ae;simp at this;rw [this] at h;exact absurd (by decide) h
 | cons k r=>
  cases r with
  | nil=>have:=congrArg mB ae;simp at this;omega
  | cons c b=>
   refine ⟨b.reverse,c,k,?_⟩;rw [<- e,ae];simp
theorem ER{α:Type}:∀ xs:List α,(cz xs).length<=xs.length
 | []=>b4 _
 | [x]=>b4 _
 | x::y::r=>by have:=ER r;simp only [cz,be];omega
theorem A0{α:Type}:∀{xs:List α}{x:α},x∈cz xs->x∈xs
 | [],_,h=>h
 | [y],_,h=>h
 | y::z::r,x,h=>by
  simp only [cz,cB] at h;rcases h with rfl | h
  ·exact b3 ..
  ·exact cO _ (cO _ (A0 h))
def Nh{ds:List D}(h:iW ds):cY ds=true/\cb ds<=150:=by
 induction ds with
 | nil=>exact ⟨rfl,fi _⟩
 | cons d r bN=>
  obtain ⟨ae,ag⟩:=h d (b3 ..);obtain ⟨xD,A1⟩:=bN λ x ai=>h x (cO _ ai);exact ⟨by simp only [cY,ae,xD,Bool.and_self],by simp only [cb];omega⟩
end L3
namespace L3
open PySem L2
inductive jI:D->List Str->Prop
 | str (p:Str):lH p=true->jI (.str p) [p]
 | some:jI (.tup [.str "some"]) ["~"]
 | is (p:Str):jd p=true->jI (.tup [.str "is", .int (om p)]) [p]
 | left {a:D} {x:List Str}:jI a x->jI (.tup [.str "left", a]) (("(" : Str)::(x++[(",":Str),(")":Str)]))
 | right {a:D} {x:List Str}:jI a x->jI (.tup [.str "right", a]) (("(" : Str)::("," : Str)::(x++[(")":Str)]))
 | both {a b:D} {x y:List Str}:jI a x->jI b y->jI (.tup [.str "both", a,b]) (("(" : Str)::(x++("," : Str)::(y++[(")":Str)])))
 | way {ps:List (D × List Str)} {k:D} {y:List Str}:(∀ p∈ps,jI p.1 p.2)->jI k y->jI (.tup [.str "way", .tup (ps.map (·.1)),k]) (("[" : Str)::(dB (" " : Str) (ps.map (·.2))++(":" : Str)::(y++[("]" : Str)])))
def YY{d:D}{z:Str}(h:cw d (.str z)=true):d=.str z:=by
 cases d with
 | str y=>rw [show y=z from eq_of_beq h]
 | _=>cases h
end L3
namespace L3
open PySem L2
def Ni{p:Str}(h:jd p=true):(∀ c∈p.cps.toList,c=45\/48<=c/\c<=57)/\p.cps.toList≠[]:=by
 unfold jd at h;rw [eI,eI,eI,decide_eq_true_iff,decide_eq_true_iff] at h;obtain ⟨⟨ae,ag,aO⟩,bX⟩:=h;have hd:=Nf aO;have af:(bare p).cps.toList.length=(bare p).length:=hF
 cases e:p.cps.toList with
 | nil=>
  have Nj:=LY p;have ar:p.cps.toList.length=p.length:=hF;rw [e,c7] at ar;omega
 | cons a r=>
  refine ⟨?_,tl _ _⟩;by_cases c:a=45
  ·subst c;have hl:=Nc e;rw [hl] at hd;intro c am;rcases cB.mp am with rfl | am
   ·exact .inl rfl
   ·exact .inr (hd c am)
  ·have hl:=Nd (x:=p) (by rw [e];simpa using c);rw [hl,e] at hd;exact λ c am=>.inr (hd c am)
def YZ{p:Str}(h:jd p=true):lH p=false:=by
 unfold lH;rw [yM];intro h0;obtain ⟨i,ae,ag⟩:=(PySem.StrLaws.found_iff _ _).mp h0;obtain ⟨aO,bX⟩:=Ni h;unfold Builtin.Str.subAt at ag;have ag:=eq_of_beq ag;have d0:=congrArg yI ag
 cases e:p.cps.toList with
 | nil=>exact bX e
 | cons c r=>
  rw [e] at d0
  have m:c∈((" :," : String):Str).cps.toList:=by
   have:c∈(((" :," : String):Str).cps.extract i (i+p.length)).toList:=by rw [d0];exact b3 ..
   rw [Array.toList_extract] at this;exact rr (yF this)
  have aD:∀ c∈((" :," : String):Str).cps.toList,¬ (c=45\/48<=c/\c<=57):=by trivial
  exact aD c m (aO c (by rw [e];exact b3 ..))
def Y0:∀ p∈([" ", ":", ","]:List Str),lH p=true/\p ∉ (["[", "(", "]", ")"]:List Str):=by trivial
def Nk:∀ p∈(["[", "(", "]", ")", "~"]:List Str),jd p=false:=by trivial
end L3
namespace L3
open PySem L2
def Y1{p:Str}(h:lH p=true):∀ c∈p.cps.toList,c=32\/c=58\/c=44:=by
 unfold lH at h;obtain ⟨i,ae,ag⟩:=(PySem.StrLaws.found_iff _ _).mp h;unfold Builtin.Str.subAt at ag;have ag:=eq_of_beq ag;have d0:=congrArg yI ag;intro c am
 have m:c∈((" :," : String):Str).cps.toList:=by
  have:c∈(((" :," : String):Str).cps.extract i (i+p.length)).toList:=by rw [d0];exact am
  rw [Array.toList_extract] at this;exact rr (yF this)
 have aD:∀ c∈((" :," : String):Str).cps.toList,c=32\/c=58\/c=44:=by trivial
 exact aD c m
end L3
namespace L3
open PySem L2
theorem Tk.lr{d:D}{x:List Str}(h:Tk d x):jI d x:=by
 induction h with
 | is n aA=>
  have ae:=(D7 aA).1
  have:om (eB n)=n:=by unfold om;rw [ae];rfl
  have t:=jI.is (eB n) (WZ aA)
  rwa [this] at t
 | some=>exact .some
 | left _ bN=>exact .left bN
 | right _ bN=>exact .right bN
 | both _ _ xD A1=>exact .both xD A1
 | way _ _ _ xD A1=>exact .way xD A1
end L3
namespace L3
open PySem L2
inductive eD:Option D->List (List D)->List Str->Prop
 | fG {o:Option D} {st:List (List D)} {p:Str} {r:List Str}:(p = "["\/p = "(")->eD o ([.str p]::st) r->eD o st (p::r)
 | cl {o:Option D} {b:Str} {row t:List D} {st:List (List D)} {p:Str} {r:List Str}:(p = "]"\/p = ")")->iW (.str b::row)->(∀ k,gO (.str b::row) p=some k->eD o ((t++[k])::st) r)->(gO (.str b::row) p=none->o=none)->eD o ((.str b::row)::t::st) (p::r)
 | xE {c:List D} {p:Str} {r:List Str}:(p = "]"\/p = ")")->eD none [c] (p::r)
 | ES {o:Option D} {t:List D} {st:List (List D)} {p:Str} {r:List Str}:p ∉ (["[", "(", "]", ")"]:List Str)->(∀ d,hh p=some d->eD o ((t++[d])::st) r)->(hh p=none->o=none)->eD o (t::st) (p::r)
 | fin {d:D}:e2 d->h3 49000 150 63 d->eD (some d) [[d]] []
 | ET {st:List (List D)}:st.length≠1->eD none st []
 | EU {t:List D}:t.length≠1->eD none [t] []
 | Nl {d:D}:¬ e2 d->(∀ r,eO r d)->h3 49000 150 63 d->eD none [[d]] []
section
variable{o:Option D}{b:Str}{row t:List D}{st:List (List D)}{p:Str}{r:List Str}{k:D}
theorem eD.cls(ah:p = "]"\/p = ")")(am:iW (.str b::row))(aD:gO (.str b::row) p=some k)(h:eD o ((t++[k])::st) r):eD o ((.str b::row)::t::st) (p::r):=.cl ah am (λ _ e=>by rw [aD] at e;cases e;exact h) λ e=>by rw [aD] at e;cases e
theorem eD.nk(ah:p = "]"\/p = ")")(am:iW (.str b::row))(aD:gO (.str b::row) p=none):eD none ((.str b::row)::t::st) (p::r):=.cl ah am (λ _ e=>by rw [aD] at e;cases e) λ _=>rfl
theorem eD.c0(ah:p ∉ (["[", "(", "]", ")"]:List Str))(aD:hh p=some k)(h:eD o ((t++[k])::st) r):eD o (t::st) (p::r):=.ES ah (λ _ e=>by rw [aD] at e;cases e;exact h) λ e=>by rw [aD] at e;cases e
theorem eD.EV(ah:p ∉ (["[", "(", "]", ")"]:List Str))(aD:hh p=none):eD none (t::st) (p::r):=.ES ah (λ _ e=>by rw [aD] at e;cases e) λ _=>rfl
end
theorem Nm{e:D}:∀{ds:List D},e∈kX ds->e=.str " "\/e∈ds
 | [],h=>by simp [kX,dB] at h
 | [d],h=>by simp [kX,dB] at h;exact .inr (by simp [h])
 | d::f::ds,h=>by
  rw [D_] at h;simp only [de,h7,cB] at h;rcases h with h | h | h
  ·exact .inr (by simp [h])
  ·exact .inl h
  ·rcases Nm h with h | h
   ·exact .inl h
   ·exact .inr (cO _ h)
def pP{o:Option D}{t:List D}{st:List (List D)}{p:Str}{r:List Str}(h:p∈([" ", ":", ","]:List Str))(k:eD o ((t++[.str p])::st) r):eD o (t::st) (p::r):=by
 obtain ⟨ae,ag⟩:=Y0 p h;exact .c0 ag (by unfold hh;rw [if_pos ae]) k
def oq(z:Str):(D.str z).data=true/\(D.str z).aS<=140:=⟨by simp [D.data],by simp [D.aS]⟩
def nn{d:D}{ds:List D}(ae:d.data=true/\d.aS<=140)(ag:iW ds):iW (d::ds):=λ e he=>by
 rcases cB.mp he with rfl | he
 ·exact ae
 ·exact ag e he
def EW:iW []:=λ e he=>absurd he fR
def Nn{d:D}{x:List Str}(h:jI d x):bM d->d.aS<=139->∀{o:Option D}{t:List D}{st:List (List D)}{r:List Str},eD o ((t++[d])::st) r->eD o (t::st) (x++r):=by
 induction h with
 | str p=>intro k;cases k
 | some=>intro _ _ o t st r q;exact .c0 (by trivial) (show hh "~" = some (.tup [.str "some"]) by unfold hh;rw [if_neg (by trivial),if_pos rfl]) q
 | is p ah=>
  intro _ _ o t st r q
  have af:p ∉ (["[", "(", "]", ")"]:List Str):=λ m=>by
   have:=Nk p (by simp at m ⊢;rcases m with m | m | m | m<;>simp [m]);rw [ah] at this;cases this
  have bu:p≠"~":=λ e=>by have:=Nk p (by simp [e]);rw [ah] at this;cases this
  exact .c0 af (show hh p=some (.tup [.str "is", .int (om p)]) by unfold hh;rw [if_neg (by rw [YZ ah];decide),if_neg bu,if_pos ah]) q
 | @left a x ay bN=>
  intro k hd o t st r q
  have iR:bM a:=by cases k;assumption
  have No:a.aS<=138:=by simp only [D.aS,cb] at hd;omega
  rw [de,c_];exact .fG (.inr rfl) (bN iR (by omega) (pP (p:=",") (by simp) (.cls (k:=.tup [.str "left", a]) (.inr rfl) (nn (oq _) (nn ⟨iR.data,by omega⟩ (nn (oq _) EW))) rfl q)))
 | @right a x ay bN=>
  intro k hd o t st r q
  have iR:bM a:=by cases k;assumption
  have No:a.aS<=138:=by simp only [D.aS,cb] at hd;omega
  rw [de,de,c_];exact .fG (.inr rfl) (pP (p:=",") (by simp) (bN iR (by omega) (.cls (k:=.tup [.str "right", a]) (.inr rfl) (nn (oq _) (nn (oq _) (nn ⟨iR.data,by omega⟩ EW))) (by cases iR<;>rfl) q)))
 | @both a b x y ay af Y2 Y3=>
  intro k hd o t st r q
  have iR:bM a:=by cases k;assumption
  have l5:bM b:=by cases k;assumption
  have No:a.aS<=138:=by simp only [D.aS,cb] at hd;omega
  have db:b.aS<=138:=by simp only [D.aS,cb] at hd;omega
  rw [de,c_,de,c_];exact .fG (.inr rfl) (Y2 iR (by omega) (pP (p:=",") (by simp) (Y3 l5 (by omega) (.cls (k:=.tup [.str "both", a,b]) (.inr rfl) (nn (oq _) (nn ⟨iR.data,by omega⟩ (nn (oq _) (nn ⟨l5.data,by omega⟩ EW)))) rfl q))))
 | @way ps k y mi aD Np bN=>
  intro eY hd o t st r q
  have k1:∀ d∈ps.map (·.1),bM d:=by cases eY;assumption
  have k2:bM k:=by cases eY;assumption
  have af6:k.aS<=138:=by simp only [D.aS,cb] at hd;omega
  have pQ:∀ d∈ps.map (·.1),d.aS<=138:=λ d hm=>by have:=t9 hm;simp only [D.aS,cb] at hd;omega
  have af:∀(bE:List (D × List Str)),(∀ p∈bE,p∈ps)->∀(t:List D)(st:List (List D))(r:List Str),eD o ((t++kX (bE.map (·.1)))::st) r->eD o (t::st) (dB (" " : Str) (bE.map (·.2))++r):=by
   intro bE
   induction bE with
   | nil=>intro _ t st r q;simpa [dB,kX] using q
   | cons p bE EX=>
    intro aM t st r q;have ah:=aM p (by simp)
    cases bE with
    | nil=>exact Np p ah (k1 _ (h8 ah)) (by have:=pQ _ (h8 ah);omega) q
    | cons dN bE=>
     have e:dB (" " : Str) ((p::dN::bE).map (·.2))++r=p.2++(" " : Str)::(dB (" " : Str) ((dN::bE).map (·.2))++r):=by simp [dB]
     rw [e];refine Np p ah (k1 _ (h8 ah)) (by have:=pQ _ (h8 ah);omega) (pP (p:=" ") (by simp) (EX (λ z hz=>aM z (cO _ hz)) _ _ _ ?_));rw [fh,fh,D_] at q;simpa using q
  have e:kX (ps.map (·.1))++[.str ":"]++[k]=kX (ps.map (·.1))++[.str ":", k]:=by simp
  rw [de,c_,de,c_];refine .fG (.inl rfl) (af ps (λ _ h=>h) _ _ _ (pP (p:=":") (by simp) (bN k2 (by omega) (.cls (b:="[") (row:=kX (ps.map (·.1))++[.str ":"]++[k]) (k:=.tup [.str "way", .tup (ps.map (·.1)),k]) (.inl rfl) ?_ ?_ q))))
  ·rw [e];refine nn (oq _) λ d hd=>?_;rcases fH.mp hd with hd | hd
   ·rcases Nm hd with rfl | hd
    ·exact oq _
    ·exact ⟨(k1 d hd).data,by have:=pQ d hd;omega⟩
   ·simp only [cB,fR,or_false] at hd;rcases hd with rfl | rfl
    ·exact oq _
    ·exact ⟨k2.data,by omega⟩
  ·rw [e]
   have dt:gO (.str "["::(kX (ps.map (·.1))++[.str ":", k])) "]" = sG (kX (ps.map (·.1))++[.str ":", k]):=by
    simp only [gO];rw [if_pos (by trivial)]
   rw [dt,Ng];obtain ⟨aE,aP⟩:=Mg (ps.map (·.1));rw [aE,aP,if_pos ⟨by trivial,Ed _ _⟩]
def Nq{d:D}{x:List Str}(h:Tk d x)(k:e2 d)(af:h3 9100 120 40 d):eD (some d) [[]] (bh d6 [] (cat x)):=by
 rw [h.pieces];have:=Nn h.lr k.l9 (by have:=af.aS;omega) (o:=some d) (t:=[]) (st:=[]) (r:=[]) (.fin k (af.mono (by omega) (by omega) (by omega)))
 rwa [eP] at this
def e7:Int->List Str->Nat
 | _,[]=>0
 | e,p::r=>if ¬ (0 < e)/\(p = " "\/p = ")") then 0 else if p = "("\/p = "[" then e7 (e+1) r+1 else if p = ")"\/p = "]" then e7 (e - 1) r+1 else e7 e r+1
def A2{r:List Str}(h:iB r):e7 0 r=0:=by
 rcases h with rfl | ⟨z,r,rfl,hz⟩
 ·rfl
 ·rw [e7,if_pos ⟨by decide,hz⟩]
theorem A3{r:List Str}(ak:iB r):∀(y:List Str)(e:Nat),Eg cA y->fO e (cat y)=some 0->e7 e (y++r)=y.length
 | [],e,_,h=>by
  rw [cat,fO] at h;cases h;exact A2 ak
 | p::y,e,am,h=>by
  rw [cat] at h;obtain ⟨ae,ag⟩:=Xs (am p (by simp)) h;have bP:Eg cA y:=λ z hz=>am z (cO _ hz);have dx:∀{a b:Str},(a==b)=true->a=b:=λ h=>eq_of_beq h
  have hL:¬ (¬ (0 < (e:Int))/\(p = " "\/p = ")")):=λ⟨cN,cc⟩=>by
   have:=ae (by omega);rcases cc with rfl | rfl<;>simp at this
  rw [de,e7,if_neg hL];rcases ag with ⟨a,b⟩ | ⟨a,tL,le,b⟩ | ⟨a,tL,b⟩
  ·rw [if_pos (by simpa using a),show (e:Int)+1=((e+1:Nat):Int) by omega,A3 ak y _ bP b,be]
  ·rw [if_neg (by simpa using a),if_pos (by simpa using tL),show (e:Int) - 1=((e - 1:Nat):Int) by omega,A3 ak y _ bP b,be]
  ·rw [if_neg (by simpa using a),if_neg (by simpa using tL),A3 ak y _ bP b,be]
def EY{r:List Str}(ak:iB r){l:List Nat}(h:fO 0 l=some 0):e7 0 (bh cA [] l++r)=(bh cA [] l).length:=by
 refine A3 ak _ 0 (Eh cA l [] (by simp)) ?_;rw [kg,h7];exact h
def lI:D->Bool
 | .tup _=>true
 | _=>false
def ji(w:Str):Option Int:=match qM w with
 | some (.int n)=>some n
 | _=>none
def iX(row:List D):Option D:=
 if ek (cz (row.drop 1)) (fs (cz (row.drop 2)).length (.str " "))=true/\(cz (row.drop 2)).all lI=true then
  match row,cz (row.drop 2) with
  | .str w::_,p::ps=>if w = "give" then some (.tup [.str "give", p,.tup ps]) else if ji w=some ((ps.length+1:Nat):Int) then some (.tup (.str w::p::ps)) else none
  | _,_=>none
 else none
theorem Nr:∀{xs:List D}{n:Nat},ek xs (fs n (.str " "))=true->xs=fs n (.str " ")
 | [],0,_=>rfl
 | [],n+1,h=>by simp [nM,ek] at h
 | x::xs,0,h=>by simp [ek] at h
 | x::xs,n+1,h=>by
  rw [nM] at h ⊢;simp only [ek,eI] at h;rw [YY h.1,Nr h.2]
def Nt(a:D)(l:List D):cz (a::l)=a::cz (l.drop 1):=by cases l<;>rfl
theorem Nu:∀(n:Nat)(r:List D),r.length<=n->cz r=fs (cz (r.drop 1)).length (.str " ")->r=eC (cz (r.drop 1))
 | _,[],_,_=>rfl
 | _,[a],_,h=>by simp [cz] at h
 | n+1,a::b::r,aA,h=>by
  simp only [rp,nL] at h ⊢;rw [Nt b r,be,nM,show cz (a::b::r)=a::cz r from rfl] at h;injection h with ae ag;have:=Nu n r (by simp only [be] at aA;omega) ag;rw [Nt b r,eC,ae,<- this]
 | 0,a::b::r,aA,_=>by simp at aA
def EZ{t:List D}{k:D}(h:iX t=some k):∃ w ds,t=.str w::eC ds/\ds≠[]/\(∀ d∈ds,lI d=true)/\((w = "give"/\∃ p ps,ds=p::ps/\k=.tup [.str "give", p,.tup ps])\/(w≠"give"/\ji w=some (ds.length:Int)/\k=.tup (.str w::ds))):=by
 unfold iX at h;split at h
 ·next am=>
  obtain ⟨ae,ag⟩:=am;split at h
  ·next w r p ps e=>
   have bZ:cz (r.drop 1)=p::ps:=by simpa using e
   simp only [rp,nL] at ae;have Y4:=Nr ae;have ak:=Nu r.length r (b4 _) Y4;rw [bZ] at ak;rw [e] at ag;have bu:∀ d∈p::ps,lI d=true:=kA.mp ag;split at h
   ·next hw=>cases h;exact ⟨w,p::ps,by rw [ak],by simp,bu,.inl ⟨hw,p,ps,rfl,rfl⟩⟩
   ·next hw=>
    split at h
    ·next au=>cases h;exact ⟨w,p::ps,by rw [ak],by simp,bu,.inr ⟨hw,by rw [au];rfl,rfl⟩⟩
    ·cases h
  ·cases h
 ·cases h
def Nv{w:Str}{ds:List D}{k:D}(h:iU w ds k):(w = "give"/\∃ p ps,ds=p::ps/\k=.tup [.str "give", p,.tup ps])\/(w≠"give"/\ji w=some (ds.length:Int)/\k=.tup (.str w::ds)):=by
 cases h with
 | un p hw=>
  refine .inr ⟨?_,by unfold ji;rw [Xq w hw];rfl,rfl⟩;rintro rfl;exact absurd hw (by trivial)
 | bi p q hw=>
  refine .inr ⟨?_,by unfold ji;rw [Mx w hw];rfl,rfl⟩;rintro rfl;exact absurd hw (by trivial)
 | give p ps _=>exact .inl ⟨rfl,p,ps,rfl,rfl⟩
def Y5{w:Str}{ds:List D}{k:D}(h:iU w ds k)(bu:∀ d∈ds,∃ xs,d=.tup xs):iX (.str w::eC ds)=some k:=by
 obtain ⟨aE,aP⟩:=Mn ds;have a:(D.str w::eC ds).drop 1=eC ds:=rfl;have b:(D.str w::eC ds).drop 2=(eC ds).drop 1:=rfl;unfold iX;rw [a,b,aE,aP,if_pos ⟨Ed _ _,kA.mpr λ d hd=>by obtain ⟨xs,rfl⟩:=bu d hd;rfl⟩];rcases Nv h with ⟨rfl,p,ps,rfl,rfl⟩ | ⟨ae,ag,aO⟩
 ·simp
 ·cases ds with
  | nil=>exact absurd rfl (si h).1
  | cons p ps=>
   simp only;rw [if_neg ae,if_pos (by rw [ag];rfl),aO]
end L3
namespace L3
open PySem L2
def jj(d:D):Prop:=d.data=true/\((∃ z,d=.str z)\/∃ xs,d=.tup xs)
def nq(z:Str):jj (.str z):=⟨by simp [D.data],.inl ⟨z,rfl⟩⟩
def sI(p:Str):D:=(xo p).getD (.str p)
inductive d_:Option D->List (List D)->List Str->Prop
 | fG {o:Option D} {st:List (List D)} {r:List Str}:d_ o ([]::st) r->d_ o st ("("::r)
 | cl {o:Option D} {c t:List D} {st:List (List D)} {r:List Str}:(∀ d∈c,jj d/\d.aS<=140)->(∀ k,iX c=some k->d_ o ((t++[k])::st) r)->(iX c=none->o=none)->d_ o (c::t::st) (")"::r)
 | xE {c:List D} {r:List Str}:d_ none [c] (")"::r)
 | na {o dI:Option D} {t:List D} {st:List (List D)} {y r:List Str}:e7 0 (y++r)=y.length->eD dI [[]] (bh d6 [] (cat y))->(∀ k,dI=some k->d_ o ((t++[.tup [.str "name", k]])::st) r)->(dI=none->o=none)->d_ o (t::st) ("#"::(y++r))
 | c0 {o:Option D} {t:List D} {st:List (List D)} {p:Str} {r:List Str}:p≠"("->p≠")"->p≠"#"->d_ o ((t++[sI p])::st) r->d_ o (t::st) (p::r)
 | fin {xs:List D}:d_ (some (.tup xs)) [[.tup xs]] []
 | E0 {st:List (List D)}:(∀ fr∈st,∀ d∈fr,jj d)->(¬ ∃ xs,st=[[.tup xs]])->d_ none st []
section
variable{o:Option D}{c t:List D}{st:List (List D)}{y r:List Str}{k:D}
theorem d_.cls(h:∀ d∈c,jj d/\d.aS<=140)(aD:iX c=some k)(q:d_ o ((t++[k])::st) r):d_ o (c::t::st) (")"::r):=.cl h (λ _ e=>by rw [aD] at e;cases e;exact q) λ e=>by rw [aD] at e;cases e
theorem d_.nk(h:∀ d∈c,jj d/\d.aS<=140)(aD:iX c=none):d_ none (c::t::st) (")"::r):=.cl h (λ _ e=>by rw [aD] at e;cases e) λ _=>rfl
theorem d_.pR(hz:e7 0 (y++r)=y.length)(aD:eD (some k) [[]] (bh d6 [] (cat y)))(q:d_ o ((t++[.tup [.str "name", k]])::st) r):d_ o (t::st) ("#"::(y++r)):=.na hz aD (λ _ e=>by cases e;exact q) λ e=>by cases e
theorem d_.xF(hz:e7 0 (y++r)=y.length)(aD:eD none [[]] (bh d6 [] (cat y))):d_ none (t::st) ("#"::(y++r)):=.na hz aD (λ _ e=>by cases e) λ _=>rfl
end
def Y6(p:Str):jj (sI p)/\(sI p).aS<=1:=by
 unfold sI xo AJ
 by_cases ae:p = "."
 ·subst ae;exact ⟨⟨rfl,.inr ⟨_,rfl⟩⟩,by decide⟩
 ·by_cases ag:p = "~"
  ·subst ag;exact ⟨⟨rfl,.inr ⟨_,rfl⟩⟩,by decide⟩
  ·rw [oG,decide_eq_false (λ e=>ae e.symm),oG,decide_eq_false (λ e=>ag e.symm)];exact ⟨nq p,by simp [D.aS]⟩
def A4{p:Str}(ae:p≠".")(ag:p≠"~"):sI p=.str p:=by
 unfold sI xo AJ;rw [oG,decide_eq_false (λ e=>ae e.symm),oG,decide_eq_false (λ e=>ag e.symm)];rfl
inductive fg:Nat->List Str->Nat->Prop
 | nil {j:Nat}:fg j [] j
 | fG {j e:Nat} {r:List Str}:j<=68->fg (j+1) r e->fg j ("("::r) e
 | cls {j e:Nat} {r:List Str}:fg j r e->fg (j+1) (")"::r) e
 | uM {e:Nat} {r:List Str}:fg 0 (")"::r) e
 | c0 {j e:Nat} {p:Str} {r:List Str}:p≠"("->p≠")"->p≠"#"->j<=69->fg j r e->fg j (p::r) e
 | pR {j e:Nat} {k:D} {x r:List Str}:Tk k x->e2 k->h3 9100 120 40 k->k.aS+1+2 * j<=140->iB r->fg j r e->fg j ("#"::(bh cA [] (cat x)++r)) e
def lJ:List (List D)->Prop
 | []=>True
 | t::st=>(∀ d∈t,jj d/\d.aS+2 * st.length<=140)/\lJ st
theorem lJ.all:∀{st:List (List D)},lJ st->∀ fr∈st,∀ d∈fr,jj d
 | [],_,fr,h=>absurd h fR
 | t::st,h,fr,hf=>by
  rcases cB.mp hf with rfl | hf
  ·exact λ d hd=>(h.1 d hd).1
  ·exact h.2.all fr hf
theorem lJ.app{t:List D}{st:List (List D)}{d:D}(h:lJ (t::st))(hd:jj d/\d.aS+2 * st.length<=140):lJ ((t++[d])::st):=
 ⟨λ e he=>by rcases fH.mp he with he | he;exact h.1 e he;simp at he;subst he;exact hd,h.2⟩
def Y7{c:List D}{k:D}{n:Nat}(h:iX c=some k)(am:∀ d∈c,jj d/\d.aS+n<=140):jj k/\k.aS+n<=142:=by
 obtain ⟨w,ds,rfl,cX,bu,aD⟩:=EZ h
 have hd:∀ d∈ds,d.data=true/\d.aS+n<=140:=λ d hd=>by
  have hm:∀{ds:List D},d∈ds->d∈eC ds:=by
   intro ds;induction ds with
   | nil=>exact id
   | cons e r bN=>intro h;rw [eC];rcases cB.mp h with rfl | h;simp;simp [bN h]
  have:=am d (cO _ (hm hd));exact ⟨this.1.1,this.2⟩
 have c3:n<=140:=by have:=(am (.str w) (b3 ..)).2;omega
 rcases aD with ⟨_,p,ps,rfl,rfl⟩ | ⟨_,_,rfl⟩
 ·have ah:=hd p (by simp);have aH:cY ps=true:=qD λ d ii=>(hd d (by simp [ii])).1
  have bl:cb ps<=140 - n:=uc λ d ii=>by have:=(hd d (by simp [ii])).2;omega
  exact ⟨⟨by simp [D.data,cY,ah.1,aH],.inr ⟨_,rfl⟩⟩,by simp only [D.aS,cb];omega⟩
 ·have aH:cY ds=true:=qD λ d ii=>(hd d ii).1
  have bl:cb ds<=140 - n:=uc λ d ii=>by have:=(hd d ii).2;omega
  exact ⟨⟨by simp [D.data,cY,aH],.inr ⟨_,rfl⟩⟩,by simp only [D.aS,cb];omega⟩
def k6:List (List D)->Prop
 | []=>False
 | [f]=>∀ r xs,f++r≠[.tup xs]
 | f::g::st=>(∀ r,iX (f++r)=none)\/k6 (g::st)
theorem k6.app{t:List D}{st:List (List D)}(d:D)(h:k6 (t::st)):k6 ((t++[d])::st):=by
 cases st with
 | nil=>intro r xs;rw [c_];exact h _ xs
 | cons g st=>
  rcases h with h | h
  ·exact .inl λ r=>by rw [c_];exact h _
  ·exact .inr h
theorem k6.push{st:List (List D)}(h:k6 st):k6 ([]::st):=by
 cases st with
 | nil=>exact h.elim
 | cons g st=>exact .inr h
theorem k6.pop{c t:List D}{st:List (List D)}{k:D}(h:k6 (c::t::st))(e:iX c=some k):k6 (t::st):=by
 rcases h with h | h
 ·have:=h [];rw [eP,e] at this;cases this
 ·exact h
def Nw{k:D}(h:e2 k):jj (.tup [.str "name", k])/\(D.tup [.str "name", k]).aS<=1+k.aS:=⟨⟨by simp [D.data,cY,h.l9.data],.inr ⟨_,rfl⟩⟩,by simp only [D.aS,cb];omega⟩
def mj{j e:Nat}{ps:List Str}(h:fg j ps e):∀{st:List (List D)},st.length=j+1->lJ st->(k6 st\/e≠0)->d_ none st ps:=by
 induction h with
 | @nil j=>
  intro st ar lv af;refine .E0 lv.all ?_;rintro ⟨xs,rfl⟩;rcases af with af | af
  ·exact af [] xs rfl
  ·simp at ar;omega
 | @fG j e r ae _ bN=>
  intro st ar lv af;refine .fG (bN (by simp [ar]) ⟨by simp,lv⟩ ?_);rcases af with af | af
  ·exact .inl af.push
  ·exact .inr af
 | @cls j e r _ bN=>
  intro st ar lv af
  match st,ar,lv,af with
  | c::t::st,ar,lv,af=>
   have am:∀ d∈c,jj d/\d.aS<=140:=λ d hd=>⟨(lv.1 d hd).1,by have:=(lv.1 d hd).2;omega⟩
   cases ah:iX c with
   | none=>exact .nk am ah
   | some k=>
    have aD:=Y7 ah (n:=2 * (t::st).length) lv.1;simp only [be] at aD;refine .cls am ah (bN (by simpa using ar) (lv.2.app ⟨aD.1,by omega⟩) ?_);rcases af with af | af
    ·exact .inl ((af.pop ah).app k)
    ·exact .inr af
 | uM=>
  intro st ar lv af
  match st,ar with
  | [c],_=>exact .xE
 | @c0 j e p r ae ag aO bX _ bN=>
  intro st ar lv af
  match st,ar,lv,af with
  | t::st,ar,lv,af=>
   have ax:=Y6 p;simp only [be] at ar;refine .c0 ae ag aO (bN (by simpa using ar) (lv.app ⟨ax.1,by omega⟩) ?_);rcases af with af | af
   ·exact .inl (af.app _)
   ·exact .inr af
 | @pR j e k x r ae ag aO bX d0 _ bN=>
  intro st ar lv af
  match st,ar,lv,af with
  | t::st,ar,lv,af=>
   simp only [be] at ar;have aA:=Nw ag;refine .pR (EY d0 (AF ae 0)) (by rw [kg];exact Nq ae ag aO) (bN (by simpa using ar) (lv.app ⟨aA.1,by omega⟩) ?_);rcases af with af | af
   ·exact .inl (af.app _)
   ·exact .inr af
def uN{d:D}{x:List Str}(h:dC d x):jj d:=⟨(My h).1,.inr (uz h)⟩
def Nx:∀ w∈hK++hA++[("give" : Str)],w≠"("/\w≠")"/\w≠"#"/\w≠"."/\w≠"~":=by trivial
def qS{o:Option D}{t:List D}{st:List (List D)}{r:List Str}(h:d_ o ((t++[.str " "])::st) r):d_ o (t::st) (" "::r):=.c0 (by trivial) (by trivial) (by trivial) (by rw [A4 (by trivial) (by trivial)];exact h)
def Ny{w:Str}(hw:w∈hK++hA++[("give" : Str)]){o:Option D}{t:List D}{st:List (List D)}{r:List Str}(h:d_ o ((t++[.str w])::st) r):d_ o (t::st) (w::r):=by
 obtain ⟨a,b,c,d,e⟩:=Nx w hw;exact .c0 a b c (by rw [A4 d e];exact h)
def k7(r:List Str):iB (")"::r):=.inr ⟨_,_,rfl,.inr rfl⟩
def A5(r:List Str):iB (" "::r):=.inr ⟨_,_,rfl,.inl rfl⟩
def xG(xs:List (List Str)){r:List Str}(h:iB r):iB (br xs++r):=by
 cases xs with
 | nil=>exact h
 | cons x xs=>exact A5 _
theorem xH{o:Option D}{st:List (List D)}:∀{ps:List (D × List Str)}{c:List D}{r:List Str},(∀ p∈ps,∀(t:List D)(st:List (List D))(r:List Str),iB r->d_ o ((t++[p.1])::st) r->d_ o (t::st) (p.2++r))->iB r->d_ o ((c++eC (ps.map (·.1)))::st) r->d_ o (c::st) (br (ps.map (·.2))++r)
 | [],c,r,_,_,h=>by simpa [br,eC] using h
 | p::ps,c,r,ah,ak,h=>by
  rw [fh,br,de,c_];refine qS (ah p (by simp) _ _ _ (xG _ ak) (xH (λ q aM=>ah q (cO _ aM)) ak ?_));simpa [eC,c_] using h
def E1{o:Option D}{d:D}{x:List Str}(h:dC d x):d.aS<=130->∀(t:List D)(st:List (List D))(r:List Str),(iB r\/∀ k,d≠.tup [.str "name", k])->d_ o ((t++[d])::st) r->d_ o (t::st) (x++r):=by
 induction h with
 | some=>intro _ t st r _ h;exact .c0 (by trivial) (by trivial) (by trivial) h
 | whole=>intro _ t st r _ h;exact .c0 (by trivial) (by trivial) (by trivial) h
 | name ae ag aO _=>intro _ t st r ak h;exact .pR (EY (ak.resolve_right λ z=>z _ rfl) (AF ae 0)) (by rw [kg];exact Nq ae ag aO) h
 | @node w ps d aA h0 bN=>
  intro hd t st r ak h;have kn:∀ p∈ps,p.1.aS < d.aS:=λ p ah=>mc aA (h8 ah);rw [de,de,c_];refine .fG (Ny (jF aA) (xH (λ p ah t st r ak=>bN p ah (by have:=kn p ah;omega) t st r (.inl ak)) (k7 _) (.cls (k:=d) ?_ ?_ h)))
  ·intro e he;simp only [h7,de,cB] at he;rcases he with rfl | he
   ·exact ⟨nq _,by simp [D.aS]⟩
   ·have hm:∀{ds:List D},e∈eC ds->e=.str " "\/e∈ds:=by
     intro ds;induction ds with
     | nil=>intro h;cases h
     | cons f r bN=>intro h;rw [eC] at h;simp only [cB] at h;rcases h with h | h | h;exact .inl h;exact .inr (by simp [h]);rcases bN h with h | h;exact .inl h;exact .inr (by simp [h])
    rcases hm he with rfl | he
    ·exact ⟨nq _,by simp [D.aS]⟩
    ·obtain ⟨p,ah,rfl⟩:=hS.mp he;exact ⟨uN (h0 p ah),by have:=kn p ah;omega⟩
  ·exact Y5 aA λ e he=>by obtain ⟨p,ah,rfl⟩:=hS.mp he;exact uz (h0 p ah)
def pS{o:Option D}{d:D}{x:List Str}(h:dC d x)(hd:d.aS<=130)(t:List D)(st:List (List D))(r:List Str)(ak:iB r)(q:d_ o ((t++[d])::st) r):d_ o (t::st) (x++r):=E1 h hd t st r (.inl ak) q
theorem qT{j e:Nat}:∀{ps:List (D × List Str)}{r:List Str},(∀ p∈ps,∀(r:List Str),iB r->fg j r e->fg j (p.2++r) e)->j<=69->iB r->fg j r e->fg j (br (ps.map (·.2))++r) e
 | [],r,_,_,_,h=>h
 | p::ps,r,ah,bw,ak,h=>by
  rw [fh,br,de,c_];exact .c0 (by trivial) (by trivial) (by trivial) bw (ah p (by simp) _ (xG _ ak) (qT (λ q aM=>ah q (cO _ aM)) bw ak h))
def ot{d:D}{x:List Str}(h:dC d x):∀{j e:Nat}{r:List Str},d.aS+j<=68->iB r->fg j r e->fg j (x++r) e:=by
 induction h with
 | some=>intro j e r hd _ h;exact .c0 (by trivial) (by trivial) (by trivial) (by omega) h
 | whole=>intro j e r hd _ h;exact .c0 (by trivial) (by trivial) (by trivial) (by omega) h
 | @name k x ae ag aO _=>intro j e r hd ak h;exact .pR ae ag aO (by simp only [D.aS,cb] at hd;omega) ak h
 | @node w ps d aA h0 bN=>
  intro j e r hd ak h;obtain ⟨a,b,c,_⟩:=Nx w (jF aA);rw [de,de,c_];refine .fG (by omega) (.c0 a b c ?_ (qT (λ p ah r ak g=>bN p ah ?_ ak g) ?_ (k7 _) (.cls h)))
  ·have:=(si aA).1
   cases ps with
   | nil=>exact absurd rfl this
   | cons p ps=>have:=mc aA (e:=p.1) (by simp);omega
  ·have:=mc aA (h8 (f:=(·.1)) ah);omega
  ·omega
end L3
namespace L3
open PySem L2
inductive Pos:Bool->List D->List (List D)->List Str->Prop
 | root:Pos false [] [] []
 | ka {h:Bool} {w:Str} {ds:List D} {bE:List (D × List Str)} {t:List D} {st:List (List D)} {vs:List Str}:lJ (t::st)->iB vs->fg st.length vs 0->fg (st.length+1) vs 1->(h=false->w≠"give"/\ji w=some ((ds.length+1+bE.length:Nat):Int))->(∀ d∈ds,jj d/\lI d=true/\d.aS+(st.length+1)<=66)->st.length<=63->(∀ q∈bE,dC q.1 q.2/\q.1.aS+(st.length+1)<=66) →
  Pos h (.str w::(eC ds++[.str " "])) (t::st) (br (bE.map (·.2))++(")" : Str)::vs)
theorem A6{e:D}:∀{ds:List D},e∈eC ds->e=.str " "\/e∈ds
 | [],h=>by cases h
 | f::r,h=>by
  rw [eC] at h;simp only [cB] at h;rcases h with h | h | h
  ·exact .inl h
  ·exact .inr (by simp [h])
  ·rcases A6 h with h | h
   ·exact .inl h
   ·exact .inr (by simp [h])
def ml{h:Bool}{t:List D}{st:List (List D)}{vs:List Str}(p:Pos h t st vs):lJ (t::st):=by
 cases p with
 | root=>exact ⟨by simp,trivial⟩
 | @ka _ w ds bE t st vs lv _ _ _ _ hd ar _=>
  refine ⟨λ d hm=>?_,lv⟩;simp only [cB,fH,fR,or_false] at hm;simp only [be];rcases hm with rfl | hm | rfl
  ·exact ⟨nq _,by simp only [D.aS];omega⟩
  ·rcases A6 hm with rfl | hm
   ·exact ⟨nq _,by simp only [D.aS];omega⟩
   ·have:=hd d hm;exact ⟨this.1,by omega⟩
  ·exact ⟨nq _,by simp only [D.aS];omega⟩
def uO{h:Bool}{t:List D}{st:List (List D)}{vs:List Str}(p:Pos h t st vs):iB vs:=by
 cases p with
 | root=>exact .inl rfl
 | ka=>exact xG _ (k7 _)
def ou{h:Bool}{t:List D}{st:List (List D)}{vs:List Str}(p:Pos h t st vs):fg st.length vs 0:=by
 cases p with
 | root=>exact .nil
 | ka lv he g1 g2 ay hd ar aM=>exact qT (λ p ah r ak g=>ot (aM p ah).1 (by have:=(aM p ah).2;simp only [be];omega) ak g) (by simp only [be];omega) (k7 _) (.cls g1)
def Nz{h:Bool}{t:List D}{st:List (List D)}{vs:List Str}(p:Pos h t st vs):fg (st.length+1) vs 1:=by
 cases p with
 | root=>exact .nil
 | ka lv he g1 g2 ay hd ar aM=>exact qT (λ p ah r ak g=>ot (aM p ah).1 (by have:=(aM p ah).2;simp only [be];omega) ak g) (by simp only [be];omega) (k7 _) (.cls g2)
def gf(h:Bool)(b:Nat)(s:List Nat):Prop:=∀ t st vs,Pos h t st vs->b+st.length<=64->d_ none (t::st) (bh cA [] s++vs)
theorem NA:∀{ds es:List D}{r:List D},eC ds++r=eC es->∃ aC,es=ds++aC/\r=eC aC
 | [],es,r,h=>⟨es,rfl,h⟩
 | d::ds,[],r,h=>by simp [eC] at h
 | d::ds,e::es,r,h=>by
  simp only [eC,de,List.cons.injEq,true_and] at h;obtain ⟨rfl,h⟩:=h;obtain ⟨aC,rfl,ag⟩:=NA h;exact ⟨aC,rfl,ag⟩
def sJ{w:Str}{ds r:List D}(h:∀ aC:List D,r=eC aC->(∀ d∈aC,lI d=true)->ds++aC≠[]->(w = "give"\/(w≠"give"/\ji w=some ((ds++aC).length:Int)))->False):iX (.str w::(eC ds++r))=none:=by
 cases e:iX (.str w::(eC ds++r)) with
 | none=>rfl
 | some k=>
  obtain ⟨hH,es,ae,ag,aO,bX⟩:=EZ e;injection ae with d0 hZ;injection d0 with d0;subst d0;obtain ⟨aC,rfl,Y8⟩:=NA hZ;refine (h aC Y8 (λ d hd=>aO d (h6 _ hd)) ag ?_).elim;rcases bX with ⟨a,_⟩ | ⟨a,b,_⟩
  ·exact .inl a
  ·exact .inr ⟨a,b⟩
def A7{h:Bool}{t:List D}{st:List (List D)}{vs:List Str}(p:Pos h t st vs)(z:Str):k6 ((t++[.str z])::st):=by
 cases p with
 | root=>intro r xs e;simp at e
 | ka=>
  refine .inl λ r=>?_;rw [de,c_,de,c_];refine sJ λ aC e bu _ _=>?_
  cases aC with
  | nil=>simp [eC] at e
  | cons f aC=>
   simp [eC] at e;have:=bu f (by simp);rw [<- e.1] at this;cases this
def NB{h:Bool}{t:List D}{st:List (List D)}{vs:List Str}(p:Pos h t st vs)(d x:D)(ai:x≠.str " "):k6 ((t++[d]++[x])::st):=by
 cases p with
 | root=>intro r xs e;simp at e
 | ka=>
  refine .inl λ r=>?_;simp only [de,c_,h7];refine sJ λ aC e bu _ _=>?_
  cases aC with
  | nil=>simp [eC] at e
  | cons f aC=>
   cases aC with
   | nil=>simp [eC] at e
   | cons g aC=>simp [eC] at e;exact ai e.2.1
def Y9{h:Bool}{t:List D}{st:List (List D)}{vs:List Str}(p:Pos h t st vs)(d:D)(z:Str):k6 ((t++[d]++[.str " "]++[.str z])::st):=by
 cases p with
 | root=>intro r xs e;simp at e
 | ka=>
  refine .inl λ r=>?_;simp only [de,c_,h7];refine sJ λ aC e bu _ _=>?_
  cases aC with
  | nil=>simp [eC] at e
  | cons f aC=>
   cases aC with
   | nil=>simp [eC] at e
   | cons g aC=>
    simp [eC] at e;have:=bu g (by simp);rw [<- e.2.1] at this;cases this
section
variable{h:Bool}{d:D}{x:List Str}
def qU{t:List D}{st:List (List D)}(lv:lJ (t::st))(ax:st.length<=64)(z:Str):lJ ((t++[.str z])::st):=lv.app ⟨nq z,by simp only [D.aS];omega⟩
def uP{t:List D}{st:List (List D)}(lv:lJ (t::st))(ai:dC d x)(ax:d.aS+st.length<=64):lJ ((t++[d])::st):=lv.app ⟨uN ai,by omega⟩
def Y_(ai:dC d x):gf h d.aS (32::cat x):=by
 intro t st vs p ar;rw [gB (by decide),xi ai,<- nd,de];exact qS (mj (ot ai (by omega) (uO p) (ou p)) (by simp) (qU (ml p) (by omega) _) (.inl (A7 p _)))
def NC(ai:dC d x):gf h d.aS (cat x++[32]):=by
 intro t st vs p ar
 have e:bh cA [] (cat x++[32])=x++[(" " : Str)]:=by
  rw [sj ai [32] (.inr ⟨32,[],rfl,by decide⟩),gB (by decide),<- nd];rfl
 rw [e,c_];refine pS ai (by omega) _ _ _ (A5 _) (qS ?_);have sK:=qU (uP (ml p) ai ar) (by omega) " ";have pQ:=Y9 p d
 cases p with
 | root=>exact mj (fg.nil (j:=0)) (by simp) sK (.inl (by intro r xs e;simp at e))
 | @ka _ w ds bE t st vs lv he g1 g2 ay hd ax aM=>
  simp only [be] at ar
  cases bE with
  | nil=>
   refine .nk (λ d hd=>⟨(sK.1 d hd).1,by have:=(sK.1 d hd).2;omega⟩) ?_;simp only [de,c_,h7];refine sJ λ aC e bu _ _=>?_;have:=congrArg mB e;rw [xj] at this;simp at this;omega
  | cons q bE=>
   rw [show br ((q::bE).map (·.2))++(")" : Str)::vs=(" " : Str)::(q.2++(br (bE.map (·.2))++(")" : Str)::vs)) by simp [br]];have jg:∀ z∈bE,dC z.1 z.2/\z.1.aS+(st.length+1)<=66:=λ z hz=>aM z (cO _ hz);have E2:=aM q (by simp);refine qS (mj (ot (j:=st.length+1) (e:=0) E2.1 (by omega) (xG _ (k7 _)) (qT (λ p ah r ak g=>ot (jg p ah).1 (by have:=(jg p ah).2;omega) ak g) (by omega) (k7 _) (.cls g1))) (by simp) (qU sK (by simp only [be];omega) " ") (.inl (pQ " ")))
def Za(ai:dC d x):gf false d.aS (cat x++32::cat x):=by
 intro t st vs p ar
 have e:bh cA [] (cat x++32::cat x)=x++(" " : Str)::x:=by
  rw [sj ai _ (.inr ⟨32,_,rfl,by decide⟩),gB (by decide),xi ai,<- nd]
 rw [e,c_,de];refine pS ai (by omega) _ _ _ (A5 _) (qS (pS ai (by omega) _ _ _ (uO p) ?_));have sK:=uP (qU (uP (ml p) ai ar) (by omega) " ") ai ar
 cases p with
 | root=>exact mj (fg.nil (j:=0)) (by simp) sK (.inl (by intro r xs e;simp at e))
 | @ka _ w ds bE t st vs lv he g1 g2 ay hd ax aM=>
  simp only [be] at ar;refine xH (λ q jg=>pS (aM q jg).1 (by have:=(aM q jg).2;omega)) (k7 _) (.nk (λ e he=>?_) ?_)
  ·rcases fH.mp he with he | he
   ·have:=sK.1 e he;exact ⟨this.1,by omega⟩
   ·rcases A6 he with rfl | he
    ·exact ⟨nq _,by simp [D.aS]⟩
    ·obtain ⟨q,jg,rfl⟩:=hS.mp he;exact ⟨uN (aM q jg).1,by have:=(aM q jg).2;omega⟩
  ·obtain ⟨a1,a2⟩:=ay rfl;simp only [de,c_,h7];refine sJ λ aC e bu _ am=>?_;rcases am with am | ⟨_,am⟩
   ·exact a1 am
   ·rw [a2] at am;have fK:=congrArg mB e;rw [xj] at fK;simp only [be,xj,cP] at fK;simp only [cI,gG.injEq] at am;omega
def Zb:gf h d.aS []:=by
 intro t st vs p ar;have lv:=ml p;have pQ:=A7 p " ";rw [bh,if_pos rfl,h7]
 cases p with
 | root=>exact .E0 (by simp) (by simp)
 | @ka _ w ds bE t st vs ND he g1 g2 ay hd ax aM=>
  simp only [be] at ar
  cases bE with
  | nil=>
   refine .nk (λ d hd=>⟨(lv.1 d hd).1,by have:=(lv.1 d hd).2;omega⟩) ?_;refine sJ λ aC e bu _ _=>?_;have:=congrArg mB e;rw [xj] at this;simp at this;omega
  | cons q bE=>
   rw [show br ((q::bE).map (·.2))++(")" : Str)::vs=(" " : Str)::(q.2++(br (bE.map (·.2))++(")" : Str)::vs)) by simp [br]];have jg:∀ z∈bE,dC z.1 z.2/\z.1.aS+(st.length+1)<=66:=λ z hz=>aM z (cO _ hz);have E2:=aM q (by simp);exact qS (mj (ot (j:=st.length+1) (e:=0) E2.1 (by omega) (xG _ (k7 _)) (qT (λ p ah r ak g=>ot (jg p ah).1 (by have:=(jg p ah).2;omega) ak g) (by omega) (k7 _) (.cls g1))) (by simp) (qU lv (by simp only [be];omega) " ") (.inl pQ))
def Zc(ai:dC d x):gf h d.aS (40::(cat x++[41])):=by
 intro t st vs p ar
 have e:bh cA [] (40::(cat x++[41]))=("(" : Str)::(x++[(")" : Str)]):=by
  rw [gB (by decide),sj ai [41] (.inr ⟨41,[],rfl,by decide⟩),gB (by decide),<- fl,<- fm];rfl
 rw [e,de,c_];refine .fG (pS ai (by omega) _ _ _ (k7 _) (.nk (λ e he=>?_) ?_))
 ·simp at he;subst he;exact ⟨uN ai,by omega⟩
 ·obtain ⟨xs,rfl⟩:=uz ai
  cases e:iX ([]++[D.tup xs]) with
  | none=>rfl
  | some k=>obtain ⟨w,ds,ae,_⟩:=EZ e;simp at ae
def NE:∀{j:Nat}{ps:List Str},fg (j+1) ps 0->fg j ps 1:=by
 suffices H:∀{i e:Nat}{ps:List Str},fg i ps e->e=0->∀ j,i=j+1->fg j ps 1 from λ{_ _} g=>H g rfl _ rfl
 intro i e ps g
 induction g with
 | nil=>intro h j bw;omega
 | fG ae _ bN=>intro h j bw;exact .fG (by omega) (bN h _ (by omega))
 | @cls af7 e r g bN=>
  intro h j bw
  cases j with
  | zero=>exact .uM
  | succ j=>exact .cls (bN h j (by omega))
 | uM=>intro h j bw;omega
 | c0 ae ag aO bX _ bN=>intro h j bw;exact .c0 ae ag aO (by omega) (bN h j bw)
 | pR ae ag aO bX d0 _ bN=>intro h j bw;exact .pR ae ag aO (by omega) d0 (bN h j bw)
def Zd(ai:dC d x):gf h d.aS (cat x++[41]):=by
 intro t st vs p ar
 have e:bh cA [] (cat x++[41])=x++[(")" : Str)]:=by
  rw [sj ai [41] (.inr ⟨41,[],rfl,by decide⟩),gB (by decide),<- fm];rfl
 rw [e,c_]
 have a_:fg st.length (([(")" : Str)])++vs) 1:=by
  have:=ou p
  cases ax:st.length with
  | zero=>exact .uM
  | succ j=>rw [ax] at this;exact .cls (NE this)
 exact mj (ot ai (by omega) (k7 _) a_) (by simp) (ml p) (.inr (by decide))
end
end L3
namespace L3
open PySem L2
section
variable{h:Bool}{d:D}{x:List Str}{w:Str}{ps:List (D × List Str)}{b:Nat}
def mm(w:Str):Prop:=w.cps.toList≠[]/\∀ c∈w.cps.toList,c ∉ cA
def xI(hw:mm w):w≠"("/\w≠")"/\w≠"#"/\w≠"."/\w≠"~":=by
 have k:∀ z∈(["(", ")", "#", ".", "~"]:List Str),∃ c∈z.cps.toList,c∈cA:=by trivial
 have g:∀ z∈(["(", ")", "#", ".", "~"]:List Str),w≠z:=λ z hz e=>by obtain ⟨c,ae,ag⟩:=k z hz;exact hw.2 c (by rw [e];exact ae) ag
 exact ⟨g _ (by simp),g _ (by simp),g _ (by simp),g _ (by simp),g _ (by simp)⟩
def E3(hw:mm w){o:Option D}{t:List D}{st:List (List D)}{r:List Str}(h:d_ o ((t++[.str w])::st) r):d_ o (t::st) (w::r):=by
 obtain ⟨a,b,c,d,e⟩:=xI hw;exact .c0 a b c (by rw [A4 d e];exact h)
def xJ(hw:w∈hK++hA++[("give" : Str)]):mm w:=⟨(ol w hw).1,(ol w hw).2.1⟩
def xK(ah:∀ p∈ps,dC p.1 p.2):AG (br (ps.map (·.2))):=Ek λ x ai=>by obtain ⟨p,ep,rfl⟩:=hS.mp ai;exact sj (ah p ep)
def E4(hw:mm w){rest:List Nat}(ak:jf cA rest):bh cA [] (40::(w.cps.toList++rest))=("(" : Str)::w::bh cA [] rest:=by
 rw [gB (by decide),qJ ak _ _ hw.2 (by simpa using hw.1),<- fl];rfl
def ko(c:Nat)(am:c∈cA)(l:List Nat):jf cA (c::l):=.inr ⟨c,l,rfl,am⟩
def uQ(hw:mm w)(ah:∀ p∈ps,dC p.1 p.2/\p.1.aS<=b+10)(aA:ps≠[]->w≠"give"/\ji w≠some (ps.length:Int)):gf h b (40::(w.cps.toList++(cat (br (ps.map (·.2)))++[41]))):=by
 intro t st vs p ar;have a_:=xK λ p ep=>(ah p ep).1
 have e:bh cA [] (40::(w.cps.toList++(cat (br (ps.map (·.2)))++[41])))=("(" : Str)::w::(br (ps.map (·.2))++[(")" : Str)]):=by
  rw [E4 hw (uy _ (ko 41 (by decide) [])),a_ [41] (ko 41 (by decide) []),gB (by decide),<- fm];rfl
 rw [e,de,de,c_];refine .fG (E3 hw (xH (λ q aM=>pS (ah q aM).1 (by have:=(ah q aM).2;omega)) (k7 _) (.nk (λ e he=>?_) ?_)))
 ·simp only [h7,de,cB] at he;rcases he with rfl | he
  ·exact ⟨nq _,by simp [D.aS]⟩
  ·rcases A6 he with rfl | he
   ·exact ⟨nq _,by simp [D.aS]⟩
   ·obtain ⟨q,aM,rfl⟩:=hS.mp he;exact ⟨uN (ah q aM).1,by have:=(ah q aM).2;omega⟩
 ·have:=sJ (w:=w) (ds:=ps.map (·.1)) (r:=[]) λ aC e bu cX am=>by
   have hf:aC=[]:=by cases aC with
    | nil=>rfl
    | cons f aC=>simp [eC] at e
   subst hf;rw [eP] at cX am
   have mi:ps≠[]:=by rintro rfl;exact cX rfl
   obtain ⟨c3,b8⟩:=aA mi;rcases am with am | ⟨_,am⟩
   ·exact c3 am
   ·rw [cP] at am;exact b8 am
  rw [eP] at this;exact this
def Ze(hw:mm w)(ah:∀ p∈ps,dC p.1 p.2/\p.1.aS < b)(cX:ps≠[]):gf h b (40::(w.cps.toList++cat (br (ps.map (·.2))))):=by
 intro t st vs p ar;have a_:=xK λ p ep=>(ah p ep).1
 have hd:jf cA (cat (br (ps.map (·.2)))):=by
  cases ps with
  | nil=>exact absurd rfl cX
  | cons q bE=>rw [fh,br,cat,iA];exact ko 32 (by decide) _
 have NF:=a_ [] (.inl rfl);rw [eP] at NF
 have e:bh cA [] (40::(w.cps.toList++cat (br (ps.map (·.2)))))=("(" : Str)::w::br (ps.map (·.2)):=by
  rw [E4 hw hd,NF,bh,if_pos rfl,eP]
 rw [e,de,de];obtain ⟨a1,a2,ub,_,_⟩:=xI hw
 have af:st.length<=64:=by omega
 exact mj (e:=1) (.fG (by omega) (.c0 a1 a2 ub (by omega) (qT (λ q aM r ak g=>ot (ah q aM).1 (by have:=(ah q aM).2;omega) ak g) (by omega) (uO p) (Nz p)))) (by simp) (ml p) (.inr (by decide))
def Zf{pre post:List (D × List Str)}{s:List Nat}{c:D}(hw:w∈hK++hA++[("give" : Str)])(ax:gf (decide (w = "give")) c.aS s)(am:c.aS < b)(ae:∀ p∈pre,dC p.1 p.2/\p.1.aS < b)(ag:∀ p∈post,dC p.1 p.2/\p.1.aS < b)(ay:w≠"give"->ji w=some ((pre.length+1+post.length:Nat):Int)) :
 gf h b (40::(w.cps.toList++(cat (br (pre.map (·.2)))++32::(s++(cat (br (post.map (·.2)))++[41]))))):=by
 intro t st vs p ar;have Zg:=xK λ p ep=>(ae p ep).1;have Zh:=xK λ p ep=>(ag p ep).1
 have e:bh cA [] (40::(w.cps.toList++(cat (br (pre.map (·.2)))++32::(s++(cat (br (post.map (·.2)))++[41])))))=("(" : Str)::w::(br (pre.map (·.2))++(" " : Str)::(bh cA [] s++(br (post.map (·.2))++[(")" : Str)]))):=by
  rw [E4 (xJ hw) (uy _ (ko 32 (by decide) _)),Zg _ (ko 32 (by decide) _),gB (by decide),<- nd,qL (uy _ (ko 41 (by decide) [])),Zh _ (ko 41 (by decide) []),gB (by decide),<- fm];rfl
 rw [e];simp only [de,c_,h7];have lv:=ml p;refine .fG (Ny hw (xH (λ q aM=>pS (ae q aM).1 (by have:=(ae q aM).2;omega)) (A5 _) (qS (ax _ _ _ (.ka (ds:=pre.map (·.1)) lv (uO p) (ou p) (Nz p) ?_ ?_ ?_ ?_) ?_))))
 ·intro df
  have qV:w≠"give":=by simpa using df
  exact ⟨qV,by rw [cP];exact ay qV⟩
 ·intro d hd;obtain ⟨q,aM,rfl⟩:=hS.mp hd;obtain ⟨xs,ex⟩:=uz (ae q aM).1;exact ⟨uN (ae q aM).1,by rw [ex];rfl,by have:=(ae q aM).2;omega⟩
 ·omega
 ·exact λ q aM=>⟨(ag q aM).1,by have:=(ag q aM).2;omega⟩
 ·simp only [be];omega
def NG{p:Str}{c:Nat}(am:c∈p.cps.toList)(aA:¬ (c=45\/48<=c/\c<=57\/c=32\/c=58\/c=44\/c=126\/c=40\/c=41\/c=91\/c=93)):p ∉ (["[", "(", "]", ")"]:List Str)/\hh p=none:=by
 have k:∀ z∈(["[", "(", "]", ")", "~"]:List Str),∀ c∈z.cps.toList,c=126\/c=40\/c=41\/c=91\/c=93:=by trivial
 refine ⟨λ hm=>?_,?_⟩
 ·have:=k p (by simp at hm ⊢;rcases hm with hm | hm | hm | hm<;>simp [hm]) c am;omega
 ·unfold hh
  have ae:lH p=false:=by
   rw [yM];intro df;have:=Y1 df c am;omega
  have ag:p≠"~":=λ e=>by have:=k p (by simp [e]) c am;omega
  have aO:jd p=false:=by
   rw [yM];intro df;have:=(Ni df).1 c am;omega
  rw [if_neg (by rw [ae];decide),if_neg ag,if_neg (by rw [aO];decide)]
theorem A8{S:List Nat}:∀(l cur:List Nat),cur≠[]->∃ u r,bh S cur l=cK (cur++u)::r
 | [],cur,am=>⟨[],[],by rw [bh,if_neg am,eP]⟩
 | c::l,cur,am=>by
  rw [bh];split
  ·exact ⟨[],cK [c]::bh S [] l,by rw [eP];simp [am]⟩
  ·obtain ⟨u,r,e⟩:=A8 l (cur++[c]) (by simp);exact ⟨c::u,r,by rw [e];simp⟩
def NH{c:Nat}{l:List Nat}{t:List D}{st:List (List D)}(am:c=35\/c=10\/c=46\/97<=c/\c<=122):eD none (t::st) (bh d6 [] (c::l)):=by
 have dr:c ∉ d6:=by intro df;simp at df;omega
 rw [bh,if_neg dr];obtain ⟨u,r,e⟩:=A8 (S:=d6) l ([]++[c]) (by simp);rw [e];obtain ⟨ae,ag⟩:=NG (p:=cK ([]++[c]++u)) (c:=c) (by rw [dk];simp) (by omega);exact .EV ae ag
def Zi{k:D}{y:List Str}(aD:Tk k y):(∃ n:Int,y=[eB n])\/∃ u c,cat y=u++[c]/\c∈d6:=by
 cases aD with
 | is n _=>exact .inl ⟨n,rfl⟩
 | some=>exact .inr ⟨[],126,by rw [mb];rfl,by decide⟩
 | @left a x ay=>exact .inr ⟨40::(cat x++[44]),41,by rw [fl,iT,fm];simp [cat,dj,dk],by decide⟩
 | @right a x ay=>exact .inr ⟨40::44::cat x,41,by rw [fl,iT,fm];simp [cat,dj,dk],by decide⟩
 | @both a b x z _ _=>exact .inr ⟨40::(cat x++44::cat z),41,by rw [fl,iT,fm];simp [cat,dj,dk],by decide⟩
 | @way ps k y _ _ _=>exact .inr ⟨91::(cat (dB (" " : Str) (ps.map (·.2)))++58::cat y),93,by rw [pE,sf,pF];simp [cat,dj,dk],by decide⟩
def NI{k:D}{y:List Str}(aD:Tk k y)(eY:e2 k)(af:h3 9100 120 40 k){c:Nat}{l:List Nat}(am:c=35\/c=10):eD none [[]] (bh d6 [] (cat y++c::l)):=by
 rcases Zi aD with ⟨n,rfl⟩ | ⟨u,a,e,ay⟩
 ·obtain ⟨c3,b8⟩:=Ay n;rw [cat,cat,eP]
  have dr:∀(z cur:List Nat),(∀ c∈z,c ∉ d6)->bh d6 cur (z++c::l)=bh d6 (cur++z) (c::l):=by
   intro z
   induction z with
   | nil=>intro cur _;rw [eP];rfl
   | cons a z bN=>intro cur hz;rw [de,bh,if_neg (hz a (by simp)),bN _ (λ c am=>hz c (cO _ am))];simp
  rw [dr _ _ (λ c am df=>by have:=c3 c am;simp at df;omega),bh,if_neg (by intro df;simp at df;omega)];obtain ⟨u,r,e⟩:=A8 (S:=d6) l ([]++(eB n).cps.toList++[c]) (by simp);rw [e];obtain ⟨ae,ag⟩:=NG (p:=cK ([]++(eB n).cps.toList++[c]++u)) (c:=c) (by rw [dk];simp) (by omega);exact .EV ae ag
 ·have aE:bh d6 [] (cat y++c::l)=y++bh d6 [] (c::l):=by
   have ae:=aD.pieces;rw [e,qL (rest:=[a]) (.inr ⟨a,[],rfl,ay⟩),gB ay,bh,if_pos rfl] at ae;rw [e,c_,mD,qL (rest:=a::c::l) (.inr ⟨a,_,rfl,ay⟩),gB ay];rw [<- ae];simp
  rw [aE];exact Nn aD.lr eY.l9 (by have:=af.aS;omega) (NH (by omega))
def A9{l:List Nat}(ae:fO 0 l=some 0)(ag:eD none [[]] (bh d6 [] l)):gf h b (35::l):=by
 intro t st vs p ar;rw [gB (by decide),<- pH,de];exact .xF (EY (uO p) ae) (by rw [kg];exact ag)
def NJ{k:D}{y:List Str}(aD:Tk k y){l:List Nat}(h:fO 0 l=some 0):fO 0 (cat y++l)=some 0:=by rw [nf _ (AF aD 0)];exact h
def E5{w:Str}{es:List D}{d:D}(h:iU w es d)(k:D):d≠.tup [.str "name", k]:=by
 rintro rfl;have:=jF h
 cases h with
 | un p hw=>exact absurd hw (by trivial)
def Zj(ai:dC d x):gf h d.aS (cat x++[10]):=by
 have gen:(∃ u c,cat x=u++[c]/\c∈cA)->(∀ k,d≠.tup [.str "name", k])->gf h d.aS (cat x++[10]):=by
  rintro ⟨u,c,e,am⟩ E6 t st vs p ar
  have aE:bh cA [] (cat x++[10])=x++[cK [10]]:=by
   have ae:=xi ai;rw [e,qL (rest:=[c]) (ko c am []),gB am,bh,if_pos rfl] at ae;rw [e,c_,mD,qL (rest:=c::[10]) (ko c am _),gB am,<- ae,bh,if_neg (by decide)];simp [bh]
  rw [aE,c_]
  have ah:mm (cK [10]):=⟨by simp [cK],by rw [dk];decide⟩
  have cX:D.str (cK [10])≠.str " ":=by intro e;injection e with e;exact absurd e (by trivial)
  exact E1 ai (by omega) _ _ _ (.inr E6) (E3 ah (mj (ou p) (by simp) (qU (uP (ml p) ai ar) (by omega) _) (.inl (NB p d _ cX))))
 cases ai with
 | some=>exact gen ⟨[],126,by rw [mb];rfl,by decide⟩ (by intro k e;injection e with e;injection e with _ e;cases e)
 | whole=>exact gen ⟨[],46,by rw [uw];rfl,by decide⟩ (by intro k e;injection e with e;injection e with _ e;cases e)
 | @name k y ae ag aO _=>
  have e:cat (("#" : Str)::bh cA [] (cat y))++[10]=35::(cat y++[10]):=by rw [pH,cat,kg];rfl
  rw [e];exact A9 (NJ ae (by decide)) (NI ae ag aO (.inr rfl))
 | @node w ps _ aA ah=>exact gen ⟨40::(w.cps.toList++cat (br (ps.map (·.2)))),41,by rw [fl,fm];simp [cat,dj,dk],by decide⟩ (E5 aA)
end
end L3
namespace L3
open PySem L2
section
variable{h:Bool}{d:D}{x:List Str}{w:Str}{ps:List (D × List Str)}{b:Nat}
def Zk(k:D):D.tup [.str "some"]≠.tup [.str "name", k]:=by intro e;injection e with e;injection e with _ e;cases e
def Zl(k:D):D.tup [.str "whole"]≠.tup [.str "name", k]:=by intro e;injection e with e;injection e with _ e;cases e
def Zm(ai:dC d x):jf cA (cat x):=by
 cases ai with
 | some=>rw [mb];exact ko 126 (by decide) _
 | whole=>rw [uw];exact ko 46 (by decide) _
 | name=>rw [pH,cat,dk];exact ko 35 (by decide) _
 | node=>rw [fl,cat,dk];exact ko 40 (by decide) _
def Zn(ai:dC d x):gf h d.aS (cat x++cat x):=by
 have gen:(∀ k,d≠.tup [.str "name", k])->gf h d.aS (cat x++cat x):=by
  intro E6 t st vs p ar;rw [sj ai _ (Zm ai),xi ai,c_];refine E1 ai (by omega) _ _ _ (.inr E6) (pS ai (by omega) _ _ _ (uO p) (mj (ou p) (by simp) (uP (uP (ml p) ai ar) ai ar) (.inl (NB p d _ ?_))));obtain ⟨xs,rfl⟩:=uz ai;intro e;cases e
 cases ai with
 | some=>exact gen Zk
 | whole=>exact gen Zl
 | @name k y ae ag aO _=>
  have e:cat (("#" : Str)::bh cA [] (cat y))++cat (("#" : Str)::bh cA [] (cat y))=35::(cat y++35::cat y):=by rw [pH,cat,kg];rfl
  rw [e];refine A9 (NJ ae ?_) (NI ae ag aO (.inl rfl));rw [fO,show pG 0 35=some 0 by decide];exact AF ae 0
 | node aA _=>exact gen (E5 aA)
inductive Gc:Nat->List Nat->Nat->Prop
 | nil {j:Nat}:Gc j [] j
 | fG {j e:Nat} {l:List Nat}:j<=68->Gc (j+1) l e->Gc j (40::l) e
 | cls {j e:Nat} {l:List Nat}:Gc j l e->Gc (j+1) (41::l) e
 | c0 {j e c:Nat} {l:List Nat}:c≠40->c≠41->c≠35->j<=69->Gc j l e->Gc j (c::l) e
theorem NK{j e:Nat}(bw:j<=69):∀{z l:List Nat},(∀ c∈z,c≠40/\c≠41/\c≠35)->Gc j l e->Gc j (z++l) e
 | [],l,_,g=>g
 | c::z,l,hz,g=>by
  have:=hz c (by simp);exact .c0 this.1 this.2.1 this.2.2 bw (NK bw (λ a ay=>hz a (cO _ ay)) g)
def Zo{k:D}{y:List Str}(aD:Tk k y):∀{j e:Nat}{l:List Nat},k.aS+j<=68->Gc j l e->Gc j (cat y++l) e:=by
 induction aD with
 | is n _=>intro j e l bw g;rw [cat,cat,eP];exact NK (by omega) (λ c am=>by have:=(Ay n).1 c am;omega) g
 | some=>intro j e l bw g;rw [mb];exact .c0 (by decide) (by decide) (by decide) (by omega) g
 | @left a x _ bN=>
  intro j e l bw g;simp only [D.aS,cb] at bw;rw [show cat ("("::(x++[(",":Str),(")":Str)]))++l=40::(cat x++44::41::l) by rw [fl,iT,fm];simp [cat,dj,dk]];exact .fG (by omega) (bN (by omega) (.c0 (by decide) (by decide) (by decide) (by omega) (.cls g)))
 | @right a x _ bN=>
  intro j e l bw g;simp only [D.aS,cb] at bw;rw [show cat ("("::","::(x++[(")":Str)]))++l=40::44::(cat x++41::l) by rw [fl,iT,fm];simp [cat,dj,dk]];exact .fG (by omega) (.c0 (by decide) (by decide) (by decide) (by omega) (bN (by omega) (.cls g)))
 | @both a b x y _ _ ae ag=>
  intro j e l bw g;simp only [D.aS,cb] at bw;rw [show cat ("("::(x++("," : Str)::(y++[(")":Str)])))++l=40::(cat x++44::(cat y++41::l)) by rw [fl,iT,fm];simp [cat,dj,dk]];exact .fG (by omega) (ae (by omega) (.c0 (by decide) (by decide) (by decide) (by omega) (ag (by omega) (.cls g))))
 | @way ps k y _ _ _ ae ag=>
  intro j e l bw g;simp only [D.aS,cb] at bw;rw [show cat ("["::(dB (" " : Str) (ps.map (·.2))++(":" : Str)::(y++[("]":Str)])))++l=91::(cat (dB (" " : Str) (ps.map (·.2)))++58::(cat y++93::l)) by rw [pE,sf,pF];simp [cat,dj,dk]]
  have af:∀(bE:List (D × List Str)),(∀ q∈bE,q∈ps)->∀{l:List Nat},Gc j l e->Gc j (cat (dB (" " : Str) (bE.map (·.2)))++l) e:=by
   intro bE
   induction bE with
   | nil=>intro _ l g;exact g
   | cons q bE EX=>
    intro aM l g
    have hm:∀ q∈ps,q.1.aS+j<=68:=λ q aM=>by have:=t9 (h8 (f:=(·.1)) aM);omega
    cases bE with
    | nil=>exact ae q (aM q (by simp)) (hm q (aM q (by simp))) g
    | cons bl bE=>
     rw [show cat (dB (" " : Str) ((q::bl::bE).map (·.2)))++l=cat q.2++32::(cat (dB (" " : Str) ((bl::bE).map (·.2)))++l) by simp [dB,dj,cat,iA]];exact ae q (aM q (by simp)) (hm q (aM q (by simp))) (.c0 (by decide) (by decide) (by decide) (by omega) (EX (λ z hz=>aM z (cO _ hz)) g))
  exact .c0 (by decide) (by decide) (by decide) (by omega) (af ps (λ _ h=>h) (.c0 (by decide) (by decide) (by decide) (by omega) (ag (by omega) (.c0 (by decide) (by decide) (by decide) (by omega) g))))
def A_{j e:Nat}{cur:List Nat}(am:∀ c∈cur,c ∉ cA)(bw:j<=69){r:List Str}(g:fg j r e):fg j ((if cur=[] then [] else [cK cur])++r) e:=by
 split
 ·exact g
 ·next cX=>
  obtain ⟨a,b,c,_,_⟩:=xI (w:=cK cur) ⟨cX,am⟩;exact .c0 a b c bw g
def NL:∀ c∈cA,c≠40->c≠41->c≠35->cK [c]≠"("/\cK [c]≠")"/\cK [c]≠"#":=by trivial
def E7{j e:Nat}{l:List Nat}(g:Gc j l e):∀{cur:List Nat},(∀ c∈cur,c ∉ cA)->j<=69->∀{r:List Str}{aP:Nat},fg e r aP->fg j (bh cA cur l++r) aP:=by
 induction g with
 | nil=>intro cur am bw r aP g;rw [bh];exact A_ am bw g
 | fG ae _ bN=>
  intro cur am bw r aP g;rw [bh,if_pos (by decide),c_,de,<- fl];exact A_ am bw (.fG ae (bN (by simp) (by omega) g))
 | cls _ bN=>
  intro cur am bw r aP g;rw [bh,if_pos (by decide),c_,de,<- fm];exact A_ am bw (.cls (bN (by simp) (by omega) g))
 | @c0 j e c l ae ag aO bX _ bN=>
  intro cur am bw r aP g;rw [bh];split
  ·next ax=>
   obtain ⟨a,b,d⟩:=NL c ax ae ag aO;rw [c_,de];exact A_ am bw (.c0 a b d bX (bN (by simp) bw g))
  ·next ax=>exact bN (λ a ay=>by rcases fH.mp ay with ay | ay;exact am a ay;simp at ay;subst ay;exact ax) bw g
def Zp{S:List Nat}(c:Nat)(l:List Nat):∃ u r,bh S [] (c::l)=cK (c::u)::r:=by
 rw [bh];split
 ·exact ⟨[],_,rfl⟩
 ·obtain ⟨u,r,e⟩:=A8 (S:=S) l ([]++[c]) (by simp);exact ⟨u,r,by rw [e];rfl⟩
def qW:List Nat:=[44,58,59,91,93,123,125,48,97,45,43]
def Zq{c:Nat}(am:c∈qW)(u:List Nat):cK (c::u)≠"("/\cK (c::u)≠")"/\cK (c::u)≠"#"/\cK (c::u)≠"."/\cK (c::u)≠"~":=by
 have k:∀ z∈(["(", ")", "#", ".", "~"]:List Str),∀ a∈z.cps.toList.head?,a ∉ qW:=by trivial
 have g:∀ z∈(["(", ")", "#", ".", "~"]:List Str),cK (c::u)≠z:=λ z hz e=>k z hz c (by rw [<- e,dk];rfl) am;exact ⟨g _ (by simp),g _ (by simp),g _ (by simp),g _ (by simp),g _ (by simp)⟩
def Ba{c e:Nat}{l:List Nat}{t:List D}{st:List (List D)}{vs:List Str}(am:c∈qW)(p:Pos h t st vs)(ar:st.length<=64)(g:fg st.length (bh cA [] (c::l)++vs) e):d_ none (t::st) (bh cA [] (c::l)++vs):=by
 obtain ⟨u,r,e⟩:=Zp (S:=cA) c l;rw [e,de] at g ⊢;obtain ⟨a1,a2,ub,Zr,DU⟩:=Zq am u;refine .c0 a1 a2 ub ?_;rw [A4 Zr DU];have lv:=qU (ml p) ar (cK (c::u));have pQ:=A7 p (cK (c::u));generalize cK (c::u)=z at *;generalize bw:st.length=j at g;generalize r++vs=q at g ⊢
 cases g with
 | fG=>exact absurd rfl a1
 | cls=>exact absurd rfl a2
 | uM=>exact absurd rfl a2
 | c0 _ _ _ _ g=>exact mj g (by simp [bw]) lv (.inl pQ)
 | pR=>exact absurd rfl ub
def Zs(ai:dC d x){c:Nat}(am:c∈qW):gf h d.aS (c::(cat x).tail):=by
 intro t st vs p ar
 have mn:c≠40/\c≠41/\c≠35:=⟨λ e=>by subst e;exact absurd am (by decide),λ e=>by subst e;exact absurd am (by decide),λ e=>by subst e;exact absurd am (by decide)⟩
 cases ai with
 | some=>rw [mb];exact Ba am p (by omega) (E7 (Gc.c0 mn.1 mn.2.1 mn.2.2 (by omega) .nil) (by simp) (by omega) (ou p))
 | whole=>rw [uw];exact Ba am p (by omega) (E7 (Gc.c0 mn.1 mn.2.1 mn.2.2 (by omega) .nil) (by simp) (by omega) (ou p))
 | @name k y ae ag aO _=>
  simp only [D.aS,cb] at ar
  have e:(cat (("#" : Str)::bh cA [] (cat y))).tail=cat y++[]:=by rw [pH,cat,kg];simp [dk]
  rw [e];exact Ba am p (by omega) (E7 (Gc.c0 mn.1 mn.2.1 mn.2.2 (by omega) (Zo ae (by omega) .nil)) (by simp) (by omega) (ou p))
 | @node w ps _ aA ah=>
  have kn:∀ q∈ps,q.1.aS < d.aS:=λ q aM=>mc aA (h8 aM)
  have e:(cat (("(" : Str)::w::(br (ps.map (·.2))++[(")" : Str)]))).tail=w.cps.toList++(cat (br (ps.map (·.2)))++[41]):=by rw [fl,fm];simp [cat,dj,dk]
  rw [e];have hw:=xJ (jF aA);have ak:jf cA (cat (br (ps.map (·.2)))++[41]):=uy _ (ko 41 (by decide) [])
  have dT:bh cA [] (cat (br (ps.map (·.2)))++[41])=br (ps.map (·.2))++[(")" : Str)]:=by rw [xK ah [41] (ko 41 (by decide) []),gB (by decide),<- fm];rfl
  have gd:fg st.length ((")" : Str)::vs) 1:=by
   have:=ou p
   cases ax:st.length with
   | zero=>exact .uM
   | succ j=>rw [ax] at this;exact .cls (NE this)
  have g1:fg st.length (br (ps.map (·.2))++(")" : Str)::vs) 1:=qT (λ q aM r ak g=>ot (ah q aM) (by have:=kn q aM;omega) ak g) (by omega) (k7 _) gd;refine Ba (e:=1) am p (by omega) ?_;by_cases dr:c∈cA
  ·rw [gB dr,qJ ak _ _ hw.2 (by simpa using hw.1),dT,de,de,c_];obtain ⟨a,b,f⟩:=NL c dr mn.1 mn.2.1 mn.2.2;obtain ⟨a1,dx,f1,_,_⟩:=xI hw;exact .c0 a b f (by omega) (.c0 a1 dx f1 (by omega) g1)
  ·rw [bh,if_neg dr,qJ ak _ _ hw.2 (by simp),dT,de];obtain ⟨a1,dx,f1,_,_⟩:=xI (w:=cK ([]++[c]++w.cps.toList)) ⟨by simp [cK],λ a ay=>by rw [dk] at ay;simp at ay;rcases ay with rfl | ay;exact dr;exact hw.2 a (by simpa using ay)⟩;exact .c0 a1 dx f1 (by omega) (by rw [c_];exact g1)
end
end L3
namespace L3
open PySem L2
def NM(c:List D):Bool:=c.all λ d=>d.data&&decide (d.aS<=140)
def xL{c:List D}(h:NM c=true):iW c:=λ d hd=>by
 have:=kA.mp h d hd;rw [eI,decide_eq_true_iff] at this;exact this
def E8(d:D):Bool:=uq d&&(w_ d).isEmpty&&decide (dc d<=49000)&&decide (d.aS<=150)&&decide (kf d<=63)&&(match d with
 | .tup [.str a,x,_]=>(a=="way"&&(match x with
  | .tup ds=>!hy ds
  | _=>false))||(a=="both"&&!iP x)
 | _=>false)
def Zt{d:D}(h:E8 d=true):¬ e2 d/\(∀ r,eO r d)/\h3 49000 150 63 d:=by
 unfold E8 at h;simp only [eI,decide_eq_true_iff] at h;obtain ⟨⟨⟨⟨⟨ae,ag⟩,aO⟩,bX⟩,d0⟩,hZ⟩:=h;refine ⟨λ k=>?_,λ r=>eO.of d ae λ a ay=>(by rw [List.isEmpty_iff.mp ag] at ay;cases ay),aO,bX,d0⟩
 cases k with
 | is=>cases hZ
 | some=>cases hZ
 | left=>cases hZ
 | right=>cases hZ
 | both _ _ o _=>simp [o] at hZ;exact absurd hZ.1 (by trivial)
 | way _ o _=>simp [o] at hZ;exact absurd hZ.1 (by trivial)
def sL:List (List D)->List Str->Bool
 | st,[]=>match st with
  | [t]=>t.length !=1||t.all E8
  | _=>true
 | st,p::r=>if p = "["\/p = "(" then sL ([.str p]::st) r else if p = "]"\/p = ")" then (match st with
  | (.str b::row)::t::s=>NM (.str b::row)&&(match gO (.str b::row) p with
   | some k=>sL ((t++[k])::s) r
   | none=>true)
  | [_]=>true
  | _=>false) else match st with
  | t::s=>(match hh p with
   | some d=>sL ((t++[d])::s) r
   | none=>true)
  | []=>false
theorem sM:∀(ps:List Str)(st:List (List D)),sL st ps=true->eD none st ps
 | [],st,h=>by
  match st,h with
  | [],_=>exact .ET (by decide)
  | [t],h=>
   by_cases e:t.length=1
   ·match t,e with
    | [d],_=>
     obtain ⟨ae,ag,aO⟩:=Zt (d:=d) (by simpa [sL] using h);exact .Nl ae ag aO
   ·exact .EU e
  | a::b::s,_=>exact .ET (by simp)
 | p::r,st,h=>by
  rw [sL.eq_def] at h;simp only at h;split at h
  ·next ae=>exact .fG ae (sM r _ h)
  ·next ae=>
   split at h
   ·next ag=>
    split at h
    ·next b row t s=>
     simp only [eI] at h;obtain ⟨ay,af⟩:=h
     cases aD:gO (.str b::row) p with
     | none=>exact .nk ag (xL ay) aD
     | some k=>rw [aD] at af;exact .cls ag (xL ay) aD (sM r _ af)
    ·exact .xE ag
    ·cases h
   ·next ag=>
    have aA:p ∉ (["[", "(", "]", ")"]:List Str):=λ m=>by
     simp at m;rcases m with m | m | m | m
     ·exact ae (.inl m)
     ·exact ae (.inr m)
     ·exact ag (.inl m)
     ·exact ag (.inr m)
    match st,h with
    | t::s,h=>
     simp only at h
     cases aD:hh p with
     | none=>exact .EV aA aD
     | some k=>rw [aD] at h;exact .c0 aA aD (sM r _ h)
    | [],h=>cases h
def NN:List Str:=["", "+5", "05", "-0", "1_0", "1000000000000", "(5)", "(,5,)", "[5]", "[5:]", "a", "[ 5:5]", "[5  5:5]", "[5 :5]", "(5, 5)", "5,5", "~~", "[5,4:5]", "(,)", "[:]", "(5,5,5)", "[5 4:5]", "[~ 5:5]", "[10 9:5]", "([:5],5)", "((5,),5)"]
def Zu:∀ z∈NN,fO 0 z.cps.toList=some 0/\sL [[]] (bh d6 [] z.cps.toList)=true:=by trivial
def jk(n:Int):D:=.tup [.str "is", .int n]
def Zv{p:Str}{n:Int}(ae:lH p=false)(ag:p≠"~")(aO:jd p=true)(bX:om p=n):hh p=some (jk n):=by
 unfold hh jk;rw [if_neg (by rw [ae];decide),if_neg ag,if_pos aO,bX]
def E9:hh "5" = some (jk 5):=Zv (by trivial) (by trivial) (by trivial) (by trivial)
def Zw:hh "~" = some (.tup [.str "some"]):=by unfold hh;rw [if_neg (by trivial),if_pos rfl]
def Zx(r:Addr->Prop)(n:Int):eO r (jk n):=.tup λ d hd=>by simp at hd;rcases hd with rfl | rfl;exact .str _;exact .int _
def Zy(r:Addr->Prop):eO r (.tup [.str "some"]):=.tup λ d hd=>by simp at hd;subst hd;exact .str _
def NO{r:Addr->Prop}{z:Str}{a:D}(h:eO r a):eO r (.tup [.str z,a]):=.tup λ d hd=>by simp at hd;rcases hd with rfl | rfl;exact .str _;exact h
def NP{r:Addr->Prop}{z:Str}{a b:D}(h:eO r a)(g:eO r b):eO r (.tup [.str z,a,b]):=.tup λ d hd=>by simp at hd;rcases hd with rfl | rfl | rfl;exact .str _;exact h;exact g
section
variable{h:Bool}{b:Nat}
def Zz:Tk (jk 5) [eB 5]:=.is 5 (by decide)
def E_:eB 5 = "5":=by trivial
def NQ:dC (.tup [.str "name", jk 5]) (("#" : Str)::bh cA [] (cat [eB 5])):=.name Zz (.is 5) ⟨by trivial,by trivial,by trivial⟩ (by rw [E_];decide +kernel)
theorem Bb:∀(e:Int)(ps:List Str),e7 e ps<=ps.length
 | _,[]=>b4 _
 | e,p::r=>by
  rw [e7,be];have ae:=Bb (e+1) r;have ag:=Bb (e - 1) r;have aO:=Bb e r;split
  ·omega
  ·split
   ·omega
   ·split<;>omega
def sN{e:Int}(he:0 < e)(p:Str)(r:List Str)(ah:p≠"("/\p≠"["/\p≠")"/\p≠"]"):e7 e (p::r)=e7 e r+1:=by
 rw [e7,if_neg (λ z=>z.1 he),if_neg (by rintro (e | e);exact ah.1 e;exact ah.2.1 e),if_neg (by rintro (e | e);exact ah.2.2.1 e;exact ah.2.2.2 e)]
def Fa{p:Str}{c:Nat}{u:List Nat}(ah:p.cps.toList=c::u)(y:List Str)(am:c=35\/c=10\/c=46\/97<=c/\c<=122){t:List D}{st:List (List D)}:eD none (t::st) (bh d6 [] (cat (p::y))):=by
 rw [cat,ah,de];exact NH am
def ZA:∀ w∈hK++hA++[("give" : Str)],(∃ c u,w.cps.toList=c::u/\97<=c/\c<=122)/\w≠"("/\w≠"["/\w≠")"/\w≠"]":=by
 have k:∀ w∈hK++hA++[("give" : Str)],(97<=w.cps.toList.headD 0/\w.cps.toList.headD 0<=122)/\w≠"("/\w≠"["/\w≠")"/\w≠"]":=by trivial
 intro w hw;obtain ⟨ae,ag⟩:=k w hw;refine ⟨?_,ag⟩
 cases e:w.cps.toList with
 | nil=>rw [e] at ae;simp at ae
 | cons c u=>rw [e] at ae;exact ⟨c,u,rfl,ae⟩
theorem NR:∀(bE:List (D × List Str))(b0:Str)(row:List D)(vs:List Str),bE≠[]->(∀ q∈bE,dC q.1 q.2)->iB vs->iW (.str b0::row)->(∀ r,2<=r.length->gO (.str b0::(row++r)) ")" = none)->eD none [.str b0::row,[]] (bh d6 [] (cat ((br (bE.map (·.2))++(")" : Str)::vs).take (e7 1 (br (bE.map (·.2))++(")" : Str)::vs)))))
 | [],_,_,_,cX,_,_,_,_=>absurd rfl cX
 | q::bE,b0,row,vs,_,aM,bJ,am,aD=>by
  rw [show br ((q::bE).map (·.2))++(")" : Str)::vs=(" " : Str)::(q.2++(br (bE.map (·.2))++(")" : Str)::vs)) by simp [br]];rw [sN (by decide) _ _ (by trivial),ru,cat,iA,mD,gB (by decide),<- nd];refine pP (by trivial) ?_;have ai:=aM q (by simp);generalize he:q.2=x at ai;generalize hd:q.1=d at ai;generalize ak:br (bE.map (·.2))++(")" : Str)::vs=ps
  cases ai with
  | some=>
   rw [mD,sN (by decide) _ _ (by trivial),ru,cat,show (("~" : Str)).cps.toList=[126] by trivial,mD,gB (by decide),<- mb];refine .c0 (by trivial) Zw ?_
   have iK:iW (.str b0::(row++[.str " "]++[.tup [.str "some"]])):=λ d hd=>by
    rw [<- de,<- de] at hd;rcases fH.mp hd with hd | hd
    ·rcases fH.mp hd with hd | hd
     ·exact am d hd
     ·simp at hd;subst hd;exact oq _
    ·simp at hd;subst hd;exact ⟨rfl,by decide⟩
   cases bE with
   | nil=>
    rw [<- ak]
    have aE:e7 1 (br (([]:List (D × List Str)).map (·.2))++(")" : Str)::vs)=1:=by
     show e7 1 ((")" : Str)::vs)=1;rw [e7,if_neg (by decide),if_neg (by trivial),if_pos (by trivial),show (1:Int) - 1=0 by decide,A2 bJ]
    rw [aE,show bh d6 [] (cat ((br (([]:List (D × List Str)).map (·.2))++(")" : Str)::vs).take 1))=([")"]:List Str) by show bh d6 [] (cat [(")" : Str)])=_;decide +kernel];exact .nk (row:=row++[.str " "]++[.tup [.str "some"]]) (.inr rfl) iK (by rw [c_];exact aD _ (by simp))
   | cons bl bE=>
    rw [<- ak];exact NR (bl::bE) b0 (row++[.str " "]++[.tup [.str "some"]]) vs (by simp) (λ z hz=>aM z (cO _ hz)) bJ iK λ r ag=>by rw [c_,c_];exact aD _ (by simp)
  | whole=>
   rw [mD,sN (by decide) _ _ (by trivial),ru];exact Fa (c:=46) (u:=[]) (by trivial) _ (by decide)
  | name=>
   simp only [de];rw [sN (by decide) _ _ (by trivial),ru];exact Fa (c:=35) (u:=[]) (by trivial) _ (by decide)
  | @node w nr d aA _=>
   obtain ⟨⟨c,u,hw,ZC⟩,ZD⟩:=ZA w (jF aA);simp only [de];rw [e7,if_neg (by decide),if_pos (by trivial),ru,sN (by decide) _ _ ZD,ru,cat,show (("(" : Str)).cps.toList=[40] by trivial,mD,gB (by decide),<- fl];exact .fG (.inr rfl) (Fa hw _ (.inr (.inr (.inr ZC))))
end
end L3
namespace L3
open PySem L2
section
variable{h:Bool}{d:D}{x:List Str}{w:Str}{b:Nat}
def Fb{o m:Str}(aR:o = "("\/o = "[")(hm:m≠"("/\m≠"["/\m≠")"/\m≠"]")(ps:List Str):e7 0 (o::m::ps)=e7 1 ps+2:=by
 have no:¬ (o = " "\/o = ")"):=by rcases aR with rfl | rfl<;>decide +kernel
 rw [e7,if_neg (λ z=>no z.2),if_pos aR,show (0:Int)+1=1 by decide,sN (by decide) _ _ hm]
def NS{o m b0:Str}{row:List D}(aR:o = "("\/o = "[")(hm:m≠"("/\m≠"["/\m≠")"/\m≠"]")(am:iW (.str b0::row))(aD:∀ r,2<=r.length->gO (.str b0::(row++r)) ")" = none)
 (ax:∀ l,jf d6 l->eD none [.str b0::row,[]] (bh d6 [] l)->eD none [[]] (bh d6 [] (o.cps.toList++(m.cps.toList++l)))) {t:List D} {st:List (List D)} {q:D × List Str} {bE:List (D × List Str)} {vs:List Str} (aM:∀ z∈q::bE,dC z.1 z.2) (bJ:iB vs) :
 d_ none (t::st) (("#" : Str)::o::m::(br ((q::bE).map (·.2))++(")" : Str)::vs)):=by
 have sw:=NR (q::bE) b0 row vs (by simp) aM bJ am aD
 have df:jf d6 (cat ((br ((q::bE).map (·.2))++(")" : Str)::vs).take (e7 1 (br ((q::bE).map (·.2))++(")" : Str)::vs)))):=by
  rw [show br ((q::bE).map (·.2))++(")" : Str)::vs=(" " : Str)::(q.2++(br (bE.map (·.2))++(")" : Str)::vs)) by simp [br],sN (by decide) _ _ (by trivial),ru,cat,iA];exact .inr ⟨32,_,rfl,by decide⟩
 generalize br ((q::bE).map (·.2))++(")" : Str)::vs=ps at sw df;have hle:=Bb 1 ps
 have e:o::m::ps=(o::m::ps.take (e7 1 ps))++ps.drop (e7 1 ps):=by simp
 rw [e];refine .xF ?_ (ax _ df sw);rw [<- e,Fb aR hm];simp only [be,lb];omega
def ZE(l:List Nat):bh d6 [] ((("(" : Str)).cps.toList++((("5," : Str)).cps.toList++l))=("(" : Str)::("5" : Str)::("," : Str)::bh d6 [] l:=by
 rw [show (("(" : Str)).cps.toList=[40] by trivial,show (("5," : Str)).cps.toList=[53,44] by trivial,mD,gB (by decide)];show _::bh d6 [] (53::44::l)=_;rw [bh,if_neg (by decide),bh,if_pos (by decide),<- fl,<- iT];rfl
def ZF{l:List Nat}(ar:jf d6 l):bh d6 [] ((("[" : Str)).cps.toList++(((":5" : Str)).cps.toList++l))=("[" : Str)::(":" : Str)::("5" : Str)::bh d6 [] l:=by
 rw [show (("[" : Str)).cps.toList=[91] by trivial,show ((":5" : Str)).cps.toList=[58,53] by trivial,mD,gB (by decide)];show _::bh d6 [] (58::53::l)=_;rw [gB (by decide),show 53::l=[53]++l from rfl,qJ ar [53] [] (by decide) (by decide),<- pE,<- sf];rfl
def ZG:gf h b [35,40,53,44]:=by
 intro t st vs p ar;rw [show bh cA [] [35,40,53,44]=(["#", "(", "5,"]:List Str) by trivial];show d_ none (t::st) (("#" : Str)::("(" : Str)::("5," : Str)::vs)
 cases p with
 | root=>exact .xF (y:=["(", "5,"]) (r:=[]) (by trivial) (sM _ _ (by trivial))
 | @ka _ w ds bE t st vs lv he g1 g2 ay hd ax aM=>
  have ND:=ml (Pos.ka lv he g1 g2 ay hd ax aM)
  cases bE with
  | nil=>
   show d_ none _ (("#" : Str)::(([("(" : Str),("5," : Str),(")" : Str)]:List Str)++vs));refine .pR (k:=.tup [.str "left", jk 5]) ?_ ?_ (mj g2 (by simp) (ND.app ⟨(Nw (.left (.is 5))).1,?_⟩) (.inr (by decide)))
   ·show e7 0 (("(" : Str)::("5," : Str)::(")" : Str)::vs)=3;rw [Fb (.inl rfl) (by trivial),e7,if_neg (by decide),if_neg (by trivial),if_pos (by trivial),show (1:Int) - 1=0 by decide,A2 he]
   ·rw [show bh d6 [] (cat ([("(" : Str),("5," : Str),(")" : Str)]:List Str))=(["(", "5", ",", ")"]:List Str) by trivial];exact .fG (.inr rfl) (.c0 (by trivial) E9 (pP (by trivial) (.cls (k:=.tup [.str "left", jk 5]) (.inr rfl) (xL (by trivial)) rfl (.fin (.left (.is 5)) ⟨by trivial,by trivial,by trivial⟩))))
   ·have:(D.tup [.str "name", .tup [.str "left", jk 5]]).aS=3:=by trivial
    rw [this];simp only [be];omega
  | cons q bE=>
   refine NS (b0:="(") (row:=[jk 5,.str ","]) (.inl rfl) (by trivial) (xL (by trivial)) (λ r ak=>?_) (λ l ar k=>?_) (λ z hz=>(aM z hz).1) he
   ·show gO (.str "("::([jk 5,.str ","]++r)) ")" = none;simp only [gO];rw [if_neg (by trivial),if_pos (by trivial)]
    match r,ak with
    | [a,b],_=>rfl
    | a::b::c::r,_=>rfl
   ·rw [ZE];exact .fG (.inr rfl) (.c0 (by trivial) E9 (pP (by trivial) k))
def ZH:gf h b [35,91,58,53]:=by
 intro t st vs p ar;rw [show bh cA [] [35,91,58,53]=(["#", "[", ":5"]:List Str) by trivial];show d_ none (t::st) (("#" : Str)::("[" : Str)::(":5" : Str)::vs)
 cases p with
 | root=>exact .xF (y:=["[", ":5"]) (r:=[]) (by trivial) (sM _ _ (by trivial))
 | @ka _ w ds bE t st vs lv he g1 g2 ay hd ax aM=>
  cases bE with
  | nil=>
   show d_ none _ (("#" : Str)::(([("[" : Str),(":5" : Str),(")" : Str)]:List Str)++vs));refine .xF ?_ (sM _ _ (by trivial));show e7 0 (("[" : Str)::(":5" : Str)::(")" : Str)::vs)=3;rw [Fb (.inr rfl) (by trivial),e7,if_neg (by decide),if_neg (by trivial),if_pos (by trivial),show (1:Int) - 1=0 by decide,A2 he]
  | cons q bE=>
   refine NS (b0:="[") (row:=[.str ":", jk 5]) (.inr rfl) (by trivial) (xL (by trivial)) (λ r ak=>?_) (λ l ar k=>?_) (λ z hz=>(aM z hz).1) he
   ·show gO (.str "["::([.str ":", jk 5]++r)) ")" = none;simp only [gO];rw [if_neg (by trivial),if_neg (by trivial)]
   ·rw [ZF ar];exact .fG (.inl rfl) (pP (by trivial) (.c0 (by trivial) E9 k))
def qX:List Str:=["", "5 ", "+5", "05", "-0", "1_0", "1000000000000", "(5)", "(5,", "(,5,)", "[5]", "[5:]", "[:5", "a", "[ 5:5]", "[5  5:5]", "[5 :5]", "[5 4:5]", "[~ 5:5]", "(5, 5)", "([:5],5)", "((5,),5)", "5,5", "~~", "[5,4:5]", "(,)", "[:]", "[10 9:5]", "(5,5,5)"]
def ZI:∀ z∈qX,z∈NN\/z = "5 "\/z = "(5,"\/z = "[:5":=by trivial
def ZJ{z:Str}(hz:z∈qX)(af:2<=b):gf h b (35::z.cps.toList):=by
 rcases ZI z hz with hz | rfl | rfl | rfl
 ·obtain ⟨ae,ag⟩:=Zu z hz;exact A9 ae (sM _ _ ag)
 ·intro t st vs p ar
  have e:35::("5 " : Str).cps.toList=cat (("#" : Str)::bh cA [] (cat [eB 5]))++[32]:=by rw [E_];decide +kernel
  rw [e]
  have:(D.tup [.str "name", jk 5]).aS=2:=by trivial
  exact NC NQ t st vs p (by rw [this];omega)
 ·exact ZG
 ·exact ZH
def NT(hw:mm w):gf h b w.cps.toList:=by
 intro t st vs p ar
 have e:bh cA [] w.cps.toList=[w]:=by
  have:=qJ (S:=cA) (rest:=[]) (.inl rfl) w.cps.toList [] hw.2 (by simpa using hw.1);rw [eP,h7,bh,if_pos rfl] at this;exact this
 rw [e];exact E3 hw (mj (ou p) (by simp) (qU (ml p) (by omega) _) (.inl (A7 p _)))
def qY:List Str:=["(some)", "(whole)", "(name #5)", "some", "()", "( )", "(give)", "(left)", "(both)", "5", "#", "(whole .)"]
def NU{z:Str}(ae:z.cps.toList.isEmpty=false)(ag:(z.cps.toList.all λ c=>decide (c ∉ cA))=true):mm z:=⟨(by intro e;rw [e] at ae;cases ae),λ c am=>of_decide_eq_true (kA.mp ag c am)⟩
def xM(hw:mm w){z:Str}(e:z.cps.toList=40::(w.cps.toList++[41])):gf h b z.cps.toList:=by
 rw [e];have:=uQ (h:=h) (b:=b) (ps:=[]) hw (by simp) (λ n=>absurd rfl n);exact this
def ZK{z:Str}(hz:z∈qY)(af:1<=b):gf h b z.cps.toList:=by
 have nu:∀ w∈(["some", "whole", "give", "left", "both", "5", "name"]:List Str),mm w:=λ w hw=>by
  have k:∀ w∈(["some", "whole", "give", "left", "both", "5", "name"]:List Str),w.cps.toList.isEmpty=false/\(w.cps.toList.all λ c=>decide (c ∉ cA))=true:=by trivial
  exact NU (k w hw).1 (k w hw).2
 simp only [qY,cB,fR,or_false] at hz;rcases hz with rfl | rfl | rfl | rfl | rfl | rfl | rfl | rfl | rfl | rfl | rfl | rfl
 ·exact xM (nu "some" (by simp)) (by trivial)
 ·exact xM (nu "whole" (by simp)) (by trivial)
 ·have e:("(name #5)" : Str).cps.toList=40::(("name" : Str).cps.toList++(cat (br ([(D.tup [.str "name", jk 5],("#" : Str)::bh cA [] (cat [eB 5]))].map (·.2)))++[41])):=by rw [E_];decide +kernel
  rw [e];refine uQ (nu "name" (by simp)) (λ p ah=>?_) (λ _=>⟨by trivial,by trivial⟩);simp at ah;subst ah
  have:(D.tup [.str "name", jk 5]).aS=2:=by trivial
  exact ⟨NQ,by show (D.tup [.str "name", jk 5]).aS<=_;rw [this];omega⟩
 ·exact NT (nu "some" (by simp))
 ·intro t st vs p ar;rw [show bh cA [] ("()" : Str).cps.toList=(["(", ")"]:List Str) by trivial];exact .fG (.nk (by simp) rfl)
 ·intro t st vs p ar;rw [show bh cA [] ("( )" : Str).cps.toList=(["(", " ", ")"]:List Str) by trivial];exact .fG (qS (.nk (λ d hd=>by simp at hd;subst hd;exact ⟨nq _,by simp [D.aS]⟩) rfl))
 ·exact xM (nu "give" (by simp)) (by trivial)
 ·exact xM (nu "left" (by simp)) (by trivial)
 ·exact xM (nu "both" (by simp)) (by trivial)
 ·exact NT (nu "5" (by simp))
 ·exact A9 (l:=[]) rfl (.EU (by decide))
 ·have e:("(whole .)" : Str).cps.toList=40::(("whole" : Str).cps.toList++(cat (br ([(D.tup [.str "whole"],[("." : Str)])].map (·.2)))++[41])):=by trivial
  rw [e];refine uQ (nu "whole" (by simp)) (λ p ah=>?_) (λ _=>⟨by trivial,by trivial⟩);simp at ah;subst ah;exact ⟨.whole,hT (show (D.tup [.str "whole"]).aS<=1 by trivial) (by omega)⟩
end
end L3
namespace L3
open PySem PySem.Spec PyProof.Rows L2
def ZL{P:cS}{w:b_}{K:aV}{mg:Str->Option Value}{base:bO}{k:Nat}{x:Str}{ps:List Str}{fE:k4}{sp:fe}(g:iE P w K mg base k x ps (gD K fE))(h:∀ ds G Q,sp ds G Q->fE ds G Q (λ _ _ _=>False)):Got P w K mg base k x ps (bB K sp):=by
 obtain ⟨f,fd,F,m,c2,b⟩:=g.ex;refine ⟨f,fd,⟨λ vs H Q E ⟨ds,G,az,a,v,s,Fc⟩=>F.len vs H Q (λ _ _ _=>False) ⟨ds,G,az,_,a,v,h _ _ _ s,Fc,λ _ _ _ _ _ _ _ _ _ _ ai=>ai.elim⟩,λ A outer s H args us vs Q E ak he af bJ ⟨ds,G,az,a,v,ZM,Fc⟩=>s_ (F.run A outer s H args us vs Q (λ _ _ _=>False) ak he af bJ ⟨ds,G,az,_,a,v,h _ _ _ ZM,Fc,λ _ _ _ _ _ _ _ _ _ _ ai=>ai.elim⟩) λ r aQ aM=>?_⟩,m,c2,b⟩
 cases r with
 | ok u=>cases u<;>exact aM
 | error e=>obtain ⟨_,_,_,_,_,_,_,_,z⟩:=aM;exact z.elim
end L3
namespace L3
open PySem L2
theorem NV{p:Str}:∀{x:List Str},p∈x->p.length<=(cat x).length
 | [],h=>by cases h
 | z::x,h=>by
  rw [cat,cI];have ar:z.cps.toList.length=z.length:=rfl;rcases cB.mp h with rfl | h
  ·omega
  ·have:=NV h;omega
theorem e2.kM{d:D}(h:e2 d)(r:Addr->Prop):eO r d:=by
 induction h with
 | is n=>exact Zx r n
 | some=>exact Zy r
 | both _ _ _ _ ae ag=>exact NP ae ag
 | left _ h=>exact NO h
 | right _ h=>exact NO h
 | way _ _ _ ae ag=>exact NP (.tup ae) ag
def Fd{p a b:Str}{T E:Prop}(h:p=a\/p=b)(t:T):bS (p==a) (bS true T E) (bS (p==b) T E):=by
 by_cases e:p=a
 ·exact bS.yes (by simp [e]) (bS.yes rfl t)
 ·exact bS.no (by simp [e]) (bS.yes (by simp [h.resolve_left e]) t)
def Bc{p a b:Str}{T E:Prop}(ae:p≠a)(ag:p≠b)(t:E):bS (p==a) (bS true T E) (bS (p==b) T E):=bS.no (by simp [ae]) (bS.no (by simp [ag]) t)
theorem Frs.xN{G:aL}{p a:Addr}{t:List D}{dS:List (Addr × List D)}(_:Frs G p ((a,t)::dS)){i:Int}(h:i=-1):gj ((((a,t)::dS).map (·.1)).reverse.map D.ref) i=some (.ref a):=by
 subst h;exact Ec (j:=dS.length) (by decide) (by simp only [cP,i4,be];omega) (by simp)
def xO{P:Addr->Prop}{a:Addr}{t t':List D}{dS:List (Addr × List D)}(h:∀ u∈(a,t)::dS,P u.1):∀ u∈(a,t')::dS,P u.1:=qc.mpr (qc.mp h)
def xP{i:Nat}{a:Addr}{t:List D}{k:D}{dS:List (Addr × List D)}(h:∀ u∈(a,t)::dS,u.2.length<=i):∀ u∈(a,t++[k])::dS,u.2.length<=i+1:=by
 obtain ⟨ae,ag⟩:=qc.mp h;exact qc.mpr ⟨by simp only [cI,be,c7] at *;omega,λ u bK=>Nat.le_succ_of_le (ag u bK)⟩
def NW{i:Nat}{a:Addr}{t:List D}{aC:List (Addr × List D)}(h:∀ u∈aC,u.2.length<=i)(bu:t.length<=1):∀ u∈(a,t)::aC,u.2.length<=i+1:=qc.mpr ⟨hT bu (Nat.le_add_left ..),λ u bK=>Nat.le_succ_of_le (h u bK)⟩
def qZ{α:Type}{P:α->Prop}{a:α}{dS:List α}(h:∀ u∈a::dS,P u):∀ u∈dS,P u:=(qc.mp h).2
def xQ{aC:List (Addr × List D)}{t:List D}(h:(aC.map λ p:Addr × List D=>p.2)=[t]):∃ a,aC=[(a,t)]:=by
 match aC,h with
 | [(a,t')],e=>simp at e;exact ⟨a,by rw [e]⟩
def sO{aC:List (Addr × List D)}{t:List D}{st:List (List D)}(h:(aC.map λ p:Addr × List D=>p.2)=t::st):∃ a dS,aC=(a,t)::dS/\(dS.map λ p:Addr × List D=>p.2)=st:=by
 match aC,h with
 | (a,t')::dS,e=>simp at e;exact ⟨a,dS,by rw [e.1],e.2⟩
def Fe:fe:=λ ds G Q=>∃(l:Addr)(xs:List Str)(i:Nat),ds=[.ref l,.int i]/\G l=some (.lst (xs.map D.str))/\xs.length<=9000/\i<=xs.length/\Q (.int ((i+e7 0 (xs.drop i):Nat):Int)) G
def ZN{w:Str}{v:D}(h:qM w=some v):∃ n:Int,v=.int n:=by
 unfold qM at h
 cases e:AI.find? λ e6=>decide (e6.1=w) with
 | none=>rw [e] at h;cases h
 | some e6=>
  rw [e] at h;cases h;have:=List.mem_of_find?_eq_some e;simp only [AI,cB,fR,or_false] at this;rcases this with rfl | rfl | rfl | rfl | rfl | rfl | rfl | rfl | rfl | rfl<;>exact ⟨_,rfl⟩
section
variable(bL:Addr)
def Ff:k4:=λ ds G az dl=>∃(l:Addr)(c:List D),ds=[.ref l]/\G l=some (.lst c)/\c.length<=9000/\(∀ d∈c,jj d/\d.aS<=140)/\(∀ k,iX c=some k->az k G)/\(iX c=none->sH bL dl G)
def Fg:k4:=λ ds G az dl=>∃(z:Str)(o:Option D),ds=[.str z]/\z.length<=5900/\eD o [[]] (bh d6 [] z.cps.toList)/\(∀ d,o=some d->az d G)/\(o=none->sH bL dl G)
def uR:k4:=λ ds G az dl=>∃(z:Str)(o:Option D),ds=[.str z]/\z.length<=5900/\d_ o [[]] (bh cA [] z.cps.toList)/\(∀ d,o=some d->az d G)/\(o=none->sH bL dl G)
end
def ZO{d:D}{x:List Str}(h:dC d x)(ar:2900 < (cat x).length):∃ z p r y,d=.tup (.str z::p::r)/\dC p y/\(cat y).length<=(cat x).length/\dc p < dc d/\p.aS<=d.aS:=by
 cases h with
 | some=>rw [mb] at ar;simp [cat,cK] at ar
 | whole=>rw [uw] at ar;simp [cat,cK] at ar
 | name _ _ _ bX=>rw [pH,cat,kg] at ar;simp only [dk,cI,be,c7] at ar;omega
 | @node w ps _ aA ah=>
  cases ps with
  | nil=>exact absurd rfl (si aA).1
  | cons q bE=>
   have cv:(cat q.2).length<=(cat (("(" : Str)::w::(br ((q::bE).map (·.2))++[(")" : Str)]))).length:=by
    rw [fh,br];simp only [cat,dj,cI];omega
   have aM:=ah q (by simp);generalize he:(q::bE).map (·.1)=es at aA
   cases aA with
   | un p hw=>simp at he;obtain ⟨rfl,_⟩:=he;exact ⟨_,_,_,q.2,rfl,aM,cv,by simp only [dc,cR];omega,by simp only [D.aS,cb];omega⟩
   | bi p dO hw=>simp at he;obtain ⟨rfl,_⟩:=he;exact ⟨_,_,_,q.2,rfl,aM,cv,by simp only [dc,cR];omega,by simp only [D.aS,cb];omega⟩
   | give p nr w8=>simp at he;obtain ⟨rfl,_⟩:=he;exact ⟨_,_,_,q.2,rfl,aM,cv,by simp only [dc,cR];omega,by simp only [D.aS,cb];omega⟩
def Fh:fe:=λ ds G Q=>∃ d:D,ds=[d]/\gC 700000 64 d/\∀ d',gC 2900 64 d'->Q d' G
inductive nv:D->List Nat->Prop
 | here {d:D}:nv d []
 | step {w:Str} {es:List D} {d e:D} {k:Nat} {ks:List Nat}:iU w es d->es[k]?=some e->nv e ks->nv d (k::ks)
def ny(ks:List Nat):D:=.tup (ks.map λ k:Nat=>D.int (k:Int))
def xR(n:Nat):fe:=λ ds G Q=>∃(d:D)(x:List Str),ds=[d]/\dC d x/\d.aS < n/\d.aS<=100/\(cat x).length<=2900/\∀ l (ks:List (List Nat)) ap,Sub G ap->ap l=some (.lst (ks.map ny))->G l=none->ks≠[]->ks.length<=(cat x).length->(∀ k∈ks,nv d k)->Q (.ref l) ap
def Fi:fe:=λ ds G Q=>∃ a,ds=[.ref a]/\hJ G a/\∀ z ap,e5 a G ap->z∈qX->Q (.str z) ap
def Fj:fe:=λ ds G Q=>∃ a,ds=[.ref a]/\hJ G a/\∀ z ap,e5 a G ap->z∈qY->Q (.str z) ap
def Fk:fe:=λ ds G Q=>∃(a:Addr)(d:D)(x:List Str)(h:Bool),ds=[.ref a,d,.str (txt x),.aJ h]/\hJ G a/\dC d x/\(cat x).length<=2900/\d.aS<=64/\∀ z ap,e5 a G ap->gf h d.aS z.cps.toList->z.length<=2 * (cat x).length+20->Q (.str z) ap
def xS(n:Nat):fe:=λ ds G Q=>∃(a:Addr)(d:D)(x:List Str)(h:Bool)(ks:List Nat),ds=[.ref a,d,ny ks,.aJ h]/\hJ G a/\dC d x/\(cat x).length<=2900/\d.aS<=64/\nv d ks/\ks.length < n/\∀ z ap,e5 a G ap->gf h d.aS z.cps.toList->z.length<=2 * (cat x).length+20->Q (.str z) ap
def uS:fe:=λ ds G Q=>∃ z:Str,ds=[.str z]/\z.length<=5900/\d_ none [[]] (bh cA [] z.cps.toList)/\Q (.aJ true) G
def NX{kp hM kq R:f7}{bY:qw}{ρ:ef}{G:aL}(I:ef->aL->Prop)(h:∀ X:ef->aL->Prop,(∀ ρ' ap,I ρ' ap->X ρ' ap)->lZ kp (lZ hM (lZ kq λ _=>X)) bY ρ G)(ak:∀ ρ' ap,I ρ' ap->R bY ρ' ap):lZ kp (lZ hM (lZ kq R)) bY ρ G:=h (R bY) ak
def NY{d:D}{ks:List Nat}(h:nv d ks):ks.length<=d.aS:=by
 induction h with
 | here=>exact fi _
 | step aA he _ bN=>have:=mc aA (kz he);simp only [be];omega
theorem Bd:∀(ps:List (D × List Str)),(ps.map λ p=>(cat p.2).length).sum<=(cat (br (ps.map (·.2)))).length
 | []=>fi _
 | p::ps=>by
  have:=Bd ps;simp only [fh,rq,br,cat,dj,cI];omega
def ZP{ps:List (D × List Str)}{i:Nat}{p:D × List Str}(h:ps[i]?=some p):((ps.take (i+1)).map λ p=>(cat p.2).length).sum=((ps.take i).map λ p=>(cat p.2).length).sum+(cat p.2).length:=by
 rw [rn,h];simp
def NZ(ps:List (D × List Str))(i:Nat):((ps.take i).map λ p=>(cat p.2).length).sum<=(ps.map λ p=>(cat p.2).length).sum:=by
 conv=>rhs;rw [<- List.take_append_drop i ps,mC,List.sum_append]
 omega
def N0:fe:=λ ds G Q=>∃(d:D)(x:List Str),ds=[.str (txt x)]/\dC d x/\(cat x).length<=2900/\d.aS<=64/\Q d G
def ZQ{bL:Addr}(ds:List D)(G:aL)(Q:cJ)(h:N0 ds G Q):uR bL ds G Q (λ _ _ _=>False):=by
 obtain ⟨d,x,rfl,ai,ar,hd,q⟩:=h;refine ⟨txt x,some d,rfl,by show (cat x).length<=_;omega,?_,λ e he=>by cases he;exact q,λ e=>by cases e⟩;rw [show (txt x).cps.toList=cat x from rfl,xi ai];obtain ⟨xs,rfl⟩:=uz ai;have:=pS (o:=some (.tup xs)) ai (by omega) [] [] [] (.inl rfl) .fin
 rwa [eP] at this
end L3
namespace L3
open PySem L2 PySem.NumText PyProof.Rows PySem.W PySem.W.KIN
def Fl{z:Str}{a e:Nat}(ae:a<=e)(ag:e<=z.length):Txt.slice z (some (a:Int)) (some (e:Int))=cK ((z.cps.toList.drop a).take (e - a)):=by
 have ar:z.cps.toList.length=z.length:=hF;rw [eq_of_beq (PyProof.Rows.slice_closes (x:=z) (i:=(a:Int)) (j:=(e:Int)) ⟨by omega,by omega,by rw [ar];omega⟩)];refine ma ?_;rw [dk];show (z.cps.toList.drop (a:Int).toNat).take ((e:Int) - (a:Int)).toNat=_;rw [show ((e:Int) - (a:Int)).toNat=e - a by omega,Int.toNat_natCast]
def ZR(x:Str)(b:Option Int):Txt.slice x none b=Txt.slice x (some 0) b:=by
 show StrLaws.sliceText x none b=StrLaws.sliceText x (some 0) b
 have e:Builtin.Str.strSliceIndices none b 1 x.length=Builtin.Str.strSliceIndices (some 0) b 1 x.length:=by
  have aO:(1:Int) > 0:=by decide
  have bX:¬ (0:Int) < 0:=by decide
  have d0:min (0:Int) (x.length:Int)=0:=by omega
  have hZ:max (0:Int) 0=0:=rfl;simp only [Builtin.Str.strSliceIndices,aO,bX,d0,hZ,if_true,if_false]
 unfold StrLaws.sliceText;rw [e]
end L3
namespace L3
open PySem L2
def ZS{x:Str}{k:Int}{b:Option Int}(h:(x.length:Int)<=k):Txt.slice x (some k) b=Txt.slice x (some (x.length:Int)) b:=by
 show StrLaws.sliceText x (some k) b=StrLaws.sliceText x (some (x.length:Int)) b
 have e:Builtin.Str.strSliceIndices (some k) b 1 x.length=Builtin.Str.strSliceIndices (some (x.length:Int)) b 1 x.length:=by
  have h0:¬ k < 0:=by omega
  have ae:¬ (x.length:Int) < 0:=by omega
  have ag:min k (x.length:Int)=min (x.length:Int) (x.length:Int):=by omega
  have aO:(1:Int) > 0:=by decide
  simp only [Builtin.Str.strSliceIndices,h0,ae,if_false,ag,aO,if_true]
 unfold StrLaws.sliceText;rw [e]
def ZT(x:Str)(a:Option Int):Txt.slice x a none=Txt.slice x a (some (x.length:Int)):=by
 show StrLaws.sliceText x a none=StrLaws.sliceText x a (some (x.length:Int))
 have e:Builtin.Str.strSliceIndices a none 1 x.length=Builtin.Str.strSliceIndices a (some (x.length:Int)) 1 x.length:=by
  have ae:¬ (x.length:Int) < 0:=by omega
  have ag:max (0:Int) (x.length:Int)=(x.length:Int):=by omega
  have aO:(1:Int) > 0:=by decide
  simp only [Builtin.Str.strSliceIndices,ae,if_false,Int.min_self,ag,aO,if_true]
 unfold StrLaws.sliceText;rw [e]
def ZU{z:Str}{k:Nat}(h:k<=z.length):Txt.slice z none (some (k:Int))=cK (z.cps.toList.take k):=by
 rw [ZR];have:=Fl (z:=z) (a:=0) (e:=k) (fi _) h;rw [nL,Nat.sub_zero] at this;exact this
def Be(z:Str)(k:Nat):Txt.slice z (some (k:Int)) none=cK (z.cps.toList.drop k):=by
 have ar:z.cps.toList.length=z.length:=hF;rw [ZT];by_cases c:k<=z.length
 ·rw [Fl c (b4 _),tj (by rw [jQ];omega)]
 ·rw [ZS (by omega),Fl (b4 _) (b4 _),tk (by omega),tk (by omega),List.take_nil]
end L3
namespace L3
open PySem L2
def ZV{kp hM R:f7}{bY:qw}{ρ:ef}{G:aL}(I:ef->aL->Prop)(h:∀ X:ef->aL->Prop,(∀ ρ' ap,I ρ' ap->X ρ' ap)->lZ kp (lZ hM λ _=>X) bY ρ G)(ak:∀ ρ' ap,I ρ' ap->R bY ρ' ap):lZ kp (lZ hM R) bY ρ G:=h (R bY) ak
def ZW{x y z u v w:D}{G:aL}{Q:cJ}{i:Int}(h0:0<=i)(ae:i < 6)(ai:i=0->Q x G)(bP:i=1->Q y G)(hz:i=2->Q z G)(bK:i=3->Q u G)(bJ:i=4->Q v G)(hw:i=5->Q w G):atS [x,y,z,u,v,w] i G Q:=by
 refine wQ ?_;rcases (by omega:i=0\/i=1\/i=2\/i=3\/i=4\/i=5) with rfl | rfl | rfl | rfl | rfl | rfl
 ·exact ai rfl
 ·exact bP rfl
 ·exact hz rfl
 ·exact bK rfl
 ·exact bJ rfl
 ·exact hw rfl
def k8(z:Str):z.length=z.cps.toList.length:=rfl
def ZX{z:Str}(h:1<=z.length):Txt.slice z none (some (-1))=cK (z.cps.toList.take (z.length - 1)):=by
 rw [<- ZU (Nat.sub_le _ _)];show StrLaws.sliceText z none (some (-1))=StrLaws.sliceText z none (some ((z.length - 1:Nat):Int))
 have e:Builtin.Str.strSliceIndices none (some (-1)) 1 z.length=Builtin.Str.strSliceIndices none (some ((z.length - 1:Nat):Int)) 1 z.length:=by
  have ae:¬ (((z.length - 1:Nat):Int)) < 0:=by omega
  have aO:(1:Int) > 0:=by decide
  have bX:(-1:Int) < 0:=by decide
  simp only [Builtin.Str.strSliceIndices,ae,bX,if_false,if_true,aO];rw [show (-1:Int)+(z.length:Int)=((z.length - 1:Nat):Int) by omega]
 unfold StrLaws.sliceText;rw [e]
def slice_le(z:Str)(k:Nat):(Txt.slice z (some (k:Int)) none).length<=z.length:=by rw [Be,k8,dk,jQ,k8];omega
def sP(z:Str):Bool:=!z.cps.toList.isEmpty&&(z.cps.toList.all λ c=>decide (c ∉ cA))&&decide (z≠"give")&&(ji z).isNone&&decide (z.length<=8)
def N1{z:Str}(h:sP z=true):mm z/\z≠"give"/\ji z=none/\z.length<=8:=by
 unfold sP at h;simp only [eI,decide_eq_true_iff] at h;obtain ⟨⟨⟨⟨ae,ag⟩,aO⟩,bX⟩,d0⟩:=h;exact ⟨NU (by simpa using ae) ag,aO,by simpa using bX,d0⟩
def ZY:∀ w∈hK++hA++[("give" : Str)],sP (w++"s")=true/\sP (Txt.slice w none (some (-1)))=true/\sP (Txt.upper ⟨#[w.cps.toList.headD 0]⟩++Txt.slice w (some 1) none)=true/\(Txt.upper ⟨#[w.cps.toList.headD 0]⟩).length<=1:=by trivial
section
variable{h:Bool}{d:D}{x:List Str}{w:Str}{ps:List (D × List Str)}
def iY(h:Bool)(d:D)(n:Nat)(z:Str):Prop:=gf h d.aS z.cps.toList/\z.length<=2 * n+20
theorem iY.of{n:Nat}{z:Str}{l:List Nat}(e:z.cps.toList=l)(af:gf h d.aS l)(ar:l.length<=2 * n+20):iY h d n z:=⟨by rw [e];exact af,by rw [k8,e];exact ar⟩
def ZZ:("\n" : Str).cps.toList=[10]:=by trivial
def uT:("(" : Str).cps.toList=[40]:=by trivial
def uU:(")" : Str).cps.toList=[41]:=by trivial
def Z0:("#" : Str).cps.toList=[35]:=by trivial
def o0(ai:dC d x):iY h d (cat x).length ((" " : Str)++txt x):=.of (l:=32::cat x) (by rw [f_,iA];rfl) (Y_ ai) (by simp;omega)
def d9(ai:dC d x):iY h d (cat x).length (txt x++(" " : Str)):=.of (l:=cat x++[32]) (by rw [f_,iA];rfl) (NC ai) (by simp;omega)
def cZ(ai:dC d x):iY h d (cat x).length (txt x++("\n" : Str)):=.of (l:=cat x++[10]) (by rw [f_,ZZ];rfl) (Zj ai) (by simp;omega)
def gE(ai:dC d x):iY h d (cat x).length (txt x++txt x):=.of (l:=cat x++cat x) (by rw [f_];rfl) (Zn ai) (by simp;omega)
def eE(ai:dC d x)(df:h=false):iY h d (cat x).length (txt x++(" " : Str)++txt x):=by
 subst df;exact .of (l:=cat x++32::cat x) (by rw [f_,f_,iA];simp [cK]) (Za ai) (by simp;omega)
def iZ(n:Nat):iY h d n ("" : Str):=.of (l:=[]) (by trivial) Zb (by simp)
def kr(ai:dC d x){c:Nat}(am:c∈qW):iY h d (cat x).length ((⟨#[c]⟩:Str)++Txt.slice (txt x) (some 1) none):=
 .of (l:=c::(cat x).tail) (by rw [f_,show (1:Int)=((1:Nat):Int) from rfl,Be];simp [cK]) (Zs ai am) (by simp;omega)
def uV(ai:dC d x):iY h d (cat x).length (("(" : Str)++txt x++(")" : Str)):=.of (l:=40::(cat x++[41])) (by rw [f_,f_,uT,uU];rfl) (Zc ai) (by simp;omega)
def N2:∀ z∈qX,z.length<=13:=by trivial
def Z1:∀ z∈qY,z.length<=13:=by trivial
def Z2{k:D}(aD:e2 k):1<=k.aS:=by cases aD<;>(simp only [D.aS];omega)
def Z3{n:Nat}{k:D}{z:Str}(aD:e2 k)(hz:z∈qX):iY h (.tup [.str "name", k]) n (("#" : Str)++z):=
 .of (l:=35::z.cps.toList) (by rw [f_,Z0];rfl) (ZJ hz (by have:=Z2 aD;simp only [D.aS,cb];omega)) (by have:=N2 z hz;rw [k8] at this;simp only [be];omega)
def yW{n:Nat}{z:Str}(hd:1<=d.aS)(hz:z∈qY):iY h d n z:=⟨ZK hz hd,by have:=Z1 z hz;omega⟩
def pT(w:Str)(ps:List (D × List Str)):cat (("(" : Str)::w::(br (ps.map (·.2))++[(")" : Str)]))=40::(w.cps.toList++(cat (br (ps.map (·.2)))++[41])):=by simp [cat,dj,uT,uU]
def Z4(aA:iU w (ps.map (·.1)) d)(ah:∀ p∈ps,dC p.1 p.2){z:Str}(hz:sP z=true):iY h d (cat (("(" : Str)::w::(br (ps.map (·.2))++[(")" : Str)]))).length (("(" : Str)++z++Txt.slice (txt (("(" : Str)::w::(br (ps.map (·.2))++[(")" : Str)]))) (some (1+(w.length:Int))) none):=by
 obtain ⟨g1,g2,g3,gw⟩:=N1 hz;rw [k8] at gw;refine .of (l:=40::(z.cps.toList++(cat (br (ps.map (·.2)))++[41]))) ?_ (uQ g1 (λ p ep=>⟨ah p ep,by have:=mc aA (h8 (f:=(·.1)) ep);omega⟩) λ _=>⟨g2,by rw [g3];simp⟩) ?_
 ·rw [f_,f_,uT,show (1+(w.length:Int))=((1+w.length:Nat):Int) by omega,Be,dk,dk,pT,show 1+w.length=w.cps.toList.length+1 by rw [k8];omega,rp,List.drop_left];simp
 ·rw [pT];simp only [be,cI,c7];omega
def Z5(aA:iU w (ps.map (·.1)) d)(ah:∀ p∈ps,dC p.1 p.2):iY h d (cat (("(" : Str)::w::(br (ps.map (·.2))++[(")" : Str)]))).length (Txt.slice (txt (("(" : Str)::w::(br (ps.map (·.2))++[(")" : Str)]))) none (some (-1))):=by
 refine .of (l:=40::(w.cps.toList++cat (br (ps.map (·.2))))) ?_ (Ze (xJ (jF aA)) (λ p ep=>⟨ah p ep,mc aA (h8 (f:=(·.1)) ep)⟩) (by have:=(si aA).1;intro e;apply this;rw [e];rfl)) ?_
 ·rw [ZX (by rw [k8,dk,pT];simp),dk,k8,dk,pT]
  have e:40::(w.cps.toList++(cat (br (ps.map (·.2)))++[41]))=(40::(w.cps.toList++cat (br (ps.map (·.2)))))++[41]:=by simp
  rw [e,List.take_left' (by simp only [cI,be,c7];omega)]
 ·rw [pT];simp only [be,cI,c7];omega
def Z6(ai:dC d x):iY h d (cat x).length (txt x++(")" : Str)):=.of (l:=cat x++[41]) (by rw [f_,uU];rfl) (Zd ai) (by simp;omega)
def Z7{n:Nat}(hw:w∈hK++hA++[("give" : Str)]):iY h d n (("(" : Str)++w++(")" : Str)):=by
 have ar:=(ol w hw).2.2;rw [k8] at ar;refine .of (l:=40::(w.cps.toList++(cat (br (([]:List (D × List Str)).map (·.2)))++[41]))) (by rw [f_,f_,uT,uU];rfl) (uQ (xJ hw) (by simp) (λ n=>absurd rfl n)) (by simp only [nK,br,cat,h7,be,cI,c7];omega)
def Z8{n:Nat}(hw:w∈hA){p:D × List Str}(ah:dC p.1 p.2)(hd:p.1.aS<=d.aS)(ar:(cat p.2).length<=n):iY h d n (("(" : Str)++w++(" " : Str)++txt p.2++(")" : Str)):=by
 have qV:w∈hK++hA++[("give" : Str)]:=by simp [hw]
 have vW:=(ol w qV).2.2;rw [k8] at vW
 have c3:w≠"give":=by rintro rfl;exact absurd hw (by trivial)
 refine .of (l:=40::(w.cps.toList++(cat (br ([p].map (·.2)))++[41]))) (by rw [f_,f_,f_,f_,uT,uU,iA];simp [br,cat,cK,iA]) (uQ (xJ qV) (λ q aM=>by simp at aM;subst aM;exact ⟨ah,by omega⟩) (λ _=>⟨c3,by unfold ji;rw [Mx w hw];simp⟩)) (by simp only [fh,nK,br,cat,dj,iA,eP,be,cI,c7];omega)
def N3{es:List D}(aA:iU w es d):∃ rest,d=.tup (.str w::rest)/\(((w = "give"/\rest.length=2)\/(w≠"give"/\w∈hK/\rest.length=1))\/(w≠"give"/\w∈hA/\rest=es/\es.length=2)):=by
 rcases aA with ⟨p,hw⟩ | ⟨p,q,hw⟩ | ⟨p,ps,_⟩
 ·exact ⟨_,rfl,.inl (.inr ⟨by rintro rfl;exact absurd hw (by trivial),hw,rfl⟩)⟩
 ·exact ⟨_,rfl,.inr ⟨by rintro rfl;exact absurd hw (by trivial),hw,rfl,rfl⟩⟩
 ·exact ⟨_,rfl,.inl (.inl ⟨rfl,rfl⟩)⟩
def Z9:∀ w∈hK++hA++[("give" : Str)],(w=="name")=false/\(w=="some")=false/\(w=="whole")=false:=by trivial
def Z_:((",:;[]{}0a-+" : String):Str).cps.toList=qW:=by trivial
end
def aac{w hH:Str}{es jW:List D}{d:D}(h:iU w es d)(h':iU hH jW d):w=hH/\es=jW:=by
 have k:∀{w:Str},w∈hK\/w∈hA->w≠"give":=λ{w} h e=>by subst e;rcases h with h | h<;>exact absurd h (by trivial)
 rcases h with ⟨p,hw⟩ | ⟨p,q,hw⟩ | ⟨p,ps,_⟩
 ·cases h' with
  | un _ _=>exact ⟨rfl,rfl⟩
 ·generalize hd:D.tup [.str w,p,q]=d at h'
  cases h' with
  | un=>simp at hd
  | bi dO hj qV=>simp at hd;obtain ⟨rfl,rfl,rfl⟩:=hd;exact ⟨rfl,rfl⟩
  | give dO nr _=>simp at hd;exact absurd hd.1 (k (.inr hw))
 ·generalize hd:D.tup [.str "give", p,.tup ps]=d at h'
  cases h' with
  | un=>simp at hd
  | bi dO hj qV=>simp at hd;exact absurd hd.1.symm (k (.inr qV))
  | give dO nr _=>simp at hd;obtain ⟨rfl,rfl⟩:=hd;exact ⟨rfl,rfl⟩
theorem e5.put{a r:Addr}{G X:aL}{o:ha}(h:e5 a G X)(aA:G r=none)(ak:r≠a):e5 a G (up X r o):=by
 obtain ⟨bV,f,s⟩:=h;exact ⟨bV,f,Sub.new s (by rw [f.other ak];exact aA)⟩
def hN(ps:List (D × List Str))(k:Nat)(z:Str)(i:Nat):List (List Str):=((ps.map (·.2)).set k [z]).take i
def aad{ps:List (D × List Str)}{k i:Nat}(h:i<=k)(z gn:Str):hN ps k z i=hN ps k gn i:=by
 unfold hN;refine List.ext_getElem? λ j=>?_;simp only [List.getElem?_take];split
 ·rw [nI (by omega),nI (by omega)]
 ·rfl
def aae{ps:List (D × List Str)}{k:Nat}(h:k < ps.length)(z:Str):hN ps k z (k+1)=hN ps k z k++[[z]]:=by
 unfold hN;rw [rn,List.getElem?_set_self (by rw [cP];exact h)];rfl
def aaf{ps:List (D × List Str)}{k i:Nat}{p:D × List Str}(h:i≠k)(ah:ps[i]?=some p)(z:Str):hN ps k z (i+1)=hN ps k z i++[p.2]:=by
 unfold hN;rw [rn,nI (by omega),f3,ah];rfl
def N4{ps:List (D × List Str)}{k:Nat}(h:k < ps.length)(z:Str):hN ps k z ps.length=(ps.take k).map (·.2)++[z]::(ps.drop (k+1)).map (·.2):=by
 unfold hN;rw [tj (by simp),List.set_eq_take_append_cons_drop,if_pos (by rw [cP];exact h),List.map_take,List.map_drop]
theorem Fm:∀ xs ys:List (List Str),br (xs++ys)=br xs++br ys
 | [],ys=>rfl
 | x::xs,ys=>by rw [de,br,br,Fm xs ys];simp
def aag{h:Bool}{w:Str}{ps:List (D × List Str)}{d:D}{p:D × List Str}{k:Nat}{z:Str}(aA:iU w (ps.map (·.1)) d)(ah:∀ p∈ps,dC p.1 p.2)(aD:ps[k]?=some p)(af:gf (decide (w = "give")) p.1.aS z.cps.toList)(hz:z.length<=2 * (cat p.2).length+20) :
 gf h d.aS (txt (("(" : Str)::w::(br (hN ps k z ps.length)++[(")" : Str)]))).cps.toList/\(txt (("(" : Str)::w::(br (hN ps k z ps.length)++[(")" : Str)]))).length<=2 * (cat (("(" : Str)::w::(br (ps.map (·.2))++[(")" : Str)]))).length+20:=by
 obtain ⟨eG,he⟩:=jo.mp aD;have kn:∀ q∈ps,q.1.aS < d.aS:=λ q aM=>mc aA (h8 (f:=(·.1)) aM)
 have e:(txt (("(" : Str)::w::(br (hN ps k z ps.length)++[(")" : Str)]))).cps.toList=40::(w.cps.toList++(cat (br ((ps.take k).map (·.2)))++32::(z.cps.toList++(cat (br ((ps.drop (k+1)).map (·.2)))++[41])))):=by
  rw [dk,N4 eG,Fm,br];simp [cat,dj,uT,uU,iA]
 have n4:ps=ps.take k++p::ps.drop (k+1):=by rw [<- he,<- ro eG,List.take_append_drop]
 refine ⟨?_,?_⟩
 ·rw [e];refine Zf (c:=p.1) (jF aA) af (kn p (kz aD)) (λ q aM=>⟨ah q (yF aM),kn q (yF aM)⟩) (λ q aM=>⟨ah q (rr aM),kn q (rr aM)⟩) λ hw=>?_;rcases Nv aA with ⟨ae,_⟩ | ⟨_,ag,_⟩
  ·exact absurd ae hw
  ·rw [ag,cP];congr 2;rw [lb,jQ];omega
 ·rw [k8,e,pT]
  have aP:(cat (br (ps.map (·.2)))).length=(cat (br ((ps.take k).map (·.2)))).length+1+(cat p.2).length+(cat (br ((ps.drop (k+1)).map (·.2)))).length:=by
   conv=>lhs;rw [n4,mC,fh,Fm,br]
   simp only [cat,dj,iA,cI,be,c7];omega
  rw [k8] at hz;simp only [be,cI,c7,aP];omega
end L3
namespace L2
open PySem PySem.Spec PyProof.Rows PySem.W
abbrev Fn:List Value:=[.type "ValueError", .type "Exception", .type "BaseException", .type "object"]
def N5:Value->Bool
 | .str _ _=>true
 | _=>false
def Bf(es:Array DictEntry):Bool:=es.toList.all (λ e=>N5 e.key)&&quietNames.all λ n=>(td es n).isNone
def aah{es:Array DictEntry}(h:Bf es=true):StrKeys es/\∀ n∈quietNames,td es n=none:=by
 unfold Bf at h;rw [eI,kA,kA] at h;refine ⟨λ e he=>?_,λ n aA=>Option.isNone_iff_eq_none.mp (h.2 n aA)⟩;have z:=h.1 e (yJ.mpr he)
 cases k:e.key with
 | str n t=>exact ⟨n,t,rfl⟩
 | _=>rw [k] at z;cases z
def sQ{K:Frag}{C c:Addr}{cd:ky}{b:Bool}(h0:(C==c)=false)(ae:clsIn K c=some cd)(ag:typeIn K (.ref c)=some (.type "type"))(aO:subIn K (.ref C) (.ref c)=some b):rk K (.ref C) (.ref c)=some b:=by
 unfold rk;rw [if_neg (λ q=>by cases beq_iff_eq.mp q;rw [beq_self_eq_true] at h0;cases h0)];unfold kitCls;simp only [ae,ag,aO,Option.isSome_some,Bool.true_and,beq_self_eq_true,if_true]
def aai:kitMeta "ValueError" = true:=by trivial
def aaj{K:Frag}{C:Addr}{b:Bool}(aO:subIn K (.ref C) (.type "ValueError")=some b):rk K (.ref C) (.type "ValueError")=some b:=by
 unfold rk;rw [if_neg (λ q=>by cases beq_iff_eq.mp q)];unfold kitCls;simp only [aai,aO,if_true]
def aak{K:Frag}{t:Value}:kitAny K t []=some false:=rfl
def sR{K:Frag}{t c:Value}{cs:List Value}(h:rk K t c=some false)(ax:kitAny K t cs=some false):kitAny K t (c::cs)=some false:=by
 unfold kitAny;rw [h];exact ax
def aal:k_ "ValueError" = some (.type "ValueError"):=by trivial
end L2
namespace L2
open PySem PySem.Spec PyProof.Rows PySem.W
def Bg(es:Array DictEntry):Bool:=es.toList.all λ e=>N5 e.key
def aam{es:Array DictEntry}(h:Bg es=true):StrKeys es:=by
 unfold Bg at h;rw [kA] at h;intro e he;have z:=h e (yJ.mpr he)
 cases k:e.key with
 | str n t=>exact ⟨n,t,rfl⟩
 | _=>rw [k] at z;cases z
def aan{K:Frag}{C B N N6 gY:Addr}{nm q:Str}{bs:List Value}{hdct:Bool}{sn:List Str}{sub:List Value}{ab:Bool}{col:Option Bool}{dd:Option Addr}{k0 k1 k2 k3 k5:Option Value}
 {v3:Value} {bv:Option Addr} {es sS:Array DictEntry} {e9 Bh:Nat} {aao Fo:Array (Option Value)} {qQ Fp:Value} {hn Fq eR:Option Addr} {cd:ky} {ho jt:Array (Option Value)} {aap:Data}
 (g6:nN C K=some (ta nm q C N bs (.ref B::Fn) hdct sn sub ab col dd k0 k1 k2 k3 k5 "ValueError.__new__")) (lK:nN N K=some ⟨v3,bv,.dict es e9,aao⟩) (xA:Bg es=true) (aaq:td es "__init__" = some (.ref gY)) (aar:nN gY K=some ⟨.type "function", eR,aap,jt⟩)
 (x4:nN B K=some ⟨qQ,hn,.cls cd,ho⟩) (x5:cd.ns=N6) (x6:nN N6 K=some ⟨Fp,Fq,.dict sS Bh,Fo⟩) (x7:Bf sS=true):so K C gY:=by
 have a1:=aam xA;obtain ⟨dx,cV⟩:=aah x7;refine ⟨⟨.ref B::Fn,N,nm,q,bs,hdct,sn,sub,ab,col,dd,k0,k1,k2,k3,k5,td es,_,by rfl,aaq,rfl,λ h X=>⟨X _ _ g6,⟨_,es,e9,X _ _ lK,rfl,a1,λ _=>rfl⟩,X _ _ aar,?_⟩⟩⟩;exact .own (X _ _ x4) (mA:=td sS) (by rw [x5];exact ⟨_,sS,Bh,X _ _ x6,rfl,dx,λ _=>rfl⟩) (cV _ (by simp [quietNames])) .base
def aas{K:Frag}{C:Addr}{a:Str}(h:findIn K (.ref C) a=some none):takerIn K C a=some none:=by unfold takerIn;rw [h];rfl
def aat{K:Frag}{C:Addr}:rk K (.ref C) (.ref C)=some true:=by unfold rk;rw [if_pos (by simp)]
end L2
namespace KB
open PySem L2
def top(i:Nat):b1:=PySem.Challenge.pw_kindbags_k38_texts_of_papers_refused.main.body.getD i (.Pass ⟨0,0,0,0⟩)
structure fB(mg:Str->Option Value):Prop where
 len:mg "len" = none
 isinstance:mg "isinstance" = none
 range:mg "range" = none
 int:mg "int" = none
 bool:mg "bool" = none
 str:mg "str" = none
 tuple:mg "tuple" = none
 list:mg "list" = none
 sorted:mg "sorted" = none
 all:mg "all" = none
 reversed:mg "reversed" = none
 min:mg "min" = none
 max:mg "max" = none
 enumerate:mg "enumerate" = none
 zip:mg "zip" = none
 ValueError:mg "ValueError" = none
end KB
namespace KB
open PySem
abbrev aau:List Str:=["self", "at"]
abbrev N7:List Str:=["thing"]
abbrev N8:List Str:=["thing"]
abbrev N9:List Str:=["thing"]
abbrev N_:List Str:=["thing"]
abbrev Oa:List Str:=["thing"]
abbrev Ob:List Str:=["kind"]
abbrev Oc:List Str:=["kinds"]
abbrev Fr:List Str:=["text", "signs"]
abbrev Od:List Str:=["text", "most"]
abbrev Oe:List Str:=["text", "signs"]
abbrev Og:List Str:=["text"]
abbrev Oh:List Str:=["piece"]
abbrev Oi:List Str:=["frame", "sign"]
abbrev Oj:List Str:=["row"]
abbrev Ol:List Str:=["row"]
abbrev Om:List Str:=["text"]
abbrev On:List Str:=["pieces", "start"]
abbrev Oo:List Str:=["row"]
abbrev Op:List Str:=["_law_script", "_law_k"]
abbrev Oq:List Str:=["_law_feed_here", "_law_many"]
abbrev Os:List Str:=["_law_feed_here", "_law_deep"]
abbrev Ot:List Str:=["_law_feed_here", "_law_deep"]
abbrev Ou:List Str:=["_law_feed_here", "_law_room", "_law_deep"]
abbrev Ov:List Str:=["_law_kind_here"]
abbrev Ow:List Str:=["_law_paper"]
abbrev Ox:List Str:=["_law_paper"]
abbrev Oy:List Str:=["_law_paper"]
abbrev Oz:List Str:=["_law_feed_here"]
abbrev OA:List Str:=["_law_feed_here"]
abbrev OB:List Str:=["_law_feed_here", "_law_paper", "_law_text_here", "_law_held"]
abbrev OC:List Str:=["_law_feed_here", "_law_paper", "_law_path", "_law_held"]
abbrev OD:List Str:=["_law_text_here"]
abbrev OE:List Str:=["_law_text_here"]
end KB
namespace KB
open PySem L2 L3
section
variable{P:cS}{w:b_}{K:aV}{mg:Str->Option Value}{base:bO}{f:Addr}{fd:gZ}
set_option maxHeartbeats 4000000
abbrev xT:b1:=(WI (top 2)).getD 0 (.Pass ⟨0,0,0,0⟩)
def aav:ez ["self", "at"] ["self", "at"] (cW xT):=⟨rfl,rfl,rfl,by trivial,rfl,by trivial,by trivial⟩
def aaw{C B gY:Addr}(nh:so K C gY)(pJ:AR K B)(sq:AQ K C "at")(uW:mg "BagError" = some (.ref B))(F:ed K "__init__" "NoText.__init__" xT f fd):dp P w K mg base dz 1 f fd ["self", "at"] (xt C "at"):=
 X1 F aav nh pJ sq uW rfl (λ _ _ _ _ _ _=>rfl) (λ _ _ _ _ _ _=>⟨_,rfl⟩) (Or.inl rfl) (Or.inl rfl) rfl rfl
abbrev Fs:b1:=top 45
def Ft:ez ["_law_feed_here", "_law_many", "_law_digit", "_law_one"] ["_law_feed_here", "_law_many"] (cW Fs):=⟨rfl,rfl,rfl,by trivial,rfl,by trivial,by trivial⟩
def aax(F:ed K "_law_take" "_law_take" Fs f fd):dp P w K mg base dz 1 f fd ["_law_feed_here", "_law_many"] (bB K m6):=by
 refine gx (k:=0) F Ft (λ ds G az h=>?_) (λ bW A outer s H E ak ds G az h=>?_)
 ·unfold m6 at h;split at h
  ·rfl
  ·exact h.elim
 unfold m6 at h;split at h
 case h_2=>exact h.elim
 next a m=>
 obtain ⟨⟨x,y,bT⟩,h0,ae,q⟩:=h
 refine ⟨_,(bt (c8 (bQ n9 (bx bz (ao 0) aG (λ _ _=>rfl)) aG (bF _)) (bt (cU (k:=2) Ft.bv rfl (Or.inl rfl) (bI pb (bx bz (ao 0) aG (λ _ _=>rfl)) (ao 1)))
  (bt (zF (bI zI (bx bz (ao 0) aG (λ _ _=>rfl)) (ao 1)) (zV (ao 0) aG))
  (bG (cu (ao 2))))) dw)
  (bt (cU (k:=3) Ft.bv rfl (Or.inl rfl) (bI pb (bI qA (bx bz (ao 0) aG (λ _ _=>rfl)) aG) aG))
  (bt (zF (bI da (bI pb (bI da (bI qA (ao 3) aG) aG) aG) aG) (zV (ao 0) aG))
  (bG (cu (bI pb (bI zI (bI da (bI qA (ao 3) aG) (bx bz (ao 0) aG (λ _ _=>rfl))) aG) (ao 1))))))),?_⟩
 refine bn bT ⟨λ c=>?_,λ c=>?_⟩
 ·refine bn bT ⟨h0,bn bT ⟨⟨h0,by omega⟩,dW bT ⟨0,rfl,bo.of (q _ _ .mk (Int.emod_nonneg _ (by omega)) (Int.emod_lt_of_pos _ h0))⟩⟩⟩
 ·refine bn bT ⟨.inr ⟨by decide,by decide⟩,by simp,.inr ⟨by decide,by decide⟩,by simp,dW bT ⟨1,rfl,.inr ⟨by decide,by decide⟩,bn bg ⟨⟨by decide,by decide⟩,h0,bo.of (q _ _ .mk (Int.emod_nonneg _ (by omega)) (Int.emod_lt_of_pos _ h0))⟩⟩⟩
abbrev Fu:b1:=top 44
def uX:ez ["_law_script", "_law_k", "_law_cell", "_law_own"] ["_law_script", "_law_k"] (cW Fu):=⟨rfl,rfl,rfl,by trivial,rfl,by trivial,by trivial⟩
def aay(B:fB mg)(F:ed K "_law_feed" "_law_feed" Fu f fd):dp P w K mg base dz 1 f fd ["_law_script", "_law_k"] (bB K wS):=by
 refine gx (k:=0) F uX (λ ds G az h=>?_) (λ bW A outer s H E ak ds G az h=>?_)
 ·unfold wS at h;split at h
  ·rfl
  ·exact h.elim
 unfold wS at h;split at h
 case h_2=>exact h.elim
 next ss k=>
 obtain ⟨ns,rfl,ar,h0,ae,q⟩:=h;have fin:∀ x y:Int,∀ p,G p=none->bo az (.ref p) (up G p (pr x y)):=λ x y p ah=>bo.of (q p x y ah)
 have OF:∀ j:Int,0<=j->j < ns.length->∃ v,gj (ns.map D.int) j=some (.int v):=λ j Bi eT=>by
  refine ⟨ns[j.toNat],?_⟩;have e:=hp (xs:=ns.map D.int) (j:=j.toNat) (v:=D.int ns[j.toNat]) (by simp [show j.toNat < ns.length by omega])
  rwa [show ((j.toNat:Nat):Int)=j by omega] at e
 refine ⟨_,(bt (cU (k:=2) uX.bv rfl (Or.inl rfl) (bI da (bI qA aG (ao 1)) aG))
  (bt (c8 (bQ jy (ao 1) (du eU rfl B.len eQ (aq (ao 0) aI)) (bF _)) (bG (cU (k:=2) uX.bv rfl (Or.inl rfl) (bx bz (ao 0) (ao 1) (λ _ _=>rfl)))) (bG (c8 (bQ n9 (du eU rfl B.len eQ (aq (ao 0) aI)) aG (bF _)) (bG (cU (k:=2) uX.bv rfl (Or.inl rfl) (bI da (bI qA (bI pb (bx bz (ao 0) (bI pb (ao 1) (du eU rfl B.len eQ (aq (ao 0) aI))) (λ _ _=>rfl)) aG) aG) (bI qA aG (ao 1))))) dw)))
  (bt (cU (k:=3) uX.bv rfl (Or.inl rfl) aG)
  (bt (c8 (bQ Ue (ao 2) (bI Ud aG aG) (bF _)) (bG (cU (k:=3) uX.bv rfl (Or.inl rfl) (ao 2))) dw)
  (bG (cu (gX (aq (ao 3) (aq (bI da (bI pb (bI da (bI qA (bI pb (ao 2) aG) aG) (bI qA aG (ao 1))) aG) aG) aI))))))))),?_⟩
 refine ⟨.inl ⟨by decide,by decide⟩,⟨λ c=>?_,λ c=>?_⟩⟩
 ·have dm:k < ns.length:=by simpa using c
  obtain ⟨v,bJ⟩:=OF k h0 dm;refine (J5 bJ ⟨⟨by decide,by decide,by decide⟩,λ c=>?_,λ c=>?_⟩)
  ·exact ⟨by simp,.inr ⟨by decide,by decide⟩,.inl ⟨by decide,by decide⟩,by simp,λ p ah=>fin _ _ p ah⟩
  ·exact ⟨by simp,.inr ⟨by decide,by decide⟩,.inl ⟨by decide,by decide⟩,by simp,λ p ah=>fin _ _ p ah⟩
 ·refine ⟨λ c=>?_,λ c=>?_⟩
  ·have dm:0 < ns.length:=by
    have:(0:Int) < (ns.map D.int).length:=by simpa using c
    simpa using this
   obtain ⟨v,bJ⟩:=OF (k % (ns.map D.int).length) (Int.emod_nonneg _ (show ((ns.map D.int).length:Int)≠0 by rw [cP];omega)) (by have:=Int.emod_lt_of_pos k (show (0:Int) < (ns.map D.int).length by simpa using dm);simpa using this);refine ⟨by simpa using dm,?_⟩;refine (J5 bJ ⟨by simp,.inr ⟨by decide,by decide⟩,.inl ⟨by decide,by decide⟩,⟨by decide,by decide,by decide⟩,λ c=>?_,λ c=>?_⟩)
   ·exact ⟨by simp,.inr ⟨by decide,by decide⟩,.inl ⟨by decide,by decide⟩,by simp,λ p ah=>fin _ _ p ah⟩
   ·exact ⟨by simp,.inr ⟨by decide,by decide⟩,.inl ⟨by decide,by decide⟩,by simp,λ p ah=>fin _ _ p ah⟩
  ·refine ⟨⟨by decide,by decide,by decide⟩,λ c=>?_,λ c=>?_⟩
   ·exact ⟨by simp,.inr ⟨by decide,by decide⟩,.inl ⟨by decide,by decide⟩,by simp,λ p ah=>fin _ _ p ah⟩
   ·exact ⟨by simp,.inr ⟨by decide,by decide⟩,.inl ⟨by decide,by decide⟩,by simp,λ p ah=>fin _ _ p ah⟩
abbrev Fv:b1:=top 15
def aaz:ez ["thing"] ["thing"] (cW Fv):=⟨rfl,rfl,rfl,by trivial,rfl,by trivial,by trivial⟩
def aaA(B:fB mg)(F:ed K "is_whole_number" "is_whole_number" Fv f fd):dp P w K mg base dz 1 f fd ["thing"] (bB K DI):=by
 refine gx (k:=0) F aaz (λ ds G az h=>?_) (λ bW A outer s H E ak ds G az h=>?_)
 ·obtain ⟨_,rfl,_⟩:=h;rfl
 obtain ⟨d,rfl,t,q⟩:=h;refine ⟨_,(bG (cu (lW (du l4 rfl B.isinstance jS (aq (ao 0) (aq (lw rfl B.int yQ) aI))) (o_ (zD (du l4 rfl B.isinstance jS (aq (ao 0) (aq (lw rfl B.bool PyProof.Rows.boot_bool) aI)))))))),?_⟩
 cases t with
 | int n=>exact ⟨true,rfl,λ _=>⟨false,rfl,bo.of (q true ⟨λ _=>⟨n,rfl⟩,λ _=>rfl⟩)⟩,nofun⟩
 | aJ b=>exact ⟨true,rfl,λ _=>⟨true,rfl,bo.of (q false ⟨nofun,λ⟨_,e⟩=>nomatch e⟩)⟩,nofun⟩
 | ref h=>obtain ⟨ds,h⟩:=h;exact bn h ⟨false,rfl,nofun,λ _=>bo.of (q false ⟨nofun,λ⟨_,e⟩=>nomatch e⟩)⟩
 | str z=>exact ⟨false,rfl,nofun,λ _=>bo.of (q false ⟨nofun,λ⟨_,e⟩=>nomatch e⟩)⟩
 | bc=>exact ⟨false,rfl,nofun,λ _=>bo.of (q false ⟨nofun,λ⟨_,e⟩=>nomatch e⟩)⟩
 | tup _=>exact ⟨false,rfl,nofun,λ _=>bo.of (q false ⟨nofun,λ⟨_,e⟩=>nomatch e⟩)⟩
abbrev Fw:b1:=top 19
def aaB:ez ["thing"] ["thing"] (cW Fw):=⟨rfl,rfl,rfl,by trivial,rfl,by trivial,by trivial⟩
def aaC(B:fB mg)(F:ed K "has_answer_word" "has_answer_word" Fw f fd):dp P w K mg base dz 1 f fd ["thing"] (bB K DJ):=by
 refine gx (k:=0) F aaB (λ ds G az h=>?_) (λ bW A outer s H E ak ds G az h=>?_)
 ·obtain ⟨_,rfl,_⟩:=h;rfl
 obtain ⟨d,rfl,t,q⟩:=h;refine ⟨_,(bG (cu (lW (du l4 rfl B.isinstance jS (aq (ao 0) (aq (lw rfl B.tuple mF) aI))) (lW (j5 n9 (du eU rfl B.len eQ (aq (ao 0) aI)) aG (bF _)) (o_ (j5 (Lo (b9 ak)) (bx bz (ao 0) aG (λ _ _=>rfl)) (fM (aq a0 (aq a0 (aq a0 aI)))) (by with_unfolding_all rfl))))))),?_⟩
 cases t with
 | ref h=>obtain ⟨ds,h⟩:=h;exact bn h ⟨false,rfl,nofun,λ _=>bo.of q⟩
 | @tup ds hd=>
  refine ⟨true,rfl,λ _=>⟨λ c=>?_,λ c=>?_⟩,nofun⟩
  ·cases ds with
   | nil=>exact absurd c (by decide)
   | cons x r=>
    cases hd x (b3 ..) with
    | str z=>
     refine ⟨["is", "some", "both"],rfl,rfl,bo.of ?_⟩;rw [Ve];exact q
    | ref h=>obtain ⟨es,h⟩:=h;exact ⟨["is", "some", "both"],rfl,bn h (bo.of q)⟩
    | tup _=>exact ⟨["is", "some", "both"],rfl,bo.of q⟩
    | int n=>exact ⟨["is", "some", "both"],rfl,rfl,bo.of q⟩
    | aJ b=>exact ⟨["is", "some", "both"],rfl,rfl,bo.of q⟩
    | bc=>exact ⟨["is", "some", "both"],rfl,rfl,bo.of q⟩
  ·cases ds with
   | nil=>exact bo.of q
   | cons x r=>have dm:=of_decide_eq_false c;simp only [be] at dm;omega
 | _=>exact ⟨false,rfl,nofun,λ _=>bo.of q⟩
abbrev Fx:b1:=top 18
def aaD:ez ["thing"] ["thing"] (cW Fx):=⟨rfl,rfl,rfl,by trivial,rfl,by trivial,by trivial⟩
def aaE(B:fB mg)(Fy:Got P w K mg base 1 "is_whole_number" ["thing"] (bB K DI))(Bj:Got P w K mg base 1 "has_answer_word" ["thing"] (bB K DJ))(F:ed K "has_kind_form" "has_kind_form" Fx f fd):dp P w K mg base dz 2 f fd ["thing"] (bB K DK):=by
 refine gx (k:=1) F aaD (λ ds G az h=>?_) (λ bW A outer s H E ak ds G az h=>?_)
 ·obtain ⟨_,rfl,_⟩:=h;rfl
 obtain ⟨d,rfl,t,q⟩:=h
 refine ⟨_,(bt (c8 (fc.at (iu (m1 (jw (du l4 rfl B.isinstance jS (aq (ao 0) (aq (lw rfl B.tuple mF) aI))))) (j7 (bQ (c6 (b9 ak)) (du eU rfl B.len eQ (aq (ao 0) aI)) aG (bF _))))) (bG (cu qx)) dw)
  (bt (c8 (bQ (sb (b9 ak)) (bx bz (ao 0) aG (λ _ _=>rfl)) a0 (bF _)) (bG (cu (lW (j5 (c6 (b9 ak)) (du eU rfl B.len eQ (aq (ao 0) aI)) aG (bF _)) (o_ (cG Fy ak (by omega) rfl (aq (bx bz (ao 0) aG (λ _ _=>rfl)) aI)))))) dw)
  (bt (c8 (bQ (sb (b9 ak)) (bx bz (ao 0) aG (λ _ _=>rfl)) a0 (bF _)) (bG (cu (j5 (c6 (b9 ak)) (du eU rfl B.len eQ (aq (ao 0) aI)) aG (bF _)))) dw)
  (bt (c8 (bQ (sb (b9 ak)) (bx bz (ao 0) aG (λ _ _=>rfl)) a0 (bF _)) (bG (cu (lW (j5 (c6 (b9 ak)) (du eU rfl B.len eQ (aq (ao 0) aI)) aG (bF _)) (o_ (du l4 rfl B.isinstance jS (aq (bx bz (ao 0) aG (λ _ _=>rfl)) (aq (lw rfl B.tuple mF) aI))))))) dw)
  (bt (c8 (bQ (sb (b9 ak)) (bx bz (ao 0) aG (λ _ _=>rfl)) a0 (bF _)) (bG (cu (lW (j5 (c6 (b9 ak)) (du eU rfl B.len eQ (aq (ao 0) aI)) aG (bF _)) (lW (cG Bj ak (by omega) rfl (aq (bx bz (ao 0) aG (λ _ _=>rfl)) aI)) (o_ (cG Bj ak (by omega) rfl (aq (bx bz (ao 0) aG (λ _ _=>rfl)) aI))))))) dw)
  (bG (cu (lW (j5 (Lo (b9 ak)) (bx bz (ao 0) aG (λ _ _=>rfl)) (fM (aq a0 (aq a0 aI))) (by with_unfolding_all rfl)) (o_ (j5 (c6 (b9 ak)) (du eU rfl B.len eQ (aq (ao 0) aI)) aG (bF _))))))))))),?_⟩
 have no:(∀ z r,d≠.tup (.str z::r))->az (.aJ false) G:=λ h=>q false ⟨nofun,λ e=>absurd e (Wf h)⟩
 cases t with
 | ref h=>obtain ⟨ds,h⟩:=h;exact bn h ⟨false,rfl,⟨λ _=>⟨λ _=>bo.of (no λ z r=>nofun),nofun⟩,nofun⟩⟩
 | @tup ds hd=>
  refine ⟨true,rfl,⟨nofun,λ _=>⟨λ c=>?_,λ c=>?_⟩⟩⟩
  ·refine bo.of (no λ z r e=>?_);cases e;have dm:=eq_of_beq c;simp only [be] at dm;omega
  ·cases ds with
   | nil=>exact absurd c (by decide)
   | cons x r=>
    clear c
    cases hd x (b3 ..) with
    | ref h=>
     obtain ⟨es,h⟩:=h;exact bn h ⟨nofun,λ _=>bn h ⟨nofun,λ _=>bn h ⟨nofun,λ _=>bn h ⟨nofun,λ _=>⟨["left", "right"],rfl,bn h ⟨nofun,λ _=>bo.of (no λ z r=>nofun)⟩⟩⟩⟩⟩⟩
    | tup _=>exact ⟨nofun,λ _=>⟨nofun,λ _=>⟨nofun,λ _=>⟨nofun,λ _=>⟨["left", "right"],rfl,nofun,λ _=>bo.of (no λ z r=>nofun)⟩⟩⟩⟩⟩
    | int n=>exact ⟨rfl,rfl,fi _,nofun,λ _=>⟨rfl,rfl,fi _,nofun,λ _=>⟨rfl,rfl,fi _,nofun,λ _=>⟨rfl,rfl,fi _,nofun,λ _=>⟨["left", "right"],rfl,rfl,nofun,λ _=>bo.of (no λ z r=>nofun)⟩⟩⟩⟩⟩
    | aJ n=>exact ⟨rfl,rfl,fi _,nofun,λ _=>⟨rfl,rfl,fi _,nofun,λ _=>⟨rfl,rfl,fi _,nofun,λ _=>⟨rfl,rfl,fi _,nofun,λ _=>⟨["left", "right"],rfl,rfl,nofun,λ _=>bo.of (no λ z r=>nofun)⟩⟩⟩⟩⟩
    | bc=>exact ⟨rfl,rfl,fi _,nofun,λ _=>⟨rfl,rfl,fi _,nofun,λ _=>⟨rfl,rfl,fi _,nofun,λ _=>⟨rfl,rfl,fi _,nofun,λ _=>⟨["left", "right"],rfl,rfl,nofun,λ _=>bo.of (no λ z r=>nofun)⟩⟩⟩⟩⟩
    | str z=>
     refine ⟨λ c=>?_,λ cq=>⟨λ c=>?_,λ b6=>⟨λ c=>?_,λ fz=>⟨λ c=>?_,λ ie=>?_⟩⟩⟩⟩
     ·obtain rfl:=eq_of_beq c;rcases r with _ | ⟨y,_ | ⟨u,r⟩⟩
      ·exact ⟨nofun,λ _=>bo.of (q false ⟨nofun,λ e=>by obtain ⟨n,e⟩:=Am.mp e;cases e⟩)⟩
      ·refine ⟨λ _=>⟨y,rfl,hd y (by simp),λ b af=>bo.of (q b (af.trans ⟨?_,λ e=>?_⟩))⟩,nofun⟩
       ·rintro ⟨n,rfl⟩;exact Am.mpr ⟨n,rfl⟩
       ·obtain ⟨n,e⟩:=Am.mp e;cases e;exact ⟨n,rfl⟩
      ·exact ⟨λ c=>absurd (eq_of_beq c) (by simp only [be];omega),λ _=>bo.of (q false ⟨nofun,λ e=>by obtain ⟨n,e⟩:=Am.mp e;cases e⟩)⟩
     ·obtain rfl:=eq_of_beq c;refine bo.of (q _ ?_);rw [Wc]
      cases r with
      | nil=>exact ⟨λ _=>rfl,λ _=>rfl⟩
      | cons y r=>exact ⟨λ c=>absurd (eq_of_beq c) (by simp only [be];omega),nofun⟩
     ·obtain rfl:=eq_of_beq c;rcases r with _ | ⟨y,_ | ⟨u,_ | ⟨v,r⟩⟩⟩
      ·exact ⟨nofun,λ _=>bo.of (q false ⟨nofun,λ e=>by obtain ⟨_,_,e⟩:=w9.mp e;cases e⟩)⟩
      ·exact ⟨nofun,λ _=>bo.of (q false ⟨nofun,λ e=>by obtain ⟨_,_,e⟩:=w9.mp e;cases e⟩)⟩
      ·refine ⟨λ _=>?_,nofun⟩;have f:(∀ es,y≠.tup es)->az (.aJ false) G:=λ h=>q false ⟨nofun,λ e=>by obtain ⟨es,_,e⟩:=w9.mp e;cases e;exact absurd rfl (h es)⟩
       cases hd y (by simp) with
       | ref h=>obtain ⟨es,h⟩:=h;exact bn h ⟨false,rfl,bo.of (f λ es=>nofun)⟩
       | tup _=>exact ⟨true,rfl,bo.of (q true ⟨λ _=>w9.mpr ⟨_,_,rfl⟩,λ _=>rfl⟩)⟩
       | _=>exact ⟨false,rfl,bo.of (f λ es=>nofun)⟩
      ·exact ⟨λ c=>absurd (eq_of_beq c) (by simp only [be];omega),λ _=>bo.of (q false ⟨nofun,λ e=>by obtain ⟨_,_,e⟩:=w9.mp e;cases e⟩)⟩
     ·obtain rfl:=eq_of_beq c;rcases r with _ | ⟨y,_ | ⟨u,_ | ⟨v,r⟩⟩⟩
      ·exact ⟨nofun,λ _=>bo.of (q false ⟨nofun,λ e=>by obtain ⟨_,_,e,_⟩:=uo.mp e;cases e⟩)⟩
      ·exact ⟨nofun,λ _=>bo.of (q false ⟨nofun,λ e=>by obtain ⟨_,_,e,_⟩:=uo.mp e;cases e⟩)⟩
      ·refine ⟨λ _=>⟨y,rfl,hd y (by simp),⟨λ cq=>⟨u,rfl,hd u (by simp),bo.of (q _ ⟨λ b6=>uo.mpr ⟨_,_,rfl,cq,b6⟩,λ e=>by obtain ⟨_,_,e,_,h⟩:=uo.mp e;cases e;exact h⟩)⟩,λ cq=>bo.of (q false ⟨nofun,λ e=>by obtain ⟨_,_,e,h,_⟩:=uo.mp e;cases e;rw [cq] at h;exact h⟩)⟩⟩,nofun⟩
      ·exact ⟨λ c=>absurd (eq_of_beq c) (by simp only [be];omega),λ _=>bo.of (q false ⟨nofun,λ e=>by obtain ⟨_,_,e,_⟩:=uo.mp e;cases e⟩)⟩
     ·have c3:z≠"is":=ne_of_beq_false cq;have b8:z≠"some":=ne_of_beq_false b6;have hW:z≠"way":=ne_of_beq_false fz;have aaF:z≠"both":=ne_of_beq_false ie;have iff:=Wd (r:=r) c3 b8 hW aaF;refine ⟨["left", "right"],rfl,rfl,⟨λ c=>?_,λ c=>?_⟩⟩
      ·rw [Ly,Bool.or_eq_true,beq_iff_eq,beq_iff_eq] at c;refine bo.of (q _ ?_);rw [iff];rcases r with _ | ⟨y,_ | ⟨u,r⟩⟩
       ·exact ⟨nofun,λ⟨_,a,e⟩=>by cases e⟩
       ·exact ⟨λ _=>⟨c,y,rfl⟩,λ _=>rfl⟩
       ·exact ⟨λ c=>absurd (eq_of_beq c) (by simp only [be];omega),λ⟨_,a,e⟩=>by cases e⟩
      ·rw [Ly,Bool.or_eq_false_iff] at c
       exact bo.of (q false ⟨nofun,λ e=>by
        rcases (iff.mp e).1 with e | e
        ·exact absurd e (ne_of_beq_false c.1)
        ·exact absurd e (ne_of_beq_false c.2)⟩)
 | _=>exact ⟨false,rfl,⟨λ _=>⟨λ _=>bo.of (no λ z r=>nofun),nofun⟩,nofun⟩⟩
abbrev Fz:b1:=top 20
def aaG:ez ["kind"] ["kind"] (cW Fz):=⟨rfl,rfl,rfl,by trivial,rfl,by trivial,by trivial⟩
def aaH(B:fB mg)(F:ed K "inner_kinds" "inner_kinds" Fz f fd):dp P w K mg base dz 1 f fd ["kind"] (bB K DL):=by
 refine gx (k:=0) F aaG (λ ds G az h=>?_) (λ bW A outer s H E ak ds G az h=>?_)
 ·obtain ⟨_,_,_,rfl,_⟩:=h;rfl
 obtain ⟨d,is,bs,rfl,hf,hz,q⟩:=h
 refine ⟨_,(bt (c8 (fc.at (iu (bQ (c6 (b9 ak)) (bx bz (ao 0) aG (λ _ _=>rfl)) a0 (bF _)) (j7 (bQ (c6 (b9 ak)) (bx bz (ao 0) aG (λ _ _=>rfl)) a0 (bF _))))) (bG (cu (fM aI))) dw)
  (bt (c8 (bQ (c6 (b9 ak)) (bx bz (ao 0) aG (λ _ _=>rfl)) a0 (bF _)) (bG (cu (bI da (bx bz (ao 0) aG (λ _ _=>rfl)) (fM (aq (bx bz (ao 0) aG (λ _ _=>rfl)) aI))))) dw)
  (bG (cu (iM n_ (ao 0) (f9 aG) jx))))),?_⟩
 cases hf with
 | is n=>exact ⟨λ _=>⟨λ _=>bo.of q,nofun⟩,λ c=>absurd c (by decide)⟩
 | some=>exact ⟨λ c=>absurd c (by decide),λ _=>⟨λ _=>bo.of q,λ c=>absurd c (by decide)⟩⟩
 | both _ _=>exact ⟨λ c=>absurd c (by decide),λ _=>⟨λ c=>absurd c (by decide),λ _=>⟨λ c=>absurd c (by decide),λ _=>bo.of q⟩⟩⟩
 | left _=>exact ⟨λ c=>absurd c (by decide),λ _=>⟨λ c=>absurd c (by decide),λ _=>⟨λ c=>absurd c (by decide),λ _=>bo.of q⟩⟩⟩
 | right _=>exact ⟨λ c=>absurd c (by decide),λ _=>⟨λ c=>absurd c (by decide),λ _=>⟨λ c=>absurd c (by decide),λ _=>bo.of q⟩⟩⟩
 | way ds k=>
  refine ⟨λ c=>absurd c (by decide),λ _=>⟨λ c=>absurd c (by decide),λ _=>⟨λ _=>?_,λ c=>absurd c (by decide)⟩⟩⟩;have:=Ak ds;simp only [dc,cR] at hz;exact ⟨kb (by simp;omega),bo.of q⟩
abbrev FA:b1:=top 13
def xU:ez ["thing", "told", "pending", "one", "item"] ["thing"] (cW FA):=⟨rfl,rfl,rfl,by trivial,rfl,by trivial,by trivial⟩
def aaI{gU aW:Tok}(B:fB mg)(FB:mg "ITEM" = some (.int 1 gU))(FC:mg "END" = some (.int 0 aW))(F:ed K "flat" "flat" FA f fd):dp P w K mg base dz 1 f fd ["thing"] (bB K DN):=by
 refine gx (k:=0) F xU (λ ds G az h=>?_) (λ bW A outer s H E ak ds G az h=>?_)
 ·obtain ⟨_,rfl,_⟩:=h;rfl
 obtain ⟨d,rfl,aD,hz,q⟩:=h
 refine ⟨_,(bt (cU (k:=1) xU.bv rfl (Or.inl rfl) (gX aI))
  (bt (cU (k:=2) xU.bv rfl (Or.inl rfl) (gX (aq (ao 0) aI)))
  (bt (zM PassesOwn.never (jw (ao 2)) (bt (cU (k:=3) xU.bv rfl (Or.inl rfl) (wM PySem.F.plainAttrs_list PySem.F.slot_list_pop PySem.F.type_list_pop zS (ao 2)))
  (bG (c8 (m1 (jw (du l4 rfl B.isinstance jS (aq (ao 3) (aq (lw rfl B.tuple mF) aI))))) (bG (i_ (hu PySem.F.plainAttrs_list PySem.F.slot_list_append PySem.F.type_list_append iO (ao 1) (aq (ao 3) aI)))) (bG (c8 (fc.at (lY (bQ n9 (du eU rfl B.len eQ (aq (ao 3) aI)) aG (bF _)) (lX (jw (du l4 rfl B.isinstance jS (aq (bx bz (ao 3) aG (λ _ _=>rfl)) (aq (lw rfl B.str PyProof.Rows.boot_str) aI))))))) (bG (i_ (hu PySem.F.plainAttrs_list PySem.F.slot_list_extend PySem.F.type_list_extend C6 (ao 2) (aq (V2 (ao 3) (f9 (mZ m2 aG))) aI)))) (bt (i_ (hu PySem.F.plainAttrs_list PySem.F.slot_list_append PySem.F.type_list_append iO (ao 2) (aq (kP (d:=.int _) (v:=.int _) rfl FC ⟨_,rfl⟩ (λ _=>rfl)) aI)))
  (bG (wF PassesOwn.never rfl (V7 rfl B.reversed (ao 3)) (iN (k:=4) xU.bv rfl (Or.inl rfl)) (bt (i_ (hu PySem.F.plainAttrs_list PySem.F.slot_list_append PySem.F.type_list_append iO (ao 2) (aq (ao 4) aI)))
  (bG (i_ (hu PySem.F.plainAttrs_list PySem.F.slot_list_append PySem.F.type_list_append iO (ao 2) (aq (kP (d:=.int _) (v:=.int _) rfl FB ⟨_,rfl⟩ (λ _=>rfl)) aI))))))))))))))
  (bG (cu (ao 1)))))),?_⟩
 intro a ay b af;obtain ⟨-,xV,cX⟩:=wR (o:=.lst []) af;have hw:=LA d;refine ⟨λ μ ρ ap=>∃(ps aC:List D)(gE eE:Option D),ρ=[some d,some (.ref a),some (.ref b),gE,eE]/\up (up G a (.lst aC)) b (.lst ps.reverse)=ap/\aC++fF ps=dF d/\(∀ p∈ps,pD p)/\eV ps<=196000/\eV ps=μ,⟨_,[d],[],_,_,rfl,rfl,by simp [fF],by simpa using .k aD,by simp only [eV];omega,rfl⟩,?_⟩;rintro μ ρ ap ⟨ps,aC,gE,eE,rfl,rfl,gJ,mi,FD,rfl⟩
 have af8:aC.length<=196000:=by have:=congrArg mB gJ;have:=Ao d;simp only [cI] at *;omega
 refine bn bg ⟨λ c=>?_,λ c=>?_⟩
 ·obtain ⟨y,bE,rfl⟩:∃ y bE,ps=y::bE:=by
   cases ps with
   | nil=>simp at c
   | cons z bE=>exact ⟨z,bE,rfl⟩
  rw [eV] at FD;have aaJ:=An bE;refine ⟨bn bg trivial,dW bg ⟨bE.reverse,y,by simp,?_⟩⟩;rw [ip]
  have ov:∀ o,up (up G a (.lst aC)) b o a=some (.lst aC):=λ o=>by rw [dh (Ne.symm cX)];exact bg
  have Bk:∀ p∈bE,pD p:=λ p ah=>mi p (cO _ ah);have fin:∀(dY nr:List D),dY++fF nr=dF d->(∀ p∈nr,pD p)->eV nr+1<=ws y+eV bE->∀(e1:aL)(ρ:ef),(∃ eE,ρ=[some d,some (.ref a),some (.ref b),some y,eE])->up (up G a (.lst dY)) b (.lst nr.reverse)=e1->e0 (λ ρ ap=>∃ μ',μ' < eV (y::bE)/\∃(ps aC:List D)(gE eE:Option D),ρ=[some d,some (.ref a),some (.ref b),gE,eE]/\up (up G a (.lst aC)) b (.lst ps.reverse)=ap/\aC++fF ps=dF d/\(∀ p∈ps,pD p)/\eV ps<=196000/\eV ps=μ') ρ e1:=λ dY nr ae ag aO e1 ρ ⟨eE,aE⟩ aP=>e0.of ⟨eV nr,by rw [eV];omega,nr,dY,_,eE,aE,aP,ae,ag,by omega,rfl⟩;rw [fF] at gJ
  cases mi y (b3 ..) with
  | int n=>
   refine ⟨false,rfl,⟨λ _=>⟨bn (ov _) trivial,dW (ov _) ⟨gL (by omega),?_⟩⟩,nofun⟩⟩;rw [Dh cX];exact fin (aC++[.int n]) bE (by rw [<- gJ];simp [dF]) Bk (by simp only [ws];omega) _ _ ⟨_,rfl⟩ rfl
  | str z=>
   refine ⟨false,rfl,⟨λ _=>⟨bn (ov _) trivial,dW (ov _) ⟨gL (by omega),?_⟩⟩,nofun⟩⟩;rw [Dh cX];exact fin (aC++[.str z]) bE (by rw [<- gJ];simp [dF]) Bk (by simp only [ws];omega) _ _ ⟨_,rfl⟩ rfl
  | k h=>
   obtain ⟨z,r,rfl,ak⟩:=h.Wi;have aaK:=An (.str z::r);rw [ws] at FD;refine ⟨true,rfl,⟨nofun,λ _=>⟨λ _=>⟨true,rfl,⟨λ _=>?_,nofun⟩⟩,λ c=>absurd (of_decide_eq_false c) (by simp only [be];omega)⟩⟩⟩;refine ⟨bn bg trivial,rfl,dW bg ⟨kb (by simp only [i4];omega),?_⟩⟩;rw [ip];refine fin aC ((.str z::r)++bE) ?_ (λ p ah=>?_) ?_ _ _ ⟨_,rfl⟩ ?_
   ·rw [<- gJ,LG];simp only [dF,l7,fF];rfl
   ·rcases fH.mp ah with ah | ah
    ·rcases cB.mp ah with rfl | ah
     ·exact .str _
     ·exact ak p ah
    ·exact Bk p ah
   ·rw [Lz,ws];omega
   ·rw [List.reverse_append]
  | @ff ds f6=>
   have aaK:=An ds
   have af9:bE.length+2 * ds.length+2<=196000:=by rw [ws] at FD;omega
   refine ⟨true,rfl,⟨nofun,λ _=>⟨λ c=>?OG,λ c=>?OH⟩⟩⟩
   case' OG=>
    obtain ⟨jz,ke,e⟩:∃ jz ke,ds=jz::ke:=by
     cases ds with
     | nil=>exact absurd c (by decide)
     | cons x xs=>exact ⟨x,xs,rfl⟩
    refine J4 (d:=jz) (by rw [e];exact hp (j:=0) rfl) ?_;obtain ⟨z,r,rfl,_⟩:=(f6 jz (by rw [e];exact b3 ..)).head;refine ⟨false,rfl,⟨nofun,λ _=>?_⟩⟩
   case' OH=>
    refine ⟨nofun,λ _=>?_⟩
   case OG | OH=>
    refine ⟨bn bg trivial,dW bg ⟨gL (by simp only [i4];omega),?_⟩⟩;rw [ip];refine ⟨λ i ρ ap=>∃ eE,ρ=[some d,some (.ref a),some (.ref b),some (.tup ds),eE]/\up (up G a (.lst aC)) b (.lst (bE.reverse++[.int 0]++(ds.reverse.take i).flatMap λ x=>[x,.int 1]))=ap,⟨_,rfl,by simp⟩,λ _ _ _ _ _=>trivial,?_,?_⟩
    ·rintro i x ρ ap he ⟨eE,rfl,rfl⟩;have iV:ds.reverse[i]?=some x:=he
     have Bl:(bE.reverse++[D.int 0]++(ds.reverse.take i).flatMap λ x=>[x,.int 1]).length+1<=196000:=by
      have ag:=(jo.mp iV).1;rw [i4] at ag;simp only [cI,i4,yA,LJ,lb];omega
     refine ⟨bn bg trivial,dW bg ⟨gL (by omega),?_⟩⟩;rw [ip];refine ⟨bn bg trivial,dW bg ⟨gL (by rw [cI,yA];omega),?_⟩⟩;rw [ip];refine e0.of ⟨_,rfl,?_⟩;rw [rn,iV,Option.toList_some,List.flatMap_append];simp
    ·rintro ρ ap ⟨eE,rfl,rfl⟩;refine fin aC (oi ds++.int 0::bE) ?_ (λ p ah=>?_) ?_ _ _ ⟨_,rfl⟩ ?_
     ·rw [<- gJ,LH,Ab f6]
     ·rcases fH.mp ah with ah | ah
      ·obtain ⟨x,ai,ah⟩:=List.mem_flatMap.mp ah;simp at ah;rcases ah with rfl | rfl
       ·exact .int _
       ·exact .k (f6 _ ai)
      ·rcases cB.mp ah with rfl | ah
       ·exact .int _
       ·exact Bk p ah
     ·rw [LI,ws];omega
     ·rw [List.reverse_append,Wh,ti,show ds.reverse.take (⟨ds.reverse,λ _=>True⟩:ly).items.length=ds.reverse from vo]
 ·have e:ps=[]:=by
   cases ps with
   | nil=>rfl
   | cons _ _=>simp at c
  subst e
  have aP:aC=dF d:=by simpa [fF] using gJ
  subst aP;exact ⟨up G a (.lst (dF d)),Sub.new (Sub.refl _) (by rw [dh cX];exact xV),q a ay⟩
abbrev FE:b1:=top 21
def OI:ez ["kinds", "keys"] ["kinds"] (cW FE):=⟨rfl,rfl,rfl,by trivial,rfl,by trivial,by trivial⟩
def aaL(B:fB mg)(FF:Got P w K mg base 1 "flat" ["thing"] (bB K DN))(F:ed K "is_sorted" "is_sorted" FE f fd):dp P w K mg base dz 2 f fd ["kinds"] (bB K DO):=by
 refine gx (k:=1) F OI (λ ds G az h=>?_) (λ bW A outer s H E ak ds G az h=>?_)
 ·obtain ⟨_,rfl,_⟩:=h;rfl
 obtain ⟨es,rfl,aD,ar,q⟩:=h
 refine ⟨_,(bt (c8 (bQ jy (du eU rfl B.len eQ (aq (ao 0) aI)) aG (bF _)) (bG (cu qx)) dw)
  (bt (C4 (k:=1) rfl OI.bv rfl (Or.inl rfl) (g_.of (N':=["kind"]) (nt:=1) (cap:=[]) rfl (by kernel_rfl)) (ph (k:=0) (by decide)) (rW (ao 0)) (λ _ _ _ _=>(iN (k:=0) (show List.Nodup (["kind"]:List Str) by trivial) rfl (Or.inl rfl)))  (λ _ _ _ _=>(cG FF ak (by omega) rfl (aq (ao 0) aI))))
  (bG (cu (j5 (VO (b9 ak)) (ao 1) (du (VH (b9 ak)) rfl B.sorted PyProof.Rows.boot_sorted (aq (ao 1) aI)) (bF _)))))),?_⟩
 refine ⟨λ c=>?_,λ c=>?_⟩
 ·have dm:=of_decide_eq_true c;refine bo.of ?_;rcases es with _ | ⟨x,_ | ⟨y,r⟩⟩
  ·exact q
  ·exact q
  ·simp only [be] at dm;omega
 ·refine Kf (λ i ds ap=>∃ zs:List (Addr × D),ds=zs.map (λ z=>D.ref z.1)/\zs.map (·.2)=es.take i/\(∀ z∈zs,qG ap z)/\Sub G ap) (gL (by show es.length<=_;omega)) ⟨[],rfl,rfl,by simp,Sub.refl _⟩ (λ _ _ _ _ _=>trivial) ?_ ?_
  ·rintro i d ds ap hd ⟨zs,rfl,FG,bT,dr⟩;have ii:es[i]?=some d:=hd;have hm:=kz ii;refine ⟨d,rfl,(aD d hm).1,(aD d hm).2,λ l w8=>⟨_,Sub.refl _,zs++[(l,d)],by simp,?_,λ z hz=>?_,Sub.trans dr (Sub.new (Sub.refl _) w8)⟩⟩
   ·rw [mC,FG,rn,ii];rfl
   ·rcases fH.mp hz with hz | hz
    ·obtain ⟨ae,ag⟩:=bT z hz;exact ⟨ae,by rw [dh (by rintro e;rw [e,w8] at ag;cases ag)];exact ag⟩
    ·simp at hz;subst hz;exact ⟨(aD d hm).1,bg⟩
  ·rintro ds ap ⟨zs,rfl,FG,bT,dr⟩ p ah
   have FH:zs.map (·.2)=es:=by
    rw [FG];exact vo
   have l8:zs.length=es.length:=by rw [<- FH,cP]
   have OJ:∀ z∈zs,qG (up ap p (.lst (zs.map λ z=>D.ref z.1))) z:=λ z hz=>by
    obtain ⟨ae,ag⟩:=bT z hz;exact ⟨ae,by rw [dh (by rintro e;rw [e,ah] at ag;cases ag)];exact ag⟩
   refine ⟨zs,bg,by omega,OJ,λ lB mq l6 dO ep=>?_⟩
   have OL:∀ z∈zs,qG (up (up ap p (.lst (zs.map λ z=>D.ref z.1))) dO (.lst (lB.map λ z=>D.ref z.1))) z:=λ z hz=>by
    obtain ⟨ae,ag⟩:=OJ z hz;exact ⟨ae,by rw [dh (by rintro e;rw [e,ep] at ag;cases ag)];exact ag⟩
   have aaM:p≠dO:=by rintro rfl;rw [bg] at ep;cases ep
   refine ⟨zs,lB,by rw [dh aaM];exact bg,bg,OL,λ z hz=>OL z (mq.mem_iff.mpr hz),mq.length_eq,λ b af=>⟨G,Sub.trans dr (Sub.trans (Sub.new (Sub.refl _) ah) (Sub.new (Sub.refl _) ep)),?_⟩⟩
   have e:b=hy es:=by
    rw [FH,Wb (λ d hd=>(aD d hd).1) (by rw [<- FH];exact mq.map _) l6] at af;cases b<;>cases h:hy es<;>simp_all
   rw [e];exact q
abbrev FI:b1:=top 17
def Bm:ez ["thing", "bags", "pending", "one"] ["thing"] (cW FI):=⟨rfl,rfl,rfl,by trivial,rfl,by trivial,by trivial⟩
def aaN(B:fB mg)(FJ:Got P w K mg base 2 "has_kind_form" ["thing"] (bB K DK))(FK:Got P w K mg base 1 "inner_kinds" ["kind"] (bB K DL))(FL:Got P w K mg base 2 "is_sorted" ["kinds"] (bB K DO))(F:ed K "is_kind" "is_kind" FI f fd):dp P w K mg base dz 3 f fd ["thing"] (bB K DP):=by
 refine gx (k:=2) F Bm (λ ds G az h=>?_) (λ bW A outer s H E ak ds G az h=>?_)
 ·obtain ⟨_,rfl,_⟩:=h;rfl
 obtain ⟨d,rfl,bu,qq,q⟩:=h
 refine ⟨_,(bt (cU (k:=1) Bm.bv rfl (Or.inl rfl) (gX aI))
  (bt (cU (k:=2) Bm.bv rfl (Or.inl rfl) (gX (aq (ao 0) aI)))
  (bt (zM PassesOwn.never (jw (ao 2)) (bt (cU (k:=3) Bm.bv rfl (Or.inl rfl) (wM PySem.F.plainAttrs_list PySem.F.slot_list_pop PySem.F.type_list_pop zS (ao 2)))
  (bt (c8 (m1 (jw (cG FJ ak (by omega) rfl (aq (ao 3) aI)))) (bG (cu qx)) dw)
  (bt (c8 (bQ (c6 (b9 ak)) (bx bz (ao 3) aG (λ _ _=>rfl)) a0 (bF _)) (bG (i_ (hu PySem.F.plainAttrs_list PySem.F.slot_list_append PySem.F.type_list_append iO (ao 1) (aq (bx bz (ao 3) aG (λ _ _=>rfl)) aI)))) dw)
  (bG (i_ (hu PySem.F.plainAttrs_list PySem.F.slot_list_extend PySem.F.type_list_extend C6 (ao 2) (aq (cG FK ak (by omega) rfl (aq (ao 3) aI)) aI))))))))
  (bG (cu (l3 (du (De rfl) rfl B.all PyProof.Rows.boot_all (aq (t6 rfl (g_.of (N':=["bag"]) (nt:=1) (cap:=[]) rfl (by kernel_rfl)) (ph (k:=0) (by decide)) (rW (ao 1)) (λ _ _ _ _=>(iN (k:=0) (show List.Nodup (["bag"]:List Str) by trivial) rfl (Or.inl rfl))) (λ _ _ _ _=>(cG FL ak (by omega) rfl (aq (ao 0) aI)))) aI)))))))),?_⟩
 intro a ay b af;obtain ⟨-,xV,cX⟩:=wR (o:=.lst []) af
 have aaO:∀(X Y:ha)(r:Addr),oh G r->oh (up (up G a X) b Y) r:=λ X Y r ⟨ds,h⟩=>⟨ds,by rw [dh (by rintro rfl;rw [xV] at h;cases h),dh (by rintro rfl;rw [ay] at h;cases h)];exact h⟩
 refine ⟨λ μ ρ ap=>∃(ps:List D)(bs:List (List D))(gE:Option D),ρ=[some d,some (.ref a),some (.ref b),gE]/\up (up G a (.lst (bs.map D.tup))) b (.lst ps.reverse)=ap/\(e2 d ↔ (∀ x∈bs,hy x=true)/\∀ p∈ps,e2 p)/\((∀ p∈ps,h2 p)->∀ x∈bs,∀ y∈x,h2 y)/\(∀ p∈ps,eO (oh G) p/\h3 49000 150 63 p)/\(∀ x∈bs,x.length<=63/\∀ y∈x,dc y<=49000)/\cR ps+bs.length<=49000/\cR ps=μ,⟨_,[d],[],_,rfl,rfl,by simp,by simp,by simpa using ⟨bu,qq⟩,by simp,by have:=qq.h_;simp only [cR,c7];omega,rfl⟩,?_⟩;rintro μ ρ ap ⟨ps,bs,gE,rfl,rfl,FM,OM,mi,FN,hsz,rfl⟩;refine bn bg ⟨λ c=>?_,λ c=>?_⟩
 ·obtain ⟨y,bE,rfl⟩:∃ y bE,ps=y::bE:=by
   cases ps with
   | nil=>simp at c
   | cons z bE=>exact ⟨z,bE,rfl⟩
  rw [cR] at hsz;have aaJ:=Ak bE;have hyp:=Ls y;obtain ⟨gI,Bn⟩:=mi y (b3 ..);refine ⟨bn bg trivial,dW bg ⟨bE.reverse,y,by simp,?_⟩⟩;rw [ip]
  have ov:∀(X:ha) o,up (up G a X) b o a=some X:=λ X o=>by rw [dh (Ne.symm cX)];exact bg
  refine ⟨y,rfl,gI.mono (aaO _ _),λ aaP zo=>⟨λ c=>?_,λ c=>?_⟩⟩
  ·have n:¬ ∃ is bs,fk y is bs:=λ e=>by
    have z:=zo.mpr e;subst z;cases c
   refine ⟨G,Sub.trans (Sub.new (Sub.refl _) ay) (Sub.new (Sub.refl _) (by rw [dh cX];exact xV)),q false ⟨nofun,λ e=>absurd ((FM.mp e).2 y (b3 ..)).hf n⟩⟩
  ·obtain ⟨is,ys,hf⟩:∃ is bs,fk y is bs:=zo.mp (by cases aaP;cases c;rfl);obtain ⟨aga,aaQ⟩:=hf.h_;have hm:=hf.mem gI Bn;have iS:=hf.iS
   have fin:∀(ρ:ef)(e1:aL),ρ=[some d,some (.ref a),some (.ref b),some y]->up (up G a (.lst ((bs++ys).map D.tup))) b (.lst (bE.reverse++is))=e1->ys.length<=1->e0 (λ ρ ap=>∃ μ',μ' < cR (y::bE)/\∃(ps:List D)(bs:List (List D))(gE:Option D),ρ=[some d,some (.ref a),some (.ref b),gE]/\up (up G a (.lst (bs.map D.tup))) b (.lst ps.reverse)=ap/\(e2 d ↔ (∀ x∈bs,hy x=true)/\∀ p∈ps,e2 p)/\((∀ p∈ps,h2 p)->∀ x∈bs,∀ y∈x,h2 y)/\(∀ p∈ps,eO (oh G) p/\h3 49000 150 63 p)/\(∀ x∈bs,x.length<=63/\∀ y∈x,dc y<=49000)/\cR ps+bs.length<=49000/\cR ps=μ') ρ e1:=λ ρ e1 aE aP aaR=>by
    have aaS:=Bn.h_;refine e0.of ⟨_,?_,is.reverse++bE,bs++ys,_,aE,?_,?_,?_,?_,?_,?_,rfl⟩
    ·rw [cR,Ai,LK];omega
    ·rw [<- aP];simp
    ·rw [FM];constructor
     ·rintro ⟨ae,ag⟩;have z:=iS.mp (ag y (b3 ..));refine ⟨λ x ai=>?_,λ p ah=>?_⟩
      ·rcases fH.mp ai with ai | ai
       ·exact ae x ai
       ·exact z.2 x ai
      ·rcases fH.mp ah with ah | ah
       ·exact z.1 p (yG.mp ah)
       ·exact ag p (cO _ ah)
     ·rintro ⟨ae,ag⟩;refine ⟨λ x ai=>ae x (jP _ ai),λ p ah=>?_⟩;rcases cB.mp ah with rfl | ah
      ·exact iS.mpr ⟨λ x ai=>ag x (jP _ (yG.mpr ai)),λ x ai=>ae x (h6 _ ai)⟩
      ·exact ag p (h6 _ ah)
    ·intro h x ai;obtain ⟨f1,f2⟩:=hf.fr λ x ai=>h x (jP _ (yG.mpr ai));rcases fH.mp ai with ai | ai
     ·refine OM (λ p ah=>?_) x ai;rcases cB.mp ah with rfl | ah
      ·exact f1
      ·exact h p (h6 _ ah)
     ·exact f2 x ai
    ·intro p ah;rcases fH.mp ah with ah | ah
     ·exact hm p (yG.mp ah)
     ·exact mi p (cO _ ah)
    ·intro x ai;rcases fH.mp ai with ai | ai
     ·exact FN x ai
     ·obtain ⟨cN,cc⟩:=aaQ x ai;have:=Bn.DH;exact ⟨by omega,λ y bP=>by have:=Aj bP;omega⟩
    ·rw [Ai,LK,cI];omega
   have aaT:=Ak is;have aaS:=Bn.h_
   cases hf with
   | is n=>exact ⟨nofun,λ _=>⟨bn bg trivial,_,_,_,rfl,(fk.is n),by omega,dW bg ⟨kb (by simp only [i4,be,c7];omega),by rw [ip];exact fin _ _ rfl (by simp) (by simp)⟩⟩⟩
   | some=>exact ⟨nofun,λ _=>⟨bn bg trivial,_,_,_,rfl,fk.some,by omega,dW bg ⟨kb (by simp only [i4,be,c7];omega),by rw [ip];exact fin _ _ rfl (by simp) (by simp)⟩⟩⟩
   | both d9 cZ=>exact ⟨nofun,λ _=>⟨bn bg trivial,_,_,_,rfl,(fk.both d9 cZ),by omega,dW bg ⟨kb (by simp only [i4,be,c7];omega),by rw [ip];exact fin _ _ rfl (by simp) (by simp)⟩⟩⟩
   | left x=>exact ⟨nofun,λ _=>⟨bn bg trivial,_,_,_,rfl,(fk.left x),by omega,dW bg ⟨kb (by simp only [i4,be,c7];omega),by rw [ip];exact fin _ _ rfl (by simp) (by simp)⟩⟩⟩
   | right x=>exact ⟨nofun,λ _=>⟨bn bg trivial,_,_,_,rfl,(fk.right x),by omega,dW bg ⟨kb (by simp only [i4,be,c7];omega),by rw [ip];exact fin _ _ rfl (by simp) (by simp)⟩⟩⟩
   | way ds k=>
    refine ⟨λ _=>⟨bn (ov _ _) trivial,dW (ov _ _) ⟨gL (by rw [cP];omega),?_⟩⟩,nofun⟩;rw [Dh cX];refine ⟨bn bg trivial,_,_,_,rfl,fk.way ds k,by omega,dW bg ⟨kb (by simp only [i4,cI,yA] at aaT ⊢;omega),?_⟩⟩;rw [ip];exact fin _ _ rfl (by simp) (by simp)
 ·have e:ps=[]:=by
   cases ps with
   | nil=>rfl
   | cons _ _=>simp at c
  subst e;have d5:∀ x∈bs,∀ y∈x,bM y:=λ x ai y bP=>(OM (by simp) x ai y bP).l9
  have ov:∀(X:ha) o,up (up G a X) b o a=some X:=λ X o=>by rw [dh (Ne.symm cX)];exact bg
  refine wC (ov _ _) ?_;refine qB bs D.tup (λ x=>.aJ (hy x)) ?_ ?_ ?_ ?_ ?_
  ·rfl
  ·exact gL (by simp only [cR] at hsz;omega)
  ·exact ov _ _
  ·intro x ai R dT;exact ⟨x,rfl,λ y bP=>⟨d5 x ai y bP,(FN x ai).2 y bP⟩,by have:=(FN x ai).1;omega,dT⟩
  ·intro p ah;refine bn bg ⟨bs.map hy,?_,G,?_,bo.of (q _ ?_)⟩
   ·rw [show (bs.map λ x=>D.aJ (hy x))=(bs.map hy).map D.aJ from (oF ..).symm];exact zX _
   ·exact Sub.trans (Sub.trans (Sub.new (Sub.refl _) ay) (Sub.new (Sub.refl _) (by rw [dh cX];exact xV))) (Sub.new (Sub.refl _) ah)
   ·rw [FM];simp
abbrev FO:b1:=top 27
def aaU:ez ["text", "signs"] ["text", "signs"] (cW FO):=⟨rfl,rfl,rfl,by trivial,rfl,by trivial,by trivial⟩
def aaV(B:fB mg)(F:ed K "made_of" "made_of" FO f fd):dp P w K mg base dz 1 f fd ["text", "signs"] (bB K DW):=by
 refine gx (k:=0) F aaU (λ ds G az h=>?_) (λ bW A outer s H E ak ds G az h=>?_)
 ·obtain ⟨_,_,rfl,_⟩:=h;rfl
 obtain ⟨z,y,rfl,hz,q⟩:=h;refine ⟨_,(bG (cu (l3 (du (De rfl) rfl B.all PyProof.Rows.boot_all (aq (t6 rfl (g_.of (N':=["sign", "signs"]) (nt:=1) (cap:=[1]) rfl (by kernel_rfl)) (ph (k:=0) (by decide)) (Ww (ao 0)) (λ _ _ _ _=>(iN (k:=0) (show List.Nodup (["sign", "signs"]:List Str) by trivial) rfl (Or.inl rfl))) (λ _ _ _ _=>(j5 tX (ao 0) (ao 1) (by with_unfolding_all rfl)))) aI))))),?_⟩;refine qB z.cps.toList (λ c=>.str ⟨#[c]⟩) (λ c=>.aJ (decide (c∈y.cps.toList))) rfl (gL ?_) trivial (λ c _ R dT=>?_) (λ p ah=>?_)
 ·have:z.cps.toList.length=z.length:=rfl;omega
 ·show R (.aJ (false ^^ !(Builtin.Str.occurrences y ⟨#[c]⟩ 0 y.length 1).isEmpty)) G;rw [DV,i5];exact dT
 ·refine bn bg ⟨z.cps.toList.map λ c=>decide (c∈y.cps.toList),?_,G,Sub.new (Sub.refl _) ah,bo.of ?_⟩
  ·rw [show (z.cps.toList.map λ c=>D.aJ (decide (c∈y.cps.toList)))=(z.cps.toList.map λ c=>decide (c∈y.cps.toList)).map D.aJ by simp];exact zX _
  ·rw [yC];exact q
abbrev FP:b1:=top 23
def uY:ez ["text", "signs", "pieces", "start", "at", "sign"] ["text", "signs"] (cW FP):=⟨rfl,rfl,rfl,by trivial,rfl,by trivial,by trivial⟩
def ON{xd:Str}{S:List Nat}(dr:xd.cps.toList=S)(B:fB mg)(F:ed K "pieces_of" "pieces_of" FP f fd):dp P w K mg base dz 1 f fd ["text", "signs"] (bB K (W8 xd S)):=by
 refine gx (k:=0) F uY (λ ds G az h=>?_) (λ bW A outer s H E ak ds G az h=>?_)
 ·obtain ⟨_,rfl,_⟩:=h;rfl
 obtain ⟨z,rfl,hz,q⟩:=h
 refine ⟨_,(bt (cU (k:=2) uY.bv rfl (Or.inl rfl) (gX aI))
  (bt (cU (k:=3) uY.bv rfl (Or.inl rfl) aG)
  (bt (wF PassesOwn.never rfl (WQ rfl B.enumerate (aq (ao 0) aI)) (CU (n:=2) rfl (tW (iN (k:=4) uY.bv rfl (Or.inl rfl)) (tW (iN (k:=5) uY.bv rfl (Or.inl rfl)) CT))) (bG (c8 (bQ tX (ao 5) (ao 1) (by with_unfolding_all rfl)) (bt (c8 (bQ jy (ao 3) (ao 4) (bF _)) (bG (i_ (hu PySem.F.plainAttrs_list PySem.F.slot_list_append PySem.F.type_list_append iO (ao 2) (aq (iM qH (ao 0) (f9 (ao 3)) (f9 (ao 4))) aI)))) dw)
  (bt (i_ (hu PySem.F.plainAttrs_list PySem.F.slot_list_append PySem.F.type_list_append iO (ao 2) (aq (ao 5) aI)))
  (bG (cU (k:=3) uY.bv rfl (Or.inl rfl) (bI da (ao 4) aG))))) dw)))
  (bt (c8 (bQ jy (ao 3) (du eU rfl B.len eQ (aq (ao 0) aI)) (bF _)) (bG (i_ (hu PySem.F.plainAttrs_list PySem.F.slot_list_append PySem.F.type_list_append iO (ao 2) (aq (iM qH (ao 0) (f9 (ao 3)) jx) aI)))) dw)
  (bG (cu (ao 2))))))),?_⟩
 intro a ay;have l8:z.cps.toList.length=z.length:=hF;generalize xW:z.cps.toList=gM at q l8;refine ⟨λ i ρ ap=>∃(jc:List Str)(s:Nat)(eE iZ:Option D),ρ=[some (.str z),some (.str xd),some (.ref a),some (.int (s:Int)),eE,iZ]/\up G a (.lst (jc.map D.str))=ap/\s<=i/\i<=gM.length/\jc++bh S ((gM.take i).drop s) (gM.drop i)=bh S [] gM/\jc.length+(i - s)<=i,⟨[],0,_,_,rfl,rfl,b4 _,fi _,by simp,b4 _⟩,λ _ _ _ _ _=>trivial,?_,?_⟩
 ·rintro i e ρ ap he ⟨jc,s,eE,iZ,rfl,rfl,ax,uZ,hd,aA⟩;have iV:(nc z)[i]?=some e:=he;unfold nc at iV;rw [f3,vu,xW] at iV
  cases am:gM[i]? with
  | none=>rw [am] at iV;cases iV
  | some c=>
   rw [am] at iV;simp at iV;subst iV;have eG:=(jo.mp am).1
   have uj:gM.drop i=c::gM.drop (i+1):=by rw [ro eG,(jo.mp am).2]
   have aaW:gM.take (i+1)=gM.take i++[c]:=by rw [rn,am,Option.toList_some]
   have qK:((gM.take i).drop s).length=i - s:=by rw [jQ,lb];omega
   rw [uj,bh] at hd;refine ⟨λ cq=>?_,λ cq=>?_⟩
   ·rw [i5,DV,decide_eq_true_eq,dr] at cq;rw [if_pos cq] at hd;refine ⟨λ b6=>?_,λ b6=>?_⟩
    ·have nz:s < i:=by have:=of_decide_eq_true b6;omega
     have es:Txt.slice z (some (s:Int)) (some (i:Int))=cK ((gM.take i).drop s):=by
      rw [eq_of_beq (PyProof.Rows.slice_closes (x:=z) (i:=s) (j:=i) ⟨by omega,by omega,by rw [xW];omega⟩),xW];refine ma ?_;rw [dk,List.drop_take];show (gM.drop s).take ((i:Int) - (s:Int)).toNat=_;rw [show ((i:Int) - (s:Int)).toNat=i - s by omega]
     refine ⟨bn bg trivial,⟨big (by omega),dW bg ⟨AA (by rw [cP];omega),?_⟩⟩⟩;rw [ip];refine ⟨bn bg trivial,dW bg ⟨AA (by simp only [cI,cP,be,c7];omega),e0.of ⟨jc++[cK ((gM.take i).drop s),cK [c]],i+1,_,_,rfl,?_,b4 _,by omega,?_,by simp only [cI,be,c7];omega⟩⟩⟩
     ·rw [ip,es];simp [cK]
     ·rw [<- hd,if_neg (by intro dt;have:=congrArg mB dt;rw [qK,c7] at this;omega),show (gM.take (i+1)).drop (i+1)=[] from tk (by rw [lb];omega)];simp
    ·have nz:s=i:=by have:=of_decide_eq_false b6;omega
     subst nz;refine ⟨bn bg trivial,dW bg ⟨AA (by rw [cP];omega),e0.of ⟨jc++[cK [c]],s+1,_,_,rfl,?_,b4 _,by omega,?_,by simp only [cI,be,c7];omega⟩⟩⟩
     ·rw [ip];simp [cK]
     ·rw [<- hd,if_pos (List.eq_nil_of_length_eq_zero (by rw [qK];omega)),show (gM.take (s+1)).drop (s+1)=[] from tk (by rw [lb];omega)];simp
   ·rw [i5,DV,decide_eq_false_iff_not,dr] at cq;rw [if_neg cq] at hd;refine e0.of ⟨jc,s,_,_,rfl,rfl,by omega,by omega,?_,by omega⟩;rw [<- hd,aaW,List.drop_append_of_le_length (by rw [lb];omega)]
 ·rintro ρ ap ⟨jc,s,eE,iZ,rfl,rfl,ax,uZ,hd,aA⟩
  have iQ:(⟨nc z,λ _=>True⟩:ly).items.length=gM.length:=by show (nc z).length=_;unfold nc;rw [cP,List.length_zipIdx,xW]
  rw [iQ] at ax uZ hd aA
  have qK:((gM.take gM.length).drop s).length=gM.length - s:=by rw [jQ,lb];omega
  rw [List.drop_length,bh] at hd;refine ⟨big (by omega),⟨λ b6=>?_,λ b6=>?_⟩⟩
  ·have nz:s < gM.length:=by have:=of_decide_eq_true b6;omega
   have es:Txt.slice z (some (s:Int)) none=cK ((gM.take gM.length).drop s):=by
    rw [PyProof.Rows.slice_from_eq (x:=z) (i:=s) (by omega) (by omega) rfl,xW];refine ma ?_;rw [dk,vo];show (gM.drop s).take _=_;rw [tj];rw [jQ];omega
   refine ⟨bn bg trivial,⟨big (by omega),dW bg ⟨AA (by rw [cP];omega),?_⟩⟩⟩;rw [ip,es];rw [if_neg (by intro dt;have:=congrArg mB dt;rw [qK,c7] at this;omega)] at hd;have:=q a ay;rw [<- hd,mC] at this;exact bo.of this
  ·have nz:s=gM.length:=by have:=of_decide_eq_false b6;omega
   rw [if_pos (List.eq_nil_of_length_eq_zero (by rw [qK];omega)),eP] at hd;have:=q a ay;rw [<- hd] at this;exact bo.of this
abbrev FQ:b1:=top 49
def aaX:ez ["_law_kind_here"] ["_law_kind_here"] (cW FQ):=⟨rfl,rfl,rfl,by trivial,rfl,by trivial,by trivial⟩
def aaY:dp P w K mg base dz 1 f fd ["_law_kind_here"] (bB K (xn 0)):=r3 λ ds G az h=>by obtain ⟨_,_,_,_,h,_⟩:=h;omega
def aaZ{n:Nat}(B:fB mg)(ow:Got P w K mg base (n+1) "_law_kind_text" ["_law_kind_here"] (bB K (xn n)))(F:ed K "_law_kind_text" "_law_kind_text" FQ f fd):dp P w K mg base dz (n+2) f fd ["_law_kind_here"] (bB K (xn (n+1))):=by
 refine gx (k:=n+1) F aaX (λ ds G az h=>?_) (λ bW A outer s H E ak ds G az h=>?_)
 ·obtain ⟨_,_,rfl,_⟩:=h;rfl
 obtain ⟨d,x,rfl,ai,hd,ax,q⟩:=h
 refine ⟨_,(bt (c8 (bQ (c6 (b9 ak)) (bx bz (ao 0) aG (λ _ _=>rfl)) a0 (bF _)) (bG (cu (lx WG rfl B.str PyProof.Rows.boot_str (aq (bx bz (ao 0) aG (λ _ _=>rfl)) aI)))) dw)
  (bt (c8 (bQ (c6 (b9 ak)) (bx bz (ao 0) aG (λ _ _=>rfl)) a0 (bF _)) (bG (cu a0)) dw)
  (bt (c8 (bQ (c6 (b9 ak)) (bx bz (ao 0) aG (λ _ _=>rfl)) a0 (bF _)) (bG (cu (bI da (bI da a0 (cG ow ak (by omega) rfl (aq (bx bz (ao 0) aG (λ _ _=>rfl)) aI))) a0))) dw)
  (bt (c8 (bQ (c6 (b9 ak)) (bx bz (ao 0) aG (λ _ _=>rfl)) a0 (bF _)) (bG (cu (bI da (bI da a0 (cG ow ak (by omega) rfl (aq (bx bz (ao 0) aG (λ _ _=>rfl)) aI))) a0))) dw)
  (bt (c8 (bQ (c6 (b9 ak)) (bx bz (ao 0) aG (λ _ _=>rfl)) a0 (bF _)) (bG (cu (bI da (bI da (bI da (bI da a0 (cG ow ak (by omega) rfl (aq (bx bz (ao 0) aG (λ _ _=>rfl)) aI))) a0) (cG ow ak (by omega) rfl (aq (bx bz (ao 0) aG (λ _ _=>rfl)) aI))) a0))) dw)
  (bG (cu (bI da (bI da (bI da (bI da a0 (hu PySem.F.plainAttrs_str PySem.F.slot_str_join PySem.F.type_str_join As a0 (aq (t6 rfl (g_.of (N':=["_law_one"]) (nt:=1) (cap:=[]) rfl (by kernel_rfl)) (ph (k:=0) (by decide)) (rW (bx bz (ao 0) aG (λ _ _=>rfl))) (λ _ _ _ _=>(iN (k:=0) (show List.Nodup (["_law_one"]:List Str) by trivial) rfl (Or.inl rfl))) (λ _ _ _ _=>(cG ow ak (by omega) rfl (aq (ao 0) aI)))) aI))) a0) (cG ow ak (by omega) rfl (aq (bx bz (ao 0) aG (λ _ _=>rfl)) aI))) a0)))))))),?_⟩
 have aa0:=ai.sh ax
 cases ai with
 | is m hm=>rw [xg] at q;exact ⟨λ _=>⟨W9 hm,bo.of q⟩,λ c=>absurd c (by decide)⟩
 | some=>rw [xg] at q;exact ⟨λ c=>absurd c (by decide),λ _=>⟨λ _=>bo.of q,λ c=>absurd c (by decide)⟩⟩
 | @left a x h0=>
  have kt:=h0.sh (by simp only [dc,cR] at ax;omega);have cv:=AC (z:=("(" : Str)) (by decide) kt;refine ⟨λ c=>absurd c (by decide),λ _=>⟨λ c=>absurd c (by decide),λ _=>⟨λ _=>⟨a,x,rfl,h0,(by simp only [D.aS,cb] at hd;omega),(by simp only [dc,cR] at ax;omega),⟨lits (by decide) kt,AB (by decide) cv,bo.of ?_⟩⟩,λ c=>absurd c (by decide)⟩⟩⟩;rw [show (("(" : Str)++txt x++(",)" : Str))=txt ("("::(x++[(",":Str),(")":Str)])) from ma (by simp [f_,dk,cat,dj,W6])];exact q
 | @right a x h0=>
  have kt:=h0.sh (by simp only [dc,cR] at ax;omega);have eM:=AC (z:=("(," : Str)) (by decide) kt;refine ⟨λ c=>absurd c (by decide),λ _=>⟨λ c=>absurd c (by decide),λ _=>⟨λ c=>absurd c (by decide),λ _=>⟨λ _=>⟨a,x,rfl,h0,(by simp only [D.aS,cb] at hd;omega),(by simp only [dc,cR] at ax;omega),⟨lits (by decide) kt,AB (by decide) eM,bo.of ?_⟩⟩,λ c=>absurd c (by decide)⟩⟩⟩⟩;rw [show (("(," : Str)++txt x++(")" : Str))=txt ("("::","::(x++[(")":Str)])) from ma (by simp [f_,dk,cat,dj,W7])];exact q
 | @both a b x y ae ag=>
  have kt:=ae.sh (by simp only [dc,cR] at ax;omega);have agb:=ag.sh (by simp only [dc,cR] at ax;omega);have cv:=AC (z:=("(" : Str)) (by decide) kt
  have eM:(("(" : Str)++txt x++("," : Str)).length<=240004:=by rw [gb,W_];omega
  refine ⟨λ c=>absurd c (by decide),λ _=>⟨λ c=>absurd c (by decide),λ _=>⟨λ c=>absurd c (by decide),λ _=>⟨λ c=>absurd c (by decide),λ _=>⟨λ _=>⟨a,x,rfl,ae,(by simp only [D.aS,cb] at hd;omega),(by simp only [dc,cR] at ax;omega),⟨lits (by decide) kt,AB (by decide) cv,b,y,rfl,ag,(by simp only [D.aS,cb] at hd;omega),(by simp only [dc,cR] at ax;omega),big (by omega),big ?_,bo.of ?_⟩⟩,λ c=>absurd c (by decide)⟩⟩⟩⟩⟩
  ·rw [gb,Ml];omega
  ·rw [show (("(" : Str)++txt x++("," : Str)++txt y++(")" : Str))=txt ("("::(x++("," : Str)::(y++[(")":Str)]))) from ma (by simp [f_,dk,cat,dj])];exact q
 | @way ps k y ae ag agc=>
  have kt:=ag.sh (by simp only [dc,cR] at ax;omega);have u0:=xh (ps.map (·.2))
  have uZ:(cat (dB (" " : Str) (ps.map (·.2)))).length<=240000:=by
   have:(cat ("["::(dB (" " : Str) (ps.map (·.2))++(":" : Str)::(y++[("]":Str)])))).length<=240000:=aa0;simp only [cat,dj,cI] at this;omega
  refine ⟨λ c=>absurd c (by decide),λ _=>⟨λ c=>absurd c (by decide),λ _=>⟨λ c=>absurd c (by decide),λ _=>⟨λ c=>absurd c (by decide),λ _=>⟨λ c=>absurd c (by decide),λ _=>⟨trivial,qB ps (·.1) (λ p=>.str (txt p.2)) rfl (gL (by omega)) trivial (λ p ah R dT=>⟨p.1,p.2,rfl,ae p ah,?_,?_,dT⟩) (λ l ar=>bn bg ⟨(ps.map (·.2)).map txt,by simp,by decide,?_,?_⟩)⟩⟩⟩⟩⟩⟩
  ·have:=t9 (h8 (f:=(·.1)) ah);simp only [D.aS,cb] at hd;omega
  ·have:=Aj (h8 (f:=(·.1)) ah);simp only [dc,cR] at ax;omega
  ·rw [cP,cP,oF];show ((ps.map (·.2)).map λ x=>(cat x).length).sum+_<=_;omega
  ·rw [Az];have cv:(txt (dB (" " : Str) (ps.map (·.2)))).length<=240000:=uZ;have eM:=AC (z:=("[" : Str)) (by decide) cv
   have iw:(("[" : Str)++txt (dB (" " : Str) (ps.map (·.2)))++(":" : Str)).length<=240004:=by rw [gb,Xa];omega
   refine ⟨lits (by decide) cv,AB (by decide) eM,k,y,rfl,ag,(by simp only [D.aS,cb] at hd;omega),(by simp only [dc,cR] at ax;omega),big (by omega),big ?_,⟨G,Sub.new (Sub.refl _) ar,?_⟩⟩
   ·rw [gb,Xb];omega
   ·rw [show (("[" : Str)++txt (dB (" " : Str) (ps.map (·.2)))++(":" : Str)++txt y++("]" : Str))=txt ("["::(dB (" " : Str) (ps.map (·.2))++(":" : Str)::(y++[("]":Str)]))) from ma (by simp [f_,dk,cat,dj])];exact q
abbrev FR:b1:=top 26
def OO:ez ["text", "most", "figures"] ["text", "most"] (cW FR):=⟨rfl,rfl,rfl,by trivial,rfl,by trivial,by trivial⟩
def aa1(B:fB mg){aa2:Tok}(FS:mg "FIGURES" = some (.str kV aa2))(FT:Got P w K mg base 1 "made_of" ["text", "signs"] (bB K DW))(F:ed K "is_whole_text" "is_whole_text" FR f fd):dp P w K mg base dz 2 f fd ["text", "most"] (bB K Ea):=by
 refine gx (k:=1) F OO (λ ds G az h=>?_) (λ bW A outer s H E ak ds G az h=>?_)
 ·obtain ⟨_,rfl,_⟩:=h;rfl
 obtain ⟨z,rfl,hz,q⟩:=h
 refine ⟨_,(bt (cU (k:=2) OO.bv rfl (Or.inl rfl) (TZ (jw (hu PySem.F.plainAttrs_str PySem.F.slot_str_startswith PySem.F.type_str_startswith LO (ao 0) (aq a0 aI))) (iM qH (ao 0) (f9 aG) jx) (ao 0)))
  (bt (c8 (m1 (fc.at (lY (Wy J3 J3 aG (du eU rfl B.len eQ (aq (ao 2) aI)) (ao 1)) (lX (jw (cG FT ak (by omega) rfl (aq (ao 2) (aq (kP (d:=.str _) (v:=.str _) rfl FS ⟨_,rfl⟩ (λ _=>rfl)) aI)))))))) (bG (cu qx)) dw)
  (bG (cu (TX (zD (hu PySem.F.plainAttrs_str PySem.F.slot_str_startswith PySem.F.type_str_startswith LO (ao 2) (aq a0 aI))) (o_ (j5 (c6 (b9 ak)) (ao 0) a0 (bF _)))))))),?_⟩
 have Nj:=LY z;unfold jd at q;refine ⟨trivial,⟨λ ax=>⟨kb (by omega),?_⟩,λ ax=>?_⟩⟩
 ·rw [show Txt.slice z (some 1) none=bare z from (if_pos ax).symm];generalize bare z=y at q Nj ⊢;refine ⟨kb (by omega),⟨λ cq=>⟨λ b6=>⟨y,kV,rfl,by omega,⟨λ fz=>bo.of ?_,λ fz=>⟨trivial,⟨λ ie=>bo.of ?_,λ ie=>bo.of ?_⟩⟩⟩⟩,λ b6=>⟨λ _=>bo.of ?_,λ c=>zZ c⟩⟩,λ cq=>⟨λ c=>Di c,λ _=>⟨λ _=>bo.of ?_,λ c=>zZ c⟩⟩⟩⟩
  ·rw [cq,b6,show l_ y kV=false by simpa using fz] at q;exact q
  ·rw [cq,b6,show l_ y kV=true by simpa using fz,ie] at q;exact q
  ·rw [cq,b6,show l_ y kV=true by simpa using fz,ie] at q;exact q
  ·rw [cq,b6] at q;exact q
  ·rw [cq] at q;exact q
 ·rw [show bare z=z from if_neg (by rw [ax];decide)] at q;refine ⟨kb (by omega),⟨λ cq=>⟨λ b6=>⟨z,kV,rfl,by omega,⟨λ fz=>bo.of ?_,λ fz=>⟨trivial,⟨λ ie=>bo.of ?_,λ ie=>bo.of ?_⟩⟩⟩⟩,λ b6=>⟨λ _=>bo.of ?_,λ c=>zZ c⟩⟩,λ cq=>⟨λ c=>Di c,λ _=>⟨λ _=>bo.of ?_,λ c=>zZ c⟩⟩⟩⟩
  ·rw [cq,b6,show l_ z kV=false by simpa using fz] at q;exact q
  ·rw [cq,b6,show l_ z kV=true by simpa using fz,ie] at q;exact q
  ·rw [cq,b6,show l_ z kV=true by simpa using fz,ie] at q;exact q
  ·rw [cq,b6] at q;exact q
  ·rw [cq] at q;exact q
abbrev FU:b1:=top 46
def FV:ez ["_law_feed_here", "_law_deep", "_law_form", "_law_one"] ["_law_feed_here", "_law_deep"] (cW FU):=⟨rfl,rfl,rfl,by trivial,rfl,by trivial,by trivial⟩
def aa3:dp P w K mg base dz 2 f fd ["_law_feed_here", "_law_deep"] (bB K (xk 0)):=r3 λ ds G az h=>by obtain ⟨_,_,_,_,_,_,_⟩:=h;omega
def aa4{n:Nat}(B:fB mg)(fq:Got P w K mg base 1 "_law_take" ["_law_feed_here", "_law_many"] (bB K m6))(u1:Got P w K mg base (n+2) "_law_answer_kind" ["_law_feed_here", "_law_deep"] (bB K (xk n)))(F:ed K "_law_answer_kind" "_law_answer_kind" FU f fd):dp P w K mg base dz (n+3) f fd ["_law_feed_here", "_law_deep"] (bB K (xk (n+1))):=by
 refine gx (k:=n+2) F FV (λ ds G az h=>?_) (λ bW A outer s H E ak ds G az h=>?_)
 ·obtain ⟨_,_,rfl,_⟩:=h;rfl
 obtain ⟨a,k,rfl,bT,k0,k1,k3,q⟩:=h
 refine ⟨_,(bt (cU (k:=2) FV.bv rfl (Or.inl rfl) (cG fq ak (by omega) rfl (aq (ao 0) (aq aG aI))))
  (bt (c8 (fc.at (lY (bQ n9 (ao 1) aG (bF _)) (lX (bQ n9 (ao 2) aG (bF _))))) (bt (cU (k:=3) FV.bv rfl (Or.inl rfl) (cG u1 ak (by omega) rfl (aq (ao 0) (aq (bI iv (ao 1) aG) aI))))
  (bG (cu (fM (aq a0 (aq (ao 3) (aq (cG u1 ak (by omega) rfl (aq (ao 0) (aq (bI iv (ao 1) aG) aI))) aI))))))) dw)
  (bt (c8 (bQ (c6 (b9 ak)) (ao 2) aG (bF _)) (bG (cu (fM (aq a0 aI)))) dw)
  (bG (cu (fM (aq a0 (aq (oc (aq (bI iv (cG fq ak (by omega) rfl (aq (ao 0) (aq aG aI))) aG) (aq (bI iv (cG fq ak (by omega) rfl (aq (ao 0) (aq aG aI))) aG) aI)) (lx Ul rfl B.int yQ (aq (j5 (c6 (b9 ak)) (ao 2) aG (bF _)) aI)) (λ _ _=>rfl)) aI)))))))),?_⟩
 have nu:k≠0->2 ^ k.toNat=2 * 2 ^ (k - 1).toNat:=λ h=>by rw [show k.toNat=(k - 1).toNat+1 by omega,Nat.pow_succ];omega
 have cE:∀ j,1<=2 ^ j:=λ j=>Nat.one_le_two_pow;have iz:=cE k.toNat;refine ⟨bT,by decide,by decide,λ q0 aB c9 f0 f1=>⟨λ c=>⟨λ b6=>?_,λ b6=>?_⟩,λ c=>⟨λ c=>absurd c (by decide),λ _=>?_⟩⟩⟩
 ·have dm:=of_decide_eq_true c;have agd:=nu (by omega);have age:=cE (k - 1).toNat;refine ⟨a,k - 1,rfl,c9.fd,by omega,by omega,by omega,λ ey aY d4 aE d9=>⟨a,k - 1,rfl,d4.fd,by omega,by omega,by omega,λ fy d3 ig aP cZ=>bo.of (q _ _ (c9.trans (d4.trans ig)) ((Xh aE aP d9 cZ).mono (by omega) (by omega)) rfl)⟩⟩
 ·exact ⟨λ _=>bo.of (q _ _ c9 (Mq.mono (by omega) (by omega)) rfl),λ _=>⟨c9.fd,by decide,by decide,λ eg aY d4 aa5 a1=>⟨d4.fd,by decide,by decide,λ eh d3 ig b0 dx=>at2 (by split<;>omega) (by split<;>omega) (λ _=>bo.of (q _ _ (c9.trans (d4.trans ig)) ((AH (by omega)).mono (by omega) (by omega)) rfl)) (λ _=>bo.of (q _ _ (c9.trans (d4.trans ig)) ((AH (by omega)).mono (by omega) (by omega)) rfl))⟩⟩⟩
 ·exact ⟨λ _=>bo.of (q _ _ c9 (Mq.mono (by omega) (by omega)) rfl),λ _=>⟨c9.fd,by decide,by decide,λ eg aY d4 aa5 a1=>⟨d4.fd,by decide,by decide,λ eh d3 ig b0 dx=>at2 (by split<;>omega) (by split<;>omega) (λ _=>bo.of (q _ _ (c9.trans (d4.trans ig)) ((AH (by omega)).mono (by omega) (by omega)) rfl)) (λ _=>bo.of (q _ _ (c9.trans (d4.trans ig)) ((AH (by omega)).mono (by omega) (by omega)) rfl))⟩⟩⟩
abbrev FW:b1:=top 47
def u2:ez ["_law_feed_here", "_law_deep", "_law_form", "_law_one", "_law_k", "_law_bag"] ["_law_feed_here", "_law_deep"] (cW FW):=⟨rfl,rfl,rfl,by trivial,rfl,by trivial,by trivial⟩
def aa6:dp P w K mg base dz 7 f fd ["_law_feed_here", "_law_deep"] (bB K (xl 0)):=r3 λ ds G az h=>by obtain ⟨_,_,_,_,_,_,_,_⟩:=h;omega
def aa7{n:Nat}(B:fB mg)(fq:Got P w K mg base 1 "_law_take" ["_law_feed_here", "_law_many"] (bB K m6))(u1:Got P w K mg base 6 "_law_answer_kind" ["_law_feed_here", "_law_deep"] (bB K (xk 4)))(q1:Got P w K mg base (n+7) "_law_kind" ["_law_feed_here", "_law_deep"] (bB K (xl n)))(F:ed K "_law_kind" "_law_kind" FW f fd):dp P w K mg base dz (n+8) f fd ["_law_feed_here", "_law_deep"] (bB K (xl (n+1))):=by
 refine gx (k:=n+7) F u2 (λ ds G az h=>?_) (λ bW A outer s H E ak ds G az h=>?_)
 ·obtain ⟨_,_,rfl,_⟩:=h;rfl
 obtain ⟨a,k,rfl,bT,k0,k1,k3,q⟩:=h
 refine ⟨_,(bt (cU (k:=2) u2.bv rfl (Or.inl rfl) (cG fq ak (by omega) rfl (aq (ao 0) (aq aG aI))))
  (bt (c8 (fc.at (iu (bQ (c6 (b9 ak)) (ao 1) aG (bF _)) (j7 (bQ jy (ao 2) aG (bF _))))) (bG (cu (cG u1 ak (by omega) rfl (aq (ao 0) (aq (du (Un rfl) rfl B.min PyProof.Rows.boot_min (aq (ao 1) (aq aG aI))) aI))))) dw)
  (bt (c8 (bQ jy (ao 2) aG (bF _)) (bG (cu (fM (aq (oc (aq a0 (aq a0 aI)) (bI iv (ao 2) aG) (λ _ _=>rfl)) (aq (cG q1 ak (by omega) rfl (aq (ao 0) (aq (bI iv (ao 1) aG) aI))) aI))))) dw)
  (bt (c8 (bQ (c6 (b9 ak)) (ao 2) aG (bF _)) (bt (cU (k:=3) u2.bv rfl (Or.inl rfl) (cG q1 ak (by omega) rfl (aq (ao 0) (aq aG aI))))
  (bt (wF PassesOwn.never rfl (CZ rfl B.range (aq (cG fq ak (by omega) rfl (aq (ao 0) (aq aG aI))) aI)) (iN (k:=4) u2.bv rfl (Or.inl rfl)) (bG (cU (k:=3) u2.bv rfl (Or.inl rfl) (fM (aq (oc (aq a0 (aq a0 aI)) (cG fq ak (by omega) rfl (aq (ao 0) (aq aG aI))) (λ _ _=>rfl)) (aq (ao 3) aI))))))
  (bG (cu (ao 3))))) dw)
  (bt (C4 (k:=5) rfl u2.bv rfl (Or.inl rfl) (g_.of (N':=["_law_k", "_law_feed_here", "_law_deep"]) (nt:=1) (cap:=[0,1]) rfl (by kernel_rfl)) (ph (k:=0) (by decide)) (CZ rfl B.range (aq (cG fq ak (by omega) rfl (aq (ao 0) (aq (oc (aq aG (aq aG (aq aG (aq aG aI)))) (ao 1) (λ _ _=>rfl)) aI))) aI)) (λ _ _ _ _=>(iN (k:=0) (show List.Nodup (["_law_k", "_law_feed_here", "_law_deep"]:List Str) by trivial) rfl (Or.inl rfl)))  (λ _ _ _ _=>(cG q1 ak (by omega) rfl (aq (ao 1) (aq (bI iv (ao 2) aG) aI)))))
  (bt (c8 (fc.at (lY (bQ n9 (du eU rfl B.len eQ (aq (ao 5) aI)) aG (bF _)) (lX (bQ (c6 (b9 ak)) (cG fq ak (by omega) rfl (aq (ao 0) (aq aG aI))) aG (bF _))))) (bG (zF (bx bz (ao 5) aG (λ _ _=>rfl)) (zV (ao 5) aG))) dw)
  (bG (cu (fM (aq a0 (aq (l3 (lx wz rfl B.tuple mF (aq (du (Vx (b9 ak)) rfl B.sorted PyProof.Rows.boot_sorted (aq (ao 5) aI)) aI))) (aq (cG q1 ak (by omega) rfl (aq (ao 0) (aq (bI iv (ao 1) aG) aI))) aI)))))))))))),?_⟩
 have q2:(if (3:Int) < k then (3:Int) else k)=k:=if_neg (by omega)
 have jB:k=0\/k=1\/k=2\/k=3:=by omega
 have OP:∀ d,gc (16 * 2 ^ k.toNat - 3) (k.toNat+1) d->gc (lC k.toNat) (kY k.toNat) d:=λ d e=>by rcases jB with rfl | rfl | rfl | rfl<;>exact e.mono (by decide) (by decide)
 have aa8:k≠0->lC (k - 1).toNat+3<=lC k.toNat/\1+kY (k - 1).toNat<=kY k.toNat:=λ h=>by rcases jB with rfl | rfl | rfl | rfl<;>first | exact absurd rfl h | decide
 have aa9:k≠0->100<=lC k.toNat/\24<=kY k.toNat:=λ h=>by rcases jB with rfl | rfl | rfl | rfl<;>first | exact absurd rfl h | decide
 refine ⟨bT,by decide,by decide,λ q0 aB c9 f0 f1=>⟨λ c=>⟨λ _=>?_,λ c=>absurd c (by decide)⟩,λ c=>⟨λ b6=>?_,λ b6=>⟨λ fz=>?_,λ fz=>⟨λ ie=>?_,λ ie=>?_⟩⟩⟩⟩⟩
 ·exact ⟨a,if (3:Int) < k then 3 else k,rfl,c9.fd,by rw [q2];omega,by rw [q2];omega,by rw [q2];omega,λ d aY d4 e o=>bo.of (q d aY ⟨aY,c9.trans d4,.refl _⟩ (OP d (by rw [q2] at e;exact e)) (λ _=>o))⟩
 ·exact ⟨a,if (3:Int) < k then 3 else k,rfl,c9.fd,by rw [q2];omega,by rw [q2];omega,by rw [q2];omega,λ d aY d4 e o=>bo.of (q d aY ⟨aY,c9.trans d4,.refl _⟩ (OP d (by rw [q2] at e;exact e)) (λ _=>o))⟩
 ·have agf:=of_decide_eq_true fz;have nz:=of_decide_eq_false b6
  have nA:k≠0:=by rintro rfl;cases c
  obtain ⟨s1,s2⟩:=aa8 nA
  refine at2 (i:=q0 - 4) (by omega) (by omega) (λ _=>⟨a,k - 1,rfl,c9.fd,by omega,by omega,by omega,λ d aY eu e _=>bo.of (q _ aY (e5.trans (.of c9) eu) ((Mr e).mono s1 s2) (λ z=>absurd z nA))⟩) λ _=>⟨a,k - 1,rfl,c9.fd,by omega,by omega,by omega,λ d aY eu e _=>bo.of (q _ aY (e5.trans (.of c9) eu) ((Ms e).mono s1 s2) (λ z=>absurd z nA))⟩
 ·have nA:k≠0:=by rintro rfl;cases c
  obtain ⟨s1,s2⟩:=aa9 nA;refine ⟨a,0,rfl,c9.fd,by omega,by omega,by omega,λ jz aY eu dt _=>⟨eu.fd,by decide,by decide,λ m d3 ig m0 eg=>CY (by omega) ?_⟩⟩;refine ⟨λ i ρ ap=>∃(d:D)(eE iZ:Option D),ρ=[some (.ref a),some (.int k),some (.int q0),some d,eE,iZ]/\e5 a G ap/\gc (13+3 * i) (1+i) d,⟨jz,_,_,rfl,e5.trans (.of c9) (eu.trans (.of ig)),dt⟩,λ _ _ _ _ _=>trivial,?_,?_⟩
  ·rintro i e ρ ap he ⟨d,eE,iZ,rfl,w,hd⟩;refine ⟨w.fd,by decide,by decide,λ j ht jl Bi eT=>at2 Bi (by omega) (λ _=>e0.of ⟨_,_,_,rfl,w.trans (.of jl),(Mr hd).mono (by omega) (by omega)⟩) (λ _=>e0.of ⟨_,_,_,rfl,w.trans (.of jl),(Ms hd).mono (by omega) (by omega)⟩)⟩
  ·rintro ρ ap ⟨d,eE,iZ,rfl,w,hd⟩;have iQ:(⟨kS 0 m.toNat,λ _=>True⟩:ly).items.length=m.toNat:=tZ;rw [iQ] at hd;exact bo.of (q d _ w (hd.mono (by omega) (by omega)) (λ z=>absurd z nA))
 ·have nA:k≠0:=by rintro rfl;cases c
  obtain ⟨b,af,h5⟩:∃ b:Int,((k=1/\b=7)\/(k=2/\b=4)\/(k=3/\b=3))/\gj [D.int 0,.int 7,.int 4,.int 3] k=some (.int b):=by
   rcases jB with h | rfl | rfl | rfl
   ·exact absurd h nA
   ·exact ⟨7,.inl ⟨rfl,rfl⟩,rfl⟩
   ·exact ⟨4,.inr (.inl ⟨rfl,rfl⟩),rfl⟩
   ·exact ⟨3,.inr (.inr ⟨rfl,rfl⟩),rfl⟩
  refine wQ (wq h5 ?_)
  have kw:∀(ds:List D)(nZ:D),(∀ d∈ds,gc (lC (k - 1).toNat) (kY (k - 1).toNat) d)->hy ds=true->gc (lC (k - 1).toNat) (kY (k - 1).toNat) nZ->(ds.length:Int) < b->gc (lC k.toNat) (kY k.toNat) (.tup [.str "way", .tup ds,nZ]):=λ ds nZ ae ax ag ar=>by
   rcases af with ⟨rfl,rfl⟩ | ⟨rfl,rfl⟩ | ⟨rfl,rfl⟩
   ·exact (El (n:=6) ae ax ag (by omega) (by decide)).mono (by decide) (by decide)
   ·exact (El (n:=3) ae ax ag (by omega) (by decide)).mono (by decide) (by decide)
   ·exact (El (n:=2) ae ax ag (by omega) (by decide)).mono (by decide) (by decide)
  have agg:kY (k - 1).toNat<=28:=by rcases af with ⟨rfl,_⟩ | ⟨rfl,_⟩ | ⟨rfl,_⟩<;>decide
  refine ⟨c9.fd,by omega,by omega,λ m aY d4 m0 eg=>CY (by omega) ?_⟩;refine KR a id (λ d=>gc (lC (k - 1).toNat) (kY (k - 1).toNat) d) ?_ (λ _=>trivial) d4.fd (λ d G R hf h=>⟨a,k - 1,rfl,hf,by omega,by omega,by omega,λ d ap x e _=>h d ap x e⟩) λ ds d3 FX f6 ig p ah=>?_
  ·show (kS 0 (m:Int).toNat).length<=1000;rw [tZ];omega
  have jJ:(ds.length:Int) < b:=by
   have e:ds.length=(kS 0 (m:Int).toNat).length:=FX;rw [tZ] at e;omega
  rw [List.map_id]
  have FY:∀ b o,b≠a->G b=some o->up d3 p (.lst ds) b=some o:=λ b o nb e=>by
   have ae:d3 b=some o:=(c9.trans (d4.trans ig)).c2 nb e;rw [dh (by rintro rfl;rw [ah] at ae;cases ae)];exact ae
  refine bn bg ⟨λ ie=>⟨ig.fd.new ah,by decide,by decide,λ j ht jl Bi eT=>⟨λ u3=>?_,λ u3=>?_⟩⟩,λ ie=>⟨λ c=>absurd c (by decide),λ _=>?_⟩⟩
  ·have nB:=jl.c2 (ig.fd.ne ah) bg
   obtain ⟨x,y,zs,rfl⟩:∃ x y zs,ds=x::y::zs:=by
    have FZ:=of_decide_eq_true ie;rcases ds with _ | ⟨x,_ | ⟨y,zs⟩⟩
    ·simp at FZ
    ·simp at FZ
    ·exact ⟨x,y,zs,rfl⟩
   refine dE nB (d:=x) (hp (j:=0) rfl) (dW nB ⟨1,by unfold L2.kN;rw [if_pos (by decide),if_pos (by simp only [be];omega)];rfl,?_⟩);have bX:∀ d∈(x::y::zs).set 1 x,gc (lC (k - 1).toNat) (kY (k - 1).toNat) d:=KS f6 (f6 x (b3 ..))
   have fj:(((x::y::zs).set 1 x).length:Int) < b:=by rw [th];exact jJ
   have X:∀ e1 bV,eH a (up ht p (.lst ((x::y::zs).set 1 x))) bV->Sub bV e1->∃ bV,eH a G bV/\Sub bV e1:=λ e1 bV g6 lK=>z3 (λ b o nb e=>by
    have ae:=FY b o nb e;have ag:=jl.c2 nb ae
    have abb:b≠p:=by rintro rfl;rw [(c9.trans (d4.trans ig)).none ah] at e;cases e
    rw [dh abb];exact ag) g6 lK
   refine bn (bg) ⟨by have:=fj;omega,λ d hd=>⟨(bX d hd).1.l9,by have:=(bX d hd).2.1;omega⟩,λ ke mq l6 dO ep=>bn bg ⟨_,Sub.new (Sub.refl _) ep,⟨a,k - 1,rfl,(by obtain ⟨K7,K8,bZ⟩:=jl.fd;exact ⟨K7,K8,by rw [dh (Ne.symm (ig.fd.ne ah))];exact bZ⟩),by omega,by omega,by omega,λ d e1 ⟨bV,g6,lK⟩ o5 _=>bo.of (q _ e1 (X e1 bV g6 lK) (kw _ _ (λ d hd=>bX d (mq.mem_iff.mpr hd)) (Al l6) o5 (by rw [<- mq.length_eq];exact fj)) (λ z=>absurd z nA))⟩⟩⟩
  ·have nB:=jl.c2 (ig.fd.ne ah) bg;have X:∀ e1 bV,eH a ht bV->Sub bV e1->∃ bV,eH a G bV/\Sub bV e1:=λ e1 bV g6 lK=>z3 (λ b o nb e=>jl.c2 nb (FY b o nb e)) g6 lK;refine bn (nB) ⟨by have:=jJ;omega,λ d hd=>⟨(f6 d hd).1.l9,by have:=(f6 d hd).2.1;omega⟩,λ ke mq l6 dO ep=>bn bg ⟨_,Sub.new (Sub.refl _) ep,⟨a,k - 1,rfl,jl.fd,by omega,by omega,by omega,λ d e1 ⟨bV,g6,lK⟩ o5 _=>bo.of (q _ e1 (X e1 bV g6 lK) (kw _ _ (λ d hd=>f6 d (mq.mem_iff.mpr hd)) (Al l6) o5 (by rw [<- mq.length_eq];exact jJ)) (λ z=>absurd z nA))⟩⟩⟩
  ·have X:∀ e1 bV,eH a (up d3 p (.lst ds)) bV->Sub bV e1->∃ bV,eH a G bV/\Sub bV e1:=λ e1 bV g6 lK=>z3 FY g6 lK;refine bn (bg) ⟨by have:=jJ;omega,λ d hd=>⟨(f6 d hd).1.l9,by have:=(f6 d hd).2.1;omega⟩,λ ke mq l6 dO ep=>bn bg ⟨_,Sub.new (Sub.refl _) ep,⟨a,k - 1,rfl,(ig.fd.new ah),by omega,by omega,by omega,λ d e1 ⟨bV,g6,lK⟩ o5 _=>bo.of (q _ e1 (X e1 bV g6 lK) (kw _ _ (λ d hd=>f6 d (mq.mem_iff.mpr hd)) (Al l6) o5 (by rw [<- mq.length_eq];exact jJ)) (λ z=>absurd z nA))⟩⟩⟩
abbrev F0:b1:=top 48
def pU:ez ["_law_feed_here", "_law_room", "_law_deep", "_law_form", "_law_leaf", "_law_word", "_law_half", "_law_one", "_law_many", "_law_some"] ["_law_feed_here", "_law_room", "_law_deep"] (cW F0):=⟨rfl,rfl,rfl,by trivial,rfl,by trivial,by trivial⟩
def abd:dp P w K mg base dz 12 f fd ["_law_feed_here", "_law_room", "_law_deep"] (bB K (xm 0)):=r3 λ ds G az h=>by obtain ⟨_,_,_,_,_,_,_,_,_,_⟩:=h;omega
def abe{n:Nat}(B:fB mg)(fq:Got P w K mg base 1 "_law_take" ["_law_feed_here", "_law_many"] (bB K m6))(q1:Got P w K mg base 11 "_law_kind" ["_law_feed_here", "_law_deep"] (bB K (xl 4)))(pV:Got P w K mg base (n+12) "_law_shape" ["_law_feed_here", "_law_room", "_law_deep"] (bB K (xm n)))(F:ed K "_law_shape" "_law_shape" F0 f fd):dp P w K mg base dz (n+13) f fd ["_law_feed_here", "_law_room", "_law_deep"] (bB K (xm (n+1))):=by
 refine gx (k:=n+12) F pU (λ ds G az h=>?_) (λ bW A outer s H E ak ds G az h=>?_)
 ·obtain ⟨_,_,_,rfl,_⟩:=h;rfl
 obtain ⟨a,r,k,rfl,bT,agh,aX,k0,k1,agi,q⟩:=h
 refine ⟨_,(bt (cU (k:=3) pU.bv rfl (Or.inl rfl) (cG fq ak (by omega) rfl (aq (ao 0) (aq aG aI))))
  (bt (c8 (fc.at (iu (bQ jy (ao 1) aG (bF _)) (iu (bQ jy (ao 2) aG (bF _)) (j7 (bQ jy (ao 3) aG (bF _)))))) (bt (cU (k:=4) pU.bv rfl (Or.inl rfl) (cG fq ak (by omega) rfl (aq (ao 0) (aq aG aI))))
  (bt (c8 (bQ jy (ao 4) aG (bF _)) (bG (cu (oc (aq (fM (aq a0 aI)) (aq (fM (aq a0 aI)) aI)) (ao 4) (λ _ _=>rfl)))) dw)
  (bG (cu (fM (aq a0 (aq (cG q1 ak (by omega) rfl (aq (ao 0) (aq (bI iv (ao 4) aG) aI))) aI))))))) dw)
  (bt (c8 (bQ jy (ao 3) aG (bF _)) (bt (cU (k:=5) pU.bv rfl (Or.inl rfl) (oc (aq a0 (aq a0 (aq a0 (aq a0 (aq a0 aI))))) (bI iv (ao 3) aG) (λ _ _=>rfl)))
  (bG (cu (fM (aq (ao 5) (aq (cG pV ak (by omega) rfl (aq (ao 0) (aq (bI iv (ao 1) aG) (aq (bI iv (ao 2) aG) aI)))) aI)))))) dw)
  (bt (cU (k:=6) pU.bv rfl (Or.inr rfl) (bI zI (bI iv (ao 1) aG) aG))
  (bt (c8 (bQ jy (ao 3) aG (bF _)) (bt (cU (k:=7) pU.bv rfl (Or.inl rfl) (cG pV ak (by omega) rfl (aq (ao 0) (aq (ao 6) (aq (bI iv (ao 2) aG) aI)))))
  (bG (cu (fM (aq (oc (aq a0 (aq a0 (aq a0 aI))) (bI iv (ao 3) aG) (λ _ _=>rfl)) (aq (ao 7) (aq (cG pV ak (by omega) rfl (aq (ao 0) (aq (ao 6) (aq (bI iv (ao 2) aG) aI)))) aI))))))) dw)
  (bt (cU (k:=7) pU.bv rfl (Or.inl rfl) (cG pV ak (by omega) rfl (aq (ao 0) (aq (ao 6) (aq (bI iv (ao 2) aG) aI)))))
  (bt (cU (k:=8) pU.bv rfl (Or.inr rfl) (cG fq ak (by omega) rfl (aq (ao 0) (aq aG aI))))
  (bt (C4 (k:=9) rfl pU.bv rfl (Or.inl rfl) (g_.of (N':=["_law_k", "_law_feed_here", "_law_half", "_law_deep", "_law_many"]) (nt:=1) (cap:=[0,6,2,8]) rfl (by kernel_rfl)) (ph (k:=0) (by decide)) (CZ rfl B.range (aq (ao 8) aI)) (λ _ _ _ _=>(iN (k:=0) (show List.Nodup (["_law_k", "_law_feed_here", "_law_half", "_law_deep", "_law_many"]:List Str) by trivial) rfl (Or.inl rfl)))  (λ _ _ _ _=>(cG pV ak (by omega) rfl (aq (ao 1) (aq (bI zI (ao 2) (du (Um rfl) rfl B.max PyProof.Rows.boot_max (aq (ao 4) (aq aG aI)))) (aq (bI iv (ao 3) aG) aI))))))
  (bt (c8 (fc.at (lY (bQ n9 (ao 8) aG (bF _)) (lX (bQ (c6 (b9 ak)) (cG fq ak (by omega) rfl (aq (ao 0) (aq aG aI))) aG (bF _))))) (bG (zF (bx bz (ao 9) aG (λ _ _=>rfl)) (zV (ao 9) aG))) dw)
  (bG (cu (fM (aq a0 (aq (ao 7) (aq (lx wz rfl B.tuple mF (aq (ao 9) aI)) aI))))))))))))))),?_⟩
 have F1:∀(j:Nat)(iS:D),j<=3->gc (lC j) (kY j) iS->gC (2100 * (8 * r.toNat+1)) (40+2 * k.toNat) (.tup [.str "name", iS]):=λ j iS bw e=>by
  have ae:lC j<=1223/\kY j<=28:=by
   have:∀ j < 4,lC j<=1223/\kY j<=28:=by decide
   exact this j (by omega)
  have aP:=e.2.1;exact (Xi (e.mono (by omega) (by omega))).mono (by omega) (by omega)
 refine ⟨bT,by decide,by decide,λ q0 aB c9 f0 f1=>⟨λ _=>⟨λ _=>?_,nofun⟩,λ cr=>⟨λ _=>⟨λ _=>?_,nofun⟩,λ DD=>⟨λ _=>?_,λ wU=>?_⟩⟩⟩⟩
 ·exact ⟨c9.fd,by decide,by decide,λ lf aY d4 kt cv=>⟨λ c=>at2 kt (by have:=of_decide_eq_true c;omega) (λ _=>bo.of (q _ _ (.of (c9.trans d4)) (Em.mono (by omega) (by omega)))) (λ _=>bo.of (q _ _ (.of (c9.trans d4)) (En.mono (by omega) (by omega)))),λ c=>⟨a,lf - 1,rfl,d4.fd,by have:=of_decide_eq_false c;omega,by omega,by omega,λ iS d3 ik e3 _=>bo.of (q _ _ (e5.trans (.of (c9.trans d4)) ik) (F1 _ _ (by omega) e3))⟩⟩⟩
 ·exact ⟨c9.fd,by decide,by decide,λ lf aY d4 kt cv=>⟨λ c=>at2 kt (by have:=of_decide_eq_true c;omega) (λ _=>bo.of (q _ _ (.of (c9.trans d4)) (Em.mono (by omega) (by omega)))) (λ _=>bo.of (q _ _ (.of (c9.trans d4)) (En.mono (by omega) (by omega)))),λ c=>⟨a,lf - 1,rfl,d4.fd,by have:=of_decide_eq_false c;omega,by omega,by omega,λ iS d3 ik e3 _=>bo.of (q _ _ (e5.trans (.of (c9.trans d4)) ik) (F1 _ _ (by omega) e3))⟩⟩⟩
 ·exact ⟨c9.fd,by decide,by decide,λ lf aY d4 kt cv=>⟨λ c=>at2 kt (by have:=of_decide_eq_true c;omega) (λ _=>bo.of (q _ _ (.of (c9.trans d4)) (Em.mono (by omega) (by omega)))) (λ _=>bo.of (q _ _ (.of (c9.trans d4)) (En.mono (by omega) (by omega)))),λ c=>⟨a,lf - 1,rfl,d4.fd,by have:=of_decide_eq_false c;omega,by omega,by omega,λ iS d3 ik e3 _=>bo.of (q _ _ (e5.trans (.of (c9.trans d4)) ik) (F1 _ _ (by omega) e3))⟩⟩⟩
 have bj:2<=r:=by have:=of_decide_eq_false cr;omega
 have eY:1<=k:=by have:=of_decide_eq_false DD;omega
 have MQ:2<=q0:=by have:=of_decide_eq_false wU;omega
 refine ⟨λ c=>?_,λ c=>⟨⟨by decide,by decide⟩,?_⟩⟩
 ·have dm:=of_decide_eq_true c;have un:∀ z:Str,z∈hK->∀ d,gC (2100 * (8 * (r - 1).toNat+1)) (40+2 * (k - 1).toNat) d->gC (2100 * (8 * r.toNat+1)) (40+2 * k.toNat) (.tup [.str z,d]):=λ z hz d h=>(Xj hz h).mono (by omega) (by omega)
  exact KQ (by omega) (by show q0 - 2 < 5;omega) λ d hd=>by
   simp only [cB,fR,or_false] at hd;rcases hd with rfl | rfl | rfl | rfl | rfl<;>exact ⟨a,r - 1,k - 1,rfl,c9.fd,by omega,by omega,by omega,by omega,by omega,λ d aY eu dN=>bo.of (q _ _ (e5.trans (.of c9) eu) (un _ (by decide) d dN))⟩
 have xX:7<=q0:=by have:=of_decide_eq_false c;omega
 obtain ⟨h,df⟩:∃ h:Int,(r - 1) / 2=h:=⟨_,rfl⟩
 have h0:0<=h:=by omega
 have ae:2 * h<=r - 1:=by omega
 refine ⟨λ c=>⟨a,(r - 1) / 2,k - 1,rfl,c9.fd,by omega,by omega,by omega,by omega,by omega,λ ey aY eu cE=>?_⟩,λ c=>⟨a,(r - 1) / 2,k - 1,rfl,c9.fd,by omega,by omega,by omega,by omega,by omega,λ ey aY eu cE=>⟨eu.fd,by decide,by decide,λ m d3 ig m0 eg=>CY (by omega) ?_⟩⟩⟩
 ·have dm:=of_decide_eq_true c;have bi:∀ z:Str,z∈hA->∀ d fy,gC (2100 * (8 * ((r - 1) / 2).toNat+1)) (40+2 * (k - 1).toNat) d->gC (2100 * (8 * ((r - 1) / 2).toNat+1)) (40+2 * (k - 1).toNat) fy->gC (2100 * (8 * r.toNat+1)) (40+2 * k.toNat) (.tup [.str z,d,fy]):=λ z hz d fy h h'=>(Xk hz h h').mono (by omega) (by omega)
  exact KQ (by omega) (by show q0 - 7 < 3;omega) λ d hd=>by
   simp only [cB,fR,or_false] at hd;rcases hd with rfl | rfl | rfl<;>exact ⟨a,(r - 1) / 2,k - 1,rfl,eu.fd,by omega,by omega,by omega,by omega,by omega,λ fy d3 ik dN=>bo.of (q _ _ ((e5.trans (.of c9) eu).trans ik) (bi _ (by decide) ey fy cE dN))⟩
 obtain ⟨jK,xY⟩:∃ jK:Int,(if (1:Int) > m then 1 else m)=jK:=⟨_,rfl⟩
 have abf:0 < jK:=by rw [<- xY];split<;>omega
 have abg:m<=jK/\jK<=7:=by rw [<- xY];split<;>omega
 have gd:0<=h / jK:=Int.ediv_nonneg h0 (by omega);have g1:(h / jK) * jK<=h:=Int.ediv_mul_le h (by omega);have g2:m * (h / jK)<=h:=Int.le_trans (by rw [Int.mul_comm];exact Int.mul_le_mul_of_nonneg_left abg.1 gd) g1;have g3:h / jK<=h:=Int.ediv_le_self _ h0
 have hmul:m.toNat * (h / jK).toNat<=h.toNat:=by
  have aE:((m.toNat * (h / jK).toNat:Nat):Int)=m * (h / jK):=by rw [Int.natCast_mul,Int.toNat_of_nonneg m0,Int.toNat_of_nonneg gd]
  omega
 have ring:∀ a b:Nat,a * (2100 * (8 * b+1)+1)=16800 * (a * b)+2101 * a:=λ a b=>by
  have:2100 * (8 * b+1)+1=16800 * b+2101:=by omega
  rw [this,Nat.mul_add,Nat.mul_comm a 2101,<- Nat.mul_assoc,Nat.mul_comm a 16800,Nat.mul_assoc]
 have F2:∀ ds:List D,(∀ d∈ds,gC (2100 * (8 * (h / jK).toNat+1)) (40+2 * (k - 1).toNat) d)->ds.length=m.toNat->gC (2100 * (8 * r.toNat+1)) (40+2 * k.toNat) (.tup [.str "give", ey,.tup ds]):=λ ds f6 ar=>by
  have z:=Xl cE f6 (Nat.le_of_eq ar) (by omega);rw [ring] at z;refine z.mono ?_ (by omega);omega
 refine KR a id (λ d=>gC (2100 * (8 * (h / jK).toNat+1)) (40+2 * (k - 1).toNat) d) ?_ (λ _=>trivial) ig.fd (λ d G R hf dT=>⟨⟨by show 0 < (if (1:Int) > m then 1 else m);rw [xY];exact abf,by show (if (1:Int) > m then 1 else m) < 2 ^ 64;rw [xY];omega⟩,a,h / jK,k - 1,by rw [<- xY,<- df],hf,by omega,by omega,by omega,by omega,by omega,λ d ap x e=>dT d ap x e⟩) λ ds ht FX f6 jl p ah=>?_
 ·show (kS 0 (m:Int).toNat).length<=1000;rw [tZ];omega
 have jJ:ds.length=m.toNat:=by
  have e:ds.length=(kS 0 (m:Int).toNat).length:=FX;rw [tZ] at e;omega
 rw [List.map_id];have ik:e5 a G ht:=(e5.trans (.of c9) eu).trans (.of (ig.trans jl));have F3:p≠a:=jl.fd.ne ah;refine ⟨λ rZ=>⟨jl.fd.new ah,by decide,by decide,λ j l2 Bo Bi eT=>⟨λ u3=>?_,λ u3=>?_⟩⟩,λ rZ=>⟨λ c=>absurd c (by decide),λ _=>bn bg ⟨ht,Sub.new (Sub.refl _) ah,q _ _ ik (F2 ds f6 jJ)⟩⟩⟩
 ·have ox:=Bo.c2 F3 bg;obtain ⟨qC,iJ,lF⟩:=eH.drop ah Bo jl.fd
  have wJ:qC p=none:=by rw [lF.other F3];exact ah
  obtain ⟨x,y,z,zs,rfl⟩:∃ x y z zs,ds=x::y::z::zs:=by
   have FZ:=of_decide_eq_true rZ;rcases ds with _ | ⟨x,_ | ⟨y,_ | ⟨z,zs⟩⟩⟩
   ·simp at jJ;omega
   ·simp at jJ;omega
   ·simp at jJ;omega
   ·exact ⟨x,y,z,zs,rfl⟩
  refine dE ox (d:=x) (hp (j:=0) rfl) (dW ox ⟨2,by unfold L2.kN;rw [if_pos (by decide),if_pos (by simp only [be];omega)];rfl,?_⟩);exact bn bg ⟨qC,Sub.new iJ wJ,q _ _ (ik.trans (.of lF)) (F2 _ (KS f6 (f6 x (b3 ..))) (by rw [th];exact jJ))⟩
 ·have ox:=Bo.c2 F3 bg;obtain ⟨qC,iJ,lF⟩:=eH.drop ah Bo jl.fd;exact bn ox ⟨qC,iJ,q _ _ (ik.trans (.of lF)) (F2 ds f6 jJ)⟩
abbrev F4:b1:=top 50
def F5:ez ["_law_paper", "_law_some"] ["_law_paper"] (cW F4):=⟨rfl,rfl,rfl,by trivial,rfl,by trivial,by trivial⟩
def abh:dp P w K mg base dz 2 f fd ["_law_paper"] (bB K (pI 0)):=r3 λ ds G az h=>by obtain ⟨_,_,_,_,h,_⟩:=h;omega
def abi{n:Nat}(B:fB mg)(ow:Got P w K mg base (n+1) "_law_kind_text" ["_law_kind_here"] (bB K (xn n)))(ku:Got P w K mg base (n+2) "_law_text" ["_law_paper"] (bB K (pI n)))(F:ed K "_law_text" "_law_text" F4 f fd):dp P w K mg base dz (n+3) f fd ["_law_paper"] (bB K (pI (n+1))):=by
 refine gx (k:=n+2) F F5 (λ ds G az h=>?_) (λ bW A outer s H E ak ds G az h=>?_)
 ·obtain ⟨_,_,rfl,_⟩:=h;rfl
 obtain ⟨d,x,rfl,ai,hd,ax,q⟩:=h
 refine ⟨_,(bt (c8 (bQ (c6 (b9 ak)) (bx bz (ao 0) aG (λ _ _=>rfl)) a0 (bF _)) (bG (cu (bI da a0 (cG ow ak (by omega) rfl (aq (bx bz (ao 0) aG (λ _ _=>rfl)) aI))))) dw)
  (bt (c8 (bQ (c6 (b9 ak)) (bx bz (ao 0) aG (λ _ _=>rfl)) a0 (bF _)) (bG (cu a0)) dw)
  (bt (c8 (bQ (c6 (b9 ak)) (bx bz (ao 0) aG (λ _ _=>rfl)) a0 (bF _)) (bG (cu a0)) dw)
  (bt (cU (k:=1) F5.bv rfl (Or.inl rfl) (iM n_ (ao 0) (f9 aG) jx))
  (bt (c8 (bQ (c6 (b9 ak)) (bx bz (ao 0) aG (λ _ _=>rfl)) a0 (bF _)) (bG (cU (k:=1) F5.bv rfl (Or.inl rfl) (l3 (bI da (gX (aq (bx bz (ao 0) aG (λ _ _=>rfl)) aI)) (lx wA rfl B.list vx (aq (bx bz (ao 0) aG (λ _ _=>rfl)) aI)))))) dw)
  (bG (cu (bI da (bI da (bI da (bI da a0 (bx bz (ao 0) aG (λ _ _=>rfl))) a0) (hu PySem.F.plainAttrs_str PySem.F.slot_str_join PySem.F.type_str_join As a0 (aq (t6 rfl (g_.of (N':=["_law_one"]) (nt:=1) (cap:=[]) rfl (by kernel_rfl)) (ph (k:=0) (by decide)) (rW (ao 1)) (λ _ _ _ _=>(iN (k:=0) (show List.Nodup (["_law_one"]:List Str) by trivial) rfl (Or.inl rfl))) (λ _ _ _ _=>(cG ku ak (by omega) rfl (aq (ao 0) aI)))) aI))) a0)))))))),?_⟩
 cases ai with
 | some=>rw [xg] at q;exact ⟨λ c=>absurd c (by decide),λ _=>⟨λ _=>bo.of q,λ c=>absurd c (by decide)⟩⟩
 | whole=>rw [xg] at q;exact ⟨λ c=>absurd c (by decide),λ _=>⟨λ c=>absurd c (by decide),λ _=>⟨λ _=>bo.of q,λ c=>absurd c (by decide)⟩⟩⟩
 | @name k x ae ag aO bX=>rw [<- Xr] at q;exact ⟨λ _=>⟨k,x,rfl,ae,(by simp only [D.aS,cb] at hd;omega),aO.h_,⟨lits (by decide) (ae.sh aO.h_),bo.of q⟩⟩,λ c=>absurd c (by decide)⟩
 | @node z ps _ aA ah=>
  have hz:=(ol z (jF aA)).2.2;have abj:=(si aA).2;rw [cP] at abj
  have cX:ps.map (·.2)≠[]:=by
   have:=(si aA).1;intro e;apply this;rw [List.map_eq_nil_iff] at *;exact e
  have hO:∀ p∈ps,p.1.aS < n:=λ p i0=>by
   have:=mc aA (h8 (f:=(·.1)) i0);omega
  have l8:z.cps.toList.length=z.length:=hF;have hB:=ax
  have Bp:(cat (br (ps.map (·.2)))).length+z.length+2<=700000:=by
   rw [fl,fm] at ax;simp only [cat,dj,dk,cI,be,c7] at ax;omega
  have lD:∀ p∈ps,(cat p.2).length<=700000:=λ p i0=>by
   have:=Ep (h8 (f:=(·.2)) i0);omega
  have uZ:(cat (dB (" " : Str) (ps.map (·.2)))).length+1=(cat (br (ps.map (·.2)))).length:=by
   rw [AK cX,cat,iA];simp only [cI,be,c7];omega
  have u0:=xh (ps.map (·.2))
  have SB:((ps.map (·.2)).map ((λ x=>x.length) ∘ txt)).sum+ps.length<=1048576:=by
   show ((ps.map (·.2)).map λ x=>(cat x).length).sum+_<=_;omega
  have q3:(("(" : String):Str).length=1:=by decide
  have fin:∀(e1:aL)(l:Addr),e1 l=none->Sub G e1->((("(" : Str)++z++(" " : Str)).length+(Txt.join (" " : Str) ((ps.map (·.2)).map txt)).length<=sizeLine/\(("(" : Str)++z++(" " : Str)++Txt.join (" " : Str) ((ps.map (·.2)).map txt)).length+((")" : String):Str).length<=sizeLine/\bo az (.str (("(" : Str)++z++(" " : Str)++Txt.join (" " : Str) ((ps.map (·.2)).map txt)++(")" : Str))) (up e1 l (.lst (ps.map λ p=>.str (txt p.2))))):=λ e1 l ar dr=>by
   have lt:(txt (dB (" " : Str) (ps.map (·.2)))).length=(cat (dB (" " : Str) (ps.map (·.2)))).length:=rfl;rw [Az];refine ⟨big (by rw [gb,gb,q3,xp];omega),big (by rw [gb,gb,gb,q3,xp,Ml];omega),⟨G,Sub.ext' dr ar,?_⟩⟩;rw [Mz cX];exact q
  generalize he:ps.map (·.1)=es at aA;clear hB ax
  cases aA with
  | un p hw=>
   simp only [hK,cB,fR,or_false] at hw;rcases hw with rfl | rfl | rfl | rfl | rfl<;>exact ⟨λ c=>absurd c (by decide),λ _=>⟨λ c=>absurd c (by decide),λ _=>⟨λ c=>absurd c (by decide),λ _=>⟨λ c=>absurd c (by decide),λ _=>⟨big (by rw [q3];omega),big (by rw [gb,q3,xp];omega),trivial,qB ps (·.1) (λ p=>.str (txt p.2)) he.symm (gL (by omega)) trivial (λ p i0 R dT=>⟨p.1,p.2,rfl,ah p i0,hO p i0,lD p i0,dT⟩) (λ l ar=>bn bg ⟨(ps.map λ p:D × List Str=>p.2).map txt,by simp,by decide,by rw [cP,cP,oF];exact SB,fin _ _ ar (Sub.refl _)⟩)⟩⟩⟩⟩⟩
  | bi p dO hw=>
   simp only [hA,cB,fR,or_false] at hw;rcases hw with rfl | rfl | rfl<;>exact ⟨λ c=>absurd c (by decide),λ _=>⟨λ c=>absurd c (by decide),λ _=>⟨λ c=>absurd c (by decide),λ _=>⟨λ c=>absurd c (by decide),λ _=>⟨big (by rw [q3];omega),big (by rw [gb,q3,xp];omega),trivial,qB ps (·.1) (λ p=>.str (txt p.2)) he.symm (gL (by omega)) trivial (λ p i0 R dT=>⟨p.1,p.2,rfl,ah p i0,hO p i0,lD p i0,dT⟩) (λ l ar=>bn bg ⟨(ps.map λ p:D × List Str=>p.2).map txt,by simp,by decide,by rw [cP,cP,oF];exact SB,fin _ _ ar (Sub.refl _)⟩)⟩⟩⟩⟩⟩
  | give p bE OQ=>
   refine ⟨λ c=>absurd c (by decide),λ _=>⟨λ c=>absurd c (by decide),λ _=>⟨λ c=>absurd c (by decide),λ _=>⟨λ _=>?_,λ c=>absurd c (by decide)⟩⟩⟩⟩;intro cE fQ dN kv;have kp:=Sub.ext' (o:=.lst [p]) (Sub.refl G) fQ;have hM:=Sub.ext' (o:=.lst bE) (Sub.refl _) kv;refine dW (hM cE _ bg) (dW bg ⟨big (by simp;omega),λ q4 mr=>⟨_,Sub.refl _,?_⟩⟩);have kq:=Sub.ext' (o:=.lst ([p]++bE)) (Sub.refl _) mr;exact ⟨big (by rw [q3];omega),big (by rw [gb,q3,xp];omega),trivial,wC bg (qB ps (·.1) (λ p=>.str (txt p.2)) he.symm (gL (by omega)) bg (λ p i0 R dT=>⟨p.1,p.2,rfl,ah p i0,hO p i0,lD p i0,dT⟩) (λ l ar=>bn bg ⟨(ps.map λ p:D × List Str=>p.2).map txt,by simp,by decide,by rw [cP,cP,oF];exact SB,fin _ _ ar (kp.trans (hM.trans kq))⟩))⟩
abbrev F6:b1:=top 32
def abk:ez ["piece"] ["piece"] (cW F6):=⟨rfl,rfl,rfl,by trivial,rfl,by trivial,by trivial⟩
def abl(B:fB mg){F7:Tok}{bL:Addr}(gP:pN P w K mg base 1 "NoText" bL "at")(F8:mg "MOST_FIGURES" = some (.int 12 F7))(F9:Got P w K mg base 2 "is_whole_text" ["text", "most"] (bB K Ea))(F:ed K "read_piece" "read_piece" F6 f fd):dp P w K mg base (fo P w) 3 f fd ["piece"] (gD K (EM bL)):=by
 refine sC (k:=2) F abk (λ ds G az dl h=>?_) (λ bW A outer s H E ak ds G az dl h fZ=>?_)
 ·obtain ⟨_,rfl,_⟩:=h;rfl
 obtain ⟨p,rfl,ah,d9,cZ⟩:=h
 refine ⟨_,(fA (eA.x (c8 (bQ tX (ao 0) a0 (by with_unfolding_all rfl)) (bG (cu (ao 0))) dw))
  (fA (eA.x (c8 (bQ (c6 (b9 ak)) (ao 0) a0 (bF _)) (bG (cu (fM (aq a0 aI)))) dw))
  (fA (jh (m1 (jw (cG F9 ak (by omega) rfl (aq (ao 0) (aq (kP (d:=.int _) (v:=.int _) rfl F8 ⟨_,rfl⟩ (λ _=>rfl)) aI))))) (fP (mh fZ gP ak (by omega) rfl aG)) mf)
  (fP (eA.x (cu (fM (aq a0 (aq (lx WY rfl B.int yQ (aq (ao 0) aI)) aI))))))))),?_⟩
 refine ⟨λ c=>bo.of (d9 _ ?_),λ c=>⟨λ b6=>bo.of (d9 _ ?_),λ b6=>⟨p,rfl,ah,⟨λ fz=>⟨rfl,G,Sub.refl _,cZ ?_⟩,λ fz=>?_⟩⟩⟩⟩
 ·have ci:lH p=true:=by rw [i5] at c;exact c
  unfold hh;rw [if_pos ci]
 ·have ci:lH p=false:=by rw [i5] at c;exact c
  have nz:p = "~":=eq_of_beq b6;unfold hh;rw [if_neg (by rw [ci];decide),if_pos nz]
 ·have ci:lH p=false:=by rw [i5] at c;exact c
  have nz:p≠"~":=λ e=>by subst e;cases b6
  unfold hh;rw [if_neg (by rw [ci];decide),if_neg nz,if_neg (by simpa using fz)]
 ·have ci:lH p=false:=by rw [i5] at c;exact c
  have nz:p≠"~":=λ e=>by subst e;cases b6
  have wU:jd p=true:=by simpa using fz
  obtain ⟨ae,ag⟩:=YU wU;exact ⟨om p,ae,by omega,bo.of (d9 _ (by unfold hh;rw [if_neg (by rw [ci];decide),if_neg nz,if_pos wU]))⟩
abbrev F_:b1:=top 35
def abm:ez ["row"] ["row"] (cW F_):=⟨rfl,rfl,rfl,by trivial,rfl,by trivial,by trivial⟩
def abn(B:fB mg){bL:Addr}(gP:pN P w K mg base 1 "NoText" bL "at")(F:ed K "pair_closed" "pair_closed" F_ f fd):dp P w K mg base (fo P w) 3 f fd ["row"] (gD K (EO bL)):=by
 refine sC (k:=2) F abm (λ ds G az dl h=>?_) (λ bW A outer s H E ak ds G az dl h fZ=>?_)
 ·obtain ⟨_,_,rfl,_⟩:=h;rfl
 obtain ⟨l,row,rfl,ar,am,d9,cZ⟩:=h
 refine ⟨_,(fA (eA.x (c8 (fc.at (lY (bQ (c6 (b9 ak)) (du eU rfl B.len eQ (aq (ao 0) aI)) aG (bF _)) (lX (bQ (sb (b9 ak)) (bx bz (ao 0) aG (λ _ _=>rfl)) a0 (bF _))))) (bG (cu (fM (aq a0 (aq (bx bz (ao 0) aG (λ _ _=>rfl)) aI))))) dw))
  (fA (eA.x (c8 (fc.at (lY (bQ (c6 (b9 ak)) (du eU rfl B.len eQ (aq (ao 0) aI)) aG (bF _)) (lX (bQ (sb (b9 ak)) (bx bz (ao 0) aG (λ _ _=>rfl)) a0 (bF _))))) (bG (cu (fM (aq a0 (aq (bx bz (ao 0) aG (λ _ _=>rfl)) aI))))) dw))
  (fA (eA.x (c8 (fc.at (lY (bQ (c6 (b9 ak)) (du eU rfl B.len eQ (aq (ao 0) aI)) aG (bF _)) (lX (bQ (sb (b9 ak)) (bx bz (ao 0) aG (λ _ _=>rfl)) a0 (bF _))))) (bG (cu (fM (aq a0 (aq (bx bz (ao 0) aG (λ _ _=>rfl)) (aq (bx bz (ao 0) aG (λ _ _=>rfl)) aI)))))) dw))
  (fP (mh fZ gP ak (by omega) rfl aG))))),?_⟩
 by_cases ag:row.length=2
 ·obtain ⟨a,b,rfl⟩:∃ a b,row=[a,b]:=by
   match row,ag with
   | [a,b],_=>exact ⟨a,b,rfl⟩
  obtain ⟨a1,a2⟩:=am.at_ (i:=0) (d:=a) rfl;obtain ⟨dx,cV⟩:=am.at_ (i:=1) (d:=b) rfl;refine bn ar (bS.yes rfl (dE ar (d:=b) rfl (EQ dx cV ⟨λ c=>dE ar (d:=a) rfl (bo.of (d9 _ ?_)),λ c=>bn ar (bS.yes rfl (dE ar (d:=a) rfl (EQ a1 a2 ⟨λ fz=>dE ar (d:=b) rfl (bo.of (d9 _ ?_)),λ fz=>bn ar (bS.no rfl (bS.no rfl ⟨rfl,G,Sub.refl _,cZ ?_⟩))⟩)))⟩)))
  ·simp only [pO];rw [if_pos c]
  ·simp only [pO];rw [if_neg (by rw [c];decide),if_pos fz]
  ·simp only [pO];rw [if_neg (by rw [c];decide),if_neg (by rw [fz];decide)]
 ·have b8:(((row.length:Int))==2)=false:=by simp;omega
  refine bn ar (bS.no b8 (bS.no rfl (bn ar (bS.no b8 (bS.no rfl (bn ar ?_))))));by_cases aO:row.length=3
  ·obtain ⟨a,b,d,rfl⟩:∃ a b d,row=[a,b,d]:=by
    match row,aO with
    | [a,b,d],_=>exact ⟨a,b,d,rfl⟩
   obtain ⟨dx,cV⟩:=am.at_ (i:=1) (d:=b) rfl;refine bS.yes rfl (dE ar (d:=b) rfl (EQ dx cV ⟨λ c=>dE ar (d:=a) rfl (dE ar (d:=d) rfl (bo.of (d9 _ ?_))),λ c=>⟨rfl,G,Sub.refl _,cZ ?_⟩⟩))
   ·simp only [pO];rw [if_pos c]
   ·simp only [pO];rw [if_neg (by rw [c];decide)]
  ·exact bS.no (by simp;omega) (bS.no rfl ⟨rfl,G,Sub.refl _,cZ (YV ag aO)⟩)
abbrev Ga:b1:=top 33
def abo:ez ["frame", "sign"] ["frame", "sign"] (cW Ga):=⟨rfl,rfl,rfl,by trivial,rfl,by trivial,by trivial⟩
def abp{bL:Addr}(gP:pN P w K mg base 1 "NoText" bL "at")(Gb:iE P w K mg base 3 "way_closed" ["row"] (gD K (EN bL)))(Gd:iE P w K mg base 3 "pair_closed" ["row"] (gD K (EO bL)))(F:ed K "kind_closed" "kind_closed" Ga f fd):dp P w K mg base (fo P w) 4 f fd ["frame", "sign"] (gD K (EP bL)):=by
 refine sC (k:=3) F abo (λ ds G az dl h=>?_) (λ bW A outer s H E ak ds G az dl h fZ=>?_)
 ·obtain ⟨_,_,_,_,rfl,_⟩:=h;rfl
 obtain ⟨l,b,p,row,rfl,ar,am,aA,d9,cZ⟩:=h
 refine ⟨_,(fA (jh (fc.at (lY (bQ (c6 (b9 ak)) (bx bz (ao 0) aG (λ _ _=>rfl)) a0 (bF _)) (lX (bQ (c6 (b9 ak)) (ao 1) a0 (bF _))))) (fP (M6 (uJ fZ Gb ak (by omega) rfl (aq (iM n_ (ao 0) (f9 aG) jx) aI)))) mf)
  (fA (jh (fc.at (lY (bQ (c6 (b9 ak)) (bx bz (ao 0) aG (λ _ _=>rfl)) a0 (bF _)) (lX (bQ (c6 (b9 ak)) (ao 1) a0 (bF _))))) (fP (M6 (uJ fZ Gd ak (by omega) rfl (aq (iM n_ (ao 0) (f9 aG) jx) aI)))) mf)
  (fP (mh fZ gP ak (by omega) rfl aG)))),?_⟩
 have nw:∀{r:Addr}{ds:List D},G r=none->Sub G (up G r (.lst ds)):=λ h=>Sub.new (Sub.refl _) h;refine dE ar (d:=.str b) (hp (j:=0) rfl) ⟨λ cq=>⟨λ b6=>bn ar λ r ak=>⟨r,row,rfl,by rw [bg,xf],am,aA,λ d e=>⟨G,nw ak,d9 d ?_⟩,λ e=>⟨G,nw ak,cZ ?_⟩⟩,λ b6=>?_⟩,λ cq=>bS.no rfl ?_⟩
 ·simp only [gO];rw [if_pos ⟨eq_of_beq cq,eq_of_beq b6⟩];exact e
 ·simp only [gO];rw [if_pos ⟨eq_of_beq cq,eq_of_beq b6⟩];exact e
 ·have mP:¬ (b = "["/\p = "]"):=λ z=>by rw [z.2] at b6;cases b6
  refine dE ar (d:=.str b) (hp (j:=0) rfl) ⟨λ ey=>⟨λ fy=>bn ar λ r ak=>⟨r,row,rfl,by rw [bg,xf],am,λ d e=>⟨G,nw ak,d9 d ?_⟩,λ e=>⟨G,nw ak,cZ ?_⟩⟩,λ fy=>⟨rfl,G,Sub.refl _,cZ ?_⟩⟩,λ ey=>bS.no rfl ⟨rfl,G,Sub.refl _,cZ ?_⟩⟩
  ·simp only [gO];rw [if_neg mP,if_pos ⟨eq_of_beq ey,eq_of_beq fy⟩];exact e
  ·simp only [gO];rw [if_neg mP,if_pos ⟨eq_of_beq ey,eq_of_beq fy⟩];exact e
  ·simp only [gO];rw [if_neg mP,if_neg (λ z=>by rw [z.2] at fy;cases fy)]
  ·simp only [gO];rw [if_neg mP,if_neg (λ z=>by rw [z.1] at ey;cases ey)]
 ·have mP:¬ (b = "["/\p = "]"):=λ z=>by rw [z.1] at cq;cases cq
  refine dE ar (d:=.str b) (hp (j:=0) rfl) ⟨λ ey=>⟨λ fy=>bn ar λ r ak=>⟨r,row,rfl,by rw [bg,xf],am,λ d e=>⟨G,nw ak,d9 d ?_⟩,λ e=>⟨G,nw ak,cZ ?_⟩⟩,λ fy=>⟨rfl,G,Sub.refl _,cZ ?_⟩⟩,λ ey=>bS.no rfl ⟨rfl,G,Sub.refl _,cZ ?_⟩⟩
  ·simp only [gO];rw [if_neg mP,if_pos ⟨eq_of_beq ey,eq_of_beq fy⟩];exact e
  ·simp only [gO];rw [if_neg mP,if_pos ⟨eq_of_beq ey,eq_of_beq fy⟩];exact e
  ·simp only [gO];rw [if_neg mP,if_neg (λ z=>by rw [z.2] at fy;cases fy)]
  ·simp only [gO];rw [if_neg mP,if_neg (λ z=>by rw [z.1] at ey;cases ey)]
abbrev Ge:b1:=top 34
def Gf:ez ["row", "bag", "kinds"] ["row"] (cW Ge):=⟨rfl,rfl,rfl,by trivial,rfl,by trivial,by trivial⟩
def abq(B:fB mg){bL:Addr}(gP:pN P w K mg base 1 "NoText" bL "at")(F:ed K "way_closed" "way_closed" Ge f fd):dp P w K mg base (fo P w) 3 f fd ["row"] (gD K (EN bL)):=by
 refine sC (k:=2) F Gf (λ ds G az dl h=>?_) (λ bW A outer s H E ak ds G az dl h fZ=>?_)
 ·obtain ⟨_,_,rfl,_⟩:=h;rfl
 obtain ⟨l,row,rfl,ar,am,aA,d9,cZ⟩:=h
 refine ⟨_,(fA (jh (fc.at (iu (bQ jy (du eU rfl B.len eQ (aq (ao 0) aI)) aG (bF _)) (j7 (bQ (pq (b9 ak)) (bx bz (ao 0) (mZ m2 aG) (λ _ _=>rfl)) a0 (bF _))))) (fP (mh fZ gP ak (by omega) rfl aG)) mf)
  (fA (eA.x (cU (k:=1) Gf.bv rfl (Or.inl rfl) (iM n_ (ao 0) jx (f9 (mZ m2 aG)))))
  (fA (eA.x (cU (k:=2) Gf.bv rfl (Or.inl rfl) (Aw (ao 1) (f9 aG) (f9 aG))))
  (fA (jh (bQ (pq (b9 ak)) (Aw (ao 1) (f9 aG) (f9 aG)) (l3 (bI Mi (gX (aq a0 aI)) (bI iv (du eU rfl B.len eQ (aq (ao 2) aI)) aG))) (bF _)) (fP (mh fZ gP ak (by omega) rfl aG)) mf)
  (fP (eA.x (cu (fM (aq a0 (aq (lx wz rfl B.tuple mF (aq (ao 2) aI)) (aq (bx bz (ao 0) (mZ m2 aG) (λ _ _=>rfl)) aI))))))))))),?_⟩
 by_cases ag:row.length < 2
 ·exact bn ar (bS.yes (by simp;omega) (bS.yes rfl ⟨rfl,G,Sub.refl _,cZ (YW ag)⟩))
 obtain ⟨ff,c,k,rfl⟩:=YX ag
 have hlen:(ff++[c,k]).length=ff.length+2:=by simp
 obtain ⟨aE,aP⟩:=am c (by simp);have abr:iW (cz (ff.drop 1)):=λ x ai=>am x (by have:=rr (A0 ai);simp [this]);have LZ:=ER ff;rw [Ng] at d9 cZ;refine bn ar (bS.no (by simp;omega) (dE ar (d:=c) (Ec (j:=ff.length) (by decide) (by rw [hlen];omega) (by simp)) (t7 aE (by simp [D.data]) (by omega) ⟨λ ey=>⟨rfl,G,Sub.refl _,cZ (if_neg λ z=>by rw [z.1] at ey;cases ey)⟩,λ ey=>bn ar λ p ah=>?_⟩)))
 have abt:cw c (.str ":")=true:=by simpa using ey
 have abu:cut (ff++[c,k]) none (some (-2))=ff:=by
  unfold cut;rw [show dD.cj (ff++[c,k]).length 0 none=0 from rfl,show dD.cj (ff++[c,k]).length (ff++[c,k]).length (some (-2))=ff.length by rw [hlen];unfold dD.cj;simp only [];rw [if_pos (by omega)];omega,nL,Nat.sub_zero];exact List.take_left' rfl
 rw [abu];have kp:Sub G (up G p (.lst ff)):=Sub.new (Sub.refl _) ah;refine ⟨rfl,bn bg ⟨0,rfl,λ dN kv=>?_⟩⟩;rw [nL];have hM:=Sub.ext' (o:=.lst (cz ff)) (Sub.refl _) kv;refine ⟨rfl,bn (hM p _ bg) ⟨1,rfl,λ q4 mr xb nB=>?_⟩⟩;have kq:=Sub.ext' (o:=.lst (cz (ff.drop 1))) (Sub.refl _) mr;have Bq:=Sub.ext' (o:=.lst [.str " "]) (Sub.refl _) nB;refine bn ((kq.trans Bq) dN _ bg) (bn bg ⟨by omega,by omega,by simp,λ OR ox=>⟨_,Sub.refl _,?_⟩⟩);rw [Ef,show (((cz ff).length:Int) - 1).toNat=(cz ff).length - 1 by omega] at *;have xZ:=Sub.ext' (o:=.lst (fs ((cz ff).length - 1) (.str " "))) (Sub.refl _) ox;obtain ⟨aX,bj⟩:=Ee " " ((cz ff).length - 1);obtain ⟨dx,cV⟩:=Nh abr;have S:=kp.trans (hM.trans (kq.trans (Bq.trans xZ)));refine bn ((Bq.trans xZ) q4 _ bg) (bn bg ⟨dx,aX,cV,⟨λ fy=>⟨rfl,G,S,cZ (if_neg λ z=>?_)⟩,λ fy=>bn ((kq.trans (Bq.trans xZ)) dN _ bg) (dE (S l _ ar) (d:=k) (Ec (j:=ff.length+1) (by decide) (by rw [hlen];omega) (by simp)) ⟨G,S,d9 _ (if_pos ⟨abt,?_⟩)⟩)⟩⟩)
 ·rw [z.2] at fy;cases fy
 ·simpa using fy
abbrev Gg:b1:=top 31
def Br:ez ["text", "frames", "piece", "closed"] ["text"] (cW Gg):=⟨rfl,rfl,rfl,by trivial,rfl,by trivial,by trivial⟩
def abv(B:fB mg){en:Tok}{bL:Addr}(gP:pN P w K mg base 1 "NoText" bL "at")(Gh:mg "SIGNS_kindtexts" = some (.str Eb en))(x0:Got P w K mg base 1 "pieces_of" ["text", "signs"] (bB K Mj))(Gi:iE P w K mg base 4 "kind_closed" ["frame", "sign"] (gD K (EP bL)))(Gj:iE P w K mg base 3 "read_piece" ["piece"] (gD K (EM bL)))(Gk:Got P w K mg base 3 "is_kind" ["thing"] (bB K DP))(F:ed K "read_kind" "read_kind" Gg f fd):dp P w K mg base (fo P w) 6 f fd ["text"] (gD K (Fg bL)):=by
 refine sC (k:=5) F Br (λ ds G az dl h=>?_) (λ bW A outer s H E ak ds G az dl h fZ=>?_)
 ·obtain ⟨_,_,rfl,_⟩:=h;rfl
 obtain ⟨z,o,rfl,hz,abw,d9,cZ⟩:=h
 refine ⟨_,(fA (eA.x (cU (k:=1) Br.bv rfl (Or.inl rfl) (gX (aq (gX aI) aI))))
  (fA (Yz PassesOwn.leaving rfl (rW (cG x0 ak (by omega) rfl (aq (ao 0) (aq (kP (d:=.str _) (v:=.str _) rfl Gh ⟨_,rfl⟩ (λ _=>rfl)) aI)))) (iN (k:=2) Br.bv rfl (Or.inl rfl)) (fP (jh (fc.at (iu (bQ (c6 (b9 ak)) (ao 2) a0 (bF _)) (j7 (bQ (c6 (b9 ak)) (ao 2) a0 (bF _))))) (fP (eA.x (i_ (hu PySem.F.plainAttrs_list PySem.F.slot_list_append PySem.F.type_list_append iO (ao 1) (aq (gX (aq (ao 2) aI)) aI))))) (fP (jh (fc.at (iu (bQ (c6 (b9 ak)) (ao 2) a0 (bF _)) (j7 (bQ (c6 (b9 ak)) (ao 2) a0 (bF _))))) (fA (eA.x (cU (k:=3) Br.bv rfl (Or.inl rfl) (wM PySem.F.plainAttrs_list PySem.F.slot_list_pop PySem.F.type_list_pop zS (ao 1))))
  (fA (jh (bQ (c6 (b9 ak)) (du eU rfl B.len eQ (aq (ao 1) aI)) aG (bF _)) (fP (mh fZ gP ak (by omega) rfl aG)) mf)
  (fP (AW (AZ PySem.F.plainAttrs_list PySem.F.slot_list_append PySem.F.type_list_append iO (bx bz (ao 1) (mZ m2 aG) (λ _ _=>rfl)) (uL (uJ fZ Gi ak (by omega) rfl (aq (ao 3) (aq (ao 2) aI))) xC)))))) (fP (AW (AZ PySem.F.plainAttrs_list PySem.F.slot_list_append PySem.F.type_list_append iO (bx bz (ao 1) (mZ m2 aG) (λ _ _=>rfl)) (uL (uJ fZ Gj ak (by omega) rfl (aq (ao 2) aI)) xC)))))))))
  (fA (jh (fc.at (iu (bQ (pq (b9 ak)) (du eU rfl B.len eQ (aq (ao 1) aI)) aG (bF _)) (iu (bQ (pq (b9 ak)) (du eU rfl B.len eQ (aq (bx bz (ao 1) aG (λ _ _=>rfl)) aI)) aG (bF _)) (j7 (m1 (jw (cG Gk ak (by omega) rfl (aq (bx bz (bx bz (ao 1) aG (λ _ _=>rfl)) aG (λ _ _=>rfl)) aI)))))))) (fP (mh fZ gP ak (by omega) rfl aG)) mf)
  (fP (eA.x (cu (bx bz (bx bz (ao 1) aG (λ _ _=>rfl)) aG (λ _ _=>rfl)))))))),?_⟩
 generalize ai:bh d6 [] z.cps.toList=x at *
 have w1:x.length<=5900:=by
  have:=AD d6 z.cps.toList [];rw [ai] at this;have l8:z.cps.toList.length=z.length:=rfl;simp only [c7] at this;omega
 have g7:∀ p∈x,p.length<=7000:=λ p ah=>by
  have ae:=kg d6 z.cps.toList [];rw [ai,h7] at ae;have ag:=NV ah;rw [ae] at ag;have l8:z.cps.toList.length=z.length:=rfl;omega
 intro hc pW cE fQ;obtain ⟨-,x1,cX⟩:=wR (o:=.lst []) fQ;refine ⟨z,rfl,by omega,λ l ar=>?_⟩;rw [ai]
 have ag:up G hc (.lst []) l=none/\l≠cE:=by
  have n:l≠cE:=by rintro rfl;rw [bg] at ar;cases ar
  rw [dh n] at ar;exact ⟨ar,n⟩
 have aO:G l=none/\l≠hc:=by
  have n:l≠hc:=by rintro rfl;have:=ag.1;rw [bg] at this;cases this
  have:=ag.1;rw [dh n] at this;exact ⟨this,n⟩
 have q5:Sub G (up G l (.lst (x.map D.str))):=Sub.new (Sub.refl _) aO.1
 have pX:up G l (.lst (x.map D.str)) cE=none:=by rw [dh ag.2.symm];exact x1
 refine wC bg ⟨λ i ρ ap=>∃(aC:List (Addr × List D))(gE eE:Option D),ρ=[some (.str z),some (.ref cE),gE,eE]/\Frs ap cE aC/\Sub (up G l (.lst (x.map D.str))) ap/\(∀ p∈aC,up G l (.lst (x.map D.str)) p.1=none)/\eD o (aC.map λ p:Addr × List D=>p.2) (x.drop i)/\aC.length<=i+1/\∀ p∈aC,p.2.length<=i+1,⟨[(hc,[])],_,_,rfl,?_,?_,?_,by exact abw,b4 _,by simp⟩,?_,?_,?_⟩
 ·refine ⟨by rw [dh ag.2.symm,bg];rfl,λ p ah=>?_,by simp,λ p ah=>?_⟩
  ·simp at ah;subst ah;rw [dh aO.2.symm,dh cX.symm];exact bg
  ·simp at ah;subst ah;exact cX.symm
 ·exact Sub.put (Sub.new (Sub.new (Sub.refl _) pW) x1)
 ·intro p ah;simp at ah;subst ah;rw [dh aO.2.symm];exact pW
 ·rintro i ρ ap _ ⟨aC,gE,eE,rfl,bT,dr,_⟩;exact dr l _ bg
 ·rintro i e ρ ap he ⟨aC,gE,eE,rfl,bT,dr,gJ,d5,sT,fK⟩;have iV:(x.map D.str)[i]?=some e:=he;rw [f3] at iV
  obtain ⟨p,am⟩:∃ p,x[i]?=some p:=by
   cases am:x[i]? with
   | none=>rw [am] at iV;cases iV
   | some p=>exact ⟨p,rfl⟩
  rw [am] at iV;cases iV;have eG:=(jo.mp am).1
  have x2:x.drop i=p::x.drop (i+1):=by rw [ro eG,(jo.mp am).2]
  rw [x2] at d5;generalize hB:aC.map (λ p:Addr × List D=>p.2)=st at d5;generalize mt:x.drop (i+1)=abx at d5
  have OS:(p = "]"\/p = ")")->p≠"["/\p≠"(":=λ h=>by rcases h with h | h<;>(rw [h];decide +kernel)
  cases d5 with
  | fG lL d5=>
   refine Fd lL ⟨bn bT.top trivial,λ r ak=>?_⟩
   have c3:r≠cE:=by rintro rfl;rw [bT.top] at ak;cases ak
   have mu:=dr.none ak;exact dW (by rw [dh c3.symm];exact bT.top) ⟨gL (by simp only [cP,i4];omega),e0.of ⟨(r,[.str p])::aC,_,_,rfl,bT.push ak,Sub.new (Sub.new dr mu) pX,qc.mpr ⟨mu,gJ⟩,by rw [mt,fh,hB];exact d5,by simp only [be];omega,NW fK (b4 1)⟩⟩
  | @cl _ b row t st _ _ lL aby aD sU=>
   obtain ⟨aH,bl⟩:=OS lL;obtain ⟨a1,abz,rfl,kk⟩:=sO hB;obtain ⟨a2,dS,rfl,rfl⟩:=sO kk;have hi:=bT.pop;have Bp:=fK _ (b3 ..);have Gl:=qZ fK _ (b3 ..);simp only [be] at Bp Gl sT;exact Bc aH bl (Fd lL ⟨bn bT.top trivial,dW bT.top ⟨(((a2,t)::dS).map (·.1)).reverse.map D.ref,.ref a1,by simp,bn hi.top (bS.no (by simp;omega) (dE hi.top (d:=.ref a2) (hi.xN rfl) ⟨bn (hi.at_ _ (b3 ..)) trivial,⟨a1,b,p,row,rfl,by rw [dh (bT.ne _ (b3 ..))];exact bT.at_ _ (b3 ..),λ d hd=>aby d (cO _ hd),by omega,λ k e=>dW (hi.at_ _ (b3 ..)) ⟨gL (show t.length<=200000 by omega),e0.of ⟨(a2,t++[k])::dS,_,_,rfl,hi.set,Sub.new (Sub.new dr pX) (qZ gJ _ (b3 ..)),xO (P:=λ a=>up G l (.lst (x.map D.str)) a=none) (qZ gJ),by rw [mt];exact aD k e,by simp only [be];omega,xP (qZ fK)⟩⟩,λ e=>⟨G,Sub.trans q5 (Sub.new dr pX),cZ (sU e)⟩⟩⟩))⟩⟩)
  | @xE c _ _ lL=>
   obtain ⟨aH,bl⟩:=OS lL;obtain ⟨a1,rfl⟩:=xQ hB;have hi:=bT.pop;exact Bc aH bl (Fd lL ⟨bn bT.top trivial,dW bT.top ⟨[],.ref a1,by simp,bn hi.top (bS.yes rfl ⟨rfl,G,Sub.trans q5 (Sub.new dr pX),cZ rfl⟩)⟩⟩)
  | @ES _ t st _ _ lL aD sU=>
   simp only [cB,fR,or_false,not_or] at lL;obtain ⟨a,dS,rfl,rfl⟩:=sO hB;have Gl:=fK _ (b3 ..);simp only [be] at Gl sT;exact Bc lL.1 lL.2.1 (Bc lL.2.2.1 lL.2.2.2 (dE bT.top (d:=.ref a) (bT.xN rfl) ⟨bn (bT.at_ _ (b3 ..)) trivial,⟨p,rfl,g7 p (kz am),λ k e=>dW (bT.at_ _ (b3 ..)) ⟨gL (show t.length<=200000 by omega),e0.of ⟨(a,t++[k])::dS,_,_,rfl,bT.set,Sub.new dr (gJ _ (b3 ..)),xO (P:=λ a=>up G l (.lst (x.map D.str)) a=none) gJ,by rw [mt];exact aD k e,by simp only [be];omega,xP fK⟩⟩,λ e=>⟨G,Sub.trans q5 dr,cZ (sU e)⟩⟩⟩))
 ·rintro ρ ap ⟨aC,gE,eE,hρ,bT,dr,gJ,d5,sT,fK⟩
  have iQ:(⟨x.map D.str,λ G=>G l=some (.lst (x.map D.str))⟩:ly).items.length=x.length:=by show (x.map D.str).length=_;rw [cP]
  rw [iQ,List.drop_length] at d5;subst hρ;have S:Sub G ap:=Sub.trans q5 dr;generalize hB:aC.map (λ p:Addr × List D=>p.2)=st at d5
  cases d5 with
  | @fin d aD af=>
   obtain ⟨a,rfl⟩:=xQ hB;have aE:=bT.at_ _ (b3 ..)
   exact bn bT.top (bS.no rfl (dE bT.top (d:=.ref a) rfl (bn aE (bS.no rfl (dE bT.top (d:=.ref a) rfl (dE aE (d:=d) rfl ⟨d,rfl,aD.kM _,af,λ b Gm=>by
    cases b with
    | true=>exact bS.no rfl (dE bT.top (d:=.ref a) rfl (dE aE (d:=d) rfl ⟨G,S,d9 d rfl⟩))
    | false=>exact absurd (Gm.mpr aD) (by decide)⟩))))))
  | ET aA=>
   have hf:aC.length≠1:=λ e=>aA (by rw [<- hB,cP,e]);exact bn bT.top (bS.yes (by simp;omega) (bS.yes rfl ⟨rfl,G,S,cZ rfl⟩))
  | @EU t aA=>
   obtain ⟨a,rfl⟩:=xQ hB;have aE:=bT.at_ _ (b3 ..);exact bn bT.top (bS.no rfl (dE bT.top (d:=.ref a) rfl (bn aE (bS.yes (by simp;omega) (bS.yes rfl ⟨rfl,G,S,cZ rfl⟩)))))
  | @Nl d aA bu af=>
   obtain ⟨a,rfl⟩:=xQ hB;have aE:=bT.at_ _ (b3 ..)
   exact bn bT.top (bS.no rfl (dE bT.top (d:=.ref a) rfl (bn aE (bS.no rfl (dE bT.top (d:=.ref a) rfl (dE aE (d:=d) rfl ⟨d,rfl,bu _,af,λ b Gm=>by
    cases b with
    | true=>exact absurd (Gm.mp rfl) aA
    | false=>exact bS.yes rfl ⟨rfl,G,S,cZ rfl⟩⟩))))))
abbrev Gn:b1:=top 41
def u4:ez ["pieces", "start", "depth", "at"] ["pieces", "start"] (cW Gn):=⟨rfl,rfl,rfl,by trivial,rfl,by trivial,by trivial⟩
def abA(B:fB mg)(F:ed K "kind_end" "kind_end" Gn f fd):dp P w K mg base dz 1 f fd ["pieces", "start"] (bB K Fe):=by
 refine gx (k:=0) F u4 (λ ds G az h=>?_) (λ bW A outer s H E ak ds G az h=>?_)
 ·obtain ⟨_,_,_,rfl,_⟩:=h;rfl
 obtain ⟨l,xs,i,rfl,ar,agj,au,q⟩:=h
 refine ⟨_,(bt (cU (k:=2) u4.bv rfl (Or.inl rfl) aG)
  (bt (cU (k:=3) u4.bv rfl (Or.inl rfl) (ao 1))
  (bt (zM PassesOwn.never (fc.at (lY (bQ jy (ao 3) (du eU rfl B.len eQ (aq (ao 0) aI)) (bF _)) (lX (fc.at (iu (bQ n9 (ao 2) aG (bF _)) (j7 (bQ Uj (bx bz (ao 0) (ao 3) (λ _ _=>rfl)) (fM (aq a0 (aq a0 aI))) (by with_unfolding_all rfl)))))))) (bt (c8 (bQ tX (bx bz (ao 0) (ao 3) (λ _ _=>rfl)) (fM (aq a0 (aq a0 aI))) (by with_unfolding_all rfl)) (bG (zW (k:=2) u4.bv rfl (Or.inl rfl) aG Dd)) (bG (c8 (bQ tX (bx bz (ao 0) (ao 3) (λ _ _=>rfl)) (fM (aq a0 (aq a0 aI))) (by with_unfolding_all rfl)) (bG (zW (k:=2) u4.bv rfl (Or.inl rfl) aG US)) dw)))
  (bG (zW (k:=3) u4.bv rfl (Or.inl rfl) aG Dd))))
  (bG (cu (ao 3)))))),?_⟩
 have x3:(xs.map D.str).length=xs.length:=cP ..;refine ⟨λ μ ρ ap=>∃(j:Nat)(e:Int),ρ=[some (.ref l),some (.int i),some (.int e),some (.int ((i+j:Nat):Int))]/\G=ap/\i+j<=xs.length/\j+e7 e (xs.drop (i+j))=e7 0 (xs.drop i)/\xs.length - (i+j)=μ,⟨_,0,0,rfl,rfl,au,by simp,rfl⟩,?_⟩;rintro μ ρ ap ⟨j,e,rfl,rfl,bw,hz,rfl⟩
 have fU:((i+(j+1):Nat):Int)=((i+j:Nat):Int)+1:=by omega
 by_cases OT:i+j < xs.length
 ·obtain ⟨p,ah⟩:∃ p,xs[i+j]?=some p:=⟨_,e8 OT⟩
  have h5:gj (xs.map D.str) ((i+j:Nat):Int)=some (.str p):=hp (by rw [f3,ah];rfl)
  have x2:xs.drop (i+j)=p::xs.drop (i+j+1):=by rw [ro OT,(jo.mp ah).2]
  rw [x2,e7] at hz;refine bn ar ⟨λ _=>?_,λ c=>absurd (of_decide_eq_false c) (by rw [x3];omega)⟩;by_cases dt:0 < e
  ·rw [if_neg (λ z=>z.1 dt)] at hz;refine ⟨λ _=>⟨λ _=>?_,nofun⟩,λ c=>absurd (of_decide_eq_false c) (by omega)⟩
   by_cases dx:p = "("\/p = "["
   ·rw [if_pos dx] at hz;refine dE ar h5 ⟨rfl,rfl,⟨λ _=>e0.of ⟨xs.length - (i+(j+1)),by omega,j+1,e+1,by rw [fU];rfl,rfl,by omega,by rw [<- qe];omega,rfl⟩,λ c=>?_⟩⟩;rw [i5,md] at c;rcases dx with rfl | rfl<;>exact absurd c (by trivial)
   ·rw [if_neg dx] at hz
    have c3:(p=="("||p=="[")=false:=by simpa using dx
    by_cases cV:p = ")"\/p = "]"
    ·rw [if_pos cV] at hz;refine dE ar h5 ⟨rfl,rfl,⟨λ c=>?_,λ _=>dE ar h5 ⟨rfl,rfl,⟨λ _=>e0.of ⟨xs.length - (i+(j+1)),by omega,j+1,e - 1,by rw [fU];rfl,rfl,by omega,by rw [<- qe];omega,rfl⟩,λ c=>?_⟩⟩⟩⟩
     ·rw [i5,md,c3] at c;cases c
     ·rw [i5,md] at c;rcases cV with rfl | rfl<;>exact absurd c (by trivial)
    ·rw [if_neg cV] at hz
     have b8:(p==")"||p=="]")=false:=by simpa using cV
     refine dE ar h5 ⟨rfl,rfl,⟨λ c=>?_,λ _=>dE ar h5 ⟨rfl,rfl,⟨λ c=>?_,λ _=>e0.of ⟨xs.length - (i+(j+1)),by omega,j+1,e,by rw [fU];rfl,rfl,by omega,by rw [<- qe];omega,rfl⟩⟩⟩⟩⟩
     ·rw [i5,md,c3] at c;cases c
     ·rw [i5,md,b8] at c;cases c
  ·refine ⟨λ c=>absurd (of_decide_eq_true c) (by omega),λ _=>dE ar h5 ⟨rfl,rfl,?_⟩⟩
   by_cases b0:p = " "\/p = ")"
   ·rw [if_pos ⟨dt,b0⟩] at hz;refine ⟨λ c=>?_,λ _=>bo.of ?_⟩
    ·rw [md] at c;rcases b0 with rfl | rfl<;>exact absurd c (by trivial)
    ·rw [<- hz] at q;exact q
   ·rw [if_neg (λ z=>b0 z.2)] at hz
    have hL:(p==" "||p==")")=false:=by simpa using b0
    refine ⟨λ _=>?_,λ c=>?_⟩
    rotate_left
    ·rw [md,hL] at c;cases c
    by_cases dx:p = "("\/p = "["
    ·rw [if_pos dx] at hz;refine dE ar h5 ⟨rfl,rfl,⟨λ _=>e0.of ⟨xs.length - (i+(j+1)),by omega,j+1,e+1,by rw [fU];rfl,rfl,by omega,by rw [<- qe];omega,rfl⟩,λ c=>?_⟩⟩;rw [i5,md] at c;rcases dx with rfl | rfl<;>exact absurd c (by trivial)
    ·rw [if_neg dx] at hz
     have c3:(p=="("||p=="[")=false:=by simpa using dx
     by_cases cV:p = ")"\/p = "]"
     ·rw [if_pos cV] at hz;refine dE ar h5 ⟨rfl,rfl,⟨λ c=>?_,λ _=>dE ar h5 ⟨rfl,rfl,⟨λ _=>e0.of ⟨xs.length - (i+(j+1)),by omega,j+1,e - 1,by rw [fU];rfl,rfl,by omega,by rw [<- qe];omega,rfl⟩,λ c=>?_⟩⟩⟩⟩
      ·rw [i5,md,c3] at c;cases c
      ·rw [i5,md] at c;rcases cV with rfl | rfl<;>exact absurd c (by trivial)
     ·rw [if_neg cV] at hz
      have b8:(p==")"||p=="]")=false:=by simpa using cV
      refine dE ar h5 ⟨rfl,rfl,⟨λ c=>?_,λ _=>dE ar h5 ⟨rfl,rfl,⟨λ c=>?_,λ _=>e0.of ⟨xs.length - (i+(j+1)),by omega,j+1,e,by rw [fU];rfl,rfl,by omega,by rw [<- qe];omega,rfl⟩⟩⟩⟩⟩
      ·rw [i5,md,c3] at c;cases c
      ·rw [i5,md,b8] at c;cases c
 ·have abB:i+j=xs.length:=by omega
  rw [abB,List.drop_length,e7] at hz;refine bn ar ⟨λ c=>absurd (of_decide_eq_true c) (by rw [x3];omega),λ _=>⟨nofun,λ _=>bo.of ?_⟩⟩;rw [<- hz] at q;exact q
abbrev Gp:b1:=top 42
def OU:ez ["row", "papers"] ["row"] (cW Gp):=⟨rfl,rfl,rfl,by trivial,rfl,by trivial,by trivial⟩
def abC(B:fB mg){sV bL:Addr}(gP:pN P w K mg base 1 "NoText" bL "at")(Gq:mg "INNER_PAPERS" = some (.ref sV))(Gr:r4 K w sV qM)(F:ed K "paper_closed" "paper_closed" Gp f fd):dp P w K mg base (fo P w) 3 f fd ["row"] (gD K (Ff bL)):=by
 refine sC (k:=2) F OU (λ ds G az dl h=>?_) (λ bW A outer s H E ak ds G az dl h fZ=>?_)
 ·obtain ⟨_,_,rfl,_⟩:=h;rfl
 obtain ⟨l,c,rfl,ar,aA,am,d9,cZ⟩:=h
 refine ⟨_,(fA (eA.x (cU (k:=1) OU.bv rfl (Or.inl rfl) (Aw (ao 0) (f9 aG) (f9 aG))))
  (fA (jh (fc.at (iu (bQ (pq (b9 ak)) (Aw (ao 0) (f9 aG) (f9 aG)) (l3 (bI Mi (gX (aq a0 aI)) (du eU rfl B.len eQ (aq (ao 1) aI)))) (bF _)) (j7 (m1 (jw (l3 (du (De rfl) rfl B.all PyProof.Rows.boot_all (aq (t6 rfl (g_.of (N':=["one"]) (nt:=1) (cap:=[]) rfl (by kernel_rfl)) (ph (k:=0) (by decide)) (rW (ao 1)) (λ _ _ _ _=>(iN (k:=0) (show List.Nodup (["one"]:List Str) by trivial) rfl (Or.inl rfl))) (λ _ _ _ _=>(du l4 rfl B.isinstance jS (aq (ao 0) (aq (lw rfl B.tuple mF) aI))))) aI)))))))) (fP (mh fZ gP ak (by omega) rfl aG)) mf)
  (fA (jh (fc.at (iu (bQ (c6 (b9 ak)) (du eU rfl B.len eQ (aq (ao 1) aI)) aG (bF _)) (j7 (m1 (jw (du l4 rfl B.isinstance jS (aq (bx bz (ao 0) aG (λ _ _=>rfl)) (aq (lw rfl B.str PyProof.Rows.boot_str) aI)))))))) (fP (mh fZ gP ak (by omega) rfl aG)) mf)
  (fA (eA.x (c8 (bQ (c6 (b9 ak)) (bx bz (ao 0) aG (λ _ _=>rfl)) a0 (bF _)) (bG (cu (fM (aq a0 (aq (bx bz (ao 1) aG (λ _ _=>rfl)) (aq (lx wz rfl B.tuple mF (aq (iM n_ (ao 1) (f9 aG) jx) aI)) aI)))))) dw))
  (fA (jh (bQ (pq (b9 ak)) (Xo rfl Gq Gr (bx bz (ao 0) aG (λ _ _=>rfl))) (du eU rfl B.len eQ (aq (ao 1) aI)) (bF _)) (fP (mh fZ gP ak (by omega) rfl aG)) mf)
  (fP (eA.x (cu (bI da (fM (aq (bx bz (ao 0) aG (λ _ _=>rfl)) aI)) (lx wz rfl B.tuple mF (aq (ao 1) aI))))))))))),?_⟩
 have kp:∀{r:Addr}{ds:List D},G r=none->Sub G (up G r (.lst ds)):=λ h=>Sub.new (Sub.refl _) h
 have rZ:∀ k,iW (cz (c.drop k)):=λ k d hd=>by have:=am d (rr (A0 hd));exact ⟨this.1.1,this.2⟩
 obtain ⟨dx,cV⟩:=Nh (rZ 1);have f2:∀ d∈cz (c.drop 2),jj d:=λ d hd=>(am d (rr (A0 hd))).1
 have hlen:(cz (c.drop 2)).length<=9000:=by have:=ER (c.drop 2);rw [jQ] at this;omega
 have dt:iX c=(if ek (cz (c.drop 1)) (fs (cz (c.drop 2)).length (.str " "))=true/\(cz (c.drop 2)).all lI=true then (match c,cz (c.drop 2) with
  | .str w::_,p::ps=>if w = "give" then some (.tup [.str "give", p,.tup ps]) else if ji w=some ((ps.length+1:Nat):Int) then some (.tup (.str w::p::ps)) else none
  | _,_=>none) else none):=rfl
 refine ⟨rfl,bn ar ⟨2,rfl,λ p ah=>?_⟩⟩;have OV:=Sub.ext' (o:=.lst (cz (c.drop 2))) (Sub.refl _) ah;refine ⟨rfl,bn (OV l _ ar) ⟨1,rfl,λ dN kv q4 mr=>?_⟩⟩;have uI:=Sub.ext' (o:=.lst (cz (c.drop 1))) (Sub.refl _) kv;have Bs:=Sub.ext' (o:=.lst [.str " "]) (Sub.refl _) mr;refine bn ((uI.trans Bs) p _ bg) (bn bg ⟨by omega,by omega,by simp,λ xb nB=>⟨_,Sub.refl _,?_⟩⟩);rw [Ef,show (((cz (c.drop 2)).length:Nat):Int).toNat=(cz (c.drop 2)).length by omega] at *;generalize agk:cz (c.drop 1)=abD at *;generalize abE:cz (c.drop 2)=nC at *;have Gs:=Sub.ext' (o:=.lst (fs nC.length (.str " "))) (Sub.refl _) nB;obtain ⟨aX,bj⟩:=Ee " " nC.length;have fj:=(uI.trans (Bs.trans Gs)) p _ bg;have S:=OV.trans (uI.trans (Bs.trans Gs));have t5:=S l _ ar;refine bn ((Bs.trans Gs) dN _ bg) (bn bg ⟨dx,aX,cV,⟨λ cq=>bS.yes rfl ⟨rfl,G,S,cZ ?_⟩,λ cq=>wC fj (qB nC id (λ d=>.aJ (lI d)) (by simp) (gL (by omega)) fj (λ x ai R dT=>?_) (λ OR ox=>bn bg ⟨nC.map lI,?_,_,Sub.new (Sub.refl _) ox,?_⟩))⟩⟩)
 ·rw [dt,if_neg];rintro ⟨z,_⟩;rw [z] at cq;cases cq
 ·obtain ⟨_,⟨z,rfl⟩ | ⟨xs,rfl⟩⟩:=f2 x ai
  ·exact ⟨false,rfl,dT⟩
  ·exact ⟨true,rfl,dT⟩
 ·rw [show (nC.map λ d=>D.aJ (lI d))=(nC.map lI).map D.aJ by simp];exact zX _
 ·rw [yC]
  have abF:ek abD (fs nC.length (.str " "))=true:=by simpa using cq
  cases n4:nC.all lI with
  | false=>exact bS.yes (by show (!(nC.all lI))=true;rw [n4];rfl) ⟨rfl,G,S,cZ (by rw [dt,if_neg (λ z=>by rw [n4] at z;exact absurd z.2 (by decide))])⟩
  | true=>
   refine bS.no (by show (!(nC.all lI))=false;rw [n4];rfl) ?_;rw [if_pos ⟨abF,n4⟩] at dt
   cases nC with
   | nil=>exact bn fj (bS.yes rfl (bS.yes rfl ⟨rfl,G,S,cZ (by rw [dt];split;(next h=>cases h);rfl)⟩))
   | cons hc ps=>
    cases c with
    | nil=>cases abE
    | cons jz r=>
     refine bn fj (bS.no (by simp;omega) (dE t5 (d:=jz) (hp (j:=0) rfl) ?_));obtain ⟨_,⟨d2,rfl⟩ | ⟨xs,rfl⟩⟩:=(am jz (by simp)).1
     ·refine ⟨true,rfl,bS.no rfl (dE t5 (d:=.str d2) (hp (j:=0) rfl) ⟨λ b6=>dE fj (d:=hc) (hp (j:=0) rfl) (bn fj λ C3 Bt=>bn bg ?_),λ b6=>dE t5 (d:=.str d2) (hp (j:=0) rfl) ?_⟩)⟩
      ·rw [xf];exact ⟨G,S.trans (Sub.new (Sub.refl _) Bt),d9 _ (by rw [dt];simp only;rw [if_pos (eq_of_beq b6)])⟩
      ·have nw:d2≠"give":=λ e=>by rw [e] at b6;exact absurd b6 (by trivial)
       simp only [if_neg nw] at dt
       dsimp only
       cases eo:qM d2 with
       | none=>exact bn fj (t7 (f:=λ x=>!x) (x:=.bc) rfl rfl (by decide) (bS.yes rfl ⟨rfl,G,S,cZ (by rw [dt,if_neg (by unfold ji;rw [eo];simp)])⟩))
       | some v=>
        obtain ⟨n,rfl⟩:=ZN eo
        have pi:ji d2=some n:=by unfold ji;rw [eo]
        refine bn fj ⟨λ fz=>⟨rfl,G,S,cZ ?_⟩,λ fz=>dE t5 (d:=.str d2) (hp (j:=0) rfl) (bn fj ⟨big (by simp only [be,c7] at hlen ⊢;omega),⟨G,S,d9 _ ?_⟩⟩)⟩
        ·rw [dt,if_neg];rw [pi];intro z;injection z with z;subst z;exact absurd fz (by simp)
        ·have e3:ji d2=some ((ps.length+1:Nat):Int):=by
          rw [pi];congr 1;simpa using fz
         rw [dt,if_pos e3];rfl
     ·exact ⟨false,rfl,bS.yes rfl ⟨rfl,G,S,cZ (by rw [dt])⟩⟩
abbrev Gu:b1:=top 40
def pY:ez ["text", "frames", "pieces", "at", "piece", "closed", "end"] ["text"] (cW Gu):=⟨rfl,rfl,rfl,by trivial,rfl,by trivial,by trivial⟩
def abG(B:fB mg){hq:Tok}{sW bL:Addr}(gP:pN P w K mg base 1 "NoText" bL "at")(Gv:mg "SIGNS_papertexts" = some (.str Eo hq))(Gw:mg "PAPER_OF_SIGN" = some (.ref sW))(Gx:r4 K w sW xo)(x0:Got P w K mg base 1 "pieces_of" ["text", "signs"] (bB K Mv))(Gy:Got P w K mg base 1 "kind_end" ["pieces", "start"] (bB K Fe))(Gz:iE P w K mg base 3 "paper_closed" ["row"] (gD K (Ff bL)))(GA:iE P w K mg base 6 "read_kind" ["text"] (gD K (Fg bL)))(F:ed K "read_paper" "read_paper" Gu f fd):dp P w K mg base (fo P w) 7 f fd ["text"] (gD K (uR bL)):=by
 refine sC (k:=6) F pY (λ ds G az dl h=>?_) (λ bW A outer s H E ak ds G az dl h fZ=>?_)
 ·obtain ⟨_,_,rfl,_⟩:=h;rfl
 obtain ⟨z,o,rfl,hz,eJ,d9,cZ⟩:=h
 refine ⟨_,(fA (eA.x (cU (k:=1) pY.bv rfl (Or.inl rfl) (gX (aq (gX aI) aI))))
  (fA (eA.x (cU (k:=2) pY.bv rfl (Or.inl rfl) (cG x0 ak (by omega) rfl (aq (ao 0) (aq (kP (d:=.str _) (v:=.str _) rfl Gv ⟨_,rfl⟩ (λ _=>rfl)) aI)))))
  (fA (eA.x (cU (k:=3) pY.bv rfl (Or.inl rfl) aG))
  (fA (YA PassesOwn.leaving (bQ jy (ao 3) (du eU rfl B.len eQ (aq (ao 2) aI)) (bF _)) (fA (eA.x (cU (k:=4) pY.bv rfl (Or.inl rfl) (bx bz (ao 2) (ao 3) (λ _ _=>rfl))))
  (fA (eA.x (zW (k:=3) pY.bv rfl (Or.inl rfl) aG Dd))
  (fP (jh (bQ (c6 (b9 ak)) (ao 4) a0 (bF _)) (fP (eA.x (i_ (hu PySem.F.plainAttrs_list PySem.F.slot_list_append PySem.F.type_list_append iO (ao 1) (aq (gX aI) aI))))) (fP (jh (bQ (c6 (b9 ak)) (ao 4) a0 (bF _)) (fA (eA.x (cU (k:=5) pY.bv rfl (Or.inl rfl) (wM PySem.F.plainAttrs_list PySem.F.slot_list_pop PySem.F.type_list_pop zS (ao 1))))
  (fA (jh (bQ (c6 (b9 ak)) (du eU rfl B.len eQ (aq (ao 1) aI)) aG (bF _)) (fP (mh fZ gP ak (by omega) rfl aG)) mf)
  (fP (AW (AZ PySem.F.plainAttrs_list PySem.F.slot_list_append PySem.F.type_list_append iO (bx bz (ao 1) (mZ m2 aG) (λ _ _=>rfl)) (uL (uJ fZ Gz ak (by omega) rfl (aq (ao 5) aI)) xC)))))) (fP (jh (bQ (c6 (b9 ak)) (ao 4) a0 (bF _)) (fA (eA.x (cU (k:=6) pY.bv rfl (Or.inl rfl) (cG Gy ak (by omega) rfl (aq (ao 2) (aq (ao 3) aI)))))
  (fA (AW (AZ PySem.F.plainAttrs_list PySem.F.slot_list_append PySem.F.type_list_append iO (bx bz (ao 1) (mZ m2 aG) (λ _ _=>rfl)) (uL (YT (uL (b7.x a0) (uL (uJ fZ GA ak (by omega) rfl (aq (hu PySem.F.plainAttrs_str PySem.F.slot_str_join PySem.F.type_str_join As a0 (aq (iM n_ (ao 2) (f9 (ao 3)) (f9 (ao 6))) aI)) aI)) xC))) xC)))
  (fP (eA.x (cU (k:=3) pY.bv rfl (Or.inl rfl) (ao 6)))))) (fP (eA.x (i_ (hu PySem.F.plainAttrs_list PySem.F.slot_list_append PySem.F.type_list_append iO (bx bz (ao 1) (mZ m2 aG) (λ _ _=>rfl)) (aq (U3 rfl Gw Gx (ao 4) (ao 4)) aI))))))))))))))
  (fA (jh (fc.at (iu (bQ (pq (b9 ak)) (du eU rfl B.len eQ (aq (ao 1) aI)) aG (bF _)) (iu (bQ (pq (b9 ak)) (du eU rfl B.len eQ (aq (bx bz (ao 1) aG (λ _ _=>rfl)) aI)) aG (bF _)) (j7 (m1 (jw (du l4 rfl B.isinstance jS (aq (bx bz (bx bz (ao 1) aG (λ _ _=>rfl)) aG (λ _ _=>rfl)) (aq (lw rfl B.tuple mF) aI))))))))) (fP (mh fZ gP ak (by omega) rfl aG)) mf)
  (fP (eA.x (cu (bx bz (bx bz (ao 1) aG (λ _ _=>rfl)) aG (λ _ _=>rfl)))))))))),?_⟩
 generalize ai:bh cA [] z.cps.toList=x at *
 have w1:x.length<=5900:=by
  have:=AD cA z.cps.toList [];rw [ai] at this;have l8:z.cps.toList.length=z.length:=rfl;simp only [c7] at this;omega
 intro hc pW cE fQ;obtain ⟨-,x1,cX⟩:=wR (o:=.lst []) fQ;refine ⟨z,rfl,by omega,λ l ar=>?_⟩;rw [ai]
 have ag:up G hc (.lst []) l=none/\l≠cE:=by
  have n:l≠cE:=by rintro rfl;rw [bg] at ar;cases ar
  rw [dh n] at ar;exact ⟨ar,n⟩
 have aO:G l=none/\l≠hc:=by
  have n:l≠hc:=by rintro rfl;have:=ag.1;rw [bg] at this;cases this
  have:=ag.1;rw [dh n] at this;exact ⟨this,n⟩
 have q5:Sub G (up G l (.lst (x.map D.str))):=Sub.new (Sub.refl _) aO.1
 have pX:up G l (.lst (x.map D.str)) cE=none:=by rw [dh ag.2.symm];exact x1
 refine ⟨λ μ ρ ap=>∃(i:Nat)(aC:List (Addr × List D))(eE iZ kr:Option D),ρ=[some (.str z),some (.ref cE),some (.ref l),some (.int (i:Int)),eE,iZ,kr]/\Frs ap cE aC/\Sub (up G l (.lst (x.map D.str))) ap/\(∀ p∈aC,up G l (.lst (x.map D.str)) p.1=none)/\i<=x.length/\d_ o (aC.map λ p:Addr × List D=>p.2) (x.drop i)/\aC.length<=i+1/\(∀ p∈aC,p.2.length<=i+1)/\aC≠[]/\x.length - i=μ,⟨_,0,[(hc,[])],_,_,_,rfl,?_,?_,?_,fi _,by exact eJ,b4 _,by simp,tl _ _,rfl⟩,?_⟩
 ·refine ⟨by rw [dh ag.2.symm,bg];rfl,λ p ah=>?_,by simp,λ p ah=>?_⟩
  ·simp at ah;subst ah;rw [dh aO.2.symm,dh cX.symm];exact bg
  ·simp at ah;subst ah;exact cX.symm
 ·exact Sub.put (Sub.new (Sub.new (Sub.refl _) pW) x1)
 ·intro p ah;simp at ah;subst ah;rw [dh aO.2.symm];exact pW
 rintro μ ρ ap ⟨i,aC,eE,iZ,kr,rfl,bT,dr,gJ,uZ,dT,sT,fK,agl,rfl⟩;have Bu:=dr l _ bg;have x3:(x.map D.str).length=x.length:=cP ..;have x8:Sub G ap:=Sub.trans q5 dr;refine bn Bu ⟨λ c=>?_,λ c=>?_⟩
 ·have eG:i < x.length:=by have:=of_decide_eq_true c;rw [x3] at this;omega
  have h5:∀ p,x[i]?=some p->gj (x.map D.str) (i:Int)=some (.str p):=λ p am=>hp (by rw [f3,am];rfl)
  obtain ⟨p,am⟩:∃ p,x[i]?=some p:=⟨_,e8 eG⟩
  have x2:x.drop i=p::x.drop (i+1):=by rw [ro eG,(jo.mp am).2]
  rw [x2] at dT;refine dE Bu (h5 p am) ?_;generalize hB:aC.map (λ p:Addr × List D=>p.2)=st at dT;generalize mt:x.drop (i+1)=abx at dT
  cases dT with
  | fG dT=>
   refine ⟨λ _=>⟨bn bT.top trivial,λ r ak=>?_⟩,λ c=>absurd c (by decide)⟩
   have c3:r≠cE:=by rintro rfl;rw [bT.top] at ak;cases ak
   have mu:=dr.none ak;exact dW (by rw [dh c3.symm];exact bT.top) ⟨gL (by simp only [cP,i4];omega),e0.of ⟨x.length - (i+1),by omega,i+1,(r,[])::aC,_,_,_,rfl,bT.push ak,Sub.new (Sub.new dr mu) pX,qc.mpr ⟨mu,gJ⟩,by omega,by rw [fh,hB,mt];exact dT,by simp only [be];omega,NW fK (fi 1),tl _ _,rfl⟩⟩
  | @cl _ cq t st _ GB aD sU=>
   obtain ⟨a1,abz,rfl,kk⟩:=sO hB;obtain ⟨a2,dS,rfl,rfl⟩:=sO kk;have hi:=bT.pop;have pv:=fK _ (b3 ..);have x9:=qZ fK _ (b3 ..);simp only [be] at pv x9 sT;exact ⟨λ c=>absurd c (by decide),λ _=>⟨λ _=>⟨bn bT.top trivial,dW bT.top ⟨(((a2,t)::dS).map (·.1)).reverse.map D.ref,.ref a1,by simp,bn hi.top (bS.no (by simp;omega) (dE hi.top (d:=.ref a2) (hi.xN rfl) ⟨bn (hi.at_ _ (b3 ..)) trivial,⟨a1,cq,rfl,by rw [dh (bT.ne _ (b3 ..))];exact bT.at_ _ (b3 ..),by omega,GB,λ k e=>dW (hi.at_ _ (b3 ..)) ⟨gL (show t.length<=200000 by omega),e0.of ⟨x.length - (i+1),by omega,i+1,(a2,t++[k])::dS,_,_,_,rfl,hi.set,Sub.new (Sub.new dr pX) (qZ gJ _ (b3 ..)),xO (P:=λ a=>up G l (.lst (x.map D.str)) a=none) (qZ gJ),by omega,by rw [mt];exact aD k e,by simp only [be];omega,xP (qZ fK),tl _ _,rfl⟩⟩,λ e=>⟨G,Sub.trans q5 (Sub.new dr pX),cZ (sU e)⟩⟩⟩))⟩⟩,λ c=>absurd c (by decide)⟩⟩
  | @xE c _=>
   obtain ⟨a1,rfl⟩:=xQ hB;have hi:=bT.pop;exact ⟨λ c=>absurd c (by decide),λ _=>⟨λ _=>⟨bn bT.top trivial,dW bT.top ⟨[],.ref a1,by simp,bn hi.top (bS.yes rfl ⟨rfl,G,Sub.trans q5 (Sub.new dr pX),cZ rfl⟩)⟩⟩,λ c=>absurd c (by decide)⟩⟩
  | @na _ dI t st y r abH abI aD sU=>
   obtain ⟨a,dS,rfl,rfl⟩:=sO hB
   have aaR:y.length+(i+1)<=x.length:=by
    have:=congrArg mB mt;rw [jQ,cI] at this;omega
   have abJ:(cat y).length<=5900:=by
    have ae:=kg cA z.cps.toList [];rw [ai,h7] at ae
    have ag:(cat (x.drop (i+1))).length<=(cat x).length:=by
     conv=>rhs;rw [<- List.take_append_drop (i+1) x,dj,cI]
     omega
    rw [mt,dj,cI,ae] at ag;have l8:z.cps.toList.length=z.length:=rfl;omega
   have abK:cut (x.map D.str) (some ((i+1:Nat):Int)) (some ((i+1+y.length:Nat):Int))=y.map D.str:=by
    have:=Xt (xs:=x.map D.str) (ys:=y.map D.str) (r:=r.map D.str) (a:=i+1) (by rw [<- List.map_drop,mt,mC]) (by rw [cP];omega);rw [cP] at this;exact this
   have abL:x.drop (i+1+y.length)=r:=by rw [<- List.drop_drop,mt,List.drop_left'];rfl
   have GC:=bT.at_ _ (b3 ..);have x9:=fK _ (b3 ..);simp only [be] at x9 sT;refine ⟨λ c=>absurd c (by decide),λ _=>⟨λ c=>absurd c (by decide),λ _=>⟨λ _=>⟨l,x,i+1,rfl,Bu,by omega,by omega,?_⟩,λ c=>absurd c (by decide)⟩⟩⟩;rw [mt,abH];refine dE bT.top (d:=.ref a) (bT.xN rfl) ⟨bn GC trivial,⟨trivial,bn Bu λ Bv u5=>bn bg ⟨y,abK,by trivial,by rw [Mk];omega,⟨cK (cat y),_,by rw [W0],abJ,abI,λ k e=>?_,λ e=>⟨G,Sub.trans x8 (Sub.new (Sub.refl _) u5),cZ (sU e)⟩⟩⟩⟩⟩
   have oV:a≠Bv:=by rintro rfl;rw [GC] at u5;cases u5
   exact dW (by rw [dh oV];exact GC) ⟨gL (show t.length<=200000 by omega),⟨_,up ap a (.lst (t++[.tup [.str "name", k]])),.refl _,Sub.put (Sub.new (Sub.refl _) u5),x.length - (i+1+y.length),by omega,i+1+y.length,(a,t++[.tup [.str "name", k]])::dS,_,_,_,rfl,bT.set,Sub.new dr (gJ _ (b3 ..)),xO (P:=λ a=>up G l (.lst (x.map D.str)) a=none) gJ,by omega,by rw [abL];exact aD k e,by simp only [be];omega,λ p ah=>by have:=xP (k:=.tup [.str "name", k]) fK p ah;omega,tl _ _,rfl⟩⟩
  | @c0 _ t st _ _ cq b6 fz dT=>
   obtain ⟨a,dS,rfl,rfl⟩:=sO hB;have x9:=fK _ (b3 ..);simp only [be] at x9 sT;refine ⟨λ c=>absurd (eq_of_beq c) cq,λ _=>⟨λ c=>absurd (eq_of_beq c) b6,λ _=>⟨λ c=>absurd (eq_of_beq c) fz,λ _=>?_⟩⟩⟩;refine dE bT.top (d:=.ref a) (bT.xN rfl) ⟨bn (bT.at_ _ (b3 ..)) trivial,?_⟩;show kQ _ _ _;exact dW (bT.at_ _ (b3 ..)) ⟨gL (show t.length<=200000 by omega),e0.of ⟨x.length - (i+1),by omega,i+1,(a,t++[sI p])::dS,_,_,_,rfl,bT.set,Sub.new dr (gJ _ (b3 ..)),xO (P:=λ a=>up G l (.lst (x.map D.str)) a=none) gJ,by omega,by rw [mt];exact dT,by simp only [be];omega,xP fK,tl _ _,rfl⟩⟩
 ·have Kx:x.length<=i:=by have:=of_decide_eq_false c;rw [x3] at this;omega
  rw [tk Kx] at dT;generalize hB:aC.map (λ p:Addr × List D=>p.2)=st at dT
  cases dT with
  | @fin xs=>
   obtain ⟨a,rfl⟩:∃ a,aC=[(a,[D.tup xs])]:=by
    match aC,hB with
    | [(a,t)],e=>simp at e;exact ⟨a,by rw [e]⟩
   have aE:=bT.at_ _ (b3 ..);exact bn bT.top (bS.no rfl (dE bT.top (d:=.ref a) rfl (bn aE (bS.no rfl (dE bT.top (d:=.ref a) rfl (dE aE (d:=.tup xs) rfl ⟨true,rfl,bS.no rfl (dE bT.top (d:=.ref a) rfl (dE aE (d:=.tup xs) rfl ⟨G,x8,d9 _ rfl⟩))⟩))))))
  | E0 GB aA=>
   by_cases hf:aC.length=1
   ·obtain ⟨⟨a,t⟩,rfl⟩:∃ u,aC=[u]:=by
     match aC,hf with
     | [u],_=>exact ⟨u,rfl⟩
    have aE:=bT.at_ _ (b3 ..);refine bn bT.top (bS.no rfl (dE bT.top (d:=.ref a) rfl (bn aE ?_)));by_cases bu:t.length=1
    ·obtain ⟨d,rfl⟩:∃ d,t=[d]:=by
      match t,bu with
      | [d],_=>exact ⟨d,rfl⟩
     obtain ⟨_,⟨xv,rfl⟩ | ⟨xs,rfl⟩⟩:=GB [d] (by rw [<- hB];simp) d (by simp)
     ·exact bS.no rfl (dE bT.top (d:=.ref a) rfl (dE aE (d:=.str xv) rfl ⟨false,rfl,bS.yes rfl ⟨rfl,G,x8,cZ rfl⟩⟩))
     ·exact absurd ⟨xs,hB.symm⟩ aA
    ·exact bS.yes (by simp;omega) (bS.yes rfl ⟨rfl,G,x8,cZ rfl⟩)
   ·exact bn bT.top (bS.yes (by simp;omega) (bS.yes rfl ⟨rfl,G,x8,cZ rfl⟩))
abbrev GD:b1:=top 51
def OW:ez ["_law_paper"] ["_law_paper"] (cW GD):=⟨rfl,rfl,rfl,by trivial,rfl,by trivial,by trivial⟩
def abM(B:fB mg)(ku:Got P w K mg base 103 "_law_text" ["_law_paper"] (bB K (pI 101)))(F:ed K "_law_fit" "_law_fit" GD f fd):dp P w K mg base dz 104 f fd ["_law_paper"] (bB K Fh):=by
 refine gx (k:=103) F OW (λ ds G az h=>?_) (λ bW A outer s H E ak ds G az h=>?_)
 ·obtain ⟨_,rfl,_⟩:=h;rfl
 obtain ⟨d,rfl,hd,q⟩:=h
 refine ⟨_,(bt (zM PassesOwn.never (bQ n9 (du eU rfl B.len eQ (aq (cG ku ak (by omega) rfl (aq (ao 0) aI)) aI)) aG (bF _)) (bG (cU (k:=0) OW.bv rfl (Or.inl rfl) (bx bz (ao 0) aG (λ _ _=>rfl)))))
  (bG (cu (ao 0)))),?_⟩
 refine ⟨λ μ ρ ap=>∃ d':D,ρ=[some d']/\G=ap/\gC 700000 64 d'/\dc d'=μ,⟨_,d,rfl,rfl,hd,rfl⟩,?_⟩;rintro μ ρ ap ⟨d',rfl,rfl,⟨ae,x,t,l⟩,rfl⟩;refine ⟨d',x,rfl,t,by omega,l,⟨big l,⟨λ c=>?_,λ c=>bo.of (q d' ⟨ae,x,t,?_⟩)⟩⟩⟩
 ·have dm:=of_decide_eq_true c;obtain ⟨z,p,r,y,rfl,di,eM,s2,fy⟩:=ZO t (by show 2900 < (txt x).length;omega);exact e0.of ⟨_,s2,p,rfl,rfl,⟨by omega,y,di,by omega⟩,rfl⟩
 ·have dm:=of_decide_eq_false c;show (txt x).length<=2900;omega
abbrev GF:b1:=top 52
def sX:ez ["_law_paper", "_law_some", "_law_rows", "_law_k", "_law_one"] ["_law_paper"] (cW GF):=⟨rfl,rfl,rfl,by trivial,rfl,by trivial,by trivial⟩
def abN:dp P w K mg base dz 1 f fd ["_law_paper"] (bB K (xR 0)):=r3 λ ds G az h=>by
 obtain ⟨_,_,_,_,h,_⟩:=h;omega
def abO{n:Nat}(B:fB mg)(x_:Got P w K mg base (n+1) "_law_lines" ["_law_paper"] (bB K (xR n)))(F:ed K "_law_lines" "_law_lines" GF f fd):dp P w K mg base dz (n+2) f fd ["_law_paper"] (bB K (xR (n+1))):=by
 refine gx (k:=n+1) F sX (λ ds G az h=>?_) (λ bW A outer s H E ak ds G az h=>?_)
 ·obtain ⟨_,_,rfl,_⟩:=h;rfl
 obtain ⟨d,x,rfl,ai,hd,MR,ar,q⟩:=h
 refine ⟨_,(bt (cU (k:=1) sX.bv rfl (Or.inl rfl) (lx wA rfl B.list vx (aq (iM n_ (ao 0) (f9 aG) jx) aI)))
  (bt (c8 (bQ (c6 (b9 ak)) (bx bz (ao 0) aG (λ _ _=>rfl)) a0 (bF _)) (bG (cU (k:=1) sX.bv rfl (Or.inl rfl) (gX aI))) dw)
  (bt (c8 (bQ (c6 (b9 ak)) (bx bz (ao 0) aG (λ _ _=>rfl)) a0 (bF _)) (bG (cU (k:=1) sX.bv rfl (Or.inl rfl) (l3 (bI da (gX (aq (bx bz (ao 0) aG (λ _ _=>rfl)) aI)) (lx wA rfl B.list vx (aq (bx bz (ao 0) aG (λ _ _=>rfl)) aI)))))) dw)
  (bt (cU (k:=2) sX.bv rfl (Or.inl rfl) (gX (aq (fM aI) aI)))
  (bt (wF PassesOwn.never rfl (MB rfl B.enumerate (aq (ao 1) aI)) (CU (n:=2) rfl (tW (iN (k:=3) sX.bv rfl (Or.inr rfl)) (tW (iN (k:=4) sX.bv rfl (Or.inl rfl)) CT))) (bG (i_ (hu PySem.F.plainAttrs_list PySem.F.slot_list_extend PySem.F.type_list_extend C6 (ao 2) (aq (t6 rfl (g_.of (N':=["_law_path", "_law_k"]) (nt:=1) (cap:=[3]) rfl (by kernel_rfl)) (ph (k:=0) (by decide)) (rW (cG x_ ak (by omega) rfl (aq (ao 4) aI))) (λ _ _ _ _=>(iN (k:=0) (show List.Nodup (["_law_path", "_law_k"]:List Str) by trivial) rfl (Or.inl rfl))) (λ _ _ _ _=>(bI da (fM (aq (ao 1) aI)) (ao 0)))) aI)))))
  (bG (cu (ao 2)))))))),?_⟩
 refine NX (λ ρ' ap=>∃(s:Addr)(ps:List (D × List Str)),ρ'=[some d,some (.ref s),none,none,none]/\ap s=some (.lst (ps.map (·.1)))/\Sub G ap/\(∀ p∈ps,dC p.1 p.2/\p.1.aS < n/\p.1.aS<=100)/\(∀(i:Nat)(p:D × List Str)(ks:List Nat),ps[i]?=some p->nv p.1 ks->nv d (i::ks))/\1+(ps.map λ p=>(cat p.2).length).sum<=(cat x).length) (λ X k9=>?_) (λ ρ' aB ae=>?_)
 ·cases ai with
  | some=>exact λ cE fQ=>⟨λ c=>absurd c (by decide),λ _=>⟨λ c=>absurd c (by decide),λ _=>k9 _ _ ⟨cE,[],rfl,bg,Sub.new (Sub.refl _) fQ,by simp,by simp,by trivial⟩⟩⟩
  | whole=>exact λ cE fQ=>⟨λ c=>absurd c (by decide),λ _=>⟨λ c=>absurd c (by decide),λ _=>k9 _ _ ⟨cE,[],rfl,bg,Sub.new (Sub.refl _) fQ,by simp,by simp,by trivial⟩⟩⟩
  | @name k y ae ag aO bX=>exact λ cE fQ=>⟨λ _=>λ dN kv=>⟨λ c=>absurd c (by decide),λ _=>k9 _ _ ⟨dN,[],rfl,bg,Sub.ext' (Sub.new (Sub.refl _) fQ) kv,by simp,by simp,by rw [pH,cat];simp only [dk,cI,be];simp⟩⟩,λ c=>absurd c (by decide)⟩
  | @node z ps _ aA ah=>
   have mi:∀ p∈ps,dC p.1 p.2/\p.1.aS < n/\p.1.aS<=100:=λ p i0=>⟨ah p i0,by have:=mc aA (h8 (f:=(·.1)) i0);omega⟩
   have q6:∀(i:Nat)(p:D × List Str)(ks:List Nat),ps[i]?=some p->nv p.1 ks->nv d (i::ks):=λ i p ks au h=>.step aA (by rw [f3,au];rfl) h
   have Bl:1+(ps.map λ p=>(cat p.2).length).sum<=(cat (("(" : Str)::z::(br (ps.map (·.2))++[(")" : Str)]))).length:=by
    have:=Bd ps;rw [fl];simp only [cat,dj,dk,cI,be,c7];omega
   generalize he:ps.map (·.1)=es at aA
   cases aA with
   | un p hw=>
    simp only [hK,cB,fR,or_false] at hw
    rcases hw with rfl | rfl | rfl | rfl | rfl<;>exact λ cE fQ=>⟨λ c=>absurd c (by decide),λ _=>⟨λ c=>absurd c (by decide),λ _=>k9 _ _ ⟨cE,ps,rfl,by rw [bg,he];rfl,Sub.new (Sub.refl _) fQ,mi,q6,Bl⟩⟩⟩
   | bi p dO hw=>
    simp only [hA,cB,fR,or_false] at hw
    rcases hw with rfl | rfl | rfl<;>exact λ cE fQ=>⟨λ c=>absurd c (by decide),λ _=>⟨λ c=>absurd c (by decide),λ _=>k9 _ _ ⟨cE,ps,rfl,by rw [bg,he];rfl,Sub.new (Sub.refl _) fQ,mi,q6,Bl⟩⟩⟩
   | give p bE OQ=>
    intro hc pW;refine ⟨λ c=>absurd c (by decide),λ _=>⟨λ _=>?_,λ c=>absurd c (by decide)⟩⟩;intro cE fQ dN kv;have kp:=Sub.ext' (o:=.lst [p]) (Sub.new (Sub.refl G) pW) fQ;have hM:=Sub.ext' (o:=.lst bE) (Sub.refl _) kv;refine dW (hM cE _ bg) (dW bg ⟨big (by simp;omega),λ q4 mr=>⟨_,Sub.refl _,?_⟩⟩);have kq:=Sub.ext' (o:=.lst ([p]++bE)) (Sub.refl _) mr;exact k9 _ _ ⟨q4,ps,rfl,by rw [bg,he];rfl,kp.trans (hM.trans kq),mi,q6,Bl⟩
 ·obtain ⟨s,ps,rfl,ax,dr,ah,q6,u0⟩:=ae;intro r ak
  have sa:s≠r:=by rintro rfl;rw [ax] at ak;cases ak
  have kk:up aB r (.lst [ny []]) s=some (.lst (ps.map (·.1))):=by rw [dh sa];exact ax
  refine bn kk ⟨kk,λ i ρ ap=>∃(ks:List (List Nat))(gE eE:Option D),ρ=[some d,some (.ref s),some (.ref r),gE,eE]/\ap r=some (.lst (ks.map ny))/\Sub aB ap/\ks≠[]/\ks.length<=1+((ps.take i).map λ p=>(cat p.2).length).sum/\∀ k∈ks,nv d k,⟨[[]],none,none,rfl,bg,Sub.new (Sub.refl _) ak,by simp,by simp,λ k aD=>by simp at aD;subst aD;exact .here⟩,?_,?_,?_⟩
  ·rintro i ρ ap _ ⟨ks,gE,eE,rfl,u6,ya,_⟩;exact ya _ _ ax
  ·rintro i e ρ ap he ⟨ks,gE,eE,rfl,u6,ya,cX,GG,sD⟩;have he:(kh (ps.map (·.1)))[i]?=some e:=he;unfold kh at he;rw [f3,vu,f3] at he
   obtain ⟨p,ex⟩:∃ p,ps[i]?=some p:=by
    cases ex:ps[i]? with
    | none=>rw [ex] at he;cases he
    | some p=>exact ⟨p,rfl⟩
   rw [ex] at he;simp only [rx,Nat.zero_add,gG.injEq] at he;subst he;obtain ⟨ae,ag,aO⟩:=ah p (kz ex);have g5:=ZP ex;have hle:=NZ ps (i+1);refine ⟨bn u6 trivial,⟨p.1,p.2,rfl,ae,ag,aO,by omega,λ l OX aY hM fK _ agm agn OY=>wC fK (qB OX ny (λ k=>ny (i::k)) rfl (gL (by omega)) fK (λ k aD R dT=>⟨kb (by have:=NY (OY k aD);simp only [be,c7,cP];omega),dT⟩) (λ t bu=>?_))⟩⟩
   have abP:r≠t:=by rintro rfl;rw [hM _ _ u6] at bu;cases bu
   refine dW (by rw [dh abP];exact hM _ _ u6) (dW bg ⟨big (by rw [cP,cP];omega),e0.of ⟨ks++OX.map λ k=>i::k,_,_,rfl,?_,?_,?_,?_,?_⟩⟩)
   ·rw [bg,mC,oF];rfl
   ·exact Sub.new (Sub.ext' (ya.trans hM) bu) ak
   ·simp [cX]
   ·rw [cI,cP,g5];omega
   ·intro k aD;rcases fH.mp aD with aD | aD
    ·exact sD k aD
    ·obtain ⟨nZ,wW,rfl⟩:=hS.mp aD;exact q6 i p nZ ex (OY nZ wW)
  ·rintro ρ ap ⟨ks,gE,eE,rfl,u6,ya,cX,GG,sD⟩;have hle:=NZ ps (kh (ps.map (·.1))).length;exact bo.of (q r ks ap (dr.trans ya) u6 (dr.none ak) cX (by have:ks.length<=1+((ps.take (kh (ps.map (·.1))).length).map λ p=>(cat p.2).length).sum:=GG;omega) sD)
abbrev GH:b1:=top 53
def yb:ez ["_law_feed_here", "_law_some"] ["_law_feed_here"] (cW GH):=⟨rfl,rfl,rfl,by trivial,rfl,by trivial,by trivial⟩
def abQ(B:fB mg)(fq:Got P w K mg base 1 "_law_take" ["_law_feed_here", "_law_many"] (bB K m6))(F:ed K "_law_bad_kind" "_law_bad_kind" GH f fd):dp P w K mg base dz 2 f fd ["_law_feed_here"] (bB K Fi):=by
 refine gx (k:=1) F yb (λ ds G az h=>?_) (λ bW A outer s H E ak ds G az h=>?_)
 ·obtain ⟨_,rfl,_⟩:=h;rfl
 obtain ⟨a,rfl,bT,q⟩:=h
 refine ⟨_,(bt (cU (k:=1) yb.bv rfl (Or.inl rfl) (gX (aq a0 (aq a0 (aq a0 (aq a0 (aq a0 (aq a0 (aq a0 (aq a0 (aq a0 (aq a0 (aq a0 (aq a0 (aq a0 (aq a0 aI))))))))))))))))
  (bt (cU (k:=1) yb.bv rfl (Or.inl rfl) (l3 (bI da (ao 1) (gX (aq a0 (aq a0 aI))))))
  (bt (cU (k:=1) yb.bv rfl (Or.inl rfl) (l3 (bI da (ao 1) (gX (aq a0 (aq a0 (aq a0 (aq a0 (aq a0 (aq a0 (aq a0 (aq a0 (aq a0 aI)))))))))))))
  (bt (cU (k:=1) yb.bv rfl (Or.inl rfl) (l3 (bI da (ao 1) (gX (aq a0 (aq a0 (aq a0 (aq a0 aI))))))))
  (bG (cu (bx bz (ao 1) (cG fq ak (by omega) rfl (aq (ao 0) (aq (du eU rfl B.len eQ (aq (ao 1) aI)) aI))) (λ _ _=>rfl)))))))),?_⟩
 intro cE fQ dN kv
 have abR:cE≠dN:=by rintro rfl;rw [bg] at kv;cases kv
 refine dW (by rw [dh abR];exact bg) (dW bg ⟨kb (by simp only [be,c7];omega),λ q4 mr=>?_⟩);refine DQ (G:=G) [] mr (Sub.trans (Sub.new (Sub.refl _) fQ) (Sub.new (Sub.refl _) kv)) (by simp) λ d3 kq _ P3=>?_;intro xb nB;refine dW (Sub.new (Sub.refl _) nB _ _ P3) (dW bg ⟨kb (by simp only [be,c7,cI];omega),λ OR ox=>?_⟩);refine DQ (G:=G) [] ox (Sub.trans kq (Sub.new (Sub.refl _) nB)) (by simp) λ l2 xZ _ abS=>?_;intro C3 Bt;refine dW (Sub.new (Sub.refl _) Bt _ _ abS) (dW bg ⟨kb (by simp only [be,c7,cI];omega),λ Bv u5=>?_⟩);refine DQ (G:=G) [] u5 (Sub.trans xZ (Sub.new (Sub.refl _) Bt)) (by simp) λ abT OZ _ GI=>?_
 have O0:hJ abT a:=let ⟨x,y,e⟩:=bT;⟨x,y,OZ _ _ e⟩
 have oV:Bv≠a:=by rintro rfl;obtain ⟨x,y,e⟩:=O0;rw [GI] at e;exact absurd e (by simp [pr])
 refine bn GI ⟨O0,by decide,by decide,λ k yc u8 k0 k1=>?_⟩
 obtain ⟨n,rfl⟩:∃ n:Nat,k=n:=⟨k.toNat,by omega⟩
 have aA:n < qX.length:=by have:(n:Int) < 29:=k1;show n < 29;omega
 have GJ:yc Bv=some (.lst (qX.map D.str)):=u8.c2 oV GI;exact dE GJ (d:=.str qX[n]) (hp (by rw [f3,e8 aA];rfl)) (bo.of (q _ yc (e5.trans ⟨G,eH.refl bT,OZ⟩ (.of u8)) (i3 aA)))
abbrev GK:b1:=top 54
def O1:ez ["_law_feed_here", "_law_some"] ["_law_feed_here"] (cW GK):=⟨rfl,rfl,rfl,by trivial,rfl,by trivial,by trivial⟩
def abU(B:fB mg)(fq:Got P w K mg base 1 "_law_take" ["_law_feed_here", "_law_many"] (bB K m6))(F:ed K "_law_bad_leaf" "_law_bad_leaf" GK f fd):dp P w K mg base dz 2 f fd ["_law_feed_here"] (bB K Fj):=by
 refine gx (k:=1) F O1 (λ ds G az h=>?_) (λ bW A outer s H E ak ds G az h=>?_)
 ·obtain ⟨_,rfl,_⟩:=h;rfl
 obtain ⟨a,rfl,bT,q⟩:=h
 refine ⟨_,(bt (cU (k:=1) O1.bv rfl (Or.inl rfl) (gX (aq a0 (aq a0 (aq a0 (aq a0 (aq a0 (aq a0 (aq a0 (aq a0 (aq a0 (aq a0 (aq a0 aI)))))))))))))
  (bt (i_ (hu PySem.F.plainAttrs_list PySem.F.slot_list_append PySem.F.type_list_append iO (ao 1) (aq a0 aI)))
  (bG (cu (bx bz (ao 1) (cG fq ak (by omega) rfl (aq (ao 0) (aq (du eU rfl B.len eQ (aq (ao 1) aI)) aI))) (λ _ _=>rfl)))))),?_⟩
 intro cE fQ;refine ⟨bn bg trivial,dW bg ⟨gL (by decide),?_⟩⟩;have c3:cE≠a:=bT.ne fQ;rw [ip];refine bn bg ⟨bT.new fQ,by decide,by decide,λ k yc u8 k0 k1=>?_⟩
 obtain ⟨n,rfl⟩:∃ n:Nat,k=n:=⟨k.toNat,by omega⟩
 have aA:n < qY.length:=by have:(n:Int) < 12:=k1;show n < 12;omega
 have GJ:yc cE=some (.lst (qY.map D.str)):=u8.c2 c3 bg;exact dE GJ (d:=.str qY[n]) (hp (by rw [f3,e8 aA];rfl)) (bo.of (q _ yc (e5.trans ⟨G,eH.refl bT,Sub.new (Sub.refl _) fQ⟩ (.of u8)) (i3 aA)))
abbrev GL:b1:=top 55
def Bw:ez ["_law_feed_here", "_law_paper", "_law_text_here", "_law_held", "_law_form", "_law_word"] ["_law_feed_here", "_law_paper", "_law_text_here", "_law_held"] (cW GL):=⟨rfl,rfl,rfl,by trivial,rfl,by trivial,by trivial⟩
def abV(B:fB mg)(fq:Got P w K mg base 1 "_law_take" ["_law_feed_here", "_law_many"] (bB K m6))(GM:Got P w K mg base 2 "_law_bad_kind" ["_law_feed_here"] (bB K Fi))(GN:Got P w K mg base 2 "_law_bad_leaf" ["_law_feed_here"] (bB K Fj))(ku:Got P w K mg base 103 "_law_text" ["_law_paper"] (bB K (pI 101)))(F:ed K "_law_spoilt" "_law_spoilt" GL f fd):dp P w K mg base dz 104 f fd ["_law_feed_here", "_law_paper", "_law_text_here", "_law_held"] (bB K Fk):=by
 refine gx (k:=103) F Bw (λ ds G az h=>?_) (λ bW A outer s H E ak ds G az h=>?_)
 ·obtain ⟨_,_,_,_,rfl,_⟩:=h;rfl
 obtain ⟨a,d,x,df,rfl,bT,ai,ar,hd,q⟩:=h
 refine ⟨_,(bt (cU (k:=4) Bw.bv rfl (Or.inl rfl) (cG fq ak (by omega) rfl (aq (ao 0) (aq aG aI))))
  (bt (c8 (fc.at (lY (bQ (c6 (b9 ak)) (ao 4) aG (bF _)) (lX (jw (ao 3))))) (bG (cU (k:=4) Bw.bv rfl (Or.inl rfl) aG)) dw)
  (bt (c8 (bQ jy (ao 4) aG (bF _)) (bG (cu (oc (aq (bI da a0 (ao 2)) (aq (bI da (ao 2) a0) (aq (bI da (ao 2) a0) (aq (bI da (ao 2) (ao 2)) (aq (bI da (bI da (ao 2) a0) (ao 2)) (aq a0 aI)))))) (ao 4) (λ _ _=>rfl)))) dw)
  (bt (c8 (bQ (c6 (b9 ak)) (ao 4) aG (bF _)) (bG (cu (bI da (bx bz a0 (cG fq ak (by omega) rfl (aq (ao 0) (aq aG aI))) (λ _ _=>rfl)) (iM qH (ao 2) (f9 aG) jx)))) dw)
  (bt (c8 (bQ (c6 (b9 ak)) (ao 4) aG (bF _)) (bG (cu (bI da (bI da a0 (ao 2)) a0))) dw)
  (bt (c8 (bQ (c6 (b9 ak)) (bx bz (ao 1) aG (λ _ _=>rfl)) a0 (bF _)) (bG (cu (bI da a0 (cG GM ak (by omega) rfl (aq (ao 0) aI))))) dw)
  (bt (c8 (fc.at (iu (bQ (c6 (b9 ak)) (bx bz (ao 1) aG (λ _ _=>rfl)) a0 (bF _)) (j7 (bQ (c6 (b9 ak)) (bx bz (ao 1) aG (λ _ _=>rfl)) a0 (bF _))))) (bG (cu (cG GN ak (by omega) rfl (aq (ao 0) aI)))) dw)
  (bt (c8 (bQ (c6 (b9 ak)) (ao 4) aG (bF _)) (bt (cU (k:=5) Bw.bv rfl (Or.inl rfl) (oc (aq (bI da (bx bz (ao 1) aG (λ _ _=>rfl)) a0) (aq (iM qH (bx bz (ao 1) aG (λ _ _=>rfl)) jx (f9 (mZ m2 aG))) (aq (bI da (wM PySem.F.plainAttrs_str PySem.F.slot_str_upper PySem.F.type_str_upper WD (bx bz (bx bz (ao 1) aG (λ _ _=>rfl)) aG (λ _ _=>rfl))) (iM qH (bx bz (ao 1) aG (λ _ _=>rfl)) (f9 aG) jx)) aI))) (cG fq ak (by omega) rfl (aq (ao 0) (aq aG aI))) (λ _ _=>rfl)))
  (bG (cu (bI da (bI da a0 (ao 5)) (iM qH (ao 2) (f9 (bI da aG (du eU rfl B.len eQ (aq (bx bz (ao 1) aG (λ _ _=>rfl)) aI)))) jx))))) dw)
  (bt (c8 (bQ (c6 (b9 ak)) (ao 4) aG (bF _)) (bG (cu (oc (aq (iM qH (ao 2) jx (f9 (mZ m2 aG))) (aq (bI da (ao 2) a0) aI)) (cG fq ak (by omega) rfl (aq (ao 0) (aq aG aI))) (λ _ _=>rfl)))) dw)
  (bt (c8 (fc.at (iu (bQ (c6 (b9 ak)) (bx bz (ao 1) aG (λ _ _=>rfl)) a0 (bF _)) (j7 (bQ (c6 (b9 ak)) (du eU rfl B.len eQ (aq (ao 1) aI)) aG (bF _))))) (bG (cu (bI da (bI da a0 (bx bz (ao 1) aG (λ _ _=>rfl))) a0))) dw)
  (bG (cu (bI da (bI da (bI da (bI da a0 (bx bz (ao 1) aG (λ _ _=>rfl))) a0) (cG ku ak (by omega) rfl (aq (bx bz (ao 1) (bI da aG (bI pb (ao 4) aG)) (λ _ _=>rfl)) aI))) a0))))))))))))),?_⟩
 have ago:(txt x).length=(cat x).length:=rfl;refine ZV (λ ρ' ap=>∃ m:Nat,ρ'=[some (.ref a),some d,some (.str (txt x)),some (.aJ df),some (.int (m:Int)),none]/\eH a G ap/\m < 13/\(m=4->df=false)) (λ X k9=>?_) (λ ρ' aB ae=>?_)
 ·refine ⟨bT,by decide,by decide,λ k aB c9 k0 k1=>?_⟩
  obtain ⟨m,rfl⟩:∃ m:Nat,k=m:=⟨k.toNat,by omega⟩
  refine ⟨λ ie=>⟨λ ch=>k9 _ _ ⟨3,rfl,c9,by omega,by omega⟩,λ ch=>k9 _ _ ⟨m,rfl,c9,by omega,λ _=>ch⟩⟩,λ ie=>bS.no rfl (k9 _ _ ⟨m,rfl,c9,by omega,λ e=>?_⟩)⟩;subst e;exact absurd ie (by decide)
 obtain ⟨m,rfl,c9,hm,bX⟩:=ae;have hi:=c9.fd;have hO:e5 a G aB:=.of c9;have out:∀{z:Str}{aY:aL},e5 a G aY->iY df d (cat x).length z->bo az (.str z) aY:=λ w o=>bo.of (q _ _ w o.1 o.2);refine ⟨λ c=>?_,λ c=>⟨λ Bx=>?_,λ Bx=>⟨λ xX=>?_,λ xX=>?_⟩⟩⟩
 ·have agp:m < 6:=by have:=of_decide_eq_true c;omega
  have By:((" " : String):Str).length=1:=by decide
  have abW:(("\n" : String):Str).length=1:=by decide
  refine ⟨big (by rw [By];omega),big (by rw [By];omega),big (by rw [abW];omega),big (by omega),big (by rw [By];omega),big (by rw [gb,By];omega),ZW (by omega) (by omega) (λ _=>out hO (o0 ai)) (λ _=>out hO (d9 ai)) (λ _=>out hO (cZ ai)) (λ _=>out hO (gE ai)) (λ e=>out hO (eE ai (bX (by omega)))) (λ _=>out hO (iZ _))⟩
 ·refine ⟨hi,by decide,by decide,λ k aY d4 k0 k1=>?_⟩
  obtain ⟨i,rfl⟩:∃ i:Nat,k=i:=⟨k.toNat,by omega⟩
  have au:i < qW.length:=by have:(i:Int) < 11:=k1;show i < 11;omega
  refine ⟨by decide,qW[i],?_,⟨big (by omega),big ?_,out (hO.trans (.of d4)) (kr ai (i3 au))⟩⟩
  ·rw [Z_];exact hp (e8 au)
  ·rw [show (1:Int)=((1:Nat):Int) from rfl,Be,k8,k8,dk,jQ,dk];show 1+_<=_;omega
 ·have cv:(("(" : String):Str).length=1:=by decide
  have eM:((")" : String):Str).length=1:=by decide
  exact ⟨big (by rw [cv];omega),big (by rw [gb,cv,eM];omega),out hO (uV ai)⟩
 ·have cv:(("(" : String):Str).length=1:=by decide
  have eM:((")" : String):Str).length=1:=by decide
  have iw:(("#" : String):Str).length=1:=by decide
  cases ai with
  | some=>exact ⟨λ c=>absurd c (by decide),λ _=>bS.yes rfl (bS.yes rfl ⟨a,rfl,hi,λ z aY eu hz=>out (hO.trans eu) (yW (by trivial) hz)⟩)⟩
  | whole=>exact ⟨λ c=>absurd c (by decide),λ _=>bS.no rfl (bS.yes rfl ⟨a,rfl,hi,λ z aY eu hz=>out (hO.trans eu) (yW (by trivial) hz)⟩)⟩
  | @name k y ae ag aO d0=>exact ⟨λ _=>⟨a,rfl,hi,λ z aY eu hz=>⟨big (by have:=N2 z hz;rw [iw];omega),out (hO.trans eu) (Z3 ag hz)⟩⟩,λ c=>absurd c (by decide)⟩
  | @node d2 ps _ aA ah=>
   obtain ⟨gi,eu,ik⟩:=Z9 d2 (jF aA);obtain ⟨dx,cV,abX⟩:=ol d2 (jF aA);have ai:dC d (("(" : Str)::d2::(br (ps.map (·.2))++[(")" : Str)])):=.node aA ah;obtain ⟨g1,g2,g3,gw⟩:=ZY d2 (jF aA);obtain ⟨rest,uj,wV⟩:=N3 aA;subst uj;refine ⟨λ c=>Di (gi.symm.trans c),λ _=>bS.no eu (bS.no ik ⟨λ abY=>?_,λ abY=>⟨λ O2=>?_,λ O2=>?_⟩⟩)⟩
   ·have aE:(1+(d2.length:Int))=((1+d2.length:Nat):Int):=by omega
    have fin:∀{z:Str}{aY:aL},sP z=true->e5 a G aY->((("(" : String):Str).length+z.length<=sizeLine/\d2.length<=sizeLine/\(txt (("(" : Str)::d2::(br (ps.map (·.2))++[(")" : Str)]))).length<=sizeLine/\(("(" : Str)++z).length+(Txt.slice (txt (("(" : Str)::d2::(br (ps.map (·.2))++[(")" : Str)]))) (some (1+(d2.length:Int))) none).length<=sizeLine/\bo az (.str (("(" : Str)++z++Txt.slice (txt (("(" : Str)::d2::(br (ps.map (·.2))++[(")" : Str)]))) (some (1+(d2.length:Int))) none)) aY):=λ{z aY} gz w=>by
     have gl:=(N1 gz).2.2.2;have bq:=slice_le (txt (("(" : Str)::d2::(br (ps.map (·.2))++[(")" : Str)]))) (1+d2.length);rw [<- aE] at bq;exact ⟨big (by rw [cv];omega),big (by omega),big (by omega),big (by rw [gb,cv];omega),out w (Z4 aA ah gz)⟩
    have am:∃ c u,d2.cps.toList=c::u:=by cases e:d2.cps.toList with
     | nil=>exact absurd e dx
     | cons c u=>exact ⟨c,u,rfl⟩
    obtain ⟨qQ,Er,am⟩:=am;rw [am,List.headD_cons] at g3 gw;refine ⟨big (by rw [show (("s" : String):Str).length=1 by decide];omega),big (by omega),big (by omega),qQ,by rw [am];exact hp (j:=0) rfl,trivial,by omega,big (by omega),big (by have:=slice_le d2 1;rw [show ((1:Nat):Int)=1 from rfl] at this;omega),⟨hi,by decide,by decide,λ k aY d4 k0 k1=>UZ k0 k1 (λ _=>fin g1 (hO.trans (.of d4))) (λ _=>fin g2 (hO.trans (.of d4))) (λ _=>fin g3 (hO.trans (.of d4)))⟩⟩
   ·exact ⟨big (by omega),big (by rw [eM];omega),⟨hi,by decide,by decide,λ k aY d4 k0 k1=>at2 k0 k1 (λ _=>out (hO.trans (.of d4)) (Z5 aA ah)) (λ _=>out (hO.trans (.of d4)) (Z6 ai))⟩⟩
   ·have eN:((("(" : String):Str).length+d2.length<=sizeLine/\(("(" : Str)++d2).length+((")" : String):Str).length<=sizeLine/\bo az (.str (("(" : Str)++d2++(")" : Str))) aB):=⟨big (by rw [cv];omega),big (by rw [gb,cv,eM];omega),out hO (Z7 (jF aA))⟩
    rcases wV with (⟨hw,ak⟩ | ⟨hw,_,ak⟩) | ⟨hw,af,ak,he⟩
    ·exact bS.yes (by rw [hw];decide +kernel) (bS.yes rfl eN)
    ·refine bS.no (by simpa using hw) (bS.yes ?_ eN);show ((((D.str d2::rest).length:Nat):Int)==2)=true;rw [be,ak];rfl
    ·obtain ⟨p,dO,rfl⟩:∃ p dO,ps=[p,dO]:=by
      rw [cP] at he
      match ps,he with
      | [p,dO],_=>exact ⟨p,dO,rfl⟩
     simp only [fh,nK] at ak;subst ak;have u0:=Bd [p,dO];simp only [fh,nK,rq,List.sum_nil] at u0;have sY:=ar;rw [pT] at sY;simp only [fh,nK,be,cI,c7] at sY
     have kn:∀ r∈[p,dO],r.1.aS < 101/\r.1.aS<=(D.tup [.str d2,p.1,dO.1]).aS:=λ r ak=>by have:=mc aA (h8 (f:=(·.1)) ak);omega
     have fj:((" " : String):Str).length=1:=by decide
     have fin:∀ r∈[p,dO],gj [D.str d2,p.1,dO.1] (1+(m:Int) % 2)=some r.1->wv (.tup [D.str d2,p.1,dO.1]) (.int (1+(m:Int) % 2)) aB λ y aY=>pI 101 [y] aY λ y aY=>CV (.str (("(" : Str)++d2++(" " : Str))) y aY λ y aY=>CV y (.str (")" : Str)) aY (bo az):=λ r ak h5=>by
      have Bp:(cat r.2).length<=(cat (br [p.2,dO.2])).length:=by simp at ak;rcases ak with rfl | rfl<;>omega
      have abZ:(cat r.2).length<=(cat (("(" : Str)::d2::(br ([p,dO].map (·.2))++[(")" : Str)]))).length:=by rw [pT];simp only [fh,nK,be,cI];omega
      have agq:(txt r.2).length=(cat r.2).length:=rfl;exact J4 h5 ⟨r.1,r.2,rfl,ah r ak,(kn r ak).1,by omega,big (by rw [gb,gb,cv,fj];omega),big (by rw [gb,gb,gb,cv,eM,fj];omega),out hO (Z8 af (ah r ak) (kn r ak).2 abZ)⟩
     refine bS.no (by simpa using hw) (bS.no rfl ⟨big (by rw [cv];omega),big (by rw [gb,cv,fj];omega),(by show (0:Int) < 2;decide),?_⟩);rcases (by omega:m % 2=0\/m % 2=1) with e | e
     ·exact fin p (by simp) (by rw [show 1+(m:Int) % 2=((1:Nat):Int) by omega];exact hp rfl)
     ·exact fin dO (by simp) (by rw [show 1+(m:Int) % 2=((2:Nat):Int) by omega];exact hp rfl)
abbrev GO:b1:=top 56
def u7:ez ["_law_feed_here", "_law_paper", "_law_path", "_law_held", "_law_some", "_law_row", "_law_k", "_law_one"] ["_law_feed_here", "_law_paper", "_law_path", "_law_held"] (cW GO):=⟨rfl,rfl,rfl,by trivial,rfl,by trivial,by trivial⟩
def ab0:dp P w K mg base dz 105 f fd ["_law_feed_here", "_law_paper", "_law_path", "_law_held"] (bB K (xS 0)):=r3 λ ds G az h=>by
 obtain ⟨_,_,_,_,_,_,_,_,_,_,_,h,_⟩:=h;omega
def ab1{n:Nat}(B:fB mg)(GP:Got P w K mg base 104 "_law_spoilt" ["_law_feed_here", "_law_paper", "_law_text_here", "_law_held"] (bB K Fk))(ku:Got P w K mg base 103 "_law_text" ["_law_paper"] (bB K (pI 101)))(yd:Got P w K mg base (n+105) "_law_made" ["_law_feed_here", "_law_paper", "_law_path", "_law_held"] (bB K (xS n)))(F:ed K "_law_made" "_law_made" GO f fd):dp P w K mg base dz (n+106) f fd ["_law_feed_here", "_law_paper", "_law_path", "_law_held"] (bB K (xS (n+1))):=by
 refine gx (k:=n+105) F u7 (λ ds G az h=>?_) (λ bW A outer s H E ak ds G az h=>?_)
 ·obtain ⟨_,_,_,_,_,rfl,_⟩:=h;rfl
 obtain ⟨a,d,x,df,ks,rfl,bT,ai,ar,hd,ah,hlen,q⟩:=h
 refine ⟨_,(bt (c8 (bQ (c6 (b9 ak)) (ao 2) (fM aI) (bF _)) (bG (cu (cG GP ak (by omega) rfl (aq (ao 0) (aq (ao 1) (aq (cG ku ak (by omega) rfl (aq (ao 1) aI)) (aq (ao 3) aI))))))) dw)
  (bt (cU (k:=4) u7.bv rfl (Or.inl rfl) (lx wA rfl B.list vx (aq (iM n_ (ao 1) (f9 aG) jx) aI)))
  (bt (c8 (bQ (c6 (b9 ak)) (bx bz (ao 1) aG (λ _ _=>rfl)) a0 (bF _)) (bG (cU (k:=4) u7.bv rfl (Or.inl rfl) (l3 (bI da (gX (aq (bx bz (ao 1) aG (λ _ _=>rfl)) aI)) (lx wA rfl B.list vx (aq (bx bz (ao 1) aG (λ _ _=>rfl)) aI)))))) dw)
  (bt (cU (k:=5) u7.bv rfl (Or.inl rfl) (gX aI))
  (bt (wF PassesOwn.never rfl (MB rfl B.enumerate (aq (ao 4) aI)) (CU (n:=2) rfl (tW (iN (k:=6) u7.bv rfl (Or.inl rfl)) (tW (iN (k:=7) u7.bv rfl (Or.inl rfl)) CT))) (bG (c8 (bQ (c6 (b9 ak)) (ao 6) (bx bz (ao 2) aG (λ _ _=>rfl)) (bF _)) (bG (i_ (hu PySem.F.plainAttrs_list PySem.F.slot_list_append PySem.F.type_list_append iO (ao 5) (aq (cG yd ak (by omega) rfl (aq (ao 0) (aq (ao 7) (aq (iM n_ (ao 2) (f9 aG) jx) (aq (j5 (c6 (b9 ak)) (bx bz (ao 1) aG (λ _ _=>rfl)) a0 (bF _)) aI))))) aI)))) (bG (i_ (hu PySem.F.plainAttrs_list PySem.F.slot_list_append PySem.F.type_list_append iO (ao 5) (aq (cG ku ak (by omega) rfl (aq (ao 7) aI)) aI)))))))
  (bG (cu (bI da (bI da (bI da (bI da a0 (bx bz (ao 1) aG (λ _ _=>rfl))) a0) (hu PySem.F.plainAttrs_str PySem.F.slot_str_join PySem.F.type_str_join As a0 (aq (ao 5) aI))) a0)))))))),?_⟩
 have w0:(ny ks).data=true/\(ny ks).aS<=1:=by
  refine ⟨qD λ e he=>?_,?_⟩
  ·obtain ⟨k,_,rfl⟩:=hS.mp he;rfl
  ·show 1+cb _<=1
   have:=uc (ds:=ks.map λ k:Nat=>D.int (k:Int)) (n:=0) λ e he=>by obtain ⟨k,_,rfl⟩:=hS.mp he;simp [D.aS]
   omega
 refine t7 (f:=id) w0.1 rfl (by omega) ?_
 cases ks with
 | nil=>exact bS.yes rfl ⟨d,x,rfl,ai,by omega,by omega,⟨a,d,x,df,rfl,bT,ai,ar,hd,λ z ap w b l=>bo.of (q z ap w b l)⟩⟩
 | cons k ks=>
  refine bS.no rfl ?_
  cases ah with
  | @step gi agr _ e _ _ kj he q6=>
  cases ai with
  | some=>exact absurd (jF kj) (by cases kj)
  | whole=>exact absurd (jF kj) (by cases kj)
  | name=>exact absurd rfl (E5 kj _)
  | @node d2 ps _ aA ah=>
   obtain ⟨rfl,rfl⟩:=aac kj aA;rw [f3] at he
   obtain ⟨iz,aD,rfl⟩:∃ iz,ps[k]?=some iz/\iz.1=e:=by
    cases aD:ps[k]? with
    | none=>rw [aD] at he;cases he
    | some iz=>rw [aD] at he;cases he;exact ⟨iz,rfl,rfl⟩
   obtain ⟨eG,_⟩:=jo.mp aD;have kn:∀ r∈ps,r.1.aS < d.aS:=λ r ak=>mc aA (h8 (f:=(·.1)) ak)
   have cX:ps.map (·.2)≠[]:=by intro e;rw [List.map_eq_nil_iff] at e;subst e;simp at eG
   have u0:=Bd ps;have sY:=ar;rw [pT] at sY;simp only [be,cI,c7] at sY
   have GQ:∀ r∈ps,(cat r.2).length<=2900:=λ r ak=>by have:=Ep (h8 (f:=(·.2)) ak);omega
   have ab2:=(si aA).2;rw [cP] at ab2
   have sEq:(gi=="give")=decide (gi = "give"):=by rw [tt];simp
   have ay:∀ r,G r=none->r≠a:=λ r h=>bT.ne h;refine NX (λ ρ' ap=>∃ s,ρ'=[some (.ref a),some d,some (ny (k::ks)),some (.aJ df),some (.ref s),none,none,none]/\ap s=some (.lst (ps.map (·.1)))/\Sub G ap/\G s=none) (λ X k9=>?_) (λ ρ' aB ae=>?_)
   ·clear kj q q6 he GQ u0 sY ar kn cX sEq;generalize he:ps.map (·.1)=es at aA
    cases aA with
    | un p hw=>
     simp only [hK,cB,fR,or_false] at hw
     rcases hw with rfl | rfl | rfl | rfl | rfl<;>exact λ cE fQ=>⟨λ c=>absurd c (by decide),λ _=>k9 _ _ ⟨cE,rfl,by rw [bg,he];rfl,Sub.new (Sub.refl _) fQ,fQ⟩⟩
    | bi p dO hw=>
     simp only [hA,cB,fR,or_false] at hw
     rcases hw with rfl | rfl | rfl<;>exact λ cE fQ=>⟨λ c=>absurd c (by decide),λ _=>k9 _ _ ⟨cE,rfl,by rw [bg,he];rfl,Sub.new (Sub.refl _) fQ,fQ⟩⟩
    | give p bE OQ=>
     intro hc pW;refine ⟨λ _=>?_,λ c=>absurd c (by decide)⟩;intro cE fQ dN kv;have ab3:=Sub.new (o:=.lst [p,.tup bE]) (Sub.refl G) pW;have kp:=Sub.ext' (o:=.lst [p]) ab3 fQ;have hM:=Sub.ext' (o:=.lst bE) (Sub.refl _) kv;refine dW (hM cE _ bg) (dW bg ⟨big (by simp;omega),λ q4 mr=>⟨_,Sub.refl _,?_⟩⟩);have kq:=Sub.ext' (o:=.lst ([p]++bE)) (Sub.refl _) mr;exact k9 _ _ ⟨q4,rfl,by rw [bg,he];rfl,kp.trans (hM.trans kq),(kp.trans hM).none mr⟩
   obtain ⟨s,rfl,ax,dr,hB⟩:=ae;obtain ⟨rest,uj,-⟩:=N3 aA;subst uj;intro r ak;have mu:G r=none:=dr.none ak
   have sa:s≠r:=by rintro rfl;rw [ax] at ak;cases ak
   have kk:up aB r (.lst []) s=some (.lst (ps.map (·.1))):=by rw [dh sa];exact ax
   refine bn kk ⟨kk,λ i ρ ap=>∃(z:Str)(kr uV:Option D),ρ=[some (.ref a),some (.tup (.str gi::rest)),some (ny (k::ks)),some (.aJ df),some (.ref s),some (.ref r),kr,uV]/\e5 a G ap/\ap s=some (.lst (ps.map (·.1)))/\ap r=some (.lst ((hN ps k z i).map λ y=>D.str (txt y)))/\(k < i->gf (decide (gi = "give")) iz.1.aS z.cps.toList/\z.length<=2 * (cat iz.2).length+20),⟨"", none,none,rfl,⟨G,eH.refl bT,Sub.new dr mu⟩,kk,by rw [bg];rfl,λ h=>absurd h (Nat.not_lt_zero _)⟩,?_,?_,?_⟩
   ·rintro i ρ ap _ ⟨z,kr,uV,rfl,_,o4,_⟩;exact o4
   ·rintro i e ρ ap he ⟨z,kr,uV,rfl,i9,o4,pZ,hz⟩;have he:(kh (ps.map (·.1)))[i]?=some e:=he;unfold kh at he;rw [f3,vu,f3] at he
    obtain ⟨p,ex⟩:∃ p,ps[i]?=some p:=by
     cases ex:ps[i]? with
     | none=>rw [ex] at he;cases he
     | some p=>exact ⟨p,rfl⟩
    rw [ex] at he;simp only [rx,Nat.zero_add,gG.injEq] at he;subst he;have au:i < ps.length:=(jo.mp ex).1
    have Bp:((hN ps k z i).map λ y=>D.str (txt y)).length<=7:=by rw [cP];unfold hN;rw [lb,th,cP];omega
    by_cases w3:i=k
    ·subst w3;rw [aD] at ex;cases ex;refine bS.yes (by simp) ⟨bn pZ trivial,⟨a,iz.1,iz.2,(gi=="give"),ks,by rw [fh,xf];rfl,i9.fd,ah iz (kz aD),GQ iz (kz aD),by have:=kn iz (kz aD);omega,q6,by simp only [be] at hlen;omega,λ cc aY eu cV eM=>dW (eu.c2 (ay r mu) pZ) ⟨gL (by omega),e0.of ⟨cc,_,_,rfl,(i9.trans eu).put mu (ay r mu),by rw [dh sa];exact eu.c2 (ay s hB) o4,?_,λ _=>⟨by rw [<- sEq];exact cV,eM⟩⟩⟩⟩⟩;rw [bg,aae eG,mC,aad (b4 _) z cc];simp only [fh,nK,xg]
    ·refine bS.no (by simp;omega) ⟨bn pZ trivial,⟨p.1,p.2,rfl,ah p (kz ex),by have:=kn p (kz ex);omega,by have:=GQ p (kz ex);omega,dW pZ ⟨gL (by omega),e0.of ⟨z,_,_,rfl,i9.put mu (ay r mu),by rw [dh sa];exact o4,?_,λ h=>hz (by omega)⟩⟩⟩⟩;rw [bg,aaf w3 ex,mC];rfl
   ·rintro ρ ap ⟨z,kr,uV,rfl,i9,o4,pZ,hz⟩
    have iQ:(kh (ps.map (·.1))).length=ps.length:=by simp [kh]
    replace pZ:ap r=some (.lst ((hN ps k z ps.length).map λ y=>D.str (txt y))):=by rw [<- iQ];exact pZ
    obtain ⟨af,l8⟩:=hz (by show k < (kh (ps.map (·.1))).length;rw [iQ];exact eG);obtain ⟨eg,eh⟩:=aag (h:=df) aA ah aD af l8
    have GR:hN ps k z ps.length≠[]:=by rw [N4 eG];simp
    have ab4:(hN ps k z ps.length).length<=7:=by unfold hN;rw [lb,th,cP];omega
    generalize hN ps k z ps.length=p0 at pZ eg eh GR ab4;obtain ⟨dx,cV,abX⟩:=ol gi (jF aA)
    have cv:(("(" : String):Str).length=1:=by decide
    have eM:((")" : String):Str).length=1:=by decide
    have fj:((" " : String):Str).length=1:=by decide
    have v_:=AK GR
    have ags:(cat (dB (" " : Str) p0)).length<=5900:=by
     have e:(txt (("(" : Str)::gi::(br p0++[(")" : Str)]))).length=(cat (("(" : Str)::gi::(br p0++[(")" : Str)]))).length:=rfl;rw [e,v_] at eh;simp only [cat,dj,cI] at eh ar ⊢;omega
    have agt:=xh p0
    have w6:(Txt.join (" " : Str) (p0.map txt)).length=(cat (dB (" " : Str) p0)).length:=by rw [Az];rfl
    refine ⟨big (by rw [cv];omega),big (by rw [gb,cv,fj];omega),trivial,bn pZ ⟨p0.map txt,by simp,by decide,?_,big (by rw [gb,gb,w6,cv,fj];omega),big (by rw [gb,gb,gb,w6,cv,eM,fj];omega),bo.of ?_⟩⟩
    ·rw [cP,oF];show (p0.map λ x=>(cat x).length).sum+p0.length<=_;omega
    ·rw [Az,Mz GR];exact q _ _ i9 eg eh
abbrev GS:b1:=top 57
def Bz:ez ["_law_text_here", "e", "_law_whole", "_law_others"] ["_law_text_here"] (cW GS):=⟨rfl,rfl,rfl,by trivial,rfl,by trivial,by trivial⟩
def ab5(B:fB mg){bL cq b6 fz ie u3 Bx xX:Addr}(p1:iE P w K mg base 7 "read_paper" ["text"] (gD K (uR bL)))(GU:sr K bL)(sZ:mg "NoText" = some (.ref bL))(GV:mg "NoData" = some (.ref cq))(GW:mg "NoFit" = some (.ref b6))(GX:mg "NoName" = some (.ref fz))(GY:mg "NoPaper" = some (.ref ie))(GZ:mg "NoRoom" = some (.ref u3))(G0:mg "NoRow" = some (.ref Bx))(G1:mg "NoRule" = some (.ref xX))(u9:kZ K bL)(ye:AY K bL "at")(ab6:iG K (.ref bL) (.ref bL)=some true)
 (ab7:oI K (.ref bL) (.type "ValueError")=some true) (ab8:PySem.W.kitAny K (.ref bL) [.ref cq,.ref b6,.ref fz,.ref ie,.ref u3,.ref Bx,.ref xX]=some false) (F:ed K "_law_refused" "_law_refused" GS f fd):dp P w K mg base dz 10 f fd ["_law_text_here"] (bB K uS):=by
  refine gx (k:=9) F Bz (λ ds G az h=>?_) (λ bW A outer s H E ak ds G az h=>?_)
  ·obtain ⟨_,rfl,_⟩:=h;rfl
  obtain ⟨z,rfl,hz,eJ,q⟩:=h
  refine ⟨_,(bt (M_ p1 ak (by omega) rfl (λ _=>(aq (ao 0) aI)) (M8 (i:=1) rfl rfl rfl GU rfl sZ Bz.bv rfl rfl
   (λ ab9 aca acb acd ace BA s0 s6=>(bt (cU (k:=2) Bz.bv rfl (Or.inl rfl) (lW (du l4 rfl B.isinstance jS (aq (EJ (i:=1) s6 BA s0 rfl (Or.inl rfl)) (aq (lw rfl B.int yQ) aI))) (o_ (zD (du l4 rfl B.isinstance jS (aq (EJ (i:=1) s6 BA s0 rfl (Or.inl rfl)) (aq (lw rfl B.bool PyProof.Rows.boot_bool) aI)))))))
   (bt (cU (k:=3) Bz.bv rfl (Or.inl rfl) (du (EL s6 s0) rfl B.isinstance jS (aq (ao 1) (aq (fM (aq (kP (d:=.ref _) (v:=.ref _) rfl GV rfl (λ _=>rfl)) (aq (kP (d:=.ref _) (v:=.ref _) rfl GW rfl (λ _=>rfl)) (aq (kP (d:=.ref _) (v:=.ref _) rfl GX rfl (λ _=>rfl)) (aq (kP (d:=.ref _) (v:=.ref _) rfl GY rfl (λ _=>rfl)) (aq (kP (d:=.ref _) (v:=.ref _) rfl GZ rfl (λ _=>rfl)) (aq (kP (d:=.ref _) (v:=.ref _) rfl G0 rfl (λ _=>rfl)) (aq (kP (d:=.ref _) (v:=.ref _) rfl G1 rfl (λ _=>rfl)) aI)))))))) aI))))
   (bG (cu (lW (ao 2) (lW (j5 (have z:=b9 ak;c6 z) (EJ (i:=1) s6 BA s0 rfl (Or.inl rfl)) aG (bF _)) (lW (du (EL s6 s0) rfl B.isinstance jS (aq (ao 1) (aq (lw rfl B.ValueError L2.aal) aI))) (o_ (zD (ao 3)))))))))))
    M7))
   (bG (cu qx))),?_⟩
  refine ⟨z,none,rfl,hz,eJ,λ d e=>(by cases e),λ _=>?_⟩;refine ⟨true,ab6,λ _=>⟨u9,λ a _=>?_⟩,λ c=>(by cases c)⟩;refine ⟨rfl,ye,.int 0,rfl,true,rfl,bS.yes rfl ⟨rfl,ye,.int 0,rfl,false,rfl,Ex ab8 (bS.yes rfl ⟨rfl,ye,.int 0,rfl,bS.yes rfl (Ex ab7 (bS.yes rfl (bo.of q)))⟩)⟩⟩
abbrev G2:b1:=top 58
def O3:ez ["_law_text_here", "e"] ["_law_text_here"] (cW G2):=⟨rfl,rfl,rfl,by trivial,rfl,by trivial,by trivial⟩
def acf(B:fB mg){bL i1:Addr}(p1:iE P w K mg base 7 "read_paper" ["text"] (gD K (uR bL)))(G3:sr K i1)(sZ:mg "NoText" = some (.ref bL))(uW:mg "BagError" = some (.ref i1))(u9:kZ K bL)(acg:iG K (.ref bL) (.ref i1)=some true)(ach:oI K (.ref bL) (.ref bL)=some true)(F:ed K "_law_base" "_law_base" G2 f fd):dp P w K mg base dz 10 f fd ["_law_text_here"] (bB K uS):=by
 refine gx (k:=9) F O3 (λ ds G az h=>?_) (λ bW A outer s H E ak ds G az h=>?_)
 ·obtain ⟨_,rfl,_⟩:=h;rfl
 obtain ⟨z,rfl,hz,eJ,q⟩:=h
 refine ⟨_,(bt (M_ p1 ak (by omega) rfl (λ _=>(aq (ao 0) aI)) (M8 (i:=1) rfl rfl rfl G3 rfl uW O3.bv rfl rfl
  (λ ab9 aca acb acd ace BA s0 s6=>(bG (cu (du (EL s6 s0) rfl B.isinstance jS (aq (ao 1) (aq (kP (d:=.ref _) (v:=.ref _) rfl sZ rfl (λ _=>rfl)) aI))))))
  M7))
  (bG (cu qx))),?_⟩
 refine ⟨z,none,rfl,hz,eJ,λ d e=>(by cases e),λ _=>?_⟩;exact ⟨true,acg,λ _=>⟨u9,λ a _=>Ex ach (bo.of q)⟩,λ c=>(by cases c)⟩
abbrev u_:b1:=top 59
def s7:ez ["_law_script", "_law_feed_here", "_law_paper", "_law_paths", "_law_path", "_law_text_here", "_law_spoilt_here"] ["_law_script"] (cW u_):=⟨rfl,rfl,rfl,by trivial,rfl,by trivial,by trivial⟩
def aci(B:fB mg){bL:Addr}(yf:Got P w K mg base 1 "_law_feed" ["_law_script", "_law_k"] (bB K wS))(fq:Got P w K mg base 1 "_law_take" ["_law_feed_here", "_law_many"] (bB K m6))(pV:Got P w K mg base 27 "_law_shape" ["_law_feed_here", "_law_room", "_law_deep"] (bB K (xm 15)))(G4:Got P w K mg base 104 "_law_fit" ["_law_paper"] (bB K Fh))(x_:Got P w K mg base 102 "_law_lines" ["_law_paper"] (bB K (xR 101)))(ku:Got P w K mg base 103 "_law_text" ["_law_paper"] (bB K (pI 101)))(yd:Got P w K mg base 205 "_law_made" ["_law_feed_here", "_law_paper", "_law_path", "_law_held"] (bB K (xS 100)))(p1:iE P w K mg base 7 "read_paper" ["text"] (gD K (uR bL)))(G5:Got P w K mg base 10 "_law_refused" ["_law_text_here"] (bB K uS))(G6:Got P w K mg base 10 "_law_base" ["_law_text_here"] (bB K uS))(F:ed K "law" "law" u_ f fd):dp P w K mg base dz 206 f fd ["_law_script"] (bB K Kt):=by
 refine gx (k:=205) F s7 (λ ds G az h=>?_) (λ bW A outer s H E ak ds G az h=>?_)
 ·obtain ⟨_,rfl,_⟩:=h;rfl
 obtain ⟨ns,rfl,ar,q⟩:=h;have O4:=ZL (sp:=N0) p1 ZQ
 refine ⟨_,(bt (cU (k:=1) s7.bv rfl (Or.inl rfl) (cG yf ak (by omega) rfl (aq (ao 0) (aq aG aI))))
  (bt (cU (k:=2) s7.bv rfl (Or.inl rfl) (cG G4 ak (by omega) rfl (aq (cG pV ak (by omega) rfl (aq (ao 1) (aq (bI da aG (cG fq ak (by omega) rfl (aq (ao 1) (aq aG aI)))) (aq aG aI)))) aI)))
  (bt (cU (k:=3) s7.bv rfl (Or.inl rfl) (cG x_ ak (by omega) rfl (aq (ao 2) aI)))
  (bt (cU (k:=4) s7.bv rfl (Or.inl rfl) (bx bz (ao 3) (cG fq ak (by omega) rfl (aq (cG yf ak (by omega) rfl (aq (ao 0) (aq aG aI))) (aq (du eU rfl B.len eQ (aq (ao 3) aI)) aI))) (λ _ _=>rfl)))
  (bt (cU (k:=5) s7.bv rfl (Or.inl rfl) (cG ku ak (by omega) rfl (aq (ao 2) aI)))
  (bt (cU (k:=6) s7.bv rfl (Or.inl rfl) (cG yd ak (by omega) rfl (aq (cG yf ak (by omega) rfl (aq (ao 0) (aq aG aI))) (aq (ao 2) (aq (ao 4) (aq qx aI))))))
  (bt (c8 (fc.at (iu (bQ (pq (b9 ak)) (cG O4 ak (by omega) rfl (aq (ao 5) aI)) (ao 2) (bF _)) (iu (m1 (jw (cG G5 ak (by omega) rfl (aq (ao 6) aI)))) (j7 (m1 (jw (cG G6 ak (by omega) rfl (aq (ao 6) aI)))))))) (bG (cu qx)) dw)
  (bG (cu (j5 (c6 (b9 ak)) (cG O4 ak (by omega) rfl (aq (ao 5) aI)) (ao 2) (bF _))))))))))),?_⟩
 refine ⟨ns,rfl,ar,by omega,by omega,λ a acj agu ay=>⟨.up,by decide,by decide,λ m aB c9 m0 eg=>⟨a,1+m,12,rfl,c9.fd,by omega,by omega,by omega,by omega,by omega,λ ey aY eu cE=>⟨ey,rfl,cE.mono ?_ (by decide),λ d ⟨hd,x,ai,BB⟩=>?_⟩⟩⟩⟩
 ·have:(1+m).toNat<=40:=by omega
  have ag:2100 * (8 * (1+m).toNat+1)<=2100 * (8 * 40+1):=Nat.mul_le_mul_left _ (by omega);omega
 refine ⟨d,x,rfl,ai,by omega,by omega,BB,λ l ks d3 kq jJ sY cX GG sD=>?_⟩;have agv:1<=ks.length:=vv.mpr cX;refine ⟨ns,rfl,ar,by omega,by omega,λ b agw agx af=>?_⟩
 have G7:l≠b:=by rintro rfl;rw [jJ] at af;cases af
 refine bn (by rw [dh G7];exact jJ) ⟨.up,by rw [cP];omega,by rw [cP];omega,λ k ht jl k0 k1=>?_⟩;rw [cP] at k1
 obtain ⟨i,rfl⟩:∃ i:Nat,k=i:=⟨k.toNat,by omega⟩
 have au:i < ks.length:=by omega
 have ah:=sD _ (i3 au);have g7:=NY ah;refine dE (jl.c2 G7 (by rw [dh G7];exact jJ)) (d:=ny ks[i]) (hp (by rw [f3,e8 au];rfl)) ?_;refine ⟨d,x,rfl,ai,by omega,by omega,⟨ns,rfl,ar,by omega,by omega,λ c agy agz am=>⟨c,d,x,false,ks[i],rfl,.up,ai,BB,hd,ah,by omega,λ z qC agA ack agB=>?_⟩⟩⟩
 have eJ:d_ none [[]] (bh cA [] z.cps.toList):=by have:=ack [] [] [] .root (by simp;omega);rwa [eP] at this
 have hz:z.length<=5900:=by omega
 obtain ⟨gS,acj⟩:=My ai;refine ⟨d,x,rfl,ai,BB,hd,t7 (f:=λ x=>!x) gS gS (by omega) (bS.no (by rw [ob gS];rfl) ⟨z,rfl,hz,eJ,bS.no rfl ⟨z,rfl,hz,eJ,bS.no rfl ⟨d,x,rfl,ai,BB,hd,t7 (f:=id) gS gS (by omega) (bo.of ?_)⟩⟩⟩)⟩;rw [ob gS];exact q _
end
set_option maxHeartbeats 4000000
theorem aL0q{l:PySem.W.OpenLaw}{w:b_}{K:aV}{h:bO}{mg:Str->Option Value}{fa  : Addr}(X:K.In h)(G:h.Ns ea mg)(acl:mg "law" = some (.ref fa))
 (jz:DT K "flat" FA) (ey:DT K "is_whole_number" Fv) (fy:DT K "is_kind" FI) (uD:DT K "has_kind_form" Fx) (EK:DT K "has_answer_word" Fw) (acm:DT K "inner_kinds" Fz) (acn:DT K "is_sorted" FE) (aco:DT K "pieces_of" FP) (acp:DT K "is_whole_text" FR) (acq:DT K "made_of" FO) (acr:DT K "read_kind" Gg) (acs:DT K "read_piece" F6) (act:DT K "kind_closed" Ga) (acu:DT K "way_closed" Ge) (acv:DT K "pair_closed" F_) (acw:DT K "read_paper" Gu) (acx:DT K "kind_end" Gn) (acy:DT K "paper_closed" Gp) (acz:DT K "_law_feed" Fu) (acA:DT K "_law_take" Fs) (acB:DT K "_law_answer_kind" FU) (acC:DT K "_law_kind" FW) (acD:DT K "_law_shape" F0) (acE:DT K "_law_kind_text" FQ) (acF:DT K "_law_text" F4) (acG:DT K "_law_fit" GD) (acH:DT K "_law_lines" GF) (acI:DT K "_law_bad_kind" GH) (acJ:DT K "_law_bad_leaf" GK) (acK:DT K "_law_spoilt" GL) (acL:DT K "_law_made" GO) (acM:DT K "_law_refused" GS) (acN:DT K "_law_base" G2) (acO:DT K "law" u_) (xv:eX K ea "len" = some none) (cN:eX K ea "isinstance" = some none) (cc:eX K ea "range" = some none) (hr:eX K ea "int" = some none) (wk:eX K ea "bool" = some none) (DS:eX K ea "str" = some none) (acP:eX K ea "tuple" = some none) (acQ:eX K ea "list" = some none) (acR:eX K ea "sorted" = some none) (wb:eX K ea "all" = some none) (acS:eX K ea "reversed" = some none) (acT:eX K ea "min" = some none) (acU:eX K ea "max" = some none) (acV:eX K ea "enumerate" = some none) (acW:eX K ea "zip" = some none) (acX:eX K ea "ValueError" = some none)
 {gU:Tok} (ti0:eX K ea "ITEM" = some (some (.int 1 gU)))
 {aW:Tok} (te0:eX K ea "END" = some (some (.int 0 aW)))
 {F7:Tok} (tm0:eX K ea "MOST_FIGURES" = some (some (.int 12 F7)))
 {t_:Tok} (tf0:eX K ea "FIGURES" = some (some (.str kV t_)))
 {en:Tok} (ts0:eX K ea "SIGNS_kindtexts" = some (some (.str Eb en)))
 {hq:Tok} (tp0:eX K ea "SIGNS_papertexts" = some (some (.str Eo hq)))
 {sV:Addr} (aI0:eX K ea "INNER_PAPERS" = some (some (.ref sV)))
 {G8:Array DictEntry} {acY:Nat} (aI1:K.lookup sV=some ⟨.type "dict", none,.dict G8 acY,#[]⟩)
 (aI2:(sV==q_)=false)
 (aI3:PySem.W.KeysLit w.params G8.toList)
  (aI4:la (λ(e6:Str × V) (e:DictEntry)=>(∃ t1,e.key=.str e6.1 t1)/\RelV e6.2 e.val) Mw G8.toList)
  {sW:Addr} (aS0:eX K ea "PAPER_OF_SIGN" = some (some (.ref sW)))
  {G9 sB:Addr}
  {G_:Array DictEntry} {acZ:Nat} (aS1:K.lookup sW=some ⟨.type "dict", none,.dict G_ acZ,#[]⟩)
  (aS2:(sW==q_)=false)
 (aS3:PySem.W.KeysLit w.params G_.toList)
  (aS4:la (λ(e6:Str × V) (e:DictEntry)=>(∃ t1,e.key=.str e6.1 t1)/\RelV e6.2 e.val) [(".", .ref G9),("~", .ref sB)] G_.toList)
  {isA:Array Value} {ac0:Nat} (sA1:K.lookup G9=some ⟨.type "tuple", none,.seq isA ac0,#[]⟩)
  (sA2:qd isA.size 1000=true)
  (sA3:Vals [V.str "whole"] isA.toList)
  {Ha:Array Value} {ac1:Nat} (sB1:K.lookup sB=some ⟨.type "tuple", none,.seq Ha ac1,#[]⟩)
  (sB2:qd Ha.size 1000=true)
  (sB3:Vals [V.str "some"] Ha.toList)
  {i1 O5:Addr} {sS:Array DictEntry} {Bh:Nat} {Fo:Array (Option Value)} {qQ Fp:Value} {hn Fq:Option Addr} {Hb:ky} {ho:Array (Option Value)}
 (cB_0:eX K ea "BagError" = some (some (.ref i1)))
  (x4:nN i1 K=some ⟨qQ,hn,.cls Hb,ho⟩)
  (x5:Hb.ns=O5)
  (x6:nN O5 K=some ⟨Fp,Fq,.dict sS Bh,Fo⟩)
  (x7:Bf sS=true)
 (cB_cl:lN K i1=some Hb)
 (cB_ty:nR K (.ref i1)=some (.type "type"))
 (cB_be:iG K (.ref i1) (.type "BaseException")=some true)
 (cB_hg:yO K (.ref i1) "__getattribute__" = some (some (.builtin "type.__getattribute__")))
 (cB_hr:PySem.W.readsIn K i1 (.type "type")=true)
 (cB_hf:PySem.W.findCls K (.ref i1) (.type "type") "__init__" = some (.val (.builtin "ValueError.__init__")))
 (e3:yO K (.builtin "object.__class__") "__get__" = some (some (.builtin "getset_descriptor.__get__")))
 (e4:PySem.W.takesIn K (.builtin "object.__class__")=some true)
  {bL O6 Hc:Addr} {ac2 ac3:Str} {ac4:List Value} {ac5:Bool} {ac6:List Str} {ac7:List Value} {ac8:Bool} {ac9:Option Bool} {ada:Option Addr} {adb adc ade adf adg:Option Value} {adh:Value} {adi:Option Addr} {Hd:Array DictEntry} {adj:Nat} {adk:Array (Option Value)} {adl adn:Option Addr} {ado adp adq O7 adr:Value} {ads:Array (Option Value)} {He:ky}
 (cT_0:eX K ea "NoText" = some (some (.ref bL)))
  (cT_1:nN bL K=some (ta ac2 ac3 bL O6 ac4 (.ref i1::Fn) ac5 ac6 ac7 ac8 ac9 ada adb adc ade adf adg "ValueError.__new__"))
  (cT_2:nN O6 K=some ⟨adh,adi,.dict Hd adj,adk⟩)
  (cT_3:Bg Hd=true)
  (cT_8:PySem.nsFind Hd "__init__" = some (.ref Hc))
  (cT_9:nN Hc K=some ⟨.type "function", adl,.func (nQ "__init__" "NoText.__init__" (n5 xT) (j2 xT) (cW xT) .none ado adp adq adn O7 adr),ads⟩)
 (cT_c:tu K O7 "NoText.__init__" = true)
 (cT_k:lM K (.ref Hc)=true)
 (cT_p:lM K (.ref bL)=true)
 (cT_sa:nP K (.ref bL) "__setattr__" = some (some (.builtin "object.__setattr__")))
 (cT_cl:lN K bL=some He)
  (cT_mr:He.mro=.ref bL::.ref i1::AP)
  (cT_hd:He.hasDict=true)
 (cT_na:nP K (.ref bL) "at" = some none)
 (cT_ty:nR K (.ref bL)=some (.type "type"))
 (cT_be:iG K (.ref bL) (.type "BaseException")=some true)
 (cT_e0:nP K (.ref bL) "__getattribute__" = some (some (.builtin "BaseException.__getattribute__")))
 (cT_e1:nP K (.ref bL) "__getattr__" = some none)
 (cT_e2:nP K (.ref bL) "__class__" = some (some (.builtin "object.__class__")))
 (cT_e5:PySem.W.mroIn K bL (.type "object")=some true)
 (s_cT_cT:iG K (.ref bL) (.ref bL)=some true)
 (s_cT_cB:iG K (.ref bL) (.ref i1)=some true)
 (s_cT_VE:iG K (.ref bL) (.type "ValueError")=some true)
  (d_cT_cB:(bL==i1)=false)
  {o0:Addr} {adt:ky}
 (y00:eX K ea "NoData" = some (some (.ref o0)))
 (y01:lN K o0=some adt)
 (y02:nR K (.ref o0)=some (.type "type"))
 (y03:iG K (.ref bL) (.ref o0)=some false)
  (y04:(bL==o0)=false)
  {d9:Addr} {adu:ky}
 (y10:eX K ea "NoFit" = some (some (.ref d9)))
 (y11:lN K d9=some adu)
 (y12:nR K (.ref d9)=some (.type "type"))
 (y13:iG K (.ref bL) (.ref d9)=some false)
  (y14:(bL==d9)=false)
  {cZ:Addr} {adv:ky}
 (y20:eX K ea "NoName" = some (some (.ref cZ)))
 (y21:lN K cZ=some adv)
 (y22:nR K (.ref cZ)=some (.type "type"))
 (y23:iG K (.ref bL) (.ref cZ)=some false)
  (y24:(bL==cZ)=false)
  {gE:Addr} {adw:ky}
 (y30:eX K ea "NoPaper" = some (some (.ref gE)))
 (y31:lN K gE=some adw)
 (y32:nR K (.ref gE)=some (.type "type"))
 (y33:iG K (.ref bL) (.ref gE)=some false)
  (y34:(bL==gE)=false)
  {eE:Addr} {adx:ky}
 (y40:eX K ea "NoRoom" = some (some (.ref eE)))
 (y41:lN K eE=some adx)
 (y42:nR K (.ref eE)=some (.type "type"))
 (y43:iG K (.ref bL) (.ref eE)=some false)
  (y44:(bL==eE)=false)
  {iZ:Addr} {ady:ky}
 (y50:eX K ea "NoRow" = some (some (.ref iZ)))
 (y51:lN K iZ=some ady)
 (y52:nR K (.ref iZ)=some (.type "type"))
 (y53:iG K (.ref bL) (.ref iZ)=some false)
  (y54:(bL==iZ)=false)
  {kr:Addr} {adz:ky}
 (y60:eX K ea "NoRule" = some (some (.ref kr)))
 (y61:lN K kr=some adz)
 (y62:nR K (.ref kr)=some (.type "type"))
 (y63:iG K (.ref bL) (.ref kr)=some false)
  (y64:(bL==kr)=false)
  : ∃ fd:gZ,(∀(s:aF)(v:Value),tb s fd ⟨[v],[]⟩ [("_law_script", v)])/\∀ base:bO,K.In base->base.Ns ea mg->dp l.prog w K mg base dz 206 fa fd ["_law_script"] (zY K):=by
  obtain ⟨f0,_,adA,Hf⟩:=jz.ok;have adB:=Hf.binds (ps:=N7) λ _ _ _ _ _ _=>h4 λ _=>rfl;have adC:=dV X G adA;have adD:=Hf.c2;obtain ⟨f1,_,adE,Hg⟩:=ey.ok;have adF:=Hg.binds (ps:=N8) λ _ _ _ _ _ _=>h4 λ _=>rfl;have adG:=dV X G adE;have adH:=Hg.c2;obtain ⟨f2,_,adI,Hh⟩:=fy.ok;have adJ:=Hh.binds (ps:=N9) λ _ _ _ _ _ _=>h4 λ _=>rfl;have adK:=dV X G adI;have adL:=Hh.c2;obtain ⟨dn,_,adM,Hi⟩:=uD.ok;have adN:=Hi.binds (ps:=N_) λ _ _ _ _ _ _=>h4 λ _=>rfl;have adO:=dV X G adM;have adP:=Hi.c2;obtain ⟨f4,_,adQ,Hj⟩:=EK.ok;have adR:=Hj.binds (ps:=Oa) λ _ _ _ _ _ _=>h4 λ _=>rfl;have adS:=dV X G adQ;have adT:=Hj.c2;obtain ⟨eK,_,adU,Hk⟩:=acm.ok;have adV:=Hk.binds (ps:=Ob) λ _ _ _ _ _ _=>h4 λ _=>rfl;have adW:=dV X G adU;have adX:=Hk.c2;obtain ⟨lF,_,adY,Hl⟩:=acn.ok;have adZ:=Hl.binds (ps:=Oc) λ _ _ _ _ _ _=>h4 λ _=>rfl;have ad0:=dV X G adY;have ad1:=Hl.c2;obtain ⟨lG,_,ad2,BC⟩:=aco.ok;have O8:=BC.binds (ps:=Fr) λ _ _ _ _ _ _=>oj λ _ _=>rfl;have O9:=dV X G ad2;have O_:=BC.c2;obtain ⟨f8,_,ad3,Hm⟩:=acp.ok;have ad4:=Hm.binds (ps:=Od) λ _ _ _ _ _ _=>oj λ _ _=>rfl;have ad5:=dV X G ad3;have ad6:=Hm.c2;obtain ⟨qN,_,ad7,Hn⟩:=acq.ok;have ad8:=Hn.binds (ps:=Oe) λ _ _ _ _ _ _=>oj λ _ _=>rfl;have ad9:=dV X G ad7;have aea:=Hn.c2;obtain ⟨agC,_,aeb,Ho⟩:=acr.ok;have aec:=Ho.binds (ps:=Og) λ _ _ _ _ _ _=>h4 λ _=>rfl;have aed:=dV X G aeb;have aee:=Ho.c2;obtain ⟨agD,_,aef,Hp⟩:=acs.ok;have aeg:=Hp.binds (ps:=Oh) λ _ _ _ _ _ _=>h4 λ _=>rfl;have aeh:=dV X G aef;have aei:=Hp.c2;obtain ⟨agE,_,aej,Hq⟩:=act.ok;have aek:=Hq.binds (ps:=Oi) λ _ _ _ _ _ _=>oj λ _ _=>rfl;have ael:=dV X G aej;have aem:=Hq.c2;obtain ⟨agF,_,aen,Hr⟩:=acu.ok;have aeo:=Hr.binds (ps:=Oj) λ _ _ _ _ _ _=>h4 λ _=>rfl;have aep:=dV X G aen;have aeq:=Hr.c2;obtain ⟨agG,_,aer,Hs⟩:=acv.ok;have aes:=Hs.binds (ps:=Ol) λ _ _ _ _ _ _=>h4 λ _=>rfl;have aet:=dV X G aer;have aeu:=Hs.c2;obtain ⟨agH,_,aev,Ht⟩:=acw.ok;have aew:=Ht.binds (ps:=Om) λ _ _ _ _ _ _=>h4 λ _=>rfl;have aex:=dV X G aev;have aey:=Ht.c2;obtain ⟨agI,_,aez,Hu⟩:=acx.ok;have aeA:=Hu.binds (ps:=On) λ _ _ _ _ _ _=>oj λ _ _=>rfl;have aeB:=dV X G aez;have aeC:=Hu.c2;obtain ⟨agJ,_,aeD,Hv⟩:=acy.ok;have aeE:=Hv.binds (ps:=Oo) λ _ _ _ _ _ _=>h4 λ _=>rfl;have aeF:=dV X G aeD;have aeG:=Hv.c2;obtain ⟨agK,_,aeH,Hw⟩:=acz.ok;have aeI:=Hw.binds (ps:=Op) λ _ _ _ _ _ _=>oj λ _ _=>rfl;have aeJ:=dV X G aeH;have aeK:=Hw.c2;obtain ⟨agL,_,aeL,Hx⟩:=acA.ok;have aeM:=Hx.binds (ps:=Oq) λ _ _ _ _ _ _=>oj λ _ _=>rfl
  have aeN:=dV X G aeL;have aeO:=Hx.c2;obtain ⟨Pa,_,aeP,Hy⟩:=acB.ok;have Pb:=Hy.binds (ps:=Os) λ _ _ _ _ _ _=>oj λ _ _=>rfl;have Pc:=dV X G aeP;have Pd:=Hy.c2;obtain ⟨Pe,_,aeQ,Hz⟩:=acC.ok;have Pf:=Hz.binds (ps:=Ot) λ _ _ _ _ _ _=>oj λ _ _=>rfl;have Pg:=dV X G aeQ;have kp_kind:=Hz.c2;obtain ⟨Ph,_,aeR,HA⟩:=acD.ok;have Pi:=HA.binds (ps:=Ou) λ _ _ _ _ _ _=>WH λ _ _ _=>rfl;have Pj:=dV X G aeR;have Pk:=HA.c2;obtain ⟨Pl,_,aeS,HB⟩:=acE.ok;have Pm:=HB.binds (ps:=Ov) λ _ _ _ _ _ _=>h4 λ _=>rfl;have Pn:=dV X G aeS;have Po:=HB.c2;obtain ⟨Pp,_,aeT,HC⟩:=acF.ok;have Pq:=HC.binds (ps:=Ow) λ _ _ _ _ _ _=>h4 λ _=>rfl;have Pr:=dV X G aeT;have Ps:=HC.c2;obtain ⟨agM,_,aeU,HD⟩:=acG.ok;have aeV:=HD.binds (ps:=Ox) λ _ _ _ _ _ _=>h4 λ _=>rfl;have aeW:=dV X G aeU;have aeX:=HD.c2;obtain ⟨Pt,_,aeY,HE⟩:=acH.ok;have Pu:=HE.binds (ps:=Oy) λ _ _ _ _ _ _=>h4 λ _=>rfl;have Pv:=dV X G aeY;have Pw:=HE.c2;obtain ⟨agN,_,aeZ,HF⟩:=acI.ok;have ae0:=HF.binds (ps:=Oz) λ _ _ _ _ _ _=>h4 λ _=>rfl;have ae1:=dV X G aeZ;have ae2:=HF.c2;obtain ⟨agO,_,ae3,HG⟩:=acJ.ok;have ae4:=HG.binds (ps:=OA) λ _ _ _ _ _ _=>h4 λ _=>rfl;have ae5:=dV X G ae3;have ae6:=HG.c2;obtain ⟨agP,_,ae7,HH⟩:=acK.ok;have ae8:=HH.binds (ps:=OB) λ _ _ _ _ _ _=>LR λ _ _ _ _=>rfl;have ae9:=dV X G ae7;have afa:=HH.c2;obtain ⟨Px,_,afb,HI⟩:=acL.ok;have Py:=HI.binds (ps:=OC) λ _ _ _ _ _ _=>LR λ _ _ _ _=>rfl;have Pz:=dV X G afb;have PA:=HI.c2;obtain ⟨agQ,_,afc,HJ⟩:=acM.ok;have afd:=HJ.binds (ps:=OD) λ _ _ _ _ _ _=>h4 λ _=>rfl;have afe:=dV X G afc;have aff:=HJ.c2;obtain ⟨agR,_,afg,HK⟩:=acN.ok;have afh:=HK.binds (ps:=OE) λ _ _ _ _ _ _=>h4 λ _=>rfl;have afi:=dV X G afg;have afj:=HK.c2
  have B:fB mg:=⟨jp X G xv,jp X G cN,jp X G cc,jp X G hr,jp X G wk,jp X G DS,jp X G acP,jp X G acQ,jp X G acR,jp X G wb,jp X G acS,jp X G acT,jp X G acU,jp X G acV,jp X G acW,jp X G acX⟩
  obtain ⟨agS,_,afk,PB⟩:=acO.ok;cases acl.symm.trans (dV X G afk);obtain ⟨_,_,gR,afl,pm,an,cd,ct,_,rfl,agT,O2⟩:=PB.ex;refine ⟨nQ "law" "law" (n5 u_) (j2 u_) (cW u_) .none gR afl pm an cd ct,λ s v=>.of_eq rfl,λ base _ _ =>?_⟩;have FB:=dV X G ti0;have FC:=dV X G te0;have F8:=dV X G tm0;have FS:=dV X G tf0;have Gh:=dV X G ts0;have Gv:=dV X G tp0;have Gq:=dV X G aI0;have Gw:=dV X G aS0;have Gr:r4 K w sV qM:=LV aI1 aI2 aI3 aI4 (λ _=>rfl) Xp;have Gx:r4 K w sW xo:=LV (L:=AJ) aS1 aS2 aS3 aS4 (λ _=>rfl) (.cons ⟨rfl,λ _=>⟨G9,_,rfl,LW sA1 sA2 sA3,Dg ["whole"]⟩⟩ (.cons ⟨rfl,λ _=>⟨sB,_,rfl,LW sB1 sB2 sB3,Dg ["some"]⟩⟩ .nil));have uW:=dV X G cB_0
  have pJ:AR K i1:=⟨cB_hg,cB_hr,cB_hf⟩
  have G3:sr K i1:=⟨cB_ty,⟨_,_,_,_,x4⟩,cB_be⟩
  have sZ:=dV X G cT_0;have PC:=aan cT_1 cT_2 cT_3 cT_8 cT_9 x4 x5 x6 x7
  have afm:AQ K bL "at":=⟨cT_sa,⟨_,_,cT_cl,cT_mr,cT_hd⟩,aas cT_na⟩
  have PD:=I_ cT_9 cT_c cT_k;have afn:=PD.binds (ps:=aau) λ _ _ _ _ _ _=>oj λ _ _=>rfl
  have gP:pN l.prog w K mg base 1 "NoText" bL "at":=⟨⟨_,_,_,PC,aaw PC pJ afm uW PD,sZ,cT_p,afn⟩⟩
  have GU:sr K bL:=⟨cT_ty,⟨_,_,_,_,cT_1⟩,cT_be⟩
  have u9:kZ K bL:=⟨cT_e0,cT_e1,cT_e2,e3,e4,cT_e5,cT_be,by rw [cT_cl];rfl⟩
  have ye:AY K bL "at":=⟨⟨_,cT_cl,cT_hd⟩,cT_na⟩
  have GV:=dV X G y00;have GW:=dV X G y10;have GX:=dV X G y20;have GY:=dV X G y30;have GZ:=dV X G y40;have G0:=dV X G y50;have G1:=dV X G y60
  have Fy:Got l.prog w K mg base 1 "is_whole_number" N8 (bB K DI):=⟨_,_,aaA B Hg,adG,adH,adF⟩
  have Bj:Got l.prog w K mg base 1 "has_answer_word" Oa (bB K DJ):=⟨_,_,aaC B Hj,adS,adT,adR⟩
  have FJ:Got l.prog w K mg base 2 "has_kind_form" N_ (bB K DK):=⟨_,_,aaE B Fy Bj Hi,adO,adP,adN⟩
  have FK:Got l.prog w K mg base 1 "inner_kinds" Ob (bB K DL):=⟨_,_,aaH B Hk,adW,adX,adV⟩
  have FF:Got l.prog w K mg base 1 "flat" N7 (bB K DN):=⟨_,_,aaI B FB FC Hf,adC,adD,adB⟩
  have FL:Got l.prog w K mg base 2 "is_sorted" Oc (bB K DO):=⟨_,_,aaL B FF Hl,ad0,ad1,adZ⟩
  have Gk:Got l.prog w K mg base 3 "is_kind" N9 (bB K DP):=⟨_,_,aaN B FJ FK FL Hh,adK,adL,adJ⟩
  have FT:Got l.prog w K mg base 1 "made_of" Oe (bB K DW):=⟨_,_,aaV B Hn,ad9,aea,ad8⟩
  have F9:Got l.prog w K mg base 2 "is_whole_text" Od (bB K Ea):=⟨_,_,aa1 B FS FT Hm,ad5,ad6,ad4⟩
  have x0:Got l.prog w K mg base 1 "pieces_of" Fr (bB K Mj):=⟨_,_,ON W2 B BC,O9,O_,O8⟩
  have afo:Got l.prog w K mg base 1 "pieces_of" Fr (bB K Mv):=⟨_,_,ON Xc B BC,O9,O_,O8⟩
  have Gj:iE l.prog w K mg base 3 "read_piece" Oh (gD K (EM bL)):=⟨⟨_,_,abl B gP F8 F9 Hp,aeh,aei,aeg⟩⟩
  have Gb:iE l.prog w K mg base 3 "way_closed" Oj (gD K (EN bL)):=⟨⟨_,_,abq B gP Hr,aep,aeq,aeo⟩⟩
  have Gd:iE l.prog w K mg base 3 "pair_closed" Ol (gD K (EO bL)):=⟨⟨_,_,abn B gP Hs,aet,aeu,aes⟩⟩
  have Gi:iE l.prog w K mg base 4 "kind_closed" Oi (gD K (EP bL)):=⟨⟨_,_,abp gP Gb Gd Hq,ael,aem,aek⟩⟩
  have GA:iE l.prog w K mg base 6 "read_kind" Og (gD K (Fg bL)):=⟨⟨_,_,abv B gP Gh x0 Gi Gj Gk Ho,aed,aee,aec⟩⟩
  have Gy:Got l.prog w K mg base 1 "kind_end" On (bB K Fe):=⟨_,_,abA B Hu,aeB,aeC,aeA⟩
  have Gz:iE l.prog w K mg base 3 "paper_closed" Oo (gD K (Ff bL)):=⟨⟨_,_,abC B gP Gq Gr Hv,aeF,aeG,aeE⟩⟩
  have p1:iE l.prog w K mg base 7 "read_paper" Om (gD K (uR bL)):=⟨⟨_,_,abG B gP Gv Gw Gx afo Gy Gz GA Ht,aex,aey,aew⟩⟩
  have yf:Got l.prog w K mg base 1 "_law_feed" Op (bB K wS):=⟨_,_,aay B Hw,aeJ,aeK,aeI⟩
  have fq:Got l.prog w K mg base 1 "_law_take" Oq (bB K m6):=⟨_,_,aax Hx,aeN,aeO,aeM⟩
  have u1:∀ n:Nat,Got l.prog w K mg base (n+2) "_law_answer_kind" Os (bB K (xk n)):=λ n=>by
   induction n with
   | zero=>exact ⟨Pa,_,aa3,Pc,Pd,Pb⟩
   | succ n bN=>exact ⟨Pa,_,aa4 B fq bN Hy,Pc,Pd,Pb⟩
  have q1:∀ n:Nat,Got l.prog w K mg base (n+7) "_law_kind" Ot (bB K (xl n)):=λ n=>by
   induction n with
   | zero=>exact ⟨Pe,_,aa6,Pg,kp_kind,Pf⟩
   | succ n bN=>exact ⟨Pe,_,aa7 B fq (u1 4) bN Hz,Pg,kp_kind,Pf⟩
  have pV:∀ n:Nat,Got l.prog w K mg base (n+12) "_law_shape" Ou (bB K (xm n)):=λ n=>by
   induction n with
   | zero=>exact ⟨Ph,_,abd,Pj,Pk,Pi⟩
   | succ n bN=>exact ⟨Ph,_,abe B fq (q1 4) bN HA,Pj,Pk,Pi⟩
  have ow:∀ n:Nat,Got l.prog w K mg base (n+1) "_law_kind_text" Ov (bB K (xn n)):=λ n=>by
   induction n with
   | zero=>exact ⟨Pl,_,aaY,Pn,Po,Pm⟩
   | succ n bN=>exact ⟨Pl,_,aaZ B bN HB,Pn,Po,Pm⟩
  have ku:∀ n:Nat,Got l.prog w K mg base (n+2) "_law_text" Ow (bB K (pI n)):=λ n=>by
   induction n with
   | zero=>exact ⟨Pp,_,abh,Pr,Ps,Pq⟩
   | succ n bN=>exact ⟨Pp,_,abi B (ow n) bN HC,Pr,Ps,Pq⟩
  have G4:Got l.prog w K mg base 104 "_law_fit" Ox (bB K Fh):=⟨_,_,abM B (ku 101) HD,aeW,aeX,aeV⟩
  have x_:∀ n:Nat,Got l.prog w K mg base (n+1) "_law_lines" Oy (bB K (xR n)):=λ n=>by
   induction n with
   | zero=>exact ⟨Pt,_,abN,Pv,Pw,Pu⟩
   | succ n bN=>exact ⟨Pt,_,abO B bN HE,Pv,Pw,Pu⟩
  have GM:Got l.prog w K mg base 2 "_law_bad_kind" Oz (bB K Fi):=⟨_,_,abQ B fq HF,ae1,ae2,ae0⟩
  have GN:Got l.prog w K mg base 2 "_law_bad_leaf" OA (bB K Fj):=⟨_,_,abU B fq HG,ae5,ae6,ae4⟩
  have GP:Got l.prog w K mg base 104 "_law_spoilt" OB (bB K Fk):=⟨_,_,abV B fq GM GN (ku 101) HH,ae9,afa,ae8⟩
  have yd:∀ n:Nat,Got l.prog w K mg base (n+105) "_law_made" OC (bB K (xS n)):=λ n=>by
   induction n with
   | zero=>exact ⟨Px,_,ab0,Pz,PA,Py⟩
   | succ n bN=>exact ⟨Px,_,ab1 B GP (ku 101) bN HI,Pz,PA,Py⟩
  have G5:Got l.prog w K mg base 10 "_law_refused" OD (bB K uS):=⟨_,_,ab5 B p1 GU sZ GV GW GX GY GZ G0 G1 u9 ye s_cT_cT (aaj s_cT_VE) (sR (sQ y04 y01 y02 y03) (sR (sQ y14 y11 y12 y13) (sR (sQ y24 y21 y22 y23) (sR (sQ y34 y31 y32 y33) (sR (sQ y44 y41 y42 y43) (sR (sQ y54 y51 y52 y53) (sR (sQ y64 y61 y62 y63) aak))))))) HJ,afe,aff,afd⟩
  have G6:Got l.prog w K mg base 10 "_law_base" OE (bB K uS):=⟨_,_,acf B p1 G3 sZ uW u9 s_cT_cB aat HK,afi,afj,afh⟩
  exact aci B yf fq (pV 15) G4 (x_ 101) (ku 101) (yd 100) p1 G5 G6 PB
def walk{l:PySem.W.OpenLaw}{q:cS}{loose:List Str}{rM:(Str->Option Value)->bO->Prop}{qr:b_->bO->Prop}{d:DefRec}{K:Params->aV}(aA:l.most=some 63)(vX:d.params.defaults=[])
 (Cp:∀(w:b_)(h:bO),qr w h->(K w.params).In h)
 (F:∀(w:b_)(mg:Str->Option Value)(fa:Addr)(h:bO),(K w.params).In h->h.Ns ea mg->mg d.name=some (.ref fa) →
  ∃ fd:gZ,(∀(s:aF)(u:Value),tb s fd ⟨[u],[]⟩ [("_law_script", u)])/\∀ base:bO,(K w.params).In base->base.Ns ea mg->dp l.prog w (K w.params) mg base dz 206 fa fd ["_law_script"] (zY (K w.params))) :
 PySem.W.WalkO q loose rM qr l.row.toRowW d [] (λ f vs=>PySem.call f vs):=
 L2.Sa (n:=63) (k:=206) (x:="_law_script") (CX:=λ _=>dz) (sp:=λ w=>zY (K w.params)) aA (by decide) vX ⟨rfl,by decide,by decide⟩ Cp F (λ _ _ a ns ar o dr=>UY ar o dr) λ _ _ _ _ _ z=>z
end KB
def PySem.W.Fast.tw17743184531688397265:=0
def PySem.W.Fast.tw8068576687967123542:=0
def PySem.W.Fast.tw1785446606358245164:=0
def PySem.W.Fast.tw13800464345711063464:=0
def PySem.W.Fast.tw9480784308439402917:=0
def PySem.W.Fast.tw16361758185185995330:=0
def PySem.W.Fast.tw17370573937491749973:=0
def PySem.W.Fast.tw7086663491361422882:=0
def PySem.W.Fast.tw13421094525657911429:=0
def PySem.W.Fast.tw7759000447878201250:=0
def PySem.W.Fast.tw15386982126553057571:=0
def PySem.W.Fast.tw17220568155867555098:=0
def PySem.W.Fast.tw11017630280970901866:=0
def PySem.W.Fast.tw12549711207708873335:=0
def PySem.W.Fast.tw906592036648792913:=0
def PySem.W.Fast.tw9554186451775684136:=0
def PySem.W.Fast.tw3076207915205476393:=0
def PySem.W.Fast.tw7592275675929983095:=0
def PySem.W.Fast.tw3715065151463199002:=0
def PySem.W.Fast.tw1558169477835751673:=0
def PySem.W.Fast.tw4591239997547462191:=0
def PySem.W.Fast.tw12355722571246051421:=0
def PySem.W.Fast.tw7602073372107073956:=0
def PySem.W.Fast.tw30685706062121031:=0
def PySem.W.Fast.tw16849004173558430536:=0
def PySem.W.Fast.tw14808588125826547402:=0
def PySem.W.Fast.tw14851143205845731591:=0
def PySem.W.Fast.tw2067935363732099700:=0
def PySem.W.Fast.tw8211135526391615437:=0
def PySem.W.Fast.tw3681155659498441565:=0
def PySem.W.Fast.tw776744268726448988:=0
def PySem.W.Fast.tw15338775790134751328:=0
def PySem.W.Fast.tw13886526251164204314:=0
def PySem.W.Fast.tw17037831843714136794:=0
def PySem.W.Fast.tw1732291034407835392:=0
def PySem.W.Fast.tw4248524182529293235:=0
def PySem.W.Fast.tw7709934104772225927:=0
def PySem.W.Fast.tw14608696026450933806:=0
def PySem.W.Fast.tw2063213333811821020:=0
def PySem.W.Fast.tw760993485365944036:=0
open PySem PySem.W PyProof.Rows
set_option maxRecDepth 100000 in
set_option maxHeartbeats 0 in
theorem PySem.Challenge.cw_kindbags_k38_texts_of_papers_refused_holds : PySem.Challenge.rw_kindbags_k38_texts_of_papers_refused.Holds := by
  w_on; o_law; k_head; (case hw => w_witness2)
  k_fill
  refine KB.walk (l := PySem.Challenge.rw_kindbags_k38_texts_of_papers_refused) rfl rfl (fun w h Y => PySem.W.kIn_of Y) ?F
  case F =>
    intro w mg fa h KX G hmg
    refine' KB.aL0q KX G hmg ?_ ?_ ?_ ?_ ?_ ?_ ?_ ?_ ?_ ?_ ?_ ?_ ?_ ?_ ?_ ?_ ?_ ?_ ?_ ?_ ?_ ?_ ?_ ?_ ?_ ?_ ?_ ?_ ?_ ?_ ?_ ?_ ?_ ?_ ?_ ?_ ?_ ?_ ?_ ?_ ?_ ?_ ?_ ?_ ?_ ?_ ?_ ?_ ?_ ?_ ?ti0 ?te0 ?tm0 ?tf0 ?ts0 ?tp0 ?aI0 ?aI1 ?aI2 ?aI3 ?aI4 ?aS0 ?aS1 ?aS2 ?aS3 ?aS4 ?sA1 ?sA2 ?sA3 ?sB1 ?sB2 ?sB3 ?cB_0 ?x4 ?x5 ?x6 ?x7 ?cB_cl ?cB_ty ?cB_be ?cB_hg ?cB_hr ?cB_hf ?e3 ?e4 ?cT_0 ?cT_1 ?cT_2 ?cT_3 ?cT_8 ?cT_9 ?cT_c ?cT_k ?cT_p ?cT_sa ?cT_cl ?cT_mr ?cT_hd ?cT_na ?cT_ty ?cT_be ?cT_e0 ?cT_e1 ?cT_e2 ?cT_e5 ?s_cT_cT ?s_cT_cB ?s_cT_VE ?d_cT_cB ?y00 ?y01 ?y02 ?y03 ?y04 ?y10 ?y11 ?y12 ?y13 ?y14 ?y20 ?y21 ?y22 ?y23 ?y24 ?y30 ?y31 ?y32 ?y33 ?y34 ?y40 ?y41 ?y42 ?y43 ?y44 ?y50 ?y51 ?y52 ?y53 ?y54 ?y60 ?y61 ?y62 ?y63 ?y64
    (case ti0 => k_is)
    (case te0 => k_is)
    (case tm0 => k_is)
    (case tf0 => k_is)
    (case ts0 => k_is)
    (case tp0 => k_is)
    (case aI0 => k_is)
    (case aI1 => k_is)
    (case aI2 => rfl)
    (case aI3 => exact ⟨⟨_, _, rfl, rfl⟩, ⟨_, _, rfl, rfl⟩, ⟨_, _, rfl, rfl⟩, ⟨_, _, rfl, rfl⟩, ⟨_, _, rfl, rfl⟩, ⟨_, _, rfl, rfl⟩, ⟨_, _, rfl, rfl⟩, ⟨_, _, rfl, rfl⟩, ⟨_, _, rfl, rfl⟩, ⟨_, _, rfl, rfl⟩, trivial⟩)
    (case aI4 => exact .cons ⟨⟨_, rfl⟩, ⟨_, rfl⟩⟩ (.cons ⟨⟨_, rfl⟩, ⟨_, rfl⟩⟩ (.cons ⟨⟨_, rfl⟩, ⟨_, rfl⟩⟩ (.cons ⟨⟨_, rfl⟩, ⟨_, rfl⟩⟩ (.cons ⟨⟨_, rfl⟩, ⟨_, rfl⟩⟩ (.cons ⟨⟨_, rfl⟩, ⟨_, rfl⟩⟩ (.cons ⟨⟨_, rfl⟩, ⟨_, rfl⟩⟩ (.cons ⟨⟨_, rfl⟩, ⟨_, rfl⟩⟩ (.cons ⟨⟨_, rfl⟩, ⟨_, rfl⟩⟩ (.cons ⟨⟨_, rfl⟩, ⟨_, rfl⟩⟩ (.nil)))))))))))
    (case aS0 => k_is)
    (case aS1 => k_is)
    (case aS2 => rfl)
    (case aS3 => exact ⟨⟨_, _, rfl, rfl⟩, ⟨_, _, rfl, rfl⟩, trivial⟩)
    (case aS4 => exact .cons ⟨⟨_, rfl⟩, rfl⟩ (.cons ⟨⟨_, rfl⟩, rfl⟩ (.nil)))
    (case sA1 => k_is)
    (case sA2 => rfl)
    (case sA3 => exact .cons ⟨_, rfl⟩ (.nil))
    (case sB1 => k_is)
    (case sB2 => rfl)
    (case sB3 => exact .cons ⟨_, rfl⟩ (.nil))
    (case cB_0 => k_is)
    (case x4 => k_is)
    (case x5 => rfl)
    (case x6 => k_is)
    (case x7 => kernel_rfl)
    (case cB_cl => k_is)
    (case cB_ty => k_is)
    (case cB_be => k_is)
    (case cB_hg => k_is)
    (case cB_hr => first | k_is | kernel_rfl)
    (case cB_hf => first | k_is | kernel_rfl)
    (case e3 => k_is)
    (case e4 => k_is)
    (case cT_0 => k_is)
    (case cT_1 => k_is)
    (case cT_2 => k_is)
    (case cT_3 => kernel_rfl)
    (case cT_8 => rfl)
    (case cT_9 => k_is)
    (case cT_c => k_is)
    (case cT_k => k_is)
    (case cT_p => k_is)
    (case cT_sa => k_is)
    (case cT_cl => k_is)
    (case cT_mr => rfl)
    (case cT_hd => rfl)
    (case cT_na => k_is)
    (case cT_ty => k_is)
    (case cT_be => k_is)
    (case cT_e0 => k_is)
    (case cT_e1 => k_is)
    (case cT_e2 => k_is)
    (case cT_e5 => k_is)
    (case s_cT_cT => k_is)
    (case s_cT_cB => k_is)
    (case s_cT_VE => k_is)
    (case d_cT_cB => rfl)
    (case y00 => k_is)
    (case y01 => k_is)
    (case y02 => k_is)
    (case y03 => k_is)
    (case y04 => rfl)
    (case y10 => k_is)
    (case y11 => k_is)
    (case y12 => k_is)
    (case y13 => k_is)
    (case y14 => rfl)
    (case y20 => k_is)
    (case y21 => k_is)
    (case y22 => k_is)
    (case y23 => k_is)
    (case y24 => rfl)
    (case y30 => k_is)
    (case y31 => k_is)
    (case y32 => k_is)
    (case y33 => k_is)
    (case y34 => rfl)
    (case y40 => k_is)
    (case y41 => k_is)
    (case y42 => k_is)
    (case y43 => k_is)
    (case y44 => rfl)
    (case y50 => k_is)
    (case y51 => k_is)
    (case y52 => k_is)
    (case y53 => k_is)
    (case y54 => rfl)
    (case y60 => k_is)
    (case y61 => k_is)
    (case y62 => k_is)
    (case y63 => k_is)
    (case y64 => rfl)
    all_goals first | k_is | (refine' L3.DT.mk ?_ ?_ ?_ ?_ <;> try k_is) | (refine' L3.DM.mk ?_ ?_ ?_ ?_ ?_ <;> try k_is) | (refine' L3.DTc.mk ?_ ?_ ?_ ?_ <;> try k_is) | (refine' L3.DMc.mk ?_ ?_ ?_ ?_ ?_ <;> try k_is) | skip
