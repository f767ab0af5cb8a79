import PyProof.Rows.All
import Wide.All
import OpenK.AllK
import Wide.FinOn
import Lean
import PyProof.EqAt
import PyProof.EqKinds
import PyProof.TupleCall
import PySem.Challenge.RW_kindbags_k19_whole_runs_rule_by_rule
local macro_rules | `(tactic| omega) => `(tactic| first | decide | lia)
open PySem renaming wpAny_bind->ao,wpAny_pure->a3,Shared->aC,wpAny->aG,model->aI,Expr->bg,Program->ck,Stmt->bB,World->bW,Heap->bL,mainGlobals->ef,starEach->dv,Around->c1,wpAny_mono->eg,wpAny_newObj_type->hu,wpAny_setState_of->hR,wpAny_call_entry->hv,compareOp->eO,SetTable->eB,wpAny_Call_Name_kw->iM,foldedSetIterable->iN,builtinLookup_eq_fast->kr,wpAny_holding->g_,wpAny_field->gq,rawInt->d5,FuncData->f9,isSubtype_type->jQ,wpAny_rule->hx,typeLookup_type->kt,Scope->eC,binaryOp->gH,assignEach->ie,cLine->eK,wpAny_isInstance->l9,plainId_quiet->ku,sizeLine_eq->jd,wpAny_setField->XL,codeAny_builtin->l_,bootBuiltins->kv,backTo->fS,wpAny_standAt->k3,wpAny_seqItems->ma,wpAny_updateSeq->nh,wpAny_specialOf->ni,wpAny_setEntries_of->pP,assign->XV,pyNext->gu,wpAny_attempt->mb,intKind->hy,swapsWith->je,hashInt->hS,wpAny_truthy_bool->pQ,codeAny->hT,codeAny_mono->nj,wpAny_passesOwn->pR,behindInMarks->oz,compEnvC->jR,wpAny_storeSet_of->rm,sysModules->mc,holding->jf,NameKind->kx,wpAny_typeOf->oA,wpAny_comprehension_free->wc,argsOk->Wp,wpAny_setField_rec->s9,codeAny_compStart_list->wd,wpAny_setEpoch_of->s_,wpAny_newFunctionEnv->we,attributeBase->rn,sliceBounds->pS,wpAny_letGo->pT,letOwnedTupleGo->ta,field->iO,Operator->nk,spliced->md,getItem->me,qualnameIn->pU,intKind_is->pV,setNext->mf,compPost->WF,wpAny_askSetting->wf,ItemsOf->nn,wpAny_execs_nil->wg,IsPart->mh,typeLookup->ro,PlainAttrs->rp,theTreesLotGoes->wh,standAt->oB,Slot->jg,entryFor->WP,entryFor_alias->wi,isSubtype_stop->wj,wpAny_fieldsOf->wk,wpAny_of_eq->tb,isTrue->nq,PassesOwn->rq,wpAny_pyIter_tuple->yZ,setWalkUnseen->wl,wpAny_assign_Name->y0,wpAny_pyIter_slot->y1,wpAny_pyIter_list->y2,builtinsNs->W1,wpAny_load->tc,wpAny_call->td,relabel->pW,valueAt->pX,noFill_tuple_add->y3,compTurn->rr,codeAny_loop->wm,entryFor_of_tree->y4,IsPair->oC,relayAll->ru,tupleKind->te,atKey->nr,updateSeq->tf,IsRangeIter->wn,wpAny_pyNext_range_end->EC,wpAny_pyIter_rangeiter->ED,subscripted->wo,wpAny_noted->wp,unsupported->wq,Paired->pY,pyIter->pZ,Result->p0,BindsTo->rv,callerA->rx,exec_Assign_Name_used->EE,wpAny_runValue->y5,wpAny_tryCatch->Vs,CmpOp->oD,bindL->oE,bindC->oF,call_meets->wt,closureFor->wu,Moved->oG,IsZip->oH,ZipApart->tg,setEntries->wv,swapsWithSole->y6,swappedStores->y7,seq_tuple_add->y8,wpAny_onRaise->y9,Arguments->ww,concat_meets->y_,typeOf->ry,noteFrame->wx,scanBound->wy,sub_set_self->za,pickOrder->wz,setItem->th,unaryOp->ti,collect->tj
open PyProof.Rows renaming IntsAre->ky,IsTup->jh,envOfC->mi,AllBare->oI,subscriptTail_builtinR->EF,subscriptTail->zb
open List renaming length_map->bS,size_toArray->c_,length_cons->dH,mem_cons->dJ,mem_append_right->d6,getElem?_map->eu,map_cons->ew,range->eL,mem_cons_self->fh,length_append->fs,map_map->fE,mem_singleton->f_,getElem?_eq_getElem->gb,length_nil->gZ,mem_map->g0,mem_cons_of_mem->ig,mem_of_getElem?->ih,map_reverse->ii,all_cons->iP,map_append->iQ,getElem?_eq_some_iff->ji,not_mem_nil->jj,mem_append->jS,length_reverse->jT,append_nil->k4,getElem?_append_left->k5,getElem?_eq_none->k6,getElem_of_mem->k7,replicate->mj,any_cons->ml,getD_eq_getElem?_getD->mm,mem_map_of_mem->mn,mem_range->nu,length_take->nv,getElem?_append_right->nw,length_drop->ny,lookup_cons->nz,find?_cons->nA,mem_filter->oJ,filterMap_cons->oK,mem_append_left->oL,nodup_cons->oM,map_nil->oN,cons_append->oO,length_range->oP,take_length->p1,take_add_one->p2,drop_eq_getElem_cons->p3,length->rz,getElem?_replicate->rA,reverse_cons->rB,all_eq_true->rC,getElem_mem->rD,take_append_drop->rE,sum_reverse->rF,mem_filterMap->tl,length_replicate->tm,drop_zero->tn,mem_reverse->tp,map->tq,getElem?_range->tr,flatMap_cons->ts,flatMap_append->tu,getElem?_set_ne->wA,of_mem_zip->wB,forIn_cons->wC,take_of_length_le->wD,drop_sublist->wE,toList_toArray->wF,perm_middle->wG
open Nat renaming le_refl->b7,ne_of_lt->dp,zero_le->e0,lt_of_lt_of_le->hA,ne_of_gt->ij,lt_irrefl->jU,lt_trans->jV,le_trans->kz,lt_succ_self->rG,lt_or_ge->rH,le_of_lt->tv,lt_succ_of_lt->tw,zero_add->tx,sub_zero->wH,ble->wI,mod_lt->ZB
open Array renaming length_toList->ft,getElem?_eq_getElem->k8,getD->k9,getElem?_toList->tz,size_map->wJ
open Option renaming some->e1,map_some->nB,none->tA,isSome_iff_exists->wK
open Bool renaming and_eq_true->eU,false_ne_true->gI,or_false->rI,eq_iff_iff->tB
open PySem.W renaming Frag->bl,mg_of->dc,nsIn->fT,mg_none_of->ik,kia_one->jW,fnOf->k_,keepIn->mq,codeIn->p4,envX->tC,tabObj->tD,fnMade->tE,fnX->wL
open PyProof.Rows renaming boot_int->la,callWith_type1->mr,boot_tuple->mt,boot_isinstance->nC,slot_tuple_getitem->rJ
open PySem renaming boot_len->jX,mem_of_lookup->mu
open PySem.Heap renaming get?_push_of_some->cm,lt_size->cJ,get?_push_size->d2,get?_update_self->il,get?_update_other->jY,size_push->lb
open Int renaming toNat_natCast->hB,emod_lt_of_pos->wM,emod_nonneg->wN
set_option Elab.async false
set_option linter.all false
set_option maxRecDepth 100000
namespace L2
open PySem PySem.Spec PyProof.Rows
abbrev Key:=Sum Int Str
def rK:Key->Value->Bool
 | .inl k,v=>Value.isInt k v
 | .inr x,v=>Value.isStrOf x v
def LP(w:bW):Key->Int
 | .inl k=>hS k
 | .inr x=>hashStr w x
theorem nD:∀{k:Key}{v:Value},rK k v=true->(∃ i t,k=Sum.inl i/\v=Value.int i t)\/(∃ x t,k=Sum.inr x/\v=Value.str x t)
 | .inl i,v,h=>by
  obtain ⟨t,e⟩:=Value.isInt_shape (k:=i) (v:=v) h;exact .inl ⟨i,t,rfl,e⟩
 | .inr x,v,h=>by
  obtain ⟨t,e⟩:=Value.isStrOf_shape (x:=x) (v:=v) h;exact .inr ⟨x,t,rfl,e⟩
theorem LQ(i:Int)(t:Tok):rK (.inl i) (.int i t)=true:=by simp [rK,Value.isInt]
theorem LR(x:Str)(t:Tok):rK (.inr x) (.str x t)=true:=by simp [rK,Value.isStrOf]
theorem LS(a b:Int):decide ((Sum.inl a:Key)=Sum.inl b)=(a==b):=by
 by_cases e:a=b
 ·subst e;simp
 ·have h:¬ (Sum.inl a:Key)=Sum.inl b:=λ q=>e (Sum.inl.inj q);rw [decide_eq_false h];exact (beq_eq_false_iff_ne.mpr e).symm
theorem LT(a b:Str):decide ((Sum.inr a:Key)=Sum.inr b)=decide (a=b):=by
 by_cases e:a=b
 ·subst e;simp
 ·have h:¬ (Sum.inr a:Key)=Sum.inr b:=λ q=>e (Sum.inr.inj q);rw [decide_eq_false h,decide_eq_false e]
theorem LU(a:Int)(b:Str):decide ((Sum.inl a:Key)=Sum.inr b)=false:=decide_eq_false (λ q=>nomatch q)
theorem LV(a:Str)(b:Int):decide ((Sum.inr a:Key)=Sum.inl b)=false:=decide_eq_false (λ q=>nomatch q)
def im(prog:ck)(w:bW):PySem.KeyKind prog w Key where
 is:=rK
 hash:=LP w
 inj:=λ v a b aD ag=>by
  rcases nD aD with ⟨i,t,rfl,rfl⟩ | ⟨x,t,rfl,rfl⟩
  ·rcases nD ag with ⟨j,u,rfl,e⟩ | ⟨y,u,rfl,e⟩
   ·injection e with aP _;rw [aP]
   ·exact nomatch e
  ·rcases nD ag with ⟨j,u,rfl,e⟩ | ⟨y,u,rfl,e⟩
   ·exact nomatch e
   ·injection e with aP _;rw [aP]
 byValue:=λ k v h=>by
  rcases nD h with ⟨i,t,rfl,rfl⟩ | ⟨x,t,rfl,rfl⟩<;>rfl
 pyHash:=λ bC h=>by
  rcases nD bC with ⟨i,t,rfl,rfl⟩ | ⟨x,t,rfl,rfl⟩
  ·exact wpAny_pyHash_int h
  ·exact wpAny_pyHash_str h
 eqBool:=λ a0 bC h=>by
  rcases nD a0 with ⟨i,t,rfl,rfl⟩ | ⟨x,t,rfl,rfl⟩
  ·rcases nD bC with ⟨j,u,rfl,rfl⟩ | ⟨y,u,rfl,rfl⟩
   ·rw [LS] at h;exact wpAny_eqBool_int h
   ·rw [LU] at h;exact SeqAt.EqAt.int_str i t y u _ _ _ _ h
  ·rcases nD bC with ⟨j,u,rfl,rfl⟩ | ⟨y,u,rfl,rfl⟩
   ·rw [LV] at h;exact SeqAt.EqAt.str_int x t j u _ _ _ _ h
   ·rw [LT] at h;exact wpAny_eqBool_str h
 «strs»:=λ k x t v h=>by
  rcases nD h with ⟨i,u,rfl,e⟩ | ⟨y,u,rfl,e⟩
  ·exact nomatch e
  ·injection e with aP _;subst aP;cases v<;>rfl
theorem LW(prog:ck)(w:bW)(i:Int)(t:Tok):(im prog w).is (.inl i) (.int i t)=true:=LQ i t
theorem LX(prog:ck)(w:bW)(x:Str)(t:Tok):(im prog w).is (.inr x) (.str x t)=true:=LR x t
inductive V where
 | bJ | aU (b:Bool) | int (i:Int) | str (x:Str) | tF (b:Array UInt8) | rL (b:UInt64) | ref (a:Addr) | ty (n:String)
 deriving DecidableEq
def RelV:V->Value->Prop
 | .bJ,u=>u=Value.none
 | .aU b,u=>u=Value.bool b
 | .int i,u=>∃ t,u=Value.int i t
 | .str x,u=>∃ t,u=Value.str x t
 | .tF b,u=>∃ t,u=Value.bytes b t
 | .rL b,u=>∃ t,u=Value.float b t
 | .ref a,u=>u=Value.ref a
 | .ty n,u=>u=Value.type n
abbrev Vals:List V->List Value->Prop:=pY RelV
theorem Vals.length{xs:List V}{us:List Value}(r:Vals xs us):xs.length=us.length:=Paired.length r
theorem Vals.get:∀{xs:List V}{us:List Value}{i:Nat}{x:V},Vals xs us->xs[i]?=some x->∃ u,us[i]?=some u/\RelV x u
 | _,_,_,_,.nil,e=>by simp at e
 | _,_,0,_,.cons r _,e=>by simp at e;subst e;exact ⟨_,rfl,r⟩
 | _,_,i+1,x,.cons _ t,e=>by
  obtain ⟨u,ak,aq⟩:=Vals.get (i:=i) (x:=x) t (by simpa using e);exact ⟨u,by simpa using ak,aq⟩
theorem Vals.set{x:V}{u:Value}(r:RelV x u):∀{xs:List V}{us:List Value}(i:Nat),Vals xs us->Vals (xs.set i x) (us.set i u)
 | _,_,_,.nil=>.nil
 | _,_,0,.cons _ t=>.cons r t
 | _,_,i+1,.cons q t=>.cons q (Vals.set r i t)
theorem Vals.append:∀{xs ys:List V}{us ws:List Value},Vals xs us->Vals ys ws->Vals (xs++ys) (us++ws)
 | _,_,_,_,.nil,s=>s
 | _,_,_,_,.cons r t,s=>.cons r (Vals.append t s)
theorem Vals.take:∀{xs:List V}{us:List Value}(n:Nat),Vals xs us->Vals (xs.take n) (us.take n)
 | _,_,0,_=>.nil
 | _,_,_+1,.nil=>.nil
 | _,_,n+1,.cons r t=>.cons r (Vals.take n t)
theorem Vals.drop:∀{xs:List V}{us:List Value}(n:Nat),Vals xs us->Vals (xs.drop n) (us.drop n)
 | _,_,0,r=>r
 | _,_,_+1,.nil=>.nil
 | _,_,n+1,.cons _ t=>Vals.drop n t
def lc:Option V->Option Value->Prop
 | some v,some u=>RelV v u
 | none,none=>True
 | _,_=>False
def fb{κ:Type}:List (κ × V)->List (κ × Value)->Prop:=pY λ(p:κ × V) (q:κ × Value)=>p.1=q.1/\RelV p.2 q.2
def dO:Key->V
 | .inl i=>.int i
 | .inr x=>.str x
inductive fF where
 | lst (xs:List V)
 | tup (xs:List V)
 | c4 (kvs:List (Key × V)) | fU (kvs:List (List Key × V))
 | set (S:Int->Bool) (n:Nat)
 | ins (C eM:Addr) (bO:List (Str × V))
 | own (x:Addr)
 | zc (bO:List (Str × V))
 | met (f x:Addr)
 | zd (lo ar:Int)
 | fG (o:Obj) (u:fF)
 | g4 (ps:Array Value)
 | ext (φ:bL->Prop)
abbrev ay:=Addr->Option fF
def upd(H:ay)(a:Addr)(o:fF):ay:=λ b=>if b=a then some o else H b
theorem fi{H:ay}{a:Addr}{o:fF}:upd H a o a=some o:=by unfold upd;rw [if_pos rfl]
theorem cV{H:ay}{a b:Addr}{o:fF}(h:b≠a):upd H a o b=H b:=by unfold upd;rw [if_neg h]
theorem LY{H:ay}{a b:Addr}{o u:fF}(h:H a=some o)(h':H b=some u)(d:o≠u):a≠b:=by
 intro e;subst e;rw [h] at h';exact d (e1.inj h')
theorem hU{H:ay}{a b:Addr}{o:fF}(h:H a=some o)(h':H b=none):a≠b:=by
 intro e;subst e;rw [h] at h';cases h'
section
variable(P:ck)(w:bW)
def eP(H:ay)(h:bL)(a:Addr):fF->Prop
 | .lst xs=>xs.length<=sizeLine/\∃(aM:List Value)(n:Nat),Vals xs aM/\h.get? a=some { cls:=.type "list", data:=.seq aM.toArray n }
 | .tup xs=>xs.length<=sizeLine/\∃ aM:List Value,Vals xs aM/\jh h a aM.toArray
 | .c4 kvs=>kvs.length<=sizeLine/\(a==mc)=false/\∃ ai,fb kvs ai/\h.DictOf (im P w) a ai
 | .fU kvs=>kvs.length<=sizeLine/\(a==mc)=false/\∃ xs:List (List Key × Addr × Value),
  pY (λ(p:List Key × V) (q:List Key × Addr × Value)=>p.1=q.1/\H q.2.1=some (.tup (p.1.map dO))/\RelV p.2 q.2.2) kvs xs ∧
  ∃ o ah a5,h.get? a=some o/\o.ExactDict/\o.data=.dict ah a5/\ah.toList=xs.map (entryOfKey (te (im P w)))/\(xs.map (·.1)).Nodup
 | .set S n=>h.SetOf (hy P w) a S n
 | .ins C eM bO=>H eM=some (.own a)/\bO.length<=1000/\eM≠a/\h.get? a=some (PySem.W.instObj C eM) ∧
  ∃ fH,h.Ns1 eM fH/\(∀ f,lc (bO.lookup f) (fH f))/\PySem.Within fH (bO.map (·.1))
 | .own _=>∃ o,h.get? a=some o
 | .zc bO=>∃ fH,h.Ns1 a fH/\∀ f,lc (bO.lookup f) (fH f)
 | .zd lo ar=>∃ t u v,h.get? a=some { cls:=.type "range", data:=.fields #[.int lo t,.int ar u,.int 1 v] }
 | .fG o u=>h.get? a=some o/\eP H h a u
 | .g4 ps=>h.get? a=some { cls:=.none,data:=.fields ps }
 | .met f x=>h.get? a=some (PySem.W.methodObj (.ref f) (.ref x))
 | .ext φ=>φ h/\(∃ o,h.get? a=some o)/\∀ ak aq:bL,φ ak->(∀ o,ak.get? a=some o->aq.get? a=some o)->φ aq
def dU(H:ay)(h:bL):Prop:=∀ a o,H a=some o->eP P w H h a o
end
section
variable{P:ck}{w:bW}{H aj:ay}{h h':bL}{a:Addr}{o:fF}
theorem eP.lt(x:eP P w H h a o):a < h.objs.size:=by
 cases o with
 | lst xs=>obtain ⟨_,_,_,_,e⟩:=x;exact cJ e
 | tup xs=>obtain ⟨_,_,_,p⟩:=x;exact p.lt
 | c4 kvs=>obtain ⟨_,_,_,_,o,_,_,e,_⟩:=x;exact cJ e
 | fU kvs=>obtain ⟨_,_,_,_,o,_,_,e,_⟩:=x;exact cJ e
 | set S n=>obtain ⟨o,_,_,_,e,_⟩:=x;exact cJ e
 | ins C eM bO=>obtain ⟨_,_,_,e,_⟩:=x;exact cJ e
 | own y=>obtain ⟨_,e⟩:=x;exact cJ e
 | zc bO=>obtain ⟨_,⟨_,_,_,e,_⟩,_⟩:=x;exact cJ e
 | zd lo ar=>obtain ⟨_,_,_,e⟩:=x;exact cJ e
 | fG dh u=>obtain ⟨e,_⟩:=x;exact cJ e
 | g4 ps=>exact cJ (show h.get? a=some _ from x)
 | met f y=>exact cJ (show h.get? a=some _ from x)
 | ext φ=>obtain ⟨_,⟨_,e⟩,_⟩:=x;exact cJ e
theorem Paired.ze{α β:Type}{F G:α->β->Prop}:∀{EG:List α}{EH:List β},pY F EG EH->(∀ a b,F a b->G a b)->pY G EG EH
 | _,_,.nil,_=>.nil
 | _,_,.cons r t,f=>.cons (f _ _ r) (Paired.ze t f)
theorem eP.jk(x:eP P w H h a o)(k:∀ b u,(b=a\/H b=some (.own a))->h.get? b=some u->h'.get? b=some u)
 (a4:∀ b,H b=some (.own a)->aj b=some (.own a)) (bT:∀ b xs,H b=some (.tup xs)->aj b=some (.tup xs)):eP P w aj h' a o:=by
 induction o with
 | lst xs=>obtain ⟨z,aM,n,r,e⟩:=x;exact ⟨z,aM,n,r,k _ _ (.inl rfl) e⟩
 | tup xs=>obtain ⟨z,aM,r,dh,e,c⟩:=x;exact ⟨z,aM,r,dh,k _ _ (.inl rfl) e,c⟩
 | c4 kvs=>obtain ⟨z,y,ai,r,dh,ah,a5,e,c⟩:=x;exact ⟨z,y,ai,r,dh,ah,a5,k _ _ (.inl rfl) e,c⟩
 | fU kvs=>
  obtain ⟨z,y,xs,r,dh,ah,a5,e,c⟩:=x;exact ⟨z,y,xs,Paired.ze r λ p q z=>⟨z.1,bT _ _ z.2.1,z.2.2⟩,dh,ah,a5,k _ _ (.inl rfl) e,c⟩
 | set S n=>obtain ⟨dh,ah,a5,t,e,c⟩:=x;exact ⟨dh,ah,a5,t,k _ _ (.inl rfl) e,c⟩
 | ins C eM bO=>
  obtain ⟨d,z,ne,e,fH,⟨dA,ah,a5,aL,c⟩,r⟩:=x;exact ⟨a4 _ d,z,ne,k _ _ (.inl rfl) e,fH,⟨dA,ah,a5,k _ _ (.inr d) aL,c⟩,r⟩
 | own y=>obtain ⟨dh,e⟩:=x;exact ⟨dh,k _ _ (.inl rfl) e⟩
 | zc bO=>obtain ⟨fH,⟨dA,ah,a5,e,c⟩,r⟩:=x;exact ⟨fH,⟨dA,ah,a5,k _ _ (.inl rfl) e,c⟩,r⟩
 | zd lo ar=>obtain ⟨t,u,v,e⟩:=x;exact ⟨t,u,v,k _ _ (.inl rfl) e⟩
 | fG dh u aN=>obtain ⟨e,q⟩:=x;exact ⟨k _ _ (.inl rfl) e,aN q⟩
 | g4 ps=>
  have e:h.get? a=some { cls:=.none,data:=.fields ps }:=x;show h'.get? a=some { cls:=.none,data:=.fields ps };exact k a _ (.inl rfl) e
 | met f y=>
  have e:h.get? a=some (PySem.W.methodObj (.ref f) (.ref y)):=x;show h'.get? a=some (PySem.W.methodObj (.ref f) (.ref y));exact k a _ (.inl rfl) e
 | ext φ=>obtain ⟨p,⟨o,e⟩,st⟩:=x;exact ⟨st _ _ p λ o q=>k _ _ (.inl rfl) q,⟨o,k _ _ (.inl rfl) e⟩,st⟩
theorem dU.lt(x:dU P w H h)(e:H a=some o):a < h.objs.size:=(x a o e).lt
theorem dU.fresh(x:dU P w H h)(e:h.objs.size<=a):H a=none:=by
 cases q:H a with
 | none=>rfl
 | some u=>exact absurd (hA (x.lt q) e) (jU _)
theorem dU.kept(x:dU P w H h)(k:∀ b u,h.get? b=some u->h'.get? b=some u):dU P w H h':=λ a o e=>
 (x a o e).jk (λ b u _ q=>k b u q) (λ _ q=>q) λ _ _ q=>q
theorem dU.laid(x:dU P w H h)(k:∀ b u,h.get? b=some u->h'.get? b=some u)(az:h.objs.size<=a)(new:eP P w (upd H a o) h' a o):dU P w (upd H a o) h':=λ b u e=>by
 have bt:=x.fresh az;by_cases ag:b=a
 ·subst ag;rw [fi] at e;cases e;exact new
 ·rw [cV ag] at e;exact (x b u e).jk (λ c v _ q=>k c v q) (λ c q=>by rw [cV (hU q bt)];exact q) λ c xs q=>by rw [cV (hU q bt)];exact q
end
def jl(H:ay)(a:Addr)(u:fF):Prop:=H a=some u\/∃ o,H a=some (.fG o u)
theorem jl.ok{P:ck}{w:bW}{H:ay}{h:bL}{a:Addr}{u:fF}(r:jl H a u)(x:dU P w H h):eP P w H h a u:=by
 rcases r with r | ⟨o,r⟩
 ·exact x a u r
 ·obtain ⟨_,q⟩:=x a _ r;exact q
def tG:Option fF->Prop
 | some (.lst _)=>True
 | some (.c4 _)=>True
 | some (.fU _)=>True
 | some (.set _ _)=>True
 | some (.ins _ _ _)=>True
 | some (.ext _)=>True
 | _=>False
section
variable{P:ck}{w:bW}{H:ay}{h h':bL}{x e:Addr}{cT:fF}
theorem dU.write(ok:dU P w H h)(jm:tG (H x))(he:e=x\/H e=some (.own x))(k:∀ b u,b≠e->h.get? b=some u->h'.get? b=some u)(rM:∃ u,h'.get? e=some u)
 (new:eP P w (upd H x cT) h' x cT):dU P w (upd H x cT) h':=λ b u q=>by
 have EI:∀ c y,H c=some (.own y)->c≠x:=λ c y r z=>by subst z;rw [r] at jm;exact jm
 have LZ:∀ c xs,H c=some (.tup xs)->c≠x:=λ c xs r z=>by subst z;rw [r] at jm;exact jm
 by_cases ag:b=x
 ·subst ag;rw [fi] at q;cases q;exact new
 ·rw [cV ag] at q;by_cases p5:b=e
  ·have gc:H b=some (.own x):=by
    rcases he with z | z
    ·exact absurd (p5.trans z) ag
    ·rw [p5];exact z
   rw [q] at gc;cases gc;obtain ⟨v,bC⟩:=rM;exact ⟨v,by rw [p5];exact bC⟩
  ·refine (ok b u q).jk (λ c v aE r=>k c v ?_ r) (λ c r=>by rw [cV (EI c b r)];exact r) λ c xs r=>by rw [cV (LZ c xs r)];exact r
   rcases aE with rfl | aE
   ·exact p5
   ·rintro rfl;rcases he with z | z
    ·exact EI c b aE z
    ·rw [aE] at z;cases z;exact ag rfl
end
structure e2(bO ex:List Addr)(H aj:ay)(h h':bL):Prop where
 keep:∀ b o,h.get? b=some o->H b=none->b ∉ bO->b ∉ ex->h'.get? b=some o
 slot:∀ b o,h.get? b=some o->H b=none->b∈bO->b ∉ ex->∃ cn,h'.get? b=some { o with slots:=cn }
 free:∀ b o,h.get? b=some o->H b=none->b ∉ ex->aj b=none
 there:∀ b o,h.get? b=some o->b ∉ ex->∃ cT,h'.get? b=some cT
 kA:∀ b xs,H b=some (.tup xs)->aj b=some (.tup xs)
 jn:∀ b o u,H b=some (.fG o u)->aj b=some (.fG o u)
 jZ:∀ b ps,H b=some (.g4 ps)->∃ more,aj b=some (.g4 (ps++more))
section
variable{bO L0 ex acJ:List Addr}{H H1 aS:ay}{h ak aq h':bL}{a x e:Addr}{o:fF}
theorem e2.any(u:e2 bO ex H H1 h ak){b:Addr}{dh:Obj}(q:h.get? b=some dh)(n:H b=none)(aF:b ∉ ex):∃ cn,ak.get? b=some { dh with slots:=cn }:=by
 by_cases ag:b∈bO
 ·exact u.slot b dh q n ag aF
 ·exact ⟨dh.slots,u.keep b dh q n ag aF⟩
theorem e2.kept(k:∀ b u,h.get? b=some u->h'.get? b=some u):e2 bO ex H H h h':=
 ⟨λ b dh q _ _ _=>k b dh q,λ b dh q _ _ _=>⟨dh.slots,k b dh q⟩,λ _ _ _ n _=>n,λ b dh q _=>⟨dh,k b dh q⟩,λ _ _ q=>q,λ _ _ _ q=>q,λ _ ps q=>⟨#[],by rw [q];simp⟩⟩
theorem e2.refl:e2 bO ex H H h h:=e2.kept λ _ _ q=>q
theorem e2.laid(k:∀ b u,h.get? b=some u->h'.get? b=some u)(az:h.objs.size<=a)(bt:H a=none):e2 bO ex H (upd H a o) h h' where
 keep:=λ b u q _ _ _=>k b u q
 slot:=λ b u q _ _ _=>⟨u.slots,k b u q⟩
 free:=λ b u q n _=>by rw [cV (dp (hA (cJ q) az))];exact n
 there:=λ b u q _=>⟨u,k b u q⟩
 kA:=λ b xs q=>by rw [cV (hU q bt)];exact q
 jn:=λ b u xs q=>by rw [cV (hU q bt)];exact q
 jZ:=λ b ps q=>⟨#[],by rw [cV (hU q bt),q];simp⟩
theorem e2.write(jm:tG (H x))(he:e=x\/H e=some (.own x))(k:∀ b u,b≠e->h.get? b=some u->h'.get? b=some u)(rM:∃ u,h'.get? e=some u):e2 bO ex H (upd H x o) h h':=by
 have aF:∀ b,H b=none->b≠x:=λ b n z=>by subst z;rw [n] at jm;exact jm
 have ag:∀ b,H b=none->b≠e:=λ b n z=>by
  subst z;rcases he with r | r
  ·exact aF b n r
  ·rw [n] at r;cases r
 have hm:∀ b u,H b=some u->¬ tG (some u)->b≠x:=λ b u q nm z=>by subst z;rw [q] at jm;exact nm jm
 refine ⟨λ b u q n _ _=>k b u (ag b n) q,λ b u q n _ _=>⟨u.slots,k b u (ag b n) q⟩,λ b u q n _=>by rw [cV (aF b n)];exact n,λ b u q _=>?_,
  λ b xs q=>by rw [cV (hm b _ q λ z=>z)];exact q,λ b u xs q=>by rw [cV (hm b _ q λ z=>z)];exact q,λ b ps q=>⟨#[],by rw [cV (hm b _ q λ z=>z),q];simp⟩⟩
 by_cases p5:b=e
 ·subst p5;exact rM
 ·exact ⟨u,k b u p5 q⟩
end
def wO(h:bL)(H:ay):List Addr:=(eL h.objs.size).filter λ a=>(H a).isSome
def mv(h:bL)(H:ay):bL:=PySem.W.hideAll h (wO h H)
theorem L1(h:bL)(H:ay):(mv h H).objs.size=h.objs.size:=PySem.W.hideAll_size _ _
theorem L4{h:bL}{H:ay}{b:Addr}{o:Obj}(e:h.get? b=some o)(n:H b=none):(mv h H).get? b=some o:=
 PySem.W.hideAll_get _ e λ hm=>by
  have q:(H b).isSome=true:=(oJ.mp hm).2;rw [n] at q;simp at q
theorem L5{h:bL}{H:ay}{b:Addr}{o:Obj}(e:(mv h H).get? b=some o):h.get? b=some o/\H b=none:=by
 have cD:h.get? b=some o:=PySem.W.of_hideAll (wO h H) e;refine ⟨cD,?_⟩
 cases q:H b with
 | none=>rfl
 | some x=>
  have hm:b∈wO h H:=oJ.mpr ⟨nu.mpr (cJ cD),by simp [q]⟩;have z:(mv h H).get? b=none:=PySem.W.hideAll_none (wO h H) hm;rw [z] at e;cases e
structure Mod(K:bl)(mg:Str->Option Value)(base:bL):Prop where
 tH:K.In base
 glob:base.Ns ef mg
 blt:∃ jo,base.Ns W1 jo/\∀ x:Str,x≠"__name__"->jo x=kv x
 nolimit:base.NoLimit
structure bb where
 prog:ck
 w:bW
 K:bl
 mg:Str->Option Value
 base:bL
 A:c1
 N:List Str
 s₀:aC
 H₀:ay
 env:Env
 outer:List Env
 stack:List Env
 ex:List Addr
 fn:Str->Bool
 calm:Bool
 pn:List (Addr × Obj)
 xe:Value->aC->Prop
def jp(l:List Env):List Addr:=l.filterMap (·.frame)
abbrev bb.bO(X:bb):List Addr:=jp X.outer
def ld(sc:eC)(x:Str):Prop:=sc.names.lookup x=some .local\/sc.names.lookup x=some .cell\/sc.names.lookup x=some .free
def Loc(sc:eC)(x:Str):Prop:=sc.names.lookup x=some .local\/sc.names.lookup x=some .cell
def Look(env:Env)(h:bL)(m:Str->Option Value)(x:Str)(u:Value):Prop:=
 (env.kindOf x=some .local/\m x=some u)\/((env.kindOf x=some .cell\/env.kindOf x=some .free)/\∃ c,env.cells.lookup x=some c/\h.IsCell c (some u))
structure bb.Ok(X:bb):Prop where
 mod:Mod X.K X.mg X.base
 kind:X.env.scope.kind=.function
 glob:X.env.globals=ef
 blt:X.env.builtins=W1
 above:X.s₀.heap.objs.size<=X.env.locals
 inj:∀ x y c,X.env.cells.lookup x=some c->X.env.cells.lookup y=some c->x=y
 has:∀ x,(X.env.kindOf x=some .cell\/X.env.kindOf x=some .free)->∃ c,X.env.cells.lookup x=some c
 rN:∀ x c,X.fn x=true->X.env.cells.lookup x=some c->X.s₀.heap.objs.size<=c
 hd:X.calm=true->X.A.handled=none
 frames:X.A.frames=some X.stack
 wP:X.stack=X.outer\/(X.stack=X.env::X.outer/\X.env.frame=some X.env.locals)
 EJ:∀ b∈X.ex,b≠X.env.locals/\∀ x c,X.env.cells.lookup x=some c->c≠b
 bs:∀ b o,X.base.get? b=some o->X.s₀.heap.get? b=some o/\X.H₀ b=none
 lg:X.base.objs.size<=X.s₀.heap.objs.size
 tI:∀ b o,X.base.get? b=some o->b ∉ X.ex
 wQ:∀ b∈X.ex,b ∉ X.bO
 jq:X.s₀.heap.FunFrames X.base X.outer
 nE:∀ b∈X.bO,X.H₀ b=none
structure Inv(X:bb)(pins:List (Addr × Obj))(σ:List (Option V))(H:ay)(s:aC):Prop where
 ok:X.Ok
 os:s.os=X.s₀.os
 bare:oI s.gens
 base:e2 X.bO X.ex X.H₀ H X.s₀.heap s.heap
 loc:∃ m,s.heap.Ns X.env.locals m/\∀(i:Nat)(x:Str)(v:V),X.N[i]?=some x->σ[i]?=some (some v)->ld X.env.scope x->∃ u,RelV v u/\Look X.env s.heap m x u
 cell:∀ x c,X.env.cells.lookup x=some c->∃ v,s.heap.IsCell c v
 free:H X.env.locals=none
 kB:∀ x c,X.env.cells.lookup x=some c->H c=none
 pin:∀ p∈X.pn++pins,s.heap.get? p.1=some p.2/\H p.1=none/\p.1≠X.env.locals/\p.1 ∉ X.bO/\∀ v,p.2.data≠.cell v
 bM:dU X.prog X.w H s.heap
 len:σ.length=X.N.length
section
variable{X:bb}{pins:List (Addr × Obj)}{σ:List (Option V)}{H aj:ay}{s:aC}{h':bL}
theorem bb.Ok.L6(ok:X.Ok){b:Addr}{o:Obj}(e:X.base.get? b=some o):b ∉ X.bO:=λ ag=>by
 have:=(ok.jq.mem ag).1;rw [e] at this;cases this
theorem Inv.bs(I:Inv X pins σ H s):∀ b o,X.base.get? b=some o->s.heap.get? b=some o/\H b=none:=λ b o e=>
 ⟨I.base.keep b o (I.ok.bs b o e).1 (I.ok.bs b o e).2 (I.ok.L6 e) (I.ok.tI b o e),I.base.free b o (I.ok.bs b o e).1 (I.ok.bs b o e).2 (I.ok.tI b o e)⟩
theorem Inv.bk(I:Inv X pins σ H s):∀ b o,X.base.get? b=some o->s.heap.get? b=some o:=λ b o e=>(I.bs b o e).1
theorem Inv.mod(I:Inv X pins σ H s):Mod X.K X.mg X.base:=I.ok.mod
theorem Inv.gv(I:Inv X pins σ H s):X.K.In s.heap:=I.ok.mod.tH.keeps I.bk
theorem Inv.lt(I:Inv X pins σ H s):X.env.locals < s.heap.objs.size:=let ⟨_,bt,_⟩:=I.loc;bt.lt
theorem Inv.aB(I:Inv X pins σ H s):X.s₀.heap.objs.size<=s.heap.objs.size:=kz I.ok.above (tv I.lt)
theorem Inv.wR(I:Inv X pins σ H s){a:Addr}(h:s.heap.objs.size<=a):a ∉ X.bO:=λ ag=>by
 obtain ⟨_,o,a4,_⟩:=I.ok.jq.mem ag;exact absurd (hA (cJ a4) (kz I.aB h)) (jU _)
theorem Inv.oQ(I:Inv X pins σ H s):∀ x c,X.env.cells.lookup x=some c->c≠X.env.locals:=λ x c e z=>by
 obtain ⟨v,o,a4,hd⟩:=I.cell x c e;obtain ⟨m,⟨cT,ah,a5,p6,ha,_⟩,_⟩:=I.loc;rw [z,p6] at a4;cases a4;rw [ha] at hd;cases hd
theorem Inv.jq(I:Inv X pins σ H s):s.heap.FunFrames X.base X.outer:=by
 have all:∀(l:List Env),(∀ b∈jp l,b∈X.bO)->X.s₀.heap.FunFrames X.base l->s.heap.FunFrames X.base l:=by
  intro l
  induction l with
  | nil=>intro _ _;trivial
  | cons env r aN=>
   intro ax aQ;obtain ⟨aO,⟨L,o,hf,bt,a4,hd⟩,am⟩:=aQ;have gd:L∈X.bO:=ax L (by unfold jp;rw [oK,hf];exact fh);obtain ⟨cn,e⟩:=I.base.slot L o a4 (I.ok.nE L gd) gd λ z=>I.ok.wQ L z gd;exact ⟨aO,⟨L,_,hf,bt,e,hd⟩,aN (λ b ag=>ax b (by unfold jp;rw [oK,hf];exact ig _ ag)) am⟩
 exact all X.outer (λ _ ag=>ag) I.ok.jq
theorem Inv.stack(I:Inv X pins σ H s):s.heap.FunFrames X.base X.stack:=by
 rcases I.ok.wP with e | ⟨e,hf⟩
 ·rw [e];exact I.jq
 ·rw [e];obtain ⟨m,bt,_⟩:=I.loc;refine .cons (by rw [I.ok.kind];decide) hf bt ?_ I.jq;exact Heap.get?_none_of_le (kz I.ok.lg I.ok.above)
theorem Inv.oR(I:Inv X pins σ H s):∀ b∈jp X.stack,b∈X.env.locals::X.bO:=λ b ag=>by
 rcases I.ok.wP with e | ⟨e,hf⟩
 ·rw [e] at ag;exact ig _ ag
 ·rw [e] at ag;unfold jp at ag;rw [oK,hf] at ag;exact ag
theorem Inv.EK(I:Inv X pins σ H s):∀ b∈jp X.stack,H b=none:=λ b ag=>by
 rcases dJ.mp (I.oR b ag) with e | ag
 ·rw [e];exact I.free
 ·obtain ⟨_,o,a4,_⟩:=I.ok.jq.mem ag;exact I.base.free b o a4 (I.ok.nE b ag) λ z=>I.ok.wQ b z ag
theorem Inv.step{g':Array GenState}{t':Nat}{d':Drawn}{ch:List Addr}(I:Inv X pins σ H s)
 (jr:∀ b∈ch,(b∈X.ex\/X.s₀.heap.objs.size<=b)/\b≠X.env.locals/\(∀ x c,X.env.cells.lookup x=some c->c≠b)/\∀ p∈X.pn++pins,p.1≠b)
 (keep:∀ b o,b≠X.env.locals->b ∉ X.bO->b ∉ ch->s.heap.get? b=some o->H b=none->h'.get? b=some o)
 (slot:∀ b o,b≠X.env.locals->b∈X.bO->b ∉ ch->s.heap.get? b=some o->H b=none->∃ cn,h'.get? b=some { o with slots:=cn }) (free:∀ b o,b ∉ ch->s.heap.get? b=some o->H b=none->aj b=none)
 (there:∀ b o,b ∉ ch->s.heap.get? b=some o->∃ cT,h'.get? b=some cT)
 (kA:∀ b xs,H b=some (.tup xs)->aj b=some (.tup xs)) (jn:∀ b o u,H b=some (.fG o u)->aj b=some (.fG o u)) (jZ:∀ b ps,H b=some (.g4 ps)->∃ more,aj b=some (.g4 (ps++more)))
 (ns:∀ m,s.heap.Ns X.env.locals m->h'.Ns X.env.locals m) (bM:dU X.prog X.w aj h') (aZ:oI g') :
 Inv X pins σ aj { s with heap:=h',gens:=g',drawn:=d',toks:=t' }:=by
 have EL:∀ b o,X.s₀.heap.get? b=some o->b≠X.env.locals:=λ b o e=>dp (hA (cJ e) I.ok.above)
 have wS:∀ b o,X.s₀.heap.get? b=some o->b ∉ X.ex->b ∉ ch:=λ b o e aF ag=>by
  rcases (jr b ag).1 with z | z
  ·exact aF z
  ·exact absurd (hA (cJ e) z) (jU _)
 have cellK:∀ x c,X.env.cells.lookup x=some c->∀ v,s.heap.IsCell c v->h'.IsCell c v:=λ x c e v ⟨o,a4,hd⟩=>by
  have tJ:c ∉ ch:=λ z=>(jr c z).2.2.1 x c e rfl;by_cases aE:c∈X.bO
  ·obtain ⟨cn,q⟩:=slot c o (I.oQ x c e) aE tJ a4 (I.kB x c e);exact ⟨_,q,hd⟩
  ·exact ⟨o,keep c o (I.oQ x c e) aE tJ a4 (I.kB x c e),hd⟩
 refine ⟨I.ok,I.os,aZ,⟨λ b o e n ag aF=>?_,λ b o e n ag aF=>?_,λ b o e n aF=>?_,λ b o e aF=>?_,λ b xs e=>kA b xs (I.base.kA b xs e),λ b o xs e=>jn b o xs (I.base.jn b o xs e),λ b ps e=>?_⟩,?_,λ x c e=>?_,?_,λ x c e=>?_,λ p az=>?_,bM,I.len⟩
 ·exact keep b o (EL b o e) ag (wS b o e aF) (I.base.keep b o e n ag aF) (I.base.free b o e n aF)
 ·obtain ⟨cn,aP⟩:=I.base.slot b o e n ag aF;obtain ⟨sl',aL⟩:=slot b _ (EL b o e) ag (wS b o e aF) aP (I.base.free b o e n aF);exact ⟨sl',aL⟩
 ·obtain ⟨cT,aP⟩:=I.base.there b o e aF;exact free b cT (wS b o e aF) aP (I.base.free b o e n aF)
 ·obtain ⟨cT,aP⟩:=I.base.there b o e aF;exact there b cT (wS b o e aF) aP
 ·obtain ⟨mw,aP⟩:=I.base.jZ b ps e;obtain ⟨mx,aL⟩:=jZ b _ aP;exact ⟨mw++mx,by rw [aL,Array.append_assoc]⟩
 ·obtain ⟨m,bt,aQ⟩:=I.loc;refine ⟨m,ns m bt,λ i x v aP aL d_=>?_⟩;obtain ⟨u,r,l⟩:=aQ i x v aP aL d_;refine ⟨u,r,?_⟩;rcases l with l | ⟨k,c,e,z⟩
  ·exact .inl l
  ·exact .inr ⟨k,c,e,cellK x c e _ z⟩
 ·obtain ⟨v,z⟩:=I.cell x c e;exact ⟨v,cellK x c e v z⟩
 ·obtain ⟨m,⟨o,_,_,a4,_⟩,_⟩:=I.loc;exact free _ o (λ z=>(jr _ z).2.1 rfl) a4 I.free
 ·obtain ⟨v,o,a4,hd⟩:=I.cell x c e;exact free c o (λ z=>(jr c z).2.2.1 x c e rfl) a4 (I.kB x c e)
 ·obtain ⟨e,n,ne,p7,d⟩:=I.pin p az;have tJ:p.1 ∉ ch:=λ z=>(jr p.1 z).2.2.2 p az rfl;exact ⟨keep p.1 p.2 ne p7 tJ e n,free p.1 p.2 tJ e n,ne,p7,d⟩
theorem Inv.un{t':Nat}(I:Inv X pins σ H s)(u:e2 X.bO [] H aj s.heap h')(bM:dU X.prog X.w aj h'):Inv X pins σ aj { s with heap:=h',toks:=t' }:=by
 obtain ⟨m,⟨o,ah,a5,a4,r⟩,_⟩:=id I.loc;obtain ⟨cn,gd⟩:=u.any a4 I.free (by simp)
 exact I.step (g':=s.gens) (d':=s.drawn) (ch:=[]) (λ _ z=>nomatch z) (λ b o _ ag _ e n=>u.keep b o e n ag (by simp)) (λ b o _ ag _ e n=>u.slot b o e n ag (by simp)) (λ b o _ e n=>u.free b o e n (by simp)) (λ b o _ e=>u.there b o e (by simp)) u.kA u.jn u.jZ (λ c5 hm=>by
  obtain ⟨cT,fc,hb,p6,dK⟩:=hm;rw [a4] at p6;cases p6
  exact ⟨_,fc,hb,gd,dK⟩) bM I.bare
theorem Inv.call{g':Array GenState}{t':Nat}{d':Drawn}{ch:List Addr}(I:Inv X pins σ H s)(u:e2 (jp X.stack) ch H aj s.heap h')(bM:dU X.prog X.w aj h')(aZ:oI g')
 (jr:∀ b∈ch,(b∈X.ex\/X.s₀.heap.objs.size<=b)/\b≠X.env.locals/\(∀ x c,X.env.cells.lookup x=some c->c≠b)/\∀ p∈X.pn++pins,p.1≠b) :
 Inv X pins σ aj { s with heap:=h',gens:=g',drawn:=d',toks:=t' }:=by
 obtain ⟨m,⟨o,ah,a5,a4,r⟩,_⟩:=id I.loc;obtain ⟨cn,gd⟩:=u.any a4 I.free λ z=>(jr _ z).2.1 rfl
 exact I.step (ch:=ch) jr (λ b o gd ag aE e n=>u.keep b o e n (λ z=>(dJ.mp (I.oR b z)).elim gd ag) aE) (λ b o _ _ aE e n=>u.any e n aE) (λ b o aE e n=>u.free b o e n aE) (λ b o aE e=>u.there b o e aE) u.kA u.jn u.jZ (λ c5 hm=>by
  obtain ⟨cT,fc,hb,p6,dK⟩:=hm;rw [a4] at p6;cases p6
  exact ⟨_,fc,hb,gd,dK⟩) bM aZ
theorem Inv.turned{t':Nat}{it:Addr}(I:Inv X pins σ H s)(k:∀ b o,b≠it->s.heap.get? b=some o->h'.get? b=some o)(bt:H it=none)(gd:it≠X.env.locals)
 (ak:it∈X.ex\/X.s₀.heap.objs.size<=it) (aq:∀ x c,X.env.cells.lookup x=some c->c≠it) (aT:∀ p∈X.pn++pins,p.1≠it):Inv X pins σ H { s with heap:=h',toks:=t' }:=by
 have tK:∀ b u,H b=some u->b≠it:=λ b u e z=>by rw [z,bt] at e;cases e
 refine I.step (g':=s.gens) (d':=s.drawn) (ch:=[it]) (λ b ag=>?_) (λ b o _ _ aE e _=>k b o (λ z=>aE (by simp [z])) e) (λ b o _ _ aE e _=>⟨o.slots,k b o (λ z=>aE (by simp [z])) e⟩) (λ _ _ _ _ n=>n)
  (λ b o aE e=>⟨o,k b o (λ z=>aE (by simp [z])) e⟩) (λ _ _ e=>e) (λ _ _ _ e=>e) (λ b ps e=>⟨#[],by rw [e];simp⟩) (λ m hm=>?_) (λ b u e=>?_) I.bare
 ·have e:b=it:=by simpa using ag
  subst e;exact ⟨ak,gd,aq,aT⟩
 ·obtain ⟨o,ah,a5,a4,r⟩:=hm;exact ⟨o,ah,a5,k _ o (Ne.symm gd) a4,r⟩
 ·refine (I.bM b u e).jk (λ c v aE q=>k c v ?_ q) (λ _ q=>q) λ _ _ q=>q;rcases aE with z | z
  ·rw [z];exact tK b u e
  ·exact tK c _ z
theorem Inv.tok(I:Inv X pins σ H s)(t:Nat):Inv X pins σ H { s with toks:=t }:=I.un (h':=s.heap) (t':=t) e2.refl I.bM
theorem Inv.kept{t':Nat}(I:Inv X pins σ H s)(k:∀ b u,s.heap.get? b=some u->h'.get? b=some u):Inv X pins σ H { s with heap:=h',toks:=t' }:=I.un (e2.kept k) (I.bM.kept k)
theorem Inv.laid{a:Addr}{o:fF}{t':Nat}(I:Inv X pins σ H s)(k:∀ b u,s.heap.get? b=some u->h'.get? b=some u)(az:s.heap.objs.size<=a)(new:eP X.prog X.w (upd H a o) h' a o) :
 Inv X pins σ (upd H a o) { s with heap:=h',toks:=t' }:=I.un (e2.laid k az (I.bM.fresh az)) (I.bM.laid k az new)
theorem Inv.write{x e:Addr}{o:fF}{t':Nat}(I:Inv X pins σ H s)(jm:tG (H x))(he:e=x\/H e=some (.own x))(k:∀ b u,b≠e->s.heap.get? b=some u->h'.get? b=some u)(rM:∃ u,h'.get? e=some u)
 (new:eP X.prog X.w (upd H x o) h' x o):Inv X pins σ (upd H x o) { s with heap:=h',toks:=t' }:=I.un (e2.write jm he k rM) (I.bM.write jm he k rM new)
theorem Inv.EM{EN:List (Addr × Obj)}(I:Inv X pins σ H s)(h:∀ p∈EN,s.heap.get? p.1=some p.2/\H p.1=none/\p.1≠X.env.locals/\p.1 ∉ X.bO/\∀ v,p.2.data≠.cell v):Inv X EN σ H s:=
 ⟨I.ok,I.os,I.bare,I.base,I.loc,I.cell,I.free,I.kB,λ p az=>(jS.mp az).elim (λ z=>I.pin p (oL _ z)) (h p),I.bM,I.len⟩
theorem EO{N:List Str}(cw:N.Nodup){i j:Nat}{x:Str}(a:N[i]?=some x)(b:N[j]?=some x):i=j:=by
 obtain ⟨ak,aP⟩:=ji.mp a;obtain ⟨aq,aL⟩:=ji.mp b;exact (List.getElem_inj cw).mp (aP.trans aL.symm)
theorem zf{M:Model}{A:c1}{E:Value->aC->Prop}{i:Nat}{x:Str}{v:V}{u:Value}{Q:Unit->aC->Prop}(I:Inv X pins σ H s)(cw:X.N.Nodup)(ar:X.N[i]?=some x)(aF:Loc X.env.scope x)(r:RelV v u)
 (h:∀ s',Inv X pins (σ.set i (some v)) H s'->(∃ a,Heap.SameBut a s.heap s'.heap/\(a=X.env.locals\/X.env.cells.lookup x=some a))->Q () s') (hf:X.fn x=true\/X.env.scope.names.lookup x=some .local:=by first | exact .inl rfl | exact .inr rfl | assumption):aG M A (storeName X.env x u) Q E s:=by
 obtain ⟨m,bt,aQ⟩:=id I.loc
 have L7:(X.env.scope.kind==.class||(X.env.scope.kind==.module&&X.env.locals !=X.env.globals))=false:=by rw [I.ok.kind];rfl
 have arσ:i < σ.length:=by rw [I.len];exact (ji.mp ar).1
 have oQ:=I.oQ
 have tracked:∀{a:Addr}{h':bL},(∃ o,s.heap.get? a=some o/\H a=none)->Heap.SameBut a s.heap h'->dU X.prog X.w H h':=λ{a h'} aD ax b dh e=>by
  obtain ⟨_,_,EP⟩:=aD;refine (I.bM b dh e).jk (λ c js aE q=>(ax.2 c ?_).trans q) (λ _ q=>q) λ _ _ q=>q;rintro rfl;rcases aE with rfl | aE
  ·rw [EP] at e;cases e
  ·rw [EP] at aE;cases aE
 rcases aF with aO | aO
 ·refine wpAny_storeName_local aO bt (λ h' wT ax=>?_) L7;obtain ⟨L8,_,_,L9,_⟩:=id bt;refine h _ ⟨I.ok,I.os,I.bare,⟨λ b o e n ag aF=>?_,λ b o e n ag aF=>?_,I.base.free,λ b o e aF=>?_,I.base.kA,I.base.jn,I.base.jZ⟩,⟨_,wT,λ j y p8 aP aL d_=>?_⟩,λ y c e=>?_,I.free,I.kB,λ p az=>?_,tracked ⟨L8,L9,I.free⟩ ax,by simpa using I.len⟩ ⟨_,ax,.inl rfl⟩
  ·exact (ax.2 b (dp (hA (cJ e) I.ok.above))).trans (I.base.keep b o e n ag aF)
  ·obtain ⟨cn,aP⟩:=I.base.slot b o e n ag aF;exact ⟨cn,(ax.2 b (dp (hA (cJ e) I.ok.above))).trans aP⟩
  ·obtain ⟨cT,aP⟩:=I.base.there b o e aF;exact ⟨cT,(ax.2 b (dp (hA (cJ e) I.ok.above))).trans aP⟩
  ·by_cases cP:j=i
   ·subst cP;rw [ar] at aP;cases aP;rw [List.getElem?_set_self arσ] at aL;cases aL;exact ⟨u,r,.inl ⟨aO,by simp⟩⟩
   ·rw [wA (Ne.symm cP)] at aL;obtain ⟨tL,dK,q⟩:=aQ j y p8 aP aL d_;refine ⟨tL,dK,?_⟩;rcases q with ⟨k,e⟩ | ⟨k,c,e,z⟩
    ·refine .inl ⟨k,?_⟩;have:y≠x:=λ e=>cP (EO cw aP (e ▸ ar));simp [this,e]
    ·exact .inr ⟨k,c,e,z.sameBut ax (oQ y c e)⟩
  ·obtain ⟨js,z⟩:=I.cell y c e;exact ⟨js,z.sameBut ax (oQ y c e)⟩
  ·obtain ⟨e,n,ne,p7,d⟩:=I.pin p az;exact ⟨(ax.2 p.1 ne).trans e,n,ne,p7,d⟩
 ·have my:X.fn x=true:=by
   rcases hf with z | z
   ·exact z
   ·rw [z] at aO;cases aO
  obtain ⟨c,aE⟩:=I.ok.has x (.inl aO);obtain ⟨js,z⟩:=I.cell x c aE;refine wpAny_storeName_cell I.ok.kind aO aE z (λ h' tM ax=>?_);obtain ⟨b6,rO,L_⟩:=id z;refine h { s with heap:=h' } ⟨I.ok,I.os,I.bare,⟨λ b o e n ag aF=>?_,λ b o e n ag aF=>?_,I.base.free,λ b o e aF=>?_,I.base.kA,I.base.jn,I.base.jZ⟩,⟨m,bt.sameBut ax (Ne.symm (oQ x c aE)),λ j y p8 aP aL d_=>?_⟩,λ y b_ e=>?_,I.free,I.kB,λ p az=>?_,tracked ⟨b6,rO,I.kB x c aE⟩ ax,by simpa using I.len⟩ ⟨c,ax,.inr aE⟩
  ·exact (ax.2 b (dp (hA (cJ e) (I.ok.rN x c my aE)))).trans (I.base.keep b o e n ag aF)
  ·obtain ⟨cn,aP⟩:=I.base.slot b o e n ag aF;exact ⟨cn,(ax.2 b (dp (hA (cJ e) (I.ok.rN x c my aE)))).trans aP⟩
  ·obtain ⟨cT,aP⟩:=I.base.there b o e aF;exact ⟨cT,(ax.2 b (dp (hA (cJ e) (I.ok.rN x c my aE)))).trans aP⟩
  ·by_cases cP:j=i
   ·subst cP;rw [ar] at aP;cases aP;rw [List.getElem?_set_self arσ] at aL;cases aL;exact ⟨u,r,.inr ⟨.inl aO,c,aE,tM⟩⟩
   ·rw [wA (Ne.symm cP)] at aL;obtain ⟨tL,dK,q⟩:=aQ j y p8 aP aL d_;refine ⟨tL,dK,?_⟩;rcases q with q | ⟨k,b_,e,hV⟩
    ·exact .inl q
    ·refine .inr ⟨k,b_,e,hV.sameBut ax ?_⟩;rintro rfl;exact cP (EO cw aP (I.ok.inj _ _ _ e aE ▸ ar))
  ·by_cases EQ:b_=c
   ·subst EQ;exact ⟨_,tM⟩
   ·obtain ⟨nF,b8⟩:=I.cell y b_ e;exact ⟨nF,b8.sameBut ax EQ⟩
  ·obtain ⟨e,n,ne,p7,d⟩:=I.pin p az;refine ⟨(ax.2 p.1 ?_).trans e,n,ne,p7,d⟩;intro q;rw [q,rO] at e;have gc:b6=p.2:=e1.inj e;exact d js (by rw [<- gc];exact L_)
theorem tN{M:Model}{A:c1}{E:Value->aC->Prop}{i:Nat}{x:Str}{v:V}{u:Value}{Q:Unit->aC->Prop}(I:Inv X pins σ H s)(cw:X.N.Nodup)(ar:X.N[i]?=some x)(aF:Loc X.env.scope x)(r:RelV v u)
 (h:∀ s',Inv X pins (σ.set i (some v)) H s'->Q () s') (hf:X.fn x=true\/X.env.scope.names.lookup x=some .local:=by first | exact .inl rfl | exact .inr rfl | assumption):aG M A (storeName X.env x u) Q E s:=
 zf I cw ar aF r (λ s' oS _=>h s' oS) hf
theorem Inv.Ma{s':aC}{ch:List Addr}(I:Inv X pins σ H s)(a4:s'.os=s.os)(u:e2 (jp X.stack) ch H aj s.heap s'.heap)(bM:dU X.prog X.w aj s'.heap)(aZ:oI s'.gens)
 (jr:∀ b∈ch,(b∈X.ex\/X.s₀.heap.objs.size<=b)/\b≠X.env.locals/\(∀ x c,X.env.cells.lookup x=some c->c≠b)/\∀ p∈X.pn++pins,p.1≠b):Inv X pins σ aj s':=by
 obtain ⟨h',g',d',t',cT⟩:=s';have e:cT=s.os:=a4;subst e;exact I.call (g':=g') (t':=t') (d':=d') u bM aZ jr
end
abbrev hW:=Value->Option Addr->ay->Prop
abbrev St:=List (Option V)
abbrev cK:=V->ay->Prop
abbrev TE:=St->ay->cK->Prop
abbrev TT:=St->ay->(Bool->ay->Prop)->Prop
abbrev eD:=St->ay->(List V->ay->Prop)->Prop
structure Ends where
 nx:St->ay->Prop
 rt:cK
 bk:St->ay->Prop:=λ _ _=>False
 ct:St->ay->Prop:=λ _ _=>False
abbrev eV:=Ends->St->ay->Prop
def da(X:bb)(pins:List (Addr × Obj))(σ:St)(Q:cK)(u:Value)(s':aC):Prop:=∃ v aj,Inv X pins σ aj s'/\RelV v u/\Q v aj
def zg(X:bb)(pins:List (Addr × Obj))(σ:St)(Q:Bool->ay->Prop)(b:Bool)(s':aC):Prop:=∃ aj,Inv X pins σ aj s'/\Q b aj
def Mb(X:bb)(pins:List (Addr × Obj))(σ:St)(Q:List V->ay->Prop)(us:List Value)(s':aC):Prop:=∃ ai aj,Inv X pins σ aj s'/\Vals ai us/\Q ai aj
def kC(X:bb)(pins:List (Addr × Obj))(D:Ends)(f:Flow)(s':aC):Prop:=
 match f with
 | .next=>∃ σ' aj,Inv X pins σ' aj s'/\D.nx σ' aj
 | .brk=>∃ σ' aj,Inv X pins σ' aj s'/\D.bk σ' aj
 | .cont=>∃ σ' aj,Inv X pins σ' aj s'/\D.ct σ' aj
 | .ret u=>∃ v σ' aj,Inv X pins σ' aj s'/\RelV v u/\D.rt v aj
def bX(X:bb)(e:bg)(t:TE):Prop:=
 ∀(pins:List (Addr × Obj))(s:aC)(σ:St)(H:ay)(Q:cK),Inv X pins σ H s->t σ H Q->aG (aI X.prog X.w) X.A (eval e X.env) (da X pins σ Q) X.xe s
def iR(X:bb)(e:bg)(t:TT):Prop:=
 ∀(pins:List (Addr × Obj))(s:aC)(σ:St)(H:ay)(Q:Bool->ay->Prop),Inv X pins σ H s->t σ H Q->aG (aI X.prog X.w) X.A (nq e X.env (eval e X.env)) (zg X pins σ Q) X.xe s
def mz(X:bb)(e:bg)(t:TT):Prop:=
 ∀(whole:Sem Value)(pins:List (Addr × Obj))(s:aC)(σ:St)(H:ay)(Q:Bool->ay->Prop),Inv X pins σ H s->t σ H Q->aG (aI X.prog X.w) X.A (nq e X.env whole) (zg X pins σ Q) X.xe s
theorem mz.pt{X:bb}{e:bg}{t:TT}(h:mz X e t):iR X e t:=h _
def hc(X:bb)(ah:List bg)(t:eD):Prop:=
 ∀(pos:Pos)(pins:List (Addr × Obj))(s:aC)(σ:St)(H:ay)(Q:List V->ay->Prop),Inv X pins σ H s->t σ H Q->aG (aI X.prog X.w) X.A (md (fS pos (dv ah X.env))) (Mb X pins σ Q) X.xe s
def iS(X:bb)(st:bB)(t:eV):Prop:=
 ∀(pins:List (Addr × Obj))(s:aC)(σ:St)(H:ay)(D:Ends),Inv X pins σ H s->t D σ H->aG (aI X.prog X.w) X.A (exec st X.env) (kC X pins D) X.xe s
def iT(X:bb)(st:List bB)(t:eV):Prop:=
 ∀(pins:List (Addr × Obj))(s:aC)(σ:St)(H:ay)(D:Ends),Inv X pins σ H s->t D σ H->aG (aI X.prog X.w) X.A (execs st X.env) (kC X pins D) X.xe s
theorem b5{α:Type}{t:Sem α}{Q fV:α->aC->Prop}{M:Model}{A:c1}{E:Value->aC->Prop}{s:aC}(h:aG M A t Q E s)(dB:∀ a s,Q a s->fV a s):aG M A t fV E s:=eg h dB λ _ _ x=>x
section
variable{X:bb}
theorem bin{a b:bg}{bw bN:TE}(aD:bX X a bw)(ag:bX X b bN){pins:List (Addr × Obj)}{s:aC}{σ:St}{H:ay}{R:V->V->ay->Prop}(I:Inv X pins σ H s)(h:bw σ H λ x H1=>bN σ H1 λ y aS=>R x y aS)
 {α:Type} {Q:α->aC->Prop} {f:Value->Value->Sem α}
 (hf:∀ v u s2 x y aS,Inv X pins σ aS s2->RelV x v->RelV y u->R x y aS->aG (aI X.prog X.w) X.A (f v u) Q X.xe s2) :
 aG (aI X.prog X.w) X.A (eval a X.env) (λ v dC=>aG (aI X.prog X.w) X.A (eval b X.env) (λ u lh=>aG (aI X.prog X.w) X.A (f v u) Q X.xe lh) X.xe dC) X.xe s:=by
 refine b5 (aD pins s σ H _ I h) λ v s1 ⟨x,H1,a6,bj,aH⟩=>?_;refine b5 (ag pins s1 σ H1 _ a6 aH) λ u s2 ⟨y,aS,cy,bK,bI⟩=>?_;exact hf v u s2 x y aS cy bj bK bI
def ER(i:Nat):TE:=λ σ H Q=>∃ v,σ[i]?=some (some v)/\Q v H
def j0(v:V):TE:=λ _ H Q=>Q v H
theorem zh{i:Nat}{x:Str}{pos:Pos}(cw:X.N[i]?=some x)(bC:ld X.env.scope x)(hd:(x==("__debug__" : Str))=false:=by decide)(e3:(x==("__classdict__" : Str))=false:=by decide):bX X (.Name x pos) (ER i):=by
 intro pins s σ H Q I h;obtain ⟨v,e,h⟩:=h;obtain ⟨m,bt,aQ⟩:=I.loc;obtain ⟨u,r,l⟩:=aQ i x v cw e bC
 have fin:da X pins σ Q u s:=⟨v,H,I,r,h⟩
 rcases l with ⟨aO,hm⟩ | ⟨aO,c,aE,wU⟩
 ·exact wpAny_Name (wpAny_loadName_local I.ok.kind aO bt hm fin) hd
 ·rcases aO with aO | aO
  ·exact wpAny_Name (wpAny_loadName_cell I.ok.kind aO aE wU fin) hd
  ·exact wpAny_Name (wpAny_loadName_free I.ok.kind aO aE wU fin e3) hd
theorem Mc {i j pos}:bX X (.Constant (.int i) j pos) (j0 (.int i)):=λ _ _ _ H _ I h=>wpAny_Constant_int ⟨.int i,H,I.tok _,⟨_,rfl⟩,h⟩
theorem Md {b j pos}:bX X (.Constant (.bool b) j pos) (j0 (.aU b)):=λ _ _ _ H _ I h=>Constant_bool ⟨.aU b,H,I,rfl,h⟩
theorem Me {j pos}:bX X (.Constant .none j pos) (j0 .bJ):=λ _ _ _ H _ I h=>Constant_none ⟨.bJ,H,I,rfl,h⟩
theorem Mf {x j pos}:bX X (.Constant (.str x) j pos) (j0 (.str x)):=λ _ _ _ H _ I h=>Calls.Constant_str ⟨.str x,H,I.tok _,⟨_,rfl⟩,h⟩
def di(X:bb)(x:Str):Prop:=X.env.kindOf x=some .globalImplicit
theorem zi{E:Value->aC->Prop}{pins:List (Addr × Obj)}{s:aC}{σ:St}{H:ay}{x:Str}{u:Value}{pos:Pos}{Q:Value->aC->Prop}(I:Inv X pins σ H s)(aZ:di X x)(hm:X.mg x=some u)(h:Q u s)
 (hd:(x==("__debug__" : Str))=false:=by decide):aG (aI X.prog X.w) X.A (eval (.Name x pos) X.env) Q E s:=
 Calls.Name_function_global I.ok.kind aZ (Calls.loadGlobal_global (by rw [I.ok.glob];exact I.mod.glob.keeps I.bk) hm h) hd
theorem iU{E:Value->aC->Prop}{pins:List (Addr × Obj)}{s:aC}{σ:St}{H:ay}{x:Str}{u:Value}{pos:Pos}{Q:Value->aC->Prop}(I:Inv X pins σ H s)(aZ:di X x)(hm:X.mg x=none)(bC:kv x=some u)(h:Q u s)
 (bt:x≠"__name__":=by decide) (hd:(x==("__debug__" : Str))=false:=by decide):aG (aI X.prog X.w) X.A (eval (.Name x pos) X.env) Q E s:=by
 obtain ⟨jo,ak,aq⟩:=I.mod.blt;exact Calls.Name_function_global I.ok.kind aZ (Calls.loadGlobal_builtin (by rw [I.ok.glob];exact I.mod.glob.keeps I.bk) hm (by rw [I.ok.blt];exact ak.keeps I.bk) ((aq x bt).trans bC) h) hd
theorem Mg{x:Str}{v:V}{u:Value}{pos:Pos}(aZ:di X x)(hm:X.mg x=some u)(r:RelV v u)(hd:(x==("__debug__" : Str))=false:=by decide):bX X (.Name x pos) (j0 v):=
 λ _ _ _ H _ I h=>zi I aZ hm ⟨v,H,I,r,h⟩ hd
theorem Mh{x:Str}{v:V}{u:Value}{pos:Pos}(aZ:di X x)(hm:X.mg x=none)(bC:kv x=some u)(r:RelV v u)(bt:x≠"__name__":=by decide)(hd:(x==("__debug__" : Str))=false:=by decide):bX X (.Name x pos) (j0 v):=
 λ _ _ _ H _ I h=>iU I aZ hm bC ⟨v,H,I,r,h⟩ bt hd
variable{a b:bg}{bw bN:TE}{pos:Pos}
variable{fj mA:TT}{rest:List bg}
def ES(t u:TT):TT:=λ σ H Q=>t σ H λ c H1=>if c=true then u σ H1 Q else Q false H1
def ET(t u:TT):TT:=λ σ H Q=>t σ H λ c H1=>if c=true then Q true H1 else u σ H1 Q
def EU(t:TT):TT:=λ σ H Q=>t σ H λ c H1=>Q (!c) H1
theorem Mi(aD:iR X a fj):mz X (.BoolOp .And [a] pos) fj:=by
 intro oT pins s σ H Q I h;refine isTrue_and (b5 (aD pins s σ H Q I h) λ c s1 e=>?_)
 cases c with
 | true=>exact isTrue_and_nil e
 | false=>exact e
theorem Mj(aD:iR X a fj):mz X (.BoolOp .Or [a] pos) fj:=by
 intro oT pins s σ H Q I h;refine isTrue_or (b5 (aD pins s σ H Q I h) λ c s1 e=>?_)
 cases c with
 | false=>exact isTrue_or_nil e
 | true=>exact e
theorem Mk(aD:iR X a fj)(ag:mz X (.BoolOp .And (b::rest) pos) mA):mz X (.BoolOp .And (a::b::rest) pos) (ES fj mA):=by
 intro oT pins s σ H Q I h;refine isTrue_and (b5 (aD pins s σ H _ I h) λ c s1 ⟨H1,a6,aH⟩=>?_)
 cases c with
 | true=>exact ag oT pins s1 σ H1 Q a6 aH
 | false=>exact ⟨H1,a6,aH⟩
theorem Ml(aD:iR X a fj)(ag:mz X (.BoolOp .Or (b::rest) pos) mA):mz X (.BoolOp .Or (a::b::rest) pos) (ET fj mA):=by
 intro oT pins s σ H Q I h;refine isTrue_or (b5 (aD pins s σ H _ I h) λ c s1 ⟨H1,a6,aH⟩=>?_)
 cases c with
 | true=>exact ⟨H1,a6,aH⟩
 | false=>exact ag oT pins s1 σ H1 Q a6 aH
theorem Mm(aD:iR X a fj):iR X (.UnaryOp .Not a pos) (EU fj):=by
 intro pins s σ H Q I h;exact isTrue_not (aD pins s σ H (λ c H1=>Q (!c) H1) I h)
def EV(bw bN:TE):TE:=λ σ H Q=>bw σ H λ x H1=>∃ c,x=.aU c/\if c=true then bN σ H1 Q else Q (.aU false) H1
def EW(bw bN:TE):TE:=λ σ H Q=>bw σ H λ x H1=>∃ c,x=.aU c/\if c=true then Q (.aU true) H1 else bN σ H1 Q
def EX(bw:TE):TE:=λ σ H Q=>bw σ H λ x H1=>∃ c,x=.aU c/\Q (.aU (!c)) H1
theorem Mn {op} {t:TE} (h:bX X a t):bX X (.BoolOp op [a] pos) t:=λ pins s σ H Q I hw=>BoolOp_one (h pins s σ H Q I hw)
theorem Mo(aD:bX X a bw)(ag:bX X (.BoolOp .And (b::rest) pos) bN):bX X (.BoolOp .And (a::b::rest) pos) (EV bw bN):=by
 intro pins s σ H Q I h;refine BoolOp_and (b5 (aD pins s σ H _ I h) λ v s1 ⟨x,H1,a6,bj,aH⟩=>?_);obtain ⟨c,rfl,aH⟩:=aH;cases bj;refine pQ ?_
 cases c with
 | true=>exact ag pins s1 σ H1 Q a6 aH
 | false=>exact ⟨.aU false,H1,a6,rfl,aH⟩
theorem Mp(aD:bX X a bw)(ag:bX X (.BoolOp .Or (b::rest) pos) bN):bX X (.BoolOp .Or (a::b::rest) pos) (EW bw bN):=by
 intro pins s σ H Q I h;refine BoolOp_or (b5 (aD pins s σ H _ I h) λ v s1 ⟨x,H1,a6,bj,aH⟩=>?_);obtain ⟨c,rfl,aH⟩:=aH;cases bj;refine pQ ?_
 cases c with
 | false=>exact ag pins s1 σ H1 Q a6 aH
 | true=>exact ⟨.aU true,H1,a6,rfl,aH⟩
theorem Mq(aD:bX X a bw):bX X (.UnaryOp .Not a pos) (EX bw):=by
 intro pins s σ H Q I h;refine UnaryOp_ (b5 (aD pins s σ H _ I h) λ v s1 ⟨x,H1,a6,bj,aH⟩=>?_);obtain ⟨c,rfl,aH⟩:=aH;cases bj;exact not_of (pQ ⟨.aU (!c),H1,a6,rfl,aH⟩)
def EY(t:TT)(bw bN:TE):TE:=λ σ H Q=>t σ H λ c H1=>if c=true then bw σ H1 Q else bN σ H1 Q
theorem Mr{c:bg}(aE:iR X c fj)(aD:bX X a bw)(ag:bX X b bN):bX X (.IfExp c a b pos) (EY fj bw bN):=by
 intro pins s σ H Q I h;refine wpAny_IfExp (b5 (aE pins s σ H _ I h) λ d s1 ⟨H1,a6,aH⟩=>?_)
 cases d with
 | true=>exact aD pins s1 σ H1 Q a6 aH
 | false=>exact ag pins s1 σ H1 Q a6 aH
end
def d7(K:bl)(H:ay)(a:Addr)(xs:List V):Prop:=
 jl H a (.lst xs) ∨
  ∃(o:Obj)(aM:Array Value)(n:Nat),K.lookup a=some o/\o.cls=.type "list"/\o.dict=none/\o.data=.seq aM n/\aM.size<=sizeLine/\Vals xs aM.toList
def dq(K:bl)(H:ay)(a:Addr)(xs:List V):Prop:=
 jl H a (.tup xs) ∨
  ∃(o:Obj)(aM:Array Value)(n:Nat),K.lookup a=some o/\o.cls=.type "tuple"/\o.data=.seq aM n/\aM.size<=sizeLine/\Vals xs aM.toList
def Ms:Value->Option V
 | .none=>some .bJ
 | .bool b=>some (.aU b)
 | .int i _=>some (.int i)
 | .str x _=>some (.str x)
 | .bytes b _=>some (.tF b)
 | .float b _=>some (.rL b)
 | .ref a=>some (.ref a)
 | .type n=>some (.ty n)
 | _=>none
theorem RelV.abs{x:V}{u:Value}(r:RelV x u):Ms u=some x:=by
 cases x with
 | bJ=>cases r;rfl
 | aU _=>cases r;rfl
 | int _=>obtain ⟨t,rfl⟩:=r;rfl
 | str _=>obtain ⟨t,rfl⟩:=r;rfl
 | tF _=>obtain ⟨t,rfl⟩:=r;rfl
 | rL _=>obtain ⟨t,rfl⟩:=r;rfl
 | ref _=>cases r;rfl
 | ty _=>cases r;rfl
theorem RelV.inj{x y:V}{u:Value}(r:RelV x u)(q:RelV y u):x=y:=e1.inj (r.abs.symm.trans q.abs)
theorem Vals.inj:∀{xs ys:List V}{us:List Value},Vals xs us->Vals ys us->xs=ys
 | _,_,_,.nil,.nil=>rfl
 | _,_,_,.cons r t,.cons dK t'=>by rw [r.inj dK,Vals.inj t t']
section
variable{X:bb}{pins:List (Addr × Obj)}{σ:St}{H:ay}{s:aC}{a:Addr}{xs ys:List V}
theorem d7.of{K:bl}(h:H a=some (.lst xs)):d7 K H a xs:=.inl (.inl h)
theorem dq.of{K:bl}(h:H a=some (.tup xs)):dq K H a xs:=.inl (.inl h)
theorem Inv.list(I:Inv X pins σ H s)(h:d7 X.K H a xs):∃ aM:List Value,Vals xs aM/\PlainL s.heap a aM.toArray/\xs.length<=sizeLine:=by
 rcases h with h | ⟨o,aM,n,aO,aE,hd,ax,hz,r⟩
 ·obtain ⟨z,aM,n,r,e⟩:=h.ok I.bM;exact ⟨aM,r,⟨_,n,e,rfl,rfl,rfl⟩,z⟩
 ·refine ⟨aM.toList,r,⟨o,n,I.gv a o aO,aE,hd,by simpa using ax⟩,?_⟩;have e:=r.length;simp only [ft] at e;omega
theorem Inv.tuple(I:Inv X pins σ H s)(h:dq X.K H a xs):∃ aM:List Value,Vals xs aM/\jh s.heap a aM.toArray/\xs.length<=sizeLine:=by
 rcases h with h | ⟨o,aM,n,aO,aE,ax,hz,r⟩
 ·obtain ⟨z,aM,r,p⟩:=h.ok I.bM;exact ⟨aM,r,p,z⟩
 ·refine ⟨aM.toList,r,⟨o,I.gv a o aO,aE,n,by simpa using ax⟩,?_⟩;have e:=r.length;simp only [ft] at e;omega
theorem Inv.Mt(I:Inv X pins σ H s)(h:d7 X.K H a xs)(h':d7 X.K H a ys):xs=ys:=by
 obtain ⟨aM,r,⟨o,n,e,_,_,d⟩,_⟩:=I.list h;obtain ⟨its',dK,⟨cT,tO,cD,_,_,d'⟩,_⟩:=I.list h';rw [e] at cD;cases cD;rw [d] at d';injection d' with hg _
 have:aM=its':=by simpa using congrArg Array.toList hg
 subst this;exact r.inj dK
theorem Inv.tP(I:Inv X pins σ H s)(h:dq X.K H a xs)(h':dq X.K H a ys):xs=ys:=by
 obtain ⟨aM,r,⟨o,e,_,n,d⟩,_⟩:=I.tuple h;obtain ⟨its',dK,⟨cT,cD,_,tO,d'⟩,_⟩:=I.tuple h';rw [e] at cD;cases cD;rw [d] at d';injection d' with hg _
 have:aM=its':=by simpa using congrArg Array.toList hg
 subst this;exact r.inj dK
end
abbrev bb.mB(X:bb)(E:Value->aC->Prop):bb:={ X with xe:=E }
abbrev bb.oU(X:bb):bb:=X.mB λ _ _=>False
theorem bb.Ok.mB{X:bb}(ok:X.Ok)(E:Value->aC->Prop):(X.mB E).Ok:=
 ⟨ok.mod,ok.kind,ok.glob,ok.blt,ok.above,ok.inj,ok.has,ok.rN,ok.hd,ok.frames,ok.wP,ok.EJ,ok.bs,ok.lg,ok.tI,ok.wQ,ok.jq,ok.nE⟩
theorem bb.Ok.oV{X:bb}{E:Value->aC->Prop}(ok:(X.mB E).Ok):X.Ok:=
 ⟨ok.mod,ok.kind,ok.glob,ok.blt,ok.above,ok.inj,ok.has,ok.rN,ok.hd,ok.frames,ok.wP,ok.EJ,ok.bs,ok.lg,ok.tI,ok.wQ,ok.jq,ok.nE⟩
section
variable{X:bb}{pins:List (Addr × Obj)}{σ:St}{H:ay}{s:aC}{E:Value->aC->Prop}
theorem Inv.mB(I:Inv X pins σ H s)(E:Value->aC->Prop):Inv (X.mB E) pins σ H s:=⟨I.ok.mB E,I.os,I.bare,I.base,I.loc,I.cell,I.free,I.kB,I.pin,I.bM,I.len⟩
theorem Inv.oV(I:Inv (X.mB E) pins σ H s):Inv X pins σ H s:=⟨I.ok.oV,I.os,I.bare,I.base,I.loc,I.cell,I.free,I.kB,I.pin,I.bM,I.len⟩
theorem kC.oV{D:Ends}{f:Flow}{s':aC}(h:kC (X.mB E) pins D f s'):kC X pins D f s':=by
 cases f with
 | next=>obtain ⟨σ',aj,I,q⟩:=h;exact ⟨σ',aj,I.oV,q⟩
 | brk=>obtain ⟨σ',aj,I,q⟩:=h;exact ⟨σ',aj,I.oV,q⟩
 | cont=>obtain ⟨σ',aj,I,q⟩:=h;exact ⟨σ',aj,I.oV,q⟩
 | ret u=>obtain ⟨v,σ',aj,I,r,q⟩:=h;exact ⟨v,σ',aj,I.oV,r,q⟩
theorem iT.oU{st:List bB}{t:eV}(h:iT X.oU st t):iT X st t:=λ pins s σ H D I hw=>
 eg (h pins s σ H D (I.mB _) hw) (λ _ _ q=>q.oV) λ _ _ z=>False.elim z
end
section
variable{X:bb}{st:bB}{rest:List bB}{t u:eV}{e:bg}{aW:TE}{pos:Pos}
def EZ:eV:=λ D σ H=>D.nx σ H
def E0(t u:eV):eV:=λ D σ H=>t { D with nx:=u D } σ H
theorem Mu:iT X [] EZ:=λ _ _ σ H _ I h=>wg ⟨σ,H,I,h⟩
theorem Mv(ak:iS X st t)(aq:iT X rest u):iT X (st::rest) (E0 t u):=by
 intro pins s σ H D I h;refine wpAny_execs_cons (b5 (ak pins s σ H { D with nx:=u D } I h) λ f s1 q=>?_)
 cases f with
 | next=>
  obtain ⟨σ',aj,oS,q⟩:=q;exact aq pins s1 σ' aj D oS q
 | ret v=>exact q
 | brk=>exact q
 | cont=>exact q
theorem Mw(ak:iS X st t):iT X [st] t:=by
 intro pins s σ H D I h;refine wpAny_execs_cons (b5 (ak pins s σ H D I h) λ f s1 q=>?_)
 cases f with
 | next=>exact wg q
 | ret v=>exact q
 | brk=>exact q
 | cont=>exact q
theorem Inv.quiet{pins:List (Addr × Obj)}{σ:St}{H:ay}{s:aC}(I:Inv X pins σ H s):interactive X.env=false:=by simp [interactive,I.ok.kind]
def E1(aW:TE):eV:=λ D σ H=>aW σ H λ _ H1=>D.nx σ H1
theorem Mx(he:bX X e aW)(ax:je e none pos.line X.env=pure false:=by rfl):iS X (.Expr e pos) (E1 aW):=by
 intro pins s σ H D I h;exact wpAny_Expr_any (b5 (he pins s σ H _ I h) λ v s1 ⟨x,H1,a6,bj,aH⟩=>⟨σ,H1,a6,aH⟩) I.quiet ax
def E2(aW:TE):eV:=λ D σ H=>aW σ H D.rt
theorem My(he:bX X e aW):iS X (.Return (some e) pos) (E2 aW):=by
 intro pins s σ H D I h;exact wpAny_Return_some (b5 (he pins s σ H _ I h) λ v s1 ⟨x,H1,a6,bj,aH⟩=>⟨x,σ,H1,a6,bj,aH⟩)
def E3(c:TT)(t u:eV):eV:=λ D σ H=>c σ H λ b H1=>if b=true then t D σ H1 else u D σ H1
theorem Mz{c:bg}{a b:List bB}{bo:TT}(aE:iR X c bo)(aD:iT X a t)(ag:iT X b u):iS X (.If c a b pos) (E3 bo t u):=by
 intro pins s σ H D I h;refine wpAny_If (b5 (aE pins s σ H _ I h) λ d s1 ⟨H1,a6,aH⟩=>?_)
 cases d with
 | true=>exact aD pins s1 σ H1 D a6 aH
 | false=>exact ag pins s1 σ H1 D a6 aH
end
abbrev fe:=V->St->ay->(St->ay->Prop)->Prop
abbrev li:=List V->St->ay->(St->ay->Prop)->Prop
def lj(X:bb)(target:bg)(t:fe):Prop:=
 ∀(pins:List (Addr × Obj))(s:aC)(σ:St)(H:ay)(v:V)(u:Value)(Q:St->ay->Prop),Inv X pins σ H s->RelV v u->t v σ H Q →
  aG (aI X.prog X.w) X.A (XV target X.env u) (λ _ s'=>∃ σ' aj,Inv X pins σ' aj s'/\Q σ' aj) X.xe s
def tQ(X:bb)(hh:List bg)(t:li):Prop:=
 ∀(pins:List (Addr × Obj))(s:aC)(σ:St)(H:ay)(ai:List V)(us:List Value)(Q:St->ay->Prop),Inv X pins σ H s->Vals ai us->t ai σ H Q →
  aG (aI X.prog X.w) X.A (assignInOrder ((ie hh X.env).map (·.2)) us) (λ _ s'=>∃ σ' aj,Inv X pins σ' aj s'/\Q σ' aj) X.xe s
abbrev tR:=V->V->V->ay->(ay->Prop)->Prop
def zj(X:bb)(t:tR):Prop:=
 ∀(pins:List (Addr × Obj))(s:aC)(σ:St)(H:ay)(o i v:V)(fW gf u:Value)(Q:ay->Prop),Inv X pins σ H s->RelV o fW->RelV i gf->RelV v u->t o i v H Q →
  aG (aI X.prog X.w) X.A (th fW gf u) (λ _ s'=>∃ aj,Inv X pins σ aj s'/\Q aj) X.xe s
abbrev rP:=V->V->ay->cK->Prop
def zk(X:bb)(op:nk)(t:rP):Prop:=
 ∀(pins:List (Addr × Obj))(s:aC)(σ:St)(H:ay)(x y:V)(v u:Value)(Q:cK),Inv X pins σ H s->RelV x v->RelV y u->t x y H Q →
  aG (aI X.prog X.w) X.A (inplaceOp op v u) (da X pins σ Q) X.xe s
section
variable{X:bb}{pos:Pos}
def oW(i:Nat):fe:=λ v σ H Q=>Q (σ.set i (some v)) H
theorem MA{i:Nat}{x:Str}(cw:X.N.Nodup)(ar:X.N[i]?=some x)(aF:Loc X.env.scope x)(hf:X.fn x=true\/X.env.scope.names.lookup x=some .local:=by first | exact .inl rfl | exact .inr rfl | assumption):lj X (.Name x pos) (oW i):=by
 intro pins s σ H v u Q I r h;exact y0 (tN I cw ar aF r (λ s' oS=>⟨_,H,oS,h⟩) hf)
def E4:li:=λ ai σ H Q=>ai=[]/\Q σ H
def E5(t:fe)(u:li):li:=λ ai σ H Q=>∃ v r,ai=v::r/\t v σ H λ σ' aj=>u r σ' aj Q
theorem MB:tQ X [] E4:=by
 intro pins s σ H ai us Q I r h;obtain ⟨e,h⟩:=h;subst e;cases r;exact assignInOrder_nil ⟨σ,H,I,h⟩
theorem MC{e:bg}{ah:List bg}{t:fe}{u:li}(ak:lj X e t)(aq:tQ X ah u)
 (ax:(ie (e::ah) X.env).map (·.2)=XV e X.env::(ie ah X.env).map (·.2):=by rfl):tQ X (e::ah) (E5 t u):=by
 intro pins s σ H ai us Q I r h;obtain ⟨v,acK,aP,h⟩:=h;subst aP
 cases r with
 | cons r dL=>
  rw [ax];refine assignInOrder_cons (b5 (ak pins s σ H _ _ _ I r h) λ _ s1 ⟨σ1,H1,a6,aH⟩=>?_);exact aq pins s1 σ1 H1 _ _ Q a6 dL aH
def E6(K:bl)(n:Nat)(t:li):fe:=λ v σ H Q=>∃ a xs,v=.ref a/\dq K H a xs/\xs.length=n/\t xs σ H Q
theorem MD{ah:List bg}{k:Nat}{t:li}{n:Nat}(aE:X.calm=true)(h:tQ X ah t)
 (bt:(ie ah X.env).length=n:=by rfl) (hC:(ie ah X.env).findIdx? (·.1)=none:=by rfl):lj X (.Tuple ah k pos) (E6 X.K n t):=by
 intro pins s σ H v u Q I r hw;obtain ⟨a,xs,aP,bv,aQ,hw⟩:=hw;subst aP;cases r;obtain ⟨aM,be,bT,hz⟩:=I.tuple bv;refine assign_Tuple_tuple (I.ok.hd aE) bT (by simp [bt,<- aQ,be.length]) hC λ h' aF=>?_;have a6:Inv X pins σ H { s with heap:=h' }:=I.kept (t':=s.toks) λ b o e=>aF b o (dp (cJ e)) e;exact h pins _ σ H xs _ Q a6 (by simpa using be) hw
def E7(to eQ:TE)(t:tR):fe:=λ v σ H Q=>to σ H λ o H1=>eQ σ H1 λ i aS=>t o i v aS λ dX=>Q σ dX
theorem ME{o i:bg}{to eQ:TE}{t:tR}(a4:bX X o to)(ar:bX X i eQ)(ax:zj X t)
 (aD:∀ v,XV (.Subscript o i pos) X.env v=(do
  let fW ← jf [v] (eval o X.env)
  let gf ← jf [v,fW] (eval i X.env)
  oB pos
  jf [v,fW,gf] (th fW gf v)
  release [v,fW,gf] []):=by intro _;rfl):lj X (.Subscript o i pos) (E7 to eQ t):=by
 intro pins s σ H v u Q I r h;rw [aD];refine ao (g_ (b5 (a4 pins s σ H _ I h) λ fW s1 ⟨x,H1,a6,bj,aH⟩=>?_));refine ao (g_ (b5 (ar pins s1 σ H1 _ a6 aH) λ gf s2 ⟨y,aS,cy,bK,bI⟩=>?_));refine ao (k3 (ao (g_ (b5 (ax pins s2 σ aS x y v fW gf u _ cy bj bK r bI) λ _ s3 ⟨dX,dd,eh⟩=>?_))));exact wpAny_release ⟨σ,dX,dd,eh⟩
def oX(aW:TE)(g:fe):eV:=λ D σ H=>aW σ H λ x H1=>g x σ H1 D.nx
theorem MF{bp e:bg}{aW:TE}{g:fe}(he:bX X e aW)(aZ:lj X bp g)(ax:y6 [bp] e pos.line X.env=pure false:=by rfl)(hw:y7 [bp] e X.env=pure none:=by rfl)
 (ak:(ie [bp] X.env).map (·.2)=[XV bp X.env]:=by rfl):iS X (.Assign [bp] e pos) (oX aW g):=by
 intro pins s σ H D I h;refine wpAny_Assign_stores (b5 (he pins s σ H _ I h) λ v s1 ⟨x,H1,a6,bj,aH⟩=>?_) ax hw;rw [ak];exact b5 (aZ pins s1 σ H1 x v _ a6 bj aH) λ _ s2 q=>q
theorem MG{i:Nat}{x:Str}{e:bg}{aW:TE}{pos':Pos}(cw:X.N.Nodup)(ar:X.N[i]?=some x)(aF:Loc X.env.scope x)(he:bX X e aW)(ax:je e (some (.Name x pos')) pos.line X.env=pure false:=by rfl)(hf:X.fn x=true\/X.env.scope.names.lookup x=some .local:=by first | exact .inl rfl | exact .inr rfl | assumption) :
 iS X (.Assign [.Name x pos'] e pos) (oX aW (oW i)):=by
 intro pins s σ H D I h;refine wpAny_Assign_Name (b5 (he pins s σ H _ I h) λ v s1 ⟨y,H1,a6,bj,aH⟩=>?_) ax;exact tN a6 cw ar aF bj (λ s2 cy=>⟨_,H1,cy,aH⟩) hf
def E8(i:Nat)(aW:TE)(eQ:rP):eV:=λ D σ H=>∃ x,σ[i]?=some (some x)/\aW σ H λ y H1=>eQ x y H1 λ z aS=>D.nx (σ.set i (some z)) aS
theorem MH{i:Nat}{x:Str}{e:bg}{aW:TE}{op:nk}{eQ:rP}{pos':Pos}(cw:X.N.Nodup)(ar:X.N[i]?=some x)(aF:Loc X.env.scope x)(he:bX X e aW)(a4:zk X op eQ)(hf:X.fn x=true\/X.env.scope.names.lookup x=some .local:=by first | exact .inl rfl | exact .inr rfl | assumption) :
 iS X (.AugAssign (.Name x pos') op e pos) (E8 i aW eQ):=by
 intro pins s σ H D I h;obtain ⟨v,aP,h⟩:=h;obtain ⟨m,bt,aQ⟩:=I.loc
 have MI:ld X.env.scope x:=by rcases aF with k | k;exact .inl k;exact .inr (.inl k)
 obtain ⟨u,r,l⟩:=aQ i x v ar aP MI;refine wpAny_AugAssign_Name ?_
 have go:aG (aI X.prog X.w) X.A (eval e X.env) (λ w lh=>aG (aI X.prog X.w) X.A (inplaceOp op u w) (λ r wV=>aG (aI X.prog X.w) X.A (storeName X.env x r) (λ _=>kC X pins D .next) X.xe wV) X.xe lh) X.xe s:=by
  refine b5 (he pins s σ H _ I h) λ w s1 ⟨y,H1,a6,bj,aH⟩=>?_;refine b5 (a4 pins s1 σ H1 v y u w _ a6 r bj aH) λ z s2 ⟨acL,aS,cy,bK,bI⟩=>?_;exact tN cy cw ar aF bK (λ s3 dd=>⟨_,aS,dd,bI⟩) hf
 rcases l with ⟨aO,hm⟩ | ⟨aO,c,aE,wU⟩
 ·exact wpAny_loadName_local I.ok.kind aO bt hm go
 ·rcases aO with aO | aO
  ·exact wpAny_loadName_cell I.ok.kind aO aE wU go
  ·rcases aF with k | k
   ·have:X.env.scope.names.lookup x=some .free:=aO;rw [k] at this;cases this
   ·have:X.env.scope.names.lookup x=some .free:=aO;rw [k] at this;cases this
def E9(f:Int->Int->Int):rP:=λ x y H Q=>∃ i j,x=.int i/\y=.int j/\Q (.int (f i j)) H
theorem MJ:zk X .Add (E9 λ i j=>i+j):=by
 intro pins s σ H x y v u Q I bj bK h;obtain ⟨i,j,aP,aL,q⟩:=h;subst aP;subst aL;obtain ⟨t,rfl⟩:=bj;obtain ⟨t',rfl⟩:=bK;exact iadd_int ⟨.int _,H,I.tok _,⟨_,rfl⟩,q⟩
end
section
variable{X:bb}{pos:Pos}
def E_(c:TT)(bN:eV):eV:=λ D σ H=>∃ W:Nat->St->ay->Prop,(∃ m,W m σ H)/\∀ m σ H,W m σ H →
 c σ H λ b H1=>if b=true then ∃ N:St->ay->Prop,(∀ σ' aj,N σ' aj->∃ c5,c5 < m/\W c5 σ' aj)/\bN { D with nx:=N,ct:=N,bk:=D.nx } σ H1 else D.nx σ H1
theorem MK{c:bg}{body:List bB}{bo:TT}{bN:eV}(az:rq (aI X.prog X.w) X.A X.env X.xe)(aE:iR X c bo)(ag:iT X body bN):iS X (.While c body [] pos) (E_ bo bN):=by
 intro pins s σ H D I h;obtain ⟨W,⟨m0,hX⟩,turn⟩:=h;refine wpAny_While (codeAny_whileLoop (λ n s'=>∃ σ' aj,Inv X pins σ' aj s'/\W n σ' aj) ?_ m0 ⟨σ,H,I,hX⟩);rintro n s1 ⟨σ1,H1,a6,ll⟩;refine pR az (b5 (aE pins s1 σ1 H1 _ a6 (turn n σ1 H1 ll)) λ b s2 ⟨aS,cy,bI⟩=>?_)
 cases b with
 | true=>
  obtain ⟨N,cw,bI⟩:=bI;rw [if_pos rfl];refine pR az (b5 (ag pins s2 σ1 aS _ cy bI) λ f s3 eh=>?_)
  cases f with
  | next=>
   obtain ⟨σ3,dX,dd,wW⟩:=eh;obtain ⟨c5,hm,tS⟩:=cw σ3 dX wW;exact ⟨c5,hm,σ3,dX,dd,tS⟩
  | cont=>
   obtain ⟨σ3,dX,dd,wW⟩:=eh;obtain ⟨c5,hm,tS⟩:=cw σ3 dX wW;exact ⟨c5,hm,σ3,dX,dd,tS⟩
  | brk=>exact eh
  | ret v=>exact eh
 | false=>
  rw [if_neg gI];exact wg ⟨σ1,aS,cy,bI⟩
end
structure hD where
 go:Nat->ay->Prop
 oY:Nat->ay->V->ay->Prop
 stop:Nat->ay->Prop
def gJ(X:bb)(pins:List (Addr × Obj))(H:ay)(b:Addr):Prop:=
 H b=none/\b≠X.env.locals/\b ∉ X.bO/\(b∈X.ex\/X.s₀.heap.objs.size<=b)/\(∀ x c,X.env.cells.lookup x=some c->c≠b)/\∀ p∈X.pn++pins,p.1≠b
theorem Inv.oZ{X:bb}{pins:List (Addr × Obj)}{σ:St}{H aj:ay}{s:aC}{b:Addr}(I:Inv X pins σ H s)(ag:s.heap.objs.size<=b)(bt:aj b=none):gJ X pins aj b:=by
 refine ⟨bt,ij (hA I.lt ag),I.wR ag,.inr (kz I.aB ag),λ x c e z=>?_,λ p az z=>?_⟩
 ·obtain ⟨v,q⟩:=I.cell x c e;exact absurd (hA q.lt (by rw [z];exact ag)) (jU _)
 ·exact absurd (hA (cJ (I.pin p az).1) (by rw [z];exact ag)) (jU _)
structure Turn(P:ck)(w:bW)(K:bl)(bp:bg)(J:hD)(fp:List Addr)(it:Addr)(e4:Nat->bL->Prop):Prop where
 mem:it∈fp
 obj:∀ i h,e4 i h->∀ b∈fp,∃ o,h.get? b=some o/\∀ v,o.data≠.cell v
 keep:∀ i h h',e4 i h->(∀ b∈fp,∀ o,h.get? b=some o->h'.get? b=some o)->e4 i h'
 item:∀(X:bb),X.prog=P->X.w=w->X.K=K->X.calm=true->∀(i:Nat)(pins:List (Addr × Obj))(s:aC)(σ:St)(H:ay)(E:Value->aC->Prop),Inv X pins σ H s->(∀ b∈fp,gJ X pins H b)->e4 i s.heap->J.go i H →
  aG (aI P w) X.A (gu (.ref it)) (λ r s1=>∃ u,r=some u ∧
   aG (aI P w) X.A (ta bp (.ref it) u) (λ _ s2=>∃ x aj,Inv X pins σ aj s2/\RelV x u/\J.oY i H x aj/\e4 (i+1) s2.heap/\∀ b∈fp,aj b=none) E s1) E s
 done:∀(X:bb),X.prog=P->X.w=w->X.K=K->X.calm=true->∀(i:Nat)(pins:List (Addr × Obj))(s:aC)(σ:St)(H:ay)(E:Value->aC->Prop),Inv X pins σ H s->(∀ b∈fp,gJ X pins H b)->e4 i s.heap->J.stop i H →
  aG (aI P w) X.A (gu (.ref it)) (λ r s1=>r=none/\Inv X pins σ H s1) E s
 self:∀(A:c1)(i:Nat)(s:aC)(Q:Value->aC->Prop)(E:Value->aC->Prop),e4 i s.heap->Q (.ref it) s->aG (aI P w) A (pZ (.ref it)) Q E s
abbrev TI:=St->ay->(hD->ay->Prop)->Prop
def Fa(X:bb)(pins:List (Addr × Obj))(σ:St)(bp:bg)(R:hD->ay->Prop)(rQ:Value)(s2:aC):Prop:=
 ∃(it:Addr)(fp:List Addr)(e4:Nat->bL->Prop)(J:hD)(aj:ay),rQ=.ref it/\Inv X pins σ aj s2/\Turn X.prog X.w X.K bp J fp it e4/\e4 0 s2.heap/\(∀ b∈fp,gJ X pins aj b)/\R J aj
def mC(X:bb)(bp iter:bg)(cZ:TI):Prop:=
 ∀(pins:List (Addr × Obj))(s:aC)(σ:St)(H:ay)(R:hD->ay->Prop),Inv X pins σ H s->cZ σ H R →
  aG (aI X.prog X.w) X.A (eval iter X.env) (λ v s1=>aG (aI X.prog X.w) X.A (pZ v) (Fa X pins σ bp R) X.xe s1) X.xe s
theorem wX{M:Model}{A:c1}{E:Value->aC->Prop}{s:aC}{bp:bg}{it:Addr}{u:Value}{o:Obj}{n:String}{ai:Array Value}{Q:Unit->aC->Prop}(a4:s.heap.get? it=some o)(aE:o.cls=.type n)(hd:o.data=.fields ai)
 (bt:["enumerate", "zip", "dict_itemiterator", "dict_reverseitemiterator", "odict_iterator", "itertools.zip_longest", "itertools.pairwise"].contains n=false) (dB:Q () s):aG M A (ta bp (.ref it) u) Q E s:=by
 unfold ta
 cases bp<;>first
  | exact a3 dB
  | (cases u<;>first
      | exact a3 dB
      | (refine ao (tc a4 ?_)
         rw [aE,hd];show aG M A (if (["enumerate", "zip", "dict_itemiterator", "dict_reverseitemiterator", "odict_iterator", "itertools.zip_longest", "itertools.pairwise"].contains n&&ai[0]?==some (d5 _))=true then _ else _) Q E s;rw [if_neg (by intro h;rw [bt,Bool.false_and] at h;cases h)]
         exact a3 dB))
def tT(K:bl)(a:Addr):hD:=
 ⟨λ i H=>∃ xs x,d7 K H a xs/\xs[i]?=some x,λ i H x aj=>aj=H/\∀ xs,d7 K H a xs->xs[i]?=some x,λ i H=>∃ xs,d7 K H a xs/\xs.length<=i⟩
def tU(K:bl)(a:Addr):hD:=
 ⟨λ i H=>∃ xs x,dq K H a xs/\xs[i]?=some x,λ i H x aj=>aj=H/\∀ xs,dq K H a xs->xs[i]?=some x,λ i H=>∃ xs,dq K H a xs/\xs.length<=i⟩
def rR(lo:Int)(n:Nat):hD:=⟨λ i _=>i < n,λ i H x aj=>aj=H/\x=.int (lo+i),λ i _=>n<=i⟩
theorem ML{P:ck}{w:bW}{K:bl}{bp:bg}(a it:Addr):Turn P w K bp (tT K a) [it] it (λ i h=>h.IsListIter it a i) where
 mem:=by simp
 obj:=λ i h st b ag=>by
  have e:b=it:=by simpa using ag
  subst e;obtain ⟨o,e,c,d⟩:=st;exact ⟨o,e,λ v z=>by rw [d] at z;cases z⟩
 keep:=λ i h h' st k=>st.at λ o e=>k it (by simp) o e
 item:=by
  intro X gg hw eR aE i pins s σ H E I hf st aZ;subst gg hw eR;obtain ⟨xs,x,bv,aF⟩:=aZ;obtain ⟨aM,be,p,hz⟩:=I.list bv;obtain ⟨u,a0,dP⟩:=be.get aF;obtain ⟨f0,f1,f2,c6,f4,fI⟩:=hf it (by simp);refine wpAny_pyNext_list_item st p.isList (x:=u) (by simpa using a0) λ h' hY fk=>?_;have a6:Inv X pins σ H { s with heap:=h' }:=I.turned (t':=s.toks) (λ b o ag e=>(fk.2 b ag).trans e) f0 f1 c6 f4 fI;obtain ⟨o,e,c,d⟩:=id hY;exact ⟨u,rfl,wX (s:={ s with heap:=h' }) e c d (by decide) ⟨x,H,a6,dP,⟨rfl,λ ys bD=>by rw [I.Mt bD bv];exact aF⟩,hY,λ b ag=>(hf b ag).1⟩⟩
 done:=by
  intro X gg hw eR aE i pins s σ H E I hf st aZ;subst gg hw eR;obtain ⟨xs,bv,aF⟩:=aZ;obtain ⟨aM,be,p,hz⟩:=I.list bv;obtain ⟨f0,f1,f2,c6,f4,fI⟩:=hf it (by simp);have aQ:=be.length
  exact wpAny_pyNext_list_end (I.ok.hd aE) st p.isList (by simp;omega) λ h' ea=>⟨rfl,I.turned (t':=s.toks) (λ b o ag e=>ea b o ag e) f0 f1 c6 f4 fI⟩
 self:=λ _ _ _ _ _ st h=>wpAny_pyIter_listiter st h
theorem MM{P:ck}{w:bW}{K:bl}{bp:bg}(a it:Addr):Turn P w K bp (tU K a) [it] it (λ i h=>h.IsTupleIter it a i) where
 mem:=by simp
 obj:=λ i h st b ag=>by
  have e:b=it:=by simpa using ag
  subst e;obtain ⟨o,e,c,d⟩:=st;exact ⟨o,e,λ v z=>by rw [d] at z;cases z⟩
 keep:=λ i h h' st k=>st.at λ o e=>k it (by simp) o e
 item:=by
  intro X gg hw eR aE i pins s σ H E I hf st aZ;subst gg hw eR;obtain ⟨xs,x,bv,aF⟩:=aZ;obtain ⟨aM,be,p,hz⟩:=I.tuple bv;obtain ⟨u,a0,dP⟩:=be.get aF;obtain ⟨f0,f1,f2,c6,f4,fI⟩:=hf it (by simp);refine wpAny_pyNext_tuple_item st (show s.heap.IsTuple a aM.toArray from p) (x:=u) (by simpa using a0) λ h' hY fk=>?_;have a6:Inv X pins σ H { s with heap:=h' }:=I.turned (t':=s.toks) (λ b o ag e=>(fk.2 b ag).trans e) f0 f1 c6 f4 fI;obtain ⟨o,e,c,d⟩:=id hY;exact ⟨u,rfl,wX (s:={ s with heap:=h' }) e c d (by decide) ⟨x,H,a6,dP,⟨rfl,λ ys bD=>by rw [I.tP bD bv];exact aF⟩,hY,λ b ag=>(hf b ag).1⟩⟩
 done:=by
  intro X gg hw eR aE i pins s σ H E I hf st aZ;subst gg hw eR;obtain ⟨xs,bv,aF⟩:=aZ;obtain ⟨aM,be,p,hz⟩:=I.tuple bv;obtain ⟨f0,f1,f2,c6,f4,fI⟩:=hf it (by simp);have aQ:=be.length
  exact wpAny_pyNext_tuple_end (I.ok.hd aE) st (show s.heap.IsTuple a aM.toArray from p) (by simp;omega) λ h' ea=>⟨rfl,I.turned (t':=s.toks) (λ b o ag e=>ea b o ag e) f0 f1 c6 f4 fI⟩
 self:=λ _ _ _ _ _ st h=>wpAny_pyIter_tupleiter st h
theorem MN{P:ck}{w:bW}{K:bl}{bp:bg}(it:Addr)(lo:Int)(n:Nat):Turn P w K bp (rR lo n) [it] it (λ i h=>wn h it (lo+(i:Nat) * 1) ((n:Int) - (i:Nat)) 1) where
 mem:=by simp
 obj:=λ i h st b ag=>by
  have e:b=it:=by simpa using ag
  subst e
  exact ⟨_,st,λ v z=>by
   have hV:Data.fields _=Data.cell v:=z
   cases hV⟩
 keep:=λ i h h' st k=>k it (by simp) _ st
 item:=by
  intro X gg hw eR aE i pins s σ H E I hf st aZ;subst gg hw eR;obtain ⟨f0,f1,f2,c6,f4,fI⟩:=hf it (by simp);have W:=Walks.range (prog:=X.prog) (w:=X.w) (I.ok.hd aE) it lo 1 n;refine W.item i s _ _ aZ st λ v h' tk bC hY dr=>?_;obtain ⟨t,rfl⟩:=bC;have a6:Inv X pins σ H { s with heap:=h',toks:=tk }:=I.turned (λ b o ag e=>dr b o (by simpa using ag) e) f0 f1 c6 f4 fI;refine ⟨_,rfl,wX (s:={ s with heap:=h',toks:=tk }) (n:="range_iterator") hY rfl rfl (by decide) ⟨.int (lo+i),H,a6,⟨t,?_⟩,⟨rfl,rfl⟩,hY,λ b ag=>(hf b ag).1⟩⟩;rw [Int.mul_one]
 done:=by
  intro X gg hw eR aE i pins s σ H E I hf st aZ;subst gg hw eR;obtain ⟨f0,f1,f2,c6,f4,fI⟩:=hf it (by simp)
  exact EC (I.ok.hd aE) st (by have:n<=i:=aZ;omega) λ h' ea=>⟨rfl,I.turned (t':=s.toks) (λ b o ag e=>ea b o ag e) f0 f1 c6 f4 fI⟩
 self:=λ _ _ _ _ _ st h=>ED st h
section
variable{X:bb}{bp:bg}
theorem MO{pins:List (Addr × Obj)}{σ:St}{H:ay}{s:aC}{R:hD->ay->Prop}{E:Value->aC->Prop}{lo ar:Int}{t u v:Tok}{tk:Nat}(I:Inv X pins σ H s)(ak:-(2 ^ 62)<=lo)(aq:lo < 2 ^ 62)(aT:-(2 ^ 62)<=ar)(cb:ar < 2 ^ 62)
 (q:R (rR lo (ar - lo).toNat) H):aG (aI X.prog X.w) X.A (pZ (.ref s.heap.objs.size)) (Fa X pins σ bp R) E { s with heap:=s.heap.push { cls:=.type "range", data:=.fields #[.int lo t,.int ar u,.int 1 v] },toks:=tk }:=by
 refine wpAny_pyIter_range (IsRange.new ..) (small_one ak aq aT cb) ?_;have a6:Inv X pins σ H { s with heap:=s.heap.push { cls:=.type "range", data:=.fields #[.int lo t,.int ar u,.int 1 v] },toks:=tk }:=I.kept λ b o e=>cm _ e
 refine ⟨(s.heap.push { cls:=.type "range", data:=.fields #[.int lo t,.int ar u,.int 1 v] }).objs.size,[(s.heap.push { cls:=.type "range", data:=.fields #[.int lo t,.int ar u,.int 1 v] }).objs.size],_,_,H,rfl,
  a6.kept (t':=tk) λ b o e=>cm _ e,MN _ lo (ar - lo).toNat,?_,λ b ag=>?_,q⟩
 ·have aP:lo+((0:Nat):Int) * 1=lo:=by simp
  have aL:(((ar - lo).toNat:Nat):Int) - ((0:Nat):Int)=Builtin.Range.rangeSize lo ar 1:=by rw [rangeSize_one];split<;>omega
  show wn _ _ (lo+((0:Nat):Int) * 1) ((((ar - lo).toNat:Nat):Int) - ((0:Nat):Int)) 1;rw [aP,aL];exact d2 _ rfl
 ·have e:b=(s.heap.push { cls:=.type "range", data:=.fields #[.int lo t,.int ar u,.int 1 v] }).objs.size:=by simpa using ag
  subst e;exact a6.oZ (b7 _) (a6.bM.fresh (b7 _))
def Fb(bw:eD):TI:=λ σ H R=>bw σ H λ ai H1=>∃ j:Int,ai=[.int j]/\-(2 ^ 62)<=j/\j < 2 ^ 62/\R (rR 0 j.toNat) H1
theorem MP{a:bg}{bw:eD}{p pos:Pos}(aZ:di X "range")(hm:X.mg "range" = none)(aD:hc X [a] bw)(ax:dv [a] X.env=[(false,eval a X.env)]:=by rfl):mC X bp (.Call (.Name "range" p) [a] [] pos) (Fb bw):=by
 intro pins s σ H R I h;refine Call_ (iU I aZ hm boot_range (mr (b5 (aD pos pins s σ H _ I h) λ us s1 ⟨ai,H1,a6,bj,aH⟩=>?_) ax rfl));obtain ⟨j,e,aH,bI,q⟩:=aH;subst e
 cases bj with
 | cons r dL=>
  cases dL;obtain ⟨t,rfl⟩:=r;exact call_range_1 (MO a6 (by omega) (by omega) aH bI (by simpa using q))
def Fc(cZ:TI)(g:fe)(bN:eV):eV:=λ D σ H=>cZ σ H λ J H1=>∃ W:Nat->Nat->St->ay->Prop,(∃ m,W 0 m σ H1)/\∀ i m σ H,W i m σ H →
 (J.stop i H/\D.nx σ H)\/(J.go i H/\∃ N:St->ay->Prop,(∀ σ' aj,N σ' aj->∃ c5,c5 < m/\W (i+1) c5 σ' aj)/\∀ x aj,J.oY i H x aj->g x σ aj λ σ2 aS=>bN { D with nx:=N,ct:=N,bk:=D.nx } σ2 aS)
def tV(fp:List Addr)(h:bL):List (Addr × Obj):=fp.filterMap λ b=>(h.get? b).map λ o=>(b,o)
theorem jt{fp:List Addr}{h:bL}{b:Addr}{o:Obj}(ag:b∈fp)(e:h.get? b=some o):(b,o)∈tV fp h:=tl.mpr ⟨b,ag,by rw [e];rfl⟩
theorem MQ{fp:List Addr}{h:bL}{p:Addr × Obj}(az:p∈tV fp h):p.1∈fp/\h.get? p.1=some p.2:=by
 obtain ⟨b,ag,e⟩:=tl.mp az
 cases q:h.get? b with
 | none=>rw [q] at e;cases e
 | some o=>
  rw [q] at e;have cD:(b,o)=p:=e1.inj e;subst cD;exact ⟨ag,q⟩
theorem Inv.pinned{pins:List (Addr × Obj)}{σ:St}{H:ay}{s:aC}{fp:List Addr}(I:Inv X pins σ H s)(hf:∀ b∈fp,gJ X pins H b)(a4:∀ b∈fp,∃ o,s.heap.get? b=some o/\∀ v,o.data≠.cell v):Inv X (pins++tV fp s.heap) σ H s:=
 I.EM λ p az=>(jS.mp az).elim (λ z=>I.pin p (d6 _ z)) λ z=>by
  obtain ⟨ag,e⟩:=MQ z;obtain ⟨f0,f1,f2,_⟩:=hf p.1 ag;obtain ⟨o,cD,d⟩:=a4 p.1 ag;rw [e] at cD;cases cD;exact ⟨e,f0,f1,f2,d⟩
theorem Inv.mD{pins cW:List (Addr × Obj)}{σ:St}{H:ay}{s:aC}(I:Inv X (pins++cW) σ H s):Inv X pins σ H s:=I.EM λ p az=>I.pin p (d6 _ (oL _ az))
theorem MR{iter:bg}{body:List bB}{cZ:TI}{g:fe}{bN:eV}{pos:Pos}(az:rq (aI X.prog X.w) X.A X.env X.xe)(aE:X.calm=true)(ar:mC X bp iter cZ)(aZ:lj X bp g)(ag:iT X body bN)
 (ax:∀ x,iN iter X.env x=pure x:=by intro _;rfl):iS X (.For bp iter body [] pos) (Fc cZ g bN):=by
 intro pins s σ H D I h;refine wpAny_For (b5 (ar pins s σ H _ I h) λ v s1 ak=>b5 ak λ rQ s2 aq=>?_) ax;obtain ⟨it,fp,e4,J,aS,e,cy,T,j1,f2,W,⟨m0,hX⟩,turn⟩:=aq;subst e
 have hi:∀{aj:ay},(∀ b∈fp,aj b=none)->∀ b∈fp,gJ X pins aj b:=λ bt b ag=>⟨bt b ag,(f2 b ag).2⟩
 refine codeAny_forLoop_any (λ n s'=>∃ i σ' aj,Inv X pins σ' aj s'/\e4 i s'.heap/\(∀ b∈fp,aj b=none)/\W i n σ' aj) ?_ m0 ⟨0,σ,aS,cy,j1,λ b ag=>(f2 b ag).1,hX⟩;rintro n s3 ⟨i,σ3,dX,dd,ju,Fd,tS⟩;rcases turn i n σ3 dX tS with ⟨stop,nG⟩ | ⟨go,N,cw,step⟩
 ·refine pR az (b5 (T.done X rfl rfl rfl aE i pins s3 σ3 dX X.xe dd (hi Fd) ju stop) λ r s4 ⟨am,hZ⟩=>?_);subst am;exact wg ⟨σ3,dX,hZ,nG⟩
 ·refine pR az (b5 (T.item X rfl rfl rfl aE i pins s3 σ3 dX X.xe dd (hi Fd) ju go) λ r s4 ⟨u,am,cb⟩=>?_);subst am;refine pR az (b5 cb λ _ s5 ⟨x,fJ,j2,tW,MS,iV,j3⟩=>?_);have MT:=j2.pinned (hi j3) (T.obj _ _ iV);refine pR az (b5 (aZ _ s5 σ3 fJ x u _ MT tW (step x fJ MS)) λ _ gK ⟨σ6,MU,nH,Fe⟩=>?_);refine pR az (b5 (ag _ gK σ6 MU _ nH Fe) λ f j4 kD=>?_)
  have again:∀{σ7:St}{fu:ay},Inv X (pins++tV fp s5.heap) σ7 fu j4->N σ7 fu->∃ m,m < n/\∃ i σ' aj,Inv X pins σ' aj j4/\e4 i j4.heap/\(∀ b∈fp,aj b=none)/\W i m σ' aj:=λ{σ7 fu} hj tX=>by
   obtain ⟨c5,hm,MV⟩:=cw σ7 fu tX;refine ⟨c5,hm,i+1,σ7,fu,hj.mD,T.keep _ _ _ iV λ b ag o e=>(hj.pin (b,o) (d6 _ (d6 _ (jt ag e)))).1,λ b ag=>?_,MV⟩;obtain ⟨o,e,d⟩:=T.obj _ _ iV b ag;exact (hj.pin (b,o) (d6 _ (d6 _ (jt ag e)))).2.1
  cases f with
  | next=>obtain ⟨σ7,fu,hj,tX⟩:=kD;exact again hj tX
  | cont=>obtain ⟨σ7,fu,hj,tX⟩:=kD;exact again hj tX
  | brk=>obtain ⟨σ7,fu,hj,kD⟩:=kD;exact ⟨σ7,fu,hj.mD,kD⟩
  | ret v=>obtain ⟨MW,σ7,fu,hj,nI,kD⟩:=kD;exact ⟨MW,σ7,fu,hj.mD,nI,kD⟩
end
abbrev ei:=V->V->ay->cK->Prop
def d8(X:bb)(f:Value->Value->Sem Value)(r:ei):Prop:=
 ∀(pins:List (Addr × Obj))(s:aC)(σ:St)(H:ay)(x y:V)(v u:Value)(Q:cK),Inv X pins σ H s->RelV x v->RelV y u->r x y H Q →
  aG (aI X.prog X.w) X.A (f v u) (da X pins σ Q) X.xe s
def wY(X:bb)(f:Value->Sem Value)(r:V->ay->cK->Prop):Prop:=
 ∀(pins:List (Addr × Obj))(s:aC)(σ:St)(H:ay)(x:V)(v:Value)(Q:cK),Inv X pins σ H s->RelV x v->r x H Q →
  aG (aI X.prog X.w) X.A (f v) (da X pins σ Q) X.xe s
def jv(X:bb)(f:Value)(r:List V->ay->cK->Prop):Prop:=
 ∀(pins:List (Addr × Obj))(s:aC)(σ:St)(H:ay)(xs:List V)(us:List Value)(Q:cK),Inv X pins σ H s->Vals xs us->r xs H Q →
  aG (aI X.prog X.w) X.A (call f us) (da X pins σ Q) X.xe s
def MX(X:bb)(r:V->ay->(Bool->ay->Prop)->Prop):Prop:=
 ∀(pins:List (Addr × Obj))(s:aC)(σ:St)(H:ay)(x:V)(v:Value)(Q:Bool->ay->Prop),Inv X pins σ H s->RelV x v->r x H Q →
  aG (aI X.prog X.w) X.A (truthy v) (zg X pins σ Q) X.xe s
def o1(r:ei)(bw bN:TE):TE:=λ σ H Q=>bw σ H λ x H1=>bN σ H1 λ y aS=>r x y aS Q
def Ff(r:V->ay->cK->Prop)(bw:TE):TE:=λ σ H Q=>bw σ H λ x H1=>r x H1 Q
def rS(C:Int->Int->Prop)(g:Int->Int->V):ei:=λ x y H Q=>∃ i j,x=.int i/\y=.int j/\C i j/\Q (g i j) H
def nJ(g:Int->Int->V):ei:=λ x y H Q=>∃ i j,x=.int i/\y=.int j/\Q (g i j) H
def Fg(g:Int->V):V->ay->cK->Prop:=λ x H Q=>∃ i,x=.int i/\Q (g i) H
section
variable{X:bb}{a b c:bg}{bw bN bo:TE}{pos:Pos}
theorem zl(aD:bX X a bw)(ag:bX X b bN){pins:List (Addr × Obj)}{s:aC}{σ:St}{H:ay}{R:V->V->ay->Prop}(I:Inv X pins σ H s)
 (h:bw σ H λ x H1=>bN σ H1 λ y aS=>R x y aS) {Q:Value->aC->Prop} {f:Value->Value->Sem Value}
 (hf:∀ v u s2 x y aS,Inv X pins σ aS s2->RelV x v->RelV y u->R x y aS->aG (aI X.prog X.w) X.A (f v u) Q X.xe s2) :
 aG (aI X.prog X.w) X.A (eval a X.env) (λ v dC=>aG (aI X.prog X.w) X.A (eval b X.env) (λ u lh=>aG (aI X.prog X.w) X.A (f v u) Q X.xe lh) X.xe dC) X.xe s:=by
 refine b5 (aD pins s σ H _ I h) λ v s1 ⟨x,H1,a6,bj,aH⟩=>?_;refine b5 (ag pins s1 σ H1 _ a6 aH) λ u s2 ⟨y,aS,cy,bK,bI⟩=>?_;exact hf v u s2 x y aS cy bj bK bI
theorem MY{op:nk}{r:ei}(a4:d8 X (gH op) r)(aD:bX X a bw)(ag:bX X b bN):bX X (.BinOp a op b pos) (o1 r bw bN):=by
 intro pins s σ H Q I h;exact wpAny_BinOp (zl aD ag I h λ v u s2 x y aS cy bu cz q=>a4 pins s2 σ aS x y v u Q cy bu cz q)
theorem MZ{op:UnaryOp}{r:V->ay->cK->Prop}(a4:wY X (ti op) r)(aD:bX X a bw):bX X (.UnaryOp op a pos) (Ff r bw):=by
 intro pins s σ H Q I h;exact UnaryOp_ (b5 (aD pins s σ H _ I h) λ v s1 ⟨x,H1,a6,bj,aH⟩=>a4 pins s1 σ H1 x v Q a6 bj aH)
theorem wZ{f:Value->Value->Sem Value}{C:Int->Int->Prop}{g:Int->Int->Int}
 (rule:∀(i j:Int)(t u:Tok)(s:aC)(Q:Value->aC->Prop)(E:Value->aC->Prop),C i j->Q (.int (g i j) s.toks) { s with toks:=s.toks+1 }->aG (aI X.prog X.w) X.A (f (.int i t) (.int j u)) Q E s) :
 d8 X f (rS C λ i j=>.int (g i j)):=by
 intro pins s σ H x y v u Q I bu cz h;obtain ⟨i,j,rfl,rfl,aE,q⟩:=h;obtain ⟨t,rfl⟩:=bu;obtain ⟨t',rfl⟩:=cz;exact rule i j t t' s _ _ aE ⟨.int (g i j),H,I.tok _,⟨_,rfl⟩,q⟩
theorem Fh{f:Value->Value->Sem Value}{g:Int->Int->Int}
 (rule:∀(i j:Int)(t u:Tok)(s:aC)(Q:Value->aC->Prop)(E:Value->aC->Prop),Q (.int (g i j) s.toks) { s with toks:=s.toks+1 }->aG (aI X.prog X.w) X.A (f (.int i t) (.int j u)) Q E s) :
 d8 X f (nJ λ i j=>.int (g i j)):=by
 intro pins s σ H x y v u Q I bu cz h;obtain ⟨i,j,rfl,rfl,q⟩:=h;obtain ⟨t,rfl⟩:=bu;obtain ⟨t',rfl⟩:=cz;exact rule i j t t' s _ _ ⟨.int (g i j),H,I.tok _,⟨_,rfl⟩,q⟩
theorem zm{f:Value->Value->Sem Value}{g:Int->Int->Bool}
 (rule:∀(i j:Int)(t u:Tok)(s:aC)(Q:Value->aC->Prop)(E:Value->aC->Prop),Q (.bool (g i j)) s->aG (aI X.prog X.w) X.A (f (.int i t) (.int j u)) Q E s) :
 d8 X f (nJ λ i j=>.aU (g i j)):=by
 intro pins s σ H x y v u Q I bu cz h;obtain ⟨i,j,rfl,rfl,q⟩:=h;obtain ⟨t,rfl⟩:=bu;obtain ⟨t',rfl⟩:=cz;exact rule i j t t' s _ _ ⟨.aU (g i j),H,I,rfl,q⟩
def Fi(i j:Int):Prop:=0<=j/\j<=1000000/\i.natAbs < 2 ^ 64
def tY(i j:Int):Prop:=(-(2 ^ 64) < i/\i < 2 ^ 64)\/(-(2 ^ 64) < j/\j < 2 ^ 64)
theorem tY.ok{i j:Int}(h:tY i j):IntMulOk i j:=by
 rcases h with ⟨ak,aq⟩ | ⟨ak,aq⟩
 ·exact .of_left (intBits_le_64 ak aq)
 ·exact .of_right (intBits_le_64 ak aq)
theorem M0:d8 X (gH .Add) (nJ λ i j=>.int (i+j)):=Fh λ _ _ _ _ _ _ _ q=>add_int q
theorem M1:d8 X (gH .Sub) (nJ λ i j=>.int (i - j)):=Fh λ _ _ _ _ _ _ _ q=>sub_int q
theorem M2:d8 X (gH .Mult) (rS tY λ i j=>.int (i * j)):=wZ λ _ _ _ _ _ _ _ aE q=>mul_int q aE.ok
theorem M3:d8 X (gH .Mod) (rS (λ _ j=>0 < j) λ i j=>.int (i % j)):=wZ λ i j _ _ _ _ _ aE q=>by
 have ak:(0:Int) < j:=aE;exact mod_int' (by omega) (by rw [Int.fmod_eq_emod_of_nonneg i (by omega)];exact q)
theorem M4:d8 X (gH .Pow) (rS Fi λ i j=>.int (i ^ j.toNat)):=wZ λ _ _ _ _ _ _ _ aE q=>pow_int_small aE.1 aE.2.1 aE.2.2 q
theorem M5{f:Value->Sem Value}{g:Int->Int}
 (rule:∀(i:Int)(t:Tok)(s:aC)(Q:Value->aC->Prop)(E:Value->aC->Prop),Q (.int (g i) s.toks) { s with toks:=s.toks+1 }->aG (aI X.prog X.w) X.A (f (.int i t)) Q E s) :
 wY X f (Fg λ i=>.int (g i)):=by
 intro pins s σ H x v Q I bu h;obtain ⟨i,rfl,q⟩:=h;obtain ⟨t,rfl⟩:=bu;exact rule i t s _ _ ⟨.int (g i),H,I.tok _,⟨_,rfl⟩,q⟩
theorem M6:wY X (ti .USub) (Fg λ i=>.int (-i)):=M5 λ _ _ _ _ _ q=>neg_int q
end
section
variable{X:bb}{a b c:bg}{bw bN bo:TE}{pos:Pos}
theorem zn{pins:List (Addr × Obj)}{σ:St}{H:ay}{s:aC}{Q:cK}{k Fj:Bool}(I:Inv X pins σ H s)(q:Q (.aU k) H)(e:k=Fj):da X pins σ Q (.bool Fj) s:=by
 subst e;exact ⟨.aU k,H,I,rfl,q⟩
theorem M7:d8 X (eO .Lt) (nJ λ i j=>.aU (decide (i < j))):=zm λ _ _ _ _ _ _ _ q=>lt_int q
theorem M8:d8 X (eO .Gt) (nJ λ i j=>.aU (decide (j < i))):=zm λ _ _ _ _ _ _ _ q=>gt_int q
theorem M9:d8 X (eO .GtE) (nJ λ i j=>.aU (decide (j<=i))):=zm λ _ _ _ _ _ _ _ q=>ge_int q
theorem M_:d8 X (eO .In) (λ x y H Q=>∃ i j,x=.str i/\y=.str j/\Q (.aU (!(Builtin.Str.occurrences j i 0 j.length 1).isEmpty)) H):=by
 intro pins s σ H x y v u Q I bu cz h;obtain ⟨i,j,rfl,rfl,q⟩:=h;obtain ⟨t,rfl⟩:=bu;obtain ⟨t',rfl⟩:=cz;exact in_str (zn I q rfl)
theorem Na:d8 X (eO .Is) (λ x y H Q=>y=.bJ/\Q (.aU (decide (x=.bJ))) H):=by
 intro pins s σ H x y v u Q I bu cz h;obtain ⟨rfl,q⟩:=h;cases cz;refine is_none_gen (zn I q ?_)
 cases x<;>first
  | (cases bu;rfl)
  | (obtain ⟨t,rfl⟩:=bu;rfl)
theorem Nb:d8 X (eO .IsNot) (λ x y H Q=>y=.bJ/\Q (.aU (!decide (x=.bJ))) H):=by
 intro pins s σ H x y v u Q I bu cz h;obtain ⟨rfl,q⟩:=h;cases cz;refine isnot_none_gen (zn I q ?_)
 cases x<;>first
  | (cases bu;rfl)
  | (obtain ⟨t,rfl⟩:=bu;rfl)
theorem d8.or{f:Value->Value->Sem Value}{r dK:ei}(h:d8 X f r)(h':d8 X f dK):d8 X f (λ x y H Q=>r x y H Q\/dK x y H Q):=by
 intro pins s σ H x y v u Q I bu cz q;rcases q with q | q
 ·exact h pins s σ H x y v u Q I bu cz q
 ·exact h' pins s σ H x y v u Q I bu cz q
theorem bA(b:bg){op:oD}(h:op≠.In:=by decide)(aq:op≠.NotIn:=by decide):oz op b=false:=by
 have aP:(op==CmpOp.In)=false:=by cases op<;>first | rfl | exact absurd rfl h
 have aL:(op==CmpOp.NotIn)=false:=by cases op<;>first | rfl | exact absurd rfl aq
 cases b<;>simp [oz,aP,aL]
theorem Nc{op:oD}{r:ei}(a4:d8 X (eO op) r)(aD:bX X a bw)(ag:bX X b bN)(hm:oz op b=false):bX X (.Compare a [op] [b] pos) (o1 r bw bN):=by
 intro pins s σ H Q I h;exact wpAny_Compare1 (zl aD ag I h λ v u s2 x y aS cy bu cz q=>a4 pins s2 σ aS x y v u Q cy bu cz q) hm
def Fk(t:TE):TT:=λ σ H Q=>t σ H λ x aj=>∃ k,x=.aU k/\Q k aj
theorem Nd{op:oD}{r:ei}(a4:d8 X (eO op) r)(aD:bX X a bw)(ag:bX X b bN)(hm:oz op b=false):iR X (.Compare a [op] [b] pos) (Fk (o1 r bw bN)):=by
 intro pins s σ H Q I h
 refine wpAny_isTrue_Compare1 (b5 (aD pins s σ H _ I h) λ v s1 ⟨x,H1,a6,bj,aH⟩=>b5 (ag pins s1 σ H1 _ a6 aH) λ u s2 ⟨y,aS,cy,bK,bI⟩=>
  b5 (a4 pins s2 σ aS x y v u _ cy bj bK bI) λ c s3 ⟨z,dX,dd,Fl,k,e,eh⟩=>?_) hm
 subst e;cases Fl;exact pQ ⟨dX,dd,eh⟩
def w0(K:bl)(x:V)(H:ay)(k:Bool):Prop:=
 match x with
 | .bJ=>k=false
 | .aU b=>k=b
 | .int i=>k=(i !=0)
 | .str y=>y.length<=sizeLine/\k=((y.length:Int) !=0)
 | .tF y=>y.size<=sizeLine/\k=((y.size:Int) !=0)
 | .ref p=>(∃ xs,d7 K H p xs/\k=!xs.isEmpty)\/(∃ xs,dq K H p xs/\k=!xs.isEmpty)\/∃ kvs,H p=some (.c4 kvs)/\k=!kvs.isEmpty
 | _=>False
theorem Nf{κ:Type}{kvs:List (κ × V)}{ai:List (κ × Value)}(r:fb kvs ai):(!ai.isEmpty)=!kvs.isEmpty:=by
 cases r<;>rfl
theorem Fm{xs:List V}{aM:List Value}(r:Vals xs aM):(!aM.toArray.isEmpty)=!xs.isEmpty:=by
 cases r<;>simp
theorem o2:(sizeLine:Nat) < 2 ^ 63:=by rw [jd];decide
theorem Fn:MX X (λ x H Q=>∃ k,w0 X.K x H k/\Q k H):=by
 intro pins s σ H x v Q I bu h;obtain ⟨k,e,q⟩:=h;have aQ:=o2;have ax:sizeLine=16777216:=jd
 cases x with
 | bJ=>
  cases bu;have cD:k=false:=e;subst cD;exact truthy_none ⟨H,I,q⟩
 | aU b=>
  cases bu;have cD:k=b:=e;subst cD;exact pQ ⟨H,I,q⟩
 | int i=>
  obtain ⟨t,rfl⟩:=bu;have cD:k=(i !=0):=e;subst cD;exact PySem.P.truthy_int ⟨H,I,q⟩
 | str y=>
  obtain ⟨t,rfl⟩:=bu;obtain ⟨bD,cD⟩:y.length<=sizeLine/\k=((y.length:Int) !=0):=e;subst cD;exact PySem.P.truthy_str (by omega) ⟨H,I.tok _,q⟩
 | tF y=>
  obtain ⟨t,rfl⟩:=bu;obtain ⟨bD,cD⟩:y.size<=sizeLine/\k=((y.size:Int) !=0):=e;subst cD;exact PySem.W.truthy_bytes (by omega) ⟨H,I.tok _,q⟩
 | ref p=>
  cases bu;have cD:(∃ xs,d7 X.K H p xs/\k=!xs.isEmpty)\/(∃ xs,dq X.K H p xs/\k=!xs.isEmpty)\/∃ kvs,H p=some (.c4 kvs)/\k=!kvs.isEmpty:=e;rcases cD with ⟨xs,aF,cD⟩ | ⟨xs,aF,cD⟩ | ⟨kvs,aF,cD⟩
  ·subst cD;obtain ⟨aM,r,cW,hz⟩:=I.list aF;have hlen:=r.length;exact wpAny_truthy_list cW.isList (by simp only [c_];omega) ⟨H,I.tok _,by rw [Fm r];exact q⟩
  ·subst cD;obtain ⟨aM,r,cW,hz⟩:=I.tuple aF;have hlen:=r.length;exact truthy_tuple cW (by simp only [c_];omega) ⟨H,I.tok _,by rw [Fm r];exact q⟩
  ·subst cD;obtain ⟨hz,cX,ai,r,m⟩:kvs.length<=sizeLine/\(p==mc)=false/\∃ ai,fb kvs ai/\s.heap.DictOf (im X.prog X.w) p ai:=I.bM p _ aF;have hlen:kvs.length=ai.length:=Paired.length r;exact wpAny_truthy_dict cX m (by omega) ⟨H,I.tok _,by rw [Nf r];exact q⟩
 | _=>exact (show False from e).elim
theorem Ng(aD:bX X a bw)(he:∀ whole,nq a X.env whole=(do let v ← whole;oB a.pos;jf [v] (truthy v))) :
 iR X a (λ σ H Q=>bw σ H λ x aj=>∃ k,w0 X.K x aj k/\Q k aj):=by
 intro pins s σ H Q I h;exact isTrue_plain (b5 (aD pins s σ H _ I h) λ v s1 ⟨x,H1,a6,bj,aH⟩=>Fn pins s1 σ H1 x v Q a6 bj aH) (he _)
theorem Nh:d8 X (gH .Add) (λ x y H Q=>∃ i j,x=.str i/\y=.str j/\i.length+j.length<=sizeLine/\Q (.str (i++j)) H):=by
 intro pins s σ H x y v u Q I bu cz h;obtain ⟨i,j,rfl,rfl,hz,q⟩:=h;obtain ⟨t,rfl⟩:=bu;obtain ⟨t',rfl⟩:=cz;exact add_str (λ t' tk=>⟨.str (i++j),H,I.tok _,⟨_,rfl⟩,q⟩) hz
theorem rT{x:V}{us:List Value}(r:Vals [x] us):∃ u,us=[u]/\RelV x u:=by
 cases r with
 | cons bj bK=>cases bK;exact ⟨_,rfl,bj⟩
theorem Ni:jv X (.type "int") (λ xs H Q=>(∃ i,xs=[.int i]/\Q (.int i) H)\/∃ k,xs=[.aU k]/\Q (.int (if k then 1 else 0)) H):=by
 intro pins s σ H xs us Q I r h;rcases h with ⟨i,rfl,q⟩ | ⟨k,rfl,q⟩
 ·obtain ⟨u,rfl,t,rfl⟩:=rT r;exact call_int_int ⟨.int i,H,I,⟨_,rfl⟩,q⟩
 ·obtain ⟨u,rfl,bj⟩:=rT r;cases bj;exact call_int_bool ⟨.int (if k then 1 else 0),H,I.tok _,⟨_,rfl⟩,q⟩
end
structure zo(h:bL)(x eM C:Addr)(fH:Str->Option Value):Prop where
 obj:h.get? x=some (PySem.W.instObj C eM)
 ns:h.Ns1 eM fH
 ne:eM≠x
theorem Nj{h:bL}{eM:Addr}{fH:Str->Option Value}(n:h.Ns1 eM fH):∃ dA,h.get? eM=some dA/\∀ name,PySem.W.lookIn name dA=some (fH name):=by
 obtain ⟨o,ah,a5,a4,hd,aO,_,hm⟩:=n;refine ⟨o,a4,λ name=>?_⟩;have e:=hm name;unfold nsFind findBy at e;rw [<- Array.find?_toList] at e;unfold PySem.W.lookIn;rw [hd]
 dsimp only
 split
 ·rename_i y q
  rw [q] at e;exact congrArg some e
 ·rename_i q
  rw [q] at e
  have a:ah.toList.any (·.refKey)=false:=by
   rw [List.any_eq_false];intro y bD;obtain ⟨z,t,Nk⟩:=aO y (Array.mem_toList_iff.mp bD);simp [DictEntry.refKey,Nk]
  have Fo:¬ ah.toList.any (·.refKey)=true:=by rw [a];exact gI
  rw [if_neg Fo];exact congrArg some e
theorem zo.look{h:bL}{x eM C:Addr}{fH:Str->Option Value}(I:zo h x eM C fH):∃ dA,PySem.W.InstAt h x (PySem.W.instObj C eM) C (some dA)/\∀ name,PySem.W.lookIn name dA=some (fH name):=
 let ⟨dA,a4,aQ⟩:=Nj I.ns
 ⟨dA,⟨I.obj,rfl,rfl,a4⟩,aQ⟩
theorem lc.some_of{v:V}{o:Option Value}(r:lc (some v) o):∃ u,o=some u/\RelV v u:=by
 cases o with
 | none=>exact (show False from r).elim
 | some u=>exact ⟨u,rfl,r⟩
section
variable{P:ck}{w:bW}{H aj:ay}{h h':bL}{a C eM:Addr}{bO L0:List (Str × V)}
theorem Nl(bM:dU P w H h)(e:H a=some (.ins C eM bO)):∃ fH,zo h a eM C fH/\(∀ f,lc (bO.lookup f) (fH f))/\PySem.Within fH (bO.map (·.1))/\bO.length<=1000/\H eM=some (.own a):=by
 obtain ⟨d,z,ne,dh,fH,n,r,q⟩:=(show eP P w H h a (.ins C eM bO) from bM a _ e)
 exact ⟨fH,⟨dh,n,ne⟩,r,q,z,d⟩
end
structure zp(K:bl)(C:Addr):Prop where
 Nm:PySem.W.plainGet K C Str.empty=true
 hd:PySem.W.hasDictIn K C=true
 po:PySem.W.plainOver K C=true
 acM:PySem.W.findIn K (.ref C) "__setattr__" = some (some (.builtin "object.__setattr__"))
theorem zp.get{K:bl}{C:Addr}(c:zp K C)(f:Str):PySem.W.plainGet K C f=true:=c.Nm
section
variable{X:bb}{pins:List (Addr × Obj)}{σ:St}{H:ay}{s:aC}{A:c1}{E:Value->aC->Prop}{Q:Value->aC->Prop}{c:Value}{b:Bool}
inductive j5(K:bl)(H:ay):V->Value->Prop where
 | bJ:j5 K H .bJ (.type "NoneType")
 | aU (x:Bool):j5 K H (.aU x) (.type "bool")
 | int (i:Int):j5 K H (.int i) (.type "int")
 | str (x:Str):j5 K H (.str x) (.type "str")
 | rL (x:UInt64):j5 K H (.rL x) (.type "float")
 | lst {a:Addr} {xs:List V} (e:H a=some (.lst xs)):j5 K H (.ref a) (.type "list")
 | fG {a:Addr} {o:Obj} {xs:List V} (e:H a=some (.fG o (.lst xs))):j5 K H (.ref a) (.type "list")
 | tup {a:Addr} {xs:List V} (e:H a=some (.tup xs)):j5 K H (.ref a) (.type "tuple")
 | c4 {a:Addr} {kvs:List (Key × V)} (e:H a=some (.c4 kvs)):j5 K H (.ref a) (.type "dict")
 | fU {a:Addr} {kvs:List (List Key × V)} (e:H a=some (.fU kvs)):j5 K H (.ref a) (.type "dict")
 | ins {a C eM:Addr} {bO:List (Str × V)} (e:H a=some (.ins C eM bO)) (cl:zp K C) (aD:PySem.W.findIn K (.ref C) "__class__" = some (some (.builtin "object.__class__")))
  (bt:PySem.W.specialIn K (.builtin "object.__class__") "__get__" = some (some (.builtin "getset_descriptor.__get__"))) (p9:PySem.W.takesIn K (.builtin "object.__class__")=some true)
  (hm:PySem.W.mroIn K C (.type "object")=some true):j5 K H (.ref a) (.ref C)
theorem Nn{x:V}{u t:Value}(I:Inv X pins σ H s)(bu:RelV x u)(ty:j5 X.K H x t)(e:PySem.W.kitOne X.K t c=some b)(h:∀ tk,Q (.bool b) { s with toks:=tk }) :
 aG (aI X.prog X.w) A (call (.builtin "isinstance") [u,c]) Q E s:=by
 cases ty with
 | bJ=>cases (show u=Value.none from bu);exact jW PySem.W.kitx_none I.gv True.intro e (λ z=>nomatch z) h
 | aU y=>cases (show u=Value.bool y from bu);exact jW PySem.W.kitx_bool I.gv True.intro e (λ z=>nomatch z) h
 | int i=>obtain ⟨t,q⟩:=(show ∃ t,u=Value.int i t from bu);cases q;exact jW PySem.W.kitx_int I.gv True.intro e (λ z=>nomatch z) h
 | str y=>obtain ⟨t,q⟩:=(show ∃ t,u=Value.str y t from bu);cases q;exact jW PySem.W.kitx_str I.gv True.intro e (λ z=>nomatch z) h
 | rL y=>obtain ⟨t,q⟩:=(show ∃ t,u=Value.float y t from bu);cases q;exact jW PySem.W.kitx_float I.gv True.intro e (λ z=>nomatch z) h
 | @lst a xs de=>
  cases (show u=Value.ref a from bu)
  obtain ⟨_,_,n,_,ak⟩:=(show eP X.prog X.w H s.heap a (.lst xs) from I.bM a _ de)
  exact jW PySem.W.kitx_list I.gv ⟨_,ak,rfl⟩ e (λ z=>nomatch z) h
 | @fG a dh xs de=>
  cases (show u=Value.ref a from bu)
  obtain ⟨_,_,_,n,_,ak⟩:=(show eP X.prog X.w H s.heap a (.fG dh (.lst xs)) from I.bM a _ de)
  exact jW PySem.W.kitx_list I.gv ⟨_,ak,rfl⟩ e (λ z=>nomatch z) h
 | @tup a xs de=>
  cases (show u=Value.ref a from bu)
  obtain ⟨_,_,_,p⟩:=(show eP X.prog X.w H s.heap a (.tup xs) from I.bM a _ de)
  obtain ⟨o,ak,aq,_⟩:=p;exact jW PySem.W.kitx_tuple I.gv ⟨o,ak,aq⟩ e (λ z=>nomatch z) h
 | @c4 a kvs de=>
  cases (show u=Value.ref a from bu)
  obtain ⟨_,_,ai,_,p⟩:=(show eP X.prog X.w H s.heap a (.c4 kvs) from I.bM a _ de)
  obtain ⟨o,ah,a5,ak,aq,_⟩:=p;exact jW PySem.W.kitx_dict I.gv ⟨o,ak,aq.1⟩ e (λ z=>nomatch z) h
 | @fU a kvs de=>
  cases (show u=Value.ref a from bu)
  obtain ⟨_,_,xs,_,o,ah,a5,ak,aq,_⟩:=(show eP X.prog X.w H s.heap a (.fU kvs) from I.bM a _ de)
  exact jW PySem.W.kitx_dict I.gv ⟨o,ak,aq.1⟩ e (λ z=>nomatch z) h
 | @ins a C eM bO de cl aD bt p9 hm=>
  cases (show u=Value.ref a from bu);obtain ⟨fH,O,_⟩:=Nl I.bM de;obtain ⟨dA,J,_⟩:=O.look;exact jW (PySem.W.kitx_own (cl.get _) cl.hd aD bt p9 hm) I.gv J e (λ z=>nomatch z) h
end
structure eF(k:Nat)(A:c1):Prop where
 hd:A.handled=none
 aJ:A.depth+3 * k+5 < recursionLimit
 un:A.units+16 * k+200 < eK
theorem eF.mono{j k:Nat}{A:c1}(r:eF k A)(h:j<=k):eF j A:=⟨r.hd,by have:=r.aJ;omega,by have:=r.un;omega⟩
theorem eF.deeper{k:Nat}{A:c1}(r:eF (k+1) A)(env:Env):eF k (A.deeper env):=
 ⟨r.hd,by have:=r.aJ;show A.depth+1+3 * k+5 < _;omega,by have:=r.un;show A.units+3+16 * k+200 < _;omega⟩
theorem eF.depth{k:Nat}{A:c1}(r:eF k A):A.depth < recursionLimit:=by have:=r.aJ;omega
def Fp:eD:=λ _ H Q=>Q [] H
def Fq(bw:TE)(eE:eD):eD:=λ σ H Q=>bw σ H λ x H1=>eE σ H1 λ xs aS=>Q (x::xs) aS
section
variable{X:bb}{e:bg}{ah:List bg}{aW:TE}{t:eD}{pos:Pos}
theorem No:hc X [] Fp:=λ _ _ _ _ H Q I h=>Calls.spliced_nil ⟨[],H,I,.nil,h⟩
theorem Np(aD:bX X e aW)(am:hc X ah t)(ax:dv (e::ah) X.env=(false,eval e X.env)::dv ah X.env:=by rfl):hc X (e::ah) (Fq aW t):=by
 intro pos pins s σ H Q I h;rw [ax];show aG _ _ (md ((false,eval e X.env)::fS pos (dv ah X.env))) _ _ s;refine Calls.spliced_cons (b5 (aD pins s σ H _ I h) λ u s1 ⟨x,H1,a6,bj,aH⟩=>?_)
 exact b5 (am pos pins s1 σ H1 _ a6 aH) λ us s2 ⟨xs,aS,cy,bK,bI⟩=>⟨x::xs,aS,cy,.cons bj bK,bI⟩
def Fr(t:eD):TE:=λ σ H Q=>t σ H λ xs H1=>xs.length<=sizeLine/\∀ p,H1 p=none->Q (.ref p) (upd H1 p (.tup xs))
def Fs(t:eD):TE:=λ σ H Q=>t σ H λ xs H1=>xs.length<=sizeLine/\∀ p,H1 p=none->Q (.ref p) (upd H1 p (.lst xs))
theorem Nq {a7} (h:hc X ah t):bX X (.Tuple ah a7 pos) (Fr t):=by
 intro pins s σ H Q I bv;refine wpAny_Tuple_spliced (b5 (h pos pins s σ H _ I bv) λ us s1 ⟨xs,H1,a6,r,z,q⟩=>⟨by rw [<- r.length];exact z,?_⟩);have hf:H1 s1.heap.objs.size=none:=a6.bM.fresh (b7 _);refine ⟨.ref s1.heap.objs.size,upd H1 s1.heap.objs.size (.tup xs),a6.laid (t':=s1.toks) (λ b u e=>cm _ e) (b7 _) ?_,rfl,q _ hf⟩;exact ⟨z,us,r,⟨_,d2 _ rfl,rfl,_,rfl⟩⟩
theorem Nr(h:hc X ah t):bX X (.List ah pos) (Fs t):=by
 intro pins s σ H Q I bv;refine wpAny_List_spliced (b5 (h pos pins s σ H _ I bv) λ us s1 ⟨xs,H1,a6,r,z,q⟩=>⟨by rw [<- r.length];exact z,?_⟩);have hf:H1 s1.heap.objs.size=none:=a6.bM.fresh (b7 _);refine ⟨.ref s1.heap.objs.size,upd H1 s1.heap.objs.size (.lst xs),a6.laid (t':=s1.toks) (λ b u e=>cm _ e) (b7 _) ?_,rfl,q _ hf⟩;exact ⟨z,us,0,r,d2 _ rfl⟩
end
abbrev fK:=List V->ay->cK->hW->Prop
abbrev o3:=List Env->ay->aC->hW->Value->aC->Prop
structure p_(P:ck)(w:bW)(K:bl)(mg:Str->Option Value)(base:bL)(A:c1)(outer:List Env)(s:aC)(H:ay):Prop where
 frames:A.frames=some outer
 mod:Mod K mg base
 bs:∀ b o,base.get? b=some o->s.heap.get? b=some o/\H b=none
 lg:base.objs.size<=s.heap.objs.size
 jq:s.heap.FunFrames base outer
 nE:∀ b∈jp outer,H b=none
 bM:dU P w H s.heap
 bare:oI s.gens
def tZ(outer:List Env)(P:ck)(w:bW)(H:ay)(s:aC)(Q:cK)(u:Value)(s':aC):Prop:=
 ∃ v aj,s'.os=s.os/\oI s'.gens/\e2 (jp outer) [] H aj s.heap s'.heap/\dU P w aj s'.heap/\RelV v u/\Q v aj
def Ft(gL:o3)(outer:List Env)(P:ck)(w:bW)(H:ay)(s:aC)(Q:cK)(E:hW)(r:p0)(s':aC):Prop:=
 match r with
 | .ok (.ret u)=>tZ outer P w H s Q u s'
 | .ok _=>False
 | .error e=>gL outer H s E e s'
structure cp(P:ck)(w:bW)(K:bl)(mg:Str->Option Value)(base:bL)(gL:o3)(k:Nat)(f:Addr)(fd:f9)(ps:List Str)(sp:fK):Prop where
 len:∀ ai H Q E,sp ai H Q E->ai.length=ps.length
 run:∀(A:c1)(outer:List Env)(s:aC)(H:ay)(args:Args)(us:List Value)(ai:List V)(Q:cK)(E:hW),eF k A->p_ P w K mg base A outer s H->rv s fd args (ps.zip us)->Vals ai us->sp ai H Q E →
  hT (aI P w) A (.call (.ref f) args) (Ft gL outer P w H s Q E) s
section
variable{X:bb}{pins:List (Addr × Obj)}{σ:St}{H:ay}{s s':aC}
theorem Inv.t2(I:Inv X pins σ H s):p_ X.prog X.w X.K X.mg X.base X.A X.stack s H:=
 ⟨I.ok.frames,I.ok.mod,I.bs,kz I.ok.lg I.aB,I.stack,I.EK,I.bM,I.bare⟩
theorem Inv.after{Q:cK}{u:Value}(I:Inv X pins σ H s)(h:tZ X.stack X.prog X.w H s Q u s'):da X pins σ Q u s':=by
 obtain ⟨v,aj,os,bare,un,bM,r,q⟩:=h;obtain ⟨dt,g,d,t,zq⟩:=s';obtain rfl:zq=s.os:=os;exact ⟨v,aj,I.call (h':=dt) (g':=g) (d':=d) (t':=t) (ch:=[]) un bM bare (λ b z=>absurd z (by simp)),r,q⟩
end
def w1(sp:fK)(o4:List V)(E:hW)(t:eD):TE:=λ σ H Q=>t σ H λ ai H1=>sp (ai++o4) H1 Q E
def Binds(K:bl)(fd:f9)(ps:List Str)(ds:List Value):Prop:=
 ∀(s:aC)(us:List Value),K.In s.heap->(us++ds).length=ps.length->rv s fd ⟨us,[]⟩ (ps.zip (us++ds))
theorem Binds.all{K:bl}{fd:f9}{ps:List Str}(h:∀ us:List Value,us.length=ps.length->bindArgs fd ⟨us,[]⟩=pure (ps.zip us)):Binds K fd ps []:=λ s us _ aQ=>by
 rw [k4] at aQ ⊢;exact .of_eq (h us aQ)
def zr(gL:o3)(X:bb)(E:hW):Prop:=∀(pins:List (Addr × Obj))(σ:St)(H:ay)(s:aC)(e:Value)(s':aC),Inv X pins σ H s->gL X.stack H s E e s'->X.xe e s'
section
variable{X:bb}{gL:o3}{k:Nat}{f C:Addr}{fd:f9}{ps:List Str}{sp:fK}{o4:List V}{ds:List Value}{E:hW}{x m:Str}{p pos apos:Pos}{e o:bg}{ah:List bg}{bw:TE}{t:eD}
theorem Fu{pins:List (Addr × Obj)}{σ:St}{H:ay}{s:aC}{Q:cK}{us:List Value}{ai:List V}(F:cp X.prog X.w X.K X.mg X.base gL k f fd ps sp)(am:eF k X.A)(ag:Binds X.K fd ps ds)(hd:Vals o4 ds)(aF:zr gL X E)
 (I:Inv X pins σ H s) (r:Vals ai us) (h:sp (ai++o4) H Q E):aG (aI X.prog X.w) X.A (call (.ref f) us) (da X pins σ Q) X.xe s:=by
 have bK:Vals (ai++o4) (us++ds):=r.append hd
 have aQ:(us++ds).length=ps.length:=by rw [<- bK.length];exact F.len _ _ _ _ h
 refine td (nj (F.run X.A X.stack s H ⟨us,[]⟩ (us++ds) (ai++o4) Q E am I.t2 (ag s us I.gv aQ) bK h) λ r s' bv=>?_)
 cases r with
 | error e=>exact aF pins σ H s e s' I bv
 | ok hk=>
  cases hk with
  | ret u=>exact I.after bv
  | next=>exact False.elim bv
  | brk=>exact False.elim bv
  | cont=>exact False.elim bv
theorem Nt(F:cp X.prog X.w X.K X.mg X.base gL k f fd ps sp)(am:eF k X.A)(aZ:di X x)(hm:X.mg x=some (.ref f))(aO:mq X.K (.ref f)=true)(ag:Binds X.K fd ps ds)(hd:Vals o4 ds)(aF:zr gL X E)
 (aD:hc X (e::ah) t) (gh:(x==("__debug__" : Str))=false:=by decide) (he:dv (e::ah) X.env=(false,eval e X.env)::dv ah X.env:=by rfl) (fX:(fS pos (dv ah X.env)).any (·.1)=false:=by rfl) :
 bX X (.Call (.Name x p) (e::ah) [] pos) (w1 sp o4 E t):=by
 intro pins s σ H Q I h;refine iM (zi I aZ hm ?_ gh);refine PySem.W.callWith_K (h₀:=X.base) I.ok.mod.tH aO (b5 (aD pos pins s σ H _ I h) λ us s1 ⟨ai,H1,a6,r,q⟩=>⟨a6.gv,?_⟩) he fX;exact Fu F am ag hd aF a6 r q
end
structure c9(N P:List Str)(sc:eC):Prop where
 kind:sc.kind=.function
 co:sc.isCoroutine=false
 gen:sc.isGenerator=false
 aY:N.Nodup
 pre:N.take P.length=P
 par:∀ x∈P,sc.names.lookup x=some .local\/sc.names.lookup x=some .cell
 Nu:∀ y∈sc.names,y.2≠.free
theorem Fv{kindOf:Str->Option kx}{x:Str}:∀{binds:List (Str × Value)}{m:Str->Option Value},(∀ v,(x,v) ∉ binds)->oE kindOf binds m x=m x
 | [],_,_=>rfl
 | (n,v)::r,m,h=>by
  unfold oE;rw [Fv λ w hw=>h w (ig _ hw)];split
  ·have:x≠n:=by rintro rfl;exact h v fh
   simp [this]
  ·rfl
theorem Fw{kindOf:Str->Option kx}{x:Str}:∀{binds:List (Str × Value)}{m:Str->Option Value},(∀ v,(x,v) ∉ binds)->oF kindOf binds m x=m x
 | [],_,_=>rfl
 | (n,v)::r,m,h=>by
  unfold oF;rw [Fw λ w hw=>h w (ig _ hw)];split
  ·rfl
  ·have:x≠n:=by rintro rfl;exact h v fh
   simp [this]
theorem Fx{kindOf:Str->Option kx}{x:Str}{v:Value}:∀{P:List Str}{ai:List Value}{i:Nat}{m:Str->Option Value},P.Nodup->P[i]?=some x->ai[i]?=some v->kindOf x=some .local →
 oE kindOf (P.zip ai) m x=some v
 | [],_,_,_,_,h,_,_=>by simp at h
 | _::_,[],_,_,_,_,h,_=>by simp at h
 | p::P,w::ai,0,m,aY,ak,aq,aO=>by
  simp at ak aq;subst ak;subst aq;show oE kindOf ((p,w)::P.zip ai) m p=_;unfold oE;rw [Fv λ v bC=>(oM.mp aY).1 (wB bC).1,if_pos aO];simp
 | p::P,w::ai,i+1,m,aY,ak,aq,aO=>by
  show oE kindOf ((p,w)::P.zip ai) m x=_;unfold oE;exact Fx (i:=i) (oM.mp aY).2 (by simpa using ak) (by simpa using aq) aO
theorem Fy{kindOf:Str->Option kx}{x:Str}{v:Value}:∀{P:List Str}{ai:List Value}{i:Nat}{m:Str->Option Value},P.Nodup->P[i]?=some x->ai[i]?=some v->kindOf x≠some .local →
 oF kindOf (P.zip ai) m x=some v
 | [],_,_,_,_,h,_,_=>by simp at h
 | _::_,[],_,_,_,_,h,_=>by simp at h
 | p::P,w::ai,0,m,aY,ak,aq,aO=>by
  simp at ak aq;subst ak;subst aq;show oF kindOf ((p,w)::P.zip ai) m p=_;unfold oF;rw [Fw λ v bC=>(oM.mp aY).1 (wB bC).1,if_neg aO];simp
 | p::P,w::ai,i+1,m,aY,ak,aq,aO=>by
  show oF kindOf ((p,w)::P.zip ai) m x=_;unfold oF;exact Fy (i:=i) (oM.mp aY).2 (by simpa using ak) (by simpa using aq) aO
def jw(N:List Str)(ai:List V):St:=ai.map some++mj (N.length - ai.length) none
def nK(gL:o3)(P:ck)(w:bW)(K:bl)(mg:Str->Option Value)(base:bL)(N:List Str)(qual:Str)(scope:eC)(f:Addr)(cd:Value)(A:c1)(outer:List Env)(s:aC)(H:ay)(E:hW):bb where
 prog:=P
 w:=w
 K:=K
 mg:=mg
 base:=base
 A:=A.deeper (mi qual scope s.heap.objs.size f cd)
 N:=N
 s₀:=s
 H₀:=H
 env:=mi qual scope s.heap.objs.size f cd
 outer:=outer
 stack:=mi qual scope s.heap.objs.size f cd::outer
 ex:=[]
 calm:=true
 fn:=λ _=>true
 pn:=[]
 xe:=λ e s'=>aG (aI P w) (A.deeper (mi qual scope s.heap.objs.size f cd)) (leaving (mi qual scope s.heap.objs.size f cd) e) (λ _ ln=>gL outer H s E e ln) (λ cD ln=>gL outer H s E cD ln) s'
theorem Fz{sc:eC}{n:Nat}{x:Str}(h:sc.names.lookup x=some .cell):∃ c,(cellsFrom n sc.names []).lookup x=some c:=by
 have q:=PySem.W.cellsFrom_some sc.names n [] (.inl h);exact wK.mp q
theorem Nv{gL:o3}{P:ck}{w:bW}{K:bl}{mg:Str->Option Value}{base:bL}{N ps:List Str}{qual:Str}{scope:eC}{f:Addr}{cd:Value}{A:c1}{outer:List Env}{s s1:aC}{H:ay}{E:hW}{us:List Value}{ai:List V}
 (S:c9 N ps scope) (hd:A.handled=none) (cf:p_ P w K mg base A outer s H) (aQ:ai.length=ps.length) (r:Vals ai us)
 (x:InCallC s s.heap.objs.size (oE (mi qual scope s.heap.objs.size f cd).kindOf (ps.zip us) λ _=>none) (cellsFrom (s.heap.objs.size+1) scope.names []) (oF (mi qual scope s.heap.objs.size f cd).kindOf (ps.zip us) λ _=>none) s1) :
 Inv (nK gL P w K mg base N qual scope f cd A outer s H E) [] (jw N ai) H s1:=by
 have fX:ps.length<=N.length:=by have:=congrArg rz S.pre;rw [nv] at this;omega
 obtain ⟨ak,tk,rfl,aO⟩:=x.done;have qa:∀ b:Addr,b ∉ (nK gL P w K mg base N qual scope f cd A outer s H E).ex:=λ b z=>absurd (show b∈([]:List Addr) from z) (by simp)
 refine ⟨⟨cf.mod,S.kind,rfl,rfl,b7 _,λ y z c ak aq=>?_,λ y bD=>?_,λ y c _ h=>?_,λ _=>hd,Around.frames_deeper cf.frames,.inr ⟨rfl,rfl⟩,λ b z=>absurd z (qa b),cf.bs,cf.lg,λ b _ _=>qa b,λ b z=>absurd z (qa b),cf.jq,cf.nE⟩,
  rfl,cf.bare,e2.kept aO,⟨_,x.toInCall.ns,λ i y v ak aq aT=>?_⟩,λ y c h=>⟨_,x.cell y c h⟩,cf.bM.fresh (b7 _),λ y c h=>?_,λ p az=>absurd (show p∈([]:List (Addr × Obj)) from az) (by simp),cf.bM.kept aO,?_⟩
 ·exact name_of_addr x.apart (mu ak) (mu aq)
 ·have bD:scope.names.lookup y=some .cell\/scope.names.lookup y=some .free:=bD;rcases bD with bD | bD
  ·exact Fz bD
  ·exact absurd rfl (S.Nu _ (mu bD))
 ·exact tv (x.above y c (mu h))
 ·have ar:i < ai.length:=by
   unfold jw at aq;by_cases ar:i < ai.length
   ·exact ar
   ·rw [nw (by simpa using ar)] at aq;rw [rA] at aq;split at aq<;>cases aq
  have aD:ai[i]?=some v:=by
   unfold jw at aq;rw [k5 (by simpa using ar),eu] at aq
   cases e:ai[i]? with
   | none=>rw [e] at aq;cases aq
   | some a=>rw [e] at aq;cases aq;rfl
  obtain ⟨u,a0,be⟩:=r.get aD
  have az:ps[i]?=some y:=by
   rw [<- S.pre,List.getElem?_take_of_lt (by omega)];exact ak
  have w2:ps.Nodup:=by rw [<- S.pre];exact S.aY.sublist (List.take_sublist _ _)
  refine ⟨u,be,?_⟩;rcases S.par y (ih az) with k | k
  ·exact .inl ⟨k,Fx w2 az a0 k⟩
  ·obtain ⟨c,e⟩:=Fz (n:=s.heap.objs.size+1) k;refine .inr ⟨.inl k,c,e,?_⟩;have q:=x.cell y c e;rw [Fy w2 az a0 (by show scope.names.lookup y≠_;rw [k];decide)] at q;exact q
 ·exact cf.bM.fresh (tv (x.above y c (mu h)))
 ·unfold jw;show _=N.length;rw [fs,bS,tm];omega
theorem FA{gL:o3}{P:ck}{w:bW}{K:bl}{mg:Str->Option Value}{base:bL}{k:Nat}{f:Addr}{name qual:Str}{params:ww}{body:List bB}{scope:eC}{w3 dO doc pm bE ct b6:Value}{an dA:Option Addr}
 {gM:Array (Option Value)} {N ps:List Str} {sp:fK} (lk:K.lookup f=some ⟨b6,dA,.func (k_ name qual params body scope w3 dO doc pm an bE ct),gM⟩) (e3:p4 K bE qual=true) (S:c9 N ps scope)
 (len:∀ ai H Q E,sp ai H Q E->ai.length=ps.length)
 (j6:∀(A:c1)(outer:List Env)(s:aC)(H:ay)(ai:List V)(Q:cK)(E:hW),eF k (A.deeper (mi qual scope s.heap.objs.size f bE))->sp ai H Q E →
  ∃ t,iT (nK gL P w K mg base N qual scope f bE A outer s H E) body t/\t { nx:=λ _ aj=>Q .bJ aj,rt:=Q } (jw N ai) H) :
 cp P w K mg base gL (k+1) f (k_ name qual params body scope w3 dO doc pm an bE ct) ps sp:=by
 refine ⟨len,λ A outer s H args us ai Q E am cf ag r io=>?_⟩;have aQ:=len _ _ _ _ io;have KX:K.In s.heap:=cf.mod.tH.keeps λ b o e=>(cf.bs b o e).1;have lim:s.heap.NoLimit:=cf.mod.nolimit.keeps λ b o e=>(cf.bs b o e).1
 have w4:∀ y∈ps.zip us,scope.names.lookup y.1=some .local\/(scope.names.lookup y.1=some .cell/\((cellsFrom (s.heap.objs.size+1) scope.names []).lookup y.1).isSome=true):=λ⟨n,v⟩ bD=>by
  rcases S.par n (wB bD).1 with q | q
  ·exact .inl q
  ·exact .inr ⟨q,PySem.W.cellsFrom_some _ _ _ (.inl q)⟩
 refine codeAny_call_function am.depth (KX _ _ lk) rfl S.co S.gen rfl (PySem.W.codeRec_of KX e3) (ag _ _ _ _ ?_);refine wpAny_newFunctionEnv_cells S.kind w4 λ env he s1 x=>?_;subst he;refine ⟨lim.keeps x.toInCall.keep,codeAny_func ?_⟩;obtain ⟨t,bT,bv⟩:=j6 A outer s H ai Q E (am.deeper _) io;have I:Inv (nK gL P w K mg base N qual scope f bE A outer s H E) [] (jw N ai) H s1:=Nv S am.hd cf aQ r x;refine eg (bT [] s1 (jw N ai) H _ I bv) (λ hk s' ax=>?_) λ e s' ax=>ax
 have fin:∀{σ':St}{aj:ay}{v:V}{u:Value},Inv (nK gL P w K mg base N qual scope f bE A outer s H E) [] σ' aj s'->RelV v u->Q v aj->tZ outer P w H s Q u s':=
  λ{σ' aj v u} J be q=>⟨v,aj,J.os,J.bare,J.base,J.bM,be,q⟩
 cases hk with
 | ret u=>
  obtain ⟨v,σ',aj,J,be,q⟩:=ax;exact fin J be q
 | next=>
  obtain ⟨σ',aj,J,q⟩:=ax;exact fin (v:=V.bJ) (u:=Value.none) J rfl q
 | brk=>
  obtain ⟨_,_,_,q⟩:=ax;exact False.elim q
 | cont=>
  obtain ⟨_,_,_,q⟩:=ax;exact False.elim q
section
variable{X:bb}{x:Str}{p pos:Pos}{e:bg}{ah:List bg}{t:eD}{id T:String}{r:List V->ay->cK->Prop}
def w5(r:List V->ay->cK->Prop)(t:eD):TE:=λ σ H Q=>t σ H λ ai H1=>r ai H1 Q
theorem Nw(aE:jv X (.builtin id) r)(aZ:di X x)(hm:X.mg x=none)(bC:kv x=some (.builtin id))(aD:hc X (e::ah) t)(bt:x≠"__name__":=by decide)(gh:(x==("__debug__" : Str))=false:=by decide)
 (he:dv (e::ah) X.env=(false,eval e X.env)::dv ah X.env:=by rfl) (fX:(fS pos (dv ah X.env)).any (·.1)=false:=by rfl):bX X (.Call (.Name x p) (e::ah) [] pos) (w5 r t):=by
 intro pins s σ H Q I h;refine iM (iU I aZ hm bC ?_ bt gh);exact PyProof.Rows.callWith_builtin1 (b5 (aD pos pins s σ H _ I h) λ us s1 ⟨ai,H1,a6,bj,aH⟩=>aE pins s1 σ H1 ai us Q a6 bj aH) he fX
theorem Nx(aE:jv X (.type T) r)(aZ:di X x)(hm:X.mg x=none)(bC:kv x=some (.type T))(aD:hc X (e::ah) t)(bt:x≠"__name__":=by decide)(gh:(x==("__debug__" : Str))=false:=by decide)
 (he:dv (e::ah) X.env=(false,eval e X.env)::dv ah X.env:=by rfl) (fX:(fS pos (dv ah X.env)).any (·.1)=false:=by rfl):bX X (.Call (.Name x p) (e::ah) [] pos) (w5 r t):=by
 intro pins s σ H Q I h;refine iM (iU I aZ hm bC ?_ bt gh);exact mr (b5 (aD pos pins s σ H _ I h) λ us s1 ⟨ai,H1,a6,bj,aH⟩=>aE pins s1 σ H1 ai us Q a6 bj aH) he fX
end
end L2
namespace dD
open PySem PyProof.Rows
section
variable{prog:ck}{w:bW}{A:c1}{E:Value->aC->Prop}{s:aC}
theorem Ny{t b:Addr}{ai ws:List Value}{Q:Value->aC->Prop}(bT:jh s.heap t ai.toArray)(ag:jh s.heap b ws.toArray)(bC:ai≠[])
 (ak:ws=[]->Q (.ref t) s) (aq:ws≠[]->Q (.ref s.heap.objs.size) { s with heap:=s.heap.push { cls:=.type "tuple", data:=.seq (ai++ws).toArray } })
 (hsz:ai.length+ws.length<=sizeLine):aG (aI prog w) A (gH .Add (.ref t) (.ref b)) Q E s:=by
 obtain ⟨⟨cls,ej,data,cn⟩,a4,aE,n,hd⟩:=id bT;obtain ⟨⟨Nz,o5,data2,o6⟩,qb,o7,ff,hd2⟩:=id ag;simp only at aE hd o7 hd2;subst aE hd o7 hd2
 have e:ai.toArray++ws.toArray=(ai++ws).toArray:=by simp
 by_cases hw:ws=[]
 ·exact y_ ⟨_,a4,rfl⟩ ⟨_,qb,rfl⟩ y3 y8 PySem.F.slot_tuple_add PySem.F.entry_tuple_add (PySem.F.args_tuple_add_2 _ _)
   (tuple_addW1 t b ai.toArray ws.toArray n ff ej o5 cn o6 (by simpa using bC) (by simp [hw])) ⟨a4,qb,ak hw⟩
 ·refine y_ ⟨_,a4,rfl⟩ ⟨_,qb,rfl⟩ y3 y8 PySem.F.slot_tuple_add PySem.F.entry_tuple_add (PySem.F.args_tuple_add_2 _ _)
   (tuple_addW2 t b ai.toArray ws.toArray n ff ej o5 cn o6 (by simpa using bC) (by simpa using hw) (by rw [c_,c_];exact hsz)) ⟨a4,qb,?_⟩
  rw [e];exact aq hw
def cG(n d:Nat):Option Int->Nat
 | none=>d
 | some v=>if v < 0 then (v+(n:Int)).toNat else min v.toNat n
theorem NA(n d:Nat)(hd:d<=n)(o:Option Int):cG n d o<=n:=by
 cases o with
 | none=>exact hd
 | some v=>
  show (if v < 0 then (v+(n:Int)).toNat else min v.toNat n)<=n;by_cases bC:v < 0
  ·rw [if_pos bC];omega
  ·rw [if_neg bC];exact Nat.min_le_right _ _
theorem FB(v:Int)(n d:Nat):(if v < 0 then max (v+(n:Int)) 0 else min v (n:Int))=((cG n d (some v):Nat):Int):=by
 show (if v < 0 then max (v+(n:Int)) 0 else min v (n:Int))=(((if v < 0 then (v+(n:Int)).toNat else min v.toNat n):Nat):Int)
 by_cases bC:v < 0
 ·simp only [if_pos bC];omega
 ·simp only [if_neg bC];omega
theorem NB(lo ar:Option Int)(n:Nat):Builtin.Slice.sliceAdjust lo ar 1 (n:Int)=(((cG n 0 lo:Nat):Int),((cG n n ar:Nat):Int)):=by
 have ak:¬ ((1:Int) < 0):=by omega
 unfold Builtin.Slice.sliceAdjust;simp only [ak,if_false];refine Prod.ext ?_ ?_
 ·cases lo with
  | none=>rfl
  | some v=>exact FB v n 0
 ·cases ar with
  | none=>rfl
  | some v=>exact FB v n n
theorem NC(i j:Nat):Builtin.Slice.slicePlaces (i:Int) (j:Int) 1=j - i:=by
 unfold Builtin.Slice.slicePlaces
 have ak:(1:Int) > 0:=by omega
 simp only [ak,if_true,Int.ediv_one];split<;>omega
theorem FC{v:Value}{o:Option Int}{Q:Option Int->aC->Prop}(p:mh v o)(h:Q o s):aG (aI prog w) A (Builtin.Slice.slicePartIndex v) Q E s:=by
 cases p with
 | none=>exact slicePart_none h
 | int i t=>exact slicePart_int h
theorem FD{cn:Addr}{fv fw:Value}{lo ar:Option Int}{n:Nat}{Q:Int × Int × Nat->aC->Prop}(ax:s.heap.IsSliceOf cn fv fw .none)(cW:mh fv lo)(pu:mh fw ar)
 (h:Q (((cG n 0 lo:Nat):Int),1,cG n n ar - cG n 0 lo) s):aG (aI prog w) A (Builtin.Slice.sliceApplied (.ref cn) (pure (n:Int))) Q E s:=by
 obtain ⟨os,nL,o8,t4⟩:=id ax;unfold Builtin.Slice.sliceApplied Builtin.Slice.sliceFields;refine ao (ao (gq nL t4 (x:=fv) rfl (ao (gq nL t4 (x:=fw) rfl (ao (gq nL t4 (x:=.none) rfl (a3 ?_)))))));refine ao (slicePart_none ?_);show aG _ _ (if ((1:Int)==0)=true then _ else _) _ _ s;rw [if_neg (by decide)];refine ao (FC cW (ao (FC pu (ao (a3 ?_)))));show aG _ _ (match Builtin.Slice.sliceAdjust lo ar 1 (n:Int) with | (lo,ar)=>pure (lo,(1:Int),Builtin.Slice.slicePlaces lo ar 1)) _ _ s;rw [NB lo ar n];show aG _ _ (pure (((cG n 0 lo:Nat):Int),(1:Int),Builtin.Slice.slicePlaces ((cG n 0 lo:Nat):Int) ((cG n n ar:Nat):Int) 1)) _ _ s;rw [NC];exact a3 h
theorem ND(xs:Array Value)(i k:Nat):((eL k).filterMap λ(m:Nat)=>xs[((i:Int)+(m:Int) * 1).toNat]?).toArray=((xs.toList.drop i).take k).toArray:=by
 have e:(λ(m:Nat)=>xs[((i:Int)+(m:Int) * 1).toNat]?)=λ m=>xs[i+m]?:=by
  funext m
  have:((i:Int)+(m:Int) * 1).toNat=i+m:=by omega
  rw [this]
 rw [e];have:=pick_run xs i k;rw [List.filterMap_map] at this;have aL:((λ x=>xs[x]?) ∘ λ x=>i+x)=λ m=>xs[i+m]?:=rfl;rw [aL] at this;rw [this]
theorem NE{t cn:Addr}{items:Array Value}{fv fw:Value}{lo ar:Option Int}{Q:Value->aC->Prop}(bT:jh s.heap t items)(ax:s.heap.IsSliceOf cn fv fw .none)(cW:mh fv lo)(pu:mh fw ar)
 (hw:¬ (cG items.size 0 lo=0/\cG items.size items.size ar=items.size))
 (h:Q (.ref s.heap.objs.size) { s with heap:=s.heap.push { cls:=.type "tuple", data:=.seq ((items.toList.drop (cG items.size 0 lo)).take (cG items.size items.size ar - cG items.size 0 lo)).toArray } })
 (hsz:items.size<=sizeLine):aG (aI prog w) A (me (.ref t) (.ref cn)) Q E s:=by
 have w6:sizeOk (.seq ((items.toList.drop (cG items.size 0 lo)).take (cG items.size items.size ar - cG items.size 0 lo)).toArray):=by
  show ((items.toList.drop (cG items.size 0 lo)).take (cG items.size items.size ar - cG items.size 0 lo)).toArray.size<=sizeLine;rw [c_,nv,ny,ft];omega
 have cP:cG items.size items.size ar<=items.size:=NA _ _ (b7 _) ar;obtain ⟨os,nL,o8,t4⟩:=id ax
 have rU:s.TypeIs (.ref cn) "slice":=⟨os,nL,o8⟩
 unfold me
 try with_reducible refine g_ ?_
 first | refine ao (a3 ?_) | skip
 refine ao (wpAny_sequenceKey bT.typeIs (by decide) ?_)
 refine ao (wpAny_callSpecial?_slot (name:=Str.ofString "__getitem__") bT.typeIs rJ
  (hv rJ bT.typeIs entry_tuple_getitem ?_ (args_tuple_getitem _ _)))
 show aG _ _ (Builtin.Tuple.tupleItemsOf (.ref t) >>= _) _ _ s;refine ao (tupleItemsOf_ bT ?_);refine ao (oA rU ?_);rw [if_pos (by decide)];refine ao (FD ax cW pu ?_)
 have t5:¬ ((((cG items.size 0 lo:Nat):Int)==0&&(1:Int)==1&&(cG items.size items.size ar - cG items.size 0 lo)==items.size)=true):=by
  intro q;rw [eU,eU] at q;have aH:((cG items.size 0 lo:Nat):Int)=0:=eq_of_beq q.1.1;have bI:cG items.size items.size ar - cG items.size 0 lo=items.size:=eq_of_beq q.2;exact hw ⟨by omega,by omega⟩
 show aG _ _ (if (((cG items.size 0 lo:Nat):Int)==0&&(1:Int)==1&&(cG items.size items.size ar - cG items.size 0 lo)==items.size)=true then _ else _) _ _ s;rw [if_neg t5,ND]
 first
  | exact ao (m:=Builtin.Tuple.tupleExact _) (hu (a3 ⟨_,rfl,a3 h⟩) w6)
  | exact ao (m:=Builtin.Tuple.tupleExact _) (hu (ao (a3 (a3 ⟨_,rfl,a3 h⟩))) w6)
  | exact ao (ao (m:=Builtin.Tuple.tupleExact _) (hu (a3 (a3 ⟨_,rfl,a3 h⟩)) w6))
  | exact ao (ao (m:=Builtin.Tuple.tupleExact _) (hu (a3 ⟨_,rfl,a3 h⟩) w6))
end
end dD
namespace L2
open PySem PySem.Spec PyProof.Rows
abbrev d3:=St->ay->(Option Int->ay->Prop)->Prop
def t6(X:bb)(e:Option bg)(t:d3):Prop:=
 ∀(pins:List (Addr × Obj))(s:aC)(σ:St)(H:ay)(Q:Option Int->ay->Prop),Inv X pins σ H s->t σ H Q →
  aG (aI X.prog X.w) X.A (evalPart e X.env) (λ u s'=>∃ o aj,Inv X pins σ aj s'/\mh u o/\Q o aj) X.xe s
def FE:d3:=λ _ H Q=>Q none H
def FF(t:TE):d3:=λ σ H Q=>t σ H λ x H1=>∃ i,x=.int i/\Q (some i) H1
theorem FG{ns:List Int}:∀{us:List Value},Vals (ns.map V.int) us->ky us ns:=by
 induction ns with
 | nil=>intro us r;rw [oN] at r;cases r;exact .nil
 | cons n ns aN=>
  intro us r;rw [ew] at r
  cases r with
  | cons bj bK=>
   obtain ⟨t,e⟩:=bj;subst e;exact .cons n t (aN bK)
section
variable{X:bb}{e:bg}{aW:TE}{lo ar:Option bg}{eG kE:d3}{pos cE:Pos}
theorem NF:t6 X none FE:=by
 intro pins s σ H Q I h;rw [evalPart_none];exact a3 ⟨none,H,I,.none,h⟩
theorem NG(h:bX X e aW):t6 X (some e) (FF aW):=by
 intro pins s σ H Q I hw;rw [evalPart_some];refine b5 (h pins s σ H _ I hw) λ u s1 ⟨x,H1,a6,bj,aH⟩=>?_;obtain ⟨i,rfl,q⟩:=aH;obtain ⟨t,rfl⟩:=bj;exact ⟨some i,H1,a6,.int i t,q⟩
def mE(X:bb)(r:V->Option Int->Option Int->ay->cK->Prop):Prop:=
 ∀(pins:List (Addr × Obj))(s:aC)(σ:St)(H:ay)(x:V)(v fv fw:Value)(lo ar:Option Int)(cn:Addr)(Q:cK),Inv X pins σ H s->RelV x v->s.heap.IsSliceOf cn fv fw .none->mh fv lo->mh fw ar->r x lo ar H Q →
  ∃ T id,ro (.type T) "__getitem__" = pure (some (.builtin id))/\s.TypeIs v T/\aG (aI X.prog X.w) X.A (me v (.ref cn)) (da X pins σ Q) X.xe s
theorem mE.or{r dK:V->Option Int->Option Int->ay->cK->Prop}(h:mE X r)(h':mE X dK):mE X (λ x lo ar H Q=>r x lo ar H Q\/dK x lo ar H Q):=by
 intro pins s σ H x v fv fw lo ar cn Q I bu ax cW pu q;rcases q with q | q
 ·exact h pins s σ H x v fv fw lo ar cn Q I bu ax cW pu q
 ·exact h' pins s σ H x v fv fw lo ar cn Q I bu ax cW pu q
def FH(r:V->Option Int->Option Int->ay->cK->Prop)(aW:TE)(eG kE:d3):TE:=λ σ H Q=>aW σ H λ x H1=>eG σ H1 λ l aS=>kE σ aS λ u dX=>r x l u dX Q
theorem NH{r:V->Option Int->Option Int->ay->cK->Prop}(am:mE X r)(he:bX X e aW)(aQ:t6 X lo eG)(a0:t6 X ar kE):bX X (.Subscript e (.Slice lo ar none cE) pos) (FH r aW eG kE):=by
 intro pins s σ H Q I h;refine Subscript_ (b5 (he pins s σ H _ I h) λ v s1 ⟨x,H1,a6,bj,aH⟩=>?_);refine wpAny_Slice (b5 (aQ pins s1 σ H1 _ a6 aH) λ fv s2 ⟨l,aS,cy,cW,bI⟩=>b5 (a0 pins s2 σ aS _ cy bI) λ fw s3 ⟨u,dX,dd,pu,eh⟩=>?_);rw [evalPart_none];refine a3 ?_;have hZ:Inv X pins σ dX { s3 with heap:=s3.heap.push { cls:=.type "slice", data:=.fields #[fv,fw,.none] } }:=dd.kept (t':=s3.toks) λ b dh q=>cm _ q;obtain ⟨T,id,bQ,bT,aZ⟩:=am pins { s3 with heap:=s3.heap.push { cls:=.type "slice", data:=.fields #[fv,fw,.none] } } σ dX x v fv fw l u s3.heap.objs.size Q hZ bj (Heap.IsSliceOf.new ..) cW pu eh;show aG (aI X.prog X.w) X.A (zb e (.Slice lo ar none cE) v (.ref s3.heap.objs.size)) (da X pins σ Q) X.xe { s3 with heap:=s3.heap.push { cls:=.type "slice", data:=.fields #[fv,fw,.none] } };exact tail_any (ops:=[.ref s3.heap.objs.size,v]) bT bQ aZ (by with_unfolding_all rfl)
def kF(xs:List V)(lo ar:Option Int):List V:=(xs.drop (dD.cG xs.length 0 lo)).take (dD.cG xs.length xs.length ar - dD.cG xs.length 0 lo)
theorem FI(xs:List V)(lo ar:Option Int):(kF xs lo ar).length<=xs.length:=by
 unfold kF;rw [nv,ny];omega
def NI(K:bl):V->Option Int->Option Int->ay->cK->Prop:=λ x lo ar H Q=>∃ a xs,x=.ref a/\dq K H a xs ∧
 ¬ (dD.cG xs.length 0 lo=0/\dD.cG xs.length xs.length ar=xs.length)/\∀ p,H p=none->Q (.ref p) (upd H p (.tup (kF xs lo ar)))
theorem NJ:mE X (NI X.K):=by
 intro pins s σ H x v fv fw lo ar cn Q I bu ax cW pu h;obtain ⟨a,xs,rfl,aF,hw,q⟩:=h;cases bu;obtain ⟨aM,r,bT,hz⟩:=I.tuple aF
 have hlen:aM.toArray.size=xs.length:=by rw [c_];exact r.length.symm
 refine ⟨"tuple", _,rJ.lookup,bT.typeIs,?_⟩;refine dD.NE bT ax cW pu (by rw [hlen];exact hw) ?_ (by rw [hlen];exact hz);rw [hlen];refine ⟨.ref s.heap.objs.size,_,I.laid (t':=s.toks) (o:=.tup (kF xs lo ar)) (λ b dh q=>cm _ q) (b7 _) ?_,rfl,q _ (I.bM.fresh (b7 _))⟩;exact ⟨kz (FI xs lo ar) hz,_,(r.drop (dD.cG xs.length 0 lo)).take (dD.cG xs.length xs.length ar - dD.cG xs.length 0 lo),IsTup.new _ _⟩
def NK(K:bl):ei:=λ x y H Q=>∃ a b xs ys,x=.ref a/\y=.ref b/\dq K H a xs/\dq K H b ys/\xs≠[]/\xs.length+ys.length<=sizeLine ∧
 (ys=[]->Q (.ref a) H)/\(ys≠[]->∀ p,H p=none->Q (.ref p) (upd H p (.tup (xs++ys))))
theorem Vals.zt{xs:List V}{us:List Value}(r:Vals xs us):us=[] ↔ xs=[]:=by
 cases r with
 | nil=>simp
 | cons _ _=>simp
theorem NL:d8 X (gH .Add) (NK X.K):=by
 intro pins s σ H x y v u Q I bu cz h;obtain ⟨a,b,xs,ys,rfl,rfl,aD,ag,aF,hz,aH,bI⟩:=h;cases bu;cases cz;obtain ⟨aM,bj,gw,_⟩:=I.tuple aD;obtain ⟨dk,bK,cE,_⟩:=I.tuple ag;refine dD.Ny gw cE (λ z=>aF (bj.zt.mp z)) (λ z=>⟨.ref a,H,I,rfl,aH (bK.zt.mp z)⟩) (λ z=>?_) (by rw [<- bj.length,<- bK.length];exact hz);refine ⟨.ref s.heap.objs.size,_,I.laid (t':=s.toks) (o:=.tup (xs++ys)) (λ b dh q=>cm _ q) (b7 _) ?_,rfl,bI (λ w=>z (bK.zt.mpr w)) _ (I.bM.fresh (b7 _))⟩;exact ⟨by rw [fs];exact hz,_,bj.append bK,IsTup.new _ _⟩
end
def mF(n:Nat)(i:Int):Option Nat:=if 0<=i then (if i < n then some i.toNat else none) else if -(n:Int)<=i then some (i+n).toNat else none
def gi{α:Type}(xs:List α)(i:Int):Option α:=(mF xs.length i).bind λ j=>xs[j]?
theorem FJ{n:Nat}{i:Int}{j:Nat}(h:mF n i=some j):seqIndex? i n=some j/\j < n/\-(n:Int)<=i/\i < n:=by
 unfold mF at h;by_cases h0:0<=i
 ·rw [if_pos h0] at h;by_cases ak:i < n
  ·rw [if_pos ak] at h;have e:i.toNat=j:=e1.inj h;exact ⟨by rw [seqIndex_of h0 ak,e],by omega,by omega,ak⟩
  ·rw [if_neg ak] at h;cases h
 ·rw [if_neg h0] at h;by_cases ak:-(n:Int)<=i
  ·rw [if_pos ak] at h;have e:(i+n).toNat=j:=e1.inj h;exact ⟨by rw [seqIndex_neg (by omega) ak,e],by omega,ak,by omega⟩
  ·rw [if_neg ak] at h;cases h
theorem zu{α:Type}{xs:List α}{i:Int}{v:α}(h:gi xs i=some v):∃ j,seqIndex? i xs.length=some j/\xs[j]?=some v/\j < xs.length/\-(xs.length:Int)<=i/\i < xs.length:=by
 unfold gi at h
 cases e:mF xs.length i with
 | none=>rw [e] at h;cases h
 | some j=>
  rw [e] at h;obtain ⟨ak,aq,aT,cb⟩:=FJ e;exact ⟨j,ak,h,aq,aT,cb⟩
theorem lp{α:Type}{xs:List α}{j:Nat}{v:α}(h:xs[j]?=some v):gi xs (j:Int)=some v:=by
 have cP:j < xs.length:=(ji.mp h).1
 have e:mF xs.length (j:Int)=some j:=by
  unfold mF;rw [if_pos (by omega),if_pos (by omega)];simp
 unfold gi;rw [e];exact h
def w7(b:bg):Prop:=∀ o i,wo b false o i=operate [o,i] (me o i)
def mG(X:bb)(r:ei):Prop:=
 ∀(value slice:bg)(pins:List (Addr × Obj))(s:aC)(σ:St)(H:ay)(x y:V)(v u:Value)(Q:cK),Inv X pins σ H s->RelV x v->RelV y u->r x y H Q →
  wo slice false v u=operate [v,u] (me v u)->aG (aI X.prog X.w) X.A (zb value slice v u) (da X pins σ Q) X.xe s
def qc(X:bb)(id:String)(r:V->List V->ay->cK->Prop):Prop:=
 ∀(pins:List (Addr × Obj))(s:aC)(σ:St)(H:ay)(x:V)(xs:List V)(v:Value)(us:List Value)(Q:cK),Inv X pins σ H s->RelV x v->Vals xs us->r x xs H Q →
  aG (aI X.prog X.w) X.A (call (.builtin id) (v::us)) (da X pins σ Q) X.xe s
section
variable{X:bb}{a b:bg}{bw bN:TE}{pos:Pos}
theorem mG.or{r dK:ei}(h:mG X r)(h':mG X dK):mG X (λ x y H Q=>r x y H Q\/dK x y H Q):=by
 intro value slice pins s σ H x y v u Q I bu cz q ax;rcases q with q | q
 ·exact h value slice pins s σ H x y v u Q I bu cz q ax
 ·exact h' value slice pins s σ H x y v u Q I bu cz q ax
theorem qc.or{id:String}{r dK:V->List V->ay->cK->Prop}(h:qc X id r)(h':qc X id dK):qc X id (λ x xs H Q=>r x xs H Q\/dK x xs H Q):=by
 intro pins s σ H x xs v us Q I bu rs q;rcases q with q | q
 ·exact h pins s σ H x xs v us Q I bu rs q
 ·exact h' pins s σ H x xs v us Q I bu rs q
theorem NM{r:ei}(am:mG X r)(aD:bX X a bw)(ag:bX X b bN)(ax:w7 b):bX X (.Subscript a b pos) (o1 r bw bN):=by
 intro pins s σ H Q I h;exact Subscript_ (zl aD ag I h λ v u s2 x y aS cy bu cz q=>am a b pins s2 σ aS x y v u Q cy bu cz q (ax _ _))
def FK(K:bl):ei:=λ x y H Q=>∃ p xs i v,x=.ref p/\y=.int i/\d7 K H p xs/\gi xs i=some v/\Q v H
def FL(K:bl):ei:=λ x y H Q=>∃ p xs i v,x=.ref p/\y=.int i/\dq K H p xs/\gi xs i=some v/\Q v H
def FM:ei:=λ x y H Q=>∃ z i c,x=.str z/\y=.int i/\z.length<=sizeLine/\gi z.cps.toList i=some c/\Q (.str ⟨#[c]⟩) H
theorem NN:mG X (FK X.K):=by
 intro value slice pins s σ H x y v u Q I bu cz h ax;obtain ⟨p,xs,i,z,rfl,rfl,bv,he,q⟩:=h;cases bu;obtain ⟨t,rfl⟩:=cz;obtain ⟨aM,r,cW,hz⟩:=I.list bv;obtain ⟨j,ak,aq,aT,cb,dM⟩:=zu he;obtain ⟨w,lq,nM⟩:=r.get aq;have aQ:=r.length;have bt:=o2
 have fin:da X pins σ Q w s:=⟨z,H,I,nM,q⟩
 by_cases h0:0<=i
 ·have cP:i.toNat=j:=by
   rw [seqIndex_of h0 dM] at ak;exact e1.inj ak
  exact item_listR cW.isList h0 (by omega) (by rw [cP];simpa using lq) fin ax
 ·have cP:(i+(aM.toArray.size:Int)).toNat=j:=by
   rw [seqIndex_neg (by omega) cb] at ak;rw [c_,<- aQ];exact e1.inj ak
  exact EF (x:=w) cW.isList.typeIs slot_list_getitem.lookup
   (wpAny_getItem_list_neg (Q:=λ r s'=>r=w/\da X pins σ Q r s') cW.isList (by omega) (by rw [c_]<;>omega) (by omega) (by rw [cP];simpa using lq) ⟨rfl,fin⟩) ax
theorem NO:mG X (FL X.K):=by
 intro value slice pins s σ H x y v u Q I bu cz h ax;obtain ⟨p,xs,i,z,rfl,rfl,bv,he,q⟩:=h;cases bu;obtain ⟨t,rfl⟩:=cz;obtain ⟨aM,r,cW,hz⟩:=I.tuple bv;obtain ⟨j,ak,aq,aT,cb,dM⟩:=zu he;obtain ⟨w,lq,nM⟩:=r.get aq;have aQ:=r.length;have bt:=o2
 have fin:da X pins σ Q w s:=⟨z,H,I,nM,q⟩
 exact EF (x:=w) cW.typeIs slot_tuple_getitem.lookup
  (getItem_tuple (j:=j) (Q:=λ r s'=>r=w/\da X pins σ Q r s') cW (by omega) (by omega) (by rw [c_,<- aQ];exact ak) (by simpa using lq) ⟨rfl,fin⟩) ax
theorem NP:mG X FM:=by
 intro value slice pins s σ H x y v u Q I bu cz h ax;obtain ⟨z,i,c,rfl,rfl,hz,he,q⟩:=h;obtain ⟨t,rfl⟩:=bu;obtain ⟨t',rfl⟩:=cz;obtain ⟨j,ak,aq,aT,cb,dM⟩:=zu he
 have aQ:z.cps.toList.length=z.length:=by simp [Str.length]
 rw [aQ] at ak cb dM;have bt:=o2
 exact tail_any (typeIs_str s z t) slot_str_getitem.lookup (getItem_str (c:=c) (by
  have aP:decide (i < -(2 ^ 63:Int))=false:=decide_eq_false (by omega);have aL:decide (i ≥ 2 ^ 63)=false:=decide_eq_false (by omega)
  rw [aP,aL,rI]) (by rw [ak];simpa using aq) ⟨.str ⟨#[c]⟩,H,I.tok _,⟨_,rfl⟩,q⟩) ax
def NQ(K:bl):ei:=λ x y H Q=>FK K x y H Q\/FL K x y H Q\/FM x y H Q
theorem FN:mG X (NQ X.K):=NN.or (NO.or NP)
theorem NR(aM:List Value)(n j:Nat)(u:Value):Obj.mapSeq (·.setIfInBounds j u) { cls:=.type "list", data:=.seq aM.toArray n }={ cls:=.type "list", data:=.seq (aM.set j u).toArray n }:=by
 simp [Obj.mapSeq]
theorem Inv.lst{pins:List (Addr × Obj)}{σ:St}{H:ay}{s:aC}{p:Addr}{xs:List V}(I:Inv X pins σ H s)(h:H p=some (.lst xs)) :
 ∃(aM:List Value)(n:Nat),Vals xs aM/\s.heap.get? p=some { cls:=.type "list", data:=.seq aM.toArray n }/\xs.length<=sizeLine:=by
 obtain ⟨z,aM,n,r,e⟩:=I.bM p _ h;exact ⟨aM,n,r,e,z⟩
theorem Inv.NS{pins:List (Addr × Obj)}{σ:St}{H:ay}{s:aC}{p:Addr}{xs ys:List V}{aM its':List Value}{n tO:Nat}{f:Obj->Obj}(I:Inv X pins σ H s)(h:H p=some (.lst xs))
 (a4:s.heap.get? p=some { cls:=.type "list", data:=.seq aM.toArray n }) (hf:f { cls:=.type "list", data:=.seq aM.toArray n }={ cls:=.type "list", data:=.seq its'.toArray tO }) (r:Vals ys its') (hz:ys.length<=sizeLine) (t:Nat) :
 Inv X pins σ (upd H p (.lst ys)) { s with heap:=s.heap.update p f,toks:=t }:=by
 have e:(s.heap.update p f).get? p=some { cls:=.type "list", data:=.seq its'.toArray tO }:=by
  rw [il f a4 (by rw [hf]<;>rfl),hf]
 refine I.write (x:=p) (e:=p) (by rw [h];trivial) (.inl rfl) (λ b u ag q=>(jY _ _ (Ne.symm ag)).trans q) ⟨_,e⟩ ?_;exact ⟨hz,its',tO,r,e⟩
def NT:V->V->V->ay->(ay->Prop)->Prop:=λ o i v H Q=>∃ p xs k j,o=.ref p/\i=.int k/\H p=some (.lst xs)/\mF xs.length k=some j/\Q (upd H p (.lst (xs.set j v)))
theorem NU:zj X NT:=by
 intro pins s σ H o i v fW gf u Q I gN gO be h;obtain ⟨p,xs,k,j,rfl,rfl,az,cP,q⟩:=h;cases gN;obtain ⟨t,rfl⟩:=gO;obtain ⟨aM,n,r,a4,hz⟩:=I.lst az;obtain ⟨ak,aq,aT,cb⟩:=FJ cP;have aQ:=r.length;have bt:=o2
 have oS:Inv X pins σ (upd H p (.lst (xs.set j v))) { s with heap:=s.heap.update p (Obj.mapSeq (·.setIfInBounds j u)) }:=
  I.NS az a4 (NR aM n j u) (r.set be j) (by rw [List.length_set];exact hz) s.toks
 by_cases h0:0<=k
 ·have aO:k.toNat=j:=by
   rw [seqIndex_of h0 cb] at ak;exact e1.inj ak
  exact PySem.W.ki_setAt a4 h0 (by omega) (by rw [c_,<- aQ];exact cb) (by rw [aO];exact ⟨_,oS,q⟩)
 ·have aO:(k+(aM.toArray.size:Int)).toNat=j:=by
   rw [seqIndex_neg (by omega) aT] at ak;rw [c_,<- aQ];exact e1.inj ak
  exact PySem.W.ki_setBack a4 (by omega) (by rw [c_,<- aQ];exact aT) (by omega) (by rw [aO];exact ⟨_,oS,q⟩)
theorem NV(lo ar:Option Int)(n:Nat):(pS lo ar none n).1=((dD.cG n 0 lo:Nat):Int)/\(pS lo ar none n).2.1=((dD.cG n n ar:Nat):Int)/\(pS lo ar none n).2.2=1:=by
 refine ⟨?_,?_,rfl⟩
 ·cases lo with
  | none=>simp [pS,dD.cG]
  | some i=>
   simp only [pS,dD.cG,Option.getD_none,show (1:Int) > 0 by decide,if_true];by_cases h:i < 0
   ·simp only [h,if_true]<;>omega
   ·simp only [h,if_false]<;>omega
 ·cases ar with
  | none=>simp [pS,dD.cG]
  | some i=>
   simp only [pS,dD.cG,Option.getD_none,show (1:Int) > 0 by decide,if_true];by_cases h:i < 0
   ·simp only [h,if_true]<;>omega
   ·simp only [h,if_false]<;>omega
theorem NW(aM:List Value)(lo ar:Option Int):slicePick aM.toArray lo ar none=((aM.drop (dD.cG aM.length 0 lo)).take (dD.cG aM.length aM.length ar - dD.cG aM.length 0 lo)).toArray:=by
 obtain ⟨ak,aq,aT⟩:=NV lo ar aM.toArray.size;unfold slicePick;rw [ak,aq,aT];simp only [sliceRange_one,pick_run,c_]<;>rfl
def NX(K:bl):V->Option Int->Option Int->ay->cK->Prop:=λ x lo ar H Q=>∃ a xs,x=.ref a/\d7 K H a xs/\∀ p,H p=none->Q (.ref p) (upd H p (.lst (kF xs lo ar)))
theorem NY:mE X (NX X.K):=by
 intro pins s σ H x v fv fw lo ar cn Q I bu ax cW pu h;obtain ⟨a,xs,rfl,aF,q⟩:=h;cases bu;obtain ⟨aM,r,bT,hz⟩:=I.list aF;have hlen:=r.length;refine ⟨"list", _,slot_list_getitem.lookup,bT.isList.typeIs,?_⟩;refine wpAny_getItem_list_slice bT.isList ax cW pu .none (by simp) ?_ (by rw [c_]<;>omega);rw [NW,<- hlen];refine ⟨.ref s.heap.objs.size,_,I.laid (t':=s.toks) (o:=.lst (kF xs lo ar)) (λ b dh q=>cm _ q) (b7 _) ?_,rfl,q _ (I.bM.fresh (b7 _))⟩;exact ⟨kz (FI xs lo ar) hz,_,0,(r.drop (dD.cG xs.length 0 lo)).take (dD.cG xs.length xs.length ar - dD.cG xs.length 0 lo),d2 _ rfl⟩
def mH:V->Bool
 | .bJ=>true
 | .aU _=>true
 | .int _=>true
 | .str _=>true
 | _=>false
def nN:V->V->Bool
 | .bJ,.bJ=>true
 | .aU a,.aU b=>a==b
 | .aU a,.int b=>(if a then 1 else 0)==b
 | .int a,.aU b=>a==(if b then 1 else 0)
 | .int a,.int b=>a==b
 | .str a,.str b=>a==b
 | _,_=>false
theorem NZ{A:c1}{s:aC}{y x:V}{u v:Value}(cz:RelV y u)(bu:RelV x v)(N0:mH y=true)(fY:mH x=true):SeqAt.EqAt A s u v (nN y x):=by
 cases y with
 | bJ=>
  cases cz
  cases x with
  | bJ=>cases bu;exact SeqAt.EqAt.same _
  | aU b=>cases bu;exact SeqAt.EqAt.none_bool b
  | int b=>obtain ⟨t,rfl⟩:=bu;exact SeqAt.EqAt.none_int b t
  | str b=>obtain ⟨t,rfl⟩:=bu;exact SeqAt.EqAt.none_str b t
  | _=>exact absurd (show false=true from fY) gI
 | aU a=>
  cases cz
  cases x with
  | bJ=>cases bu;exact SeqAt.EqAt.bool_none a
  | aU b=>cases bu;exact SeqAt.EqAt.bool_bool a b
  | int b=>obtain ⟨t,rfl⟩:=bu;exact SeqAt.EqAt.bool_int a b t
  | str b=>obtain ⟨t,rfl⟩:=bu;exact SeqAt.EqAt.bool_str a b t
  | _=>exact absurd (show false=true from fY) gI
 | int a=>
  obtain ⟨t',rfl⟩:=cz
  cases x with
  | bJ=>cases bu;exact SeqAt.EqAt.int_none a t'
  | aU b=>cases bu;exact SeqAt.EqAt.int_bool a t' b
  | int b=>obtain ⟨t,rfl⟩:=bu;exact SeqAt.EqAt.int_int a t' b t
  | str b=>obtain ⟨t,rfl⟩:=bu;exact SeqAt.EqAt.int_str a t' b t
  | _=>exact absurd (show false=true from fY) gI
 | str a=>
  obtain ⟨t',rfl⟩:=cz
  cases x with
  | bJ=>cases bu;exact SeqAt.EqAt.str_none a t'
  | aU b=>cases bu;exact SeqAt.EqAt.str_bool a t' b
  | int b=>obtain ⟨t,rfl⟩:=bu;exact SeqAt.EqAt.str_int a t' b t
  | str b=>obtain ⟨t,rfl⟩:=bu;exact SeqAt.EqAt.str_str a t' b t
  | _=>exact absurd (show false=true from fY) gI
 | _=>exact absurd (show false=true from N0) gI
def nO(x:V)(u:Value):Bool:=match u with
 | .none=>nN .bJ x
 | .bool b=>nN (.aU b) x
 | .int i _=>nN (.int i) x
 | .str z _=>nN (.str z) x
 | _=>false
theorem FO{x y:V}{u:Value}(r:RelV y u)(f:mH y=true):nO x u=nN y x:=by
 cases y with
 | bJ=>cases r;rfl
 | aU b=>cases r;rfl
 | int i=>obtain ⟨t,rfl⟩:=r;rfl
 | str z=>obtain ⟨t,rfl⟩:=r;rfl
 | _=>exact absurd (show false=true from f) gI
theorem zv{x:V}:∀{xs:List V}{us:List Value},Vals xs us->xs.all mH=true->us.any (nO x)=xs.any λ y=>nN y x
 | _,_,.nil,_=>rfl
 | y::xs,u::us,.cons r t,f=>by
  rw [iP,eU] at f;rw [ml,ml,FO r f.1,zv t f.2]
theorem zw{A:c1}{s:aC}{x:V}{v:Value}(bu:RelV x v)(fY:mH x=true):∀{xs:List V}{us:List Value},Vals xs us->xs.all mH=true->∀ u∈us,SeqAt.EqAt A s u v (nO x u)
 | _,_,.nil,_=>λ u a0=>by cases a0
 | y::xs,u::us,.cons r t,f=>λ tL a0=>by
  rw [iP,eU] at f;rcases dJ.mp a0 with rfl | a0
  ·rw [FO r f.1];exact NZ r bu f.1 fY
  ·exact zw bu fY t f.2 tL a0
def w8(x:V)(xs:List V):Bool:=xs.any λ y=>nN y x
def N1(K:bl)(neg:Bool):ei:=λ x y H Q=>∃ p xs,y=.ref p/\(d7 K H p xs\/dq K H p xs)/\mH x=true/\xs.all mH=true/\Q (.aU (if neg then !w8 x xs else w8 x xs)) H
theorem N2:d8 X (eO .In) (N1 X.K false):=by
 intro pins s σ H x y v u Q I bu cz h;obtain ⟨p,xs,rfl,bv,fY,bO,q⟩:=h;cases cz;rcases bv with bv | bv
 ·obtain ⟨aM,r,cW,hz⟩:=I.list bv;refine SeqAt.in_listAt (nO x) cW.isList (λ w hw=>zw bu fY r bO w (by simpa using hw)) ⟨.aU _,H,I,rfl,?_⟩;rw [show aM.toArray.any (nO x)=aM.any (nO x) by simp,zv r bO];exact q
 ·obtain ⟨aM,r,cW,hz⟩:=I.tuple bv;refine SeqAt.in_tupleAt (nO x) cW (λ w hw=>zw bu fY r bO w (by simpa using hw)) ⟨.aU _,H,I,rfl,?_⟩;rw [show aM.toArray.any (nO x)=aM.any (nO x) by simp,zv r bO];exact q
theorem N3:jv X (.builtin "len") (λ xs H Q=>∃ p ys,xs=[.ref p]/\(d7 X.K H p ys\/dq X.K H p ys)/\Q (.int ys.length) H):=by
 intro pins s σ H xs us Q I r h;obtain ⟨p,ys,rfl,bv,q⟩:=h;obtain ⟨u,rfl,bu⟩:=rT r;cases bu;have bt:=o2;rcases bv with bv | bv
 ·obtain ⟨aM,dK,cW,hz⟩:=I.list bv;have hlen:=dK.length;exact Calls.call_len_list cW.isList (by simp only [c_]<;>omega) ⟨.int ys.length,H,I.tok _,⟨s.toks+1,by rw [c_,hlen]⟩,q⟩
 ·obtain ⟨aM,dK,cW,hz⟩:=I.tuple bv;have hlen:=dK.length;exact len_tuple cW (by simp only [c_]<;>omega) ⟨.int ys.length,H,I.tok _,⟨s.toks+1,by rw [c_,hlen]⟩,q⟩
theorem N4:jv X (.builtin "len") (λ xs H Q=>∃ z,xs=[.str z]/\z.length<=sizeLine/\Q (.int z.length) H):=by
 intro pins s σ H xs us Q I r h;obtain ⟨z,rfl,hz,q⟩:=h;obtain ⟨u,rfl,t,rfl⟩:=rT r;have bt:=o2;exact len_str (by omega) ⟨.int z.length,H,I.tok _,⟨_,rfl⟩,q⟩
theorem jv.or{f:Value}{r dK:List V->ay->cK->Prop}(h:jv X f r)(h':jv X f dK):jv X f (λ xs H Q=>r xs H Q\/dK xs H Q):=by
 intro pins s σ H xs us Q I rs q;rcases q with q | q
 ·exact h pins s σ H xs us Q I rs q
 ·exact h' pins s σ H xs us Q I rs q
theorem N5:jv X (.type "tuple") (λ xs H Q=>∃ p ys,xs=[.ref p]/\((d7 X.K H p ys/\∀ l,H l=none->Q (.ref l) (upd H l (.tup ys)))\/(dq X.K H p ys/\Q (.ref p) H))):=by
 intro pins s σ H xs us Q I r h;obtain ⟨p,ys,rfl,h⟩:=h;obtain ⟨u,rfl,bu⟩:=rT r;cases bu;rcases h with ⟨bv,q⟩ | ⟨bv,q⟩
 ·obtain ⟨aM,dK,cW,hz⟩:=I.list bv;have hlen:=dK.length;refine call_tuple_list cW.isList (λ h' b0=>?_) (by simp only [c_]<;>omega);have a6:Inv X pins σ H { s with heap:=h' }:=I.kept (t':=s.toks) b0
  have cy:Inv X pins σ (upd H h'.objs.size (.tup ys)) { s with heap:=h'.push { cls:=.type "tuple", data:=.seq aM.toArray } }:=
   a6.laid (t':=s.toks) (λ b o e=>cm _ e) (b7 _) (show eP X.prog X.w _ _ _ (.tup ys) from ⟨hz,aM,dK,IsTup.new _ _⟩)
  exact ⟨.ref h'.objs.size,_,cy,rfl,q _ (a6.bM.fresh (b7 _))⟩
 ·obtain ⟨aM,dK,cW,hz⟩:=I.tuple bv;exact call_tuple_same cW ⟨.ref p,H,I,rfl,q⟩
def t7(K:bl)(T:String)(x:V)(H:ay):Prop:=match x with
 | .str _=>T = "str"
 | .int _=>T = "int"
 | .ref p=>(T = "list"/\∃ xs,d7 K H p xs)\/(T = "tuple"/\∃ o,K.lookup p=some o/\o.cls=.type "tuple"/\o.dict=none) ∨
  (T = "dict"/\((∃ kvs,H p=some (.c4 kvs))\/∃ kvs,H p=some (.fU kvs)))\/(T = "set"/\∃ S n,H p=some (.set S n))
 | _=>False
theorem FP{pins:List (Addr × Obj)}{σ:St}{H:ay}{s:aC}{T:String}{x:V}{v:Value}(I:Inv X pins σ H s)(r:RelV x v)(ty:t7 X.K T x H) :
 s.TypeIs v T/\∀ a,v=.ref a->∃ dh,s.heap.get? a=some dh/\dh.dict=none:=by
 cases x with
 | str z=>
  obtain ⟨t,rfl⟩:=r;cases (show T = "str" from ty);exact ⟨typeIs_str s z t,λ _ e=>nomatch e⟩
 | int i=>
  obtain ⟨t,rfl⟩:=r;cases (show T = "int" from ty);exact ⟨typeIs_int s i t,λ _ e=>nomatch e⟩
 | ref p=>
  cases r;rcases ty with ⟨rfl,xs,bv⟩ | ⟨rfl,o,aO,aE,hd⟩ | ⟨rfl,aO⟩ | ⟨rfl,S,n,aO⟩
  ·obtain ⟨aM,_,cW,_⟩:=I.list bv;refine ⟨cW.isList.typeIs,λ a e=>?_⟩;cases e;obtain ⟨o,n,e,c,hd,_⟩:=cW;exact ⟨o,e,hd⟩
  ·refine ⟨⟨o,I.gv p o aO,aE⟩,λ a e=>?_⟩;cases e;exact ⟨o,I.gv _ o aO,hd⟩
  ·have z:∃ o,s.heap.get? p=some o/\o.ExactDict:=by
    rcases aO with ⟨kvs,aO⟩ | ⟨kvs,aO⟩
    ·obtain ⟨_,_,_,_,o,_,_,e,ex,_⟩:=I.bM p _ aO;exact ⟨o,e,ex⟩
    ·obtain ⟨_,_,_,_,o,_,_,e,ex,_⟩:=I.bM p _ aO;exact ⟨o,e,ex⟩
   obtain ⟨o,e,ex⟩:=z;refine ⟨⟨o,e,ex.1⟩,λ a aL=>?_⟩;cases aL;exact ⟨o,e,ex.2.1⟩
  ·obtain ⟨o,_,_,_,e,ex,_⟩:=I.bM p _ aO;refine ⟨⟨o,e,ex.1⟩,λ a aL=>?_⟩;cases aL;exact ⟨o,e,ex.2.1⟩
 | _=>exact False.elim ty
def FQ(K:bl)(T:String)(r:V->List V->ay->cK->Prop)(to:TE):TE:=λ σ H Q=>to σ H λ x H1=>t7 K T x H1/\r x [] H1 Q
def FR(K:bl)(T:String)(r:V->List V->ay->cK->Prop)(to:TE)(t:eD):TE:=λ σ H Q=>to σ H λ x H1=>t7 K T x H1/\t σ H1 λ xs aS=>r x xs aS Q
variable{o e:bg}{ah:List bg}{to:TE}{t:eD}{name:Str}{apos fx:Pos}{T id:String}{r:V->List V->ay->cK->Prop}
theorem N6(lr:rp T)(slot:jg T name id)(ls:ry (.builtin id)=pure (.type "method_descriptor"))(hm:qc X id r)(a4:bX X o to)
 (lu:rn o name X.env (eval o X.env)=eval o X.env:=by rfl) (lv:(apos.endLine==fx.line)=true:=by rfl):bX X (.Call (.Attribute o name apos) [] [] fx) (FQ X.K T r to):=by
 intro pins s σ H Q I h;refine wpAny_Call_method0_late lu lv (b5 (a4 pins s σ H _ I h) λ v s1 ⟨x,H1,a6,bj,ty,aH⟩=>?_);obtain ⟨ak,aq⟩:=FP a6 bj ty;exact ⟨T,id,lr,slot,ls,ak,aq,Calls.callWith_builtin rfl (PySem.evalArgs_none (hm pins s1 σ H1 x [] v [] Q a6 bj .nil aH))⟩
theorem N7(lr:rp T)(slot:jg T name id)(ls:ry (.builtin id)=pure (.type "method_descriptor"))(hm:qc X id r)(a4:bX X o to)(aD:hc X (e::ah) t)
 (lu:rn o name X.env (eval o X.env)=eval o X.env:=by rfl)
 (rV:((fS fx (dv (e::ah) X.env)).all (λ x=>!x.1)&&(backToKw fx (keywordEach [] X.env)).all (λ x=>x.1.isSome)
  &&decide ((e::ah).length+([]:List Keyword).length+(if ([]:List Keyword).isEmpty then 0 else 1) < 30))=true:=by rfl)
 (lv:(apos.endLine==fx.line)=true:=by rfl) (ax:dv (e::ah) X.env=(false,eval e X.env)::dv ah X.env:=by rfl) (N8:(fS fx (dv ah X.env)).any (·.1)=false:=by rfl) :
 bX X (.Call (.Attribute o name apos) (e::ah) [] fx) (FR X.K T r to t):=by
 intro pins s σ H Q I h;refine wpAny_Call_method_late lu rV lv rfl (b5 (a4 pins s σ H _ I h) λ v s1 ⟨x,H1,a6,bj,ty,aH⟩=>?_);obtain ⟨ak,aq⟩:=FP a6 bj ty;refine ⟨T,id,lr,slot,ls,ak,aq,?_⟩;have FS:=aD fx pins s1 σ H1 _ a6 aH;rw [ax] at FS ⊢;refine Calls.callWith_builtin (by show (false||(fS fx (dv ah X.env)).any (·.1))=false;rw [N8]<;>rfl) (Calls.evalArgs_plain ?_);exact b5 FS λ us s2 ⟨ai,aS,cy,bK,bI⟩=>hm pins s2 σ aS x ai v us Q cy bj bK bI
end
def w9(X:bb)(id:String)(r:V->List V->ay->cK->Prop):Prop:=
 ∀(pins:List (Addr × Obj))(s:aC)(σ:St)(H:ay)(x:V)(xs:List V)(v:Value)(us:List Value)(Q:cK),Inv X pins σ H s->RelV x v->Vals xs us->r x xs H Q →
  aG (aI X.prog X.w) X.A (call (.builtin id) (v::us)) (da X pins σ Q) X.xe s
theorem Vals.one:∀{x:V}{us:List Value},Vals [x] us->∃ u,us=[u]/\RelV x u
 | _,_,.cons r .nil=>⟨_,rfl,r⟩
theorem Vals.two:∀{x y:V}{us:List Value},Vals [x,y] us->∃ u v,us=[u,v]/\RelV x u/\RelV y v
 | _,_,_,.cons r (.cons q .nil)=>⟨_,_,rfl,r,q⟩
theorem Vals.zero:∀{us:List Value},Vals [] us->us=[]
 | _,.nil=>rfl
theorem Vals.dropLast{xs:List V}{us:List Value}(h:Vals xs us):Vals xs.dropLast us.dropLast:=by
 induction h with
 | nil=>exact .nil
 | cons r t aN=>
  cases t with
  | nil=>exact .nil
  | cons q t'=>exact .cons r aN
theorem Vals.reverse{xs:List V}{us:List Value}(h:Vals xs us):Vals xs.reverse us.reverse:=by
 induction h with
 | nil=>exact .nil
 | cons r t aN=>rw [rB,rB];exact Vals.append aN (.cons r .nil)
theorem N9{α:Type}(l:List α):l.eraseIdx (l.length - 1)=l.dropLast:=by
 induction l with
 | nil=>rfl
 | cons a r aN=>
  cases r with
  | nil=>rfl
  | cons b r=>
   have e:(a::b::r).length - 1=((b::r).length - 1)+1:=by
    have ak:(a::b::r).length=r.length+2:=rfl;have aq:(b::r).length=r.length+1:=rfl;omega
   rw [e,List.eraseIdx_cons_succ,aN]
   all_goals rfl
section
variable{X:bb}{pins:List (Addr × Obj)}{σ:St}{H:ay}{s:aC}{l b:Addr}{xs ys zs:List V}
theorem Inv.w_{aM its':List Value}{n:Nat}{f:Array Value->Array Value}{t':Nat}(I:Inv X pins σ H s)(h1:H l=some (.lst xs))
 (e:s.heap.get? l=some { cls:=.type "list", data:=.seq aM.toArray n }) (hf:f aM.toArray=its'.toArray) (bC:Vals ys its') (hz:ys.length<=sizeLine) :
 Inv X pins σ (upd H l (.lst ys)) { s with heap:=s.heap.update l (Obj.mapSeq f),toks:=t' }:=by
 have q:=PySem.IsL.update e f;rw [hf] at q;refine I.write (x:=l) (e:=l) (by rw [h1];exact trivial) (.inl rfl) (λ ip u ag a0=>(jY s.heap (Obj.mapSeq f) (Ne.symm ag)).trans a0) ⟨_,q⟩ ?_;exact ⟨hz,its',_,bC,q⟩
theorem Inv.N_{aM:List Value}{t':Nat}(I:Inv X pins σ H s)(bC:Vals ys aM)(hz:ys.length<=sizeLine) :
 Inv X pins σ (upd H s.heap.objs.size (.lst ys)) { s with heap:=s.heap.push { cls:=.type "list", data:=.seq aM.toArray },toks:=t' }:=
 I.laid (λ _ _ q=>cm _ q) (b7 _) ⟨hz,aM,0,bC,d2 _ rfl⟩
theorem Inv.fresh(I:Inv X pins σ H s):H s.heap.objs.size=none:=I.bM.fresh (b7 _)
theorem Inv.qd(I:Inv X pins σ H s)(h1:H l=some (.lst xs)):xs.length<=sizeLine/\∃(aM:List Value)(n:Nat),Vals xs aM/\xs.length=aM.length/\s.heap.get? l=some { cls:=.type "list", data:=.seq aM.toArray n }:=by
 obtain ⟨z,aM,n,r,e⟩:=I.bM l _ h1;exact ⟨z,aM,n,r,r.length,e⟩
theorem FT{n:Nat}(h:n<=sizeLine):Builtin.List.listTooLong n=false:=by
 unfold Builtin.List.listTooLong;exact decide_eq_false (by omega)
end
section
variable{X:bb}
def Oa:V->List V->ay->cK->Prop:=λ x ai H Q=>∃ l xs y,x=.ref l/\ai=[y]/\H l=some (.lst xs)/\xs.length < sizeLine/\Q .bJ (upd H l (.lst (xs++[y])))
theorem t8:w9 X "list.append" Oa:=by
 intro pins s σ H x ai v us Q I bu be h;obtain ⟨l,xs,y,rfl,rfl,h1,hz,q⟩:=h;cases bu;obtain ⟨u,rfl,dP⟩:=be.one;obtain ⟨z,aM,n,r,aQ,e⟩:=I.qd h1;refine wt F.slot_list_append ⟨_,e,rfl⟩ F.entry_list_append (F.args_list_append_2 _ _) (PySem.list_append l aM.toArray n u (by rw [c_];omega)) ⟨e,?_⟩;refine ⟨.bJ,_,I.w_ (its':=aM++[u]) h1 e (by simp) (r.append (.cons dP .nil)) ?_,rfl,q⟩;rw [fs,List.length_singleton];omega
def Ob:V->List V->ay->cK->Prop:=λ x ai H Q=>∃ l b xs zs,x=.ref l/\ai=[.ref b]/\H l=some (.lst xs)/\H b=some (.lst zs)/\xs.length+zs.length<=sizeLine/\Q .bJ (upd H l (.lst (xs++zs)))
theorem Oc:w9 X "list.extend" Ob:=by
 intro pins s σ H x ai v us Q I bu be h;obtain ⟨l,b,xs,zs,rfl,rfl,h1,gj,hz,q⟩:=h;cases bu;obtain ⟨u,rfl,dP⟩:=be.one;cases dP;obtain ⟨z,aM,n,r,aQ,e⟩:=I.qd h1;obtain ⟨b8,dk,ff,bK,hE,aL⟩:=I.qd gj
 have hsz:aM.toArray.size+dk.toArray.size<=sizeLine:=by rw [c_,c_];omega
 have zx:¬ (!aM.toArray.isEmpty&&Builtin.List.listTooLong (aM.toArray.size+dk.toArray.size))=true:=by
  rw [FT hsz,Bool.and_false];exact gI
 refine wt F.slot_list_extend ⟨_,e,rfl⟩ F.entry_list_extend (F.args_list_extend_2 _ _)
  (AutoSeq1.list_extend_list_list_0 l aM.toArray n b dk.toArray ff zx (by rw [c_];omega) (by omega)) ⟨e,aL,?_⟩
 refine ⟨.bJ,_,I.w_ (its':=aM++dk) h1 e (by simp) (r.append bK) ?_,rfl,q⟩;rw [fs];omega
def Od:V->List V->ay->cK->Prop:=λ x ai H Q=>∃ l xs y,x=.ref l/\ai=[]/\H l=some (.lst xs)/\xs[xs.length - 1]?=some y/\Q y (upd H l (.lst xs.dropLast))
theorem Oe:w9 X "list.pop" Od:=by
 intro pins s σ H x ai v us Q I bu be h;obtain ⟨l,xs,y,rfl,rfl,h1,bD,q⟩:=h;cases bu;have FU:=be.zero;subst FU;obtain ⟨z,aM,n,r,aQ,e⟩:=I.qd h1;obtain ⟨u,a0,dP⟩:=r.get bD
 have Og:aM.toArray[aM.toArray.size - 1]?=some u:=by
  show aM.toArray[aM.length - 1]?=some u;rw [<- tz,<- aQ];exact a0
 refine wt F.slot_list_pop ⟨_,e,rfl⟩ F.entry_list_pop (F.args_list_pop_1 _) (MeetsSeq.list_pop_last l aM.toArray n u Og (by rw [c_];omega)) ⟨e,?_⟩;refine ⟨y,_,I.w_ (its':=aM.dropLast) h1 e ?_ r.dropLast ?_,dP,q⟩
 ·show aM.toArray.eraseIdxIfInBounds (aM.toArray.size - 1)=aM.dropLast.toArray;rw [c_,List.eraseIdxIfInBounds_toArray,N9]
 ·rw [List.length_dropLast];omega
def Oh:ei:=λ x y H Q=>∃ l b xs zs,x=.ref l/\y=.ref b/\H l=some (.lst xs)/\H b=some (.lst zs)/\xs.length+zs.length<=sizeLine/\∀ p,H p=none->Q (.ref p) (upd H p (.lst (xs++zs)))
theorem Oi:d8 X (gH .Add) Oh:=by
 intro pins s σ H x y v u Q I bu cz h;obtain ⟨l,b,xs,zs,rfl,rfl,h1,gj,hz,q⟩:=h;cases bu;cases cz;obtain ⟨z,aM,n,r,aQ,e⟩:=I.qd h1;obtain ⟨b8,dk,ff,bK,hE,aL⟩:=I.qd gj;refine PySem.P.add_list e aL ?_ (by rw [c_,c_];omega)
 have de:aM.toArray++dk.toArray=(aM++dk).toArray:=by simp
 rw [de];exact ⟨.ref _,_,I.N_ (t':=s.toks) (r.append bK) (by rw [fs];omega),rfl,q _ I.fresh⟩
end
end L2
namespace FV
open PySem PySem.W PySem.Calls PyProof.Rows
theorem Oj{P:Params}{h:bL}:∀(ns:List Int)(ai:List Value),WellAll P h ai (ns.map WData.int)->ky ai ns:=by
 intro ns
 induction ns with
 | nil=>
  intro ai w;rw [oN] at w;cases w;exact .nil
 | cons n ns aN=>
  intro ai w;rw [ew] at w
  cases w with
  | cons a b=>
   cases a;exact .cons _ _ (aN _ b)
theorem Ol{l:OpenLaw}{n:Nat}(bt:l.most=some n){P:Params}{h:bL}{args:List WData}{vals:List Value}
 (xa:l.row.toRowW.claim.pre args=true) (zy:WellAll P h vals args) :
 ∃ a ai ns,vals=[Value.ref a]/\args=[WData.list (ns.map WData.int)]/\h.get? a=some { cls:=.type "list", data:=.seq ai.toArray }/\ky ai ns/\ns.length<=n:=by
 have Om:WShape.hasAll [] args [.list .int]=true:=(pre_splitW xa).1;have aE:l.pre.holds [] { args:=args }=true:=(pre_splitW xa).2;obtain ⟨d,r,rfl,ak,aq⟩:=hasAllW_cons Om;obtain rfl:=hasAllW_nil aq;obtain ⟨xs,rfl,aT⟩:=hasW_list ak;obtain ⟨ns,rfl⟩:=items_int aT
 have hlen:ns.length<=n:=by
  unfold OpenLaw.pre at aE
  have cb:(WTm.not (.lt (.lit (.int (n:Int))) (.len (.arg 0)))).holds [] { args:=[.list (ns.map .int)] }=true:=by
   have cb:=(holds_andW aE).1;rw [bt] at cb;exact cb
  have dM:=condW_of cb (w_not (w_lt w_lit (w_len_list (w_arg rfl))));rw [bS] at dM;refine Nat.le_of_not_lt λ q=>?_
  have gc:(n:Int) < ((ns.length:Nat):Int):=by omega
  first
   | (rw [decide_eq_true gc] at dM;exact absurd dM (by decide))
   | (simp at dM;omega)
 cases zy with
 | cons ll nF=>
  cases nF
  cases ll with
  | list a4 fZ=>exact ⟨_,_,ns,rfl,rfl,a4,Oj ns _ fZ,hlen⟩
theorem On(l:OpenLaw)(args:List WData):l.row.toRowW.claim.post args (.bool true) args=true:=
 postW_of (r:=l.row.toRowW) (X:=(true==true))
  (show WShape.has [] (.bool true) .bool=true by first | rfl | decide | simp [WShape.has,WShape.arms,WShape.armsAll])
  (show (WTm.eq .res (.lit (.bool true))).value [] { args:=args,res:=some (.bool true),after:=args }=some (.bool (true==true)) from w_eq_bool (w_res rfl) w_lit) rfl
theorem Oo{l:OpenLaw}{n:Nat}{q:ck}{loose:List Str}{rW:(Str->Option Value)->bL->Prop}{mI:bW->bL->Prop}{d:DefRec}
 (bt:l.most=some n) (t9:d.params.defaults=[])
 (call:∀(w:bW)(s₀ dC:aC)(mg jo:Str->Option Value)(fa:Addr)(o:Obj)(pm cd doc:Value)(a:Addr)(ai:List Value)(ns:List Int),
  Ground q loose [] rW w s₀ mg jo dC.heap->mI w dC.heap →
  dC.heap.get? fa=some o->o.data=.func (docDef d.name d.params d.body d.scope pm cd doc)->dC.heap.CodeRec cd d.name->mg d.name=some (.ref fa) →
  dC.heap.get? a=some { cls:=.type "list", data:=.seq ai.toArray }->ky ai ns->ns.length<=n->dC.gens=#[] →
  hT (aI l.prog w) rx (.call (.ref fa) ⟨[.ref a],[]⟩) (λ r s'=>r=.ok (.ret (.bool true))/\OldK dC.heap s'.heap/\s'.os=dC.os/\oI s'.gens) dC) :
 WalkO q loose rW mI l.row.toRowW d [] (λ f ai=>PySem.call f ai):=by
 intro w s₀ dC mg jo G Y fa o pm cd doc w3 dO a4 hd e3 jx hmg aZ args vals as xa acN acO zy acP;obtain rfl:w3=.none:=Dflts.none jx t9;obtain rfl:dO=.none:=Dflts.noKw jx;obtain ⟨a,ai,ns,rfl,rfl,zz,hints,hlen⟩:=Ol bt xa zy;refine enter_call (nj (call w s₀ dC mg jo fa o pm cd doc a ai ns G Y a4 (fd_plain hd) e3 hmg zz hints hlen aZ) λ r s' bv=>?_);obtain ⟨rfl,aq,aT,cb⟩:=bv;exact ⟨.inl ⟨.bool true,.bool true,[],rfl,λ _=>rfl,.bool true,On l _,λ _=>⟨List.Pairwise.nil,λ _ hm=>(nomatch hm)⟩⟩,aq,aT,cb⟩
end FV
namespace L2
open PySem PySem.Spec PyProof.Rows
theorem zA:∀{ai:List Value}{ns:List Int},ky ai ns->Vals (ns.map V.int) ai
 | _,_,.nil=>.nil
 | _,_,.cons n t h=>.cons ⟨t,rfl⟩ (zA h)
def j7(s:bB):ww:=match s with
 | .FunctionDef _ a _ _ _ _ _ _ _ _=>a
 | _=>{ posonlyargs:=[],args:=[],vararg:=none,kwonlyargs:=[],kw_defaults:=[],kwarg:=none,defaults:=[] }
def gP(s:bB):List bB:=match s with
 | .FunctionDef _ _ b _ _ _ _ _ _ _=>b
 | _=>[]
def b1(s:bB):eC:=match s with
 | .FunctionDef _ _ _ _ _ _ sc _ _ _=>sc
 | _=>{ kind:=.function,names:=[],isGenerator:=false,isCoroutine:=false }
abbrev cc:o3:=λ _ _ _ _ _ _=>False
abbrev o9:hW:=λ _ _ _=>False
theorem FW{X:bb}:zr cc X o9:=λ _ _ _ _ _ _ _ h=>h.elim
structure c3(K:bl)(x qual:Str)(st:bB)(f:Addr)(fd:f9):Prop where
 ex:∃(b6:Value)(dA:Option Addr)(dO doc pm:Value)(an:Option Addr)(bE ct:Value)(gM:Array (Option Value)),
  fd=k_ x qual (j7 st) (gP st) (b1 st) .none dO doc pm an bE ct/\K.lookup f=some ⟨b6,dA,.func fd,gM⟩/\p4 K bE qual=true
 b0:mq K (.ref f)=true
section
variable{P:ck}{w:bW}{K:bl}{mg:Str->Option Value}{base:bL}
theorem c3.ok{x qual:Str}{st:bB}{f:Addr}{fd:f9}{N ps:List Str}{k:Nat}{sp:fK}(F:c3 K x qual st f fd)(S:c9 N ps (b1 st))(len:∀ ai H Q E,sp ai H Q E->ai.length=ps.length)
 (j6:∀(bE:Value)(A:c1)(outer:List Env)(s:aC)(H:ay)(ai:List V)(Q:cK)(E:hW),eF k (A.deeper (mi qual (b1 st) s.heap.objs.size f bE))->sp ai H Q E →
  ∃ t,iT (nK cc P w K mg base N qual (b1 st) f bE A outer s H E).oU (gP st) t/\t { nx:=λ _ aj=>Q .bJ aj,rt:=Q } (jw N ai) H):cp P w K mg base cc (k+1) f fd ps sp:=by
 obtain ⟨b6,dA,dO,doc,pm,an,bE,ct,gM,rfl,lk,e3⟩:=F.ex;refine FA lk e3 S len λ A outer s H ai Q E am io=>?_;obtain ⟨t,h,q⟩:=j6 bE A outer s H ai Q E am io;exact ⟨t,h.oU,q⟩
theorem c3.binds{x qual:Str}{st:bB}{f:Addr}{fd:f9}{ps:List Str}(F:c3 K x qual st f fd)
 (h:∀(dO doc pm:Value)(an:Option Addr)(bE ct:Value)(us:List Value),us.length=ps.length->bindArgs (k_ x qual (j7 st) (gP st) (b1 st) .none dO doc pm an bE ct) ⟨us,[]⟩=pure (ps.zip us)):Binds K fd ps []:=by
 obtain ⟨b6,dA,dO,doc,pm,an,bE,ct,gM,rfl,lk,e3⟩:=F.ex;exact .all (h dO doc pm an bE ct)
theorem Op{x qual:Str}{st:bB}{f:Addr}{b6:Value}{dA an:Option Addr}{gM:Array (Option Value)}{dO doc pm bE ct:Value}(l:K.lookup f=some ⟨b6,dA,.func (k_ x qual (j7 st) (gP st) (b1 st) .none dO doc pm an bE ct),gM⟩)
 (c:p4 K bE qual=true) (k:mq K (.ref f)=true):c3 K x qual st f (k_ x qual (j7 st) (gP st) (b1 st) .none dO doc pm an bE ct):=⟨⟨b6,dA,dO,doc,pm,an,bE,ct,gM,rfl,l,c⟩,k⟩
end
def lw(H aj:ay):Prop:=∀ b o,H b=some o->aj b=some o
theorem lw.refl(H:ay):lw H H:=λ _ _ h=>h
def fL(cells:List (Str × Addr)):List (Str × kx)->List (Str × Addr)->List (Str × Addr)
 | [],acc=>acc
 | (n,k)::r,acc=>fL cells r (if k=.free then (n,(cells.lookup n).getD 0)::acc else acc)
theorem FX{α β:Type}{f:α->β->Sem (ForInStep β)}(g:β->α->β):∀(l:List α)(c:β),(∀ x∈l,∀ c,f x c=pure (.yield (g c x)))->forIn l c f=pure (l.foldl g c)
 | [],_,_=>rfl
 | x::l,c,h=>by
  rw [wC,h x fh,pure_bind];exact FX g l _ λ y bD=>h y (ig _ bD)
theorem FY(cells:List (Str × Addr)):∀(names:List (Str × kx))(acc:List (Str × Addr)),
 names.foldl (λ c y=>if y.2=.free then (y.1,(cells.lookup y.1).getD 0)::c else c) acc=fL cells names acc
 | [],_=>rfl
 | (n,k)::r,acc=>by
  rw [List.foldl_cons,fL];exact FY cells r _
theorem xb{scope:eC}{env:Env}(h:∀ y∈scope.names,y.2=.free->∃ c,env.cells.lookup y.1=some c):wu scope env=pure (fL env.cells scope.names []):=by
 rw [<- FY];simp only [wu];rw [FX (λ c y=>if y.2=.free then (y.1,(env.cells.lookup y.1).getD 0)::c else c) scope.names [] λ x aF c=>?_]
 ·rfl
 ·obtain ⟨n,k⟩:=x;by_cases aO:k=.free
  ·subst aO;obtain ⟨a,e⟩:=h _ aF rfl;have cD:env.cells.lookup n=some a:=e;simp [cellOf,cD]
  ·have ag:(k==NameKind.free)=false:=by simpa using aO
   simp [ag,aO]
theorem FZ{cells:List (Str × Addr)}:∀(names:List (Str × kx))(acc:List (Str × Addr)),(∀ y∈names,y.2=.free->∃ c,cells.lookup y.1=some c)->(∀ x c,acc.lookup x=some c->cells.lookup x=some c) →
 ∀ x c,(fL cells names acc).lookup x=some c->cells.lookup x=some c
 | [],_,_,aD=>aD
 | (n,k)::r,acc,h,aD=>by
  rw [fL];refine FZ r _ (λ y bD=>h y (ig _ bD)) λ x c e=>?_;by_cases aO:k=.free
  ·rw [if_pos aO] at e;obtain ⟨a,de⟩:=h (n,k) fh aO;have F0:cells.lookup n=some a:=de;rw [nz] at e
   cases aF:x==n with
   | true=>
    rw [aF] at e;have aL:some ((cells.lookup n).getD 0)=some c:=e;rw [F0] at aL;have d_:a=c:=e1.inj aL;rw [eq_of_beq aF,F0,d_]
   | false=>
    rw [aF] at e;exact aD x c e
  ·rw [if_neg aO] at e;exact aD x c e
theorem F1{cells:List (Str × Addr)}{x:Str}:∀(names:List (Str × kx))(acc:List (Str × Addr)),(acc.lookup x).isSome=true->((fL cells names acc).lookup x).isSome=true
 | [],_,h=>h
 | (n,k)::r,acc,h=>by
  rw [fL];refine F1 r _ ?_;by_cases aO:k=.free
  ·rw [if_pos aO,nz]
   cases aF:x==n with
   | true=>rfl
   | false=>exact h
  ·rw [if_neg aO];exact h
theorem zB{cells:List (Str × Addr)}{x:Str}:∀(names:List (Str × kx))(acc:List (Str × Addr)),(x,NameKind.free)∈names->((fL cells names acc).lookup x).isSome=true
 | [],_,h=>nomatch h
 | (n,k)::r,acc,h=>by
  rw [fL];rcases dJ.mp h with e | h
  ·cases e;refine F1 r _ ?_;rw [if_pos rfl,nz,beq_self_eq_true];rfl
  ·exact zB r _ h
theorem F2{g:Str->kx->kx}{x:Str}:∀ names:List (Str × kx),(names.map λ y=>(y.1,g y.1 y.2)).lookup x=(names.lookup x).map (g x)
 | []=>rfl
 | (n,k)::r=>by
  rw [ew,nz,nz]
  cases aF:x==n with
  | true=>
   have e:=eq_of_beq aF;subst e;rfl
  | false=>exact F2 r
theorem Oq(scope:eC)(env:Env):(pW scope env).names=scope.names.map λ y=>(y.1,if (y.2==.free&&env.scope.kind==.function&&env.kindOf y.1==some .cell)=true then NameKind.cell else y.2):=by
 unfold pW;refine List.map_congr_left λ y _=>?_;obtain ⟨n,k⟩:=y;show (if (k==.free&&env.scope.kind==.function&&env.kindOf n==some .cell)=true then (n,NameKind.cell) else (n,k))=_;split<;>simp_all
theorem F3(scope:eC)(env:Env)(x:Str):(pW scope env).names.lookup x=(scope.names.lookup x).map λ k=>if (k==.free&&env.scope.kind==.function&&env.kindOf x==some .cell)=true then NameKind.cell else k:=by
 rw [Oq];exact F2 (g:=λ n k=>if (k==.free&&env.scope.kind==.function&&env.kindOf n==some .cell)=true then NameKind.cell else k) scope.names
def c0(X:bb)(scope:eC)(N':List Str)(C:Addr)(ex:List Addr)(s:aC)(H:ay):bb:=
 { X with N:=N',s₀:=s,H₀:=H,env:=jR scope (fL X.env.cells scope.names []) C X.env,outer:=X.stack,stack:=X.stack,ex:=ex,fn:=λ _=>false,pn:=[],xe:=λ _ _=>False }
def mJ(nt:Nat)(cap:List Nat)(σ:St):St:=mj nt none++cap.map λ i=>(σ[i]?).join
structure ey(X:bb)(scope:eC)(N':List Str)(nt:Nat)(cap:List Nat):Prop where
 kind:scope.kind=.function
 o_:∀ y∈scope.names,y.2≠.cell
 locs:∀ y∈scope.names,y.2=.local->scope.names.lookup y.1=some .local
 frees:∀ y∈scope.names,y.2=.free->X.env.scope.names.lookup y.1=some .cell\/X.env.scope.names.lookup y.1=some .free
 len:N'.length=nt+cap.length
 Os:∀(j i:Nat)(x:Str),cap[j]?=some i->N'[nt+j]?=some x->X.N[i]?=some x/\scope.names.lookup x=some .free
section
variable{X:bb}{scope:eC}{N':List Str}{nt:Nat}{cap:List Nat}{pins:List (Addr × Obj)}{σ:St}{H:ay}{s:aC}
theorem ey.has(c:ey X scope N' nt cap)(ok:X.Ok):∀ y∈scope.names,y.2=.free->∃ a,X.env.cells.lookup y.1=some a:=λ y bD aO=>ok.has y.1 (c.frees y bD aO)
theorem ey.cells(c:ey X scope N' nt cap)(ok:X.Ok){x:Str}{a:Addr}(e:(fL X.env.cells scope.names []).lookup x=some a):X.env.cells.lookup x=some a:=
 FZ scope.names [] (c.has ok) (λ _ _ z=>by simp at z) x a e
theorem ey.Ot(c:ey X scope N' nt cap){x:Str}(h:(pW scope X.env).names.lookup x=some .cell\/(pW scope X.env).names.lookup x=some .free):(x,NameKind.free)∈scope.names:=by
 rw [F3] at h
 cases q:scope.names.lookup x with
 | none=>rw [q] at h;simp at h
 | some k=>
  have hm:=mu q;have nP:k≠.cell:=c.o_ _ hm;rw [q] at h;by_cases aO:k=.free
  ·subst aO;exact hm
  ·have ag:(k==NameKind.free)=false:=by simpa using aO
   simp only [nB,ag,Bool.false_and,Bool.false_eq_true,if_false,e1.injEq] at h;rcases h with h | h
   ·exact absurd h nP
   ·exact absurd h aO
theorem Inv.comp(I:Inv X pins σ H s)(c:ey X scope N' nt cap){fp:List Addr}(hf:∀ b∈fp,gJ X pins H b)(j8:∀ b∈fp,b < s.heap.objs.size){h':bL}{m:Str->Option Value}{t':Nat}
 (aO:∀ b o,s.heap.get? b=some o->h'.get? b=some o) (bt:h'.Ns s.heap.objs.size m) :
 Inv (c0 X scope N' s.heap.objs.size fp s H) [] (mJ nt cap σ) H { s with heap:=h',toks:=t' }:=by
 have cl:=λ{x:Str} {a:Addr} (e:(fL X.env.cells scope.names []).lookup x=some a)=>c.cells I.ok e
 have acQ:∀ x a,X.env.cells.lookup x=some a->a < s.heap.objs.size:=λ x a e=>by
  obtain ⟨v,q⟩:=I.cell x a e;exact q.lt
 refine ⟨⟨I.ok.mod,c.kind,I.ok.glob,I.ok.blt,b7 _,λ x y a aP aL=>I.ok.inj x y a (cl aP) (cl aL),λ x aF=>?_,λ x a aF=>absurd aF gI,I.ok.hd,I.ok.frames,.inl rfl,λ b ag=>⟨?_,λ x a e=>?_⟩,
  λ b o e=>I.bs b o e,kz I.ok.lg I.aB,λ b o e ag=>?_,λ b ag Ou=>?_,I.stack,λ b ag=>I.EK b ag⟩,
  rfl,I.bare,e2.kept aO,⟨m,bt,λ i x v aP aL d_=>?_⟩,λ x a e=>?_,I.bM.fresh (b7 _),λ x a e=>I.kB x a (cl e),λ p az=>absurd (show p∈([]:List (Addr × Obj)) from az) (by simp),I.bM.kept aO,?_⟩
 ·exact wK.mp (zB scope.names [] (c.Ot aF))
 ·exact dp (j8 b ag)
 ·exact (hf b ag).2.2.2.2.1 x a (cl e)
 ·obtain ⟨f0,f1,f2,c6,_⟩:=hf b ag;rcases c6 with z | z
  ·exact I.ok.tI b o e z
  ·exact absurd (hA (cJ e) (kz I.ok.lg z)) (jU _)
 ·obtain ⟨f0,f1,f2,_⟩:=hf b ag;rcases dJ.mp (I.oR b Ou) with z | z
  ·exact f1 z
  ·exact f2 z
 .
  have Ov:N'[i]?=some x:=aP
  have ar:nt<=i:=by
   refine Nat.le_of_not_lt λ q=>?_;unfold mJ at aL;rw [k5 (by simpa using q),rA,if_pos q] at aL;cases aL
  obtain ⟨j,rfl⟩:=Nat.exists_eq_add_of_le ar;unfold mJ at aL;rw [nw (by simp),tm,Nat.add_sub_cancel_left,eu] at aL
  cases q:cap[j]? with
  | none=>rw [q] at aL;cases aL
  | some k=>
   rw [q] at aL;have xc:(σ[k]?).join=some v:=e1.inj aL
   have pa:σ[k]?=some (some v):=by
    cases z:σ[k]? with
    | none=>rw [z] at xc;cases xc
    | some js=>rw [z] at xc;exact congrArg some xc
   obtain ⟨mK,ff⟩:=c.Os j k x q Ov;have rX:=mu ff;have w4:=c.frees _ rX rfl;obtain ⟨m0,_,aQ⟩:=I.loc;obtain ⟨u,r,lk⟩:=aQ k x v mK pa (.inr w4);refine ⟨u,r,.inr ⟨?_,?_⟩⟩
   ·show (pW scope X.env).names.lookup x=some .cell\/(pW scope X.env).names.lookup x=some .free;rw [F3,ff]
    by_cases z:((NameKind.free==.free&&X.env.scope.kind==.function&&X.env.kindOf x==some .cell)=true)
    ·exact .inl (by rw [nB,if_pos z])
    ·exact .inr (by rw [nB,if_neg z])
   ·rcases lk with ⟨d4,_⟩ | ⟨_,a,e,z⟩
    ·have Ow:X.env.scope.names.lookup x=some .local:=d4;rcases w4 with y | y<;>(rw [Ow] at y;cases y)
    ·obtain ⟨Fo,de⟩:=wK.mp (zB (cells:=X.env.cells) scope.names [] rX);have cD:=cl de;rw [e] at cD;cases cD;obtain ⟨o,a4,hd⟩:=z;exact ⟨a,de,o,aO _ _ a4,hd⟩
 ·obtain ⟨v,o,a4,hd⟩:=I.cell x a (cl e);exact ⟨v,o,aO _ _ a4,hd⟩
 ·show (mJ nt cap σ).length=N'.length;unfold mJ;rw [fs,tm,bS,c.len]
theorem Inv.xd{C:Addr}{fp:List Addr}{σ':St}{aj:ay}{s':aC}(I:Inv X pins σ H s)(j9:C=s.heap.objs.size)(hf:∀ b∈fp,gJ X pins H b){N':List Str}(J:Inv (c0 X scope N' C fp s H) [] σ' aj s') :
 ∃ m,s'.heap.Ns C m/\∀ h',Heap.SameBut C s'.heap h'->Inv X pins σ aj { s' with heap:=h' }:=by
 subst j9;obtain ⟨m,bt,_⟩:=J.loc;refine ⟨m,bt,λ h' ax=>?_⟩;have ne:∀ b o,s.heap.get? b=some o->b≠s.heap.objs.size:=λ b o e=>dp (cJ e);have B:=J.base;refine I.Ma (ch:=fp) J.os ⟨λ b o e n ag aF=>?_,λ b o e n ag aF=>?_,B.free,λ b o e aF=>?_,B.kA,B.jn,B.jZ⟩ (λ b u e=>?_) J.bare λ b ag=>?_
 ·exact (ax.2 b (ne b o e)).trans (B.keep b o e n ag aF)
 ·obtain ⟨cn,q⟩:=B.slot b o e n ag aF;exact ⟨cn,(ax.2 b (ne b o e)).trans q⟩
 ·obtain ⟨cT,q⟩:=B.there b o e aF;exact ⟨cT,(ax.2 b (ne b o e)).trans q⟩
 ·have F4:aj s.heap.objs.size=none:=J.free;refine (J.bM b u e).jk (λ d js hd q=>(ax.2 d ?_).trans q) (λ _ q=>q) λ _ _ q=>q;intro z;subst z;rcases hd with z | z
  ·rw [<- z,F4] at e;cases e
  ·rw [F4] at z;cases z
 ·obtain ⟨f0,f1,f2,c6,f4,fI⟩:=hf b ag;exact ⟨c6,f1,f4,fI⟩
end
def t_(cZ:TI)(g:fe)(aW:TE)(nt:Nat)(cap:List Nat):TE:=λ σ H Q=>cZ σ H λ J H1=>∀ acc,H1 acc=none →
 ∃ W:Nat->Nat->List V->St->ay->Prop,(∃ m,W 0 m [] (mJ nt cap σ) (upd H1 acc (.lst [])))/\∀ i m ys σ' aj,W i m ys σ' aj →
  (J.stop i aj/\Q (.ref acc) aj)\/(J.go i aj/\∀ x aS,J.oY i aj x aS->g x σ' aS λ σ3 dX=>aW σ3 dX λ y h2=>
   h2 acc=some (.lst ys)/\ys.length < sizeLine/\∃ c5,c5 < m/\W (i+1) c5 (ys++[y]) σ3 (upd h2 acc (.lst (ys++[y]))))
def ua(cZ:TI)(g:fe)(bo:TT)(aW:TE)(nt:Nat)(cap:List Nat):TE:=λ σ H Q=>cZ σ H λ J H1=>∀ acc,H1 acc=none →
 ∃ W:Nat->Nat->List V->St->ay->Prop,(∃ m,W 0 m [] (mJ nt cap σ) (upd H1 acc (.lst [])))/\∀ i m ys σ' aj,W i m ys σ' aj →
  (J.stop i aj/\Q (.ref acc) aj)\/(J.go i aj/\∀ x aS,J.oY i aj x aS->g x σ' aS λ σ3 dX=>bo σ3 dX λ b fJ=>if b=true then aW σ3 fJ λ y h2=>
   h2 acc=some (.lst ys)/\ys.length < sizeLine/\∃ c5,c5 < m/\W (i+1) c5 (ys++[y]) σ3 (upd h2 acc (.lst (ys++[y])))
   else ∃ c5,c5 < m/\W (i+1) c5 ys σ3 fJ)
theorem Ox(elt target iter c:bg)(scope:eC)(pos:Pos)(it acc:Value)(env:Env) :
 rr (.ListComp elt [⟨target,iter,[c],0⟩] scope pos) 0 it acc env=(oB iter.pos >>= λ _=>gu it >>= λ r=>match r with
  | none=>pure (.done .next)
  | some v=>ta target it v >>= λ _=>XV target env v >>= λ _=>(forIn [c] true λ c r=>if r=true then do let ok ← nq c env (eval c env);pure (ForInStep.yield ok) else pure (ForInStep.yield r)) >>= λ ok=>
   if ok=true then (eval elt env >>= λ x=>call (.builtin "list.append") [acc,x] >>= λ _=>pure ()) >>= λ _=>again (.compLoop (.ListComp elt [⟨target,iter,[c],0⟩] scope pos) 0 it acc env)
   else again (.compLoop (.ListComp elt [⟨target,iter,[c],0⟩] scope pos) 0 it acc env)):=by
 rfl
theorem Oy(c:bg)(env:Env):(forIn [c] true λ c r=>if r=true then do let ok ← nq c env (eval c env);pure (ForInStep.yield ok) else pure (ForInStep.yield r))=nq c env (eval c env):=by
 rw [wC,if_pos rfl];simp only [bind_assoc,pure_bind,List.forIn_nil,bind_pure]
theorem F5(elt target iter c:bg)(scope:eC)(pos:Pos)(it acc:Value)(env:Env) :
 rr (.ListComp elt [⟨target,iter,[c],0⟩] scope pos) 0 it acc env=(oB iter.pos >>= λ _=>gu it >>= λ r=>match r with
  | none=>pure (.done .next)
  | some v=>ta target it v >>= λ _=>XV target env v >>= λ _=>nq c env (eval c env) >>= λ ok=>
   if ok=true then (eval elt env >>= λ x=>call (.builtin "list.append") [acc,x] >>= λ _=>pure ()) >>= λ _=>again (.compLoop (.ListComp elt [⟨target,iter,[c],0⟩] scope pos) 0 it acc env)
   else again (.compLoop (.ListComp elt [⟨target,iter,[c],0⟩] scope pos) 0 it acc env)):=by
 rw [Ox,Oy]
section
variable{X:bb}{scope:eC}{N':List Str}{nt:Nat}{cap:List Nat}{elt iter bp:bg}{pos:Pos}{cZ:TI}{g:fe}{aW:TE}
theorem Oz(aE:X.calm=true)(c:ey X scope N' nt cap)(ar:mC X bp iter cZ)(aZ:∀ C ex s H,lj (c0 X scope N' C ex s H) bp g)(he:∀ C ex s H,bX (c0 X scope N' C ex s H) elt aW)
 (ax:∀ x,iN iter X.env x=pure x:=by intro _;rfl):bX X (.ListComp elt [⟨bp,iter,[],0⟩] scope pos) (t_ cZ g aW nt cap):=by
 intro pins s σ H Q I h;rw [eval_ListComp];refine wc (use:=none) rfl ax (xb (c.has I.ok)) c.kind c.locs (b5 (ar pins s σ H _ I h) λ v s1 ak=>b5 ak λ rQ s2 aq=>?_);obtain ⟨it,fp,e4,J,aS,rfl,cy,T,j1,f2,R⟩:=aq;have jx:aS s2.heap.objs.size=none:=cy.bM.fresh (b7 _);obtain ⟨W,⟨m0,hX⟩,turn⟩:=R _ jx
 have dd:Inv X pins σ (upd aS s2.heap.objs.size (.lst [])) { s2 with heap:=s2.heap.push { cls:=.type "list", dict:=none,data:=.seq ([]:List Value).toArray } }:=
  cy.laid (t':=s2.toks) (λ b u e=>cm _ e) (b7 _) ⟨e0 _,[],0,.nil,d2 _ rfl⟩
 have hl:∀ b∈fp,b < s2.heap.objs.size:=λ b ag=>by
  obtain ⟨o,e,_⟩:=T.obj _ _ j1 b ag;exact cJ e
 have c6:∀ b∈fp,gJ X pins (upd aS s2.heap.objs.size (.lst [])) b:=λ b ag=>⟨by rw [cV (dp (hl b ag))];exact (f2 b ag).1,(f2 b ag).2⟩
 have ju:e4 0 (s2.heap.push { cls:=.type "list", dict:=none,data:=.seq ([]:List Value).toArray }):=T.keep _ _ _ j1 λ b _ o e=>cm _ e;generalize lx:s2.heap.push { cls:=.type "list", dict:=none,data:=.seq ([]:List Value).toArray }=aT at dd ju
 have iW:s2.heap.objs.size < aT.objs.size:=by rw [<- lx,lb];exact rG _
 generalize qe:s2.heap.objs.size=D at dd c6 jx hX turn iW hl;refine hu ?_;rw [qe,lx];refine we c.o_ (by intro y bD;simp at bD) (λ cb ly lz=>?_) c.kind
 dsimp only at ly lz ⊢
 have lA:∀ b o,aT.get? b=some o->cb.get? b=some o:=λ b o e=>(lz.2 b (dp (cJ e))).trans (cm _ e);have hZ:=dd.comp (t':=s2.toks+([]:List (Str × Value)).length) c c6 (λ b ag=>jV (hl b ag) iW) lA ly;have lB:e4 0 cb:=T.keep _ _ _ ju λ b _ o e=>lA b o e
 dsimp only at hZ
 have fin:∀{σ':St}{aj:ay}{s':aC},Inv (c0 X scope N' aT.objs.size fp { s2 with heap:=aT } (upd aS D (.lst []))) [] σ' aj s'->Q (.ref D) aj →
  WF (aI X.prog X.w) X.A X.xe none (da X pins σ Q) (.ref D) aT.objs.size (.ok .next) s':=λ{σ' aj s'} nQ q=>by
  obtain ⟨m,bt,dt⟩:=dd.xd rfl c6 nQ;exact ⟨m,bt,λ h' kG=>⟨.ref D,aj,dt h' kG,rfl,q⟩⟩
 have hi:∀{aj:ay},(∀ b∈fp,aj b=none)->∀ b∈fp,gJ (c0 X scope N' aT.objs.size fp { s2 with heap:=aT } (upd aS D (.lst []))) [] aj b:=λ{aj} bt b ag=>by
  refine ⟨bt b ag,dp (jV (hl b ag) iW),λ z=>?_,.inl ag,λ x a e=>(c6 b ag).2.2.2.2.1 x a (c.cells I.ok e),λ p az=>absurd (show p∈([]:List (Addr × Obj)) from az) (by simp)⟩;rcases dJ.mp (I.oR b z) with y | y
  ·exact (c6 b ag).2.1 y
  ·exact (c6 b ag).2.2.1 y
 have loop:hT (aI X.prog X.w) X.A (.compLoop (.ListComp elt [⟨bp,iter,[],0⟩] scope pos) 0 (.ref it) (.ref D) (jR scope (fL X.env.cells scope.names []) aT.objs.size X.env))
  (WF (aI X.prog X.w) X.A X.xe none (da X pins σ Q) (.ref D) aT.objs.size) { s2 with heap:=cb,toks:=s2.toks+([]:List (Str × Value)).length }:=by
  refine wm rfl (λ n s'=>∃ i ys σ' aj,Inv (c0 X scope N' aT.objs.size fp { s2 with heap:=aT } (upd aS D (.lst []))) [] σ' aj s'/\e4 i s'.heap/\(∀ b∈fp,aj b=none)/\W i n ys σ' aj) (λ n s5 iX=>?_) m0 ⟨0,[],_,_,hZ,lB,λ b ag=>(c6 b ag).1,hX⟩;obtain ⟨i,ys,σ5,fJ,j2,iV,j3,qf⟩:=iX;show aG _ X.A ((rr (.ListComp elt [⟨bp,iter,[],0⟩] scope pos) 0 (.ref it) (.ref D) (jR scope (fL X.env.cells scope.names []) aT.objs.size X.env)).onRaise (λ x=>do wx x (jR scope (fL X.env.cells scope.names []) aT.objs.size X.env);wh x)) _ _ s5;refine wp ?_;rw [compTurn_list1];rcases turn i n ys σ5 fJ qf with ⟨stop,nG⟩ | ⟨go,step⟩
  ·refine ao (k3 (ao (eg (T.done (c0 X scope N' aT.objs.size fp { s2 with heap:=aT } (upd aS D (.lst []))) rfl rfl rfl aE i [] s5 σ5 fJ (λ _ _=>False) j2 (hi j3) iV stop) (λ r gK ⟨am,nH⟩=>?_) λ _ _ z=>z.elim)));subst am;exact a3 (fin nH nG)
  ·refine ao (k3 (ao (eg (T.item (c0 X scope N' aT.objs.size fp { s2 with heap:=aT } (upd aS D (.lst []))) rfl rfl rfl aE i [] s5 σ5 fJ (λ _ _=>False) j2 (hi j3) iV go) (λ r gK ⟨u,am,j_⟩=>?_) λ _ _ z=>z.elim)));subst am;refine ao (eg j_ (λ _ j4 ⟨x,fu,hj,nI,qg,hn,qh⟩=>?_) λ _ _ z=>z.elim);have qi:=hj.pinned (hi qh) (T.obj _ _ hn);refine ao (eg (aZ _ _ _ _ _ j4 σ5 fu x u _ qi nI (step x fu qg)) (λ _ nR ⟨σ8,qj,qk,ql⟩=>?_) λ _ _ z=>z.elim);refine ao (ao (eg (he _ _ _ _ _ nR σ8 qj _ qk ql) (λ qm qn ⟨y,nS,ka,zC,zD,ub,c5,kb,qo⟩=>?_) λ _ _ z=>z.elim))
   refine ao (eg (t8 (X:=c0 X scope N' aT.objs.size fp { s2 with heap:=aT } (upd aS D (.lst []))) _ qn σ8 nS (.ref D) [y] (.ref D) [qm] (λ v lC=>v=.bJ/\lC=upd nS D (.lst (ys++[y]))) ka rfl (.cons zC .nil) ⟨D,ys,y,rfl,rfl,zD,ub,rfl,rfl⟩)
    (λ _ zE ⟨v10,lC,iY,_,_,qp⟩=>?_) λ _ _ z=>z.elim)
   subst qp;refine a3 (a3 ⟨rfl,c5,kb,i+1,ys++[y],σ8,_,iY.mD,?_,λ b ag=>?_,qo⟩)
   ·exact T.keep _ _ _ hn λ b ag o e=>(iY.pin (b,o) (d6 _ (d6 _ (jt ag e)))).1
   ·obtain ⟨o,e,d⟩:=T.obj _ _ hn b ag;exact (iY.pin (b,o) (d6 _ (d6 _ (jt ag e)))).2.1
 exact wd loop (T.self _ 0 _ _ _ lB loop)
end
structure Got(P:ck)(w:bW)(K:bl)(mg:Str->Option Value)(base:bL)(k:Nat)(x:Str)(ps:List Str)(sp:fK):Prop where
 ex:∃(f:Addr)(fd:f9),cp P w K mg base cc k f fd ps sp/\mg x=some (.ref f)/\mq K (.ref f)=true/\Binds K fd ps []
section
variable{X:bb}{k j:Nat}{x:Str}{ps:List Str}{sp:fK}{p pos:Pos}{e:bg}{ah:List bg}{t:eD}
theorem OA(G:Got X.prog X.w X.K X.mg X.base k x ps sp)(am:eF j X.A)(aO:k<=j)(aZ:di X x)(aD:hc X (e::ah) t)(gh:(x==("__debug__" : Str))=false:=by decide)
 (he:dv (e::ah) X.env=(false,eval e X.env)::dv ah X.env:=by rfl) (fX:(fS pos (dv ah X.env)).any (·.1)=false:=by rfl) :
 bX X (.Call (.Name x p) (e::ah) [] pos) (w1 sp [] o9 t):=by
 obtain ⟨f,fd,F,hm,b0,b⟩:=G.ex;exact Nt F (am.mono aO) aZ hm b0 b .nil FW aD gh he fX
end
section
variable{X:bb}
theorem OB:d8 X (gH .FloorDiv) (rS (λ _ j=>0 < j/\j < 2 ^ 64) λ i j=>.int (i / j)):=wZ λ i j t u s E Q aE q=>by
 have h0:j≠0:=by omega
 have ak:j.natAbs.log2 < 9000:=by
  have aP:j.natAbs < 2 ^ 64:=by omega
  exact jV ((Nat.log2_lt (by omega)).mpr aP) (by decide)
 have e:i.fdiv j=i / j:=Int.fdiv_eq_ediv_of_nonneg i (by omega);exact floordiv_int h0 (by rw [e];exact q) (.inl (PyProof.noPylong_of_log2 ak))
theorem OC(l b:Addr)(items uc:Array Value)(n ff:Nat)(o5:Option Addr)(o6:Array (Option Value))(h0:¬(!items.isEmpty&&Builtin.List.listTooLong (items.size+uc.size))=true)(ak:items.size<=sizeLine)(aq:items.size+uc.size<=sizeLine+1) :
 Meets (Builtin.«list.extend» ⟨[.ref l,.ref b],[]⟩) (λ _ R s=>s.heap.get? l=some { cls:=.type "list", dict:=none,data:=.seq items n,slots:=#[] } ∧
  s.heap.get? b=some { cls:=.type "tuple", dict:=o5,data:=.seq uc ff,slots:=o6 }/\R (.ok (.ret Value.none)) { s with heap:=s.heap.update l (Obj.mapSeq λ x=>x++uc),toks:=s.toks }):=
 .of_wp λ prog w A R s h=>by
  obtain ⟨az,g,d,tk,os⟩:=s;obtain ⟨aQ,ag,h⟩:=h;have f1:=AutoSeq1.idx_int;have f2:=AutoSeq1.sub_tuple_tuple;have c6:=AutoSeq1.sub_list_list;have f4:=AutoSeq1.sub_tuple_list;have fI:=AutoSeq1.sub_list_tuple
  have zF:(items++uc).size<=sizeLine+1:=by rw [Array.size_append];exact aq
  wp_walk using (nh aQ rfl (hz:=ak) (_hz':=zF)),wpAny_loadPart' aQ,wpAny_loadPart' ag
  exact ⟨_,rfl,h⟩
def OD(K:bl):V->List V->ay->cK->Prop:=λ x ai H Q=>∃ l b xs zs,x=.ref l/\ai=[.ref b]/\H l=some (.lst xs)/\dq K H b zs/\xs.length+zs.length<=sizeLine/\Q .bJ (upd H l (.lst (xs++zs)))
theorem OE:w9 X "list.extend" (OD X.K):=by
 intro pins s σ H x ai v us Q I bu be h;obtain ⟨l,b,xs,zs,rfl,rfl,h1,gj,hz,q⟩:=h;cases bu;obtain ⟨u,rfl,dP⟩:=be.one;cases dP;obtain ⟨z,aM,n,r,aQ,e⟩:=I.qd h1;obtain ⟨dk,bK,⟨⟨dE,o5,acR,o6⟩,aL,o7,ff,hd2⟩,pb⟩:=I.tuple gj;simp only at o7 hd2;subst o7 hd2;have hE:=bK.length
 have hsz:aM.toArray.size+dk.toArray.size<=sizeLine:=by rw [c_,c_];omega
 have zx:¬ (!aM.toArray.isEmpty&&Builtin.List.listTooLong (aM.toArray.size+dk.toArray.size))=true:=by
  rw [FT hsz,Bool.and_false];exact gI
 refine wt F.slot_list_extend ⟨_,e,rfl⟩ F.entry_list_extend (F.args_list_extend_2 _ _) (OC l b aM.toArray dk.toArray n ff o5 o6 zx (by rw [c_];omega) (by omega)) ⟨e,aL,?_⟩;refine ⟨.bJ,_,I.w_ (its':=aM++dk) h1 e (by simp) (r.append bK) ?_,rfl,q⟩;rw [fs];omega
theorem OF(aE:X.calm=true):jv X (.builtin "sum") (λ xs H Q=>∃(p:Addr)(ns:List Int),xs=[.ref p]/\d7 X.K H p (ns.map V.int)/\Q (.int ns.sum) H):=by
 intro pins s σ H xs us Q I r h;obtain ⟨p,ns,rfl,az,dB⟩:=h;obtain ⟨u,rfl,dP⟩:=r.one;cases dP;obtain ⟨aM,be,cW,_⟩:=I.list az;have ar:=FG be;obtain ⟨kc,e⟩:=ar.allInts.items;have aQ:=cW.isList;rw [e] at aQ;refine PySem.sum_intListG (I.ok.hd aE) aQ λ h' tk t' aO=>?_;refine ⟨.int ns.sum,H,I.kept aO,⟨t',?_⟩,dB⟩;have aL:numsOf aM.toArray.toList=ns:=ar.numsOf;rw [e,PySem.nums_intItems] at aL;rw [PySem.preSum_eq,wD (by simp),aL]
end
section
variable{X:bb}{scope:eC}{N':List Str}{nt:Nat}{cap:List Nat}{elt iter bp:bg}{pos:Pos}{cZ:TI}{g:fe}{aW:TE}
theorem OG{ct:bg}{bo:TT}(aE:X.calm=true)(c:ey X scope N' nt cap)(ar:mC X bp iter cZ)(aZ:∀ C ex s H,lj (c0 X scope N' C ex s H) bp g)(bT:∀ C ex s H,iR (c0 X scope N' C ex s H) ct bo)(he:∀ C ex s H,bX (c0 X scope N' C ex s H) elt aW)
 (ax:∀ x,iN iter X.env x=pure x:=by intro _;rfl):bX X (.ListComp elt [⟨bp,iter,[ct],0⟩] scope pos) (ua cZ g bo aW nt cap):=by
 intro pins s σ H Q I h;rw [eval_ListComp];refine wc (use:=none) rfl ax (xb (c.has I.ok)) c.kind c.locs (b5 (ar pins s σ H _ I h) λ v s1 ak=>b5 ak λ rQ s2 aq=>?_);obtain ⟨it,fp,e4,J,aS,rfl,cy,T,j1,f2,R⟩:=aq;have jx:aS s2.heap.objs.size=none:=cy.bM.fresh (b7 _);obtain ⟨W,⟨m0,hX⟩,turn⟩:=R _ jx
 have dd:Inv X pins σ (upd aS s2.heap.objs.size (.lst [])) { s2 with heap:=s2.heap.push { cls:=.type "list", dict:=none,data:=.seq ([]:List Value).toArray } }:=
  cy.laid (t':=s2.toks) (λ b u e=>cm _ e) (b7 _) ⟨e0 _,[],0,.nil,d2 _ rfl⟩
 have hl:∀ b∈fp,b < s2.heap.objs.size:=λ b ag=>by
  obtain ⟨o,e,_⟩:=T.obj _ _ j1 b ag;exact cJ e
 have c6:∀ b∈fp,gJ X pins (upd aS s2.heap.objs.size (.lst [])) b:=λ b ag=>⟨by rw [cV (dp (hl b ag))];exact (f2 b ag).1,(f2 b ag).2⟩
 have ju:e4 0 (s2.heap.push { cls:=.type "list", dict:=none,data:=.seq ([]:List Value).toArray }):=T.keep _ _ _ j1 λ b _ o e=>cm _ e;generalize lx:s2.heap.push { cls:=.type "list", dict:=none,data:=.seq ([]:List Value).toArray }=aT at dd ju
 have iW:s2.heap.objs.size < aT.objs.size:=by rw [<- lx,lb];exact rG _
 generalize qe:s2.heap.objs.size=D at dd c6 jx hX turn iW hl;refine hu ?_;rw [qe,lx];refine we c.o_ (by intro y bD;simp at bD) (λ cb ly lz=>?_) c.kind
 dsimp only at ly lz ⊢
 have lA:∀ b o,aT.get? b=some o->cb.get? b=some o:=λ b o e=>(lz.2 b (dp (cJ e))).trans (cm _ e);have hZ:=dd.comp (t':=s2.toks+([]:List (Str × Value)).length) c c6 (λ b ag=>jV (hl b ag) iW) lA ly;have lB:e4 0 cb:=T.keep _ _ _ ju λ b _ o e=>lA b o e
 dsimp only at hZ
 have fin:∀{σ':St}{aj:ay}{s':aC},Inv (c0 X scope N' aT.objs.size fp { s2 with heap:=aT } (upd aS D (.lst []))) [] σ' aj s'->Q (.ref D) aj →
  WF (aI X.prog X.w) X.A X.xe none (da X pins σ Q) (.ref D) aT.objs.size (.ok .next) s':=λ{σ' aj s'} nQ q=>by
  obtain ⟨m,bt,dt⟩:=dd.xd rfl c6 nQ;exact ⟨m,bt,λ h' kG=>⟨.ref D,aj,dt h' kG,rfl,q⟩⟩
 have hi:∀{aj:ay},(∀ b∈fp,aj b=none)->∀ b∈fp,gJ (c0 X scope N' aT.objs.size fp { s2 with heap:=aT } (upd aS D (.lst []))) [] aj b:=λ{aj} bt b ag=>by
  refine ⟨bt b ag,dp (jV (hl b ag) iW),λ z=>?_,.inl ag,λ x a e=>(c6 b ag).2.2.2.2.1 x a (c.cells I.ok e),λ p az=>absurd (show p∈([]:List (Addr × Obj)) from az) (by simp)⟩;rcases dJ.mp (I.oR b z) with y | y
  ·exact (c6 b ag).2.1 y
  ·exact (c6 b ag).2.2.1 y
 have loop:hT (aI X.prog X.w) X.A (.compLoop (.ListComp elt [⟨bp,iter,[ct],0⟩] scope pos) 0 (.ref it) (.ref D) (jR scope (fL X.env.cells scope.names []) aT.objs.size X.env))
  (WF (aI X.prog X.w) X.A X.xe none (da X pins σ Q) (.ref D) aT.objs.size) { s2 with heap:=cb,toks:=s2.toks+([]:List (Str × Value)).length }:=by
  refine wm rfl (λ n s'=>∃ i ys σ' aj,Inv (c0 X scope N' aT.objs.size fp { s2 with heap:=aT } (upd aS D (.lst []))) [] σ' aj s'/\e4 i s'.heap/\(∀ b∈fp,aj b=none)/\W i n ys σ' aj) (λ n s5 iX=>?_) m0 ⟨0,[],_,_,hZ,lB,λ b ag=>(c6 b ag).1,hX⟩;obtain ⟨i,ys,σ5,fJ,j2,iV,j3,qf⟩:=iX;show aG _ X.A ((rr (.ListComp elt [⟨bp,iter,[ct],0⟩] scope pos) 0 (.ref it) (.ref D) (jR scope (fL X.env.cells scope.names []) aT.objs.size X.env)).onRaise (λ x=>do wx x (jR scope (fL X.env.cells scope.names []) aT.objs.size X.env);wh x)) _ _ s5;refine wp ?_;rw [F5];rcases turn i n ys σ5 fJ qf with ⟨stop,nG⟩ | ⟨go,step⟩
  ·refine ao (k3 (ao (eg (T.done (c0 X scope N' aT.objs.size fp { s2 with heap:=aT } (upd aS D (.lst []))) rfl rfl rfl aE i [] s5 σ5 fJ (λ _ _=>False) j2 (hi j3) iV stop) (λ r gK ⟨am,nH⟩=>?_) λ _ _ z=>z.elim)));subst am;exact a3 (fin nH nG)
  ·refine ao (k3 (ao (eg (T.item (c0 X scope N' aT.objs.size fp { s2 with heap:=aT } (upd aS D (.lst []))) rfl rfl rfl aE i [] s5 σ5 fJ (λ _ _=>False) j2 (hi j3) iV go) (λ r gK ⟨u,am,j_⟩=>?_) λ _ _ z=>z.elim)));subst am;refine ao (eg j_ (λ _ j4 ⟨x,fu,hj,nI,qg,hn,qh⟩=>?_) λ _ _ z=>z.elim);have qi:=hj.pinned (hi qh) (T.obj _ _ hn);refine ao (eg (aZ _ _ _ _ _ j4 σ5 fu x u _ qi nI (step x fu qg)) (λ _ nR ⟨σ8,qj,qk,ql⟩=>?_) λ _ _ z=>z.elim);refine ao (eg (bT _ _ _ _ _ nR σ8 qj _ qk ql) (λ rY qn ⟨nS,ka,nT⟩=>?_) λ _ _ z=>z.elim)
   cases rY with
   | true=>
    rw [if_pos rfl];rw [if_pos rfl] at nT;refine ao (ao (eg (he _ _ _ _ _ qn σ8 nS _ ka nT) (λ qm zG ⟨y,ud,zH,zI,uf,zJ,c5,kb,zK⟩=>?_) λ _ _ z=>z.elim))
    refine ao (eg (t8 (X:=c0 X scope N' aT.objs.size fp { s2 with heap:=aT } (upd aS D (.lst []))) _ zG σ8 ud (.ref D) [y] (.ref D) [qm] (λ v lC=>v=.bJ/\lC=upd ud D (.lst (ys++[y]))) zH rfl (.cons zI .nil) ⟨D,ys,y,rfl,rfl,uf,zJ,rfl,rfl⟩)
     (λ _ zE ⟨v10,lC,iY,_,_,qp⟩=>?_) λ _ _ z=>z.elim)
    subst qp;refine a3 (a3 ⟨rfl,c5,kb,i+1,ys++[y],σ8,_,iY.mD,?_,λ b ag=>?_,zK⟩)
    ·exact T.keep _ _ _ hn λ b ag o e=>(iY.pin (b,o) (d6 _ (d6 _ (jt ag e)))).1
    ·obtain ⟨o,e,d⟩:=T.obj _ _ hn b ag;exact (iY.pin (b,o) (d6 _ (d6 _ (jt ag e)))).2.1
   | false=>
    rw [if_neg gI];rw [if_neg gI] at nT;obtain ⟨c5,kb,qo⟩:=nT;refine a3 ⟨rfl,c5,kb,i+1,ys,σ8,_,ka.mD,?_,λ b ag=>?_,qo⟩
    ·exact T.keep _ _ _ hn λ b ag o e=>(ka.pin (b,o) (d6 _ (d6 _ (jt ag e)))).1
    ·obtain ⟨o,e,d⟩:=T.obj _ _ hn b ag;exact (ka.pin (b,o) (d6 _ (d6 _ (jt ag e)))).2.1
 exact wd loop (T.self _ 0 _ _ _ lB loop)
end
def dw:bg->Bool
 | .Starred ..=>false
 | _=>true
theorem eH{e:bg}{ah:List bg}{env:Env}(h:dw e=true):dv (e::ah) env=(false,eval e env)::dv ah env:=by
 cases e<;>first | rfl | cases h
section
variable{κ:Type} [DecidableEq κ]
def iq(kvs:List (κ × V))(k:κ):Option V:=(kvs.find? λ cU=>decide (cU.1=k)).map (·.2)
def h3(kvs:List (κ × V))(k:κ)(v:V):List (κ × V):=
 if (kvs.any λ cU=>decide (cU.1=k))=true then kvs.map (λ cU=>if cU.1=k then (cU.1,v) else cU) else kvs++[(k,v)]
theorem xf{p:κ × V}{r:List (κ × V)}{k:κ}(e:p.1=k):iq (p::r) k=some p.2:=by simp [iq,nA,e]
theorem xg{p:κ × V}{r:List (κ × V)}{k:κ}(e:¬ p.1=k):iq (p::r) k=iq r k:=by simp [iq,nA,e]
theorem F6(k:κ):∀ kvs:List (κ × V),(kvs.any λ cU=>decide (cU.1=k))=(iq kvs k).isSome
 | []=>rfl
 | p::r=>by
  rw [ml];by_cases e:p.1=k
  ·simp only [xf e,decide_eq_true e,Bool.true_or,Option.isSome_some]
  ·rw [xg e,decide_eq_false e,Bool.false_or];exact F6 k r
theorem zL(kvs:List (κ × V))(k:κ)(v:V):(h3 kvs k v).length<=kvs.length+1:=by
 unfold h3;split
 ·rw [bS];omega
 ·rw [fs,dH,gZ];omega
theorem lc.OH{o:Option V}{u:Option Value}(r:lc o u):o.isSome=u.isSome:=by
 cases o with
 | none=>cases u with
  | none=>rfl
  | some _=>exact (show False from r).elim
 | some _=>cases u with
  | none=>exact (show False from r).elim
  | some _=>rfl
theorem fb.val{kvs:List (κ × V)}{ai:List (κ × Value)}(r:fb kvs ai)(k:κ):lc (iq kvs k) (pX ai k):=by
 unfold fb at r
 induction r with
 | nil=>exact True.intro
 | @cons p q ps cq h t aN=>
  obtain ⟨ak,aq⟩:=h;by_cases e:p.1=k
  ·have cD:q.1=k:=ak.symm.trans e
   have b:pX (q::cq) k=some q.2:=by simp [pX,nA,cD]
   rw [xf e,b];exact aq
  ·have cD:¬ q.1=k:=λ z=>e (ak.trans z)
   have b:pX (q::cq) k=pX cq k:=by simp [pX,nA,cD]
   rw [xg e,b];exact aN
theorem fb.any{kvs:List (κ × V)}{ai:List (κ × Value)}(r:fb kvs ai)(k:κ):(kvs.any λ cU=>decide (cU.1=k))=ai.any λ cU=>decide (cU.1=k):=by
 unfold fb at r
 induction r with
 | nil=>rfl
 | cons h t aN=>rw [ml,ml,aN,h.1]
theorem fb.zM{kvs:List (κ × V)}{ai:List (κ × Value)}(r:fb kvs ai)(k:κ){y:V}{u:Value}(cz:RelV y u) :
 fb (kvs.map λ cU=>if cU.1=k then (cU.1,y) else cU) (ai.map λ cU=>if cU.1=k then (cU.1,u) else cU):=by
 unfold fb at r ⊢
 induction r with
 | nil=>exact .nil
 | @cons p q ps cq h t aN=>
  rw [ew,ew];refine .cons ?_ aN;obtain ⟨ak,aq⟩:=h;by_cases e:p.1=k
  ·rw [if_pos e,if_pos (ak.symm.trans e)];exact ⟨ak,cz⟩
  ·rw [if_neg e,if_neg (λ z=>e (ak.trans z))];exact ⟨ak,aq⟩
theorem fb.put{kvs:List (κ × V)}{ai:List (κ × Value)}(r:fb kvs ai)(k:κ){y:V}{u:Value}(cz:RelV y u):fb (h3 kvs k y) (stored ai k u):=by
 unfold h3 stored;rw [r.any k];by_cases e:(ai.any λ cU=>decide (cU.1=k))=true
 ·rw [if_pos e,if_pos e];exact r.zM k cz
 ·rw [if_neg e,if_neg e];exact Paired.snoc r ⟨rfl,cz⟩
theorem fb.length{kvs:List (κ × V)}{ai:List (κ × Value)}(r:fb kvs ai):kvs.length=ai.length:=Paired.length r
end
theorem xh{P:ck}{w:bW}{k:Key}{u:Value}(r:RelV (dO k) u):(im P w).is k u=true:=by
 cases k with
 | inl i=>obtain ⟨t,e⟩:=(show ∃ t,u=Value.int i t from r);subst e;exact LW P w i t
 | inr x=>obtain ⟨t,e⟩:=(show ∃ t,u=Value.str x t from r);subst e;exact LX P w x t
theorem F7{P:ck}{w:bW}:∀{ks:List Key}{us:List Value},Vals (ks.map dO) us->ItemsAre (im P w) ks us
 | [],_,r=>by rw [oN] at r;cases r;exact .nil
 | k::ks,_,r=>by
  rw [ew] at r
  cases r with
  | cons h t=>exact .cons (xh h) (F7 t)
abbrev KT(H:ay):List (List Key × V)->List (List Key × Addr × Value)->Prop:=pY λ p q=>p.1=q.1/\H q.2.1=some (.tup (p.1.map dO))/\RelV p.2 q.2.2
theorem KT.val{H:ay}{kvs:List (List Key × V)}{xs:List (List Key × Addr × Value)}(r:KT H kvs xs)(k:List Key):lc (iq kvs k) ((nr xs k).map (·.2)):=by
 induction r with
 | nil=>exact True.intro
 | @cons p q ps cq h t aN=>
  obtain ⟨ak,_,aq⟩:=h;by_cases e:p.1=k
  ·have cD:q.1=k:=ak.symm.trans e
   have b:nr (q::cq) k=some q.2:=by simp [nr,nA,cD]
   rw [xf e,b];exact aq
  ·have cD:¬ q.1=k:=λ z=>e (ak.trans z)
   have b:nr (q::cq) k=nr cq k:=by simp [nr,nA,cD]
   rw [xg e,b];exact aN
theorem KT.zM{H:ay}{kvs:List (List Key × V)}{xs:List (List Key × Addr × Value)}(r:KT H kvs xs)(k:List Key){y:V}{u:Value}(cz:RelV y u) :
 KT H (kvs.map λ cU=>if cU.1=k then (cU.1,y) else cU) (xs.map (putAt k u)):=by
 induction r with
 | nil=>exact .nil
 | @cons p q ps cq h t aN=>
  rw [ew,ew];refine .cons ?_ aN;obtain ⟨ak,aq,aT⟩:=h;unfold putAt;by_cases e:p.1=k
  ·rw [if_pos e,if_pos (ak.symm.trans e)];exact ⟨ak,aq,cz⟩
  ·rw [if_neg e,if_neg (λ z=>e (ak.trans z))];exact ⟨ak,aq,aT⟩
theorem KT.put{H:ay}{kvs:List (List Key × V)}{xs:List (List Key × Addr × Value)}(r:KT H kvs xs)(k:List Key){b:Addr}{y:V}{u:Value}(ag:H b=some (.tup (k.map dO)))(cz:RelV y u) :
 KT H (h3 kvs k y) (storedH xs k b u):=by
 have e:(kvs.any λ cU=>decide (cU.1=k))=(nr xs k).isSome:=by
  rw [F6,(r.val k).OH,Option.isSome_map]
 unfold h3 storedH;rw [e];by_cases q:(nr xs k).isSome=true
 ·rw [if_pos q,if_pos q];exact r.zM k cz
 ·rw [if_neg q,if_neg q];exact Paired.snoc r ⟨rfl,ag,cz⟩
theorem KT.keeps{H aj:ay}{kvs:List (List Key × V)}{xs:List (List Key × Addr × Value)}(r:KT H kvs xs)(bT:∀ b ys,H b=some (.tup ys)->aj b=some (.tup ys)):KT aj kvs xs:=
 Paired.ze r λ _ _ z=>⟨z.1,bT _ _ z.2.1,z.2.2⟩
section
variable{P:ck}{w:bW}{H:ay}{h:bL}{a:Addr}
theorem F8{u:fF}(ok:dU P w H h)(e:jl H a u):eP P w H h a u:=e.ok ok
theorem zN{kvs:List (Key × V)}(ok:dU P w H h)(e:jl H a (.c4 kvs)):kvs.length<=sizeLine/\(a==mc)=false/\∃ ai,fb kvs ai/\h.DictOf (im P w) a ai:=
 show eP P w H h a (.c4 kvs) from F8 ok e
theorem F9{kvs:List (Key × V)}(ok:dU P w H h)(e:H a=some (.c4 kvs)):kvs.length<=sizeLine/\(a==mc)=false/\∃ ai,fb kvs ai/\h.DictOf (im P w) a ai:=zN ok (.inl e)
theorem zO{ks:List Key}(ok:dU P w H h)(e:H a=some (.tup (ks.map dO))):(te (im P w)).is h ks a:=by
 obtain ⟨_,aM,r,o,ak,aq,n,aT⟩:=(show eP P w H h a (.tup (ks.map dO)) from ok a _ e)
 exact ⟨o,aM.toArray,n,ak,aq,aT,by simpa using F7 r⟩
theorem zP{kvs:List (List Key × V)}(ok:dU P w H h)(e:jl H a (.fU kvs)):kvs.length<=sizeLine/\(a==mc)=false ∧
 ∃ xs,KT H kvs xs/\h.DictOfH (te (im P w)) a xs:=by
 obtain ⟨z,y,xs,r,o,ah,a5,ak,aq,aT,cb,dM⟩:=(show eP P w H h a (.fU kvs) from F8 ok e)
 refine ⟨z,y,xs,r,o,ah,a5,ak,aq,aT,cb,λ x aF=>?_,dM⟩
 have all:∀{l:List (List Key × V)}{m:List (List Key × Addr × Value)},KT H l m->∀ x∈m,(te (im P w)).is h x.1 x.2.1:=by
  intro l m q
  induction q with
  | nil=>intro x aF;exact nomatch aF
  | @cons p q ps cq bv t aN=>
   intro x aF;rcases dJ.mp aF with e | aF
   ·subst e;exact zO ok (by rw [<- bv.1];exact bv.2.1)
   ·exact aN x aF
 exact all r x aF
theorem OI{kvs:List (List Key × V)}(ok:dU P w H h)(e:H a=some (.fU kvs)):kvs.length<=sizeLine/\(a==mc)=false ∧
 ∃ xs,KT H kvs xs/\h.DictOfH (te (im P w)) a xs:=zP ok (.inl e)
end
def rZ(H:ay)(a:Addr)(y:V)(r:Option V):Prop:=
 (∃ kvs k,jl H a (.c4 kvs)/\y=dO k/\r=iq kvs k)\/∃ kvs k b,jl H a (.fU kvs)/\y=.ref b/\H b=some (.tup (k.map dO))/\r=iq kvs k
def ug(H:ay)(a:Addr)(y v:V)(aj:ay):Prop:=
 (∃ kvs k,H a=some (.c4 kvs)/\y=dO k/\kvs.length < sizeLine/\aj=upd H a (.c4 (h3 kvs k v))) ∨
 ∃ kvs k b,H a=some (.fU kvs)/\y=.ref b/\H b=some (.tup (k.map dO))/\kvs.length < sizeLine/\aj=upd H a (.fU (h3 kvs k v))
theorem rZ.k{H:ay}{a:Addr}{kvs:List (Key × V)}{k:Key}(e:H a=some (.c4 kvs)):rZ H a (dO k) (iq kvs k):=.inl ⟨kvs,k,.inl e,rfl,rfl⟩
theorem ug.k{H:ay}{a:Addr}{kvs:List (Key × V)}{k:Key}{v:V}(e:H a=some (.c4 kvs))(aQ:kvs.length < sizeLine):ug H a (dO k) v (upd H a (.c4 (h3 kvs k v))):=.inl ⟨kvs,k,e,rfl,aQ,rfl⟩
section
variable{X:bb}{pins:List (Addr × Obj)}{σ:St}{H:ay}{s:aC}{a:Addr}{y v:V}{u r:Value}{o:Option V}{A:c1}{E:Value->aC->Prop}
theorem Inv.big(I:Inv X pins σ H s):mc < s.heap.objs.size:=by
 have h:ef < s.heap.objs.size:=(I.mod.glob.keeps I.bk).lt;exact jV (by decide) h
theorem OJ{Q:Value->aC->Prop}(a0:A.units+1 < eK)(I:Inv X pins σ H s)(g:rZ H a y (some v))(cz:RelV y u)(h:∀ js s',Inv X pins σ H s'->RelV v js->Q js s') :
 aG (aI X.prog X.w) A (me (.ref a) u) Q E s:=by
 rcases g with ⟨kvs,k,e,qq,l⟩ | ⟨kvs,k,b,e,qq,ea,l⟩
 ·subst qq;obtain ⟨z,hd,ai,rel,ej⟩:=zN I.bM e;obtain ⟨js,hw,nM⟩:=lc.some_of (v:=v) (o:=pX ai k) (by rw [l];exact rel.val k);exact wpAny_getItem_of (xh cz) ej.mapOf hw (h js _ (I.tok _) nM)
 ·subst qq;cases (show u=Value.ref b from cz);obtain ⟨z,hd,xs,rel,ej⟩:=zP I.bM e;obtain ⟨js,hw,nM⟩:=lc.some_of (v:=v) (o:=(nr xs k).map (·.2)) (by rw [l];exact rel.val k);obtain ⟨p,az,uh⟩:=Option.map_eq_some_iff.mp hw;refine wpAny_getItem_heap (tupleKind_room_in1 a0) (zO I.bM ea) ej az ?_;rw [uh];exact h js _ (I.tok _) nM
theorem zQ{h':bL}{t':Nat}{dh:fF}(I:Inv X pins σ H s)(jm:tG (H a))(ax:Heap.SameBut a s.heap h')(he:∃ q,h'.get? a=some q)(new:eP X.prog X.w (upd H a dh) h' a dh) :
 Inv X pins σ (upd H a dh) { s with heap:=h',toks:=t' }:=
 I.write (x:=a) (e:=a) jm (.inl rfl) (λ b q ag z=>(ax.2 b ag).trans z) he new
theorem F_{P:ck}{w:bW}{aj:ay}{h':bL}{kvs:List (Key × V)}{ai:List (Key × Value)}(z:kvs.length<=sizeLine)(hd:(a==mc)=false)(rel:fb kvs ai)(ej:h'.DictOf (im P w) a ai) :
 eP P w aj h' a (.c4 kvs):=⟨z,hd,ai,rel,ej⟩
theorem OK{aj:ay}{Q:Unit->aC->Prop}(a0:A.units+1 < eK)(I:Inv X pins σ H s)(g:ug H a y v aj)(cz:RelV y u)(be:RelV v r)(h:∀ s',Inv X pins σ aj s'->Q () s') :
 aG (aI X.prog X.w) A (th (.ref a) u r) Q E s:=by
 rcases g with ⟨kvs,k,e,qq,l,lD⟩ | ⟨kvs,k,b,e,qq,ea,l,lD⟩
 ·subst qq lD;obtain ⟨z,hd,ai,rel,ej⟩:=F9 I.bM e
  have hz:ai.length<=sizeLine:=by rw [<- rel.length];exact z
  have aQ:(h3 kvs k v).length<=sizeLine:=by have:=zL kvs k v;omega
  refine wpAny_setItem_pairs (hsz:=hz) (xh cz) ej λ h' qr ax=>h _ ?_
  have he:∃ q,h'.get? a=some q:=let ⟨q,_,_,bv,_⟩:=qr;⟨q,bv⟩
  exact zQ I (by rw [e];exact True.intro) ax he (F_ aQ hd (rel.put k be) qr)
 ·subst qq lD;cases (show u=Value.ref b from cz);obtain ⟨z,hd,xs,rel,ej⟩:=OI I.bM e
  have hz:xs.length<=sizeLine:=by rw [<- Paired.length rel];exact z
  have aQ:(h3 kvs k v).length<=sizeLine:=by have:=zL kvs k v;omega
  refine wpAny_setItem_heap (hsz:=hz) (tupleKind_room_in1 a0) (zO I.bM ea) ej λ h' qr ax=>h _ ?_;obtain ⟨q,ah,a5,bv,aq,aT,cb,_,dM⟩:=qr;refine zQ I (by rw [e];exact True.intro) ax ⟨q,bv⟩ ⟨aQ,hd,_,(rel.put k ea be).keeps λ c ys xi=>?_,q,ah,a5,bv,aq,aT,cb,dM⟩;rw [cV (LY xi e (λ z=>nomatch z))];exact xi
end
def zR(i:bg):Prop:=∀ fW gf,wo i false fW gf=operate [fW,gf] (me fW gf)
theorem OL{prog:ck}{w:bW}{A:c1}{E:Value->aC->Prop}{s:aC}{env:Env}{value slice:bg}{pos:Pos}{T id:String}{Q:Value->aC->Prop}
 (aQ:ro (.type T) "__getitem__" = pure (some (.builtin id))) (ax:zR slice)
 (h:aG (aI prog w) A (eval value env) (λ o dC=>aG (aI prog w) A (eval slice env) (λ i lh=>lh.TypeIs o T/\aG (aI prog w) A (me o i) Q E lh) E dC) E s) :
 aG (aI prog w) A (eval (.Subscript value slice pos) env) Q E s:=by
 refine Subscript_ (eg h (λ o dC h₁=>eg h₁ (λ i lh zS=>?_) λ _ _ x=>x) λ _ _ x=>x);obtain ⟨bQ,zS⟩:=zS;unfold zb;refine ao ?_;rw [getitemInPython_of_ne bQ.not_modules];refine ao (ni bQ aQ ?_)
 have fin:aG (aI prog w) A (wo slice false o i) (λ r wV=>aG (aI prog w) A (letTemporaryGo value o r >>= λ _=>pure r) Q E wV) E lh:=by
  rw [ax o i];exact wpAny_operating (eg zS (λ r wV OM=>ao (wpAny_letTemporaryGo (a3 OM))) λ _ _ x=>x)
 first
  | exact a3 (ao fin)
  | exact ao (a3 (ao fin))
  | exact ao fin
theorem ON{X:bb}{pins:List (Addr × Obj)}{σ:St}{H:ay}{s:aC}{a:Addr}{y:V}{o:Option V}(I:Inv X pins σ H s)(g:rZ H a y o):s.TypeIs (.ref a) "dict":=by
 rcases g with ⟨kvs,k,e,_,_⟩ | ⟨kvs,k,b,e,_,_,_⟩
 ·obtain ⟨_,_,ai,_,ej⟩:=zN I.bM e;exact ej.typeIs
 ·obtain ⟨_,_,xs,_,ej⟩:=zP I.bM e;exact ej.typeIs
def OO(e5 ty:TE):TE:=λ σ H Q=>e5 σ H λ x H1=>ty σ H1 λ y aS=>∃ a v,x=.ref a/\rZ aS a y (some v)/\Q v aS
def OP(e5 ty ho:TE):eV:=λ D σ H=>ho σ H λ v H1=>e5 σ H1 λ x aS=>ty σ aS λ y dX=>∃ a h2,x=.ref a/\ug dX a y v h2/\D.nx σ h2
section
variable{X:bb}{o i e value:bg}{pos pos' Ga:Pos}{e5 ty ho:TE}
theorem OQ(a0:X.A.units+1 < eK)(a4:bX X o e5)(ar:bX X i ty)(ax:zR i):bX X (.Subscript o i pos) (OO e5 ty):=by
 intro pins s σ H Q I h;refine OL PySem.F.slot_dict_getitem.lookup ax (b5 (a4 pins s σ H _ I h) λ u s1 ⟨x,H1,a6,bu,aH⟩=>b5 (ar pins s1 σ H1 _ a6 aH) λ gf s2 ⟨y,aS,cy,cz,a,v,ex,g,bI⟩=>?_);subst ex;obtain rfl:u=Value.ref a:=bu;exact ⟨ON cy g,OJ a0 cy g cz λ js s3 dd nM=>⟨v,aS,dd,nM,bI⟩⟩
theorem OR(a0:X.A.units+1 < eK)(a4:bX X o e5)(ar:bX X i ty)(bC:bX X value ho)(ax:je value (some (.Subscript o i pos')) pos.line X.env=pure false) :
 iS X (.Assign [.Subscript o i pos'] value pos) (OP e5 ty ho):=by
 intro pins s σ H D I h;refine wpAny_Assign_Subscript (b5 (bC pins s σ H _ I h) λ r s1 ⟨v,H1,a6,be,aH⟩=>b5 (a4 pins s1 σ H1 _ a6 aH) λ u s2 ⟨x,aS,cy,bu,bI⟩=>b5 (ar pins s2 σ aS _ cy bI) λ gf s3 ⟨y,dX,dd,cz,a,h2,ex,g,eh⟩=>?_) ax;subst ex;obtain rfl:u=Value.ref a:=bu
 exact OK a0 dd g cz be λ s4 hZ=>⟨σ,h2,hZ,eh⟩
end
theorem OS{P:ck}{w:bW}{H:ay}(h:bL)(ag:mc < h.objs.size):eP P w H (h.push { cls:=.type "dict", data:=.dict #[] }) h.objs.size (.c4 []):=
 ⟨e0 _,beq_eq_false_iff_ne.mpr (Ne.symm (dp ag)),[],.nil,Heap.DictOf.new h⟩
def zT:List (TE × TE)->St->ay->(List (V × V)->ay->Prop)->Prop
 | [],_,H,Q=>Q [] H
 | (tk,ho)::r,σ,H,Q=>tk σ H λ x H1=>ho σ H1 λ y aS=>zT r σ aS λ ps dX=>Q ((x,y)::ps) dX
abbrev Gb:List (V × V)->List (Value × Value)->Prop:=pY λ p q=>RelV p.1 q.1/\RelV p.2 q.2
def xj(X:bb)(pos:Pos)(keys:List (Option bg))(values:List bg)(nU:List (TE × TE)):Prop:=
 ∀(pins:List (Addr × Obj))(s:aC)(σ:St)(H:ay)(Q:List (V × V)->ay->Prop),Inv X pins σ H s->zT nU σ H Q →
  aG (aI X.prog X.w) X.A (evalPairs (pairTrees keys values X.env pos)) (λ ai s'=>∃ ps aj,Inv X pins σ aj s'/\Gb ps ai/\Q ps aj) X.xe s
theorem OT{X:bb}{pos:Pos}:xj X pos [] [] []:=λ pins s σ H Q I h=>pairTrees_nil_walk ⟨[],H,I,.nil,h⟩
theorem OU{X:bb}{pos:Pos}{k v:bg}{ks:List (Option bg)}{ai:List bg}{tk ho:TE}{nU:List (TE × TE)}(aO:bX X k tk)(bC:bX X v ho)(am:xj X pos ks ai nU) :
 xj X pos (some k::ks) (v::ai) ((tk,ho)::nU):=λ pins s σ H Q I h=>
 pairTrees_cons_walk (b5 (aO pins s σ H _ I h) λ u s1 ⟨x,H1,a6,bu,aH⟩=>b5 (bC pins s1 σ H1 _ a6 aH) λ nF s2 ⟨y,aS,cy,cz,bI⟩=>
  b5 (am pins s2 σ aS _ cy bI) λ ws s3 ⟨ps,dX,dd,rel,eh⟩=>⟨(x,y)::ps,dX,dd,.cons ⟨bu,cz⟩ rel,eh⟩)
def ui(kvs more:List (Key × V)):List (Key × V):=more.foldl (λ acc cU=>h3 acc cU.1 cU.2) kvs
theorem fb.merge:∀{more:List (Key × V)}{rs:List (Key × Value)}{kvs:List (Key × V)}{ai:List (Key × Value)},fb more rs->fb kvs ai->fb (ui kvs more) (merged ai rs):=by
 intro more rs kvs ai r;unfold fb at r
 induction r generalizing kvs ai with
 | nil=>intro q;exact q
 | @cons p q ps cq h t aN=>
  intro uj
  have e:fb (h3 kvs p.1 p.2) (stored ai q.1 q.2):=by
   have:=uj.put p.1 h.2;rw [<- h.1];exact this
  exact aN e
theorem Gc:∀(more kvs:List (Key × V)),(ui kvs more).length<=kvs.length+more.length
 | [],kvs=>by show kvs.length<=kvs.length+0;omega
 | p::r,kvs=>by
  have ak:=Gc r (h3 kvs p.1 p.2);have aq:=zL kvs p.1 p.2;show (ui (h3 kvs p.1 p.2) r).length<=_;rw [dH];omega
theorem Gd{P:ck}{w:bW}:∀{kvs:List (Key × V)}{ws:List (Value × Value)},Gb (kvs.map λ cU=>(dO cU.1,cU.2)) ws->∃ rs,Carries (im P w) ws rs/\fb kvs rs
 | [],_,r=>by rw [oN] at r;cases r;exact ⟨[],True.intro,.nil⟩
 | p::kvs,_,r=>by
  rw [ew] at r
  cases r with
  | @cons a b as bs h t=>
   obtain ⟨rs,c,q⟩:=Gd (P:=P) (w:=w) t;obtain ⟨hF,gk⟩:=b;exact ⟨(p.1,gk)::rs,⟨xh h.1,rfl,c⟩,.cons ⟨rfl,h.2⟩ q⟩
def OV(nU:List (TE × TE)):TE:=λ σ H Q=>∀ p,H p=none->zT nU σ (upd H p (.c4 [])) λ ps aS=>aS p=some (.c4 [])/\∃ kvs:List (Key × V),ps=kvs.map (λ cU=>(dO cU.1,cU.2))/\kvs.length<=15/\Q (.ref p) (upd aS p (.c4 (ui [] kvs)))
theorem OW{X:bb}{pos:Pos}{keys:List (Option bg)}{values:List bg}{nU:List (TE × TE)}(h:xj X pos keys values nU)(fZ:keys.all (·.isSome)=true)(aQ:keys.length=values.length)(h0:keys≠[])
 (OX:keys.length<=15):bX X (.Dict keys values pos) (OV nU):=by
 intro pins s σ H Q I q;have bt:=I.bM.fresh (b7 s.heap.objs.size);have a6:=I.laid (a:=s.heap.objs.size) (o:=.c4 []) (h':=s.heap.push { cls:=.type "dict", data:=.dict #[] }) (t':=s.toks) (λ _ _ q=>cm _ q) (b7 _) (OS s.heap I.big);refine wpAny_Dict_walk (knd:=im X.prog X.w) fZ aQ h0 OX (b5 (h pins _ σ _ _ a6 (q _ bt)) λ ws s2 ⟨ps,aS,cy,rel,e,kvs,a5,lk,bI⟩=>?_);subst a5;obtain ⟨rs,c,zU⟩:=Gd (P:=X.prog) (w:=X.w) rel;obtain ⟨z,hd,OY,uj,ej⟩:=F9 cy.bM e;cases uj;refine ⟨rs,c,ej,λ h' qr ax=>⟨.ref s.heap.objs.size,_,?_,rfl,bI⟩⟩
 have hz:(ui [] kvs).length<=sizeLine:=by
  have ak:=Gc kvs [];rw [gZ] at ak;rw [jd];omega
 have he:∃ q,h'.get? s.heap.objs.size=some q:=let ⟨q,_,_,bv,_⟩:=qr;⟨q,bv⟩
 exact zQ cy (by rw [e];exact True.intro) ax he (F_ hz hd (zU.merge .nil) qr)
section
variable{prog:ck}{w:bW}{A:c1}{E:Value->aC->Prop}{s:aC}
theorem OZ{t cn:Addr}{items:Array Value}{fv fw:Value}{lo ar:Option Int}{Q:Value->aC->Prop}(bT:jh s.heap t items)(ax:s.heap.IsSliceOf cn fv fw .none)(cW:mh fv lo)(pu:mh fw ar)
 (hw:dD.cG items.size 0 lo=0/\dD.cG items.size items.size ar=items.size) (h:Q (.ref t) s):aG (aI prog w) A (me (.ref t) (.ref cn)) Q E s:=by
 obtain ⟨os,nL,o8,t4⟩:=id ax
 have rU:s.TypeIs (.ref cn) "slice":=⟨os,nL,o8⟩
 unfold me
 try with_reducible refine g_ ?_
 first | refine ao (a3 ?_) | skip
 refine ao (wpAny_sequenceKey bT.typeIs (by decide) ?_);refine ao (wpAny_callSpecial?_slot (name:=Str.ofString "__getitem__") bT.typeIs rJ (hv rJ bT.typeIs entry_tuple_getitem ?_ (args_tuple_getitem _ _)));show aG _ _ (Builtin.Tuple.tupleItemsOf (.ref t) >>= _) _ _ s;refine ao (tupleItemsOf_ bT ?_);refine ao (oA rU ?_);rw [if_pos (by decide)];refine ao (dD.FD ax cW pu ?_)
 have O0:(((dD.cG items.size 0 lo:Nat):Int)==0&&(1:Int)==1&&(dD.cG items.size items.size ar - dD.cG items.size 0 lo)==items.size)=true:=by
  rw [hw.1,hw.2];simp
 show aG _ _ (if (((dD.cG items.size 0 lo:Nat):Int)==0&&(1:Int)==1&&(dD.cG items.size items.size ar - dD.cG items.size 0 lo)==items.size)=true then _ else _) _ _ s;rw [if_pos O0]
 have ex:∀{fV:Bool->aC->Prop},fV true s->aG (aI prog w) A.in1 (Builtin.Tuple.tupleIsExact (.ref t)) fV E s:=λ{fV} q=>by
  unfold Builtin.Tuple.tupleIsExact;refine ao (oA bT.typeIs (a3 ?_));have e:(Value.type "tuple"==Value.type "tuple")=true:=beq_self_eq_true _;rw [e];exact q
 first
  | exact ao (ex (ao (hx (a3 ⟨_,rfl,a3 h⟩))))
  | (unfold Builtin.Tuple.tupleIsExact
     refine ao (ao (oA bT.typeIs (a3 ?_)));have e:(Value.type "tuple"==Value.type "tuple")=true:=beq_self_eq_true _;rw [e,if_pos rfl]
     first
      | exact ao (hx (a3 ⟨_,rfl,a3 h⟩))
      | exact ao (hx (ao (a3 (a3 ⟨_,rfl,a3 h⟩))))
      | exact ao (hx (ao (ao (a3 (a3 ⟨_,rfl,a3 h⟩))))))
end
section
variable{X:bb}
def O1(K:bl):V->Option Int->Option Int->ay->cK->Prop:=λ x lo ar H Q=>∃ a xs,x=.ref a/\dq K H a xs ∧
 ((dD.cG xs.length 0 lo=0/\dD.cG xs.length xs.length ar=xs.length)->Q (.ref a) H)/\(¬ (dD.cG xs.length 0 lo=0/\dD.cG xs.length xs.length ar=xs.length)->∀ p,H p=none->Q (.ref p) (upd H p (.tup (kF xs lo ar))))
theorem O2:mE X (O1 X.K):=by
 intro pins s σ H x v fv fw lo ar cn Q I bu ax cW pu h;obtain ⟨a,xs,rfl,aF,aH,bI⟩:=h;by_cases hw:dD.cG xs.length 0 lo=0/\dD.cG xs.length xs.length ar=xs.length
 ·cases bu;obtain ⟨aM,r,bT,hz⟩:=I.tuple aF
  have hlen:aM.toArray.size=xs.length:=by rw [c_];exact r.length.symm
  refine ⟨"tuple", _,rJ.lookup,bT.typeIs,?_⟩;exact OZ bT ax cW pu (by rw [hlen];exact hw) ⟨.ref a,H,I,rfl,aH hw⟩
 ·exact NJ pins s σ H _ v fv fw lo ar cn Q I bu ax cW pu ⟨a,xs,rfl,aF,hw,bI hw⟩
def O3(K:bl):ei:=λ x y H Q=>∃ a b xs ys,x=.ref a/\y=.ref b/\dq K H a xs/\dq K H b ys/\xs.length+ys.length<=sizeLine ∧
 (xs=[]->Q (.ref b) H)/\(xs≠[]->ys=[]->Q (.ref a) H)/\(xs≠[]->ys≠[]->∀ p,H p=none->Q (.ref p) (upd H p (.tup (xs++ys))))
theorem O4:d8 X (gH .Add) (O3 X.K):=by
 intro pins s σ H x y v u Q I bu cz h;obtain ⟨a,b,xs,ys,rfl,rfl,aD,ag,hz,jy,aH,bI⟩:=h
 by_cases aF:xs=[]
 ·cases bu;cases cz;obtain ⟨aM,r,bT,_⟩:=I.tuple aD;obtain ⟨dk,bK,O5,_⟩:=I.tuple ag;subst aF;cases r;obtain ⟨⟨cls,ej,data,cn⟩,a4,aE,n,hd⟩:=id bT;obtain ⟨⟨Nz,o5,data2,o6⟩,qb,o7,ff,hd2⟩:=id O5;simp only at aE hd o7 hd2;subst aE hd o7 hd2;refine y_ ⟨_,a4,rfl⟩ ⟨_,qb,rfl⟩ y3 y8 PySem.F.slot_tuple_add PySem.F.entry_tuple_add (PySem.F.args_tuple_add_2 _ _) (tuple_addW0 a b _ dk.toArray n ff ej o5 cn o6 (by simp)) ⟨a4,qb,?_⟩;exact ⟨.ref b,H,I,rfl,jy rfl⟩
 ·exact NL pins s σ H _ _ v u Q I bu cz ⟨a,b,xs,ys,rfl,rfl,aD,ag,aF,hz,aH aF,bI aF⟩
end
section
variable{X:bb}
def O6(K:bl):V->Option Int->Option Int->ay->cK->Prop:=λ x lo ar H Q=>∃ a xs,x=.ref a/\dq K H a xs/\∀ t aS,lw H aS->dq K aS t (kF xs lo ar)->Q (.ref t) aS
theorem O7{xs:List V}{lo ar:Option Int}(h:dD.cG xs.length 0 lo=0/\dD.cG xs.length xs.length ar=xs.length):kF xs lo ar=xs:=by
 unfold kF;rw [h.1,h.2,tn,wH,p1]
theorem O8:mE X (O6 X.K):=by
 intro pins s σ H x v fv fw lo ar cn Q I bu ax cW pu h;obtain ⟨a,xs,rfl,aF,q⟩:=h;refine O2 pins s σ H _ v fv fw lo ar cn Q I bu ax cW pu ⟨a,xs,rfl,aF,λ w=>q a H (lw.refl _) (by rw [O7 w];exact aF),λ _ p az=>q p _ (λ b u e=>by rw [cV (hU e az)];exact e) (dq.of fi)⟩
end
structure cL(X:bb)(e:bg)(t:TE):Prop where
 run:bX X e t
structure g5(X:bb)(e:bg)(t:TT):Prop where
 run:iR X e t
structure nV(X:bb)(e:bg)(t:TT):Prop where
 run:mz X e t
structure jz(X:bb)(ah:List bg)(t:eD):Prop where
 run:hc X ah t
structure kd(X:bb)(st:bB)(t:eV):Prop where
 run:iS X st t
structure mL(X:bb)(st:List bB)(t:eV):Prop where
 run:iT X st t
structure iu(X:bb)(e:bg)(t:fe):Prop where
 run:lj X e t
structure uk(X:bb)(ah:List bg)(t:li):Prop where
 run:tQ X ah t
structure mM(X:bb)(bp iter:bg)(cZ:TI):Prop where
 run:mC X bp iter cZ
structure ul(X:bb)(e:Option bg)(t:d3):Prop where
 run:t6 X e t
structure xk(X:bb)(f:Value->Value->Sem Value)(r:ei):Prop where
 run:d8 X f r
structure Ge(X:bb)(f:Value->Sem Value)(r:V->ay->cK->Prop):Prop where
 run:wY X f r
structure zV(X:bb)(f:Value)(r:List V->ay->cK->Prop):Prop where
 run:jv X f r
structure Gf(X:bb)(r:ei):Prop where
 run:mG X r
structure Gg(X:bb)(r:V->Option Int->Option Int->ay->cK->Prop):Prop where
 run:mE X r
structure pc(X:bb)(id:String)(r:V->List V->ay->cK->Prop):Prop where
 run:qc X id r
structure Gh(X:bb)(op:nk)(t:rP):Prop where
 run:zk X op t
structure O9(X:bb)(t:tR):Prop where
 run:zj X t
section
variable{X:bb}{a b c e o i:bg}{ah:List bg}{bw bN aW to eQ:TE}{t eE:eD}{pos p apos fx:Pos}
theorem O_{n:Int} {j}:cL X (.Constant (.int n) j pos) (j0 (.int n)):=⟨Mc⟩
theorem Pa{n:Bool} {j}:cL X (.Constant (.bool n) j pos) (j0 (.aU n)):=⟨Md⟩
theorem Pb {j}:cL X (.Constant .none j pos) (j0 .bJ):=⟨Me⟩
theorem Pc{x:Str} {j}:cL X (.Constant (.str x) j pos) (j0 (.str x)):=⟨Mf⟩
theorem um(k:Nat){x:Str}(cw:X.N[k]?=some x:=by rfl)(bC:ld X.env.scope x:=by first | exact Or.inl rfl | exact Or.inr (Or.inl rfl) | exact Or.inr (Or.inr rfl))(hd:(x==("__debug__" : Str))=false:=by decide)
 (e3:(x==("__classdict__" : Str))=false:=by decide):cL X (.Name x pos) (ER k):=⟨zh cw bC hd e3⟩
theorem Pd{x:Str}{v:V}{u:Value}(aZ:di X x)(hm:X.mg x=none)(bC:kv x=some u)(r:RelV v u)(bt:x≠"__name__":=by decide)(hd:(x==("__debug__" : Str))=false:=by decide):cL X (.Name x pos) (j0 v):=⟨Mh aZ hm bC r bt hd⟩
theorem Pe{x:Str}{v:V}{u:Value}(aZ:di X x)(hm:X.mg x=some u)(r:RelV v u)(hd:(x==("__debug__" : Str))=false:=by decide):cL X (.Name x pos) (j0 v):=⟨Mg aZ hm r hd⟩
theorem Pf:jz X [] Fp:=⟨No⟩
theorem vEq(aD:cL X e aW)(am:jz X ah t)(ax:dw e=true:=by rfl):jz X (e::ah) (Fq aW t):=⟨Np aD.run am.run (eH ax)⟩
theorem Pg {a7} (h:jz X ah t):cL X (.Tuple ah a7 pos) (Fr t):=⟨Nq h.run⟩
theorem Gi(h:jz X ah t):cL X (.List ah pos) (Fs t):=⟨Nr h.run⟩
theorem Ph{op:nk}{r:ei}(a4:xk X (gH op) r)(aD:cL X a bw)(ag:cL X b bN):cL X (.BinOp a op b pos) (o1 r bw bN):=⟨MY a4.run aD.run ag.run⟩
theorem Pi{op:UnaryOp}{r:V->ay->cK->Prop}(a4:Ge X (ti op) r)(aD:cL X a bw):cL X (.UnaryOp op a pos) (Ff r bw):=⟨MZ a4.run aD.run⟩
theorem Pj(aD:cL X a bw):cL X (.UnaryOp .Not a pos) (EX bw):=⟨Mq aD.run⟩
theorem Pk{op:oD}{r:ei}(a4:xk X (eO op) r)(aD:cL X a bw)(ag:cL X b bN)(hm:oz op b=false):cL X (.Compare a [op] [b] pos) (o1 r bw bN):=⟨Nc a4.run aD.run ag.run hm⟩
theorem Pl {op} (h:cL X a bw):cL X (.BoolOp op [a] pos) bw:=⟨Mn h.run⟩
theorem Pm{rest:List bg}(aD:cL X a bw)(ag:cL X (.BoolOp .And (b::rest) pos) bN):cL X (.BoolOp .And (a::b::rest) pos) (EV bw bN):=⟨Mo aD.run ag.run⟩
theorem Pn{rest:List bg}(aD:cL X a bw)(ag:cL X (.BoolOp .Or (b::rest) pos) bN):cL X (.BoolOp .Or (a::b::rest) pos) (EW bw bN):=⟨Mp aD.run ag.run⟩
theorem Po{bo:TT}(aE:g5 X c bo)(aD:cL X a bw)(ag:cL X b bN):cL X (.IfExp c a b pos) (EY bo bw bN):=⟨Mr aE.run aD.run ag.run⟩
theorem Pp:ul X none FE:=⟨NF⟩
theorem Pq(h:cL X e aW):ul X (some e) (FF aW):=⟨NG h.run⟩
theorem Pr{r:V->Option Int->Option Int->ay->cK->Prop}{lo ar:Option bg}{eG kE:d3}{cE:Pos}(am:Gg X r)(he:cL X e aW)(aQ:ul X lo eG)(a0:ul X ar kE):cL X (.Subscript e (.Slice lo ar none cE) pos) (FH r aW eG kE):=⟨NH am.run he.run aQ.run a0.run⟩
theorem Gj{r:ei}(am:Gf X r)(aD:cL X a bw)(ag:cL X b bN)(ax:w7 b):cL X (.Subscript a b pos) (o1 r bw bN):=⟨NM am.run aD.run ag.run ax⟩
theorem qs{ah:List bg}{env:Env}(h:ah.all dw=true):(fS pos (dv ah env)).any (·.1)=false:=by
 induction ah with
 | nil=>rfl
 | cons x r aN=>
  rw [iP,eU] at h;rw [eH h.1];exact aN h.2
theorem Ps{k j:Nat}{x:Str}{ps:List Str}{sp:fK}(G:Got X.prog X.w X.K X.mg X.base k x ps sp)(am:eF j X.A)(aO:k<=j)(aZ:di X x)(aD:jz X (e::ah) t)(gh:(x==("__debug__" : Str))=false:=by decide)
 (ax:(e::ah).all dw=true:=by rfl):cL X (.Call (.Name x p) (e::ah) [] pos) (w1 sp [] o9 t):=by
 have h:=ax;rw [iP,eU] at h;exact ⟨OA G am aO aZ aD.run gh (eH h.1) (qs h.2)⟩
theorem Pt{x:Str}{id:String}{r:List V->ay->cK->Prop}(aE:zV X (.builtin id) r)(aZ:di X x)(hm:X.mg x=none)(bC:kv x=some (.builtin id))(aD:jz X (e::ah) t)(bt:x≠"__name__":=by decide)(gh:(x==("__debug__" : Str))=false:=by decide)
 (ax:(e::ah).all dw=true:=by rfl):cL X (.Call (.Name x p) (e::ah) [] pos) (w5 r t):=by
 have h:=ax;rw [iP,eU] at h;exact ⟨Nw aE.run aZ hm bC aD.run bt gh (eH h.1) (qs h.2)⟩
theorem Pu{x:Str}{T:String}{r:List V->ay->cK->Prop}(aE:zV X (.type T) r)(aZ:di X x)(hm:X.mg x=none)(bC:kv x=some (.type T))(aD:jz X (e::ah) t)(bt:x≠"__name__":=by decide)(gh:(x==("__debug__" : Str))=false:=by decide)
 (ax:(e::ah).all dw=true:=by rfl):cL X (.Call (.Name x p) (e::ah) [] pos) (w5 r t):=by
 have h:=ax;rw [iP,eU] at h;exact ⟨Nx aE.run aZ hm bC aD.run bt gh (eH h.1) (qs h.2)⟩
theorem Pv{name:Str}{T id:String}{r:V->List V->ay->cK->Prop}(lr:rp T)(slot:jg T name id)(ls:ry (.builtin id)=pure (.type "method_descriptor"))(hm:pc X id r)(a4:cL X o to)(aD:jz X [e] t)
 (lu:rn o name X.env (eval o X.env)=eval o X.env:=by rfl) (lv:(apos.endLine==fx.line)=true:=by rfl) (ax:dw e=true:=by rfl):cL X (.Call (.Attribute o name apos) [e] [] fx) (FR X.K T r to t):=
 ⟨N7 lr slot ls hm.run a4.run aD.run lu (by rw [eH ax];rfl) lv (eH ax) rfl⟩
theorem Pw{name:Str}{T id:String}{r:V->List V->ay->cK->Prop}(lr:rp T)(slot:jg T name id)(ls:ry (.builtin id)=pure (.type "method_descriptor"))(hm:pc X id r)(a4:cL X o to)
 (lu:rn o name X.env (eval o X.env)=eval o X.env:=by rfl) (lv:(apos.endLine==fx.line)=true:=by rfl):cL X (.Call (.Attribute o name apos) [] [] fx) (FQ X.K T r to):=⟨N6 lr slot ls hm.run a4.run lu lv⟩
theorem Px{op:oD}{r:ei}(a4:xk X (eO op) r)(aD:cL X a bw)(ag:cL X b bN)(hm:oz op b=false):g5 X (.Compare a [op] [b] pos) (Fk (o1 r bw bN)):=⟨Nd a4.run aD.run ag.run hm⟩
theorem Py{bo:TT}(aD:g5 X a bo):g5 X (.UnaryOp .Not a pos) (EU bo):=⟨Mm aD.run⟩
theorem Pz(aD:cL X a bw)(he:∀ whole,nq a X.env whole=(do let v ← whole;oB a.pos;jf [v] (truthy v))):g5 X a (λ σ H Q=>bw σ H λ x aj=>∃ k,w0 X.K x aj k/\Q k aj):=⟨Ng aD.run he⟩
theorem PA{fj:TT}(aD:g5 X a fj):nV X (.BoolOp .And [a] pos) fj:=⟨Mi aD.run⟩
theorem PB{fj:TT}(aD:g5 X a fj):nV X (.BoolOp .Or [a] pos) fj:=⟨Mj aD.run⟩
theorem PC{fj mA:TT}{rest:List bg}(aD:g5 X a fj)(ag:nV X (.BoolOp .And (b::rest) pos) mA):nV X (.BoolOp .And (a::b::rest) pos) (ES fj mA):=⟨Mk aD.run ag.run⟩
theorem PD{fj mA:TT}{rest:List bg}(aD:g5 X a fj)(ag:nV X (.BoolOp .Or (b::rest) pos) mA):nV X (.BoolOp .Or (a::b::rest) pos) (ET fj mA):=⟨Ml aD.run ag.run⟩
theorem nV.pt{fj:TT}(h:nV X e fj):g5 X e fj:=⟨mz.pt h.run⟩
theorem PE{k:Nat}{x:Str}(cw:X.N.Nodup)(ar:X.N[k]?=some x)(aF:Loc X.env.scope x)(hf:X.fn x=true\/X.env.scope.names.lookup x=some .local:=by first | exact .inl rfl | exact .inr rfl | assumption):iu X (.Name x pos) (oW k):=⟨MA cw ar aF hf⟩
theorem PF:uk X [] E4:=⟨MB⟩
theorem PG{bp:fe}{u:li}(ak:iu X e bp)(aq:uk X ah u)(ax:(ie (e::ah) X.env).map (·.2)=XV e X.env::(ie ah X.env).map (·.2):=by rfl):uk X (e::ah) (E5 bp u):=⟨MC ak.run aq.run ax⟩
theorem PH{k n:Nat}{bp:li}(aE:X.calm=true)(h:uk X ah bp)(bt:(ie ah X.env).length=n:=by rfl)(hC:(ie ah X.env).findIdx? (·.1)=none:=by rfl):iu X (.Tuple ah k pos) (E6 X.K n bp):=⟨MD aE h.run bt hC⟩
theorem PI{Gk:tR}(a4:cL X o to)(ar:cL X i eQ)(ax:O9 X Gk) (aD:∀ v,XV (.Subscript o i pos) X.env v=(do
 let fW ← jf [v] (eval o X.env)
 let gf ← jf [v,fW] (eval i X.env)
 oB pos
 jf [v,fW,gf] (th fW gf v)
 release [v,fW,gf] []):=by intro _;rfl):iu X (.Subscript o i pos) (E7 to eQ Gk):=⟨ME a4.run ar.run ax.run aD⟩
theorem PJ{bp:bg}(aZ:di X "range")(hm:X.mg "range" = none)(aD:jz X [a] t)(ax:dw a=true:=by rfl):mM X bp (.Call (.Name "range" p) [a] [] pos) (Fb t):=⟨MP aZ hm aD.run (eH ax)⟩
theorem PK:mL X [] EZ:=⟨Mu⟩
theorem PL{st:bB}{rest:List bB}{hh us:eV}(ak:kd X st hh)(aq:mL X rest us):mL X (st::rest) (E0 hh us):=⟨Mv ak.run aq.run⟩
theorem PM{st:bB}{hh:eV}(ak:kd X st hh):mL X [st] hh:=⟨Mw ak.run⟩
theorem PN(he:cL X e aW)(ax:je e none pos.line X.env=pure false:=by rfl):kd X (.Expr e pos) (E1 aW):=⟨Mx he.run ax⟩
theorem PO(he:cL X e aW):kd X (.Return (some e) pos) (E2 aW):=⟨My he.run⟩
theorem PP{ss us:List bB}{bo:TT}{hh uo:eV}(aE:g5 X c bo)(aD:mL X ss hh)(ag:mL X us uo):kd X (.If c ss us pos) (E3 bo hh uo):=⟨Mz aE.run aD.run ag.run⟩
theorem PQ{k:Nat}{x:Str}{pos':Pos}(cw:X.N.Nodup)(ar:X.N[k]?=some x)(aF:Loc X.env.scope x)(he:cL X e aW)(ax:je e (some (.Name x pos')) pos.line X.env=pure false:=by rfl)(hf:X.fn x=true\/X.env.scope.names.lookup x=some .local:=by first | exact .inl rfl | exact .inr rfl | assumption) :
 kd X (.Assign [.Name x pos'] e pos) (oX aW (oW k)):=⟨MG cw ar aF he.run ax hf⟩
theorem PR{bp:bg}{g:fe}(he:cL X e aW)(aZ:iu X bp g)(ax:y6 [bp] e pos.line X.env=pure false:=by rfl)(hw:y7 [bp] e X.env=pure none:=by rfl)(ak:(ie [bp] X.env).map (·.2)=[XV bp X.env]:=by rfl):kd X (.Assign [bp] e pos) (oX aW g):=⟨MF he.run aZ.run ax hw ak⟩
theorem PS{k:Nat}{x:Str}{op:nk}{Gl:rP}{pos':Pos}(cw:X.N.Nodup)(ar:X.N[k]?=some x)(aF:Loc X.env.scope x)(he:cL X e aW)(a4:Gh X op Gl)(hf:X.fn x=true\/X.env.scope.names.lookup x=some .local:=by first | exact .inl rfl | exact .inr rfl | assumption) :
 kd X (.AugAssign (.Name x pos') op e pos) (E8 k aW Gl):=⟨MH cw ar aF he.run a4.run hf⟩
theorem PT{body:List bB}{bo:TT}{uq:eV}(az:rq (aI X.prog X.w) X.A X.env X.xe)(aE:g5 X c bo)(ag:mL X body uq):kd X (.While c body [] pos) (E_ bo uq):=⟨MK az aE.run ag.run⟩
theorem PU{bp iter:bg}{body:List bB}{cZ:TI}{g:fe}{uq:eV}(az:rq (aI X.prog X.w) X.A X.env X.xe)(aE:X.calm=true)(ar:mM X bp iter cZ)(aZ:iu X bp g)(ag:mL X body uq)(ax:∀ x,iN iter X.env x=pure x:=by intro _;rfl) :
 kd X (.For bp iter body [] pos) (Fc cZ g uq):=⟨MR az aE ar.run aZ.run ag.run ax⟩
theorem PV{scope:eC}{N':List Str}{nt:Nat}{cap:List Nat}{elt iter bp:bg}{cZ:TI}{g:fe}(aE:X.calm=true)(ok:ey X scope N' nt cap)(ar:mM X bp iter cZ)(aZ:∀ C ex s H,iu (c0 X scope N' C ex s H) bp g)(he:∀ C ex s H,cL (c0 X scope N' C ex s H) elt aW)
 (ax:∀ x,iN iter X.env x=pure x:=by intro _;rfl):cL X (.ListComp elt [⟨bp,iter,[],0⟩] scope pos) (t_ cZ g aW nt cap):=⟨Oz aE ok ar.run (λ C ex s H=>(aZ C ex s H).run) (λ C ex s H=>(he C ex s H).run) ax⟩
theorem PW{ct:bg}{bo:TT}{scope:eC}{N':List Str}{nt:Nat}{cap:List Nat}{elt iter bp:bg}{cZ:TI}{g:fe}(aE:X.calm=true)(ok:ey X scope N' nt cap)(ar:mM X bp iter cZ)(aZ:∀ C ex s H,iu (c0 X scope N' C ex s H) bp g)
 (bT:∀ C ex s H,g5 (c0 X scope N' C ex s H) ct bo) (he:∀ C ex s H,cL (c0 X scope N' C ex s H) elt aW) (ax:∀ x,iN iter X.env x=pure x:=by intro _;rfl):cL X (.ListComp elt [⟨bp,iter,[ct],0⟩] scope pos) (ua cZ g bo aW nt cap):=
 ⟨OG aE ok ar.run (λ C ex s H=>(aZ C ex s H).run) (λ C ex s H=>(bT C ex s H).run) (λ C ex s H=>(he C ex s H).run) ax⟩
end
theorem c3.PX{P:ck}{w:bW}{K:bl}{mg:Str->Option Value}{base:bL}{x qual:Str}{st:bB}{f:Addr}{fd:f9}{N ps:List Str}{k:Nat}{sp:fK}(F:c3 K x qual st f fd)(S:c9 N ps (b1 st))(len:∀ ai H Q E,sp ai H Q E->ai.length=ps.length)
 (j6:∀(bE:Value)(A:c1)(outer:List Env)(s:aC)(H:ay)(ai:List V)(Q:cK)(E:hW),eF k (A.deeper (mi qual (b1 st) s.heap.objs.size f bE))->sp ai H Q E →
  ∃ t,mL (nK cc P w K mg base N qual (b1 st) f bE A outer s H E).oU (gP st) t/\t { nx:=λ _ aj=>Q .bJ aj,rt:=Q } (jw N ai) H):cp P w K mg base cc (k+1) f fd ps sp:=
 F.ok S len λ bE A outer s H ai Q E am h=>let ⟨t,j,q⟩:=j6 bE A outer s H ai Q E am h;⟨t,j.run,q⟩
section
variable{X:bb}{scope:eC}{N':List Str}{nt:Nat}{cap:List Nat}{elt iter bp:bg}{pos:Pos}{cZ:TI}{g:fe}{aW:TE}
theorem PY{y:Str}{py h4:Pos}{k:Nat}(aE:X.calm=true)(cw:X.N.Nodup)(aO:X.N[k]?=some y)(bD:Loc X.env.scope y)(c:ey X scope N' nt cap)(ar:mC X bp iter cZ)(aZ:∀ C ex s H,lj (c0 X scope N' C ex s H) bp g)(he:∀ C ex s H,bX (c0 X scope N' C ex s H) elt aW)
 (ax:∀ x,iN iter X.env x=pure x:=by intro _;rfl) (lE:je (.ListComp elt [⟨bp,iter,[],0⟩] scope pos) (some (.Name y py)) h4.line X.env=pure true:=by rfl) (hf:X.fn y=true\/X.env.scope.names.lookup y=some .local:=by first | exact .inl rfl | exact .inr rfl | assumption) :
 iS X (.Assign [.Name y py] (.ListComp elt [⟨bp,iter,[],0⟩] scope pos) h4) (oX (t_ cZ g aW nt cap) (oW k)):=by
 intro pins s σ H nW I h;rw [EE _ _ _ _ lE];refine ao (k3 (ao ?_));show aG _ X.A (do let _ ← comprehension (.ListComp elt [⟨bp,iter,[],0⟩] scope pos) scope X.env _ (newList []) false (eval iter X.env) (some (XV (.Name y py) X.env))) _ _ s;refine ao (eg (wc (use:=some (XV (.Name y py) X.env)) (Q:=λ _ s'=>kC X pins nW .next s') rfl ax (xb (c.has I.ok)) c.kind c.locs (b5 (ar pins s σ H _ I h) λ v s1 ak=>b5 ak λ rQ s2 aq=>?_)) (λ _ s' bv=>a3 (a3 bv)) λ _ _ e=>e);obtain ⟨it,fp,e4,J,aS,rfl,cy,T,j1,f2,R⟩:=aq;have jx:aS s2.heap.objs.size=none:=cy.bM.fresh (b7 _);obtain ⟨W,⟨m0,hX⟩,turn⟩:=R _ jx
 have dd:Inv X pins σ (upd aS s2.heap.objs.size (.lst [])) { s2 with heap:=s2.heap.push { cls:=.type "list", dict:=none,data:=.seq ([]:List Value).toArray } }:=
  cy.laid (t':=s2.toks) (λ b u e=>cm _ e) (b7 _) ⟨e0 _,[],0,.nil,d2 _ rfl⟩
 have hl:∀ b∈fp,b < s2.heap.objs.size:=λ b ag=>by
  obtain ⟨o,e,_⟩:=T.obj _ _ j1 b ag;exact cJ e
 have c6:∀ b∈fp,gJ X pins (upd aS s2.heap.objs.size (.lst [])) b:=λ b ag=>⟨by rw [cV (dp (hl b ag))];exact (f2 b ag).1,(f2 b ag).2⟩
 have ju:e4 0 (s2.heap.push { cls:=.type "list", dict:=none,data:=.seq ([]:List Value).toArray }):=T.keep _ _ _ j1 λ b _ o e=>cm _ e;generalize lx:s2.heap.push { cls:=.type "list", dict:=none,data:=.seq ([]:List Value).toArray }=aT at dd ju
 have iW:s2.heap.objs.size < aT.objs.size:=by rw [<- lx,lb];exact rG _
 generalize qe:s2.heap.objs.size=D at dd c6 jx hX turn iW hl;refine hu ?_;rw [qe,lx];refine we c.o_ (by intro y bD;simp at bD) (λ cb ly lz=>?_) c.kind
 dsimp only at ly lz ⊢
 have lA:∀ b o,aT.get? b=some o->cb.get? b=some o:=λ b o e=>(lz.2 b (dp (cJ e))).trans (cm _ e);have hZ:=dd.comp (t':=s2.toks+([]:List (Str × Value)).length) c c6 (λ b ag=>jV (hl b ag) iW) lA ly;have lB:e4 0 cb:=T.keep _ _ _ ju λ b _ o e=>lA b o e
 dsimp only at hZ
 have fin:∀{σ':St}{aj:ay}{s':aC},Inv (c0 X scope N' aT.objs.size fp { s2 with heap:=aT } (upd aS D (.lst []))) [] σ' aj s'->nW.nx (σ.set k (some (.ref D))) aj →
  WF (aI X.prog X.w) X.A X.xe (some (XV (.Name y py) X.env)) (λ _ s'=>kC X pins nW .next s') (.ref D) aT.objs.size (.ok .next) s':=λ{σ' aj s'} nQ q=>by
  obtain ⟨m,bt,dt⟩:=dd.xd rfl c6 nQ;have zW:Inv X pins σ aj s':=dt s'.heap (Heap.SameBut.refl ..);have ur:aT.objs.size≠X.env.locals:=ij dd.lt
  have ut:∀ x a,X.env.cells.lookup x=some a->a≠aT.objs.size:=λ x a e=>by
   obtain ⟨v,z⟩:=dd.cell x a e;exact dp z.lt
  show aG _ X.A (XV (.Name y py) X.env (.ref D)) _ _ s';refine y0 (zf zW cw aO bD (v:=.ref D) rfl (λ ln zX jr=>?_) hf);obtain ⟨a,fk,aD⟩:=jr
  have zY:aT.objs.size≠a:=by
   rcases aD with z | z
   ·rw [z];exact ur
   ·exact (ut _ _ z).symm
  refine ⟨m,bt.sameBut fk zY,λ h' kG=>⟨_,aj,?_,q⟩⟩
  exact zX.turned (t':=ln.toks) (λ b o ag e=>(kG.2 b ag).trans e) nQ.free ur (.inr dd.aB) ut λ p az z=>by
   have e:=(dd.pin p az).1;rw [z] at e;exact absurd (cJ e) (jU _)
 have hi:∀{aj:ay},(∀ b∈fp,aj b=none)->∀ b∈fp,gJ (c0 X scope N' aT.objs.size fp { s2 with heap:=aT } (upd aS D (.lst []))) [] aj b:=λ{aj} bt b ag=>by
  refine ⟨bt b ag,dp (jV (hl b ag) iW),λ z=>?_,.inl ag,λ x a e=>(c6 b ag).2.2.2.2.1 x a (c.cells I.ok e),λ p az=>absurd (show p∈([]:List (Addr × Obj)) from az) (by simp)⟩;rcases dJ.mp (I.oR b z) with y | y
  ·exact (c6 b ag).2.1 y
  ·exact (c6 b ag).2.2.1 y
 have loop:hT (aI X.prog X.w) X.A (.compLoop (.ListComp elt [⟨bp,iter,[],0⟩] scope pos) 0 (.ref it) (.ref D) (jR scope (fL X.env.cells scope.names []) aT.objs.size X.env))
  (WF (aI X.prog X.w) X.A X.xe (some (XV (.Name y py) X.env)) (λ _ s'=>kC X pins nW .next s') (.ref D) aT.objs.size) { s2 with heap:=cb,toks:=s2.toks+([]:List (Str × Value)).length }:=by
  refine wm rfl (λ n s'=>∃ i ys σ' aj,Inv (c0 X scope N' aT.objs.size fp { s2 with heap:=aT } (upd aS D (.lst []))) [] σ' aj s'/\e4 i s'.heap/\(∀ b∈fp,aj b=none)/\W i n ys σ' aj) (λ n s5 iX=>?_) m0 ⟨0,[],_,_,hZ,lB,λ b ag=>(c6 b ag).1,hX⟩;obtain ⟨i,ys,σ5,fJ,j2,iV,j3,qf⟩:=iX;show aG _ X.A ((rr (.ListComp elt [⟨bp,iter,[],0⟩] scope pos) 0 (.ref it) (.ref D) (jR scope (fL X.env.cells scope.names []) aT.objs.size X.env)).onRaise (λ x=>do wx x (jR scope (fL X.env.cells scope.names []) aT.objs.size X.env);wh x)) _ _ s5;refine wp ?_;rw [compTurn_list1];rcases turn i n ys σ5 fJ qf with ⟨stop,nG⟩ | ⟨go,step⟩
  ·refine ao (k3 (ao (eg (T.done (c0 X scope N' aT.objs.size fp { s2 with heap:=aT } (upd aS D (.lst []))) rfl rfl rfl aE i [] s5 σ5 fJ (λ _ _=>False) j2 (hi j3) iV stop) (λ r gK ⟨am,nH⟩=>?_) λ _ _ z=>z.elim)));subst am;exact a3 (fin nH nG)
  ·refine ao (k3 (ao (eg (T.item (c0 X scope N' aT.objs.size fp { s2 with heap:=aT } (upd aS D (.lst []))) rfl rfl rfl aE i [] s5 σ5 fJ (λ _ _=>False) j2 (hi j3) iV go) (λ r gK ⟨u,am,j_⟩=>?_) λ _ _ z=>z.elim)));subst am;refine ao (eg j_ (λ _ j4 ⟨x,fu,hj,nI,qg,hn,qh⟩=>?_) λ _ _ z=>z.elim);have qi:=hj.pinned (hi qh) (T.obj _ _ hn);refine ao (eg (aZ _ _ _ _ _ j4 σ5 fu x u _ qi nI (step x fu qg)) (λ _ nR ⟨σ8,qj,qk,ql⟩=>?_) λ _ _ z=>z.elim);refine ao (ao (eg (he _ _ _ _ _ nR σ8 qj _ qk ql) (λ qm qn ⟨y,nS,ka,zC,zD,ub,c5,kb,qo⟩=>?_) λ _ _ z=>z.elim))
   refine ao (eg (t8 (X:=c0 X scope N' aT.objs.size fp { s2 with heap:=aT } (upd aS D (.lst []))) _ qn σ8 nS (.ref D) [y] (.ref D) [qm] (λ v lC=>v=.bJ/\lC=upd nS D (.lst (ys++[y]))) ka rfl (.cons zC .nil) ⟨D,ys,y,rfl,rfl,zD,ub,rfl,rfl⟩)
    (λ _ zE ⟨v10,lC,iY,_,_,qp⟩=>?_) λ _ _ z=>z.elim)
   subst qp;refine a3 (a3 ⟨rfl,c5,kb,i+1,ys++[y],σ8,_,iY.mD,?_,λ b ag=>?_,qo⟩)
   ·exact T.keep _ _ _ hn λ b ag o e=>(iY.pin (b,o) (d6 _ (d6 _ (jt ag e)))).1
   ·obtain ⟨o,e,d⟩:=T.obj _ _ hn b ag;exact (iY.pin (b,o) (d6 _ (d6 _ (jt ag e)))).2.1
 exact wd loop (T.self _ 0 _ _ _ lB loop)
theorem PZ{ct:bg}{bo:TT}{y:Str}{py h4:Pos}{k:Nat}(aE:X.calm=true)(cw:X.N.Nodup)(aO:X.N[k]?=some y)(bD:Loc X.env.scope y)(c:ey X scope N' nt cap)(ar:mC X bp iter cZ)(aZ:∀ C ex s H,lj (c0 X scope N' C ex s H) bp g)(bT:∀ C ex s H,iR (c0 X scope N' C ex s H) ct bo)(he:∀ C ex s H,bX (c0 X scope N' C ex s H) elt aW)
 (ax:∀ x,iN iter X.env x=pure x:=by intro _;rfl) (lE:je (.ListComp elt [⟨bp,iter,[ct],0⟩] scope pos) (some (.Name y py)) h4.line X.env=pure true:=by rfl) (hf:X.fn y=true\/X.env.scope.names.lookup y=some .local:=by first | exact .inl rfl | exact .inr rfl | assumption) :
 iS X (.Assign [.Name y py] (.ListComp elt [⟨bp,iter,[ct],0⟩] scope pos) h4) (oX (ua cZ g bo aW nt cap) (oW k)):=by
 intro pins s σ H nW I h;rw [EE _ _ _ _ lE];refine ao (k3 (ao ?_));show aG _ X.A (do let _ ← comprehension (.ListComp elt [⟨bp,iter,[ct],0⟩] scope pos) scope X.env _ (newList []) false (eval iter X.env) (some (XV (.Name y py) X.env))) _ _ s;refine ao (eg (wc (use:=some (XV (.Name y py) X.env)) (Q:=λ _ s'=>kC X pins nW .next s') rfl ax (xb (c.has I.ok)) c.kind c.locs (b5 (ar pins s σ H _ I h) λ v s1 ak=>b5 ak λ rQ s2 aq=>?_)) (λ _ s' bv=>a3 (a3 bv)) λ _ _ e=>e);obtain ⟨it,fp,e4,J,aS,rfl,cy,T,j1,f2,R⟩:=aq;have jx:aS s2.heap.objs.size=none:=cy.bM.fresh (b7 _);obtain ⟨W,⟨m0,hX⟩,turn⟩:=R _ jx
 have dd:Inv X pins σ (upd aS s2.heap.objs.size (.lst [])) { s2 with heap:=s2.heap.push { cls:=.type "list", dict:=none,data:=.seq ([]:List Value).toArray } }:=
  cy.laid (t':=s2.toks) (λ b u e=>cm _ e) (b7 _) ⟨e0 _,[],0,.nil,d2 _ rfl⟩
 have hl:∀ b∈fp,b < s2.heap.objs.size:=λ b ag=>by
  obtain ⟨o,e,_⟩:=T.obj _ _ j1 b ag;exact cJ e
 have c6:∀ b∈fp,gJ X pins (upd aS s2.heap.objs.size (.lst [])) b:=λ b ag=>⟨by rw [cV (dp (hl b ag))];exact (f2 b ag).1,(f2 b ag).2⟩
 have ju:e4 0 (s2.heap.push { cls:=.type "list", dict:=none,data:=.seq ([]:List Value).toArray }):=T.keep _ _ _ j1 λ b _ o e=>cm _ e;generalize lx:s2.heap.push { cls:=.type "list", dict:=none,data:=.seq ([]:List Value).toArray }=aT at dd ju
 have iW:s2.heap.objs.size < aT.objs.size:=by rw [<- lx,lb];exact rG _
 generalize qe:s2.heap.objs.size=D at dd c6 jx hX turn iW hl;refine hu ?_;rw [qe,lx];refine we c.o_ (by intro y bD;simp at bD) (λ cb ly lz=>?_) c.kind
 dsimp only at ly lz ⊢
 have lA:∀ b o,aT.get? b=some o->cb.get? b=some o:=λ b o e=>(lz.2 b (dp (cJ e))).trans (cm _ e);have hZ:=dd.comp (t':=s2.toks+([]:List (Str × Value)).length) c c6 (λ b ag=>jV (hl b ag) iW) lA ly;have lB:e4 0 cb:=T.keep _ _ _ ju λ b _ o e=>lA b o e
 dsimp only at hZ
 have fin:∀{σ':St}{aj:ay}{s':aC},Inv (c0 X scope N' aT.objs.size fp { s2 with heap:=aT } (upd aS D (.lst []))) [] σ' aj s'->nW.nx (σ.set k (some (.ref D))) aj →
  WF (aI X.prog X.w) X.A X.xe (some (XV (.Name y py) X.env)) (λ _ s'=>kC X pins nW .next s') (.ref D) aT.objs.size (.ok .next) s':=λ{σ' aj s'} nQ q=>by
  obtain ⟨m,bt,dt⟩:=dd.xd rfl c6 nQ;have zW:Inv X pins σ aj s':=dt s'.heap (Heap.SameBut.refl ..);have ur:aT.objs.size≠X.env.locals:=ij dd.lt
  have ut:∀ x a,X.env.cells.lookup x=some a->a≠aT.objs.size:=λ x a e=>by
   obtain ⟨v,z⟩:=dd.cell x a e;exact dp z.lt
  show aG _ X.A (XV (.Name y py) X.env (.ref D)) _ _ s';refine y0 (zf zW cw aO bD (v:=.ref D) rfl (λ ln zX jr=>?_) hf);obtain ⟨a,fk,aD⟩:=jr
  have zY:aT.objs.size≠a:=by
   rcases aD with z | z
   ·rw [z];exact ur
   ·exact (ut _ _ z).symm
  refine ⟨m,bt.sameBut fk zY,λ h' kG=>⟨_,aj,?_,q⟩⟩
  exact zX.turned (t':=ln.toks) (λ b o ag e=>(kG.2 b ag).trans e) nQ.free ur (.inr dd.aB) ut λ p az z=>by
   have e:=(dd.pin p az).1;rw [z] at e;exact absurd (cJ e) (jU _)
 have hi:∀{aj:ay},(∀ b∈fp,aj b=none)->∀ b∈fp,gJ (c0 X scope N' aT.objs.size fp { s2 with heap:=aT } (upd aS D (.lst []))) [] aj b:=λ{aj} bt b ag=>by
  refine ⟨bt b ag,dp (jV (hl b ag) iW),λ z=>?_,.inl ag,λ x a e=>(c6 b ag).2.2.2.2.1 x a (c.cells I.ok e),λ p az=>absurd (show p∈([]:List (Addr × Obj)) from az) (by simp)⟩;rcases dJ.mp (I.oR b z) with y | y
  ·exact (c6 b ag).2.1 y
  ·exact (c6 b ag).2.2.1 y
 have loop:hT (aI X.prog X.w) X.A (.compLoop (.ListComp elt [⟨bp,iter,[ct],0⟩] scope pos) 0 (.ref it) (.ref D) (jR scope (fL X.env.cells scope.names []) aT.objs.size X.env))
  (WF (aI X.prog X.w) X.A X.xe (some (XV (.Name y py) X.env)) (λ _ s'=>kC X pins nW .next s') (.ref D) aT.objs.size) { s2 with heap:=cb,toks:=s2.toks+([]:List (Str × Value)).length }:=by
  refine wm rfl (λ n s'=>∃ i ys σ' aj,Inv (c0 X scope N' aT.objs.size fp { s2 with heap:=aT } (upd aS D (.lst []))) [] σ' aj s'/\e4 i s'.heap/\(∀ b∈fp,aj b=none)/\W i n ys σ' aj) (λ n s5 iX=>?_) m0 ⟨0,[],_,_,hZ,lB,λ b ag=>(c6 b ag).1,hX⟩;obtain ⟨i,ys,σ5,fJ,j2,iV,j3,qf⟩:=iX;show aG _ X.A ((rr (.ListComp elt [⟨bp,iter,[ct],0⟩] scope pos) 0 (.ref it) (.ref D) (jR scope (fL X.env.cells scope.names []) aT.objs.size X.env)).onRaise (λ x=>do wx x (jR scope (fL X.env.cells scope.names []) aT.objs.size X.env);wh x)) _ _ s5;refine wp ?_;rw [F5];rcases turn i n ys σ5 fJ qf with ⟨stop,nG⟩ | ⟨go,step⟩
  ·refine ao (k3 (ao (eg (T.done (c0 X scope N' aT.objs.size fp { s2 with heap:=aT } (upd aS D (.lst []))) rfl rfl rfl aE i [] s5 σ5 fJ (λ _ _=>False) j2 (hi j3) iV stop) (λ r gK ⟨am,nH⟩=>?_) λ _ _ z=>z.elim)));subst am;exact a3 (fin nH nG)
  ·refine ao (k3 (ao (eg (T.item (c0 X scope N' aT.objs.size fp { s2 with heap:=aT } (upd aS D (.lst []))) rfl rfl rfl aE i [] s5 σ5 fJ (λ _ _=>False) j2 (hi j3) iV go) (λ r gK ⟨u,am,j_⟩=>?_) λ _ _ z=>z.elim)));subst am;refine ao (eg j_ (λ _ j4 ⟨x,fu,hj,nI,qg,hn,qh⟩=>?_) λ _ _ z=>z.elim);have qi:=hj.pinned (hi qh) (T.obj _ _ hn);refine ao (eg (aZ _ _ _ _ _ j4 σ5 fu x u _ qi nI (step x fu qg)) (λ _ nR ⟨σ8,qj,qk,ql⟩=>?_) λ _ _ z=>z.elim);refine ao (eg (bT _ _ _ _ _ nR σ8 qj _ qk ql) (λ rY qn ⟨nS,ka,nT⟩=>?_) λ _ _ z=>z.elim)
   cases rY with
   | true=>
    rw [if_pos rfl];rw [if_pos rfl] at nT;refine ao (ao (eg (he _ _ _ _ _ qn σ8 nS _ ka nT) (λ qm zG ⟨y,ud,zH,zI,uf,zJ,c5,kb,zK⟩=>?_) λ _ _ z=>z.elim))
    refine ao (eg (t8 (X:=c0 X scope N' aT.objs.size fp { s2 with heap:=aT } (upd aS D (.lst []))) _ zG σ8 ud (.ref D) [y] (.ref D) [qm] (λ v lC=>v=.bJ/\lC=upd ud D (.lst (ys++[y]))) zH rfl (.cons zI .nil) ⟨D,ys,y,rfl,rfl,uf,zJ,rfl,rfl⟩)
     (λ _ zE ⟨v10,lC,iY,_,_,qp⟩=>?_) λ _ _ z=>z.elim)
    subst qp;refine a3 (a3 ⟨rfl,c5,kb,i+1,ys++[y],σ8,_,iY.mD,?_,λ b ag=>?_,zK⟩)
    ·exact T.keep _ _ _ hn λ b ag o e=>(iY.pin (b,o) (d6 _ (d6 _ (jt ag e)))).1
    ·obtain ⟨o,e,d⟩:=T.obj _ _ hn b ag;exact (iY.pin (b,o) (d6 _ (d6 _ (jt ag e)))).2.1
   | false=>
    rw [if_neg gI];rw [if_neg gI] at nT;obtain ⟨c5,kb,qo⟩:=nT;refine a3 ⟨rfl,c5,kb,i+1,ys,σ8,_,ka.mD,?_,λ b ag=>?_,qo⟩
    ·exact T.keep _ _ _ hn λ b ag o e=>(ka.pin (b,o) (d6 _ (d6 _ (jt ag e)))).1
    ·obtain ⟨o,e,d⟩:=T.obj _ _ hn b ag;exact (ka.pin (b,o) (d6 _ (d6 _ (jt ag e)))).2.1
 exact wd loop (T.self _ 0 _ _ _ lB loop)
end
def Gm(ar:Int)(n:Nat):hD:=⟨λ i _=>i < n,λ i H x aj=>aj=H/\x=.int (ar - i),λ i _=>n<=i⟩
theorem P0{P:ck}{w:bW}{K:bl}{bp:bg}(it:Addr)(ar:Int)(n:Nat):Turn P w K bp (Gm ar n) [it] it (λ i h=>wn h it (ar+(i:Nat) * (-1)) ((n:Int) - (i:Nat)) (-1)) where
 mem:=by simp
 obj:=λ i h st b ag=>by
  have e:b=it:=by simpa using ag
  subst e
  exact ⟨_,st,λ v z=>by
   have hV:Data.fields _=Data.cell v:=z
   cases hV⟩
 keep:=λ i h h' st k=>k it (by simp) _ st
 item:=by
  intro X gg hw eR aE i pins s σ H E I hf st aZ;subst gg hw eR;obtain ⟨f0,f1,f2,c6,f4,fI⟩:=hf it (by simp);have W:=Walks.range (prog:=X.prog) (w:=X.w) (I.ok.hd aE) it ar (-1) n;refine W.item i s _ _ aZ st λ v h' tk bC hY dr=>?_;obtain ⟨t,rfl⟩:=bC;have a6:Inv X pins σ H { s with heap:=h',toks:=tk }:=I.turned (λ b o ag e=>dr b o (by simpa using ag) e) f0 f1 c6 f4 fI;refine ⟨_,rfl,wX (s:={ s with heap:=h',toks:=tk }) (n:="range_iterator") hY rfl rfl (by decide) ⟨.int (ar - i),H,a6,⟨t,?_⟩,⟨rfl,rfl⟩,hY,λ b ag=>(hf b ag).1⟩⟩;rw [show ar - (i:Int)=ar+(i:Int) * (-1) by omega]
 done:=by
  intro X gg hw eR aE i pins s σ H E I hf st aZ;subst gg hw eR;obtain ⟨f0,f1,f2,c6,f4,fI⟩:=hf it (by simp)
  exact EC (I.ok.hd aE) st (by have:n<=i:=aZ;omega) λ h' ea=>⟨rfl,I.turned (t':=s.toks) (λ b o ag e=>ea b o ag e) f0 f1 c6 f4 fI⟩
 self:=λ _ _ _ _ _ st h=>ED st h
theorem Gn(a b:Int):Builtin.Range.rangeSize a b (-1)=if a > b then a - b else 0:=by
 unfold Builtin.Range.rangeSize;rw [if_neg (by decide)];split
 ·rw [show -(-1:Int)=1 by decide,Int.ediv_one];omega
 ·rfl
theorem P1{a b:Int}(aD:-(2 ^ 62)<=a)(acS:a < 2 ^ 62)(ag:-(2 ^ 62)<=b)(zZ:b < 2 ^ 62):Builtin.Range.small a b (-1)=true:=by
 unfold Builtin.Range.small;rw [Gn];rw [if_neg (show ¬ ((-1:Int) > 0) by decide)];simp only [Builtin.Range.rangeFitsLong,eU,Bool.or_eq_true,decide_eq_true_eq,beq_iff_eq];split<;>omega
section
variable{X:bb}{bp:bg}
def Gp(bw:eD):TI:=λ σ H R=>bw σ H λ ai H1=>∃ i:Int,ai=[.int i,.int (-1),.int (-1)]/\(-(2 ^ 62)<=i/\i < 2 ^ 62)/\R (Gm i (i+1).toNat) H1
theorem P2{a b c:bg}{bw:eD}{p pos:Pos}(aZ:di X "range")(hm:X.mg "range" = none)(aD:hc X [a,b,c] bw)(ak:dw a=true:=by rfl)(aq:dw b=true:=by rfl)(aT:dw c=true:=by rfl) :
 mC X bp (.Call (.Name "range" p) [a,b,c] [] pos) (Gp bw):=by
 intro pins s σ H R I h;have ax:dv [a,b,c] X.env=(false,eval a X.env)::dv [b,c] X.env:=eH ak
 have az:(fS pos (dv [b,c] X.env)).any (·.1)=false:=by rw [eH aq,eH aT];rfl
 refine Call_ (iU I aZ hm boot_range (mr (b5 (aD pos pins s σ H _ I h) λ us s1 ⟨ai,H1,a6,bj,aH⟩=>?_) ax az));obtain ⟨i,e,⟨aH,bI⟩,q⟩:=aH;subst e
 cases bj with
 | cons r dL=>
  cases dL with
  | cons dK dL=>
   cases dL with
   | cons P3 dL=>
    cases dL;obtain ⟨t,rfl⟩:=r;obtain ⟨t',rfl⟩:=dK;obtain ⟨xl,rfl⟩:=P3;refine call_range_3 (by decide) ?_ (.inl (PyProof.noPylong_of_log2 (by decide +kernel)));refine wpAny_pyIter_range (IsRange.new ..) (P1 aH bI (by decide) (by decide)) ?_;have cy:Inv X pins σ H1 { s1 with heap:=s1.heap.push { cls:=.type "range", data:=.fields #[.int i t,.int (-1) t',.int (-1) xl] },toks:=s1.toks }:=a6.kept λ b o e=>cm _ e
    refine ⟨(s1.heap.push { cls:=.type "range", data:=.fields #[.int i t,.int (-1) t',.int (-1) xl] }).objs.size,[(s1.heap.push { cls:=.type "range", data:=.fields #[.int i t,.int (-1) t',.int (-1) xl] }).objs.size],_,_,H1,rfl,
     cy.kept (t':=s1.toks) λ b o e=>cm _ e,P0 _ i (i+1).toNat,?_,λ b ag=>?_,q⟩
    ·have aP:i+((0:Nat):Int) * (-1)=i:=by simp
     have aL:(((i+1).toNat:Nat):Int) - ((0:Nat):Int)=Builtin.Range.rangeSize i (-1) (-1):=by rw [Gn];split<;>omega
     show wn _ _ (i+((0:Nat):Int) * (-1)) ((((i+1).toNat:Nat):Int) - ((0:Nat):Int)) (-1);rw [aP,aL];exact d2 _ rfl
    ·have e:b=(s1.heap.push { cls:=.type "range", data:=.fields #[.int i t,.int (-1) t',.int (-1) xl] }).objs.size:=by simpa using ag
     subst e;exact cy.oZ (b7 _) (cy.bM.fresh (b7 _))
end
section
variable{X:bb}{a b c e:bg}{t:eD}{aW:TE}{pos p:Pos}
theorem P4{bp:bg}(aZ:di X "range")(hm:X.mg "range" = none)(aD:jz X [a,b,c] t)(ak:dw a=true:=by rfl)(aq:dw b=true:=by rfl)(aT:dw c=true:=by rfl):mM X bp (.Call (.Name "range" p) [a,b,c] [] pos) (Gp t):=
 ⟨P2 aZ hm aD.run ak aq aT⟩
variable{scope:eC}{N':List Str}{nt:Nat}{cap:List Nat}{elt iter bp:bg}{cZ:TI}{g:fe}
theorem P5{y:Str}{py h4:Pos}{k:Nat}(aE:X.calm=true)(cw:X.N.Nodup)(aO:X.N[k]?=some y)(bD:Loc X.env.scope y)(ok:ey X scope N' nt cap)(ar:mM X bp iter cZ)(aZ:∀ C ex s H,iu (c0 X scope N' C ex s H) bp g)(he:∀ C ex s H,cL (c0 X scope N' C ex s H) elt aW)
 (ax:∀ x,iN iter X.env x=pure x:=by intro _;rfl) (lE:je (.ListComp elt [⟨bp,iter,[],0⟩] scope pos) (some (.Name y py)) h4.line X.env=pure true:=by rfl) (hf:X.fn y=true\/X.env.scope.names.lookup y=some .local:=by first | exact .inl rfl | exact .inr rfl | assumption) :
 kd X (.Assign [.Name y py] (.ListComp elt [⟨bp,iter,[],0⟩] scope pos) h4) (oX (t_ cZ g aW nt cap) (oW k)):=⟨PY aE cw aO bD ok ar.run (λ C ex s H=>(aZ C ex s H).run) (λ C ex s H=>(he C ex s H).run) ax lE hf⟩
theorem P6{ct:bg}{bo:TT}{y:Str}{py h4:Pos}{k:Nat}(aE:X.calm=true)(cw:X.N.Nodup)(aO:X.N[k]?=some y)(bD:Loc X.env.scope y)(ok:ey X scope N' nt cap)(ar:mM X bp iter cZ)(aZ:∀ C ex s H,iu (c0 X scope N' C ex s H) bp g)
 (bT:∀ C ex s H,g5 (c0 X scope N' C ex s H) ct bo) (he:∀ C ex s H,cL (c0 X scope N' C ex s H) elt aW)
 (ax:∀ x,iN iter X.env x=pure x:=by intro _;rfl) (lE:je (.ListComp elt [⟨bp,iter,[ct],0⟩] scope pos) (some (.Name y py)) h4.line X.env=pure true:=by rfl) (hf:X.fn y=true\/X.env.scope.names.lookup y=some .local:=by first | exact .inl rfl | exact .inr rfl | assumption) :
 kd X (.Assign [.Name y py] (.ListComp elt [⟨bp,iter,[ct],0⟩] scope pos) h4) (oX (ua cZ g bo aW nt cap) (oW k)):=⟨PZ aE cw aO bD ok ar.run (λ C ex s H=>(aZ C ex s H).run) (λ C ex s H=>(bT C ex s H).run) (λ C ex s H=>(he C ex s H).run) ax lE hf⟩
end
structure r0(P:ck)(w:bW)(K:bl)(mg:Str->Option Value)(base:bL)(k:Nat)(f:Addr)(sp:fK):Prop where
 ex:∃(fd:f9)(ps:List Str),cp P w K mg base cc k f fd ps sp/\mq K (.ref f)=true/\Binds K fd ps []
theorem Got.Gq{P:ck}{w:bW}{K:bl}{mg:Str->Option Value}{base:bL}{k:Nat}{x:Str}{ps:List Str}{sp:fK}(G:Got P w K mg base k x ps sp):∃ f,mg x=some (.ref f)/\r0 P w K mg base k f sp:=by
 obtain ⟨f,fd,F,hm,b0,b⟩:=G.ex;exact ⟨f,hm,fd,ps,F,b0,b⟩
def Gr(i:Nat)(f:Addr)(sp:fK)(t:eD):TE:=λ σ H Q=>σ[i]?=some (some (.ref f))/\w1 sp [] o9 t σ H Q
section
variable{X:bb}{k j:Nat}{f:Addr}{x:Str}{sp:fK}{p pos:Pos}{e:bg}{ah:List bg}{t:eD}
theorem P7{i:Nat}(G:r0 X.prog X.w X.K X.mg X.base k f sp)(am:eF j X.A)(aO:k<=j)(cw:X.N[i]?=some x)(bC:ld X.env.scope x)(aD:hc X (e::ah) t)(hd:(x==("__debug__" : Str))=false)(e3:(x==("__classdict__" : Str))=false)
 (he:dv (e::ah) X.env=(false,eval e X.env)::dv ah X.env) (fX:(fS pos (dv ah X.env)).any (·.1)=false) :
 bX X (.Call (.Name x p) (e::ah) [] pos) (Gr i f sp t):=by
 intro pins s σ H Q I h;obtain ⟨aP,h⟩:=h;obtain ⟨fd,ps,F,b0,b⟩:=G.ex;refine iM (b5 (zh (pos:=p) cw bC hd e3 pins s σ H (λ v H1=>v=.ref f/\H1=H) I ⟨_,aP,rfl,rfl⟩) λ u s1 ⟨v,H1,a6,bj,ev,lD⟩=>?_);subst ev lD;obtain rfl:u=Value.ref f:=bj;refine PySem.W.callWith_K (h₀:=X.base) I.ok.mod.tH b0 (b5 (aD pos pins s1 σ H1 _ a6 h) λ us s2 ⟨ai,aS,cy,r,q⟩=>⟨cy.gv,?_⟩) he fX;exact Fu F (am.mono aO) b .nil FW cy r q
theorem P8(i:Nat)(G:r0 X.prog X.w X.K X.mg X.base k f sp)(am:eF j X.A)(aO:k<=j)(aD:jz X (e::ah) t)(cw:X.N[i]?=some x:=by rfl)(bC:ld X.env.scope x:=by first | exact Or.inl rfl | exact Or.inr (Or.inl rfl) | exact Or.inr (Or.inr rfl))
 (hd:(x==("__debug__" : Str))=false:=by decide) (e3:(x==("__classdict__" : Str))=false:=by decide) (ax:(e::ah).all dw=true:=by rfl):cL X (.Call (.Name x p) (e::ah) [] pos) (Gr i f sp t):=by
 have h:=ax;rw [iP,eU] at h;exact ⟨P7 G am aO cw bC aD.run hd e3 (eH h.1) (qs h.2)⟩
end
end L2
namespace fl
open PySem PyProof.Rows
theorem own:Manifest.owners.lookup (String.ofList ['d', 'e', 's', 'r', 'e', 'v', 'e', 'r'].reverse)=some Manifest.sig_reversed:=by kernel_rfl
theorem h5:jg "reversed" "__next__" "reversed.__next__":=.of (owner:="reversed") (n:="__next__") (by rw [kt,kr];kernel_rfl) (by decide +kernel) (by decide +kernel) (by decide +kernel) (by first | exact .inl (by decide +kernel) | exact .inr (by decide +kernel)) (by rw [jQ];kernel_rfl)
theorem uu:jg "reversed" "__iter__" "reversed.__iter__":=.of (owner:="reversed") (n:="__iter__") (by rw [kt,kr];kernel_rfl) (by decide +kernel) (by decide +kernel) (by decide +kernel) (by first | exact .inl (by decide +kernel) | exact .inr (by decide +kernel)) (by rw [jQ];kernel_rfl)
theorem z0:jg "reversed" "__length_hint__" "reversed.__length_hint__":=.of (owner:="reversed") (n:="__length_hint__") (by rw [kt,kr];kernel_rfl) (by decide +kernel) (by decide +kernel) (by decide +kernel) (by first | exact .inl (by decide +kernel) | exact .inr (by decide +kernel)) (by rw [jQ];kernel_rfl)
theorem P9:jg "reversed" "__init__" "object.__init__":=.of (owner:="object") (n:="__init__") (by rw [kt,kr];kernel_rfl) (by decide +kernel) (by decide +kernel) (by decide +kernel) (by first | exact .inl (by decide +kernel) | exact .inr (by decide +kernel)) (by rw [jQ];kernel_rfl)
theorem qt:WP table "reversed.__next__" = some Builtin.«reversed.__next__»:=y4 (by kernel_rfl)
theorem P_:WP table "reversed.__length_hint__" = some Builtin.«reversed.__length_hint__»:=y4 (by kernel_rfl)
theorem z1:WP table "reversed.__iter__" = some Builtin.«dict_keyiterator.__iter__»:=wi (id':="dict_keyiterator.__iter__") (by kernel_rfl) (by first | rfl | decide +kernel | (unfold String.splitOn;simp +decide [String.splitOnAux])) (by decide +kernel) (by kernel_rfl)
theorem qu(a:Value):Wp "reversed.__next__" ⟨[a],[]⟩:=by unfold Wp;rw [signature?_of (id:="reversed.__next__") (n:=['_', '_', 't', 'x', 'e', 'n', '_', '_']) (o:=['d', 'e', 's', 'r', 'e', 'v', 'e', 'r']) (by kernel_rfl) own];kernel_rfl
theorem z2(a:Value):Wp "reversed.__iter__" ⟨[a],[]⟩:=by unfold Wp;rw [signature?_of (id:="reversed.__iter__") (n:=['_', '_', 'r', 'e', 't', 'i', '_', '_']) (o:=['d', 'e', 's', 'r', 'e', 'v', 'e', 'r']) (by kernel_rfl) own];kernel_rfl
theorem Qa(a:Value):Wp "reversed.__length_hint__" ⟨[a],[]⟩:=by unfold Wp;rw [signature?_of (id:="reversed.__length_hint__") (n:=['_', '_', 't', 'n', 'i', 'h', '_', 'h', 't', 'g', 'n', 'e', 'l', '_', '_']) (o:=['d', 'e', 's', 'r', 'e', 'v', 'e', 'r']) (by kernel_rfl) own];kernel_rfl
theorem Qb:TypeCalled "reversed" "reversed.__new__" "object.__init__":=⟨by decide +kernel,by decide +kernel,⟨_,_,F.mro_reversed⟩,F.made_reversed,by decide +kernel,by rw [jQ];kernel_rfl,P9⟩
theorem Qc:ro (.type "reversed") "__len__" = pure none:=by rw [kt,kr];kernel_rfl
theorem Qd:ro (.type "list_reverseiterator") "__len__" = pure none:=by rw [kt,kr];kernel_rfl
theorem Qe:ro (.type "list_reverseiterator") "__length_hint__" = pure (some (.builtin "list_reverseiterator.__length_hint__")):=by rw [kt,kr];kernel_rfl
theorem Qf:ro (.type "tuple") "__reversed__" = pure none:=by rw [kt,kr];kernel_rfl
theorem Qg:isSubtype (.type "tuple") (.type "dict")=pure false:=by rw [jQ];kernel_rfl
abbrev mN(h:bL)(it t:Addr)(k:Int):Prop:=h.get? it=some { cls:=.type "reversed", dict:=none,data:=.fields #[.ref t,d5 k],slots:=#[] }
section
variable{prog:ck}{w:bW}{A:c1}{E:Value->aC->Prop}{s:aC}{it t:Addr}
theorem xm{α:Type}{Q:α->aC->Prop}(dt:A.handled=none)(h:∀ h' e,(∀ b o,s.heap.get? b=some o->h'.get? b=some o)->Shared.TypeIs { s with heap:=h' } (.ref e) "StopIteration"->E (.ref e) { s with heap:=h' }):aG (aI prog w) A (Builtin.SmallTypes.stopIteration:Sem α) Q E s:=by
 unfold Builtin.SmallTypes.stopIteration;refine ao ?_;unfold newExc newTuple;refine ao (hu ?_ (by size_fits));rw [show firstArgMember (.type "StopIteration") []=pure Value.none from by unfold firstArgMember;rfl,pure_bind];refine hu ?_ (by size_fits);unfold raiseNew;refine ao (wpAny_handled ?_);rw [dt];exact wpAny_throw (h _ _ (λ b o e=>cm _ (cm _ e)) ⟨_,d2 _ rfl,rfl⟩)
theorem Qh{k:Int}{Q:Value->aC->Prop}(hit:mN s.heap it t k)(h:Q (.ref it) s):aG (aI prog w) A (pZ (.ref it)) Q E s:=
 have bQ:s.TypeIs (.ref it) "reversed":=⟨_,hit,rfl⟩
 y1 bQ uu (hv uu bQ z1 (a3 ⟨_,rfl,"reversed", _,bQ,h5.lookup,h⟩) (z2 _))
theorem Qi{k:Nat}{items:Array Value}{x:Value}{Q:Option Value->aC->Prop}(hit:mN s.heap it t k)(bT:jh s.heap t items)(aF:items[k]?=some x)(aO:(k:Int) < 2 ^ 63)
 (dB:∀ h' tk,mN h' it t ((k:Int) - 1)->Heap.SameBut it s.heap h'->Q (some x) { s with heap:=h',toks:=tk }):aG (aI prog w) A (gu (.ref it)) Q E s:=by
 have bQ:s.TypeIs (.ref it) "reversed":=⟨_,hit,rfl⟩
 have fy:k < items.size:=(Array.getElem?_eq_some_iff.mp aF).1;unfold gu;refine ao (mb (wpAny_callSpecial?_slot bQ h5 (hv h5 bQ qt ?_ (qu _))));refine (show aG (aI prog w) A.in1 (iO (.ref it) 0 >>= _) _ _ s from ao (gq hit rfl (x:=.ref t) rfl ?_));refine (show aG (aI prog w) A.in1 (iO (.ref it) 1 >>= _) _ _ s from ao (gq hit rfl (x:=d5 k) rfl ?_));refine (show aG (aI prog w) A.in1 (if (k:Int) < 0 then _ else _) _ _ s from ?_);rw [if_neg (by omega)];refine ao (ni bT.typeIs slot_tuple_getitem.lookup ?_);rw [if_neg (by simp)];refine (show aG (aI prog w) A.in1 (mkInt k >>= _) _ _ s from ao (wpAny_mkInt ?_));refine ao (mb (getItem_tuple (j:=k) (x:=x) (s:={ s with toks:=s.toks+1 }) bT (by omega) aO (by simp [seqIndex?];omega) aF ?_));refine (show aG (aI prog w) A.in1 (iO (.ref it) 1 >>= _) _ _ _ from ao (gq hit rfl (x:=d5 k) rfl ?_));exact ao (XL hit rfl (by simp) (a3 ⟨x,rfl,a3 (dB _ _ (il _ hit rfl) (Heap.SameBut.update ..))⟩))
theorem Qj{k:Int}{Q:Option Value->aC->Prop}(dt:A.handled=none)(hit:mN s.heap it t k)(aO:k < 0)(dB:∀ h',Heap.ExtBut it s.heap h'->Q none { s with heap:=h' }):aG (aI prog w) A (gu (.ref it)) Q E s:=by
 have bQ:s.TypeIs (.ref it) "reversed":=⟨_,hit,rfl⟩
 unfold gu;refine ao (mb (wpAny_callSpecial?_slot bQ h5 (hv h5 bQ qt ?_ (qu _))));refine (show aG (aI prog w) A.in1 (iO (.ref it) 0 >>= _) _ _ s from ao (gq hit rfl (x:=.ref t) rfl ?_));refine (show aG (aI prog w) A.in1 (iO (.ref it) 1 >>= _) _ _ s from ao (gq hit rfl (x:=d5 k) rfl ?_));refine (show aG (aI prog w) A.in1 (if k < 0 then _ else _) _ _ s from ?_);rw [if_pos aO];refine ao (hx (ao ?_));refine (show aG (aI prog w) A.in1 (setField (.ref it) 1 (d5 (-1)) >>= λ _=>setField (.ref it) 0 .none) _ _ s from ao (XL hit rfl (by simp) ?_));refine XL (il (Obj.mapFields (·.setIfInBounds 1 (d5 (-1)))) hit rfl) rfl (by simp) ?_;refine ao (xm (A:=A.in1) dt λ h' e dr ax=>?_);refine ao (l9 (T:="StopIteration") (b:=true) ax wj (a3 (dB _ λ b o ag e=>dr b o ?_)));exact ((Heap.SameBut.update ..).trans (Heap.SameBut.update ..)).extBut b o ag e
theorem Qk{k:Int}{items:Array Value}{Q:Value->aC->Prop}(hit:mN s.heap it t k)(bT:jh s.heap t items)(hz:(items.size:Int) < 2 ^ 63)(aO:k+1=items.size)
 (h:∀ u tk,s.toks<=tk->Q (.int (items.size:Int) u) { s with toks:=tk }):aG (aI prog w) A (call (.builtin "reversed.__length_hint__") [.ref it]) Q E s:=by
 have bQ:s.TypeIs (.ref it) "reversed":=⟨_,hit,rfl⟩
 refine hv z0 bQ P_ ?_ (Qa _);refine (show aG (aI prog w) A.in1 (iO (.ref it) 0 >>= _) _ _ s from ao (gq hit rfl (x:=.ref t) rfl ?_));refine (show aG (aI prog w) A.in1 (if (Value.ref t==Value.none)=true then _ else _) _ _ s from ?_);rw [if_neg (show ¬ ((Value.ref t==Value.none)=true) from gI)];refine (show aG (aI prog w) A.in1 (call (.builtin "len") [.ref t] >>= _) _ _ s from ao (len_tuple bT hz ?_));refine ao (m:=asInt? (.int (items.size:Int) _)) (a3 ?_);refine (show aG (aI prog w) A.in1 (iO (.ref it) 1 >>= _) _ _ _ from ao (gq hit rfl (x:=d5 k) rfl ?_));refine (show aG (aI prog w) A.in1 (if (items.size:Int) < k+1 then _ else _) _ _ _ from ?_);rw [if_neg (by omega),aO];exact ao (wpAny_mkInt (a3 ⟨_,rfl,h _ _ (by simp;omega)⟩))
end
theorem mO(t:Addr)(items:Array Value)(hz:(items.size:Int) < 2 ^ 63) :
 Meets (Builtin.«reversed.__new__» ⟨[.type "reversed", .ref t],[]⟩) (λ _ R s=>jh s.heap t items ∧
  ∀ tk,R (.ok (.ret (.ref s.heap.objs.size))) { s with heap:=s.heap.push { cls:=.type "reversed", data:=.fields #[.ref t,d5 ((items.size:Int) - 1)] },toks:=tk }):=
 .of_wp λ prog w A R s ⟨bT,h⟩=>by
  unfold Builtin.«reversed.__new__»;refine ao (tb (newClass_reversed _) (ao (m:=Builtin.SmallTypes.refuseKeywords _ _ _) (a3 ?_)));refine ao (tb (a:=()) (by rfl) (ao (ni bT.typeIs Qf (ao ?_))));refine (show aG (aI prog w) A.in1 (isInstance (Value.ref t) (.type "dict") >>= _) _ _ s from ao (l9 (T:="tuple") (b:=false) bT.typeIs Qg ?_));rw [if_neg (by decide)];refine ao (ni bT.typeIs slot_tuple_getitem.lookup ?_);refine (show aG (aI prog w) A.in1 (if (["tuple.__getitem__", "str.__getitem__", "bytes.__getitem__", "bytearray.__getitem__", "memoryview.__getitem__", "numpy.ndarray.__getitem__", "sqlite3.Row.__getitem__"].contains "tuple.__getitem__")=true then _ else _) _ _ s from ?_);rw [if_pos (by decide)];refine a3 ?_;rw [if_neg (by decide)];refine (show aG (aI prog w) A.in1 (call (.builtin "len") [.ref t] >>= _) _ _ s from ao (len_tuple bT hz ?_));refine ao (m:=asInt? (.int (items.size:Int) _)) (a3 ?_);refine (show aG (aI prog w) A.in1 (newObj (.type "reversed") (.fields #[.ref t,d5 ((items.size:Int) - 1)]) >>= _) _ _ _ from ao (hu ?_ (by size_fits)));exact a3 ⟨_,rfl,h _⟩
theorem Ql{prog:ck}{w:bW}{A:c1}{E:Value->aC->Prop}{s:aC}{t:Addr}{items:Array Value}{Q:Value->aC->Prop}(bT:jh s.heap t items)(hz:(items.size:Int) < 2 ^ 63)
 (h:∀ tk,Q (.ref s.heap.objs.size) { s with heap:=s.heap.push { cls:=.type "reversed", data:=.fields #[.ref t,d5 ((items.size:Int) - 1)] },toks:=tk }):aG (aI prog w) A (call (.type "reversed") [.ref t]) Q E s:=
 callType_new Qb (by decide) (F.typeCall_reversed_1 _) (F.newCall_reversed_1 _) (λ obj=>F.args_object_init_2 obj _) F.entry_reversed_new (mO t items hz) ⟨bT,λ tk=>⟨⟨_,d2 _ rfl,rfl⟩,h tk⟩⟩
theorem Qm{prog:ck}{w:bW}{A:c1}(dt:A.handled=none)(I t:Addr)(dQ:t≠I)(items:Array Value)(hz:(items.size:Int) < 2 ^ 63) :
 Walks prog w A I [I,t] [I] items.size (λ i v=>items[items.size - 1 - i]?=some v) (λ i h=>mN h I t ((items.size:Int) - 1 - i)/\jh h t items) where
 sub:=λ b ag=>by rw [f_.mp ag];exact fh
 frame:=λ _ _ _ st aO=>⟨aO I (by simp) _ st.1,let ⟨o,a4,r⟩:=st.2;⟨o,aO t (by simp) _ a4,r⟩⟩
 item:=λ i s Q E ar st dB=>by
  have Qn:mN s.heap I t ((items.size - 1 - i:Nat):Int):=by rw [show ((items.size - 1 - i:Nat):Int)=(items.size:Int) - 1 - i by omega];exact st.1
  refine Qi Qn st.2 (x:=items[items.size - 1 - i]) (by simp<;>omega) (by omega) λ h' tk Gs kG=>?_;rw [show ((items.size - 1 - i:Nat):Int) - 1=(items.size:Int) - 1 - ((i+1:Nat):Int) by omega] at Gs;exact dB _ h' tk (by simp<;>omega) ⟨Gs,st.2.extBut kG.extBut dQ⟩ λ b o ag e=>kG.extBut b o (λ z=>ag (f_.mpr z)) e
 done:=λ s Q E st dB=>Qj dt st.1 (by omega) λ h' he=>dB h' s.toks λ b o ag e=>he b o (λ z=>ag (f_.mpr z)) e
 self:=λ i s Q E st h=>Qh st.1 h
def z3(prog:ck)(w:bW)(A:c1)(I:Addr)(St:Nat->aC->Prop):Prop:=
 ∀(s:aC)(Q:Bool->aC->Prop)(E:Value->aC->Prop),St 0 s->(∀ b tk,s.toks<=tk->Q b { s with toks:=tk })->aG (aI prog w) A (Builtin.List.listLengthHint (.ref I)) Q E s
structure hD(prog:ck)(w:bW)(A:c1)(I:Addr)(fp wr:List Addr)(n:Nat)(P:Nat->Value->Prop)(St:Nat->aC->Prop):Prop where
 walk:WalksS prog w A I fp wr (λ a b=>b=a) n P St
 ty:∃ T,(Value.type T==Value.type "list")=false/\(Value.type T==Value.type "tuple")=false/\∀ i s,St i s->s.TypeIs (.ref I) T
 hint:z3 prog w A I St
 mem:I∈fp
 e6:n<=sizeLine
section
variable{prog:ck}{w:bW}{A:c1}{E:Value->aC->Prop}{s:aC}{R:p0->aC->Prop}{I S:Addr}{fp wr:List Addr}{n:Nat}{P:Nat->Value->Prop}{St:Nat->aC->Prop}
abbrev listAt(acc:Array Value)(c:Nat):Obj:={ cls:=.type "list", dict:=none,data:=.seq acc c,slots:=#[] }
theorem Gu(J:hD prog w A.in1 I fp wr n P St)(res:Value)(c₀:Nat)(hC:St 0 s)(ke:S ∉ fp)(cX:s.heap.get? S=some (listAt #[] c₀))
 (cF:∀ s' acc c,oG (S::wr) (λ a b=>b=a) s s'->s'.heap.get? S=some (listAt acc c)->nn P acc n->R (.ok (.ret res)) s') :
 aG (aI prog w) A.in1 (Builtin.List.listExtendWith (.ref S) (.ref I) res)
  (λ fin s'=>match fin with | .done f=>R (.ok f) s' | .again b_=>b_.quiet=true/\hT (aI prog w) A b_ R s') (λ e s'=>R (.error e) s') s:=by
 obtain ⟨T,t1,c2,bQ⟩:=J.ty;have W:=J.walk
 have ak:Builtin.List.listSameRef (.ref S) (.ref I)=false:=by
  have:S≠I:=λ e=>ke (e ▸ J.mem);simp [Builtin.List.listSameRef,this]
 unfold Builtin.List.listExtendWith;refine ao (oA (bQ 0 _ hC) ?_);rw [ak,t1,c2,rI,rI,if_neg gI];refine ao (W.self 0 _ _ _ hC (ao (g_ (J.hint _ _ _ hC λ b tk p9=>?_))))
 have go:∀(h':bL)(c:Nat),(∀ b o,b≠S->s.heap.get? b=some o->h'.get? b=some o)->h'.get? S=some (listAt #[] c) →
  hT (aI prog w) A (.builtin "list.extend.loop" ⟨[.ref S,.ref I,res],[]⟩) R { s with heap:=h',toks:=tk }:=λ h' c dr e=>
  codeAny_extend_loopS W J.e6 _ ke _ n 0 _ _ _ rfl (e0 _) (W.frame 0 s h' tk hC p9 λ b ag o e=>dr b o (λ z=>ke (z ▸ ag)) e) e (ItemsOf.nil P) λ s' acc b_ hm gQ gl=>
   cF s' acc b_ (Moved.trans (s':={ s with heap:=h',toks:=tk }) W.gtrans ⟨λ b o ag e=>dr b o (λ z=>ag (by rw [z];exact fh)) e,rfl,rfl,rfl,p9⟩ hm) gQ gl
 refine wpAny_ite_split (λ _=>ao (hx (ao ?_))) (λ _=>a3 ⟨ku F.plain_extend_loop _,go _ _ (λ _ _ _ e=>e) cX⟩);refine (show aG (aI prog w) A.in1 (tf S (·.push .none) >>= λ _=>tf S (·.pop)) _ _ _ from ao (nh cX rfl ?_));have aL:=il (Obj.mapSeq (·.push Value.none)) cX rfl;refine nh (hz:=by seq_fits) aL rfl (a3 ⟨ku F.plain_extend_loop _,go _ _ (λ b o ag e=>?_) (il (Obj.mapSeq (·.pop)) aL rfl)⟩);exact (jY _ _ (Ne.symm ag)).trans ((jY _ _ (Ne.symm ag)).trans e)
theorem listOf{Q:Value->aC->Prop}(J:hD prog w A.in1.in1 I fp wr n P St)(hC:St 0 s)(qv:∀ b∈fp,b < s.heap.objs.size)
 (dB:∀ s' acc c,oG (s.heap.objs.size::wr) (λ a b=>b=a) { s with heap:=s.heap.push (listAt #[] 0) } s'->s'.heap.get? s.heap.objs.size=some (listAt acc c)->nn P acc n->Q (.ref s.heap.objs.size) s') :
 aG (aI prog w) A (call (.type "list") [.ref I]) Q E s:=by
 have ke:s.heap.objs.size ∉ fp:=λ hm=>jU _ (qv _ hm);refine callType_codes (Q₁:=λ obj dC=>obj=.ref s.heap.objs.size/\dC={ s with heap:=s.heap.push (listAt #[] 0) }) F.called_list (F.typeCall_list_1 _) F.entry_list_init (code_list_new _ ⟨rfl,rfl⟩) ?_;rintro obj dC ⟨rfl,rfl⟩;have cX:(s.heap.push (listAt #[] 0)).get? s.heap.objs.size=some (listAt #[] 0):=d2 _ rfl;refine ⟨⟨_,cX,rfl⟩,F.args_list_init_2 _ _,?_⟩;refine (show aG (aI prog w) A.in1.in1 (Builtin.List.listItems (.ref s.heap.objs.size) >>= λ old=>Builtin.List.listUpdate (.ref s.heap.objs.size) (λ _=>#[]) >>= λ _=>letGo old.toList.reverse >>= λ _=>Builtin.List.listExtendWith (.ref s.heap.objs.size) (.ref I) .none) _ _ _ from ao ?_);unfold Builtin.List.listItems;refine ao (ma cX rfl (a3 ?_));refine (show aG (aI prog w) A.in1.in1 (tf s.heap.objs.size (λ _=>#[]) >>= λ _=>letGo (#[]:Array Value).toList.reverse >>= λ _=>Builtin.List.listExtendWith (.ref s.heap.objs.size) (.ref I) .none) _ _ _ from ao (nh cX rfl (ao (pT ?_))));have dr:∀ b o,b≠s.heap.objs.size->(s.heap.push (listAt #[] 0)).get? b=some o->((s.heap.push (listAt #[] 0)).update s.heap.objs.size (Obj.mapSeq (λ _=>(#[]:Array Value)))).get? b=some o:=λ b o ag e=>(jY _ _ (Ne.symm ag)).trans e
 refine Gu (A:=A.in1) J .none _ (J.walk.frame 0 s _ s.toks hC (b7 _) λ b ag o e=>dr b o (λ z=>ke (z ▸ ag)) (cm _ e)) ke (il (Obj.mapSeq (λ _=>(#[]:Array Value))) cX rfl) λ s' acc c hm gQ gl=>⟨rfl,dB s' acc c ?_ gQ gl⟩
 exact Moved.trans (s':={ s with heap:=(s.heap.push (listAt #[] 0)).update s.heap.objs.size (Obj.mapSeq (λ _=>(#[]:Array Value))) }) J.walk.gtrans ⟨λ b o ag e=>dr b o (λ z=>ag (by rw [z];exact fh)) e,rfl,rfl,rfl,b7 _⟩ hm
theorem Qo{Q:List Value->aC->Prop}(J:hD prog w A.in1 I fp wr n P St)(hC:St 0 s)(qv:∀ b∈fp,b < s.heap.objs.size)(dB:∀ s' acc,oG wr (λ a b=>b=a) s s'->nn P acc n->Q acc.toList s') :
 aG (aI prog w) A (tj (.ref I)) Q E s:=by
 have ke:s.heap.objs.size ∉ fp:=λ hm=>jU _ (qv _ hm);unfold tj;refine ao (y5 (l_ F.entry_proto_collect ?_));rw [Around.under_plainId F.plain_proto_collect _];refine (show aG (aI prog w) A.in1 (newList [] >>= λ l=>again (.builtin "list.__iadd__" ⟨[l,.ref I],[]⟩)) _ _ s from ao (hu (a3 ⟨ku F.plain_list_iadd _,l_ F.entry_list_iadd ?_⟩)));rw [Around.under_plainId F.plain_list_iadd _];have cX:(s.heap.push (listAt #[] 0)).get? s.heap.objs.size=some (listAt #[] 0):=d2 _ rfl
 have fin:∀ s',(∃ acc c,oG (s.heap.objs.size::wr) (λ a b=>b=a) { s with heap:=s.heap.push (listAt #[] 0) } s'/\s'.heap.get? s.heap.objs.size=some (listAt acc c)/\nn P acc n) →
  aG (aI prog w) A (do
   match (← load s.heap.objs.size).data with
   | .seq xs _=>pure xs.toList
   | _=>wq "internal:collect") Q E s':=by
  rintro s' ⟨acc,c,hm,gQ,gl⟩;exact ao (tc gQ (a3 (dB s' acc (Moved.drop_new (o:=listAt #[] 0) (tk:=s.toks) hm (b7 _)) gl)))
 refine (show aG (aI prog w) A.in1 (Builtin.List.listExtendWith (.ref s.heap.objs.size) (.ref I) (.ref s.heap.objs.size)) _ _ _ from ?_)
 refine eg (Gu (A:=A) (R:=λ r s'=>r=.ok (.ret (.ref s.heap.objs.size))/\∃ acc c,oG (s.heap.objs.size::wr) (λ a b=>b=a) { s with heap:=s.heap.push (listAt #[] 0) } s'/\s'.heap.get? s.heap.objs.size=some (listAt acc c)/\nn P acc n) J _ _
  (J.walk.frame 0 s _ s.toks hC (b7 _) λ b _ o e=>cm _ e) ke cX (λ s' acc c hm gQ gl=>⟨rfl,acc,c,hm,gQ,gl⟩)) (λ fn s' h=>?_) (λ e s' h=>absurd h.1 (by simp))
 cases fn with
 | done f=>
  obtain ⟨e,h⟩:=h;cases e;exact fin s' h
 | again b_=>exact ⟨h.1,nj h.2 λ r ln am=>by obtain ⟨rfl,am⟩:=am;exact fin ln am⟩
theorem Qp{l:Addr}{k:Nat->Int}{U:Nat->aC->Prop}:z3 prog w A I (λ i s=>i<=n/\s.heap.IsRevIter I l (k i)/\U i s):=by
 intro s Q E st h;have bQ:s.TypeIs (.ref I) "list_reverseiterator":=st.2.1.typeIs;unfold Builtin.List.listLengthHint;refine ao (ni bQ Qd ?_);refine (show aG (aI prog w) A (specialOf (Value.ref I) (Str.ofString "__length_hint__") >>= _) _ _ _ from ao (ni bQ Qe ?_))
 (generalize lF:("list_reverseiterator.__length_hint__" : String)=pd;(fail_if_success (clear lF pd));wp_delta;rw [show splitId pd=some ("list_reverseiterator", "__length_hint__") from by subst lF;decide +kernel];subst lF)
 exact ao (l9 (b:=true) bQ (by rw [jQ];kernel_rfl) (a3 (h _ _ (b7 _))))
theorem Qq{t:Addr}{items:Array Value}(hz:items.size<=sizeLine):z3 prog w A I (λ i s=>mN s.heap I t ((items.size:Int) - 1 - i)/\jh s.heap t items):=by
 intro s Q E st h
 have bQ:s.TypeIs (.ref I) "reversed":=⟨_,st.1,rfl⟩
 have aQ:=jd;unfold Builtin.List.listLengthHint;refine ao (ni bQ Qc ?_);refine (show aG (aI prog w) A (specialOf (Value.ref I) (Str.ofString "__length_hint__") >>= _) _ _ _ from ao (ni bQ z0.lookup ?_))
 (generalize lF:("reversed.__length_hint__" : String)=pd;(fail_if_success (clear lF pd));wp_delta;rw [show splitId pd=some ("reversed", "__length_hint__") from by subst lF;decide +kernel];subst lF)
 refine ao (l9 (b:=true) bQ (by rw [jQ];kernel_rfl) ?_);rw [if_neg (by decide)];refine wpAny_ite_split (λ nX=>absurd nX (by decide +kernel)) (λ _=>ao (hx (ao (tb (z0.bind _) ?_))));refine (show aG (aI prog w) A ((call (.builtin "reversed.__length_hint__") [.ref I]).attempt >>= _) _ _ _ from ao (mb (Qk (items:=items) st.1 st.2 (by omega) (by omega) λ u tk p9=>?_)))
 dsimp only
 have aD:∀(n:Int)(u:Tok),asInt? (Value.int n u)=pure (some n):=λ _ _=>rfl
 have ak:Builtin.List.listFitsIndex (items.size:Int)=true:=by
  unfold Builtin.List.listFitsIndex;simp only [eU,decide_eq_true_eq];omega
 have aq:Builtin.List.listTooLong ((items.size:Int)).toNat=false:=by simp [Builtin.List.listTooLong,sizeLine];omega
 rw [aD,pure_bind]
 dsimp only
 rw [ak,aq,if_neg (by decide),if_neg (by omega),if_neg (by decide)];exact a3 (h _ _ p9)
end
theorem z4{wr:List Addr}{s s':aC}(hm:oG wr (λ a b=>b=a) s s'):s'={ s with heap:=s'.heap,toks:=s'.toks }:=by
 obtain ⟨h',g',d',acT,zq⟩:=s';cases (show g'=s.gens from hm.gens);cases (show d'=s.drawn from hm.drawn);cases (show zq=s.os from hm.os);rfl
theorem back{aM:List Value}{acc:Array Value}(h:nn (λ i v=>aM.toArray[aM.toArray.size - 1 - i]?=some v) acc aM.toArray.size):acc.toList=aM.reverse:=by
 obtain ⟨Qr,az⟩:=h
 have ax:acc.size=aM.length:=by simpa using Qr
 apply List.ext_getElem?;intro i;by_cases ar:i < aM.length
 ·have ak:i < acc.size:=by omega
  have e:=az i acc[i] (by simp [ak]);rw [List.getElem?_reverse ar,tz,k8 ak,<- e];simp
 ·rw [k6 (by rw [ft];omega),k6 (by rw [jT];omega)]
theorem Qs{prog:ck}{w:bW}{A:c1}{I t:Addr}{items:Array Value}(dt:A.handled=none)(dQ:t≠I)(hz:items.size<=sizeLine) :
 hD prog w A I [I,t] [I] items.size (λ i v=>items[items.size - 1 - i]?=some v) (λ i s=>mN s.heap I t ((items.size:Int) - 1 - i)/\jh s.heap t items) where
 walk:=(Qm dt I t dQ items (by have:=jd;omega)).toS
 ty:=⟨"reversed", by decide,by decide,λ _ _ st=>⟨_,st.1,rfl⟩⟩
 hint:=Qq hz
 mem:=by simp
 e6:=hz
theorem Qt{prog:ck}{w:bW}{A:c1}{I l:Addr}{items:Array Value}(dt:A.handled=none)(dQ:l≠I)(hz:items.size<=sizeLine) :
 hD prog w A I [I,l] [I] items.size (λ i v=>items[items.size - 1 - i]?=some v) (λ i s=>i<=items.size/\s.heap.IsRevIter I l ((items.size:Int) - 1 - (i:Int))/\s.heap.IsList l items) where
 walk:=(Walks.listRev dt I l dQ items).toS
 ty:=⟨"list_reverseiterator", by decide,by decide,λ _ _ st=>st.2.1.typeIs⟩
 hint:=Qp (k:=λ i=>(items.size:Int) - 1 - (i:Int)) (U:=λ _ s=>s.heap.IsList l items)
 mem:=by simp
 e6:=hz
theorem Qu{prog:ck}{w:bW}(it l:Addr)(aM:List Value)(hz:aM.toArray.size<=sizeLine) :
 MeetsIn prog w (Builtin.«tuple.__new__» ⟨[.type "tuple", .ref it],[]⟩) (λ A R s=>A.handled=none/\l≠it/\s.heap.IsRevIter it l ((aM.toArray.size:Int) - 1)/\s.heap.IsList l aM.toArray ∧
  ∀(h':bL)(tk:Nat),(∀ b o,b≠it->s.heap.get? b=some o->h'.get? b=some o)->R (.ok (.ret (.ref h'.objs.size))) { s with heap:=h'.push { cls:=.type "tuple", data:=.seq aM.reverse.toArray },toks:=tk }):=
 .of_wp λ A R s h=>by
  obtain ⟨az,g,d,tk,os⟩:=s;obtain ⟨dt,dQ,hit,aQ,h⟩:=h;have Qv:=sub_tuple_self;have acU:=init_tuple_lookup;have acV:=madeHere_tuple;have bQ:Shared.TypeIs ⟨az,g,d,tk,os⟩ (.ref it) "list_reverseiterator":=hit.typeIs;obtain ⟨acW,Gv,_⟩:=id hit;obtain ⟨ol,uv,_⟩:=id aQ
  have qv:∀ b∈[it,l],b < az.objs.size:=λ b ag=>by
   simp only [dJ,jj,or_false] at ag;rcases ag with rfl | rfl
   ·exact cJ Gv
   ·exact cJ uv
  have Qw:∀(Q:List Value->aC->Prop)(E:Value->aC->Prop),(∀ s' acc,oG [it] (λ a b=>b=a) ⟨az,g,d,tk,os⟩ s'->nn (λ i v=>aM.toArray[aM.toArray.size - 1 - i]?=some v) acc aM.toArray.size->Q acc.toList s') →
   aG (aI prog w) A.in1 (tj (.ref it)) Q E ⟨az,g,d,tk,os⟩:=λ Q E dB=>Qo (Qt (A:=A.in1.in1) dt dQ hz) ⟨e0 _,by simpa using hit,aQ⟩ qv dB
  wp_walk using AutoSeq1.wpAny_loadPart' Gv,oA bQ,Qw _ _
  intro s' acc hm gl;rw [back gl];refine (show aG (aI prog w) A.in1 (Builtin.Tuple.tupleExact aM.reverse.toArray >>= λ v=>ret v) _ _ _ from ?_);unfold Builtin.Tuple.tupleExact;refine ao (hu (a3 ⟨_,rfl,?_⟩) (by show aM.reverse.toArray.size<=sizeLine;simpa using hz));rw [z4 hm];exact h s'.heap s'.toks λ b o ag e=>hm.heap b o (by simpa using ag) e
end fl
namespace L2
open PySem PySem.Spec PyProof.Rows
section
variable{X:bb}{e:bg}{aW:TE}{p cE pos dj:Pos}
def Qx(X:bb)(pins:List (Addr × Obj))(σ:St)(R:Addr->List V->ay->Prop)(v:Value)(s:aC):Prop:=
 ∃(a it:Addr)(xs:List V)(aM:List Value)(H:ay),v=.ref it/\Inv X pins σ H s/\fl.mN s.heap it a ((aM.toArray.size:Int) - 1)/\jh s.heap a aM.toArray/\a≠it/\Vals xs aM/\aM.toArray.size<=sizeLine/\dq X.K H a xs/\gJ X pins H it/\R a xs H
def Qy(X:bb)(pins:List (Addr × Obj))(σ:St)(R:Addr->List V->ay->Prop)(v:Value)(s:aC):Prop:=
 ∃(a it:Addr)(xs:List V)(aM:List Value)(H:ay),v=.ref it/\Inv X pins σ H s/\s.heap.IsRevIter it a ((aM.toArray.size:Int) - 1)/\s.heap.IsList a aM.toArray/\a≠it/\Vals xs aM/\aM.toArray.size<=sizeLine/\d7 X.K H a xs/\gJ X pins H it/\R a xs H
theorem Qz{pins:List (Addr × Obj)}{s:aC}{σ:St}{H:ay}{R:Addr->List V->ay->Prop}(aZ:di X "reversed")(hm:X.mg "reversed" = none)(he:bX X e aW)(ax:dw e=true)(I:Inv X pins σ H s)
 (h:aW σ H λ x H1=>∃ a xs,x=.ref a/\dq X.K H1 a xs/\R a xs H1):aG (aI X.prog X.w) X.A (eval (.Call (.Name "reversed" cE) [e] [] dj) X.env) (Qx X pins σ R) X.xe s:=by
 refine iM (iU I aZ hm PyProof.Rows.boot_reversed ?_);refine mr ?_ (eH ax) rfl;rw [eH ax];show aG _ _ (md ((false,eval e X.env)::fS dj (dv [] X.env))) _ _ s;refine Calls.spliced_cons (b5 (he pins s σ H _ I h) λ u s1 ⟨x,H1,a6,bj,a,xs,ex,bv,q⟩=>Calls.spliced_nil ?_);subst ex;cases bj;obtain ⟨aM,be,cW,hz⟩:=a6.tuple bv;have aQ:=be.length;have acX:=o2;refine fl.Ql cW (by rw [c_];omega) λ tk=>?_;exact ⟨a,s1.heap.objs.size,xs,aM,H1,rfl,a6.kept λ b o e=>cm _ e,d2 _ rfl,cW.push _,dp cW.lt,be,by rw [c_];omega,bv,a6.oZ (b7 _) (a6.bM.fresh (b7 _)),q⟩
theorem QA{pins:List (Addr × Obj)}{s:aC}{σ:St}{H:ay}{R:Addr->List V->ay->Prop}(aZ:di X "reversed")(hm:X.mg "reversed" = none)(he:bX X e aW)(ax:dw e=true)(I:Inv X pins σ H s)
 (h:aW σ H λ x H1=>∃ a xs,x=.ref a/\d7 X.K H1 a xs/\R a xs H1):aG (aI X.prog X.w) X.A (eval (.Call (.Name "reversed" cE) [e] [] dj) X.env) (Qy X pins σ R) X.xe s:=by
 refine iM (iU I aZ hm PyProof.Rows.boot_reversed ?_);refine mr ?_ (eH ax) rfl;rw [eH ax];show aG _ _ (md ((false,eval e X.env)::fS dj (dv [] X.env))) _ _ s;refine Calls.spliced_cons (b5 (he pins s σ H _ I h) λ u s1 ⟨x,H1,a6,bj,a,xs,ex,bv,q⟩=>Calls.spliced_nil ?_);subst ex;cases bj;obtain ⟨aM,be,cW,hz⟩:=a6.list bv;have aQ:=be.length
 have fy:a < s1.heap.objs.size:=by obtain ⟨o,a4,_⟩:=cW.isList;exact cJ a4
 refine call_reversed_list cW.isList ?_;exact ⟨a,s1.heap.objs.size,xs,aM,H1,rfl,a6.kept (t':=s1.toks) λ b o e=>cm _ e,⟨_,d2 _ rfl,rfl,rfl⟩,let ⟨o,a4,r⟩:=cW.isList;⟨o,cm _ a4,r⟩,dp fy,be,by rw [c_];omega,bv,a6.oZ (b7 _) (a6.bM.fresh (b7 _)),q⟩
theorem QB{pins:List (Addr × Obj)}{σ:St}{H:ay}{s s':aC}{it:Addr}{acc:Array Value}{c:Nat}{ys:List V}{Q:cK}(I:Inv X pins σ H s)(fp:gJ X pins H it)(hit:it < s.heap.objs.size)
 (hm:oG (s.heap.objs.size::[it]) (λ a b=>b=a) { s with heap:=s.heap.push (fl.listAt #[] 0) } s') (cX:s'.heap.get? s.heap.objs.size=some (fl.listAt acc c))
 (be:Vals ys acc.toList) (hz:ys.length<=sizeLine) (q:∀ l,H l=none->Q (.ref l) (upd H l (.lst ys))):da X pins σ Q (.ref s.heap.objs.size) s':=by
 have cy:Inv X pins σ (upd H s.heap.objs.size (.lst ys)) { s with heap:=s.heap.push { cls:=.type "list", dict:=none,data:=.seq acc c,slots:=#[] } }:=
  I.laid (t':=s.toks) (λ b o e=>cm _ e) (b7 _) (show eP X.prog X.w _ _ _ (.lst ys) from ⟨hz,acc.toList,c,be,by simpa using d2 s.heap (o:={ cls:=.type "list", dict:=none,data:=.seq acc c,slots:=#[] }) rfl⟩)
 obtain ⟨f0,f1,f2,c6,f4,fI⟩:=fp;have dd:=cy.turned (h':=s'.heap) (t':=s'.toks) (it:=it) (λ b o ag e=>?_) (by rw [cV (dp hit)];exact f0) f1 c6 f4 fI
 ·rw [fl.z4 hm];exact ⟨.ref s.heap.objs.size,_,dd,rfl,q _ (I.bM.fresh (b7 _))⟩
 ·rcases Heap.get?_push_cases e with ⟨cB,b8⟩ | e
  ·rw [cB,b8];exact cX
  ·refine hm.heap b o (λ z=>?_) (cm _ e);simp only [dJ,jj,or_false] at z;rcases z with z | z
   ·rw [z] at e;exact absurd (cJ e) (jU _)
   ·exact ag z
def Gw(K:bl)(aW:TE):TE:=λ σ H Q=>aW σ H λ x H1=>∃ a xs,x=.ref a/\dq K H1 a xs/\∀ l,H1 l=none->Q (.ref l) (upd H1 l (.lst xs.reverse))
def Gx(K:bl)(aW:TE):TE:=λ σ H Q=>aW σ H λ x H1=>∃ a xs,x=.ref a/\d7 K H1 a xs/\∀ l,H1 l=none->Q (.ref l) (upd H1 l (.tup xs.reverse))
theorem QC(aE:X.calm=true)(lG:di X "list")(lH:X.mg "list" = none)(aZ:di X "reversed")(hm:X.mg "reversed" = none)(he:bX X e aW)(ax:dw e=true) :
 bX X (.Call (.Name "list" p) [.Call (.Name "reversed" cE) [e] [] dj] [] pos) (Gw X.K aW):=by
 intro pins s σ H Q I h;refine iM (iU I lG lH PyProof.Rows.boot_list ?_);refine mr ?_ (eH rfl) rfl;rw [eH rfl];show aG _ _ (md ((false,eval (.Call (.Name "reversed" cE) [e] [] dj) X.env)::fS pos (dv [] X.env))) _ _ s;refine Calls.spliced_cons (b5 (Qz (R:=λ _ xs H1=>∀ l,H1 l=none->Q (.ref l) (upd H1 l (.lst xs.reverse))) aZ hm he ax I h) λ v s1 ak=>Calls.spliced_nil ?_);obtain ⟨a,it,xs,aM,H1,rfl,a6,hit,bT,dQ,be,hz,_,fp,q⟩:=ak;have ar:=cJ hit;have aQ:=be.length;refine fl.listOf (fl.Qs (prog:=X.prog) (w:=X.w) (A:=X.A.in1.in1) (I:=it) (t:=a) (items:=aM.toArray) (I.ok.hd aE) dQ hz) ⟨by simpa using hit,bT⟩ (λ b ag=>?_) (λ s' acc b_ kb cX gl=>?_)
 ·simp only [dJ,jj,or_false] at ag;rcases ag with rfl | rfl
  ·exact ar
  ·exact bT.lt
 ·exact QB a6 fp ar kb cX (by rw [fl.back gl];exact be.reverse) (by rw [jT];rw [c_] at hz;omega) q
theorem QD(aE:X.calm=true)(lG:di X "tuple")(lH:X.mg "tuple" = none)(aZ:di X "reversed")(hm:X.mg "reversed" = none)(he:bX X e aW)(ax:dw e=true) :
 bX X (.Call (.Name "tuple" p) [.Call (.Name "reversed" cE) [e] [] dj] [] pos) (Gx X.K aW):=by
 intro pins s σ H Q I h;refine iM (iU I lG lH mt ?_);refine mr ?_ (eH rfl) rfl;rw [eH rfl];show aG _ _ (md ((false,eval (.Call (.Name "reversed" cE) [e] [] dj) X.env)::fS pos (dv [] X.env))) _ _ s;refine Calls.spliced_cons (b5 (QA (R:=λ _ xs H1=>∀ l,H1 l=none->Q (.ref l) (upd H1 l (.tup xs.reverse))) aZ hm he ax I h) λ v s1 ak=>Calls.spliced_nil ?_);obtain ⟨a,it,xs,aM,H1,rfl,a6,hit,bT,dQ,be,hz,_,fp,q⟩:=ak;have aQ:=be.length;refine callType_newIn F.called_tuple (by decide) (F.typeCall_tuple_1 _) (F.newCall_tuple_1 _) (λ obj=>F.args_object_init_2 obj _) F.entry_tuple_new (fl.Qu it a aM hz) ⟨I.ok.hd aE,dQ,hit,bT,λ h' tk dr=>⟨⟨_,d2 _ rfl,rfl⟩,?_⟩⟩;obtain ⟨f0,f1,f2,c6,f4,fI⟩:=fp;have cy:=a6.turned (h':=h') (t':=tk) (it:=it) dr f0 f1 c6 f4 fI
 have dd:Inv X pins σ (upd H1 h'.objs.size (.tup xs.reverse)) { s1 with heap:=h'.push { cls:=.type "tuple", data:=.seq aM.reverse.toArray },toks:=tk }:=
  cy.laid (t':=tk) (λ b o e=>cm _ e) (b7 _) (show eP X.prog X.w _ _ _ (.tup xs.reverse) from ⟨by rw [jT];rw [c_] at hz;omega,aM.reverse,be.reverse,IsTup.new _ _⟩)
 exact ⟨.ref h'.objs.size,_,dd,rfl,q _ (cy.bM.fresh (b7 _))⟩
theorem QE:∀(bs:List Bool),(eL bs.length).all (λ i=>bs.getD i true)=bs.all id:=by
 intro bs;rw [tB,rC,rC];constructor
 ·intro h x aF;obtain ⟨i,ar,e⟩:=k7 aF;have:=h i (nu.mpr ar);rw [mm,gb ar,Option.getD_some,e] at this;exact this
 ·intro h i ar;have nY:=nu.mp ar;rw [mm,gb nY,Option.getD_some];exact h _ (rD nY)
def QF(K:bl):List V->ay->cK->Prop:=λ xs H Q=>∃(p:Addr)(bs:List Bool),xs=[.ref p]/\d7 K H p (bs.map V.aU)/\Q (.aU (bs.all id)) H
theorem QG(aE:X.calm=true):jv X (.builtin "all") (QF X.K):=by
 intro pins s σ H xs us Q I r h;obtain ⟨p,bs,rfl,az,dB⟩:=h;obtain ⟨u,rfl,dP⟩:=r.one;cases dP;obtain ⟨aM,be,cW,hz⟩:=I.list az;have hlen:=be.length;rw [bS] at hlen
 have fy:p < s.heap.objs.size:=by obtain ⟨o,a4,_⟩:=cW.isList;exact cJ a4
 refine call_all_walk (y2 cW.isList ?_);refine ⟨s.heap.objs.size,[s.heap.objs.size,p],[s.heap.objs.size],aM.toArray.size,_,_,λ i=>bs.getD i true,rfl,Walks.list (A:=X.A.in1) (I.ok.hd aE) _ p (dp fy) aM.toArray,⟨⟨_,d2 _ rfl,rfl,rfl⟩,let ⟨o,a4,r⟩:=cW.isList;⟨o,cm _ a4,r⟩⟩,?_,λ h' tk dr=>?_⟩
 ·intro i v s' fV Gy bC bv
  have ar:i < aM.length:=by
   have:=(Array.getElem?_eq_some_iff.mp bC).1;simpa using this
  obtain ⟨v1,aP,aL⟩:=be.get (i:=i) (x:=V.aU bs[i]) (by rw [eu,gb (by omega)];rfl)
  have d_:aM[i]?=some v:=by simpa using bC
  rw [aP] at d_;cases d_;have pa:v=Value.bool bs[i]:=aL;subst pa;refine pQ ?_
  have pe:bs.getD i true=bs[i]:=by rw [mm,gb (by omega)];rfl
  rw [<- pe];exact bv
 ·refine ⟨.aU (bs.all id),H,I.kept λ b o e=>dr b o ?_ (cm _ e),?_,dB⟩
  ·simp only [dJ,jj,or_false];exact dp (cJ e)
  ·show Value.bool _=Value.bool _;rw [c_,<- hlen,QE]
end
section
variable{X:bb}{e:bg}{aW:TE}{p cE pos dj:Pos}
theorem QH(lG:di X "list")(lH:X.mg "list" = none)(aZ:di X "reversed")(hm:X.mg "reversed" = none)(he:cL X e aW)(aE:X.calm=true:=by rfl)(ax:dw e=true:=by rfl) :
 cL X (.Call (.Name "list" p) [.Call (.Name "reversed" cE) [e] [] dj] [] pos) (Gw X.K aW):=⟨QC aE lG lH aZ hm he.run ax⟩
theorem QI(lG:di X "tuple")(lH:X.mg "tuple" = none)(aZ:di X "reversed")(hm:X.mg "reversed" = none)(he:cL X e aW)(aE:X.calm=true:=by rfl)(ax:dw e=true:=by rfl) :
 cL X (.Call (.Name "tuple" p) [.Call (.Name "reversed" cE) [e] [] dj] [] pos) (Gx X.K aW):=⟨QD aE lG lH aZ hm he.run ax⟩
end
end L2
namespace uw
open PySem PyProof.Rows
section
variable{prog:ck}{w:bW}{A:c1}{E:Value->aC->Prop}{s:aC}
theorem Gz{it t:Addr}{i:Nat}{items:Array Value}{x:Value}{Q:Value->aC->Prop}(hit:s.heap.IsTupleIter it t i)(bT:s.heap.IsTuple t items)(aF:items[i]?=some x)
 (dB:∀ h',h'.IsTupleIter it t (i+1)->Heap.SameBut it s.heap h'->Q x { s with heap:=h' }):aG (aI prog w) A (Builtin.SmallTypes.nextOf (.ref it)) Q E s:=by
 obtain ⟨o,a4,aE,hd⟩:=id hit;obtain ⟨ol,uv,_,nl,nZ⟩:=bT;unfold Builtin.SmallTypes.nextOf;refine ao (wpAny_callSpecial?_slot hit.typeIs F.slot_tuple_iterator_next (hv F.slot_tuple_iterator_next hit.typeIs F.entry_tuple_iterator_next ?_ (F.args_tuple_iterator_next_1 _)));refine (show aG (aI prog w) A.in1 (iO (.ref it) 0 >>= _) _ _ s from ao (gq a4 hd (x:=.ref t) rfl ?_));refine (show aG (aI prog w) A.in1 (if (Value.ref t==Value.none)=true then _ else _) _ _ s from ?_);rw [if_neg (show ¬ ((Value.ref t==Value.none)=true) from gI)];refine (show aG (aI prog w) A.in1 (iO (.ref it) 1 >>= _) _ _ s from ao (gq a4 hd (x:=.int i 0) rfl ?_));refine (show aG (aI prog w) A.in1 (seqItems? (.ref t) >>= _) _ _ s from ao (ma uv nZ ?_));simp only [hB,aF];refine ao (XL a4 hd (by simp) (a3 ⟨x,rfl,a3 (dB _ ⟨_,il _ a4 (Obj.isFreed_of_fields (Obj.data_mapFields hd _)),(Obj.cls_mapFields ..).trans aE,?_⟩ (Heap.SameBut.update ..))⟩));rw [Obj.data_mapFields hd];simp [d5]
theorem QJ{it t:Addr}{i:Nat}{items:Array Value}{Q:Value->aC->Prop}(dt:A.handled=none)(hit:s.heap.IsTupleIter it t i)(bT:s.heap.IsTuple t items)(aF:items[i]?=none)
 (ux:∀ h' e,Heap.ExtBut it s.heap h'->Shared.TypeIs { s with heap:=h' } (.ref e) "StopIteration"->E (.ref e) { s with heap:=h' }):aG (aI prog w) A (Builtin.SmallTypes.nextOf (.ref it)) Q E s:=by
 obtain ⟨o,a4,aE,hd⟩:=id hit;obtain ⟨ol,uv,_,nl,nZ⟩:=bT;unfold Builtin.SmallTypes.nextOf;refine ao (wpAny_callSpecial?_slot hit.typeIs F.slot_tuple_iterator_next (hv F.slot_tuple_iterator_next hit.typeIs F.entry_tuple_iterator_next ?_ (F.args_tuple_iterator_next_1 _)));refine (show aG (aI prog w) A.in1 (iO (.ref it) 0 >>= _) _ _ s from ao (gq a4 hd (x:=.ref t) rfl ?_));refine (show aG (aI prog w) A.in1 (if (Value.ref t==Value.none)=true then _ else _) _ _ s from ?_);rw [if_neg (show ¬ ((Value.ref t==Value.none)=true) from gI)];refine (show aG (aI prog w) A.in1 (iO (.ref it) 1 >>= _) _ _ s from ao (gq a4 hd (x:=.int i 0) rfl ?_));refine (show aG (aI prog w) A.in1 (seqItems? (.ref t) >>= _) _ _ s from ao (ma uv nZ ?_));simp only [hB,aF];refine ao (hx (ao (XL a4 hd (by simp) ?_)));exact fl.xm (A:=A.in1) dt λ h' e dr ax=>ux _ e (λ b cT ag cD=>dr b cT ((Heap.SameBut.update ..).extBut b cT ag cD)) ax
structure St(z TI d3 br bx cu bV:Addr)(f0:Value)(i:Nat)(h:bL):Prop where
 zip:oH h z TI d3 f0
 eQ:oC h TI (.ref br) (.ref bx)
 to:∃ a b,oC h d3 a b
 acY:h.IsTupleIter br cu i
 acZ:h.IsTupleIter bx bV i
variable{z TI d3 br bx cu bV:Addr}{i:Nat}{xs ys:Array Value}
theorem QK{x y:Value}{Q:Option Value->aC->Prop}(D:tg z TI d3 br bx cu bV)(st:St z TI d3 br bx cu bV .none i s.heap)(qw:s.heap.IsTuple cu xs)(hE:s.heap.IsTuple bV ys)(aF:xs[i]?=some x)(bD:ys[i]?=some y)
 (dB:∀ h',St z TI d3 br bx cu bV (d5 s.heap.objs.size) (i+1) h'->oC h' s.heap.objs.size x y->(∀ c o,c≠z->c≠d3->c≠br->c≠bx->s.heap.get? c=some o->h'.get? c=some o)->Q (some (.ref s.heap.objs.size)) { s with heap:=h' }) :
 aG (aI prog w) A (gu (.ref z)) Q E s:=by
 obtain ⟨hz,xn,⟨a,b,GA⟩,ak,aq⟩:=st
 have bQ:s.TypeIs (.ref z) "zip":=⟨_,hz,rfl⟩
 unfold gu;refine ao (mb (wpAny_callSpecial?_slot bQ F.slot_zip_next (hv F.slot_zip_next bQ F.entry_zip_next ?_ (F.args_zip_next_1 _))));refine (show aG (aI prog w) A.in1 (iO (.ref z) 2 >>= _) _ _ _ from ao (gq hz rfl (x:=.bool false) rfl ?_));refine (show aG (aI prog w) A.in1 (iO (.ref z) 3 >>= _) _ _ _ from ao (gq hz rfl (x:=.ref TI) rfl (ao (ma xn rfl ?_))));refine (show aG (aI prog w) A.in1 (Builtin.SmallTypes.ownedTupleIsFree (.ref z) >>= _) _ _ _ from ao ?_);unfold Builtin.SmallTypes.ownedTupleIsFree;refine ao (gq hz rfl (x:=.none) rfl (a3 ?_));simp only [if_true];refine ao (hx (ao (gq hz rfl (x:=.ref d3) rfl (ao (s9 hz (by simp) λ g1 qx d4=>ao ?_)))))
 replace qx:oH g1 z TI d3 .ellipsis:=qx
 simp only [List.zipIdx_cons,List.zipIdx_nil,wC,List.forIn_nil];refine ao (ao (y9 ?_));refine (show aG (aI prog w) A.in1 (Builtin.SmallTypes.nextOf (.ref br) >>= _) _ _ _ from ao (Gz (ak.extBut d4.extBut D.i1z) (qw.extBut d4.extBut D.l1z) aF λ g2 hp df=>a3 ?_));have GB:oC g2 d3 a b:=df.extBut _ _ D.TOi1 (d4.extBut _ _ D.TOz GA);refine ao (ma GB rfl (ao (wpAny_updateSeq_pair GB λ g3 z5 fm=>ao (pT (a3 ?_)))))
 replace z5:oC g3 d3 x b:=z5
 refine ao (ao (y9 ?_));refine (show aG (aI prog w) A.in1 (Builtin.SmallTypes.nextOf (.ref bx) >>= _) _ _ _ from ao (Gz (((aq.extBut d4.extBut D.i2z).extBut df.extBut D.i12.symm).extBut fm.extBut D.TOi2.symm) (((hE.extBut d4.extBut D.l2z).extBut df.extBut D.l2i1).extBut fm.extBut D.l2TO) bD λ iv qy mP=>a3 ?_));have GC:oC iv d3 x b:=mP.extBut _ _ D.TOi2 z5;refine ao (ma GC rfl (ao (wpAny_updateSeq_pair GC λ fz xo uy=>ao (pT (a3 (a3 ?_))))))
 replace xo:oC fz d3 x y:=xo
 refine ao (ma xo rfl (ao (wpAny_newTuple ?_)))
 have hsz:fz.objs.size=s.heap.objs.size:=by rw [uy.1,mP.1,fm.1,df.1,d4.1]
 have GD:oH fz z TI d3 .ellipsis:=uy.extBut _ _ D.TOz.symm (mP.extBut _ _ D.i2z.symm (fm.extBut _ _ D.TOz.symm (df.extBut _ _ D.i1z.symm qx)));have keep:∀ c o,c≠z->c≠d3->c≠br->c≠bx->s.heap.get? c=some o->fz.get? c=some o:=λ c o dF dE h6 n0 e=>uy.extBut _ _ dE (mP.extBut _ _ n0 (fm.extBut _ _ dE (df.extBut _ _ h6 (d4.extBut _ _ dF e))));have QL:fz.IsTupleIter br cu (i+1):=((hp.extBut fm.extBut D.TOi1.symm).extBut mP.extBut D.i12).extBut uy.extBut D.TOi1.symm;have QM:fz.IsTupleIter bx bV (i+1):=qy.extBut uy.extBut D.TOi2.symm;refine (show aG (aI prog w) A.in1 (Builtin.SmallTypes.ownedTupleHandOut (.ref z) (.ref fz.objs.size) >>= _) _ _ _ from ao ?_);unfold Builtin.SmallTypes.ownedTupleHandOut;have QN:oH (fz.push { cls:=.type "tuple", data:=.seq #[x,y] }) z TI d3 .ellipsis:=cm _ GD;refine ao (s9 QN (by simp) λ qz z6 GE=>?_)
 replace z6:oH qz z TI d3 (d5 fz.objs.size):=z6
 refine s9 z6 (by simp) λ xp xq GF=>?_
 replace xq:oH xp z TI d3 (d5 fz.objs.size):=xq
 have up:∀ c o,c≠z->fz.get? c=some o->xp.get? c=some o:=λ c o dF e=>GF.extBut _ _ dF (GE.extBut _ _ dF (cm _ e));have GG:fz.objs.size≠z:=ij (cJ GD);have GH:oC xp fz.objs.size x y:=GF.extBut _ _ GG (GE.extBut _ _ GG (d2 _ rfl));rw [hsz] at xq GH;refine a3 ⟨_,rfl,a3 ?_⟩;rw [hsz];exact dB xp ⟨xq,up _ _ D.TIz (keep _ _ D.TIz D.TITO D.TIi1 D.TIi2 xn),⟨x,y,up _ _ D.TOz xo⟩,let ⟨o,a4,r⟩:=QL;⟨o,up _ _ D.i1z a4,r⟩,let ⟨o,a4,r⟩:=QM;⟨o,up _ _ D.i2z a4,r⟩⟩ GH λ c o dF dE h6 n0 e=>up c o dF (keep c o dF dE h6 n0 e)
theorem QO{Q:Option Value->aC->Prop}(dt:A.handled=none)(D:tg z TI d3 br bx cu bV)(st:St z TI d3 br bx cu bV .none i s.heap)(qw:s.heap.IsTuple cu xs)(aF:xs[i]?=none)
 (dB:∀ h',(∀ c o,c≠z->c≠d3->c≠br->c≠bx->s.heap.get? c=some o->h'.get? c=some o)->Q none { s with heap:=h' }):aG (aI prog w) A (gu (.ref z)) Q E s:=by
 obtain ⟨hz,xn,⟨a,b,GA⟩,ak,aq⟩:=st
 have bQ:s.TypeIs (.ref z) "zip":=⟨_,hz,rfl⟩
 unfold gu;refine ao (mb (wpAny_callSpecial?_slot bQ F.slot_zip_next (hv F.slot_zip_next bQ F.entry_zip_next ?_ (F.args_zip_next_1 _))));refine (show aG (aI prog w) A.in1 (iO (.ref z) 2 >>= _) _ _ _ from ao (gq hz rfl (x:=.bool false) rfl ?_));refine (show aG (aI prog w) A.in1 (iO (.ref z) 3 >>= _) _ _ _ from ao (gq hz rfl (x:=.ref TI) rfl (ao (ma xn rfl ?_))));refine (show aG (aI prog w) A.in1 (Builtin.SmallTypes.ownedTupleIsFree (.ref z) >>= _) _ _ _ from ao ?_);unfold Builtin.SmallTypes.ownedTupleIsFree;refine ao (gq hz rfl (x:=.none) rfl (a3 ?_));simp only [if_true];refine ao (hx (ao (gq hz rfl (x:=.ref d3) rfl (ao (s9 hz (by simp) λ g1 qx d4=>ao ?_)))))
 replace qx:oH g1 z TI d3 .ellipsis:=qx
 simp only [List.zipIdx_cons,List.zipIdx_nil,wC,List.forIn_nil];refine ao (ao (y9 ?_));refine (show aG (aI prog w) A.in1 (Builtin.SmallTypes.nextOf (.ref br) >>= _) _ _ _ from ao (QJ (A:=A.in1) dt (ak.extBut d4.extBut D.i1z) (qw.extBut d4.extBut D.l1z) aF λ g2 e df he=>?_));obtain ⟨GI,GJ,GK⟩:=he;have pb:oH g2 z TI d3 .ellipsis:=df _ _ D.i1z.symm qx
 have QP:e≠z:=λ q=>by
  subst q;have bI:some _=some GI:=Eq.trans (Eq.symm pb) GJ;cases bI;simp at GK
 refine s9 pb (by simp) λ g3 _ fm=>?_;refine ao (l9 (T:="StopIteration") (b:=true) ⟨GI,fm.extBut _ _ QP GJ,GK⟩ wj (a3 (dB _ λ c o dF _ h6 _ q=>?_)));exact fm.extBut _ _ dF (df _ _ h6 (d4.extBut _ _ dF q))
end
abbrev g1(h:bL)(cu:Addr):bL:=h.push { cls:=.type "tuple_iterator", data:=.fields #[.ref cu,.int 0 0] }
abbrev g2(h:bL)(cu bV:Addr):bL:=(g1 h cu).push { cls:=.type "tuple_iterator", data:=.fields #[.ref bV,.int 0 0] }
abbrev g3(h:bL)(cu bV:Addr):bL:=(g2 h cu bV).push { cls:=.type "tuple", data:=.seq #[.ref h.objs.size,.ref (g1 h cu).objs.size] }
abbrev iv(h:bL)(cu bV:Addr):bL:=(g3 h cu bV).push { cls:=.type "tuple", data:=.seq #[.none,.none] }
abbrev fz(h:bL)(cu bV:Addr):bL:=(iv h cu bV).push { cls:=.type "zip", data:=.fields #[.none,.bool false,.bool false,.ref (g2 h cu bV).objs.size,.ref (g3 h cu bV).objs.size] }
theorem QQ(cu bV:Addr)(xs ys:Array Value) :
 Meets (Builtin.«zip.__new__» ⟨[.type "zip", .ref cu,.ref bV],[]⟩) (λ _ R s=>s.heap.IsTuple cu xs/\s.heap.IsTuple bV ys/\R (.ok (.ret (.ref (iv s.heap cu bV).objs.size))) { s with heap:=fz s.heap cu bV }):=
 .of_wp λ prog w A R s h=>by
  obtain ⟨az,g,d,tk,os⟩:=s;obtain ⟨qw,hE,h⟩:=h;have Qv:=sub_zip;have z7:Heap.IsTuple (Shared.heap ⟨az,g,d,tk,os⟩) cu xs:=qw;have QR:Heap.IsTuple (Shared.heap ⟨g1 az cu,g,d,tk,os⟩) bV ys:=Heap.IsTuple.push hE _
  wp_walk using yZ z7,yZ QR
  exact ⟨_,rfl,h⟩
theorem QS{prog:ck}{w:bW}{A:c1}{E:Value->aC->Prop}{s:aC}{cu bV:Addr}{xs ys:Array Value}{Q:Value->aC->Prop}(qw:s.heap.IsTuple cu xs)(hE:s.heap.IsTuple bV ys)
 (h:∀ h',St (s.heap.objs.size+4) (s.heap.objs.size+2) (s.heap.objs.size+3) s.heap.objs.size (s.heap.objs.size+1) cu bV .none 0 h'->(∀ c o,s.heap.get? c=some o->h'.get? c=some o)->Q (.ref (s.heap.objs.size+4)) { s with heap:=h' }) :
 aG (aI prog w) A (call (.type "zip") [.ref cu,.ref bV]) Q E s:=by
 refine callType_new F.called_zip (by decide) (F.typeCall_zip_2 _ _) (F.newCall_zip_2 _ _) (λ obj=>F.args_object_init_3 obj _ _) F.entry_zip_new (QQ cu bV xs ys) ⟨qw,hE,?_⟩;have cB:(g1 s.heap cu).objs.size=s.heap.objs.size+1:=lb ..
 have b8:(g2 s.heap cu bV).objs.size=s.heap.objs.size+2:=by rw [lb,cB]
 have dg:(g3 s.heap cu bV).objs.size=s.heap.objs.size+3:=by rw [lb,b8]
 have gx:(iv s.heap cu bV).objs.size=s.heap.objs.size+4:=by rw [lb,dg]
 have pe:(fz s.heap cu bV).get? (iv s.heap cu bV).objs.size=some _:=d2 _ rfl;have pa:(fz s.heap cu bV).get? (g3 s.heap cu bV).objs.size=some _:=cm _ (d2 _ rfl);have d_:(fz s.heap cu bV).get? (g2 s.heap cu bV).objs.size=some _:=cm _ (cm _ (d2 _ rfl));have aL:(fz s.heap cu bV).get? (g1 s.heap cu).objs.size=some _:=cm _ (cm _ (cm _ (d2 _ rfl)));have aP:(fz s.heap cu bV).get? s.heap.objs.size=some _:=cm _ (cm _ (cm _ (cm _ (d2 _ rfl))));rw [b8,dg,gx] at pe;rw [cB,b8] at d_;rw [dg] at pa;rw [cB] at aL;show _/\_;rw [gx];exact ⟨⟨_,pe,rfl⟩,h _ ⟨pe,d_,⟨_,_,pa⟩,⟨_,aP,rfl,rfl⟩,⟨_,aL,rfl,rfl⟩⟩ λ c o x=>cm _ (cm _ (cm _ (cm _ (cm _ x))))⟩
end uw
namespace L2
open PySem PySem.Spec PyProof.Rows
theorem Inv.GL{X:bb}{pins:List (Addr × Obj)}{σ:St}{H:ay}{s:aC}{h':bL}{t':Nat}{fp:List Addr}(I:Inv X pins σ H s)(hf:∀ b∈fp,gJ X pins H b)(k:∀ b o,b ∉ fp->s.heap.get? b=some o->h'.get? b=some o):Inv X pins σ H { s with heap:=h',toks:=t' }:=by
 have tK:∀ b u,H b=some u->b ∉ fp:=λ b u e z=>by rw [(hf b z).1] at e;cases e
 refine I.step (g':=s.gens) (d':=s.drawn) (ch:=fp) (λ b ag=>?_) (λ b o _ _ aE e _=>k b o aE e) (λ b o _ _ aE e _=>⟨o.slots,k b o aE e⟩) (λ _ _ _ _ n=>n)
  (λ b o aE e=>⟨o,k b o aE e⟩) (λ _ _ e=>e) (λ _ _ _ e=>e) (λ b ps e=>⟨#[],by rw [e];simp⟩) (λ m hm=>?_) (λ b u e=>?_) I.bare
 ·obtain ⟨f0,f1,f2,c6,f4,fI⟩:=hf b ag;exact ⟨c6,f1,f4,fI⟩
 ·obtain ⟨o,ah,a5,a4,r⟩:=hm;exact ⟨o,ah,a5,k _ o (λ z=>(hf _ z).2.1 rfl) a4,r⟩
 ·refine (I.bM b u e).jk (λ c v aE q=>k c v ?_ q) (λ _ q=>q) λ _ _ q=>q;rcases aE with z | z
  ·rw [z];exact tK b u e
  ·exact tK c _ z
theorem apart(n a b:Nat)(ak:a < n)(aq:b < n):tg (n+4) (n+2) (n+3) n (n+1) a b:=by
 constructor<;>(intro e;have cD:(@Eq Nat _ _):=e;omega)
def GM(K:bl)(a b:Addr):hD:=
 ⟨λ i H=>∃ xs ys x y,dq K H a xs/\dq K H b ys/\xs[i]?=some x/\ys[i]?=some y,λ i H v aj=>∃ T x y,v=.ref T/\H T=none/\aj=upd H T (.tup [x,y])/\(∀ xs,dq K H a xs->xs[i]?=some x)/\∀ ys,dq K H b ys->ys[i]?=some y,λ i H=>∃ xs,dq K H a xs/\xs.length<=i⟩
theorem QT{P:ck}{w:bW}{K:bl}{ah:List bg}{k:Nat}{pos:Pos}{z TI d3 br bx cu bV:Addr}(D:tg z TI d3 br bx cu bV) :
 Turn P w K (.Tuple ah k pos) (GM K cu bV) [z,TI,d3,br,bx] z (λ i h=>uw.St z TI d3 br bx cu bV .none i h) where
 mem:=by simp
 obj:=λ i h st b ag=>by
  simp only [dJ,jj,or_false] at ag;obtain ⟨a1,a2,⟨p,q,lI⟩,⟨jA,qA,_,z8⟩,⟨eI,qB,_,z9⟩⟩:=st;rcases ag with rfl | rfl | rfl | rfl | rfl
  ·exact ⟨_,a1,λ v e=>by cases (show Data.fields _=Data.cell v from e)⟩
  ·exact ⟨_,a2,λ v e=>by cases (show Data.seq _ _=Data.cell v from e)⟩
  ·exact ⟨_,lI,λ v e=>by cases (show Data.seq _ _=Data.cell v from e)⟩
  ·exact ⟨_,qA,λ v e=>by rw [z8] at e;cases e⟩
  ·exact ⟨_,qB,λ v e=>by rw [z9] at e;cases e⟩
 keep:=λ i h h' st dr=>by
  obtain ⟨a1,a2,⟨p,q,lI⟩,⟨jA,qA,z_⟩,⟨eI,qB,tW⟩⟩:=st;exact ⟨dr _ (by simp) _ a1,dr _ (by simp) _ a2,⟨p,q,dr _ (by simp) _ lI⟩,⟨jA,dr _ (by simp) _ qA,z_⟩,⟨eI,dr _ (by simp) _ qB,tW⟩⟩
 item:=by
  intro X gg hw eR aE i pins s σ H E I hf st aZ;subst gg hw eR;obtain ⟨xs,ys,x,y,xr,GN,aF,bD⟩:=aZ;obtain ⟨uz,xt,gw,_⟩:=I.tuple xr;obtain ⟨dk,GO,cE,_⟩:=I.tuple GN;obtain ⟨bY,QU,QV⟩:=xt.get aF;obtain ⟨cg,QW,QX⟩:=GO.get bD;refine uw.QK D st (show s.heap.IsTuple cu uz.toArray from gw) (show s.heap.IsTuple bV dk.toArray from cE) (x:=bY) (y:=cg) (by simpa using QU) (by simpa using QW) λ h' hY bQ dr=>?_;refine ⟨_,rfl,wpAny_letOwnedTupleGo_zip hY.zip λ aq pb df=>?_⟩
  have QY:∀ b o,b ∉ [z,TI,d3,br,bx]->s.heap.get? b=some o->aq.get? b=some o:=λ b o ag e=>by
   simp only [dJ,jj,or_false,not_or] at ag;exact df.extBut _ _ ag.1 (dr b o ag.1 ag.2.2.1 ag.2.2.2.1 ag.2.2.2.2 e)
  have a6:Inv X pins σ (upd H s.heap.objs.size (.tup [x,y])) { s with heap:=s.heap.push { cls:=.type "tuple", data:=.seq #[bY,cg] } }:=
   I.laid (t':=s.toks) (λ b o e=>cm _ e) (b7 _) (show eP X.prog X.w _ _ _ (.tup [x,y]) from ⟨by show 2<=sizeLine;decide,[bY,cg],.cons QV (.cons QX .nil),IsTup.new _ _⟩)
  have QZ:s.heap.objs.size≠z:=ij (cJ st.zip)
  have GP:∀ b∈[z,TI,d3,br,bx],b < s.heap.objs.size:=λ b ag=>by
   obtain ⟨a1,a2,⟨p,q,lI⟩,⟨jA,qA,_⟩,⟨eI,qB,_⟩⟩:=st;simp only [dJ,jj,or_false] at ag;rcases ag with rfl | rfl | rfl | rfl | rfl
   ·exact cJ a1
   ·exact cJ a2
   ·exact cJ lI
   ·exact cJ qA
   ·exact cJ qB
  have cy:Inv X pins σ (upd H s.heap.objs.size (.tup [x,y])) { s with heap:=aq }:=
   Inv.GL (s:={ s with heap:=s.heap.push { cls:=.type "tuple", data:=.seq #[bY,cg] } }) (h':=aq) (t':=s.toks) (fp:=[z,TI,d3,br,bx]) a6 (λ b ag=>by
    obtain ⟨f0,fr⟩:=hf b ag
    exact ⟨by rw [cV (dp (GP b ag))];exact f0,fr⟩) (λ b o ag e=>by
    rcases Heap.get?_push_cases e with ⟨aP,aL⟩ | e
    ·rw [aP,aL];exact df.extBut _ _ QZ bQ
    ·exact QY b o ag e)
  refine ⟨.ref s.heap.objs.size,_,cy,rfl,⟨_,x,y,rfl,I.bM.fresh (b7 _),rfl,λ kc h=>by rw [I.tP h xr];exact aF,λ ac0 h=>by rw [I.tP h GN];exact bD⟩,?_,λ b ag=>by rw [cV (dp (GP b ag))];exact (hf b ag).1⟩;obtain ⟨a1,a2,⟨p,q,lI⟩,⟨jA,qA,z_⟩,⟨eI,qB,tW⟩⟩:=hY;exact ⟨pb,df.extBut _ _ D.TIz a2,⟨p,q,df.extBut _ _ D.TOz lI⟩,⟨jA,df.extBut _ _ D.i1z qA,z_⟩,⟨eI,df.extBut _ _ D.i2z qB,tW⟩⟩
 done:=by
  intro X gg hw eR aE i pins s σ H E I hf st aZ;subst gg hw eR;obtain ⟨xs,xr,aF⟩:=aZ;obtain ⟨uz,xt,gw,_⟩:=I.tuple xr;have aQ:=xt.length
  refine uw.QO (I.ok.hd aE) D st (show s.heap.IsTuple cu uz.toArray from gw) (by simp;omega) λ h' dr=>⟨rfl,?_⟩
  exact I.GL (t':=s.toks) (fp:=[z,TI,d3,br,bx]) hf λ b o ag e=>by
   simp only [dJ,jj,or_false,not_or] at ag;exact dr b o ag.1 ag.2.2.1 ag.2.2.2.1 ag.2.2.2.2 e
 self:=λ _ _ _ _ _ st h=>wpAny_pyIter_zip st.zip h
section
variable{X:bb}
def GQ(K:bl)(t:eD):TI:=λ σ H R=>t σ H λ ai H1=>∃ a b,ai=[.ref a,.ref b]/\(∃ xs,dq K H1 a xs)/\(∃ ys,dq K H1 b ys)/\R (GM K a b) H1
theorem Q0{ah:List bg}{k:Nat}{dy:Pos}{a b:bg}{t:eD}{p pos:Pos}(aZ:di X "zip")(hm:X.mg "zip" = none)(aD:hc X [a,b] t)(ak:dw a=true)(aq:dw b=true):mC X (.Tuple ah k dy) (.Call (.Name "zip" p) [a,b] [] pos) (GQ X.K t):=by
 intro pins s σ H R I h;have ax:dv [a,b] X.env=(false,eval a X.env)::dv [b] X.env:=eH ak
 have az:(fS pos (dv [b] X.env)).any (·.1)=false:=by rw [eH aq];rfl
 refine Call_ (iU I aZ hm PyProof.Rows.boot_zip (mr (b5 (aD pos pins s σ H _ I h) λ us s1 ⟨ai,H1,a6,bj,cu,bV,ev,⟨xs,aH⟩,⟨ys,bI⟩,q⟩=>?_) ax az));subst ev
 cases bj with
 | cons r dL=>
  cases dL with
  | cons dK dL=>
   cases dL;cases r;cases dK;obtain ⟨uz,xt,gw,_⟩:=a6.tuple aH;obtain ⟨dk,GO,cE,_⟩:=a6.tuple bI;refine uw.QS (show s1.heap.IsTuple cu uz.toArray from gw) (show s1.heap.IsTuple bV dk.toArray from cE) λ h' st dr=>wpAny_pyIter_zip st.zip ?_;have hF:=gw.lt;have gk:=cE.lt;have D:tg (s1.heap.objs.size+4) (s1.heap.objs.size+2) (s1.heap.objs.size+3) s1.heap.objs.size (s1.heap.objs.size+1) cu bV:=apart _ _ _ hF gk;refine ⟨s1.heap.objs.size+4,_,_,_,H1,rfl,a6.kept (t':=s1.toks) dr,QT D,st,λ b ag=>?_,q⟩
   have zZ:s1.heap.objs.size<=b:=by
    simp only [dJ,jj,or_false] at ag;rcases ag with e | e | e | e | e<;>(rw [e];first | exact b7 _ | exact Nat.le_add_right _ _)
   exact a6.oZ zZ (a6.bM.fresh zZ)
theorem Q1{ah:List bg}{k:Nat}{dy:Pos}{a b:bg}{t:eD}{p pos:Pos}(aZ:di X "zip")(hm:X.mg "zip" = none)(aD:jz X [a,b] t)(ak:dw a=true:=by rfl)(aq:dw b=true:=by rfl):mM X (.Tuple ah k dy) (.Call (.Name "zip" p) [a,b] [] pos) (GQ X.K t):=⟨Q0 aZ hm aD.run ak aq⟩
end
def fo(o:Obj):fF:=.fG o (.ext λ _=>True)
def less(H:ay)(as:List Addr):ay:=λ b=>if b∈as then none else H b
def more(H:ay)(as:List Addr)(lJ:ay):ay:=λ b=>if b∈as then lJ b else H b
theorem uA{H:ay}{as:List Addr}{b:Addr}(h:b∈as):less H as b=none:=by unfold less;rw [if_pos h]
theorem gR{H:ay}{as:List Addr}{b:Addr}(h:b ∉ as):less H as b=H b:=by unfold less;rw [if_neg h]
theorem uB{H lJ:ay}{as:List Addr}{b:Addr}(h:b∈as):more H as lJ b=lJ b:=by unfold more;rw [if_pos h]
theorem mQ{H lJ:ay}{as:List Addr}{b:Addr}(h:b ∉ as):more H as lJ b=H b:=by unfold more;rw [if_neg h]
theorem qC{H:ay}{as:List Addr}{b:Addr}(h:H b=none):less H as b=none:=by unfold less;split<;>first | rfl | exact h
section
variable{P:ck}{w:bW}{H aj:ay}{h h':bL}{as:List Addr}
def pf(H:ay)(as:List Addr):Prop:=∀ a∈as,∃ o,H a=some (fo o)
theorem pg{a:Addr}{o:Obj}(ok:dU P w H h)(e:H a=some (fo o)):h.get? a=some o:=(ok a _ e).1
theorem uC{a:Addr}{o:Obj}(e:h.get? a=some o):eP P w H h a (fo o):=⟨e,trivial,⟨o,e⟩,λ _ _ _ _=>trivial⟩
theorem dU.less(ok:dU P w H h)(dm:pf H as):dU P w (less H as) h:=λ b u e=>by
 have ag:b ∉ as:=λ z=>by rw [uA z] at e;cases e
 rw [gR ag] at e;refine (ok b u e).jk (λ c v _ q=>q) (λ c q=>?_) λ c xs q=>?_
 ·rw [gR λ z=>?_];exact q;obtain ⟨o,z⟩:=dm c z;rw [q] at z;cases z
 ·rw [gR λ z=>?_];exact q;obtain ⟨o,z⟩:=dm c z;rw [q] at z;cases z
theorem dU.more{lJ:ay}(ok:dU P w aj h')(no:∀ a∈as,aj a=none)(dm:∀ a∈as,∃ o,lJ a=some (fo o)/\h'.get? a=some o):dU P w (more aj as lJ) h':=λ b u e=>by
 by_cases ag:b∈as
 ·obtain ⟨o,aP,aL⟩:=dm b ag;rw [uB ag,aP] at e;cases e;exact uC aL
 ·rw [mQ ag] at e;refine (ok b u e).jk (λ c v _ q=>q) (λ c q=>?_) λ c xs q=>?_
  ·rw [mQ λ z=>?_];exact q;rw [no c z] at q;cases q
  ·rw [mQ λ z=>?_];exact q;rw [no c z] at q;cases q
theorem e2.more{bO:List Addr}(u:e2 bO [] (less H as) aj h h')(ok:dU P w H h)(dm:pf H as)(p7:∀ a∈as,a ∉ bO):e2 bO [] H (more aj as H) h h' where
 keep:=λ b o e n ag aF=>by
  exact u.keep b o e (qC n) ag aF
 slot:=λ b o e n ag aF=>u.slot b o e (qC n) ag aF
 free:=λ b o e n aF=>by
  have ag:b ∉ as:=λ z=>by obtain ⟨cT,z⟩:=dm b z;rw [n] at z;cases z
  rw [mQ ag];exact u.free b o e (qC n) aF
 there:=λ b o e aF=>u.there b o e aF
 kA:=λ b xs e=>by
  have ag:b ∉ as:=λ z=>by obtain ⟨cT,z⟩:=dm b z;rw [e] at z;cases z
  rw [mQ ag];exact u.kA b xs (by rw [gR ag];exact e)
 jn:=λ b o v e=>by
  by_cases ag:b∈as
  ·rw [uB ag];exact e
  ·rw [mQ ag];exact u.jn b o v (by rw [gR ag];exact e)
 jZ:=λ b ps e=>by
  have ag:b ∉ as:=λ z=>by obtain ⟨cT,z⟩:=dm b z;rw [e] at z;cases z
  rw [mQ ag];exact u.jZ b ps (by rw [gR ag];exact e)
end
structure uD(N ps fr:List Str)(sc:eC):Prop where
 kind:sc.kind=.function
 co:sc.isCoroutine=false
 gen:sc.isGenerator=false
 aY:N.Nodup
 pre:N.take ps.length=ps
 GR:N.drop (N.length - fr.length)=fr
 len:ps.length+fr.length<=N.length
 par:∀ x∈ps,sc.names.lookup x=some .local
 o_:∀ y∈sc.names,y.2≠.cell
 free:∀ y∈sc.names,y.2=.free->y.1∈fr
 Q2:∀ x∈fr,sc.names.lookup x=some .free
structure kf(H:ay)(f:Addr)(name qual:Str)(st:bB)(cl:List (Str × Addr))(cH:List V):Prop where
 fn:∃(b6:Value)(dA:Option Addr)(doc pm bE ct:Value)(cn:Array (Option Value)),H f=some (fo ⟨b6,dA,.func (wL name qual (j7 st) (gP st) (b1 st) cl .none .none doc pm none bE ct),cn⟩) ∧
  ∃ c o ai t,bE=.ref c/\H c=some (fo o)/\o.data=.fields ai/\ai[1]?=some (.str qual t)
 cells:∀(i:Nat)(x:Str)(c:Addr),cl[i]?=some (x,c)->∃ v u o,cH[i]?=some v/\RelV v u/\H c=some (fo o)/\o.data=.cell (some u)
 len:cl.length=cH.length
 Aa:(cl.map (·.2)).Nodup
structure xu(P:ck)(w:bW)(K:bl)(mg:Str->Option Value)(base:bL)(k:Nat)(name qual:Str)(st:bB)(fr:List Str)(cH:List V)(ps:List Str)(sp:fK):Prop where
 len:∀ ai H Q E,sp ai H Q E->ai.length=ps.length
 run:∀(A:c1)(outer:List Env)(s:aC)(H:ay)(f:Addr)(cl:List (Str × Addr))(us:List Value)(ai:List V)(Q:cK)(E:hW),eF k A->p_ P w K mg base A outer s H->kf H f name qual st cl cH->cl.map (·.1)=fr->Vals ai us->sp ai H Q E →
  hT (aI P w) A (.call (.ref f) ⟨us,[]⟩) (Ft cc outer P w H s Q E) s
def qD(P:ck)(w:bW)(K:bl)(mg:Str->Option Value)(base:bL)(N:List Str)(qual:Str)(scope:eC)(f:Addr)(cd:Value)(cl:List (Str × Addr))(A:c1)(outer:List Env)(s:aC)(H:ay):bb where
 prog:=P
 w:=w
 K:=K
 mg:=mg
 base:=base
 A:=A.deeper (tC qual scope s.heap.objs.size f cd cl)
 N:=N
 s₀:=s
 H₀:=H
 env:=tC qual scope s.heap.objs.size f cd cl
 outer:=outer
 stack:=tC qual scope s.heap.objs.size f cd cl::outer
 ex:=[]
 calm:=true
 fn:=λ _=>false
 pn:=[]
 xe:=λ _ _=>False
def lK(N:List Str)(ai cH:List V):St:=ai.map some++mj (N.length - ai.length - cH.length) none++cH.map some
theorem Q3{l:List (Str × Value)}(aY:(l.map (·.1)).Nodup){x:Str}{u:Value}(h:(x,u)∈l):l.reverse.lookup x=some u:=by
 have xv:(l.reverse.map (·.1)).Nodup:=by rw [ii];exact List.pairwise_reverse.mpr (List.Pairwise.imp (λ h=>Ne.symm h) aY)
 have h':(x,u)∈l.reverse:=tp.mpr h;generalize l.reverse=m at xv h'
 induction m with
 | nil=>cases h'
 | cons y r aN=>
  rw [ew,oM] at xv;rcases dJ.mp h' with e | e
  ·subst e;simp
  ·have ne:x≠y.1:=λ z=>xv.1 (by rw [<- z];exact mn e);rw [nz,beq_false_of_ne ne];exact aN xv.2 e
section
variable{P:ck}{w:bW}{K:bl}{mg:Str->Option Value}{base:bL}{k:Nat}{name qual:Str}{st:bB}{fr:List Str}{cH:List V}{N ps:List Str}{sp:fK}
theorem kf.fG{H:ay}{f:Addr}{cl:List (Str × Addr)}(C:kf H f name qual st cl cH):pf H (cl.map (·.2)):=λ a aD=>by
 obtain ⟨⟨x,c⟩,hm,rfl⟩:=g0.mp aD;obtain ⟨i,ar,e⟩:=k7 hm;obtain ⟨_,_,o,_,_,z,_⟩:=C.cells i x c (by rw [gb ar,e]);exact ⟨o,z⟩
theorem GS:∀{l:List (Str × Addr)}{x y:Str}{c:Addr},(l.map (·.2)).Nodup->(x,c)∈l->(y,c)∈l->x=y
 | q::l,x,y,c,aY,ak,aq=>by
  rw [ew,oM] at aY;rcases dJ.mp ak with aP | aP<;>rcases dJ.mp aq with aL | aL
  ·rw [<- aP] at aL;cases aL;rfl
  ·exact absurd (mn (f:=(·.2)) aL) (by rw [<- aP] at aY;exact aY.1)
  ·exact absurd (mn (f:=(·.2)) aP) (by rw [<- aL] at aY;exact aY.1)
  ·exact GS aY.2 aP aL
theorem Q4{f:Addr}{cd:Value}{cl:List (Str × Addr)}{A:c1}{outer:List Env}{s:aC}{H:ay}{us:List Value}{ai:List V}{h₁:bL}{tk:Nat}(S:uD N ps fr (b1 st))(hd:A.handled=none)(cf:p_ P w K mg base A outer s H)(C:kf H f name qual st cl cH)
 (gy:cl.map (·.1)=fr) (aQ:ai.length=ps.length) (r:Vals ai us) (r1:h₁.Ns s.heap.objs.size (λ x=>(ps.zip us).reverse.lookup x)) (aO:∀ b o,s.heap.get? b=some o->h₁.get? b=some o) :
 Inv (qD P w K mg base N qual (b1 st) f cd cl A outer s (less H (cl.map (·.2)))) [] (lK N ai cH) (less H (cl.map (·.2))) { s with heap:=h₁,toks:=tk }:=by
 have qa:∀ b:Addr,b ∉ ([]:List Addr):=λ b=>by simp
 have dY:fr.length=cH.length:=by rw [<- gy,bS];exact C.len
 have Q5:(cl.map (·.1)).Nodup:=by rw [gy,<- S.GR];exact S.aY.sublist (wE _ _)
 have lk:∀{x:Str}{c:Addr},(x,c)∈cl->cl.lookup x=some c:=λ hm=>lookup_of_mem_nodup Q5 hm;have mem:∀{x:Str}{c:Addr},cl.lookup x=some c->(x,c)∈cl:=λ h=>mu h
 have cellAt:∀{x:Str}{c:Addr},(x,c)∈cl->∃ i v u o,cl[i]?=some (x,c)/\cH[i]?=some v/\RelV v u/\H c=some (fo o)/\o.data=.cell (some u):=λ{x c} hm=>by
  obtain ⟨i,ar,e⟩:=k7 hm
  have cD:cl[i]?=some (x,c):=by rw [gb ar,e]
  obtain ⟨v,u,o,z⟩:=C.cells i x c cD;exact ⟨i,v,u,o,cD,z⟩
 have Q6:∀{x:Str}{c:Addr},(x,c)∈cl->∃ u,h₁.IsCell c (some u):=λ hm=>by
  obtain ⟨i,v,u,o,_,_,_,cB,b8⟩:=cellAt hm;exact ⟨u,o,aO _ _ (pg cf.bM cB),b8⟩
 refine ⟨⟨cf.mod,S.kind,rfl,rfl,b7 _,λ y z c ak aq=>?_,λ y bD=>?_,λ y c h _=>?_,λ _=>hd,Around.frames_deeper cf.frames,.inr ⟨rfl,rfl⟩,λ b z=>absurd z (qa b),λ b o e=>⟨(cf.bs b o e).1,qC (cf.bs b o e).2⟩,cf.lg,λ b _ _=>qa b,λ b z=>absurd z (qa b),cf.jq,λ b ag=>qC (cf.nE b ag)⟩,
  rfl,cf.bare,e2.kept aO,⟨_,r1,λ i y v ak aq aT=>?_⟩,λ y c h=>?_,qC (cf.bM.fresh (b7 _)),λ y c h=>uA (mn (mem h)),λ p az=>absurd (show p∈([]:List (Addr × Obj)) from az) (by simp),(cf.bM.less C.fG).kept aO,?_⟩
 ·exact GS C.Aa (mem ak) (mem aq)
 ·have bD:(b1 st).names.lookup y=some .cell\/(b1 st).names.lookup y=some .free:=bD;rcases bD with bD | bD
  ·exact absurd rfl (S.o_ _ (mu bD))
  ·have hf:=S.free _ (mu bD) rfl;rw [<- gy] at hf;obtain ⟨⟨x,c⟩,hm,e⟩:=g0.mp hf;cases e;exact ⟨c,lk hm⟩
 ·exact absurd h (by simp [qD])
 ·have ak:N[i]?=some y:=ak;have cn:=S.len;by_cases ar:i < ai.length
  ·have aD:ai[i]?=some v:=by
    unfold lK at aq;rw [List.append_assoc,k5 (by simpa using ar),eu] at aq
    cases e:ai[i]? with
    | none=>rw [e] at aq;cases aq
    | some a=>rw [e] at aq;cases aq;rfl
   obtain ⟨u,a0,be⟩:=r.get aD
   have az:ps[i]?=some y:=by rw [<- S.pre,List.getElem?_take_of_lt (by omega)];exact ak
   have w2:ps.Nodup:=by rw [<- S.pre];exact S.aY.sublist (List.take_sublist _ _)
   refine ⟨u,be,.inl ⟨S.par y (ih az),?_⟩⟩
   have GT:us.length=ps.length:=by rw [<- r.length];exact aQ
   refine Q3 (l:=ps.zip us) ?_ ?_
   ·rw [List.map_fst_zip (by omega)];exact w2
   ·refine ih (i:=i) ?_;rw [List.getElem?_zip_eq_some];exact ⟨az,a0⟩
  ·have Ab:N.length - cH.length<=i:=by
    unfold lK at aq;rcases rH i (N.length - cH.length) with z | z
    ·rw [k5 (by simp;omega),nw (by simpa using ar),rA] at aq;split at aq<;>cases aq
    ·exact z
   have hf:cH[i - (N.length - cH.length)]?=some v:=by
    unfold lK at aq;rw [nw (by simp;omega),eu] at aq
    have aP:i - (tq some ai++mj (N.length - ai.length - cH.length) none).length=i - (N.length - cH.length):=by simp;omega
    rw [aP] at aq
    cases e:cH[i - (N.length - cH.length)]? with
    | none=>rw [e] at aq;cases aq
    | some a=>rw [e] at aq;cases aq;rfl
   have bD:fr[i - (N.length - cH.length)]?=some y:=by
    rw [<- S.GR,List.getElem?_drop,dY,show N.length - cH.length+(i - (N.length - cH.length))=i by omega];exact ak
   rw [<- gy,eu] at bD
   cases e:cl[i - (N.length - cH.length)]? with
   | none=>rw [e] at bD;cases bD
   | some q=>
    obtain ⟨x,c⟩:=q;rw [e] at bD;cases bD;obtain ⟨p8,u,o,cB,b8,dg,gx⟩:=C.cells _ _ _ e;rw [hf] at cB;cases cB;have hm:=ih e;refine ⟨u,b8,.inr ⟨.inr (S.Q2 _ (by rw [<- gy];exact mn hm)),c,lk hm,o,aO _ _ (pg cf.bM dg),gx⟩⟩
 ·obtain ⟨u,z⟩:=Q6 (mem h);exact ⟨_,z⟩
 ·have:=S.len;show (lK N ai cH).length=N.length;simp only [lK,fs,bS,tm];omega
theorem Q7(S:uD N ps fr (b1 st))(len:∀ ai H Q E,sp ai H Q E->ai.length=ps.length)
 (uE:∀(cl:List (Str × Addr))(doc pm bE ct:Value)(us:List Value),us.length=ps.length->bindArgs (wL name qual (j7 st) (gP st) (b1 st) cl .none .none doc pm none bE ct) ⟨us,[]⟩=pure (ps.zip us))
 (j6:∀(f:Addr)(bE:Value)(cl:List (Str × Addr))(A:c1)(outer:List Env)(s:aC)(H:ay)(ai:List V)(Q:cK)(E:hW),eF k (A.deeper (tC qual (b1 st) s.heap.objs.size f bE cl))->cl.map (·.1)=fr->pf H (cl.map (·.2))->sp ai H Q E →
  ∃ t,iT (qD P w K mg base N qual (b1 st) f bE cl A outer s (less H (cl.map (·.2)))) (gP st) t ∧
   t { nx:=λ _ aj=>(∀ a∈cl.map (·.2),aj a=none)->Q .bJ (more aj (cl.map (·.2)) H),rt:=λ v aj=>(∀ a∈cl.map (·.2),aj a=none)->Q v (more aj (cl.map (·.2)) H) } (lK N ai cH) (less H (cl.map (·.2)))) :
 xu P w K mg base (k+1) name qual st fr cH ps sp:=by
 refine ⟨len,λ A outer s H f cl us ai Q E am cf C gy r io=>?_⟩;have aQ:=len _ _ _ _ io;have lim:s.heap.NoLimit:=cf.mod.nolimit.keeps λ b o e=>(cf.bs b o e).1;obtain ⟨b6,dA,doc,pm,bE,ct,cn,hf,c,o,Ac,t',e3,aE,hd,bC⟩:=C.fn
 have GT:us.length=ps.length:=by rw [<- r.length];exact aQ
 have dm:=C.fG;refine codeAny_call_def (binds:=ps.zip us) am.depth (pg cf.bM hf) rfl lim ⟨c,o,Ac,t',e3,pg cf.bM aE,hd,bC⟩ rfl (.of_eq (uE cl doc pm bE ct us GT)) S.o_ (λ y bD=>S.par y.1 (wB (show (y.1,y.2)∈ps.zip us from bD)).1) (λ h₀ r1 aO=>?_) S.co S.gen S.kind;obtain ⟨t,bT,bv⟩:=j6 f bE cl A outer s H ai Q E (am.deeper _) gy dm io;have I:=Q4 (h₁:=h₀) (tk:=s.toks+(ps.zip us).length) (cd:=bE) S am.hd cf C gy aQ r r1 aO;refine eg (bT [] _ _ _ _ I bv) (λ hk s' ax=>?_) λ e s' ax=>False.elim ax
 have wR:∀ a∈cl.map (·.2),a ∉ jp outer:=λ a aD z=>by
  obtain ⟨cT,hV⟩:=dm a aD;rw [cf.nE a z] at hV;cases hV
 have fin:∀{σ':St}{aj:ay}{v:V}{u:Value},Inv (qD P w K mg base N qual (b1 st) f bE cl A outer s (less H (cl.map (·.2)))) [] σ' aj s'->RelV v u->((∀ a∈cl.map (·.2),aj a=none)->Q v (more aj (cl.map (·.2)) H))->tZ outer P w H s Q u s':=
  λ{σ' aj v u} J be q=>by
   have no:∀ a∈cl.map (·.2),aj a=none:=λ a aD=>by
    obtain ⟨cT,z⟩:=dm a aD;exact J.base.free a cT (pg cf.bM z) (uA aD) (by simp [qD])
   refine ⟨v,_,J.os,J.bare,J.base.more cf.bM dm wR,J.bM.more no λ a aD=>?_,be,q no⟩;obtain ⟨cT,z⟩:=dm a aD;exact ⟨cT,z,J.base.keep a cT (pg cf.bM z) (uA aD) (wR a aD) (by simp [qD])⟩
 cases hk with
 | ret u=>
  obtain ⟨v,σ',aj,J,be,q⟩:=ax;exact fin J be q
 | next=>
  obtain ⟨σ',aj,J,q⟩:=ax;exact fin (v:=V.bJ) (u:=Value.none) J rfl q
 | brk=>
  obtain ⟨_,_,_,q⟩:=ax;exact False.elim q
 | cont=>
  obtain ⟨_,_,_,q⟩:=ax;exact False.elim q
def GU(i:Nat)(name qual:Str)(st:bB)(fr:List Str)(cH:List V)(sp:fK)(t:eD):TE:=λ σ H Q=>∃ f cl,σ[i]?=some (some (.ref f))/\kf H f name qual st cl cH/\cl.map (·.1)=fr/\t σ H λ ai H1=>kf H1 f name qual st cl cH/\sp ai H1 Q o9
end
section
variable{X:bb}{k j:Nat}{name qual:Str}{st:bB}{fr:List Str}{cH:List V}{ps:List Str}{x:Str}{sp:fK}{p pos:Pos}{e:bg}{ah:List bg}{t:eD}
theorem kf.at'{H:ay}{f:Addr}{cl:List (Str × Addr)}{P:ck}{w:bW}{h:bL}(C:kf H f name qual st cl cH)(ok:dU P w H h):PySem.W.FnAt f h:=by
 obtain ⟨b6,dA,doc,pm,bE,ct,cn,hf,_⟩:=C.fn;exact ⟨b6,dA,_,cn,pg ok hf⟩
theorem Q8{i:Nat}(G:xu X.prog X.w X.K X.mg X.base k name qual st fr cH ps sp)(am:eF j X.A)(aO:k<=j)(cw:X.N[i]?=some x)(bC:ld X.env.scope x)(aD:hc X (e::ah) t)(hd:(x==("__debug__" : Str))=false)(e3:(x==("__classdict__" : Str))=false)
 (he:dv (e::ah) X.env=(false,eval e X.env)::dv ah X.env) (fX:(fS pos (dv ah X.env)).any (·.1)=false) :
 bX X (.Call (.Name x p) (e::ah) [] pos) (GU i name qual st fr cH sp t):=by
 intro pins s σ H Q I h;obtain ⟨f,cl,aP,C,gy,h⟩:=h;refine iM (b5 (zh (pos:=p) cw bC hd e3 pins s σ H (λ v H1=>v=.ref f/\H1=H) I ⟨_,aP,rfl,rfl⟩) λ u s1 ⟨v,H1,a6,bj,ev,lD⟩=>?_);subst ev lD;obtain rfl:u=Value.ref f:=bj;refine PySem.W.callWith_F (C.at' a6.bM) (b5 (aD pos pins s1 σ H1 _ a6 h) λ us s2 ⟨ai,aS,cy,r,GV,q⟩=>⟨GV.at' cy.bM,?_⟩) he fX;refine td (nj (G.run X.A X.stack s2 aS f cl us ai Q o9 (am.mono aO) cy.t2 GV gy r q) λ r s' bv=>?_)
 cases r with
 | error e=>exact False.elim bv
 | ok hk=>
  cases hk with
  | ret u=>exact cy.after bv
  | next=>exact False.elim bv
  | brk=>exact False.elim bv
  | cont=>exact False.elim bv
end
def e7(env:Env)(fr:List Str):List (Str × Addr):=fr.map λ x=>(x,(env.cells.lookup x).getD 0)
structure r2(env:Env)(H:ay)(f:Addr)(name qual:Str)(st:bB)(fr:List Str):Prop where
 fn:∃(b6:Value)(dA:Option Addr)(doc pm bE ct:Value)(cn:Array (Option Value)),H f=some (fo ⟨b6,dA,.func (wL name qual (j7 st) (gP st) (b1 st) (e7 env fr) .none .none doc pm none bE ct),cn⟩) ∧
  ∃ c o ai t,bE=.ref c/\H c=some (fo o)/\o.data=.fields ai/\ai[1]?=some (.str qual t)
section
variable{X:bb}{pins:List (Addr × Obj)}{σ:St}{H aS:ay}{s s':aC}{as:List Addr}
structure qE(X:bb)(H aS:ay)(as:List Addr)(h:bL):Prop where
 out:∀ b,b ∉ as->aS b=H b
 no:∀ a∈as,H a=none
 at':∀ a∈as,∃ o,aS a=some (fo o)/\h.get? a=some o
 Q9:∀ a∈as,X.base.get? a=none
 GW:∀ a∈as,a ∉ jp X.stack
theorem qE.ok(p:qE X H aS as s.heap)(ok:dU X.prog X.w H s.heap):dU X.prog X.w aS s.heap:=λ b u e=>by
 by_cases ag:b∈as
 ·obtain ⟨o,aP,aL⟩:=p.at' b ag;rw [aP] at e;cases e;exact uC aL
 ·rw [p.out b ag] at e;refine (ok b u e).jk (λ c v _ q=>q) (λ c q=>?_) λ c xs q=>?_
  ·rw [p.out c λ z=>?_];exact q;rw [p.no c z] at q;cases q
  ·rw [p.out c λ z=>?_];exact q;rw [p.no c z] at q;cases q
theorem qE.t2(p:qE X H aS as s.heap)(I:Inv X pins σ H s):p_ X.prog X.w X.K X.mg X.base X.A X.stack s aS:=by
 have cf:=I.t2;refine ⟨cf.frames,cf.mod,λ b o e=>⟨(cf.bs b o e).1,?_⟩,cf.lg,cf.jq,λ b ag=>?_,p.ok cf.bM,cf.bare⟩
 ·rw [p.out b λ z=>?_];exact (cf.bs b o e).2;rw [p.Q9 b z] at e;cases e
 ·rw [p.out b λ z=>p.GW b z ag];exact cf.nE b ag
theorem qE.after{Q:cK}{u:Value}(p:qE X H aS as s.heap)(I:Inv X pins σ H s)(h:tZ X.stack X.prog X.w aS s (λ v aj=>Q v (less aj as)) u s'):da X pins σ Q u s':=by
 obtain ⟨v,aj,os,bare,un,bM,r,q⟩:=h
 have dm:∀ a∈as,∃ o,aj a=some (fo o)/\s.heap.get? a=some o:=λ a aD=>by
  obtain ⟨o,aP,aL⟩:=p.at' a aD;exact ⟨o,un.jn a o _ aP,aL⟩
 refine I.after ⟨v,less aj as,os,bare,⟨λ b o e n ag aF=>?_,λ b o e n ag aF=>?_,λ b o e n aF=>?_,λ b o e aF=>un.there b o e aF,λ b xs e=>?_,λ b o x e=>?_,λ b ps e=>?_⟩,bM.less λ a aD=>let ⟨o,e,_⟩:=dm a aD;⟨o,e⟩,r,q⟩
 ·by_cases z:b∈as
  ·obtain ⟨cT,aP,aL⟩:=dm b z;rw [e] at aL;cases aL;exact pg bM aP
  ·exact un.keep b o e (by rw [p.out b z];exact n) ag aF
 ·have z:b ∉ as:=λ z=>p.GW b z ag;exact un.slot b o e (by rw [p.out b z];exact n) ag aF
 ·by_cases z:b∈as
  ·exact uA z
  ·exact qC (un.free b o e (by rw [p.out b z];exact n) aF)
 ·have z:b ∉ as:=λ z=>by rw [p.no b z] at e;cases e
  rw [gR z];exact un.kA b xs (by rw [p.out b z];exact e)
 ·have z:b ∉ as:=λ z=>by rw [p.no b z] at e;cases e
  rw [gR z];exact un.jn b o x (by rw [p.out b z];exact e)
 ·have z:b ∉ as:=λ z=>by rw [p.no b z] at e;cases e
  rw [gR z];exact un.jZ b ps (by rw [p.out b z];exact e)
end
def Q_(X:bb)(name qual:Str)(st:bB)(fr:List Str)(ix:List Nat)(sp:fK)(t:eD):TE:=λ σ H Q=>t σ H λ ai H1=>∃(f:Addr)(cH:List V),r2 X.env H1 f name qual st fr/\(∀(i j:Nat),ix[i]?=some j->∃ v,σ[j]?=some (some v)/\cH[i]?=some v)/\cH.length=fr.length ∧
 ∀ aS,(∀ b,b ∉ (e7 X.env fr).map (·.2)->aS b=H1 b)->(∀ b∈(e7 X.env fr).map (·.2),H1 b=none)->kf aS f name qual st (e7 X.env fr) cH->sp ai aS (λ v aj=>Q v (less aj ((e7 X.env fr).map (·.2)))) o9
section
variable{X:bb}{k j:Nat}{g:Addr}{fd:f9}{name qual:Str}{st:bB}{fr:List Str}{ix:List Nat}{ps:List Str}{x:Str}{sp:fK}{p pos:Pos}{e:bg}{ah:List bg}{t:eD}
theorem Ra(G:Got X.prog X.w X.K X.mg X.base k x ps sp)(am:eF j X.A)(aO:k<=j)(aZ:di X x)(aD:hc X (e::ah) t)(gh:(x==("__debug__" : Str))=false)(Ad:fr.Nodup)(Ae:ix.length=fr.length)
 (ph:∀(i:Nat)(y:Str),fr[i]?=some y->∃ j,ix[i]?=some j/\X.N[j]?=some y/\X.env.scope.names.lookup y=some .cell/\X.fn y=true)
 (he:dv (e::ah) X.env=(false,eval e X.env)::dv ah X.env) (fX:(fS pos (dv ah X.env)).any (·.1)=false) :
 bX X (.Call (.Name x p) (e::ah) [] pos) (Q_ X name qual st fr ix sp t):=by
 intro pins s σ H Q I h;obtain ⟨f,fd,F,hm,b0,b⟩:=G.ex;refine iM (zi I aZ hm ?_ gh);refine PySem.W.callWith_K (h₀:=X.base) I.ok.mod.tH b0 (b5 (aD pos pins s σ H _ I h) λ us s1 ⟨ai,H1,a6,r,Rb,cH,M,bC,Af,q⟩=>⟨a6.gv,?_⟩) he fX
 have cells:∀(i:Nat)(y:Str),fr[i]?=some y->∃ v u c o,cH[i]?=some v/\RelV v u/\X.env.cells.lookup y=some c/\s1.heap.get? c=some o/\o.data=.cell (some u)/\H1 c=none/\X.s₀.heap.objs.size<=c:=λ i y bD=>by
  obtain ⟨j,ak,aq,aT,cb⟩:=ph i y bD;obtain ⟨v,dM,j_⟩:=bC i j ak;obtain ⟨m,_,aQ⟩:=a6.loc;obtain ⟨u,be,lk⟩:=aQ j y v aq dM (.inr (.inl aT));rcases lk with ⟨z,_⟩ | ⟨_,c,cB,o,b8,dg⟩
  ·have hV:X.env.scope.names.lookup y=some .local:=z;rw [aT] at hV;cases hV
  ·exact ⟨v,u,c,o,j_,be,cB,b8,dg,a6.kB y c cB,a6.ok.rN y c cb cB⟩
 have mem:∀ a∈(e7 X.env fr).map (·.2),∃ i y,fr[i]?=some y/\X.env.cells.lookup y=some a:=λ a aD=>by
  obtain ⟨q,bv,rfl⟩:=g0.mp aD;obtain ⟨y,bD,rfl⟩:=g0.mp bv;obtain ⟨i,ar,aP⟩:=k7 bD
  have aL:fr[i]?=some y:=by rw [gb ar,aP]
  obtain ⟨v,u,c,o,_,_,cB,_⟩:=cells i y aL;exact ⟨i,y,aL,by rw [cB];rfl⟩
 have xw:∀ a∈(e7 X.env fr).map (·.2),∃ o,s1.heap.get? a=some o/\H1 a=none/\X.s₀.heap.objs.size<=a:=λ a aD=>by
  obtain ⟨i,y,ak,aq⟩:=mem a aD;obtain ⟨v,u,c,o,_,_,cB,b8,_,dg,gx⟩:=cells i y ak;rw [aq] at cB;cases cB;exact ⟨o,b8,dg,gx⟩
 let aS:ay:=λ b=>if b∈(e7 X.env fr).map (·.2) then (s1.heap.get? b).map fo else H1 b
 have GX:∀ a∈(e7 X.env fr).map (·.2),∀ o,s1.heap.get? a=some o->aS a=some (fo o):=λ a aD o e=>by
  show (if a∈(e7 X.env fr).map (·.2) then (s1.heap.get? a).map fo else H1 a)=_;rw [if_pos aD,e];rfl
 have Ag:∀ b,b ∉ (e7 X.env fr).map (·.2)->aS b=H1 b:=λ b ag=>if_neg ag
 have t5:∀ b∈(e7 X.env fr).map (·.2),H1 b=none:=λ b ag=>let ⟨_,_,z,_⟩:=xw b ag;z
 have GY:∀ b u,H1 b=some u->aS b=some u:=λ b u e=>by
  rw [Ag b λ z=>?_];exact e;rw [t5 b z] at e;cases e
 have cE:qE X H1 aS ((e7 X.env fr).map (·.2)) s1.heap:=by
  refine ⟨Ag,t5,λ a aD=>?_,λ a aD=>?_,λ a aD z=>?_⟩
  ·obtain ⟨o,e,_⟩:=xw a aD;exact ⟨o,GX a aD o e,e⟩
  ·obtain ⟨o,_,_,z⟩:=xw a aD;exact Heap.get?_none_of_le (kz a6.ok.lg z)
  ·obtain ⟨o,_,_,gx⟩:=xw a aD;obtain ⟨i,y,_,aq⟩:=mem a aD;rcases dJ.mp (a6.oR a z) with e | e
   ·exact a6.oQ y a aq e
   ·obtain ⟨_,cT,a4,_⟩:=a6.ok.jq.mem e;exact absurd (hA (cJ a4) gx) (jU _)
 have C:kf aS Rb name qual st (e7 X.env fr) cH:=by
  obtain ⟨b6,dA,doc,pm,bE,ct,cn,mw,c,o,Ac,t',mx,lL,r3⟩:=M.fn;refine ⟨⟨b6,dA,doc,pm,bE,ct,cn,GY _ _ mw,c,o,Ac,t',mx,GY _ _ lL,r3⟩,λ i y c ar=>?_,?_,?_⟩
  ·unfold e7 at ar;rw [eu] at ar
   cases aP:fr[i]? with
   | none=>rw [aP] at ar;cases ar
   | some ac1=>
    rw [aP] at ar;cases ar;obtain ⟨v,u,c,o,r4,cB,b8,dg,gx,_⟩:=cells i _ aP;refine ⟨v,u,o,r4,cB,?_,gx⟩
    have d_:(X.env.cells.lookup y).getD 0=c:=by rw [b8];rfl
    refine GX _ (mn (f:=(·.2)) (mn (f:=λ x=>(x,(X.env.cells.lookup x).getD 0)) (ih aP))) o ?_;show s1.heap.get? ((X.env.cells.lookup y).getD 0)=some o;rw [d_];exact dg
  ·rw [e7,bS];exact Af.symm
  ·rw [e7,fE];refine List.pairwise_map.mpr (List.Pairwise.imp_of_mem (λ{a b} aD ag nX e=>?_) Ad);obtain ⟨i,ar,de⟩:=k7 aD;obtain ⟨kH,cP,ea⟩:=k7 ag;obtain ⟨_,_,ca,_,_,_,GZ,_⟩:=cells i a (by rw [gb ar,de]);obtain ⟨_,_,jB,_,_,_,G0,_⟩:=cells kH b (by rw [gb cP,ea])
   have cD:ca=jB:=by
    have aL:(X.env.cells.lookup a).getD 0=(X.env.cells.lookup b).getD 0:=e;rw [GZ,G0] at aL;exact aL
   exact nX (a6.ok.inj a b ca GZ (by rw [cD];exact G0))
 have io:=q aS Ag t5 C
 have aQ:us.length=ps.length:=by rw [<- r.length];exact F.len _ _ _ _ io
 have ag:=b s1 us a6.gv (by rw [k4];exact aQ);rw [k4] at ag;refine td (nj (F.run X.A X.stack s1 aS ⟨us,[]⟩ us ai _ o9 (am.mono aO) (cE.t2 a6) ag r io) λ dL s' bv=>?_)
 cases dL with
 | error e=>exact False.elim bv
 | ok hk=>
  cases hk with
  | ret u=>exact cE.after a6 bv
  | next=>exact False.elim bv
  | brk=>exact False.elim bv
  | cont=>exact False.elim bv
end
def Tab(H:ay)(T:Addr)(pos:Pos)(qual:Str):Prop:=∃ ps,H T=some (.g4 ps)/\TriplesOk ps.toList/\(codeAmong pos ps.toList=none\/∃ c o ai t,codeAmong pos ps.toList=some (.ref c)/\H c=some (fo o)/\o.data=.fields ai/\ai[1]?=some (.str qual t))
def lM(mg:Str->Option Value)(h:bL):Prop:=∃ bm dh,mg "__builtins__" = some (.ref bm)/\bm≠W1/\bm≠ef/\h.get? bm=some dh/\dh.cls=.type "module"/\dh.dict=some W1/\dh.data=.plain
section
variable{P:ck}{w:bW}{H:ay}{h h':bL}{T c:Addr}{ps mo:Array Value}{b6:Obj}{bO ex:List Addr}
theorem e2.tab(bQ:H T=some (.g4 ps))(aE:H c=none)(mR:h.objs.size<=c)(aF:Heap.ExtBut T h h')(bT:h'.get? T=some (tD (ps++mo))):e2 bO ex H (upd (upd H T (.g4 (ps++mo))) c (fo b6)) h h':=by
 have lN:∀ b u,H b=some u->u≠.g4 ps->b≠T:=λ b u e n z=>by rw [z,bQ] at e;exact n (e1.inj e).symm
 have Ah:∀ b,H b=none->b≠T:=λ b e z=>by rw [z,bQ] at e;cases e
 have nP:∀ b u,H b=some u->b≠c:=λ b u e z=>by rw [z,aE] at e;cases e
 have Rc:∀ b o,h.get? b=some o->b≠c:=λ b o e=>dp (hA (cJ e) mR);refine ⟨λ b o e n _ _=>aF b o (Ah b n) e,λ b o e n _ _=>⟨o.slots,aF b o (Ah b n) e⟩,λ b o e n _=>?_,λ b o e _=>?_,λ b xs e=>?_,λ b o u e=>?_,λ b cq e=>?_⟩
 ·rw [cV (Rc b o e),cV (Ah b n)];exact n
 ·by_cases z:b=T
  ·subst z;exact ⟨_,bT⟩
  ·exact ⟨o,aF b o z e⟩
 ·rw [cV (nP b _ e),cV (lN b _ e λ z=>nomatch z)];exact e
 ·rw [cV (nP b _ e),cV (lN b _ e λ z=>nomatch z)];exact e
 ·by_cases z:b=T
  ·subst z;rw [bQ] at e;cases e;exact ⟨mo,by rw [cV (nP b _ bQ),fi]⟩
  ·exact ⟨#[],by rw [cV (nP b _ e),cV z,e];simp⟩
theorem dU.tab(ok:dU P w H h)(bQ:H T=some (.g4 ps))(mR:h.objs.size<=c)(aF:Heap.ExtBut T h h')(bT:h'.get? T=some (tD (ps++mo)))(rO:h'.get? c=some b6):dU P w (upd (upd H T (.g4 (ps++mo))) c (fo b6)) h':=λ b u e=>by
 have aE:H c=none:=ok.fresh mR
 have lN:∀ b u,H b=some u->u≠.g4 ps->b≠T:=λ b u e n z=>by rw [z,bQ] at e;exact n (e1.inj e).symm
 have nP:∀ b u,H b=some u->b≠c:=λ b u e z=>by rw [z,aE] at e;cases e
 by_cases ak:b=c
 ·subst ak;rw [fi] at e;cases e;exact uC rO
 ·rw [cV ak] at e;by_cases aq:b=T
  ·subst aq;rw [fi] at e;cases e;exact bT
  ·rw [cV aq] at e;refine (ok b u e).jk (λ d v hd q=>aF d v ?_ q) (λ d q=>?_) λ d xs q=>?_
   ·rcases hd with rfl | hd
    ·exact aq
    ·exact lN d _ hd λ z=>nomatch z
   ·rw [cV (nP d _ q),cV (lN d _ q λ z=>nomatch z)];exact q
   ·rw [cV (nP d _ q),cV (lN d _ q λ z=>nomatch z)];exact q
end
def Rd(X:bb)(i:Nat)(T:Addr)(name qual:Str)(st:bB)(fr:List Str)(pos:Pos):eV:=λ D σ H=>Tab H T pos qual/\∀ f aj,H f=none->r2 X.env aj f name qual st fr->Tab aj T pos qual->(∀ b u,b≠T->H b=some u->aj b=some u)->D.nx (σ.set i (some (.ref f))) aj
section
variable{X:bb}{i:Nat}{T c:Addr}{name:Str}{params:ww}{body:List bB}{scope:eC}{pos:Pos}{fr:List Str}
theorem Re(cw:X.N.Nodup)(ar:X.N[i]?=some name)(aQ:Loc X.env.scope name)(xx:X.env.code=.ref c)(j9:PySem.W.CodeHd X.base c T)(gj:lM X.mg X.base)
 (gy:wu scope X.env=pure (e7 X.env fr)) (Ai:params.defaults=[]) (Aj:params.kw_defaults=[]) (aD:annTrees params none X.env=[])
 (hf:X.fn name=true\/X.env.scope.names.lookup name=some .local) :
 iS X (.FunctionDef name params body [] none [] scope none name pos) (Rd X i T name (pU X.env name name) (.FunctionDef name params body [] none [] scope none name pos) fr pos):=by
 intro pins s σ H D I h;obtain ⟨⟨ps,bQ,bT,Rf⟩,h⟩:=h;have xy:s.heap.get? T=some (tD ps):=I.bM T _ bQ;have C:=j9.keeps I.bk;have aZ:s.heap.Ns ef X.mg:=I.ok.mod.glob.keeps I.bk;obtain ⟨bm,dh,hF,gk,mS,hG,iZ,qF,Rg⟩:=gj
 have Rh:bm≠T:=λ z=>by
  have e:=I.bk _ _ hG;rw [z,xy] at e;cases e;cases iZ
 have Ri:ef≠T:=λ z=>by
  obtain ⟨o,ah,a5,e,hd,_⟩:=aZ;rw [z,xy] at e;cases e;cases hd
 have G1:s.heap.BuiltinsAt X.mg T:=⟨bm,dh,hF,gk,mS,Rh,I.bk _ _ hG,iZ,qF,Rg⟩
 refine PySem.W.nestDef_K Ai Aj aD ?_;rcases Rf with bt | ⟨b_,o,ai,t,tM,G2,hd,bC⟩
 ·refine PySem.W.makeFunction_K (mg:=X.mg) gy I.ok.glob aZ xx C xy bT bt Ri G1 λ b_ pi doc h' tk aF mR fy Rj G3=>?_;obtain ⟨dE,b6,ai,t,aL,rO,hd,bC⟩:=Rj;cases aL
  have a6:Inv X pins σ (upd (upd H T (.g4 (ps++#[d5 pos.line,d5 pos.col,.ref b_]))) b_ (fo b6)) { s with heap:=h',toks:=tk }:=
   I.un (e2.tab bQ (I.bM.fresh mR) mR aF G3) (I.bM.tab bQ mR aF G3 rO)
  have cy:=a6.laid (a:=h'.objs.size) (o:=fo (tE name (pU X.env name name) params body scope (e7 X.env fr) doc ((X.mg "__name__").getD .none) b_ pi)) (t':=tk) (h':=h'.push (tE name (pU X.env name name) params body scope (e7 X.env fr) doc ((X.mg "__name__").getD .none) b_ pi)) (λ b u e=>cm _ e) (b7 _) (uC (d2 _ rfl));have my:H h'.objs.size=none:=I.bM.fresh (tv (Nat.lt_of_le_of_lt mR fy));have G4:b_≠h'.objs.size:=dp fy
  have Rk:T≠h'.objs.size:=λ z=>by rw [z,my] at bQ;cases bQ
  have Rl:T≠b_:=λ z=>by rw [z,I.bM.fresh mR] at bQ;cases bQ
  refine tN (v:=.ref h'.objs.size) cy cw ar aQ rfl (λ s' dd=>⟨_,_,dd,h _ _ my ⟨⟨_,_,doc,_,_,pi,_,fi,b_,b6,ai,t,rfl,?_,hd,bC⟩⟩ ⟨ps++#[d5 pos.line,d5 pos.col,.ref b_],?_,?_,.inr ⟨b_,b6,ai,t,by rw [Array.toList_append];exact codeAmong_snoc _ bT bt,?_,hd,bC⟩⟩ λ b u ag e=>?_⟩) hf
  ·rw [cV G4,fi]
  ·rw [cV Rk,cV Rl,fi]
  ·rw [Array.toList_append];exact TriplesOk_snoc _ _ _ _ bT
  ·rw [cV G4,fi]
  ·rw [cV (λ z=>by rw [z,my] at e;cases e),cV (λ z=>by rw [z,I.bM.fresh mR] at e;cases e),cV ag];exact e
 ·refine PySem.W.makeFunction_hit (mg:=X.mg) gy I.ok.glob aZ xx C xy bT tM G1 λ pi doc h' tk aO hsz=>?_;have my:H h'.objs.size=none:=I.bM.fresh hsz;have cy:=I.laid (a:=h'.objs.size) (o:=fo (tE name (pU X.env name name) params body scope (e7 X.env fr) doc ((X.mg "__name__").getD .none) b_ pi)) (t':=tk) (h':=h'.push (tE name (pU X.env name name) params body scope (e7 X.env fr) doc ((X.mg "__name__").getD .none) b_ pi)) (λ b u e=>cm _ (aO b u e)) hsz (uC (d2 _ rfl))
  have keep:∀ b u,H b=some u->upd H h'.objs.size (fo (tE name (pU X.env name name) params body scope (e7 X.env fr) doc ((X.mg "__name__").getD .none) b_ pi)) b=some u:=λ b u e=>by
   rw [cV (λ z=>by rw [z,my] at e;cases e)];exact e
  exact tN (v:=.ref h'.objs.size) cy cw ar aQ rfl (λ s' dd=>⟨_,_,dd,h _ _ my ⟨⟨_,_,doc,_,_,pi,_,fi,b_,o,ai,t,rfl,keep _ _ G2,hd,bC⟩⟩ ⟨ps,keep _ _ bQ,bT,.inr ⟨b_,o,ai,t,tM,keep _ _ G2,hd,bC⟩⟩ λ b u _ e=>keep b u e⟩) hf
end
structure xA(tabs:List (Addr × Addr))(K:bl)(a:Addr)(H:ay):Prop where
 only:∀ b,H b=none\/(∃ o xs,H b=some (.fG o (.lst xs)))\/(b∈tabs.map (·.2)/\H b=some (.g4 #[]))
 tab:∀ q∈tabs,H q.2=some (.g4 #[])
def Ak(tabs:List (Addr × Addr))(K:bl)(a:Addr)(o:Obj)(xs:List V):ay:=λ b=>
 if b∈tabs.map (·.2) then some (.g4 #[]) else if b=a then (if (K.lookup a).isSome then none else some (.fG o (.lst xs))) else none
section
variable{P:ck}{w:bW}{K:bl}{mg jo:Str->Option Value}{k:Nat}{fa a:Addr}{fd:f9}{x:Str}{sp:fK}{dC:aC}{ai:List Value}{ns:List Int}{tabs:List (Addr × Addr)}
theorem Rm(KX:K.In dC.heap)(r1:dC.heap.Ns ef mg)(ag:dC.heap.Ns W1 jo)(Rn:∀ x:Str,x≠"__name__"->jo x=kv x)(Ro:dC.heap.NoLimit)(aZ:dC.gens=#[])
 (aD:dC.heap.get? a=some { cls:=.type "list", data:=.seq ai.toArray }) (ar:ky ai ns) (aQ:ns.length<=sizeLine) (am:eF k rx)
 (bQ:PySem.W.TabsAt tabs dC.heap) (eR:PySem.W.noTabs K=true) (gj:lM mg dC.heap)
  (F:∀ base:bL,K.In base->base.Ns ef mg->(∀ q∈tabs,PySem.W.CodeHd base q.1 q.2)->lM mg base->cp P w K mg base cc k fa fd [x] sp) (uE:∀(s:aC)(u:Value),rv s fd ⟨[u],[]⟩ [(x,u)])
  (io:∀ H:ay,xA tabs K a H->d7 K H a (ns.map V.int)->sp [.ref a] H (λ v _=>v=.aU true) λ _ _ _=>False) :
  hT (aI P w) rx (.call (.ref fa) ⟨[.ref a],[]⟩) (λ r s'=>r=.ok (.ret (.bool true))/\OldK dC.heap s'.heap/\s'.os=dC.os/\oI s'.gens) dC:=by
  generalize r5:({ cls:=.type "list", data:=.seq ai.toArray }:Obj)=r6 at aD
  have r7:r6.data=.seq ai.toArray 0/\r6.cls=.type "list"/\r6.dict=none:=by rw [<- r5];exact ⟨rfl,rfl,rfl⟩
  have be:=zA ar
  have tabAt:∀ b∈tabs.map (·.2),dC.heap.get? b=some (tD #[]):=λ b ag=>by
   obtain ⟨q,bv,rfl⟩:=g0.mp ag;exact (bQ q bv).2
  have Rp:a ∉ tabs.map (·.2):=λ z=>by
   have e:=tabAt a z;rw [aD] at e;have:=r7.2.1;rw [e1.inj e] at this;cases this
  obtain ⟨H,lD⟩:∃ H,H=Ak tabs K a r6 (ns.map V.int):=⟨_,rfl⟩
  have Al:∀ b∈tabs.map (·.2),H b=some (.g4 #[]):=λ b ag=>by rw [lD];exact if_pos ag
  have uF:H a=if (K.lookup a).isSome then none else some (.fG r6 (.lst (ns.map V.int))):=by
   rw [lD];unfold Ak;rw [if_neg Rp,if_pos rfl]
  have off:∀ b,b ∉ tabs.map (·.2)->b≠a->H b=none:=λ b ak aq=>by rw [lD];unfold Ak;rw [if_neg ak,if_neg aq]
  have free:∀{b:Addr}{o:Obj},dC.heap.get? b=some o->o≠tD #[]->(b=a->(K.lookup a).isSome=true)->H b=none:=λ{b o} e ak aq=>by
   by_cases z:b∈tabs.map (·.2)
   ·rw [tabAt b z] at e;exact absurd (e1.inj e).symm ak
   ·by_cases y:b=a
    ·subst y;rw [uF,if_pos (aq rfl)]
    ·exact off b z y
  have G5:∀{b:Addr}{o:Obj},dC.heap.get? b=some o->o.cls≠.type "list"->b≠a:=λ{b o} e ak z=>by
   rw [z,aD] at e;exact ak (by rw [<- e1.inj e];exact r7.2.1)
  have get:∀{b:Addr}{o:Obj},dC.heap.get? b=some o->H b=none->(mv dC.heap H).get? b=some o:=λ e n=>L4 e n
  have xB:∀{b:Addr}{m:Str->Option Value},dC.heap.Ns b m->(mv dC.heap H).Ns b m:=λ{b m} ⟨o,ah,a5,e,d,r⟩=>
   ⟨o,ah,a5,get e (free e (λ z=>by rw [z] at d;cases d) λ z=>by
    rw [z,aD] at e;have d':=r7.1
    rw [e1.inj e,d] at d';cases d'),d,r⟩
  have G6:K.In (mv dC.heap H):=λ b o e=>get (KX b o e) (free (KX b o e) (λ z=>by
   have aq:=rC.mp eR (b,o) (PySem.W.mem_of_lookupK e);subst z
   exact absurd (show false=true from aq) gI) λ z=>by rw [<- z,e];rfl)
  have Rq:∀ q∈tabs,PySem.W.CodeHd (mv dC.heap H) q.1 q.2:=λ q bv=>by
   obtain ⟨o,us,file,pj,flags,bp,Rr,mT,tt,aP,bj,bK⟩:=(bQ q bv).1;refine ⟨o,us,file,pj,flags,bp,Rr,mT,tt,get aP (free aP (λ z=>by rw [z] at bj;cases bj) λ z=>absurd z (G5 aP (by rw [bj];decide))),bj,bK⟩
  have aU:lM mg (mv dC.heap H):=by
   obtain ⟨bm,dh,hF,gk,mS,hG,iZ,qF⟩:=gj;exact ⟨bm,dh,hF,gk,mS,get hG (free hG (λ z=>by rw [z] at iZ;cases iZ) λ z=>absurd z (G5 hG (by rw [iZ];decide))),iZ,qF⟩
  have bM:dU P w H dC.heap:=λ b u e=>by
   by_cases z:b∈tabs.map (·.2)
   ·rw [Al b z] at e;cases e;exact tabAt b z
   ·by_cases y:b=a
    ·subst y;rw [uF] at e;split at e
     ·cases e
     ·cases e;refine ⟨aD,?_⟩;subst r5;exact ⟨by rw [bS];exact aQ,ai,_,be,aD⟩
    ·rw [off b z y] at e;cases e
  have ent:xA tabs K a H:=⟨λ b=>by
   by_cases z:b∈tabs.map (·.2)
   ·exact .inr (.inr ⟨z,Al b z⟩)
   ·by_cases y:b=a
    ·subst y
     cases aO:(K.lookup b).isSome with
     | true=>exact .inl (by rw [uF,aO];rfl)
     | false=>exact .inr (.inl ⟨_,_,by rw [uF,aO];rfl⟩)
    ·exact .inl (off b z y),λ q bv=>Al _ (mn bv)⟩
  have fA:d7 K H a (ns.map V.int):=by
   cases aO:K.lookup a with
   | some o=>
    have e:=KX a o aO;rw [aD] at e;obtain rfl:=e1.inj e;exact .inr ⟨_,ai.toArray,0,aO,r7.2.1,r7.2.2,r7.1,by rw [c_,ar.length];exact aQ,by simpa using be⟩
   | none=>exact .inl (.inr ⟨r6,by rw [uF,aO];rfl⟩)
  have cf:p_ P w K mg (mv dC.heap H) rx [] dC H:=⟨rfl,⟨G6,xB r1,⟨jo,xB ag,Rn⟩,let ⟨Rs,ak,aq⟩:=Ro;⟨Rs,xB ak,aq⟩⟩,λ b o e=>L5 e,Nat.le_of_eq (L1 _ _),trivial,λ b ag=>absurd (show b∈([]:List Addr) from ag) (by simp),bM,.of_eq aZ⟩
  refine nj ((F _ G6 (xB r1) Rq aU).run rx [] dC H ⟨[.ref a],[]⟩ [.ref a] [.ref a] _ _ am cf (uE dC (.ref a)) (.cons rfl .nil) (io H ent fA)) λ r s' h=>?_
  match r,h with
  | .ok (.ret u),⟨v,aj,os,bare,un,G7,dK,q⟩=>
   obtain rfl:v=.aU true:=q;obtain rfl:u=Value.bool true:=dK;have no:∀ b:Addr,b ∉ jp ([]:List Env):=λ b z=>absurd (show b∈([]:List Addr) from z) (by simp);refine ⟨rfl,⟨λ b o e=>?_,λ b o e=>un.there b o e (by simp)⟩,os,bare⟩;rcases ent.only b with z | ⟨dh,xs,z⟩ | ⟨z,y⟩
   ·exact .inl (un.keep b o e z (no b) (by simp))
   ·refine .inl ?_;have b8:=un.jn b dh _ z;obtain ⟨aP,_⟩:=bM b _ z;rw [e] at aP;cases aP;exact (G7 b _ b8).1
   ·obtain ⟨mo,b8⟩:=un.jZ b _ y;have d_:=tabAt b z;rw [e] at d_;obtain rfl:=e1.inj d_;obtain ⟨p,az,rfl⟩:=g0.mp z;exact .inr (.inl ⟨((bQ p az).1.tab (bQ p az).2).isCodeTable,rfl,#[],mo,rfl,G7 p.2 _ b8⟩)
end
theorem Rt{p:ck}{loose:List Str}{Ru:ExcName->Option Value}{mg jo:Str->Option Value}{h:bL}(T:Top p loose Ru mg jo h):lM mg h:=by
 obtain ⟨bm,dh,hF,gk,mS,hG,iZ,qF⟩:=T.bmain;refine ⟨bm,dh,hF,gk,λ z=>?_,mS,hG,iZ,qF⟩;obtain ⟨o,ah,a5,e,hd,_⟩:=T.g;rw [z,e] at mS;cases mS;rw [hd] at qF;cases qF
end L2
namespace L3
open PySem PySem.Spec L2
inductive D where
 | bJ | aU (b:Bool) | int (i:Int) | str (x:Str) | ref (a:Addr) | ty (n:String) | tup (ds:List D) | dY (ds:List D)
def jC(K:bl)(H:ay)(a:Addr)(xs:List V):Prop:=
 (∃ o,H a=some (.fG o (.lst xs)))\/∃(o:Obj)(aM:Array Value)(n:Nat),K.lookup a=some o/\o.cls=.type "list"/\o.dict=none/\o.data=.seq aM n/\aM.size<=sizeLine/\Vals xs aM.toList
theorem jC.fA{K:bl}{H:ay}{a:Addr}{xs:List V}(h:jC K H a xs):d7 K H a xs:=by
 rcases h with h | h
 ·exact .inl (.inr h)
 ·exact .inr h
mutual
def db(K:bl)(H:ay):D->V->Prop
 | .bJ,v=>v=.bJ
 | .aU b,v=>v=.aU b
 | .int i,v=>v=.int i
 | .str x,v=>v=.str x
 | .ref a,v=>v=.ref a
 | .ty n,v=>v=.ty n
 | .tup ds,v=>∃ a ai,v=.ref a/\dq K H a ai/\b2 K H ds ai
 | .dY ds,v=>∃ a ai,v=.ref a/\jC K H a ai/\b2 K H ds ai
def b2(K:bl)(H:ay):List D->List V->Prop
 | [],ai=>ai=[]
 | d::ds,ai=>∃ v r,ai=v::r/\db K H d v/\b2 K H ds r
end
structure i0(K:bl)(H aj:ay):Prop where
 dy:∀ a xs,dq K H a xs->dq K aj a xs
 fr:∀ a xs,jC K H a xs->jC K aj a xs
 dm:∀ a o,H a=some (fo o)->aj a=some (fo o)
section
variable{K:bl}{H aj:ay}
mutual
theorem db.mono(h:i0 K H aj):∀{d:D}{v:V},db K H d v->db K aj d v
 | .bJ,_,r=>r
 | .aU _,_,r=>r
 | .int _,_,r=>r
 | .str _,_,r=>r
 | .ref _,_,r=>r
 | .ty _,_,r=>r
 | .tup _,_,⟨a,ai,e,q,l⟩=>⟨a,ai,e,h.dy a ai q,b2.mono h l⟩
 | .dY _,_,⟨a,ai,e,q,l⟩=>⟨a,ai,e,h.fr a ai q,b2.mono h l⟩
theorem b2.mono(h:i0 K H aj):∀{ds:List D}{ai:List V},b2 K H ds ai->b2 K aj ds ai
 | [],_,r=>r
 | _::_,_,⟨v,r,e,q,l⟩=>⟨v,r,e,db.mono h q,b2.mono h l⟩
end
theorem b2.len:∀{ds:List D}{ai:List V},b2 K H ds ai->ai.length=ds.length
 | [],_,r=>by cases r;rfl
 | _::_,_,⟨v,r,e,_,l⟩=>by subst e;simp [l.len]
theorem b2.append:∀{ds ah:List D}{ai us:List V},b2 K H ds ai->b2 K H ah us->b2 K H (ds++ah) (ai++us)
 | [],_,_,_,r,s=>by cases r;exact s
 | _::_,_,_,_,⟨v,r,e,q,l⟩,s=>by subst e;exact ⟨v,_,rfl,q,l.append s⟩
theorem b2.one{d:D}{v:V}(h:db K H d v):b2 K H [d] [v]:=⟨v,[],rfl,h,rfl⟩
theorem b2.get:∀{ds:List D}{ai:List V}{i:Nat}{d:D},b2 K H ds ai->ds[i]?=some d->∃ v,ai[i]?=some v/\db K H d v
 | [],_,_,_,_,e=>by simp at e
 | _::_,_,0,_,⟨v,r,cD,q,l⟩,e=>by simp at e;subst e cD;exact ⟨v,rfl,q⟩
 | _::_,_,i+1,d,⟨v,r,cD,q,l⟩,e=>by
  subst cD;obtain ⟨u,ak,aq⟩:=b2.get (i:=i) (d:=d) l (by simpa using e);exact ⟨u,by simpa using ak,aq⟩
theorem b2.take:∀{ds:List D}{ai:List V}(n:Nat),b2 K H ds ai->b2 K H (ds.take n) (ai.take n)
 | _,_,0,_=>by simp [b2]
 | [],_,n+1,r=>by cases r;simp [b2]
 | _::_,_,n+1,⟨v,r,e,q,l⟩=>by subst e;exact ⟨v,_,rfl,q,l.take n⟩
theorem b2.drop:∀{ds:List D}{ai:List V}(n:Nat),b2 K H ds ai->b2 K H (ds.drop n) (ai.drop n)
 | _,_,0,r=>r
 | [],_,n+1,r=>by cases r;simp [b2]
 | _::_,_,n+1,⟨v,r,e,q,l⟩=>by subst e;exact l.drop n
theorem b2.reverse:∀{ds:List D}{ai:List V},b2 K H ds ai->b2 K H ds.reverse ai.reverse
 | [],_,r=>by cases r;simp [b2]
 | _::_,_,⟨v,r,e,q,l⟩=>by subst e;rw [rB,rB];exact l.reverse.append (.one q)
theorem b2.set{d:D}{v:V}(h:db K H d v):∀{ds:List D}{ai:List V}(i:Nat),b2 K H ds ai->b2 K H (ds.set i d) (ai.set i v)
 | [],_,_,r=>by cases r;simp [b2]
 | _::_,_,0,⟨u,r,e,q,l⟩=>by subst e;exact ⟨v,r,rfl,h,l⟩
 | _::_,_,i+1,⟨u,r,e,q,l⟩=>by subst e;exact ⟨u,_,rfl,q,l.set h i⟩
theorem b2.ints{ns:List Int}:∀{ai:List V},b2 K H (ns.map D.int) ai->ai=ns.map V.int:=by
 induction ns with
 | nil=>intro ai h;exact h
 | cons n ns aN=>rintro ai ⟨v,r,e,q,l⟩;subst e;rw [aN l,show v=V.int n from q];rfl
theorem b2.xC:∀(ns:List Int),b2 K H (ns.map D.int) (ns.map V.int)
 | []=>rfl
 | n::ns=>⟨_,_,rfl,rfl,b2.xC ns⟩
end
def cut{α:Type}(xs:List α)(lo ar:Option Int):List α:=(xs.drop (dD.cG xs.length 0 lo)).take (dD.cG xs.length xs.length ar - dD.cG xs.length 0 lo)
theorem b2.cut{K:bl}{H:ay}{ds:List D}{ai:List V}(h:b2 K H ds ai)(lo ar:Option Int):b2 K H (L3.cut ds lo ar) (kF ai lo ar):=by
 have e:=h.len;rw [L3.cut,kF,e];exact (h.drop _).take _
inductive eS where
 | lst (ds:List D)
 | ins (C:Addr) (bO:List (Str × D))
 | c4 (kvs:List (Key × D))
 | fU (kvs:List (List Key × D))
 | r8 (kvs:List (List Key × D))
 | tab (pos:Pos) (qual:Str) | made (env:Env) (name qual:Str) (st:bB) (fr:List Str) | lO (name qual:Str) (st:bB) (fr:List Str) (vals:List D)
abbrev aX:=Addr->Option eS
abbrev eb:=List (Option D)
def up(G:aX)(a:Addr)(o:eS):aX:=λ b=>if b=a then some o else G b
theorem bF{G:aX}{a:Addr}{o:eS}:up G a o a=some o:=by unfold up;rw [if_pos rfl]
theorem c7{G:aX}{a b:Addr}{o:eS}(h:b≠a):up G a o b=G b:=by unfold up;rw [if_neg h]
theorem hH{G:aX}{a:Addr}{o u:eS}:up (up G a o) a u=up G a u:=by funext b;unfold up;split<;>rfl
theorem G8{G:aX}{a b:Addr}{o u:eS}(h:a≠b):up (up G a o) b u=up (up G b u) a o:=by
 funext c;unfold up;split<;>split<;>simp_all
def ec{κ:Type}(K:bl)(H:ay)(bO:List (κ × D))(gs:List (κ × V)):Prop:=bO.map (·.1)=gs.map (·.1)/\b2 K H (bO.map (·.2)) (gs.map (·.2))
def lP(K:bl)(H:ay)(a:Addr):eS->Prop
 | .lst ds=>∃ ai,H a=some (.lst ai)/\b2 K H ds ai
 | .ins C bO=>∃ eM gs,H a=some (.ins C eM gs)/\ec K H bO gs
 | .c4 kvs=>∃ gs,H a=some (.c4 gs)/\ec K H kvs gs
 | .fU kvs=>∃ gs,H a=some (.fU gs)/\ec K H kvs gs
 | .r8 kvs=>∃ o gs,H a=some (.fG o (.fU gs))/\ec K H kvs gs
 | .tab pos qual=>Tab H a pos qual
 | .made env name qual st fr=>r2 env H a name qual st fr
 | .lO name qual st fr vals=>∃ cl cH,kf H a name qual st cl cH/\cl.map (·.1)=fr/\b2 K H vals cH
def ek(K:bl)(G:aX)(H:ay):Prop:=∀ a o,G a=some o->lP K H a o
theorem lP.some{K:bl}{H:ay}{a:Addr}{o:eS}(h:lP K H a o):∃ u,H a=.some u:=by
 cases o with
 | lst ds=>obtain ⟨_,e,_⟩:=h;exact ⟨_,e⟩
 | ins C bO=>obtain ⟨_,_,e,_⟩:=h;exact ⟨_,e⟩
 | c4 kvs=>obtain ⟨_,e,_⟩:=h;exact ⟨_,e⟩
 | fU kvs=>obtain ⟨_,e,_⟩:=h;exact ⟨_,e⟩
 | r8 kvs=>obtain ⟨_,_,e,_⟩:=h;exact ⟨_,e⟩
 | tab pos qual=>obtain ⟨_,e,_⟩:=h;exact ⟨_,e⟩
 | made env name qual st fr=>obtain ⟨_,_,_,_,_,_,_,e,_⟩:=h.fn;exact ⟨_,e⟩
 | lO name qual st fr vals=>obtain ⟨_,_,h,_⟩:=h;obtain ⟨_,_,_,_,_,_,_,e,_⟩:=h.fn;exact ⟨_,e⟩
theorem ek.none{K:bl}{G:aX}{H:ay}(h:ek K G H){a:Addr}(e:H a=.none):G a=.none:=by
 cases q:G a with
 | none=>rfl
 | some o=>obtain ⟨u,z⟩:=(h a o q).some;rw [e] at z;cases z
theorem lP.mono{K:bl}{H aj:ay}{a:Addr}{o:eS}(bT:i0 K H aj)(e:aj a=H a)(h:lP K H a o):lP K aj a o:=by
 cases o with
 | lst ds=>obtain ⟨ai,q,l⟩:=h;exact ⟨ai,by rw [e];exact q,l.mono bT⟩
 | ins C bO=>obtain ⟨eM,gs,q,l⟩:=h;exact ⟨eM,gs,by rw [e];exact q,l.1,l.2.mono bT⟩
 | c4 kvs=>obtain ⟨gs,q,l⟩:=h;exact ⟨gs,by rw [e];exact q,l.1,l.2.mono bT⟩
 | fU kvs=>obtain ⟨gs,q,l⟩:=h;exact ⟨gs,by rw [e];exact q,l.1,l.2.mono bT⟩
 | r8 kvs=>obtain ⟨o,gs,q,l⟩:=h;exact ⟨o,gs,by rw [e];exact q,l.1,l.2.mono bT⟩
 | tab pos qual=>
  obtain ⟨ps,ak,aq,aT⟩:=h;refine ⟨ps,by rw [e];exact ak,aq,?_⟩;rcases aT with aT | ⟨c,o,ai,t,aT,cb,dM⟩
  ·exact .inl aT
  ·exact .inr ⟨c,o,ai,t,aT,bT.dm _ _ cb,dM⟩
 | made env name qual st fr=>
  obtain ⟨b6,dA,doc,pm,bE,ct,cn,ak,c,o,ai,t,aq,aT,cb⟩:=h.fn;exact ⟨b6,dA,doc,pm,bE,ct,cn,bT.dm _ _ ak,c,o,ai,t,aq,bT.dm _ _ aT,cb⟩
 | lO name qual st fr vals=>
  obtain ⟨cl,cH,C,ak,aq⟩:=h;obtain ⟨b6,dA,doc,pm,bE,ct,cn,aT,c,o,ai,t,cb,dM,j_⟩:=C.fn;exact ⟨cl,cH,⟨⟨b6,dA,doc,pm,bE,ct,cn,bT.dm _ _ aT,c,o,ai,t,cb,bT.dm _ _ dM,j_⟩,λ i x c ar=>let ⟨v,u,o,cB,b8,dg,gx⟩:=C.cells i x c ar;⟨v,u,o,cB,b8,bT.dm _ _ dg,gx⟩,C.len,C.Aa⟩,ak,aq.mono bT⟩
structure Go(K:bl)(G:aX)(H:ay)(ap:aX)(aj:ay):Prop where
 tup:i0 K H aj
 iw:∀ a o,H a=some o->∃ cT,aj a=some cT
 same:∀ a o,H a=some o->G a=none->aj a=some o
 new:∀ a o,H a=some o->G a=none->ap a=none
 b3:ek K ap aj
section
variable{K:bl}{G aA bc ap:aX}{H H1 aS aj:ay}
theorem Go.refl(v:ek K G H):Go K G H G H:=⟨⟨λ _ _ h=>h,λ _ _ h=>h,λ _ _ h=>h⟩,λ _ o e=>⟨o,e⟩,λ _ _ e _=>e,λ _ _ _ e=>e,v⟩
theorem Go.trans(a:Go K G H aA H1)(b:Go K aA H1 bc aS):Go K G H bc aS:=
 ⟨⟨λ x xs h=>b.tup.dy x xs (a.tup.dy x xs h),λ x xs h=>b.tup.fr x xs (a.tup.fr x xs h),λ x o h=>b.tup.dm x o (a.tup.dm x o h)⟩,λ x o e=>let ⟨cT,cD⟩:=a.iw x o e;b.iw x cT cD,λ x o e n=>b.same x o (a.same x o e n) (a.new x o e n),
  λ x o e n=>b.new x o (a.same x o e n) (a.new x o e n),b.b3⟩
def Sub(G ap:aX):Prop:=∀ a o,G a=some o->ap a=some o
theorem Sub.refl(G:aX):Sub G G:=λ _ _ e=>e
theorem Sub.trans{G aA bc:aX}(a:Sub G aA)(b:Sub aA bc):Sub G bc:=λ x o e=>b x o (a x o e)
theorem Sub.none{G ap:aX}(h:Sub G ap){a:Addr}(e:ap a=.none):G a=.none:=by
 cases q:G a with
 | none=>rfl
 | some o=>rw [h a o q] at e;cases e
theorem ek.sub(v:ek K ap H)(h:Sub G ap):ek K G H:=λ a o e=>v a o (h a o e)
theorem Go.sub(g:Go K G H aA H1)(h:Sub bc aA):Go K G H bc H1:=⟨g.tup,g.iw,g.same,λ x o e n=>h.none (g.new x o e n),g.b3.sub h⟩
theorem Rv{a p:Addr}{o:fF}{xs:List V}(az:∀ ys,¬ jl H p (.tup ys))(h:dq K H a xs):dq K (upd H p o) a xs:=by
 rcases h with h | h
 ·have ne:a≠p:=by rintro rfl;exact az _ h
  refine .inl ?_;unfold jl at h ⊢;rw [cV ne];exact h
 ·exact .inr h
theorem Rw{p:Addr}{ys:List V}(h:H p=none):¬ jl H p (.tup ys):=by
 rintro (e | ⟨o,e⟩)<;>rw [h] at e<;>cases e
theorem Rx{p:Addr}{xs ys:List V}(h:H p=some (.lst xs)):¬ jl H p (.tup ys):=by
 rintro (e | ⟨o,e⟩)<;>rw [h] at e<;>cases e
theorem Am{p:Addr}{o:fF}(az:∀ ys,¬ jl H p (.tup ys))(aQ:∀ o ys,H p≠some (.fG o ys)):i0 K H (upd H p o) where
 dy:=λ _ _ q=>Rv az q
 fr:=λ a xs q=>by
  rcases q with ⟨z,q⟩ | q
  ·exact .inl ⟨z,by rw [cV (by rintro rfl;exact aQ _ _ q)];exact q⟩
  ·exact .inr q
 dm:=λ a u q=>by rw [cV (by rintro rfl;exact aQ _ _ q)];exact q
theorem pk{p:Addr}{o:fF}(h:H p=none):i0 K H (upd H p o):=Am (λ _=>Rw h) λ _ _ e=>by rw [h] at e;cases e
theorem mU{p:Addr}{o:fF}{xs:List V}(h:H p=some (.lst xs)):i0 K H (upd H p o):=Am (λ _=>Rx h) λ _ _ e=>by rw [h] at e;cases e
theorem Go.mO(v:ek K G H){p:Addr}{o:fF}(h:H p=none):Go K G H G (upd H p o) where
 tup:=pk h
 iw:=λ a u e=>⟨u,by rw [cV (hU e h)];exact e⟩
 same:=λ a u e _=>by rw [cV (hU e h)];exact e
 new:=λ _ _ _ e=>e
 b3:=λ a u e=>(v a u e).mono (pk h) (cV (by rintro rfl;obtain ⟨z,q⟩:=(v _ _ e).some;rw [h] at q;cases q))
theorem Go.qG(v:ek K G H){p:Addr}{ds:List D}{ai:List V}(h:H p=none)(r:b2 K H ds ai):Go K G H (up G p (.lst ds)) (upd H p (.lst ai)) where
 tup:=pk h
 iw:=λ a u e=>⟨u,by rw [cV (hU e h)];exact e⟩
 same:=λ a u e _=>by rw [cV (hU e h)];exact e
 new:=λ a u e n=>by rw [c7 (hU e h)];exact n
 b3:=λ a u e=>by
  by_cases c:a=p
  ·subst c;rw [bF] at e;cases e;exact ⟨ai,fi,r.mono (pk h)⟩
  ·rw [c7 c] at e;exact (v a u e).mono (pk h) (cV c)
theorem Go.uG(v:ek K G H){p:Addr}{G9 ds:List D}{ai:List V}(h:G p=some (.lst G9))(r:b2 K H ds ai):Go K G H (up G p (.lst ds)) (upd H p (.lst ai)):=by
 obtain ⟨us,az,_⟩:=v p _ h
 exact {
  tup:=mU az
  iw:=λ a u e=>by
   by_cases c:a=p
   ·subst c;exact ⟨_,fi⟩
   ·exact ⟨u,by rw [cV c];exact e⟩
  same:=λ a u e n=>by
   have c:a≠p:=by rintro rfl;rw [h] at n;cases n
   rw [cV c];exact e
  new:=λ a u e n=>by
   have c:a≠p:=by rintro rfl;rw [h] at n;cases n
   rw [c7 c];exact n
  b3:=λ a u e=>by
   by_cases c:a=p
   ·subst c;rw [bF] at e;cases e;exact ⟨ai,fi,r.mono (mU az)⟩
   ·rw [c7 c] at e
    exact (v a u e).mono (mU az) (cV c) }
theorem Go.grow(v:ek K G H)(h:lw H aj):Go K G H G aj:=by
 have bT:i0 K H aj:=⟨λ b xs q=>by
  rcases q with q | q
  ·rcases q with q | ⟨o,q⟩
   ·exact .inl (.inl (h _ _ q))
   ·exact .inl (.inr ⟨o,h _ _ q⟩)
  ·exact .inr q,λ b xs q=>by
  rcases q with ⟨o,q⟩ | q
  ·exact .inl ⟨o,h _ _ q⟩
  ·exact .inr q,λ b o q=>h _ _ q⟩
 exact ⟨bT,λ a o e=>⟨o,h a o e⟩,λ a o e _=>h a o e,λ _ _ _ e=>e,λ a u e=>by
  obtain ⟨z,q⟩:=(v a u e).some
  exact (v a u e).mono bT (by rw [q];exact h _ _ q)⟩
end
structure dG(K:bl)(ρ:eb)(G:aX)(σ:St)(H:ay):Prop where
 len:ρ.length=σ.length
 st:∀(i:Nat)(d:D),ρ[i]?=some (some d)->∃ v,σ[i]?=some (some v)/\db K H d v
 b3:ek K G H
theorem dG.go{K:bl}{ρ:eb}{G ap:aX}{σ:St}{H aj:ay}(b:dG K ρ G σ H)(g:Go K G H ap aj):dG K ρ ap σ aj:=
 ⟨b.len,λ i d e=>let ⟨v,ak,aq⟩:=b.st i d e;⟨v,ak,aq.mono g.tup⟩,g.b3⟩
theorem dG.set{K:bl}{ρ:eb}{G:aX}{σ:St}{H:ay}{d:D}{v:V}(b:dG K ρ G σ H)(h:db K H d v)(i:Nat):dG K (ρ.set i (some d)) G (σ.set i (some v)) H where
 len:=by simp [b.len]
 b3:=b.b3
 st:=λ j e he=>by
  by_cases c:j=i
  ·subst c;rw [List.getElem?_set] at he ⊢;have l:=b.len;simp only [if_true] at he ⊢;split at he
   ·next q=>rw [if_pos (by omega)];simp at he;subst he;exact ⟨v,rfl,h⟩
   ·cases he
  ·rw [wA (by omega)] at he ⊢;exact b.st j e he
def xD(ρ ρ':eb):Prop:=ρ.length=ρ'.length/\∀(i:Nat)(d:D),ρ[i]?=some (some d)->ρ'[i]?=some (some d)
theorem xD.refl(ρ:eb):xD ρ ρ:=⟨rfl,λ _ _ e=>e⟩
theorem dG.weak{K:bl}{ρ ρ':eb}{G ap:aX}{σ:St}{H:ay}(b:dG K ρ' ap σ H)(s:xD ρ ρ')(g:Sub G ap):dG K ρ G σ H:=
 ⟨s.1.trans b.len,λ i d e=>b.st i d (s.2 i d e),b.b3.sub g⟩
abbrev c8:=D->aX->Prop
abbrev cj:=eb->aX->c8->Prop
abbrev eW:=eb->aX->(Bool->aX->Prop)->Prop
abbrev fM:=eb->aX->(List D->aX->Prop)->Prop
abbrev uH:=eb->aX->(Option Int->aX->Prop)->Prop
structure An where
 nx:eb->aX->Prop
 rt:c8
 bk:eb->aX->Prop:=λ _ _=>False
 ct:eb->aX->Prop:=λ _ _=>False
abbrev gA:=An->eb->aX->Prop
abbrev Fin(K:bl)(G:aX)(H:ay)(au:c8)(Q:cK):Prop:=∀ d ap v aj,Go K G H ap aj->db K aj d v->au d ap->Q v aj
abbrev Ao(K:bl)(G:aX)(H:ay)(au:Bool->aX->Prop)(Q:Bool->ay->Prop):Prop:=∀ b ap aj,Go K G H ap aj->au b ap->Q b aj
abbrev Ry(K:bl)(G:aX)(H:ay)(au:Option Int->aX->Prop)(Q:Option Int->ay->Prop):Prop:=∀ b ap aj,Go K G H ap aj->au b ap->Q b aj
abbrev Rz(K:bl)(n:Nat)(G:aX)(H:ay)(au:List D->aX->Prop)(Q:List V->ay->Prop):Prop:=∀ ds ap ai aj,Go K G H ap aj->b2 K aj ds ai->ds.length=n->au ds ap->Q ai aj
structure bZ(X:bb)(e:bg)(t:cj):Prop where
 run:∃ bo:TE,cL X e bo/\∀ ρ G au σ H Q,dG X.K ρ G σ H->t ρ G au->Fin X.K G H au Q->bo σ H Q
structure AT(X:bb)(e:bg)(t:eW):Prop where
 run:∃ bo:TT,g5 X e bo/\∀ ρ G au σ H Q,dG X.K ρ G σ H->t ρ G au->Ao X.K G H au Q->bo σ H Q
structure fN(X:bb)(e:bg)(t:eW):Prop where
 run:∃ bo:TT,nV X e bo/\∀ ρ G au σ H Q,dG X.K ρ G σ H->t ρ G au->Ao X.K G H au Q->bo σ H Q
structure h7(X:bb)(ah:List bg)(t:fM):Prop where
 run:∃ bo:eD,jz X ah bo/\∀ ρ G au σ H Q,dG X.K ρ G σ H->t ρ G au->Rz X.K ah.length G H au Q->bo σ H Q
structure xE(X:bb)(e:Option bg)(t:uH):Prop where
 run:∃ bo:d3,ul X e bo/\∀ ρ G au σ H Q,dG X.K ρ G σ H->t ρ G au->Ry X.K G H au Q->bo σ H Q
structure uI(K:bl)(G:aX)(H:ay)(dR:An)(eT:Ends):Prop where
 nx:∀ ρ ap σ aj,Go K G H ap aj->dG K ρ ap σ aj->dR.nx ρ ap->eT.nx σ aj
 rt:Fin K G H dR.rt eT.rt
 bk:∀ ρ ap σ aj,Go K G H ap aj->dG K ρ ap σ aj->dR.bk ρ ap->eT.bk σ aj
 ct:∀ ρ ap σ aj,Go K G H ap aj->dG K ρ ap σ aj->dR.ct ρ ap->eT.ct σ aj
structure i1(X:bb)(st:bB)(t:gA):Prop where
 run:∃ bo:eV,kd X st bo/\∀ dR eT ρ G σ H,dG X.K ρ G σ H->t dR ρ G->uI X.K G H dR eT->bo eT σ H
structure lQ(X:bb)(st:List bB)(t:gA):Prop where
 run:∃ bo:eV,mL X st bo/\∀ dR eT ρ G σ H,dG X.K ρ G σ H->t dR ρ G->uI X.K G H dR eT->bo eT σ H
abbrev e8:=D->eb->aX->(eb->aX->Prop)->Prop
abbrev kI:=List D->eb->aX->(eb->aX->Prop)->Prop
abbrev Ap(K:bl)(G:aX)(H:ay)(au:eb->aX->Prop)(Q:St->ay->Prop):Prop:=∀ ρ ap σ aj,Go K G H ap aj->dG K ρ ap σ aj->au ρ ap->Q σ aj
structure iy(X:bb)(bp:bg)(t:e8):Prop where
 run:∃ bo:fe,iu X bp bo/\∀ d v ρ G au σ H Q,dG X.K ρ G σ H->db X.K H d v->t d ρ G au->Ap X.K G H au Q->bo v σ H Q
structure xF(X:bb)(RA:List bg)(t:kI):Prop where
 run:∃ bo:li,uk X RA bo/\∀ ds ai ρ G au σ H Q,dG X.K ρ G σ H->b2 X.K H ds ai->t ds ρ G au->Ap X.K G H au Q->bo ai σ H Q
abbrev xG:=D->aX->c8->Prop
abbrev jD:=D->D->aX->c8->Prop
abbrev r9:=List D->aX->c8->Prop
structure gS(X:bb)(f:Value->Value->Sem Value)(r:jD):Prop where
 run:∃ rc:ei,xk X f rc/\∀ x y eX iz G H au Q,ek X.K G H->db X.K H x eX->db X.K H y iz->r x y G au->Fin X.K G H au Q->rc eX iz H Q
structure G_(X:bb)(f:Value->Sem Value)(r:xG):Prop where
 run:∃ rc:V->ay->cK->Prop,Ge X f rc/\∀ x eX G H au Q,ek X.K G H->db X.K H x eX->r x G au->Fin X.K G H au Q->rc eX H Q
structure pl(X:bb)(f:Value)(r:r9):Prop where
 run:∃ rc:List V->ay->cK->Prop,zV X f rc/\∀ xs ai G H au Q,ek X.K G H->b2 X.K H xs ai->r xs G au->Fin X.K G H au Q->rc ai H Q
structure Ha(X:bb)(r:jD):Prop where
 run:∃ rc:ei,Gf X rc/\∀ x y eX iz G H au Q,ek X.K G H->db X.K H x eX->db X.K H y iz->r x y G au->Fin X.K G H au Q->rc eX iz H Q
structure Hb(X:bb)(r:D->Option Int->Option Int->aX->c8->Prop):Prop where
 run:∃ rc,Gg X rc/\∀ x eX lo ar G H au Q,ek X.K G H->db X.K H x eX->r x lo ar G au->Fin X.K G H au Q->rc eX lo ar H Q
theorem Fin.after{K:bl}{G aA:aX}{H H1:ay}{au:c8}{Q:cK}(F:Fin K G H au Q)(g:Go K G H aA H1):Fin K aA H1 au Q:=λ d ap v aj g' a q=>F d ap v aj (g.trans g') a q
theorem uI.after{K:bl}{G aA:aX}{H H1:ay}{dR:An}{eT:Ends}(F:uI K G H dR eT)(g:Go K G H aA H1):uI K aA H1 dR eT:=
 ⟨λ ρ ap σ aj g' b q=>F.nx ρ ap σ aj (g.trans g') b q,λ d ap v aj g' a q=>F.rt d ap v aj (g.trans g') a q,λ ρ ap σ aj g' b q=>F.bk ρ ap σ aj (g.trans g') b q,λ ρ ap σ aj g' b q=>F.ct ρ ap σ aj (g.trans g') b q⟩
section
variable{X:bb}{a b c e o i:bg}{ah:List bg}{bw bN aW to eQ:cj}{t:fM}{pos p apos fx:Pos}
abbrev qH(d:D):cj:=λ _ G Q=>Q d G
abbrev Hc(k:Nat):cj:=λ ρ G Q=>match ρ[k]? with
 | some (some d)=>Q d G
 | _=>False
theorem r_{v:V}{d:D}(h:cL X e (j0 v))(r:∀ H,db X.K H d v):bZ X e (qH d):=⟨_,h,λ ρ G au σ H Q B q F=>F d G v H (.refl B.b3) (r H) q⟩
theorem av{n:Int} {j}:bZ X (.Constant (.int n) j pos) (qH (.int n)):=r_ O_ λ _=>rfl
theorem kJ{n:Bool} {j}:bZ X (.Constant (.bool n) j pos) (qH (.aU n)):=r_ Pa λ _=>rfl
theorem g6 {j}:bZ X (.Constant .none j pos) (qH .bJ):=r_ Pb λ _=>rfl
theorem bf{x:Str} {j}:bZ X (.Constant (.str x) j pos) (qH (.str x)):=r_ Pc λ _=>rfl
theorem ae(k:Nat){x:Str}(cw:X.N[k]?=some x:=by rfl)(bC:ld X.env.scope x:=by first | exact Or.inl rfl | exact Or.inr (Or.inl rfl) | exact Or.inr (Or.inr rfl))(hd:(x==("__debug__" : Str))=false:=by decide)
 (e3:(x==("__classdict__" : Str))=false:=by decide):bZ X (.Name x pos) (Hc k):=⟨_,um k cw bC hd e3,λ ρ G au σ H Q B q F=>by
 unfold Hc at q;split at q
 ·next d h=>
  obtain ⟨v,ak,aq⟩:=B.st k d h;exact ⟨v,ak,F d G v H (.refl B.b3) aq q⟩
 ·exact q.elim⟩
theorem n1{x:Str}{n:String}(aZ:di X x)(hm:X.mg x=none)(bC:kv x=some (.type n))(bt:x≠"__name__":=by decide)(hd:(x==("__debug__" : Str))=false:=by decide):bZ X (.Name x pos) (qH (.ty n)):=
 r_ (Pd (v:=.ty n) aZ hm bC rfl bt hd) λ _=>rfl
theorem xH{x:Str}{v:V}{u:Value}{d:D}(aZ:di X x)(hm:X.mg x=some u)(r:RelV v u)(aD:∀ H,db X.K H d v)(hd:(x==("__debug__" : Str))=false:=by decide):bZ X (.Name x pos) (qH d):=r_ (Pe aZ hm r hd) aD
abbrev RB:fM:=λ _ G Q=>Q [] G
abbrev RC(bw:cj)(eE:fM):fM:=λ ρ G Q=>bw ρ G λ x aA=>eE ρ aA λ xs bc=>Q (x::xs) bc
theorem aw:h7 X [] RB:=⟨_,Pf,λ ρ G au σ H Q B q F=>F [] G [] H (.refl B.b3) rfl rfl q⟩
theorem af(aD:bZ X e aW)(am:h7 X ah t)(ax:dw e=true:=by rfl):h7 X (e::ah) (RC aW t):=by
 obtain ⟨ca,cM,cN⟩:=aD.run;obtain ⟨cr,Aq,dL⟩:=am.run;refine ⟨_,vEq cM Aq ax,λ ρ G au σ H Q B q F=>?_⟩;refine cN ρ G _ σ H _ B q λ x aA v H1 g1 a_ aH=>dL ρ aA _ σ H1 _ (B.go g1) aH λ xs bc ai aS g2 RD aQ bI=>?_;exact F (x::xs) bc (v::ai) aS (g1.trans g2) ⟨v,ai,rfl,a_.mono g2.tup,RD⟩ (by simp [aQ]) bI
abbrev RE(t:fM):cj:=λ ρ G Q=>t ρ G λ ds aA=>Q (.tup ds) aA
abbrev RF(t:fM):cj:=λ ρ G Q=>t ρ G λ ds aA=>∀ p,aA p=none->Q (.ref p) (up aA p (.lst ds))
theorem Ar{n:Nat}(h:wI n 1000=true):n<=sizeLine:=by
 have:=Nat.le_of_ble_eq_true h;rw [jd];omega
theorem bP {a7} (h:h7 X ah t) (aQ:wI ah.length 1000=true:=by rfl):bZ X (.Tuple ah a7 pos) (RE t):=by
 obtain ⟨ca,cM,cN⟩:=h.run;refine ⟨_,Pg cM,λ ρ G au σ H Q B q F=>cN ρ G _ σ H _ B q λ ds aA ai H1 g1 al bt aH=>⟨by rw [al.len,bt];exact Ar aQ,λ p az=>?_⟩⟩;have g2:=Go.mO (o:=.tup ai) g1.b3 az;exact F (.tup ds) aA _ _ (g1.trans g2) ⟨p,ai,rfl,.of fi,al.mono g2.tup⟩ aH
theorem hI(h:h7 X ah t)(aQ:wI ah.length 1000=true:=by rfl):bZ X (.List ah pos) (RF t):=by
 obtain ⟨ca,cM,cN⟩:=h.run;refine ⟨_,Gi cM,λ ρ G au σ H Q B q F=>cN ρ G _ σ H _ B q λ ds aA ai H1 g1 al bt aH=>⟨by rw [al.len,bt];exact Ar aQ,λ p az=>?_⟩⟩;exact F (.ref p) _ _ _ (g1.trans (Go.qG g1.b3 az al)) rfl (aH p (g1.b3.none az))
def As(ds:List D):Int->Option D
 | .ofNat k=>ds[k]?
 | .negSucc k=>gi ds (.negSucc k)
theorem At(ds:List D)(i:Int):As ds i=gi ds i:=by
 cases i with
 | negSucc k=>rfl
 | ofNat k=>
  show ds[k]?=gi ds (k:Int);by_cases h:k < ds.length
  ·rw [gb h];exact (lp (gb h)).symm
  ·rw [k6 (by omega)];unfold gi mF;rw [if_pos (by omega),if_neg (by omega)];rfl
def n2(ds:List D)(i:Int)(G:aX)(Q:c8):Prop:=match As ds i with
 | some d=>Q d G
 | none=>False
theorem Au{ds:List D}{i:Int}{G:aX}{Q:c8}{d:D}(h:gi ds i=some d)(q:Q d G):n2 ds i G Q:=by unfold n2;rw [At,h];exact q
@[irreducible] def gB(G:aX)(l:Addr)(k:List D->Prop):Prop:=match G l with
 | some (.lst ds)=>k ds
 | _=>False
@[irreducible] def kK(G:aX)(l:Addr)(k:List D->Prop):Prop:=match G l with
 | some (.lst ds)=>k ds
 | _=>False
theorem cY{G:aX}{l:Addr}{k:List D->Prop}{ds:List D}(h:G l=some (.lst ds))(q:k ds):gB G l k:=by unfold gB;rw [h];exact q
theorem ez{G:aX}{l:Addr}{k:List D->Prop}{ds:List D}(h:G l=some (.lst ds))(q:k ds):kK G l k:=by unfold kK;rw [h];exact q
theorem hJ{K:bl}{G:aX}{H:ay}{l:Addr}{k:List D->Prop}(v:ek K G H)(h:gB G l k):∃ ds ai,k ds/\d7 K H l ai/\b2 K H ds ai:=by
 unfold gB at h;split at h
 ·next ds e=>obtain ⟨ai,z,r⟩:=v _ _ e;exact ⟨ds,ai,h,.of z,r⟩
 ·exact h.elim
theorem pp{K:bl}{G:aX}{H:ay}{l:Addr}{k:List D->Prop}(v:ek K G H)(h:kK G l k):∃ ds ai,k ds/\G l=some (.lst ds)/\H l=some (.lst ai)/\b2 K H ds ai:=by
 unfold kK at h;split at h
 ·next ds e=>obtain ⟨ai,z,r⟩:=v _ _ e;exact ⟨ds,ai,h,e,z,r⟩
 ·exact h.elim
abbrev xI(r:jD)(bw bN:cj):cj:=λ ρ G Q=>bw ρ G λ x aA=>bN ρ aA λ y bc=>r x y bc Q
abbrev RG(r:xG)(bw:cj):cj:=λ ρ G Q=>bw ρ G λ x aA=>r x aA Q
theorem bH{op:nk}{r:jD}(a4:gS X (gH op) r)(aD:bZ X a bw)(ag:bZ X b bN):bZ X (.BinOp a op b pos) (xI r bw bN):=by
 obtain ⟨ca,cM,cN⟩:=aD.run;obtain ⟨jB,fO,fP⟩:=ag.run;obtain ⟨co,hq,gN⟩:=a4.run;refine ⟨_,Ph hq cM fO,λ ρ G au σ H Q B q F=>?_⟩;exact cN ρ G _ σ H _ B q λ x aA v H1 g1 a_ aH=>fP ρ aA _ σ H1 _ (B.go g1) aH λ y bc u aS g2 bq bI=>gN x y v u bc aS au Q g2.b3 (a_.mono g2.tup) bq bI (F.after (g1.trans g2))
theorem fg{op:oD}{r:jD}(a4:gS X (eO op) r)(aD:bZ X a bw)(ag:bZ X b bN)(hm:oz op b=false):bZ X (.Compare a [op] [b] pos) (xI r bw bN):=by
 obtain ⟨ca,cM,cN⟩:=aD.run;obtain ⟨jB,fO,fP⟩:=ag.run;obtain ⟨co,hq,gN⟩:=a4.run;refine ⟨_,Pk hq cM fO hm,λ ρ G au σ H Q B q F=>?_⟩;exact cN ρ G _ σ H _ B q λ x aA v H1 g1 a_ aH=>fP ρ aA _ σ H1 _ (B.go g1) aH λ y bc u aS g2 bq bI=>gN x y v u bc aS au Q g2.b3 (a_.mono g2.tup) bq bI (F.after (g1.trans g2))
theorem xJ{op:UnaryOp}{r:xG}(a4:G_ X (ti op) r)(aD:bZ X a bw):bZ X (.UnaryOp op a pos) (RG r bw):=by
 obtain ⟨ca,cM,cN⟩:=aD.run;obtain ⟨co,hq,gN⟩:=a4.run;refine ⟨_,Pi hq cM,λ ρ G au σ H Q B q F=>?_⟩;exact cN ρ G _ σ H _ B q λ x aA v H1 g1 a_ aH=>gN x v aA H1 au Q g1.b3 a_ aH (F.after g1)
theorem a8{r:jD}(am:Ha X r)(aD:bZ X a bw)(ag:bZ X b bN)(ax:w7 b):bZ X (.Subscript a b pos) (xI r bw bN):=by
 obtain ⟨ca,cM,cN⟩:=aD.run;obtain ⟨jB,fO,fP⟩:=ag.run;obtain ⟨co,hq,gN⟩:=am.run;refine ⟨_,Gj hq cM fO ax,λ ρ G au σ H Q B q F=>?_⟩;exact cN ρ G _ σ H _ B q λ x aA v H1 g1 a_ aH=>fP ρ aA _ σ H1 _ (B.go g1) aH λ y bc u aS g2 bq bI=>gN x y v u bc aS au Q g2.b3 (a_.mono g2.tup) bq bI (F.after (g1.trans g2))
def cA(c:Bool)(A B:Prop):Prop:=(c=true->A)/\(c=false->B)
theorem cA.yes{c:Bool}{A B:Prop}(h:c=true)(q:A):cA c A B:=⟨λ _=>q,λ z=>absurd (h.symm.trans z) (by decide)⟩
theorem cA.no{c:Bool}{A B:Prop}(h:c=false)(q:B):cA c A B:=⟨λ z=>absurd (h.symm.trans z) (by decide),λ _=>q⟩
abbrev sa(x:D)(k:Bool->Prop):Prop:=match x with
 | .aU c=>k c
 | _=>False
theorem xK{K:bl}{H:ay}{x:D}{v:V}{k:Bool->Prop}(h:sa x k)(r:db K H x v):∃ c,v=.aU c/\x=.aU c/\k c:=by
 unfold sa at h;split at h
 ·exact ⟨_,r,rfl,h⟩
 ·exact h.elim
abbrev RH(bw bN:cj):cj:=λ ρ G Q=>bw ρ G λ x aA=>sa x λ c=>cA c (bN ρ aA Q) (Q (.aU false) aA)
abbrev RI(bw bN:cj):cj:=λ ρ G Q=>bw ρ G λ x aA=>sa x λ c=>cA c (Q (.aU true) aA) (bN ρ aA Q)
abbrev RJ(bw:cj):cj:=λ ρ G Q=>bw ρ G λ x aA=>sa x λ c=>Q (.aU (!c)) aA
theorem lR {op} (h:bZ X a bw):bZ X (.BoolOp op [a] pos) bw:=by
 obtain ⟨ca,cM,cN⟩:=h.run;exact ⟨_,Pl cM,cN⟩
theorem lS{rest:List bg}(aD:bZ X a bw)(ag:bZ X (.BoolOp .And (b::rest) pos) bN):bZ X (.BoolOp .And (a::b::rest) pos) (RH bw bN):=by
 obtain ⟨ca,cM,cN⟩:=aD.run;obtain ⟨jB,fO,fP⟩:=ag.run;refine ⟨_,Pm cM fO,λ ρ G au σ H Q B q F=>cN ρ G _ σ H _ B q λ x aA v H1 g1 a_ aH=>?_⟩;obtain ⟨c,aP,aL,bI⟩:=xK aH a_;refine ⟨c,aP,?_⟩
 cases c with
 | true=>exact fP ρ aA _ σ H1 _ (B.go g1) (bI.1 rfl) (F.after g1)
 | false=>exact F (.aU false) _ _ _ g1 rfl (bI.2 rfl)
theorem RK{rest:List bg}(aD:bZ X a bw)(ag:bZ X (.BoolOp .Or (b::rest) pos) bN):bZ X (.BoolOp .Or (a::b::rest) pos) (RI bw bN):=by
 obtain ⟨ca,cM,cN⟩:=aD.run;obtain ⟨jB,fO,fP⟩:=ag.run;refine ⟨_,Pn cM fO,λ ρ G au σ H Q B q F=>cN ρ G _ σ H _ B q λ x aA v H1 g1 a_ aH=>?_⟩;obtain ⟨c,aP,aL,bI⟩:=xK aH a_;refine ⟨c,aP,?_⟩
 cases c with
 | false=>exact fP ρ aA _ σ H1 _ (B.go g1) (bI.2 rfl) (F.after g1)
 | true=>exact F (.aU true) _ _ _ g1 rfl (bI.1 rfl)
theorem RL(aD:bZ X a bw):bZ X (.UnaryOp .Not a pos) (RJ bw):=by
 obtain ⟨ca,cM,cN⟩:=aD.run;refine ⟨_,Pj cM,λ ρ G au σ H Q B q F=>cN ρ G _ σ H _ B q λ x aA v H1 g1 a_ aH=>?_⟩;obtain ⟨c,aP,aL,bI⟩:=xK aH a_;exact ⟨c,aP,F (.aU (!c)) _ _ _ g1 rfl bI⟩
abbrev RM(bo:eW)(bw bN:cj):cj:=λ ρ G Q=>bo ρ G λ c aA=>cA c (bw ρ aA Q) (bN ρ aA Q)
theorem n3{bo:eW}(aE:AT X c bo)(aD:bZ X a bw)(ag:bZ X b bN):bZ X (.IfExp c a b pos) (RM bo bw bN):=by
 obtain ⟨n4,n5,rc⟩:=aE.run;obtain ⟨ca,cM,cN⟩:=aD.run;obtain ⟨jB,fO,fP⟩:=ag.run;refine ⟨_,Po n5 cM fO,λ ρ G au σ H Q B q F=>rc ρ G _ σ H _ B q λ c aA H1 g1 aH=>?_⟩
 cases c with
 | true=>exact cN ρ aA _ σ H1 _ (B.go g1) (aH.1 rfl) (F.after g1)
 | false=>exact fP ρ aA _ σ H1 _ (B.go g1) (aH.2 rfl) (F.after g1)
abbrev RN(t:cj):eW:=λ ρ G Q=>t ρ G λ x aA=>sa x λ c=>Q c aA
theorem bR{op:oD}{r:jD}(a4:gS X (eO op) r)(aD:bZ X a bw)(ag:bZ X b bN)(hm:oz op b=false):AT X (.Compare a [op] [b] pos) (RN (xI r bw bN)):=by
 obtain ⟨ca,cM,cN⟩:=aD.run;obtain ⟨jB,fO,fP⟩:=ag.run;obtain ⟨co,hq,gN⟩:=a4.run;refine ⟨_,Px hq cM fO hm,λ ρ G au σ H Q B q F=>?_⟩;refine cN ρ G _ σ H _ B q λ x aA v H1 g1 a_ aH=>fP ρ aA _ σ H1 _ (B.go g1) aH λ y bc u aS g2 bq bI=>gN x y v u bc aS _ _ g2.b3 (a_.mono g2.tup) bq bI λ z cQ w dX g3 uJ eh=>?_;obtain ⟨c,aP,aL,kL⟩:=xK eh uJ;exact ⟨c,aP,F c cQ dX ((g1.trans g2).trans g3) kL⟩
abbrev RO(bo:eW):eW:=λ ρ G Q=>bo ρ G λ c aA=>Q (!c) aA
abbrev RP(bo e5:eW):eW:=λ ρ G Q=>bo ρ G λ c aA=>cA c (e5 ρ aA Q) (Q false aA)
abbrev RQ(bo e5:eW):eW:=λ ρ G Q=>bo ρ G λ c aA=>cA c (Q true aA) (e5 ρ aA Q)
theorem pq{bo:eW}(aD:AT X a bo):AT X (.UnaryOp .Not a pos) (RO bo):=by
 obtain ⟨ca,cM,cN⟩:=aD.run;exact ⟨_,Py cM,λ ρ G au σ H Q B q F=>cN ρ G _ σ H _ B q λ c aA H1 g1 aH=>F _ _ _ g1 aH⟩
theorem sb{bo:eW}(aD:AT X a bo):fN X (.BoolOp .And [a] pos) bo:=by
 obtain ⟨ca,cM,cN⟩:=aD.run;exact ⟨_,PA cM,cN⟩
theorem lT{bo:eW}(aD:AT X a bo):fN X (.BoolOp .Or [a] pos) bo:=by
 obtain ⟨ca,cM,cN⟩:=aD.run;exact ⟨_,PB cM,cN⟩
theorem sd{bo e5:eW}{rest:List bg}(aD:AT X a bo)(ag:fN X (.BoolOp .And (b::rest) pos) e5):fN X (.BoolOp .And (a::b::rest) pos) (RP bo e5):=by
 obtain ⟨ca,cM,cN⟩:=aD.run;obtain ⟨jB,fO,fP⟩:=ag.run;refine ⟨_,PC cM fO,λ ρ G au σ H Q B q F=>cN ρ G _ σ H _ B q λ c aA H1 g1 aH=>?_⟩
 cases c with
 | true=>exact fP ρ aA _ σ H1 _ (B.go g1) (aH.1 rfl) λ c ap aj g'=>F c ap aj (g1.trans g')
 | false=>exact F _ _ _ g1 (aH.2 rfl)
theorem kM{bo e5:eW}{rest:List bg}(aD:AT X a bo)(ag:fN X (.BoolOp .Or (b::rest) pos) e5):fN X (.BoolOp .Or (a::b::rest) pos) (RQ bo e5):=by
 obtain ⟨ca,cM,cN⟩:=aD.run;obtain ⟨jB,fO,fP⟩:=ag.run;refine ⟨_,PD cM fO,λ ρ G au σ H Q B q F=>cN ρ G _ σ H _ B q λ c aA H1 g1 aH=>?_⟩
 cases c with
 | false=>exact fP ρ aA _ σ H1 _ (B.go g1) (aH.2 rfl) λ c ap aj g'=>F c ap aj (g1.trans g')
 | true=>exact F _ _ _ g1 (aH.1 rfl)
theorem fN.at{bo:eW}(h:fN X e bo):AT X e bo:=by
 obtain ⟨ca,cM,cN⟩:=h.run;exact ⟨_,cM.pt,cN⟩
def Hd(x:D)(G:aX)(k:Bool->Prop):Prop:=match x with
 | .bJ=>k false
 | .aU b=>k b
 | .int i=>k (i !=0)
 | .str y=>y.length<=sizeLine/\k ((y.length:Int) !=0)
 | .tup ds=>k (!ds.isEmpty)
 | .ref p=>gB G p λ ds=>k (!ds.isEmpty)
 | _=>False
theorem b2.isEmpty{K:bl}{H:ay}{ds:List D}{ai:List V}(h:b2 K H ds ai):ai.isEmpty=ds.isEmpty:=by
 have:=h.len;cases ds<;>cases ai<;>simp_all
abbrev RR(t:cj):eW:=λ ρ G Q=>t ρ G λ x aA=>Hd x aA λ c=>Q c aA
theorem gC(aD:bZ X a bw)(he:∀ whole,nq a X.env whole=(do let v ← whole;oB a.pos;jf [v] (truthy v)):=by intro _;rfl):AT X a (RR bw):=by
 obtain ⟨ca,cM,cN⟩:=aD.run;refine ⟨_,Pz cM he,λ ρ G au σ H Q B q F=>cN ρ G _ σ H _ B q λ x aA v H1 g1 a_ aH=>?_⟩
 cases x with
 | bJ=>cases a_;exact ⟨_,rfl,F _ _ _ g1 aH⟩
 | aU b=>cases a_;exact ⟨_,rfl,F _ _ _ g1 aH⟩
 | int i=>cases a_;exact ⟨_,rfl,F _ _ _ g1 aH⟩
 | str y=>cases a_;exact ⟨_,⟨aH.1,rfl⟩,F _ _ _ g1 aH.2⟩
 | ref l=>
  cases a_;obtain ⟨ds,ai,k,s,r⟩:=hJ g1.b3 aH;exact ⟨_,.inl ⟨ai,s,rfl⟩,by rw [r.isEmpty];exact F _ _ _ g1 k⟩
 | tup ds=>
  obtain ⟨l,ai,rfl,s,r⟩:=a_;exact ⟨_,.inr (.inl ⟨ai,s,rfl⟩),by rw [r.isEmpty];exact F _ _ _ g1 aH⟩
 | ty n=>exact (show False from aH).elim
 | dY ds=>exact (show False from aH).elim
abbrev RS:uH:=λ _ G Q=>Q none G
abbrev RT(t:cj):uH:=λ ρ G Q=>t ρ G λ x aA=>match x with
 | .int i=>Q (some i) aA
 | _=>False
theorem kN:xE X none RS:=⟨_,Pp,λ ρ G au σ H Q B q F=>F none G H (.refl B.b3) q⟩
theorem kO(h:bZ X e aW):xE X (some e) (RT aW):=by
 obtain ⟨ca,cM,cN⟩:=h.run;refine ⟨_,Pq cM,λ ρ G au σ H Q B q F=>cN ρ G _ σ H _ B q λ x aA v H1 g1 a_ aH=>?_⟩;split at aH
 ·next i=>exact ⟨i,a_,F _ _ _ g1 aH⟩
 ·exact aH.elim
abbrev RU(r:D->Option Int->Option Int->aX->c8->Prop)(aW:cj)(eG kE:uH):cj:=λ ρ G Q=>aW ρ G λ x aA=>eG ρ aA λ l bc=>kE ρ bc λ u cQ=>r x l u cQ Q
theorem kP{r:D->Option Int->Option Int->aX->c8->Prop}{lo ar:Option bg}{eG kE:uH}{cE:Pos}(am:Hb X r)(he:bZ X e aW)(aQ:xE X lo eG)(a0:xE X ar kE):bZ X (.Subscript e (.Slice lo ar none cE) pos) (RU r aW eG kE):=by
 obtain ⟨ce,hr,re⟩:=he.run;obtain ⟨cl,RV,dZ⟩:=aQ.run;obtain ⟨ac2,RW,dP⟩:=a0.run;obtain ⟨cr,Aq,dL⟩:=am.run;refine ⟨_,Pr Aq hr RV RW,λ ρ G au σ H Q B q F=>re ρ G _ σ H _ B q λ x aA v H1 g1 a_ aH=>dZ ρ aA _ σ H1 _ (B.go g1) aH λ l bc aS g2 bI=>dP ρ bc _ σ aS _ ((B.go g1).go g2) bI λ u cQ dX g3 eh=>?_⟩;exact dL x v l u cQ dX au Q g3.b3 ((a_.mono g2.tup).mono g3.tup) eh (F.after ((g1.trans g2).trans g3))
abbrev RX:gA:=λ D ρ G=>D.nx ρ G
abbrev RY(t u:gA):gA:=λ D ρ G=>t { D with nx:=u D } ρ G
abbrev RZ(aW:cj):gA:=λ D ρ G=>aW ρ G λ _ aA=>D.nx ρ aA
abbrev R0(aW:cj):gA:=λ D ρ G=>aW ρ G D.rt
abbrev R1(c:eW)(t u:gA):gA:=λ D ρ G=>c ρ G λ b aA=>cA b (t D ρ aA) (u D ρ aA)
theorem cI:lQ X [] RX:=⟨_,PK,λ dR eT ρ G σ H B q F=>F.nx ρ G σ H (.refl B.b3) B q⟩
theorem aR{st:bB}{rest:List bB}{hh us:gA}(ak:i1 X st hh)(aq:lQ X rest us):lQ X (st::rest) (RY hh us):=by
 obtain ⟨dF,hp,bj⟩:=ak.run;obtain ⟨dE,qy,bK⟩:=aq.run;refine ⟨_,PL hp qy,λ dR eT ρ G σ H B q F=>bj _ _ ρ G σ H B q ⟨λ ρ' ap σ' aj g b q=>bK dR eT ρ' ap σ' aj b q (F.after g),F.rt,F.bk,F.ct⟩⟩
theorem bd{st:bB}{hh:gA}(ak:i1 X st hh):lQ X [st] hh:=by
 obtain ⟨dF,hp,bj⟩:=ak.run;exact ⟨_,PM hp,bj⟩
theorem iA(he:bZ X e aW)(ax:je e none pos.line X.env=pure false:=by rfl):i1 X (.Expr e pos) (RZ aW):=by
 obtain ⟨dF,hp,bj⟩:=he.run;exact ⟨_,PN hp ax,λ dR eT ρ G σ H B q F=>bj ρ G _ σ H _ B q λ d ap v aj g _ q=>F.nx ρ ap σ aj g (B.go g) q⟩
theorem bz(he:bZ X e aW):i1 X (.Return (some e) pos) (R0 aW):=by
 obtain ⟨dF,hp,bj⟩:=he.run;exact ⟨_,PO hp,λ dR eT ρ G σ H B q F=>bj ρ G _ σ H _ B q F.rt⟩
theorem cv{ss us:List bB}{bo:eW}{hh uo:gA}(aE:AT X c bo)(aD:lQ X ss hh)(ag:lQ X us uo):i1 X (.If c ss us pos) (R1 bo hh uo):=by
 obtain ⟨n4,n5,rc⟩:=aE.run;obtain ⟨ca,cM,cN⟩:=aD.run;obtain ⟨jB,fO,fP⟩:=ag.run;refine ⟨_,PP n5 cM fO,λ dR eT ρ G σ H B q F=>rc ρ G _ σ H _ B q λ c aA H1 g1 aH=>?_⟩
 cases c with
 | true=>exact cN dR eT ρ aA σ H1 (B.go g1) (aH.1 rfl) (F.after g1)
 | false=>exact fP dR eT ρ aA σ H1 (B.go g1) (aH.2 rfl) (F.after g1)
abbrev se(k:Nat):e8:=λ d ρ G Q=>Q (ρ.set k (some d)) G
abbrev Av:kI:=λ ds ρ G Q=>match ds with
 | []=>Q ρ G
 | _=>False
abbrev Aw(t:e8)(u:kI):kI:=λ ds ρ G Q=>match ds with
 | d::r=>t d ρ G λ ρ' ap=>u r ρ' ap Q
 | []=>False
abbrev He(t:kI):e8:=λ d ρ G Q=>match d with
 | .tup ds=>t ds ρ G Q
 | _=>False
theorem gD{k:Nat}{x:Str}(cw:X.N.Nodup)(ar:X.N[k]?=some x)(aF:Loc X.env.scope x)(hf:X.fn x=true\/X.env.scope.names.lookup x=some .local:=by first | exact .inl rfl | exact .inr rfl | assumption):iy X (.Name x pos) (se k):=
 ⟨_,PE cw ar aF hf,λ d v ρ G au σ H Q B a q F=>F _ G _ H (.refl B.b3) (B.set a k) q⟩
abbrev xL(aW:cj)(g:e8):gA:=λ D ρ G=>aW ρ G λ x aA=>g x ρ aA D.nx
theorem Hf{bp:bg}{g:e8}(he:bZ X e aW)(aZ:iy X bp g)(ax:y6 [bp] e pos.line X.env=pure false:=by rfl)(hw:y7 [bp] e X.env=pure none:=by rfl)(ak:(ie [bp] X.env).map (·.2)=[XV bp X.env]:=by rfl):i1 X (.Assign [bp] e pos) (xL aW g):=by
 obtain ⟨dF,hp,bj⟩:=he.run;obtain ⟨dE,qy,bK⟩:=aZ.run;exact ⟨_,PR hp qy ax hw ak,λ dR eT ρ G σ H B q F=>bj ρ G _ σ H _ B q λ d aA v H1 g1 a aH=>bK d v ρ aA _ σ H1 _ (B.go g1) a aH λ ρ' ap σ' aj g' b gc=>F.nx ρ' ap σ' aj (g1.trans g') b gc⟩
theorem bG{k:Nat}{x:Str}{pos':Pos}(cw:X.N.Nodup)(ar:X.N[k]?=some x)(aF:Loc X.env.scope x)(he:bZ X e aW)(ax:je e (some (.Name x pos')) pos.line X.env=pure false:=by rfl)(hf:X.fn x=true\/X.env.scope.names.lookup x=some .local:=by first | exact .inl rfl | exact .inr rfl | assumption) :
 i1 X (.Assign [.Name x pos'] e pos) (xL aW (se k)):=by
 obtain ⟨dF,hp,bj⟩:=he.run;exact ⟨_,PQ cw ar aF hp ax hf,λ dR eT ρ G σ H B q F=>bj ρ G _ σ H _ B q λ d aA v H1 g1 a aH=>F.nx _ aA _ H1 g1 ((B.go g1).set a k) aH⟩
theorem Ax:xF X [] Av:=⟨_,PF,λ ds ai ρ G au σ H Q B a q F=>by
 cases ds with
 | nil=>cases a;exact ⟨rfl,F ρ G σ H (.refl B.b3) B q⟩
 | cons d r=>exact (show False from q).elim⟩
theorem sf{bp:e8}{u:kI}(ak:iy X e bp)(aq:xF X ah u)(ax:(ie (e::ah) X.env).map (·.2)=XV e X.env::(ie ah X.env).map (·.2):=by rfl):xF X (e::ah) (Aw bp u):=by
 obtain ⟨dF,hp,bj⟩:=ak.run;obtain ⟨dE,qy,bK⟩:=aq.run;refine ⟨_,PG hp qy ax,λ ds ai ρ G au σ H Q B a q F=>?_⟩
 cases ds with
 | nil=>exact (show False from q).elim
 | cons d r=>
  obtain ⟨v,us,rfl,ad,R2⟩:=a;exact ⟨v,us,rfl,bj d v ρ G _ σ H _ B ad q λ ρ' ap σ' aj g b gc=>bK r us ρ' ap _ σ' aj _ b (R2.mono g.tup) gc λ ρ2 bc σ2 aS g2 gk bI=>F ρ2 bc σ2 aS (g.trans g2) gk bI⟩
theorem Ay{k n:Nat}{bp:kI}(aE:X.calm=true)(h:xF X ah bp)(aQ:ah.length=n:=by rfl)(bt:(ie ah X.env).length=n:=by rfl)(hC:(ie ah X.env).findIdx? (·.1)=none:=by rfl)
 (hlen:∀ ds ρ G Q,bp ds ρ G Q->ds.length=n:=by intro ds ρ G Q h;match ds,h with | [],h=>(first | rfl | exact (show False from h).elim) | [_],h=>(first | rfl | exact (show False from h).elim) | [_,_],h=>(first | rfl | exact (show False from h).elim) | [_,_,_],h=>(first | rfl | exact (show False from h).elim) | _::_::_::_::_,h=>exact (show False from h).elim):iy X (.Tuple ah k pos) (He bp):=by
 obtain ⟨dF,hp,bj⟩:=h.run;refine ⟨_,PH (n:=n) aE hp bt hC,λ d v ρ G au σ H Q B a q F=>?_⟩
 cases d with
 | tup ds=>
  obtain ⟨l,ai,rfl,s,r⟩:=a;exact ⟨l,ai,rfl,s,by rw [r.len];exact hlen _ _ _ _ q,bj ds ai ρ G au σ H Q B r q F⟩
 | _=>exact (show False from q).elim
end
section
variable{X:bb}
def Hg:jD:=λ x y G Q=>match x,y with
 | .int i,.int j=>Q (.int (i+j)) G
 | .str i,.str j=>i.length+j.length<=sizeLine/\Q (.str (i++j)) G
 | .tup xs,.tup ys=>xs.length+ys.length<=sizeLine/\Q (.tup (xs++ys)) G
 | .ref l,.ref m=>kK G l λ xs=>kK G m λ ys=>xs.length+ys.length<=sizeLine/\∀ p,G p=none->Q (.ref p) (up G p (.lst (xs++ys)))
 | _,_=>False
theorem dN:gS X (gH .Add) Hg:=by
 refine ⟨_,⟨M0.or (Nh.or (O4.or Oi))⟩,λ x y eX iz G H au Q v a_ bq r F=>?_⟩
 cases x with
 | int i=>
  cases y with
  | int j=>cases a_;cases bq;exact .inl ⟨i,j,rfl,rfl,F (.int (i+j)) G _ H (.refl v) rfl r⟩
  | _=>exact (show False from r).elim
 | str i=>
  cases y with
  | str j=>cases a_;cases bq;exact .inr (.inl ⟨i,j,rfl,rfl,r.1,F (.str (i++j)) G _ H (.refl v) rfl r.2⟩)
  | _=>exact (show False from r).elim
 | tup xs=>
  cases y with
  | tup ys=>
   obtain ⟨l,ai,rfl,s1,bj⟩:=a_;obtain ⟨m,us,rfl,s2,bK⟩:=bq;have cu:=bj.len;have bV:=bK.len;refine .inr (.inr (.inl ⟨l,m,ai,us,rfl,rfl,s1,s2,by rw [cu,bV];exact r.1,λ e=>?_,λ e aL=>?_,λ e aL p az=>?_⟩))
   ·subst e
    have cD:xs=[]:=by cases xs<;>simp_all
    subst cD;exact F (.tup ys) G _ H (.refl v) ⟨m,us,rfl,s2,bK⟩ (by simpa using r.2)
   ·subst aL
    have cD:ys=[]:=by cases ys<;>simp_all
    subst cD;exact F (.tup xs) G _ H (.refl v) ⟨l,ai,rfl,s1,bj⟩ (by simpa using r.2)
   ·have g:=Go.mO (o:=.tup (ai++us)) v az;exact F (.tup (xs++ys)) G _ _ g ⟨p,_,rfl,.of fi,(bj.append bK).mono g.tup⟩ r.2
  | _=>exact (show False from r).elim
 | ref l=>
  cases y with
  | ref m=>
   cases a_;cases bq;obtain ⟨xs,ai,d4,aP,ak,bj⟩:=pp v r;obtain ⟨ys,us,df,aL,aq,bK⟩:=pp v d4;have cu:=bj.len;have bV:=bK.len;exact .inr (.inr (.inr ⟨l,m,ai,us,rfl,rfl,ak,aq,by rw [cu,bV];exact df.1,λ p az=>F (.ref p) _ _ _ (Go.qG v az (bj.append bK)) rfl (df.2 p (v.none az))⟩))
  | _=>exact (show False from r).elim
 | _=>exact (show False from r).elim
def uK(C:Int->Int->Prop)(g:Int->Int->D):jD:=λ x y G Q=>match x,y with
 | .int i,.int j=>C i j/\Q (g i j) G
 | _,_=>False
def sg(g:Int->Int->D):jD:=λ x y G Q=>match x,y with
 | .int i,.int j=>Q (g i j) G
 | _,_=>False
theorem xM{f:Value->Value->Sem Value}{C:Int->Int->Prop}{g:Int->Int->Int}(h:d8 X f (rS C λ i j=>.int (g i j))):gS X f (uK C λ i j=>.int (g i j)):=by
 refine ⟨_,⟨h⟩,λ x y eX iz G H au Q v a_ bq r F=>?_⟩
 cases x with
 | int i=>
  cases y with
  | int j=>cases a_;cases bq;exact ⟨i,j,rfl,rfl,r.1,F (.int (g i j)) G _ H (.refl v) rfl r.2⟩
  | _=>exact (show False from r).elim
 | _=>exact (show False from r).elim
theorem R3{f:Value->Value->Sem Value}{g:Int->Int->Int}(h:d8 X f (nJ λ i j=>.int (g i j))):gS X f (sg λ i j=>.int (g i j)):=by
 refine ⟨_,⟨h⟩,λ x y eX iz G H au Q v a_ bq r F=>?_⟩
 cases x with
 | int i=>
  cases y with
  | int j=>cases a_;cases bq;exact ⟨i,j,rfl,rfl,F (.int (g i j)) G _ H (.refl v) rfl r⟩
  | _=>exact (show False from r).elim
 | _=>exact (show False from r).elim
theorem Az{f:Value->Value->Sem Value}{g:Int->Int->Bool}(h:d8 X f (nJ λ i j=>.aU (g i j))):gS X f (sg λ i j=>.aU (g i j)):=by
 refine ⟨_,⟨h⟩,λ x y eX iz G H au Q v a_ bq r F=>?_⟩
 cases x with
 | int i=>
  cases y with
  | int j=>cases a_;cases bq;exact ⟨i,j,rfl,rfl,F (.aU (g i j)) G _ H (.refl v) rfl r⟩
  | _=>exact (show False from r).elim
 | _=>exact (show False from r).elim
theorem dV:gS X (gH .Sub) (sg λ i j=>.int (i - j)):=R3 M1
theorem mV:gS X (gH .Mult) (uK tY λ i j=>.int (i * j)):=xM M2
theorem qI:gS X (gH .FloorDiv) (uK (λ _ j=>0 < j/\j < 2 ^ 64) λ i j=>.int (i / j)):=xM OB
theorem n6:gS X (gH .Mod) (uK (λ _ j=>0 < j) λ i j=>.int (i % j)):=xM M3
theorem R4:gS X (gH .Pow) (uK Fi λ i j=>.int (i ^ j.toNat)):=xM M4
theorem iB:gS X (eO .Lt) (sg λ i j=>.aU (decide (i < j))):=Az M7
theorem h8:gS X (eO .Gt) (sg λ i j=>.aU (decide (j < i))):=Az M8
theorem sh:gS X (eO .GtE) (sg λ i j=>.aU (decide (j<=i))):=Az M9
def R5:xG:=λ x G Q=>match x with
 | .int i=>Q (.int (-i)) G
 | _=>False
theorem xN:G_ X (ti .USub) R5:=by
 refine ⟨_,⟨M6⟩,λ x eX G H au Q v a_ r F=>?_⟩
 cases x with
 | int i=>cases a_;exact ⟨i,rfl,F (.int (-i)) G _ H (.refl v) rfl r⟩
 | _=>exact (show False from r).elim
def Hh:D->Bool
 | .bJ=>true
 | _=>false
def xO(neg:Bool):jD:=λ x y G Q=>match y with
 | .bJ=>Q (.aU (neg ^^ Hh x)) G
 | _=>False
theorem Hi{K:bl}{H:ay}{x:D}{v:V}(a:db K H x v):decide (v=.bJ)=Hh x:=by
 cases x with
 | tup ds=>obtain ⟨_,_,rfl,_⟩:=a;rfl
 | dY ds=>obtain ⟨_,_,rfl,_⟩:=a;rfl
 | _=>cases a;rfl
theorem si:gS X (eO .Is) (xO false):=by
 refine ⟨_,⟨Na⟩,λ x y eX iz G H au Q v a_ bq r F=>?_⟩
 cases y with
 | bJ=>cases bq;exact ⟨rfl,by rw [Hi a_];exact F (.aU _) G _ H (.refl v) rfl (by simpa [xO] using r)⟩
 | _=>exact (show False from r).elim
theorem uL:gS X (eO .IsNot) (xO true):=by
 refine ⟨_,⟨Nb⟩,λ x y eX iz G H au Q v a_ bq r F=>?_⟩
 cases y with
 | bJ=>cases bq;exact ⟨rfl,by rw [Hi a_];exact F (.aU _) G _ H (.refl v) rfl (by simpa [xO] using r)⟩
 | _=>exact (show False from r).elim
theorem xP{K:bl}{H:ay}{ds:List D}{ai:List V}{i:Int}{d:D}(r:b2 K H ds ai)(h:gi ds i=some d):∃ v,gi ai i=some v/\db K H d v:=by
 unfold gi at h ⊢;rw [r.len]
 cases e:mF ds.length i with
 | none=>rw [e] at h;cases h
 | some j=>
  rw [e] at h;exact r.get h
theorem xQ{ds:List D}{i:Int}{G:aX}{Q:c8}(h:n2 ds i G Q):∃ d,gi ds i=some d/\Q d G:=by
 unfold n2 at h;rw [At] at h;split at h
 ·next d e=>exact ⟨d,e,h⟩
 ·exact h.elim
def kQ:jD:=λ x y G Q=>match x,y with
 | .tup ds,.int i=>n2 ds i G Q
 | .ref l,.int i=>gB G l λ ds=>n2 ds i G Q
 | .dY ds,.int i=>n2 ds i G Q
 | .str z,.int i=>z.length<=sizeLine/\∃ c,gi z.cps.toList i=some c/\Q (.str ⟨#[c]⟩) G
 | _,_=>False
theorem mW{ds:List D}{i:Int}{G:aX}{Q:c8}{d:D}(h:gi ds i=some d)(q:Q d G):kQ (.tup ds) (.int i) G Q:=Au h q
theorem Hj{ds:List D}{i:Int}{G:aX}{Q:c8}{d:D}(h:gi ds i=some d)(q:Q d G):kQ (.dY ds) (.int i) G Q:=Au h q
theorem uM{l:Addr}{ds:List D}{i:Int}{G:aX}{Q:c8}{d:D}(aQ:G l=some (.lst ds))(h:gi ds i=some d)(q:Q d G):kQ (.ref l) (.int i) G Q:=cY aQ (Au h q)
theorem a9:Ha X kQ:=by
 refine ⟨_,⟨FN⟩,λ x y eX iz G H au Q v a_ bq r F=>?_⟩
 cases x with
 | tup ds=>
  cases y with
  | int i=>
   cases bq;obtain ⟨l,ai,rfl,s,dZ⟩:=a_;obtain ⟨d,hd,q⟩:=xQ r;obtain ⟨u,a0,ad⟩:=xP dZ hd;exact .inr (.inl ⟨l,ai,i,u,rfl,rfl,s,a0,F d G u H (.refl v) ad q⟩)
  | _=>exact (show False from r).elim
 | ref l=>
  cases y with
  | int i=>
   cases a_;cases bq;obtain ⟨ds,ai,k,s,dZ⟩:=hJ v r;obtain ⟨d,hd,q⟩:=xQ k;obtain ⟨u,a0,ad⟩:=xP dZ hd;exact .inl ⟨l,ai,i,u,rfl,rfl,s,a0,F d G u H (.refl v) ad q⟩
  | _=>exact (show False from r).elim
 | dY ds=>
  cases y with
  | int i=>
   cases bq;obtain ⟨l,ai,rfl,s,dZ⟩:=a_;obtain ⟨d,hd,q⟩:=xQ r;obtain ⟨u,a0,ad⟩:=xP dZ hd;exact .inl ⟨l,ai,i,u,rfl,rfl,s.fA,a0,F d G u H (.refl v) ad q⟩
  | _=>exact (show False from r).elim
 | str z=>
  cases y with
  | int i=>
   cases a_;cases bq;obtain ⟨hz,c,aE,q⟩:=r;exact .inr (.inr ⟨z,i,c,rfl,rfl,hz,aE,F (.str ⟨#[c]⟩) G _ H (.refl v) rfl q⟩)
  | _=>exact (show False from r).elim
 | _=>exact (show False from r).elim
def R6:D->Option Int->Option Int->aX->c8->Prop:=λ x lo ar G Q=>match x with
 | .tup ds=>Q (.tup (cut ds lo ar)) G
 | .ref l=>gB G l λ ds=>∀ p,G p=none->Q (.ref p) (up G p (.lst (cut ds lo ar)))
 | .dY ds=>∀ p,G p=none->Q (.ref p) (up G p (.lst (cut ds lo ar)))
 | _=>False
theorem kR:Hb X R6:=by
 refine ⟨_,⟨O8.or NY⟩,λ x eX lo ar G H au Q v a_ r F=>?_⟩
 cases x with
 | tup ds=>
  obtain ⟨l,ai,rfl,s,dZ⟩:=a_;refine .inl ⟨l,ai,rfl,s,λ t aS xR st=>?_⟩;have g:=Go.grow v xR;exact F (.tup (cut ds lo ar)) G _ _ g ⟨t,_,rfl,st,(dZ.cut lo ar).mono g.tup⟩ r
 | ref l=>
  cases a_;obtain ⟨ds,ai,k,s,dZ⟩:=hJ v r;exact .inr ⟨l,ai,rfl,s,λ p az=>F (.ref p) _ _ _ (Go.qG v az (dZ.cut lo ar)) rfl (k p (v.none az))⟩
 | dY ds=>
  obtain ⟨l,ai,rfl,s,dZ⟩:=a_;exact .inr ⟨l,ai,rfl,s.fA,λ p az=>F (.ref p) _ _ _ (Go.qG v az (dZ.cut lo ar)) rfl (r p (v.none az))⟩
 | _=>exact (show False from r).elim
def kg:D->Bool
 | .bJ=>true
 | .aU _=>true
 | .int _=>true
 | .str _=>true
 | _=>false
def toV:D->V
 | .bJ=>.bJ
 | .aU b=>.aU b
 | .int i=>.int i
 | .str x=>.str x
 | _=>.bJ
theorem AA{K:bl}{H:ay}{d:D}{v:V}(a:db K H d v)(h:kg d=true):v=toV d/\mH v=true:=by
 cases d with
 | bJ=>cases a;exact ⟨rfl,rfl⟩
 | aU b=>cases a;exact ⟨rfl,rfl⟩
 | int b=>cases a;exact ⟨rfl,rfl⟩
 | str b=>cases a;exact ⟨rfl,rfl⟩
 | _=>exact absurd h (by simp [kg])
theorem toVs{K:bl}{H:ay}:∀{ds:List D}{ai:List V},b2 K H ds ai->ds.all kg=true->ai=ds.map toV/\ai.all mH=true
 | [],_,r,_=>by cases r;exact ⟨rfl,rfl⟩
 | _::_,_,⟨v,r,e,q,l⟩,h=>by
  subst e;rw [iP,eU] at h;obtain ⟨ak,aq⟩:=AA q h.1;obtain ⟨aT,cb⟩:=toVs l h.2;exact ⟨by rw [ew,<- ak,<- aT],by rw [iP,aq,cb];rfl⟩
def AB:D->D->Bool
 | .bJ,.bJ=>true
 | .aU a,.aU b=>a==b
 | .aU a,.int b=>(if a then 1 else 0)==b
 | .int a,.aU b=>a==(if b then 1 else 0)
 | .int a,.int b=>a==b
 | .str a,.str b=>a==b
 | _,_=>false
theorem R7{x y:D}(aF:kg x=true)(bD:kg y=true):nN (toV x) (toV y)=AB x y:=by
 cases x<;>cases y<;>first | rfl | (simp [kg] at aF;done) | (simp [kg] at bD;done)
def sj(x:D)(ds:List D):Bool:=ds.any λ y=>AB y x
theorem AC{x:D}(aF:kg x=true):∀{ds:List D},ds.all kg=true->w8 (toV x) (ds.map toV)=sj x ds
 | [],_=>rfl
 | d::ds,h=>by
  rw [iP,eU] at h;have aN:=AC aF h.2;unfold w8 sj at *;rw [ew,ml,ml,aN,R7 h.1 aF]
def inD(neg:Bool):jD:=λ x y G Q=>match y with
 | .tup ds=>kg x=true/\ds.all kg=true/\Q (.aU (neg ^^ sj x ds)) G
 | .ref l=>gB G l λ ds=>kg x=true/\ds.all kg=true/\Q (.aU (neg ^^ sj x ds)) G
 | .str j=>(match x with
  | .str i=>Q (.aU (neg ^^ !(Builtin.Str.occurrences j i 0 j.length 1).isEmpty)) G
  | _=>False)
 | _=>False
theorem uN:gS X (eO .In) (inD false):=by
 refine ⟨_,⟨N2.or M_⟩,λ x y eX iz G H au Q v a_ bq r F=>?_⟩
 cases y with
 | tup ds=>
  obtain ⟨ak,aq,q⟩:=r;obtain ⟨l,ai,rfl,s,dZ⟩:=bq;obtain ⟨aP,f1⟩:=AA a_ ak;obtain ⟨aL,f2⟩:=toVs dZ aq;refine .inl ⟨l,ai,rfl,.inr s,f1,f2,?_⟩;rw [aP,aL,AC ak aq];exact F (.aU _) G _ H (.refl v) rfl (by simpa using q)
 | ref l=>
  cases bq;obtain ⟨ds,ai,⟨ak,aq,q⟩,s,dZ⟩:=hJ v r;obtain ⟨aP,f1⟩:=AA a_ ak;obtain ⟨aL,f2⟩:=toVs dZ aq;refine .inl ⟨l,ai,rfl,.inl s,f1,f2,?_⟩;rw [aP,aL,AC ak aq];exact F (.aU _) G _ H (.refl v) rfl (by simpa using q)
 | str j=>
  cases x with
  | str i=>cases a_;cases bq;exact .inr ⟨i,j,rfl,rfl,F (.aU _) G _ H (.refl v) rfl (by simpa [inD] using r)⟩
  | _=>exact (show False from r).elim
 | _=>exact (show False from r).elim
variable{e o:bg}{ah:List bg}{aW to:cj}{t:fM}{pos p apos fx:Pos}
abbrev Hk(r:r9)(t:fM):cj:=λ ρ G Q=>t ρ G λ ds aA=>r ds aA Q
theorem fB{x:Str}{id:String}{r:r9}(aE:pl X (.builtin id) r)(aZ:di X x)(hm:X.mg x=none)(bC:kv x=some (.builtin id))(aD:h7 X (e::ah) t)(bt:x≠"__name__":=by decide)(gh:(x==("__debug__" : Str))=false:=by decide)
 (ax:(e::ah).all dw=true:=by rfl):bZ X (.Call (.Name x p) (e::ah) [] pos) (Hk r t):=by
 obtain ⟨ca,cM,cN⟩:=aD.run;obtain ⟨n4,n5,rc⟩:=aE.run;exact ⟨_,Pt n5 aZ hm bC cM bt gh ax,λ ρ G au σ H Q B q F=>cN ρ G _ σ H _ B q λ ds aA ai H1 g1 al _ aH=>rc ds ai aA H1 au Q g1.b3 al aH (F.after g1)⟩
theorem jE{x:Str}{T:String}{r:r9}(aE:pl X (.type T) r)(aZ:di X x)(hm:X.mg x=none)(bC:kv x=some (.type T))(aD:h7 X (e::ah) t)(bt:x≠"__name__":=by decide)(gh:(x==("__debug__" : Str))=false:=by decide)
 (ax:(e::ah).all dw=true:=by rfl):bZ X (.Call (.Name x p) (e::ah) [] pos) (Hk r t):=by
 obtain ⟨ca,cM,cN⟩:=aD.run;obtain ⟨n4,n5,rc⟩:=aE.run;exact ⟨_,Pu n5 aZ hm bC cM bt gh ax,λ ρ G au σ H Q B q F=>cN ρ G _ σ H _ B q λ ds aA ai H1 g1 al _ aH=>rc ds ai aA H1 au Q g1.b3 al aH (F.after g1)⟩
abbrev qJ(r:D->aX->c8->Prop):r9:=λ xs G Q=>match xs with
 | [x]=>r x G Q
 | _=>False
abbrev AD(r:D->D->aX->c8->Prop):r9:=λ xs G Q=>match xs with
 | [x,y]=>r x y G Q
 | _=>False
theorem uO{K:bl}{H:ay}{r:D->aX->c8->Prop}{xs:List D}{ai:List V}{G:aX}{Q:c8}(h:qJ r xs G Q)(a:b2 K H xs ai):∃ x v,xs=[x]/\ai=[v]/\db K H x v/\r x G Q:=by
 unfold qJ at h;split at h
 ·obtain ⟨v,r,rfl,q,l⟩:=a;cases l;exact ⟨_,v,rfl,rfl,q,h⟩
 ·exact h.elim
theorem R8{K:bl}{H:ay}{r:D->D->aX->c8->Prop}{xs:List D}{ai:List V}{G:aX}{Q:c8}(h:AD r xs G Q)(a:b2 K H xs ai):∃ x y v u,xs=[x,y]/\ai=[v,u]/\db K H x v/\db K H y u/\r x y G Q:=by
 unfold AD at h;split at h
 ·obtain ⟨v,r,rfl,q,u,bK,rfl,bI,l⟩:=a;cases l;exact ⟨_,_,v,u,rfl,rfl,q,bI,h⟩
 ·exact h.elim
def R9:D->aX->c8->Prop:=λ x G Q=>match x with
 | .tup ds=>Q (.int ds.length) G
 | .ref l=>gB G l λ ds=>Q (.int ds.length) G
 | .dY ds=>Q (.int ds.length) G
 | .str z=>z.length<=sizeLine/\Q (.int z.length) G
 | _=>False
theorem kh:pl X (.builtin "len") (qJ R9):=by
 refine ⟨_,⟨N3.or N4⟩,λ xs ai G H au Q v a r F=>?_⟩;obtain ⟨x,u,rfl,rfl,a_,r⟩:=uO r a
 cases x with
 | tup ds=>
  obtain ⟨l,ws,rfl,s,dZ⟩:=a_;exact .inl ⟨l,ws,rfl,.inr s,by rw [dZ.len];exact F (.int ds.length) G _ H (.refl v) rfl r⟩
 | ref l=>
  cases a_;obtain ⟨ds,ws,k,s,dZ⟩:=hJ v r;exact .inl ⟨l,ws,rfl,.inl s,by rw [dZ.len];exact F (.int ds.length) G _ H (.refl v) rfl k⟩
 | dY ds=>
  obtain ⟨l,ws,rfl,s,dZ⟩:=a_;exact .inl ⟨l,ws,rfl,.inl s.fA,by rw [dZ.len];exact F (.int ds.length) G _ H (.refl v) rfl r⟩
 | str z=>cases a_;exact .inr ⟨z,rfl,r.1,F (.int z.length) G _ H (.refl v) rfl r.2⟩
 | _=>exact (show False from r).elim
def intD:D->aX->c8->Prop:=λ x G Q=>match x with
 | .int i=>Q (.int i) G
 | .aU k=>Q (.int (if k then 1 else 0)) G
 | _=>False
theorem mX:pl X (.type "int") (qJ intD):=by
 refine ⟨_,⟨Ni⟩,λ xs ai G H au Q v a r F=>?_⟩;obtain ⟨x,u,rfl,rfl,a_,r⟩:=uO r a
 cases x with
 | int i=>cases a_;exact .inl ⟨i,rfl,F (.int i) G _ H (.refl v) rfl r⟩
 | aU k=>cases a_;exact .inr ⟨k,rfl,F (.int (if k then 1 else 0)) G _ H (.refl v) rfl r⟩
 | _=>exact (show False from r).elim
def R_:D->aX->c8->Prop:=λ x G Q=>match x with
 | .tup ds=>Q (.tup ds) G
 | .ref l=>gB G l λ ds=>Q (.tup ds) G
 | _=>False
theorem xS:pl X (.type "tuple") (qJ R_):=by
 refine ⟨_,⟨N5⟩,λ xs ai G H au Q v a r F=>?_⟩;obtain ⟨x,u,rfl,rfl,a_,r⟩:=uO r a
 cases x with
 | tup ds=>
  obtain ⟨l,ws,rfl,s,dZ⟩:=a_;exact ⟨l,ws,rfl,.inr ⟨s,F (.tup ds) G _ H (.refl v) ⟨l,ws,rfl,s,dZ⟩ r⟩⟩
 | ref l=>
  cases a_;obtain ⟨ds,ws,k,s,dZ⟩:=hJ v r;refine ⟨l,ws,rfl,.inl ⟨s,λ p az=>?_⟩⟩;have g:=Go.mO (o:=.tup ws) v az;exact F (.tup ds) G _ _ g ⟨p,ws,rfl,.of fi,dZ.mono g.tup⟩ k
 | _=>exact (show False from r).elim
def mY:List D->Option (List Int)
 | []=>some []
 | .int i::r=>(mY r).map (i::·)
 | _::_=>none
theorem uP:∀{ds:List D}{ns:List Int},mY ds=some ns->ds=ns.map D.int
 | [],ns,h=>by cases h;rfl
 | d::r,ns,h=>by
  cases d with
  | int i=>
   simp only [mY,Option.map_eq_some_iff] at h;obtain ⟨ms,ak,rfl⟩:=h;rw [uP ak];rfl
  | _=>simp [mY] at h
theorem sk:∀ ns:List Int,mY (ns.map D.int)=some ns
 | []=>rfl
 | n::ns=>by simp [mY,sk ns]
def AE:D->aX->c8->Prop:=λ x G Q=>match x with
 | .ref l=>gB G l λ ds=>∃ ns,mY ds=some ns/\Q (.int ns.sum) G
 | _=>False
theorem Hl(aE:X.calm=true):pl X (.builtin "sum") (qJ AE):=by
 refine ⟨_,⟨OF aE⟩,λ xs ai G H au Q v a r F=>?_⟩;obtain ⟨x,u,rfl,rfl,a_,r⟩:=uO r a
 cases x with
 | ref l=>
  cases a_;obtain ⟨ds,ws,⟨ns,e,k⟩,s,dZ⟩:=hJ v r;rw [uP e] at dZ;rw [dZ.ints] at s;exact ⟨l,ns,rfl,s,F (.int ns.sum) G _ H (.refl v) rfl k⟩
 | _=>exact (show False from r).elim
end
end L3
namespace L2
open PySem PySem.Spec PyProof.Rows
def Hm(K:bl)(eG:TE):TI:=λ σ H R=>eG σ H λ x H1=>∃ a,x=.ref a/\(((∃ xs,d7 K H1 a xs)/\R (tT K a) H1)\/((∃ xs,dq K H1 a xs)/\R (tU K a) H1))
theorem Sa{X:bb}{bp l:bg}{eG:TE}(aQ:bX X l eG):mC X bp l (Hm X.K eG):=by
 intro pins s σ H R I h;refine b5 (aQ pins s σ H _ I h) λ v s1 ⟨x,H1,a6,bj,aH⟩=>?_;obtain ⟨a,e,aH⟩:=aH;subst e;cases bj;rcases aH with ⟨⟨xs,bv⟩,q⟩ | ⟨⟨xs,bv⟩,q⟩
 ·obtain ⟨aM,be,p,hz⟩:=a6.list bv;refine y2 p.isList ?_;refine ⟨s1.heap.objs.size,[s1.heap.objs.size],_,_,H1,rfl,a6.kept (t':=s1.toks) λ b o e=>cm _ e,ML a _,⟨_,d2 _ rfl,rfl,rfl⟩,λ b ag=>?_,q⟩
  have e:b=s1.heap.objs.size:=by simpa using ag
  subst e;exact a6.oZ (b7 _) (a6.bM.fresh (b7 _))
 ·obtain ⟨aM,be,p,hz⟩:=a6.tuple bv;refine yZ (show s1.heap.IsTuple a aM.toArray from p) ?_;refine ⟨s1.heap.objs.size,[s1.heap.objs.size],_,_,H1,rfl,a6.kept (t':=s1.toks) λ b o e=>cm _ e,MM a _,⟨_,d2 _ rfl,rfl,rfl⟩,λ b ag=>?_,q⟩
  have e:b=s1.heap.objs.size:=by simpa using ag
  subst e;exact a6.oZ (b7 _) (a6.bM.fresh (b7 _))
end L2
namespace L3
open PySem PySem.Spec L2
section
variable{X:bb}{a b c e o i bp iter:bg}{ah:List bg}{bw bN aW to eQ:cj}{t:fM}{pos p apos fx:Pos}
structure kS where
 items:List D
 held:aX->Prop
abbrev i2:=eb->aX->(kS->aX->Prop)->Prop
def AF(K:bl)(J:kS)(i3:hD)(G:aX)(H:ay):Prop:=∀ aA H1,Go K G H aA H1->J.held aA →
 (∀(i:Nat)(d:D),J.items[i]?=some d->i3.go i H1/\∀ x aj,i3.oY i H1 x aj->Go K aA H1 aA aj/\db K aj d x)/\∀ i,J.items.length<=i->i3.stop i H1
structure n7(X:bb)(bp iter:bg)(cZ:i2):Prop where
 run:∃ Hn:TI,mM X bp iter Hn/\∀ ρ G ki σ H R,dG X.K ρ G σ H->cZ ρ G ki->(∀ J i3 ap aj,Go X.K G H ap aj->AF X.K J i3 ap aj->ki J ap->R i3 aj)->Hn σ H R
@[irreducible] def uQ(G:aX)(l:Addr)(k:kS->Prop):Prop:=match G l with
 | some (.lst ds)=>k ⟨ds,λ G=>G l=some (.lst ds)⟩
 | _=>False
abbrev Sb(bw:cj):i2:=λ ρ G R=>bw ρ G λ x aA=>match x with
 | .tup ds=>R ⟨ds,λ _=>True⟩ aA
 | .ref l=>uQ aA l λ J=>R J aA
 | .dY ds=>R ⟨ds,λ _=>True⟩ aA
 | _=>False
theorem uR{G:aX}{l:Addr}{k:kS->Prop}{ds:List D}(h:G l=some (.lst ds))(q:k ⟨ds,λ G=>G l=some (.lst ds)⟩):uQ G l k:=by unfold uQ;rw [h];exact q
theorem Sc{K:bl}{ds:List D}{ai:List V}{l:Addr}{aA:aX}{H1:ay}(v:ek K aA H1)(s:dq K H1 l ai)(r:b2 K H1 ds ai) :
 (∀(i:Nat)(d:D),ds[i]?=some d->(tU K l).go i H1/\∀ x aj,(tU K l).oY i H1 x aj->Go K aA H1 aA aj/\db K aj d x)/\∀ i,ds.length<=i->(tU K l).stop i H1:=by
 refine ⟨λ i d hd=>?_,λ i ar=>⟨ai,s,by rw [r.len];exact ar⟩⟩;obtain ⟨w,hw,n8⟩:=r.get hd;refine ⟨⟨ai,w,s,hw⟩,λ x aj y=>?_⟩;obtain ⟨rfl,y⟩:=y;have z:=y ai s;rw [hw] at z;cases z;exact ⟨.refl v,n8⟩
theorem Ho{K:bl}{ds:List D}{ai:List V}{l:Addr}{aA:aX}{H1:ay}(v:ek K aA H1)(s:d7 K H1 l ai)(r:b2 K H1 ds ai) :
 (∀(i:Nat)(d:D),ds[i]?=some d->(tT K l).go i H1/\∀ x aj,(tT K l).oY i H1 x aj->Go K aA H1 aA aj/\db K aj d x)/\∀ i,ds.length<=i->(tT K l).stop i H1:=by
 refine ⟨λ i d hd=>?_,λ i ar=>⟨ai,s,by rw [r.len];exact ar⟩⟩;obtain ⟨w,hw,n8⟩:=r.get hd;refine ⟨⟨ai,w,s,hw⟩,λ x aj y=>?_⟩;obtain ⟨rfl,y⟩:=y;have z:=y ai s;rw [hw] at z;cases z;exact ⟨.refl v,n8⟩
theorem Sd{bo:TE}(aQ:cL X a bo):mM X bp a (Hm X.K bo):=⟨Sa aQ.run⟩
theorem iC(aD:bZ X a bw):n7 X bp a (Sb bw):=by
 obtain ⟨ca,cM,cN⟩:=aD.run;refine ⟨_,Sd cM,λ ρ G ki σ H R B q F=>cN ρ G _ σ H _ B q λ x aA v H1 g1 a_ aH=>?_⟩
 cases x with
 | tup ds=>
  obtain ⟨l,ai,rfl,s,r⟩:=a_;exact ⟨l,rfl,.inr ⟨⟨ai,s⟩,F ⟨ds,λ _=>True⟩ _ aA H1 g1 (λ bc aS g2 _=>Sc g2.b3 (g2.tup.dy _ _ s) (r.mono g2.tup)) aH⟩⟩
 | ref l=>
  cases a_;refine ⟨l,rfl,.inl ?_⟩
  replace aH:uQ aA l λ J=>ki J aA:=aH
  unfold uQ at aH;split at aH
  ·next ds hd=>
   obtain ⟨ai,z,r⟩:=g1.b3 _ _ hd;refine ⟨⟨ai,.of z⟩,F ⟨ds,λ G=>G l=some (.lst ds)⟩ _ aA H1 g1 (λ bc aS g2 aq=>?_) aH⟩;obtain ⟨us,b8,bK⟩:=g2.b3 _ _ aq;exact Ho g2.b3 (.of b8) bK
  ·exact aH.elim
 | dY ds=>
  obtain ⟨l,ai,rfl,s,r⟩:=a_;exact ⟨l,rfl,.inl ⟨⟨ai,s.fA⟩,F ⟨ds,λ _=>True⟩ _ aA H1 g1 (λ bc aS g2 _=>Ho g2.b3 (g2.tup.fr _ _ s).fA (r.mono g2.tup)) aH⟩⟩
 | _=>exact (show False from aH).elim
def mZ(lo:Int)(n:Nat):List D:=(eL n).map λ(i:Nat)=>D.int (lo+(i:Int))
theorem Se{lo:Int}{n i:Nat}{d:D}(h:(mZ lo n)[i]?=some d):i < n/\d=.int (lo+i):=by
 unfold mZ at h;rw [eu] at h;by_cases c:i < n
 ·rw [tr c] at h;simp at h;exact ⟨c,h.symm⟩
 ·rw [k6 (by simpa using c)] at h;cases h
theorem Sf{lo:Int}{n:Nat}:(mZ lo n).length=n:=by simp [mZ]
@[irreducible] def uS(r:List D->Option (Int × Nat))(ds:List D)(k:Int->Nat->Prop):Prop:=match r ds with
 | some (lo,n)=>k lo n
 | none=>False
abbrev Sg(r:List D->Option (Int × Nat))(t:fM):i2:=λ ρ G R=>t ρ G λ ds aA=>uS r ds λ lo n=>R ⟨mZ lo n,λ _=>True⟩ aA
def xT(i:Int):Bool:=decide (-(2 ^ 62)<=i)&&decide (i < 2 ^ 62)
def uT:List D->Option (Int × Nat)
 | [.int j]=>if xT j=true then some (0,j.toNat) else none
 | _=>none
theorem xU{i:Int}:xT i=true ↔ -(2 ^ 62)<=i/\i < 2 ^ 62:=by unfold xT;simp
theorem Sh{K:bl}{lo:Int}{n:Nat}{aA:aX}{H1:ay}(v:ek K aA H1) :
 (∀(i:Nat)(d:D),(mZ lo n)[i]?=some d->(rR lo n).go i H1/\∀ x aj,(rR lo n).oY i H1 x aj->Go K aA H1 aA aj/\db K aj d x)/\∀ i,(mZ lo n).length<=i->(rR lo n).stop i H1:=by
 refine ⟨λ i d hd=>?_,λ i ar=>by rw [Sf] at ar;exact ar⟩;obtain ⟨ak,rfl⟩:=Se hd;refine ⟨ak,λ x aj y=>?_⟩;obtain ⟨rfl,rfl⟩:=y;exact ⟨.refl v,rfl⟩
theorem Si{ds:List D}{lo:Int}{n:Nat}(h:uT ds=some (lo,n)):∃ j,ds=[.int j]/\(-(2 ^ 62)<=j/\j < 2 ^ 62)/\lo=0/\n=j.toNat:=by
 unfold uT at h;split at h
 ·next j=>
  split at h
  ·next c=>cases h;exact ⟨j,rfl,xU.mp c,rfl,rfl⟩
  ·cases h
 ·cases h
theorem Sj{j:Int}{k:Int->Nat->Prop}(h:-(2 ^ 62)<=j/\j < 2 ^ 62)(q:k 0 j.toNat):uS uT [.int j] k:=by
 have e:uT [.int j]=some (0,j.toNat):=if_pos (xU.mpr h);unfold uS;rw [e];exact q
theorem Sk{r:List D->Option (Int × Nat)}{ds:List D}{R:kS->aX->Prop}{G:aX}(h:uS r ds λ lo n=>R ⟨mZ lo n,λ _=>True⟩ G):∃ lo n,r ds=some (lo,n)/\R ⟨mZ lo n,λ _=>True⟩ G:=by
 unfold uS at h;split at h
 ·next lo n e=>exact ⟨lo,n,e,h⟩
 ·exact h.elim
theorem Sl(aZ:di X "range")(hm:X.mg "range" = none)(aD:h7 X [a] t)(ax:dw a=true:=by rfl):n7 X bp (.Call (.Name "range" p) [a] [] pos) (Sg uT t):=by
 obtain ⟨ca,cM,cN⟩:=aD.run;refine ⟨_,PJ aZ hm cM ax,λ ρ G ki σ H R B q F=>cN ρ G _ σ H _ B q λ ds aA ai H1 g1 al aQ aH=>?_⟩;obtain ⟨lo,n,e,bI⟩:=Sk aH;obtain ⟨j,rfl,c,rfl,rfl⟩:=Si e;obtain ⟨v,r,rfl,qK,l⟩:=al;cases l;cases qK;exact ⟨j,rfl,c.1,c.2,F _ _ aA H1 g1 (λ bc aS g2 _=>Sh g2.b3) bI⟩
def uU(ar:Int)(n:Nat):List D:=(eL n).map λ(i:Nat)=>D.int (ar - (i:Int))
abbrev Sm(t:fM):i2:=λ ρ G R=>t ρ G λ ds aA=>match ds with
 | [.int i,.int j,.int k]=>j=-1/\k=-1/\xT i=true/\R ⟨uU i (i+1).toNat,λ _=>True⟩ aA
 | _=>False
theorem Hp{lo:Int}{n i:Nat}{d:D}(h:(uU lo n)[i]?=some d):i < n/\d=.int (lo - i):=by
 unfold uU at h;rw [eu] at h;by_cases c:i < n
 ·rw [tr c] at h;simp at h;exact ⟨c,h.symm⟩
 ·rw [k6 (by simpa using c)] at h;cases h
theorem Hq{lo:Int}{n:Nat}:(uU lo n).length=n:=by simp [uU]
theorem Sn(aZ:di X "range")(hm:X.mg "range" = none)(aD:h7 X [a,b,c] t)(ak:dw a=true:=by rfl)(aq:dw b=true:=by rfl)(aT:dw c=true:=by rfl):n7 X bp (.Call (.Name "range" p) [a,b,c] [] pos) (Sm t):=by
 obtain ⟨ca,cM,cN⟩:=aD.run;refine ⟨_,P4 aZ hm cM ak aq aT,λ ρ G ki σ H R B q F=>cN ρ G _ σ H _ B q λ ds aA ai H1 g1 al aQ aH=>?_⟩;split at aH
 ·next i j k=>
  obtain ⟨rfl,rfl,c,bI⟩:=aH;obtain ⟨v,r,rfl,qK,u,bK,rfl,qL,w,Fl,rfl,n8,l⟩:=al;cases l;cases qK;cases qL;cases n8;refine ⟨i,rfl,xU.mp c,F _ _ aA H1 g1 (λ bc aS g2 _=>⟨λ n d hd=>?_,λ n bt=>?_⟩) bI⟩
  ·obtain ⟨cB,rfl⟩:=Hp hd;refine ⟨cB,λ x aj y=>?_⟩;obtain ⟨rfl,rfl⟩:=y;exact ⟨.refl g2.b3,rfl⟩
  ·rw [Hq] at bt;exact bt
 ·exact aH.elim
def eY(P:eb->aX->Prop):eb->aX->Prop:=λ ρ G=>∃ ρ' ap,xD ρ' ρ/\Sub ap G/\P ρ' ap
theorem eY.of{P:eb->aX->Prop}{ρ:eb}{G:aX}(h:P ρ G):eY P ρ G:=⟨ρ,G,.refl _,.refl _,h⟩
abbrev So(cZ:i2)(g:e8)(bN:gA):gA:=λ dR ρ G=>cZ ρ G λ J aA=>∃ P:Nat->eb->aX->Prop,P 0 ρ aA/\(∀ i ρ G,i<=J.items.length->P i ρ G->J.held G) ∧
 (∀(i:Nat)(d:D)(ρ:eb)(G:aX),J.items[i]?=some d->P i ρ G->g d ρ G λ ρ' ap=>bN { dR with nx:=eY (P (i+1)),ct:=eY (P (i+1)),bk:=dR.nx } ρ' ap)/\∀ ρ G,P J.items.length ρ G->dR.nx ρ G
theorem uV{body:List bB}{cZ:i2}{g:e8}{bN:gA}(az:rq (aI X.prog X.w) X.A X.env X.xe)(aE:X.calm=true)(ar:n7 X bp iter cZ)(aZ:iy X bp g)(ag:lQ X body bN)(ax:∀ x,iN iter X.env x=pure x:=by intro _;rfl) :
 i1 X (.For bp iter body [] pos) (So cZ g bN):=by
 obtain ⟨ci,i4,gO⟩:=ar.run;obtain ⟨m1,n9,kj⟩:=aZ.run;obtain ⟨jB,fO,fP⟩:=ag.run;refine ⟨_,PU az aE i4 n9 fO ax,λ dR eT ρ G σ H B q F=>gO ρ G _ σ H _ B q λ J i3 aA H1 g1 ok aH=>?_⟩;obtain ⟨P,kk,held,turn,done⟩:=aH;refine ⟨λ i m σ' aj=>m=J.items.length - i/\i<=J.items.length/\∃ ρ' ap,P i ρ' ap/\dG X.K ρ' ap σ' aj/\Go X.K aA H1 ap aj,⟨_,rfl,e0 _,ρ,aA,kk,B.go g1,.refl g1.b3⟩,?_⟩;rintro i m σ2 aS ⟨rfl,ar,ρ2,bc,cE,gk,g2⟩;have df:=ok bc aS g2 (held i ρ2 bc ar cE);by_cases fy:i < J.items.length
 ·have hd:J.items[i]?=some J.items[i]:=by simp [fy]
  obtain ⟨go,uW⟩:=df.1 i _ hd;refine .inr ⟨go,λ σ' aj=>∃ ρ' ap,P (i+1) ρ' ap/\dG X.K ρ' ap σ' aj/\Go X.K aA H1 ap aj,λ σ' aj ⟨ρ',ap,cB,b8,dg⟩=>⟨J.items.length - (i+1),by omega,rfl,fy,ρ',ap,cB,b8,dg⟩,λ x aj y=>?_⟩;obtain ⟨g3,a_⟩:=uW x aj y;refine kj _ x ρ2 bc _ σ2 aj _ (gk.go g3) a_ (turn i _ ρ2 bc hd cE) λ ρ4 eZ σ4 h2 iv hG kL=>?_;have fQ:=(g2.trans g3).trans iv
  have again:∀ ρ' ap σ' aj,Go X.K eZ h2 ap aj->dG X.K ρ' ap σ' aj->eY (P (i+1)) ρ' ap->∃ ρ' ap,P (i+1) ρ' ap/\dG X.K ρ' ap σ' aj/\Go X.K aA H1 ap aj:=λ ρ' ap σ' aj g' ip ⟨ρ5,eA,s1,s2,w⟩=>
   ⟨ρ5,eA,w,ip.weak s1 s2,(fQ.trans g').sub s2⟩
  exact fP _ _ ρ4 eZ σ4 h2 hG kL ⟨λ ρ' ap σ' aj g' ip w=>again ρ' ap σ' aj g' ip w,(F.after ((g1.trans fQ))).rt,λ ρ' ap σ' aj g' ip w=>F.nx ρ' ap σ' aj ((g1.trans fQ).trans g') ip w,λ ρ' ap σ' aj g' ip w=>again ρ' ap σ' aj g' ip w⟩
 ·have e:i=J.items.length:=by omega
  subst e;exact .inl ⟨df.2 _ (b7 _),F.nx ρ2 bc σ2 aS (g1.trans g2) gk (done ρ2 bc cE)⟩
abbrev Sp(bo:eW)(bN:gA):gA:=λ dR ρ G=>∃ W:Nat->eb->aX->Prop,(∃ m,W m ρ G)/\∀ m ρ G,W m ρ G →
 bo ρ G λ b aA=>cA b (bN { dR with nx:=eY λ ρ' ap=>∃ c5,c5 < m/\W c5 ρ' ap,ct:=eY λ ρ' ap=>∃ c5,c5 < m/\W c5 ρ' ap,bk:=dR.nx } ρ aA) (dR.nx ρ aA)
theorem lU{body:List bB}{bo:eW}{bN:gA}(az:rq (aI X.prog X.w) X.A X.env X.xe)(aE:AT X c bo)(ag:lQ X body bN):i1 X (.While c body [] pos) (Sp bo bN):=by
 obtain ⟨n4,n5,rc⟩:=aE.run;obtain ⟨jB,fO,fP⟩:=ag.run;refine ⟨_,PT az n5 fO,λ dR eT ρ G σ H B q F=>?_⟩;obtain ⟨W,⟨m0,hX⟩,turn⟩:=q;refine ⟨λ m σ' aj=>∃ ρ' ap,W m ρ' ap/\dG X.K ρ' ap σ' aj/\Go X.K G H ap aj,⟨m0,ρ,G,hX,B,.refl B.b3⟩,?_⟩;rintro m σ2 aS ⟨ρ2,bc,nF,gk,g2⟩;refine rc ρ2 bc _ σ2 aS _ gk (turn m ρ2 bc nF) λ k cQ dX g3 eh=>?_
 cases k with
 | true=>
  refine ⟨λ σ' aj=>∃ c5,c5 < m/\∃ ρ' ap,W c5 ρ' ap/\dG X.K ρ' ap σ' aj/\Go X.K G H ap aj,λ σ' aj ⟨c5,z,ρ',ap,cB,b8,dg⟩=>⟨c5,z,ρ',ap,cB,b8,dg⟩,?_⟩;have fQ:=g2.trans g3
  have again:∀ ρ' ap σ' aj,Go X.K cQ dX ap aj->dG X.K ρ' ap σ' aj->eY (λ ρ' ap=>∃ c5,c5 < m/\W c5 ρ' ap) ρ' ap->∃ c5,c5 < m/\∃ ρ' ap,W c5 ρ' ap/\dG X.K ρ' ap σ' aj/\Go X.K G H ap aj:=λ ρ' ap σ' aj g' ip ⟨ρ5,eA,s1,s2,c5,hm,w⟩=>
   ⟨c5,hm,ρ5,eA,w,ip.weak s1 s2,(fQ.trans g').sub s2⟩
  exact fP _ _ ρ2 cQ σ2 dX (gk.go g3) (eh.1 rfl) ⟨λ ρ' ap σ' aj g' ip w=>again ρ' ap σ' aj g' ip w,(F.after fQ).rt,λ ρ' ap σ' aj g' ip w=>F.nx ρ' ap σ' aj (fQ.trans g') ip w,λ ρ' ap σ' aj g' ip w=>again ρ' ap σ' aj g' ip w⟩
 | false=>exact F.nx ρ2 cQ σ2 dX (g2.trans g3) (gk.go g3) (eh.2 rfl)
end
end L3
namespace L2
open PySem PySem.Spec PyProof.Rows
theorem cL.imp{X:bb}{e:bg}{t t':TE}(h:cL X e t)(i:∀ σ H Q,t' σ H Q->t σ H Q):cL X e t':=⟨λ pins s σ H Q I q=>h.run pins s σ H Q I (i σ H Q q)⟩
theorem g5.imp{X:bb}{e:bg}{t t':TT}(h:g5 X e t)(i:∀ σ H Q,t' σ H Q->t σ H Q):g5 X e t':=⟨λ pins s σ H Q I q=>h.run pins s σ H Q I (i σ H Q q)⟩
theorem iu.imp{X:bb}{e:bg}{t t':fe}(h:iu X e t)(i:∀ v σ H Q,t' v σ H Q->t v σ H Q):iu X e t':=⟨λ pins s σ H x v Q I r q=>h.run pins s σ H x v Q I r (i _ _ _ _ q)⟩
end L2
namespace L3
open PySem PySem.Spec L2
section
variable{X:bb}{a b c e o i bp iter elt ct:bg}{ah:List bg}{bw bN aW to eQ:cj}{t:fM}{pos p apos fx:Pos}
abbrev sl(K:bl)(bo:TE)(t:cj):Prop:=∀ ρ G au σ H Q,dG K ρ G σ H->t ρ G au->Fin K G H au Q->bo σ H Q
abbrev AG(K:bl)(bo:TT)(t:eW):Prop:=∀ ρ G au σ H Q,dG K ρ G σ H->t ρ G au->Ao K G H au Q->bo σ H Q
abbrev xV(K:bl)(bo:fe)(t:e8):Prop:=∀ d v ρ G au σ H Q,dG K ρ G σ H->db K H d v->t d ρ G au->Ap K G H au Q->bo v σ H Q
theorem bZ.kT{ι:Type}{cx:ι->bb}{K:bl}(eR:∀ z,(cx z).K=K)(h:∀ z,bZ (cx z) e aW):∃ bo:TE,(∀ z,cL (cx z) e bo)/\sl K bo aW:=by
 have h':∀ z,∃ bo,cL (cx z) e bo/\sl K bo aW:=λ z=>by
  have q:=(h z).run;rw [eR z] at q;exact q
 exact ⟨λ σ H Q=>∀ z,Classical.choose (h' z) σ H Q,λ z=>(Classical.choose_spec (h' z)).1.imp λ σ H Q q=>q z,λ ρ G au σ H Q B q F z=>(Classical.choose_spec (h' z)).2 ρ G au σ H Q B q F⟩
theorem AT.kT{ι:Type}{cx:ι->bb}{K:bl}{aW:eW}(eR:∀ z,(cx z).K=K)(h:∀ z,AT (cx z) e aW):∃ bo:TT,(∀ z,g5 (cx z) e bo)/\AG K bo aW:=by
 have h':∀ z,∃ bo,g5 (cx z) e bo/\AG K bo aW:=λ z=>by
  have q:=(h z).run;rw [eR z] at q;exact q
 exact ⟨λ σ H Q=>∀ z,Classical.choose (h' z) σ H Q,λ z=>(Classical.choose_spec (h' z)).1.imp λ σ H Q q=>q z,λ ρ G au σ H Q B q F z=>(Classical.choose_spec (h' z)).2 ρ G au σ H Q B q F⟩
theorem iy.kT{ι:Type}{cx:ι->bb}{K:bl}{aW:e8}(eR:∀ z,(cx z).K=K)(h:∀ z,iy (cx z) e aW):∃ bo:fe,(∀ z,iu (cx z) e bo)/\xV K bo aW:=by
 have h':∀ z,∃ bo,iu (cx z) e bo/\xV K bo aW:=λ z=>by
  have q:=(h z).run;rw [eR z] at q;exact q
 exact ⟨λ v σ H Q=>∀ z,Classical.choose (h' z) v σ H Q,λ z=>(Classical.choose_spec (h' z)).1.imp λ v σ H Q q=>q z,λ d v ρ G au σ H Q B ad q F z=>(Classical.choose_spec (h' z)).2 d v ρ G au σ H Q B ad q F⟩
def i5(nt:Nat)(cap:List Nat)(ρ:eb):eb:=mj nt none++cap.map λ i=>(ρ[i]?).join
theorem xW{nt:Nat}{cap:List Nat}{ρ:eb}{i:Nat}{d:D}(h:(i5 nt cap ρ)[i]?=some (some d)):nt<=i:=by
 by_cases c:nt<=i
 ·exact c
 ·unfold i5 at h;rw [k5 (by simpa using c),rA] at h;rw [if_pos (by omega)] at h;cases h
theorem dG.comp{K:bl}{ρ:eb}{G:aX}{σ:St}{H:ay}(B:dG K ρ G σ H)(nt:Nat)(cap:List Nat):dG K (i5 nt cap ρ) G (mJ nt cap σ) H:=by
 refine ⟨by simp [i5,mJ],λ i d h=>?_,B.b3⟩;have ar:=xW h;unfold i5 at h;unfold mJ;rw [nw (by simpa using ar)] at h ⊢;rw [tm,eu] at h ⊢
 cases e:cap[i - nt]? with
 | none=>rw [e] at h;cases h
 | some k=>
  rw [e] at h
  have h':(ρ[k]?).join=some d:=by simpa using h
  have aq:ρ[k]?=some (some d):=by
   cases q:ρ[k]? with
   | none=>rw [q] at h';cases h'
   | some z=>rw [q] at h';cases z with
    | none=>cases h'
    | some y=>simp at h';rw [h']
  obtain ⟨v,aT,cb⟩:=B.st k d aq;exact ⟨v,by simp [aT],cb⟩
def n_(nt:Nat)(g:e8):Prop:=∀ d ρ G Q,g d ρ G Q->g d ρ G λ ρ' ap=>Q ρ' ap/\ρ'.length=ρ.length/\∀ i,nt<=i->ρ'[i]?=ρ[i]?
def xX(nt:Nat)(g:kI):Prop:=∀ d ρ G Q,g d ρ G Q->g d ρ G λ ρ' ap=>Q ρ' ap/\ρ'.length=ρ.length/\∀ i,nt<=i->ρ'[i]?=ρ[i]?
theorem h9{nt k:Nat}(h:k < nt):n_ nt (se k):=λ d ρ G Q q=>⟨q,by simp,λ i ar=>wA (by omega)⟩
theorem AH{nt:Nat}:xX nt Av:=λ ds ρ G Q q=>by
 cases ds with
 | nil=>exact ⟨q,rfl,λ _ _=>rfl⟩
 | cons _ _=>exact (show False from q).elim
def AI(g:e8):Prop:=∀ d ρ G Q fV,(∀ ρ' ap,Q ρ' ap->fV ρ' ap)->g d ρ G Q->g d ρ G fV
def xY(g:kI):Prop:=∀ d ρ G Q fV,(∀ ρ' ap,Q ρ' ap->fV ρ' ap)->g d ρ G Q->g d ρ G fV
theorem oa{k:Nat}:AI (se k):=λ _ _ _ _ _ i q=>i _ _ q
theorem sm:xY Av:=λ ds ρ G Q fV i q=>by
 cases ds with
 | nil=>exact i _ _ q
 | cons _ _=>exact (show False from q).elim
theorem AJ{g:e8}{u:kI}(ak:AI g)(aq:xY u):xY (Aw g u):=λ ds ρ G Q fV i q=>by
 cases ds with
 | nil=>exact (show False from q).elim
 | cons d r=>exact ak d ρ G _ _ (λ ρ' ap z=>aq r ρ' ap _ _ i z) q
theorem sn{nt:Nat}{g:e8}{u:kI}(mw:AI g)(mx:xY u)(ak:n_ nt g)(aq:xX nt u):xX nt (Aw g u):=λ ds ρ G Q q=>by
 cases ds with
 | nil=>exact (show False from q).elim
 | cons d r=>exact mw d ρ G _ _ (λ ρ' ap ⟨z,cB,b8⟩=>mx r ρ' ap _ _ (λ ρ2 bc ⟨y,i6,ob⟩=>⟨y,i6.trans cB,λ i ar=>(ob i ar).trans (b8 i ar)⟩) (aq r ρ' ap Q z)) (ak d ρ G _ q)
theorem AK{nt:Nat}{u:kI}(h:xX nt u):n_ nt (He u):=λ d ρ G Q q=>by
 cases d with
 | tup ds=>exact h ds ρ G Q q
 | _=>exact (show False from q).elim
def m2(P:aX->Prop):aX->Prop:=λ G=>∃ ap,Sub ap G/\P ap
theorem m2.of{P:aX->Prop}{G:aX}(h:P G):m2 P G:=⟨G,.refl _,h⟩
@[irreducible] def so(g:e8)(aW:cj)(nt:Nat)(cap:List Nat)(ρ:eb)(Q:c8)(J:kS)(aA:aX):Prop:=J.items.length < sizeLine/\∃ P:Nat->List D->aX->Prop,P 0 [] aA/\(∀ i ds G,i<=J.items.length->P i ds G->J.held G) ∧
 (∀(i:Nat)(d:D)(ds:List D)(G:aX),J.items[i]?=some d->P i ds G->g d (i5 nt cap ρ) G λ ρ3 cQ=>aW ρ3 cQ λ y eZ=>m2 (P (i+1) (ds++[y])) eZ)/\∀ ds G,P J.items.length ds G->∀ p,G p=none->Q (.ref p) (up G p (.lst ds))
@[irreducible] def xZ(g:e8)(bo:eW)(aW:cj)(nt:Nat)(cap:List Nat)(ρ:eb)(Q:c8)(J:kS)(aA:aX):Prop:=J.items.length < sizeLine/\∃ P:Nat->List D->aX->Prop,P 0 [] aA/\(∀ i ds G,i<=J.items.length->P i ds G->J.held G) ∧
 (∀(i:Nat)(d:D)(ds:List D)(G:aX),J.items[i]?=some d->P i ds G->g d (i5 nt cap ρ) G λ ρ3 cQ=>bo ρ3 cQ λ b eA=>cA b (aW ρ3 eA λ y eZ=>m2 (P (i+1) (ds++[y])) eZ) (m2 (P (i+1) ds) eA))/\∀ ds G,P J.items.length ds G->∀ p,G p=none->Q (.ref p) (up G p (.lst ds))
abbrev AL(cZ:i2)(g:e8)(aW:cj)(nt:Nat)(cap:List Nat):cj:=λ ρ G Q=>cZ ρ G (so g aW nt cap ρ Q)
abbrev AM(cZ:i2)(g:e8)(bo:eW)(aW:cj)(nt:Nat)(cap:List Nat):cj:=λ ρ G Q=>cZ ρ G (xZ g bo aW nt cap ρ Q)
theorem Sq{g:e8}{aW:cj}{nt:Nat}{cap:List Nat}{ρ:eb}{Q:c8}{J:kS}{aA:aX}(P:Nat->List D->aX->Prop)(hz:J.items.length < sizeLine)(h0:P 0 [] aA)(held:∀ i ds G,i<=J.items.length->P i ds G->J.held G)
 (turn:∀(i:Nat)(d:D)(ds:List D)(G:aX),J.items[i]?=some d->P i ds G->g d (i5 nt cap ρ) G λ ρ3 cQ=>aW ρ3 cQ λ y eZ=>m2 (P (i+1) (ds++[y])) eZ) (done:∀ ds G,P J.items.length ds G->∀ p,G p=none->Q (.ref p) (up G p (.lst ds))):so g aW nt cap ρ Q J aA:=by
 unfold so;exact ⟨hz,P,h0,held,turn,done⟩
theorem g7{α:Type}{J:kS}{aA:aX}{g:e8}{aW:cj}{nt:Nat}{cap:List Nat}{ρ:eb}{Q:c8}(xs:List α)(qM fn:α->D)(he:J.items=xs.map qM)(hz:xs.length < sizeLine)(held:J.held aA)
 (turn:∀ x∈xs,∀ R:c8,R (fn x) aA->g (qM x) (i5 nt cap ρ) aA λ ρ3 cQ=>aW ρ3 cQ R) (q:∀ p,aA p=none->Q (.ref p) (up aA p (.lst (xs.map fn)))) :
 so g aW nt cap ρ Q J aA:=by
 unfold so;refine ⟨by rw [he,bS];exact hz,λ i ds G=>G=aA/\ds=(xs.take i).map fn,⟨rfl,rfl⟩,λ i ds G _ h=>h.1 ▸ held,?_,?_⟩
 ·rintro i d ds G hd ⟨rfl,rfl⟩;rw [he,eu] at hd
  cases e:xs[i]? with
  | none=>rw [e] at hd;cases hd
  | some x=>
   rw [e] at hd;cases hd;refine turn x (ih e) _ (m2.of ⟨rfl,?_⟩);rw [p2,e,iQ];rfl
 ·rintro ds G ⟨rfl,rfl⟩ p az;rw [he,bS,p1];exact q p az
theorem iD{α:Type}{J:kS}{aA:aX}{g:e8}{bo:eW}{aW:cj}{nt:Nat}{cap:List Nat}{ρ:eb}{Q:c8}(xs:List α)(qM:α->D)(fn:α->Option D)(he:J.items=xs.map qM)(hz:xs.length < sizeLine)(held:J.held aA)
 (turn:∀ x∈xs,∀(R:c8)(S:aX->Prop),(∀ y,fn x=some y->R y aA)->(fn x=none->S aA)->g (qM x) (i5 nt cap ρ) aA λ ρ3 cQ=>bo ρ3 cQ λ b eA=>cA b (aW ρ3 eA R) (S eA)) (q:∀ p,aA p=none->Q (.ref p) (up aA p (.lst (xs.filterMap fn)))) :
 xZ g bo aW nt cap ρ Q J aA:=by
 unfold xZ;refine ⟨by rw [he,bS];exact hz,λ i ds G=>G=aA/\ds=(xs.take i).filterMap fn,⟨rfl,rfl⟩,λ i ds G _ h=>h.1 ▸ held,?_,?_⟩
 ·rintro i d ds G hd ⟨rfl,rfl⟩;rw [he,eu] at hd
  cases e:xs[i]? with
  | none=>rw [e] at hd;cases hd
  | some x=>
   rw [e] at hd;cases hd;refine turn x (ih e) _ _ (λ y bD=>m2.of ⟨rfl,?_⟩) (λ bD=>m2.of ⟨rfl,?_⟩)
   ·rw [p2,e,List.filterMap_append];simp [bD]
   ·rw [p2,e,List.filterMap_append];simp [bD]
 ·rintro ds G ⟨rfl,rfl⟩ p az;rw [he,bS,p1];exact q p az
theorem ek.pv{K:bl}{G:aX}{H:ay}{acc:Addr}{ys zs:List V}(v:ek K G H)(h:H acc=some (.lst ys))(n:G acc=tA):ek K G (upd H acc (.lst zs)):=λ a o e=>
 (v a o e).mono (mU h) (cV (by rintro rfl;rw [n] at e;cases e))
theorem Go.pv{K:bl}{G ap:aX}{H aj:ay}{acc:Addr}{ys zs:List V}(g:Go K G H ap aj)(h0:H acc=none)(h:aj acc=some (.lst ys))(n:ap acc=none):Go K G H ap (upd aj acc (.lst zs)) where
 tup:=⟨λ a xs q=>(mU h).dy a xs (g.tup.dy a xs q),λ a xs q=>(mU h).fr a xs (g.tup.fr a xs q),λ a o q=>(mU (K:=K) h).dm a o (g.tup.dm a o q)⟩
 iw:=λ a o e=>by
  obtain ⟨cT,cD⟩:=g.iw a o e;exact ⟨cT,by rw [cV (hU e h0)];exact cD⟩
 same:=λ a o e z=>by rw [cV (hU e h0)];exact g.same a o e z
 new:=g.new
 b3:=g.b3.pv h n
theorem dG.pv{K:bl}{ρ:eb}{G:aX}{σ:St}{H:ay}{acc:Addr}{ys zs:List V}(B:dG K ρ G σ H)(h:H acc=some (.lst ys))(n:G acc=none):dG K ρ G σ (upd H acc (.lst zs)):=
 ⟨B.len,λ i d e=>let ⟨v,ak,aq⟩:=B.st i d e;⟨v,ak,aq.mono (mU h)⟩,B.b3.pv h n⟩
theorem Go.held{K:bl}{G ap:aX}{H aj:ay}{acc:Addr}{ds:List D}{ys:List V}(g:Go K G H ap aj)(h0:H acc=none)(h:aj acc=some (.lst ys))(r:b2 K aj ds ys):Go K G H (up ap acc (.lst ds)) aj where
 tup:=g.tup
 iw:=g.iw
 same:=g.same
 new:=λ a o e z=>by rw [c7 (hU e h0)];exact g.new a o e z
 b3:=λ a o e=>by
  by_cases c:a=acc
  ·subst c;rw [bF] at e;cases e;exact ⟨ys,h,r⟩
  ·rw [c7 c] at e;exact g.b3 a o e
theorem Hr{K:bl}{ci:TI}{m1:fe}{ce:TE}{cZ:i2}{g:e8}{aW:cj}{nt:Nat}{cap:List Nat}(aO:n_ nt g)
 (gO:∀ ρ G ki σ H R,dG K ρ G σ H->cZ ρ G ki->(∀ J i3 ap aj,Go K G H ap aj->AF K J i3 ap aj->ki J ap->R i3 aj)->ci σ H R) (kj:xV K m1 g) (re:sl K ce aW):sl K (t_ ci m1 ce nt cap) (AL cZ g aW nt cap):=by
 intro ρ G au σ H Q B q F;refine gO ρ G _ σ H _ B q λ J i3 aA H1 g1 ok aH=>?_;unfold so at aH;obtain ⟨hsz,P,kk,held,turn,done⟩:=aH;intro acc gl;have mK:=g1.b3.none gl;have uX:=Go.mO (o:=.lst []) g1.b3 gl
 refine ⟨λ i m ys σ' aj=>m=J.items.length - i/\i<=J.items.length/\∃ ds ap,P i ds ap/\b2 K aj ds ys/\ds.length<=i/\dG K (i5 nt cap ρ) ap σ' aj/\Go K aA H1 ap aj/\ap acc=none/\aj acc=some (.lst ys),
  ⟨_,rfl,e0 _,[],aA,kk,rfl,b7 _,((B.go g1).comp nt cap).go uX,uX,mK,fi⟩,?_⟩
 rintro i m ys σ2 aS ⟨rfl,ar,ds,bc,cE,bK,bV,gk,g2,ff,aq⟩;have df:=ok bc aS g2 (held i ds bc ar cE);by_cases fy:i < J.items.length
 ·have hd:J.items[i]?=some J.items[i]:=by simp [fy]
  obtain ⟨go,uW⟩:=df.1 i _ hd;refine .inr ⟨go,λ x aj y=>?_⟩;obtain ⟨g3,a_⟩:=uW x aj y;refine kj _ x _ bc _ σ2 aj _ (gk.go g3) a_ (aO _ _ _ _ (turn i _ ds bc hd cE)) λ ρ4 eZ σ4 h2 iv hG ⟨kL,x0,uY⟩=>?_;refine re ρ4 eZ _ σ4 h2 _ hG kL λ z eA u fJ fz uJ x1=>?_;obtain ⟨kl,gK,uZ⟩:=x1;have fQ:=(g3.trans iv).trans fz;have dM:=fQ.same acc _ aq ff;have u0:=fQ.new acc _ aq ff;have oc:=gK.none u0;have iZ:dG K (i5 nt cap ρ) kl σ4 fJ:=(hG.go fz).weak ⟨x0.symm,λ j d e=>by rw [uY j (xW e)];exact e⟩ gK;refine ⟨dM,by rw [bK.len];omega,J.items.length - (i+1),by omega,rfl,fy,ds++[z],kl,uZ,((bK.mono fQ.tup).append (.one uJ)).mono (mU dM),by simp;omega,iZ.pv dM oc,(((g2.trans fQ).sub gK)).pv gl dM oc,oc,fi⟩
 ·have e:i=J.items.length:=by omega
  subst e;refine .inl ⟨df.2 _ (b7 _),F (.ref acc) (up bc acc (.lst ds)) _ _ ((g1.trans g2).held ?_ aq bK) rfl (done ds bc cE acc ff)⟩
  cases z:H acc with
  | none=>rfl
  | some o=>obtain ⟨cT,cD⟩:=g1.iw acc o z;rw [gl] at cD;cases cD
theorem Hs{K:bl}{ci:TI}{m1:fe}{n4:TT}{ce:TE}{cZ:i2}{g:e8}{bo:eW}{aW:cj}{nt:Nat}{cap:List Nat}(aO:n_ nt g)
 (gO:∀ ρ G ki σ H R,dG K ρ G σ H->cZ ρ G ki->(∀ J i3 ap aj,Go K G H ap aj->AF K J i3 ap aj->ki J ap->R i3 aj)->ci σ H R) (kj:xV K m1 g) (rt:AG K n4 bo) (re:sl K ce aW):sl K (ua ci m1 n4 ce nt cap) (AM cZ g bo aW nt cap):=by
 intro ρ G au σ H Q B q F;refine gO ρ G _ σ H _ B q λ J i3 aA H1 g1 ok aH=>?_;unfold xZ at aH;obtain ⟨hsz,P,kk,held,turn,done⟩:=aH;intro acc gl;have mK:=g1.b3.none gl;have uX:=Go.mO (o:=.lst []) g1.b3 gl
 refine ⟨λ i m ys σ' aj=>m=J.items.length - i/\i<=J.items.length/\∃ ds ap,P i ds ap/\b2 K aj ds ys/\ds.length<=i/\dG K (i5 nt cap ρ) ap σ' aj/\Go K aA H1 ap aj/\ap acc=none/\aj acc=some (.lst ys),
  ⟨_,rfl,e0 _,[],aA,kk,rfl,b7 _,((B.go g1).comp nt cap).go uX,uX,mK,fi⟩,?_⟩
 rintro i m ys σ2 aS ⟨rfl,ar,ds,bc,cE,bK,bV,gk,g2,ff,aq⟩;have df:=ok bc aS g2 (held i ds bc ar cE);by_cases fy:i < J.items.length
 ·have hd:J.items[i]?=some J.items[i]:=by simp [fy]
  obtain ⟨go,uW⟩:=df.1 i _ hd;refine .inr ⟨go,λ x aj y=>?_⟩;obtain ⟨g3,a_⟩:=uW x aj y;refine kj _ x _ bc _ σ2 aj _ (gk.go g3) a_ (aO _ _ _ _ (turn i _ ds bc hd cE)) λ ρ4 eZ σ4 h2 iv hG ⟨kL,x0,uY⟩=>?_;refine rt ρ4 eZ _ σ4 h2 _ hG kL λ rY m3 fu qz kD=>?_
  cases rY with
  | true=>
   refine re ρ4 m3 _ σ4 fu _ (hG.go qz) (kD.1 rfl) λ z eA u fJ fz uJ x1=>?_;obtain ⟨kl,gK,uZ⟩:=x1;have fQ:=((g3.trans iv).trans qz).trans fz;have dM:=fQ.same acc _ aq ff;have u0:=fQ.new acc _ aq ff;have oc:=gK.none u0;have iZ:dG K (i5 nt cap ρ) kl σ4 fJ:=((hG.go qz).go fz).weak ⟨x0.symm,λ j d e=>by rw [uY j (xW e)];exact e⟩ gK;exact ⟨dM,by rw [bK.len];omega,J.items.length - (i+1),by omega,rfl,fy,ds++[z],kl,uZ,((bK.mono fQ.tup).append (.one uJ)).mono (mU dM),by simp;omega,iZ.pv dM oc,(((g2.trans fQ).sub gK)).pv gl dM oc,oc,fi⟩
  | false=>
   obtain ⟨kl,gK,uZ⟩:=kD.2 rfl;have fQ:=(g3.trans iv).trans qz;have dM:=fQ.same acc _ aq ff;have u0:=fQ.new acc _ aq ff;have oc:=gK.none u0;have iZ:dG K (i5 nt cap ρ) kl σ4 fu:=(hG.go qz).weak ⟨x0.symm,λ j d e=>by rw [uY j (xW e)];exact e⟩ gK;exact ⟨J.items.length - (i+1),by omega,rfl,fy,ds,kl,uZ,bK.mono fQ.tup,by omega,iZ,(g2.trans fQ).sub gK,oc,dM⟩
 ·have e:i=J.items.length:=by omega
  subst e;refine .inl ⟨df.2 _ (b7 _),F (.ref acc) (up bc acc (.lst ds)) _ _ ((g1.trans g2).held ?_ aq bK) rfl (done ds bc cE acc ff)⟩
  cases z:H acc with
  | none=>rfl
  | some o=>obtain ⟨cT,cD⟩:=g1.iw acc o z;rw [gl] at cD;cases cD
theorem qN{scope:eC}{N':List Str}{nt:Nat}{cap:List Nat}{cZ:i2}{g:e8}(aE:X.calm=true)(ok:ey X scope N' nt cap)(aO:n_ nt g)(ar:n7 X bp iter cZ)(aZ:∀ C ex s H,iy (c0 X scope N' C ex s H) bp g)(he:∀ C ex s H,bZ (c0 X scope N' C ex s H) elt aW)
 (ax:∀ x,iN iter X.env x=pure x:=by intro _;rfl):bZ X (.ListComp elt [⟨bp,iter,[],0⟩] scope pos) (AL cZ g aW nt cap):=by
 obtain ⟨ci,i4,gO⟩:=ar.run;obtain ⟨m1,n9,kj⟩:=iy.kT (ι:=Addr × List Addr × aC × ay) (cx:=λ z=>c0 X scope N' z.1 z.2.1 z.2.2.1 z.2.2.2) (K:=X.K) (λ _=>rfl) λ z=>aZ _ _ _ _;obtain ⟨ce,hr,re⟩:=bZ.kT (ι:=Addr × List Addr × aC × ay) (cx:=λ z=>c0 X scope N' z.1 z.2.1 z.2.2.1 z.2.2.2) (K:=X.K) (λ _=>rfl) λ z=>he _ _ _ _;exact ⟨_,PV aE ok i4 (λ C ex s H=>n9 (C,ex,s,H)) (λ C ex s H=>hr (C,ex,s,H)) ax,Hr aO gO kj re⟩
theorem u1{scope:eC}{N':List Str}{nt:Nat}{cap:List Nat}{cZ:i2}{g:e8}{bo:eW}(aE:X.calm=true)(ok:ey X scope N' nt cap)(aO:n_ nt g)(ar:n7 X bp iter cZ)(aZ:∀ C ex s H,iy (c0 X scope N' C ex s H) bp g)(bT:∀ C ex s H,AT (c0 X scope N' C ex s H) ct bo)(he:∀ C ex s H,bZ (c0 X scope N' C ex s H) elt aW)
 (ax:∀ x,iN iter X.env x=pure x:=by intro _;rfl):bZ X (.ListComp elt [⟨bp,iter,[ct],0⟩] scope pos) (AM cZ g bo aW nt cap):=by
 obtain ⟨ci,i4,gO⟩:=ar.run;obtain ⟨m1,n9,kj⟩:=iy.kT (ι:=Addr × List Addr × aC × ay) (cx:=λ z=>c0 X scope N' z.1 z.2.1 z.2.2.1 z.2.2.2) (K:=X.K) (λ _=>rfl) λ z=>aZ _ _ _ _;obtain ⟨n4,AN,rt⟩:=AT.kT (ι:=Addr × List Addr × aC × ay) (cx:=λ z=>c0 X scope N' z.1 z.2.1 z.2.2.1 z.2.2.2) (K:=X.K) (λ _=>rfl) λ z=>bT _ _ _ _;obtain ⟨ce,hr,re⟩:=bZ.kT (ι:=Addr × List Addr × aC × ay) (cx:=λ z=>c0 X scope N' z.1 z.2.1 z.2.2.1 z.2.2.2) (K:=X.K) (λ _=>rfl) λ z=>he _ _ _ _;exact ⟨_,PW aE ok i4 (λ C ex s H=>n9 (C,ex,s,H)) (λ C ex s H=>AN (C,ex,s,H)) (λ C ex s H=>hr (C,ex,s,H)) ax,Hs aO gO kj rt re⟩
theorem Sr{scope:eC}{N':List Str}{nt:Nat}{cap:List Nat}{cZ:i2}{g:e8}{y:Str}{py h4:Pos}{k:Nat}(aE:X.calm=true)(cw:X.N.Nodup)(bD:X.N[k]?=some y)(aQ:Loc X.env.scope y)(ok:ey X scope N' nt cap)(aO:n_ nt g)(ar:n7 X bp iter cZ)(aZ:∀ C ex s H,iy (c0 X scope N' C ex s H) bp g)(he:∀ C ex s H,bZ (c0 X scope N' C ex s H) elt aW)
 (ax:∀ x,iN iter X.env x=pure x:=by intro _;rfl) (lE:je (.ListComp elt [⟨bp,iter,[],0⟩] scope pos) (some (.Name y py)) h4.line X.env=pure true:=by rfl) (hf:X.fn y=true\/X.env.scope.names.lookup y=some .local:=by first | exact .inl rfl | exact .inr rfl | assumption) :
 i1 X (.Assign [.Name y py] (.ListComp elt [⟨bp,iter,[],0⟩] scope pos) h4) (xL (AL cZ g aW nt cap) (se k)):=by
 obtain ⟨ci,i4,gO⟩:=ar.run;obtain ⟨m1,n9,kj⟩:=iy.kT (ι:=Addr × List Addr × aC × ay) (cx:=λ z=>c0 X scope N' z.1 z.2.1 z.2.2.1 z.2.2.2) (K:=X.K) (λ _=>rfl) λ z=>aZ _ _ _ _;obtain ⟨ce,hr,re⟩:=bZ.kT (ι:=Addr × List Addr × aC × ay) (cx:=λ z=>c0 X scope N' z.1 z.2.1 z.2.2.1 z.2.2.2) (K:=X.K) (λ _=>rfl) λ z=>he _ _ _ _;exact ⟨_,P5 aE cw bD aQ ok i4 (λ C ex s H=>n9 (C,ex,s,H)) (λ C ex s H=>hr (C,ex,s,H)) ax lE hf,λ dR eT ρ G σ H B q F=>Hr aO gO kj re ρ G _ σ H _ B q λ d aA v H1 g1 a aH=>F.nx _ aA _ H1 g1 ((B.go g1).set a k) aH⟩
theorem Ss{scope:eC}{N':List Str}{nt:Nat}{cap:List Nat}{cZ:i2}{g:e8}{bo:eW}{y:Str}{py h4:Pos}{k:Nat}(aE:X.calm=true)(cw:X.N.Nodup)(bD:X.N[k]?=some y)(aQ:Loc X.env.scope y)(ok:ey X scope N' nt cap)(aO:n_ nt g)(ar:n7 X bp iter cZ)(aZ:∀ C ex s H,iy (c0 X scope N' C ex s H) bp g)(bT:∀ C ex s H,AT (c0 X scope N' C ex s H) ct bo)(he:∀ C ex s H,bZ (c0 X scope N' C ex s H) elt aW)
 (ax:∀ x,iN iter X.env x=pure x:=by intro _;rfl) (lE:je (.ListComp elt [⟨bp,iter,[ct],0⟩] scope pos) (some (.Name y py)) h4.line X.env=pure true:=by rfl) (hf:X.fn y=true\/X.env.scope.names.lookup y=some .local:=by first | exact .inl rfl | exact .inr rfl | assumption) :
 i1 X (.Assign [.Name y py] (.ListComp elt [⟨bp,iter,[ct],0⟩] scope pos) h4) (xL (AM cZ g bo aW nt cap) (se k)):=by
 obtain ⟨ci,i4,gO⟩:=ar.run;obtain ⟨m1,n9,kj⟩:=iy.kT (ι:=Addr × List Addr × aC × ay) (cx:=λ z=>c0 X scope N' z.1 z.2.1 z.2.2.1 z.2.2.2) (K:=X.K) (λ _=>rfl) λ z=>aZ _ _ _ _;obtain ⟨n4,AN,rt⟩:=AT.kT (ι:=Addr × List Addr × aC × ay) (cx:=λ z=>c0 X scope N' z.1 z.2.1 z.2.2.1 z.2.2.2) (K:=X.K) (λ _=>rfl) λ z=>bT _ _ _ _;obtain ⟨ce,hr,re⟩:=bZ.kT (ι:=Addr × List Addr × aC × ay) (cx:=λ z=>c0 X scope N' z.1 z.2.1 z.2.2.1 z.2.2.2) (K:=X.K) (λ _=>rfl) λ z=>he _ _ _ _;exact ⟨_,P6 aE cw bD aQ ok i4 (λ C ex s H=>n9 (C,ex,s,H)) (λ C ex s H=>AN (C,ex,s,H)) (λ C ex s H=>hr (C,ex,s,H)) ax lE hf,λ dR eT ρ G σ H B q F=>Hs aO gO kj rt re ρ G _ σ H _ B q λ d aA v H1 g1 a aH=>F.nx _ aA _ H1 g1 ((B.go g1).set a k) aH⟩
structure u2(X:bb)(T id:String)(ty:D->aX->Prop)(r:D->List D->aX->c8->Prop):Prop where
 run:∃ rc:V->List V->ay->cK->Prop,pc X id rc/\(∀ x v G H,ek X.K G H->db X.K H x v->ty x G->t7 X.K T v H) ∧
  ∀ x xs eX ai G H au Q,ek X.K G H->db X.K H x eX->b2 X.K H xs ai->r x xs G au->Fin X.K G H au Q->rc eX ai H Q
abbrev Su(ty:D->aX->Prop)(r:D->List D->aX->c8->Prop)(to:cj)(t:fM):cj:=λ ρ G Q=>to ρ G λ x aA=>ty x aA/\t ρ aA λ xs bc=>r x xs bc Q
abbrev Sv(ty:D->aX->Prop)(r:D->List D->aX->c8->Prop)(to:cj):cj:=λ ρ G Q=>to ρ G λ x aA=>ty x aA/\r x [] aA Q
theorem iE{name:Str}{T id:String}{ty:D->aX->Prop}{r:D->List D->aX->c8->Prop}(lr:rp T)(slot:jg T name id)(ls:ry (.builtin id)=pure (.type "method_descriptor"))(hm:u2 X T id ty r)(a4:bZ X o to)(aD:h7 X [e] t)
 (lu:rn o name X.env (eval o X.env)=eval o X.env:=by rfl) (lv:(apos.endLine==fx.line)=true:=by rfl) (ax:dw e=true:=by rfl):bZ X (.Call (.Attribute o name apos) [e] [] fx) (Su ty r to t):=by
 obtain ⟨co,hq,gN⟩:=a4.run;obtain ⟨ca,cM,cN⟩:=aD.run;obtain ⟨Sw,AO,bD,AP⟩:=hm.run;refine ⟨_,Pv lr slot ls AO hq cM lu lv ax,λ ρ G au σ H Q B q F=>gN ρ G _ σ H _ B q λ x aA v H1 g1 a_ ⟨ak,aH⟩=>⟨bD x v aA H1 g1.b3 a_ ak,?_⟩⟩;exact cN ρ aA _ σ H1 _ (B.go g1) aH λ xs bc ai aS g2 al _ bI=>AP x xs v ai bc aS au Q g2.b3 (a_.mono g2.tup) al bI (F.after (g1.trans g2))
theorem qO{name:Str}{T id:String}{ty:D->aX->Prop}{r:D->List D->aX->c8->Prop}(lr:rp T)(slot:jg T name id)(ls:ry (.builtin id)=pure (.type "method_descriptor"))(hm:u2 X T id ty r)(a4:bZ X o to)
 (lu:rn o name X.env (eval o X.env)=eval o X.env:=by rfl) (lv:(apos.endLine==fx.line)=true:=by rfl):bZ X (.Call (.Attribute o name apos) [] [] fx) (Sv ty r to):=by
 obtain ⟨co,hq,gN⟩:=a4.run;obtain ⟨Sw,AO,bD,AP⟩:=hm.run;exact ⟨_,Pw lr slot ls AO hq lu lv,λ ρ G au σ H Q B q F=>gN ρ G _ σ H _ B q λ x aA v H1 g1 a_ ⟨ak,aH⟩=>⟨bD x v aA H1 g1.b3 a_ ak,AP x [] v [] aA H1 au Q g1.b3 a_ rfl aH (F.after g1)⟩⟩
def x2:D->aX->Prop:=λ x G=>match x with
 | .ref l=>gB G l λ _=>True
 | _=>False
theorem AQ{K:bl}{x:D}{v:V}{G:aX}{H:ay}(w:ek K G H)(a_:db K H x v)(h:x2 x G):t7 K "list" v H:=by
 cases x with
 | ref l=>cases a_;obtain ⟨ds,ai,_,s,_⟩:=hJ w h;exact .inl ⟨rfl,ai,s⟩
 | _=>exact (show False from h).elim
def Ht:D->List D->aX->c8->Prop:=λ x xs G Q=>match x,xs with
 | .ref l,[y]=>kK G l λ ds=>ds.length < sizeLine/\Q .bJ (up G l (.lst (ds++[y])))
 | _,_=>False
theorem kU:u2 X "list" "list.append" x2 Ht:=by
 refine ⟨_,⟨t8⟩,λ x v G H w a_ h=>AQ w a_ h,λ x xs eX ai G H au Q v a_ al r F=>?_⟩;unfold Ht at r;split at r
 ·next l y=>
  cases a_;obtain ⟨u,us,rfl,qL,z⟩:=al;cases z;obtain ⟨ds,ws,k,aP,ak,bj⟩:=pp v r;exact ⟨l,ws,u,rfl,rfl,ak,by rw [bj.len];exact k.1,F .bJ _ _ _ (Go.uG v aP (bj.append (.one qL))) rfl k.2⟩
 ·exact r.elim
def Hu:D->List D->aX->c8->Prop:=λ x xs G Q=>match x,xs with
 | .ref l,[.tup ah]=>kK G l λ ds=>ds.length+ah.length<=sizeLine/\Q .bJ (up G l (.lst (ds++ah)))
 | .ref l,[.ref m]=>kK G l λ ds=>kK G m λ ah=>ds.length+ah.length<=sizeLine/\Q .bJ (up G l (.lst (ds++ah)))
 | _,_=>False
theorem pc.or{id:String}{r dK:V->List V->ay->cK->Prop}(h:pc X id r)(h':pc X id dK):pc X id (λ x xs H Q=>r x xs H Q\/dK x xs H Q):=⟨h.run.or h'.run⟩
theorem x3:u2 X "list" "list.extend" x2 Hu:=by
 refine ⟨_,pc.or ⟨OE⟩ ⟨Oc⟩,λ x v G H w a_ h=>AQ w a_ h,λ x xs eX ai G H au Q v a_ al r F=>?_⟩;unfold Hu at r;split at r
 ·next l fc=>
  cases a_;obtain ⟨u,us,rfl,⟨m,zs,rfl,s,Hv⟩,z⟩:=al;cases z;obtain ⟨ds,ws,k,aP,ak,bj⟩:=pp v r;exact .inl ⟨l,m,ws,zs,rfl,rfl,ak,s,by rw [bj.len,Hv.len];exact k.1,F .bJ _ _ _ (Go.uG v aP (bj.append Hv)) rfl k.2⟩
 ·next l m=>
  cases a_;obtain ⟨u,us,rfl,qL,z⟩:=al;cases z;cases qL;obtain ⟨ds,ws,k,aP,ak,bj⟩:=pp v r;obtain ⟨fc,zs,df,aL,aq,bK⟩:=pp v k;exact .inr ⟨l,m,ws,zs,rfl,rfl,ak,aq,by rw [bj.len,bK.len];exact df.1,F .bJ _ _ _ (Go.uG v aP (bj.append bK)) rfl df.2⟩
 ·exact r.elim
def Hw:D->List D->aX->c8->Prop:=λ x xs G Q=>match x,xs with
 | .ref l,[]=>kK G l λ ds=>∃ ah d,ds=ah++[d]/\Q d (up G l (.lst ah))
 | _,_=>False
theorem qP:u2 X "list" "list.pop" x2 Hw:=by
 refine ⟨_,⟨Oe⟩,λ x v G H w a_ h=>AQ w a_ h,λ x xs eX ai G H au Q v a_ al r F=>?_⟩;unfold Hw at r;split at r
 ·next l=>
  cases a_;cases al;obtain ⟨ds,ws,⟨fc,d,rfl,k⟩,aP,ak,bj⟩:=pp v r;have aQ:=bj.len
  have hd:(fc++[d])[fc.length]?=some d:=by simp
  obtain ⟨u,a0,qL⟩:=bj.get hd
  have e:ws.length - 1=fc.length:=by rw [aQ];simp
  have bK:b2 X.K H fc ws.dropLast:=by
   have z:=bj.take fc.length;rw [List.take_left] at z;rw [List.dropLast_eq_take,e];exact z
  have g:=Go.uG v aP bK;exact ⟨l,ws,u,rfl,rfl,ak,by rw [e];exact a0,F d _ _ _ g (qL.mono g.tup) k⟩
 ·exact r.elim
abbrev cS:=List D->aX->c8->Prop
def aK(K:bl)(d9:cS):fK:=λ ai H Q _=>∃ ds G au,b2 K H ds ai/\ek K G H/\d9 ds G au/\Fin K G H au Q
abbrev Hx(d9:cS)(t:fM):cj:=λ ρ G Q=>t ρ G λ ds aA=>d9 ds aA Q
theorem bn{k j:Nat}{x:Str}{ps:List Str}{d9:cS}(Gt:Got X.prog X.w X.K X.mg X.base k x ps (aK X.K d9))(am:eF j X.A)(aO:k<=j)(aZ:di X x)(aD:h7 X (e::ah) t)(gh:(x==("__debug__" : Str))=false:=by decide)
 (ax:(e::ah).all dw=true:=by rfl):bZ X (.Call (.Name x p) (e::ah) [] pos) (Hx d9 t):=by
 obtain ⟨ca,cM,cN⟩:=aD.run;exact ⟨_,Ps Gt am aO aZ cM gh ax,λ ρ G au σ H Q B q F=>cN ρ G _ σ H _ B q λ ds aA ai H1 g1 al _ aH=>⟨ds,aA,au,by rw [k4];exact al,g1.b3,aH,F.after g1⟩⟩
abbrev Sx(k:Nat)(f:Addr)(d9:cS)(t:fM):cj:=λ ρ G Q=>ρ[k]?=some (some (.ref f))/\Hx d9 t ρ G Q
theorem Hy(n:Nat){k j:Nat}{f:Addr}{x:Str}{d9:cS}(Gt:r0 X.prog X.w X.K X.mg X.base k f (aK X.K d9))(am:eF j X.A)(aO:k<=j)(aD:h7 X (e::ah) t)(cw:X.N[n]?=some x:=by rfl)(bC:ld X.env.scope x:=by first | exact Or.inl rfl | exact Or.inr (Or.inl rfl) | exact Or.inr (Or.inr rfl))
 (hd:(x==("__debug__" : Str))=false:=by decide) (e3:(x==("__classdict__" : Str))=false:=by decide) (ax:(e::ah).all dw=true:=by rfl):bZ X (.Call (.Name x p) (e::ah) [] pos) (Sx n f d9 t):=by
 obtain ⟨ca,cM,cN⟩:=aD.run;refine ⟨_,P8 n Gt am aO cM cw bC hd e3 ax,λ ρ G au σ H Q B q F=>?_⟩;obtain ⟨jy,q⟩:=q;obtain ⟨v,ak,aq⟩:=B.st n _ jy;cases aq;exact ⟨ak,cN ρ G _ σ H _ B q λ ds aA ai H1 g1 al _ aH=>⟨ds,aA,au,by rw [k4];exact al,g1.b3,aH,F.after g1⟩⟩
def bh(au:c8):c8:=λ d G=>∃ ap,Sub ap G/\au d ap
theorem bh.of{au:c8}{d:D}{G:aX}(h:au d G):bh au d G:=⟨G,.refl _,h⟩
def qQ(N:List Str)(ds:List D):eb:=ds.map some++mj (N.length - ds.length) none
theorem Hz{K:bl}{N:List Str}{ds:List D}{ai:List V}{G:aX}{H:ay}(r:b2 K H ds ai)(v:ek K G H):dG K (qQ N ds) G (L2.jw N ai) H:=by
 have aQ:=r.len;refine ⟨by simp [qQ,L2.jw,aQ],λ i d h=>?_,v⟩;unfold qQ at h;unfold L2.jw;by_cases c:i < ds.length
 ·rw [k5 (by simpa using c),eu] at h;rw [k5 (by simpa [aQ] using c),eu]
  cases e:ds[i]? with
  | none=>rw [e] at h;cases h
  | some z=>
   rw [e] at h;simp at h;subst h;obtain ⟨u,ak,aq⟩:=r.get e;exact ⟨u,by rw [ak];rfl,aq⟩
 ·rw [nw (by simpa using c),rA] at h;split at h<;>cases h
theorem dn{P:ck}{w:bW}{K:bl}{mg:Str->Option Value}{base:bL}{x qual:Str}{st:bB}{f:Addr}{fd:f9}{N ps:List Str}{k:Nat}{d9:cS}(F:c3 K x qual st f fd)(S:c9 N ps (b1 st))(len:∀ ds G au,d9 ds G au->ds.length=ps.length)
 (j6:∀(bE:Value)(A:c1)(outer:List Env)(s:aC)(H:ay)(E:hW),eF k (A.deeper (PyProof.Rows.envOfC qual (b1 st) s.heap.objs.size f bE))->∀(ds:List D)(G:aX)(au:c8),d9 ds G au →
  ∃ t,lQ (nK cc P w K mg base N qual (b1 st) f bE A outer s H E).oU (gP st) t/\t { nx:=λ _ ap=>bh au .bJ ap,rt:=bh au } (qQ N ds) G):cp P w K mg base cc (k+1) f fd ps (aK K d9):=by
 refine F.PX S (λ ai H Q E h=>?_) (λ bE A outer s H ai Q E am h=>?_)
 ·obtain ⟨ds,G,au,r,_,h,_⟩:=h;rw [r.len];exact len ds G au h
 ·obtain ⟨ds,G,au,r,v,h,qR⟩:=h;obtain ⟨t,⟨bo,j,imp⟩,q⟩:=j6 bE A outer s H E am ds G au h;refine ⟨bo,j,imp _ _ (qQ N ds) G (L2.jw N ai) H (Hz r v) q ⟨λ ρ' ap σ' aj g b ⟨bc,s2,bI⟩=>qR .bJ bc .bJ aj (g.sub s2) rfl bI,λ d ap v aj g a ⟨bc,s2,bI⟩=>qR d bc v aj (g.sub s2) a bI,λ _ _ _ _ _ _ z=>z.elim,λ _ _ _ _ _ _ z=>z.elim⟩⟩
end
mutual
def gm:D->D->Bool
 | .bJ,.bJ=>true
 | .aU a,.aU b=>a==b
 | .aU a,.int b=>(if a then 1 else 0)==b
 | .int a,.aU b=>a==(if b then 1 else 0)
 | .int a,.int b=>a==b
 | .str a,.str b=>a==b
 | .tup xs,.tup ys=>jF xs ys
 | _,_=>false
def jF:List D->List D->Bool
 | [],[]=>true
 | x::xs,y::ys=>gm x y&&jF xs ys
 | _,_=>false
end
mutual
def D.data:D->Bool
 | .ref _=>false
 | .ty _=>false
 | .dY _=>false
 | .tup ds=>h_ ds
 | _=>true
def h_:List D->Bool
 | []=>true
 | d::ds=>d.data&&h_ ds
end
mutual
def D.aJ:D->Nat
 | .tup ds=>1+g8 ds
 | _=>0
def g8:List D->Nat
 | []=>0
 | d::ds=>max d.aJ (g8 ds)
end
def iF(ds ah:List D)(j:Nat):Bool:=match ds[j]?,ah[j]? with
 | some d,some e=>gm d e
 | _,_=>false
theorem u3:∀(ds ah:List D),((eL (min ds.length ah.length)).all (iF ds ah)&&ds.length==ah.length)=jF ds ah
 | [],[]=>by simp [jF]
 | [],e::ah=>by simp [jF]
 | d::ds,[]=>by simp [jF]
 | d::ds,e::ah=>by
  rw [jF,<- u3 ds ah,dH,dH,Nat.succ_min_succ,List.range_succ_eq_map,iP,List.all_map];have ak:iF (d::ds) (e::ah) 0=gm d e:=rfl
  have aq:(iF (d::ds) (e::ah) ∘ Nat.succ)=iF ds ah:=by funext j;simp [iF]
  rw [ak,aq,Bool.and_assoc];congr 2;rw [tB];simp
section
variable{X:bb}{pins:List (Addr × Obj)}{σ:L2.St}{H:ay}{s:aC}
mutual
theorem Sy(I:Inv X pins σ H s):∀{d e:D}{v:V},d.data=true->e.data=true->db X.K H d v->db X.K H e v->d=e
 | .bJ,e,v,_,h,a,b=>by
  cases a;cases e<;>first | rfl | (cases b;done) | (obtain ⟨_,_,z,_⟩:=b;cases z)
 | .aU _,e,v,_,h,a,b=>by
  cases a;cases e<;>first | (cases b;rfl) | (cases b;done) | (obtain ⟨_,_,z,_⟩:=b;cases z)
 | .int _,e,v,_,h,a,b=>by
  cases a;cases e<;>first | (cases b;rfl) | (cases b;done) | (obtain ⟨_,_,z,_⟩:=b;cases z)
 | .str _,e,v,_,h,a,b=>by
  cases a;cases e<;>first | (cases b;rfl) | (cases b;done) | (obtain ⟨_,_,z,_⟩:=b;cases z)
 | .ref _,_,_,h,_,_,_=>by simp [D.data] at h
 | .ty _,_,_,h,_,_,_=>by simp [D.data] at h
 | .dY _,_,_,h,_,_,_=>by simp [D.data] at h
 | .tup ds,e,v,h0,h,a,b=>by
  obtain ⟨l,ai,rfl,s1,bj⟩:=a
  cases e with
  | tup ah=>
   obtain ⟨m,us,z,s2,bK⟩:=b;cases z;have e:=I.tP s1 s2;subst e;rw [AR I (by simpa [D.data] using h0) (by simpa [D.data] using h) bj bK]
  | ref m=>simp [D.data] at h
  | dY m=>simp [D.data] at h
  | _=>cases b
theorem AR(I:Inv X pins σ H s):∀{ds ah:List D}{ai:List V},h_ ds=true->h_ ah=true->b2 X.K H ds ai->b2 X.K H ah ai->ds=ah
 | [],[],_,_,_,_,_=>rfl
 | [],e::ah,_,_,_,a,b=>by cases a;obtain ⟨_,_,z,_⟩:=b;cases z
 | d::ds,[],_,_,_,a,b=>by cases b;obtain ⟨_,_,z,_⟩:=a;cases z
 | d::ds,e::ah,ai,ak,aq,⟨v,r,aP,a1,cu⟩,⟨u,q,aL,a2,bV⟩=>by
  subst aP;cases aL;simp only [h_,eU] at ak aq;rw [Sy I ak.1 aq.1 a1 a2,AR I ak.2 aq.2 cu bV]
end
mutual
theorem HA:∀{d:D},d.data=true->gm d d=true
 | .bJ,_=>rfl
 | .aU _,_=>by simp [gm]
 | .int _,_=>by simp [gm]
 | .str _,_=>by simp [gm]
 | .ref _,h=>by simp [D.data] at h
 | .ty _,h=>by simp [D.data] at h
 | .dY _,h=>by simp [D.data] at h
 | .tup ds,h=>by rw [gm];exact HB (by simpa [D.data] using h)
theorem HB:∀{ds:List D},h_ ds=true->jF ds ds=true
 | [],_=>rfl
 | d::ds,h=>by
  simp only [h_,eU] at h;rw [jF,HA h.1,HB h.2];rfl
end
mutual
theorem Sz(I:Inv X pins σ H s):∀(d e:D)(A:c1)(x y:V)(u v:Value),d.data=true->e.data=true->db X.K H d x->db X.K H e y->RelV x u->RelV y v->A.units+d.aJ < eK->SeqAt.EqAt A s u v (gm d e)
 | .tup ds,e,A,x,y,u,v,hd,he,a_,bq,dP,be,a0=>by
  obtain ⟨a,ai,rfl,s1,bj⟩:=a_;cases dP;obtain ⟨aM,dL,t1,_⟩:=I.tuple s1
  have eJ:A.units < eK:=by omega
  cases e with
  | bJ=>cases bq;cases be;exact SeqAt.EqAt.tuple_none t1 eJ
  | aU b=>cases bq;cases be;exact SeqAt.EqAt.tuple_bool b t1 eJ
  | int b=>cases bq;obtain ⟨t,rfl⟩:=be;exact SeqAt.EqAt.tuple_int b t t1 eJ
  | str b=>cases bq;obtain ⟨t,rfl⟩:=be;exact SeqAt.EqAt.tuple_str b t t1 eJ
  | ref b=>simp [D.data] at he
  | ty b=>simp [D.data] at he
  | dY b=>simp [D.data] at he
  | tup ah=>
   obtain ⟨b,us,rfl,s2,bK⟩:=bq;cases be;by_cases nX:a=b
   ·subst nX;have aP:=I.tP s1 s2;subst aP;have aL:=AR I (by simpa [D.data] using hd) (by simpa [D.data] using he) bj bK;subst aL;rw [HA hd];exact SeqAt.EqAt.same _
   ·obtain ⟨dk,eN,c2,_⟩:=I.tuple s2;have cu:=dL.length;have bV:=eN.length;have jG:=bj.len;have lV:=bK.len;simp only [D.aJ] at a0
    have z:=SeqAt.RcAt.tuples (A:=A) (e:=iF ds ah) t1 c2 eJ (λ j ak aq=>by
     have q:=sq I ds ah A.in1 ai us aM dk (by simpa [D.data] using hd) (by simpa [D.data] using he) bj bK dL eN (by show A.units+1+g8 ds < eK;omega) j (by simpa using ak) (by simpa using aq)
     simpa using q)
    have sr:((eL (min aM.toArray.size dk.toArray.size)).all (iF ds ah)&&aM.toArray.size==dk.toArray.size)=gm (.tup ds) (.tup ah):=by
     rw [c_,c_,<- cu,<- bV,jG,lV,u3];rfl
    rw [sr] at z;exact SeqAt.EqAt.of_refs nX z
 | .ref _,_,_,_,_,_,_,hd,_,_,_,_,_,_=>by simp [D.data] at hd
 | .ty _,_,_,_,_,_,_,hd,_,_,_,_,_,_=>by simp [D.data] at hd
 | .dY _,_,_,_,_,_,_,hd,_,_,_,_,_,_=>by simp [D.data] at hd
 | .bJ,e,A,x,y,u,v,hd,he,a_,bq,dP,be,a0=>by
  cases a_;cases dP
  have eJ:A.units < eK:=by omega
  cases e with
  | bJ=>cases bq;cases be;exact SeqAt.EqAt.same _
  | aU b=>cases bq;cases be;exact SeqAt.EqAt.none_bool b
  | int b=>cases bq;obtain ⟨t,rfl⟩:=be;exact SeqAt.EqAt.none_int b t
  | str b=>cases bq;obtain ⟨t,rfl⟩:=be;exact SeqAt.EqAt.none_str b t
  | ref b=>simp [D.data] at he
  | ty b=>simp [D.data] at he
  | dY b=>simp [D.data] at he
  | tup ah=>obtain ⟨b,us,rfl,s2,bK⟩:=bq;cases be;obtain ⟨dk,eN,c2,_⟩:=I.tuple s2;exact SeqAt.EqAt.none_tuple c2 eJ
 | .aU a,e,A,x,y,u,v,hd,he,a_,bq,dP,be,a0=>by
  cases a_;cases dP
  have eJ:A.units < eK:=by omega
  cases e with
  | bJ=>cases bq;cases be;exact SeqAt.EqAt.bool_none a
  | aU b=>cases bq;cases be;exact SeqAt.EqAt.bool_bool a b
  | int b=>cases bq;obtain ⟨t,rfl⟩:=be;exact SeqAt.EqAt.bool_int a b t
  | str b=>cases bq;obtain ⟨t,rfl⟩:=be;exact SeqAt.EqAt.bool_str a b t
  | ref b=>simp [D.data] at he
  | ty b=>simp [D.data] at he
  | dY b=>simp [D.data] at he
  | tup ah=>obtain ⟨b,us,rfl,s2,bK⟩:=bq;cases be;obtain ⟨dk,eN,c2,_⟩:=I.tuple s2;exact SeqAt.EqAt.bool_tuple a c2 eJ
 | .int a,e,A,x,y,u,v,hd,he,a_,bq,dP,be,a0=>by
  cases a_;obtain ⟨t',rfl⟩:=dP
  have eJ:A.units < eK:=by omega
  cases e with
  | bJ=>cases bq;cases be;exact SeqAt.EqAt.int_none a t'
  | aU b=>cases bq;cases be;exact SeqAt.EqAt.int_bool a t' b
  | int b=>cases bq;obtain ⟨t,rfl⟩:=be;exact SeqAt.EqAt.int_int a t' b t
  | str b=>cases bq;obtain ⟨t,rfl⟩:=be;exact SeqAt.EqAt.int_str a t' b t
  | ref b=>simp [D.data] at he
  | ty b=>simp [D.data] at he
  | dY b=>simp [D.data] at he
  | tup ah=>obtain ⟨b,us,rfl,s2,bK⟩:=bq;cases be;obtain ⟨dk,eN,c2,_⟩:=I.tuple s2;exact SeqAt.EqAt.int_tuple a t' c2 eJ
 | .str a,e,A,x,y,u,v,hd,he,a_,bq,dP,be,a0=>by
  cases a_;obtain ⟨t',rfl⟩:=dP
  have eJ:A.units < eK:=by omega
  cases e with
  | bJ=>cases bq;cases be;exact SeqAt.EqAt.str_none a t'
  | aU b=>cases bq;cases be;exact SeqAt.EqAt.str_bool a t' b
  | int b=>cases bq;obtain ⟨t,rfl⟩:=be;exact SeqAt.EqAt.str_int a t' b t
  | str b=>cases bq;obtain ⟨t,rfl⟩:=be;exact SeqAt.EqAt.str_str a t' b t
  | ref b=>simp [D.data] at he
  | ty b=>simp [D.data] at he
  | dY b=>simp [D.data] at he
  | tup ah=>obtain ⟨b,us,rfl,s2,bK⟩:=bq;cases be;obtain ⟨dk,eN,c2,_⟩:=I.tuple s2;exact SeqAt.EqAt.str_tuple a t' c2 eJ
theorem sq(I:Inv X pins σ H s):∀(ds ah:List D)(A:c1)(ai us:List V)(aM dk:List Value),h_ ds=true->h_ ah=true->b2 X.K H ds ai->b2 X.K H ah us->Vals ai aM->Vals us dk->A.units+g8 ds < eK →
 ∀ j (ak:j < aM.length) (aq:j < dk.length),SeqAt.EqAt A s aM[j] dk[j] (iF ds ah j)
 | [],ah,A,ai,us,aM,dk,_,_,e,cD,dL,eN,_,j,ak,aq=>by
  rw [show ai=[] from e] at dL;cases dL;exact absurd ak (by simp)
 | d::ds,[],A,ai,us,aM,dk,_,_,e,cD,dL,eN,_,j,ak,aq=>by
  rw [show us=[] from cD] at eN;cases eN;exact absurd aq (by simp)
 | d::ds,cf::ah,A,ai,us,aM,dk,hd,he,⟨v,r,e,q,t⟩,⟨p8,dK,cD,gc,t'⟩,dL,eN,a0,j,ak,aq=>by
  subst e cD
  cases dL with
  | cons bj rt=>
   cases eN with
   | cons bK SA=>
    simp only [g8] at a0;simp only [h_,eU] at hd he
    cases j with
    | zero=>exact Sz I d cf A _ _ _ _ hd.1 he.1 q gc bj bK (by omega)
    | succ j=>
     have z:=sq I ds ah A _ _ _ _ hd.2 he.2 t t' rt SA (by omega) j (by simpa using ak) (by simpa using aq);simpa [iF] using z
end
theorem SB(I:Inv X pins σ H s)(d e:D)(A:c1)(x y:V)(u v:Value)(hd:d.data=true)(he:e.data=true)(a_:db X.K H d x)(bq:db X.K H e y)(dP:RelV x u)(be:RelV y v)(a0:A.units+d.aJ < eK):SeqAt.RcAt A s u v (gm d e):=by
 have eJ:A.units < eK:=by omega
 cases d with
 | tup ds=>
  obtain ⟨a,ai,rfl,s1,bj⟩:=a_;cases dP;obtain ⟨aM,dL,t1,_⟩:=I.tuple s1
  cases e with
  | bJ=>cases bq;cases be;exact SeqAt.RcAt.tuple_none t1 eJ
  | aU b=>cases bq;cases be;exact SeqAt.RcAt.tuple_bool b t1 eJ
  | int b=>cases bq;obtain ⟨t,rfl⟩:=be;exact SeqAt.RcAt.tuple_int b t t1 eJ
  | str b=>cases bq;obtain ⟨t,rfl⟩:=be;exact SeqAt.RcAt.tuple_str b t t1 eJ
  | ref b=>simp [D.data] at he
  | ty b=>simp [D.data] at he
  | dY b=>simp [D.data] at he
  | tup ah=>
   obtain ⟨b,us,rfl,s2,bK⟩:=bq;cases be;obtain ⟨dk,eN,c2,_⟩:=I.tuple s2;have cu:=dL.length;have bV:=eN.length;have jG:=bj.len;have lV:=bK.len;simp only [D.aJ] at a0
   have z:=SeqAt.RcAt.tuples (A:=A) (e:=iF ds ah) t1 c2 eJ (λ j ak aq=>by
    have q:=sq I ds ah A.in1 ai us aM dk (by simpa [D.data] using hd) (by simpa [D.data] using he) bj bK dL eN (by show A.units+1+g8 ds < eK;omega) j (by simpa using ak) (by simpa using aq)
    simpa using q)
   have sr:((eL (min aM.toArray.size dk.toArray.size)).all (iF ds ah)&&aM.toArray.size==dk.toArray.size)=gm (.tup ds) (.tup ah):=by
    rw [c_,c_,<- cu,<- bV,jG,lV,u3];rfl
   rw [sr] at z;exact z
 | ref a=>simp [D.data] at hd
 | ty a=>simp [D.data] at hd
 | dY a=>simp [D.data] at hd
 | bJ=>
  cases a_;cases dP
  cases e with
  | bJ=>cases bq;cases be;exact SeqAt.RcAt.none_none
  | aU b=>cases bq;cases be;exact SeqAt.RcAt.none_bool b
  | int b=>cases bq;obtain ⟨t,rfl⟩:=be;exact SeqAt.RcAt.none_int b t
  | str b=>cases bq;obtain ⟨t,rfl⟩:=be;exact SeqAt.RcAt.none_str b t
  | ref b=>simp [D.data] at he
  | ty b=>simp [D.data] at he
  | dY b=>simp [D.data] at he
  | tup ah=>obtain ⟨b,us,rfl,s2,bK⟩:=bq;cases be;obtain ⟨dk,eN,c2,_⟩:=I.tuple s2;exact SeqAt.RcAt.none_tuple c2 eJ
 | aU a=>
  cases a_;cases dP
  cases e with
  | bJ=>cases bq;cases be;exact SeqAt.RcAt.bool_none a
  | aU b=>cases bq;cases be;exact SeqAt.RcAt.bool_bool a b
  | int b=>cases bq;obtain ⟨t,rfl⟩:=be;exact SeqAt.RcAt.bool_int a b t
  | str b=>cases bq;obtain ⟨t,rfl⟩:=be;exact SeqAt.RcAt.bool_str a b t
  | ref b=>simp [D.data] at he
  | ty b=>simp [D.data] at he
  | dY b=>simp [D.data] at he
  | tup ah=>obtain ⟨b,us,rfl,s2,bK⟩:=bq;cases be;obtain ⟨dk,eN,c2,_⟩:=I.tuple s2;exact SeqAt.RcAt.bool_tuple a c2 eJ
 | int a=>
  cases a_;obtain ⟨t',rfl⟩:=dP
  cases e with
  | bJ=>cases bq;cases be;exact SeqAt.RcAt.int_none a t'
  | aU b=>cases bq;cases be;exact SeqAt.RcAt.int_bool a t' b
  | int b=>cases bq;obtain ⟨t,rfl⟩:=be;exact SeqAt.RcAt.int_int a t' b t
  | str b=>cases bq;obtain ⟨t,rfl⟩:=be;exact SeqAt.RcAt.int_str a t' b t
  | ref b=>simp [D.data] at he
  | ty b=>simp [D.data] at he
  | dY b=>simp [D.data] at he
  | tup ah=>obtain ⟨b,us,rfl,s2,bK⟩:=bq;cases be;obtain ⟨dk,eN,c2,_⟩:=I.tuple s2;exact SeqAt.RcAt.int_tuple a t' c2 eJ
 | str a=>
  cases a_;obtain ⟨t',rfl⟩:=dP
  cases e with
  | bJ=>cases bq;cases be;exact SeqAt.RcAt.str_none a t'
  | aU b=>cases bq;cases be;exact SeqAt.RcAt.str_bool a t' b
  | int b=>cases bq;obtain ⟨t,rfl⟩:=be;exact SeqAt.RcAt.str_int a t' b t
  | str b=>cases bq;obtain ⟨t,rfl⟩:=be;exact SeqAt.RcAt.str_str a t' b t
  | ref b=>simp [D.data] at he
  | ty b=>simp [D.data] at he
  | dY b=>simp [D.data] at he
  | tup ah=>obtain ⟨b,us,rfl,s2,bK⟩:=bq;cases be;obtain ⟨dk,eN,c2,_⟩:=I.tuple s2;exact SeqAt.RcAt.str_tuple a t' c2 eJ
end
section
variable{X:bb}{pins:List (Addr × Obj)}{σ:L2.St}{H:ay}{s:aC}
theorem SC(I:Inv X pins σ H s)(d e:D)(A:c1)(x y:V)(u v:Value)(hd:d.data=true)(he:e.data=true)(a_:db X.K H d x)(bq:db X.K H e y)(dP:RelV x u)(be:RelV y v)(a0:A.units+d.aJ < eK):SeqAt.RcNeAt A s u v (!gm d e):=by
 have eJ:A.units < eK:=by omega
 cases d with
 | tup ds=>
  obtain ⟨a,ai,rfl,s1,bj⟩:=a_;cases dP;obtain ⟨aM,dL,t1,_⟩:=I.tuple s1
  cases e with
  | bJ=>cases bq;cases be;exact SeqAt.RcNeAt.tuple_none t1 eJ
  | aU b=>cases bq;cases be;exact SeqAt.RcNeAt.tuple_bool b t1 eJ
  | int b=>cases bq;obtain ⟨t,rfl⟩:=be;exact SeqAt.RcNeAt.tuple_int b t t1 eJ
  | str b=>cases bq;obtain ⟨t,rfl⟩:=be;exact SeqAt.RcNeAt.tuple_str b t t1 eJ
  | ref b=>simp [D.data] at he
  | ty b=>simp [D.data] at he
  | dY b=>simp [D.data] at he
  | tup ah=>
   obtain ⟨b,us,rfl,s2,bK⟩:=bq;cases be;obtain ⟨dk,eN,c2,_⟩:=I.tuple s2;have cu:=dL.length;have bV:=eN.length;have jG:=bj.len;have lV:=bK.len;simp only [D.aJ] at a0
   have z:=SeqAt.RcNeAt.tuples (A:=A) (e:=iF ds ah) t1 c2 eJ (λ j ak aq=>by
    have q:=sq I ds ah A.in1 ai us aM dk (by simpa [D.data] using hd) (by simpa [D.data] using he) bj bK dL eN (by show A.units+1+g8 ds < eK;omega) j (by simpa using ak) (by simpa using aq)
    simpa using q)
   have sr:((eL (min aM.toArray.size dk.toArray.size)).all (iF ds ah)&&aM.toArray.size==dk.toArray.size)=gm (.tup ds) (.tup ah):=by
    rw [c_,c_,<- cu,<- bV,jG,lV,u3];rfl
   rw [sr] at z;exact z
 | ref a=>simp [D.data] at hd
 | ty a=>simp [D.data] at hd
 | dY a=>simp [D.data] at hd
 | bJ=>
  cases a_;cases dP
  cases e with
  | bJ=>cases bq;cases be;exact SeqAt.RcNeAt.none_none
  | aU b=>cases bq;cases be;exact SeqAt.RcNeAt.none_bool b
  | int b=>cases bq;obtain ⟨t,rfl⟩:=be;exact SeqAt.RcNeAt.none_int b t
  | str b=>cases bq;obtain ⟨t,rfl⟩:=be;exact SeqAt.RcNeAt.none_str b t
  | ref b=>simp [D.data] at he
  | ty b=>simp [D.data] at he
  | dY b=>simp [D.data] at he
  | tup ah=>obtain ⟨b,us,rfl,s2,bK⟩:=bq;cases be;obtain ⟨dk,eN,c2,_⟩:=I.tuple s2;exact SeqAt.RcNeAt.none_tuple c2 eJ
 | aU a=>
  cases a_;cases dP
  cases e with
  | bJ=>cases bq;cases be;exact SeqAt.RcNeAt.bool_none a
  | aU b=>cases bq;cases be;exact SeqAt.RcNeAt.bool_bool a b
  | int b=>cases bq;obtain ⟨t,rfl⟩:=be;exact SeqAt.RcNeAt.bool_int a b t
  | str b=>cases bq;obtain ⟨t,rfl⟩:=be;exact SeqAt.RcNeAt.bool_str a b t
  | ref b=>simp [D.data] at he
  | ty b=>simp [D.data] at he
  | dY b=>simp [D.data] at he
  | tup ah=>obtain ⟨b,us,rfl,s2,bK⟩:=bq;cases be;obtain ⟨dk,eN,c2,_⟩:=I.tuple s2;exact SeqAt.RcNeAt.bool_tuple a c2 eJ
 | int a=>
  cases a_;obtain ⟨t',rfl⟩:=dP
  cases e with
  | bJ=>cases bq;cases be;exact SeqAt.RcNeAt.int_none a t'
  | aU b=>cases bq;cases be;exact SeqAt.RcNeAt.int_bool a t' b
  | int b=>cases bq;obtain ⟨t,rfl⟩:=be;exact SeqAt.RcNeAt.int_int a t' b t
  | str b=>cases bq;obtain ⟨t,rfl⟩:=be;exact SeqAt.RcNeAt.int_str a t' b t
  | ref b=>simp [D.data] at he
  | ty b=>simp [D.data] at he
  | dY b=>simp [D.data] at he
  | tup ah=>obtain ⟨b,us,rfl,s2,bK⟩:=bq;cases be;obtain ⟨dk,eN,c2,_⟩:=I.tuple s2;exact SeqAt.RcNeAt.int_tuple a t' c2 eJ
 | str a=>
  cases a_;obtain ⟨t',rfl⟩:=dP
  cases e with
  | bJ=>cases bq;cases be;exact SeqAt.RcNeAt.str_none a t'
  | aU b=>cases bq;cases be;exact SeqAt.RcNeAt.str_bool a t' b
  | int b=>cases bq;obtain ⟨t,rfl⟩:=be;exact SeqAt.RcNeAt.str_int a t' b t
  | str b=>cases bq;obtain ⟨t,rfl⟩:=be;exact SeqAt.RcNeAt.str_str a t' b t
  | ref b=>simp [D.data] at he
  | ty b=>simp [D.data] at he
  | dY b=>simp [D.data] at he
  | tup ah=>obtain ⟨b,us,rfl,s2,bK⟩:=bq;cases be;obtain ⟨dk,eN,c2,_⟩:=I.tuple s2;exact SeqAt.RcNeAt.str_tuple a t' c2 eJ
end
section
variable{X:bb}{a b c e o i bp iter:bg}{ah:List bg}{bw bN aW to eQ bo:cj}{t:fM}{pos p apos fx:Pos}
theorem cC{A:c1}{k:Nat}(am:eF k A):A.units+200 < eK:=by have:=am.un;omega
def x4(K:bl)(f:Bool->Bool):ei:=λ x y H Q=>∃ d e,db K H d x/\db K H e y/\d.data=true/\e.data=true/\d.aJ<=150/\Q (.aU (f (gm d e))) H
def AS(K:bl)(f:Bool->Bool):ei:=λ x y H Q=>∃ l m ai us ds ah,x=.ref l/\y=.ref m/\d7 K H l ai/\d7 K H m us/\b2 K H ds ai/\b2 K H ah us/\h_ ds=true/\h_ ah=true/\g8 ds<=150/\Q (.aU (f (jF ds ah))) H
theorem SD(a0:X.A.units+200 < eK):d8 X (eO .Eq) (x4 X.K id):=by
 intro pins s σ H x y v u Q I bu cz h;obtain ⟨d,e,a_,bq,hd,he,hz,q⟩:=h;exact SB I d e X.A x y v u hd he a_ bq bu cz (by omega) X.prog X.w X.xe _ ⟨.aU _,H,I,rfl,q⟩
theorem SE(a0:X.A.units+200 < eK):d8 X (eO .NotEq) (x4 X.K (!·)):=by
 intro pins s σ H x y v u Q I bu cz h;obtain ⟨d,e,a_,bq,hd,he,hz,q⟩:=h;exact SC I d e X.A x y v u hd he a_ bq bu cz (by omega) X.prog X.w X.xe _ ⟨.aU _,H,I,rfl,q⟩
theorem AU:∀{ds ah:List D},ds.length≠ah.length->jF ds ah=false
 | [],[],h=>absurd rfl h
 | [],_::_,_=>rfl
 | _::_,[],_=>rfl
 | d::ds,e::ah,h=>by rw [jF,AU (by simpa using h),Bool.and_false]
theorem HC{ds ah:List D}(h:ds.length=ah.length):(eL ds.length).all (iF ds ah)=jF ds ah:=by
 rw [<- u3,<- h,Nat.min_self];simp
theorem SF(a0:X.A.units+200 < eK):d8 X (eO .Eq) (AS X.K id):=by
 intro pins s σ H x y v u Q I bu cz h;obtain ⟨l,m,ai,us,ds,ah,rfl,rfl,s1,s2,bj,bK,hd,he,hz,q⟩:=h;cases bu;cases cz;obtain ⟨aM,dL,t1,_⟩:=I.list s1;obtain ⟨dk,eN,c2,_⟩:=I.list s2;have cu:=dL.length;have bV:=eN.length;have jG:=bj.len;have lV:=bK.len;by_cases aQ:ds.length=ah.length
 ·refine SeqAt.RcAt.lists (e:=iF ds ah) t1.isList c2.isList (by rw [c_,c_];omega) (by omega) (λ j ak aq=>?_) X.prog X.w X.xe _ ⟨.aU _,H,I,?_,q⟩
  ·have q:=sq I ds ah X.A.in1 ai us aM dk hd he bj bK dL eN (by show X.A.units+1+g8 ds < eK;omega) j (by simpa using ak) (by simpa using aq);simpa using q
  ·show Value.bool _=Value.bool _;rw [c_,<- cu,jG,HC aQ];rfl
 ·refine SeqAt.RcAt.lists_lengths t1.isList c2.isList (by rw [c_,c_];simp;omega) (by omega) X.prog X.w X.xe _ ⟨.aU _,H,I,?_,q⟩;rw [AU aQ];rfl
theorem SG(a0:X.A.units+200 < eK):d8 X (eO .NotEq) (AS X.K (!·)):=by
 intro pins s σ H x y v u Q I bu cz h;obtain ⟨l,m,ai,us,ds,ah,rfl,rfl,s1,s2,bj,bK,hd,he,hz,q⟩:=h;cases bu;cases cz;obtain ⟨aM,dL,t1,_⟩:=I.list s1;obtain ⟨dk,eN,c2,_⟩:=I.list s2;have cu:=dL.length;have bV:=eN.length;have jG:=bj.len;have lV:=bK.len;by_cases aQ:ds.length=ah.length
 ·refine SeqAt.RcNeAt.lists (e:=iF ds ah) t1.isList c2.isList (by rw [c_,c_];omega) (by omega) (λ j ak aq=>?_) X.prog X.w X.xe _ ⟨.aU _,H,I,?_,q⟩
  ·have q:=sq I ds ah X.A.in1 ai us aM dk hd he bj bK dL eN (by show X.A.units+1+g8 ds < eK;omega) j (by simpa using ak) (by simpa using aq);simpa using q
  ·show Value.bool _=Value.bool _;rw [c_,<- cu,jG,HC aQ]
 ·refine SeqAt.RcNeAt.lists_lengths t1.isList c2.isList (by rw [c_,c_];simp;omega) (by omega) X.prog X.w X.xe _ ⟨.aU _,H,I,?_,q⟩;rw [AU aQ];rfl
def u4(f:Bool->Bool):jD:=λ x y G Q=>match x,y with
 | .int i,.int j=>Q (.aU (f (i==j))) G
 | .str i,.str j=>Q (.aU (f (i==j))) G
 | .tup _,.str _=>Q (.aU (f false)) G
 | .str _,.tup _=>Q (.aU (f false)) G
 | .ref l,.ref m=>gB G l λ ds=>gB G m λ ah=>h_ ds=true/\h_ ah=true/\g8 ds<=150/\Q (.aU (f (jF ds ah))) G
 | x,y=>x.data=true/\y.data=true/\x.aJ<=150/\Q (.aU (f (gm x y))) G
theorem AV{f:Bool->Bool}{x y:D}{G:aX}{Q:c8}(aF:x.data=true)(bD:y.data=true)(hd:x.aJ<=150)(q:Q (.aU (f (gm x y))) G):u4 f x y G Q:=by
 cases x<;>cases y<;>first | exact q | exact ⟨aF,bD,hd,q⟩ | (simp [D.data] at aF;done) | (simp [D.data] at bD;done)
def AW(K:bl)(f:Bool->Bool):ei:=λ x y H Q=>(∃ a ai z,x=.ref a/\dq K H a ai/\y=.str z/\Q (.aU (f false)) H)\/∃ a ai z,y=.ref a/\dq K H a ai/\x=.str z/\Q (.aU (f false)) H
theorem SH(a0:X.A.units+200 < eK):d8 X (eO .Eq) (AW X.K id):=by
 intro pins s σ H x y v u Q I bu cz h;rcases h with ⟨a,ai,z,rfl,fA,rfl,q⟩ | ⟨a,ai,z,rfl,fA,rfl,q⟩
 ·cases bu;obtain ⟨t,rfl⟩:=cz;obtain ⟨aM,dL,t1,_⟩:=I.tuple fA;exact SeqAt.RcAt.tuple_str z t t1 (by omega) X.prog X.w X.xe _ ⟨.aU false,H,I,rfl,q⟩
 ·cases cz;obtain ⟨t,rfl⟩:=bu;obtain ⟨aM,dL,t1,_⟩:=I.tuple fA;exact SeqAt.RcAt.str_tuple z t t1 (by omega) X.prog X.w X.xe _ ⟨.aU false,H,I,rfl,q⟩
theorem SI(a0:X.A.units+200 < eK):d8 X (eO .NotEq) (AW X.K (!·)):=by
 intro pins s σ H x y v u Q I bu cz h;rcases h with ⟨a,ai,z,rfl,fA,rfl,q⟩ | ⟨a,ai,z,rfl,fA,rfl,q⟩
 ·cases bu;obtain ⟨t,rfl⟩:=cz;obtain ⟨aM,dL,t1,_⟩:=I.tuple fA;exact SeqAt.RcNeAt.tuple_str z t t1 (by omega) X.prog X.w X.xe _ ⟨.aU true,H,I,rfl,q⟩
 ·cases cz;obtain ⟨t,rfl⟩:=bu;obtain ⟨aM,dL,t1,_⟩:=I.tuple fA;exact SeqAt.RcNeAt.str_tuple z t t1 (by omega) X.prog X.w X.xe _ ⟨.aU true,H,I,rfl,q⟩
theorem HD{f:Bool->Bool}{op:oD}(ak:d8 X (eO op) (x4 X.K f))(aq:d8 X (eO op) (AS X.K f))(aT:d8 X (eO op) (AW X.K f)):gS X (eO op) (u4 f):=by
 refine ⟨_,⟨ak.or (aq.or aT)⟩,λ x y eX iz G H au Q v a_ bq r F=>?_⟩;have fin:∀ b:Bool,au (.aU b) G->Q (.aU b) H:=λ b q=>F (.aU b) G _ H (.refl v) rfl q
 have gen:x.data=true/\y.data=true/\x.aJ<=150/\au (.aU (f (gm x y))) G->x4 X.K f eX iz H Q:=λ⟨cB,b8,dg,gx⟩=>⟨x,y,a_,bq,cB,b8,dg,fin _ gx⟩
 unfold u4 at r;split at r
 ·exact .inl (gen ⟨rfl,rfl,e0 _,r⟩)
 ·exact .inl (gen ⟨rfl,rfl,e0 _,r⟩)
 ·obtain ⟨l,ai,rfl,s1,_⟩:=a_;cases bq;exact .inr (.inr (.inl ⟨l,ai,_,rfl,s1,rfl,fin _ r⟩))
 ·obtain ⟨l,ai,rfl,s1,_⟩:=bq;cases a_;exact .inr (.inr (.inr ⟨l,ai,_,rfl,s1,rfl,fin _ r⟩))
 ·cases a_;cases bq;obtain ⟨ds,ai,d4,s1,bj⟩:=hJ v r;obtain ⟨ah,us,⟨cB,b8,dg,df⟩,s2,bK⟩:=hJ v d4;exact .inr (.inl ⟨_,_,ai,us,ds,ah,rfl,rfl,s1,s2,bj,bK,cB,b8,dg,fin _ df⟩)
 ·exact .inl (gen r)
theorem cR(a0:X.A.units+200 < eK):gS X (eO .Eq) (u4 id):=HD (SD a0) (SF a0) (SH a0)
theorem qS(a0:X.A.units+200 < eK):gS X (eO .NotEq) (u4 (!·)):=HD (SE a0) (SG a0) (SI a0)
abbrev SJ(t:cj):cj:=λ ρ G Q=>t ρ G λ d ap=>∃ bc,Sub bc ap/\Q d bc
theorem pw(h:bZ X e aW):bZ X e (SJ aW):=by
 obtain ⟨ca,cM,cN⟩:=h.run;exact ⟨_,cM,λ ρ G au σ H Q B q F=>cN ρ G _ σ H _ B q λ d ap v aj g a ⟨bc,s2,bI⟩=>F d bc v aj (g.sub s2) a bI⟩
@[irreducible] def atS(ds:List D)(i:Int)(G:aX)(Q:c8):Prop:=n2 ds i G Q
theorem lW{ds:List D}{i:Int}{G:aX}{Q:c8}(h:n2 ds i G Q):atS ds i G Q:=by unfold atS;exact h
abbrev SK(t:fM)(bN:cj):cj:=λ ρ G Q=>t ρ G λ ds aA=>bN ρ aA λ y bc=>match y with
 | .int i=>atS ds i bc Q
 | _=>False
theorem od{AX:Pos}(h:h7 X ah t)(ag:bZ X b bN)(ax:w7 b)(aQ:wI ah.length 1000=true:=by rfl):bZ X (.Subscript (.List ah AX) b pos) (SK t bN):=by
 obtain ⟨ca,cM,cN⟩:=h.run;obtain ⟨jB,fO,fP⟩:=ag.run;refine ⟨_,Gj ⟨FN⟩ (Gi cM) fO ax,λ ρ G au σ H Q B q F=>cN ρ G _ σ H _ B q λ ds aA ai H1 g1 al bt aH=>⟨by rw [al.len,bt];exact Ar aQ,λ p az=>?_⟩⟩;have g2:=Go.mO (o:=.lst ai) g1.b3 az;have mK:=g1.b3.none az;refine fP ρ aA _ σ _ _ ((B.go g1).go g2) aH λ y cQ u dX g3 bq eh=>?_;have aT:=g3.same p _ fi mK;split at eh
 ·next i=>
  cases bq;unfold atS at eh;obtain ⟨d,hd,kL⟩:=xQ eh;obtain ⟨w,hw,n8⟩:=xP ((al.mono g2.tup).mono g3.tup) hd;exact .inl ⟨p,ai,i,w,rfl,rfl,.of aT,hw,F d cQ w dX ((g1.trans g2).trans g3) n8 kL⟩
 ·exact eh.elim
def HE(sc:eC)(N:List Str)(scope:eC)(N':List Str)(nt:Nat)(cap:List Nat):Bool:=
 scope.names.all (λ y=>y.2 !=.cell)&&scope.names.all (λ y=>y.2 !=.local||scope.names.lookup y.1==some .local) &&
 scope.names.all (λ y=>y.2 !=.free||(sc.names.lookup y.1==some .cell||sc.names.lookup y.1==some .free))&&N'.length==nt+cap.length &&
 (eL cap.length).all λ j=>match cap[j]?,N'[nt+j]? with
  | some i,some x=>N[i]?==some x&&scope.names.lookup x==some .free
  | _,_=>true
theorem ey.of{scope:eC}{N':List Str}{nt:Nat}{cap:List Nat}(aO:scope.kind=.function)(h:HE X.env.scope X.N scope N' nt cap=true):ey X scope N' nt cap:=by
 unfold HE at h;simp only [eU,rC] at h;obtain ⟨⟨⟨⟨ak,aq⟩,aT⟩,cb⟩,dM⟩:=h;refine ⟨aO,λ y bD=>by simpa using ak y bD,λ y bD e=>?_,λ y bD e=>?_,by simpa using cb,λ j i x cP aF=>?_⟩
 ·have z:=aq y bD;rw [e] at z;simpa using z
 ·have z:=aT y bD;rw [e] at z;simpa using z
 ·have lt:j < cap.length:=by
   rcases rH j cap.length with z | z
   ·exact z
   ·rw [k6 z] at cP;cases cP
  have z:=dM j (nu.mpr lt);rw [cP,aF] at z;simpa using z
abbrev SL(to eQ:cj):e8:=λ d ρ G Q=>to ρ G λ x aA=>eQ ρ aA λ y bc=>match x,y with
 | .ref l,.int k=>kK bc l λ ds=>∃ j,mF ds.length k=some j/\Q ρ (up bc l (.lst (ds.set j d)))
 | _,_=>False
theorem HF(a4:bZ X o to)(ar:bZ X i eQ) (aD:∀ v,XV (.Subscript o i pos) X.env v=(do
 let fW ← jf [v] (eval o X.env)
 let gf ← jf [v,fW] (eval i X.env)
 oB pos
 jf [v,fW,gf] (th fW gf v)
 release [v,fW,gf] []):=by intro _;rfl):iy X (.Subscript o i pos) (SL to eQ):=by
 obtain ⟨co,hq,gN⟩:=a4.run;obtain ⟨ci,i4,gO⟩:=ar.run;refine ⟨_,PI hq i4 ⟨NU⟩ aD,λ d v ρ G au σ H Q B ad q F=>gN ρ G _ σ H _ B q λ x aA eX H1 g1 a_ aH=>gO ρ aA _ σ H1 _ (B.go g1) aH λ y bc iz aS g2 bq bI=>?_⟩;split at bI
 ·next l k=>
  cases a_;cases bq;obtain ⟨ds,ai,⟨j,cP,eh⟩,aP,ak,bj⟩:=pp g2.b3 bI;have SM:=(ad.mono g1.tup).mono g2.tup;have g3:=Go.uG g2.b3 aP (bj.set SM j);have fQ:=(g1.trans g2).trans g3;exact ⟨l,ai,k,j,rfl,rfl,ak,by rw [bj.len];exact cP,F ρ _ σ _ fQ (B.go fQ) eh⟩
 ·exact bI.elim
abbrev HG(k:Nat)(aW:cj)(f:Int->Int->Int):gA:=λ dR ρ G=>match ρ[k]? with
 | some (some (.int x))=>aW ρ G λ y aA=>(match y with
  | .int z=>dR.nx (ρ.set k (some (.int (f x z)))) aA
  | _=>False)
 | _=>False
structure HH(X:bb)(op:nk)(f:Int->Int->Int):Prop where
 run:Gh X op (E9 f)
theorem SN:HH X .Add (λ i j=>i+j):=⟨⟨MJ⟩⟩
theorem SO{k:Nat}{x:Str}{op:nk}{f:Int->Int->Int}{pos':Pos}(cw:X.N.Nodup)(ar:X.N[k]?=some x)(aF:Loc X.env.scope x)(he:bZ X e aW)(a4:HH X op f)(hf:X.fn x=true\/X.env.scope.names.lookup x=some .local:=by first | exact .inl rfl | exact .inr rfl | assumption) :
 i1 X (.AugAssign (.Name x pos') op e pos) (HG k aW f):=by
 obtain ⟨ce,hr,re⟩:=he.run;refine ⟨_,PS cw ar aF hr a4.run hf,λ dR eT ρ G σ H B q F=>?_⟩;unfold HG at q;split at q
 ·next x h=>
  obtain ⟨v,ak,aq⟩:=B.st k _ h;cases aq;refine ⟨.int x,ak,re ρ G _ σ H _ B q λ y aA u H1 g1 bq aH=>?_⟩;split at aH
  ·next z=>cases bq;exact ⟨x,z,rfl,rfl,F.nx _ aA _ H1 g1 ((B.go g1).set (d:=.int (f x z)) rfl k) aH⟩
  ·exact aH.elim
 ·exact q.elim
abbrev SP(aW:cj):cj:=λ ρ G Q=>aW ρ G λ x aA=>match x with
 | .tup ds=>∀ p,aA p=none->Q (.ref p) (up aA p (.lst ds.reverse))
 | _=>False
theorem SQ(lG:di X "list")(lH:X.mg "list" = none)(aZ:di X "reversed")(hm:X.mg "reversed" = none)(he:bZ X e aW)(aE:X.calm=true:=by rfl)(ax:dw e=true:=by rfl):bZ X (.Call (.Name "list" p) [.Call (.Name "reversed" apos) [e] [] fx] [] pos) (SP aW):=by
 obtain ⟨ce,hr,re⟩:=he.run;refine ⟨_,QH lG lH aZ hm hr aE ax,λ ρ G au σ H Q B q F=>re ρ G _ σ H _ B q λ x aA v H1 g1 a_ aH=>?_⟩;split at aH
 ·next ds=>
  obtain ⟨l,ai,rfl,s,r⟩:=a_;exact ⟨l,ai,rfl,s,λ p az=>F (.ref p) _ _ _ (g1.trans (Go.qG g1.b3 az r.reverse)) rfl (aH p (g1.b3.none az))⟩
 ·exact aH.elim
abbrev ac3(aW:cj):cj:=λ ρ G Q=>aW ρ G λ x aA=>match x with
 | .ref l=>gB aA l λ ds=>∀ p,aA p=none->Q (.ref p) (up aA p (.lst ds.reverse))
 | _=>False
abbrev SR(aW:cj):cj:=λ ρ G Q=>aW ρ G λ x aA=>match x with
 | .ref l=>gB aA l λ ds=>Q (.tup ds.reverse) aA
 | _=>False
theorem SS(lG:di X "tuple")(lH:X.mg "tuple" = none)(aZ:di X "reversed")(hm:X.mg "reversed" = none)(he:bZ X e aW)(aE:X.calm=true:=by rfl)(ax:dw e=true:=by rfl):bZ X (.Call (.Name "tuple" p) [.Call (.Name "reversed" apos) [e] [] fx] [] pos) (SR aW):=by
 obtain ⟨ce,hr,re⟩:=he.run;refine ⟨_,QI lG lH aZ hm hr aE ax,λ ρ G au σ H Q B q F=>re ρ G _ σ H _ B q λ x aA v H1 g1 a_ aH=>?_⟩;split at aH
 ·next l=>
  cases a_;obtain ⟨ds,ai,k,s,r⟩:=hJ g1.b3 aH;refine ⟨l,ai,rfl,s,λ p az=>?_⟩;have g:=Go.mO (o:=.tup ai.reverse) g1.b3 az;exact F (.tup ds.reverse) _ _ _ (g1.trans g) ⟨p,_,rfl,.of fi,r.reverse.mono g.tup⟩ k
 ·exact aH.elim
def qT:List D->Option (List Bool)
 | []=>some []
 | .aU i::r=>(qT r).map (i::·)
 | _::_=>none
theorem HI{K:bl}{H:ay}:∀{ds:List D}{bs:List Bool}{ai:List V},qT ds=some bs->b2 K H ds ai->ai=bs.map V.aU
 | [],bs,ai,h,r=>by cases h;exact r
 | d::ds,bs,ai,h,⟨v,q,e,qK,l⟩=>by
  cases d with
  | aU i=>
   simp only [qT,Option.map_eq_some_iff] at h;obtain ⟨ms,ak,rfl⟩:=h;subst e;cases qK;rw [HI ak l];rfl
  | _=>simp [qT] at h
theorem AY:∀ bs:List Bool,qT (bs.map D.aU)=some bs
 | []=>rfl
 | b::bs=>by simp [qT,AY bs]
def ST:D->aX->c8->Prop:=λ x G Q=>match x with
 | .ref l=>gB G l λ ds=>∃ bs,qT ds=some bs/\Q (.aU (bs.all id)) G
 | _=>False
theorem HJ(aE:X.calm=true):pl X (.builtin "all") (qJ ST):=by
 refine ⟨_,⟨QG aE⟩,λ xs ai G H au Q v a r F=>?_⟩;obtain ⟨x,u,rfl,rfl,a_,r⟩:=uO r a
 cases x with
 | ref l=>
  cases a_;obtain ⟨ds,ws,⟨bs,e,k⟩,s,dZ⟩:=hJ v r;rw [HI e dZ] at s;exact ⟨l,bs,rfl,s,F (.aU (bs.all id)) G _ H (.refl v) rfl k⟩
 | _=>exact (show False from r).elim
def HK(x:D)(G:aX)(k:String->Prop):Prop:=match x with
 | .bJ=>k "NoneType"
 | .aU _=>k "bool"
 | .int _=>k "int"
 | .str _=>k "str"
 | .tup _=>k "tuple"
 | .ref l=>gB G l λ _=>k "list"
 | _=>False
def AZ(t T:String):Option Bool:=
 if (t = "NoneType"\/t = "bool"\/t = "int"\/t = "str"\/t = "tuple"\/t = "list")/\(T = "bool"\/T = "int"\/T = "str"\/T = "tuple"\/T = "list") then some (decide (t=T)||(decide (t = "bool")&&decide (T = "int"))) else none
theorem su{K:bl}{t T:String}{b:Bool}(h:AZ t T=some b):PySem.W.kitOne K (.type t) (.type T)=some b:=by
 unfold AZ at h;split at h
 ·next c=>
  obtain ⟨dF,dE⟩:=c;rcases dF with rfl | rfl | rfl | rfl | rfl | rfl<;>rcases dE with rfl | rfl | rfl | rfl | rfl<;>(simp at h;subst h;first | rfl | exact ac4 rfl (by decide))
 ·cases h
def SU(K:bl):List V->ay->cK->Prop:=λ xs H Q=>∃ x T t b,xs=[x,.ty T]/\((j5 K H x (.type t))\/(t = "tuple"/\∃ a ai,x=.ref a/\dq K H a ai)\/(t = "list"/\∃ a ai,x=.ref a/\d7 K H a ai))/\PySem.W.kitOne K (.type t) (.type T)=some b/\Q (.aU b) H
theorem SV:jv X (.builtin "isinstance") (SU X.K):=by
 intro pins s σ H xs us Q I r h;obtain ⟨x,T,t,b,rfl,ty,aO,dB⟩:=h;obtain ⟨u,v,rfl,dP,be⟩:=Vals.two r;cases be;rcases ty with ty | ⟨rfl,a,ai,rfl,fA⟩ | ⟨rfl,a,ai,rfl,fA⟩
 ·exact Nn I dP ty aO λ tk=>⟨.aU b,H,I.tok tk,rfl,dB⟩
 ·cases dP;obtain ⟨aM,_,⟨o,ak,aq,_⟩,_⟩:=I.tuple fA
  exact jW PySem.W.kitx_tuple I.gv ⟨o,ak,aq⟩ aO (λ z=>nomatch z) λ tk=>⟨.aU b,H,I.tok tk,rfl,dB⟩
 ·cases dP;obtain ⟨aM,_,⟨o,n,ak,aq,_⟩,_⟩:=I.list fA
  exact jW PySem.W.kitx_list I.gv ⟨o,ak,aq⟩ aO (λ z=>nomatch z) λ tk=>⟨.aU b,H,I.tok tk,rfl,dB⟩
def A0:D->D->aX->c8->Prop:=λ x y G Q=>match y with
 | .ty T=>HK x G λ t=>∃ b,AZ t T=some b/\Q (.aU b) G
 | _=>False
theorem oe:pl X (.builtin "isinstance") (AD A0):=by
 refine ⟨_,⟨SV⟩,λ xs ai G H au Q v a r F=>?_⟩;obtain ⟨x,y,u,w,rfl,rfl,a_,bq,r⟩:=R8 r a
 cases y with
 | ty T=>
  cases bq
  cases x with
  | bJ=>cases a_;obtain ⟨b,ag,q⟩:=r;exact ⟨_,T,_,b,rfl,.inl .bJ,su ag,F (.aU b) G _ H (.refl v) rfl q⟩
  | aU z=>cases a_;obtain ⟨b,ag,q⟩:=r;exact ⟨_,T,_,b,rfl,.inl (.aU z),su ag,F (.aU b) G _ H (.refl v) rfl q⟩
  | int z=>cases a_;obtain ⟨b,ag,q⟩:=r;exact ⟨_,T,_,b,rfl,.inl (.int z),su ag,F (.aU b) G _ H (.refl v) rfl q⟩
  | str z=>cases a_;obtain ⟨b,ag,q⟩:=r;exact ⟨_,T,_,b,rfl,.inl (.str z),su ag,F (.aU b) G _ H (.refl v) rfl q⟩
  | tup ds=>obtain ⟨l,ws,rfl,s,_⟩:=a_;obtain ⟨b,ag,q⟩:=r;exact ⟨_,T,"tuple", b,rfl,.inr (.inl ⟨rfl,l,ws,rfl,s⟩),su ag,F (.aU b) G _ H (.refl v) rfl q⟩
  | ref l=>
   cases a_;obtain ⟨ds,ws,⟨b,ag,q⟩,s,_⟩:=hJ v r;exact ⟨_,T,"list", b,rfl,.inr (.inr ⟨rfl,l,ws,rfl,s⟩),su ag,F (.aU b) G _ H (.refl v) rfl q⟩
  | ty z=>exact (show False from r).elim
  | dY z=>exact (show False from r).elim
 | _=>exact (show False from r).elim
abbrev SX(t:fM):i2:=λ ρ G R=>t ρ G λ ds aA=>match ds with
 | [.tup xs,.tup ys]=>xs.length<=ys.length/\R ⟨(xs.zip ys).map λ z=>.tup [z.1,z.2],λ _=>True⟩ aA
 | _=>False
theorem SY{k:Nat}{dy:Pos}(aZ:di X "zip")(hm:X.mg "zip" = none)(aD:h7 X [a,b] t)(ak:dw a=true:=by rfl)(aq:dw b=true:=by rfl):n7 X (.Tuple ah k dy) (.Call (.Name "zip" p) [a,b] [] pos) (SX t):=by
 obtain ⟨ca,cM,cN⟩:=aD.run;refine ⟨_,Q1 aZ hm cM ak aq,λ ρ G ki σ H R B q F=>cN ρ G _ σ H _ B q λ ds aA ai H1 g1 al aQ aH=>?_⟩;split at aH
 ·next xs ys=>
  obtain ⟨hle,bI⟩:=aH;obtain ⟨v,r,rfl,⟨l,ws,rfl,s1,bj⟩,u,bK,rfl,⟨m,zs,rfl,s2,SZ⟩,z⟩:=al;cases z;refine ⟨l,m,rfl,⟨ws,s1⟩,⟨zs,s2⟩,F _ _ aA H1 g1 (λ bc aS g2 _=>⟨λ n d hd=>?_,λ n bt=>⟨ws,g2.tup.dy _ _ s1,?_⟩⟩) bI⟩
  ·rw [eu] at hd
   cases e:(xs.zip ys)[n]? with
   | none=>rw [e] at hd;cases hd
   | some z=>
    rw [e] at hd;simp at hd;subst hd;obtain ⟨aP,aL⟩:=List.getElem?_zip_eq_some.mp e;obtain ⟨ll,d4,a1⟩:=(bj.mono g2.tup).get aP;obtain ⟨nF,df,a2⟩:=(SZ.mono g2.tup).get aL;refine ⟨⟨ws,zs,ll,nF,g2.tup.dy _ _ s1,g2.tup.dy _ _ s2,d4,df⟩,λ x aj y=>?_⟩;obtain ⟨T,a7,i6,rfl,bQ,rfl,aF,bD⟩:=y;have cB:=aF ws (g2.tup.dy _ _ s1);have b8:=bD zs (g2.tup.dy _ _ s2);rw [d4] at cB;rw [df] at b8;cases cB;cases b8;have g3:=Go.mO (o:=.tup [ll,nF]) g2.b3 bQ;exact ⟨g3,T,_,rfl,.of fi,⟨_,_,rfl,a1.mono g3.tup,.one (a2.mono g3.tup)⟩⟩
  ·have:=bj.len;simp at bt;omega
 ·exact aH.elim
end
theorem S0{a b:String}(h:Str.ofString a=Str.ofString b):a=b:=by
 rw [Str.ofString_eq_toList,Str.ofString_eq_toList] at h
 have ak:a.toList.map Char.toNat=b.toList.map Char.toNat:=by simpa using h
 have aq:a.toList=b.toList:=by
  generalize a.toList=x at ak;generalize b.toList=y at ak
  induction x generalizing y with
  | nil=>cases y with
   | nil=>rfl
   | cons _ _=>simp at ak
  | cons c x aN=>cases y with
   | nil=>simp at ak
   | cons d y=>
    simp only [ew,List.cons.injEq] at ak;rw [Char.ext (UInt32.toNat_inj.mp ak.1),aN y ak.2]
 exact String.toList_inj.mp aq
theorem hK{a b:String}:(Str.ofString a=Str.ofString b)=(a=b):=propext ⟨S0,λ h=>by rw [h]⟩
theorem HL{a b:String}:(Str.ofString a==Str.ofString b)=(a==b):=by
 rw [tB];simp [hK]
inductive Tm where
 | name (k:Nat) | whole (n:Int) | way (t:Tm) | give (t u:Tm) | pair (t u:Tm) | first (t:Tm) | second (t:Tm) | plus (t u:Tm) | look (t u v:Tm)
def Tm.aV:Tm->List Tm
 | .name _=>[]
 | .whole _=>[]
 | .way t=>[t]
 | .give t u=>[t,u]
 | .pair t u=>[t,u]
 | .first t=>[t]
 | .second t=>[t]
 | .plus t u=>[t,u]
 | .look t u v=>[t,u,v]
def Tm.word:Tm->Str
 | .name _=>"name" | .whole _=>"whole" | .way _=>"way" | .give _ _=>"give" | .pair _ _=>"pair" | .first _=>"first" | .second _=>"second" | .plus _ _=>"plus" | .look _ _ _=>"look"
def Tm.enc:Tm->D
 | .name k=>.tup [.str "name", .int k]
 | .whole n=>.tup [.str "whole", .int n]
 | .way t=>.tup [.str "way", t.enc]
 | .give t u=>.tup [.str "give", t.enc,u.enc]
 | .pair t u=>.tup [.str "pair", t.enc,u.enc]
 | .first t=>.tup [.str "first", t.enc]
 | .second t=>.tup [.str "second", t.enc]
 | .plus t u=>.tup [.str "plus", t.enc,u.enc]
 | .look t u v=>.tup [.str "look", t.enc,u.enc,v.enc]
def Tm.aB:Tm->Nat
 | .name _=>1
 | .whole _=>1
 | .way t=>1+t.aB
 | .give t u=>1+t.aB+u.aB
 | .pair t u=>1+t.aB+u.aB
 | .first t=>1+t.aB
 | .second t=>1+t.aB
 | .plus t u=>1+t.aB+u.aB
 | .look t u v=>1+t.aB+u.aB+v.aB
def Tm.aJ:Tm->Nat
 | .name _=>0
 | .whole _=>0
 | .way t=>1+t.aJ
 | .give t u=>1+max t.aJ u.aJ
 | .pair t u=>1+max t.aJ u.aJ
 | .first t=>1+t.aJ
 | .second t=>1+t.aJ
 | .plus t u=>1+max t.aJ u.aJ
 | .look t u v=>1+max t.aJ (max u.aJ v.aJ)
theorem Tm.lX(t:Tm):1<=t.aB:=by cases t<;>simp [Tm.aB]<;>omega
theorem Tm.A1(t:Tm):t.enc.aJ=t.aJ+1:=by
 induction t<;>simp_all [Tm.enc,D.aJ,g8,Tm.aJ]<;>omega
theorem Tm.S1(t:Tm):t.aJ<=t.aB:=by
 induction t<;>simp_all [Tm.aJ,Tm.aB]<;>omega
def Tm.args:Tm->List D
 | .name k=>[.int k]
 | .whole n=>[.int n]
 | t=>t.aV.map Tm.enc
theorem Tm.gT(t:Tm):t.enc=.tup (.str t.word::t.args):=by cases t<;>rfl
abbrev qU(x y:Int):eS:=.lst [.int x,.int y]
def gE(G:aX)(a:Addr):Prop:=∃ x y,G a=some (qU x y)
theorem gE.up{G:aX}{a:Addr}{x y:Int}:gE (up G a (qU x y)) a:=⟨x,y,bF⟩
theorem gE.new{G:aX}{a l:Addr}{o:eS}(h:gE G a)(n:G l=none):gE (L3.up G l o) a:=by
 obtain ⟨x,y,e⟩:=h;exact ⟨x,y,by rw [c7 (by rintro rfl;rw [n] at e;cases e)];exact e⟩
theorem gE.ne{G:aX}{a l:Addr}(h:gE G a)(n:G l=none):l≠a:=by
 obtain ⟨x,y,e⟩:=h;rintro rfl;rw [n] at e;cases e
theorem og{G:aX}{a l:Addr}{f o:eS}(n:up G a f l=none):up (up G a f) l o=up (up G l o) a f/\G l=none/\l≠a:=by
 have ne:l≠a:=by rintro rfl;rw [bF] at n;cases n
 exact ⟨G8 (Ne.symm ne),by rw [c7 ne] at n;exact n,ne⟩
theorem Sub.new{G aA:aX}{p:Addr}{o:eS}(h:Sub G aA)(n:G p=tA):Sub G (up aA p o):=λ b u e=>by
 rw [c7 (by rintro rfl;rw [n] at e;cases e)];exact h b u e
theorem Sub.put{G aA:aX}{a:Addr}{o:eS}(h:Sub G aA):Sub (up G a o) (up aA a o):=λ b u e=>by
 by_cases c:b=a
 ·subst c;rw [bF] at e ⊢;exact e
 ·rw [c7 c] at e ⊢;exact h b u e
def dS(a:Addr)(G ap:aX):Prop:=∃ x y,ap=up G a (qU x y)
theorem dS.mk{a:Addr}{G:aX}{x y:Int}:dS a G (up G a (qU x y)):=⟨x,y,rfl⟩
theorem dS.trans{a:Addr}{G aA bc:aX}(h:dS a G aA)(k:dS a aA bc):dS a G bc:=by
 obtain ⟨x,y,rfl⟩:=h;obtain ⟨z,u,rfl⟩:=k;exact ⟨z,u,hH⟩
theorem dS.fd{a:Addr}{G ap:aX}(h:dS a G ap):gE ap a:=by obtain ⟨x,y,rfl⟩:=h;exact .up
theorem dS.other{a l:Addr}{G ap:aX}(h:dS a G ap)(n:l≠a):ap l=G l:=by obtain ⟨x,y,rfl⟩:=h;exact c7 n
theorem dS.drop{a l:Addr}{G ap:aX}{o:eS}(n:G l=tA)(h:dS a (up G l o) ap)(F:gE G a):∃ bc,Sub bc ap/\dS a G bc:=by
 obtain ⟨x,y,rfl⟩:=h;exact ⟨up G a (qU x y),Sub.put (Sub.new (Sub.refl _) n),x,y,rfl⟩
def iG:cS:=λ ds G Q=>match ds with
 | [.ref a,.int m]=>gE G a/\0 < m/\m < 2 ^ 62/\∀ d ap,dS a G ap->0<=d->d < m->Q (.int d) ap
 | _=>False
def u5:cS:=λ ds G Q=>match ds with
 | [.dY ss,.int k]=>∃ ns:List Int,ss=ns.map D.int/\ns.length<=63/\0<=k/\k < 2 ^ 32/\∀ r x y,G r=none->Q (.ref r) (up G r (qU x y))
 | _=>False
def i7:cS:=λ ds G Q=>match ds with
 | [.ref a]=>gE G a/\∀ n ap,dS a G ap->-(2 ^ 40) < n->n < 2 ^ 40->Q (Tm.enc (.whole n)) ap
 | _=>False
theorem kV{P:ck}{w:bW}{K:bl}{mg:Str->Option Value}{base:bL}{f:Addr}{fd:f9}{ps:List Str}{k:Nat}{d9:cS}(no:∀ ds G au,¬ d9 ds G au):cp P w K mg base cc k f fd ps (aK K d9):=
 ⟨λ ai H Q E ⟨ds,G,au,_,_,h,_⟩=>absurd h (no ds G au),λ A outer s H args us ai Q E _ _ _ _ ⟨ds,G,au,_,_,h,_⟩=>absurd h (no ds G au)⟩
theorem at2{x y:D}{G:aX}{Q:c8}{i:Int}(h0:0<=i)(ak:i < 2)(aF:i=0->Q x G)(bD:i=1->Q y G):atS [x,y] i G Q:=by
 refine lW ?_;rcases (by omega:i=0\/i=1) with rfl | rfl
 ·exact aF rfl
 ·exact bD rfl
theorem A2{x y z:D}{G:aX}{Q:c8}{i:Int}(h0:0<=i)(ak:i < 3)(aF:i=0->Q x G)(bD:i=1->Q y G)(hz:i=2->Q z G):atS [x,y,z] i G Q:=by
 refine lW ?_;rcases (by omega:i=0\/i=1\/i=2) with rfl | rfl | rfl
 ·exact aF rfl
 ·exact bD rfl
 ·exact hz rfl
theorem S2{x y z u:D}{G:aX}{Q:c8}{i:Int}(h0:0<=i)(ak:i < 4)(aF:i=0->Q x G)(bD:i=1->Q y G)(hz:i=2->Q z G)(a0:i=3->Q u G):atS [x,y,z,u] i G Q:=by
 refine lW ?_;rcases (by omega:i=0\/i=1\/i=2\/i=3) with rfl | rfl | rfl | rfl
 ·exact aF rfl
 ·exact bD rfl
 ·exact hz rfl
 ·exact a0 rfl
theorem S3{x y z u v:D}{G:aX}{Q:c8}{i:Int}(h0:0<=i)(ak:i < 5)(aF:i=0->Q x G)(bD:i=1->Q y G)(hz:i=2->Q z G)(a0:i=3->Q u G)(bC:i=4->Q v G):atS [x,y,z,u,v] i G Q:=by
 refine lW ?_;rcases (by omega:i=0\/i=1\/i=2\/i=3\/i=4) with rfl | rfl | rfl | rfl | rfl
 ·exact aF rfl
 ·exact bD rfl
 ·exact hz rfl
 ·exact a0 rfl
 ·exact bC rfl
def er(ns:List Int):D:=.tup (ns.map D.int)
def Tm.d1:Tm->Bool
 | .give (.way _) _=>true
 | .first (.pair _ _)=>true
 | .second (.pair _ _)=>true
 | .plus (.whole _) (.whole _)=>true
 | .look (.whole _) _ _=>true
 | _=>false
inductive Ty where
 | n | f (a b:Ty) | p (a b:Ty)
def Ty.enc:Ty->D
 | .n=>.str "n"
 | .f a b=>.tup [.str "f", a.enc,b.enc]
 | .p a b=>.tup [.str "p", a.enc,b.enc]
def Ty.aB:Ty->Nat
 | .n=>1
 | .f a b=>1+a.aB+b.aB
 | .p a b=>1+a.aB+b.aB
theorem Ty.lX(t:Ty):1<=t.aB:=by cases t<;>simp [Ty.aB]<;>omega
theorem Ty.HM(t:Ty):t.enc.data=true:=by induction t<;>simp_all [Ty.enc,D.data,h_]
theorem Ty.A1(t:Ty):t.enc.aJ<=t.aB:=by induction t<;>simp_all [Ty.enc,D.aJ,g8,Ty.aB]<;>omega
def qV(b:Tm->Bool):cS:=λ ds G Q=>∃ t:Tm,ds=[t.enc]/\Q (.aU (b t)) G
theorem HN(t u:Tm):(Tm.give t u).d1=(t.word=="way"):=by cases t<;>first | rfl | decide
theorem HO(t:Tm):(Tm.first t).d1=(t.word=="pair"):=by cases t<;>first | rfl | decide
theorem HP(t:Tm):(Tm.second t).d1=(t.word=="pair"):=by cases t<;>first | rfl | decide
theorem HQ(t u:Tm):(Tm.plus t u).d1=(t.word=="whole"&&u.word=="whole"):=by cases t<;>cases u<;>first | rfl | decide
theorem HR(t u v:Tm):(Tm.look t u v).d1=(t.word=="whole"):=by cases t<;>first | rfl | decide
def ac5:cS:=λ ds G Q=>match ds with
 | [.ref a,.int many]=>gE G a/\0<=many/\many < 2 ^ 40/\∀(p:Tm) ap,dS a G ap->p.aB=1->p.aJ=0->Q p.enc ap
 | _=>False
def sv:Nat->Nat
 | 0=>1
 | k+1=>1+2 * sv k
def oh(n:Nat):cS:=λ ds G Q=>match ds with
 | [.ref a,.int deep]=>gE G a/\0<=deep/\deep < n/\∀(t:Ty) ap,dS a G ap->t.aB<=sv deep.toNat->Q t.enc ap
 | _=>False
def oi(n:Nat):cS:=λ ds G Q=>∃ t:Tm,ds=[t.enc]/\t.aJ < n/\t.aB<=100000/\Q (.int t.aB) G
def jH{α:Type}(enc:α->D)(aV:α->List α):cS:=λ ds G Q=>∃ x,ds=[enc x]/\Q (.tup ((aV x).map enc)) G
section
variable{α:Type}{all:α->List (List Int × α)}{aV:α->List α}
theorem small{n:Nat}(h:n<=200000):n<=sizeLine:=by rw [jd];omega
theorem dx{n:Nat}(h:n<=200000):n < sizeLine:=by rw [jd];omega
theorem qW{G:aX}{p q:Addr}{x y z:eS}(h:p≠q):up (up (up G q x) p y) q z=up (up G q z) p y:=by
 rw [G8 h,hH]
end
theorem S4{u:Tm}{G:aX}{k:String->Prop}(q:k "tuple"):HK u.enc G k:=by rw [u.gT];exact q
theorem oj{u:Tm}{G:aX}{Q:c8}(q:Q (.aU true) G):A0 u.enc (.ty "tuple") G Q:=by
 unfold A0;exact S4 ⟨true,rfl,q⟩
theorem Tm.S5(t:Tm):(t.aB:Int)=1+(t.aV.map λ u=>(u.aB:Int)).sum:=by
 cases t<;>simp [Tm.aB,Tm.aV]<;>omega
theorem Tm.gF{t u:Tm}(h:u∈t.aV):u.aJ+1<=t.aJ:=by
 cases t<;>simp [Tm.aV] at h<;>simp only [Tm.aJ]<;>first | (subst h;omega) | (rcases h with rfl | rfl<;>omega) | (rcases h with rfl | rfl | rfl<;>omega)
theorem Tm.x5{t u:Tm}(h:u∈t.aV):u.aB+1<=t.aB:=by
 cases t<;>simp [Tm.aV] at h<;>simp only [Tm.aB]<;>first | (subst h;omega) | (rcases h with rfl | rfl<;>omega) | (rcases h with rfl | rfl | rfl<;>omega)
theorem Tm.S6(t:Tm):(t.aV=[]/\∃ n,t.args=[.int n])\/(t.args=t.aV.map Tm.enc):=by
 cases t<;>simp [Tm.aV,Tm.args]
theorem Tm.el(t:Tm):t.aV.length<=3:=by cases t<;>simp [Tm.aV]
def Tm.at:Tm->List Int->Option Tm
 | t,[]=>some t
 | t,k::ks=>if 0<=k then (match t.aV[k.toNat]? with | some u=>Tm.at u ks | none=>none) else none
theorem Tm.i8{t u:Tm}{k:Int}{ks:List Int}(h0:0<=k)(h:t.aV[k.toNat]?=some u):t.at (k::ks)=u.at ks:=by rw [Tm.at,if_pos h0,h]
theorem Tm.qX{t:Tm}{k:Int}{ks:List Int}{q:Tm}(h:t.at (k::ks)=some q):0<=k/\∃ x,t.aV[k.toNat]?=some x/\x.at ks=some q:=by
 rw [Tm.at] at h;split at h
 ·next c=>
  split at h
  ·next u e=>exact ⟨c,u,e,h⟩
  ·cases h
 ·cases h
theorem Tm.x6:∀{ns:List Int}{t q:Tm}{i:Nat}{k:Int},t.at ns=some q->ns[i]?=some k->∃ u v,t.at (ns.take i)=some u/\0<=k/\u.aV[k.toNat]?=some v/\t.at (ns.take (i+1))=some v
 | [],_,_,_,_,_,ar=>by simp at ar
 | n::ns,t,q,0,k,h,ar=>by
  simp at ar;subst ar;obtain ⟨u6,x,aF,h'⟩:=Tm.qX h;exact ⟨t,x,rfl,u6,aF,by rw [List.take_succ_cons,List.take_zero,Tm.i8 u6 aF];rfl⟩
 | n::ns,t,q,i+1,k,h,ar=>by
  obtain ⟨u6,x,aF,h'⟩:=Tm.qX h;obtain ⟨u,v,ak,aq,aT,cb⟩:=Tm.x6 (i:=i) (k:=k) h' (by simpa using ar);exact ⟨u,v,by rw [List.take_succ_cons,Tm.i8 u6 aF];exact ak,aq,aT,by rw [List.take_succ_cons,Tm.i8 u6 aF];exact cb⟩
theorem S7{v u:Tm}{j:Nat}{k:Int}{G:aX}{Q:c8}(h:v.aV[j]?=some u)(aO:k=1+(j:Int))(q:Q u.enc G):kQ v.enc (.int k) G Q:=by
 rw [v.gT];refine mW ?_ q
 have e:v.args=v.aV.map Tm.enc:=by
  rcases v.S6 with ⟨e,_⟩ | e
  ·rw [e] at h;simp at h
  ·exact e
 rw [aO,show (1:Int)+(j:Int)=((j+1:Nat):Int) by omega];exact lp (by rw [List.getElem?_cons_succ,e,eu,h];rfl)
def px:cS:=λ ds G Q=>∃(t:Tm)(ns:List Int)(u:Tm),ds=[t.enc,er ns]/\t.at ns=some u/\Q u.enc G
mutual
def D.plain:D->Bool
 | .int _=>true
 | .str _=>true
 | .tup ds=>decide (ds.length<=100000)&&pz ds
 | _=>false
def pz:List D->Bool
 | []=>true
 | d::ds=>d.plain&&pz ds
end
theorem HS:∀{ds:List D}{d:D},pz ds=true->d∈ds->d.plain=true
 | d::ds,e,h,m=>by
  simp only [pz,eU] at h;rcases dJ.mp m with rfl | m
  ·exact h.1
  ·exact HS h.2 m
theorem HT:∀{ds:List D}{d:D},d∈ds->d.aJ<=g8 ds
 | d::ds,e,m=>by
  rcases dJ.mp m with rfl | m
  ·simp only [g8];omega
  ·have:=HT m;simp only [g8];omega
def sx(n:Nat):cS:=λ ds G Q=>∃ d:D,ds=[d,d]/\d.plain=true/\d.aJ < n/\Q (.aU true) G
theorem HU{α β:Type}(f:α × α->β):∀ xs:List α,(xs.zip xs).map f=xs.map λ x=>f (x,x)
 | []=>rfl
 | x::xs=>by rw [List.zip_cons_cons,ew,ew,HU f xs]
theorem S8:∀ ns:List Int,pz (ns.map D.int)=true
 | []=>rfl
 | n::ns=>by simp [pz,D.plain,S8 ns]
theorem HV:∀ ns:List Int,g8 (ns.map D.int)=0
 | []=>rfl
 | n::ns=>by simp [g8,D.aJ,HV ns]
theorem Tm.S9(t:Tm):t.enc.plain=true:=by
 induction t<;>simp_all [Tm.enc,D.plain,pz]
end L3
namespace L3
open PySem PyProof L2
section
variable{X:bb}
abbrev S_(i:Nat)(T:Addr)(env:Env)(name qual:Str)(st:bB)(fr:List Str)(pos:Pos):gA:=λ dR ρ G=>G T=some (.tab pos qual)/\∀ f,G f=none->dR.nx (ρ.set i (some (.ref f))) (up G f (.made env name qual st fr))
theorem Go.def{K:bl}{G:aX}{H aj:ay}{T f:Addr}{env:Env}{name qual:Str}{st:bB}{fr:List Str}{pos:Pos}(v:ek K G H)(bQ:G T=some (.tab pos qual))(hf:H f=none)(M:r2 env aj f name qual st fr)(bN:Tab aj T pos qual)(b0:∀ b u,b≠T->H b=some u->aj b=some u) :
 Go K G H (up G f (.made env name qual st fr)) aj:=by
 obtain ⟨ps,Ta,_⟩:=v T _ bQ;obtain ⟨HW,Tb,_⟩:=id bN
 have lN:∀ a u,H a=some u->u≠.g4 ps->a≠T:=λ a u e n z=>by rw [z,Ta] at e;exact n (e1.inj e).symm
 have bT:i0 K H aj:=by
  refine ⟨λ a xs q=>?_,λ a xs q=>?_,λ a o q=>b0 _ _ (lN _ _ q λ z=>nomatch z) q⟩
  ·rcases q with (q | ⟨o,q⟩) | q
   ·exact .inl (.inl (b0 _ _ (lN _ _ q λ z=>nomatch z) q))
   ·exact .inl (.inr ⟨o,b0 _ _ (lN _ _ q λ z=>nomatch z) q⟩)
   ·exact .inr q
  ·rcases q with ⟨o,q⟩ | q
   ·exact .inl ⟨o,b0 _ _ (lN _ _ q λ z=>nomatch z) q⟩
   ·exact .inr q
 refine ⟨bT,λ a o e=>?_,λ a o e n=>?_,λ a o e n=>?_,λ a u e=>?_⟩
 ·by_cases z:a=T
  ·subst z;exact ⟨_,Tb⟩
  ·exact ⟨o,b0 a o z e⟩
 ·exact b0 a o (λ z=>by rw [z,bQ] at n;cases n) e
 ·rw [c7 (λ z=>by rw [z,hf] at e;cases e)];exact n
 ·by_cases z:a=f
  ·subst z;rw [bF] at e;cases e;exact M
  ·rw [c7 z] at e;by_cases y:a=T
   ·subst y;rw [bQ] at e;cases e;exact bN
   ·obtain ⟨hV,q⟩:=(v a u e).some;exact (v a u e).mono bT (by rw [q];exact b0 _ _ y q)
variable{i:Nat}{T c:Addr}{name:Str}{params:ww}{body:List bB}{scope:eC}{pos:Pos}{fr:List Str}
theorem HX(cw:X.N.Nodup)(ar:X.N[i]?=some name)(aQ:Loc X.env.scope name)(xx:X.env.code=.ref c)(j9:PySem.W.CodeHd X.base c T)(gj:lM X.mg X.base)
 (gy:wu scope X.env=pure (e7 X.env fr)) (Ai:params.defaults=[]) (Aj:params.kw_defaults=[]) (aD:annTrees params none X.env=[])
 (hf:X.fn name=true\/X.env.scope.names.lookup name=some .local:=by first | exact .inl rfl | exact .inr rfl | assumption) :
 i1 X (.FunctionDef name params body [] none [] scope none name pos) (S_ i T X.env name (pU X.env name name) (.FunctionDef name params body [] none [] scope none name pos) fr pos):=by
 refine ⟨_,⟨Re (T:=T) cw ar aQ xx j9 gj gy Ai Aj aD hf⟩,λ dR eT ρ G σ H B q F=>?_⟩;obtain ⟨bQ,q⟩:=q;refine ⟨B.b3 T _ bQ,λ f aj HY M bN b0=>?_⟩;have g:=Go.def B.b3 bQ HY M bN b0;exact F.nx _ _ _ _ g ((B.go g).set (d:=.ref f) rfl i) (q f (B.b3.none HY))
end
end L3
namespace L2
open PySem PySem.Spec PyProof.Rows
def Tc(i:Nat)(name qual:Str)(st:bB)(fr:List Str)(sp:List V->fK)(t:eD):TE:=λ σ H Q=>∃ cH,GU i name qual st fr cH (sp cH) t σ H Q
theorem Td{X:bb}{k j i:Nat}{name qual:Str}{st:bB}{fr:List Str}{ps:List Str}{x:Str}{sp:List V->fK}{p pos:Pos}{e:bg}{ah:List bg}{t:eD}(G:∀ cH,xu X.prog X.w X.K X.mg X.base k name qual st fr cH ps (sp cH))(am:eF j X.A)(aO:k<=j)(cw:X.N[i]?=some x)(bC:ld X.env.scope x)(aD:hc X (e::ah) t)
 (hd:(x==("__debug__" : Str))=false) (e3:(x==("__classdict__" : Str))=false) (he:dv (e::ah) X.env=(false,eval e X.env)::dv ah X.env) (fX:(fS pos (dv ah X.env)).any (·.1)=false) :
 bX X (.Call (.Name x p) (e::ah) [] pos) (Tc i name qual st fr sp t):=λ pins s σ H Q I ⟨cH,h⟩=>Q8 (G cH) am aO cw bC aD hd e3 he fX pins s σ H Q I h
end L2
namespace L3
open PySem PyProof L2
def Te(K:bl)(vals:List D)(d9:cS)(cH:List V):fK:=λ ai H Q _=>∃ ds G au,b2 K H ds ai/\b2 K H vals cH/\ek K G H/\d9 ds G au/\Fin K G H au Q
structure u7(P:ck)(w:bW)(K:bl)(mg:Str->Option Value)(base:bL)(k:Nat)(name qual:Str)(st:bB)(fr:List Str)(vals:List D)(ps:List Str)(d9:cS):Prop where
 ok:∀ cH,xu P w K mg base k name qual st fr cH ps (Te K vals d9 cH)
section
variable{X:bb}{k j:Nat}{name qual:Str}{st:bB}{fr:List Str}{vals:List D}{ps:List Str}{x:Str}{d9:cS}{p pos:Pos}{e:bg}{ah:List bg}{t:fM}
abbrev Tf(n:Nat)(name qual:Str)(st:bB)(fr:List Str)(vals:List D)(d9:cS)(t:fM):cj:=λ ρ G Q=>∃ f,ρ[n]?=some (some (.ref f))/\G f=some (.lO name qual st fr vals)/\t ρ G λ ds aA=>aA f=some (.lO name qual st fr vals)/\d9 ds aA Q
theorem Go.fG{K:bl}{G aA:aX}{H H1:ay}{f:Addr}{cl:List (Str × Addr)}{cH:List V}(g:Go K G H aA H1)(C:kf H f name qual st cl cH):kf H1 f name qual st cl cH:=by
 obtain ⟨b6,dA,doc,pm,bE,ct,cn,aT,c,o,ai,t,cb,dM,j_⟩:=C.fn;exact ⟨⟨b6,dA,doc,pm,bE,ct,cn,g.tup.dm _ _ aT,c,o,ai,t,cb,g.tup.dm _ _ dM,j_⟩,λ i x c ar=>let ⟨v,u,o,cB,b8,dg,gx⟩:=C.cells i x c ar;⟨v,u,o,cB,b8,g.tup.dm _ _ dg,gx⟩,C.len,C.Aa⟩
theorem Tg(n:Nat)(Th:u7 X.prog X.w X.K X.mg X.base k name qual st fr vals ps d9)(am:eF j X.A)(aO:k<=j)(aD:h7 X (e::ah) t)(cw:X.N[n]?=some x:=by rfl)(bC:ld X.env.scope x:=by first | exact Or.inl rfl | exact Or.inr (Or.inl rfl) | exact Or.inr (Or.inr rfl))
 (hd:(x==("__debug__" : Str))=false:=by decide) (e3:(x==("__classdict__" : Str))=false:=by decide) (ax:(e::ah).all dw=true:=by rfl):bZ X (.Call (.Name x p) (e::ah) [] pos) (Tf n name qual st fr vals d9 t):=by
 obtain ⟨ca,cM,cN⟩:=aD.run;have h:=ax;rw [iP,eU] at h;refine ⟨_,⟨Td Th.ok am aO cw bC cM.run hd e3 (eH h.1) (qs h.2)⟩,λ ρ G au σ H Q B q F=>?_⟩;obtain ⟨f,jy,aH,q⟩:=q;obtain ⟨v,ak,aq⟩:=B.st n _ jy;cases aq;obtain ⟨cl,cH,C,gy,A3⟩:=B.b3 f _ aH;exact ⟨cH,f,cl,ak,C,gy,cN ρ G _ σ H _ B q λ ds aA ai H1 g1 al _ ⟨_,eh⟩=>⟨g1.fG C,ds,aA,au,al,A3.mono g1.tup,g1.b3,eh,F.after g1⟩⟩
end
theorem A4{p:Prop}(c:false=true):p:=nomatch c
theorem x7{p:Prop}(c:true=false):p:=nomatch c
def Tm.iH:Tm->Bool
 | .pair a b=>a.iH&&b.iH
 | .whole _=>true
 | .way _=>true
 | _=>false
def Tm.i9:Tm->Option Nat
 | .plus a _=>if a.word=="whole" then some 1 else some 0
 | .give _ _=>some 0
 | .first _=>some 0
 | .second _=>some 0
 | .look _ _ _=>some 0
 | _=>none
def Tm.use:Tm->Option (List Int)
 | .give a b=>if (Tm.give a b).d1 then some [] else a.use.map (0::·)
 | .first a=>if (Tm.first a).d1 then some [] else a.use.map (0::·)
 | .second a=>if (Tm.second a).d1 then some [] else a.use.map (0::·)
 | .look a b c=>if (Tm.look a b c).d1 then some [] else a.use.map (0::·)
 | .plus a b=>if (Tm.plus a b).d1 then some [] else if a.word=="whole" then b.use.map (1::·) else a.use.map (0::·)
 | _=>none
def Tm.ed:Tm->Option (List Int × Tm)
 | .pair a b=>match a.ed with
  | some z=>some (0::z.1,z.2)
  | none=>match b.ed with
   | some z=>some (1::z.1,z.2)
   | none=>none
 | .whole _=>none
 | .way _=>none
 | t=>some ([],t)
def Tm.nx(t:Tm):Option (List Int):=match t.ed with
 | none=>none
 | some z=>z.2.use.map (z.1++·)
theorem Tm.Ti(t:Tm):t.ed=none ↔ t.iH=true:=by
 induction t with
 | pair a b u9 u_=>
  simp only [Tm.ed,Tm.iH,eU,<- u9,<- u_];cases a.ed<;>cases b.ed<;>simp
 | _=>simp [Tm.ed,Tm.iH]
theorem Tm.Tj(a b:Tm):(Tm.pair a b).nx=if a.iH=true then b.nx.map (1::·) else a.nx.map (0::·):=by
 simp only [Tm.nx,Tm.ed,<- Tm.Ti]
 cases a.ed with
 | some z=>simp only [reduceCtorEq,if_false];cases z.2.use<;>simp
 | none=>
  cases b.ed with
  | none=>simp
  | some z=>simp only [if_true];cases z.2.use<;>simp
theorem Tm.A5{t:Tm}(h:t.d1=true):t.use=some []:=by
 cases t with
 | give a b=>simp only [Tm.use];rw [if_pos h]
 | first a=>simp only [Tm.use];rw [if_pos h]
 | second a=>simp only [Tm.use];rw [if_pos h]
 | plus a b=>simp only [Tm.use];rw [if_pos h]
 | look a b c=>simp only [Tm.use];rw [if_pos h]
 | _=>simp [Tm.d1] at h
theorem Tm.HZ{t:Tm}(h:t.i9=none):t.use=none:=by
 cases t with
 | plus a b=>simp only [Tm.i9] at h;split at h<;>cases h
 | _=>first | rfl | simp [Tm.i9] at h
theorem Tm.x8{t:Tm}{k:Nat}(am:t.d1=false)(h:t.i9=some k):∃ u,t.aV[k]?=some u/\t.use=u.use.map ((k:Int)::·):=by
 have va:¬ t.d1=true:=by rw [am];simp
 cases t with
 | plus a b=>
  simp only [Tm.i9] at h;simp only [Tm.use];rw [if_neg va];split at h
  ·next c=>cases h;exact ⟨b,rfl,by rw [if_pos c];rfl⟩
  ·next c=>cases h;exact ⟨a,rfl,by rw [if_neg c];rfl⟩
 | give a b=>simp only [Tm.i9] at h;cases h;exact ⟨a,rfl,by simp only [Tm.use];rw [if_neg va];rfl⟩
 | first a=>simp only [Tm.i9] at h;cases h;exact ⟨a,rfl,by simp only [Tm.use];rw [if_neg va];rfl⟩
 | second a=>simp only [Tm.i9] at h;cases h;exact ⟨a,rfl,by simp only [Tm.use];rw [if_neg va];rfl⟩
 | look a b c=>simp only [Tm.i9] at h;cases h;exact ⟨a,rfl,by simp only [Tm.use];rw [if_neg va];rfl⟩
 | _=>simp [Tm.i9] at h
theorem Tm.H0:∀{n:Nat}{t:Tm}{ns:List Int},t.aB<=n->t.use=some ns->(∃ u,t.at ns=some u/\u.d1=true)/\ns.length<=t.aJ
 | 0,t,_,bt,_=>by have:=t.lX;omega
 | n+1,t,ns,bt,h=>by
  cases am:t.d1 with
  | true=>rw [Tm.A5 am] at h;cases h;exact ⟨⟨t,rfl,am⟩,e0 _⟩
  | false=>
   cases a0:t.i9 with
   | none=>rw [Tm.HZ a0] at h;cases h
   | some k=>
    obtain ⟨u,ak,aq⟩:=Tm.x8 am a0;rw [aq] at h
    cases e:u.use with
    | none=>rw [e] at h;cases h
    | some ms=>
     rw [e] at h;cases h;have hm:=ih ak;have:=Tm.x5 hm;have:=Tm.gF hm;obtain ⟨⟨v,aT,cb⟩,dM⟩:=Tm.H0 (n:=n) (by omega) e;exact ⟨⟨v,by rw [Tm.i8 (u:=u) (by omega) (by simpa using ak)];exact aT,cb⟩,by rw [dH];omega⟩
theorem Tm.H2:∀{ps:List Int}{t u:Tm}{ns:List Int},t.at ps=some u->t.at (ps++ns)=u.at ns
 | [],t,u,ns,h=>by cases h;rfl
 | p::ps,t,u,ns,h=>by
  obtain ⟨kk,x,aF,h'⟩:=Tm.qX h;rw [oO,Tm.i8 kk aF];exact Tm.H2 h'
theorem Tm.Tk:∀{t:Tm}{z:List Int × Tm},t.ed=some z->t.at z.1=some z.2/\z.1.length+z.2.aJ<=t.aJ:=by
 intro t
 induction t with
 | pair a b u9 u_=>
  intro z h;simp only [Tm.ed] at h
  cases de:a.ed with
  | some y=>
   rw [de] at h;cases h;obtain ⟨ak,aq⟩:=u9 de;exact ⟨by rw [Tm.i8 (u:=a) (by decide) rfl];exact ak,by simp only [dH,Tm.aJ];omega⟩
  | none=>
   rw [de] at h
   cases ea:b.ed with
   | some y=>
    rw [ea] at h;cases h;obtain ⟨ak,aq⟩:=u_ ea;exact ⟨by rw [Tm.i8 (u:=b) (by decide) rfl];exact ak,by simp only [dH,Tm.aJ];omega⟩
   | none=>rw [ea] at h;cases h
 | whole _=>intro z h;cases h
 | way _ _=>intro z h;cases h
 | _=>intro z h;cases h;exact ⟨rfl,by simp⟩
theorem Tm.Tl:∀{t:Tm}{z:List Int × Tm},t.ed=some z->z.2.aB<=t.aB:=by
 intro t
 induction t with
 | pair a b u9 u_=>
  intro z h;simp only [Tm.ed] at h
  cases de:a.ed with
  | some y=>
   rw [de] at h;cases h;have:=u9 de;simp only [Tm.aB];omega
  | none=>
   rw [de] at h
   cases ea:b.ed with
   | some y=>
    rw [ea] at h;cases h;have:=u_ ea;simp only [Tm.aB];omega
   | none=>rw [ea] at h;cases h
 | whole _=>intro z h;cases h
 | way _ _=>intro z h;cases h
 | _=>intro z h;cases h;exact b7 _
theorem Tm.H3{t:Tm}{ns:List Int}(h:t.nx=some ns):(∃ u,t.at ns=some u/\u.d1=true)/\ns.length<=t.aJ:=by
 unfold Tm.nx at h;split at h
 ·cases h
 ·next z e=>
  obtain ⟨ak,aq⟩:=Tm.Tk e
  cases aL:z.2.use with
  | none=>rw [aL] at h;cases h
  | some ms=>
   rw [aL] at h;cases h;obtain ⟨⟨u,aT,cb⟩,dM⟩:=Tm.H0 (b7 _) aL;exact ⟨⟨u,by rw [Tm.H2 ak];exact aT,cb⟩,by simp only [fs];omega⟩
theorem Tm.Tn{t:Tm}(h:∀ a b,t≠.pair a b):t.nx=t.use:=by
 cases t with
 | pair a b=>exact absurd rfl (h a b)
 | whole _=>rfl
 | way _=>rfl
 | _=>simp only [Tm.nx,Tm.ed,List.nil_append,Option.map_id']
def om:List (Tm × List Int)->Option (List Int × Tm)
 | []=>none
 | (t,r)::rest=>match t.ed with
  | some z=>some (r.reverse++z.1,z.2)
  | none=>om rest
theorem To(a b:Tm)(r:List Int)(rest:List (Tm × List Int)):om ((Tm.pair a b,r)::rest)=om ((a,0::r)::(b,1::r)::rest):=by
 simp only [om,Tm.ed]
 cases a.ed with
 | some z=>simp
 | none=>cases b.ed<;>simp
def qY:List Int->D
 | []=>.bJ
 | k::r=>.tup [qY r,.int k]
def pA(z:Tm × List Int):D:=.tup [z.1.enc,qY z.2]
def hL(zs:List (Tm × List Int)):Nat:=(zs.map λ z=>z.1.aB).sum
theorem qZ(zs:List (Tm × List Int))(z:Tm × List Int):hL (zs++[z])=hL zs+z.1.aB:=by simp [hL]
theorem H4:∀ zs:List (Tm × List Int),zs.length<=hL zs
 | []=>e0 _
 | z::zs=>by
  have:=H4 zs;have:=z.1.lX;simp only [hL,ew,List.sum_cons,dH] at *;omega
def vb:Option (List Int)->D
 | none=>.bJ
 | some ns=>er ns
def x9:cS:=λ ds G Q=>∃ r:List Int,ds=[qY r]/\r.length<=100000/\Q (er r.reverse) G
def A6:cS:=λ ds G Q=>∃(t:Tm)(ns:List Int)(u:Tm),ds=[t.enc,er ns]/\t.at ns=some u/\Q (.aU u.d1) G
def A7:cS:=λ ds G Q=>∃ t:Tm,ds=[t.enc]/\Q (match t.i9 with | none=>.bJ | some k=>.int k) G
def A8:cS:=λ ds G Q=>∃ t:Tm,ds=[t.enc]/\t.aB<=10000/\Q (vb t.use) G
def A9:cS:=λ ds G Q=>∃ t:Tm,ds=[t.enc]/\t.aB<=10000/\Q (match t.ed with | none=>.bJ | some z=>.tup [z.2.enc,er z.1]) G
def sy(n:Nat):cS:=λ ds G Q=>∃ t:Tm,ds=[t.enc]/\t.aJ < n/\Q (.aU t.iH) G
section
variable{K:bl}{H aj:ay}
mutual
theorem db.iI(dy:∀ a xs,dq K H a xs->dq K aj a xs)(fr:∀ a xs,jC K H a xs->jC K aj a xs):∀{d:D}{v:V},db K H d v->db K aj d v
 | .bJ,_,r=>r
 | .aU _,_,r=>r
 | .int _,_,r=>r
 | .str _,_,r=>r
 | .ref _,_,r=>r
 | .ty _,_,r=>r
 | .tup _,_,⟨a,ai,e,q,l⟩=>⟨a,ai,e,dy a ai q,b2.iI dy fr l⟩
 | .dY _,_,⟨a,ai,e,q,l⟩=>⟨a,ai,e,fr a ai q,b2.iI dy fr l⟩
theorem b2.iI(dy:∀ a xs,dq K H a xs->dq K aj a xs)(fr:∀ a xs,jC K H a xs->jC K aj a xs):∀{ds:List D}{ai:List V},b2 K H ds ai->b2 K aj ds ai
 | [],_,r=>r
 | _::_,_,⟨v,r,e,q,l⟩=>⟨v,r,e,db.iI dy fr q,b2.iI dy fr l⟩
end
def eS.q0:eS->Bool
 | .lst _=>true
 | .ins _ _=>true
 | .c4 _=>true
 | .fU _=>true
 | .r8 _=>true
 | _=>false
theorem lP.iI{a:Addr}{o:eS}(dy:∀ a xs,dq K H a xs->dq K aj a xs)(fr:∀ a xs,jC K H a xs->jC K aj a xs)(a4:o.q0=true)(e:aj a=H a)(h:lP K H a o):lP K aj a o:=by
 cases o with
 | lst ds=>obtain ⟨ai,q,l⟩:=h;exact ⟨ai,by rw [e];exact q,l.iI dy fr⟩
 | ins C bO=>obtain ⟨eM,gs,q,l⟩:=h;exact ⟨eM,gs,by rw [e];exact q,l.1,l.2.iI dy fr⟩
 | c4 kvs=>obtain ⟨gs,q,l⟩:=h;exact ⟨gs,by rw [e];exact q,l.1,l.2.iI dy fr⟩
 | fU kvs=>obtain ⟨gs,q,l⟩:=h;exact ⟨gs,by rw [e];exact q,l.1,l.2.iI dy fr⟩
 | r8 kvs=>obtain ⟨o,gs,q,l⟩:=h;exact ⟨o,gs,by rw [e];exact q,l.1,l.2.iI dy fr⟩
 | _=>cases a4
theorem lP.Tp{a:Addr}{o:eS}(a4:o.q0=true)(h:lP K H a o){u:Obj}(e:H a=e1 (fo u)):False:=by
 cases o with
 | lst ds=>obtain ⟨ai,q,l⟩:=h;rw [e] at q;cases q
 | ins C bO=>obtain ⟨eM,gs,q,l⟩:=h;rw [e] at q;cases q
 | c4 kvs=>obtain ⟨gs,q,l⟩:=h;rw [e] at q;cases q
 | fU kvs=>obtain ⟨gs,q,l⟩:=h;rw [e] at q;cases q
 | r8 kvs=>obtain ⟨o,gs,q,l⟩:=h;rw [e] at q;simp [fo] at q
 | _=>cases a4
theorem lw.mono(h:lw H aj):i0 K H aj:=⟨λ b xs q=>by
 rcases q with q | q
 ·rcases q with q | ⟨o,q⟩
  ·exact .inl (.inl (h _ _ q))
  ·exact .inl (.inr ⟨o,h _ _ q⟩)
 ·exact .inr q,λ b xs q=>by
 rcases q with ⟨o,q⟩ | q
 ·exact .inl ⟨o,h _ _ q⟩
 ·exact .inr q,λ b o q=>h _ _ q⟩
theorem q1{as:List Addr}(dm:pf H as):∀ a xs,dq K H a xs->dq K (less H as) a xs:=λ a xs q=>by
 have out:∀ {u},H a=some u->(∀ o,u≠fo o)->less H as a=some u:=λ{u} e n=>by
  rw [gR λ z=>?_];exact e;obtain ⟨o,z⟩:=dm a z;rw [e] at z;exact n o (e1.inj z)
 rcases q with (q | ⟨o,q⟩) | q
 ·exact .inl (.inl (out q λ o z=>nomatch z))
 ·exact .inl (.inr ⟨o,out q λ o z=>nomatch z⟩)
 ·exact .inr q
theorem q2{as:List Addr}(dm:pf H as):∀ a xs,jC K H a xs->jC K (less H as) a xs:=λ a xs q=>by
 rcases q with ⟨o,q⟩ | q
 ·refine .inl ⟨o,?_⟩;rw [gR λ z=>?_];exact q;obtain ⟨o,z⟩:=dm a z;rw [q] at z;cases z
 ·exact .inr q
end
def H5(sc:eC)(N:List Str)(fn:Str->Bool)(fr:List Str)(ix:List Nat):Bool:=
 ix.length==fr.length&&(eL fr.length).all λ i=>match fr[i]?,ix[i]? with
  | some y,some j=>N[j]?==some y&&sc.names.lookup y==some .cell&&fn y
  | _,_=>false
section
variable{X:bb}{e:bg}{ah:List bg}{t:fM}{p pos:Pos}
abbrev Tq(env:Env)(name qual:Str)(st:bB)(fr:List Str)(ix:List Nat)(d9:cS)(t:fM):cj:=λ ρ G Q=>t ρ G λ ds aA=>∃ f vals,aA f=some (.made env name qual st fr)/\vals.length=fr.length ∧
 (∀(i j:Nat),ix[i]?=some j->∃ d,ρ[j]?=some (some d)/\vals[i]?=some d)/\d9 ds (up aA f (.lO name qual st fr vals)) λ d bc=>bc=up aA f (.lO name qual st fr vals)/\Q d aA
theorem H6{k j:Nat}{x:Str}{ps:List Str}{d9:cS}{name qual:Str}{st:bB}{fr:List Str}{ix:List Nat}(Gt:Got X.prog X.w X.K X.mg X.base k x ps (aK X.K d9))(am:eF j X.A)(aO:k<=j)(aZ:di X x)(Ad:fr.Nodup)(gj:H5 X.env.scope X.N X.fn fr ix=true)(aD:h7 X (e::ah) t)
 (gh:(x==("__debug__" : Str))=false:=by decide) (ax:(e::ah).all dw=true:=by rfl):bZ X (.Call (.Name x p) (e::ah) [] pos) (Tq X.env name qual st fr ix d9 t):=by
 obtain ⟨ca,cM,cN⟩:=aD.run;have h:=ax;rw [iP,eU] at h;unfold H5 at gj;rw [eU,rC] at gj
 have Ae:ix.length=fr.length:=by simpa using gj.1
 have ph:∀(i:Nat)(y:Str),fr[i]?=some y->∃ j,ix[i]?=some j/\X.N[j]?=some y/\X.env.scope.names.lookup y=some .cell/\X.fn y=true:=λ i y bD=>by
  have lt:i < fr.length:=(ji.mp bD).1;have z:=gj.2 i (nu.mpr lt);have iJ:ix[i]?=some (ix[i]'(by omega)):=gb (by omega);rw [bD,iJ] at z;simp only [eU,beq_iff_eq] at z;exact ⟨_,iJ,z.1.1,z.1.2,z.2⟩
 refine ⟨_,⟨Ra (name:=name) (qual:=qual) (st:=st) (ix:=ix) Gt am aO aZ cM.run gh Ad Ae ph (eH h.1) (qs h.2)⟩,λ ρ G au σ H Q B q F=>?_⟩;refine cN ρ G _ σ H _ B q λ ds aA ai H1 g1 al _ aH=>?_;obtain ⟨f,vals,hf,ac6,A3,bI⟩:=aH;have M:r2 X.env H1 f name qual st fr:=g1.b3 f _ hf
 let cH:List V:=ix.map λ j=>match σ[j]? with
  | some (some v)=>v
  | _=>.bJ
 have H7:∀(i j:Nat),ix[i]?=some j->∃ d v,ρ[j]?=some (some d)/\vals[i]?=some d/\σ[j]?=some (some v)/\cH[i]?=some v/\db X.K H1 d v:=λ i j cP=>by
  obtain ⟨d,ak,aq⟩:=A3 i j cP;obtain ⟨v,aT,cb⟩:=B.st j d ak;refine ⟨d,v,ak,aq,aT,?_,cb.mono g1.tup⟩;show (ix.map _)[i]?=_;rw [eu,cP];simp only [nB,aT]
 have Tr:b2 X.K H1 vals cH:=by
  have key:∀(n:Nat)(ws:List D)(us:List V),ws.length=n->us.length=n->(∀(i:Nat)(d:D),ws[i]?=some d->∃ v:V,us[i]?=some v/\db X.K H1 d v)->b2 X.K H1 ws us:=λ n=>by
   induction n with
   | zero=>intro ws us ak aq _;cases ws<;>cases us<;>simp_all [b2]
   | succ n aN=>
    intro ws us ak aq dt
    cases ws with
    | nil=>simp at ak
    | cons w ws=>
     cases us with
     | nil=>simp at aq
     | cons u us=>
      obtain ⟨v,aP,aL⟩:=dt 0 w rfl;cases aP;exact ⟨u,us,rfl,aL,aN ws us (by simpa using ak) (by simpa using aq) λ i d hd=>by simpa using dt (i+1) d (by simpa using hd)⟩
  refine key vals.length vals cH rfl (by show (ix.map _).length=_;rw [bS];omega) λ i d hd=>?_
  have lt:i < ix.length:=by have:=(ji.mp hd).1;omega
  obtain ⟨d',v,_,aq,_,cb,dM⟩:=H7 i ix[i] (gb lt);rw [hd] at aq;cases aq;exact ⟨v,cb,dM⟩
 refine ⟨f,cH,M,λ i j cP=>let ⟨d,v,_,_,aT,cb,_⟩:=H7 i j cP;⟨v,aT,cb⟩,by show (ix.map _).length=_;rw [bS];exact Ae,λ aS out no C=>?_⟩
 have x_:lw H1 aS:=λ b u ea=>by
  rw [out b λ z=>?_];exact ea;rw [no b z] at ea;cases ea
 have sz:i0 X.K H1 aS:=lw.mono x_
 have v2:ek X.K (up aA f (.lO name qual st fr vals)) aS:=λ a o de=>by
  by_cases z:a=f
  ·subst z;rw [bF] at de;cases de;refine ⟨_,cH,C,?_,Tr.mono sz⟩;rw [e7,fE];exact List.map_id fr
  ·rw [c7 z] at de;obtain ⟨u,vd⟩:=(g1.b3 a o de).some;exact (g1.b3 a o de).mono sz (by rw [vd];exact x_ a u vd)
 refine ⟨ds,_,_,by rw [show ai=ai from rfl];exact al.mono sz,v2,bI,λ d bc v aj g2 ad bv=>?_⟩;obtain ⟨rfl,bv⟩:=bv;have Ts:pf aS ((e7 X.env fr).map (·.2)):=C.fG
 have sA:pf aj ((e7 X.env fr).map (·.2)):=λ a aD=>let ⟨o,z⟩:=Ts a aD;⟨o,g2.tup.dm a o z⟩
 have ve:∀ {b u},H1 b=some u->b ∉ (e7 X.env fr).map (·.2):=λ{b u} ea z=>by rw [no b z] at ea;cases ea
 have c5:i0 X.K H1 (less aj ((e7 X.env fr).map (·.2))):=⟨λ a xs q=>q1 sA a xs (g2.tup.dy a xs (sz.dy a xs q)),λ a xs q=>q2 sA a xs (g2.tup.fr a xs (sz.fr a xs q)),λ a o q=>by rw [gR (ve q)];exact g2.tup.dm a o (sz.dm a o q)⟩
 refine F d aA v _ (g1.trans ⟨c5,λ a o de=>?_,λ a o de n=>?_,λ _ _ _ n=>n,λ a o de=>?_⟩) (ad.iI (q1 sA) (q2 sA)) bv
 ·rw [gR (ve de)];exact g2.iw a o (x_ a o de)
 ·rw [gR (ve de)];refine g2.same a o (x_ a o de) ?_;rw [c7 (by rintro rfl;rw [hf] at n;cases n)];exact n
 ·have hF:=g1.b3 a o de;obtain ⟨u,vd⟩:=hF.some;by_cases a4:o.q0=true
  ·have z:a≠f:=by rintro rfl;rw [hf] at de;cases de;cases a4
   exact (g2.b3 a o (by rw [c7 z];exact de)).iI (q1 sA) (q2 sA) a4 (gR (ve vd))
  ·cases o with
   | made Tt H8 ya hY H9=>
    obtain ⟨_,_,_,_,_,_,_,z,_⟩:=(show r2 Tt H1 a H8 ya hY H9 from hF).fn;exact hF.mono c5 (by rw [z];exact c5.dm _ _ z)
   | lO H8 ya hY H9 ac7=>
    obtain ⟨cl,us,Tu,_⟩:=id hF;obtain ⟨_,_,_,_,_,_,_,z,_⟩:=Tu.fn;exact hF.mono c5 (by rw [z];exact c5.dm _ _ z)
   | tab pos' ya=>
    have z:a≠f:=by rintro rfl;rw [hf] at de;cases de
    obtain ⟨HW,t1,c2,t3⟩:=g2.b3 a (.tab pos' ya) (by rw [c7 z];exact de);refine ⟨HW,by rw [gR (ve vd)];exact t1,c2,?_⟩;rcases t3 with t3 | ⟨c,o,us,tt,t3,H_,Ia,Tv⟩
    ·exact .inl t3
    ·refine .inr ⟨c,o,us,tt,t3,?_,Ia,Tv⟩;rw [gR λ Tw=>?_];exact H_;obtain ⟨⟨y,b_⟩,hm,aE⟩:=g0.mp Tw;cases aE;obtain ⟨i,ar,kW⟩:=k7 hm;obtain ⟨_,_,b6,_,_,dg,gx⟩:=C.cells i y b_ (by rw [gb ar,kW]);have yb:=g2.tup.dm _ _ dg;rw [H_] at yb;cases yb;rw [Ia] at gx;cases gx
   | _=>exact absurd rfl a4
end
def kX(G:aX):aX:=λ a=>match G a with
 | some o=>if o.q0 then some o else none
 | none=>none
theorem yc{G:aX}{a:Addr}{o:eS}:kX G a=some o ↔ G a=some o/\o.q0=true:=by
 unfold kX
 cases e:G a with
 | none=>simp
 | some u=>
  by_cases h:u.q0=true
  ·simp only [h,if_true,e1.injEq];exact ⟨λ z=>(by subst z;exact ⟨rfl,h⟩),λ z=>z.1⟩
  ·simp only [if_neg h];exact ⟨λ z=>(by cases z),λ z=>(by rw [e1.inj z.1] at h;exact absurd z.2 h)⟩
def vf(N:List Str)(ds vals:List D):eb:=ds.map some++mj (N.length - ds.length - vals.length) none++vals.map some
theorem Tx{K:bl}{N:List Str}{ds vals:List D}{ai cH:List V}{G:aX}{H:ay}(r:b2 K H ds ai)(bK:b2 K H vals cH)(v:ek K G H):dG K (vf N ds vals) G (lK N ai cH) H:=by
 have aQ:=r.len;have hE:=bK.len
 have one:∀{ws:List D}{us:List V}{i:Nat}{d:D},b2 K H ws us->(ws.map some)[i]?=some (some d)->∃ v,(us.map some)[i]?=some (some v)/\db K H d v:=λ{ws us i d} r h=>by
  rw [eu] at h
  cases e:ws[i]? with
  | none=>rw [e] at h;cases h
  | some z=>
   rw [e] at h;simp at h;subst h;obtain ⟨u,ak,aq⟩:=r.get e;exact ⟨u,by rw [eu,ak];rfl,aq⟩
 refine ⟨by simp [vf,lK,aQ,hE],λ i d h=>?_,v⟩;unfold vf at h;unfold lK;rw [aQ,hE];by_cases c:i < (ds.map some++mj (N.length - ds.length - vals.length) (none:Option D)).length
 ·rw [k5 c] at h;rw [k5 (by simpa [aQ] using c)];by_cases dE:i < (ds.map (some:D->Option D)).length
  ·rw [k5 dE] at h;rw [k5 (by simpa [aQ] using dE)];exact one r h
  ·rw [nw (by omega),rA] at h;split at h<;>cases h
 ·rw [nw (by omega)] at h;rw [nw (by simpa [aQ] using c)]
  have aP:(ds.map some++mj (N.length - ds.length - vals.length) (none:Option D)).length=(ai.map some++mj (N.length - ds.length - vals.length) (none:Option V)).length:=by simp [aQ]
  rw [<- aP];exact one bK h
theorem Ib{P:ck}{w:bW}{K:bl}{mg:Str->Option Value}{base:bL}{k:Nat}{name qual:Str}{st:bB}{fr N ps:List Str}{vals:List D}{d9:cS}(S:uD N ps fr (b1 st))(len:∀ ds G au,d9 ds G au->ds.length=ps.length)
 (uE:∀(cl:List (Str × Addr))(doc pm bE ct:Value)(us:List Value),us.length=ps.length->bindArgs (wL name qual (j7 st) (gP st) (b1 st) cl .none .none doc pm none bE ct) ⟨us,[]⟩=pure (ps.zip us))
 (j6:∀(f:Addr)(bE:Value)(cl:List (Str × Addr))(A:c1)(outer:List Env)(s:aC)(H:ay),eF k (A.deeper (tC qual (b1 st) s.heap.objs.size f bE cl))->∀(ds:List D)(G:aX)(au:c8),d9 ds G au →
  ∃ t,lQ (qD P w K mg base N qual (b1 st) f bE cl A outer s H) (gP st) t/\t { nx:=λ _ ap=>Sub (kX G) ap/\au .bJ G,rt:=λ d ap=>Sub (kX G) ap/\au d G } (vf N ds vals) (kX G)):u7 P w K mg base (k+1) name qual st fr vals ps d9:=by
 refine ⟨λ cH=>Q7 S (λ ai H Q E h=>?_) uE λ f bE cl A outer s H ai Q E am gy dm io=>?_⟩
 ·obtain ⟨ds,G,au,r,_,_,h,_⟩:=h;rw [r.len];exact len ds G au h
 ·obtain ⟨ds,G,au,r,bK,v,h,qR⟩:=io;obtain ⟨t,⟨bo,j,imp⟩,q⟩:=j6 f bE cl A outer s (less H (cl.map (·.2))) am ds G au h
  have v0:ek K (kX G) (less H (cl.map (·.2))):=λ a o e=>by
   obtain ⟨aP,a4⟩:=yc.mp e;refine (v a o aP).iI (q1 dm) (q2 dm) a4 (gR λ z=>?_);obtain ⟨u,z⟩:=dm a z;exact (v a o aP).Tp a4 z
  have fin:∀ {d ap v aj},Go K (kX G) (less H (cl.map (·.2))) ap aj->db K aj d v->Sub (kX G) ap/\au d G->(∀ a∈cl.map (·.2),aj a=none)->Q v (more aj (cl.map (·.2)) H):=λ{d ap u aj} g ad q no=>by
   have xR:lw aj (more aj (cl.map (·.2)) H):=λ b u ea=>by
    rw [mQ λ z=>?_];exact ea;rw [no b z] at ea;cases ea
   have vg:i0 K aj (more aj (cl.map (·.2)) H):=lw.mono xR
   have m:i0 K H (more aj (cl.map (·.2)) H):=⟨λ a xs q=>vg.dy a xs (g.tup.dy a xs (q1 dm a xs q)),λ a xs q=>vg.fr a xs (g.tup.fr a xs (q2 dm a xs q)),λ a o q=>by
    by_cases z:a∈cl.map (·.2)
    ·rw [uB z];exact q
    ·exact vg.dm a o (g.tup.dm a o (by rw [gR z];exact q))⟩
   have same:∀ a o,H a=some o->kX G a=none->more aj (cl.map (·.2)) H a=some o:=λ a o e n=>by
    by_cases z:a∈cl.map (·.2)
    ·rw [uB z];exact e
    ·rw [mQ z];exact g.same a o (by rw [gR z];exact e) n
   refine qR d G u _ ⟨m,λ a o e=>?_,λ a o e n=>same a o e ?_,λ _ _ _ n=>n,λ a o e=>?_⟩ (ad.mono vg) q.2
   ·by_cases z:a∈cl.map (·.2)
    ·rw [uB z];exact ⟨o,e⟩
    ·rw [mQ z];exact g.iw a o (by rw [gR z];exact e)
   ·unfold kX;rw [n]
   ·by_cases a4:o.q0=true
    ·have b:=g.b3 a o (q.1 a o (yc.mpr ⟨e,a4⟩));obtain ⟨x,ex⟩:=b.some;exact b.mono vg (by rw [ex];exact xR a x ex)
    ·obtain ⟨x,ex⟩:=(v a o e).some;refine (v a o e).mono m ?_;rw [ex];refine same a x ex ?_
     cases z:kX G a with
     | none=>rfl
     | some y=>
      obtain ⟨cB,b8⟩:=yc.mp z;rw [e] at cB;cases cB;exact absurd b8 a4
  refine ⟨bo,j.run,imp _ _ (vf N ds vals) (kX G) (lK N ai cH) _ (Tx (r.iI (q1 dm) (q2 dm)) (bK.iI (q1 dm) (q2 dm)) v0) q ⟨λ ρ' ap σ' aj g b z no=>fin (d:=.bJ) (v:=.bJ) g rfl z no,λ d ap v aj g a z no=>fin g a z no,λ _ _ _ _ _ _ z=>z.elim,λ _ _ _ _ _ _ z=>z.elim⟩⟩
structure sB(K:bl)(x qual:Str)(st:bB)(f:Addr)(fd:f9)(c:Addr):Prop where
 ex:∃(b6:Value)(dA:Option Addr)(dO doc pm:Value)(an:Option Addr)(ct:Value)(gM:Array (Option Value)),
  fd=k_ x qual (j7 st) (gP st) (b1 st) .none dO doc pm an (.ref c) ct/\K.lookup f=some ⟨b6,dA,.func fd,gM⟩/\p4 K (.ref c) qual=true
theorem Ic{P:ck}{w:bW}{K:bl}{mg:Str->Option Value}{base:bL}{x qual:Str}{st:bB}{f c:Addr}{fd:f9}{N ps:List Str}{k:Nat}{d9:cS}(F:sB K x qual st f fd c)(S:c9 N ps (b1 st))(len:∀ ds G au,d9 ds G au->ds.length=ps.length)
 (j6:∀(A:c1)(outer:List Env)(s:aC)(H:ay)(E:hW),eF k (A.deeper (PyProof.Rows.envOfC qual (b1 st) s.heap.objs.size f (.ref c)))->∀(ds:List D)(G:aX)(au:c8),d9 ds G au →
  ∃ t,lQ (nK cc P w K mg base N qual (b1 st) f (.ref c) A outer s H E).oU (gP st) t/\t { nx:=λ _ ap=>bh au .bJ ap,rt:=bh au } (qQ N ds) G):cp P w K mg base cc (k+1) f fd ps (aK K d9):=by
 obtain ⟨b6,dA,dO,doc,pm,an,ct,gM,rfl,lk,e3⟩:=F.ex;refine FA lk e3 S (λ ai H Q E h=>?_) λ A outer s H ai Q E am h=>?_
 ·obtain ⟨ds,G,au,r,_,h,_⟩:=h;rw [r.len];exact len ds G au h
 ·obtain ⟨ds,G,au,r,v,h,qR⟩:=h;obtain ⟨t,⟨bo,j,imp⟩,q⟩:=j6 A outer s H E am ds G au h;refine ⟨bo,(j.run).oU,imp _ _ (qQ N ds) G (L2.jw N ai) H (Hz r v) q ⟨λ ρ' ap σ' aj g b ⟨bc,s2,bI⟩=>qR .bJ bc .bJ aj (g.sub s2) rfl bI,λ d ap v aj g a ⟨bc,s2,bI⟩=>qR d bc v aj (g.sub s2) a bI,λ _ _ _ _ _ _ z=>z.elim,λ _ _ _ _ _ _ z=>z.elim⟩⟩
def Tm.b9:Tm->Nat->Nat
 | .way _,w=>w+1
 | _,w=>w
def Tm.bU(φ:Nat->Nat->Tm):Nat->Tm->Tm
 | w,.name n=>φ n w
 | _,.whole k=>.whole k
 | w,.way t=>.way (t.bU φ (w+1))
 | w,.give t u=>.give (t.bU φ w) (u.bU φ w)
 | w,.pair t u=>.pair (t.bU φ w) (u.bU φ w)
 | w,.first t=>.first (t.bU φ w)
 | w,.second t=>.second (t.bU φ w)
 | w,.plus t u=>.plus (t.bU φ w) (u.bU φ w)
 | w,.look t u v=>.look (t.bU φ w) (u.bU φ w) (v.bU φ w)
def Tm.dI:Nat->Tm->List (Nat × Nat)
 | w,.name n=>[(n,w)]
 | _,.whole _=>[]
 | w,.way t=>t.dI (w+1)
 | w,.give t u=>u.dI w++t.dI w
 | w,.pair t u=>u.dI w++t.dI w
 | w,.first t=>t.dI w
 | w,.second t=>t.dI w
 | w,.plus t u=>u.dI w++t.dI w
 | w,.look t u v=>v.dI w++(u.dI w++t.dI w)
def Tm.leaf:Tm->Bool
 | .name _=>true
 | .whole _=>true
 | _=>false
theorem Tm.Tz{t:Tm}(h:t.leaf=false)(w:Nat):t.dI w=t.aV.reverse.flatMap (λ u=>u.dI (t.b9 w)):=by
 cases t<;>simp [Tm.dI,Tm.aV,Tm.b9,Tm.leaf] at h ⊢
theorem Tm.TA{t u:Tm}(h:t.leaf=false)(a0:u∈t.aV){w:Nat}{z:Nat × Nat}(hz:z∈u.dI (t.b9 w)):z∈t.dI w:=by
 rw [Tm.Tz h];exact List.mem_flatMap.mpr ⟨u,tp.mpr a0,hz⟩
theorem Tm.A_(t:Tm):∀ w,(t.dI w).length<=t.aB:=by
 induction t<;>intro w<;>simp only [Tm.dI,Tm.aB,fs,dH,gZ]<;>first | omega | skip
 case way t aN=>have:=aN (w+1);omega
 case give t u br bx=>have:=br w;have:=bx w;omega
 case pair t u br bx=>have:=br w;have:=bx w;omega
 case first t aN=>have:=aN w;omega
 case second t aN=>have:=aN w;omega
 case plus t u br bx=>have:=br w;have:=bx w;omega
 case look t u v br bx fC=>have:=br w;have:=bx w;have:=fC w;omega
def Tm.hM:Tm->List Tm->Tm
 | .way _,[a]=>.way a
 | .give _ _,[a,b]=>.give a b
 | .pair _ _,[a,b]=>.pair a b
 | .first _,[a]=>.first a
 | .second _,[a]=>.second a
 | .plus _ _,[a,b]=>.plus a b
 | .look _ _ _,[a,b,c]=>.look a b c
 | t,_=>t
theorem Tm.i_{φ:Nat->Nat->Tm}{t:Tm}(h:t.leaf=false)(w:Nat):t.bU φ w=t.hM (t.aV.map λ u=>u.bU φ (t.b9 w)):=by
 cases t<;>first | rfl | cases h
theorem Tm.ia{t:Tm}{cs:List Tm}(h:t.leaf=false)(aQ:cs.length=t.aV.length):(t.hM cs).enc=.tup (.str t.word::cs.map Tm.enc):=by
 cases t<;>simp only [Tm.leaf,reduceCtorEq] at h<;>simp only [Tm.aV,dH,gZ] at aQ
 all_goals (rcases cs with _ | ⟨a,_ | ⟨b,_ | ⟨c,_ | ⟨d,r⟩⟩⟩⟩<;>simp at aQ<;>rfl)
abbrev Ent:=Tm × Nat × Bool
def on(z:Ent):D:=.tup [z.1.enc,.int z.2.1,.aU z.2.2]
def Ba(φ:Nat->Nat->Tm)(z:Ent)(m:List Tm):Option (List Tm):=match z.1 with
 | .name n=>some (φ n z.2.1::m)
 | .whole k=>some (.whole k::m)
 | t=>if z.2.2 then (if t.aV.length<=m.length then some (t.hM (m.take t.aV.length)::m.drop t.aV.length) else none) else some (t.bU φ z.2.1::m)
def lY(φ:Nat->Nat->Tm):List Ent->List Tm->Option (List Tm)
 | [],m=>some m
 | z::zs,m=>match Ba φ z m with
  | some c5=>lY φ zs c5
  | none=>none
theorem Bb{φ:Nat->Nat->Tm}(t:Tm)(w:Nat)(m:List Tm):Ba φ (t,w,false) m=some (t.bU φ w::m):=by cases t<;>rfl
theorem Id{φ:Nat->Nat->Tm}{t:Tm}(h:t.leaf=false)(w:Nat)(m:List Tm):Ba φ (t,w,true) m=if t.aV.length<=m.length then some (t.hM (m.take t.aV.length)::m.drop t.aV.length) else none:=by
 cases t<;>first | rfl | cases h
theorem Ie{φ:Nat->Nat->Tm}{w:Nat}{zs:List Ent}:∀(xs:List Tm)(m:List Tm),lY φ (xs.map (λ u=>(u,w,false))++zs) m=lY φ zs ((xs.map λ u=>u.bU φ w).reverse++m)
 | [],m=>rfl
 | x::xs,m=>by
  rw [ew,oO,lY,Bb];simp only [];rw [Ie xs];simp
theorem TB{φ:Nat->Nat->Tm}{t:Tm}(h:t.leaf=false)(w:Nat)(zs:List Ent)(m:List Tm):lY φ ((t.aV.map λ u=>((u,t.b9 w,false):Ent)).reverse++(t,w,true)::zs) m=lY φ ((t,w,false)::zs) m:=by
 rw [<- ii,Ie,lY,lY,Bb,Id h];rw [ii,List.reverse_reverse,if_pos (by simp)];simp only [bS,List.take_left',List.drop_left',Tm.i_ h]
def m4(z:Ent):Nat:=if z.2.2 then 1 else 2 * z.1.aB
def jI(zs:List Ent):Nat:=(zs.map m4).sum
theorem yd(z:Ent)(zs:List Ent):jI (z::zs)=m4 z+jI zs:=by simp [jI]
theorem Ig(w:Nat)(zs:List Ent):∀ xs:List Tm,jI (xs.map (λ u=>((u,w,false):Ent))++zs)=2 * (xs.map Tm.aB).sum+jI zs
 | []=>by simp
 | x::xs=>by rw [ew,oO,yd,Ig w zs xs,ew,List.sum_cons];simp only [m4];simp;omega
theorem Ih:∀ zs:List Ent,zs.length<=jI zs
 | []=>e0 _
 | z::zs=>by
  have:=Ih zs;have:=z.1.lX
  have h:1<=m4 z:=by unfold m4;split<;>omega
  rw [yd,dH];omega
theorem Tm.TC{t:Tm}(h:t.leaf=false):(t.aV.map Tm.aB).sum+1=t.aB:=by
 cases t<;>simp [Tm.aV,Tm.aB,Tm.leaf] at h ⊢<;>omega
def ye:cS:=λ ds G Q=>∃(t:Tm)(w:Nat),ds=[t.enc,.int w]/\Q (.int (t.b9 w:Nat)) G
def kY(z:Nat × Nat):D:=.tup [.int z.1,.int z.2]
def yf:cS:=λ ds G Q=>∃ t:Tm,ds=[t.enc]/\t.aB<=10000/\∀ l,G l=none->Q (.ref l) (up G l (.lst ((t.dI 0).map kY)))
def Bc(φ:Nat->Nat->Tm)(C:Nat->Nat->Prop)(L:List (Addr × eS)):cS:=λ ds G Q=>∃ n w:Nat,ds=[.int n,.int w]/\C n w/\(∀ q∈L,G q.1=some q.2)/\Q (φ n w).enc G
def yg(P:ck)(w:bW)(K:bl)(mg:Str->Option Value)(base:bL)(k:Nat):cS:=λ ds G Q=>∃(t:Tm)(f:Addr)(name qual:Str)(st:bB)(fr:List Str)(vals:List D)(ps:List Str)(φ:Nat->Nat->Tm)(C:Nat->Nat->Prop)(L:List (Addr × eS)),
 ds=[t.enc,.ref f]/\G f=some (.lO name qual st fr vals)/\u7 P w K mg base k name qual st fr vals ps (Bc φ C L)/\(∀ q∈L,G q.1=some q.2)/\t.aB<=10000/\(∀ z∈t.dI 0,C z.1 z.2)/\Q (t.bU φ 0).enc G
def hN:bB->Pos
 | .FunctionDef _ _ _ _ _ _ _ _ _ p=>p
 | _=>⟨0,0,0,0⟩
def dT(m l:Nat):Nat->Nat->Tm:=λ n w=>.name (if n ≥ w+l then n+m else n)
def Be(T:Addr)(pos:Pos):cS:=λ ds G Q=>∃(t:Tm)(m l:Nat),ds=[t.enc,.int m,.int l]/\G T=some (.tab pos "lifted.<locals>.moved")/\t.aB<=10000/\Q (t.bU (dT m l) 0).enc G
def iK(z:Tm × Nat):D:=.tup [z.1.enc,.int z.2]
def jJ(zs:List (Tm × Nat)):Nat:=(zs.map λ z=>z.1.aB).sum
theorem Bf(z:Tm × Nat)(zs:List (Tm × Nat)):jJ (z::zs)=z.1.aB+jJ zs:=by simp [jJ]
theorem vh(w:Nat)(zs:List (Tm × Nat)):∀ xs:List Tm,jJ (xs.map (λ u=>(u,w))++zs)=(xs.map Tm.aB).sum+jJ zs
 | []=>by simp
 | x::xs=>by rw [ew,oO,Bf,vh w zs xs,ew,List.sum_cons];simp only [];omega
theorem Ii:∀ zs:List (Tm × Nat),zs.length<=jJ zs
 | []=>e0 _
 | z::zs=>by
  have:=Ii zs;have:=z.1.lX;rw [Bf,dH];omega
theorem Tm.yh(t:Tm):(t.aV.map Tm.aB).sum+1<=t.aB:=by cases t<;>simp [Tm.aV,Tm.aB]<;>omega
end L3
namespace L2
open PySem PySem.Spec PyProof.Rows
theorem TD{l:PySem.W.OpenLaw}{n k:Nat}{q:ck}{loose:List Str}{rW:(Str->Option Value)->bL->Prop}{mI:bW->bL->Prop}{d:DefRec}{K:Params->bl}{sp:bl->fK}{x:Str}{tabs:List (Addr × Addr)}
 (bt:l.most=some n) (TF:n<=sizeLine) (t9:d.params.defaults=[]) (am:eF k rx) (lZ:∀(w:bW)(h:bL),mI w h->(K w.params).In h) (eR:∀ w:bW,PySem.W.noTabs (K w.params)=true)
 (Bg:∀(w:bW)(h:bL),mI w h->PySem.W.TabsAt tabs h)
 (F:∀(w:bW)(mg:Str->Option Value)(fa:Addr)(h:bL),(K w.params).In h->h.Ns ef mg->mg d.name=some (.ref fa) →
  ∃ fd:f9,(∀(s:aC)(u:Value),rv s fd ⟨[u],[]⟩ [(x,u)]) ∧
   ∀ base:bL,(K w.params).In base->base.Ns ef mg->(∀ q∈tabs,PySem.W.CodeHd base q.1 q.2)->lM mg base->cp l.prog w (K w.params) mg base cc k fa fd [x] (sp (K w.params)))
 (io:∀(K:bl)(H:ay)(a:Addr)(ns:List Int),ns.length<=n->xA tabs K a H->d7 K H a (ns.map V.int)->sp K [.ref a] H (λ v _=>v=.aU true) λ _ _ _=>False) :
 PySem.W.WalkO q loose rW mI l.row.toRowW d [] (λ f ai=>PySem.call f ai):=by
 refine FV.Oo bt t9 λ w s₀ dC mg jo fa o pm cd doc a ai ns G Y a4 hd e3 hmg zz hints hlen aZ=>?_;have KX:=lZ w _ Y;obtain ⟨fd,ag,es⟩:=F w mg fa _ KX G.T.g hmg;exact Rm KX G.T.g G.T.b G.T.builtins G.T.nolimit aZ zz hints (kz hlen TF) am (Bg w _ Y) (eR w) (Rt G.T) es ag λ H ux cX=>io _ H a ns hlen ux cX
end L2
namespace L3
open PySem PyProof L2
def vi(eG:List (Addr × Pos × Str)):cS:=λ ds G Q=>∃ ns:List Int,ds=[.dY (ns.map D.int)]/\ns.length<=63/\(∀ q∈eG,G q.1=some (.tab q.2.1 q.2.2))/\∀ ap,Q (.aU true) ap
def yi:List Addr->Bool
 | []=>true
 | a::r=>!r.contains a&&yi r
theorem Ij:∀{eG:List (Addr × Pos × Str)}{q:Addr × Pos × Str},yi (eG.map (·.1))=true->q∈eG->eG.lookup q.1=some q.2
 | (gw,cE)::r,(aH,bI),aY,h=>by
  simp only [ew,yi,eU,Bool.not_eq_true',List.contains_eq_mem,decide_eq_false_iff_not] at aY;show ((gw,cE)::r).lookup aH=some bI;rcases dJ.mp h with e | h
  ·cases e;rw [nz,beq_self_eq_true]
  ·have ne:aH≠gw:=λ z=>aY.1 (by rw [<- z];exact mn (f:=(·.1)) h);rw [nz,beq_false_of_ne ne];exact Ij aY.2 h
theorem Ik:∀{eG:List (Addr × Pos × Str)}{a:Addr}{z:Pos × Str},eG.lookup a=some z->(a,z)∈eG
 | (gw,cE)::r,a,z,h=>by
  rw [nz] at h
  cases e:(a==gw) with
  | true=>
   rw [e] at h;cases h
   obtain rfl:a=gw:=by simpa using e
   exact fh ..
  | false=>rw [e] at h;exact ig _ (Ik h)
theorem TG{K:bl}{H:ay}{a:Addr}{ns:List Int}{tabs:List (Addr × Addr)}{eG:List (Addr × Pos × Str)}(hm:eG.map (·.1)=tabs.map (·.2))(aY:yi (eG.map (·.1))=true)(aQ:ns.length<=63)(o:xA tabs K a H)(h:d7 K H a (ns.map V.int)) :
 aK K (vi eG) [.ref a] H (λ v _=>v=.aU true) λ _ _ _=>False:=by
 have f:jC K H a (ns.map V.int):=by
  rcases h with (h | h) | h
  ·rcases o.only a with z | ⟨_,_,z⟩ | ⟨_,z⟩<;>(rw [h] at z;cases z)
  ·exact .inl h
  ·exact .inr h
 refine ⟨[.dY (ns.map D.int)],λ b=>(eG.lookup b).map λ z=>.tab z.1 z.2,λ d _=>d=.aU true,⟨.ref a,[],rfl,⟨a,_,rfl,f,b2.xC ns⟩,rfl⟩,λ b u e=>?_,⟨ns,rfl,aQ,λ q bv=>by simp only [Ij aY bv,nB],λ _=>rfl⟩,λ d ap v aj g ad e=>?_⟩
 ·cases z:eG.lookup b with
  | none=>simp only [z,Option.map_none] at e;cases e
  | some y=>
   simp only [z,nB] at e;cases e
   have ag:b∈tabs.map (·.2):=by rw [<- hm];exact mn (Ik z)
   obtain ⟨q,bv,rfl⟩:=g0.mp ag;exact ⟨#[],o.tab q bv,trivial,.inl rfl⟩
 ·subst e;exact ad
end L3
namespace gU
open PySem PyProof.Rows
abbrev iL(xs:Array Nat):Prop:=xs.toList.Pairwise (· < ·)
theorem iL.lt{xs:Array Nat}(h:iL xs){i j:Nat}(TH:i < j)(cP:j < xs.size):xs.getD i 0 < xs.getD j 0:=by
 have ar:i < xs.size:=by omega
 have z:=List.pairwise_iff_getElem.mp h i j (by simpa using ar) (by simpa using cP) TH;simpa [k9,ar,cP] using z
theorem TJ{xs:Array Nat}(h:iL xs)(j:Nat):∀(fuel lo ar:Nat),ar - lo<=fuel->lo<=ar->ar<=xs.size->(∀ i,i < lo->xs.getD i 0 < j)->(∀ i,ar<=i->i < xs.size->j<=xs.getD i 0) →
 ∃ p,SetTable.below.go xs j fuel lo ar=p/\p<=xs.size/\(∀ i,i < p->xs.getD i 0 < j)/\∀ i,p<=i->i < xs.size->j<=xs.getD i 0:=by
 intro fuel
 induction fuel with
 | zero=>
  intro lo ar ak aq aT cb dM
  obtain rfl:lo=ar:=by omega
  exact ⟨lo,rfl,aT,cb,dM⟩
 | succ fuel aN=>
  intro lo ar ak aq aT cb dM;unfold SetTable.below.go;by_cases c:lo < ar
  ·rw [if_pos c]
   dsimp only
   have hm:(lo+ar) / 2 < xs.size:=by omega
   have cf:xs.getD ((lo+ar) / 2) j=xs.getD ((lo+ar) / 2) 0:=by simp [k9,hm]
   by_cases d:xs.getD ((lo+ar) / 2) j < j
   ·rw [if_pos d];refine aN _ _ (by omega) (by omega) aT (λ i nY=>?_) dM;rw [cf] at d;rcases Nat.lt_or_eq_of_le (Nat.lt_succ_iff.mp nY) with z | z
    ·exact jV (h.lt z hm) d
    ·rw [z];exact d
   ·rw [if_neg d];refine aN _ _ (by omega) (by omega) (by omega) cb (λ i nY ax=>?_);rw [cf] at d;rcases Nat.lt_or_eq_of_le nY with z | z
    ·exact tv (Nat.lt_of_le_of_lt (Nat.not_lt.mp d) (h.lt z ax))
    ·rw [<- z];exact Nat.not_lt.mp d
  ·rw [if_neg c]
   obtain rfl:lo=ar:=by omega
   exact ⟨lo,rfl,aT,cb,dM⟩
theorem Il{xs:Array Nat}(h:iL xs)(j:Nat):SetTable.below xs j<=xs.size/\(∀ i,i < SetTable.below xs j->xs.getD i 0 < j)/\∀ i,SetTable.below xs j<=i->i < xs.size->j<=xs.getD i 0:=by
 obtain ⟨p,e,q⟩:=TJ h j xs.size 0 xs.size (by omega) (e0 _) (b7 _) (by omega) (by omega);unfold SetTable.below;rw [e];exact q
theorem TK{xs:Array Nat}(h:iL xs){j:Nat}(cP:xs[SetTable.below xs j]?≠some j):iL (SetTable.insertAt xs (SetTable.below xs j) j):=by
 obtain ⟨ak,aq,aT⟩:=Il h j;generalize SetTable.below xs j=p at *;unfold iL;rw [SetTable.toList_insertAt]
 have gt:∀ y∈xs.toList.drop p,j < y:=λ y bD=>by
  obtain ⟨i,ar,e⟩:=k7 bD;rw [List.getElem_drop] at e;rw [ny] at ar
  have ax:p+i < xs.size:=by simpa using (by omega:p+i < xs.toList.length)
  have z:=aT (p+i) (by omega) ax
  have aL:xs.getD (p+i) 0=y:=by rw [<- e];simp [k9,ax]
  rw [aL] at z;rcases Nat.lt_or_eq_of_le z with z | z
  ·exact z
  ·exfalso;subst z;rcases Nat.eq_zero_or_pos i with r4 | r4
   ·subst r4;apply cP
    have az:p < xs.size:=by omega
    have d_:xs[p]=j:=by rw [<- e];simp
    rw [k8 az,d_]
   ·have l:=h.lt (show p < p+i by omega) ax;have:=aT p (b7 _) (by omega);omega
 refine List.pairwise_append.mpr ⟨h.sublist (List.take_sublist _ _),List.pairwise_cons.mpr ⟨gt,h.sublist (wE _ _)⟩,λ x aF y bD=>?_⟩
 have lt:x < j:=by
  obtain ⟨i,ar,e⟩:=k7 aF;rw [List.getElem_take] at e;rw [nv] at ar
  have ax:i < xs.size:=by simpa using (by omega:i < xs.toList.length)
  have z:=aq i (by omega);rw [<- e];simpa [k9,ax] using z
 rcases dJ.mp bD with rfl | bD
 ·exact lt
 ·exact jV lt (gt y bD)
theorem TL(n:Nat):iL (Array.range n):=by
 unfold iL;rw [Array.toList_range];exact List.pairwise_lt_range
theorem TM{t:eB}(h:t.dummies=#[])(j:Nat):t.slot j≠.dummy:=by
 unfold SetTable.slot SetTable.has;rw [h]
 dsimp only
 split
 ·exact nofun
 ·rw [if_neg (by simp)];exact nofun
theorem Im{t:eB}(h:t.dummies=#[]){ax:Nat->Int}{k:Int}:∀(fuel:Nat)(p:SetTable.Probe)(j:Nat)(d:Option Nat),SetTable.probe.go t ax k fuel p=some (.empty j d)->t.slot j=.empty/\d=p.dummy
 | 0,_,_,_,e=>by cases e
 | fuel+1,p,j,d,e=>by
  unfold SetTable.probe.go at e
  have TN:∀ q:SetTable.Probe,(t.advance q).dummy=q.dummy:=λ q=>by unfold SetTable.advance;split<;>rfl
  split at e
  ·next z=>cases e;exact ⟨z,rfl⟩
  ·next z=>exact absurd z (TM h _)
  ·split at e
   ·cases e
   ·obtain ⟨ak,aq⟩:=Im h fuel _ j d e;exact ⟨ak,by rw [aq,TN]⟩
theorem TO{t:eB}(h:t.dummies=#[]){k:Int}{j:Nat}{b:Bool}(e:t.freeSlot k=some (j,b)):t.slot j=.empty/\b=false:=by
 unfold SetTable.freeSlot at e;split at e
 ·next kH d z=>
  obtain ⟨ak,aq⟩:=Im h _ _ _ _ (show SetTable.probe.go t (λ _=>k+1) k (10 * SetTable.turns t.mask) (t.probeStart k)=_ from z);have:d=none:=aq;subst this;cases e;exact ⟨ak,rfl⟩
 ·cases e
theorem TP{t:eB}{j:Nat}(h:t.slot j=.empty):t.place[SetTable.below t.place j]?≠some j:=λ z=>by
 unfold SetTable.slot at h
 dsimp only at h
 rw [if_pos (by rw [z];simp)] at h;cases h
structure Cl(b:Bool)(t:eB):Prop where
 up:iL t.place
 led:b=false->t.led=true
 q3:t.dummies=#[]
theorem Cl.standIn{b:Bool}{t:eB}(h:Cl b t)(n:Nat):Cl b (t.standIn n):=⟨TL n,h.led,rfl⟩
theorem Cl.orStandIn{b:Bool}{t:eB}(h:Cl b t)(n:Nat):Cl b (t.orStandIn n):=by
 unfold SetTable.orStandIn;split
 ·exact h
 ·exact h.standIn n
theorem Cl.lay{b:Bool}{t:eB}(h:Cl b t)(ah:Array (Int × Value))(k:Int)(x:Value):Cl b (layNew t ah k x).2.1/\(layNew t ah k x).2.2.1=false:=by
 unfold layNew;split
 ·next slot d e=>
  obtain ⟨ak,rfl⟩:=TO h.q3 e
  have c:Cl b (t.put slot).1:=⟨TK h.up (TP ak),h.led,by
   show (if SetTable.has t.dummies slot=true then _ else t.dummies)=#[]
   rw [h.q3,if_neg (by simp [SetTable.has])]⟩
  exact ⟨c.orStandIn _,rfl⟩
 ·exact ⟨h.standIn _,rfl⟩
theorem yj{α:Type}(g:Nat->Option α):∀ l:List Nat,((l.filterMap λ j=>(g j).map (j,·)).map (·.1)).Sublist l
 | []=>by simp
 | a::l=>by
  cases e:g a with
  | none=>simp only [oK,e,Option.map_none];exact (yj g l).cons _
  | some y=>simp only [oK,e,nB,ew];exact (yj g l).cons₂ _
theorem TQ{b:Bool}{mask finger moves:Nat}{led plain:Bool}{ax:Array Int}{t':eB}{order:Array Nat}(aQ:b=false->led=true)(e:SetTable.laid mask finger moves led plain ax=some (t',order)):Cl b t':=by
 unfold SetTable.laid at e
 cases z:SetTable.layClean mask ax with
 | none=>rw [z] at e;cases e
 | some owner=>
  rw [z] at e;simp only [Option.pure_def,Option.bind_eq_bind,Option.bind_some,e1.injEq,Prod.mk.injEq] at e;obtain ⟨rfl,_⟩:=e;refine ⟨?_,aQ,rfl⟩;show ((tq _ _).toArray.toList).Pairwise _;rw [wF];exact (List.pairwise_lt_range (n:=mask+1)).sublist (yj (λ j=>owner.getD j none) _)
theorem Cl.TR{b:Bool}{t:eB}(h:Cl b t)(ah:Array (Int × Value))(n:Nat):Cl b (ru t ah n).2.1:=by
 unfold ru;split
 ·next t' order e=>
  dsimp only
  split
  ·exact TQ h.led e
  ·exact h.standIn _
 ·exact h.standIn _
abbrev f3(w:bW):Bool:=w.params.followText "set-order"
def fD:Value->Int
 | .int k _=>k
 | _=>0
def hs(ah:List (Int × Value)):Prop:=∀ e∈ah,(∃ t,e.2=.int (fD e.2) t)/\e.1=hS (fD e.2)
abbrev keys(ah:Array (Int × Value)):List Int:=ah.toList.map λ e=>fD e.2
abbrev setAt(ah:Array (Int × Value))(a5:Nat)(t:eB):Obj:={ cls:=.type "set", dict:=none,data:=.set ah a5 t,slots:=#[] }
theorem hs.elems{prog:ck}{w:bW}{ah:List (Int × Value)}(h:hs ah):ElemsOf (hy prog w) ah:=λ e he=>by
 obtain ⟨⟨t,aP⟩,aL⟩:=h e he;refine ⟨⟨fD e.2,?_,aL⟩,?_⟩
 ·rw [aP];exact pV _ _ _ _
 ·rw [aP];rfl
theorem hs.perm{ah fc:List (Int × Value)}(h:hs ah)(p:fc.Perm ah):hs fc:=λ e he=>h e (p.mem_iff.mp he)
theorem hs.snoc{ah:List (Int × Value)}(h:hs ah)(k:Int)(u:Tok):hs (ah++[(hS k,.int k u)]):=λ e he=>by
 rcases jS.mp he with he | he
 ·exact h e he
 ·rw [f_.mp he];exact ⟨⟨u,rfl⟩,rfl⟩
theorem hs.met{prog:ck}{w:bW}{ah:List (Int × Value)}(h:hs ah){k:Int}:(∃ e∈ah,(hy prog w).is k e.2=true) ↔ k∈ah.map λ e=>fD e.2:=by
 constructor
 ·rintro ⟨e,he,q⟩;obtain ⟨⟨t,aP⟩,_⟩:=h e he;refine g0.mpr ⟨e,he,?_⟩;rw [aP] at q ⊢;exact (hy prog w).inj _ _ _ (pV prog w _ t) q
 ·intro aO;obtain ⟨e,he,rfl⟩:=g0.mp aO;obtain ⟨⟨t,aP⟩,_⟩:=h e he;exact ⟨e,he,by rw [aP];exact pV _ _ _ _⟩
structure en(w:bW)(h:bL)(a:Addr)(ah:Array (Int × Value))(a5:Nat)(t:eB):Prop where
 at_:h.get? a=some (setAt ah a5 t)
 all:hs ah.toList
 aY:(keys ah).Nodup
 fits:t.fits ah.size=true
 e6:ah.size < 1000
 cl:Cl (f3 w) t
theorem yk{n:Nat}(h:n < 1000):n<=sizeLine:=by have:=jd;omega
section
variable{prog:ck}{w:bW}{A:c1}{E:Value->aC->Prop}{s:aC}{a:Addr}{ah:Array (Int × Value)}{a5:Nat}{t:eB}
theorem sC{h:bL}(e:h.get? a=some (setAt ah a5 t))(fc:Array (Int × Value))(t':eB):(h.update a (Obj.putSet fc t')).get? a=some (setAt fc (a5+1) t'):=il (Obj.putSet fc t') e rfl
theorem km{g:Bool->Sem Unit}(aZ:∀ b (s1:aC) (fV:Unit->aC->Prop),fV () s1->aG (aI prog w) A (g b) fV E s1)(cf:s.heap.get? a=some (setAt ah a5 t)){xs:Array (Int × Value)}{c2:eB}(fZ:hs xs.toList)(oo:(keys xs).Nodup)(hf:c2.fits xs.size=true)(rV:xs.size < 1000)(aE:Cl (f3 w) c2){q4:Bool}{R:Option Bool->aC->Prop}
 (h:∀ h' kc hb t',Heap.SameBut a s.heap h'->en w h' a kc hb t'->kc.toList.Perm xs.toList->R (some true) { s with heap:=h' }) :
 aG (aI prog w) A (do storeSet a xs c2;(if (!q4&&c2.tooFull)=true then (do g (ru c2 xs (SetTable.grown xs.size)).2.2;storeSet a (ru c2 xs (SetTable.grown xs.size)).1 (ru c2 xs (SetTable.grown xs.size)).2.1;pure (some true)) else pure (some true))) R E s:=by
 have aP:=sC cf xs c2;have hF:=Heap.SameBut.update s.heap a (Obj.putSet xs c2);refine ao (rm cf rfl ?_ (yk rV));have pm:=relayAll_perm c2 xs (SetTable.grown xs.size);have fr:=relayAll_fits c2 xs (SetTable.grown xs.size);have cr:=aE.TR xs (SetTable.grown xs.size)
 have aB:(ru c2 xs (SetTable.grown xs.size)).1.size=xs.size:=by rw [<- ft,pm.length_eq,ft]
 split
 ·refine ao (aZ _ _ _ (ao (rm aP rfl (a3 (h _ _ _ _ (hF.trans (Heap.SameBut.update _ a _)) ⟨sC aP _ _,fZ.perm pm,?_,fr,by rw [aB];exact rV,cr⟩ pm)) (yk (by rw [aB];exact rV)))));exact (pm.map λ e=>fD e.2).nodup_iff.mpr oo
 ·exact a3 (h _ _ _ _ hF ⟨aP,fZ,oo,hf,rV,aE⟩ (List.Perm.refl _))
theorem add{k:Int}{u:Tok}{Q:Bool->aC->Prop}(X:en w s.heap a ah a5 t)(am:ah.size+1 < 1000)
 (h:∀ b h' fc hb t',Heap.SameBut a s.heap h'->en w h' a fc hb t'->(∀ j,j∈keys fc ↔ j∈keys ah\/j=k)->fc.size<=ah.size+1->Q b { s with heap:=h' }):aG (aI prog w) A (setAddHashed a (.int k u) (hS k)) Q E s:=by
 have vj:=X.all.elems (prog:=prog) (w:=w)
 have fk:ah.size < wy:=by have:=X.e6;unfold wy;omega
 unfold setAddHashed setAddHashedIn;refine g_ (ao (hR X.at_ rfl X.fits ?_))
 dsimp only
 rw [byScan_of (knd:=hy prog w) (x:=.int k u) rfl fk vj,if_pos rfl];unfold setAddByScan;refine ao (ao (hx (ao (wpAny_setScan_of (knd:=hy prog w) (k:=k) (pV _ _ _ _) X.at_ rfl X.fits vj ?_))))
 cases ar:List.findIdx? (λ e=>(hy prog w).is k e.2) ah.toList with
 | some j=>
  obtain ⟨cP,q,_⟩:=List.findIdx?_eq_some_iff_getElem.mp ar;have aO:k∈keys ah:=X.all.met.mp ⟨_,rD cP,q⟩;exact a3 (a3 (h false s.heap ah a5 t (Heap.SameBut.refl a _) X (λ i=>⟨.inl,λ z=>z.elim id λ z=>by rw [z];exact aO⟩) (Nat.le_succ _)))
 | none=>
  have aO:k ∉ keys ah:=λ z=>by
   obtain ⟨e,he,q⟩:=(X.all.met (prog:=prog) (w:=w)).mpr z;have:=List.findIdx?_eq_none_iff.mp ar e he;rw [q] at this;cases this
  have pm:=layNew_perm t ah (hS k) (.int k u);have fr:=layNew_fits t ah (hS k) (.int k u);have cr:=X.cl.lay ah (hS k) (.int k u)
  dsimp only
  generalize layNew t ah (hS k) (.int k u)=L at pm fr cr ⊢;obtain ⟨xs,t1,q4,ac8⟩:=L
  dsimp only at pm fr cr ⊢
  obtain ⟨cr,rfl⟩:=cr;rw [Array.toList_push] at pm
  have aB:xs.size=ah.size+1:=by rw [<- ft,pm.length_eq];simp
  have b0:(keys xs).Perm (keys ah++[k]):=by have z:=pm.map λ e=>fD e.2;rwa [iQ] at z
  have aY:(keys xs).Nodup:=b0.nodup_iff.mpr (List.nodup_append.mpr ⟨X.aY,by simp,λ x aF y bD=>by rw [f_.mp bD];rintro rfl;exact aO aF⟩)
  have Bh:∀ b (s1:aC) (fV:Unit->aC->Prop),fV () s1->aG (aI prog w) A (match b with | true=>rule "set.scan.the-table-gave-way" | false=>pure ()) fV E s1:=λ b s1 fV bv=>by
   cases b
   ·exact a3 bv
   ·exact hx bv
  have fin:∀ h' kc hb t',Heap.SameBut a s.heap h'->en w h' a kc hb t'->kc.toList.Perm xs.toList->Q true { s with heap:=h' }:=λ h' kc hb t' ag vk az=>by
   refine h true h' kc hb t' ag vk (λ j=>?_) (by rw [<- ft,az.length_eq,ft,aB];exact b7 _);rw [((az.map λ e=>fD e.2).trans b0).mem_iff,jS,f_]
  refine ao (Bh _ _ _ ?_);split
  ·refine ao ?_;rw [hashByValue_scannable 8 (x:=.int k u) rfl];refine a3 ?_;refine km Bh X.at_ ((X.all.snoc k u).perm pm) aY (by simpa [plainKind] using fr) (by omega) (by simpa [plainKind] using cr) λ h' kc hb t' ag vk az=>a3 (fin h' kc hb t' ag vk az)
  ·refine ao (a3 ?_);refine km Bh X.at_ ((X.all.snoc k u).perm pm) aY (by simpa using fr) (by omega) (by simpa using cr) λ h' kc hb t' ag vk az=>a3 (fin h' kc hb t' ag vk az)
end
section
variable{prog:ck}{w:bW}{A:c1}{E:Value->aC->Prop}{s:aC}
abbrev g9(w:bW):Obj:=setAt #[] 0 (.fresh 0 0 (!f3 w))
theorem en.fresh{h:bL}{a:Addr}(e:h.get? a=some (g9 w)):en w h a #[] 0 (.fresh 0 0 (!f3 w)):=
 ⟨e,λ _ h=>(nomatch (show _∈([]:List (Int × Value)) from h)),List.Pairwise.nil,rfl,by decide,List.Pairwise.nil,λ h=>by simp [SetTable.fresh,h],rfl⟩
theorem TS(x:Value){Q:Value->aC->Prop}(h:Q (.ref s.heap.objs.size) { s with heap:=s.heap.push (g9 w) }):hT (aI prog w) A (.call (.builtin "set.__new__") ⟨[.type "set", x],[]⟩) (wants Q E) s:=by
 refine codeAny_of_tree (show aG _ A.in1 (checkBuiltinCall "set.__new__" ⟨[.type "set", x],[]⟩ >>= λ _=>again (.builtin "set.__new__" ⟨[.type "set", x],[]⟩)) _ _ s from ?_);refine ao (tb (F.newCall_set_1 x) (a3 ⟨ku F.plain_set_new _,l_ F.entry_set_new ?_⟩));rw [Around.under_plainId F.plain_set_new _];unfold Builtin.«set.__new__» Builtin.Frozenset.newClass;have sub:=za;cases s
 dsimp only
 wp_walk
 refine wf (a3 ?_)
 dsimp only
 unfold newObj;exact ao (wpAny_alloc (a3 (a3 h)))
theorem TU{I l S:Addr}{items:Array Value}{ns:List Int}{R:p0->aC->Prop}(dt:A.handled=none)(dQ:l≠I)(iX:S≠I)(aQ:S≠l)(ar:ky items.toList ns)(ag:items.size < 900) :
 ∀(k i:Nat)(s:aC)(ah:Array (Int × Value))(a5:Nat)(t:eB),items.size - i=k->i<=items.size->s.heap.IsListIter I l i->s.heap.IsList l items->en w s.heap S ah a5 t->ah.size<=i->(∀ j,j∈keys ah ↔ j∈ns.take i) →
  (∀ h' tk fc hb t',en w h' S fc hb t'->fc.size<=items.size->(∀ j,j∈keys fc ↔ j∈ns)->(∀ b o,b≠S->b≠I->s.heap.get? b=some o->h'.get? b=some o)->R (.ok (.ret .none)) { s with heap:=h',toks:=tk }) →
  hT (aI prog w) A (.builtin "set.update.loop" ⟨[.ref S,.ref I],[]⟩) R s:=by
 have W:=Walks.list (prog:=prog) (w:=w) (A:=A.in1) dt I l dQ items;have hlen:=ar.length;rw [ft] at hlen;intro k
 induction k with
 | zero=>
  intro i s ah a5 t aO hle ak aq X hsz rX fin
  obtain rfl:i=items.size:=by omega
  refine l_ F.entry_set_update_loop ?_;rw [Around.under_plainId F.plain_set_update_loop _];refine (show aG _ A.in1 (gu (.ref I) >>= _) _ _ s from ao (W.done s _ _ ⟨ak,aq⟩ λ h' tk dr=>?_));have e:=dr S _ (by simpa using iX) X.at_;exact a3 (fin h' tk ah a5 t ⟨e,X.all,X.aY,X.fits,X.e6,X.cl⟩ hsz (λ j=>by rw [rX,wD (by omega)]) λ b o _ ag e=>dr b o (by simpa using ag) e)
 | succ k aN=>
  intro i s ah a5 t aO hle ak aq X hsz rX fin;refine l_ F.entry_set_update_loop ?_;rw [Around.under_plainId F.plain_set_update_loop _];refine (show aG _ A.in1 (gu (.ref I) >>= _) _ _ s from ao (W.item i s _ _ (by omega) ⟨ak,aq⟩ λ v h' tk bC st dr=>?_));obtain ⟨u,rfl⟩:=IntsAre.int_at ar i v (by rw [tz];exact bC);have e:=dr S _ (by simpa using iX) X.at_;refine (show aG _ A.in1 (jf [Value.int (ns.getD i 0) u] (setAdd S (.int (ns.getD i 0) u)) >>= _) _ _ { s with heap:=h',toks:=tk } from ao (g_ ?_));unfold setAdd;refine g_ (ao ((hy prog w).pyHash (k:=ns.getD i 0) (pV _ _ _ _) ?_));refine add (s:={ s with heap:=h',toks:=tk+1 }) (X:=⟨e,X.all,X.aY,X.fits,X.e6,X.cl⟩) (by omega) λ b TV fc hb t' fk ib TW ac9=>?_
  have ne:∀ b o,b≠S->h'.get? b=some o->TV.get? b=some o:=λ b o ag e=>by rw [fk.2 b ag];exact e
  refine a3 ⟨ku F.plain_set_update_loop _,aN (i+1) _ fc hb t' (by omega) (by omega) ?_ ?_ ib (by omega) (λ j=>?_) λ aT TX TY TZ t3 Bi dg lL fm=>?_⟩
  ·obtain ⟨o,a4,r⟩:=st.1;exact ⟨o,ne I o (Ne.symm iX) a4,r⟩
  ·obtain ⟨o,a4,r⟩:=st.2;exact ⟨o,ne l o (Ne.symm aQ) a4,r⟩
  ·rw [TW,rX,p2]
   have:ns[i]?=some (ns.getD i 0):=by rw [mm,gb (by omega)];rfl
   rw [this];simp
  ·exact fin aT TX TY TZ t3 Bi dg lL λ b o Io vl e=>fm b o Io vl (ne b o Io (dr b o (by simpa using vl) e))
set_option maxHeartbeats 4000000 in
theorem ofList{l:Addr}{items:Array Value}{ns:List Int}{Q:Value->aC->Prop}(dt:A.handled=none)(aQ:s.heap.IsList l items)(ar:ky items.toList ns)(ag:items.size < 900)
 (h:∀ h' tk ah a5 t,en w h' s.heap.objs.size ah a5 t->ah.size<=items.size->(∀ j,j∈keys ah ↔ j∈ns)->(∀ b o,s.heap.get? b=some o->h'.get? b=some o)->Q (.ref s.heap.objs.size) { s with heap:=h',toks:=tk }) :
 aG (aI prog w) A (call (.type "set") [.ref l]) Q E s:=by
 obtain ⟨c,eG,ada⟩:=F.called_set.mro;have aH:=F.called_set.made;have bI:=F.called_set.sub;have eh:=F.called_set.notType;have kL:=F.called_set.canCreate;have x1:=F.typeCall_set_1 (.ref l);refine td (codeAny_of_tree (show aG _ _ (callAny (.type "set") _) _ _ _ from a3 ⟨Code.quiet_builtin _ (by decide +kernel),l_ F.entry_type_call ?_⟩));rw [Around.under_plain (weight_type_call_type "set" [.ref l] []) rfl]
 repeat (any_goals (first | assumption | wp_step))
 refine nj (TS (.ref l) (E:=E) (Q:=λ obj s1=>obj=.ref s.heap.objs.size/\s1={ s with heap:=s.heap.push (g9 w) }) ⟨rfl,rfl⟩) λ r s1 am=>?_
 cases r with
 | error e=>exact am
 | ok hk=>
  cases hk with
  | ret obj=>
   obtain ⟨rfl,rfl⟩:=am;have Ip:(s.heap.push (g9 w)).get? s.heap.objs.size=some (g9 w):=d2 _ rfl
   have T0:Shared.TypeIs { s with heap:=s.heap.push (g9 w) } (.ref s.heap.objs.size) "set":=⟨_,Ip,rfl⟩
   have Fe:=F.called_set.init.lookup;have kD:=F.called_set.init.bind (.ref s.heap.objs.size)
   repeat (any_goals (first | assumption | wp_step))
   refine nj (codeAny_call_builtin (R:=wants (λ r s2=>r=.none/\Q (.ref s.heap.objs.size) s2) E) F.called_set.init.plain F.entry_set_init (check_set_init_1 T0 ?_)) λ bK s2 yl=>?_
   ·obtain ⟨⟨b6,dA,adb,gM⟩,a4,aE,nl,hd⟩:=aQ;simp only at aE hd;subst aE;subst hd;have fy:=cJ a4;have T1:(s.heap.push (g9 w)).get? l=some { cls:=.type "list", dict:=dA,data:=.seq items nl,slots:=gM }:=cm _ a4
    have gd:(s.heap.push (g9 w)).IsList l items:=⟨_,T1,rfl,nl,rfl⟩
    have mK:=F.sub_list_set;have ff:=F.sub_list_frozenset
    have wW:(Value.type "list"==Value.type "dict")=false:=by decide
    unfold Builtin.«set.__init__» noKeywords Builtin.Frozenset.updateFrom;generalize gg:pZ=P
    wp_walk
    subst gg;refine y2 gd (ao (y5 ?_));have aB:(s.heap.push (g9 w)).objs.size=s.heap.objs.size+1:=lb ..;refine TU (I:=(s.heap.push (g9 w)).objs.size) (l:=l) (S:=s.heap.objs.size) (show A.in1.in1.handled=none from dt) ?T2 ?T3 (ij fy) ar ag (items.size - 0) 0 _ #[] 0 (.fresh 0 0 (!f3 w)) rfl (e0 _) ?T4 ?T5 ?T6 (b7 _) ?T7 ?T8
    case T2=>rw [aB];exact dp (tw fy)
    case T3=>rw [aB];exact dp (rG _)
    case T4=>exact ⟨_,d2 _ rfl,rfl,rfl⟩
    case T5=>exact gd.push _
    case T6=>exact en.fresh (cm _ Ip)
    case T7=>intro j;simp
    case T8=>
     intro h' tk ah a5 t X z m k;refine a3 (show aG _ _ (ret Value.none) _ _ _ from a3 ⟨rfl,h h' tk ah a5 t X z m λ b o e=>k b o (dp (cJ e)) ?_ (cm _ (cm _ e))⟩);rw [aB];exact dp (tw (cJ e))
   ·cases bK with
    | error e=>exact yl
    | ok T9=>
     cases T9 with
     | ret r=>
      obtain ⟨rfl,bv⟩:=yl
      repeat (any_goals (first | assumption | wp_step))
     | _=>exact yl.elim
  | _=>exact am.elim
end
theorem own:Manifest.owners.lookup (String.ofList ['r', 'o', 't', 'a', 'r', 'e', 't', 'i', '_', 't', 'e', 's'].reverse)=some Manifest.sig_set_iterator:=by kernel_rfl
theorem h5:jg "set_iterator" "__next__" "set_iterator.__next__":=.of (owner:="set_iterator") (n:="__next__") (by rw [kt,kr];kernel_rfl) (by decide +kernel) (by decide +kernel) (by decide +kernel) (by first | exact .inl (by decide +kernel) | exact .inr (by decide +kernel)) (by rw [jQ];kernel_rfl)
theorem Iq:jg "set_iterator" "__iter__" "set_iterator.__iter__":=.of (owner:="set_iterator") (n:="__iter__") (by rw [kt,kr];kernel_rfl) (by decide +kernel) (by decide +kernel) (by decide +kernel) (by first | exact .inl (by decide +kernel) | exact .inr (by decide +kernel)) (by rw [jQ];kernel_rfl)
theorem uu:jg "set" "__iter__" "set.__iter__":=.of (owner:="set") (n:="__iter__") (by rw [kt,kr];kernel_rfl) (by decide +kernel) (by decide +kernel) (by decide +kernel) (by first | exact .inl (by decide +kernel) | exact .inr (by decide +kernel)) (by rw [jQ];kernel_rfl)
theorem T_:jg "set" "__len__" "set.__len__":=.of (owner:="set") (n:="__len__") (by rw [kt,kr];kernel_rfl) (by decide +kernel) (by decide +kernel) (by decide +kernel) (by first | exact .inl (by decide +kernel) | exact .inr (by decide +kernel)) (by rw [jQ];kernel_rfl)
theorem qt:WP table "set_iterator.__next__" = some Builtin.«set_iterator.__next__»:=y4 (by kernel_rfl)
theorem Ua:WP table "set_iterator.__iter__" = some Builtin.«dict_keyiterator.__iter__»:=wi (id':="dict_keyiterator.__iter__") (by kernel_rfl) (by first | rfl | decide +kernel | (unfold String.splitOn;simp +decide [String.splitOnAux])) (by decide +kernel) (by kernel_rfl)
theorem z1:WP table "set.__iter__" = some Builtin.«frozenset.__iter__»:=wi (id':="frozenset.__iter__") (by kernel_rfl) (by first | rfl | decide +kernel | (unfold String.splitOn;simp +decide [String.splitOnAux])) (by decide +kernel) (by kernel_rfl)
theorem qu(a:Value):Wp "set_iterator.__next__" ⟨[a],[]⟩:=by unfold Wp;rw [signature?_of (id:="set_iterator.__next__") (n:=['_', '_', 't', 'x', 'e', 'n', '_', '_']) (o:=['r', 'o', 't', 'a', 'r', 'e', 't', 'i', '_', 't', 'e', 's']) (by kernel_rfl) own];kernel_rfl
theorem Ub(a:Value):Wp "set_iterator.__iter__" ⟨[a],[]⟩:=by unfold Wp;rw [signature?_of (id:="set_iterator.__iter__") (n:=['_', '_', 'r', 'e', 't', 'i', '_', '_']) (o:=['r', 'o', 't', 'a', 'r', 'e', 't', 'i', '_', 't', 'e', 's']) (by kernel_rfl) own];kernel_rfl
theorem z2(a:Value):Wp "set.__iter__" ⟨[a],[]⟩:=by unfold Wp;rw [signature?_of (id:="set.__iter__") (n:=['_', '_', 'r', 'e', 't', 'i', '_', '_']) (o:=['t', 'e', 's']) (by kernel_rfl) F.owner_set];kernel_rfl
theorem Ir{α:Type}(f:Nat->Nat):∀(fuel k:Nat)(left:List α)(out:Array α),left.length=fuel->(pickOrder.go f fuel k left out).toList.Perm (out.toList++left)
 | 0,k,left,out,h=>by
  have:left=[]:=List.length_eq_zero_iff.mp h;subst this;simp [pickOrder.go]
 | fuel+1,k,left,out,h=>by
  have lt:f k % left.length < left.length:=ZB _ (by omega);unfold pickOrder.go;rw [gb lt]
  dsimp only
  refine (Ir f fuel (k+1) _ _ (by rw [List.length_eraseIdx_of_lt lt];omega)).trans ?_;rw [Array.toList_push,List.append_assoc];refine List.Perm.append_left _ ?_;have e:=rE (f k % left.length) left;have aL:left.eraseIdx (f k % left.length)=left.take (f k % left.length)++left.drop (f k % left.length+1):=List.eraseIdx_eq_take_drop_succ ..;rw [aL,List.singleton_append]
  have d_:left=left.take (f k % left.length)++left[f k % left.length]::left.drop (f k % left.length+1):=by
   rw [<- p3 lt,e]
  conv=>rhs;rw [d_]
  exact wG.symm
theorem It{α:Type}(f:Nat->Nat)(xs:Array α):(wz f xs).toList.Perm xs.toList:=by
 have h:=Ir f xs.size 0 xs.toList #[] (by simp);simpa [wz] using h
theorem Uc{M:Model}{A:c1}{E:Value->aC->Prop}{s:aC}{src:Source}{n:Nat}{Q:Nat->aC->Prop}(bt:0 < n)(h:∀ i d,i < n->Q i { s with drawn:=d }):aG M A (choose src n) Q E s:=
 λ _ _ _=>⟨by omega,h _ _ (ZB _ bt)⟩
theorem draw{α:Type}{M:Model}{A:c1}{E:Value->aC->Prop}:∀(n:Nat)(xs:List α)(s:aC)(Q:List α->aC->Prop),xs.length=n->(∀ ys d,ys.Perm xs->Q ys { s with drawn:=d })->aG M A (drawOrder n xs) Q E s
 | 0,xs,s,Q,h,q=>by
  have:xs=[]:=List.length_eq_zero_iff.mp h;subst this;exact a3 (q [] s.drawn (.refl _))
 | n+1,[],s,Q,h,q=>by simp at h
 | n+1,x::xs,s,Q,h,q=>by
  unfold drawOrder;refine ao (Uc (by simp) λ i d ar=>?_);rw [gb ar]
  dsimp only
  refine ao (draw n _ _ _ (by rw [List.length_eraseIdx_of_lt ar];simp at h ⊢;omega) λ ys d' az=>a3 (q _ d' ?_));have aL:(x::xs).eraseIdx i=(x::xs).take i++(x::xs).drop (i+1):=List.eraseIdx_eq_take_drop_succ ..;rw [aL] at az
  have d_:x::xs=(x::xs).take i++(x::xs)[i]::(x::xs).drop (i+1):=by
   rw [<- p3 ar,rE]
  refine (az.cons _).trans ?_
  conv=>rhs;rw [d_]
  exact wG.symm
structure SW(w:bW)(h:bL)(a:Addr)(ah:Array (Int × Value))(a5:Nat)(t:eB):Prop where
 at_:h.get? a=some (setAt ah a5 t)
 fits:t.fits ah.size=true
 e6:ah.size < 1000
 led:f3 w=false->t.led=true
 up:iL t.place
theorem en.sw{w:bW}{h:bL}{a:Addr}{ah:Array (Int × Value)}{a5:Nat}{t:eB}(X:en w h a ah a5 t):SW w h a ah a5 t:=⟨X.at_,X.fits,X.e6,X.cl.led,X.cl.up⟩
abbrev ht(first:Value)(i:Nat)(a:Addr)(n a5:Nat):Obj:={ cls:=.type "set_iterator", dict:=none,data:=.fields #[first,d5 i,.ref a,d5 n,d5 a5],slots:=#[] }
section
variable{prog:ck}{w:bW}{A:c1}{E:Value->aC->Prop}{s:aC}{a I T:Addr}{ah:Array (Int × Value)}{a5:Nat}{t:eB}
theorem mT(Q:Bool->aC->Prop)(h:Q (f3 w) s):aG (aI prog w) A setsByText Q E s:=by
 unfold setsByText;exact ao (wf (a3 h))
theorem Ud{Q:Option (Value × Nat)->aC->Prop}(ag:f3 w=true)(X:SW w s.heap a ah a5 t){cn i:Nat}(h:Q (((wz (w.params.setOrder a a5) ah)[i]?).map λ e=>(e.2,cn)) s):aG (aI prog w) A (mf a cn i a5) Q E s:=by
 unfold mf;refine ao (hR X.at_ rfl X.fits (ao (mT _ ?_)));rw [ag,if_pos rfl];rw [if_neg (by simp)];unfold setWalk;refine ao (ao (hR X.at_ rfl X.fits (ao (mT _ ?_))));rw [ag,if_pos rfl];exact ao (wf (a3 (a3 h)))
theorem Iu(X:SW w s.heap a ah a5 t):t.place.size=ah.size:=by
 have:=X.fits;simp only [SetTable.fits,eU,beq_iff_eq] at this;exact this.1
def l0(t:eB):Nat->Nat
 | 0=>0
 | i+1=>t.place.getD i 0+1
theorem Ue(a0:iL t.place){i:Nat}(ar:i<=t.place.size):SetTable.below t.place (l0 t i)=i:=by
 obtain ⟨ak,aq,aT⟩:=Il a0 (l0 t i);generalize SetTable.below t.place (l0 t i)=p at *
 cases i with
 | zero=>
  rcases Nat.eq_zero_or_pos p with z | z
  ·exact z
  ·exact absurd (aq 0 z) (by simp [l0])
 | succ i=>
  rcases Nat.lt_trichotomy p (i+1) with z | z | z
  ·have:=aT i (by omega) (by omega);simp only [l0] at this;omega
  ·exact z
  ·have y:=aq (i+1) z;have l:=a0.lt (show i < i+1 by omega) (by omega);simp only [l0] at y;omega
theorem Uf{Q:Option (Value × Nat)->aC->Prop}(ag:f3 w=false)(hd:(!t.plain&&decide (ah.size > 1))=false)(X:SW w s.heap a ah a5 t){i:Nat}(ar:i<=ah.size)(h:Q ((ah[i]?).map λ e=>(e.2,l0 t (i+1))) s):aG (aI prog w) A (mf a (l0 t i) i a5) Q E s:=by
 have az:=Iu X;unfold mf;refine ao (hR X.at_ rfl X.fits (ao (mT _ ?_)));rw [ag,if_neg (by simp)];refine (show aG (aI prog w) A (if (!t.plain&&decide (ah.size > 1))=true then _ else _) _ _ s from ?_);rw [hd,if_neg (by simp)];refine (show aG (aI prog w) A ((if (!t.led&&!ah.isEmpty)=true then wq "set:maker-not-led" else pure ()) >>= λ _=>_) _ _ s from ?_);rw [X.led ag,if_neg (by simp)];refine ao (a3 (a3 ?_));rw [Ue X.up (by omega)]
 cases e:ah[i]? with
 | none=>rw [e] at h;exact h
 | some y=>
  have lt:i < t.place.size:=by have:=(Array.getElem?_eq_some_iff.mp e).1;omega
  rw [e] at h;rw [k8 lt]
  have:l0 t (i+1)=t.place[i]+1:=by simp [l0,k9,lt]
  rw [this] at h;exact h
end
section
variable{prog:ck}{w:bW}{A:c1}{E:Value->aC->Prop}{s:aC}{a I T:Addr}{ah:Array (Int × Value)}{a5:Nat}{t:eB}
theorem Iv{first:Value}{i n:Nat}{Q:Value->aC->Prop}(hit:s.heap.get? I=some (ht first i a n a5))(h:Q (.ref I) s):aG (aI prog w) A (pZ (.ref I)) Q E s:=
 have bQ:s.TypeIs (.ref I) "set_iterator":=⟨_,hit,rfl⟩
 y1 bQ Iq (hv Iq bQ Ua (a3 ⟨_,rfl,"set_iterator", _,bQ,h5.lookup,h⟩) (Ub _))
theorem Ug{cn i sl':Nat}{x:Value}{Q:Option Value->aC->Prop}(dQ:a≠I)(hit:s.heap.get? I=some (ht (d5 cn) i a ah.size a5))(X:SW w s.heap a ah a5 t)
 (cw:∀(A:c1)(E:Value->aC->Prop)(Q:Option (Value × Nat)->aC->Prop),Q (some (x,sl')) s->aG (aI prog w) A (mf a cn i a5) Q E s)
 (dB:∀ h',h'.get? I=some (ht (d5 sl') (i+1) a ah.size a5)->Heap.SameBut I s.heap h'->Q (some x) { s with heap:=h' }):aG (aI prog w) A (gu (.ref I)) Q E s:=by
 have bQ:s.TypeIs (.ref I) "set_iterator":=⟨_,hit,rfl⟩
 unfold gu;refine ao (mb (wpAny_callSpecial?_slot bQ h5 (hv h5 bQ qt ?_ (qu _))));refine (show aG (aI prog w) A.in1 (fieldsOf (.ref I) >>= _) _ _ s from ao (wk hit rfl ?_));refine (show aG (aI prog w) A.in1 (wv a >>= _) _ _ s from ao (pP X.at_ rfl X.fits ?_));rw [if_neg (by simp)];refine (show aG (aI prog w) A.in1 (mf a ((cn:Int)).toNat ((i:Int)).toNat ((a5:Int)).toNat >>= _) _ _ s from ao ?_);rw [hB,hB,hB];refine cw _ _ _ ?_;refine (show aG (aI prog w) A.in1 (setField (.ref I) 0 (d5 sl') >>= _) _ _ s from ao (XL hit rfl (by simp) ?_));have aP:=il (Obj.mapFields (·.setIfInBounds 0 (d5 sl'))) hit rfl;refine ao (XL aP rfl (by simp [Obj.mapFields]) (a3 ⟨x,rfl,a3 (dB _ ?_ ((Heap.SameBut.update ..).trans (Heap.SameBut.update ..)))⟩));exact il (Obj.mapFields (·.setIfInBounds 1 (d5 ((i:Int)+1)))) aP rfl
theorem Uh{cn i:Nat}{Q:Option Value->aC->Prop}(dt:A.handled=none)(hit:s.heap.get? I=some (ht (d5 cn) i a ah.size a5))(X:SW w s.heap a ah a5 t)
 (cw:∀(A:c1)(E:Value->aC->Prop)(Q:Option (Value × Nat)->aC->Prop),Q none s->aG (aI prog w) A (mf a cn i a5) Q E s)
 (dB:∀ h',Heap.ExtBut I s.heap h'->Q none { s with heap:=h' }):aG (aI prog w) A (gu (.ref I)) Q E s:=by
 have bQ:s.TypeIs (.ref I) "set_iterator":=⟨_,hit,rfl⟩
 unfold gu;refine ao (mb (wpAny_callSpecial?_slot bQ h5 (hv h5 bQ qt ?_ (qu _))));refine (show aG (aI prog w) A.in1 (fieldsOf (.ref I) >>= _) _ _ s from ao (wk hit rfl ?_));refine (show aG (aI prog w) A.in1 (wv a >>= _) _ _ s from ao (pP X.at_ rfl X.fits ?_));rw [if_neg (by simp)];refine (show aG (aI prog w) A.in1 (mf a ((cn:Int)).toNat ((i:Int)).toNat ((a5:Int)).toNat >>= _) _ _ s from ao ?_);rw [hB,hB,hB];refine cw _ _ _ ?_;refine (show aG (aI prog w) A.in1 (setField (.ref I) 2 .none >>= _) _ _ s from ao (XL hit rfl (by simp) ?_));refine (show aG (aI prog w) A.in1 (Builtin.SmallTypes.stopIteration) _ _ _ from fl.xm (A:=A.in1) dt λ h' e dr ax=>?_);refine ao (l9 (T:="StopIteration") (b:=true) ax wj (a3 (dB _ λ b o ag e=>dr b o ?_)));exact (Heap.SameBut.update ..).extBut b o ag e
theorem Ui(dt:A.handled=none)(dQ:a≠I)(cn:Nat->Nat)(xs:Array Value)(aF:xs.size=ah.size)
 (cw:∀(s:aC),SW w s.heap a ah a5 t->∀(A:c1)(E:Value->aC->Prop)(Q:Option (Value × Nat)->aC->Prop)(i:Nat),i<=ah.size->Q ((xs[i]?).map λ x=>(x,cn (i+1))) s->aG (aI prog w) A (mf a (cn i) i a5) Q E s) (X:SW w s.heap a ah a5 t) :
 Walks prog w A I [I,a] [I] ah.size (λ i v=>xs[i]?=some v) (λ i h=>h.get? I=some (ht (d5 (cn i)) i a ah.size a5)/\h.get? a=some (setAt ah a5 t)) where
 sub:=λ b ag=>by rw [f_.mp ag];exact fh
 frame:=λ _ _ _ st aO=>⟨aO I (by simp) _ st.1,aO a (by simp) _ st.2⟩
 item:=λ i s' Q E ar st dB=>by
  have lt:i < xs.size:=by omega
  have ib:SW w s'.heap a ah a5 t:=⟨st.2,X.fits,X.e6,X.led,X.up⟩
  refine Ug (x:=xs[i]) (sl':=cn (i+1)) dQ st.1 ib (λ A E Q q=>cw s' ib A E Q i (by omega) (by rw [k8 lt];exact q)) λ h' aP fk=>?_;exact dB _ h' s'.toks (k8 lt) ⟨aP,by rw [fk.2 a dQ];exact st.2⟩ λ b o ag e=>by rw [fk.2 b (λ z=>ag (f_.mpr z))];exact e
 done:=λ s' Q E st dB=>by
  have ib:SW w s'.heap a ah a5 t:=⟨st.2,X.fits,X.e6,X.led,X.up⟩
  exact Uh dt st.1 ib (λ A E Q q=>cw s' ib A E Q ah.size (b7 _) (by rw [Array.getElem?_eq_none (by omega)];exact q)) λ h' he=>dB h' s'.toks λ b o ag e=>he b o (λ z=>ag (f_.mpr z)) e
 self:=λ i s' Q E st h=>Iv st.1 h
end
section
variable{prog:ck}{w:bW}{A:c1}{E:Value->aC->Prop}{s:aC}{a I T:Addr}{ah:Array (Int × Value)}{a5:Nat}{t:eB}
abbrev jK(ps:List Nat):Obj:={ cls:=.type "tuple", dict:=none,data:=.seq (ps.map λ(p:Nat)=>d5 (p:Int)).toArray 0,slots:=#[] }
theorem sEq{i p:Nat}{ps:List Nat}{k:Int}{x:Value}{Q:Option Value->aC->Prop}(hit:s.heap.get? I=some (ht (.ref T) i a ah.size a5))(sD:s.heap.get? T=some (jK ps))(X:SW w s.heap a ah a5 t)(az:ps[i]?=some p)(aF:ah[p]?=some (k,x))
 (dB:∀ h',h'.get? I=some (ht (.ref T) (i+1) a ah.size a5)->Heap.SameBut I s.heap h'->Q (some x) { s with heap:=h' }):aG (aI prog w) A (gu (.ref I)) Q E s:=by
 have bQ:s.TypeIs (.ref I) "set_iterator":=⟨_,hit,rfl⟩
 unfold gu;refine ao (mb (wpAny_callSpecial?_slot bQ h5 (hv h5 bQ qt ?_ (qu _))));refine (show aG (aI prog w) A.in1 (fieldsOf (.ref I) >>= _) _ _ s from ao (wk hit rfl ?_));refine (show aG (aI prog w) A.in1 (wv a >>= _) _ _ s from ao (pP X.at_ rfl X.fits ?_));rw [if_neg (by simp)];refine (show aG (aI prog w) A.in1 (seqItems? (.ref T) >>= _) _ _ s from ao ?_);unfold seqItems?;refine (show aG (aI prog w) A.in1 (load T >>= _) _ _ s from ao (tc sD (a3 ?_)))
 have cf:((ps.map λ(p:Nat)=>d5 (p:Int)).toArray)[((i:Int)).toNat]?=some (d5 p):=by
  rw [hB,List.getElem?_toArray,eu,az];rfl
 dsimp only
 rw [cf];refine (show aG (aI prog w) A.in1 (setNextDrawn a ((p:Int)).toNat ((a5:Int)).toNat >>= _) _ _ s from ao ?_);rw [hB,hB];unfold setNextDrawn;refine ao (hR X.at_ rfl X.fits ?_)
 dsimp only
 rw [if_neg (by simp),aF];refine a3 ?_;refine ao (XL hit rfl (by simp) (a3 ⟨x,rfl,a3 (dB _ ?_ (Heap.SameBut.update ..))⟩));exact il (Obj.mapFields (·.setIfInBounds 1 (d5 ((i:Int)+1)))) hit rfl
theorem Uj{i:Nat}{ps:List Nat}{Q:Option Value->aC->Prop}(dt:A.handled=none)(hit:s.heap.get? I=some (ht (.ref T) i a ah.size a5))(sD:s.heap.get? T=some (jK ps))(X:SW w s.heap a ah a5 t)(az:ps[i]?=none)
 (dB:∀ h',Heap.ExtBut I s.heap h'->Q none { s with heap:=h' }):aG (aI prog w) A (gu (.ref I)) Q E s:=by
 have bQ:s.TypeIs (.ref I) "set_iterator":=⟨_,hit,rfl⟩
 unfold gu;refine ao (mb (wpAny_callSpecial?_slot bQ h5 (hv h5 bQ qt ?_ (qu _))));refine (show aG (aI prog w) A.in1 (fieldsOf (.ref I) >>= _) _ _ s from ao (wk hit rfl ?_));refine (show aG (aI prog w) A.in1 (wv a >>= _) _ _ s from ao (pP X.at_ rfl X.fits ?_));rw [if_neg (by simp)];refine (show aG (aI prog w) A.in1 (seqItems? (.ref T) >>= _) _ _ s from ao ?_);unfold seqItems?;refine (show aG (aI prog w) A.in1 (load T >>= _) _ _ s from ao (tc sD (a3 ?_)))
 have cf:((ps.map λ(p:Nat)=>d5 (p:Int)).toArray)[((i:Int)).toNat]?=none:=by
  rw [hB,List.getElem?_toArray,eu,az];rfl
 dsimp only
 rw [cf];refine ao (XL hit rfl (by simp) ?_);have aP:=il (Obj.mapFields (·.setIfInBounds 0 (d5 0))) hit rfl;refine ao (XL aP rfl (by simp [Obj.mapFields]) ?_);refine (show aG (aI prog w) A.in1 (Builtin.SmallTypes.stopIteration) _ _ _ from fl.xm (A:=A.in1) dt λ h' e dr ax=>?_);refine ao (l9 (T:="StopIteration") (b:=true) ax wj (a3 (dB _ λ b o ag e=>dr b o ?_)));exact ((Heap.SameBut.update ..).trans (Heap.SameBut.update ..)).extBut b o ag e
theorem Uk(dt:A.handled=none)(dQ:a≠I)(Ul:T≠I)(ps:List Nat)(adc:ps.length=ah.size)(ag:∀ p∈ps,p < ah.size)(X:SW w s.heap a ah a5 t) :
 Walks prog w A I [I,a,T] [I] ah.size (λ i v=>((ps.map λ p=>(ah.getD p (0,.none)).2).toArray)[i]?=some v) (λ i h=>h.get? I=some (ht (.ref T) i a ah.size a5)/\h.get? a=some (setAt ah a5 t)/\h.get? T=some (jK ps)) where
 sub:=λ b ag=>by rw [f_.mp ag];exact fh
 frame:=λ _ _ _ st aO=>⟨aO I (by simp) _ st.1,aO a (by simp) _ st.2.1,aO T (by simp) _ st.2.2⟩
 item:=λ i s' Q E ar st dB=>by
  have lt:i < ps.length:=by omega
  have ib:SW w s'.heap a ah a5 t:=⟨st.2.1,X.fits,X.e6,X.led,X.up⟩
  have az:=ag ps[i] (rD lt);refine sEq (p:=ps[i]) (k:=(ah.getD ps[i] (0,.none)).1) (x:=(ah.getD ps[i] (0,.none)).2) st.1 st.2.2 ib (gb lt) (by rw [k8 az];simp [k9,az]) λ h' aP fk=>?_;exact dB _ h' s'.toks (by simp [lt]) ⟨aP,by rw [fk.2 a dQ];exact st.2.1,by rw [fk.2 T Ul];exact st.2.2⟩ λ b o ag e=>by rw [fk.2 b (λ z=>ag (f_.mpr z))];exact e
 done:=λ s' Q E st dB=>by
  have ib:SW w s'.heap a ah a5 t:=⟨st.2.1,X.fits,X.e6,X.led,X.up⟩
  exact Uj dt st.1 st.2.2 ib (k6 (by omega)) λ h' he=>dB h' s'.toks λ b o ag e=>he b o (λ z=>ag (f_.mpr z)) e
 self:=λ i s' Q E st h=>Iv st.1 h
theorem l1(X:SW w s.heap a ah a5 t):s.TypeIs (.ref a) "set":=⟨_,X.at_,rfl⟩
theorem Um{Q:Value->aC->Prop}(X:SW w s.heap a ah a5 t)
 (ak:(!f3 w&&(!t.plain&&decide (ah.size > 1)))=false->Q (.ref s.heap.objs.size) { s with heap:=s.heap.push (ht (d5 0) 0 a ah.size a5) })
 (aq:(!f3 w&&(!t.plain&&decide (ah.size > 1)))=true->∀ ps d,ps.Perm (eL ah.size)->Q (.ref (s.heap.push (jK ps)).objs.size) { s with heap:=(s.heap.push (jK ps)).push (ht (.ref s.heap.objs.size) 0 a ah.size a5),drawn:=d }) :
 aG (aI prog w) A (pZ (.ref a)) Q E s:=by
 have aQ:=jd;have hf:=X.e6;refine y1 (l1 X) uu (hv uu (l1 X) z1 ?_ (z2 _));refine (show aG (aI prog w) A.in1 (Builtin.Frozenset.sizeOf a >>= _) _ _ s from ao ?_);unfold Builtin.Frozenset.sizeOf;refine ao (pP X.at_ rfl X.fits (a3 ?_));refine ao ?_;unfold setDrawn;refine ao (hR X.at_ rfl X.fits (ao (mT _ (a3 ?_))))
 cases c:(!f3 w&&(!t.plain&&decide (ah.size > 1))) with
 | false=>
  refine (show aG (aI prog w) A.in1 (if (!f3 w&&(!t.plain&&decide (ah.size > 1)))=true then _ else _) _ _ s from ?_);rw [c,if_neg (by simp)];refine ao (a3 (ao (s_ X.at_ rfl X.fits ?_)));unfold newFields;refine ao (hu ?_ (by size_fits));exact a3 ⟨_,rfl,"set_iterator", _,⟨_,d2 _ rfl,rfl⟩,h5.lookup,ak c⟩
 | true=>
  refine (show aG (aI prog w) A.in1 (if (!f3 w&&(!t.plain&&decide (ah.size > 1)))=true then _ else _) _ _ s from ?_);rw [c,if_pos rfl];refine ao (draw _ _ _ _ oP λ ps d az=>?_);have fX:=az.length_eq;rw [oP] at fX;refine ao (wpAny_newTuple ?_ (by rw [bS];omega));have ib:(s.heap.push (jK ps)).get? a=some (setAt ah a5 t):=cm _ X.at_;refine ao (s_ ib rfl X.fits ?_);unfold newFields;refine ao (hu ?_ (by size_fits));exact a3 ⟨_,rfl,"set_iterator", _,⟨_,d2 _ rfl,rfl⟩,h5.lookup,aq c ps d az⟩
end
section
variable{prog:ck}{w:bW}{A:c1}{E:Value->aC->Prop}{s:aC}{a:Addr}{ah:Array (Int × Value)}{a5:Nat}{t:eB}
theorem Iw(X:SW w s.heap a ah a5 t){Q:Bool->aC->Prop}(h:Q false s):aG (aI prog w) A (Builtin.List.listLengthHint (.ref a)) Q E s:=by
 unfold Builtin.List.listLengthHint;refine ao (ni (l1 X) T_.lookup ?_)
 (generalize lF:("set.__len__" : String)=pd;(fail_if_success (clear lF pd));wp_delta;rw [show splitId pd=some ("set", "__len__") from by subst lF;decide +kernel];subst lF)
 exact ao (l9 (b:=true) (l1 X) (by rw [jQ];kernel_rfl) (ao (oA (l1 X) (a3 h))))
theorem Ix{xs acc:Array Value}{n:Nat}(bt:xs.size=n)(h:nn (λ i v=>xs[i]?=some v) acc n):acc=xs:=by
 obtain ⟨ak,aq⟩:=h;apply Array.ext_getElem?;intro i;by_cases c:i < acc.size
 ·rw [k8 c,aq i _ (k8 c)]
 ·rw [Array.getElem?_eq_none (by omega),Array.getElem?_eq_none (by omega)]
theorem Iy{S I:Addr}{fp:List Addr}{n c:Nat}{P:Nat->Value->Prop}{St:Nat->bL->Prop}{res:Value}{R:p0->aC->Prop}(W:Walks prog w A.in1 I fp [I] n P St)(bt:n<=sizeLine)(ke:S ∉ fp)(st:St 0 s.heap)(cX:s.heap.get? S=some (fl.listAt #[] c))
 (h:∀ h' tk acc b_,nn P acc n->h'.get? S=some (fl.listAt acc b_)->(∀ b o,b≠S->b≠I->s.heap.get? b=some o->h'.get? b=some o)->R (.ok (.ret res)) { s with heap:=h',toks:=tk }):hT (aI prog w) A (.builtin "list.extend.loop" ⟨[.ref S,.ref I,res],[]⟩) R s:=
 codeAny_extend_loopS W.toS bt S ke res n 0 s #[] c rfl (e0 _) st cX (ItemsOf.nil P) λ s' acc b_ hm gQ gl=>by
  rw [fl.z4 hm];exact h s'.heap s'.toks acc b_ gl gQ λ b o ak aq e=>hm.heap b o (by simp [ak,aq]) e
theorem Un(ah:Array (Int × Value)):∀(ps:List Nat),ps.Perm (eL ah.size)->(ps.map λ p=>(ah.getD p (0,.none)).2).Perm (ah.toList.map (·.2)):=λ ps az=>by
 refine (az.map _).trans ?_
 have e:(eL ah.size).map (λ p=>(ah.getD p (0,.none)).2)=ah.toList.map (·.2):=by
  apply List.ext_getElem?;intro i;rw [eu,eu];by_cases c:i < ah.size
  ·rw [tr c,tz,k8 c];simp [k9,c]
  ·rw [k6 (by simpa using c),k6 (by simpa using c)];rfl
 rw [e]
theorem Iz{M:Model}{S:Addr}{c:Nat}{Q:Unit->aC->Prop}(cX:s.heap.get? S=some (fl.listAt #[] c))(h:∀ g b_,g.get? S=some (fl.listAt #[] b_)->(∀ b o,b≠S->s.heap.get? b=some o->g.get? b=some o)->Q () { s with heap:=g }):aG M A (Builtin.List.listTouch (.ref S)) Q E s:=by
 refine (show aG M A (tf S (·.push .none) >>= λ _=>tf S (·.pop)) _ _ _ from ao (nh cX rfl ?_));have aL:=il (Obj.mapSeq (·.push Value.none)) cX rfl;refine nh (hz:=by seq_fits) aL rfl (h _ _ (il (Obj.mapSeq (·.pop)) aL rfl) λ b o ag e=>?_);exact (jY _ _ (Ne.symm ag)).trans ((jY _ _ (Ne.symm ag)).trans e)
theorem Uo{S:Addr}{c:Nat}{res:Value}{R:p0->aC->Prop}(dt:A.handled=none)(X:SW w s.heap a ah a5 t)(cX:s.heap.get? S=some (fl.listAt #[] c))(vm:S≠a)
 (h:∀ h' tk d acc b_,acc.toList.Perm (ah.toList.map (·.2))->h'.get? S=some (fl.listAt acc b_)->(∀ b o,b≠S->s.heap.get? b=some o->h'.get? b=some o)->R (.ok (.ret res)) { s with heap:=h',toks:=tk,drawn:=d }) :
 aG (aI prog w) A.in1 (Builtin.List.listExtendWith (.ref S) (.ref a) res)
  (λ fin s'=>match fin with | .done f=>R (.ok f) s' | .again b_=>b_.quiet=true/\hT (aI prog w) A b_ R s') (λ e s'=>R (.error e) s') s:=by
 have aQ:=jd;have hf:=X.e6;have alt:=cJ X.at_;have slt:=cJ cX;unfold Builtin.List.listExtendWith;refine ao (oA (l1 X) ?_)
 have ak:Builtin.List.listSameRef (.ref S) (.ref a)=false:=by simp [Builtin.List.listSameRef,vm]
 rw [ak,show (Value.type "set"==Value.type "list")=false by decide,show (Value.type "set"==Value.type "tuple")=false by decide,rI,rI,if_neg gI];refine ao (Um X (λ c=>?_) λ c ps d az=>?_)
 ·have aP:(s.heap.push (ht (d5 0) 0 a ah.size a5)).get? a=some (setAt ah a5 t):=cm _ X.at_
  have kZ:SW w (s.heap.push (ht (d5 0) 0 a ah.size a5)) a ah a5 t:=⟨aP,X.fits,X.e6,X.led,X.up⟩
  refine ao (g_ (Iw (s:={ s with heap:=s.heap.push (ht (d5 0) 0 a ah.size a5) }) kZ ?_));rw [if_pos (by simp;decide)];refine ao (hx (ao (Iz (s:={ s with heap:=s.heap.push (ht (d5 0) 0 a ah.size a5) }) (cm _ cX) λ g dE vn pB=>?_)));have Up:s.heap.objs.size≠S:=ij slt;have aL:=pB a _ (Ne.symm vm) aP
  have vo:SW w g a ah a5 t:=⟨aL,X.fits,X.e6,X.led,X.up⟩
  have go:∀(cn:Nat->Nat)(xs:Array Value),cn 0=0->xs.size=ah.size->xs.toList.Perm (ah.toList.map (·.2))->(∀(s:aC),SW w s.heap a ah a5 t->∀(A:c1)(E:Value->aC->Prop)(Q:Option (Value × Nat)->aC->Prop)(i:Nat),i<=ah.size->Q ((xs[i]?).map λ x=>(x,cn (i+1))) s->aG (aI prog w) A (mf a (cn i) i a5) Q E s) →
   hT (aI prog w) A (.builtin "list.extend.loop" ⟨[.ref S,.ref s.heap.objs.size,res],[]⟩) R { s with heap:=g }:=λ cn xs h0 aF az cw=>by
   refine Iy (s:={ s with heap:=g }) (Ui (s:={ s with heap:=g }) (show A.in1.handled=none from dt) (dp alt) cn xs aF cw vo) (by omega) ?_ ⟨by rw [h0];exact pB _ _ Up (d2 _ rfl),aL⟩ vn λ h' tk acc b_ iX gQ dr=>h h' tk s.drawn acc b_ (by rw [Ix aF iX];exact az) gQ λ b o ag e=>dr b o ag (dp (cJ e)) (pB b o ag (cm _ e));simp only [dJ,jj,or_false,not_or];exact ⟨dp slt,vm⟩
  refine a3 ⟨ku F.plain_extend_loop _,?_⟩
  cases ag:f3 w with
  | true=>
   have pm:=It (w.params.setOrder a a5) ah;refine go (λ _=>0) ((wz (w.params.setOrder a a5) ah).map (·.2)) rfl (by rw [wJ,<- ft,pm.length_eq,ft]) (by rw [Array.toList_map];exact pm.map _) λ s' ib Uq Gy fV i _ q=>Ud ag ib ?_;rw [Array.getElem?_map,Option.map_map] at q;exact q
  | false=>
   rw [ag] at c;refine go (l0 t) (ah.map (·.2)) rfl (by rw [wJ]) (by rw [Array.toList_map]) λ s' ib Uq Gy fV i ar q=>Uf ag (by simpa using c) ib ar ?_;rw [Array.getElem?_map,Option.map_map] at q;exact q
 ·have fX:=az.length_eq;rw [oP] at fX;have aB:(s.heap.push (jK ps)).objs.size=s.heap.objs.size+1:=lb ..;have aP:((s.heap.push (jK ps)).push (ht (.ref s.heap.objs.size) 0 a ah.size a5)).get? a=some (setAt ah a5 t):=cm _ (cm _ X.at_)
  have kZ:SW w ((s.heap.push (jK ps)).push (ht (.ref s.heap.objs.size) 0 a ah.size a5)) a ah a5 t:=⟨aP,X.fits,X.e6,X.led,X.up⟩
  refine ao (g_ (Iw (s:={ s with heap:=(s.heap.push (jK ps)).push (ht (.ref s.heap.objs.size) 0 a ah.size a5),drawn:=d }) kZ ?_));rw [if_pos (by simp;decide)];refine ao (hx (ao (Iz (s:={ s with heap:=(s.heap.push (jK ps)).push (ht (.ref s.heap.objs.size) 0 a ah.size a5),drawn:=d }) (cm _ (cm _ cX)) λ g dE vn pB=>?_)));refine a3 ⟨ku F.plain_extend_loop _,?_⟩
  have Ur:a < (s.heap.push (jK ps)).objs.size:=by rw [aB];exact tw alt
  have ym:S < (s.heap.push (jK ps)).objs.size:=by rw [aB];exact tw slt
  have IA:s.heap.objs.size < (s.heap.push (jK ps)).objs.size:=by rw [aB];exact rG _
  have aL:=pB a _ (Ne.symm vm) aP
  have vo:SW w g a ah a5 t:=⟨aL,X.fits,X.e6,X.led,X.up⟩
  refine Iy (s:={ s with heap:=g,drawn:=d }) (Uk (T:=s.heap.objs.size) (s:={ s with heap:=g,drawn:=d }) (show A.in1.handled=none from dt) (dp Ur) (dp IA) ps fX (λ p Bj=>nu.mp (az.mem_iff.mp Bj)) vo) (by omega) ?_ ⟨pB _ _ (ij ym) (d2 _ rfl),aL,pB _ _ (ij slt) (cm _ (d2 _ rfl))⟩ vn λ h' tk acc b_ iX gQ dr=>h h' tk d acc b_ ?_ gQ λ b o ag e=>dr b o ag ?_ (pB b o ag (cm _ (cm _ e)))
  ·simp only [dJ,jj,or_false,not_or];exact ⟨dp ym,vm,dp slt⟩
  ·rw [Ix (by rw [c_,bS];exact fX) iX,wF];exact Un ah ps az
  ·exact dp (jV (cJ e) IA)
theorem Us{Q:List Value->aC->Prop}(dt:A.handled=none)(X:SW w s.heap a ah a5 t)
 (h:∀ h' tk d (ai:List Value),ai.Perm (ah.toList.map (·.2))->(∀ b o,s.heap.get? b=some o->h'.get? b=some o)->Q ai { s with heap:=h',toks:=tk,drawn:=d }):aG (aI prog w) A (tj (.ref a)) Q E s:=by
 unfold tj;refine ao (y5 (l_ F.entry_proto_collect ?_));rw [Around.under_plainId F.plain_proto_collect _];refine (show aG (aI prog w) A.in1 (newList [] >>= λ l=>again (.builtin "list.__iadd__" ⟨[l,.ref a],[]⟩)) _ _ s from ao (hu (a3 ⟨ku F.plain_list_iadd _,l_ F.entry_list_iadd ?_⟩)));rw [Around.under_plainId F.plain_list_iadd _]
 have kZ:SW w (s.heap.push (fl.listAt #[] 0)) a ah a5 t:=⟨cm _ X.at_,X.fits,X.e6,X.led,X.up⟩
 have fin:∀ s',(∃ h' tk d acc b_,s'={ s with heap:=h',toks:=tk,drawn:=d }/\acc.toList.Perm (ah.toList.map (·.2))/\h'.get? s.heap.objs.size=some (fl.listAt acc b_)/\∀ b o,s.heap.get? b=some o->h'.get? b=some o) →
  aG (aI prog w) A (do
   match (← load s.heap.objs.size).data with
   | .seq xs _=>pure xs.toList
   | _=>wq "internal:collect") Q E s':=by
  rintro s' ⟨h',tk,d,acc,b_,rfl,az,e,k⟩;exact ao (tc e (a3 (h h' tk d acc.toList az k)))
 refine (show aG (aI prog w) A.in1 (Builtin.List.listExtendWith (.ref s.heap.objs.size) (.ref a) (.ref s.heap.objs.size)) _ _ _ from ?_)
 refine eg (Uo (s:={ s with heap:=s.heap.push (fl.listAt #[] 0) }) (R:=λ r s'=>r=.ok (.ret (.ref s.heap.objs.size))/\∃ h' tk d acc b_,s'={ s with heap:=h',toks:=tk,drawn:=d }/\acc.toList.Perm (ah.toList.map (·.2))/\h'.get? s.heap.objs.size=some (fl.listAt acc b_)/\∀ b o,s.heap.get? b=some o->h'.get? b=some o) dt kZ (d2 _ rfl) (ij (cJ X.at_))
  (λ h' tk d acc b_ az e k=>⟨rfl,h',tk,d,acc,b_,rfl,az,e,λ b o ea=>k b o (dp (cJ ea)) (cm _ ea)⟩)) (λ fn s' h=>?_) (λ e s' h=>absurd h.1 (by simp))
 cases fn with
 | done f=>
  obtain ⟨e,h⟩:=h;cases e;exact fin s' h
 | again b_=>exact ⟨h.1,nj h.2 λ r ln am=>by obtain ⟨rfl,am⟩:=am;exact fin ln am⟩
end
end gU
namespace gU
open PySem PyProof.Rows
section
variable{prog:ck}{w:bW}{A:c1}{E:Value->aC->Prop}{s:aC}{a:Addr}{ah:Array (Int × Value)}{a5:Nat}{t:eB}
theorem IB:∀{ai:List Value},(∀ v∈ai,∃ u,v=.int (fD v) u)->ky ai (ai.map fD)
 | [],_=>IntsAre.nil
 | v::ai,h=>by
  obtain ⟨u,e⟩:=h v (fh ..);rw [ew,e];exact IntsAre.cons _ _ (IB λ x aF=>h x (ig _ aF))
theorem sortedS{Q:Value->aC->Prop}(dt:A.handled=none)(X:SW w s.heap a ah a5 t)(fZ:hs ah.toList)(pC:ah.size < 64)
 (h:∀(ak h':bL)(tk:Nat)(d:Drawn)(out:Array Value)(c:Nat)(vp:List Int),ky out.toList vp->vp.Perm (keys ah)->vp.Pairwise (·<=·)->(∀ b o,s.heap.get? b=some o->ak.get? b=some o)->(∀ b o,ak.get? b=some o->h'.get? b=some o)->h'.get? ak.objs.size=some (fl.listAt out c)->Q (.ref ak.objs.size) { s with heap:=h',toks:=tk,drawn:=d }) :
 aG (aI prog w) A (call (.builtin "sorted") [.ref a]) Q E s:=by
 refine Calls.call_function_entry kind_sorted plain_sorted entry_sorted (args_sorted1 _) ?_;unfold Builtin.«sorted»;refine ao (m:=checkCount "sorted" 1 1 _) (a3 (ao (Us (show A.in1.handled=none from dt) X λ h' tk d ai az k=>?_)));have aQ:=jd
 have hlen:ai.length=ah.size:=by have z:=az.length_eq;simpa using z
 have ar:ky ai (ai.map fD):=IB λ v bC=>by
  obtain ⟨e,he,rfl⟩:=g0.mp (az.mem_iff.mp bC);exact (fZ e he).1
 have yn:(ai.map fD).Perm (keys ah):=by
  have z:=az.map fD
  rwa [fE] at z
 have r5:(h'.push (fl.listAt ai.toArray 0)).get? h'.objs.size=some (fl.listAt ai.toArray 0):=d2 _ rfl;refine ao (hu ?_ (by show ai.toArray.size<=sizeLine;rw [c_];omega));refine ao (g_ (hv slot_list_sort ⟨_,r5,rfl⟩ entry_list_sort (list_sort_tree r5 ar (by omega) λ out vp a1 a2 lI=>⟨_,rfl,?_⟩) (args_list_sort _)));obtain ⟨c,aE⟩:=sortedHeap_at (out:=out) r5;refine a3 ⟨_,rfl,h h' _ _ _ out c vp a1 (a2.trans yn) lI k (λ b o z=>?_) aE⟩;rw [sortedHeap_old (dp (cJ z)) (by rw [lb];exact tw (cJ z))];exact cm _ z
end
end gU
namespace L2
open PySem PySem.Spec PyProof.Rows
section
variable{X:bb}{e:bg}{aW:TE}{p cE pos dj:Pos}
theorem Inv.drew{pins:List (Addr × Obj)}{σ:St}{H:ay}{s:aC}{d:Drawn}(I:Inv X pins σ H s):Inv X pins σ H { s with drawn:=d }:=⟨I.ok,I.os,I.bare,I.base,I.loc,I.cell,I.free,I.kB,I.pin,I.bM,I.len⟩
theorem Bk:∀{ns:List Int}{us:List Value},Vals (ns.map V.int) us->ky us ns
 | [],_,h=>by cases h;exact IntsAre.nil
 | n::ns,_,h=>by
  cases h with
  | cons r dL=>
   obtain ⟨t,rfl⟩:=r;exact IntsAre.cons _ _ (Bk dL)
def m5(ns ms:List Int):Prop:=ms.Pairwise (· < ·)/\∀ j,j∈ms ↔ j∈ns
theorem Ut{ns ms ks:List Int}(oo:ks.Nodup)(hm:∀ j,j∈ks ↔ j∈ns)(az:ms.Perm ks)(ax:ms.Pairwise (·<=·)):m5 ns ms:=by
 have aY:ms.Nodup:=az.nodup_iff.mpr oo;refine ⟨?_,λ j=>by rw [az.mem_iff,hm]⟩;have z:ms.Pairwise λ a b=>a<=b/\a≠b:=List.pairwise_and_iff.mpr ⟨ax,aY⟩;exact z.imp λ h=>by omega
def Uu(K:bl)(aW:TE):TE:=λ σ H Q=>aW σ H λ x H1=>∃(l:Addr)(ns:List Int),x=.ref l/\d7 K H1 l (ns.map V.int)/\ns.length < 64/\∀ ms,m5 ns ms->∀ dz,H1 dz=none->Q (.ref dz) (upd H1 dz (.lst (ms.map V.int)))
theorem IC{pins:List (Addr × Obj)}{σ:St}{H:ay}{s:aC}{a:Addr}{ah:Array (Int × Value)}{a5:Nat}{t:eB}{Q:cK}{ns:List Int}(aE:X.calm=true)(I:Inv X pins σ H s)(W:gU.SW X.w s.heap a ah a5 t)(fZ:gU.hs ah.toList)(oo:(gU.keys ah).Nodup)(pC:ah.size < 64)(hm:∀ j,j∈gU.keys ah ↔ j∈ns)
 (q:∀ ms,m5 ns ms->∀ dz,H dz=none->Q (.ref dz) (upd H dz (.lst (ms.map V.int)))):aG (aI X.prog X.w) X.A (call (.builtin "sorted") [.ref a]) (da X pins σ Q) X.xe s:=by
 have aQ:=jd;refine gU.sortedS (I.ok.hd aE) W fZ pC λ ak h' tk d out c ms a1 a2 lI d4 df e=>?_;have a6:Inv X pins σ H { s with heap:=ak }:=I.kept (t':=s.toks) d4
 have len:ms.length<=sizeLine:=by
  have z:=a2.length_eq
  have b8:(gU.keys ah).length=ah.size:=by simp [gU.keys]
  omega
 have cy:Inv X pins σ (upd H ak.objs.size (.lst (ms.map V.int))) { s with heap:=h',toks:=tk }:=
  a6.laid (t':=tk) df (b7 _) (show eP X.prog X.w _ h' _ (.lst (ms.map V.int)) from ⟨by rw [bS];exact len,out.toList,c,zA a1,by simpa using e⟩)
 exact ⟨.ref ak.objs.size,_,cy.drew (d:=d),rfl,q ms (Ut oo hm a2 lI) _ (a6.bM.fresh (b7 _))⟩
theorem Uv{pins:List (Addr × Obj)}{s:aC}{σ:St}{H:ay}{R:Addr->List Int->ay->Prop}(aE:X.calm=true)(aZ:di X "set")(hm:X.mg "set" = none)(he:bX X e aW)(ax:dw e=true)(I:Inv X pins σ H s)
 (h:aW σ H λ x H1=>∃(l:Addr)(ns:List Int),x=.ref l/\d7 X.K H1 l (ns.map V.int)/\ns.length < 64/\R l ns H1) :
 aG (aI X.prog X.w) X.A (eval (.Call (.Name "set" cE) [e] [] dj) X.env) (λ v s'=>∃(l S:Addr)(ns:List Int)(H1:ay)(ah:Array (Int × Value))(a5:Nat)(t:eB),v=.ref S/\Inv X pins σ H1 s'/\gU.en X.w s'.heap S ah a5 t/\H1 S=none/\ah.size<=ns.length/\ns.length < 64/\(∀ j,j∈gU.keys ah ↔ j∈ns)/\R l ns H1) X.xe s:=by
 refine iM (iU I aZ hm PyProof.Rows.boot_set ?_);refine mr ?_ (eH ax) rfl;rw [eH ax];show aG _ _ (md ((false,eval e X.env)::fS dj (dv [] X.env))) _ _ s;refine Calls.spliced_cons (b5 (he pins s σ H _ I h) λ u s1 ⟨x,H1,a6,bj,l,ns,ex,bv,aQ,q⟩=>Calls.spliced_nil ?_);subst ex;cases bj;obtain ⟨aM,be,cW,hz⟩:=a6.list bv;have hlen:=be.length;rw [bS] at hlen;refine gU.ofList (items:=aM.toArray) (ns:=ns) (a6.ok.hd aE) cW.isList (by simpa using Bk be) (by rw [c_];omega) λ h' tk ah a5 t en z m k=>?_;exact ⟨l,s1.heap.objs.size,ns,H1,ah,a5,t,rfl,a6.kept (t':=tk) k,en,a6.bM.fresh (b7 _),by have y:aM.toArray.size=aM.length:=c_;omega,aQ,m,q⟩
theorem Uw(aE:X.calm=true)(q5:di X "sorted")(q6:X.mg "sorted" = none)(aZ:di X "set")(hm:X.mg "set" = none)(he:bX X e aW)(ax:dw e=true):bX X (.Call (.Name "sorted" p) [.Call (.Name "set" cE) [e] [] dj] [] pos) (Uu X.K aW):=by
 intro pins s σ H Q I h;refine iM (iU I q5 q6 PyProof.Rows.boot_sorted ?_);refine PyProof.Rows.callWith_builtin1 ?_ (eH rfl) rfl;rw [eH rfl];show aG _ _ (md ((false,eval (.Call (.Name "set" cE) [e] [] dj) X.env)::fS pos (dv [] X.env))) _ _ s;refine Calls.spliced_cons (b5 (Uv (R:=λ _ ns H1=>∀ ms,m5 ns ms->∀ dz,H1 dz=none->Q (.ref dz) (upd H1 dz (.lst (ms.map V.int)))) aE aZ hm he ax I h) λ v s1 ak=>Calls.spliced_nil ?_);obtain ⟨l,S,ns,H1,ah,a5,t,rfl,a6,en,_,z,aQ,m,q⟩:=ak;exact IC aE a6 en.sw en.all en.aY (by omega) m q
end
end L2
namespace L3
open PySem PyProof L2
section
variable{X:bb}{e:bg}{aW:cj}{p cE pos dj:Pos}
abbrev Ux(aW:cj):cj:=λ ρ G Q=>aW ρ G λ x aA=>match x with
 | .ref l=>gB aA l λ ds=>∃ ns,mY ds=some ns/\ns.length < 64/\∀ ms,m5 ns ms->∀ dz,aA dz=none->Q (.ref dz) (up aA dz (.lst (ms.map D.int)))
 | _=>False
theorem Uy(q5:di X "sorted")(q6:X.mg "sorted" = none)(aZ:di X "set")(hm:X.mg "set" = none)(he:bZ X e aW)(aE:X.calm=true:=by rfl)(ax:dw e=true:=by rfl):bZ X (.Call (.Name "sorted" p) [.Call (.Name "set" cE) [e] [] dj] [] pos) (Ux aW):=by
 obtain ⟨ce,hr,re⟩:=he.run;refine ⟨_,⟨Uw aE q5 q6 aZ hm hr.run ax⟩,λ ρ G au σ H Q B q F=>re ρ G _ σ H _ B q λ x aA v H1 g1 a_ aH=>?_⟩
 cases x with
 | ref l=>
  cases a_;obtain ⟨ds,ai,⟨ns,aP,aQ,k⟩,s,dZ⟩:=hJ g1.b3 aH;rw [uP aP] at dZ;rw [dZ.ints] at s;exact ⟨l,ns,rfl,s,aQ,λ ms ax dz oq=>F (.ref dz) _ _ _ (g1.trans (Go.qG g1.b3 oq (b2.xC ms))) rfl (k ms ax dz (g1.b3.none oq))⟩
 | _=>exact (show False from aH).elim
end
theorem Tm.Uz{t:Tm}(h:t.leaf=false):t.enc=.tup (.str t.word::t.aV.map Tm.enc):=by cases t<;>first | rfl | cases h
def Bl(zs:List (Nat × Nat)):List Int:=zs.filterMap λ z=>if z.2<=z.1 then some ((z.1:Int) - z.2) else none
def Tm.ja(t:Tm):List Int:=Bl (t.dI 0)
theorem UA(m l:Nat)(t:Tm):∀ w,(t.bU (dT m l) w).aJ=t.aJ:=by
 induction t<;>intro w<;>simp_all [Tm.bU,Tm.aJ,dT]
theorem ID(l:Nat)(t:Tm):∀ w,t.bU (dT 0 l) w=t:=by
 induction t<;>intro w<;>simp_all [Tm.bU,dT]
theorem Bm:∀{xs ys:List Int},xs.Nodup->(∀ j∈xs,j∈ys)->xs.length<=ys.length
 | [],_,_,_=>e0 _
 | x::xs,ys,h,ax=>by
  rw [oM] at h;have aF:=ax x (fh ..);have aN:=Bm (ys:=ys.erase x) h.2 λ j cP=>(List.mem_erase_of_ne (by rintro rfl;exact h.1 cP)).mpr (ax j (ig _ cP));rw [List.length_erase_of_mem aF] at aN;have:0 < ys.length:=List.length_pos_of_mem aF;rw [dH];omega
theorem b0{G:aX}{l b:Addr}{o u:eS}(h:G l=none)(e:G b=some u):up G l o b=some u:=Sub.new (Sub.refl _) h b u e
theorem dS.b0{a b:Addr}{G ap:aX}{u:eS}(h:dS a G ap)(n:b≠a)(e:G b=some u):ap b=some u:=by rw [h.other n];exact e
theorem IE:∀ ns:List Int,h_ (ns.map D.int)=true
 | []=>rfl
 | _::ns=>by simp [h_,D.data,IE ns]
section
variable{K:bl}{H:ay}{G:aX}
def IF:Key->D
 | .inl i=>.int i
 | .inr x=>.str x
theorem Bn{k:Key}{v:V}(h:db K H (IF k) v):v=dO k:=by cases k<;>exact h
def f5(kvs:List (Key × D))(k:Key):Option D:=(kvs.find? λ cU=>decide (cU.1=k)).map (·.2)
def kn(kvs:List (Key × D))(k:Key)(v:D):List (Key × D):=
 if (kvs.any λ cU=>decide (cU.1=k))=true then kvs.map (λ cU=>if cU.1=k then (cU.1,v) else cU) else kvs++[(k,v)]
theorem ec.cons_inv{κ:Type}{x:κ}{y:D}{r:List (κ × D)}{gs:List (κ × V)}(h:ec K H ((x,y)::r) gs):∃ v s,gs=(x,v)::s/\db K H y v/\ec K H r s:=by
 obtain ⟨ak,aq⟩:=h
 cases gs with
 | nil=>cases ak
 | cons g s=>
  obtain ⟨g1,g2⟩:=g;simp only [ew,List.cons.injEq] at ak;obtain ⟨v,us,aP,a1,a2⟩:=aq;simp only [ew,List.cons.injEq] at aP;obtain ⟨rfl,ak⟩:=ak;obtain ⟨rfl,rfl⟩:=aP;exact ⟨g2,s,rfl,a1,ak,a2⟩
theorem ec.nil_inv{κ:Type}{gs:List (κ × V)}(h:ec K H ([]:List (κ × D)) gs):gs=[]:=by
 cases gs with
 | nil=>rfl
 | cons g s=>cases h.1
theorem ec.vq{κ:Type}{x:κ}{y:D}{v:V}{r:List (κ × D)}{s:List (κ × V)}(h:db K H y v)(am:ec K H r s):ec K H ((x,y)::r) ((x,v)::s):=⟨by simp [am.1],v,_,rfl,h,am.2⟩
theorem ec.append{κ:Type}:∀{bO ah:List (κ × D)}{gs ax:List (κ × V)},ec K H bO gs->ec K H ah ax->ec K H (bO++ah) (gs++ax)
 | [],_,_,_,r,s=>by rw [r.nil_inv];exact s
 | (x,y)::r,_,_,_,h,s=>by
  obtain ⟨v,t,rfl,a,am⟩:=h.cons_inv;exact ec.vq a (am.append s)
theorem ec.val{k:Key}:∀{bO:List (Key × D)}{gs:List (Key × V)},ec K H bO gs->(∀ d,f5 bO k=some d->∃ v,iq gs k=some v/\db K H d v)/\(f5 bO k=tA->iq gs k=tA)
 | [],_,h=>by rw [h.nil_inv];exact ⟨λ d e=>(by cases e),λ _=>rfl⟩
 | (x,y)::r,_,h=>by
  obtain ⟨v,t,rfl,a,am⟩:=h.cons_inv;obtain ⟨br,bx⟩:=ec.val (k:=k) am;by_cases c:x=k
  ·have aP:f5 ((x,y)::r) k=some y:=by simp [f5,nA,c]
   have aL:iq ((x,v)::t) k=some v:=xf c;rw [aP,aL];exact ⟨λ d e=>⟨v,rfl,by cases e;exact a⟩,λ e=>by cases e⟩
  ·have aP:f5 ((x,y)::r) k=f5 r k:=by simp [f5,nA,c]
   have aL:iq ((x,v)::t) k=iq t k:=xg c;rw [aP,aL];exact ⟨br,bx⟩
theorem ec.IG{k:Key}:∀{bO:List (Key × D)}{gs:List (Key × V)},ec K H bO gs->(bO.any λ cU=>decide (cU.1=k))=gs.any λ cU=>decide (cU.1=k)
 | [],_,h=>by rw [h.nil_inv];rfl
 | (x,y)::r,_,h=>by
  obtain ⟨v,t,rfl,a,am⟩:=h.cons_inv;rw [ml,ml,ec.IG am]
theorem ec.Bo{k:Key}{d:D}{u:V}(hd:db K H d u):∀{bO:List (Key × D)}{gs:List (Key × V)},ec K H bO gs->ec K H (bO.map λ cU=>if cU.1=k then (cU.1,d) else cU) (gs.map λ cU=>if cU.1=k then (cU.1,u) else cU)
 | [],_,h=>by rw [h.nil_inv];exact ⟨rfl,rfl⟩
 | (x,y)::r,_,h=>by
  obtain ⟨v,t,rfl,a,am⟩:=h.cons_inv;rw [ew,ew];by_cases c:x=k
  ·simp only [c,if_true];exact ec.vq hd (ec.Bo hd am)
  ·simp only [if_neg c];exact ec.vq a (ec.Bo hd am)
theorem ec.kn{k:Key}{d:D}{u:V}(hd:db K H d u){bO:List (Key × D)}{gs:List (Key × V)}(h:ec K H bO gs):ec K H (L3.kn bO k d) (h3 gs k u):=by
 unfold L3.kn h3;rw [h.IG];split
 ·exact ec.Bo hd h
 ·exact h.append (ec.vq hd ⟨rfl,rfl⟩)
theorem IH(kvs:List (Key × D))(k j:Key)(y:D):f5 (kn kvs k y) j=if j=k then some y else f5 kvs j:=by
 have key:∀ l:List (Key × D),f5 (l.map λ cU=>if cU.1=k then (cU.1,y) else cU) j=(f5 l j).map λ x=>if j=k then y else x:=λ l=>by
  induction l with
  | nil=>rfl
  | cons p r aN=>
   obtain ⟨gw,cE⟩:=p;simp only [f5,ew,nA] at aN ⊢;by_cases c:gw=k
   ·subst c;by_cases d:gw=j
    ·subst d;simp
    ·simp only [if_true,d,decide_false];exact aN
   ·by_cases d:gw=j
    ·subst d;simp [c]
    ·simp only [if_neg c,d,decide_false];exact aN
 unfold kn;by_cases c:(kvs.any λ cU=>decide (cU.1=k))=true
 ·rw [if_pos c,key];by_cases d:j=k
  ·subst d
   have:(f5 kvs j).isSome=true:=by
    unfold f5;rw [Option.isSome_map,List.find?_isSome];obtain ⟨x,aF,e⟩:=List.any_eq_true.mp c;exact ⟨x,aF,e⟩
   obtain ⟨z,e⟩:=wK.mp this;rw [e];simp
  ·simp [d]
 ·rw [if_neg c];have no:∀ x∈kvs,x.1≠k:=λ x aF e=>c (List.any_eq_true.mpr ⟨x,aF,by simpa using e⟩);unfold f5;rw [List.find?_append];by_cases d:j=k
  ·subst d
   have:kvs.find? (λ cU=>decide (cU.1=j))=none:=List.find?_eq_none.mpr λ x aF=>by simpa using no x aF
   rw [this];simp
  ·rw [if_neg d]
   have e:([(k,y)]:List (Key × D)).find? (λ cU=>decide (cU.1=j))=none:=by simp [Ne.symm d]
   rw [e];simp
theorem II(kvs:List (Key × D))(k:Key)(v:D):(kn kvs k v).length<=kvs.length+1:=by
 unfold kn;split<;>simp
@[irreducible] def pD(G:aX)(a:Addr)(k:List (Key × D)->Prop):Prop:=match G a with
 | some (.c4 kvs)=>k kvs
 | _=>False
theorem Bp{a:Addr}{k:List (Key × D)->Prop}{kvs:List (Key × D)}(h:G a=some (.c4 kvs))(q:k kvs):pD G a k:=by unfold pD;rw [h];exact q
theorem IJ{a:Addr}{k:List (Key × D)->Prop}(v:ek K G H)(h:pD G a k):∃ kvs gs,k kvs/\G a=some (.c4 kvs)/\H a=some (.c4 gs)/\ec K H kvs gs:=by
 unfold pD at h;split at h
 ·next kvs e=>obtain ⟨gs,z,r⟩:=v _ _ e;exact ⟨kvs,gs,h,e,z,r⟩
 ·exact h.elim
theorem Bq{p:Addr}{gs:List (Key × V)}{o:fF}(h:H p=some (.c4 gs)):i0 K H (upd H p o):=Am (λ ys=>by rintro (e | ⟨o,e⟩)<;>rw [h] at e<;>cases e) λ _ _ e=>by rw [h] at e;cases e
theorem Go.newD(v:ek K G H){p:Addr}{kvs:List (Key × D)}{gs:List (Key × V)}(h:H p=none)(r:ec K H kvs gs):Go K G H (up G p (.c4 kvs)) (upd H p (.c4 gs)) where
 tup:=pk h
 iw:=λ a u e=>⟨u,by rw [cV (hU e h)];exact e⟩
 same:=λ a u e _=>by rw [cV (hU e h)];exact e
 new:=λ a u e n=>by rw [c7 (hU e h)];exact n
 b3:=λ a u e=>by
  by_cases c:a=p
  ·subst c;rw [bF] at e;cases e;exact ⟨gs,fi,r.1,r.2.mono (pk h)⟩
  ·rw [c7 c] at e;exact (v a u e).mono (pk h) (cV c)
theorem Go.IK(v:ek K G H){p:Addr}{UB kvs:List (Key × D)}{gs:List (Key × V)}(h:G p=some (.c4 UB))(r:ec K H kvs gs):Go K G H (up G p (.c4 kvs)) (upd H p (.c4 gs)):=by
 obtain ⟨us,az,_⟩:=v p _ h
 exact {
  tup:=Bq az
  iw:=λ a u e=>by
   by_cases c:a=p
   ·subst c;exact ⟨_,fi⟩
   ·exact ⟨u,by rw [cV c];exact e⟩
  same:=λ a u e n=>by
   have c:a≠p:=by rintro rfl;rw [h] at n;cases n
   rw [cV c];exact e
  new:=λ a u e n=>by
   have c:a≠p:=by rintro rfl;rw [h] at n;cases n
   rw [c7 c];exact n
  b3:=λ a u e=>by
   by_cases c:a=p
   ·subst c;rw [bF] at e;cases e;exact ⟨gs,fi,r.1,r.2.mono (Bq az)⟩
   ·rw [c7 c] at e
    exact (v a u e).mono (Bq az) (cV c) }
def q7:D->Option Key
 | .int i=>some (.inl i)
 | .str x=>some (.inr x)
 | _=>none
theorem Br{d:D}{k:Key}(h:q7 d=some k):d=IF k:=by cases d<;>simp [q7] at h<;>subst h<;>rfl
end
section
variable{X:bb}{o i e value:bg}{pos pos' Ga:Pos}{e5 eQ ho:cj}
abbrev UC(e5 eQ:cj):cj:=λ ρ G Q=>e5 ρ G λ x aA=>eQ ρ aA λ y bc=>match x with
 | .ref a=>pD bc a λ kvs=>∃ k d,q7 y=some k/\f5 kvs k=some d/\Q d bc
 | _=>False
theorem UD(a0:X.A.units+200 < eK)(a4:bZ X o e5)(ar:bZ X i eQ)(ax:zR i):bZ X (.Subscript o i pos) (UC e5 eQ):=by
 obtain ⟨co,hq,gN⟩:=a4.run;obtain ⟨ci,i4,gO⟩:=ar.run;refine ⟨_,⟨OQ (by omega) hq.run i4.run ax⟩,λ ρ G au σ H Q B q F=>gN ρ G _ σ H _ B q λ x aA v H1 g1 a_ aH=>gO ρ aA _ σ H1 _ (B.go g1) aH λ y bc u aS g2 bq bI=>?_⟩
 cases x with
 | ref a=>
  cases a_;obtain ⟨kvs,gs,⟨k,d,q8,UE,eh⟩,aP,aL,r⟩:=IJ g2.b3 bI;obtain ⟨w,hw,n8⟩:=(r.val (k:=k)).1 d UE;rw [Br q8] at bq;have:=Bn bq;subst this;exact ⟨a,w,rfl,by rw [<- hw];exact rZ.k aL,F d bc w aS (g1.trans g2) n8 eh⟩
 | _=>exact (show False from bI).elim
abbrev UF(e5 eQ ho:cj):gA:=λ dR ρ G=>ho ρ G λ v aA=>e5 ρ aA λ x bc=>eQ ρ bc λ y cQ=>match x with
 | .ref a=>pD cQ a λ kvs=>∃ k,q7 y=some k/\kvs.length < sizeLine/\dR.nx ρ (up cQ a (.c4 (kn kvs k v)))
 | _=>False
theorem UG(a0:X.A.units+200 < eK)(a4:bZ X o e5)(ar:bZ X i eQ)(bC:bZ X value ho)(ax:je value (some (.Subscript o i pos')) pos.line X.env=pure false:=by rfl):i1 X (.Assign [.Subscript o i pos'] value pos) (UF e5 eQ ho):=by
 obtain ⟨co,hq,gN⟩:=a4.run;obtain ⟨ci,i4,gO⟩:=ar.run;obtain ⟨UH,um,be⟩:=bC.run;refine ⟨_,⟨OR (by omega) hq.run i4.run um.run ax⟩,λ dR eT ρ G σ H B q F=>be ρ G _ σ H _ B q λ ade aA v0 H1 g1 qK aH=>gN ρ aA _ σ H1 _ (B.go g1) aH λ x bc v aS g2 a_ bI=>gO ρ bc _ σ aS _ ((B.go g1).go g2) bI λ y cQ u dX g3 bq eh=>?_⟩
 cases x with
 | ref a=>
  cases a_;obtain ⟨kvs,gs,⟨k,q8,aQ,kL⟩,aP,aL,r⟩:=IJ g3.b3 eh;rw [Br q8] at bq;have:=Bn bq;subst this
  have len:gs.length=kvs.length:=by have:=congrArg rz r.1;simpa using this.symm
  have iv:=Go.IK g3.b3 aP (r.kn (k:=k) ((qK.mono g2.tup).mono g3.tup));exact ⟨a,_,rfl,ug.k aL (by omega),F.nx _ _ _ _ (((g1.trans g2).trans g3).trans iv) ((((B.go g1).go g2).go g3).go iv) kL⟩
 | _=>exact (show False from eh).elim
abbrev UI(tk ho:cj):cj:=λ ρ G Q=>∀ p,G p=none->tk ρ (up G p (.c4 [])) λ x aA=>ho ρ aA λ y bc=>bc p=some (.c4 [])/\∃ k,q7 x=some k/\Q (.ref p) (up bc p (.c4 [(k,y)]))
theorem UJ{tk:cj}(aO:bZ X i tk)(bC:bZ X e ho):bZ X (.Dict [some i] [e] pos) (UI tk ho):=by
 obtain ⟨adf,UK,zU⟩:=aO.run;obtain ⟨UH,um,be⟩:=bC.run;refine ⟨_,⟨OW (OU UK.run um.run OT) rfl rfl (by simp) (by simp)⟩,λ ρ G au σ H Q B q F p az=>?_⟩;have Bs:=Go.newD (kvs:=[]) (gs:=[]) B.b3 az ⟨rfl,rfl⟩;refine zU ρ _ _ σ _ _ (B.go Bs) (q p (B.b3.none az)) λ x aA v H1 g1 a_ aH=>be ρ aA _ σ H1 _ ((B.go Bs).go g1) aH λ y bc u aS g2 bq bI=>?_;obtain ⟨cf,k,q8,eh⟩:=bI;obtain ⟨gs,z,r⟩:=g2.b3 p _ cf;rw [r.nil_inv] at z;rw [Br q8] at a_;have:=Bn a_;subst this;have g3:=Go.IK (kvs:=[(k,y)]) (gs:=[(k,u)]) g2.b3 cf (ec.vq bq ⟨rfl,rfl⟩);exact ⟨z,[(k,u)],rfl,by simp,F (.ref p) _ _ _ (((Bs.trans g1).trans g2).trans g3) rfl eh⟩
end
end L3
namespace gU
open PySem PyProof.Rows
section
variable{prog:ck}{w:bW}{A:c1}{E:Value->aC->Prop}{s:aC}{a:Addr}{ah:Array (Int × Value)}{a5:Nat}{t:eB}
structure m6(w:bW)(h:bL)(a:Addr)(ah:Array (Int × Value))(a5:Nat)(t:eB):Prop extends SW w h a ah a5 t where
 all:hs ah.toList
theorem en.q9{h:bL}(X:en w h a ah a5 t):m6 w h a ah a5 t:=⟨X.sw,X.all⟩
theorem en.mono{h h':bL}(X:en w h a ah a5 t)(e:h'.get? a=some (setAt ah a5 t)):en w h' a ah a5 t:=⟨e,X.all,X.aY,X.fits,X.e6,X.cl⟩
theorem IL{k:Int}{u:Tok}{Q:Option Nat->aC->Prop}(X:m6 w s.heap a ah a5 t)(h:Q (ah.toList.findIdx? λ e=>(hy prog w).is k e.2) s):aG (aI prog w) A (setFind a (.int k u) (hS k)) Q E s:=by
 have vj:=X.all.elems (prog:=prog) (w:=w)
 have fk:ah.size < wy:=by have:=X.e6;unfold wy;omega
 unfold setFind setFindIn;refine ao (hR X.at_ rfl X.fits ?_)
 dsimp only
 rw [byScan_of (knd:=hy prog w) (x:=.int k u) rfl fk vj,if_pos rfl];refine ao (hx (ao (wpAny_setScan_of (knd:=hy prog w) (k:=k) (pV _ _ _ _) X.at_ rfl X.fits vj ?_)))
 cases ar:List.findIdx? (λ e=>(hy prog w).is k e.2) ah.toList with
 | some j=>rw [ar] at h;dsimp only;rw [tx];exact a3 h
 | none=>rw [ar] at h;exact a3 h
theorem UL(fZ:hs ah.toList)(k:Int):(ah.toList.findIdx? λ e=>(hy prog w).is k e.2).isSome=decide (k∈keys ah):=by
 rw [tB,decide_eq_true_eq]
 have z:(ah.toList.findIdx? λ e=>(hy prog w).is k e.2).isSome=true ↔ ∃ e∈ah.toList,(hy prog w).is k e.2=true:=by
  rw [List.findIdx?_isSome,List.any_eq_true]
 rw [z,fZ.met]
theorem IM{Q:Array (Int × Value)->aC->Prop}(X:SW w s.heap a ah a5 t)(h:∀(xs:Array (Int × Value))(d:Drawn),xs.toList.Perm ah.toList->Q xs { s with drawn:=d }):aG (aI prog w) A (setWalk a) Q E s:=by
 unfold setWalk;refine ao (hR X.at_ rfl X.fits (ao (mT _ ?_)))
 cases ag:f3 w with
 | true=>rw [if_pos rfl];exact ao (wf (a3 (h _ s.drawn (It _ ah))))
 | false=>
  rw [if_neg (by simp)];refine (show aG (aI prog w) A (if (!t.plain&&decide (ah.size > 1))=true then _ else _) _ _ s from ?_);split
  ·exact ao (draw _ _ _ _ (by simp) λ ys d az=>a3 (h ys.toArray d (by simpa using az)))
  ·refine (show aG (aI prog w) A ((if (!t.led&&decide (ah.size > 1))=true then wq "set:maker-not-led" else pure ()) >>= λ _=>_) _ _ s from ?_);rw [X.led ag,if_neg (by simp)];exact ao (a3 (a3 (h ah s.drawn (.refl _))))
theorem UM:∀(as:List Addr)(s:aC)(Q:Bool->aC->Prop),(∀ b∈as,∃ ah a5 t,m6 w s.heap b ah a5 t)->Q true s->aG (aI prog w) A (setsQuiet as) Q E s:=by
 intro as s Q ax q;unfold setsQuiet;refine ao (wpAny_forIn_list _ (λ rest r s'=>r=(none,PUnit.unit)/\s'=s/\∀ b∈rest,∃ ah a5 t,m6 w s.heap b ah a5 t) _ ?_ ?_ _ _ ⟨rfl,rfl,ax⟩)
 ·rintro b rest r s' ⟨rfl,rfl,am⟩;obtain ⟨ah,a5,t,X⟩:=am b (fh ..);refine ao (pP X.at_ rfl X.fits ?_);refine ao (eg (MeetsSeq2.wpAny_forIn_array _ (λ rs r s2=>r=(none,PUnit.unit)/\s2=s'/\∀ e∈rs,∃ u,e.2=.int (fD e.2) u) (λ r s2=>r=(none,PUnit.unit)/\s2=s') ?vr (λ r s2 h=>⟨h.1,h.2.1⟩) ah _ ⟨rfl,rfl,λ e he=>(X.all e he).1⟩) ?UN λ _ _ h=>h)
  case vr=>
   rintro e rs r s2 ⟨rfl,rfl,aq⟩;obtain ⟨aP,aL⟩:=e;obtain ⟨u,a0⟩:=aq (aP,aL) (fh ..)
   dsimp only at a0 ⊢
   rw [a0];exact a3 ⟨rfl,rfl,λ e he=>aq e (ig _ he)⟩
  case UN=>
   rintro r s2 ⟨rfl,rfl⟩;exact a3 ⟨rfl,rfl,λ b ag=>am b (ig _ ag)⟩
 ·rintro r s' ⟨rfl,rfl,_⟩;exact a3 q
theorem UO{f:Addr}{os:List Addr}{IN:Array (Int × Value)}{vs:Nat}{pj:eB}{Q:Array (Int × Value)->aC->Prop}(X:m6 w s.heap a ah a5 t)(nL:∀ b∈os,∃ ah a5 t,m6 w s.heap b ah a5 t)(Y:en w s.heap f IN vs pj)
 (h:∀(xs:Array (Int × Value))(h':bL)(d:Drawn)(UP:Nat)(UQ:eB),xs.toList.Perm ah.toList->Heap.SameBut f s.heap h'->en w h' f IN UP UQ->Q xs { s with heap:=h',drawn:=d }):aG (aI prog w) A (wl a os (some f)) Q E s:=by
 unfold wl;refine ao (hR X.at_ rfl X.fits (ao (mT _ ?_)));have UR:aG (aI prog w) A (setWalk a) Q E s:=IM X.toSW λ xs d az=>h xs s.heap d vs pj az (Heap.SameBut.refl f _) Y;split
 ·exact UR
 ·next c=>
  have ag:f3 w=false:=by
   cases e:f3 w with
   | false=>rfl
   | true=>rw [e] at c;exact absurd rfl c
  refine ao (UM _ s _ (λ b ag=>?_) ?_)
  ·rcases dJ.mp ag with rfl | ag
   ·exact ⟨ah,a5,t,X⟩
   ·exact nL b ag
  rw [if_neg (by simp)];refine ao (hx ?_);refine ao (hR Y.at_ rfl Y.fits ?_)
  dsimp only
  split
  ·refine ao (rm Y.at_ rfl (a3 ?_) (yk Y.e6));refine h ah _ s.drawn (vs+1) _ (.refl _) (Heap.SameBut.update s.heap f _) ⟨sC Y.at_ _ _,Y.all,Y.aY,Y.fits,Y.e6,Y.cl.up,λ z=>?_,Y.cl.q3⟩;show (pj.led&&t.led)=true;rw [Y.cl.led z,X.led z];rfl
  ·exact a3 (h ah s.heap s.drawn vs pj (.refl _) (Heap.SameBut.refl f _) Y)
theorem IO(X:SW w s.heap a ah a5 t){Q:Value->aC->Prop}(h:Q (.type "set") s):aG (aI prog w) A (Builtin.Frozenset.baseOf a) Q E s:=by
 unfold Builtin.Frozenset.baseOf;refine ao (l9 (l1 X) za (a3 ?_));rw [if_pos rfl];exact h
theorem IP{Q:Value->aC->Prop}(h:Q (.ref s.heap.objs.size) { s with heap:=s.heap.push (g9 w) }):aG (aI prog w) A (newSet (.type "set")) Q E s:=by
 unfold newSet;refine ao (mT _ ?_);unfold newObj;exact ao (wpAny_alloc (a3 h))
theorem anyS(X:SW w s.heap a ah a5 t){Q:Bool->aC->Prop}(h:Q true s):aG (aI prog w) A (Builtin.Frozenset.isAnySet (.ref a)) Q E s:=by
 unfold Builtin.Frozenset.isAnySet;refine (show aG (aI prog w) A (isInstance (.ref a) (.type "set") >>= λ(b:Bool)=>_) _ _ s from ao (l9 (l1 X) za ?_));exact a3 h
theorem Bt{id:String}(X:SW w s.heap a ah a5 t){Q:Unit->aC->Prop}(h:Q () s):aG (aI prog w) A (Builtin.Frozenset.unchanged id a a5) Q E s:=by
 unfold Builtin.Frozenset.unchanged;refine ao (s_ X.at_ rfl X.fits ?_);rw [if_neg (by simp)];exact a3 h
theorem yo(X:SW w s.heap a ah a5 t){Q:Nat->aC->Prop}(h:Q ah.size s):aG (aI prog w) A (Builtin.Frozenset.sizeOf a) Q E s:=by
 unfold Builtin.Frozenset.sizeOf;exact ao (pP X.at_ rfl X.fits (a3 h))
end
def nx(S i:Nat):Nat:=(i * 5+1) % S
def q_(S:Nat):Nat->Nat->List Nat
 | 0,_=>[]
 | n+1,i=>i::q_ S n (nx S i)
def m7(S:Nat):Nat->Nat->Nat
 | 0,i=>i
 | n+1,i=>m7 S n (nx S i)
theorem IQ(S:Nat):∀(n i b:Nat),b < n->(q_ S n i)[b]?=some (m7 S b i)
 | 0,_,_,h=>by omega
 | n+1,i,0,_=>rfl
 | n+1,i,b+1,h=>by rw [q_,List.getElem?_cons_succ,IQ S n _ b (by omega)];rfl
theorem Bu(S:Nat):∀ n i,(q_ S n i).length=n
 | 0,_=>rfl
 | n+1,i=>by rw [q_,dH,Bu S n]
theorem yp(S:Nat):∀(a b i:Nat),m7 S (a+b) i=m7 S b (m7 S a i)
 | 0,b,i=>by rw [tx];rfl
 | a+1,b,i=>by rw [show a+1+b=(a+b)+1 by omega,m7,yp S a b];rfl
def ot(S:Nat):Bool:=((eL S).all λ f=>(q_ S S 0).contains f)&&m7 S S 0==0
theorem US{S:Nat}(h:ot S=true){i f:Nat}(ar:i < S)(hf:f < S):∃ m,m < S/\m7 S m i=f:=by
 unfold ot at h;rw [eU,rC,beq_iff_eq] at h
 have at_:∀ x,x < S->∃ b,b < S/\m7 S b 0=x:=λ x aF=>by
  have z:=h.1 x (nu.mpr aF)
  have b8:x∈q_ S S 0:=by simpa using z
  obtain ⟨b,ag,e⟩:=k7 b8;rw [Bu] at ag;refine ⟨b,ag,?_⟩;have aL:=IQ S S 0 b ag;rw [gb (by rw [Bu];exact ag),e] at aL;exact (e1.inj aL).symm
 obtain ⟨a,aD,rfl⟩:=at_ i ar;obtain ⟨b,ag,rfl⟩:=at_ f hf;rcases rH b a with c | c
 ·refine ⟨S - a+b,by omega,?_⟩;rw [<- yp,show a+(S - a+b)=S+b by omega,yp,h.2]
 ·exact ⟨b - a,by omega,by rw [<- yp,show a+(b - a)=b by omega]⟩
theorem UT:ot 32=true:=by decide +kernel
theorem UU:ot 64=true:=by decide +kernel
theorem UV:ot 128=true:=by decide +kernel
theorem UW{mask:Nat}{cO:Array (Option Nat)}{i p fuel:Nat}(h:cO.getD i (some 0)=none):∃ j,SetTable.layClean.free mask cO (fuel+1) i p=some j:=by
 unfold SetTable.layClean.free
 have z:((eL (SetTable.runEnd mask i+1 - i)).find? λ k=>(cO.getD (i+k) (some 0)).isNone).isSome=true:=by
  rw [List.find?_isSome];refine ⟨0,nu.mpr ?_,by rw [Nat.add_zero,h];rfl⟩;unfold SetTable.runEnd;split<;>omega
 cases e:(eL (SetTable.runEnd mask i+1 - i)).find? λ k=>(cO.getD (i+k) (some 0)).isNone with
 | none=>rw [e] at z;cases z
 | some k=>exact ⟨i+k,rfl⟩
theorem IR{mask:Nat}{cO:Array (Option Nat)}{i p fuel:Nat}(h:∃ j,SetTable.layClean.free mask cO fuel (SetTable.leap mask i p).1 (SetTable.leap mask i p).2=some j):∃ j,SetTable.layClean.free mask cO (fuel+1) i p=some j:=by
 rw [SetTable.layClean.free]
 cases e:(eL (SetTable.runEnd mask i+1 - i)).find? λ k=>(cO.getD (i+k) (some 0)).isNone with
 | none=>exact h
 | some k=>exact ⟨i+k,rfl⟩
theorem IS{mask:Nat}{cO:Array (Option Nat)}:∀(m i fuel:Nat),m < fuel->cO.getD (m7 (mask+1) m i) (some 0)=none->∃ j,SetTable.layClean.free mask cO fuel i 0=some j
 | 0,i,fuel+1,_,h=>UW h
 | m+1,i,fuel+1,hm,h=>by
  refine IR ?_
  have e:SetTable.leap mask i 0=(nx (mask+1) i,0):=by unfold SetTable.leap nx;simp
  rw [e];exact IS m _ fuel (by omega) h
theorem IT{mask:Nat}{cO:Array (Option Nat)}(cX:ot (mask+1)=true){f:Nat}(hf:f<=mask)(ph:cO.getD f (some 0)=none):∀(n i p fuel:Nat),p < 32 ^ n->i<=mask->n+mask+1<=fuel->∃ j,SetTable.layClean.free mask cO fuel i p=some j
 | 0,i,p,fuel,az,ar,UX=>by
  have:p=0:=by simp at az;exact az
  subst this;obtain ⟨m,hm,e⟩:=US cX (i:=i) (f:=f) (by omega) (by omega);exact IS m i fuel (by omega) (by rw [e];exact ph)
 | n+1,i,p,fuel,az,ar,UX=>by
  obtain ⟨k,rfl⟩:∃ k,fuel=k+1:=⟨fuel - 1,by omega⟩
  refine IR (IT cX hf ph n _ _ k ?_ ?_ (by omega))
  ·show p / 32 < 32 ^ n;rw [Nat.div_lt_iff_lt_mul (by decide)];rw [Nat.pow_succ] at az;exact az
  ·show (i * 5+1+p / 32) % (mask+1)<=mask;have:=ZB (i * 5+1+p / 32) (show 0 < mask+1 by omega);omega
theorem IU{mask:Nat}{cO:Array (Option Nat)}:∀(fuel i p j:Nat),SetTable.layClean.free mask cO fuel i p=some j->cO.getD j (some 0)=none
 | 0,_,_,_,h=>by cases h
 | fuel+1,i,p,j,h=>by
  rw [SetTable.layClean.free] at h
  cases e:(eL (SetTable.runEnd mask i+1 - i)).find? λ k=>(cO.getD (i+k) (some 0)).isNone with
  | none=>rw [e] at h;exact IU fuel _ _ j h
  | some k=>
   rw [e] at h;cases h;have z:=List.find?_some e
   cases q:cO.getD (i+k) (some 0) with
   | none=>rfl
   | some y=>rw [q] at z;cases z
def l2(cO:Array (Option Nat)):List Nat:=cO.toList.filterMap id
theorem UY{cO:Array (Option Nat)}{j k:Nat}(h:cO.getD j (some 0)=none):(l2 (cO.setIfInBounds j (some k))).Perm (k::l2 cO)/\j < cO.size:=by
 have lt:j < cO.size:=by
  rcases rH j cO.size with z | z
  ·exact z
  ·simp [k9,Nat.not_lt.mpr z] at h
 have cP:cO[j]=none:=by simpa [k9,lt] using h
 refine ⟨?_,lt⟩;unfold l2
 have cf:cO.toList=cO.toList.take j++cO.toList[j]'(by simpa using lt)::cO.toList.drop (j+1):=by
  rw [<- p3 (by simpa using lt),rE]
 have aP:(cO.setIfInBounds j (some k)).toList=cO.toList.take j++some k::cO.toList.drop (j+1):=by
  rw [Array.toList_setIfInBounds,List.set_eq_take_append_cons_drop,if_pos (by simpa using lt)]
 have vt:cO.toList[j]'(by simpa using lt)=none:=by simpa using cP
 rw [vt] at cf;rw [aP]
 conv=>rhs;rw [cf]
 simp only [List.filterMap_append,oK,id];exact wG
theorem UZ(cO:Array (Option Nat))(h:∀ f,f < cO.size->cO.getD f (some 0)≠none):(l2 cO).length=cO.size:=by
 unfold l2;rw [<- ft]
 have:∀ l:List (Option Nat),(∀ x∈l,x≠none)->(l.filterMap id).length=l.length:=λ l=>by
  induction l with
  | nil=>intro _;rfl
  | cons x l aN=>
   intro aF
   cases x with
   | none=>exact absurd rfl (aF none (fh ..))
   | some y=>simp only [oK,id,dH];rw [aN λ z hz=>aF z (ig _ hz)]
 refine this _ λ x aF=>?_;obtain ⟨i,ar,e⟩:=k7 aF
 have Ab:i < cO.size:=by simpa using ar
 have z:=h i Ab;rw [<- e];simpa [k9,Ab] using z
theorem IV{mask:Nat}(cX:ot (mask+1)=true):∀(ax:List Int)(cO:Array (Option Nat))(k:Nat),cO.size=mask+1->(l2 cO).Perm (eL k)->k+ax.length<=mask →
 ∃ vu,(ax.foldl (λ acc h=>do let (owner,k) ← acc;let j ← SetTable.layClean.free mask owner (SetTable.turns mask) (SetTable.bits h % (mask+1)) (SetTable.bits h);pure (owner.setIfInBounds j (some k),k+1)) (some (cO,k)))=some (vu,k+ax.length)/\vu.size=mask+1/\(l2 vu).Perm (eL (k+ax.length))
 | [],cO,k,ak,aq,_=>⟨cO,rfl,ak,aq⟩
 | h::ax,cO,k,ak,aq,aT=>by
  have ex:∃ f,f<=mask/\cO.getD f (some 0)=none:=by
   apply Classical.byContradiction;intro c;have z:=UZ cO λ f hf q=>c ⟨f,by omega,q⟩;rw [aq.length_eq,oP] at z;simp only [dH] at aT;omega
  obtain ⟨f,hf,ph⟩:=ex
  have ag:SetTable.bits h < 32 ^ 13:=by
   unfold SetTable.bits
   have z:(h % (2 ^ 64:Int)).toNat < 2 ^ 64:=by
    have:=wM h (show (0:Int) < 2 ^ 64 by decide);have:=wN h (show (2 ^ 64:Int)≠0 by decide);omega
   exact hA z (by decide)
  obtain ⟨j,cP⟩:=IT cX hf ph 13 (SetTable.bits h % (mask+1)) (SetTable.bits h) (SetTable.turns mask) ag (by have:=ZB (SetTable.bits h) (show 0 < mask+1 by omega);omega) (by unfold SetTable.turns;omega);obtain ⟨AX,_⟩:=UY (k:=k) (IU _ _ _ _ cP)
  have step:((do let (owner,k) ← some (cO,k);let j ← SetTable.layClean.free mask owner (SetTable.turns mask) (SetTable.bits h % (mask+1)) (SetTable.bits h);pure (owner.setIfInBounds j (some k),k+1)):Option (Array (Option Nat) × Nat))=some (cO.setIfInBounds j (some k),k+1):=by
   show (SetTable.layClean.free mask cO (SetTable.turns mask) (SetTable.bits h % (mask+1)) (SetTable.bits h) >>= λ j=>pure (cO.setIfInBounds j (some k),k+1))=_;rw [cP];rfl
  rw [List.foldl_cons,step];obtain ⟨vu,aP,aL,d_⟩:=IV cX ax (cO.setIfInBounds j (some k)) (k+1) (by rw [Array.size_setIfInBounds];exact ak) (by rw [List.range_succ];exact AX.trans ((aq.cons k).trans (List.perm_append_singleton k (eL k)).symm)) (by simp only [dH] at aT;omega);exact ⟨vu,by rw [aP,dH];congr 2;omega,aL,by rw [dH,show k+(ax.length+1)=k+1+ax.length by omega];exact d_⟩
theorem IW{mask:Nat}{cO:Array (Option Nat)}(h:cO.size=mask+1):(((eL (mask+1)).filterMap λ j=>(cO.getD j none).map (j,·)).map (·.2))=l2 cO:=by
 rw [List.map_filterMap]
 have e:(λ j=>Option.map (λ(x:Nat × Nat)=>x.2) ((cO.getD j none).map (j,·)))=λ j=>cO.getD j none:=by
  funext j;cases cO.getD j none<;>rfl
 rw [e];unfold l2;rw [<- h]
 have aL:cO.toList=(eL cO.size).map λ j=>cO.getD j none:=by
  apply List.ext_getElem?;intro i;rw [eu];by_cases c:i < cO.size
  ·rw [tr c,tz,k8 c];simp [k9,c]
  ·rw [k6 (by simpa using c),k6 (by simpa using c)];rfl
 rw [aL,List.filterMap_map];rfl
theorem IX{mask finger moves:Nat}{led plain:Bool}(cX:ot (mask+1)=true)(ax:Array Int)(bt:ax.size<=mask):∃ t' order,SetTable.laid mask finger moves led plain ax=some (t',order)/\order.toList.Perm (eL ax.size)/\t'.place.size=ax.size/\t'.mask=mask/\t'.dummies=#[]/\t'.led=led/\iL t'.place:=by
 have IY:(l2 (Array.replicate (mask+1) none)).Perm (eL 0):=by simp [l2]
 obtain ⟨cO,aP,aL,d_⟩:=IV cX ax.toList (Array.replicate (mask+1) none) 0 (by simp) IY (by simpa using bt)
 have xi:SetTable.layClean mask ax=some cO:=by
  unfold SetTable.layClean;rw [<- Array.foldl_toList,aP];rfl
 unfold SetTable.laid;rw [xi];simp only [Option.pure_def,Option.bind_eq_bind,Option.bind_some];rw [tx,ft] at d_;refine ⟨_,_,rfl,?_,?_,rfl,rfl,rfl,?_⟩
 ·rw [wF,IW aL];exact d_
 ·show (List.toArray _).size=_;have z:=congrArg rz (IW aL);rw [bS] at z;rw [c_,bS,z,d_.length_eq,oP]
 ·show ((tq _ _).toArray.toList).Pairwise _;rw [wF];exact (List.pairwise_lt_range (n:=mask+1)).sublist (yj (λ j=>cO.getD j none) _)
theorem U0:∀ n,n < 64->8<=n->(SetTable.sizeAbove (n * 2)=32\/SetTable.sizeAbove (n * 2)=64\/SetTable.sizeAbove (n * 2)=128)/\n < SetTable.sizeAbove (n * 2):=by decide +kernel
theorem U1{n:Nat}(ak:n < 64)(aq:8<=n):ot (SetTable.sizeAbove (n * 2) - 1+1)=true/\31<=SetTable.sizeAbove (n * 2) - 1/\n<=SetTable.sizeAbove (n * 2) - 1/\SetTable.sizeAbove (n * 2)<=128:=by
 obtain ⟨h | h | h,z⟩:=U0 n ak aq<;>rw [h] at z ⊢
 ·exact ⟨UT,by omega,by omega,by omega⟩
 ·exact ⟨UU,by omega,by omega,by omega⟩
 ·exact ⟨UV,by omega,by omega,by omega⟩
theorem U2{ah:Array (Int × Value)}{order:Array Nat}(h:order.toList.Perm (eL ah.size)):(order.filterMap (ah[·]?)).toList.Perm ah.toList:=by
 rw [Array.toList_filterMap];refine (h.filterMap _).trans ?_;rw [filterMap_getElem?_range]
section
variable{prog:ck}{w:bW}{A:c1}{E:Value->aC->Prop}{s:aC}{a:Addr}{ah:Array (Int × Value)}{a5:Nat}{t:eB}
theorem U3{Q:Value->aC->Prop}(X:en w s.heap a ah a5 t)(Bv:8<=ah.size)(pC:ah.size < 64)
 (h:∀ h' dW pr eE,en w h' s.heap.objs.size dW pr eE->dW.toList.Perm ah.toList->4<=eE.mask->(∀ b o,s.heap.get? b=some o->h'.get? b=some o)->Q (.ref s.heap.objs.size) { s with heap:=h' }):aG (aI prog w) A (Builtin.Frozenset.copyOf a) Q E s:=by
 have aQ:=jd;obtain ⟨f1,f2,c6,f4⟩:=U1 pC Bv;have alt:=cJ X.at_;unfold Builtin.Frozenset.copyOf;refine ao (IO X.sw (ao (IP ?_)));have sE:(s.heap.push (g9 w)).get? s.heap.objs.size=some (g9 w):=d2 _ rfl;have uf:(s.heap.push (g9 w)).get? a=some (setAt ah a5 t):=cm _ X.at_;refine (show aG (aI prog w) A (setMerge s.heap.objs.size a >>= _) _ _ _ from ao ?_);unfold setMerge;rw [if_neg (by simpa using ij alt)];refine ao (hR uf rfl X.fits ?_)
 have dQ:ah.isEmpty=false:=by rw [Array.isEmpty_eq_false_iff];intro z;rw [z] at Bv;simp at Bv
 dsimp only
 rw [dQ,if_neg (by simp)];refine ao ?_;unfold setRoomFor;refine ao (hR sE rfl rfl ?_)
 have dW:(SetTable.fresh 0 0 (!f3 w)).roomFor ah.size=some (ah.size * 2):=by
  unfold SetTable.roomFor SetTable.fill SetTable.fresh;rw [if_pos (by simp;omega)];simp
 rw [dW]
 dsimp only
 unfold setRelay;refine ao (hR sE rfl rfl ?_)
 dsimp only
 rw [if_neg (by omega)];obtain ⟨t0,o0,cu,bV,jG,lV,IZ,U4,adg⟩:=IX (finger:=0) (moves:=SetTable.movedTo (.fresh 0 0 (!f3 w)) (SetTable.sizeAbove (ah.size * 2) - 1)) (led:=!f3 w) (plain:=true) f1 #[] (e0 _)
 have U5:o0=#[]:=by
  have:o0.toList=[]:=by simpa using bV
  exact Array.toList_eq_nil_iff.mp this
 have dZ:SetTable.relaid (.fresh 0 0 (!f3 w)) ((#[]:Array (Int × Value)).map (·.1)) (ah.size * 2)=some (t0,#[]):=by
  rw [<- U5,show ((#[]:Array (Int × Value)).map (·.1))=#[] by simp];exact cu
 rw [dZ];refine (show aG (aI prog w) A (pure ((#[]:Array (Int × Value)),t0) >>= λ x=>storeSet s.heap.objs.size x.1 x.2) _ _ _ from ao (a3 (rm sE rfl ?_ (by simp))));have aP:=sC sE #[] t0
 have U6:t0.fits 0=true:=by unfold SetTable.fits SetTable.fill;rw [jG,IZ,lV];simp
 have d4:∀ b o,s.heap.get? b=some o->((s.heap.push (g9 w)).update s.heap.objs.size (Obj.putSet #[] t0)).get? b=some o:=λ b o e=>(jY _ _ (ij (cJ e))).trans (cm _ e);refine ao (hR aP rfl U6 ?_)
 dsimp only
 have U7:t0.fill=0:=by unfold SetTable.fill;rw [jG,IZ];simp
 have fin:∀ dW eE,hs dW.toList->dW.toList.Perm ah.toList->eE.fits dW.size=true->Cl (f3 w) eE->4<=eE.mask->aG (aI prog w) A (storeSet s.heap.objs.size dW eE) (λ _ s'=>aG (aI prog w) A (pure (Value.ref s.heap.objs.size)) Q E s') E { s with heap:=(s.heap.push (g9 w)).update s.heap.objs.size (Obj.putSet #[] t0) }:=λ dW eE ak aq aT cb dM=>by
  have aB:dW.size=ah.size:=by rw [<- ft,aq.length_eq,ft]
  refine rm aP rfl (a3 (h _ dW _ eE ⟨sC aP dW eE,ak,(aq.map λ e=>fD e.2).nodup_iff.mpr X.aY,aT,by omega,cb⟩ aq dM λ b o e=>(jY _ _ (ij (cJ e))).trans (d4 b o e))) (by omega)
 have I0:f3 w=false->(t0.led&&t.led)=true:=λ z=>by rw [U4,X.cl.led z,z];rfl
 unfold SetTable.road;rw [U7,if_neg (by simp)];by_cases c:(t0.mask==t.mask&&t.dummies.isEmpty)=true
 ·rw [if_pos c];rw [eU,beq_iff_eq] at c;exact fin ah _ X.all (.refl _) X.fits ⟨X.cl.up,I0,X.cl.q3⟩ (by show 4<=t.mask;rw [<- c.1,lV];omega)
 ·rw [if_neg c]
  dsimp only
  rw [lV];obtain ⟨t1,m8,mw,mx,lL,r3,I1,U8,U9⟩:=IX (finger:=t0.finger) (moves:=t0.moves) (led:=t0.led&&t.led) (plain:=t0.plain&&t.plain) f1 (ah.map (·.1)) (by rw [wJ];exact c6);rw [wJ] at mx lL;have pm:=U2 mx
  have aB:(m8.filterMap (ah[·]?)).size=ah.size:=by rw [<- ft,pm.length_eq,ft]
  rw [mw];refine ao (show aG (aI prog w) A (if ((m8.filterMap (ah[·]?)).size !=ah.size)=true then _ else pure (m8.filterMap (ah[·]?),t1)) _ _ _ from ?_);rw [if_neg (by simp [aB])];refine a3 (fin _ t1 (X.all.perm pm) pm ?_ ⟨U9,λ z=>by rw [U8];exact I0 z,I1⟩ (by rw [r3];omega));unfold SetTable.fits SetTable.fill;rw [lL,I1,r3,aB];simp;omega
end
theorem vv{α:Type}(xs:Array α)(i:Nat):(SetTable.eraseAt xs i).toList=xs.toList.take i++xs.toList.drop (i+1):=by
 unfold SetTable.eraseAt;rw [Array.toList_append,Array.toList_extract,Array.toList_extract];simp [List.extract_eq_take_drop];exact wD (by simp)
theorem U_{xs:Array Nat}(h:iL xs)(i:Nat):iL (SetTable.eraseAt xs i):=by
 unfold iL;rw [vv]
 have z:(xs.toList.take i++xs.toList.drop (i+1)).Sublist xs.toList:=by
  conv=>rhs;rw [<- rE i xs.toList]
  refine List.Sublist.append (.refl _) ?_;rw [show i+1=i+1 from rfl,<- List.drop_drop];exact wE _ _
 exact h.sublist z
theorem I2{α:Type}{xs:Array α}{i:Nat}(h:i < xs.size):(SetTable.eraseAt xs i).size+1=xs.size:=by
 rw [<- ft,vv,fs,nv,ny,ft];omega
section
variable{prog:ck}{w:bW}{A:c1}{E:Value->aC->Prop}{s:aC}{a o:Addr}{ah jb:Array (Int × Value)}{a5 po:Nat}{t to:eB}
theorem Va{i:Nat}{z:Int}(fZ:hs ah.toList)(oo:(keys ah).Nodup)(ar:ah.toList.findIdx? (λ e=>(hy prog w).is z e.2)=some i):i < ah.size/\∀ j,j∈keys (SetTable.eraseAt ah i) ↔ j∈keys ah/\j≠z:=by
 obtain ⟨lt,q,_⟩:=List.findIdx?_eq_some_iff_getElem.mp ar
 have ym:i < ah.size:=by simpa using lt
 have hz:fD (ah.toList[i]).2=z:=by
  obtain ⟨⟨u,e⟩,_⟩:=fZ _ (rD lt);rw [e] at q;exact (hy prog w).inj _ _ _ (pV prog w _ u) q
 refine ⟨ym,λ j=>?_⟩
 have cf:ah.toList=ah.toList.take i++ah.toList[i]::ah.toList.drop (i+1):=by rw [<- p3 lt,rE]
 have f6:keys ah=(ah.toList.take i).map (λ e=>fD e.2)++z::(ah.toList.drop (i+1)).map λ e=>fD e.2:=by
  conv=>lhs;unfold keys;rw [cf,iQ,ew,hz]
 have d4:keys (SetTable.eraseAt ah i)=(ah.toList.take i).map (λ e=>fD e.2)++(ah.toList.drop (i+1)).map λ e=>fD e.2:=by unfold keys;rw [vv,iQ]
 rw [f6] at oo;rw [f6,d4];have aY:=wG.nodup_iff.mp oo;rw [oM] at aY;simp only [jS,dJ] at aY ⊢;constructor
 ·intro h;exact ⟨h.elim .inl λ z=>.inr (.inr z),by rintro rfl;exact aY.1 h⟩
 ·rintro ⟨h | h | h,n⟩
  ·exact .inl h
  ·exact absurd h n
  ·exact .inr h
theorem Vb{z:Int}{u:Tok}{Q:Bool->aC->Prop}(X:en w s.heap a ah a5 t)
 (h:∀ b h' dW pr eE,Heap.SameBut a s.heap h'->m6 w h' a dW pr eE->(keys dW).Nodup->dW.size<=ah.size->(∀ j,j∈keys dW ↔ j∈keys ah/\j≠z)->eE.mask=t.mask->eE.dummies.size<=1->Q b { s with heap:=h' }):aG (aI prog w) A (setDiscardHashed a (.int z u) (hS z)) Q E s:=by
 unfold setDiscardHashed;refine ao (IL X.q9 ?_)
 cases ar:List.findIdx? (λ e=>(hy prog w).is z e.2) ah.toList with
 | none=>
  refine a3 (h false s.heap ah a5 t (Heap.SameBut.refl a _) X.q9 X.aY (b7 _) (λ j=>⟨λ cP=>⟨cP,?_⟩,λ cP=>cP.1⟩) rfl (by rw [X.cl.q3];simp));rintro rfl;obtain ⟨e,he,q⟩:=(X.all.met (prog:=prog) (w:=w)).mpr cP;have:=List.findIdx?_eq_none_iff.mp ar e he;rw [q] at this;cases this
 | some i=>
  obtain ⟨lt,aO⟩:=Va X.all X.aY ar
  dsimp only
  refine ao (hR X.at_ rfl X.fits ?_)
  dsimp only
  have sr:=I2 lt;have e6:=X.e6;refine ao (rm X.at_ rfl (ao (wpAny_point (a3 ?_))) (yk (by omega)));have adh:=Iu X.sw
  have I3:i < t.place.size:=by omega
  have hf:=X.fits;unfold SetTable.fits SetTable.fill at hf;rw [eU,beq_iff_eq,decide_eq_true_eq,X.cl.q3] at hf
  have sub:(ah.toList.take i++ah.toList.drop (i+1)).Sublist ah.toList:=by
   conv=>rhs;rw [<- rE i ah.toList]
   refine List.Sublist.append (.refl _) ?_;rw [<- List.drop_drop];exact wE _ _
  have vw:t.drop i={ t with place:=SetTable.eraseAt t.place i,dummies:=SetTable.insertAt t.dummies (SetTable.below t.dummies t.place[i]) t.place[i] }:=by
   unfold SetTable.drop;rw [k8 I3]
  have adi:=I2 I3
  have ds:(SetTable.insertAt t.dummies (SetTable.below t.dummies t.place[i]) t.place[i]).size=1:=by rw [X.cl.q3];simp [SetTable.insertAt]
  refine h true _ (SetTable.eraseAt ah i) (a5+1) (t.drop i) (Heap.SameBut.update s.heap a _) ⟨⟨sC X.at_ _ _,?_,by omega,λ z=>?_,?_⟩,λ e he=>X.all e ?_⟩ ?_ (by omega) aO (by rw [vw]) (by rw [vw];show Array.size _<=1;rw [ds];exact b7 _)
  ·rw [vw];unfold SetTable.fits SetTable.fill;show (_==_&&decide (_+_<=t.mask))=true;rw [eU,beq_iff_eq,decide_eq_true_eq]
   dsimp only
   rw [ds];simp at hf;omega
  ·rw [vw];exact X.cl.led z
  ·rw [vw];exact U_ X.cl.up i
  ·rw [vv] at he;exact sub.subset he
  ·unfold keys;rw [vv];exact X.aY.sublist (sub.map _)
theorem Vc{id:String}{z:Int}{u:Tok}{Q:Value->aC->Prop}(dQ:o≠a)(X:en w s.heap a ah a5 t)(Y:en w s.heap o jb po to)(lZ:jb.toList=[(hS z,.int z u)])(pC:ah.size < 64)
 (h:∀ r h' d dW pr eE,m6 w h' r dW pr eE->(keys dW).Nodup->dW.size<=ah.size->(∀ j,j∈keys dW ↔ j∈keys ah/\j≠z)->(∀ b o,s.heap.get? b=some o->h'.get? b=some o)->Q (.ref r) { s with heap:=h',drawn:=d }) :
 aG (aI prog w) A (Builtin.Frozenset.difference id a (.ref o)) Q E s:=by
 have I4:jb.size=1:=by rw [<- ft,lZ];rfl
 have one:∀{xs:Array (Int × Value)},xs.toList.Perm jb.toList->xs.toList=[(hS z,.int z u)]:=λ az=>by rw [lZ] at az;exact List.perm_singleton.mp az
 have Vd:keys jb=[z]:=by unfold keys;rw [lZ];rfl
 unfold Builtin.Frozenset.difference;refine ao (anyS Y.sw ?_)
 dsimp only
 rw [if_neg (by simp)];refine (show aG (aI prog w) A (pure o >>= _) _ _ s from ao (a3 ?_));rw [if_neg (by simp),if_pos rfl];refine ao (yo Y.sw (ao (yo X.sw ?_)));rw [I4];by_cases c:ah.size / 4 > 1
 ·rw [if_pos c];refine ao (hx ?_);refine ao (U3 X (by omega) pC λ ak dW pr eE kZ az hm d4=>?_);have jL:=Y.mono (d4 o _ Y.at_);have Bw:s.heap.objs.size≠o:=ij (cJ Y.at_)
  have adj:dW.size=ah.size:=by rw [<- ft,az.length_eq,ft]
  have vx:∀ j,j∈keys dW ↔ j∈keys ah:=λ j=>(az.map λ e=>fD e.2).mem_iff;refine (show aG (aI prog w) A (jf [.ref s.heap.objs.size] (Builtin.Frozenset.differenceUpdate id s.heap.objs.size (.ref o)) >>= _) _ _ _ from ao (g_ ?_));unfold Builtin.Frozenset.differenceUpdate;rw [if_neg (by simpa using Ne.symm Bw)];refine ao (anyS (s:={ s with heap:=ak }) jL.sw ?_);rw [if_pos rfl];refine (show aG (aI prog w) A (pure o >>= _) _ _ _ from ao (a3 ?_));refine ao (yo (s:={ s with heap:=ak }) jL.sw (ao (yo (s:={ s with heap:=ak }) kZ.sw ?_)));rw [if_neg (by omega)];refine ao (s_ jL.at_ rfl jL.fits ?_);refine ao (g_ ?_);refine ao (show aG (aI prog w) A (wl o [s.heap.objs.size] none) _ _ _ from ?_);unfold wl;refine ao (hR jL.at_ rfl jL.fits (ao (mT _ ?_)));rw [if_pos (by rw [I4];simp)];refine IM (s:={ s with heap:=ak }) jL.sw λ xs d aF=>?_;have Ve:=one aF;refine ao (MeetsSeq2.wpAny_forIn_array _ (λ rest _ s'=>(rest=[(hS z,.int z u)]/\s'={ s with heap:=ak,drawn:=d })\/(rest=[]/\∃ aq pE vy pF,s'={ s with heap:=aq,drawn:=d }/\Heap.SameBut s.heap.objs.size ak aq/\m6 w aq s.heap.objs.size pE vy pF/\(keys pE).Nodup/\pE.size<=dW.size/\(∀ j,j∈keys pE ↔ j∈keys dW/\j≠z)/\pF.mask=eE.mask/\pF.dummies.size<=1)) _ ?_ ?_ xs _ (.inl ⟨Ve,rfl⟩))
  ·rintro e rest b s' (⟨he,rfl⟩ | ⟨he,_⟩)
   ·cases he;refine ao (g_ (Vb (s:={ s with heap:=ak,drawn:=d }) kZ λ b aq pE vy pF fk ei Bx jJ By Bz I5=>?_))
    have Vf:SW w aq o jb po to:=⟨by rw [fk.2 o (Ne.symm Bw)];exact jL.at_,jL.fits,jL.e6,jL.cl.led,jL.cl.up⟩
    refine ao (Bt (s:={ s with heap:=aq,drawn:=d }) Vf (a3 (.inr ⟨rfl,aq,pE,vy,pF,rfl,fk,ei,Bx,jJ,By,Bz,I5⟩)))
   ·cases he
  ·rintro b s' (⟨he,_⟩ | ⟨_,aq,pE,vy,pF,rfl,fk,ei,Bx,jJ,By,Bz,I5⟩)
   ·cases he
   ·refine a3 ?_;unfold setTidy;refine ao (hR ei.at_ rfl ei.fits ?_)
    dsimp only
    have nt:pF.tooManyDummies=false:=by unfold SetTable.tooManyDummies;rw [Bz];simp;omega
    rw [nt,if_neg (by simp)];refine a3 (a3 (h s.heap.objs.size aq d pE vy pF ei Bx (by omega) (λ j=>by rw [By,vx]) λ b cT e=>?_));rw [fk.2 b (dp (cJ e))];exact d4 b cT e
 ·rw [if_neg c];refine ao (IO X.sw (ao (IP ?_)));have sE:(s.heap.push (g9 w)).get? s.heap.objs.size=some (g9 w):=d2 _ rfl;have f6:∀ b cT,s.heap.get? b=some cT->(s.heap.push (g9 w)).get? b=some cT:=λ b cT e=>cm _ e;have kZ:=X.mono (f6 a _ X.at_);have jL:=Y.mono (f6 o _ Y.at_);have I6:=en.fresh sE;have adk:s.heap.objs.size≠a:=ij (cJ X.at_);have Bw:s.heap.objs.size≠o:=ij (cJ Y.at_);refine (show aG (aI prog w) A (pure s.heap.objs.size >>= _) _ _ _ from ao (a3 ?_));refine ao (s_ kZ.at_ rfl kZ.fits ?_);refine ao (g_ ?_);rw [if_pos rfl];refine ao (UO (s:={ s with heap:=s.heap.push (g9 w) }) kZ.q9 (λ b ag=>?_) I6 λ xs aq d vs pj aF fk ei=>?_)
  ·rcases dJ.mp ag with rfl | ag
   ·exact ⟨_,_,_,jL.q9⟩
   ·rw [f_.mp ag];exact ⟨_,_,_,I6.q9⟩
  have df:∀ b cT,s.heap.get? b=some cT->aq.get? b=some cT:=λ b cT e=>by rw [fk.2 b (dp (cJ e))];exact f6 b cT e
  have e6:=X.e6;refine ao (MeetsSeq2.wpAny_forIn_array _ (λ rest _ s'=>∃ done aT dW pr eE,xs.toList=done++rest/\s'={ s with heap:=aT,drawn:=d }/\(∀ b cT,s.heap.get? b=some cT->aT.get? b=some cT)/\en w aT s.heap.objs.size dW pr eE/\dW.size<=done.length/\∀ j,j∈keys dW ↔ j∈done.map (λ e=>fD e.2)/\j≠z) _ ?_ ?_ xs _ ⟨[],aq,_,_,_,rfl,rfl,df,ei,b7 _,by simp [keys]⟩)
  ·rintro e rest b s' ⟨done,aT,dW,pr,eE,hd,rfl,fm,vz,dg,lL⟩;have Vg:e∈ah.toList:=aF.mem_iff.mp (by rw [hd];simp);obtain ⟨⟨v,bC⟩,dt⟩:=X.all e Vg;obtain ⟨aP,aL⟩:=e
   dsimp only at bC dt ⊢
   generalize vA:fD aL=k at bC dt;subst bC dt;have Vh:=Y.mono (fm o _ Y.at_);have Bi:=X.mono (fm a _ X.at_)
   have dl:done.length < ah.size:=by
    have:=congrArg rz hd;rw [aF.length_eq,ft] at this;simp at this;omega
   refine ao (g_ ?_);rw [if_pos rfl];refine ao (IL (s:={ s with heap:=aT,drawn:=d }) Vh.q9 (ao (a3 ?_)));rw [UL Y.all,Vd];by_cases BA:k=z
   ·subst BA;rw [if_neg (by simp)];refine a3 (ao (Bt (s:={ s with heap:=aT,drawn:=d }) Bi.sw (a3 ⟨done++[(hS k,.int k v)],aT,dW,pr,eE,by rw [hd];simp,rfl,fm,vz,by simp;omega,λ j=>?_⟩)));rw [lL,iQ,jS];simp only [ew,oN,f_,fD];constructor
    ·rintro ⟨x,y⟩;exact ⟨.inl x,y⟩
    ·rintro ⟨x | x,y⟩
     ·exact ⟨x,y⟩
     ·exact absurd x y
   ·rw [if_pos (by simp [BA])];refine ao (add (s:={ s with heap:=aT,drawn:=d }) vz (by omega) λ rY cb Vi Vj Vk Vl Vm r3 gx=>a3 ?_)
    have mP:∀ b cT,s.heap.get? b=some cT->cb.get? b=some cT:=λ b cT e=>by rw [Vl.2 b (dp (cJ e))];exact fm b cT e
    have Vn:=X.mono (mP a _ X.at_);refine ao (Bt (s:={ s with heap:=cb,drawn:=d }) Vn.sw (a3 ⟨done++[(hS k,.int k v)],cb,Vi,Vj,Vk,by rw [hd];simp,rfl,mP,Vm,by simp;omega,λ j=>?_⟩));rw [r3,lL,iQ,jS];simp only [ew,oN,f_,fD];constructor
    ·rintro (⟨x,y⟩ | x)
     ·exact ⟨.inl x,y⟩
     ·exact ⟨.inr x,by rw [x];exact BA⟩
    ·rintro ⟨x | x,y⟩
     ·exact .inl ⟨x,y⟩
     ·exact .inr x
  ·rintro b s' ⟨done,aT,dW,pr,eE,hd,rfl,fm,vz,dg,lL⟩;rw [k4] at hd;refine a3 (a3 (h s.heap.objs.size aT d dW pr eE vz.q9 vz.aY ?_ (λ j=>?_) fm))
   ·have:=congrArg rz hd;rw [aF.length_eq,ft] at this;omega
   ·rw [lL,<- hd,(aF.map λ e=>fD e.2).mem_iff]
end
theorem Vo:WP table "set.__sub__" = some Builtin.«frozenset.__sub__»:=wi (id':="frozenset.__sub__") (by kernel_rfl) (by first | rfl | decide +kernel | (unfold String.splitOn;simp +decide [String.splitOnAux])) (by decide +kernel) (by kernel_rfl)
section
variable{prog:ck}{w:bW}{A:c1}{E:Value->aC->Prop}{s:aC}{a o:Addr}{ah jb:Array (Int × Value)}{a5 po:Nat}{t to:eB}
theorem Vp{z:Int}{u:Tok}{Q:Value->aC->Prop}(dQ:o≠a)(X:en w s.heap a ah a5 t)(Y:en w s.heap o jb po to)(lZ:jb.toList=[(hS z,.int z u)])(pC:ah.size < 64)
 (h:∀ r h' d dW pr eE,m6 w h' r dW pr eE->(keys dW).Nodup->dW.size<=ah.size->(∀ j,j∈keys dW ↔ j∈keys ah/\j≠z)->(∀ b o,s.heap.get? b=some o->h'.get? b=some o)->Q (.ref r) { s with heap:=h',drawn:=d }) :
 aG (aI prog w) A (gH .Sub (.ref a) (.ref o)) Q E s:=by
 refine wpAny_binaryOp_same (T:="set") (id:="set.__sub__") (l1 X.sw) (l1 Y.sw) F.fills_set_sub F.slot_set_sub ?_;refine hv F.slot_set_sub (l1 X.sw) Vo ?_ (F.args_set_sub_2 _ _);refine (show aG (aI prog w) A.in1 ((Builtin.Frozenset.isAnySet (.ref a) <&&> Builtin.Frozenset.isAnySet (.ref o)) >>= λ(b:Bool)=>_) _ _ s from ao ?_);unfold andM;refine ao (anyS X.sw (anyS Y.sw ?_));refine (show aG (aI prog w) A.in1 (Builtin.Frozenset.difference _ a (.ref o) >>= _) _ _ s from ao (Vc dQ X Y lZ pC λ r h' d dW pr eE R aY aB vx k=>?_));exact a3 ⟨_,rfl,by simp,h r h' d dW pr eE R aY aB vx k⟩
theorem Vq(fZ:hs jb.toList)(ax:jb.size<=1){z:Int}(hz:∀ j,j∈keys jb ↔ j∈[z]):∃ u,jb.toList=[(hS z,.int z u)]:=by
 have hm:=(hz z).mpr (f_.mpr rfl);obtain ⟨e,he,aO⟩:=g0.mp hm
 have aQ:jb.toList.length<=1:=by rw [ft];exact ax
 match gd:jb.toList,aQ,he with
 | [x],_,he=>
  obtain rfl:e=x:=f_.mp he;obtain ⟨⟨u,aP⟩,aL⟩:=fZ e (by rw [gd];exact he);rw [aO] at aP aL;exact ⟨u,by obtain ⟨p,q⟩:=e;simp only at aP aL;rw [aP,aL]⟩
 | _::_::_,h,_=>simp at h
end
end gU
namespace L2
open PySem PySem.Spec PyProof.Rows
section
variable{X:bb}{e aL:bg}{aW m9:TE}{p cE jM pos dj yq yr:Pos}
theorem I7{pins:List (Addr × Obj)}{s:aC}{σ:St}{H:ay}{R:Addr->List Int->ay->Prop}(aE:X.calm=true)(aZ:di X "set")(hm:X.mg "set" = none)(he:bX X e aW)(ax:dw e=true)(I:Inv X pins σ H s)
 (h:aW σ H λ x H1=>∃(l:Addr)(ns:List Int),x=.ref l/\d7 X.K H1 l (ns.map V.int)/\ns.length < 64/\R l ns H1) :
 aG (aI X.prog X.w) X.A (eval (.Call (.Name "set" cE) [e] [] dj) X.env) (λ v s'=>∃(l S:Addr)(ns:List Int)(H1:ay)(ah:Array (Int × Value))(a5:Nat)(t:eB),v=.ref S/\Inv X pins σ H1 s'/\gU.en X.w s'.heap S ah a5 t/\gJ X pins H1 S/\ah.size<=ns.length/\ns.length < 64/\(∀ j,j∈gU.keys ah ↔ j∈ns)/\R l ns H1) X.xe s:=by
 refine iM (iU I aZ hm PyProof.Rows.boot_set ?_);refine mr ?_ (eH ax) rfl;rw [eH ax];show aG _ _ (md ((false,eval e X.env)::fS dj (dv [] X.env))) _ _ s;refine Calls.spliced_cons (b5 (he pins s σ H _ I h) λ u s1 ⟨x,H1,a6,bj,l,ns,ex,bv,aQ,q⟩=>Calls.spliced_nil ?_);subst ex;cases bj;obtain ⟨aM,be,cW,hz⟩:=a6.list bv;have hlen:=be.length;rw [bS] at hlen;refine gU.ofList (items:=aM.toArray) (ns:=ns) (a6.ok.hd aE) cW.isList (by simpa using Bk be) (by rw [c_];omega) λ h' tk ah a5 t en z m k=>?_;exact ⟨l,s1.heap.objs.size,ns,H1,ah,a5,t,rfl,a6.kept (t':=tk) k,en,a6.oZ (b7 _) (a6.bM.fresh (b7 _)),by have y:aM.toArray.size=aM.length:=c_;omega,aQ,m,q⟩
def Vr(K:bl)(aW m9:TE):TE:=λ σ H Q=>aW σ H λ x H1=>∃(l:Addr)(ns:List Int),x=.ref l/\d7 K H1 l (ns.map V.int)/\ns.length < 64/\m9 σ H1 λ y aS=>∃(bV:Addr)(m_:List Int),y=.ref bV/\d7 K aS bV (m_.map V.int)/\m_.length < 64/\∃ z,m_=[z] ∧
 ∀ ms,m5 (ns.filter λ j=>decide (j≠z)) ms->∀ dz,aS dz=none->Q (.ref dz) (upd aS dz (.lst (ms.map V.int)))
theorem Vt(aE:X.calm=true)(q5:di X "sorted")(q6:X.mg "sorted" = none)(aZ:di X "set")(hm:X.mg "set" = none)(he:bX X e aW)(ax:dw e=true)(BB:bX X aL m9)(k0:dw aL=true) :
 bX X (.Call (.Name "sorted" p) [.BinOp (.Call (.Name "set" cE) [e] [] dj) .Sub (.Call (.Name "set" jM) [aL] [] yq) yr] [] pos) (Vr X.K aW m9):=by
 intro pins s σ H Q I h;refine iM (iU I q5 q6 PyProof.Rows.boot_sorted ?_);refine PyProof.Rows.callWith_builtin1 ?_ (eH rfl) rfl;rw [eH rfl];show aG _ _ (md ((false,eval (.BinOp (.Call (.Name "set" cE) [e] [] dj) .Sub (.Call (.Name "set" jM) [aL] [] yq) yr) X.env)::fS pos (dv [] X.env))) _ _ s;refine Calls.spliced_cons (wpAny_BinOp (b5 (I7 (R:=λ _ ns H1=>m9 σ H1 λ y aS=>∃(bV:Addr)(m_:List Int),y=.ref bV/\d7 X.K aS bV (m_.map V.int)/\m_.length < 64/\∃ z,m_=[z]/\∀ ms,m5 (ns.filter λ j=>decide (j≠z)) ms->∀ dz,aS dz=none->Q (.ref dz) (upd aS dz (.lst (ms.map V.int)))) aE aZ hm he ax I h) λ v s1 ak=>?_));obtain ⟨l,S,ns,H1,ah,a5,t,rfl,a6,BC,Vu,cB,aQ,mw,q⟩:=ak
 have Vv:∀ b∈[S],∃ o,s1.heap.get? b=some o/\∀ v,o.data≠.cell v:=λ b ag=>by
  rw [f_.mp ag];exact ⟨_,BC.at_,λ _=>nofun⟩
 have Vw:=a6.pinned (fp:=[S]) (λ b ag=>by rw [f_.mp ag];exact Vu) Vv;refine b5 (I7 (R:=λ _ m_ aS=>∃ z,m_=[z]/\∀ ms,m5 (ns.filter λ j=>decide (j≠z)) ms->∀ dz,aS dz=none->Q (.ref dz) (upd aS dz (.lst (ms.map V.int)))) aE aZ hm BB k0 Vw q) λ v2 s2 aq=>?_;obtain ⟨bV,vB,m_,aS,adl,adn,c2,rfl,cy,I8,Vx,b8,hE,mx,z,rfl,bI⟩:=aq;have pin:(S,gU.setAt ah a5 t)∈pins++tV [S] s1.heap:=d6 _ (tl.mpr ⟨S,f_.mpr rfl,by rw [BC.at_];rfl⟩);have vn:=(cy.pin _ (d6 _ pin)).1;have Vy:vB≠S:=λ y=>Vx.2.2.2.2.2 _ (d6 _ pin) y.symm;have vo:=BC.mono vn;obtain ⟨u,lZ⟩:=gU.Vq I8.all (by simpa using b8) mx;refine gU.Vp Vy vo I8 lZ (by omega) λ r h' d dW pr eE R aY aB vx k=>Calls.spliced_nil ?_;have dd:Inv X pins σ aS { s2 with heap:=h',drawn:=d }:=((cy.mD).kept (t':=s2.toks) k).drew;refine IC aE dd R.toSW R.all aY (by omega) (λ j=>?_) bI;rw [vx,mw,oJ,decide_eq_true_eq]
end
end L2
namespace L3
open PySem PyProof L2
section
variable{X:bb}{e aL:bg}{aW m9:cj}{p cE jM pos dj yq yr:Pos}
abbrev Vz(aW m9:cj):cj:=λ ρ G Q=>aW ρ G λ x aA=>match x with
 | .ref l=>gB aA l λ ds=>∃ ns,mY ds=some ns/\ns.length < 64/\m9 ρ aA λ y bc=>match y with
  | .ref bV=>gB bc bV λ I9=>∃ z,I9=[.int z]/\∀ ms,m5 (ns.filter λ j=>decide (j≠z)) ms->∀ dz,bc dz=none->Q (.ref dz) (up bc dz (.lst (ms.map D.int)))
  | _=>False
 | _=>False
theorem VA(q5:di X "sorted")(q6:X.mg "sorted" = none)(aZ:di X "set")(hm:X.mg "set" = none)(he:bZ X e aW)(BB:bZ X aL m9)(aE:X.calm=true:=by rfl)(ax:dw e=true:=by rfl)(k0:dw aL=true:=by rfl) :
 bZ X (.Call (.Name "sorted" p) [.BinOp (.Call (.Name "set" cE) [e] [] dj) .Sub (.Call (.Name "set" jM) [aL] [] yq) yr] [] pos) (Vz aW m9):=by
 obtain ⟨ce,hr,re⟩:=he.run;obtain ⟨ado,VB,VC⟩:=BB.run;refine ⟨_,⟨Vt aE q5 q6 aZ hm hr.run ax VB.run k0⟩,λ ρ G au σ H Q B q F=>re ρ G _ σ H _ B q λ x aA v H1 g1 a_ aH=>?_⟩
 cases x with
 | ref l=>
  cases a_;obtain ⟨ds,ai,⟨ns,aP,aQ,k⟩,s,dZ⟩:=hJ g1.b3 aH;rw [uP aP] at dZ;rw [dZ.ints] at s;refine ⟨l,ns,rfl,s,aQ,VC ρ aA _ σ H1 _ (B.go g1) k λ y bc u aS g2 bq bI=>?_⟩
  cases y with
  | ref bV=>
   cases bq;obtain ⟨I9,adp,⟨z,rfl,df⟩,s2,BD⟩:=hJ g2.b3 bI;obtain ⟨v2,bK,rfl,a2,BD⟩:=BD;cases BD;cases a2;exact ⟨bV,[z],rfl,s2,by simp,z,rfl,λ ms ax dz oq=>F (.ref dz) _ _ _ ((g1.trans g2).trans (Go.qG g2.b3 oq (b2.xC ms))) rfl (df ms ax dz (g2.b3.none oq))⟩
  | _=>exact (show False from bI).elim
 | _=>exact (show False from aH).elim
end
theorem BE(m:Nat)(t:Tm):∀ w,(∀ z∈t.dI w,z.1 < z.2)->t.bU (dT m 0) w=t:=by
 induction t with
 | name n=>intro w h;have:=h (n,w) (fh ..);simp only [Tm.bU,dT];rw [if_neg (by omega)]
 | whole k=>intro w _;rfl
 | way t aN=>intro w h;simp only [Tm.bU];rw [aN (w+1) h]
 | first t aN=>intro w h;simp only [Tm.bU];rw [aN w h]
 | second t aN=>intro w h;simp only [Tm.bU];rw [aN w h]
 | give t u br bx=>intro w h;simp only [Tm.bU];rw [br w λ z hz=>h z (d6 _ hz),bx w λ z hz=>h z (oL _ hz)]
 | pair t u br bx=>intro w h;simp only [Tm.bU];rw [br w λ z hz=>h z (d6 _ hz),bx w λ z hz=>h z (oL _ hz)]
 | plus t u br bx=>intro w h;simp only [Tm.bU];rw [br w λ z hz=>h z (d6 _ hz),bx w λ z hz=>h z (oL _ hz)]
 | look t u v br bx fC=>intro w h;simp only [Tm.bU];rw [br w λ z hz=>h z (d6 _ (d6 _ hz)),bx w λ z hz=>h z (d6 _ (oL _ hz)),fC w λ z hz=>h z (oL _ hz)]
theorem I_{t:Tm}(h:t.ja=[]):∀ z∈t.dI 0,z.1 < z.2:=λ z hz=>by
 rcases rH z.1 z.2 with c | c
 ·exact c
 ·have:((z.1:Int) - z.2)∈t.ja:=tl.mpr ⟨z,hz,by rw [if_pos c]⟩;rw [h] at this;cases this
def et(u:Tm):Nat->Nat->Tm:=λ n w=>if n=w then u.bU (dT w 0) 0 else .name (if w < n then n - 1 else n)
def na(t:Tm):List Nat:=((t.dI 0).filter λ z=>decide (z.1=z.2)).map (·.2)
theorem VD{t:Tm}{n:Nat}(h:(n,n)∈t.dI 0):n∈na t:=g0.mpr ⟨(n,n),oJ.mpr ⟨h,by simp⟩,rfl⟩
def VE(kvs:List (Key × D))(u:Tm)(ws:List Nat):Prop:=∀ w∈ws,f5 kvs (.inl w)=some (u.bU (dT w 0) 0).enc
theorem VF{φ:Nat->Nat->Tm}{Bd:Nat}(hφ:∀ n w,(φ n w).aJ<=Bd)(t:Tm):∀ w,(t.bU φ w).aJ<=t.aJ+Bd:=by
 induction t with
 | name k=>intro w;have:=hφ k w;simp only [Tm.bU,Tm.aJ];omega
 | whole k=>intro w;simp only [Tm.bU,Tm.aJ];omega
 | way t aN=>intro w;have:=aN (w+1);simp only [Tm.bU,Tm.aJ];omega
 | first t aN=>intro w;have:=aN w;simp only [Tm.bU,Tm.aJ];omega
 | second t aN=>intro w;have:=aN w;simp only [Tm.bU,Tm.aJ];omega
 | give t u br bx=>intro w;have:=br w;have:=bx w;simp only [Tm.bU,Tm.aJ];omega
 | pair t u br bx=>intro w;have:=br w;have:=bx w;simp only [Tm.bU,Tm.aJ];omega
 | plus t u br bx=>intro w;have:=br w;have:=bx w;simp only [Tm.bU,Tm.aJ];omega
 | look t u v br bx fC=>intro w;have:=br w;have:=bx w;have:=fC w;simp only [Tm.bU,Tm.aJ];omega
theorem VG{u:Tm}(n w:Nat):(et u n w).aJ<=u.aJ:=by
 unfold et;split
 ·rw [UA];exact b7 _
 ·exact e0 _
theorem sF{t:Tm}{G:aX}{Q:c8}(q:Q (.str t.word) G):kQ t.enc (.int 0) G Q:=by cases t<;>exact mW rfl q
theorem Ja{t:Tm}(h:(t.word=="name")=true):∃ k,t=.name k:=by
 cases t<;>first | exact ⟨_,rfl⟩ | (simp [Tm.word,HL,hK] at h)
theorem VH{t:Tm}(h:(t.word=="whole")=true):∃ k,t=.whole k:=by
 cases t<;>first | exact ⟨_,rfl⟩ | (simp [Tm.word,HL,hK] at h)
theorem VI{t:Tm}(ak:(t.word=="name")=false)(aq:(t.word=="whole")=false):t.leaf=false:=by
 cases t<;>first | rfl | (simp [Tm.word] at ak;done) | (simp [Tm.word] at aq;done)
theorem VJ{t:Tm}(h:(t.word=="name")=false)(w:Nat):t.dI w=t.aV.reverse.flatMap (λ u=>u.dI (t.b9 w)):=by
 cases t<;>first | (simp [Tm.word] at h;done) | simp [Tm.dI,Tm.aV,Tm.b9]
def Tm.comes:Tm->Tm
 | .give (.way b) a=>b.bU (et a) 0
 | .first (.pair a _)=>a
 | .second (.pair _ b)=>b
 | .plus (.whole i) (.whole j)=>.whole (i+j)
 | .look (.whole i) a b=>if i=0 then a else b
 | t=>t
def Tm.ep(o:Tm):List Int->Tm->Tm
 | [],_=>o
 | k::ks,t=>t.hM (t.aV.set k.toNat (Tm.ep o ks (t.aV.getD k.toNat (.name 0))))
def Tm.behind(t:Tm)(ns:List Int):Tm:=match t.at ns with
 | some u=>Tm.ep u.comes ns t
 | none=>t
def Tm.over(t:Tm):Bool:=decide (3000 < t.aB)||decide (100 < t.aJ)
def Tm.gV(t:Tm):Option (List Int × List Int):=match t.ed with
 | none=>none
 | some z=>z.2.use.map λ ns=>(z.1,ns)
def Jb:Option (List Int × List Int)->D
 | none=>.bJ
 | some z=>.tup [er z.1,er z.2]
def BF:cS:=λ ds G Q=>∃ t:Tm,ds=[t.enc]/\t.aB<=10000/\Q (Jb t.gV) G
theorem VK{t:Tm}{z:List Int × List Int}(h:t.gV=some z):(∃ u,t.at (z.1++z.2)=some u/\u.d1=true)/\(z.1++z.2).length<=t.aJ:=by
 refine Tm.H3 ?_;unfold Tm.gV at h;unfold Tm.nx
 cases e:t.ed with
 | none=>rw [e] at h;cases h
 | some y=>
  rw [e] at h;simp only [] at h ⊢
  cases aL:y.2.use with
  | none=>rw [aL] at h;cases h
  | some ns=>rw [aL] at h;cases h;rfl
def fin(t:Tm):Str:=if t.iH then "answer" else "stuck"
def e9:Nat->Tm->Str × Tm × List (List Int)
 | 0,t=>match t.gV with
  | none=>(fin t,t,[])
  | some _=>("more", t,[])
 | k+1,t=>match t.gV with
  | none=>(fin t,t,[])
  | some z=>if (t.behind (z.1++z.2)).over=true then ("great", t,[]) else ((e9 k (t.behind (z.1++z.2))).1,(e9 k (t.behind (z.1++z.2))).2.1,z.1::(e9 k (t.behind (z.1++z.2))).2.2)
section
variable(T:Addr)(pos:Pos)(eo:Addr)(dj:Pos)
def nb(G:aX):Prop:=G T=some (.tab pos "lifted.<locals>.moved")/\G eo=some (.tab dj "put_in.<locals>.taken")
theorem nb.new {T pos eo dj} {G:aX} {p:Addr} {o:eS} (h:nb T pos eo dj G) (n:G p=none):nb T pos eo dj (up G p o):=
 ⟨by rw [c7 (by rintro rfl;rw [h.1] at n;cases n)];exact h.1,by rw [c7 (by rintro rfl;rw [h.2] at n;cases n)];exact h.2⟩
def BG:cS:=λ ds G Q=>∃(t:Tm)(k:Nat)(o:Tm),ds=[t.enc,.int k,o.enc]/\t.leaf=false/\k < t.aV.length/\Q (t.hM (t.aV.set k o)).enc G
def BH:cS:=λ ds G Q=>∃(t:Tm)(ns:List Int)(u o:Tm),ds=[t.enc,er ns,o.enc]/\t.at ns=some u/\ns.length<=10000/\Q (Tm.ep o ns t).enc G
def BI(P:ck)(w:bW)(K:bl)(mg:Str->Option Value)(base:bL)(k:Nat):cS:=λ ds G Q=>∃(t:Tm)(f:Addr),ds=[t.enc,.ref f,.int 3000,.int 100]/\r0 P w K mg base k f (aK K (jH Tm.enc Tm.aV))/\Q (.aU t.over) G
def BJ:cS:=λ ds G Q=>∃ t:Tm,ds=[t.enc]/\Q (.aU t.over) G
def BK(P:ck)(w:bW)(K:bl)(mg:Str->Option Value)(base:bL)(k:Nat):cS:=λ ds G Q=>∃(α:Type)(enc:α->D)(aV:α->List α)(all:α->List α)(f:Addr)(x:α),ds=[enc x,.ref f]/\(∀ y,all y=y::(aV y).flatMap all) ∧
 r0 P w K mg base k f (aK K (jH enc aV))/\(all x).length<=10000/\∀ l,G l=none->Q (.ref l) (up G l (.lst ((all x).map enc)))
def Tm.sG:Tm->List Tm
 | .pair a b=>[a,b]
 | _=>[]
def Tm.jc:Tm->List Tm
 | .pair a b=>.pair a b::(a.jc++b.jc)
 | t=>[t]
theorem Tm.VL(t:Tm):t.jc=t::t.sG.flatMap Tm.jc:=by cases t<;>simp [Tm.jc,Tm.sG]
theorem Tm.Jc(t:Tm):t.jc.length<=t.aB:=by
 induction t<;>simp only [Tm.jc,Tm.aB,dH,fs,gZ]<;>omega
def Tm.vC(u:Tm):Bool:=u.word=="whole"||u.word=="way"||u.word=="pair"
theorem Tm.VM(t:Tm):t.jc.all Tm.vC=t.iH:=by
 induction t with
 | pair a b ak aq=>simp only [Tm.jc,iP,List.all_append,ak,aq,Tm.iH];rfl
 | _=>rfl
def BL:cS:=λ ds G Q=>∃ t:Tm,ds=[t.enc]/\t.aB<=10000/\∀ l,G l=none->Q (.ref l) (up G l (.lst (t.jc.map Tm.enc)))
def BM:cS:=λ ds G Q=>∃ t:Tm,ds=[t.enc]/\t.aB<=10000/\Q (.aU t.iH) G
end
theorem VN{u:Tm}{d:Nat}(h:d<=100):100 < d+u.aJ ↔ ∃ x∈u.aV,100 < d+1+x.aJ:=by
 cases u<;>simp [Tm.aJ,Tm.aV]<;>omega
def ou(ps:List (Tm × Nat)):Nat:=(ps.map λ z=>z.1.aB).sum
def vD(ps:List (Tm × Nat)):Prop:=∃ z∈ps,100 < z.2+z.1.aJ
theorem VO(z:Tm × Nat)(ps:List (Tm × Nat)):ou (z::ps)=z.1.aB+ou ps:=by simp [ou]
theorem VP(u:Tm):(u.aV.map Tm.aB).sum+1=u.aB:=by cases u<;>simp [Tm.aV,Tm.aB]<;>omega
theorem VQ{u:Tm}{d:Nat}{ps:List (Tm × Nat)}:ou ((u.aV.map λ x=>(x,d+1)).reverse++ps)+1=u.aB+ou ps:=by
 have h:(u.aV.map λ x=>x.aB).sum+1=u.aB:=VP u;simp only [ou,iQ,List.sum_append,ii,rF,fE,Function.comp_def];omega
theorem VR{u:Tm}{d:Nat}{ps:List (Tm × Nat)}(h:d<=100):vD ((u.aV.map λ x=>(x,d+1)).reverse++ps) ↔ vD ((u,d)::ps):=by
 unfold vD;have e:=VN (u:=u) h;constructor
 ·rintro ⟨z,hz,hd⟩;rcases jS.mp hz with hz | hz
  ·obtain ⟨x,aF,rfl⟩:=g0.mp (tp.mp hz);exact ⟨(u,d),fh ..,e.mpr ⟨x,aF,hd⟩⟩
  ·exact ⟨z,ig _ hz,hd⟩
 ·rintro ⟨z,hz,hd⟩;rcases dJ.mp hz with rfl | hz
  ·obtain ⟨x,aF,aq⟩:=e.mp hd;exact ⟨(x,d+1),oL _ (tp.mpr (g0.mpr ⟨x,aF,rfl⟩)),aq⟩
  ·exact ⟨z,d6 _ hz,hd⟩
def Tm.along(t:Tm)(ns:List Int)(i:Nat):Tm:=(t.at (ns.take i)).getD (.name 0)
theorem Tm.Jd{t u:Tm}{ns:List Int}{i:Nat}{k:Int}(h:t.at ns=some u)(aO:ns[i]?=some k):0<=k/\(t.along ns i).aV[k.toNat]?=some (t.along ns (i+1)):=by
 obtain ⟨v,x,ak,aq,aT,cb⟩:=Tm.x6 h aO;unfold Tm.along;rw [ak,cb];exact ⟨aq,aT⟩
theorem VS(z:Str):sj (.str z) [.str "whole", .str "way", .str "pair"]=(z=="whole"||z=="way"||z=="pair"):=by
 have e:∀ a b:Str,(a==b)=(b==a):=λ a b=>by rw [tB,beq_iff_eq,beq_iff_eq];exact eq_comm
 simp only [sj,ml,List.any_nil,AB,rI];rw [e "whole" z,e "way" z,e "pair" z,Bool.or_assoc]
theorem Je{α:Type}{aV all:α->List α}(fZ:∀ y,all y=y::(aV y).flatMap all):∀ ps:List α,ps.length<=(ps.flatMap all).length
 | []=>b7 _
 | y::ps=>by
  have:=Je fZ ps;rw [ts,fZ y,fs,dH,dH];omega
theorem Jf{α:Type}{xs:List α}{k:Nat}(h:k<=xs.length):cut xs none (some (k:Int))=xs.take k:=by
 unfold cut;rw [show dD.cG xs.length 0 none=0 from rfl,show dD.cG xs.length xs.length (some (k:Int))=k by unfold dD.cG;simp only [];rw [if_neg (by omega)];omega,tn,wH]
theorem yt{α:Type}{xs:List α}{k:Nat}(h:k+1<=xs.length):cut xs (some ((k:Int)+1)) none=xs.drop (k+1):=by
 unfold cut;rw [show dD.cG xs.length xs.length none=xs.length from rfl,show dD.cG xs.length 0 (some ((k:Int)+1))=k+1 by unfold dD.cG;simp only [];rw [if_neg (by omega)];omega];rw [wD (by rw [ny];omega)]
theorem Jg{t x:Tm}{k:Nat}(h:t.aV[k]?=some x):t.leaf=false:=by
 cases t<;>first | rfl | (simp [Tm.aV] at h)
end L3
namespace L3
open PySem PySem.Spec L2
section
variable{X:bb}{a b c e f o i bp iter value:bg}{x:Str}{ad C:Addr}{tab:Str->Option D}{bw ho aW pj to eQ:cj}{pos pos' Ga p apos fx:Pos}
theorem VT{st:bB}:i1 X st (λ _ _ _=>False):=⟨λ _ _ _=>False,⟨λ _ _ _ _ _ _ h=>h.elim⟩,λ dR eT ρ G σ H B q F=>q.elim⟩
end
end L3
namespace L3
open PySem L2
def vE(n:Nat):cS:=λ ds G Q=>∃(t:Tm)(m l:Nat),ds=[t.enc,.int m,.int l]/\t.aJ < n/\Q (t.bU (dT m 0) l).enc G
def vF(n:Nat):cS:=λ ds G Q=>∃(t:Tm)(ns:List Int)(u o:Tm),ds=[t.enc,er ns,o.enc]/\t.at ns=some u/\ns.length < n/\n<=1000/\Q (Tm.ep o ns t).enc G
theorem VU{t:Tm}(h:t.d1=true):t.comes.aJ<=2 * t.aJ:=by
 cases t with
 | give b a=>
  cases b with
  | way b=>
   have:=VF (φ:=et a) (Bd:=a.aJ) (λ n w=>VG n w) b 0;simp only [Tm.comes,Tm.aJ];omega
  | _=>cases h
 | first a=>
  cases a with
  | pair a b=>simp only [Tm.comes,Tm.aJ];omega
  | _=>cases h
 | second a=>
  cases a with
  | pair a b=>simp only [Tm.comes,Tm.aJ];omega
  | _=>cases h
 | plus a b=>
  cases a with
  | whole i=>
   cases b with
   | whole j=>simp only [Tm.comes,Tm.aJ];omega
   | _=>cases h
  | _=>cases h
 | look a b c=>
  cases a with
  | whole i=>simp only [Tm.comes];split<;>simp only [Tm.aJ]<;>omega
  | _=>cases h
 | _=>cases h
theorem Jh{t o:Tm}{k:Nat}:(t.hM (t.aV.set k o)).aJ<=max t.aJ (o.aJ+1):=by
 cases t<;>rcases k with _ | _ | _ | k<;>simp [Tm.aV,Tm.hM,Tm.aJ]<;>omega
theorem VV{o:Tm}:∀(ns:List Int){t u:Tm},t.at ns=some u->(Tm.ep o ns t).aJ<=t.aJ+o.aJ
 | [],t,u,h=>by rw [Tm.ep];omega
 | k::ns,t,u,h=>by
  obtain ⟨h0,x,ak,aq⟩:=Tm.qX h;rw [Tm.ep,mm,ak];have z:=Jh (t:=t) (o:=Tm.ep o ns ((some x).getD (.name 0))) (k:=k.toNat);have y:=VV ns (o:=o) aq;have w:=Tm.gF (ih ak);have e:(some x).getD (Tm.name 0)=x:=rfl;rw [e] at z ⊢;omega
theorem Ji:∀(ns:List Int){t u:Tm},t.at ns=some u->u.aJ<=t.aJ/\u.aB<=t.aB
 | [],t,u,h=>by cases h;exact ⟨b7 _,b7 _⟩
 | k::ns,t,u,h=>by
  obtain ⟨h0,x,ak,aq⟩:=Tm.qX h;have:=Ji ns aq;have:=Tm.gF (ih ak);have:=Tm.x5 (ih ak);omega
theorem VW(ns:List Int):(er ns).data=true:=by simp only [er,D.data];exact IE ns
theorem VX(ns:List Int):(er ns).aJ<=150:=by simp only [er,D.aJ,HV];omega
theorem VY(ns:List Int):gm (er ns) (.tup [])=ns.isEmpty:=by cases ns<;>rfl
end L3
namespace L3
open PySem L2
def Tm.cl:Nat->Tm->Prop
 | n,.name k=>k < n
 | _,.whole _=>True
 | n,.way t=>t.cl (n+1)
 | n,.give t u=>t.cl n/\u.cl n
 | n,.pair t u=>t.cl n/\u.cl n
 | n,.first t=>t.cl n
 | n,.second t=>t.cl n
 | n,.plus t u=>t.cl n/\u.cl n
 | n,.look t u v=>t.cl n/\u.cl n/\v.cl n
def Tm.b6:Nat->Tm->Nat
 | n,.name k=>if k=n then 1 else 0
 | _,.whole _=>0
 | n,.way t=>t.b6 (n+1)
 | n,.give t u=>t.b6 n+u.b6 n
 | n,.pair t u=>t.b6 n+u.b6 n
 | n,.first t=>t.b6 n
 | n,.second t=>t.b6 n
 | n,.plus t u=>t.b6 n+u.b6 n
 | n,.look t u v=>t.b6 n+u.b6 n+v.b6 n
def Tm.mo:Tm->Nat
 | .name _=>0
 | .whole _=>0
 | .way t=>max (t.b6 0) t.mo
 | .give t u=>max t.mo u.mo
 | .pair t u=>max t.mo u.mo
 | .first t=>t.mo
 | .second t=>t.mo
 | .plus t u=>max t.mo u.mo
 | .look t u v=>max t.mo (max u.mo v.mo)
theorem Tm.Jj{t:Tm}:∀{n m:Nat},n<=m->t.cl n->t.cl m:=by
 induction t<;>intro n m h<;>simp only [Tm.cl]<;>intro k
 case name j=>omega
 case whole=>trivial
 case way t aN=>exact aN (by omega) k
 case give t u br bx=>exact ⟨br h k.1,bx h k.2⟩
 case pair t u br bx=>exact ⟨br h k.1,bx h k.2⟩
 case first t aN=>exact aN h k
 case second t aN=>exact aN h k
 case plus t u br bx=>exact ⟨br h k.1,bx h k.2⟩
 case look t u v br bx fC=>exact ⟨br h k.1,bx h k.2.1,fC h k.2.2⟩
theorem Tm.VZ{t:Tm}:∀{n m:Nat},t.cl n->n<=m->t.b6 m=0:=by
 induction t<;>intro n m k h<;>simp only [Tm.cl,Tm.b6] at *
 case name j=>rw [if_neg (by omega)]
 case way t aN=>exact aN k (by omega)
 case give t u br bx=>rw [br k.1 h,bx k.2 h]
 case pair t u br bx=>rw [br k.1 h,bx k.2 h]
 case first t aN=>exact aN k h
 case second t aN=>exact aN k h
 case plus t u br bx=>rw [br k.1 h,bx k.2 h]
 case look t u v br bx fC=>rw [br k.1 h,bx k.2.1 h,fC k.2.2 h]
theorem Tm.V0(t:Tm):∀ n,t.b6 n<=t.aB:=by
 induction t<;>intro n<;>simp only [Tm.b6,Tm.aB]
 case name j=>split<;>omega
 case whole=>omega
 case way t aN=>have:=aN (n+1);omega
 case give t u br bx=>have:=br n;have:=bx n;omega
 case pair t u br bx=>have:=br n;have:=bx n;omega
 case first t aN=>have:=aN n;omega
 case second t aN=>have:=aN n;omega
 case plus t u br bx=>have:=br n;have:=bx n;omega
 case look t u v br bx fC=>have:=br n;have:=bx n;have:=fC n;omega
theorem Tm.V1(t:Tm):t.mo+1<=t.aB:=by
 induction t<;>simp only [Tm.mo,Tm.aB]<;>try omega
 case way t aN=>have:=t.V0 0;omega
theorem Jk{t:Tm}:∀{n w:Nat},t.cl (n+w)->∀ z∈t.dI w,z.1 < z.2+n:=by
 induction t<;>intro n w k z hz<;>simp only [Tm.cl,Tm.dI,dJ,jS,jj,or_false] at *
 case name j=>subst hz;show j < w+n;omega
 case way t aN=>exact aN (n:=n) (w:=w+1) (by rw [show n+(w+1)=n+w+1 by omega];exact k) z hz
 case give t u br bx=>rcases hz with hz | hz;exact bx k.2 z hz;exact br k.1 z hz
 case pair t u br bx=>rcases hz with hz | hz;exact bx k.2 z hz;exact br k.1 z hz
 case first t aN=>exact aN k z hz
 case second t aN=>exact aN k z hz
 case plus t u br bx=>rcases hz with hz | hz;exact bx k.2 z hz;exact br k.1 z hz
 case look t u v br bx fC=>rcases hz with hz | hz | hz;exact fC k.2.2 z hz;exact bx k.2.1 z hz;exact br k.1 z hz
theorem V2{t:Tm}(h:t.cl 0):t.ja=[]:=by
 have k:=Jk (n:=0) (w:=0) h;unfold Tm.ja Bl;rw [List.filterMap_eq_nil_iff];intro z hz;rw [if_neg (by have:=k z hz;omega)]
theorem V3(t:Tm):∀ w,(((t.dI w).filter λ z=>decide (z.1=z.2)).length)=t.b6 w:=by
 induction t<;>intro w<;>simp only [Tm.dI,Tm.b6,List.filter_append,fs]
 case name j=>by_cases c:j=w<;>simp [c]
 case whole=>rfl
 case way t aN=>exact aN (w+1)
 case give t u br bx=>rw [br,bx];omega
 case pair t u br bx=>rw [br,bx];omega
 case first t aN=>exact aN w
 case second t aN=>exact aN w
 case plus t u br bx=>rw [br,bx];omega
 case look t u v br bx fC=>rw [br,bx,fC];omega
theorem V4(t:Tm):(na t).length=t.b6 0:=by unfold na;rw [bS];exact V3 t 0
section
variable{a:Tm}(aD:a.cl 0)
include aD
theorem yu(n w:Nat):et a n w=if n=w then a else .name (if w < n then n - 1 else n):=by
 unfold et;split
 ·exact BE w a 0 λ z hz=>by have:=Jk (n:=0) (w:=0) aD z hz;omega
 ·rfl
theorem V5{b:Tm}:∀{w:Nat},b.cl (w+1)->(b.bU (et a) w).cl w:=by
 induction b<;>intro w k<;>simp only [Tm.bU,Tm.cl] at *
 case name j=>
  rw [yu aD];split
  ·exact Tm.Jj (e0 _) aD
  ·simp only [Tm.cl];split<;>omega
 case way t aN=>exact aN k
 case give t u br bx=>exact ⟨br k.1,bx k.2⟩
 case pair t u br bx=>exact ⟨br k.1,bx k.2⟩
 case first t aN=>exact aN k
 case second t aN=>exact aN k
 case plus t u br bx=>exact ⟨br k.1,bx k.2⟩
 case look t u v br bx fC=>exact ⟨br k.1,bx k.2.1,fC k.2.2⟩
theorem V6{b:Tm}:∀{w v:Nat},v < w->(b.bU (et a) w).b6 v=b.b6 v:=by
 induction b<;>intro w v h<;>simp only [Tm.bU,Tm.b6] at *
 case name j=>
  rw [yu aD];split
  ·next e=>rw [Tm.VZ aD (e0 _),if_neg (by omega)]
  ·next e=>
   simp only [Tm.b6];by_cases c:w < j
   ·rw [if_pos c,if_neg (by omega),if_neg (by omega)]
   ·rw [if_neg c]
 case way t aN=>exact aN (by omega)
 case give t u br bx=>rw [br h,bx h]
 case pair t u br bx=>rw [br h,bx h]
 case first t aN=>exact aN h
 case second t aN=>exact aN h
 case plus t u br bx=>rw [br h,bx h]
 case look t u v br bx fC=>rw [br h,bx h,fC h]
theorem V7{b:Tm}:∀{w:Nat},(b.bU (et a) w).mo<=max b.mo a.mo:=by
 induction b<;>intro w<;>simp only [Tm.bU,Tm.mo] at *
 case name j=>
  rw [yu aD];split
  ·omega
  ·simp only [Tm.mo];omega
 case whole=>omega
 case way t aN=>
  have:=@aN (w+1);rw [V6 aD (show 0 < w+1 by omega)];omega
 case give t u br bx=>have:=@br w;have:=@bx w;omega
 case pair t u br bx=>have:=@br w;have:=@bx w;omega
 case first t aN=>exact aN
 case second t aN=>exact aN
 case plus t u br bx=>have:=@br w;have:=@bx w;omega
 case look t u v br bx fC=>have:=@br w;have:=@bx w;have:=@fC w;omega
theorem V8{b:Tm}:∀{w:Nat},(b.bU (et a) w).aB+b.b6 w=b.aB+b.b6 w * a.aB:=by
 induction b<;>intro w<;>simp only [Tm.bU,Tm.b6,Tm.aB,Nat.add_mul] at *
 case name j=>
  rw [yu aD];by_cases c:j=w
  ·rw [if_pos c,if_pos c];omega
  ·rw [if_neg c,if_neg c];simp only [Tm.aB];omega
 case whole=>omega
 case way t aN=>have:=@aN (w+1);omega
 case give t u br bx=>have:=@br w;have:=@bx w;omega
 case pair t u br bx=>have:=@br w;have:=@bx w;omega
 case first t aN=>have:=@aN w;omega
 case second t aN=>have:=@aN w;omega
 case plus t u br bx=>have:=@br w;have:=@bx w;omega
 case look t u v br bx fC=>have:=@br w;have:=@bx w;have:=@fC w;omega
end
inductive da:Tm->List Int->Tm->Prop
 | here (t:Tm):da t [] t
 | give {t u x:Tm} {ns:List Int}:da t ns x->da (.give t u) (0::ns) x
 | first {t x:Tm} {ns:List Int}:da t ns x->da (.first t) (0::ns) x
 | second {t x:Tm} {ns:List Int}:da t ns x->da (.second t) (0::ns) x
 | look {t u v x:Tm} {ns:List Int}:da t ns x->da (.look t u v) (0::ns) x
 | sH {t u x:Tm} {ns:List Int}:da t ns x->da (.plus t u) (0::ns) x
 | sI {t u x:Tm} {ns:List Int}:da u ns x->da (.plus t u) (1::ns) x
 | sJ {t u x:Tm} {ns:List Int}:da t ns x->da (.pair t u) (0::ns) x
 | sK {t u x:Tm} {ns:List Int}:da u ns x->da (.pair t u) (1::ns) x
theorem da.at_{t x:Tm}{ns:List Int}(h:da t ns x):t.at ns=some x:=by
 induction h with
 | here=>rfl
 | give _ aN=>rw [Tm.i8 (by decide) rfl];exact aN
 | first _ aN=>rw [Tm.i8 (by decide) rfl];exact aN
 | second _ aN=>rw [Tm.i8 (by decide) rfl];exact aN
 | look _ aN=>rw [Tm.i8 (by decide) rfl];exact aN
 | sH _ aN=>rw [Tm.i8 (by decide) rfl];exact aN
 | sI _ aN=>rw [Tm.i8 (by decide) rfl];exact aN
 | sJ _ aN=>rw [Tm.i8 (by decide) rfl];exact aN
 | sK _ aN=>rw [Tm.i8 (by decide) rfl];exact aN
theorem da.app{t x y:Tm}{ns ms:List Int}(h:da t ns x)(k:da x ms y):da t (ns++ms) y:=by
 induction h with
 | here=>exact k
 | give _ aN=>exact .give (aN k)
 | first _ aN=>exact .first (aN k)
 | second _ aN=>exact .second (aN k)
 | look _ aN=>exact .look (aN k)
 | sH _ aN=>exact .sH (aN k)
 | sI _ aN=>exact .sI (aN k)
 | sJ _ aN=>exact .sJ (aN k)
 | sK _ aN=>exact .sK (aN k)
theorem da.part{t x:Tm}{ns:List Int}(h:da t ns x):(∀ n,t.cl n->x.cl n)/\x.mo<=t.mo/\x.aB<=t.aB/\x.aJ<=t.aJ:=by
 induction h with
 | here=>exact ⟨λ _ h=>h,b7 _,b7 _,b7 _⟩
 | give _ aN=>obtain ⟨a,b,c,d⟩:=aN;exact ⟨λ n h=>a n h.1,by simp only [Tm.mo];omega,by simp only [Tm.aB];omega,by simp only [Tm.aJ];omega⟩
 | first _ aN=>obtain ⟨a,b,c,d⟩:=aN;exact ⟨λ n h=>a n h,by simp only [Tm.mo];omega,by simp only [Tm.aB];omega,by simp only [Tm.aJ];omega⟩
 | second _ aN=>obtain ⟨a,b,c,d⟩:=aN;exact ⟨λ n h=>a n h,by simp only [Tm.mo];omega,by simp only [Tm.aB];omega,by simp only [Tm.aJ];omega⟩
 | look _ aN=>obtain ⟨a,b,c,d⟩:=aN;exact ⟨λ n h=>a n h.1,by simp only [Tm.mo];omega,by simp only [Tm.aB];omega,by simp only [Tm.aJ];omega⟩
 | sH _ aN=>obtain ⟨a,b,c,d⟩:=aN;exact ⟨λ n h=>a n h.1,by simp only [Tm.mo];omega,by simp only [Tm.aB];omega,by simp only [Tm.aJ];omega⟩
 | sI _ aN=>obtain ⟨a,b,c,d⟩:=aN;exact ⟨λ n h=>a n h.2,by simp only [Tm.mo];omega,by simp only [Tm.aB];omega,by simp only [Tm.aJ];omega⟩
 | sJ _ aN=>obtain ⟨a,b,c,d⟩:=aN;exact ⟨λ n h=>a n h.1,by simp only [Tm.mo];omega,by simp only [Tm.aB];omega,by simp only [Tm.aJ];omega⟩
 | sK _ aN=>obtain ⟨a,b,c,d⟩:=aN;exact ⟨λ n h=>a n h.2,by simp only [Tm.mo];omega,by simp only [Tm.aB];omega,by simp only [Tm.aJ];omega⟩
theorem da.ep{t x:Tm}{ns:List Int}(h:da t ns x)(o:Tm):(∀ n,t.cl n->o.cl n->(Tm.ep o ns t).cl n)/\(Tm.ep o ns t).mo<=max t.mo o.mo/\(Tm.ep o ns t).aB+x.aB=t.aB+o.aB:=by
 induction h with
 | here=>exact ⟨λ _ _ h=>h,by simp only [Tm.ep];omega,by simp only [Tm.ep];omega⟩
 | give _ aN=>obtain ⟨a,b,c⟩:=aN;refine ⟨λ n h k=>⟨a n h.1 k,h.2⟩,?_,?_⟩<;>simp [Tm.ep,Tm.hM,Tm.aV,Tm.mo,Tm.aB]<;>omega
 | first _ aN=>obtain ⟨a,b,c⟩:=aN;refine ⟨λ n h k=>a n h k,?_,?_⟩<;>simp [Tm.ep,Tm.hM,Tm.aV,Tm.mo,Tm.aB]<;>omega
 | second _ aN=>obtain ⟨a,b,c⟩:=aN;refine ⟨λ n h k=>a n h k,?_,?_⟩<;>simp [Tm.ep,Tm.hM,Tm.aV,Tm.mo,Tm.aB]<;>omega
 | look _ aN=>obtain ⟨a,b,c⟩:=aN;refine ⟨λ n h k=>⟨a n h.1 k,h.2⟩,?_,?_⟩<;>simp [Tm.ep,Tm.hM,Tm.aV,Tm.mo,Tm.aB]<;>omega
 | sH _ aN=>obtain ⟨a,b,c⟩:=aN;refine ⟨λ n h k=>⟨a n h.1 k,h.2⟩,?_,?_⟩<;>simp [Tm.ep,Tm.hM,Tm.aV,Tm.mo,Tm.aB]<;>omega
 | sI _ aN=>obtain ⟨a,b,c⟩:=aN;refine ⟨λ n h k=>⟨h.1,a n h.2 k⟩,?_,?_⟩<;>simp [Tm.ep,Tm.hM,Tm.aV,Tm.mo,Tm.aB]<;>omega
 | sJ _ aN=>obtain ⟨a,b,c⟩:=aN;refine ⟨λ n h k=>⟨a n h.1 k,h.2⟩,?_,?_⟩<;>simp [Tm.ep,Tm.hM,Tm.aV,Tm.mo,Tm.aB]<;>omega
 | sK _ aN=>obtain ⟨a,b,c⟩:=aN;refine ⟨λ n h k=>⟨h.1,a n h.2 k⟩,?_,?_⟩<;>simp [Tm.ep,Tm.hM,Tm.aV,Tm.mo,Tm.aB]<;>omega
theorem V9{t:Tm}:∀{ns:List Int},t.use=some ns->∃ x,da t ns x/\x.d1=true:=by
 induction t<;>intro ns h<;>simp only [Tm.use] at h<;>try (cases h;done)
 case give t u br bx=>
  split at h
  ·next r=>cases h;exact ⟨_,.here _,r⟩
  ·cases e:t.use with
   | none=>rw [e] at h;cases h
   | some ms=>rw [e] at h;cases h;obtain ⟨x,p,r⟩:=br e;exact ⟨x,.give p,r⟩
 case first t aN=>
  split at h
  ·next r=>cases h;exact ⟨_,.here _,r⟩
  ·cases e:t.use with
   | none=>rw [e] at h;cases h
   | some ms=>rw [e] at h;cases h;obtain ⟨x,p,r⟩:=aN e;exact ⟨x,.first p,r⟩
 case second t aN=>
  split at h
  ·next r=>cases h;exact ⟨_,.here _,r⟩
  ·cases e:t.use with
   | none=>rw [e] at h;cases h
   | some ms=>rw [e] at h;cases h;obtain ⟨x,p,r⟩:=aN e;exact ⟨x,.second p,r⟩
 case look t u v br bx fC=>
  split at h
  ·next r=>cases h;exact ⟨_,.here _,r⟩
  ·cases e:t.use with
   | none=>rw [e] at h;cases h
   | some ms=>rw [e] at h;cases h;obtain ⟨x,p,r⟩:=br e;exact ⟨x,.look p,r⟩
 case plus t u br bx=>
  split at h
  ·next r=>cases h;exact ⟨_,.here _,r⟩
  ·split at h
   ·cases e:u.use with
    | none=>rw [e] at h;cases h
    | some ms=>rw [e] at h;cases h;obtain ⟨x,p,r⟩:=bx e;exact ⟨x,.sI p,r⟩
   ·cases e:t.use with
    | none=>rw [e] at h;cases h
    | some ms=>rw [e] at h;cases h;obtain ⟨x,p,r⟩:=br e;exact ⟨x,.sH p,r⟩
theorem V_{t:Tm}:∀{z:List Int × Tm},t.ed=some z->da t z.1 z.2:=by
 induction t<;>intro z h<;>simp only [Tm.ed] at h<;>try (cases h;first | done | exact .here _)
 case pair t u br bx=>
  split at h
  ·next y e=>cases h;exact .sJ (br e)
  ·split at h
   ·next y e=>cases h;exact .sK (bx e)
   ·cases h
theorem Wa{t:Tm}{z:List Int × List Int}(h:t.gV=some z):∃ x,da t (z.1++z.2) x/\x.d1=true:=by
 unfold Tm.gV at h
 cases e:t.ed with
 | none=>rw [e] at h;cases h
 | some y=>
  rw [e] at h;simp only at h
  cases aL:y.2.use with
  | none=>rw [aL] at h;cases h
  | some ns=>
   rw [aL] at h;cases h;obtain ⟨x,p,r⟩:=V9 aL;exact ⟨x,(V_ e).app p,r⟩
structure nc(t:Tm):Prop where
 cl:t.cl 0
 mo:t.mo<=62
theorem Wb{x:Tm}(h:nc x)(am:x.d1=true):nc x.comes:=by
 obtain ⟨aE,hm⟩:=h
 cases x with
 | give b a=>
  cases b with
  | way b=>
   simp only [Tm.cl,Tm.mo] at aE hm;refine ⟨V5 aE.2 aE.1,?_⟩;have:=V7 aE.2 (b:=b) (w:=0);simp only [Tm.comes];omega
  | _=>cases am
 | first a=>
  cases a with
  | pair a b=>simp only [Tm.cl,Tm.mo] at aE hm;exact ⟨aE.1,by simp only [Tm.comes];omega⟩
  | _=>cases am
 | second a=>
  cases a with
  | pair a b=>simp only [Tm.cl,Tm.mo] at aE hm;exact ⟨aE.2,by simp only [Tm.comes];omega⟩
  | _=>cases am
 | plus a b=>
  cases a with
  | whole i=>
   cases b with
   | whole j=>exact ⟨trivial,by simp [Tm.comes,Tm.mo]⟩
   | _=>cases am
  | _=>cases am
 | look a b c=>
  cases a with
  | whole i=>
   simp only [Tm.cl,Tm.mo] at aE hm;simp only [Tm.comes];split
   ·exact ⟨aE.2.1,by omega⟩
   ·exact ⟨aE.2.2,by omega⟩
  | _=>cases am
 | _=>cases am
def vG:Tm->Prop
 | .give (.way b) a=>b.aB<=10000/\a.aB<=10000/\(na b).length < 64/\a.ja.length < 64
 | _=>True
theorem Wc{x:Tm}(h:nc x)(ax:x.aB<=3000):vG x:=by
 cases x with
 | give b a=>
  cases b with
  | way b=>
   have aE:=h.cl;have hm:=h.mo;simp only [Tm.cl,Tm.mo,Tm.aB] at aE hm ax;exact ⟨by omega,by omega,by rw [V4];omega,by rw [V2 aE.2];decide⟩
  | _=>trivial
 | _=>trivial
theorem Jl{t x:Tm}{ns:List Int}(h:nc t)(p:da t ns x)(am:x.d1=true):nc (t.behind ns)/\(t.behind ns).aB+x.aB=t.aB+x.comes.aB:=by
 obtain ⟨a,b,_⟩:=p.part
 have aF:nc x:=⟨a 0 h.cl,by have:=h.mo;omega⟩
 have aO:=Wb aF am;obtain ⟨c,d,e⟩:=p.ep x.comes
 have ea:t.behind ns=Tm.ep x.comes ns t:=by unfold Tm.behind;rw [p.at_]
 rw [ea];exact ⟨⟨c 0 h.cl aO.cl,by have:=h.mo;have:=aO.mo;omega⟩,e⟩
end L3
namespace L3
open PySem L2
def ra:Nat->Tm->Prop
 | 0,t=>t.aB<=3000
 | k+1,t=>t.aB<=3000/\∀ z u,t.gV=some z->t.at (z.1++z.2)=some u->vG u/\((t.behind (z.1++z.2)).over=false->ra k (t.behind (z.1++z.2)))
theorem ra.aB{k:Nat}{t:Tm}(h:ra k t):t.aB<=3000:=by cases k with
 | zero=>exact h
 | succ k=>exact h.1
def BN:cS:=λ ds G Q=>∃ t:Tm,ds=[t.enc]/\t.aB<=10000/\t.ja.length < 64/\∀ ms,m5 t.ja ms->∀ l,G l=none->Q (.ref l) (up G l (.lst (ms.map D.int)))
def BO(T:Addr)(pos:Pos):cS:=λ ds G Q=>∃(u:Tm)(l:Addr)(ws:List Nat),ds=[u.enc,.ref l]/\G l=some (.lst (ws.map λ(w:Nat)=>D.int (w:Int)))/\ws.length < 64/\u.aB<=10000/\u.ja.length < 64/\G T=some (.tab pos "lifted.<locals>.moved")/\∀ d kvs,G d=none->VE kvs u ws->Q (.ref d) (up G d (.c4 kvs))
def BP(T:Addr)(pos:Pos)(eo:Addr)(dj:Pos):cS:=λ ds G Q=>∃ t u:Tm,ds=[t.enc,u.enc]/\t.aB<=10000/\u.aB<=10000/\(na t).length < 64/\u.ja.length < 64/\G T=some (.tab pos "lifted.<locals>.moved")/\G eo=some (.tab dj "put_in.<locals>.taken")/\Q (t.bU (et u) 0).enc G
section
variable(T:Addr)(pos:Pos)(eo:Addr)(dj:Pos)
def BQ:cS:=λ ds G Q=>∃ t:Tm,ds=[t.enc]/\t.d1=true/\vG t/\nb T pos eo dj G/\Q t.comes.enc G
def BR:cS:=λ ds G Q=>∃(t:Tm)(ns:List Int)(u:Tm),ds=[t.enc,er ns]/\t.at ns=some u/\u.d1=true/\vG u/\ns.length<=10000/\nb T pos eo dj G/\Q (t.behind ns).enc G
def BS:cS:=λ ds G Q=>∃(t:Tm)(k:Nat),ds=[t.enc,.int k]/\ra k t/\k<=1000/\nb T pos eo dj G/\∀ l,G l=none->Q (.tup [.str (e9 k t).1,(e9 k t).2.1.enc,.ref l]) (up G l (.lst ((e9 k t).2.2.map er)))
def yv:cS:=λ ds G Q=>∃(t:Tm)(k:Nat),ds=[t.enc,.int k]/\ra k t/\k<=1000/\nb T pos eo dj G/\Q (.tup [.str (e9 k t).1,(e9 k t).2.1.enc,.int (e9 k t).2.2.length]) G
end
def Tm.gives:Tm->Option (Tm × Tm)
 | .give (.way b) a=>some (b,a)
 | _=>none
def nd(t x:Tm):Int:=match x with
 | .give (.way b) a=>(t.aB:Int) - 2 - a.aB+(b.b6 0:Int) * ((a.aB:Int) - 1)
 | _=>t.aB
theorem Wd{t x:Tm}{ns:List Int}(h:nc t)(p:da t ns x)(am:x.d1=true):((t.behind ns).aB:Int)<=nd t x:=by
 obtain ⟨_,e⟩:=Jl h p am;obtain ⟨aE,_⟩:=p.part;have aF:=aE 0 h.cl
 cases x with
 | give b a=>
  cases b with
  | way b=>
   simp only [Tm.cl] at aF;have s:=V8 aF.2 (b:=b) (w:=0);simp only [Tm.comes,Tm.aB,nd] at e ⊢;have aD:=a.lX
   have m:(b.b6 0:Int) * ((a.aB:Int) - 1)=((b.b6 0 * a.aB:Nat):Int) - (b.b6 0:Int):=by
    rw [Int.mul_sub,Int.mul_one,Int.natCast_mul]
   rw [m];omega
  | _=>cases am
 | first a=>
  cases a with
  | pair a b=>simp only [Tm.comes,Tm.aB,nd] at e ⊢;omega
  | _=>cases am
 | second a=>
  cases a with
  | pair a b=>simp only [Tm.comes,Tm.aB,nd] at e ⊢;omega
  | _=>cases am
 | plus a b=>
  cases a with
  | whole i=>
   cases b with
   | whole j=>simp only [Tm.comes,Tm.aB,nd] at e ⊢;omega
   | _=>cases am
  | _=>cases am
 | look a b c=>
  cases a with
  | whole i=>
   simp only [Tm.comes,Tm.aB,nd] at e ⊢;split at e<;>omega
  | _=>cases am
 | _=>cases am
def BT(t:Tm)(ns:List Int):Tm:=(t.at ns).getD (.name 0)
def fR:Nat->Tm->Option (Str × Tm × Nat)
 | 0,t=>match t.gV with
  | none=>some (fin t,t,0)
  | some _=>some ("more", t,0)
 | k+1,t=>match t.gV with
  | none=>some (fin t,t,0)
  | some z=>if 300 < nd t (BT t (z.1++z.2)) then none else if 100 < (t.behind (z.1++z.2)).aJ then some ("great", t,0) else (fR k (t.behind (z.1++z.2))).map λ r=>(r.1,r.2.1,r.2.2+1)
structure ov(t:Tm):Prop where
 yw:nc t
 aB:t.aB<=300
 aJ:t.aJ<=100
theorem Jm{t:Tm}{z:List Int × List Int}(h:ov t)(hz:t.gV=some z):∃ x,da t (z.1++z.2) x/\x.d1=true/\t.at (z.1++z.2)=some x/\BT t (z.1++z.2)=x/\vG x/\x.aJ<=100/\(¬ 300 < nd t x->(t.behind (z.1++z.2)).aB<=300)/\nc (t.behind (z.1++z.2)):=by
 obtain ⟨x,p,am⟩:=Wa hz;obtain ⟨a,b,c,d⟩:=p.part
 have aF:nc x:=⟨a 0 h.yw.cl,by have:=h.yw.mo;omega⟩
 refine ⟨x,p,am,p.at_,by unfold BT;rw [p.at_];rfl,Wc aF (by have:=h.aB;omega),by have:=h.aJ;omega,λ aE=>?_,(Jl h.yw p am).1⟩;have:=Wd h.yw p am;omega
theorem vH:∀(k:Nat)(t:Tm)(r:Str × Tm × Nat),ov t->fR k t=some r->((e9 k t).1=r.1/\(e9 k t).2.1=r.2.1/\(e9 k t).2.2.length=r.2.2)/\ra k t/\ov r.2.1/\r.2.2<=k
 | 0,t,r,h,e=>by
  unfold fR at e;unfold e9
  cases hz:t.gV with
  | none=>rw [hz] at e;cases e;exact ⟨⟨rfl,rfl,rfl⟩,by have:=h.aB;show t.aB<=3000;omega,h,b7 _⟩
  | some z=>rw [hz] at e;cases e;exact ⟨⟨rfl,rfl,rfl⟩,by have:=h.aB;show t.aB<=3000;omega,h,b7 _⟩
 | k+1,t,r,h,e=>by
  unfold fR at e;unfold e9
  have ax:t.aB<=3000:=by have:=h.aB;omega
  cases hz:t.gV with
  | none=>
   rw [hz] at e;cases e;exact ⟨⟨rfl,rfl,rfl⟩,⟨ax,λ z u e=>by rw [hz] at e;cases e⟩,h,e0 _⟩
  | some z=>
   rw [hz] at e;simp only at e ⊢;obtain ⟨x,p,am,l3,BU,BV,We,o8,gy⟩:=Jm h hz;rw [BU] at e;split at e
   ·cases e
   ·next aE=>
    have k0:=o8 aE
    have a4:(t.behind (z.1++z.2)).over=decide (100 < (t.behind (z.1++z.2)).aJ):=by
     unfold Tm.over;rw [decide_eq_false (by omega)];rfl
    split at e
    ·next aZ=>
     cases e;rw [a4,if_pos (decide_eq_true aZ)];refine ⟨⟨rfl,rfl,rfl⟩,⟨ax,λ hV u aP aL=>?_⟩,h,e0 _⟩;rw [hz] at aP;cases aP;rw [l3] at aL;cases aL;exact ⟨BV,λ o=>by rw [a4,decide_eq_true aZ] at o;cases o⟩
    ·next aZ=>
     rw [a4,if_neg (by rw [decide_eq_true_eq];exact aZ)]
     cases aQ:fR k (t.behind (z.1++z.2)) with
     | none=>rw [aQ] at e;cases e
     | some q=>
      rw [aQ] at e;cases e
      have yx:ov (t.behind (z.1++z.2)):=⟨gy,k0,by omega⟩
      obtain ⟨⟨br,bx,fC⟩,Wf,Wg,Wh⟩:=vH k _ q yx aQ;refine ⟨⟨br,bx,by rw [dH,fC]⟩,⟨ax,λ hV u aP aL=>?_⟩,Wg,Nat.succ_le_succ Wh⟩;rw [hz] at aP;cases aP;rw [l3] at aL;cases aL;exact ⟨BV,λ _=>Wf⟩
theorem Jn(t:Tm):fin t≠"more":=by unfold fin;split<;>decide
theorem Jo:∀(k:Nat)(t:Tm)(r:Str × Tm × Nat),fR k t=some r->r.1 = "more"->r.2.2=k/\∀ m q,fR m r.2.1=some q->fR (k+m) t=some (q.1,q.2.1,k+q.2.2)
 | 0,t,r,e,hm=>by
  unfold fR at e
  cases hz:t.gV with
  | none=>rw [hz] at e;cases e;exact absurd hm (Jn t)
  | some z=>rw [hz] at e;cases e;exact ⟨rfl,λ m q bv=>by rw [tx,bv,tx]⟩
 | k+1,t,r,e,hm=>by
  unfold fR at e
  cases hz:t.gV with
  | none=>rw [hz] at e;cases e;exact absurd hm (Jn t)
  | some z=>
   rw [hz] at e;simp only at e;split at e
   ·cases e
   ·next aE=>
    split at e
    ·cases e;exact absurd (show ("great" : Str) = "more" from hm) (by decide)
    ·next aZ=>
     cases aQ:fR k (t.behind (z.1++z.2)) with
     | none=>rw [aQ] at e;cases e
     | some q=>
      rw [aQ] at e;cases e;obtain ⟨br,bx⟩:=Jo k _ q aQ hm;refine ⟨by simp only;rw [br],λ m p az=>?_⟩;rw [show k+1+m=(k+m)+1 by omega,fR,hz];simp only;rw [if_neg aE,if_neg aZ,bx m p az];simp only [nB];rw [show k+p.2.2+1=k+1+p.2.2 by omega]
def yy:Option (Str × Tm × Nat)->D
 | none=>.bJ
 | some r=>.tup [.str r.1,r.2.1.enc,.int r.2.2]
structure Jp(p:Tm)(z d:Int)(m:Nat):Prop where
 aB:(p.aB:Int)<=z
 aJ:(p.aJ:Int)<=d
 cl:p.cl m
def ow(n:Nat):cS:=λ ds G Q=>match ds with
 | [.ref a,.int many,.int room,.int deep]=>gE G a/\0<=many/\many+deep < 2 ^ 32/\room < 1000/\0<=deep/\deep < n/\∀(p:Tm) ap,dS a G ap->Jp p (3 * max room 0+1) deep many.toNat->Q p.enc ap
 | _=>False
def vI(n:Nat):cS:=λ ds G Q=>∃ a t,ds=[.ref a,Ty.enc t]/\gE G a/\t.aB<=n/\∀(p:Tm) ap,dS a G ap->p.aB<=t.aB->p.aJ<=t.aB->(∀ m,p.cl m)->Q p.enc ap
def k1(G:aX)(l a:Addr)(d:Int)(m:Nat):Prop:=l≠a/\∃ tys:List Ty,G l=some (.lst (tys.map Ty.enc))/\(tys.length:Int)+d<=100/\(∀ t∈tys,t.aB<=60)/\tys.length=m
theorem k1.fY{G ap:aX}{l a:Addr}{d:Int}{m:Nat}(h:k1 G l a d m)(u:dS a G ap):k1 ap l a d m:=by
 obtain ⟨ne,tys,e,r⟩:=h;exact ⟨ne,tys,by rw [u.other ne];exact e,r⟩
theorem k1.less{G:aX}{l a:Addr}{d e:Int}{m:Nat}(h:k1 G l a d m)(u:e<=d):k1 G l a e m:=by
 obtain ⟨ne,tys,q,r,s⟩:=h;exact ⟨ne,tys,q,by omega,s⟩
theorem k1.new{G:aX}{l a p:Addr}{d:Int}{m:Nat}{o:eS}(h:k1 G l a d m)(n:G p=none):k1 (up G p o) l a d m:=by
 obtain ⟨ne,tys,e,r⟩:=h;exact ⟨ne,tys,by rw [c7 (by rintro rfl;rw [n] at e;cases e)];exact e,r⟩
structure vJ(p:Tm)(room deep:Int)(m:Nat):Prop where
 aB:(p.aB:Int)<=80 * max room 1 - 10
 aJ:(p.aJ:Int)<=deep+60
 cl:p.cl m
def sL(n:Nat):cS:=λ ds G Q=>∃ a t l room deep m,ds=[.ref a,Ty.enc t,.ref l,.int room,.int deep]/\gE G a/\k1 G l a deep m/\room<=50/\0<=deep/\deep < n/\(t.aB:Int)+4 * deep<=60/\∀(p:Tm) ap,dS a G ap->vJ p room deep m->Q p.enc ap
def sM(n:Nat):cS:=λ ds G Q=>∃ a t l room deep m,ds=[.ref a,Ty.enc t,.ref l,.int room,.int deep]/\gE G a/\k1 G l a deep m/\3<=room/\room<=50/\1<=deep/\deep<=n/\(t.aB:Int)+4 * deep<=60/\∀(p:Tm) ap,dS a G ap->vJ p room deep m->Q p.enc ap
def vK:cS:=λ ds G Q=>match ds with
 | [.ref a]=>gE G a/\∀(p:Tm) ap,dS a G ap->p.aB<=60->p.aJ<=12->p.cl 0->Q p.enc ap
 | _=>False
def vL:cS:=λ ds G Q=>match ds with
 | [.ref a]=>gE G a/\∀(p:Tm) ap,dS a G ap->p.aB<=60->p.aJ<=75->p.cl 0->Q p.enc ap
 | _=>False
def vM(n:Nat):cS:=λ ds G Q=>∃(t u:Tm)(w:Nat),ds=[t.enc,u.enc,.int w]/\t.aJ < n/\u.aJ < 101/\Q (t.bU (et u) w).enc G
def BW:cS:=λ ds G Q=>∃ t:Tm,ds=[t.enc]/\t.d1=true/\t.aJ < 101/\Q t.comes.enc G
def BX:cS:=λ ds G Q=>∃ t:Tm,ds=[t.enc]/\t.aJ<=100/\Q (vb t.nx) G
def vN(n:Nat):cS:=λ ds G Q=>∃(t:Tm)(w:Nat),ds=[t.enc,.int w]/\t.aJ < n/\Q (.int (t.b6 w)) G
def vO(n:Nat):cS:=λ ds G Q=>∃ t:Tm,ds=[t.enc]/\t.aJ < n/\Q (.int t.aJ) G
def BY:cS:=λ ds G Q=>∃(t x:Tm)(ns:List Int),ds=[t.enc,er ns]/\t.at ns=some x/\x.d1=true/\t.aJ<=100/\t.aB<=300/\Q (.int (nd t x)) G
def yz:cS:=λ ds G Q=>∃(t:Tm)(k:Nat),ds=[t.enc,.int k]/\ov t/\k<=100/\Q (yy (fR k t)) G
def BZ(T:Addr)(pos:Pos)(eo:Addr)(dj:Pos):cS:=λ ds G Q=>∃(t:Tm)(k:Nat),ds=[t.enc,.int k]/\ov t/\k<=100/\nb T pos eo dj G/\Q (.aU true) G
def B0:cS:=λ ds G Q=>∃(a:Addr)(t:Tm),ds=[.ref a,t.enc]/\gE G a/\t.cl 0/\t.aB<=60/\t.aJ<=75/\∀(p:Tm) ap,dS a G ap->p.aB<=62->p.aJ<=80->p.cl 0->Q p.enc ap
theorem Jq(t:Tm):t.nx=t.gV.map λ z=>z.1++z.2:=by
 unfold Tm.nx Tm.gV
 cases t.ed with
 | none=>rfl
 | some z=>simp only;cases z.2.use<;>rfl
end L3
namespace L3
open PySem PySem.Spec PyProof.Rows L2
def rb(val:Nat->Int):Nat->Nat->Option Int->Option Int
 | 0,_,o=>o
 | k+1,j,o=>rb val k (j+1) (some (match o with
  | none=>val j
  | some b=>if val j > b then val j else b))
def rd(d:Int):List Int->Int
 | []=>d
 | a::r=>r.foldl (λ b x=>if x > b then x else b) a
def Jr(d:Value)(o:Option Int)(v:Value):Prop:=match o with
 | none=>v=d
 | some b=>∃ t,v=.int b t
theorem Wi(a d:Value):Wp "max" ⟨[a],[(Str.ofString "default", d)]⟩:=by unfold Wp;kernel_rfl
section
variable{prog:ck}{w:bW}{A:c1}{R:p0->aC->Prop}{I:Addr}{fp wr:List Addr}{n:Nat}{P:Nat->Value->Prop}{St:Nat->bL->Prop}
theorem Wj(W:Walks prog w A.in1 I fp wr n P St)(val:Nat->Int)(bC:∀ i v,P i v->∃ t,v=.int (val i) t)(d:Value)(S:Addr)(ke:S ∉ fp) :
 ∀(k j:Nat)(s:aC)(o:Option Value)(b:Option Int)(c:Nat),n=j+k->St j s.heap->(match o with | none=>b=none | some v=>∃ i,b=some i/\∃ t,v=.int i t) →
 s.heap.get? S=some { cls:=.type "list", dict:=none,data:=.seq (match o with | none=>#[] | some v=>#[v,v]) c,slots:=#[] } →
 (∀ v h' tk,Jr d (rb val k j b) v->(∀ b o,b ∉ wr->b≠S->s.heap.get? b=some o->h'.get? b=some o)->R (.ok (.ret v)) { s with heap:=h',toks:=tk }) →
 hT (aI prog w) A (.builtin "max.loop" ⟨[.ref I,.none,.ref S],[(Str.ofString "default", d)]⟩) R s:=by
 have Js:S ∉ wr:=λ h=>ke (W.sub _ h)
 have nm:(toString "max"++toString ".loop" : String) = "max.loop":=by decide
 have lf:∀ h:bL,∀ g,(∀ b∈fp,∀ o,h.get? b=some o->(h.update S g).get? b=some o):=λ h g b ag o e=>(jY _ _ (λ x:S=b=>ke (by rw [x];exact ag))).trans e;intro k
 induction k with
 | zero=>
  intro j s o b c aO hC a4 cX cF;refine l_ F.entry_max_loop ?_;rw [Around.under_plainId F.plain_max_loop _];refine ao (ma cX rfl ?_);refine ao (Vs (W.done s _ _ (by rw [aO];exact hC) λ h' tk keep=>?_));have gQ:=keep S _ Js cX
  cases o with
  | none=>
   subst a4;exact ao (hx (a3 (cF d _ tk rfl λ b o ag _ e=>keep b o ag e)))
  | some v=>
   obtain ⟨i,rfl,t,rfl⟩:=a4;refine ao (nh gQ rfl (ao (pT (a3 ?_))));exact cF _ _ tk ⟨t,rfl⟩ λ b o ag ax e=>(jY _ _ (Ne.symm ax)).trans (keep b o ag e)
 | succ k aN=>
  intro j s o b c aO hC a4 cX cF;refine l_ F.entry_max_loop ?_;rw [Around.under_plainId F.plain_max_loop _];refine ao (ma cX rfl ?_);refine ao (Vs (W.item j s _ _ (by omega) hC λ v h' tk gg B1 keep=>?_));have gQ:=keep S _ Js cX;obtain ⟨t,rfl⟩:=bC j v gg
  cases o with
  | none=>
   subst a4;refine ao (a3 (ao (nh gQ rfl ?_)));rw [nm];refine a3 ⟨ku F.plain_max_loop _,aN (j+1) _ (some (.int (val j) t)) (some (val j)) _ (by omega) (W.frame _ _ _ B1 (lf _ _)) ⟨_,rfl,t,rfl⟩ (il _ gQ rfl) λ v aq vP m df=>cF v aq vP m λ b o ag ax e=>df b o ag ax ((jY _ _ (Ne.symm ax)).trans (keep b o ag e))⟩
  | some v=>
   obtain ⟨i,rfl,u,rfl⟩:=a4
   have cmp:∀(s:aC)(Q:Value->aC->Prop)(E:Value->aC->Prop),Q (.bool (decide (val j > i))) s->aG (aI prog w) A.in1 (richCompare .Gt (.int (val j) t) (.int i u)) Q E s:=λ s Q E h=>
    CmpOf.ints_gt (P:=λ(x:Nat) (v:Value)=>∃ t,v=.int (if x=0 then val j else i) t) (λ x=>if x=0 then val j else i) (λ _ _ h=>h) 0 1 _ _ s Q E ⟨t,rfl⟩ ⟨u,rfl⟩ h
   refine ao (a3 (ao (Vs (g_ (ao (cmp _ _ _ ?_))))));refine ao (g_ (pQ ?_));refine ao (pT (a3 ?_));by_cases ag:val j > i
   ·rw [if_pos (decide_eq_true ag)];refine ao (nh gQ rfl (ao (pT ?_)));rw [nm];refine a3 ⟨ku F.plain_max_loop _,aN (j+1) _ (some (.int (val j) t)) (some (val j)) _ (by omega) (W.frame _ _ _ B1 (lf _ _)) ⟨_,rfl,t,rfl⟩ (il _ gQ rfl) λ v aq vP m df=>cF v aq vP ?_ λ b o ag ax e=>df b o ag ax ((jY _ _ (Ne.symm ax)).trans (keep b o ag e))⟩;simp only [rb,if_pos ag];exact m
   ·rw [if_neg (λ h=>ag (of_decide_eq_true h))];refine ao (pT ?_);rw [nm];refine a3 ⟨ku F.plain_max_loop _,aN (j+1) _ (some (.int i u)) (some i) c (by omega) B1 ⟨_,rfl,u,rfl⟩ gQ λ v aq vP m df=>cF v aq vP ?_ λ b o ag ax e=>df b o ag ax (keep b o ag e)⟩;simp only [rb,if_neg ag];exact m
end
def Wk:Option Int->List Int->Option Int
 | none,[]=>none
 | none,a::r=>some (r.foldl (λ b x=>if x > b then x else b) a)
 | some b,l=>some (l.foldl (λ b x=>if x > b then x else b) b)
theorem Jt(ns:List Int):∀(k j:Nat)(o:Option Int),ns.length=j+k->rb (λ i=>ns.getD i 0) k j o=Wk o (ns.drop j)
 | 0,j,o,h=>by
  rw [List.drop_of_length_le (by omega)];cases o<;>rfl
 | k+1,j,o,h=>by
  have cP:j < ns.length:=by omega
  have iJ:ns.getD j 0=ns[j]:=by rw [mm,gb cP];rfl
  show rb (λ i=>ns.getD i 0) k (j+1) (some (match o with | none=>ns.getD j 0 | some b=>if ns.getD j 0 > b then ns.getD j 0 else b))=_;rw [Jt ns k (j+1) _ (by omega),iJ,p3 cP];cases o<;>rfl
section
variable{prog:ck}{w:bW}{A:c1}{E:Value->aC->Prop}{s:aC}{l:Addr}{xs:Array (Int × Tok)}
theorem Wl{Q:Value->aC->Prop}{d:Value}(dt:A.handled=none)(aQ:s.heap.IsList l (intItems xs))
 (h:∀ v h' tk,Jr d (rb (numAt xs) xs.size 0 none) v->(∀ b o,s.heap.get? b=some o->h'.get? b=some o)->Q v { s with heap:=h',toks:=tk }) :
 aG (aI prog w) A (call (.builtin "max") [.ref l] [(Str.ofString "default", d)]) Q E s:=by
 refine td (codeAny_call_builtin F.plain_max F.entry_max ?_)
 have key:aG (aI prog w) A.in1 (Builtin.«max» ⟨[.ref l],[(Str.ofString "default", d)]⟩) (λ fin s'=>match fin with
  | .done f=>(match (Except.ok f:p0) with | .ok (.ret v)=>Q v s' | .ok _=>False | .error e=>E e s')
  | .again b_=>b_.quiet=true/\hT (aI prog w) A b_ (λ r s'=>match r with | .ok (.ret v)=>Q v s' | .ok _=>False | .error e=>E e s') s') E s:=by
  refine ao (tb (show Builtin.Builtins.bindParams "max" ["key", "default"] 0 ⟨[],[(Str.ofString "default", d)]⟩=pure [none,some d] from rfl) ?_);refine ao (a3 (ao (iter_intList aQ λ lh e st qv Wm=>?_)));subst e;refine ao (hu ?_);have W:=Walks.list (prog:=prog) (w:=w) (A:=A.in1) dt _ l Wm (intItems xs);rw [show (toString "max"++toString ".loop" : String) = "max.loop" by decide];refine a3 ⟨ku F.plain_max_loop _,Wj W (numAt xs) (λ _ _=>intItems_at) d _ (λ hm=>jU _ (qv _ hm)) xs.size 0 _ none none _ (by simp [intItems]) (W.frame _ _ _ st λ b _ o e=>cm _ e) rfl (d2 _ rfl) λ v h' tk m keep=>?_⟩;exact h v h' tk m (old_kept λ b o ag e=>keep b o ag (dp (cJ e)) (cm _ e))
 simp only [checkBuiltinCall,F.kind_max]
 cases Wn:Manifest.signature? "max" with
 | none=>exact a3 key
 | some sig=>
  have aD:Bind.checkArgs "max" sig ⟨[.ref l],[(Str.ofString "default", d)]⟩=pure ():=by simpa only [Wp,Wn] using Wi (.ref l) d
  simp only [aD];exact a3 key
end
section
variable{X:bb}{p pos cE jM:Pos}{e:bg}
theorem Wo(aE:X.calm=true){pins:List (Addr × Obj)}{s:aC}{σ:L2.St}{H:ay}{l:Addr}{ns:List Int}{i:Int}{u:Value}{Q:cK}(I:Inv X pins σ H s)(fA:d7 X.K H l (ns.map V.int))(dP:RelV (.int i) u)(h:Q (.int (rd i ns)) H) :
 aG (aI X.prog X.w) X.A (call (.builtin "max") [.ref l] [(Str.ofString "default", u)]) (L2.da X pins σ Q) X.xe s:=by
 obtain ⟨aM,be,cW,_⟩:=I.list fA;have ar:=FG be;obtain ⟨xs,e⟩:=ar.allInts.items;have aQ:=cW.isList;rw [e] at aQ;have aL:numsOf aM.toArray.toList=ns:=ar.numsOf;rw [e,PySem.nums_intItems] at aL
 refine Wl (I.ok.hd aE) aQ λ v h' tk m keep=>⟨.int (rd i ns),H,I.kept keep,?_,h⟩
 have qM:numAt xs=λ j=>ns.getD j 0:=by funext j;rw [PySem.numAt_eq,aL]
 have l4:xs.size=ns.length:=by rw [<- aL];simp
 rw [qM,l4,Jt ns ns.length 0 none (by omega),tn] at m
 cases ns with
 | nil=>cases (show v=u from m);exact dP
 | cons a r=>exact m
def B2(i:Int):D->aX->c8->Prop:=λ x G Q=>match x with
 | .ref l=>gB G l λ ds=>∃ ns,mY ds=some ns/\Q (.int (rd i ns)) G
 | _=>False
abbrev Wq(i:Int)(t:fM):cj:=λ ρ G Q=>t ρ G λ ds aA=>match ds with
 | [x]=>B2 i x aA Q
 | _=>False
theorem Wr{i:Int}{t:eD}{j:Nat}(aE:X.calm=true)(aZ:di X "max")(hm:X.mg "max" = none)(aD:hc X [e] t)(ax:dw e=true) :
 bX X (.Call (.Name "max" p) [e] [⟨some "default", .Constant (.int i) j cE,jM⟩] pos) (λ σ H Q=>t σ H λ ai H1=>∃ l ns,ai=[.ref l]/\d7 X.K H1 l (ns.map V.int)/\Q (.int (rd i ns)) H1):=by
 intro pins s σ H Q I h;refine iM (iU I aZ hm PyProof.Rows.boot_max ?_);refine callWith_kw (b5 (aD pos pins s σ H _ I h) λ us s1 ⟨ai,H1,a6,bj,l,ns,ev,fA,aH⟩=>kws_cons (wpAny_Constant_int (kws_nil ?_))) ?_ (qs (by rw [iP,ax];rfl)) rfl rfl
 ·subst ev;obtain ⟨u,rfl,bu⟩:=rT bj;cases bu;exact Wo aE (a6.tok _) fA ⟨_,rfl⟩ aH
 ·rw [eH ax];rfl
theorem Ws{i:Int}{t:fM}{j:Nat}(aE:X.calm=true)(aZ:di X "max")(hm:X.mg "max" = none)(aD:h7 X [e] t)(ax:dw e=true:=by rfl):bZ X (.Call (.Name "max" p) [e] [⟨some "default", .Constant (.int i) j cE,jM⟩] pos) (Wq i t):=by
 obtain ⟨ca,cM,cN⟩:=aD.run;refine ⟨_,⟨Wr aE aZ hm cM.run ax⟩,λ ρ G au σ H Q B jy F=>cN ρ G _ σ H _ B jy λ G9 aA OY lJ g1 al _ aH=>?_⟩;split at aH
 ·next x=>
  obtain ⟨v,r,rfl,a_,cf⟩:=al;cases (show r=[] from cf);unfold B2 at aH;split at aH
  ·next l=>
   cases a_;obtain ⟨ds,ws,⟨ns,e,k⟩,fA,dZ⟩:=hJ g1.b3 aH;rw [uP e] at dZ;rw [dZ.ints] at fA;exact ⟨l,ns,rfl,fA,F (.int (rd i ns)) aA _ lJ g1 rfl k⟩
  ·exact aH.elim
 ·exact aH.elim
end
end L3
namespace L3
open PySem L2
theorem Ju{α:Type}(x:α)(r:List α):cut (x::r) (some 1) none=r:=yt (xs:=x::r) (k:=0) (by simp)
theorem Tm.Jv(t:Tm):(∃ k,t.args=[.int k]/\t.aV=[])\/t.args=t.aV.map Tm.enc:=by
 cases t with
 | name k=>exact .inl ⟨_,rfl,rfl⟩
 | whole k=>exact .inl ⟨_,rfl,rfl⟩
 | _=>exact .inr rfl
theorem Tm.Wt(t:Tm):rd 0 (t.aV.map λ u=>1+(u.aJ:Int))=t.aJ:=by
 cases t<;>simp only [Tm.aV,ew,oN,rd,List.foldl_cons,List.foldl_nil,Tm.aJ]<;>(try split)<;>(try split)<;>omega
theorem Tm.Wu{t:Tm}(h:∀ k,t≠.name k)(w:Nat):(t.aV.map λ u=>(u.b6 (t.b9 w):Int)).sum=(t.b6 w:Int):=by
 cases t with
 | name k=>exact absurd rfl (h k)
 | _=>simp [Tm.aV,Tm.b9,Tm.b6]<;>omega
theorem Tm.Wv(t:Tm)(w:Nat):(t.b9 w:Int)=(w:Int)+(if (t.word=="way")=true then 1 else 0):=by
 cases t<;>simp [Tm.b9,Tm.word,hK]
theorem Jw{o:Tm}:∀(ns:List Int){t u:Tm},t.at ns=some u->(Tm.ep o ns t).aJ<=max t.aJ (ns.length+o.aJ)/\ns.length+u.aJ<=t.aJ
 | [],t,u,h=>by cases h;rw [Tm.ep];simp only [gZ];omega
 | k::ns,t,u,h=>by
  obtain ⟨h0,x,ak,aq⟩:=Tm.qX h;rw [Tm.ep,mm,ak];have z:=Jh (t:=t) (o:=Tm.ep o ns ((some x).getD (.name 0))) (k:=k.toNat);have y:=Jw ns (o:=o) aq;have w:=Tm.gF (ih ak);have e:(some x).getD (Tm.name 0)=x:=rfl;rw [e] at z ⊢;rw [dH];omega
theorem Ww{t u:Tm}{ns:List Int}(h:t.at ns=some u)(am:u.d1=true):(t.behind ns).aJ<=2 * t.aJ:=by
 unfold Tm.behind;rw [h];have:=Jw ns (o:=u.comes) h;have:=VU am;show (Tm.ep u.comes ns t).aJ<=_;omega
def Wx(i j:Int):List Tm:=[.first (.whole 5),.give (.whole i) (.whole 1),.way (.name 0),.pair (.whole 1) (.whole j),.look (.way (.name 0)) (.whole 1) (.whole 2)]
theorem Wy{i j d:Int}(jN:0<=d)(hg:d < 5):∃ o:Tm,gi ((Wx i j).map Tm.enc) d=some o.enc/\o.aB<=5/\o.aJ<=2/\o.cl 0:=by
 rcases (by omega:d=0\/d=1\/d=2\/d=3\/d=4) with rfl | rfl | rfl | rfl | rfl
 all_goals exact ⟨_,rfl,by simp [Tm.aB],by simp [Tm.aJ],by simp [Tm.cl]⟩
theorem yA(x:Str)(t:Tm)(n:Int):(D.tup [.str x,t.enc,.int n]).plain=true:=by
 simp only [D.plain,pz,Tm.S9,Bool.and_true,dH,gZ];exact decide_eq_true (by omega)
theorem yB{x:Str}{t:Tm}{n:Int}(h:t.aJ<=100):(D.tup [.str x,t.enc,.int n]).aJ < 115:=by simp only [D.aJ,g8,Tm.A1];omega
def FnAt(K:bl)(x q:Str)(st:bB)(f:Addr)(cd:Value):Prop:=∃(b6:Value)(dA:Option Addr)(dO doc pm:Value)(an:Option Addr)(ct:Value)(gM:Array (Option Value)),
 K.lookup f=some ⟨b6,dA,.func (k_ x q (j7 st) (gP st) (b1 st) .none dO doc pm an cd ct),gM⟩/\p4 K cd q=true/\mq K (.ref f)=true
def DT(K:bl)(x:Str)(st:bB):Prop:=∃(f:Addr)(cd:Value),fT K ef x=some (some (.ref f))/\FnAt K x x st f cd
def DTc(K:bl)(x:Str)(st:bB)(c:Addr):Prop:=∃ f:Addr,fT K ef x=some (some (.ref f))/\FnAt K x x st f (.ref c)
section
variable{K:bl}{x m q:Str}{st:bB}{C c:Addr}
theorem DT.mk{f:Addr}{cd b6 dO doc pm ct:Value}{dA an:Option Addr}{gM:Array (Option Value)}(a:fT K ef x=some (some (.ref f)))(l:K.lookup f=some ⟨b6,dA,.func (k_ x x (j7 st) (gP st) (b1 st) .none dO doc pm an cd ct),gM⟩)(k:p4 K cd x=true)(p:mq K (.ref f)=true):DT K x st:=⟨f,cd,a,_,_,_,_,_,_,_,_,l,k,p⟩
theorem DTc.mk{f:Addr}{b6 dO doc pm ct:Value}{dA an:Option Addr}{gM:Array (Option Value)}(a:fT K ef x=some (some (.ref f)))(l:K.lookup f=some ⟨b6,dA,.func (k_ x x (j7 st) (gP st) (b1 st) .none dO doc pm an (.ref c) ct),gM⟩)(k:p4 K (.ref c) x=true)(p:mq K (.ref f)=true):DTc K x st c:=⟨f,a,_,_,_,_,_,_,_,_,l,k,p⟩
theorem DT.ok(h:DT K x st):∃(f:Addr)(fd:f9),fT K ef x=some (some (.ref f))/\c3 K x x st f fd:=
 let ⟨f,_,a,_,_,_,_,_,_,_,_,l,k,p⟩:=h;⟨f,_,a,Op l k p⟩
theorem DTc.ok(h:DTc K x st c):∃(f:Addr)(fd:f9),fT K ef x=some (some (.ref f))/\sB K x x st f fd c/\mq K (.ref f)=true:=
 let ⟨f,a,_,_,_,_,_,_,_,_,l,k,p⟩:=h;⟨f,_,a,⟨⟨_,_,_,_,_,_,_,_,rfl,l,k⟩⟩,p⟩
theorem sB.fun{f:Addr}{fd:f9}(F:sB K x q st f fd c)(k:mq K (.ref f)=true):c3 K x q st f fd:=by
 obtain ⟨b6,dA,dO,doc,pm,an,ct,gM,h⟩:=F.ex;exact ⟨⟨b6,dA,dO,doc,pm,an,_,ct,gM,h⟩,k⟩
end
theorem gn{α:Type}{P:List α->Prop}(h:∀ a,P [a]):∀ us:List α,us.length=1->P us
 | [a],_=>h a
theorem gW{α:Type}{P:List α->Prop}(h:∀ a b,P [a,b]):∀ us:List α,us.length=2->P us
 | [a,b],_=>h a b
theorem sN{α:Type}{P:List α->Prop}(h:∀ a b c,P [a,b,c]):∀ us:List α,us.length=3->P us
 | [a,b,c],_=>h a b c
theorem Jx{α:Type}{P:List α->Prop}(h:∀ a b c d,P [a,b,c,d]):∀ us:List α,us.length=4->P us
 | [a,b,c,d],_=>h a b c d
theorem B3{α:Type}{P:List α->Prop}(h:∀ a b c d e,P [a,b,c,d,e]):∀ us:List α,us.length=5->P us
 | [a,b,c,d,e],_=>h a b c d e
end L3
namespace L2
open PySem PySem.Spec PyProof.Rows
section
variable{X:bb}{a:bg}{bw:TE}{pos:Pos}
def Wz(K:bl)(bw:TE):TE:=λ σ H Q=>bw σ H λ x H1=>∃ k,w0 K x H1 k/\Q (.aU (!k)) H1
theorem WA(aD:bX X a bw):bX X (.UnaryOp .Not a pos) (Wz X.K bw):=by
 intro pins s σ H Q I h;refine UnaryOp_ (b5 (aD pins s σ H _ I h) λ v s1 ⟨x,H1,a6,bj,k,aO,aH⟩=>not_of ?_)
 exact b5 (Fn pins s1 σ H1 x v (λ c aS=>Q (.aU (!c)) aS) a6 bj ⟨k,aO,aH⟩) λ c s2 ⟨aS,cy,bI⟩=>⟨.aU (!c),aS,cy,rfl,bI⟩
end
end L2
namespace L3
open PySem PyProof L2
section
variable{X:bb}{a:bg}{bw:cj}{pos:Pos}
abbrev WB(bw:cj):cj:=λ ρ G Q=>bw ρ G λ x aA=>Hd x aA λ c=>Q (.aU (!c)) aA
theorem WC(aD:bZ X a bw):bZ X (.UnaryOp .Not a pos) (WB bw):=by
 obtain ⟨ca,cM,cN⟩:=aD.run;refine ⟨_,⟨WA cM.run⟩,λ ρ G au σ H Q B q F=>cN ρ G _ σ H _ B q λ x aA v H1 g1 a_ aH=>?_⟩
 cases x with
 | bJ=>cases a_;exact ⟨_,rfl,F (.aU _) _ _ _ g1 rfl aH⟩
 | aU b=>cases a_;exact ⟨_,rfl,F (.aU _) _ _ _ g1 rfl aH⟩
 | int i=>cases a_;exact ⟨_,rfl,F (.aU _) _ _ _ g1 rfl aH⟩
 | str y=>cases a_;exact ⟨_,⟨aH.1,rfl⟩,F (.aU _) _ _ _ g1 rfl aH.2⟩
 | ref l=>
  cases a_;obtain ⟨ds,ai,k,s,r⟩:=hJ g1.b3 aH;exact ⟨_,.inl ⟨ai,s,rfl⟩,by rw [r.isEmpty];exact F (.aU _) _ _ _ g1 rfl k⟩
 | tup ds=>
  obtain ⟨l,ai,rfl,s,r⟩:=a_;exact ⟨_,.inr (.inl ⟨ai,s,rfl⟩),by rw [r.isEmpty];exact F (.aU _) _ _ _ g1 rfl aH⟩
 | ty n=>exact (show False from aH).elim
 | dY ds=>exact (show False from aH).elim
end
end L3
namespace KB
open PySem L2
def top(i:Nat):bB:=PySem.Challenge.pw_kindbags_k19_whole_runs_rule_by_rule.main.body.getD i (.Pass ⟨0,0,0,0⟩)
structure e_(mg:Str->Option Value):Prop where
 len:mg "len" = none
 isinstance:mg "isinstance" = none
 range:mg "range" = none
 int:mg "int" = none
 bool:mg "bool" = none
 str:mg "str" = none
 tuple:mg "tuple" = none
 list:mg "list" = none
 zip:mg "zip" = none
 sorted:mg "sorted" = none
 set:mg "set" = none
 all:mg "all" = none
 reversed:mg "reversed" = none
 min:mg "min" = none
 max:mg "max" = none
 sum:mg "sum" = none
end KB
namespace KB
open PySem
abbrev Jy:List Str:=["thing", "inners_of"]
abbrev Jz:List Str:=["thing", "inners_of", "most", "deepest"]
abbrev JA:List Str:=["trail"]
abbrev JB:List Str:=["program"]
abbrev JC:List Str:=["program"]
abbrev JD:List Str:=["program"]
abbrev JE:List Str:=["program"]
abbrev JF:List Str:=["program"]
abbrev JG:List Str:=["program"]
abbrev JH:List Str:=["program", "ways"]
abbrev JI:List Str:=["program", "many", "least"]
abbrev JJ:List Str:=["program", "other"]
abbrev JK:List Str:=["program", "depths"]
abbrev JL:List Str:=["program", "change"]
abbrev JM:List Str:=["program", "place"]
abbrev JN:List Str:=["program", "place", "other"]
abbrev JO:List Str:=["program", "k", "other"]
abbrev JP:List Str:=["program", "place"]
abbrev JQ:List Str:=["program"]
abbrev JR:List Str:=["program", "place"]
abbrev JS:List Str:=["program"]
abbrev JT:List Str:=["program"]
abbrev JU:List Str:=["program"]
abbrev JV:List Str:=["program"]
abbrev JW:List Str:=["program"]
abbrev JX:List Str:=["program", "most"]
abbrev JY:List Str:=["program", "most"]
abbrev JZ:List Str:=["program"]
abbrev J0:List Str:=["_law_script", "_law_k"]
abbrev J1:List Str:=["_law_feed_here", "_law_many"]
abbrev J2:List Str:=["_law_feed_here"]
abbrev J3:List Str:=["_law_feed_here", "_law_deep_here"]
abbrev J4:List Str:=["_law_feed_here", "_law_want"]
abbrev J5:List Str:=["_law_feed_here", "_law_want", "_law_names", "_law_room", "_law_deep_here"]
abbrev J6:List Str:=["_law_feed_here", "_law_want", "_law_names", "_law_room", "_law_deep_here"]
abbrev J7:List Str:=["_law_feed_here", "_law_want", "_law_names", "_law_room", "_law_deep_here"]
abbrev J8:List Str:=["_law_feed_here"]
abbrev J9:List Str:=["_law_feed_here", "_law_many", "_law_room", "_law_deep_here"]
abbrev J_:List Str:=["_law_program_here"]
abbrev Ka:List Str:=["_law_feed_here"]
abbrev Kb:List Str:=["_law_part"]
abbrev Kc:List Str:=["_law_part", "_law_many", "_law_least_here"]
abbrev Kd:List Str:=["_law_part", "_law_other", "_law_ways"]
abbrev Ke:List Str:=["_law_part"]
abbrev Kf:List Str:=["_law_program_here", "_law_place", "_law_other"]
abbrev Kg:List Str:=["_law_program_here", "_law_place"]
abbrev Kh:List Str:=["_law_part"]
abbrev Ki:List Str:=["_law_program_here"]
abbrev Kj:List Str:=["_law_found", "_law_due"]
abbrev Kk:List Str:=["_law_part"]
abbrev Kl:List Str:=["_law_part", "_law_ways"]
abbrev Km:List Str:=["_law_program_here", "_law_place"]
abbrev Kn:List Str:=["_law_program_here", "_law_most"]
abbrev Ko:List Str:=["_law_program_here", "_law_most"]
abbrev Kp:List Str:=["_law_feed_here", "_law_program_here"]
end KB
namespace KB
open PySem L2 L3
section
variable{P:ck}{w:bW}{K:bl}{mg:Str->Option Value}{base:bL}{f:Addr}{fd:f9}
set_option maxHeartbeats 4000000
abbrev B4:bB:=top 42
theorem B5:c9 ["_law_feed_here", "_law_many", "_law_digit", "_law_one"] ["_law_feed_here", "_law_many"] (b1 B4):=⟨rfl,rfl,rfl,by decide +kernel,rfl,by decide +kernel,by decide +kernel⟩
theorem WD(F:c3 K "_law_take" "_law_take" B4 f fd):cp P w K mg base cc 1 f fd ["_law_feed_here", "_law_many"] (aK K iG):=by
 refine dn (k:=0) F B5 (λ ds G au h=>?_) (λ bE A outer s H E am ds G au h=>?_)
 ·unfold iG at h;split at h
  ·rfl
  ·exact h.elim
 unfold iG at h;split at h
 case h_2=>exact h.elim
 next a m=>
 obtain ⟨⟨x,y,es⟩,h0,ak,q⟩:=h
 refine ⟨_,(aR (cv (bR h8 (a8 a9 (ae 0) av (λ _ _=>rfl)) av (bA _)) (aR (bG (k:=2) B5.aY rfl (Or.inl rfl) (bH n6 (a8 a9 (ae 0) av (λ _ _=>rfl)) (ae 1)))
  (aR (Hf (bH qI (a8 a9 (ae 0) av (λ _ _=>rfl)) (ae 1)) (HF (ae 0) av))
  (bd (bz (ae 2))))) cI)
  (aR (bG (k:=3) B5.aY rfl (Or.inl rfl) (bH n6 (bH mV (a8 a9 (ae 0) av (λ _ _=>rfl)) av) av))
  (aR (Hf (bH dN (bH n6 (bH dN (bH mV (ae 3) av) av) av) av) (HF (ae 0) av))
  (bd (bz (bH n6 (bH qI (bH dN (bH mV (ae 3) av) (a8 a9 (ae 0) av (λ _ _=>rfl))) av) (ae 1))))))),?_⟩
 refine cY es ⟨λ c=>?_,λ c=>?_⟩
 ·refine cY es ⟨h0,cY es ⟨⟨h0,by omega⟩,ez es ⟨0,rfl,bh.of (q _ _ .mk (wN _ (by omega)) (wM _ h0))⟩⟩⟩
 ·refine cY es ⟨.inr ⟨by decide,by decide⟩,by simp,.inr ⟨by decide,by decide⟩,by simp,ez es ⟨1,rfl,.inr ⟨by decide,by decide⟩,cY bF ⟨⟨by decide,by decide⟩,h0,bh.of (q _ _ .mk (wN _ (by omega)) (wM _ h0))⟩⟩⟩
abbrev B6:bB:=top 41
theorem sO:c9 ["_law_script", "_law_k", "_law_cell", "_law_own"] ["_law_script", "_law_k"] (b1 B6):=⟨rfl,rfl,rfl,by decide +kernel,rfl,by decide +kernel,by decide +kernel⟩
theorem WE(B:e_ mg)(F:c3 K "_law_feed" "_law_feed" B6 f fd):cp P w K mg base cc 1 f fd ["_law_script", "_law_k"] (aK K u5):=by
 refine dn (k:=0) F sO (λ ds G au h=>?_) (λ bE A outer s H E am ds G au h=>?_)
 ·unfold u5 at h;split at h
  ·rfl
  ·exact h.elim
 unfold u5 at h;split at h
 case h_2=>exact h.elim
 next ss k=>
 obtain ⟨ns,rfl,aQ,h0,ak,q⟩:=h;have fin:∀ x y:Int,∀ p,G p=none->bh au (.ref p) (up G p (qU x y)):=λ x y p az=>bh.of (q p x y az)
 have Kq:∀ j:Int,0<=j->j < ns.length->∃ v,gi (ns.map D.int) j=some (.int v):=λ j WG hp=>by
  refine ⟨ns[j.toNat],?_⟩;have e:=lp (xs:=ns.map D.int) (j:=j.toNat) (v:=D.int ns[j.toNat]) (by simp [show j.toNat < ns.length by omega])
  rwa [show ((j.toNat:Nat):Int)=j by omega] at e
 refine ⟨_,(aR (bG (k:=2) sO.aY rfl (Or.inl rfl) (bH dN (bH mV av (ae 1)) av))
  (aR (cv (bR iB (ae 1) (fB kh rfl B.len jX (af (ae 0) aw)) (bA _)) (bd (bG (k:=2) sO.aY rfl (Or.inl rfl) (a8 a9 (ae 0) (ae 1) (λ _ _=>rfl)))) (bd (cv (bR h8 (fB kh rfl B.len jX (af (ae 0) aw)) av (bA _)) (bd (bG (k:=2) sO.aY rfl (Or.inl rfl) (bH dN (bH mV (bH n6 (a8 a9 (ae 0) (bH n6 (ae 1) (fB kh rfl B.len jX (af (ae 0) aw))) (λ _ _=>rfl)) av) av) (bH mV av (ae 1))))) cI)))
  (aR (bG (k:=3) sO.aY rfl (Or.inl rfl) av)
  (aR (cv (bR sh (ae 2) (bH R4 av av) (bA _)) (bd (bG (k:=3) sO.aY rfl (Or.inl rfl) (ae 2))) cI)
  (bd (bz (hI (af (ae 3) (af (bH dN (bH n6 (bH dN (bH mV (bH n6 (ae 2) av) av) (bH mV av (ae 1))) av) av) aw))))))))),?_⟩
 refine ⟨.inl ⟨by decide,by decide⟩,⟨λ c=>?_,λ c=>?_⟩⟩
 ·have b_:k < ns.length:=by simpa using c
  obtain ⟨v,bC⟩:=Kq k h0 b_;refine (Hj bC ⟨⟨by decide,by decide,by decide⟩,λ c=>?_,λ c=>?_⟩)
  ·exact ⟨by simp,.inr ⟨by decide,by decide⟩,.inl ⟨by decide,by decide⟩,by simp,λ p az=>fin _ _ p az⟩
  ·exact ⟨by simp,.inr ⟨by decide,by decide⟩,.inl ⟨by decide,by decide⟩,by simp,λ p az=>fin _ _ p az⟩
 ·refine ⟨λ c=>?_,λ c=>?_⟩
  ·have b_:0 < ns.length:=by
    have:(0:Int) < (ns.map D.int).length:=by simpa using c
    simpa using this
   obtain ⟨v,bC⟩:=Kq (k % (ns.map D.int).length) (wN _ (show ((ns.map D.int).length:Int)≠0 by rw [bS];omega)) (by have:=wM k (show (0:Int) < (ns.map D.int).length by simpa using b_);simpa using this);refine ⟨by simpa using b_,?_⟩;refine (Hj bC ⟨by simp,.inr ⟨by decide,by decide⟩,.inl ⟨by decide,by decide⟩,⟨by decide,by decide,by decide⟩,λ c=>?_,λ c=>?_⟩)
   ·exact ⟨by simp,.inr ⟨by decide,by decide⟩,.inl ⟨by decide,by decide⟩,by simp,λ p az=>fin _ _ p az⟩
   ·exact ⟨by simp,.inr ⟨by decide,by decide⟩,.inl ⟨by decide,by decide⟩,by simp,λ p az=>fin _ _ p az⟩
  ·refine ⟨⟨by decide,by decide,by decide⟩,λ c=>?_,λ c=>?_⟩
   ·exact ⟨by simp,.inr ⟨by decide,by decide⟩,.inl ⟨by decide,by decide⟩,by simp,λ p az=>fin _ _ p az⟩
   ·exact ⟨by simp,.inr ⟨by decide,by decide⟩,.inl ⟨by decide,by decide⟩,by simp,λ p az=>fin _ _ p az⟩
abbrev B7:bB:=top 43
theorem Kr:c9 ["_law_feed_here", "_law_form"] ["_law_feed_here"] (b1 B7):=⟨rfl,rfl,rfl,by decide +kernel,rfl,by decide +kernel,by decide +kernel⟩
theorem WH(d0:Got P w K mg base 1 "_law_take" ["_law_feed_here", "_law_many"] (aK K iG))(F:c3 K "_law_whole" "_law_whole" B7 f fd):cp P w K mg base cc 2 f fd ["_law_feed_here"] (aK K i7):=by
 refine dn (k:=1) F Kr (λ ds G au h=>?_) (λ bE A outer s H E am ds G au h=>?_)
 ·unfold i7 at h;split at h
  ·rfl
  ·exact h.elim
 unfold i7 at h;split at h
 case h_2=>exact h.elim
 next a=>
 obtain ⟨es,q⟩:=h
 refine ⟨_,(aR (bG (k:=1) Kr.aY rfl (Or.inl rfl) (bn d0 am (by omega) rfl (af (ae 0) (af av aw))))
  (aR (cv (bR iB (ae 1) av (bA _)) (bd (bz (bP (af bf (af (od (af av (af av (af (xJ xN av) (af av aw)))) (ae 1) (λ _ _=>rfl)) aw))))) cI)
  (aR (cv (bR iB (ae 1) av (bA _)) (bd (bz (bP (af bf (af (bH dV (bn d0 am (by omega) rfl (af (ae 0) (af av aw))) av) aw))))) cI)
  (bd (bz (bP (af bf (af (bH dV (bn d0 am (by omega) rfl (af (ae 0) (af av aw))) av) aw)))))))),?_⟩
 refine ⟨es,by decide,by decide,λ d aA bY jN hg=>⟨λ c=>?_,λ c=>⟨λ dE=>?_,λ dE=>?_⟩⟩⟩
 ·exact S2 jN (by simpa using c) (λ _=>bh.of (q 0 _ bY (by decide) (by decide))) (λ _=>bh.of (q 1 _ bY (by decide) (by decide))) (λ _=>bh.of (q (-1) _ bY (by decide) (by decide))) (λ _=>bh.of (q 2 _ bY (by decide) (by decide)))
 ·exact ⟨bY.fd,by decide,by decide,λ e bc cg cf aP=>bh.of (q (e - 5) _ (bY.trans cg) (by omega) (by omega))⟩
 ·exact ⟨bY.fd,by decide,by decide,λ e bc cg cf aP=>bh.of (q (e - 999999999) _ (bY.trans cg) (by omega) (by omega))⟩
abbrev B8:bB:=top 9
theorem WI:c9 ["program"] ["program"] (b1 B8):=⟨rfl,rfl,rfl,by decide +kernel,rfl,by decide +kernel,by decide +kernel⟩
theorem WJ(F:c3 K "inner" "inner" B8 f fd):cp P w K mg base cc 1 f fd ["program"] (aK K (jH Tm.enc Tm.aV)):=by
 refine dn (k:=0) F WI (λ ds G au h=>?_) (λ bE A outer s H E am ds G au h=>?_)
 ·obtain ⟨t,rfl,_⟩:=h;rfl
 obtain ⟨t,rfl,q⟩:=h
 refine ⟨_,(aR (cv (fN.at (kM (bR (cR (cC am)) (a8 a9 (ae 0) av (λ _ _=>rfl)) bf (bA _)) (lT (bR (cR (cC am)) (a8 a9 (ae 0) av (λ _ _=>rfl)) bf (bA _))))) (bd (bz (bP aw))) cI)
  (bd (bz (kP kR (ae 0) (kO av) kN)))),?_⟩
 cases t with
 | name k=>exact ⟨λ _=>⟨λ _=>bh.of q,nofun⟩,λ c=>absurd c (by decide)⟩
 | whole k=>exact ⟨λ c=>absurd c (by decide),λ _=>⟨λ _=>bh.of q,λ c=>absurd c (by decide)⟩⟩
 | _=>exact ⟨λ c=>absurd c (by decide),λ _=>⟨λ c=>absurd c (by decide),λ _=>bh.of q⟩⟩
abbrev B9:bB:=top 27
theorem Ks:c9 ["program", "word"] ["program"] (b1 B9):=⟨rfl,rfl,rfl,by decide +kernel,rfl,by decide +kernel,by decide +kernel⟩
theorem WK(F:c3 K "has_rule" "has_rule" B9 f fd):cp P w K mg base cc 1 f fd ["program"] (aK K (qV Tm.d1)):=by
 refine dn (k:=0) F Ks (λ ds G au h=>?_) (λ bE A outer s H E am ds G au h=>?_)
 ·obtain ⟨t,rfl,_⟩:=h;rfl
 obtain ⟨t,rfl,q⟩:=h
 refine ⟨_,(aR (bG (k:=1) Ks.aY rfl (Or.inl rfl) (a8 a9 (ae 0) av (λ _ _=>rfl)))
  (aR (cv (bR (cR (cC am)) (ae 1) bf (bA _)) (bd (bz (fg (cR (cC am)) (a8 a9 (a8 a9 (ae 0) av (λ _ _=>rfl)) av (λ _ _=>rfl)) bf (bA _)))) cI)
  (aR (cv (fN.at (kM (bR (cR (cC am)) (ae 1) bf (bA _)) (lT (bR (cR (cC am)) (ae 1) bf (bA _))))) (bd (bz (fg (cR (cC am)) (a8 a9 (a8 a9 (ae 0) av (λ _ _=>rfl)) av (λ _ _=>rfl)) bf (bA _)))) cI)
  (aR (cv (bR (cR (cC am)) (ae 1) bf (bA _)) (bd (bz (lS (fg (cR (cC am)) (a8 a9 (a8 a9 (ae 0) av (λ _ _=>rfl)) av (λ _ _=>rfl)) bf (bA _)) (lR (fg (cR (cC am)) (a8 a9 (a8 a9 (ae 0) av (λ _ _=>rfl)) av (λ _ _=>rfl)) bf (bA _)))))) cI)
  (bd (bz (lS (fg (cR (cC am)) (ae 1) bf (bA _)) (lR (fg (cR (cC am)) (a8 a9 (a8 a9 (ae 0) av (λ _ _=>rfl)) av (λ _ _=>rfl)) bf (bA _)))))))))),?_⟩
 cases t with
 | give t u=>
  rw [HN] at q;simp only [Tm.enc];rw [t.gT];exact ⟨λ _=>bh.of q,λ c=>absurd c (by decide)⟩
 | first t=>
  rw [HO] at q;simp only [Tm.enc];rw [t.gT];exact ⟨λ c=>absurd c (by decide),λ _=>⟨λ _=>⟨λ _=>bh.of q,nofun⟩,λ c=>absurd c (by decide)⟩⟩
 | second t=>
  rw [HP] at q;simp only [Tm.enc];rw [t.gT];exact ⟨λ c=>absurd c (by decide),λ _=>⟨λ c=>absurd c (by decide),λ _=>⟨λ _=>bh.of q,λ c=>absurd c (by decide)⟩⟩⟩
 | plus t u=>
  rw [HQ] at q;simp only [Tm.enc];rw [t.gT,u.gT];refine ⟨λ c=>absurd c (by decide),λ _=>⟨λ c=>absurd c (by decide),λ _=>⟨λ c=>absurd c (by decide),λ _=>⟨λ _=>⟨λ c=>?_,λ c=>?_⟩,λ c=>absurd c (by decide)⟩⟩⟩⟩
  ·rw [show (t.word==Str.ofString "whole")=true from c] at q;exact bh.of q
  ·rw [show (t.word==Str.ofString "whole")=false from c] at q;exact bh.of q
 | look t u v=>
  rw [HR] at q;simp only [Tm.enc];rw [t.gT];exact ⟨λ c=>absurd c (by decide),λ _=>⟨λ c=>absurd c (by decide),λ _=>⟨λ c=>absurd c (by decide),λ _=>⟨λ c=>absurd c (by decide),λ _=>⟨λ _=>bh.of q,λ c=>absurd c (by decide)⟩⟩⟩⟩⟩
 | _=>exact ⟨λ c=>absurd c (by decide),λ _=>⟨λ c=>absurd c (by decide),λ _=>⟨λ c=>absurd c (by decide),λ _=>⟨λ c=>absurd c (by decide),λ _=>⟨λ c=>absurd c (by decide),λ _=>bh.of q⟩⟩⟩⟩⟩
abbrev B_:bB:=top 44
theorem Ca:c9 ["_law_feed_here", "_law_deep_here", "_law_form", "_law_one"] ["_law_feed_here", "_law_deep_here"] (b1 B_):=⟨rfl,rfl,rfl,by decide +kernel,rfl,by decide +kernel,by decide +kernel⟩
theorem WL:cp P w K mg base cc 2 f fd ["_law_feed_here", "_law_deep_here"] (aK K (oh 0)):=kV λ ds G au h=>by
 unfold oh at h;split at h
 ·obtain ⟨_,ak,aq,_⟩:=h;omega
 ·exact h
theorem WM{n:Nat}(d0:Got P w K mg base 1 "_law_take" ["_law_feed_here", "_law_many"] (aK K iG))(ox:Got P w K mg base (n+2) "_law_type" ["_law_feed_here", "_law_deep_here"] (aK K (oh n)))
 (F:c3 K "_law_type" "_law_type" B_ f fd):cp P w K mg base cc (n+3) f fd ["_law_feed_here", "_law_deep_here"] (aK K (oh (n+1))):=by
 refine dn (k:=n+2) F Ca (λ ds G au h=>?_) (λ bE A outer s H E am ds G au h=>?_)
 ·unfold oh at h;split at h
  ·rfl
  ·exact h.elim
 unfold oh at h;split at h
 case h_2=>exact h.elim
 next a deep=>
 obtain ⟨es,jN,hg,q⟩:=h
 have Kt:∀ k,1<=sv k:=λ k=>by cases k<;>simp [sv]
 refine ⟨_,(aR (bG (k:=2) Ca.aY rfl (Or.inl rfl) (bn d0 am (by omega) rfl (af (ae 0) (af av aw))))
  (aR (cv (fN.at (kM (bR (cR (cC am)) (ae 1) av (bA _)) (lT (bR iB (ae 2) av (bA _))))) (bd (bz bf)) cI)
  (aR (bG (k:=3) Ca.aY rfl (Or.inl rfl) (bn ox am (by omega) rfl (af (ae 0) (af (bH dV (ae 1) av) aw))))
  (bd (bz (bP (af (od (af bf (af bf (af bf aw))) (bH dV (ae 2) av) (λ _ _=>rfl)) (af (ae 3) (af (bn ox am (by omega) rfl (af (ae 0) (af (bH dV (ae 1) av) aw))) aw))))))))),?_⟩
 refine ⟨es,by decide,by decide,λ ko aA bY f0 f1=>⟨λ dF=>⟨λ _=>bh.of (q .n aA bY (Kt _)),nofun⟩,λ dF=>⟨λ dE=>bh.of (q .n aA bY (Kt _)),λ dE=>?_⟩⟩⟩
 have aP:deep≠0:=by simpa using dF
 have aL:¬ ko < 3:=by simpa using dE
 have ea:sv deep.toNat=1+2 * sv (deep - 1).toNat:=by
  rw [show deep.toNat=(deep - 1).toNat+1 by omega];rfl
 refine ⟨bY.fd,by omega,by omega,λ t bc cg z=>?_⟩;refine A2 (i:=ko - 3) (by omega) (by omega) (λ _=>?_) (λ _=>?_) (λ _=>?_)
 ·exact ⟨(bY.trans cg).fd,by omega,by omega,λ c2 cQ du b8=>bh.of (q (.f t c2) cQ ((bY.trans cg).trans du) (by simp only [Ty.aB];omega))⟩
 ·exact ⟨(bY.trans cg).fd,by omega,by omega,λ c2 cQ du b8=>bh.of (q (.p t c2) cQ ((bY.trans cg).trans du) (by simp only [Ty.aB];omega))⟩
 ·exact ⟨(bY.trans cg).fd,by omega,by omega,λ c2 cQ du b8=>bh.of (q (.f t c2) cQ ((bY.trans cg).trans du) (by simp only [Ty.aB];omega))⟩
abbrev Cb:bB:=top 51
theorem WN:c9 ["_law_program_here"] ["_law_program_here"] (b1 Cb):=⟨rfl,rfl,rfl,by decide +kernel,rfl,by decide +kernel,by decide +kernel⟩
theorem WO:cp P w K mg base cc 1 f fd ["_law_program_here"] (aK K (oi 0)):=kV λ ds G au h=>by
 obtain ⟨_,_,h,_⟩:=h;omega
theorem WQ{n:Nat}(B:e_ mg)(jO:Got P w K mg base (n+1) "_law_parts" ["_law_program_here"] (aK K (oi n)))(F:c3 K "_law_parts" "_law_parts" Cb f fd):cp P w K mg base cc (n+2) f fd ["_law_program_here"] (aK K (oi (n+1))):=by
 refine dn (k:=n+1) F WN (λ ds G au h=>?_) (λ bE A outer s H E am ds G au h=>?_)
 ·obtain ⟨_,rfl,_⟩:=h;rfl
 obtain ⟨t,rfl,hd,hz,q⟩:=h;rw [t.S5] at q;refine ⟨_,(bd (bz (bH dN av (pw (fB (Hl rfl) rfl B.sum PyProof.Rows.boot_sum (af (u1 rfl (ey.of (N':=["_law_one"]) (nt:=1) (cap:=[]) rfl (by kernel_rfl)) (h9 (k:=0) (by decide)) (iC (kP kR (ae 0) (kO av) kN)) (λ _ _ _ _=>(gD (k:=0) (show List.Nodup (["_law_one"]:List Str) by decide +kernel) rfl (Or.inl rfl))) (λ _ _ _ _=>(gC (fB oe rfl B.isinstance nC (af (ae 0) (af (n1 rfl B.tuple mt) aw))))) (λ _ _ _ _=>(bn jO am (by omega) rfl (af (ae 0) aw)))) aw)))))),?_⟩
 have turn:∀ u∈t.aV,oi n [u.enc] G=oi n [u.enc] G/\u.aJ < n/\u.aB<=100000:=λ u a0=>by
  have ak:=Tm.gF a0;have aq:=Tm.x5 a0;exact ⟨rfl,by omega,by omega⟩
 have fin:∀ p,G p=none->AE (.ref p) (up G p (.lst (t.aV.filterMap λ u=>some (.int (u.aB:Int))))) (λ d ap=>∃ bc,Sub bc ap/\Hg (.int 1) d bc (bh au)):=λ p az=>by
  refine cY bF ⟨t.aV.map λ u=>(u.aB:Int),?_,G,Sub.new (Sub.refl _) az,bh.of q⟩;rw [show (t.aV.filterMap λ u=>some (D.int (u.aB:Int)))=(t.aV.map λ u=>(u.aB:Int)).map D.int by simp [List.filterMap_eq_map']];exact sk _
 cases t with
 | name k=>
  refine iD [()] (λ _=>.int k) (λ _=>none) ?_ ?_ ?_ ?_ ?_
  ·rfl
  ·exact dx (by simp)
  ·trivial
  ·exact λ _ _ R S cF cX=>⟨false,rfl,nofun,λ _=>cX rfl⟩
  ·exact λ p az=>fin p az
 | whole k=>
  refine iD [()] (λ _=>.int k) (λ _=>none) ?_ ?_ ?_ ?_ ?_
  ·rfl
  ·exact dx (by simp)
  ·trivial
  ·exact λ _ _ R S cF cX=>⟨false,rfl,nofun,λ _=>cX rfl⟩
  ·exact λ p az=>fin p az
 | way a=>
  refine iD (Tm.way a).aV Tm.enc (λ u=>some (.int (u.aB:Int))) ?_ ?_ ?_ ?_ ?_
  ·rfl
  ·exact dx (by simp [Tm.aV])
  ·trivial
  ·exact λ u a0 R S cF cX=>oj ⟨λ _=>⟨u,rfl,(turn u a0).2.1,(turn u a0).2.2,cF _ rfl⟩,nofun⟩
  ·exact λ p az=>fin p az
 | give a b=>
  refine iD (Tm.give a b).aV Tm.enc (λ u=>some (.int (u.aB:Int))) ?_ ?_ ?_ ?_ ?_
  ·rfl
  ·exact dx (by simp [Tm.aV])
  ·trivial
  ·exact λ u a0 R S cF cX=>oj ⟨λ _=>⟨u,rfl,(turn u a0).2.1,(turn u a0).2.2,cF _ rfl⟩,nofun⟩
  ·exact λ p az=>fin p az
 | pair a b=>
  refine iD (Tm.pair a b).aV Tm.enc (λ u=>some (.int (u.aB:Int))) ?_ ?_ ?_ ?_ ?_
  ·rfl
  ·exact dx (by simp [Tm.aV])
  ·trivial
  ·exact λ u a0 R S cF cX=>oj ⟨λ _=>⟨u,rfl,(turn u a0).2.1,(turn u a0).2.2,cF _ rfl⟩,nofun⟩
  ·exact λ p az=>fin p az
 | first a=>
  refine iD (Tm.first a).aV Tm.enc (λ u=>some (.int (u.aB:Int))) ?_ ?_ ?_ ?_ ?_
  ·rfl
  ·exact dx (by simp [Tm.aV])
  ·trivial
  ·exact λ u a0 R S cF cX=>oj ⟨λ _=>⟨u,rfl,(turn u a0).2.1,(turn u a0).2.2,cF _ rfl⟩,nofun⟩
  ·exact λ p az=>fin p az
 | second a=>
  refine iD (Tm.second a).aV Tm.enc (λ u=>some (.int (u.aB:Int))) ?_ ?_ ?_ ?_ ?_
  ·rfl
  ·exact dx (by simp [Tm.aV])
  ·trivial
  ·exact λ u a0 R S cF cX=>oj ⟨λ _=>⟨u,rfl,(turn u a0).2.1,(turn u a0).2.2,cF _ rfl⟩,nofun⟩
  ·exact λ p az=>fin p az
 | plus a b=>
  refine iD (Tm.plus a b).aV Tm.enc (λ u=>some (.int (u.aB:Int))) ?_ ?_ ?_ ?_ ?_
  ·rfl
  ·exact dx (by simp [Tm.aV])
  ·trivial
  ·exact λ u a0 R S cF cX=>oj ⟨λ _=>⟨u,rfl,(turn u a0).2.1,(turn u a0).2.2,cF _ rfl⟩,nofun⟩
  ·exact λ p az=>fin p az
 | look a b c=>
  refine iD (Tm.look a b c).aV Tm.enc (λ u=>some (.int (u.aB:Int))) ?_ ?_ ?_ ?_ ?_
  ·rfl
  ·exact dx (by simp [Tm.aV])
  ·trivial
  ·exact λ u a0 R S cF cX=>oj ⟨λ _=>⟨u,rfl,(turn u a0).2.1,(turn u a0).2.2,cF _ rfl⟩,nofun⟩
  ·exact λ p az=>fin p az
abbrev Cc:bB:=top 53
theorem WR:c9 ["_law_part"] ["_law_part"] (b1 Cc):=⟨rfl,rfl,rfl,by decide +kernel,rfl,by decide +kernel,by decide +kernel⟩
theorem WS(F:c3 K "_law_can" "_law_can" Cc f fd):cp P w K mg base cc 1 f fd ["_law_part"] (aK K (qV Tm.d1)):=by
 refine dn (k:=0) F WR (λ ds G au h=>?_) (λ bE A outer s H E am ds G au h=>?_)
 ·obtain ⟨t,rfl,_⟩:=h;rfl
 obtain ⟨t,rfl,q⟩:=h
 refine ⟨_,(aR (cv (bR (cR (cC am)) (a8 a9 (ae 0) av (λ _ _=>rfl)) bf (bA _)) (bd (bz (fg (cR (cC am)) (a8 a9 (a8 a9 (ae 0) av (λ _ _=>rfl)) av (λ _ _=>rfl)) bf (bA _)))) cI)
  (aR (cv (bR uN (a8 a9 (ae 0) av (λ _ _=>rfl)) (bP (af bf (af bf aw))) (by with_unfolding_all rfl)) (bd (bz (fg (cR (cC am)) (a8 a9 (a8 a9 (ae 0) av (λ _ _=>rfl)) av (λ _ _=>rfl)) bf (bA _)))) cI)
  (aR (cv (bR (cR (cC am)) (a8 a9 (ae 0) av (λ _ _=>rfl)) bf (bA _)) (bd (bz (lS (fg (cR (cC am)) (a8 a9 (a8 a9 (ae 0) av (λ _ _=>rfl)) av (λ _ _=>rfl)) bf (bA _)) (lR (fg (cR (cC am)) (a8 a9 (a8 a9 (ae 0) av (λ _ _=>rfl)) av (λ _ _=>rfl)) bf (bA _)))))) cI)
  (bd (bz (lS (fg (cR (cC am)) (a8 a9 (ae 0) av (λ _ _=>rfl)) bf (bA _)) (lR (fg (cR (cC am)) (a8 a9 (a8 a9 (ae 0) av (λ _ _=>rfl)) av (λ _ _=>rfl)) bf (bA _))))))))),?_⟩
 cases t with
 | give t u=>
  rw [HN] at q;simp only [Tm.enc];rw [t.gT];exact ⟨λ _=>bh.of q,λ c=>absurd c (by decide)⟩
 | first t=>
  rw [HO] at q;simp only [Tm.enc];rw [t.gT];exact ⟨λ c=>absurd c (by decide),λ _=>⟨rfl,rfl,λ _=>bh.of q,λ c=>absurd c (by decide)⟩⟩
 | second t=>
  rw [HP] at q;simp only [Tm.enc];rw [t.gT];exact ⟨λ c=>absurd c (by decide),λ _=>⟨rfl,rfl,λ _=>bh.of q,λ c=>absurd c (by decide)⟩⟩
 | plus t u=>
  rw [HQ] at q;simp only [Tm.enc];rw [t.gT,u.gT];refine ⟨λ c=>absurd c (by decide),λ _=>⟨rfl,rfl,λ c=>absurd c (by decide),λ _=>⟨λ _=>⟨λ c=>?_,λ c=>?_⟩,λ c=>absurd c (by decide)⟩⟩⟩
  ·rw [show (t.word==Str.ofString "whole")=true from c] at q;exact bh.of q
  ·rw [show (t.word==Str.ofString "whole")=false from c] at q;exact bh.of q
 | look t u v=>
  rw [HR] at q;simp only [Tm.enc];rw [t.gT];exact ⟨λ c=>absurd c (by decide),λ _=>⟨rfl,rfl,λ c=>absurd c (by decide),λ _=>⟨λ c=>absurd c (by decide),λ _=>⟨λ _=>bh.of q,λ c=>absurd c (by decide)⟩⟩⟩⟩
 | _=>exact ⟨λ c=>absurd c (by decide),λ _=>⟨rfl,rfl,λ c=>absurd c (by decide),λ _=>⟨λ c=>absurd c (by decide),λ _=>⟨λ c=>absurd c (by decide),λ _=>bh.of q⟩⟩⟩⟩
abbrev Cd:bB:=top 16
theorem WT:c9 ["program", "ways"] ["program", "ways"] (b1 Cd):=⟨rfl,rfl,rfl,by decide +kernel,rfl,by decide +kernel,by decide +kernel⟩
theorem oEq(F:c3 K "ways_below" "ways_below" Cd f fd):cp P w K mg base cc 1 f fd ["program", "ways"] (aK K ye):=by
 refine dn (k:=0) F WT (λ ds G au h=>?_) (λ bE A outer s H E am ds G au h=>?_)
 ·obtain ⟨_,_,rfl,_⟩:=h;rfl
 obtain ⟨t,w,rfl,q⟩:=h;refine ⟨_,(bd (bz (n3 (bR (cR (cC am)) (a8 a9 (ae 0) av (λ _ _=>rfl)) bf (bA _)) (bH dN (ae 1) av) (ae 1)))),?_⟩
 cases t with
 | way a=>exact ⟨λ _=>bh.of (by simpa [Tm.b9] using q),λ c=>absurd c (by decide)⟩
 | _=>exact ⟨λ c=>absurd c (by decide),λ _=>bh.of q⟩
abbrev yC:bB:=top 17
theorem Ku:c9 ["program", "many", "least", "moved"] ["program", "many", "least"] (b1 yC):=⟨rfl,rfl,rfl,by decide +kernel,rfl,by decide +kernel,by decide +kernel⟩
abbrev kp:bB:=(gP yC).getD 0 (.Pass ⟨0,0,0,0⟩)
theorem WU:uD ["number", "ways", "many", "least"] ["number", "ways"] ["many", "least"] (b1 kp):=⟨rfl,rfl,rfl,by decide +kernel,rfl,rfl,by decide +kernel,by decide +kernel,by decide +kernel,by decide +kernel,by decide +kernel⟩
theorem WV{m l:Nat}:u7 P w K mg base 1 "moved" "lifted.<locals>.moved" kp ["many", "least"] [.int m,.int l] ["number", "ways"] (Bc (dT m l) (λ _ _=>True) []):=by
 refine Ib (k:=0) WU (λ ds G au h=>?_) (λ _ _ _ _ _ us aQ=>match us,aQ with | [_,_],_=>rfl) (λ f bE cl A outer s H am ds G au h=>?_)
 ·obtain ⟨_,_,rfl,_⟩:=h;rfl
 obtain ⟨n,w,rfl,_,_,q⟩:=h;refine ⟨_,(bd (bz (bP (af bf (af (n3 (bR sh (ae 0) (bH dN (ae 1) (ae 3)) (bA _)) (bH dN (ae 0) (ae 2)) (ae 0)) aw))))),?_⟩;refine ⟨λ c=>⟨Sub.refl _,?_⟩,λ c=>⟨Sub.refl _,?_⟩⟩
 ·have b_:(w:Int)+l<=n:=by simpa using c
  rw [dT,if_pos (by omega),Tm.enc,Int.natCast_add] at q;exact q
 ·have b_:¬ (w:Int)+l<=n:=by simpa using c
  rw [dT,if_neg (by omega),Tm.enc] at q;exact q
theorem WW{c Ce:Addr}(j9:PySem.W.CodeHd base c Ce)(gj:lM mg base)(sP:Got P w K mg base 3 "with_names" ["program", "change"] (aK K (yg P w K mg base 1)))(F:sB K "lifted" "lifted" yC f fd c):cp P w K mg base cc 4 f fd ["program", "many", "least"] (aK K (Be Ce (hN kp))):=by
 refine Ic (k:=3) F Ku (λ ds G au h=>?_) (λ A outer s H E am ds G au h=>?_)
 ·obtain ⟨_,_,_,rfl,_⟩:=h;rfl
 obtain ⟨t,m,l,rfl,bQ,hz,q⟩:=h
 refine ⟨_,(aR (HX (i:=3) (T:=Ce) (fr:=["many", "least"]) Ku.aY rfl (Or.inl rfl) rfl j9 gj (by kernel_rfl) rfl rfl rfl)
  (bd (bz (H6 (name:="moved") (qual:="lifted.<locals>.moved") (st:=kp) (fr:=["many", "least"]) (ix:=[1,2]) sP am (by omega) rfl (by decide +kernel) (by kernel_rfl) (af (ae 0) (af (ae 3) aw)))))),?_⟩
 refine ⟨bQ,λ f hf=>⟨f,[.int m,.int l],bF,rfl,λ i j h=>?_,t,f,_,_,_,_,_,_,dT m l,λ _ _=>True,[],rfl,bF,WV,λ y bD=>absurd bD (jj),hz,λ _ _=>trivial,rfl,G,Sub.new (Sub.refl _) hf,q⟩⟩;rcases i with _ | _ | i
 ·cases h;exact ⟨_,rfl,rfl⟩
 ·cases h;exact ⟨_,rfl,rfl⟩
 ·cases h
abbrev Cf:bB:=top 20
theorem rf:c9 ["program", "change", "made", "pending", "entry", "one", "inners", "below"] ["program", "change"] (b1 Cf):=⟨rfl,rfl,rfl,by decide +kernel,rfl,by decide +kernel,by decide +kernel⟩
theorem WX{f6:Nat}(B:e_ mg)(gG:Got P w K mg base 1 "inner" ["program"] (aK K (jH Tm.enc Tm.aV)))(sQ:Got P w K mg base 1 "ways_below" ["program", "ways"] (aK K ye))(F:c3 K "with_names" "with_names" Cf f fd):cp P w K mg base cc (f6+2) f fd ["program", "change"] (aK K (yg P w K mg base f6)):=by
 refine dn (k:=f6+1) F rf (λ ds G au h=>?_) (λ bE A outer s H E am ds G au h=>?_)
 ·obtain ⟨_,_,_,_,_,_,_,_,_,_,_,rfl,_⟩:=h;rfl
 obtain ⟨t,pG,name,qual,WY,fr,vals,ps,φ,C,L,rfl,hf,WZ,gd,hz,j9,q⟩:=h
 refine ⟨_,(aR (bG (k:=2) rf.aY rfl (Or.inr rfl) (hI aw))
  (aR (bG (k:=3) rf.aY rfl (Or.inl rfl) (hI (af (bP (af (ae 0) (af av (af kJ aw)))) aw)))
  (aR (lU PassesOwn.never (gC (ae 3)) (aR (bG (k:=4) rf.aY rfl (Or.inl rfl) (qO PySem.F.plainAttrs_list PySem.F.slot_list_pop PySem.F.type_list_pop qP (ae 3)))
  (aR (bG (k:=5) rf.aY rfl (Or.inl rfl) (a8 a9 (ae 4) av (λ _ _=>rfl)))
  (bd (cv (bR (cR (cC am)) (a8 a9 (ae 5) av (λ _ _=>rfl)) bf (bA _)) (bd (iA (iE PySem.F.plainAttrs_list PySem.F.slot_list_append PySem.F.type_list_append kU (ae 2) (af (Tg 1 WZ am (by omega) (af (a8 a9 (ae 5) av (λ _ _=>rfl)) (af (a8 a9 (ae 4) av (λ _ _=>rfl)) aw))) aw)))) (bd (cv (bR (cR (cC am)) (a8 a9 (ae 5) av (λ _ _=>rfl)) bf (bA _)) (bd (iA (iE PySem.F.plainAttrs_list PySem.F.slot_list_append PySem.F.type_list_append kU (ae 2) (af (ae 5) aw)))) (bd (cv (gC (a8 a9 (ae 4) av (λ _ _=>rfl))) (aR (Sr (k:=6) rfl rf.aY rfl (Or.inl rfl) (ey.of (N':=["part", "made"]) (nt:=1) (cap:=[2]) rfl (by kernel_rfl)) (h9 (k:=0) (by decide)) (iC (bn gG am (by omega) rfl (af (ae 5) aw))) (λ _ _ _ _=>(gD (k:=0) (show List.Nodup (["part", "made"]:List Str) by decide +kernel) rfl (Or.inl rfl)))  (λ _ _ _ _=>(qO PySem.F.plainAttrs_list PySem.F.slot_list_pop PySem.F.type_list_pop qP (ae 1))))
  (bd (iA (iE PySem.F.plainAttrs_list PySem.F.slot_list_append PySem.F.type_list_append kU (ae 2) (af (bH dN (bP (af (a8 a9 (ae 5) av (λ _ _=>rfl)) aw)) (jE xS rfl B.tuple mt (af (ae 6) aw))) aw))))) (aR (iA (iE PySem.F.plainAttrs_list PySem.F.slot_list_append PySem.F.type_list_append kU (ae 3) (af (bP (af (ae 5) (af (a8 a9 (ae 4) av (λ _ _=>rfl)) (af kJ aw)))) aw)))
  (aR (bG (k:=7) rf.aY rfl (Or.inr rfl) (bn sQ am (by omega) rfl (af (ae 5) (af (a8 a9 (ae 4) av (λ _ _=>rfl)) aw))))
  (bd (iA (iE PySem.F.plainAttrs_list PySem.F.slot_list_extend PySem.F.type_list_extend x3 (ae 3) (af (qN rfl (ey.of (N':=["part", "below"]) (nt:=1) (cap:=[7]) rfl (by kernel_rfl)) (h9 (k:=0) (by decide)) (iC (bn gG am (by omega) rfl (af (ae 5) aw))) (λ _ _ _ _=>(gD (k:=0) (show List.Nodup (["part", "below"]:List Str) by decide +kernel) rfl (Or.inl rfl))) (λ _ _ _ _=>(bP (af (ae 0) (af (ae 1) (af kJ aw)))))) aw)))))))))))))))
  (bd (bz (qO PySem.F.plainAttrs_list PySem.F.slot_list_pop PySem.F.type_list_pop qP (ae 2))))))),?_⟩
 intro a aD b ag;obtain ⟨-,kq,dQ⟩:=og (o:=.lst []) ag
 have W0:pG≠a:=by rintro rfl;rw [hf] at aD;cases aD
 have W2:pG≠b:=by rintro rfl;rw [hf] at kq;cases kq
 refine ⟨λ μ ρ ap=>∃(st:List Ent)(m:List Tm)(jA eI vQ sR:Option D),ρ=[some t.enc,some (.ref pG),some (.ref a),some (.ref b),jA,eI,vQ,sR]/\ap=up (up G a (.lst (m.reverse.map Tm.enc))) b (.lst (st.reverse.map on))/\lY φ st m=some [t.bU φ 0]/\(∀ z∈st,(z.2.2=false\/z.1.leaf=true)->∀ y∈z.1.dI z.2.1,C y.1 y.2)/\m.length+jI st<=2 * t.aB/\μ=jI st,
  ⟨_,[(t,0,false)],[],_,_,_,_,rfl,rfl,by simp [lY,Bb],by intro z hz _;simp at hz;subst hz;exact j9,by simp [jI,m4],rfl⟩,?_⟩
 rintro μ ρ ap ⟨st,m,jA,eI,vQ,sR,rfl,rfl,l5,Kv,hsz,rfl⟩;refine cY bF ⟨λ c=>?_,λ c=>?_⟩
 ·obtain ⟨u,w,hk,cq,rfl⟩:∃ u w hk cq,st=(u,w,hk)::cq:=by
   cases st with
   | nil=>simp at c
   | cons z cq=>exact ⟨z.1,z.2.1,z.2.2,cq,rfl⟩
  rw [yd] at hsz ⊢;have W3:=Ih cq;have yD:∀ z∈cq,(z.2.2=false\/z.1.leaf=true)->∀ y∈z.1.dI z.2.1,C y.1 y.2:=λ z hz=>Kv z (ig _ hz);have yE:=Kv (u,w,hk) (fh ..);refine ⟨cY bF trivial,ez bF ⟨cq.reverse.map on,on (u,w,hk),by simp,?_⟩⟩;rw [hH]
  have hO:∀(o:eS)(ds:List D),up (up G a (.lst ds)) b o a=some (.lst ds):=λ o ds=>by rw [c7 (Ne.symm dQ)];exact bF
  have Kw:∀(o p:eS),up (up G a o) b p pG=some (.lO name qual WY fr vals):=λ o p=>by rw [c7 W2,c7 W0];exact hf
  have z7:∀(o p:eS),∀ q∈L,up (up G a o) b p q.1=some q.2:=λ o p q bv=>by
   rw [c7 (by rintro e;rw [<- e,gd q bv] at kq;cases kq),c7 (by rintro e;rw [<- e,gd q bv] at aD;cases aD)];exact gd q bv
  have sS:1<=m4 (u,w,hk):=by have:=u.lX;show 1<=(if hk=true then 1 else 2 * u.aB);split<;>omega
  refine (show kQ u.enc (.int 0) _ _ from sF ⟨λ c=>?_,λ c=>?_⟩)
  ·obtain ⟨k,rfl⟩:=Ja c
   have Af:m.length+1<=2 * t.aB:=by omega
   refine ⟨cY (hO _ _) trivial,pG,rfl,Kw _ _,Kw _ _,k,w,rfl,?_,z7 _ _,ez (hO _ _) ⟨dx (by simp only [bS,jT];omega),?_⟩⟩
   ·exact yE (.inr rfl) (k,w) (fh ..)
   rw [qW dQ];exact eY.of ⟨jI cq,by omega,cq,φ k w::m,_,_,_,_,rfl,by simp,l5,yD,by simp only [dH];omega,rfl⟩
  refine (show kQ u.enc (.int 0) _ _ from sF ⟨λ dE=>?_,λ dE=>?_⟩)
  ·obtain ⟨k,rfl⟩:=VH dE;refine ⟨cY (hO _ _) trivial,ez (hO _ _) ⟨dx (by simp only [bS,jT];omega),?_⟩⟩;rw [qW dQ];exact eY.of ⟨jI cq,by omega,cq,.whole k::m,_,_,_,_,rfl,by simp,l5,yD,by simp only [dH];omega,rfl⟩
  have pH:=VI c dE;have yF:=Tm.el u
  cases hk with
  | true=>
   refine ⟨λ _=>?_,nofun⟩;rw [lY,Id (t:=u) pH] at l5
   have aO:(Tm.aV u).length<=m.length:=by
    rcases rH m.length (Tm.aV u).length with z | z
    ·rw [if_neg (by omega)] at l5;cases l5
    ·exact z
   rw [if_pos aO] at l5;simp only [] at l5;generalize vA:(Tm.aV u).length=dr at aO l5 yF;refine ⟨u,rfl,Sq (λ i ds ap=>ds=(m.take i).map Tm.enc/\i<=dr/\ap=up (up G a (.lst ((m.drop i).reverse.map Tm.enc))) b (.lst (cq.reverse.map on))) ?_ ⟨rfl,e0 _,by rw [tn]⟩ (λ _ _ _ _ _=>trivial) ?_ ?_⟩
   ·show ((Tm.aV u).map Tm.enc).length < sizeLine;rw [bS,vA];exact dx (by omega)
   ·rintro i d ds ap hd ⟨rfl,ar,rfl⟩
    have nY:i < dr:=by
     have z:=(ji.mp hd).1;have hV:i < ((Tm.aV u).map Tm.enc).length:=z;rw [bS,vA] at hV;exact hV
    have aF:m.drop i=m[i]::m.drop (i+1):=p3 (by omega);refine ⟨cY (hO _ _) trivial,ez (hO _ _) ⟨(m.drop (i+1)).reverse.map Tm.enc,(m[i]'(by omega)).enc,by rw [aF,rB,iQ];rfl,?_⟩⟩;rw [qW dQ];refine m2.of ⟨?_,by omega,rfl⟩;rw [p2,gb (by omega),Option.toList_some,iQ];rfl
   ·rintro ds ap ⟨rfl,_,rfl⟩ p az
    have Cg:rz (tq Tm.enc (Tm.aV u))=dr:=by rw [bS];exact vA
    rw [show (⟨tq Tm.enc (Tm.aV u),_⟩:kS).items.length=dr from Cg] at az ⊢
    have Kx:a≠p:=by rintro rfl;rw [hO] at az;cases az
    refine ⟨cY (by rw [c7 Kx];exact hO _ _) trivial,(show kQ u.enc (.int 0) _ _ from sF (cY bF ⟨small (by simp only [bS,nv,dH,gZ];omega),ez (by rw [c7 Kx];exact hO _ _) ⟨dx (by simp only [bS,jT,ny];omega),?_⟩⟩))⟩;refine ⟨_,up (up G a (.lst ((m.drop dr).reverse.map Tm.enc++[.tup (.str (Tm.word u)::(m.take dr).map Tm.enc)]))) b (.lst (cq.reverse.map on)),.refl _,?_,jI cq,by omega,cq,Tm.hM u (m.take dr)::m.drop dr,_,_,_,_,rfl,?_,l5,yD,?_,rfl⟩
    ·rw [<- qW (x:=.lst ((m.drop dr).reverse.map Tm.enc)) dQ];exact Sub.put (Sub.new (Sub.refl _) az)
    ·congr 2;rw [rB,iQ,ew,oN,Tm.ia (t:=u) pH (by rw [nv,vA];omega)]
    ·simp only [dH,ny];omega
  | false=>
   refine ⟨nofun,λ _=>?_⟩;have adq:=Tm.TC (t:=u) pH;simp only [m4,Bool.false_eq_true,if_false] at hsz;refine ⟨cY bF trivial,ez bF ⟨dx (by simp only [bS,jT];omega),?_⟩⟩;rw [hH];refine ⟨u,w,rfl,cY bF trivial,u,rfl,?_⟩;refine g7 (Tm.aV u) Tm.enc (λ x=>on (x,Tm.b9 u w,false)) rfl (dx (by omega)) trivial (λ x _ R cF=>cF) (λ p az=>?_)
   have np:b≠p:=by rintro rfl;rw [bF] at az;cases az
   refine ez (by rw [c7 np];exact bF) (ez bF ⟨small (by simp only [bS,jT,fs,dH,gZ];omega),?_⟩)
   have adr:jI ((Tm.aV u |>.map λ x=>((x,Tm.b9 u w,false):Ent)).reverse++(u,w,true)::cq)+1=2 * Tm.aB u+jI cq:=by
    rw [<- ii,Ig,ii,rF,yd];simp only [m4,if_true];omega
   refine ⟨_,up (up G a (.lst (m.reverse.map Tm.enc))) b (.lst (cq.reverse.map on++[on (u,w,true)]++(Tm.aV u).map λ x=>on (x,Tm.b9 u w,false))),.refl _,Sub.put (Sub.trans (Sub.new (Sub.refl _) (by rw [c7 dQ];exact kq)) (Sub.new (Sub.refl _) az)),_,?_,(Tm.aV u |>.map λ x=>((x,Tm.b9 u w,false):Ent)).reverse++(u,w,true)::cq,m,_,_,_,_,rfl,?_,?_,?_,?_,rfl⟩
   ·simp only [m4,Bool.false_eq_true,if_false];omega
   ·congr 2;simp [fE,Function.comp_def]
   ·rw [TB (t:=u) pH];exact l5
   ·intro z hz pb y bD;rcases jS.mp hz with hz | hz
    ·obtain ⟨x,aF,rfl⟩:=g0.mp (tp.mp hz);exact yE (.inl rfl) y (Tm.TA (t:=u) pH aF bD)
    ·rcases dJ.mp hz with rfl | hz
     ·rcases pb with z | z
      ·cases z
      ·exact absurd (pH.symm.trans z) (by decide)
     ·exact yD z hz pb y bD
   ·omega
 ·have e:st=[]:=by
   cases st with
   | nil=>rfl
   | cons _ _=>simp at c
  subst e;have aL:m=[t.bU φ 0]:=e1.inj l5;subst aL
  have hO:∀(o:eS)(ds:List D),up (up G a (.lst ds)) b o a=some (.lst ds):=λ o ds=>by rw [c7 (Ne.symm dQ)];exact bF
  refine ⟨cY (hO _ _) trivial,ez (hO _ _) ⟨[],(t.bU φ 0).enc,rfl,?_⟩⟩;rw [qW dQ];exact ⟨G,Sub.trans (Sub.new (Sub.refl _) aD) (Sub.new (Sub.refl _) (by rw [c7 dQ];exact kq)),q⟩
abbrev Ch:bB:=top 15
theorem sT:c9 ["program", "found", "pending", "entry", "one", "below"] ["program"] (b1 Ch):=⟨rfl,rfl,rfl,by decide +kernel,rfl,by decide +kernel,by decide +kernel⟩
theorem W4(B:e_ mg)(gG:Got P w K mg base 1 "inner" ["program"] (aK K (jH Tm.enc Tm.aV)))(sQ:Got P w K mg base 1 "ways_below" ["program", "ways"] (aK K ye))(F:c3 K "names_in" "names_in" Ch f fd):cp P w K mg base cc 2 f fd ["program"] (aK K yf):=by
 refine dn (k:=1) F sT (λ ds G au h=>?_) (λ bE A outer s H E am ds G au h=>?_)
 ·obtain ⟨_,rfl,_⟩:=h;rfl
 obtain ⟨t,rfl,hz,q⟩:=h
 refine ⟨_,(aR (bG (k:=1) sT.aY rfl (Or.inl rfl) (hI aw))
  (aR (bG (k:=2) sT.aY rfl (Or.inl rfl) (hI (af (bP (af (ae 0) (af av aw))) aw)))
  (aR (lU PassesOwn.never (gC (ae 2)) (aR (bG (k:=3) sT.aY rfl (Or.inl rfl) (qO PySem.F.plainAttrs_list PySem.F.slot_list_pop PySem.F.type_list_pop qP (ae 2)))
  (aR (bG (k:=4) sT.aY rfl (Or.inl rfl) (a8 a9 (ae 3) av (λ _ _=>rfl)))
  (aR (cv (bR (cR (cC am)) (a8 a9 (ae 4) av (λ _ _=>rfl)) bf (bA _)) (bd (iA (iE PySem.F.plainAttrs_list PySem.F.slot_list_append PySem.F.type_list_append kU (ae 1) (af (bP (af (a8 a9 (ae 4) av (λ _ _=>rfl)) (af (a8 a9 (ae 3) av (λ _ _=>rfl)) aw))) aw)))) cI)
  (aR (bG (k:=5) sT.aY rfl (Or.inr rfl) (bn sQ am (by omega) rfl (af (ae 4) (af (a8 a9 (ae 3) av (λ _ _=>rfl)) aw))))
  (bd (iA (iE PySem.F.plainAttrs_list PySem.F.slot_list_extend PySem.F.type_list_extend x3 (ae 2) (af (qN rfl (ey.of (N':=["part", "below"]) (nt:=1) (cap:=[5]) rfl (by kernel_rfl)) (h9 (k:=0) (by decide)) (iC (bn gG am (by omega) rfl (af (ae 4) aw))) (λ _ _ _ _=>(gD (k:=0) (show List.Nodup (["part", "below"]:List Str) by decide +kernel) rfl (Or.inl rfl))) (λ _ _ _ _=>(bP (af (ae 0) (af (ae 1) aw))))) aw)))))))))
  (bd (bz (ae 1)))))),?_⟩
 intro a aD b ag;obtain ⟨-,kq,dQ⟩:=og (o:=.lst []) ag;refine ⟨λ m ρ ap=>∃(ps:List (Tm × Nat))(bO:List (Nat × Nat))(yG jA eI:Option D),ρ=[some t.enc,some (.ref a),some (.ref b),yG,jA,eI]/\ap=up (up G a (.lst (bO.map kY))) b (.lst (ps.reverse.map iK))/\bO++ps.flatMap (λ z=>z.1.dI z.2)=t.dI 0/\jJ ps<=t.aB/\m=jJ ps,⟨_,[(t,0)],[],_,_,_,rfl,rfl,by simp,by simp [jJ],rfl⟩,?_⟩;rintro m ρ ap ⟨ps,bO,yG,jA,eI,rfl,rfl,j8,hsz,rfl⟩;have hlen:=t.A_ 0
 have Af:bO.length<=t.aB:=by rw [<- j8,fs] at hlen;omega
 refine cY bF ⟨λ c=>?_,λ c=>?_⟩
 ·obtain ⟨u,w,cq,rfl⟩:∃ u w cq,ps=(u,w)::cq:=by
   cases ps with
   | nil=>simp at c
   | cons z cq=>exact ⟨z.1,z.2,cq,rfl⟩
  rw [Bf] at hsz ⊢;rw [ts] at j8;have W3:=Ii cq;have a0:=u.lX;refine ⟨cY bF trivial,ez bF ⟨cq.reverse.map iK,iK (u,w),by simp,?_⟩⟩;rw [hH]
  have hO:∀ o,up (up G a (.lst (bO.map kY))) b o a=some (.lst (bO.map kY)):=λ o=>by rw [c7 (Ne.symm dQ)];exact bF
  refine (show kQ u.enc (.int 0) _ _ from sF ⟨λ c=>?_,λ c=>?_⟩)
  ·obtain ⟨k,rfl⟩:=Ja c;refine ⟨cY (hO _) trivial,ez (hO _) ⟨dx (by rw [bS];omega),?_⟩⟩;rw [qW dQ];refine ⟨(.name k:Tm),w,rfl,cY bF trivial,(.name k:Tm),rfl,?_⟩;refine g7 (Tm.aV (.name k:Tm)) Tm.enc (λ x=>iK (x,Tm.b9 (.name k:Tm) w)) rfl (dx (by have:=Tm.el (.name k:Tm);omega)) trivial (λ x _ R cF=>cF) (λ p az=>?_)
   have np:b≠p:=by rintro rfl;rw [bF] at az;cases az
   refine ez (by rw [c7 np];exact bF) (ez bF ⟨small (by have:=Tm.el (.name k:Tm);simp only [bS,jT];omega),?_⟩);refine ⟨_,up (up G a (.lst (bO.map kY++[.tup [.int k,.int w]]))) b (.lst (cq.reverse.map iK++(Tm.aV (.name k:Tm)).map λ x=>iK (x,Tm.b9 (.name k:Tm) w))),.refl _,Sub.put (Sub.trans (Sub.new (Sub.refl _) (by rw [c7 dQ];exact kq)) (Sub.new (Sub.refl _) az)),jJ (((Tm.aV (.name k:Tm)).map λ x=>(x,Tm.b9 (.name k:Tm) w)).reverse++cq),?_,((Tm.aV (.name k:Tm)).map λ x=>(x,Tm.b9 (.name k:Tm) w)).reverse++cq,bO++[(k,w)],_,_,_,rfl,?_,?_,?_,rfl⟩
   ·have:=Tm.yh (.name k:Tm);rw [<- ii,vh,ii,rF];simp only [];omega
   ·congr 2
    ·simp [kY]
    ·simp [fE,Function.comp_def]
   ·rw [<- j8];simp [Tm.aV,Tm.dI]
   ·have:=Tm.yh (.name k:Tm);rw [<- ii,vh,ii,rF];simp only [] at hsz;omega
  refine ⟨u,w,rfl,cY bF trivial,u,rfl,?_⟩;refine g7 (Tm.aV u) Tm.enc (λ x=>iK (x,Tm.b9 u w)) rfl (dx (by have:=Tm.el u;omega)) trivial (λ x _ R cF=>cF) (λ p az=>?_)
  have np:b≠p:=by rintro rfl;rw [bF] at az;cases az
  refine ez (by rw [c7 np];exact bF) (ez bF ⟨small (by have:=Tm.el u;simp only [bS,jT];omega),?_⟩);refine ⟨_,up (up G a (.lst (bO.map kY))) b (.lst (cq.reverse.map iK++(Tm.aV u).map λ x=>iK (x,Tm.b9 u w))),.refl _,Sub.put (Sub.trans (Sub.new (Sub.refl _) (by rw [c7 dQ];exact kq)) (Sub.new (Sub.refl _) az)),jJ (((Tm.aV u).map λ x=>(x,Tm.b9 u w)).reverse++cq),?_,((Tm.aV u).map λ x=>(x,Tm.b9 u w)).reverse++cq,bO,_,_,_,rfl,?_,?_,?_,rfl⟩
  ·have:=Tm.yh u;rw [<- ii,vh,ii,rF];simp only [];omega
  ·congr 2;simp [fE,Function.comp_def]
  ·rw [<- j8,tu,<- ii,List.flatMap_map];congr 2;exact (VJ c w).symm
  ·have:=Tm.yh u;rw [<- ii,vh,ii,rF];simp only [] at hsz;omega
 ·have e:ps=[]:=by
   cases ps with
   | nil=>rfl
   | cons _ _=>simp at c
  subst e
  have aL:bO=t.dI 0:=by simpa using j8
  subst aL;exact ⟨up G a (.lst ((t.dI 0).map kY)),Sub.new (Sub.refl _) (by rw [c7 dQ];exact kq),q a aD⟩
abbrev Ci:bB:=top 58
theorem Cj:c9 ["_law_program_here", "_law_place", "_law_k"] ["_law_program_here", "_law_place"] (b1 Ci):=⟨rfl,rfl,rfl,by decide +kernel,rfl,by decide +kernel,by decide +kernel⟩
theorem W5(F:c3 K "_law_at" "_law_at" Ci f fd):cp P w K mg base cc 1 f fd ["_law_program_here", "_law_place"] (aK K px):=by
 refine dn (k:=0) F Cj (λ ds G au h=>?_) (λ bE A outer s H E am ds G au h=>?_)
 ·obtain ⟨_,_,_,rfl,_⟩:=h;rfl
 obtain ⟨t,ns,u,rfl,a0,q⟩:=h
 refine ⟨_,(aR (uV PassesOwn.never rfl (iC (ae 1)) (gD (k:=2) Cj.aY rfl (Or.inl rfl)) (bd (bG (k:=0) Cj.aY rfl (Or.inl rfl) (a8 a9 (ae 0) (bH dN av (ae 2)) (λ _ _=>rfl)))))
  (bd (bz (ae 0)))),?_⟩
 refine ⟨λ i ρ ap=>∃ v o,ρ=[some (Tm.enc v),some (er ns),o]/\ap=G/\t.at (ns.take i)=some v,⟨t,_,rfl,rfl,rfl⟩,λ _ _ _ _ _=>trivial,?_,?_⟩
 ·rintro i d ρ ap hd ⟨v,o,rfl,rfl,bC⟩;have ha:(ns.map D.int)[i]?=some d:=hd;rw [eu] at ha
  cases e:ns[i]? with
  | none=>rw [e] at ha;cases ha
  | some k=>
   rw [e] at ha;cases ha;obtain ⟨p8,x,ak,aq,aT,cb⟩:=Tm.x6 a0 e;rw [bC] at ak;cases ak;exact S7 aT (by omega) (eY.of ⟨x,_,rfl,rfl,cb⟩)
 ·rintro ρ ap ⟨v,o,rfl,rfl,bC⟩;have e:(ns.map D.int).length=ns.length:=bS ..;have vR:t.at (ns.take (ns.map D.int).length)=some v:=bC;rw [e,p1,a0] at vR;cases vR;exact bh.of q
abbrev Ck:bB:=top 61
theorem W6:c9 ["_law_found", "_law_due"] ["_law_found", "_law_due"] (b1 Ck):=⟨rfl,rfl,rfl,by decide +kernel,rfl,by decide +kernel,by decide +kernel⟩
theorem W7:cp P w K mg base cc 1 f fd ["_law_found", "_law_due"] (aK K (sx 0)):=kV λ ds G au h=>by
 obtain ⟨_,_,_,h,_⟩:=h;omega
theorem W8{n:Nat}(B:e_ mg)(nf:Got P w K mg base (n+1) "_law_alike" ["_law_found", "_law_due"] (aK K (sx n)))(F:c3 K "_law_alike" "_law_alike" Ck f fd):cp P w K mg base cc (n+2) f fd ["_law_found", "_law_due"] (aK K (sx (n+1))):=by
 refine dn (k:=n+1) F W6 (λ ds G au h=>?_) (λ bE A outer s H E am ds G au h=>?_)
 ·obtain ⟨_,rfl,_⟩:=h;rfl
 obtain ⟨d,rfl,az,hd,q⟩:=h
 refine ⟨_,(aR (cv (gC (fB oe rfl B.isinstance nC (af (ae 1) (af (n1 rfl B.tuple mt) aw)))) (aR (cv (fN.at (kM (pq (gC (fB oe rfl B.isinstance nC (af (ae 0) (af (n1 rfl B.tuple mt) aw))))) (lT (bR (qS (cC am)) (fB kh rfl B.len jX (af (ae 0) aw)) (fB kh rfl B.len jX (af (ae 1) aw)) (bA _))))) (bd (bz kJ)) cI)
  (bd (bz (pw (fB (HJ rfl) rfl B.all PyProof.Rows.boot_all (af (qN rfl (ey.of (N':=["_law_one", "_law_other"]) (nt:=2) (cap:=[]) rfl (by kernel_rfl)) (AK (sn oa (AJ oa sm) (h9 (k:=0) (by decide)) (sn oa sm (h9 (k:=1) (by decide)) AH))) (SY rfl B.zip (af (ae 0) (af (ae 1) aw))) (λ _ _ _ _=>(Ay (n:=2) rfl (sf (gD (k:=0) (show List.Nodup (["_law_one", "_law_other"]:List Str) by decide +kernel) rfl (Or.inl rfl)) (sf (gD (k:=1) (show List.Nodup (["_law_one", "_law_other"]:List Str) by decide +kernel) rfl (Or.inl rfl)) Ax)))) (λ _ _ _ _=>(bn nf am (by omega) rfl (af (ae 0) (af (ae 1) aw))))) aw)))))) cI)
  (aR (cv (gC (fB oe rfl B.isinstance nC (af (ae 1) (af (n1 rfl B.str PyProof.Rows.boot_str) aw)))) (bd (bz (lS (fB oe rfl B.isinstance nC (af (ae 0) (af (n1 rfl B.str PyProof.Rows.boot_str) aw))) (lR (fg (cR (cC am)) (ae 0) (ae 1) (bA _)))))) cI)
  (bd (bz (lS (fB oe rfl B.isinstance nC (af (ae 0) (af (n1 rfl B.int la) aw))) (lS (RL (fB oe rfl B.isinstance nC (af (ae 0) (af (n1 rfl B.bool PyProof.Rows.boot_bool) aw)))) (lR (fg (cR (cC am)) (ae 0) (ae 1) (bA _))))))))),?_⟩
 cases d with
 | int i=>exact ⟨false,rfl,nofun,λ _=>⟨false,rfl,nofun,λ _=>⟨true,rfl,λ _=>⟨false,rfl,λ _=>bh.of (by simpa using q),nofun⟩,nofun⟩⟩⟩
 | str x=>exact ⟨false,rfl,nofun,λ _=>⟨true,rfl,λ _=>⟨true,rfl,λ _=>bh.of (by simpa using q),nofun⟩,nofun⟩⟩
 | tup ds=>
  simp only [D.plain,eU,decide_eq_true_eq] at az;simp only [D.aJ] at hd;refine ⟨true,rfl,λ _=>⟨true,rfl,nofun,λ _=>⟨λ c=>absurd c (by simp),λ _=>⟨b7 _,?_⟩⟩⟩,nofun⟩;refine g7 ds (λ x=>.tup [x,x]) (λ _=>.aU true) ?_ ?_ ?_ ?_ ?_
  ·exact HU _ ds
  ·exact dx (by omega)
  ·trivial
  ·intro x aF R cF;have ak:=HT aF;exact ⟨x,rfl,HS az.2 aF,by omega,cF⟩
  ·intro p Bj;refine cY bF ⟨ds.map λ _=>true,?_,G,Sub.new (Sub.refl _) Bj,bh.of ?_⟩
   ·rw [show (ds.map λ _=>D.aU true)=(ds.map λ _=>true).map D.aU by simp];exact AY _
   ·rw [show (ds.map λ _=>true).all id=true by simp];exact q
 | _=>simp [D.plain] at az
abbrev Cm:bB:=top 54
theorem Ky:c9 ["_law_part", "_law_many", "_law_least_here", "_law_under"] ["_law_part", "_law_many", "_law_least_here"] (b1 Cm):=⟨rfl,rfl,rfl,by decide +kernel,rfl,by decide +kernel,by decide +kernel⟩
theorem W9:cp P w K mg base cc 1 f fd ["_law_part", "_law_many", "_law_least_here"] (aK K (vE 0)):=kV λ ds G au h=>by
 obtain ⟨_,_,_,_,h,_⟩:=h;omega
theorem W_{n:Nat}(B:e_ mg)(vS:Got P w K mg base (n+1) "_law_shift" ["_law_part", "_law_many", "_law_least_here"] (aK K (vE n)))(F:c3 K "_law_shift" "_law_shift" Cm f fd):cp P w K mg base cc (n+2) f fd ["_law_part", "_law_many", "_law_least_here"] (aK K (vE (n+1))):=by
 refine dn (k:=n+1) F Ky (λ ds G au h=>?_) (λ bE A outer s H E am ds G au h=>?_)
 ·obtain ⟨_,_,_,rfl,_⟩:=h;rfl
 obtain ⟨t,m,l,rfl,hd,q⟩:=h
 refine ⟨_,(aR (cv (bR (cR (cC am)) (a8 a9 (ae 0) av (λ _ _=>rfl)) bf (bA _)) (bd (bz (ae 0))) cI)
  (aR (cv (bR (cR (cC am)) (a8 a9 (ae 0) av (λ _ _=>rfl)) bf (bA _)) (bd (bz (bP (af bf (af (bH dN (a8 a9 (ae 0) av (λ _ _=>rfl)) (bH mV (ae 1) (jE mX rfl B.int la (af (fg sh (a8 a9 (ae 0) av (λ _ _=>rfl)) (ae 2) (bA _)) aw)))) aw))))) cI)
  (aR (bG (k:=3) Ky.aY rfl (Or.inr rfl) (bH dN (ae 2) (jE mX rfl B.int la (af (fg (cR (cC am)) (a8 a9 (ae 0) av (λ _ _=>rfl)) bf (bA _)) aw))))
  (bd (bz (bH dN (bP (af (a8 a9 (ae 0) av (λ _ _=>rfl)) aw)) (pw (jE xS rfl B.tuple mt (af (qN rfl (ey.of (N':=["_law_one", "_law_many", "_law_under"]) (nt:=1) (cap:=[1,3]) rfl (by kernel_rfl)) (h9 (k:=0) (by decide)) (iC (kP kR (ae 0) (kO av) kN)) (λ _ _ _ _=>(gD (k:=0) (show List.Nodup (["_law_one", "_law_many", "_law_under"]:List Str) by decide +kernel) rfl (Or.inl rfl))) (λ _ _ _ _=>(bn vS am (by omega) rfl (af (ae 0) (af (ae 1) (af (ae 2) aw)))))) aw))))))))),?_⟩
 cases t with
 | whole k=>exact ⟨λ _=>bh.of q,λ c=>absurd c (by decide)⟩
 | name k=>
  refine ⟨λ c=>absurd c (by decide),λ _=>⟨λ _=>⟨.inr ⟨?_,?_⟩,bh.of ?_⟩,λ c=>absurd c (by decide)⟩⟩
  ·split<;>decide
  ·split<;>decide
  ·have e:(Tm.bU (dT m 0) l (.name k)).enc=.tup [.str "name", .int ((k:Int)+m * (if decide ((l:Int)<=(k:Int))=true then 1 else 0))]:=by
    show (dT m 0 k l).enc=_;unfold dT;by_cases c:k ≥ l+0
    ·rw [if_pos c,if_pos (by simp;omega)];simp [Tm.enc]
    ·rw [if_neg c,if_neg (by simp;omega)];simp [Tm.enc]
   rw [e] at q;exact q
 | way a7=>
  refine ⟨λ c=>absurd c (by decide),λ _=>⟨λ c=>absurd c (by decide),λ _=>?_⟩⟩;refine g7 (Tm.aV (.way a7:Tm)) Tm.enc (λ u=>(u.bU (dT m 0) (Tm.b9 (.way a7:Tm) l)).enc) rfl (dx (by have:=Tm.el (.way a7:Tm);omega)) trivial (λ u a0 R cF=>?_) (λ p az=>?_)
  ·have ak:=Tm.gF a0;exact ⟨u,m,Tm.b9 (.way a7:Tm) l,by simp [Tm.b9,hK],by omega,cF⟩
  ·refine cY bF ⟨G,Sub.new (Sub.refl _) az,small (by have:=Tm.el (.way a7:Tm);simp only [bS];show 1+_<=_;omega),bh.of ?_⟩;have e:=Tm.ia (t:=(.way a7:Tm)) (cs:=(Tm.aV (.way a7:Tm)).map λ u=>u.bU (dT m 0) (Tm.b9 (.way a7:Tm) l)) rfl (by rw [bS]);rw [Tm.i_ (t:=(.way a7:Tm)) rfl,e,fE] at q;exact q
 | give a7 b4=>
  refine ⟨λ c=>absurd c (by decide),λ _=>⟨λ c=>absurd c (by decide),λ _=>?_⟩⟩;refine g7 (Tm.aV (.give a7 b4:Tm)) Tm.enc (λ u=>(u.bU (dT m 0) (Tm.b9 (.give a7 b4:Tm) l)).enc) rfl (dx (by have:=Tm.el (.give a7 b4:Tm);omega)) trivial (λ u a0 R cF=>?_) (λ p az=>?_)
  ·have ak:=Tm.gF a0;exact ⟨u,m,Tm.b9 (.give a7 b4:Tm) l,by simp [Tm.b9,hK],by omega,cF⟩
  ·refine cY bF ⟨G,Sub.new (Sub.refl _) az,small (by have:=Tm.el (.give a7 b4:Tm);simp only [bS];show 1+_<=_;omega),bh.of ?_⟩;have e:=Tm.ia (t:=(.give a7 b4:Tm)) (cs:=(Tm.aV (.give a7 b4:Tm)).map λ u=>u.bU (dT m 0) (Tm.b9 (.give a7 b4:Tm) l)) rfl (by rw [bS]);rw [Tm.i_ (t:=(.give a7 b4:Tm)) rfl,e,fE] at q;exact q
 | pair a7 b4=>
  refine ⟨λ c=>absurd c (by decide),λ _=>⟨λ c=>absurd c (by decide),λ _=>?_⟩⟩;refine g7 (Tm.aV (.pair a7 b4:Tm)) Tm.enc (λ u=>(u.bU (dT m 0) (Tm.b9 (.pair a7 b4:Tm) l)).enc) rfl (dx (by have:=Tm.el (.pair a7 b4:Tm);omega)) trivial (λ u a0 R cF=>?_) (λ p az=>?_)
  ·have ak:=Tm.gF a0;exact ⟨u,m,Tm.b9 (.pair a7 b4:Tm) l,by simp [Tm.b9,hK],by omega,cF⟩
  ·refine cY bF ⟨G,Sub.new (Sub.refl _) az,small (by have:=Tm.el (.pair a7 b4:Tm);simp only [bS];show 1+_<=_;omega),bh.of ?_⟩;have e:=Tm.ia (t:=(.pair a7 b4:Tm)) (cs:=(Tm.aV (.pair a7 b4:Tm)).map λ u=>u.bU (dT m 0) (Tm.b9 (.pair a7 b4:Tm) l)) rfl (by rw [bS]);rw [Tm.i_ (t:=(.pair a7 b4:Tm)) rfl,e,fE] at q;exact q
 | first a7=>
  refine ⟨λ c=>absurd c (by decide),λ _=>⟨λ c=>absurd c (by decide),λ _=>?_⟩⟩;refine g7 (Tm.aV (.first a7:Tm)) Tm.enc (λ u=>(u.bU (dT m 0) (Tm.b9 (.first a7:Tm) l)).enc) rfl (dx (by have:=Tm.el (.first a7:Tm);omega)) trivial (λ u a0 R cF=>?_) (λ p az=>?_)
  ·have ak:=Tm.gF a0;exact ⟨u,m,Tm.b9 (.first a7:Tm) l,by simp [Tm.b9,hK],by omega,cF⟩
  ·refine cY bF ⟨G,Sub.new (Sub.refl _) az,small (by have:=Tm.el (.first a7:Tm);simp only [bS];show 1+_<=_;omega),bh.of ?_⟩;have e:=Tm.ia (t:=(.first a7:Tm)) (cs:=(Tm.aV (.first a7:Tm)).map λ u=>u.bU (dT m 0) (Tm.b9 (.first a7:Tm) l)) rfl (by rw [bS]);rw [Tm.i_ (t:=(.first a7:Tm)) rfl,e,fE] at q;exact q
 | second a7=>
  refine ⟨λ c=>absurd c (by decide),λ _=>⟨λ c=>absurd c (by decide),λ _=>?_⟩⟩;refine g7 (Tm.aV (.second a7:Tm)) Tm.enc (λ u=>(u.bU (dT m 0) (Tm.b9 (.second a7:Tm) l)).enc) rfl (dx (by have:=Tm.el (.second a7:Tm);omega)) trivial (λ u a0 R cF=>?_) (λ p az=>?_)
  ·have ak:=Tm.gF a0;exact ⟨u,m,Tm.b9 (.second a7:Tm) l,by simp [Tm.b9,hK],by omega,cF⟩
  ·refine cY bF ⟨G,Sub.new (Sub.refl _) az,small (by have:=Tm.el (.second a7:Tm);simp only [bS];show 1+_<=_;omega),bh.of ?_⟩;have e:=Tm.ia (t:=(.second a7:Tm)) (cs:=(Tm.aV (.second a7:Tm)).map λ u=>u.bU (dT m 0) (Tm.b9 (.second a7:Tm) l)) rfl (by rw [bS]);rw [Tm.i_ (t:=(.second a7:Tm)) rfl,e,fE] at q;exact q
 | plus a7 b4=>
  refine ⟨λ c=>absurd c (by decide),λ _=>⟨λ c=>absurd c (by decide),λ _=>?_⟩⟩;refine g7 (Tm.aV (.plus a7 b4:Tm)) Tm.enc (λ u=>(u.bU (dT m 0) (Tm.b9 (.plus a7 b4:Tm) l)).enc) rfl (dx (by have:=Tm.el (.plus a7 b4:Tm);omega)) trivial (λ u a0 R cF=>?_) (λ p az=>?_)
  ·have ak:=Tm.gF a0;exact ⟨u,m,Tm.b9 (.plus a7 b4:Tm) l,by simp [Tm.b9,hK],by omega,cF⟩
  ·refine cY bF ⟨G,Sub.new (Sub.refl _) az,small (by have:=Tm.el (.plus a7 b4:Tm);simp only [bS];show 1+_<=_;omega),bh.of ?_⟩;have e:=Tm.ia (t:=(.plus a7 b4:Tm)) (cs:=(Tm.aV (.plus a7 b4:Tm)).map λ u=>u.bU (dT m 0) (Tm.b9 (.plus a7 b4:Tm) l)) rfl (by rw [bS]);rw [Tm.i_ (t:=(.plus a7 b4:Tm)) rfl,e,fE] at q;exact q
 | look a7 b4 gp=>
  refine ⟨λ c=>absurd c (by decide),λ _=>⟨λ c=>absurd c (by decide),λ _=>?_⟩⟩;refine g7 (Tm.aV (.look a7 b4 gp:Tm)) Tm.enc (λ u=>(u.bU (dT m 0) (Tm.b9 (.look a7 b4 gp:Tm) l)).enc) rfl (dx (by have:=Tm.el (.look a7 b4 gp:Tm);omega)) trivial (λ u a0 R cF=>?_) (λ p az=>?_)
  ·have ak:=Tm.gF a0;exact ⟨u,m,Tm.b9 (.look a7 b4 gp:Tm) l,by simp [Tm.b9,hK],by omega,cF⟩
  ·refine cY bF ⟨G,Sub.new (Sub.refl _) az,small (by have:=Tm.el (.look a7 b4 gp:Tm);simp only [bS];show 1+_<=_;omega),bh.of ?_⟩;have e:=Tm.ia (t:=(.look a7 b4 gp:Tm)) (cs:=(Tm.aV (.look a7 b4 gp:Tm)).map λ u=>u.bU (dT m 0) (Tm.b9 (.look a7 b4 gp:Tm) l)) rfl (by rw [bS]);rw [Tm.i_ (t:=(.look a7 b4 gp:Tm)) rfl,e,fE] at q;exact q
abbrev Cn:bB:=top 57
theorem Kz:c9 ["_law_program_here", "_law_place", "_law_other", "_law_k"] ["_law_program_here", "_law_place", "_law_other"] (b1 Cn):=⟨rfl,rfl,rfl,by decide +kernel,rfl,by decide +kernel,by decide +kernel⟩
theorem Xa:cp P w K mg base cc 1 f fd ["_law_program_here", "_law_place", "_law_other"] (aK K (vF 0)):=kV λ ds G au h=>by
 obtain ⟨_,_,_,_,_,_,h,_⟩:=h;omega
theorem Xb{n:Nat}(vT:Got P w K mg base (n+1) "_law_changed" ["_law_program_here", "_law_place", "_law_other"] (aK K (vF n)))(F:c3 K "_law_changed" "_law_changed" Cn f fd):cp P w K mg base cc (n+2) f fd ["_law_program_here", "_law_place", "_law_other"] (aK K (vF (n+1))):=by
 refine dn (k:=n+1) F Kz (λ ds G au h=>?_) (λ bE A outer s H E am ds G au h=>?_)
 ·obtain ⟨_,_,_,_,rfl,_⟩:=h;rfl
 obtain ⟨t,ns,u,o,rfl,a0,aQ,bt,q⟩:=h
 refine ⟨_,(aR (cv (bR (cR (cC am)) (ae 1) (bP aw) (bA _)) (bd (bz (ae 2))) cI)
  (aR (bG (k:=3) Kz.aY rfl (Or.inl rfl) (bH dN av (a8 a9 (ae 1) av (λ _ _=>rfl))))
  (bd (bz (bH dN (bH dN (kP kR (ae 0) kN (kO (ae 3))) (bP (af (bn vT am (by omega) rfl (af (a8 a9 (ae 0) (ae 3) (λ _ _=>rfl)) (af (kP kR (ae 1) (kO av) kN) (af (ae 2) aw)))) aw))) (kP kR (ae 0) (kO (bH dN (ae 3) av)) kN)))))),?_⟩
 cases ns with
 | nil=>exact AV rfl rfl (by show 1<=150;omega) ⟨λ _=>bh.of q,λ c=>absurd c (by decide)⟩
 | cons k ns=>
  obtain ⟨h0,x,ak,aq⟩:=Tm.qX a0;refine AV (VW (k::ns)) rfl (VX (k::ns)) ⟨λ c=>absurd c (by rw [VY];simp),λ _=>?_⟩;have KA:=Jg ak;have yF:=t.el
  obtain ⟨hP,rfl⟩:∃ hP:Nat,k=hP:=⟨k.toNat,by omega⟩
  rw [hB] at ak;have aO:hP < t.aV.length:=(ji.mp ak).1
  have hE:ns.length < n:=by simpa using aQ
  rw [Tm.ep,hB,mm,ak,Option.getD_some,Tm.ia KA (List.length_set ..)] at q;rw [Tm.Uz KA]
  have hm:(D.str t.word::t.aV.map Tm.enc).length=t.aV.length+1:=by simp
  have cf:(1:Int)+(hP:Int)=((hP+1:Nat):Int):=by omega
  have dF:cut (D.str t.word::t.aV.map Tm.enc) none (some ((1:Int)+(hP:Int)))=(D.str t.word::t.aV.map Tm.enc).take (hP+1):=by rw [cf];exact Jf (by omega)
  have dE:cut (D.str t.word::t.aV.map Tm.enc) (some ((1:Int)+(hP:Int)+1)) none=(D.str t.word::t.aV.map Tm.enc).drop (hP+2):=by rw [cf];exact yt (by omega)
  have h6:cut (D.int hP::ns.map D.int) (some 1) none=ns.map D.int:=yt (k:=0) (by simp)
  have aP:((D.str t.word::t.aV.map Tm.enc).take (hP+1)).length<=4:=by rw [nv,hm];omega
  have aL:((D.str t.word::t.aV.map Tm.enc).drop (hP+2)).length<=4:=by rw [ny,hm];omega
  have de:gi (D.str t.word::t.aV.map Tm.enc) ((1:Int)+(hP:Int))=some x.enc:=by
   rw [cf];exact lp (by rw [List.getElem?_cons_succ,eu,ak];rfl)
  conv=>whnf
  rw [show As (D.str t.word::t.aV.map Tm.enc) ((1:Int)+(hP:Int))=some x.enc from (At _ _).trans de];refine ⟨x,ns,u,o,?_,aq,hE,by omega,small ?_,small ?_,bh.of ?_⟩
  ·show [x.enc,D.tup (cut (D.int hP::ns.map D.int) (some 1) none),o.enc]=_;rw [h6];rfl
  ·rw [dF];simp only [dH,gZ];omega
  ·rw [dF,dE];simp only [fs,dH,gZ];omega
  ·rw [dF,dE]
   have z:(t.aV.set hP (Tm.ep o ns x)).map Tm.enc=(t.aV.map Tm.enc).take hP++(Tm.ep o ns x).enc::(t.aV.map Tm.enc).drop (hP+1):=by
    rw [List.map_set,List.set_eq_take_append_cons_drop,if_pos (by rw [bS];omega)]
   rw [z] at q;simpa using q
abbrev Co:bB:=top 3
theorem yH:c9 ["trail", "numbers", "rest"] ["trail"] (b1 Co):=⟨rfl,rfl,rfl,by decide +kernel,rfl,by decide +kernel,by decide +kernel⟩
theorem Xc(B:e_ mg)(F:c3 K "path_of" "path_of" Co f fd):cp P w K mg base cc 1 f fd ["trail"] (aK K x9):=by
 refine dn (k:=0) F yH (λ ds G au h=>?_) (λ bE A outer s H E am ds G au h=>?_)
 ·obtain ⟨_,rfl,_⟩:=h;rfl
 obtain ⟨r,rfl,aQ,q⟩:=h
 refine ⟨_,(aR (bG (k:=1) yH.aY rfl (Or.inl rfl) (hI aw))
  (aR (bG (k:=2) yH.aY rfl (Or.inl rfl) (ae 0))
  (aR (lU PassesOwn.never (bR uL (ae 2) g6 (bA _)) (aR (iA (iE PySem.F.plainAttrs_list PySem.F.slot_list_append PySem.F.type_list_append kU (ae 1) (af (a8 a9 (ae 2) av (λ _ _=>rfl)) aw)))
  (bd (bG (k:=2) yH.aY rfl (Or.inl rfl) (a8 a9 (ae 2) av (λ _ _=>rfl))))))
  (bd (bz (SS rfl B.tuple rfl B.reversed (ae 1))))))),?_⟩
 intro l Xd;refine ⟨λ m ρ ap=>∃(us ai:List Int),ρ=[some (qY r),some (.ref l),some (qY ai)]/\ap=up G l (.lst (us.map D.int))/\us++ai=r/\m=ai.length,⟨_,[],r,rfl,rfl,rfl,rfl⟩,?_⟩;rintro m ρ ap ⟨us,ai,rfl,rfl,rfl,rfl⟩
 cases ai with
 | nil=>
  refine ⟨λ c=>absurd c (by decide),λ _=>?_⟩;refine cY bF ⟨_,Sub.new (Sub.refl _) Xd,?_⟩;have z:=q;rw [k4,er,ii] at z;exact z
 | cons k ai=>
  refine ⟨λ _=>?_,λ c=>x7 c⟩;refine ⟨cY bF trivial,ez bF ⟨dx (by rw [bS];simp only [fs,dH] at aQ;omega),?_⟩⟩;rw [hH];exact eY.of ⟨ai.length,by simp,us++[k],ai,rfl,by rw [iQ];rfl,by simp,rfl⟩
abbrev Cp:bB:=top 22
theorem vU:c9 ["program", "place", "one", "k", "inners"] ["program", "place"] (b1 Cp):=⟨rfl,rfl,rfl,by decide +kernel,rfl,by decide +kernel,by decide +kernel⟩
theorem Xe(B:e_ mg)(gG:Got P w K mg base 1 "inner" ["program"] (aK K (jH Tm.enc Tm.aV)))(F:c3 K "at_place" "at_place" Cp f fd):cp P w K mg base cc 2 f fd ["program", "place"] (aK K px):=by
 refine dn (k:=1) F vU (λ ds G au h=>?_) (λ bE A outer s H E am ds G au h=>?_)
 ·obtain ⟨_,_,_,rfl,_⟩:=h;rfl
 obtain ⟨t,ns,u,rfl,a0,q⟩:=h
 refine ⟨_,(aR (bG (k:=2) vU.aY rfl (Or.inl rfl) (ae 0))
  (aR (uV PassesOwn.never rfl (iC (ae 1)) (gD (k:=3) vU.aY rfl (Or.inl rfl)) (aR (bG (k:=4) vU.aY rfl (Or.inl rfl) (bn gG am (by omega) rfl (af (ae 2) aw)))
  (aR (cv (fN.at (kM (bR iB (ae 3) av (bA _)) (lT (bR sh (ae 3) (fB kh rfl B.len jX (af (ae 4) aw)) (bA _))))) (bd (bz g6)) cI)
  (bd (bG (k:=2) vU.aY rfl (Or.inl rfl) (a8 a9 (ae 4) (ae 3) (λ _ _=>rfl)))))))
  (bd (bz (ae 2))))),?_⟩
 refine ⟨λ i ρ ap=>∃ v o p,ρ=[some (Tm.enc t),some (er ns),some (Tm.enc v),o,p]/\ap=G/\t.at (ns.take i)=some v,⟨t,_,_,rfl,rfl,rfl⟩,λ _ _ _ _ _=>trivial,?_,?_⟩
 ·rintro i d ρ ap hd ⟨v,o,p,rfl,rfl,bC⟩;have ha:(ns.map D.int)[i]?=some d:=hd;rw [eu] at ha
  cases e:ns[i]? with
  | none=>rw [e] at ha;cases ha
  | some k=>
   rw [e] at ha;cases ha;obtain ⟨p8,x,ak,aq,aT,cb⟩:=Tm.x6 a0 e;rw [bC] at ak;cases ak;have aO:k.toNat < v.aV.length:=(ji.mp aT).1;refine ⟨v,rfl,⟨λ c=>absurd (show k < 0 by simpa using c) (by omega),λ _=>⟨λ c=>?_,λ _=>?_⟩⟩⟩
   ·have b_:(v.aV.map Tm.enc).length<=k:=by simpa using c
    rw [bS] at b_;omega
   ·refine mW (d:=x.enc) ?_ (eY.of ⟨x,_,_,rfl,rfl,cb⟩);have z:=lp (xs:=v.aV.map Tm.enc) (j:=k.toNat) (v:=x.enc) (by rw [eu,aT];rfl)
    rwa [show ((k.toNat:Nat):Int)=k by omega] at z
 ·rintro ρ ap ⟨v,o,p,rfl,rfl,bC⟩;have e:(ns.map D.int).length=ns.length:=bS ..;have vR:t.at (ns.take (ns.map D.int).length)=some v:=bC;rw [e,p1,a0] at vR;cases vR;exact bh.of q
abbrev Cq:bB:=top 26
theorem KC:c9 ["program", "place", "one"] ["program", "place"] (b1 Cq):=⟨rfl,rfl,rfl,by decide +kernel,rfl,by decide +kernel,by decide +kernel⟩
theorem Xf(sU:Got P w K mg base 2 "at_place" ["program", "place"] (aK K px))(sV:Got P w K mg base 1 "has_rule" ["program"] (aK K (qV Tm.d1)))(F:c3 K "can_go" "can_go" Cq f fd):cp P w K mg base cc 3 f fd ["program", "place"] (aK K A6):=by
 refine dn (k:=2) F KC (λ ds G au h=>?_) (λ bE A outer s H E am ds G au h=>?_)
 ·obtain ⟨_,_,_,rfl,_⟩:=h;rfl
 obtain ⟨t,ns,u,rfl,a0,q⟩:=h
 refine ⟨_,(aR (bG (k:=2) KC.aY rfl (Or.inl rfl) (bn sU am (by omega) rfl (af (ae 0) (af (ae 1) aw))))
  (bd (bz (lS (fg uL (ae 2) g6 (bA _)) (lR (bn sV am (by omega) rfl (af (ae 2) aw))))))),?_⟩
 refine ⟨t,ns,u,rfl,a0,?_⟩;rw [u.gT];refine ⟨λ _=>⟨u,?_,bh.of q⟩,nofun⟩;rw [u.gT]
abbrev Cr:bB:=top 36
theorem Xg:c9 ["program"] ["program"] (b1 Cr):=⟨rfl,rfl,rfl,by decide +kernel,rfl,by decide +kernel,by decide +kernel⟩
theorem Xh(F:c3 K "inner_in_use" "inner_in_use" Cr f fd):cp P w K mg base cc 1 f fd ["program"] (aK K A7):=by
 refine dn (k:=0) F Xg (λ ds G au h=>?_) (λ bE A outer s H E am ds G au h=>?_)
 ·obtain ⟨t,rfl,_⟩:=h;rfl
 obtain ⟨t,rfl,q⟩:=h
 refine ⟨_,(aR (cv (bR uN (a8 a9 (ae 0) av (λ _ _=>rfl)) (bP (af bf (af bf (af bf (af bf aw))))) (by with_unfolding_all rfl)) (bd (bz g6)) cI)
  (aR (cv (fN.at (sd (bR (cR (cC am)) (a8 a9 (ae 0) av (λ _ _=>rfl)) bf (bA _)) (sb (bR (cR (cC am)) (a8 a9 (a8 a9 (ae 0) av (λ _ _=>rfl)) av (λ _ _=>rfl)) bf (bA _))))) (bd (bz av)) cI)
  (bd (bz av)))),?_⟩
 cases t with
 | plus a b=>
  simp only [Tm.i9] at q;simp only [Tm.enc];rw [a.gT];refine ⟨rfl,rfl,λ c=>absurd c (by decide),λ _=>⟨λ _=>⟨λ c=>?_,λ c=>?_⟩,λ c=>absurd c (by decide)⟩⟩
  ·rw [show (a.word==Str.ofString "whole")=true from c] at q;exact bh.of q
  ·rw [show (a.word==Str.ofString "whole")=false from c] at q;exact bh.of q
 | name _=>exact ⟨rfl,rfl,λ _=>bh.of q,λ c=>absurd c (by decide)⟩
 | whole _=>exact ⟨rfl,rfl,λ _=>bh.of q,λ c=>absurd c (by decide)⟩
 | way _=>exact ⟨rfl,rfl,λ _=>bh.of q,λ c=>absurd c (by decide)⟩
 | pair _ _=>exact ⟨rfl,rfl,λ _=>bh.of q,λ c=>absurd c (by decide)⟩
 | _=>exact ⟨rfl,rfl,λ c=>absurd c (by decide),λ _=>⟨λ c=>absurd c (by decide),λ _=>⟨nofun,λ _=>bh.of q⟩⟩⟩
abbrev Cs:bB:=top 35
theorem vV:c9 ["program", "place", "one", "k"] ["program"] (b1 Cs):=⟨rfl,rfl,rfl,by decide +kernel,rfl,by decide +kernel,by decide +kernel⟩
theorem Xi(B:e_ mg)(sV:Got P w K mg base 1 "has_rule" ["program"] (aK K (qV Tm.d1)))(Ct:Got P w K mg base 1 "inner_in_use" ["program"] (aK K A7))(gG:Got P w K mg base 1 "inner" ["program"] (aK K (jH Tm.enc Tm.aV)))(F:c3 K "place_in_use" "place_in_use" Cs f fd):cp P w K mg base cc 2 f fd ["program"] (aK K A8):=by
 refine dn (k:=1) F vV (λ ds G au h=>?_) (λ bE A outer s H E am ds G au h=>?_)
 ·obtain ⟨t,rfl,_⟩:=h;rfl
 obtain ⟨t,rfl,hz,q⟩:=h
 refine ⟨_,(aR (bG (k:=1) vV.aY rfl (Or.inl rfl) (hI aw))
  (aR (bG (k:=2) vV.aY rfl (Or.inl rfl) (ae 0))
  (aR (lU PassesOwn.never (pq (gC (bn sV am (by omega) rfl (af (ae 2) aw)))) (aR (bG (k:=3) vV.aY rfl (Or.inl rfl) (bn Ct am (by omega) rfl (af (ae 2) aw)))
  (aR (cv (bR si (ae 3) g6 (bA _)) (bd (bz g6)) cI)
  (aR (iA (iE PySem.F.plainAttrs_list PySem.F.slot_list_append PySem.F.type_list_append kU (ae 1) (af (ae 3) aw)))
  (bd (bG (k:=2) vV.aY rfl (Or.inl rfl) (a8 a9 (bn gG am (by omega) rfl (af (ae 2) aw)) (ae 3) (λ _ _=>rfl))))))))
  (bd (bz (jE xS rfl B.tuple mt (af (ae 1) aw))))))),?_⟩
 intro l aQ;refine ⟨λ m ρ ap=>∃(ns:List Int)(u:Tm)(o:Option D),ρ=[some (Tm.enc t),some (.ref l),some (Tm.enc u),o]/\ap=up G l (.lst (ns.map D.int))/\t.use=u.use.map (ns++·)/\ns.length+u.aB<=t.aB/\m=u.aB,⟨_,[],t,_,rfl,rfl,by simp,by simp,rfl⟩,?_⟩;rintro m ρ ap ⟨ns,u,o,rfl,rfl,a0,bt,rfl⟩;refine ⟨u,rfl,λ c=>?_,λ c=>?_⟩
 ·have b_:u.d1=false:=by simpa using c
  refine ⟨u,rfl,?_⟩
  cases ar:u.i9 with
  | none=>
   rw [Tm.HZ ar] at a0;rw [a0] at q;exact ⟨λ _=>⟨_,Sub.new (Sub.refl _) aQ,q⟩,λ c=>absurd c (by decide)⟩
  | some k=>
   obtain ⟨v,ak,aq⟩:=Tm.x8 b_ ar;have aO:k < u.aV.length:=(ji.mp ak).1;have ax:=Tm.x5 (ih ak);refine ⟨λ c=>A4 c,λ _=>?_⟩;refine ⟨cY bF trivial,ez bF ⟨dx (by rw [bS];omega),?_⟩⟩;rw [hH];refine ⟨u,rfl,mW (d:=v.enc) (lp (by rw [eu,ak];rfl)) (eY.of ⟨v.aB,by omega,ns++[(k:Int)],v,_,rfl,by rw [iQ];rfl,?_,by simp;omega,rfl⟩)⟩;rw [a0,aq];cases v.use<;>simp
 ·have b_:u.d1=true:=by simpa using c
  rw [Tm.A5 b_] at a0;rw [a0] at q;refine cY bF ⟨_,Sub.new (Sub.refl _) aQ,?_⟩;simpa [vb,er] using q
abbrev Cu:bB:=top 34
theorem yI:c9 ["program", "pending", "entry", "one"] ["program"] (b1 Cu):=⟨rfl,rfl,rfl,by decide +kernel,rfl,by decide +kernel,by decide +kernel⟩
theorem Xj(Cv:Got P w K mg base 1 "path_of" ["trail"] (aK K x9))(F:c3 K "first_unanswered" "first_unanswered" Cu f fd):cp P w K mg base cc 2 f fd ["program"] (aK K A9):=by
 refine dn (k:=1) F yI (λ ds G au h=>?_) (λ bE A outer s H E am ds G au h=>?_)
 ·obtain ⟨t,rfl,_⟩:=h;rfl
 obtain ⟨t,rfl,hz,q⟩:=h
 refine ⟨_,(aR (bG (k:=1) yI.aY rfl (Or.inl rfl) (hI (af (bP (af (ae 0) (af g6 aw))) aw)))
  (aR (lU PassesOwn.never (gC (ae 1)) (aR (bG (k:=2) yI.aY rfl (Or.inl rfl) (qO PySem.F.plainAttrs_list PySem.F.slot_list_pop PySem.F.type_list_pop qP (ae 1)))
  (aR (bG (k:=3) yI.aY rfl (Or.inl rfl) (a8 a9 (ae 2) av (λ _ _=>rfl)))
  (bd (cv (bR (cR (cC am)) (a8 a9 (ae 3) av (λ _ _=>rfl)) bf (bA _)) (aR (iA (iE PySem.F.plainAttrs_list PySem.F.slot_list_append PySem.F.type_list_append kU (ae 1) (af (bP (af (a8 a9 (ae 3) av (λ _ _=>rfl)) (af (bP (af (a8 a9 (ae 2) av (λ _ _=>rfl)) (af av aw))) aw))) aw)))
  (bd (iA (iE PySem.F.plainAttrs_list PySem.F.slot_list_append PySem.F.type_list_append kU (ae 1) (af (bP (af (a8 a9 (ae 3) av (λ _ _=>rfl)) (af (bP (af (a8 a9 (ae 2) av (λ _ _=>rfl)) (af av aw))) aw))) aw))))) (bd (cv (fN.at (sd (bR (qS (cC am)) (a8 a9 (ae 3) av (λ _ _=>rfl)) bf (bA _)) (sb (bR (qS (cC am)) (a8 a9 (ae 3) av (λ _ _=>rfl)) bf (bA _))))) (bd (bz (bP (af (ae 3) (af (bn Cv am (by omega) rfl (af (a8 a9 (ae 2) av (λ _ _=>rfl)) aw)) aw))))) cI)))))))
  (bd (bz g6)))),?_⟩
 intro l aQ;refine ⟨λ m ρ ap=>∃(ps:List (Tm × List Int))(m8 sW:Option D),ρ=[some (Tm.enc t),some (.ref l),m8,sW]/\ap=up G l (.lst (ps.map pA))/\t.ed=om ps.reverse/\hL ps<=t.aB/\(∀ z∈ps,z.2.length<=t.aB - hL ps)/\m=hL ps,⟨_,[(t,[])],_,_,rfl,rfl,?_,by simp [hL],by simp [hL],rfl⟩,?_⟩
 ·simp only [List.reverse_singleton,om,List.reverse_nil,List.nil_append];cases t.ed<;>rfl
 rintro m ρ ap ⟨ps,m8,sW,rfl,rfl,hf,ax,hd,rfl⟩;refine cY bF ⟨λ c=>?_,λ c=>?_⟩
 ·obtain ⟨cq,z,rfl⟩:∃ cq z,ps=cq++[z]:=by
   rcases List.eq_nil_or_concat ps with rfl | ⟨cq,z,rfl⟩
   ·simp at c
   ·exact ⟨cq,z,List.concat_eq_append ..⟩
  obtain ⟨u,r⟩:=z;rw [qZ] at ax hd ⊢;rw [List.reverse_append,List.reverse_singleton,List.singleton_append] at hf;have am:r.length<=t.aB - (hL cq+u.aB):=hd (u,r) (by simp);have bv:∀ z∈cq,z.2.length<=t.aB - (hL cq+u.aB):=λ z hz=>hd z (by simp [hz]);have a0:=u.lX;have hlen:=H4 cq;refine ⟨cY bF trivial,ez bF ⟨cq.map pA,pA (u,r),by simp,?_⟩⟩;rw [hH]
  have leaf:u.ed=none->eY (λ ρ ap=>∃ c5 < hL cq+u.aB,∃(ps:List (Tm × List Int))(m8 sW:Option D),ρ=[some (Tm.enc t),some (.ref l),m8,sW]/\ap=up G l (.lst (ps.map pA))/\t.ed=om ps.reverse/\hL ps<=t.aB/\(∀ z∈ps,z.2.length<=t.aB - hL ps)/\c5=hL ps) [some (Tm.enc t),some (.ref l),some (pA (u,r)),some u.enc] (up G l (.lst (cq.map pA))):=λ e=>
   eY.of ⟨hL cq,by omega,cq,_,_,rfl,rfl,by rw [hf];simp only [om,e],by omega,λ z hz=>by have:=bv z hz;omega,rfl⟩
  have out:u.ed=some ([],u)->x9 [qY r] (up G l (.lst (cq.map pA))) (λ d ap=>bh au (.tup [u.enc,d]) ap):=λ e=>by
   have aL:t.ed=some (r.reverse,u):=by rw [hf];simp only [om,e,k4]
   rw [aL] at q;exact ⟨r,rfl,by omega,_,Sub.new (Sub.refl _) aQ,q⟩
  cases u with
  | pair a b=>
   refine ⟨λ _=>?_,λ c=>absurd c (by decide)⟩;simp only [Tm.aB] at ax am bv;refine ⟨cY bF trivial,ez bF ⟨dx (by rw [bS];omega),?_⟩⟩;rw [hH];refine ⟨cY bF trivial,ez bF ⟨dx (by simp;omega),?_⟩⟩;rw [hH];refine eY.of ⟨hL (cq++[(b,1::r)]++[(a,0::r)]),by rw [qZ,qZ];simp only [Tm.aB];omega,cq++[(b,1::r)]++[(a,0::r)],_,_,rfl,by simp [pA,qY],?_,by rw [qZ,qZ];simp only [];omega,?_,rfl⟩
   ·rw [hf,To];simp
   ·intro z hz;rw [qZ,qZ];simp only [List.append_assoc,oO,List.nil_append,jS,dJ,jj,or_false] at hz;rcases hz with hz | rfl | rfl
    ·have:=bv z hz;simp only [];omega
    ·simp only [dH];omega
    ·simp only [dH];omega
  | whole k=>exact ⟨λ c=>absurd c (by decide),λ _=>⟨λ c=>absurd c (by decide),λ _=>⟨nofun,λ _=>leaf rfl⟩⟩⟩
  | way a=>exact ⟨λ c=>absurd c (by decide),λ _=>⟨λ _=>⟨λ c=>absurd c (by decide),λ _=>leaf rfl⟩,λ c=>absurd c (by decide)⟩⟩
  | _=>exact ⟨λ c=>absurd c (by decide),λ _=>⟨λ _=>⟨λ _=>out rfl,λ c=>absurd c (by decide)⟩,λ c=>absurd c (by decide)⟩⟩
 ·have e:ps=[]:=by
   cases ps with
   | nil=>rfl
   | cons _ _=>simp at c
  subst e;rw [show t.ed=none from hf] at q;exact ⟨_,Sub.new (Sub.refl _) aQ,q⟩
abbrev Cw:bB:=top 59
theorem Xk:c9 ["_law_part"] ["_law_part"] (b1 Cw):=⟨rfl,rfl,rfl,by decide +kernel,rfl,by decide +kernel,by decide +kernel⟩
theorem Xl:cp P w K mg base cc 1 f fd ["_law_part"] (aK K (sy 0)):=kV λ ds G au h=>by
 obtain ⟨_,_,h,_⟩:=h;omega
theorem Xm{n:Nat}(oy:Got P w K mg base (n+1) "_law_is_answer" ["_law_part"] (aK K (sy n)))(F:c3 K "_law_is_answer" "_law_is_answer" Cw f fd):cp P w K mg base cc (n+2) f fd ["_law_part"] (aK K (sy (n+1))):=by
 refine dn (k:=n+1) F Xk (λ ds G au h=>?_) (λ bE A outer s H E am ds G au h=>?_)
 ·obtain ⟨_,rfl,_⟩:=h;rfl
 obtain ⟨t,rfl,hd,q⟩:=h
 refine ⟨_,(aR (cv (bR (cR (cC am)) (a8 a9 (ae 0) av (λ _ _=>rfl)) bf (bA _)) (bd (bz (lS (bn oy am (by omega) rfl (af (a8 a9 (ae 0) av (λ _ _=>rfl)) aw)) (lR (bn oy am (by omega) rfl (af (a8 a9 (ae 0) av (λ _ _=>rfl)) aw)))))) cI)
  (bd (bz (fg uN (a8 a9 (ae 0) av (λ _ _=>rfl)) (bP (af bf (af bf aw))) (by with_unfolding_all rfl))))),?_⟩
 cases t with
 | pair a b=>
  simp only [Tm.aJ] at hd;refine ⟨λ _=>⟨a,rfl,by omega,?_⟩,λ c=>absurd c (by decide)⟩;simp only [Tm.iH] at q
  cases de:a.iH with
  | true=>rw [de,Bool.true_and] at q;exact ⟨λ _=>⟨b,rfl,by omega,bh.of q⟩,nofun⟩
  | false=>rw [de,Bool.false_and] at q;exact ⟨nofun,λ _=>bh.of q⟩
 | _=>exact ⟨λ c=>absurd c (by decide),λ _=>⟨rfl,rfl,bh.of q⟩⟩
abbrev Cx:bB:=top 24
theorem KD:c9 ["program", "k", "other", "inners"] ["program", "k", "other"] (b1 Cx):=⟨rfl,rfl,rfl,by decide +kernel,rfl,by decide +kernel,by decide +kernel⟩
theorem Xn(gG:Got P w K mg base 1 "inner" ["program"] (aK K (jH Tm.enc Tm.aV)))(F:c3 K "with_inner" "with_inner" Cx f fd):cp P w K mg base cc 2 f fd ["program", "k", "other"] (aK K BG):=by
 refine dn (k:=1) F KD (λ ds G au h=>?_) (λ bE A outer s H E am ds G au h=>?_)
 ·obtain ⟨_,_,_,rfl,_⟩:=h;rfl
 obtain ⟨t,k,o,rfl,pH,aO,q⟩:=h
 refine ⟨_,(aR (bG (k:=3) KD.aY rfl (Or.inl rfl) (bn gG am (by omega) rfl (af (ae 0) aw)))
  (bd (bz (bH dN (bH dN (bH dN (bP (af (a8 a9 (ae 0) av (λ _ _=>rfl)) aw)) (kP kR (ae 3) kN (kO (ae 1)))) (bP (af (ae 2) aw))) (kP kR (ae 3) (kO (bH dN (ae 1) av)) kN))))),?_⟩
 have yF:=t.el;have hm:(t.aV.map Tm.enc).length=t.aV.length:=bS ..;refine ⟨t,rfl,(show kQ t.enc (.int 0) _ _ from sF ?_)⟩
 have aP:((t.aV.map Tm.enc).take k).length<=3:=by rw [nv,hm];omega
 have aL:((t.aV.map Tm.enc).drop (k+1)).length<=3:=by rw [ny,hm];omega
 have dF:cut (t.aV.map Tm.enc) none (some (k:Int))=(t.aV.map Tm.enc).take k:=Jf (by omega);have dE:cut (t.aV.map Tm.enc) (some ((k:Int)+1)) none=(t.aV.map Tm.enc).drop (k+1):=yt (by omega);refine ⟨small ?_,small ?_,small ?_,bh.of ?_⟩
 ·rw [dF];simp only [dH,gZ];omega
 ·rw [dF];simp only [fs,dH,gZ];omega
 ·rw [dF,dE];simp only [fs,dH,gZ];omega
 ·rw [dF,dE];rw [Tm.ia pH (List.length_set ..)] at q
  have z:(t.aV.set k o).map Tm.enc=(t.aV.map Tm.enc).take k++o.enc::(t.aV.map Tm.enc).drop (k+1):=by
   rw [List.map_set,List.set_eq_take_append_cons_drop,if_pos (by omega)]
  rw [z] at q;simpa using q
abbrev Cy:bB:=top 23
theorem pI:c9 ["program", "place", "other", "around", "one", "k", "made", "depth"] ["program", "place", "other"] (b1 Cy):=⟨rfl,rfl,rfl,by decide +kernel,rfl,by decide +kernel,by decide +kernel⟩
theorem Xo(B:e_ mg)(gG:Got P w K mg base 1 "inner" ["program"] (aK K (jH Tm.enc Tm.aV)))(Cz:Got P w K mg base 2 "with_inner" ["program", "k", "other"] (aK K BG))(F:c3 K "replaced" "replaced" Cy f fd):cp P w K mg base cc 3 f fd ["program", "place", "other"] (aK K BH):=by
 refine dn (k:=2) F pI (λ ds G au h=>?_) (λ bE A outer s H E am ds G au h=>?_)
 ·obtain ⟨_,_,_,_,rfl,_⟩:=h;rfl
 obtain ⟨t,ns,u,o,rfl,a0,aQ,q⟩:=h
 refine ⟨_,(aR (bG (k:=3) pI.aY rfl (Or.inl rfl) (hI aw))
  (aR (bG (k:=4) pI.aY rfl (Or.inl rfl) (ae 0))
  (aR (uV PassesOwn.never rfl (iC (ae 1)) (gD (k:=5) pI.aY rfl (Or.inl rfl)) (aR (iA (iE PySem.F.plainAttrs_list PySem.F.slot_list_append PySem.F.type_list_append kU (ae 3) (af (ae 4) aw)))
  (bd (bG (k:=4) pI.aY rfl (Or.inl rfl) (a8 a9 (bn gG am (by omega) rfl (af (ae 4) aw)) (ae 5) (λ _ _=>rfl))))))
  (aR (bG (k:=6) pI.aY rfl (Or.inl rfl) (ae 2))
  (aR (uV PassesOwn.never rfl (Sn rfl B.range (af (bH dV (fB kh rfl B.len jX (af (ae 1) aw)) av) (af (xJ xN av) (af (xJ xN av) aw)))) (gD (k:=7) pI.aY rfl (Or.inl rfl)) (bd (bG (k:=6) pI.aY rfl (Or.inl rfl) (bn Cz am (by omega) rfl (af (a8 a9 (ae 3) (ae 7) (λ _ _=>rfl)) (af (a8 a9 (ae 1) (ae 7) (λ _ _=>rfl)) (af (ae 6) aw)))))))
  (bd (bz (ae 6)))))))),?_⟩
 intro a aD;refine ⟨λ i ρ ap=>∃ eI:Option D,ρ=[some t.enc,some (er ns),some o.enc,some (.ref a),some (t.along ns i).enc,eI,none,none]/\up G a (.lst ((eL i).map λ j=>(t.along ns j).enc))=ap,⟨_,rfl,rfl⟩,λ _ _ _ _ _=>trivial,?_,?_⟩
 ·rintro i d ρ ap hd ⟨eI,rfl,rfl⟩;have ha:(ns.map D.int)[i]?=some d:=hd;rw [eu] at ha
  cases e:ns[i]? with
  | none=>rw [e] at ha;cases ha
  | some k=>
   rw [e] at ha;cases ha;obtain ⟨f6,vW⟩:=Tm.Jd a0 e;have ar:=(ji.mp e).1;refine ⟨cY bF trivial,ez bF ⟨dx (by rw [bS,oP];omega),?_⟩⟩;rw [hH];refine ⟨t.along ns i,rfl,mW (d:=(t.along ns (i+1)).enc) ?_ (eY.of ⟨_,rfl,?_⟩)⟩
   ·have z:=lp (xs:=(t.along ns i).aV.map Tm.enc) (j:=k.toNat) (v:=(t.along ns (i+1)).enc) (by rw [eu,vW];rfl)
    rwa [show ((k.toNat:Nat):Int)=k by omega] at z
   ·rw [List.range_succ,iQ];rfl
 ·rintro ρ ap ⟨eI,hρ,rfl⟩;have Cg:(⟨ns.map D.int,λ _=>True⟩:kS).items.length=ns.length:=bS ..;rw [Cg] at hρ ⊢;subst hρ;refine ⟨rfl,rfl,xU.mpr (by rw [bS];omega),?_⟩;rw [bS];refine ⟨λ j ρ ap=>∃ sR:Option D,ρ=[some t.enc,some (er ns),some o.enc,some (.ref a),some (t.along ns ns.length).enc,eI,some (Tm.ep o (ns.drop (ns.length - j)) (t.along ns (ns.length - j))).enc,sR]/\up G a (.lst ((eL ns.length).map λ j=>(t.along ns j).enc))=ap,⟨none,?_,rfl⟩,λ _ _ _ _ _=>trivial,?_,?_⟩
  ·rw [wH,List.drop_length];rfl
  ·rintro j d ρ ap hd ⟨sR,rfl,rfl⟩;obtain ⟨cP,rfl⟩:=Hp hd
   have ads:j < ns.length:=by omega
   rw [show ((ns.length:Nat):Int) - 1 - (j:Int)=((ns.length - 1 - j:Nat):Int) by omega];generalize adt:ns.length - 1 - j=ej
   have fy:ej < ns.length:=by omega
   rw [show ns.length - j=ej+1 by omega];have aO:ns[ej]?=some ns[ej]:=gb fy;obtain ⟨f6,vW⟩:=Tm.Jd a0 aO;refine uM bF (d:=(t.along ns ej).enc) (lp (by rw [eu,tr fy];rfl)) (mW (d:=.int ns[ej]) (lp (by rw [eu,aO];rfl)) ?_);refine ⟨t.along ns ej,ns[ej].toNat,_,by rw [Int.toNat_of_nonneg f6],Jg vW,(ji.mp vW).1,eY.of ⟨some (.int (ej:Nat)),?_,rfl⟩⟩
   have e:Tm.ep o (ns.drop ej) (t.along ns ej)=(t.along ns ej).hM ((t.along ns ej).aV.set ns[ej].toNat (Tm.ep o (ns.drop (ej+1)) (t.along ns (ej+1)))):=by
    rw [p3 fy,Tm.ep,mm,vW];rfl
   rw [show ns.length - (j+1)=ej by omega,e];rfl
  ·rintro ρ ap ⟨sR,rfl,rfl⟩;rw [Hq,show ns.length - (((ns.length:Nat):Int) - 1+1).toNat=0 by omega,tn];exact ⟨G,Sub.new (Sub.refl _) aD,q⟩
abbrev CA:bB:=top 2
theorem vX:c9 ["thing", "inners_of", "most", "deepest", "many", "pending", "entry"] ["thing", "inners_of", "most", "deepest"] (b1 CA):=⟨rfl,rfl,rfl,by decide +kernel,rfl,by decide +kernel,by decide +kernel⟩
theorem Xp{f6:Nat}(F:c3 K "is_over" "is_over" CA f fd):cp P w K mg base cc (f6+1) f fd ["thing", "inners_of", "most", "deepest"] (aK K (BI P w K mg base f6)):=by
 refine dn (k:=f6) F vX (λ ds G au h=>?_) (λ bE A outer s H E am ds G au h=>?_)
 ·obtain ⟨_,_,rfl,_⟩:=h;rfl
 obtain ⟨t,rg,rfl,CB,q⟩:=h
 refine ⟨_,(aR (bG (k:=4) vX.aY rfl (Or.inl rfl) av)
  (aR (bG (k:=5) vX.aY rfl (Or.inl rfl) (hI (af (bP (af (ae 0) (af av aw))) aw)))
  (aR (lU PassesOwn.never (gC (ae 5)) (aR (bG (k:=6) vX.aY rfl (Or.inr rfl) (qO PySem.F.plainAttrs_list PySem.F.slot_list_pop PySem.F.type_list_pop qP (ae 5)))
  (aR (SO (k:=4) vX.aY rfl (Or.inl rfl) av SN)
  (aR (cv (fN.at (kM (bR h8 (ae 4) (ae 2) (bA _)) (lT (bR h8 (a8 a9 (ae 6) av (λ _ _=>rfl)) (ae 3) (bA _))))) (bd (bz kJ)) cI)
  (bd (iA (iE PySem.F.plainAttrs_list PySem.F.slot_list_extend PySem.F.type_list_extend x3 (ae 5) (af (qN rfl (ey.of (N':=["one", "entry"]) (nt:=1) (cap:=[6]) rfl (by kernel_rfl)) (h9 (k:=0) (by decide)) (iC (Hy 1 CB am (by omega) (af (a8 a9 (ae 6) av (λ _ _=>rfl)) aw))) (λ _ _ _ _=>(gD (k:=0) (show List.Nodup (["one", "entry"]:List Str) by decide +kernel) rfl (Or.inl rfl))) (λ _ _ _ _=>(bP (af (ae 0) (af (bH dN (a8 a9 (ae 1) av (λ _ _=>rfl)) av) aw))))) aw))))))))
  (bd (bz kJ))))),?_⟩
 intro b ag;refine ⟨λ μ ρ ap=>∃(ps:List (Tm × Nat))(m:Nat)(vQ:Option D),ρ=[some t.enc,some (.ref rg),some (.int 3000),some (.int 100),some (.int m),some (.ref b),vQ]/\up G b (.lst (ps.reverse.map iK))=ap/\m+ou ps=t.aB/\(vD ps ↔ 100 < t.aJ)/\m<=3000/\ps.length<=3 * m+1/\3001 - m=μ,⟨_,[(t,0)],0,_,rfl,rfl,by simp [ou],by simp [vD],by decide,by simp,rfl⟩,?_⟩;rintro μ ρ ap ⟨ps,m,vQ,rfl,rfl,ax,hd,hm,fX,rfl⟩;refine cY bF ⟨λ c=>?_,λ c=>?_⟩
 ·obtain ⟨u,d,cq,rfl⟩:∃ u d cq,ps=(u,d)::cq:=by
   cases ps with
   | nil=>simp at c
   | cons z cq=>exact ⟨z.1,z.2,cq,rfl⟩
  have a0:=u.lX;rw [VO] at ax;simp only [] at ax;rw [dH] at fX;refine ⟨cY bF trivial,ez bF ⟨cq.reverse.map iK,iK (u,d),by simp,?_⟩⟩;rw [hH]
  have KE:t.over=true->bh au (.aU true) (up G b (.lst (cq.reverse.map iK))):=λ e=>⟨G,Sub.new (Sub.refl _) ag,by rw [e] at q;exact q⟩
  refine ⟨λ dF=>⟨λ _=>KE ?_,λ c=>x7 c⟩,λ dF=>⟨λ dE=>KE ?_,λ dE=>?_⟩⟩
  ·have:3000 < m+1:=by have cB:(3000:Int) < (m:Int)+1:=of_decide_eq_true dF;omega
   unfold Tm.over;rw [decide_eq_true (show 3000 < t.aB by omega)];rfl
  ·have aq:100 < d:=by have:=of_decide_eq_true dE;omega
   unfold Tm.over;rw [decide_eq_true (hd.mp ⟨(u,d),fh ..,by show 100 < d+u.aJ;omega⟩),Bool.or_true]
  ·have ak:m+1<=3000:=by have cB:¬ (3000:Int) < (m:Int)+1:=of_decide_eq_false dF;omega
   have aq:d<=100:=by have:=of_decide_eq_false dE;omega
   have yF:=u.el;refine ⟨cY bF trivial,rfl,u,rfl,?_⟩;refine g7 u.aV Tm.enc (λ x=>iK (x,d+1)) rfl (dx (by omega)) trivial (λ x _ R cF=>cF) (λ p az=>?_)
   have np:b≠p:=by rintro rfl;rw [bF] at az;cases az
   refine ez (by rw [c7 np];exact bF) (ez bF ⟨small (by simp only [bS,jT];omega),?_⟩);have adu:=VQ (u:=u) (d:=d) (ps:=cq);refine ⟨_,up G b (.lst (cq.reverse.map iK++u.aV.map λ x=>iK (x,d+1))),.refl _,Sub.put (Sub.trans (Sub.new (Sub.refl _) ag) (Sub.new (Sub.refl _) az)),3001 - (m+1),by omega,(u.aV.map λ x=>(x,d+1)).reverse++cq,m+1,_,rfl,?_,by omega,by rw [VR aq];exact hd,ak,?_,rfl⟩
   ·simp [fE,Function.comp_def]
   ·simp only [fs,jT,bS];omega
 ·have e:ps=[]:=by
   cases ps with
   | nil=>rfl
   | cons _ _=>simp at c
  subst e
  have aP:t.over=false:=by
   unfold Tm.over;rw [decide_eq_false (show ¬ 3000 < t.aB by simp [ou] at ax;omega),decide_eq_false (show ¬ 100 < t.aJ from λ h=>by obtain ⟨z,hz,_⟩:=hd.mpr h;cases hz)];rfl
  rw [aP] at q;exact ⟨G,Sub.new (Sub.refl _) ag,q⟩
abbrev CC:bB:=top 39
theorem Xq:c9 ["program"] ["program"] (b1 CC):=⟨rfl,rfl,rfl,by decide +kernel,rfl,by decide +kernel,by decide +kernel⟩
theorem Xr(gG:Got P w K mg base 1 "inner" ["program"] (aK K (jH Tm.enc Tm.aV)))(CD:Got P w K mg base 2 "is_over" ["thing", "inners_of", "most", "deepest"] (aK K (BI P w K mg base 1))){t1 c2:Tok}(CE:mg "MOST_PARTS" = some (.int 3000 t1))(CF:mg "MOST_DEEP" = some (.int 100 c2))(F:c3 K "is_great" "is_great" CC f fd):cp P w K mg base cc 3 f fd ["program"] (aK K BJ):=by
 refine dn (k:=2) F Xq (λ ds G au h=>?_) (λ bE A outer s H E am ds G au h=>?_)
 ·obtain ⟨_,rfl,_⟩:=h;rfl
 obtain ⟨t,rfl,q⟩:=h;obtain ⟨rg,CG,CH⟩:=gG.Gq;exact ⟨_,(bd (bz (bn CD am (by omega) rfl (af (ae 0) (af (xH (d:=.ref _) (v:=.ref _) rfl CG rfl (λ _=>rfl)) (af (xH (d:=.int _) (v:=.int _) rfl CE ⟨_,rfl⟩ (λ _=>rfl)) (af (xH (d:=.int _) (v:=.int _) rfl CF ⟨_,rfl⟩ (λ _=>rfl)) aw))))))),t,rg,rfl,CH,bh.of q⟩
abbrev CI:bB:=top 1
theorem yJ:c9 ["thing", "inners_of", "found", "pending", "one"] ["thing", "inners_of"] (b1 CI):=⟨rfl,rfl,rfl,by decide +kernel,rfl,by decide +kernel,by decide +kernel⟩
theorem Xs{f6:Nat}(B:e_ mg)(F:c3 K "walked" "walked" CI f fd):cp P w K mg base cc (f6+1) f fd ["thing", "inners_of"] (aK K (BK P w K mg base f6)):=by
 refine dn (k:=f6) F yJ (λ ds G au h=>?_) (λ bE A outer s H E am ds G au h=>?_)
 ·obtain ⟨_,_,_,_,_,_,rfl,_⟩:=h;rfl
 obtain ⟨α,enc,aV,all,rg,x,rfl,fZ,CB,hsz,fin⟩:=h
 refine ⟨_,(aR (bG (k:=2) yJ.aY rfl (Or.inl rfl) (hI aw))
  (aR (bG (k:=3) yJ.aY rfl (Or.inl rfl) (hI (af (ae 0) aw)))
  (aR (lU PassesOwn.never (gC (ae 3)) (aR (bG (k:=4) yJ.aY rfl (Or.inl rfl) (qO PySem.F.plainAttrs_list PySem.F.slot_list_pop PySem.F.type_list_pop qP (ae 3)))
  (aR (iA (iE PySem.F.plainAttrs_list PySem.F.slot_list_append PySem.F.type_list_append kU (ae 2) (af (ae 4) aw)))
  (bd (iA (iE PySem.F.plainAttrs_list PySem.F.slot_list_extend PySem.F.type_list_extend x3 (ae 3) (af (SQ rfl B.list rfl B.reversed (Hy 1 CB am (by omega) (af (ae 4) aw))) aw)))))))
  (bd (bz (ae 2)))))),?_⟩
 intro a aD b ag;obtain ⟨-,kq,dQ⟩:=og (o:=.lst []) ag;refine ⟨λ μ ρ ap=>∃(ps bO:List α)(jA:Option D),ρ=[some (enc x),some (.ref rg),some (.ref a),some (.ref b),jA]/\up (up G a (.lst (bO.map enc))) b (.lst (ps.reverse.map enc))=ap/\bO++ps.flatMap all=all x/\(ps.flatMap all).length=μ,⟨_,[x],[],_,rfl,rfl,by simp,rfl⟩,?_⟩;rintro μ ρ ap ⟨ps,bO,jA,rfl,rfl,j8,rfl⟩
 have hlen:bO.length+(ps.flatMap all).length=(all x).length:=by rw [<- j8,fs]
 refine cY bF ⟨λ c=>?_,λ c=>?_⟩
 ·obtain ⟨y,cq,rfl⟩:∃ y cq,ps=y::cq:=by
   cases ps with
   | nil=>simp at c
   | cons z cq=>exact ⟨z,cq,rfl⟩
  rw [ts,fZ y,oO] at j8;have hE:=Je fZ ((aV y)++cq);rw [ts,fZ y,oO,dH,<- tu] at hlen;rw [fs] at hE;rw [<- tu] at j8;refine ⟨cY bF trivial,ez bF ⟨cq.reverse.map enc,enc y,by simp,?_⟩⟩;rw [hH]
  have hO:∀ o,up (up G a (.lst (bO.map enc))) b o a=some (.lst (bO.map enc)):=λ o=>by rw [c7 (Ne.symm dQ)];exact bF
  refine ⟨cY (hO _) trivial,ez (hO _) ⟨dx (by rw [bS];omega),?_⟩⟩;rw [qW dQ];refine ⟨cY bF trivial,rfl,y,rfl,λ p az=>?_⟩
  have np:b≠p:=by rintro rfl;rw [bF] at az;cases az
  refine ez (by rw [c7 np];exact bF) (ez bF ⟨small (by simp only [bS,jT];omega),?_⟩);refine ⟨_,up (up G a (.lst (bO.map enc++[enc y]))) b (.lst (cq.reverse.map enc++((aV y).map enc).reverse)),.refl _,Sub.put (Sub.trans (Sub.new (Sub.refl _) (by rw [c7 dQ];exact kq)) (Sub.new (Sub.refl _) az)),((aV y++cq).flatMap all).length,?_,aV y++cq,bO++[y],_,rfl,?_,?_,rfl⟩
  ·rw [ts,fZ y,oO,dH,tu];omega
  ·simp
  ·rw [<- j8,tu];simp
 ·have e:ps=[]:=by
   cases ps with
   | nil=>rfl
   | cons _ _=>simp at c
  subst e
  have aL:bO=all x:=by simpa using j8
  subst aL;exact ⟨up G a (.lst ((all x).map enc)),Sub.new (Sub.refl _) (by rw [c7 dQ];exact kq),fin a aD⟩
abbrev CJ:bB:=top 6
theorem Xt:c9 ["program"] ["program"] (b1 CJ):=⟨rfl,rfl,rfl,by decide +kernel,rfl,by decide +kernel,by decide +kernel⟩
theorem Xu(CK:Got P w K mg base 1 "inner_of_pair" ["program"] (aK K (jH Tm.enc Tm.sG)))(CL:Got P w K mg base 2 "walked" ["thing", "inners_of"] (aK K (BK P w K mg base 1)))(F:c3 K "pairs_and_leaves" "pairs_and_leaves" CJ f fd):cp P w K mg base cc 3 f fd ["program"] (aK K BL):=by
 refine dn (k:=2) F Xt (λ ds G au h=>?_) (λ bE A outer s H E am ds G au h=>?_)
 ·obtain ⟨_,rfl,_⟩:=h;rfl
 obtain ⟨t,rfl,hz,q⟩:=h;obtain ⟨rg,CM,CH⟩:=CK.Gq;have aQ:=t.Jc;exact ⟨_,(bd (bz (bn CL am (by omega) rfl (af (ae 0) (af (xH (d:=.ref _) (v:=.ref _) rfl CM rfl (λ _=>rfl)) aw))))),Tm,Tm.enc,Tm.sG,Tm.jc,rg,t,rfl,Tm.VL,CH,by omega,λ l aQ=>bh.of (q l aQ)⟩
abbrev CN:bB:=top 5
theorem Xv:c9 ["program"] ["program"] (b1 CN):=⟨rfl,rfl,rfl,by decide +kernel,rfl,by decide +kernel,by decide +kernel⟩
theorem Xw(B:e_ mg)(CO:Got P w K mg base 3 "pairs_and_leaves" ["program"] (aK K BL))(F:c3 K "is_answer" "is_answer" CN f fd):cp P w K mg base cc 4 f fd ["program"] (aK K BM):=by
 refine dn (k:=3) F Xv (λ ds G au h=>?_) (λ bE A outer s H E am ds G au h=>?_)
 ·obtain ⟨_,rfl,_⟩:=h;rfl
 obtain ⟨t,rfl,hz,q⟩:=h;refine ⟨_,(bd (bz (pw (fB (HJ rfl) rfl B.all PyProof.Rows.boot_all (af (qN rfl (ey.of (N':=["one"]) (nt:=1) (cap:=[]) rfl (by kernel_rfl)) (h9 (k:=0) (by decide)) (iC (bn CO am (by omega) rfl (af (ae 0) aw))) (λ _ _ _ _=>(gD (k:=0) (show List.Nodup (["one"]:List Str) by decide +kernel) rfl (Or.inl rfl))) (λ _ _ _ _=>(fg uN (a8 a9 (ae 0) av (λ _ _=>rfl)) (bP (af bf (af bf (af bf aw)))) (by with_unfolding_all rfl)))) aw))))),?_⟩;have aQ:=t.Jc;refine ⟨t,rfl,hz,λ l oq=>uR bF ?_⟩;refine g7 t.jc Tm.enc (λ u=>.aU u.vC) rfl (dx (by omega)) bF (λ u _ R cF=>?_) (λ p az=>?_)
 ·refine (show kQ u.enc (.int 0) _ _ from sF ⟨rfl,rfl,?_⟩);rw [Bool.false_xor,VS];exact cF
 ·obtain ⟨-,g2,ff⟩:=og (o:=.lst []) az;refine cY bF ⟨t.jc.map Tm.vC,?_,G,Sub.new (Sub.new (Sub.refl _) oq) g2,bh.of ?_⟩
  ·rw [<- AY (t.jc.map Tm.vC),fE];rfl
  ·rw [List.all_map,show t.jc.all (id ∘ Tm.vC)=t.iH from t.VM];exact q
abbrev CP:bB:=top 33
theorem CQ:c9 ["program", "found", "rest"] ["program"] (b1 CP):=⟨rfl,rfl,rfl,by decide +kernel,rfl,by decide +kernel,by decide +kernel⟩
theorem Xx(CR:Got P w K mg base 2 "first_unanswered" ["program"] (aK K A9))(CS:Got P w K mg base 2 "place_in_use" ["program"] (aK K A8))(F:c3 K "next_use" "next_use" CP f fd):cp P w K mg base cc 3 f fd ["program"] (aK K BF):=by
 refine dn (k:=2) F CQ (λ ds G au h=>?_) (λ bE A outer s H E am ds G au h=>?_)
 ·obtain ⟨t,rfl,_⟩:=h;rfl
 obtain ⟨t,rfl,hz,q⟩:=h
 refine ⟨_,(aR (bG (k:=1) CQ.aY rfl (Or.inl rfl) (bn CR am (by omega) rfl (af (ae 0) aw)))
  (aR (cv (bR si (ae 1) g6 (bA _)) (bd (bz g6)) cI)
  (aR (bG (k:=2) CQ.aY rfl (Or.inl rfl) (bn CS am (by omega) rfl (af (a8 a9 (ae 1) av (λ _ _=>rfl)) aw)))
  (bd (bz (n3 (bR si (ae 2) g6 (bA _)) g6 (bP (af (a8 a9 (ae 1) av (λ _ _=>rfl)) (af (ae 2) aw))))))))),?_⟩
 refine ⟨t,rfl,hz,?_⟩;unfold Tm.gV at q
 cases e:t.ed with
 | none=>rw [e] at q;exact ⟨λ _=>bh.of q,λ c=>x7 c⟩
 | some z=>
  rw [e] at q;simp only [] at q;refine ⟨λ c=>A4 c,λ _=>⟨z.2,rfl,?_,?_⟩⟩
  ·have:=Tm.Tl e;omega
  ·cases aL:z.2.use with
   | none=>rw [aL] at q;exact ⟨λ _=>bh.of q,λ c=>x7 c⟩
   | some ns=>rw [aL] at q;exact ⟨λ c=>A4 c,λ _=>bh.of q⟩
abbrev CT:bB:=top 7
theorem Xy:c9 ["program"] ["program"] (b1 CT):=⟨rfl,rfl,rfl,by decide +kernel,rfl,by decide +kernel,by decide +kernel⟩
theorem Xz(F:c3 K "inner_of_pair" "inner_of_pair" CT f fd):cp P w K mg base cc 1 f fd ["program"] (aK K (jH Tm.enc Tm.sG)):=by
 refine dn (k:=0) F Xy (λ ds G au h=>?_) (λ bE A outer s H E am ds G au h=>?_)
 ·obtain ⟨t,rfl,_⟩:=h;rfl
 obtain ⟨t,rfl,q⟩:=h;refine ⟨_,(bd (bz (n3 (bR (cR (cC am)) (a8 a9 (ae 0) av (λ _ _=>rfl)) bf (bA _)) (kP kR (ae 0) (kO av) kN) (bP aw)))),?_⟩
 cases t with
 | pair a b=>exact ⟨λ _=>bh.of q,λ c=>absurd c (by decide)⟩
 | _=>exact ⟨λ c=>absurd c (by decide),λ _=>bh.of q⟩
abbrev CU:bB:=top 14
theorem XA:c9 ["program"] ["program"] (b1 CU):=⟨rfl,rfl,rfl,by decide +kernel,rfl,by decide +kernel,by decide +kernel⟩
theorem XB(B:e_ mg)(sX:Got P w K mg base 2 "names_in" ["program"] (aK K yf))(F:c3 K "open_names" "open_names" CU f fd):cp P w K mg base cc 3 f fd ["program"] (aK K BN):=by
 refine dn (k:=2) F XA (λ ds G au h=>?_) (λ bE A outer s H E am ds G au h=>?_)
 ·obtain ⟨_,rfl,_⟩:=h;rfl
 obtain ⟨t,rfl,hz,bt,q⟩:=h;refine ⟨_,(bd (bz (Uy rfl B.sorted rfl B.set (u1 rfl (ey.of (N':=["number", "ways"]) (nt:=2) (cap:=[]) rfl (by kernel_rfl)) (AK (sn oa (AJ oa sm) (h9 (k:=0) (by decide)) (sn oa sm (h9 (k:=1) (by decide)) AH))) (iC (bn sX am (by omega) rfl (af (ae 0) aw))) (λ _ _ _ _=>(Ay (n:=2) rfl (sf (gD (k:=0) (show List.Nodup (["number", "ways"]:List Str) by decide +kernel) rfl (Or.inl rfl)) (sf (gD (k:=1) (show List.Nodup (["number", "ways"]:List Str) by decide +kernel) rfl (Or.inl rfl)) Ax)))) (λ _ _ _ _=>(bR sh (ae 0) (ae 1) (bA _))) (λ _ _ _ _=>(bH dV (ae 0) (ae 1))))))),?_⟩;refine ⟨t,rfl,hz,λ cu ak=>uR bF ?_⟩;refine iD (t.dI 0) kY (λ z=>if z.2<=z.1 then some (.int ((z.1:Int) - z.2)) else none) rfl (dx (by have:=t.A_ 0;omega)) bF ?_ ?_
 ·intro z zF R S cF cX;refine ⟨λ c=>?_,λ c=>?_⟩
  ·have b_:(z.2:Int)<=z.1:=by simpa using c
   exact cF _ (by rw [if_pos (by omega)])
  ·have b_:¬ (z.2:Int)<=z.1:=by simpa using c
   exact cX (by rw [if_neg (by omega)])
 ·intro p az
  have e:((t.dI 0).filterMap λ z=>if z.2<=z.1 then some (D.int ((z.1:Int) - z.2)) else none)=t.ja.map D.int:=by
   unfold Tm.ja Bl;rw [List.map_filterMap];congr 1;funext z;split<;>rfl
  rw [e];refine cY bF ⟨t.ja,sk _,by omega,λ ms ax dz oq=>?_⟩;obtain ⟨_,mK,_⟩:=og (o:=.lst []) oq;obtain ⟨_,ff,_⟩:=og (o:=.lst []) mK;exact ⟨up G dz (.lst (ms.map D.int)),Sub.put (Sub.trans (Sub.new (Sub.refl _) ak) (Sub.new (Sub.refl _) az)),q ms ax dz ff⟩
abbrev CV:bB:=top 19
theorem vY:c9 ["program", "depths", "deeper", "closed", "copies", "ways"] ["program", "depths"] (b1 CV):=⟨rfl,rfl,rfl,by decide +kernel,rfl,by decide +kernel,by decide +kernel⟩
theorem XC{T:Addr}{dy:Pos}(B:e_ mg)(CW:Got P w K mg base 3 "open_names" ["program"] (aK K BN))(CX:Got P w K mg base 4 "lifted" ["program", "many", "least"] (aK K (Be T dy)))(F:c3 K "copies_for" "copies_for" CV f fd):cp P w K mg base cc 5 f fd ["program", "depths"] (aK K (BO T dy)):=by
 refine dn (k:=4) F vY (λ ds G au h=>?_) (λ bE A outer s H E am ds G au h=>?_)
 ·obtain ⟨_,_,_,rfl,_⟩:=h;rfl
 obtain ⟨u,l,ws,rfl,aQ,hw,hz,bt,bQ,q⟩:=h
 refine ⟨_,(aR (bG (k:=2) vY.aY rfl (Or.inl rfl) (VA rfl B.sorted rfl B.set (ae 1) (hI (af av aw))))
  (aR (bG (k:=3) vY.aY rfl (Or.inl rfl) (lS (fg h8 (fB kh rfl B.len jX (af (ae 2) aw)) av (bA _)) (lR (WC (bn CW am (by omega) rfl (af (ae 0) aw))))))
  (aR (bG (k:=4) vY.aY rfl (Or.inl rfl) (UJ av (ae 0)))
  (aR (uV PassesOwn.never rfl (iC (ae 2)) (gD (k:=5) vY.aY rfl (Or.inl rfl)) (bd (UG (cC am) (ae 4) (ae 5) (n3 (gC (ae 3)) (ae 0) (bn CX am (by omega) rfl (af (ae 0) (af (ae 5) (af av aw))))))))
  (bd (bz (ae 4))))))),?_⟩
 refine cY aQ ⟨ws.map (λ(w:Nat)=>(w:Int)),by rw [<- sk,fE];rfl,by rw [bS];exact hw,?_⟩;refine λ kk XD=>cY bF ⟨0,rfl,λ ms ax bV hE=>?_⟩;have CY:Sub G (up (up G kk (.lst [.int 0])) bV (.lst (ms.map D.int))):=Sub.trans (Sub.new (Sub.refl _) XD) (Sub.new (Sub.refl _) hE);have CZ:up (up G kk (.lst [.int 0])) bV (.lst (ms.map D.int)) bV=some (.lst (ms.map D.int)):=bF;have sD:=CY _ _ bQ;generalize up (up G kk (.lst [.int 0])) bV (.lst (ms.map D.int))=KF at *;refine cY CZ ⟨λ c=>?_,λ c=>?_⟩
 ·refine ⟨u,rfl,hz,bt,λ ng kG jG aT=>cY bF ?_⟩;have vZ:=Sub.trans CY (Sub.new (o:=.lst (ng.map D.int)) (Sub.refl _) aT);have aL:=b0 (o:=.lst (ng.map D.int)) aT CZ;have v3:=b0 (o:=.lst (ng.map D.int)) aT sD
  have ag:(!(!(ng.map D.int).isEmpty))=true->u.ja=[]:=λ c=>by
   have:ng=[]:=by cases ng with | nil=>rfl | cons _ _=>simp at c
   subst this
   cases a4:u.ja with
   | nil=>rfl
   | cons x xs=>have:=(kG.2 x).mpr (by rw [a4];exact fh ..);cases this
  generalize up KF jG (.lst (ng.map D.int))=V at *;intro d hd
  have nZ:bV≠d:=by rintro rfl;rw [aL] at hd;cases hd
  refine ⟨bF,.inl 0,rfl,?_⟩;rw [hH];refine uR (by rw [c7 nZ];exact aL) ⟨λ i ρ ap=>∃(kvs:List (Key × D))(eI:Option D),ρ=[some u.enc,some (.ref l),some (.ref bV),some (.aU (!(!(ng.map D.int).isEmpty))),some (.ref d),eI]/\ap=up V d (.c4 kvs)/\(∀ j∈(0:Int)::ms.take i,f5 kvs (.inl j)=some (u.bU (dT j.toNat 0) 0).enc)/\kvs.length<=i+1,⟨[(.inl 0,u.enc)],_,rfl,rfl,?_,b7 _⟩,λ i ρ ap _ ⟨kvs,eI,_,h,_⟩=>(show ap bV=some (.lst (ms.map D.int)) by rw [h,c7 nZ];exact aL),?_,?_⟩
  ·intro j cP;rw [List.take_zero] at cP;rw [f_.mp cP];show some u.enc=some (u.bU (dT 0 0) 0).enc;rw [ID]
  ·rintro i x ρ ap aF ⟨kvs,eI,rfl,rfl,aO,KG⟩;have l6:(ms.map D.int)[i]?=some x:=aF;rw [eu] at l6
   cases iJ:ms[i]? with
   | none=>rw [iJ] at l6;cases l6
   | some j=>
    rw [iJ] at l6;cases l6;have v4:=ih iJ;have v5:=(ax.2 j).mp v4;rw [oJ,g0] at v5;obtain ⟨⟨w,sS,rfl⟩,XE⟩:=v5;have XF:i < ms.length:=(ji.mp iJ).1
    have lm:ms.length<=64:=by
     have aY:ms.Nodup:=ax.1.imp λ h=>by omega
     have:=Bm aY λ j cP=>(ax.2 j).mp cP;have:=List.length_filter_le (λ j:Int=>decide (j≠0)) (ws.map λ(w:Nat)=>(w:Int));rw [bS] at this;omega
    have C0:∀ y,y=(u.bU (dT w 0) 0).enc->∀ j∈(0:Int)::ms.take (i+1),f5 (kn kvs (.inl (w:Int)) y) (.inl j)=some (u.bU (dT j.toNat 0) 0).enc:=λ y bD j cP=>by
     rw [IH];by_cases c:(Sum.inl j:Key)=.inl (w:Int)
     ·rw [if_pos c];obtain rfl:j=(w:Int):=Sum.inl.inj c;rw [bD,hB]
     ·rw [if_neg c];refine aO j ?_;rcases dJ.mp cP with h | h
      ·exact dJ.mpr (.inl h)
      ·rw [p2,iJ] at h;rcases jS.mp h with h | h
       ·exact dJ.mpr (.inr h)
       ·have vt:j=(w:Int):=by simpa using h
        exact absurd (by rw [vt]) c
    have fin:∀ y,y=(u.bU (dT w 0) 0).enc->pD (up V d (.c4 kvs)) d λ v6=>∃ k,q7 (.int (w:Int))=some k/\v6.length < sizeLine/\eY (λ ρ ap=>∃(kvs:List (Key × D))(eI:Option D),ρ=[some u.enc,some (.ref l),some (.ref bV),some (.aU (!(!(ng.map D.int).isEmpty))),some (.ref d),eI]/\ap=up V d (.c4 kvs)/\(∀ j∈(0:Int)::ms.take (i+1),f5 kvs (.inl j)=some (u.bU (dT j.toNat 0) 0).enc)/\kvs.length<=i+1+1) [some u.enc,some (.ref l),some (.ref bV),some (.aU (!(!(ng.map D.int).isEmpty))),some (.ref d),some (.int (w:Int))] (up (up V d (.c4 kvs)) d (.c4 (kn v6 k y))):=λ y bD=>by
     refine Bp bF ⟨.inl (w:Int),rfl,dx (by omega),eY.of ⟨_,_,rfl,hH,C0 y bD,?_⟩⟩;have:=II kvs (.inl (w:Int)) y;omega
    refine ⟨λ c=>fin _ ?_,λ c=>⟨u,w,0,rfl,by rw [c7 (by rintro rfl;rw [v3] at hd;cases hd)];exact v3,hz,fin _ rfl⟩⟩;rw [BE w u 0 (I_ (ag c))]
  ·rintro ρ ap ⟨kvs,eI,rfl,rfl,aO,_⟩;refine ⟨up G d (.c4 kvs),Sub.put vZ,q d kvs (vZ.none hd) λ w sS=>?_⟩;have z:=aO (w:Int) ?_
   ·rw [hB] at z;exact z
   ·by_cases c:w=0
    ·rw [c];exact dJ.mpr (.inl rfl)
    ·refine dJ.mpr (.inr ?_)
     have e:ms.take (ms.map D.int).length=ms:=by rw [bS];exact p1 ..
     show (w:Int)∈ms.take (ms.map D.int).length;rw [e,ax.2,oJ];exact ⟨g0.mpr ⟨w,sS,rfl⟩,by simpa using c⟩
 ·have vZ:=CY;have aL:=CZ;have v3:=sD;have ag:false=true->u.ja=[]:=nofun;generalize KF=V at *;intro d hd
  have nZ:bV≠d:=by rintro rfl;rw [aL] at hd;cases hd
  refine ⟨bF,.inl 0,rfl,?_⟩;rw [hH];refine uR (by rw [c7 nZ];exact aL) ⟨λ i ρ ap=>∃(kvs:List (Key × D))(eI:Option D),ρ=[some u.enc,some (.ref l),some (.ref bV),some (.aU false),some (.ref d),eI]/\ap=up V d (.c4 kvs)/\(∀ j∈(0:Int)::ms.take i,f5 kvs (.inl j)=some (u.bU (dT j.toNat 0) 0).enc)/\kvs.length<=i+1,⟨[(.inl 0,u.enc)],_,rfl,rfl,?_,b7 _⟩,λ i ρ ap _ ⟨kvs,eI,_,h,_⟩=>(show ap bV=some (.lst (ms.map D.int)) by rw [h,c7 nZ];exact aL),?_,?_⟩
  ·intro j cP;rw [List.take_zero] at cP;rw [f_.mp cP];show some u.enc=some (u.bU (dT 0 0) 0).enc;rw [ID]
  ·rintro i x ρ ap aF ⟨kvs,eI,rfl,rfl,aO,KG⟩;have l6:(ms.map D.int)[i]?=some x:=aF;rw [eu] at l6
   cases iJ:ms[i]? with
   | none=>rw [iJ] at l6;cases l6
   | some j=>
    rw [iJ] at l6;cases l6;have v4:=ih iJ;have v5:=(ax.2 j).mp v4;rw [oJ,g0] at v5;obtain ⟨⟨w,sS,rfl⟩,XE⟩:=v5;have XF:i < ms.length:=(ji.mp iJ).1
    have lm:ms.length<=64:=by
     have aY:ms.Nodup:=ax.1.imp λ h=>by omega
     have:=Bm aY λ j cP=>(ax.2 j).mp cP;have:=List.length_filter_le (λ j:Int=>decide (j≠0)) (ws.map λ(w:Nat)=>(w:Int));rw [bS] at this;omega
    have C0:∀ y,y=(u.bU (dT w 0) 0).enc->∀ j∈(0:Int)::ms.take (i+1),f5 (kn kvs (.inl (w:Int)) y) (.inl j)=some (u.bU (dT j.toNat 0) 0).enc:=λ y bD j cP=>by
     rw [IH];by_cases c:(Sum.inl j:Key)=.inl (w:Int)
     ·rw [if_pos c];obtain rfl:j=(w:Int):=Sum.inl.inj c;rw [bD,hB]
     ·rw [if_neg c];refine aO j ?_;rcases dJ.mp cP with h | h
      ·exact dJ.mpr (.inl h)
      ·rw [p2,iJ] at h;rcases jS.mp h with h | h
       ·exact dJ.mpr (.inr h)
       ·have vt:j=(w:Int):=by simpa using h
        exact absurd (by rw [vt]) c
    have fin:∀ y,y=(u.bU (dT w 0) 0).enc->pD (up V d (.c4 kvs)) d λ v6=>∃ k,q7 (.int (w:Int))=some k/\v6.length < sizeLine/\eY (λ ρ ap=>∃(kvs:List (Key × D))(eI:Option D),ρ=[some u.enc,some (.ref l),some (.ref bV),some (.aU false),some (.ref d),eI]/\ap=up V d (.c4 kvs)/\(∀ j∈(0:Int)::ms.take (i+1),f5 kvs (.inl j)=some (u.bU (dT j.toNat 0) 0).enc)/\kvs.length<=i+1+1) [some u.enc,some (.ref l),some (.ref bV),some (.aU false),some (.ref d),some (.int (w:Int))] (up (up V d (.c4 kvs)) d (.c4 (kn v6 k y))):=λ y bD=>by
     refine Bp bF ⟨.inl (w:Int),rfl,dx (by omega),eY.of ⟨_,_,rfl,hH,C0 y bD,?_⟩⟩;have:=II kvs (.inl (w:Int)) y;omega
    refine ⟨λ c=>fin _ ?_,λ c=>⟨u,w,0,rfl,by rw [c7 (by rintro rfl;rw [v3] at hd;cases hd)];exact v3,hz,fin _ rfl⟩⟩;rw [BE w u 0 (I_ (ag c))]
  ·rintro ρ ap ⟨kvs,eI,rfl,rfl,aO,_⟩;refine ⟨up G d (.c4 kvs),Sub.put vZ,q d kvs (vZ.none hd) λ w sS=>?_⟩;have z:=aO (w:Int) ?_
   ·rw [hB] at z;exact z
   ·by_cases c:w=0
    ·rw [c];exact dJ.mpr (.inl rfl)
    ·refine dJ.mpr (.inr ?_)
     have e:ms.take (ms.map D.int).length=ms:=by rw [bS];exact p1 ..
     show (w:Int)∈ms.take (ms.map D.int).length;rw [e,ax.2,oJ];exact ⟨g0.mpr ⟨w,sS,rfl⟩,by simpa using c⟩
abbrev yK:bB:=top 18
theorem C1:c9 ["program", "other", "copies", "taken"] ["program", "other"] (b1 yK):=⟨rfl,rfl,rfl,by decide +kernel,rfl,by decide +kernel,by decide +kernel⟩
abbrev l7:bB:=(gP yK).getD 1 (.Pass ⟨0,0,0,0⟩)
theorem XG:uD ["number", "ways", "copies"] ["number", "ways"] ["copies"] (b1 l7):=⟨rfl,rfl,rfl,by decide +kernel,rfl,rfl,by decide +kernel,by decide +kernel,by decide +kernel,by decide +kernel,by decide +kernel⟩
theorem XH{u:Tm}{d:Addr}{kvs:List (Key × D)}(C:Nat->Nat->Prop)(j9:∀ n w:Nat,C n w->n=w->f5 kvs (.inl w)=some (u.bU (dT w 0) 0).enc):u7 P w K mg base 1 "taken" "put_in.<locals>.taken" l7 ["copies"] [.ref d] ["number", "ways"] (Bc (et u) C [(d,.c4 kvs)]):=by
 refine Ib (k:=0) XG (λ ds G au h=>?_) (λ _ _ _ _ _ us aQ=>match us,aQ with | [_,_],_=>rfl) (λ f bE cl A outer s H am ds G au h=>?_)
 ·obtain ⟨_,_,rfl,_⟩:=h;rfl
 obtain ⟨n,w,rfl,aE,gd,q⟩:=h
 refine ⟨_,(aR (cv (bR (cR (cC am)) (ae 0) (ae 1) (bA _)) (bd (bz (UD (cC am) (ae 2) (ae 1) (λ _ _=>rfl)))) cI)
  (bd (bz (bP (af bf (af (n3 (bR h8 (ae 0) (ae 1) (bA _)) (bH dV (ae 0) av) (ae 0)) aw)))))),?_⟩
 refine ⟨λ c=>?_,λ c=>⟨λ dE=>⟨Sub.refl _,?_⟩,λ dE=>⟨Sub.refl _,?_⟩⟩⟩
 ·have b_:(n:Int)=w:=by simpa using c
  obtain rfl:n=w:=by omega
  have bC:=j9 n n aE rfl
  have e:et u n n=u.bU (dT n 0) 0:=by unfold et;rw [if_pos rfl]
  rw [e] at q;exact Bp (yc.mpr ⟨gd _ (fh ..),rfl⟩) ⟨.inl (n:Int),_,rfl,bC,Sub.refl _,q⟩
 ·have b_:¬ (n:Int)=w:=by simpa using c
  have XI:(w:Int) < n:=by simpa using dE
  have e:(et u n w).enc=.tup [.str "name", .int ((n:Int) - 1)]:=by
   unfold et;rw [if_neg (by omega),if_pos (by omega)];show D.tup [.str "name", .int ((n - 1:Nat):Int)]=_;rw [show ((n - 1:Nat):Int)=(n:Int) - 1 by omega]
  rw [e] at q;exact q
 ·have b_:¬ (n:Int)=w:=by simpa using c
  have XI:¬ (w:Int) < n:=by simpa using dE
  have e:(et u n w).enc=.tup [.str "name", .int (n:Int)]:=by
   unfold et;rw [if_neg (by omega),if_neg (by omega)];rfl
  rw [e] at q;exact q
theorem XJ{c T C2:Addr}{dy:Pos}(j9:PySem.W.CodeHd base c C2)(gj:lM mg base)(B:e_ mg)(sX:Got P w K mg base 2 "names_in" ["program"] (aK K yf))(C3:Got P w K mg base 5 "copies_for" ["program", "depths"] (aK K (BO T dy)))(sP:Got P w K mg base 3 "with_names" ["program", "change"] (aK K (yg P w K mg base 1)))(F:sB K "put_in" "put_in" yK f fd c):cp P w K mg base cc 6 f fd ["program", "other"] (aK K (BP T dy C2 (hN l7))):=by
 refine Ic (k:=5) F C1 (λ ds G au h=>?_) (λ A outer s H E am ds G au h=>?_)
 ·obtain ⟨_,_,rfl,_⟩:=h;rfl
 obtain ⟨t,u,rfl,hz,XK,bt,yE,bQ,sY,q⟩:=h
 refine ⟨_,(aR (bG (k:=2) C1.aY rfl (Or.inr rfl) (bn C3 am (by omega) rfl (af (ae 1) (af (u1 rfl (ey.of (N':=["number", "ways"]) (nt:=2) (cap:=[]) rfl (by kernel_rfl)) (AK (sn oa (AJ oa sm) (h9 (k:=0) (by decide)) (sn oa sm (h9 (k:=1) (by decide)) AH))) (iC (bn sX am (by omega) rfl (af (ae 0) aw))) (λ _ _ _ _=>(Ay (n:=2) rfl (sf (gD (k:=0) (show List.Nodup (["number", "ways"]:List Str) by decide +kernel) rfl (Or.inl rfl)) (sf (gD (k:=1) (show List.Nodup (["number", "ways"]:List Str) by decide +kernel) rfl (Or.inl rfl)) Ax)))) (λ _ _ _ _=>(bR (cR (cC am)) (ae 0) (ae 1) (bA _))) (λ _ _ _ _=>(ae 1))) aw))))
  (aR (HX (i:=3) (T:=C2) (fr:=["copies"]) C1.aY rfl (Or.inl rfl) rfl j9 gj (by kernel_rfl) rfl rfl rfl)
  (bd (bz (H6 (name:="taken") (qual:="put_in.<locals>.taken") (st:=l7) (fr:=["copies"]) (ix:=[2]) sP am (by omega) rfl (by decide +kernel) (by kernel_rfl) (af (ae 0) (af (ae 3) aw))))))),?_⟩
 refine ⟨t,rfl,hz,λ cu ak=>uR bF ?_⟩;refine iD (t.dI 0) kY (λ z=>if z.1=z.2 then some (.int (z.2:Int)) else none) rfl (dx (by have:=t.A_ 0;omega)) bF ?_ ?_
 ·intro z zF R S cF cX;refine ⟨λ c=>?_,λ c=>?_⟩
  ·have b_:(z.1:Int)=z.2:=by simpa using c
   exact cF _ (by rw [if_pos (by omega)])
  ·have b_:¬ (z.1:Int)=z.2:=by simpa using c
   exact cX (by rw [if_neg (by omega)])
 intro bV aq
 have e:((t.dI 0).filterMap λ z=>if z.1=z.2 then some (D.int (z.2:Int)) else none)=(na t).map λ(w:Nat)=>D.int (w:Int):=by
  unfold na;rw [fE]
  induction t.dI 0 with
  | nil=>rfl
  | cons z zs aN=>by_cases c:z.1=z.2<;>simp_all [oK,List.filter_cons]
 rw [e];have vB:Sub G (up (up G cu (.lst ((t.dI 0).map kY))) bV (.lst ((na t).map λ(w:Nat)=>D.int (w:Int)))):=Sub.trans (Sub.new (Sub.refl _) ak) (Sub.new (Sub.refl _) aq);refine ⟨u,bV,na t,rfl,bF,by omega,XK,yE,vB _ _ bQ,λ d kvs hd XM=>?_⟩;generalize up (up G cu (.lst ((t.dI 0).map kY))) bV (.lst ((na t).map λ(w:Nat)=>D.int (w:Int)))=V at *;refine ⟨b0 hd (vB _ _ sY),λ pG hf=>?_⟩;obtain ⟨_,adv,KH⟩:=og (o:=.lst []) hf;refine ⟨pG,[.ref d],bF,rfl,λ i j h=>?_,t,pG,_,_,_,_,_,_,et u,λ n w=>(n,w)∈t.dI 0,[(d,.c4 kvs)],rfl,bF,XH _ (λ n w bt e=>?_),λ y bD=>?_,hz,λ z hz=>hz,rfl,?_⟩
 ·match i,j,h with
  | 0,_,rfl=>exact ⟨_,rfl,rfl⟩
 ·subst e;exact XM n (VD bt)
 ·rw [f_.mp bD,c7 (Ne.symm KH),c7 (Ne.symm KH)];exact bF
 ·exact ⟨G,Sub.trans vB (Sub.trans (Sub.new (Sub.refl _) hd) (Sub.new (Sub.refl _) hf)),q⟩
abbrev C4:bB:=top 29
theorem C5:c9 ["program", "word", "held"] ["program"] (b1 C4):=⟨rfl,rfl,rfl,by decide +kernel,rfl,by decide +kernel,by decide +kernel⟩
theorem XN{T eo:Addr}{pos dj:Pos}(C6:Got P w K mg base 6 "put_in" ["program", "other"] (aK K (BP T pos eo dj)))(F:c3 K "comes_of" "comes_of" C4 f fd):cp P w K mg base cc 7 f fd ["program"] (aK K (BQ T pos eo dj)):=by
 refine dn (k:=6) F C5 (λ ds G au h=>?_) (λ bE A outer s H E am ds G au h=>?_)
 ·obtain ⟨_,rfl,_⟩:=h;rfl
 obtain ⟨t,rfl,gX,az,bQ,q⟩:=h
 refine ⟨_,(aR (bG (k:=1) C5.aY rfl (Or.inl rfl) (a8 a9 (ae 0) av (λ _ _=>rfl)))
  (aR (bG (k:=2) C5.aY rfl (Or.inl rfl) (a8 a9 (ae 0) av (λ _ _=>rfl)))
  (aR (cv (bR (cR (cC am)) (ae 1) bf (bA _)) (bd (bz (bn C6 am (by omega) rfl (af (a8 a9 (ae 2) av (λ _ _=>rfl)) (af (a8 a9 (ae 0) av (λ _ _=>rfl)) aw))))) cI)
  (aR (cv (bR (cR (cC am)) (ae 1) bf (bA _)) (bd (bz (a8 a9 (ae 2) av (λ _ _=>rfl)))) cI)
  (aR (cv (bR (cR (cC am)) (ae 1) bf (bA _)) (bd (bz (a8 a9 (ae 2) av (λ _ _=>rfl)))) cI)
  (aR (cv (bR (cR (cC am)) (ae 1) bf (bA _)) (bd (bz (bP (af bf (af (bH dN (a8 a9 (ae 2) av (λ _ _=>rfl)) (a8 a9 (a8 a9 (ae 0) av (λ _ _=>rfl)) av (λ _ _=>rfl))) aw))))) cI)
  (bd (bz (n3 (bR (cR (cC am)) (a8 a9 (ae 2) av (λ _ _=>rfl)) av (bA _)) (a8 a9 (ae 0) av (λ _ _=>rfl)) (a8 a9 (ae 0) av (λ _ _=>rfl))))))))))),?_⟩
 cases t with
 | give b a=>
  cases b with
  | way b=>exact cA.yes rfl ⟨b,a,rfl,az.1,az.2.1,az.2.2.1,az.2.2.2,bQ.1,bQ.2,bh.of q⟩
  | _=>cases gX
 | first a=>
  cases a with
  | pair a b=>exact cA.no rfl (cA.yes rfl (bh.of q))
  | _=>cases gX
 | second a=>
  cases a with
  | pair a b=>exact cA.no rfl (cA.no rfl (cA.yes rfl (bh.of q)))
  | _=>cases gX
 | plus a b=>
  cases a with
  | whole i=>
   cases b with
   | whole j=>exact cA.no rfl (cA.no rfl (cA.no rfl (cA.yes rfl (bh.of q))))
   | _=>cases gX
  | _=>cases gX
 | look a b c=>
  cases a with
  | whole i=>
   refine cA.no rfl (cA.no rfl (cA.no rfl (cA.no rfl ⟨λ c=>?_,λ c=>?_⟩)))
   ·have e:i=0:=by simpa using c
    have gc:=q;rw [show (Tm.look (.whole i) b _).comes=b from if_pos e] at gc;exact bh.of gc
   ·have e:¬ i=0:=by simpa using c
    have gc:=q;rw [show (Tm.look (.whole i) b _).comes=_ from if_neg e] at gc;exact bh.of gc
  | _=>cases gX
 | _=>cases gX
abbrev C7:bB:=top 28
theorem XO:c9 ["program", "place"] ["program", "place"] (b1 C7):=⟨rfl,rfl,rfl,by decide +kernel,rfl,by decide +kernel,by decide +kernel⟩
theorem XP{T eo:Addr}{pos dj:Pos}(C8:Got P w K mg base 3 "can_go" ["program", "place"] (aK K A6))(sU:Got P w K mg base 2 "at_place" ["program", "place"] (aK K px))(C9:Got P w K mg base 7 "comes_of" ["program"] (aK K (BQ T pos eo dj)))(C_:Got P w K mg base 3 "replaced" ["program", "place", "other"] (aK K BH))(F:c3 K "behind" "behind" C7 f fd):cp P w K mg base cc 8 f fd ["program", "place"] (aK K (BR T pos eo dj)):=by
 refine dn (k:=7) F XO (λ ds G au h=>?_) (λ bE A outer s H E am ds G au h=>?_)
 ·obtain ⟨_,_,_,rfl,_⟩:=h;rfl
 obtain ⟨t,ns,u,rfl,a0,gX,az,aQ,bQ,q⟩:=h
 refine ⟨_,(aR (cv (pq (gC (bn C8 am (by omega) rfl (af (ae 0) (af (ae 1) aw))))) (bd VT) cI)
  (bd (bz (bn C_ am (by omega) rfl (af (ae 0) (af (ae 1) (af (bn C9 am (by omega) rfl (af (bn sU am (by omega) rfl (af (ae 0) (af (ae 1) aw))) aw)) aw))))))),?_⟩
 refine ⟨t,ns,u,rfl,a0,cA.no (by rw [gX];rfl) ⟨t,ns,u,rfl,a0,u,rfl,gX,az,bQ,t,ns,u,u.comes,rfl,a0,aQ,bh.of ?_⟩⟩;unfold Tm.behind at q;rw [a0] at q;exact q
abbrev lEq:bB:=top 38
theorem pJ:c9 ["program", "most", "now", "stood_at", "use", "later", "word"] ["program", "most"] (b1 lEq):=⟨rfl,rfl,rfl,by decide +kernel,rfl,by decide +kernel,by decide +kernel⟩
theorem XQ{T eo:Addr}{pos dj:Pos}(B:e_ mg)(yL:Got P w K mg base 3 "next_use" ["program"] (aK K BF))(Da:Got P w K mg base 8 "behind" ["program", "place"] (aK K (BR T pos eo dj)))(Db:Got P w K mg base 3 "is_great" ["program"] (aK K BJ))(Dc:Got P w K mg base 4 "is_answer" ["program"] (aK K BM))(F:c3 K "run_through" "run_through" lEq f fd):cp P w K mg base cc 9 f fd ["program", "most"] (aK K (BS T pos eo dj)):=by
 refine dn (k:=8) F pJ (λ ds G au h=>?_) (λ bE A outer s H E am ds G au h=>?_)
 ·obtain ⟨_,_,rfl,_⟩:=h;rfl
 obtain ⟨t,k,rfl,yM,aO,bQ,q⟩:=h
 refine ⟨_,(aR (bG (k:=2) pJ.aY rfl (Or.inl rfl) (ae 0))
  (aR (bG (k:=3) pJ.aY rfl (Or.inl rfl) (hI aw))
  (aR (bG (k:=4) pJ.aY rfl (Or.inl rfl) (bn yL am (by omega) rfl (af (ae 2) aw)))
  (aR (lU PassesOwn.never (bR uL (ae 4) g6 (bA _)) (aR (cv (bR sh (fB kh rfl B.len jX (af (ae 3) aw)) (ae 1) (bA _)) (bd (bz (bP (af bf (af (ae 2) (af (ae 3) aw)))))) cI)
  (aR (bG (k:=5) pJ.aY rfl (Or.inl rfl) (bn Da am (by omega) rfl (af (ae 2) (af (bH dN (a8 a9 (ae 4) av (λ _ _=>rfl)) (a8 a9 (ae 4) av (λ _ _=>rfl))) aw))))
  (aR (cv (gC (bn Db am (by omega) rfl (af (ae 5) aw))) (bd (bz (bP (af bf (af (ae 2) (af (ae 3) aw)))))) cI)
  (aR (bG (k:=2) pJ.aY rfl (Or.inl rfl) (ae 5))
  (aR (iA (iE PySem.F.plainAttrs_list PySem.F.slot_list_append PySem.F.type_list_append kU (ae 3) (af (a8 a9 (ae 4) av (λ _ _=>rfl)) aw)))
  (bd (bG (k:=4) pJ.aY rfl (Or.inl rfl) (bn yL am (by omega) rfl (af (ae 2) aw))))))))))
  (aR (bG (k:=6) pJ.aY rfl (Or.inl rfl) (n3 (gC (bn Dc am (by omega) rfl (af (ae 2) aw))) bf bf))
  (bd (bz (bP (af (ae 6) (af (ae 2) (af (ae 3) aw))))))))))),?_⟩
 intro a aD;have hsz:=yM.aB;refine ⟨t,rfl,by omega,?_⟩;refine ⟨λ μ ρ ap=>∃(u:Tm)(j:Nat)(done:List (List Int))(eI:Option D),ρ=[some t.enc,some (.int k),some u.enc,some (.ref a),some (Jb u.gV),eI,none]/\up G a (.lst (done.map er))=ap/\ra j u/\done.length+j=k/\e9 k t=((e9 j u).1,(e9 j u).2.1,done++(e9 j u).2.2)/\j=μ,⟨_,t,k,[],_,rfl,rfl,yM,by simp,rfl,rfl⟩,?_⟩;rintro μ ρ ap ⟨u,j,done,eI,rfl,rfl,aZ,adw,gX,rfl⟩;have FU:=aZ.aB;have v7:nb T pos eo dj (up G a (.lst (done.map er))):=bQ.new aD;have bv:=q a aD;rw [gX] at bv
 cases e:u.gV with
 | none=>
  refine cA.no rfl ?_
  have XR:e9 j u=(fin u,u,[]):=by cases j<;>(unfold e9;rw [e])
  rw [XR,k4] at bv;refine ⟨u,rfl,by omega,⟨λ c=>?_,λ c=>?_⟩⟩
  ·rw [show fin u = "answer" from if_pos c] at bv;exact bh.of bv
  ·rw [show fin u = "stuck" from if_neg (by rw [c];decide)] at bv;exact bh.of bv
 | some z=>
  refine cA.yes rfl ?_;obtain ⟨⟨v,bC,XS⟩,XT⟩:=VK e;have We:=u.S1;refine cY bF ⟨λ c=>?_,λ c=>?_⟩
  ·have cP:j=0:=by have cB:(k:Int)<=((done.map er).length:Int):=of_decide_eq_true c;rw [bS] at cB;omega
   subst cP;rw [show e9 0 u=(("more" : Str),u,[]) by unfold e9;rw [e],k4] at bv;exact bh.of bv
  ·obtain ⟨kH,rfl⟩:∃ kH,j=kH+1:=⟨j - 1,by have cB:¬ (k:Int)<=((done.map er).length:Int):=of_decide_eq_false c;rw [bS] at cB;omega⟩
   obtain ⟨XU,XW⟩:=aZ.2 z v e bC
   have adx:z.1.length+z.2.length<=3000:=by rw [fs] at XT;omega
   refine ⟨small (by rw [bS,bS];omega),u,z.1++z.2,v,?_,bC,XS,XU,by omega,v7,?_⟩
   ·rw [er,iQ]
   refine ⟨u.behind (z.1++z.2),rfl,⟨λ c=>?_,λ c=>?_⟩⟩
   ·rw [show e9 (kH+1) u=(("great" : Str),u,[]) by unfold e9;rw [e];simp only [];rw [if_pos c],k4] at bv;exact bh.of bv
   ·have KI:=XW c;have k0:=KI.aB;refine ⟨cY bF trivial,ez bF ⟨dx (by rw [bS];omega),?_⟩⟩;rw [hH];refine ⟨u.behind (z.1++z.2),rfl,by omega,?_⟩;refine eY.of ⟨kH,by omega,u.behind (z.1++z.2),kH,done++[z.1],_,rfl,by rw [iQ];rfl,KI,by rw [fs,List.length_singleton];omega,?_,rfl⟩;rw [gX,show e9 (kH+1) u=((e9 kH (u.behind (z.1++z.2))).1,(e9 kH (u.behind (z.1++z.2))).2.1,z.1::(e9 kH (u.behind (z.1++z.2))).2.2) by rw [e9,e];simp only [];rw [if_neg (by rw [c];decide)]];simp
abbrev Dd:bB:=top 37
theorem KJ:c9 ["program", "most", "gone"] ["program", "most"] (b1 Dd):=⟨rfl,rfl,rfl,by decide +kernel,rfl,by decide +kernel,by decide +kernel⟩
theorem XX{T eo:Addr}{pos dj:Pos}(B:e_ mg)(De:Got P w K mg base 9 "run_through" ["program", "most"] (aK K (BS T pos eo dj)))(F:c3 K "run" "run" Dd f fd):cp P w K mg base cc 10 f fd ["program", "most"] (aK K (yv T pos eo dj)):=by
 refine dn (k:=9) F KJ (λ ds G au h=>?_) (λ bE A outer s H E am ds G au h=>?_)
 ·obtain ⟨_,_,rfl,_⟩:=h;rfl
 obtain ⟨t,k,rfl,yM,aO,bQ,q⟩:=h
 refine ⟨_,(aR (bG (k:=2) KJ.aY rfl (Or.inl rfl) (bn De am (by omega) rfl (af (ae 0) (af (ae 1) aw))))
  (bd (bz (bP (af (a8 a9 (ae 2) av (λ _ _=>rfl)) (af (a8 a9 (ae 2) av (λ _ _=>rfl)) (af (fB kh rfl B.len jX (af (a8 a9 (ae 2) av (λ _ _=>rfl)) aw)) aw))))))),?_⟩
 refine ⟨t,k,rfl,yM,aO,bQ,λ l aQ=>cY bF ⟨G,Sub.new (Sub.refl _) aQ,?_⟩⟩;rw [bS];exact q
abbrev Df:bB:=top 45
theorem KK:c9 ["_law_feed_here", "_law_want", "_law_one"] ["_law_feed_here", "_law_want"] (b1 Df):=⟨rfl,rfl,rfl,by decide +kernel,rfl,by decide +kernel,by decide +kernel⟩
theorem XY:cp P w K mg base cc 3 f fd ["_law_feed_here", "_law_want"] (aK K (vI 0)):=kV λ ds G au h=>by
 obtain ⟨a,t,_,_,ak,_⟩:=h;have:=t.lX;omega
theorem XZ{n:Nat}(f7:Got P w K mg base 2 "_law_whole" ["_law_feed_here"] (aK K i7))(rh:Got P w K mg base (n+3) "_law_least" ["_law_feed_here", "_law_want"] (aK K (vI n)))
 (F:c3 K "_law_least" "_law_least" Df f fd):cp P w K mg base cc (n+4) f fd ["_law_feed_here", "_law_want"] (aK K (vI (n+1))):=by
 refine dn (k:=n+3) F KK (λ ds G au h=>?_) (λ bE A outer s H E am ds G au h=>?_)
 ·obtain ⟨a,t,rfl,_⟩:=h;rfl
 obtain ⟨a,t,rfl,es,hz,q⟩:=h
 refine ⟨_,(aR (cv (bR (cR (cC am)) (ae 1) bf (bA _)) (bd (bz (bn f7 am (by omega) rfl (af (ae 0) aw)))) cI)
  (aR (cv (bR (cR (cC am)) (a8 a9 (ae 1) av (λ _ _=>rfl)) bf (bA _)) (aR (bG (k:=2) KK.aY rfl (Or.inl rfl) (bn rh am (by omega) rfl (af (ae 0) (af (a8 a9 (ae 1) av (λ _ _=>rfl)) aw))))
  (bd (bz (bP (af bf (af (ae 2) (af (bn rh am (by omega) rfl (af (ae 0) (af (a8 a9 (ae 1) av (λ _ _=>rfl)) aw))) aw))))))) cI)
  (bd (bz (bP (af bf (af (bn rh am (by omega) rfl (af (ae 0) (af (a8 a9 (ae 1) av (λ _ _=>rfl)) aw))) aw))))))),?_⟩
 cases t with
 | n=>exact ⟨λ _=>⟨es,λ k aA bY _ _=>bh.of (q (.whole k) aA bY (by simp [Tm.aB,Ty.aB]) (by simp [Tm.aJ]) λ _=>trivial)⟩,λ c=>absurd c (by decide)⟩
 | p t u=>
  simp only [Ty.aB] at hz q;refine ⟨λ c=>absurd c (by decide),λ _=>⟨λ _=>⟨a,t,rfl,es,by omega,λ p aA bY cB i6 a7=>⟨a,u,rfl,bY.fd,by omega,λ cE bc cg b8 ob b4=>bh.of (q (.pair p cE) bc (bY.trans cg) (by simp only [Tm.aB];omega) (by simp only [Tm.aJ];omega) λ m=>⟨a7 m,b4 m⟩)⟩⟩,λ c=>absurd c (by decide)⟩⟩
 | f t u=>
  simp only [Ty.aB] at hz q;refine ⟨λ c=>absurd c (by decide),λ _=>⟨λ c=>absurd c (by decide),λ _=>⟨a,u,rfl,es,by omega,λ p aA bY cB i6 a7=>bh.of (q (.way p) aA bY (by simp only [Tm.aB];omega) (by simp only [Tm.aJ];omega) λ m=>a7 (m+1))⟩⟩⟩
abbrev Dg:bB:=top 46
theorem yN:c9 ["_law_feed_here", "_law_want", "_law_names", "_law_room", "_law_deep_here", "_law_half", "_law_one"] ["_law_feed_here", "_law_want", "_law_names", "_law_room", "_law_deep_here"] (b1 Dg):=⟨rfl,rfl,rfl,by decide +kernel,rfl,by decide +kernel,by decide +kernel⟩
theorem X0{n:Nat}(d0:Got P w K mg base 1 "_law_take" ["_law_feed_here", "_law_many"] (aK K iG))(f7:Got P w K mg base 2 "_law_whole" ["_law_feed_here"] (aK K i7))(ic:Got P w K mg base (2 * n+65) "_law_typed" ["_law_feed_here", "_law_want", "_law_names", "_law_room", "_law_deep_here"] (aK K (sL n)))
 (F:c3 K "_law_made" "_law_made" Dg f fd):cp P w K mg base cc (2 * n+66) f fd ["_law_feed_here", "_law_want", "_law_names", "_law_room", "_law_deep_here"] (aK K (sM n)):=by
 refine dn (k:=2 * n+65) F yN (λ ds G au h=>?_) (λ bE A outer s H E am ds G au h=>?_)
 ·obtain ⟨_,_,_,_,_,_,rfl,_⟩:=h;rfl
 obtain ⟨a,t,l,room,deep,m,rfl,es,cw,uj,bj,jN,hg,hz,q⟩:=h;have fin:∀(p:Tm)(ap:aX),dS a G ap->vJ p room deep m->bh au p.enc ap:=λ p ap u z=>bh.of (q p ap u z);have ak:=cw.less (show deep - 1<=deep by omega)
 refine ⟨_,(aR (bG (k:=5) yN.aY rfl (Or.inl rfl) (bH qI (bH dV (ae 3) av) av))
  (aR (cv (bR (cR (cC am)) (ae 1) bf (bA _)) (aR (cv (bR (cR (cC am)) (bn d0 am (by omega) rfl (af (ae 0) (af av aw))) av (bA _)) (bd (bz (bn f7 am (by omega) rfl (af (ae 0) aw)))) cI)
  (aR (bG (k:=6) yN.aY rfl (Or.inl rfl) (bn ic am (by omega) rfl (af (ae 0) (af bf (af (ae 2) (af (ae 5) (af (bH dV (ae 4) av) aw)))))))
  (bd (bz (bP (af bf (af (ae 6) (af (bn ic am (by omega) rfl (af (ae 0) (af bf (af (ae 2) (af (ae 5) (af (bH dV (ae 4) av) aw)))))) aw)))))))) cI)
  (aR (cv (bR (cR (cC am)) (a8 a9 (ae 1) av (λ _ _=>rfl)) bf (bA _)) (aR (bG (k:=6) yN.aY rfl (Or.inl rfl) (bn ic am (by omega) rfl (af (ae 0) (af (a8 a9 (ae 1) av (λ _ _=>rfl)) (af (ae 2) (af (ae 5) (af (bH dV (ae 4) av) aw)))))))
  (bd (bz (bP (af bf (af (ae 6) (af (bn ic am (by omega) rfl (af (ae 0) (af (a8 a9 (ae 1) av (λ _ _=>rfl)) (af (ae 2) (af (ae 5) (af (bH dV (ae 4) av) aw)))))) aw))))))) cI)
  (bd (bz (bP (af bf (af (bn ic am (by omega) rfl (af (ae 0) (af (a8 a9 (ae 1) av (λ _ _=>rfl)) (af (pw (bH dN (hI (af (a8 a9 (ae 1) av (λ _ _=>rfl)) aw)) (ae 2))) (af (bH dV (ae 3) av) (af (bH dV (ae 4) av) aw)))))) aw)))))))),?_⟩
 cases t with
 | n=>
  refine ⟨⟨by decide,by decide⟩,λ _=>⟨es,by decide,by decide,λ k aA bY f6 d4=>⟨λ _=>⟨bY.fd,λ k bc cg _ _=>fin (.whole k) bc (bY.trans cg) ⟨by simp only [Tm.aB];omega,by simp only [Tm.aJ];omega,trivial⟩⟩,λ _=>?_⟩⟩,λ c=>absurd c (by decide)⟩;simp only [Ty.aB] at hz;refine ⟨a,.n,l,_,_,m,rfl,bY.fd,ak.fY bY,by omega,by omega,by omega,by simp only [Ty.aB];omega,λ p bc cg z=>⟨a,.n,l,_,_,m,rfl,(bY.trans cg).fd,ak.fY (bY.trans cg),by omega,by omega,by omega,by simp only [Ty.aB];omega,λ cE cQ du b8=>fin (.plus p cE) cQ ((bY.trans cg).trans du) ?_⟩⟩;obtain ⟨cB,i6,a7⟩:=z;obtain ⟨b8,ob,b4⟩:=b8;exact ⟨by simp only [Tm.aB];omega,by simp only [Tm.aJ];omega,a7,b4⟩
 | p t1 c2=>
  simp only [Ty.aB] at hz;refine ⟨⟨by decide,by decide⟩,λ c=>absurd c (by decide),λ _=>⟨λ _=>?_,λ c=>absurd c (by decide)⟩⟩;refine ⟨a,t1,l,_,_,m,rfl,es,ak,by omega,by omega,by omega,by omega,λ p bc cg z=>⟨a,c2,l,_,_,m,rfl,cg.fd,ak.fY cg,by omega,by omega,by omega,by omega,λ cE cQ du b8=>fin (.pair p cE) cQ (cg.trans du) ?_⟩⟩;obtain ⟨cB,i6,a7⟩:=z;obtain ⟨b8,ob,b4⟩:=b8;exact ⟨by simp only [Tm.aB];omega,by simp only [Tm.aJ];omega,a7,b4⟩
 | f t1 c2=>
  simp only [Ty.aB] at hz;refine ⟨⟨by decide,by decide⟩,λ c=>absurd c (by decide),λ _=>⟨λ c=>absurd c (by decide),λ _ gw aP=>?_⟩⟩;obtain ⟨ne,tys,l4,aQ,bT,rfl⟩:=cw
  have nl:l≠gw:=by rintro rfl;rw [aP] at l4;cases l4
  refine ez bF (ez (by rw [c7 nl];exact l4) ⟨small (by rw [bS,List.length_singleton];omega),λ cE aL=>?_⟩);have d_:=(og (o:=.lst []) aL).2.1;refine ⟨up G cE (.lst ((t1::tys).map Ty.enc)),Sub.put (Sub.new (Sub.refl _) aP),a,c2,cE,_,_,tys.length+1,rfl,es.new d_,⟨es.ne d_,t1::tys,bF,by rw [dH];omega,λ x aF=>?_,rfl⟩,by omega,by omega,by omega,by omega,λ p bc cg z=>?_⟩
  ·rcases dJ.mp aF with rfl | aF
   ·omega
   ·exact bT x aF
  ·obtain ⟨cQ,s3,du⟩:=dS.drop d_ cg es;obtain ⟨cB,i6,a7⟩:=z;exact ⟨cQ,s3,q (.way p) cQ du ⟨by simp only [Tm.aB];omega,by simp only [Tm.aJ];omega,a7⟩⟩
abbrev Dh:bB:=top 47
theorem pK:c9 ["_law_feed_here", "_law_want", "_law_names", "_law_room", "_law_deep_here", "_law_form", "_law_other", "_law_half", "_law_third", "_law_asked", "_law_one"] ["_law_feed_here", "_law_want", "_law_names", "_law_room", "_law_deep_here"] (b1 Dh):=⟨rfl,rfl,rfl,by decide +kernel,rfl,by decide +kernel,by decide +kernel⟩
theorem X1{n:Nat}(d0:Got P w K mg base 1 "_law_take" ["_law_feed_here", "_law_many"] (aK K iG))(ox:Got P w K mg base 4 "_law_type" ["_law_feed_here", "_law_deep_here"] (aK K (oh 2)))(ic:Got P w K mg base (2 * n+65) "_law_typed" ["_law_feed_here", "_law_want", "_law_names", "_law_room", "_law_deep_here"] (aK K (sL n)))
 (F:c3 K "_law_used" "_law_used" Dh f fd):cp P w K mg base cc (2 * n+66) f fd ["_law_feed_here", "_law_want", "_law_names", "_law_room", "_law_deep_here"] (aK K (sM n)):=by
 refine dn (k:=2 * n+65) F pK (λ ds G au h=>?_) (λ bE A outer s H E am ds G au h=>?_)
 ·obtain ⟨_,_,_,_,_,_,rfl,_⟩:=h;rfl
 obtain ⟨a,t,l,room,deep,m,rfl,es,cw,uj,bj,jN,hg,hz,q⟩:=h;have fin:∀(p:Tm)(ap:aX),dS a G ap->vJ p room deep m->bh au p.enc ap:=λ p ap u z=>bh.of (q p ap u z);have ak:=cw.less (show deep - 1<=deep by omega)
 refine ⟨_,(aR (bG (k:=5) pK.aY rfl (Or.inl rfl) (bn d0 am (by omega) rfl (af (ae 0) (af av aw))))
  (aR (bG (k:=6) pK.aY rfl (Or.inl rfl) (bn ox am (by omega) rfl (af (ae 0) (af av aw))))
  (aR (bG (k:=7) pK.aY rfl (Or.inl rfl) (bH qI (bH dV (ae 3) av) av))
  (aR (cv (bR (cR (cC am)) (ae 5) av (bA _)) (bd (bz (bP (af bf (af (bn ic am (by omega) rfl (af (ae 0) (af (bP (af bf (af (ae 1) (af (ae 6) aw)))) (af (ae 2) (af (bH dV (ae 3) av) (af (bH dV (ae 4) av) aw)))))) aw))))) cI)
  (aR (cv (bR (cR (cC am)) (ae 5) av (bA _)) (bd (bz (bP (af bf (af (bn ic am (by omega) rfl (af (ae 0) (af (bP (af bf (af (ae 6) (af (ae 1) aw)))) (af (ae 2) (af (bH dV (ae 3) av) (af (bH dV (ae 4) av) aw)))))) aw))))) cI)
  (aR (cv (bR (cR (cC am)) (ae 5) av (bA _)) (aR (bG (k:=8) pK.aY rfl (Or.inl rfl) (bH qI (bH dV (ae 3) av) av))
  (aR (bG (k:=9) pK.aY rfl (Or.inl rfl) (bn ic am (by omega) rfl (af (ae 0) (af bf (af (ae 2) (af (ae 8) (af (bH dV (ae 4) av) aw)))))))
  (aR (bG (k:=10) pK.aY rfl (Or.inl rfl) (bn ic am (by omega) rfl (af (ae 0) (af (ae 1) (af (ae 2) (af (ae 8) (af (bH dV (ae 4) av) aw)))))))
  (bd (bz (bP (af bf (af (ae 9) (af (ae 10) (af (bn ic am (by omega) rfl (af (ae 0) (af (ae 1) (af (ae 2) (af (ae 8) (af (bH dV (ae 4) av) aw)))))) aw)))))))))) cI)
  (aR (bG (k:=10) pK.aY rfl (Or.inl rfl) (bn ic am (by omega) rfl (af (ae 0) (af (bP (af bf (af (ae 6) (af (ae 1) aw)))) (af (ae 2) (af (ae 7) (af (bH dV (ae 4) av) aw)))))))
  (bd (bz (bP (af bf (af (ae 10) (af (bn ic am (by omega) rfl (af (ae 0) (af (ae 6) (af (ae 2) (af (ae 7) (af (bH dV (ae 4) av) aw)))))) aw))))))))))))),?_⟩
 refine ⟨es,by decide,by decide,λ ko aA bY f0 f1=>⟨bY.fd,by decide,by decide,λ o bc cg X2=>⟨⟨by decide,by decide⟩,λ _=>?_,λ _=>⟨λ _=>?_,λ _=>⟨λ _=>?_,λ _=>?_⟩⟩⟩⟩⟩
 all_goals
  have ady:o.aB<=3:=X2;have U:=bY.trans cg
 ·refine ⟨a,.p t o,l,_,_,m,rfl,U.fd,ak.fY U,by omega,by omega,by omega,by simp only [Ty.aB];omega,λ p cQ du z=>fin (.first p) cQ (U.trans du) ?_⟩;obtain ⟨cB,i6,a7⟩:=z;exact ⟨by simp only [Tm.aB];omega,by simp only [Tm.aJ];omega,a7⟩
 ·refine ⟨a,.p o t,l,_,_,m,rfl,U.fd,ak.fY U,by omega,by omega,by omega,by simp only [Ty.aB];omega,λ p cQ du z=>fin (.second p) cQ (U.trans du) ?_⟩;obtain ⟨cB,i6,a7⟩:=z;exact ⟨by simp only [Tm.aB];omega,by simp only [Tm.aJ];omega,a7⟩
 ·refine ⟨⟨by decide,by decide⟩,a,.n,l,_,_,m,rfl,U.fd,ak.fY U,by omega,by omega,by omega,by simp only [Ty.aB];omega,λ p cQ du z=>⟨a,t,l,_,_,m,rfl,(U.trans du).fd,ak.fY (U.trans du),by omega,by omega,by omega,by omega,λ cE eZ fq b8=>⟨a,t,l,_,_,m,rfl,((U.trans du).trans fq).fd,ak.fY ((U.trans du).trans fq),by omega,by omega,by omega,by omega,λ jM eA jP dg=>fin (.look p cE jM) eA (((U.trans du).trans fq).trans jP) ?_⟩⟩⟩;obtain ⟨cB,i6,a7⟩:=z;obtain ⟨b8,ob,b4⟩:=b8;obtain ⟨dg,X3,gp⟩:=dg;exact ⟨by simp only [Tm.aB];omega,by simp only [Tm.aJ];omega,a7,b4,gp⟩
 ·refine ⟨a,.f o t,l,_,_,m,rfl,U.fd,ak.fY U,by omega,by omega,by omega,by simp only [Ty.aB];omega,λ p cQ du z=>⟨a,o,l,_,_,m,rfl,(U.trans du).fd,ak.fY (U.trans du),by omega,by omega,by omega,by omega,λ cE eZ fq b8=>fin (.give p cE) eZ ((U.trans du).trans fq) ?_⟩⟩;obtain ⟨cB,i6,a7⟩:=z;obtain ⟨b8,ob,b4⟩:=b8;exact ⟨by simp only [Tm.aB];omega,by simp only [Tm.aJ];omega,a7,b4⟩
abbrev Di:bB:=top 48
theorem Dj:c9 ["_law_feed_here", "_law_want", "_law_names", "_law_room", "_law_deep_here", "_law_some", "_law_form"] ["_law_feed_here", "_law_want", "_law_names", "_law_room", "_law_deep_here"] (b1 Di):=⟨rfl,rfl,rfl,by decide +kernel,rfl,by decide +kernel,by decide +kernel⟩
theorem X4:cp P w K mg base cc 65 f fd ["_law_feed_here", "_law_want", "_law_names", "_law_room", "_law_deep_here"] (aK K (sL 0)):=kV λ ds G au h=>by
 obtain ⟨_,_,_,_,_,_,_,_,_,_,ak,aq,_⟩:=h;omega
theorem X5{n:Nat}(B:e_ mg)(d0:Got P w K mg base 1 "_law_take" ["_law_feed_here", "_law_many"] (aK K iG))(rh:Got P w K mg base 63 "_law_least" ["_law_feed_here", "_law_want"] (aK K (vI 60)))(Dk:Got P w K mg base (2 * n+66) "_law_used" ["_law_feed_here", "_law_want", "_law_names", "_law_room", "_law_deep_here"] (aK K (sM n)))(Dl:Got P w K mg base (2 * n+66) "_law_made" ["_law_feed_here", "_law_want", "_law_names", "_law_room", "_law_deep_here"] (aK K (sM n)))
 (F:c3 K "_law_typed" "_law_typed" Di f fd):cp P w K mg base cc (2 * n+67) f fd ["_law_feed_here", "_law_want", "_law_names", "_law_room", "_law_deep_here"] (aK K (sL (n+1))):=by
 refine dn (k:=2 * n+66) F Dj (λ ds G au h=>?_) (λ bE A outer s H E am ds G au h=>?_)
 ·obtain ⟨_,_,_,_,_,_,rfl,_⟩:=h;rfl
 obtain ⟨a,t,l,room,deep,m,rfl,es,cw,bj,jN,hg,hz,q⟩:=h;obtain ⟨ne,tys,l4,aQ,bT,hm⟩:=id cw
 refine ⟨_,(aR (Ss (k:=5) rfl Dj.aY rfl (Or.inl rfl) (ey.of (N':=["_law_k", "_law_want", "_law_names"]) (nt:=1) (cap:=[1,2]) rfl (by kernel_rfl)) (h9 (k:=0) (by decide)) (Sl rfl B.range (af (fB kh rfl B.len jX (af (ae 2) aw)) aw)) (λ _ _ _ _=>(gD (k:=0) (show List.Nodup (["_law_k", "_law_want", "_law_names"]:List Str) by decide +kernel) rfl (Or.inl rfl))) (λ _ _ _ _=>(bR (cR (cC am)) (a8 a9 (ae 2) (ae 0) (λ _ _=>rfl)) (ae 1) (bA _))) (λ _ _ _ _=>(ae 0)))
  (aR (bG (k:=6) Dj.aY rfl (Or.inl rfl) (bn d0 am (by omega) rfl (af (ae 0) (af av aw))))
  (aR (cv (fN.at (sd (bR h8 (fB kh rfl B.len jX (af (ae 5) aw)) av (bA _)) (sb (fN.at (kM (bR iB (ae 6) av (bA _)) (lT (bR iB (ae 3) av (bA _)))))))) (bd (bz (bP (af bf (af (a8 a9 (ae 5) (bn d0 am (by omega) rfl (af (ae 0) (af (fB kh rfl B.len jX (af (ae 5) aw)) aw))) (λ _ _=>rfl)) aw))))) cI)
  (aR (cv (fN.at (kM (bR iB (ae 3) av (bA _)) (lT (bR iB (ae 4) av (bA _))))) (bd (bz (bn rh am (by omega) rfl (af (ae 0) (af (ae 1) aw))))) cI)
  (aR (cv (bR h8 (ae 6) av (bA _)) (bd (bz (bn Dk am (by omega) rfl (af (ae 0) (af (ae 1) (af (ae 2) (af (ae 3) (af (ae 4) aw)))))))) cI)
  (bd (bz (bn Dl am (by omega) rfl (af (ae 0) (af (ae 1) (af (ae 2) (af (ae 3) (af (ae 4) aw))))))))))))),?_⟩
 refine cY l4 (Sj (by rw [bS];omega) ?_);refine iD (J:=⟨mZ 0 (((tys.map Ty.enc).length:Nat):Int).toNat,λ _=>True⟩) (eL (tys.map Ty.enc).length) (λ i=>.int (0+(i:Int))) (λ i=>if gm ((tys.map Ty.enc).getD i .bJ) t.enc=true then some (.int (0+(i:Int))) else none) rfl (by rw [oP];exact dx (by rw [bS];omega)) trivial (λ i ar R S cF cX=>?_) (λ p az=>?_)
 ·have nY:i < tys.length:=by simpa using ar
  have kW:(tys.map Ty.enc)[i]?=some (tys[i]).enc:=by simp [nY]
  have X6:(tys.map Ty.enc).getD i .bJ=(tys[i]).enc:=by rw [mm,kW];rfl
  rw [X6] at cF cX
  have cf:(0:Int)+(i:Int)=((i:Nat):Int):=by omega
  refine uM (d:=(tys[i]).enc) l4 (by rw [cf];exact lp kW) (AV (x:=(tys[i]).enc) (y:=t.enc) (Ty.HM _) (Ty.HM _) (by have:=(tys[i]).A1;have:=bT tys[i] (rD _);omega) ⟨λ c=>?_,λ c=>?_⟩)
  ·exact cF _ (by rw [if_pos (show gm _ _=true from c)])
  ·exact cX (by rw [if_neg (by rw [show gm _ _=false from c];simp)])
 ·generalize yn:(eL (tys.map Ty.enc).length).filterMap (λ i=>if gm ((tys.map Ty.enc).getD i .bJ) t.enc=true then some (D.int (0+(i:Int))) else none)=ks
  have aO:∀ d∈ks,∃ k:Nat,d=.int k/\k < m:=λ d hd=>by
   rw [<- yn] at hd;obtain ⟨i,ar,e⟩:=tl.mp hd;rw [nu,bS] at ar;split at e
   ·cases e;exact ⟨i,by rw [Int.zero_add],by omega⟩
   ·cases e
  have KG:ks.length<=100:=by
   rw [<- yn];refine kz (List.length_filterMap_le _ _) ?_;rw [oP,bS];omega
  have X7:=es.new (o:=.lst ks) az;have yO:=cw.new (o:=.lst ks) az;have np:=es.ne az
  have fin:∀(k2:Tm)(ap:aX),dS a (up G p (.lst ks)) ap->vJ k2 room deep m->bh au k2.enc ap:=λ k2 ap u z=>by
   obtain ⟨cQ,s3,du⟩:=dS.drop az u es;exact ⟨cQ,s3,q k2 cQ du z⟩
  refine ⟨X7,by decide,by decide,λ ko aA bY f0 f1=>?_⟩
  have a5:aA p=some (.lst ks):=by rw [bY.other np];exact bF
  refine cY a5 ⟨λ dF=>⟨λ dE=>⟨λ _=>?X8,nofun⟩,λ dE=>⟨λ h6=>?X9,λ h6=>?X_⟩⟩,λ dF=>⟨nofun,λ _=>?Ya⟩⟩
  case X8 | X9=>
   have adz:0 < ks.length:=by
    have:(0:Int) < ks.length:=by simpa using dF
    omega
   refine cY a5 ⟨bY.fd,by omega,by omega,λ k bc cg f6 d4=>?_⟩
   have q8:k.toNat < ks.length:=by omega
   obtain ⟨j,cP,v4⟩:=aO ks[k.toNat] (rD _);refine uM (d:=.int j) (by rw [cg.other np];exact a5) ?_ (fin (.name j) bc (bY.trans cg) ⟨by simp only [Tm.aB];omega,by simp only [Tm.aJ];omega,v4⟩);have z:=lp (xs:=ks) (j:=k.toNat) (v:=ks[k.toNat]) (gb q8);rw [show ((k.toNat:Nat):Int)=k by omega,cP] at z;exact z
  case X_ | Ya=>
   refine ⟨λ n0=>⟨λ _=>?cu,nofun⟩,λ n0=>⟨λ sZ=>?bV,λ sZ=>?go⟩⟩
   case cu | bV=>exact ⟨a,t,rfl,bY.fd,by omega,λ k2 bc cg cB b8 a7=>fin k2 bc (bY.trans cg) ⟨by omega,by omega,a7 m⟩⟩
   case go=>
    have pa:¬ room < 3:=by simpa using n0
    have pe:¬ deep < 1:=by simpa using sZ
    refine ⟨λ _=>?_,λ _=>?_⟩
    ·exact ⟨a,t,l,_,_,m,rfl,bY.fd,yO.fY bY,by omega,by omega,by omega,by omega,hz,λ k2 bc cg z=>fin k2 bc (bY.trans cg) z⟩
    ·exact ⟨a,t,l,_,_,m,rfl,bY.fd,yO.fY bY,by omega,by omega,by omega,by omega,hz,λ k2 bc cg z=>fin k2 bc (bY.trans cg) z⟩
abbrev Dm:bB:=top 49
theorem s0:c9 ["_law_feed_here", "_law_again", "_law_step", "_law_base", "_law_own"] ["_law_feed_here"] (b1 Dm):=⟨rfl,rfl,rfl,by decide +kernel,rfl,by decide +kernel,by decide +kernel⟩
theorem Yb(d0:Got P w K mg base 1 "_law_take" ["_law_feed_here", "_law_many"] (aK K iG))(f7:Got P w K mg base 2 "_law_whole" ["_law_feed_here"] (aK K i7))(F:c3 K "_law_loop" "_law_loop" Dm f fd):cp P w K mg base cc 3 f fd ["_law_feed_here"] (aK K vK):=by
 refine dn (k:=2) F s0 (λ ds G au h=>?_) (λ bE A outer s H E am ds G au h=>?_)
 ·unfold vK at h;split at h
  ·rfl
  ·exact h.elim
 unfold vK at h;split at h
 case h_2=>exact h.elim
 next a=>
 obtain ⟨es,q⟩:=h
 have km:∀(b c:Tm)(aA:aX),dS a G aA->b.aB<=3->b.aJ<=2->c.aB<=9->c.aJ<=4->b.cl 2->c.cl 2->iG [.ref a,.int 5] aA (λ d ap=>bh au (.tup [.str "give", .tup [.str "give", .tup [.str "way", .tup [.str "way", .tup [.str "look", .tup [.str "name", .int 0],b.enc,c.enc]]],.tup [.str "way", .tup [.str "way", .tup [.str "look", .tup [.str "name", .int 0],b.enc,c.enc]]]],.tup [.str "whole", d]]) ap):=λ b c aA bY hF gk dF dE mS h6=>
  ⟨bY.fd,by decide,by decide,λ d bc cg jN hg=>bh.of (q (.give (.give (.way (.way (.look (.name 0) b c))) (.way (.way (.look (.name 0) b c)))) (.whole d)) bc (bY.trans cg) (by simp only [Tm.aB];omega) (by simp only [Tm.aJ];omega) (by simp only [Tm.cl];exact ⟨⟨⟨by omega,mS,h6⟩,by omega,mS,h6⟩,trivial⟩))⟩
 let gY:Tm:=.give (.give (.name 1) (.name 1)) (.plus (.name 0) (.whole (-1)))
 have s1:gY.aB=7:=rfl;have hg:gY.aJ=2:=rfl
 have ga:gY.cl 2:=⟨⟨show 1 < 2 by omega,show 1 < 2 by omega⟩,show 0 < 2 by omega,trivial⟩
 refine ⟨_,(aR (bG (k:=1) s0.aY rfl (Or.inl rfl) (bP (af bf (af (bP (af bf (af (bP (af bf (af av aw))) (af (bP (af bf (af av aw))) aw)))) (af (bP (af bf (af (bP (af bf (af av aw))) (af (bP (af bf (af (xJ xN av) aw))) aw)))) aw)))))
  (aR (bG (k:=2) s0.aY rfl (Or.inl rfl) (od (af (ae 1) (af (bP (af bf (af (bn f7 am (by omega) rfl (af (ae 0) aw)) (af (ae 1) aw)))) (af (bP (af bf (af (bP (af bf (af av aw))) (af (ae 1) aw)))) aw))) (bn d0 am (by omega) rfl (af (ae 0) (af av aw))) (λ _ _=>rfl)))
  (aR (bG (k:=3) s0.aY rfl (Or.inl rfl) (od (af (bn f7 am (by omega) rfl (af (ae 0) aw)) (af (bP (af bf (af (bn f7 am (by omega) rfl (af (ae 0) aw)) (af (bP (af bf (af av aw))) aw)))) (af (bP (af bf (af av aw))) aw))) (bH n6 (bn d0 am (by omega) rfl (af (ae 0) (af av aw))) av) (λ _ _=>rfl)))
  (aR (cv (bR (qS (cC am)) (ae 2) (ae 1) (bA _)) (bd (bG (k:=3) s0.aY rfl (Or.inl rfl) (bn f7 am (by omega) rfl (af (ae 0) aw)))) cI)
  (aR (bG (k:=4) s0.aY rfl (Or.inl rfl) (bP (af bf (af (bP (af bf (af (bP (af bf (af (bP (af bf (af av aw))) (af (ae 3) (af (ae 2) aw))))) aw))) aw))))
  (bd (bz (bP (af bf (af (bP (af bf (af (ae 4) (af (ae 4) aw)))) (af (bP (af bf (af (bn d0 am (by omega) rfl (af (ae 0) (af av aw))) aw))) aw))))))))))),?_⟩
 refine ⟨es,λ d4 aA bY _ _=>⟨bY.fd,by decide,by decide,λ i bc cg Yc br=>?_⟩⟩;have yP:=bY.trans cg
 have again:∀(c:Tm)(cQ:aX),dS a G cQ->c.aB<=9->c.aJ<=4->c.cl 2->i7 [.ref a] cQ (λ d ap=>iG [.ref a,.int 5] ap (λ e ap=>bh au (.tup [.str "give", .tup [.str "give", .tup [.str "way", .tup [.str "way", .tup [.str "look", .tup [.str "name", .int 0],d,c.enc]]],.tup [.str "way", .tup [.str "way", .tup [.str "look", .tup [.str "name", .int 0],d,c.enc]]]],.tup [.str "whole", e]]) ap)):=λ c cQ du dF dE h6=>
  ⟨du.fd,λ k eZ fq _ _=>km (.whole k) c eZ (du.trans fq) (by simp [Tm.aB]) (by simp [Tm.aJ]) dF dE trivial h6⟩
 refine A2 (i:=i) Yc br (λ _=>?_) (λ _=>?_) (λ _=>?_)
 all_goals
  refine ⟨yP.fd,λ df cQ du _ _=>⟨(yP.trans du).fd,λ fm eZ fq _ _=>⟨((yP.trans du).trans fq).fd,by decide,by decide,λ j eA jP WG hp=>⟨by simp,?_⟩⟩⟩⟩;have hQ:=((yP.trans du).trans fq).trans jP;refine A2 (i:=j % 3) (by omega) (by omega) (λ _=>?_) (λ _=>?_) (λ _=>?_)
  all_goals refine ⟨rfl,rfl,by simp [D.aJ,g8,Tm.enc],λ _=>?_,λ _=>?_⟩
 ·exact again gY eA hQ (by omega) (by omega) ga
 ·exact km (.whole df) gY eA hQ (by simp [Tm.aB]) (by simp [Tm.aJ]) (by omega) (by omega) trivial ga
 ·exact again gY eA hQ (by omega) (by omega) ga
 ·exact km (.pair (.whole fm) (.name 0)) gY eA hQ (by simp [Tm.aB]) (by simp [Tm.aJ]) (by omega) (by omega) ⟨trivial,show 0 < 2 by omega⟩ ga
 ·exact again gY eA hQ (by omega) (by omega) ga
 ·exact km (.name 1) gY eA hQ (by simp [Tm.aB]) (by simp [Tm.aJ]) (by omega) (by omega) (show 1 < 2 by omega) ga
 ·exact again (.plus (.whole d4) gY) eA hQ (by simp only [Tm.aB];omega) (by simp only [Tm.aJ];omega) ⟨trivial,ga⟩
 ·exact km (.whole df) (.plus (.whole d4) gY) eA hQ (by simp [Tm.aB]) (by simp [Tm.aJ]) (by simp only [Tm.aB];omega) (by simp only [Tm.aJ];omega) trivial ⟨trivial,ga⟩
 ·exact again (.plus (.whole d4) gY) eA hQ (by simp only [Tm.aB];omega) (by simp only [Tm.aJ];omega) ⟨trivial,ga⟩
 ·exact km (.pair (.whole fm) (.name 0)) (.plus (.whole d4) gY) eA hQ (by simp [Tm.aB]) (by simp [Tm.aJ]) (by simp only [Tm.aB];omega) (by simp only [Tm.aJ];omega) ⟨trivial,show 0 < 2 by omega⟩ ⟨trivial,ga⟩
 ·exact again (.plus (.whole d4) gY) eA hQ (by simp only [Tm.aB];omega) (by simp only [Tm.aJ];omega) ⟨trivial,ga⟩
 ·exact km (.name 1) (.plus (.whole d4) gY) eA hQ (by simp [Tm.aB]) (by simp [Tm.aJ]) (by simp only [Tm.aB];omega) (by simp only [Tm.aJ];omega) (show 1 < 2 by omega) ⟨trivial,ga⟩
 ·exact again (.plus (.name 0) gY) eA hQ (by simp only [Tm.aB];omega) (by simp only [Tm.aJ];omega) ⟨show 0 < 2 by omega,ga⟩
 ·exact km (.whole df) (.plus (.name 0) gY) eA hQ (by simp [Tm.aB]) (by simp [Tm.aJ]) (by simp only [Tm.aB];omega) (by simp only [Tm.aJ];omega) trivial ⟨show 0 < 2 by omega,ga⟩
 ·exact again (.plus (.name 0) gY) eA hQ (by simp only [Tm.aB];omega) (by simp only [Tm.aJ];omega) ⟨show 0 < 2 by omega,ga⟩
 ·exact km (.pair (.whole fm) (.name 0)) (.plus (.name 0) gY) eA hQ (by simp [Tm.aB]) (by simp [Tm.aJ]) (by simp only [Tm.aB];omega) (by simp only [Tm.aJ];omega) ⟨trivial,show 0 < 2 by omega⟩ ⟨show 0 < 2 by omega,ga⟩
 ·exact again (.plus (.name 0) gY) eA hQ (by simp only [Tm.aB];omega) (by simp only [Tm.aJ];omega) ⟨show 0 < 2 by omega,ga⟩
 ·exact km (.name 1) (.plus (.name 0) gY) eA hQ (by simp [Tm.aB]) (by simp [Tm.aJ]) (by simp only [Tm.aB];omega) (by simp only [Tm.aJ];omega) (show 1 < 2 by omega) ⟨show 0 < 2 by omega,ga⟩
abbrev Dn:bB:=top 52
theorem yQ:c9 ["_law_feed_here", "_law_form", "_law_program_here"] ["_law_feed_here"] (b1 Dn):=⟨rfl,rfl,rfl,by decide +kernel,rfl,by decide +kernel,by decide +kernel⟩
theorem Yd(d0:Got P w K mg base 1 "_law_take" ["_law_feed_here", "_law_many"] (aK K iG))(f7:Got P w K mg base 2 "_law_whole" ["_law_feed_here"] (aK K i7))(Do:Got P w K mg base 3 "_law_loop" ["_law_feed_here"] (aK K vK))(l8:Got P w K mg base 17 "_law_wild" ["_law_feed_here", "_law_many", "_law_room", "_law_deep_here"] (aK K (ow 15)))(ox:Got P w K mg base 5 "_law_type" ["_law_feed_here", "_law_deep_here"] (aK K (oh 3)))
 (ic:Got P w K mg base 91 "_law_typed" ["_law_feed_here", "_law_want", "_law_names", "_law_room", "_law_deep_here"] (aK K (sL 13))) (jO:Got P w K mg base 81 "_law_parts" ["_law_program_here"] (aK K (oi 80))) (F:c3 K "_law_program" "_law_program" Dn f fd):cp P w K mg base cc 92 f fd ["_law_feed_here"] (aK K vL):=by
 refine dn (k:=91) F yQ (λ ds G au h=>?_) (λ bE A outer s H E am ds G au h=>?_)
 ·unfold vL at h;split at h
  ·rfl
  ·exact h.elim
 unfold vL at h;split at h
 case h_2=>exact h.elim
 next a=>
 obtain ⟨es,q⟩:=h
 have plus:∀ aA,gE aA a->(∀(p:Tm) ap,dS a aA ap->p.aB<=60->p.aJ<=75->p.cl 0->bh au p.enc ap)->i7 [.ref a] aA (λ d bc=>i7 [.ref a] bc (λ e cQ=>i7 [.ref a] cQ (λ f eZ=>bh au (.tup [.str "plus", .tup [.str "plus", d,e],f]) eZ))):=λ aA f1 fin=>
  ⟨f1,λ k bc cg _ _=>⟨cg.fd,λ df cQ du _ _=>⟨(cg.trans du).fd,λ fm eZ fq _ _=>fin (.plus (.plus (.whole k) (.whole df)) (.whole fm)) eZ ((cg.trans du).trans fq) (by simp [Tm.aB]) (by simp [Tm.aJ]) ⟨⟨trivial,trivial⟩,trivial⟩⟩⟩⟩
 refine ⟨_,(aR (bG (k:=1) yQ.aY rfl (Or.inl rfl) (bn d0 am (by omega) rfl (af (ae 0) (af av aw))))
  (aR (cv (bR (cR (cC am)) (ae 1) av (bA _)) (bd (bz (bn Do am (by omega) rfl (af (ae 0) aw)))) cI)
  (aR (cv (bR (cR (cC am)) (ae 1) av (bA _)) (bd (bG (k:=2) yQ.aY rfl (Or.inl rfl) (bn l8 am (by omega) rfl (af (ae 0) (af av (af (bH dN av (bn d0 am (by omega) rfl (af (ae 0) (af av aw)))) (af av aw))))))) (bd (bG (k:=2) yQ.aY rfl (Or.inl rfl) (bn ic am (by omega) rfl (af (ae 0) (af (bn ox am (by omega) rfl (af (ae 0) (af (bn d0 am (by omega) rfl (af (ae 0) (af av aw))) aw))) (af (hI aw) (af (bH dN av (bn d0 am (by omega) rfl (af (ae 0) (af av aw)))) (af av aw)))))))))
  (aR (cv (bR h8 (bn jO am (by omega) rfl (af (ae 2) aw)) av (bA _)) (bd (bz (bP (af bf (af (bP (af bf (af (bn f7 am (by omega) rfl (af (ae 0) aw)) (af (bn f7 am (by omega) rfl (af (ae 0) aw)) aw)))) (af (bn f7 am (by omega) rfl (af (ae 0) aw)) aw)))))) cI)
  (bd (bz (ae 2))))))),?_⟩
 refine ⟨es,by decide,by decide,λ ko aA bY f0 f1=>⟨λ _=>⟨bY.fd,λ p bc cg cB b8 dg=>bh.of (q p bc (bY.trans cg) cB (by omega) dg)⟩,λ _=>⟨λ _=>?_,λ _=>?_⟩⟩⟩
 ·refine ⟨bY.fd,by decide,by decide,λ d bc cg jN hg=>⟨(bY.trans cg).fd,by decide,by decide,by omega,by decide,by decide,λ p cQ du z=>?_⟩⟩;have U:=(bY.trans cg).trans du;obtain ⟨cB,b8,dg⟩:=z;refine ⟨p,rfl,by omega,by omega,λ c=>?_,λ c=>?_⟩
  ·exact plus cQ U.fd λ p ap u cB b8 dg=>bh.of (q p ap (U.trans u) cB b8 dg)
  ·have b_:¬ (60:Int) < p.aB:=by simpa using c
   exact bh.of (q p cQ U (by omega) (by omega) dg)
 ·refine ⟨bY.fd,by decide,by decide,λ d bc cg jN hg=>⟨(bY.trans cg).fd,by omega,by omega,λ t cQ du vr p az=>?_⟩⟩;have U:=(bY.trans cg).trans du
  have adA:t.aB<=7:=by
   rcases (by omega:d=0\/d=1\/d=2) with rfl | rfl | rfl
   ·have:t.aB<=1:=vr;omega
   ·have:t.aB<=3:=vr;omega
   ·exact vr
  have yO:k1 (up cQ p (.lst [])) p a 12 0:=⟨U.fd.ne az,[],bF,by decide,λ _ h=>(by cases h),rfl⟩
  refine ⟨U.fd.new az,by decide,by decide,λ e eZ fq cf aP=>⟨a,t,p,_,_,0,rfl,fq.fd,yO.fY fq,by omega,by decide,by decide,by omega,λ pr eA jP z=>?_⟩⟩
  have back:∀ kl,dS a (up cQ p (.lst [])) kl->∀ pr:Tm,pr.aB<=60->pr.aJ<=75->pr.cl 0->bh au pr.enc kl:=λ kl yR pr cB b8 dg=>by
   obtain ⟨m3,j4,yS⟩:=dS.drop az yR U.fd;exact ⟨m3,j4,q pr m3 (U.trans yS) cB b8 dg⟩
  obtain ⟨cB,b8,dg⟩:=z;refine ⟨pr,rfl,by omega,by omega,λ c=>?_,λ c=>?_⟩
  ·exact plus eA (fq.trans jP).fd λ k2 ap u cB b8 dg=>back ap ((fq.trans jP).trans u) k2 cB b8 dg
  ·have b_:¬ (60:Int) < pr.aB:=by simpa using c
   exact back eA (fq.trans jP) pr (by omega) (by omega) dg
abbrev Dp:bB:=top 50
theorem ri:c9 ["_law_feed_here", "_law_many", "_law_room", "_law_deep_here", "_law_form", "_law_half", "_law_third", "_law_asked", "_law_one"] ["_law_feed_here", "_law_many", "_law_room", "_law_deep_here"] (b1 Dp):=⟨rfl,rfl,rfl,by decide +kernel,rfl,by decide +kernel,by decide +kernel⟩
theorem Ye:cp P w K mg base cc 2 f fd ["_law_feed_here", "_law_many", "_law_room", "_law_deep_here"] (aK K (ow 0)):=kV λ ds G au h=>by
 unfold ow at h;split at h
 ·obtain ⟨_,_,_,_,ak,aq,_⟩:=h;omega
 ·exact h
theorem Yf{n:Nat}(d0:Got P w K mg base 1 "_law_take" ["_law_feed_here", "_law_many"] (aK K iG))(f7:Got P w K mg base 2 "_law_whole" ["_law_feed_here"] (aK K i7))(l8:Got P w K mg base (n+2) "_law_wild" ["_law_feed_here", "_law_many", "_law_room", "_law_deep_here"] (aK K (ow n)))
 (F:c3 K "_law_wild" "_law_wild" Dp f fd):cp P w K mg base cc (n+3) f fd ["_law_feed_here", "_law_many", "_law_room", "_law_deep_here"] (aK K (ow (n+1))):=by
 refine dn (k:=n+2) F ri (λ ds G au h=>?_) (λ bE A outer s H E am ds G au h=>?_)
 ·unfold ow at h;split at h
  ·rfl
  ·exact h.elim
 unfold ow at h;split at h
 case h_2=>exact h.elim
 next a many room deep=>
 obtain ⟨es,m0,mw,bj,adB,adC,q⟩:=h;have fin:∀(p:Tm)(ap:aX),dS a G ap->Jp p (3 * max room 0+1) deep many.toNat->bh au p.enc ap:=λ p ap u z=>bh.of (q p ap u z)
 refine ⟨_,(aR (bG (k:=4) ri.aY rfl (Or.inl rfl) (bn d0 am (by omega) rfl (af (ae 0) (af av aw))))
  (aR (bG (k:=5) ri.aY rfl (Or.inl rfl) (bH qI (bH dV (ae 2) av) av))
  (aR (cv (fN.at (kM (bR iB (ae 2) av (bA _)) (kM (bR iB (ae 3) av (bA _)) (lT (bR iB (ae 4) av (bA _)))))) (aR (cv (fN.at (sd (bR h8 (ae 1) av (bA _)) (sb (bR h8 (bn d0 am (by omega) rfl (af (ae 0) (af av aw))) av (bA _))))) (bd (bz (bP (af bf (af (bn d0 am (by omega) rfl (af (ae 0) (af (ae 1) aw))) aw))))) cI)
  (bd (bz (bn f7 am (by omega) rfl (af (ae 0) aw))))) cI)
  (aR (cv (bR iB (ae 4) av (bA _)) (bd (bz (bP (af bf (af (bn l8 am (by omega) rfl (af (ae 0) (af (bH dN (ae 1) av) (af (bH dV (ae 2) av) (af (bH dV (ae 3) av) aw))))) aw))))) cI)
  (aR (cv (bR iB (ae 4) av (bA _)) (bd (bz (bP (af (od (af bf (af bf aw)) (bH dV (ae 4) av) (λ _ _=>rfl)) (af (bn l8 am (by omega) rfl (af (ae 0) (af (ae 1) (af (bH dV (ae 2) av) (af (bH dV (ae 3) av) aw))))) aw))))) cI)
  (aR (cv (bR (cR (cC am)) (ae 4) av (bA _)) (aR (bG (k:=6) ri.aY rfl (Or.inl rfl) (bH qI (bH dV (ae 2) av) av))
  (aR (bG (k:=7) ri.aY rfl (Or.inl rfl) (bn l8 am (by omega) rfl (af (ae 0) (af (ae 1) (af (ae 6) (af (bH dV (ae 3) av) aw))))))
  (aR (bG (k:=8) ri.aY rfl (Or.inl rfl) (bn l8 am (by omega) rfl (af (ae 0) (af (ae 1) (af (ae 6) (af (bH dV (ae 3) av) aw))))))
  (bd (bz (bP (af bf (af (ae 7) (af (ae 8) (af (bn l8 am (by omega) rfl (af (ae 0) (af (ae 1) (af (ae 6) (af (bH dV (ae 3) av) aw))))) aw)))))))))) cI)
  (aR (bG (k:=8) ri.aY rfl (Or.inl rfl) (bn l8 am (by omega) rfl (af (ae 0) (af (ae 1) (af (ae 5) (af (bH dV (ae 3) av) aw))))))
  (bd (bz (bP (af (od (af bf (af bf (af bf (af bf (af bf aw))))) (bH dV (ae 4) av) (λ _ _=>rfl)) (af (ae 8) (af (bn l8 am (by omega) rfl (af (ae 0) (af (ae 1) (af (ae 5) (af (bH dV (ae 3) av) aw))))) aw))))))))))))),?_⟩
 refine ⟨es,by decide,by decide,λ ko aA bY f0 f1=>⟨⟨by decide,by decide⟩,λ dF=>⟨λ _=>?Yg,nofun⟩,λ dF=>⟨λ dE=>⟨λ _=>?Yh,nofun⟩,λ dE=>⟨λ h6=>?Yi,λ h6=>?rest⟩⟩⟩⟩
 case Yg | Yh | Yi=>
  have oT:∀ bc,dS a G bc->i7 [.ref a] bc (bh au):=λ bc cg=>⟨cg.fd,λ k cQ du _ _=>fin (.whole k) cQ (cg.trans du) ⟨by simp [Tm.aB];omega,by simp [Tm.aJ];omega,trivial⟩⟩
  refine ⟨λ m=>⟨bY.fd,by decide,by decide,λ e bc cg cf aP=>⟨λ aL=>?_,λ aL=>oT bc (bY.trans cg)⟩⟩,λ m=>⟨nofun,λ _=>oT aA bY⟩⟩;refine ⟨(bY.trans cg).fd,by simpa using m,by omega,λ k cQ du f6 d4=>?_⟩;have z:=fin (.name k.toNat) cQ ((bY.trans cg).trans du) ⟨by simp [Tm.aB];omega,by simp [Tm.aJ];omega,by show k.toNat < many.toNat;omega⟩
  rwa [Tm.enc,show ((k.toNat:Nat):Int)=k by omega] at z
 have KL:¬ deep < 1:=by simpa using dE
 have hg:¬ room < 2:=by simpa using dF
 have KM:¬ ko < 2:=by simpa using h6
 refine ⟨λ n0=>?_,λ n0=>⟨λ sZ=>?_,λ sZ=>⟨λ KN=>?_,λ KN=>?_⟩⟩⟩
 ·refine ⟨bY.fd,by omega,by omega,by omega,by omega,by omega,λ p bc cg z=>fin (.way p) bc (bY.trans cg) ?_⟩;obtain ⟨cB,b8,dg⟩:=z;rw [show (many+1).toNat=many.toNat+1 by omega] at dg;exact ⟨by simp only [Tm.aB];omega,by simp only [Tm.aJ];omega,dg⟩
 ·have pa:¬ ko < 4:=by simpa using n0
  have pe:ko < 6:=by simpa using sZ
  refine at2 (i:=ko - 4) (by omega) (by omega) (λ _=>?_) (λ _=>?_)
  ·refine ⟨bY.fd,by omega,by omega,by omega,by omega,by omega,λ p bc cg z=>fin (.first p) bc (bY.trans cg) ?_⟩;obtain ⟨cB,b8,dg⟩:=z;exact ⟨by simp only [Tm.aB];omega,by simp only [Tm.aJ];omega,dg⟩
  ·refine ⟨bY.fd,by omega,by omega,by omega,by omega,by omega,λ p bc cg z=>fin (.second p) bc (bY.trans cg) ?_⟩;obtain ⟨cB,b8,dg⟩:=z;exact ⟨by simp only [Tm.aB];omega,by simp only [Tm.aJ];omega,dg⟩
 ·refine ⟨⟨by decide,by decide⟩,bY.fd,by omega,by omega,by omega,by omega,by omega,λ p bc cg z=>⟨(bY.trans cg).fd,by omega,by omega,by omega,by omega,by omega,λ cE cQ du b8=>⟨((bY.trans cg).trans du).fd,by omega,by omega,by omega,by omega,by omega,λ jM eZ fq dg=>fin (.look p cE jM) eZ (((bY.trans cg).trans du).trans fq) ?_⟩⟩⟩;obtain ⟨cB,i6,a7⟩:=z;obtain ⟨b8,ob,b4⟩:=b8;obtain ⟨dg,X3,gp⟩:=dg;exact ⟨by simp only [Tm.aB];omega,by simp only [Tm.aJ];omega,a7,b4,gp⟩
 ·have pe:¬ ko < 6:=by simpa using sZ
  have adD:ko≠6:=by simpa using KN
  refine ⟨bY.fd,by omega,by omega,by omega,by omega,by omega,λ p bc cg z=>?_⟩
  have two:∀(q4:Str)(t:Tm->Tm->Tm),(∀ x y,(t x y).enc=.tup [.str q4,x.enc,y.enc])->(∀ x y,(t x y).aB=1+x.aB+y.aB)->(∀ x y,(t x y).aJ=1+max x.aJ y.aJ)->(∀ x y m,x.cl m->y.cl m->(t x y).cl m)->ow n [.ref a,.int many,.int ((room - 1) / 2),.int (deep - 1)] bc (λ d ap=>bh au (.tup [.str q4,p.enc,d]) ap):=λ q4 t he ak aq aT=>by
   refine ⟨(bY.trans cg).fd,by omega,by omega,by omega,by omega,by omega,λ cE cQ du b8=>?_⟩;show bh au (.tup [.str q4,p.enc,cE.enc]) cQ;rw [<- he];refine fin (t p cE) cQ ((bY.trans cg).trans du) ?_;obtain ⟨cB,i6,a7⟩:=z;obtain ⟨b8,ob,b4⟩:=b8;exact ⟨by rw [ak];omega,by rw [aq];omega,aT _ _ _ a7 b4⟩
  refine S3 (i:=ko - 7) (by omega) (by omega) (λ _=>?_) (λ _=>?_) (λ _=>?_) (λ _=>?_) (λ _=>?_)
  ·exact two _ .give (λ _ _=>rfl) (λ _ _=>rfl) (λ _ _=>rfl) λ _ _ _ p q=>⟨p,q⟩
  ·exact two _ .give (λ _ _=>rfl) (λ _ _=>rfl) (λ _ _=>rfl) λ _ _ _ p q=>⟨p,q⟩
  ·exact two _ .give (λ _ _=>rfl) (λ _ _=>rfl) (λ _ _=>rfl) λ _ _ _ p q=>⟨p,q⟩
  ·exact two _ .plus (λ _ _=>rfl) (λ _ _=>rfl) (λ _ _=>rfl) λ _ _ _ p q=>⟨p,q⟩
  ·exact two _ .pair (λ _ _=>rfl) (λ _ _=>rfl) (λ _ _=>rfl) λ _ _ _ p q=>⟨p,q⟩
abbrev Dq:bB:=top 55
theorem KO:c9 ["_law_part", "_law_other", "_law_ways", "_law_under"] ["_law_part", "_law_other", "_law_ways"] (b1 Dq):=⟨rfl,rfl,rfl,by decide +kernel,rfl,by decide +kernel,by decide +kernel⟩
theorem Yj:cp P w K mg base cc 102 f fd ["_law_part", "_law_other", "_law_ways"] (aK K (vM 0)):=kV λ ds G au h=>by
 obtain ⟨_,_,_,_,h,_⟩:=h;omega
theorem Yk{n:Nat}(B:e_ mg)(bt:n<=200)(vS:Got P w K mg base 102 "_law_shift" ["_law_part", "_law_many", "_law_least_here"] (aK K (vE 101)))(v8:Got P w K mg base (n+102) "_law_put" ["_law_part", "_law_other", "_law_ways"] (aK K (vM n)))(F:c3 K "_law_put" "_law_put" Dq f fd):cp P w K mg base cc (n+103) f fd ["_law_part", "_law_other", "_law_ways"] (aK K (vM (n+1))):=by
 refine dn (k:=n+102) F KO (λ ds G au h=>?_) (λ bE A outer s H E am ds G au h=>?_)
 ·obtain ⟨_,_,_,rfl,_⟩:=h;rfl
 obtain ⟨t,v,l,rfl,hd,pL,q⟩:=h
 refine ⟨_,(aR (cv (bR (cR (cC am)) (a8 a9 (ae 0) av (λ _ _=>rfl)) bf (bA _)) (bd (bz (ae 0))) cI)
  (aR (cv (bR (cR (cC am)) (a8 a9 (ae 0) av (λ _ _=>rfl)) bf (bA _)) (aR (cv (bR (cR (cC am)) (a8 a9 (ae 0) av (λ _ _=>rfl)) (ae 2) (bA _)) (bd (bz (bn vS am (by omega) rfl (af (ae 1) (af (ae 2) (af av aw)))))) cI)
  (bd (bz (bP (af bf (af (bH dV (a8 a9 (ae 0) av (λ _ _=>rfl)) (jE mX rfl B.int la (af (fg h8 (a8 a9 (ae 0) av (λ _ _=>rfl)) (ae 2) (bA _)) aw))) aw)))))) cI)
  (aR (bG (k:=3) KO.aY rfl (Or.inr rfl) (bH dN (ae 2) (jE mX rfl B.int la (af (fg (cR (cC am)) (a8 a9 (ae 0) av (λ _ _=>rfl)) bf (bA _)) aw))))
  (bd (bz (bH dN (bP (af (a8 a9 (ae 0) av (λ _ _=>rfl)) aw)) (pw (jE xS rfl B.tuple mt (af (qN rfl (ey.of (N':=["_law_one", "_law_other", "_law_under"]) (nt:=1) (cap:=[1,3]) rfl (by kernel_rfl)) (h9 (k:=0) (by decide)) (iC (kP kR (ae 0) (kO av) kN)) (λ _ _ _ _=>(gD (k:=0) (show List.Nodup (["_law_one", "_law_other", "_law_under"]:List Str) by decide +kernel) rfl (Or.inl rfl))) (λ _ _ _ _=>(bn v8 am (by omega) rfl (af (ae 0) (af (ae 1) (af (ae 2) aw)))))) aw))))))))),?_⟩
 cases t with
 | whole k=>exact ⟨λ _=>bh.of q,λ c=>absurd c (by decide)⟩
 | name k=>
  have jy:au (et v k l).enc G:=q;unfold et at jy;refine ⟨λ c=>absurd c (by decide),λ _=>⟨λ _=>⟨λ c=>?_,λ c=>?_⟩,λ c=>absurd c (by decide)⟩⟩
  ·have dF:(k:Int)=l:=by simpa using c
   have b_:k=l:=by omega
   rw [if_pos b_] at jy;exact ⟨v,l,0,rfl,pL,bh.of jy⟩
  ·have dF:¬ (k:Int)=l:=by simpa using c
   have b_:¬ k=l:=by omega
   rw [if_neg b_] at jy;refine bh.of ?_
   have e:(Tm.name (if l < k then k - 1 else k)).enc=.tup [.str "name", .int ((k:Int) - (if decide ((l:Int) < (k:Int))=true then 1 else 0))]:=by
    by_cases c:l < k
    ·rw [if_pos c,if_pos (by simp;omega)];simp [Tm.enc];omega
    ·rw [if_neg c,if_neg (by simp;omega)];simp [Tm.enc]
   rw [e] at jy;exact jy
 | way a7=>
  refine ⟨λ c=>absurd c (by decide),λ _=>⟨λ c=>absurd c (by decide),λ _=>?_⟩⟩;refine g7 (Tm.aV (.way a7:Tm)) Tm.enc (λ u=>(u.bU (et v) (Tm.b9 (.way a7:Tm) l)).enc) rfl (dx (by have:=Tm.el (.way a7:Tm);omega)) trivial (λ u a0 R cF=>?_) (λ p az=>?_)
  ·have ak:=Tm.gF a0;exact ⟨u,v,Tm.b9 (.way a7:Tm) l,by simp [Tm.b9,hK],by omega,pL,cF⟩
  ·refine cY bF ⟨G,Sub.new (Sub.refl _) az,small (by have:=Tm.el (.way a7:Tm);simp only [bS];show 1+_<=_;omega),bh.of ?_⟩;have e:=Tm.ia (t:=(.way a7:Tm)) (cs:=(Tm.aV (.way a7:Tm)).map λ u=>u.bU (et v) (Tm.b9 (.way a7:Tm) l)) rfl (by rw [bS]);rw [Tm.i_ (t:=(.way a7:Tm)) rfl,e,fE] at q;exact q
 | give a7 b4=>
  refine ⟨λ c=>absurd c (by decide),λ _=>⟨λ c=>absurd c (by decide),λ _=>?_⟩⟩;refine g7 (Tm.aV (.give a7 b4:Tm)) Tm.enc (λ u=>(u.bU (et v) (Tm.b9 (.give a7 b4:Tm) l)).enc) rfl (dx (by have:=Tm.el (.give a7 b4:Tm);omega)) trivial (λ u a0 R cF=>?_) (λ p az=>?_)
  ·have ak:=Tm.gF a0;exact ⟨u,v,Tm.b9 (.give a7 b4:Tm) l,by simp [Tm.b9,hK],by omega,pL,cF⟩
  ·refine cY bF ⟨G,Sub.new (Sub.refl _) az,small (by have:=Tm.el (.give a7 b4:Tm);simp only [bS];show 1+_<=_;omega),bh.of ?_⟩;have e:=Tm.ia (t:=(.give a7 b4:Tm)) (cs:=(Tm.aV (.give a7 b4:Tm)).map λ u=>u.bU (et v) (Tm.b9 (.give a7 b4:Tm) l)) rfl (by rw [bS]);rw [Tm.i_ (t:=(.give a7 b4:Tm)) rfl,e,fE] at q;exact q
 | pair a7 b4=>
  refine ⟨λ c=>absurd c (by decide),λ _=>⟨λ c=>absurd c (by decide),λ _=>?_⟩⟩;refine g7 (Tm.aV (.pair a7 b4:Tm)) Tm.enc (λ u=>(u.bU (et v) (Tm.b9 (.pair a7 b4:Tm) l)).enc) rfl (dx (by have:=Tm.el (.pair a7 b4:Tm);omega)) trivial (λ u a0 R cF=>?_) (λ p az=>?_)
  ·have ak:=Tm.gF a0;exact ⟨u,v,Tm.b9 (.pair a7 b4:Tm) l,by simp [Tm.b9,hK],by omega,pL,cF⟩
  ·refine cY bF ⟨G,Sub.new (Sub.refl _) az,small (by have:=Tm.el (.pair a7 b4:Tm);simp only [bS];show 1+_<=_;omega),bh.of ?_⟩;have e:=Tm.ia (t:=(.pair a7 b4:Tm)) (cs:=(Tm.aV (.pair a7 b4:Tm)).map λ u=>u.bU (et v) (Tm.b9 (.pair a7 b4:Tm) l)) rfl (by rw [bS]);rw [Tm.i_ (t:=(.pair a7 b4:Tm)) rfl,e,fE] at q;exact q
 | first a7=>
  refine ⟨λ c=>absurd c (by decide),λ _=>⟨λ c=>absurd c (by decide),λ _=>?_⟩⟩;refine g7 (Tm.aV (.first a7:Tm)) Tm.enc (λ u=>(u.bU (et v) (Tm.b9 (.first a7:Tm) l)).enc) rfl (dx (by have:=Tm.el (.first a7:Tm);omega)) trivial (λ u a0 R cF=>?_) (λ p az=>?_)
  ·have ak:=Tm.gF a0;exact ⟨u,v,Tm.b9 (.first a7:Tm) l,by simp [Tm.b9,hK],by omega,pL,cF⟩
  ·refine cY bF ⟨G,Sub.new (Sub.refl _) az,small (by have:=Tm.el (.first a7:Tm);simp only [bS];show 1+_<=_;omega),bh.of ?_⟩;have e:=Tm.ia (t:=(.first a7:Tm)) (cs:=(Tm.aV (.first a7:Tm)).map λ u=>u.bU (et v) (Tm.b9 (.first a7:Tm) l)) rfl (by rw [bS]);rw [Tm.i_ (t:=(.first a7:Tm)) rfl,e,fE] at q;exact q
 | second a7=>
  refine ⟨λ c=>absurd c (by decide),λ _=>⟨λ c=>absurd c (by decide),λ _=>?_⟩⟩;refine g7 (Tm.aV (.second a7:Tm)) Tm.enc (λ u=>(u.bU (et v) (Tm.b9 (.second a7:Tm) l)).enc) rfl (dx (by have:=Tm.el (.second a7:Tm);omega)) trivial (λ u a0 R cF=>?_) (λ p az=>?_)
  ·have ak:=Tm.gF a0;exact ⟨u,v,Tm.b9 (.second a7:Tm) l,by simp [Tm.b9,hK],by omega,pL,cF⟩
  ·refine cY bF ⟨G,Sub.new (Sub.refl _) az,small (by have:=Tm.el (.second a7:Tm);simp only [bS];show 1+_<=_;omega),bh.of ?_⟩;have e:=Tm.ia (t:=(.second a7:Tm)) (cs:=(Tm.aV (.second a7:Tm)).map λ u=>u.bU (et v) (Tm.b9 (.second a7:Tm) l)) rfl (by rw [bS]);rw [Tm.i_ (t:=(.second a7:Tm)) rfl,e,fE] at q;exact q
 | plus a7 b4=>
  refine ⟨λ c=>absurd c (by decide),λ _=>⟨λ c=>absurd c (by decide),λ _=>?_⟩⟩;refine g7 (Tm.aV (.plus a7 b4:Tm)) Tm.enc (λ u=>(u.bU (et v) (Tm.b9 (.plus a7 b4:Tm) l)).enc) rfl (dx (by have:=Tm.el (.plus a7 b4:Tm);omega)) trivial (λ u a0 R cF=>?_) (λ p az=>?_)
  ·have ak:=Tm.gF a0;exact ⟨u,v,Tm.b9 (.plus a7 b4:Tm) l,by simp [Tm.b9,hK],by omega,pL,cF⟩
  ·refine cY bF ⟨G,Sub.new (Sub.refl _) az,small (by have:=Tm.el (.plus a7 b4:Tm);simp only [bS];show 1+_<=_;omega),bh.of ?_⟩;have e:=Tm.ia (t:=(.plus a7 b4:Tm)) (cs:=(Tm.aV (.plus a7 b4:Tm)).map λ u=>u.bU (et v) (Tm.b9 (.plus a7 b4:Tm) l)) rfl (by rw [bS]);rw [Tm.i_ (t:=(.plus a7 b4:Tm)) rfl,e,fE] at q;exact q
 | look a7 b4 gp=>
  refine ⟨λ c=>absurd c (by decide),λ _=>⟨λ c=>absurd c (by decide),λ _=>?_⟩⟩;refine g7 (Tm.aV (.look a7 b4 gp:Tm)) Tm.enc (λ u=>(u.bU (et v) (Tm.b9 (.look a7 b4 gp:Tm) l)).enc) rfl (dx (by have:=Tm.el (.look a7 b4 gp:Tm);omega)) trivial (λ u a0 R cF=>?_) (λ p az=>?_)
  ·have ak:=Tm.gF a0;exact ⟨u,v,Tm.b9 (.look a7 b4 gp:Tm) l,by simp [Tm.b9,hK],by omega,pL,cF⟩
  ·refine cY bF ⟨G,Sub.new (Sub.refl _) az,small (by have:=Tm.el (.look a7 b4 gp:Tm);simp only [bS];show 1+_<=_;omega),bh.of ?_⟩;have e:=Tm.ia (t:=(.look a7 b4 gp:Tm)) (cs:=(Tm.aV (.look a7 b4 gp:Tm)).map λ u=>u.bU (et v) (Tm.b9 (.look a7 b4 gp:Tm) l)) rfl (by rw [bS]);rw [Tm.i_ (t:=(.look a7 b4 gp:Tm)) rfl,e,fE] at q;exact q
abbrev Dr:bB:=top 56
theorem Yl:c9 ["_law_part"] ["_law_part"] (b1 Dr):=⟨rfl,rfl,rfl,by decide +kernel,rfl,by decide +kernel,by decide +kernel⟩
theorem Ym(B:e_ mg)(v8:Got P w K mg base 203 "_law_put" ["_law_part", "_law_other", "_law_ways"] (aK K (vM 101)))(F:c3 K "_law_rule" "_law_rule" Dr f fd):cp P w K mg base cc 204 f fd ["_law_part"] (aK K BW):=by
 refine dn (k:=203) F Yl (λ ds G au h=>?_) (λ bE A outer s H E am ds G au h=>?_)
 ·obtain ⟨_,rfl,_⟩:=h;rfl
 obtain ⟨t,rfl,gX,hd,q⟩:=h
 refine ⟨_,(aR (cv (bR (cR (cC am)) (a8 a9 (ae 0) av (λ _ _=>rfl)) bf (bA _)) (bd (bz (bn v8 am (by omega) rfl (af (a8 a9 (a8 a9 (ae 0) av (λ _ _=>rfl)) av (λ _ _=>rfl)) (af (a8 a9 (ae 0) av (λ _ _=>rfl)) (af av aw)))))) cI)
  (aR (cv (bR (cR (cC am)) (a8 a9 (ae 0) av (λ _ _=>rfl)) bf (bA _)) (bd (bz (a8 a9 (a8 a9 (ae 0) av (λ _ _=>rfl)) av (λ _ _=>rfl)))) cI)
  (aR (cv (bR (cR (cC am)) (a8 a9 (ae 0) av (λ _ _=>rfl)) bf (bA _)) (bd (bz (a8 a9 (a8 a9 (ae 0) av (λ _ _=>rfl)) av (λ _ _=>rfl)))) cI)
  (aR (cv (bR (cR (cC am)) (a8 a9 (ae 0) av (λ _ _=>rfl)) bf (bA _)) (bd (bz (bP (af bf (af (bH dN (a8 a9 (a8 a9 (ae 0) av (λ _ _=>rfl)) av (λ _ _=>rfl)) (a8 a9 (a8 a9 (ae 0) av (λ _ _=>rfl)) av (λ _ _=>rfl))) aw))))) cI)
  (bd (bz (a8 a9 (ae 0) (bH dN av (jE mX rfl B.int la (af (fg (qS (cC am)) (a8 a9 (a8 a9 (ae 0) av (λ _ _=>rfl)) av (λ _ _=>rfl)) av (bA _)) aw))) (λ _ _=>rfl)))))))),?_⟩
 cases t with
 | give b a=>
  cases b with
  | way b=>exact cA.yes rfl ⟨b,a,0,rfl,by simp only [Tm.aJ] at hd;omega,by simp only [Tm.aJ] at hd;omega,bh.of q⟩
  | _=>cases gX
 | first a=>
  cases a with
  | pair a b=>exact cA.no rfl (cA.yes rfl (bh.of q))
  | _=>cases gX
 | second a=>
  cases a with
  | pair a b=>exact cA.no rfl (cA.no rfl (cA.yes rfl (bh.of q)))
  | _=>cases gX
 | plus a b=>
  cases a with
  | whole i=>
   cases b with
   | whole j=>exact cA.no rfl (cA.no rfl (cA.no rfl (cA.yes rfl (bh.of q))))
   | _=>cases gX
  | _=>cases gX
 | look a b c=>
  cases a with
  | whole i=>
   refine cA.no rfl (cA.no rfl (cA.no rfl (cA.no rfl ?_)));have gc:=q;by_cases e:i=0
   ·rw [show (Tm.look (.whole i) b c).comes=b from if_pos e] at gc;refine mW (d:=b.enc) ?_ (bh.of gc);subst e;rfl
   ·rw [show (Tm.look (.whole i) b c).comes=c from if_neg e] at gc;refine mW (d:=c.enc) ?_ (bh.of gc);rw [show (i==0)=false by simpa using e];rfl
  | _=>cases gX
 | _=>cases gX
abbrev Ds:bB:=top 60
theorem pM:c9 ["_law_program_here", "_law_place", "_law_k"] ["_law_program_here"] (b1 Ds):=⟨rfl,rfl,rfl,by decide +kernel,rfl,by decide +kernel,by decide +kernel⟩
theorem Yn(B:e_ mg)(oy:Got P w K mg base 102 "_law_is_answer" ["_law_part"] (aK K (sy 101)))(Dt:Got P w K mg base 1 "_law_can" ["_law_part"] (aK K (qV Tm.d1)))(F:c3 K "_law_next" "_law_next" Ds f fd):cp P w K mg base cc 103 f fd ["_law_program_here"] (aK K BX):=by
 refine dn (k:=102) F pM (λ ds G au h=>?_) (λ bE A outer s H E am ds G au h=>?_)
 ·obtain ⟨_,rfl,_⟩:=h;rfl
 obtain ⟨t,rfl,hd,q⟩:=h
 refine ⟨_,(aR (bG (k:=1) pM.aY rfl (Or.inl rfl) (bP aw))
  (aR (lU PassesOwn.never (bR (cR (cC am)) (a8 a9 (ae 0) av (λ _ _=>rfl)) bf (bA _)) (aR (bG (k:=2) pM.aY rfl (Or.inl rfl) (jE mX rfl B.int la (af (bn oy am (by omega) rfl (af (a8 a9 (ae 0) av (λ _ _=>rfl)) aw)) aw)))
  (aR (bG (k:=1) pM.aY rfl (Or.inl rfl) (bH dN (ae 1) (bP (af (ae 2) aw))))
  (bd (bG (k:=0) pM.aY rfl (Or.inl rfl) (a8 a9 (ae 0) (bH dN av (ae 2)) (λ _ _=>rfl)))))))
  (aR (lU PassesOwn.never (pq (gC (bn Dt am (by omega) rfl (af (ae 0) aw)))) (aR (cv (bR uN (a8 a9 (ae 0) av (λ _ _=>rfl)) (bP (af bf (af bf (af bf (af bf aw))))) (by with_unfolding_all rfl)) (bd (bz g6)) cI)
  (aR (bG (k:=2) pM.aY rfl (Or.inl rfl) (jE mX rfl B.int la (af (lS (fg (cR (cC am)) (a8 a9 (ae 0) av (λ _ _=>rfl)) bf (bA _)) (lR (fg (cR (cC am)) (a8 a9 (a8 a9 (ae 0) av (λ _ _=>rfl)) av (λ _ _=>rfl)) bf (bA _)))) aw)))
  (aR (bG (k:=1) pM.aY rfl (Or.inl rfl) (bH dN (ae 1) (bP (af (ae 2) aw))))
  (bd (bG (k:=0) pM.aY rfl (Or.inl rfl) (a8 a9 (ae 0) (bH dN av (ae 2)) (λ _ _=>rfl))))))))
  (bd (bz (ae 1)))))),?_⟩
 refine ⟨λ m ρ ap=>∃(u:Tm)(ns:List Int)(o:Option D),ρ=[some u.enc,some (er ns),o]/\ap=G/\t.nx=u.nx.map (ns++·)/\ns.length+u.aJ<=100/\m=u.aJ,⟨_,t,[],_,rfl,rfl,by simp,by simpa using hd,rfl⟩,?_⟩;rintro m ρ ap ⟨u,ns,o,rfl,rfl,a0,bt,rfl⟩
 cases u with
 | pair a b=>
  simp only [Tm.aJ] at bt;rw [Tm.Tj] at a0;refine ⟨λ _=>⟨a,rfl,by omega,?_⟩,λ c=>absurd c (by decide)⟩
  cases de:a.iH with
  | true=>
   rw [de,if_pos rfl] at a0;refine ⟨small (by simp only [bS,dH,gZ];omega),?_⟩;refine eY.of ⟨b.aJ,by simp only [Tm.aJ];omega,b,ns++[1],some (.int 1),by simp [er],rfl,?_,by simp;omega,rfl⟩;rw [a0];cases b.nx<;>simp
  | false=>
   rw [de,if_neg (by simp)] at a0;refine ⟨small (by simp only [bS,dH,gZ];omega),?_⟩;refine eY.of ⟨a.aJ,by simp only [Tm.aJ];omega,a,ns++[0],some (.int 0),by simp [er],rfl,?_,by simp;omega,rfl⟩;rw [a0];cases a.nx<;>simp
 | _=>
  refine ⟨λ c=>absurd c (by decide),λ _=>?_⟩;refine ⟨λ m ρ bc=>∃(v:Tm)(ms:List Int)(cT:Option D),ρ=[some v.enc,some (er ms),cT]/\bc=ap/\t.nx=v.use.map (ms++·)/\ms.length+v.aJ<=100/\m=v.aJ,⟨_,_,ns,_,rfl,rfl,by rw [a0,Tm.Tn (by intro a b h;cases h)],bt,rfl⟩,?_⟩;rintro m ρ bc ⟨v,ms,cT,rfl,rfl,bC,hm,rfl⟩;refine ⟨v,rfl,λ c=>?_,λ c=>?_⟩
  ·have b_:v.d1=false:=by simpa using c
   cases v with
   | name k=>exact ⟨rfl,rfl,λ _=>bh.of (by rw [bC] at q;exact q),λ c=>absurd c (by decide)⟩
   | whole k=>exact ⟨rfl,rfl,λ _=>bh.of (by rw [bC] at q;exact q),λ c=>absurd c (by decide)⟩
   | way k=>exact ⟨rfl,rfl,λ _=>bh.of (by rw [bC] at q;exact q),λ c=>absurd c (by decide)⟩
   | pair k l=>exact ⟨rfl,rfl,λ _=>bh.of (by rw [bC] at q;exact q),λ c=>absurd c (by decide)⟩
   | plus a b=>
    simp only [Tm.aJ] at hm;obtain ⟨ll,ak,aq⟩:=Tm.x8 (k:=if a.word=="whole" then 1 else 0) b_ (by simp only [Tm.i9];split<;>rfl);refine ⟨rfl,rfl,λ c=>absurd c (by decide),λ _=>⟨λ _=>?_,λ c=>absurd c (by decide)⟩⟩;simp only [Tm.enc];rw [a.gT]
    cases lq:(a.word==Str.ofString "whole") with
    | true=>
     rw [lq,if_pos rfl] at ak aq;have aT:=ak;cases ak;refine ⟨small (by simp only [bS,dH,gZ];omega),?_⟩
     have kW:(if id (a.word==Str.ofString "whole")=true then (1:Int) else 0)=1:=by simp [lq]
     refine mW (d:=b.enc) (by rw [kW];rfl) ?_;refine eY.of ⟨_,?_,b,ms++[1],some (.int 1),by simp [er,lq,Tm.enc],rfl,?_,?_,rfl⟩
     ·simp only [Tm.aJ];omega
     ·rw [bC,aq];cases Tm.use _<;>simp
     ·simp;omega
    | false=>
     rw [lq,if_neg (by simp)] at ak aq;cases ak;refine ⟨small (by simp only [bS,dH,gZ];omega),?_⟩
     have kW:(if id (a.word==Str.ofString "whole")=true then (1:Int) else 0)=0:=by simp [lq]
     refine mW (d:=a.enc) (by rw [kW,a.gT];rfl) ?_;refine eY.of ⟨_,?_,a,ms++[0],some (.int 0),by simp [er,lq,Tm.enc],rfl,?_,?_,rfl⟩
     ·simp only [Tm.aJ];omega
     ·rw [bC,aq];cases Tm.use _<;>simp
     ·simp;omega
   | _=>
    obtain ⟨ll,ak,aq⟩:=Tm.x8 (k:=0) b_ rfl;have hw:=Tm.gF (ih ak);refine ⟨rfl,rfl,λ c=>absurd c (by decide),λ _=>⟨λ c=>absurd c (by decide),λ _=>⟨small (by simp only [bS,dH,gZ];omega),?_⟩⟩⟩;refine eY.of ⟨ll.aJ,by omega,ll,ms++[0],some (.int 0),?_,rfl,?_,?_,rfl⟩
    ·cases ak;simp [er]
    ·rw [bC,aq];cases ll.use<;>simp
    ·simp;omega
  ·have b_:v.d1=true:=by simpa using c
   rw [Tm.A5 b_] at bC;rw [bC] at q;exact bh.of (by simpa [vb,er] using q)
abbrev Du:bB:=top 62
theorem Yo:c9 ["_law_part"] ["_law_part"] (b1 Du):=⟨rfl,rfl,rfl,by decide +kernel,rfl,by decide +kernel,by decide +kernel⟩
theorem Yp:cp P w K mg base cc 1 f fd ["_law_part"] (aK K (vO 0)):=kV λ ds G au h=>by
 obtain ⟨_,_,h,_⟩:=h;omega
theorem Yq{n:Nat}(B:e_ mg)(v9:Got P w K mg base (n+1) "_law_deep" ["_law_part"] (aK K (vO n)))(F:c3 K "_law_deep" "_law_deep" Du f fd):cp P w K mg base cc (n+2) f fd ["_law_part"] (aK K (vO (n+1))):=by
 refine dn (k:=n+1) F Yo (λ ds G au h=>?_) (λ bE A outer s H E am ds G au h=>?_)
 ·obtain ⟨_,rfl,_⟩:=h;rfl
 obtain ⟨t,rfl,hd,q⟩:=h;refine ⟨_,(bd (bz (Ws rfl rfl B.max (af (u1 rfl (ey.of (N':=["_law_one"]) (nt:=1) (cap:=[]) rfl (by kernel_rfl)) (h9 (k:=0) (by decide)) (iC (kP kR (ae 0) (kO av) kN)) (λ _ _ _ _=>(gD (k:=0) (show List.Nodup (["_law_one"]:List Str) by decide +kernel) rfl (Or.inl rfl))) (λ _ _ _ _=>(gC (fB oe rfl B.isinstance nC (af (ae 0) (af (n1 rfl B.tuple mt) aw))))) (λ _ _ _ _=>(bH dN av (bn v9 am (by omega) rfl (af (ae 0) aw))))) aw)))),?_⟩;rw [t.gT];rw [<- t.Wt] at q
 have fin:∀ p,G p=none->B2 0 (.ref p) (up G p (.lst (t.aV.filterMap λ u=>some (.int (1+(u.aJ:Int)))))) (bh au):=λ p az=>by
  refine cY bF ⟨t.aV.map λ u=>1+(u.aJ:Int),?_,G,Sub.new (Sub.refl _) az,q⟩;rw [show (t.aV.filterMap λ u=>some (D.int (1+(u.aJ:Int))))=(t.aV.map λ u=>1+(u.aJ:Int)).map D.int by simp [List.filterMap_eq_map']];exact sk _
 rcases t.Jv with ⟨k,e,kW⟩ | e
 ·rw [e];refine iD [()] (λ _=>.int k) (λ _=>none) rfl (dx (by simp)) trivial (λ _ _ R S cF cX=>⟨false,rfl,nofun,λ _=>cX rfl⟩) (λ p az=>?_);have:=fin p az;rw [kW] at this;exact this
 ·rw [e];refine iD t.aV Tm.enc (λ u=>some (.int (1+(u.aJ:Int)))) (Ju ..) (dx (by have:=t.el;omega)) trivial (λ u a0 R S cF cX=>oj ⟨λ _=>⟨u,rfl,by have:=Tm.gF a0;omega,cF _ rfl⟩,nofun⟩) λ p az=>fin p az
abbrev Dv:bB:=top 63
theorem KP:c9 ["_law_part", "_law_ways", "_law_under"] ["_law_part", "_law_ways"] (b1 Dv):=⟨rfl,rfl,rfl,by decide +kernel,rfl,by decide +kernel,by decide +kernel⟩
theorem Yr:cp P w K mg base cc 1 f fd ["_law_part", "_law_ways"] (aK K (vN 0)):=kV λ ds G au h=>by
 obtain ⟨_,_,_,h,_⟩:=h;omega
theorem Ys{n:Nat}(B:e_ mg)(v_:Got P w K mg base (n+1) "_law_times" ["_law_part", "_law_ways"] (aK K (vN n)))(F:c3 K "_law_times" "_law_times" Dv f fd):cp P w K mg base cc (n+2) f fd ["_law_part", "_law_ways"] (aK K (vN (n+1))):=by
 refine dn (k:=n+1) F KP (λ ds G au h=>?_) (λ bE A outer s H E am ds G au h=>?_)
 ·obtain ⟨_,_,rfl,_⟩:=h;rfl
 obtain ⟨t,l,rfl,hd,q⟩:=h
 refine ⟨_,(aR (cv (bR (cR (cC am)) (a8 a9 (ae 0) av (λ _ _=>rfl)) bf (bA _)) (bd (bz (jE mX rfl B.int la (af (fg (cR (cC am)) (a8 a9 (ae 0) av (λ _ _=>rfl)) (ae 1) (bA _)) aw)))) cI)
  (aR (bG (k:=2) KP.aY rfl (Or.inr rfl) (bH dN (ae 1) (jE mX rfl B.int la (af (fg (cR (cC am)) (a8 a9 (ae 0) av (λ _ _=>rfl)) bf (bA _)) aw))))
  (bd (bz (pw (fB (Hl rfl) rfl B.sum PyProof.Rows.boot_sum (af (u1 rfl (ey.of (N':=["_law_one", "_law_under"]) (nt:=1) (cap:=[2]) rfl (by kernel_rfl)) (h9 (k:=0) (by decide)) (iC (kP kR (ae 0) (kO av) kN)) (λ _ _ _ _=>(gD (k:=0) (show List.Nodup (["_law_one", "_law_under"]:List Str) by decide +kernel) rfl (Or.inl rfl))) (λ _ _ _ _=>(gC (fB oe rfl B.isinstance nC (af (ae 0) (af (n1 rfl B.tuple mt) aw))))) (λ _ _ _ _=>(bn v_ am (by omega) rfl (af (ae 0) (af (ae 1) aw))))) aw))))))),?_⟩
 by_cases bt:∃ k,t=.name k
 ·obtain ⟨k,rfl⟩:=bt;refine cA.yes rfl (bh.of ?_)
  have e:((Tm.name k).b6 l:Int)=if ((k:Int)==(l:Int))=true then 1 else 0:=by
   simp only [Tm.b6,beq_iff_eq];by_cases c:k=l
   ·rw [if_pos c,if_pos (by omega)];rfl
   ·rw [if_neg c,if_neg (by omega)];rfl
  rw [e] at q;exact q
 ·have wT:∀ k,t≠.name k:=λ k e=>bt ⟨k,e⟩
  have hw:(t.word=="name")=false:=by
   cases t with
   | name k=>exact absurd rfl (wT k)
   | _=>rfl
  rw [<- Tm.Wu wT l] at q
  have fin:∀ p,G p=none->AE (.ref p) (up G p (.lst (t.aV.filterMap λ u=>some (.int (u.b6 (t.b9 l):Int))))) (λ d ap=>∃ bc,Sub bc ap/\bh au d bc):=λ p az=>by
   refine cY bF ⟨t.aV.map λ u=>(u.b6 (t.b9 l):Int),?_,G,Sub.new (Sub.refl _) az,bh.of q⟩;rw [show (t.aV.filterMap λ u=>some (D.int (u.b6 (t.b9 l):Int)))=(t.aV.map λ u=>(u.b6 (t.b9 l):Int)).map D.int by simp [List.filterMap_eq_map']];exact sk _
  rw [t.gT];refine cA.no hw ?_;rcases t.Jv with ⟨k,e,kW⟩ | e
  ·rw [e];refine iD [()] (λ _=>.int k) (λ _=>none) rfl (dx (by simp)) trivial (λ _ _ R S cF cX=>⟨false,rfl,nofun,λ _=>cX rfl⟩) (λ p az=>?_);have:=fin p az;rw [kW] at this;exact this
  ·rw [e];refine iD t.aV Tm.enc (λ u=>some (.int (u.b6 (t.b9 l):Int))) (Ju ..) (dx (by have:=t.el;omega)) trivial (λ u a0 R S cF cX=>oj ⟨λ _=>⟨u,t.b9 l,by rw [t.Wv];rfl,by have:=Tm.gF a0;omega,cF _ rfl⟩,nofun⟩) λ p az=>fin p az
abbrev Dw:bB:=top 64
theorem Dx:c9 ["_law_program_here", "_law_place", "_law_part", "_law_given"] ["_law_program_here", "_law_place"] (b1 Dw):=⟨rfl,rfl,rfl,by decide +kernel,rfl,by decide +kernel,by decide +kernel⟩
theorem Yt(B:e_ mg)(s6:Got P w K mg base 1 "_law_at" ["_law_program_here", "_law_place"] (aK K px))(jO:Got P w K mg base 102 "_law_parts" ["_law_program_here"] (aK K (oi 101)))(v_:Got P w K mg base 102 "_law_times" ["_law_part", "_law_ways"] (aK K (vN 101)))(F:c3 K "_law_coming" "_law_coming" Dw f fd):cp P w K mg base cc 103 f fd ["_law_program_here", "_law_place"] (aK K BY):=by
 refine dn (k:=102) F Dx (λ ds G au h=>?_) (λ bE A outer s H E am ds G au h=>?_)
 ·obtain ⟨_,_,_,rfl,_⟩:=h;rfl
 obtain ⟨t,x,ns,rfl,l3,aF,hd,hz,q⟩:=h;obtain ⟨KQ,Yu⟩:=Ji ns l3
 refine ⟨_,(aR (bG (k:=2) Dx.aY rfl (Or.inl rfl) (bn s6 am (by omega) rfl (af (ae 0) (af (ae 1) aw))))
  (aR (cv (bR (qS (cC am)) (a8 a9 (ae 2) av (λ _ _=>rfl)) bf (bA _)) (bd (bz (bn jO am (by omega) rfl (af (ae 0) aw)))) cI)
  (aR (bG (k:=3) Dx.aY rfl (Or.inl rfl) (bn jO am (by omega) rfl (af (a8 a9 (ae 2) av (λ _ _=>rfl)) aw)))
  (bd (bz (bH dN (bH dV (bH dV (bn jO am (by omega) rfl (af (ae 0) aw)) av) (ae 3)) (bH mV (bn v_ am (by omega) rfl (af (a8 a9 (a8 a9 (ae 2) av (λ _ _=>rfl)) av (λ _ _=>rfl)) (af av aw))) (bH dV (ae 3) av)))))))),?_⟩
 refine ⟨t,ns,x,rfl,l3,?_⟩
 cases x with
 | give b a=>
  cases b with
  | way b=>
   simp only [Tm.aJ,Tm.aB] at KQ Yu;exact cA.no rfl ⟨a,rfl,by omega,by omega,t,rfl,by omega,by omega,b,0,rfl,by omega,by simp only [tY];omega,bh.of q⟩
  | _=>cases aF
 | name k=>cases aF
 | whole k=>cases aF
 | way k=>cases aF
 | pair k j=>cases aF
 | _=>exact cA.yes rfl ⟨t,rfl,by omega,by omega,bh.of q⟩
abbrev Dy:bB:=top 65
theorem rj:c9 ["_law_program_here", "_law_most", "_law_rules", "_law_place", "_law_coming_here"] ["_law_program_here", "_law_most"] (b1 Dy):=⟨rfl,rfl,rfl,by decide +kernel,rfl,by decide +kernel,by decide +kernel⟩
theorem Yv(B:e_ mg)(s6:Got P w K mg base 1 "_law_at" ["_law_program_here", "_law_place"] (aK K px))(yT:Got P w K mg base 103 "_law_next" ["_law_program_here"] (aK K BX))(Dz:Got P w K mg base 103 "_law_coming" ["_law_program_here", "_law_place"] (aK K BY))(vT:Got P w K mg base 102 "_law_changed" ["_law_program_here", "_law_place", "_law_other"] (aK K (vF 101)))(DA:Got P w K mg base 204 "_law_rule" ["_law_part"] (aK K BW))(v9:Got P w K mg base 202 "_law_deep" ["_law_part"] (aK K (vO 201)))(oy:Got P w K mg base 102 "_law_is_answer" ["_law_part"] (aK K (sy 101)))(F:c3 K "_law_run" "_law_run" Dy f fd):cp P w K mg base cc 205 f fd ["_law_program_here", "_law_most"] (aK K yz):=by
 refine dn (k:=204) F rj (λ ds G au h=>?_) (λ bE A outer s H E am ds G au h=>?_)
 ·obtain ⟨_,_,rfl,_⟩:=h;rfl
 obtain ⟨t,k,rfl,ax,aO,q⟩:=h
 refine ⟨_,(aR (bG (k:=2) rj.aY rfl (Or.inl rfl) av)
  (aR (bG (k:=3) rj.aY rfl (Or.inl rfl) (bn yT am (by omega) rfl (af (ae 0) aw)))
  (aR (lU PassesOwn.never (fN.at (sd (bR uL (ae 3) g6 (bA _)) (sb (bR iB (ae 2) (ae 1) (bA _))))) (aR (cv (bR h8 (bn Dz am (by omega) rfl (af (ae 0) (af (ae 3) aw))) av (bA _)) (bd (bz g6)) cI)
  (aR (bG (k:=4) rj.aY rfl (Or.inl rfl) (bn vT am (by omega) rfl (af (ae 0) (af (ae 3) (af (bn DA am (by omega) rfl (af (bn s6 am (by omega) rfl (af (ae 0) (af (ae 3) aw))) aw)) aw)))))
  (aR (cv (bR h8 (bn v9 am (by omega) rfl (af (ae 4) aw)) av (bA _)) (bd (bz (bP (af bf (af (ae 0) (af (ae 2) aw)))))) cI)
  (aR (bG (k:=0) rj.aY rfl (Or.inl rfl) (ae 4))
  (aR (bG (k:=2) rj.aY rfl (Or.inl rfl) (bH dN (ae 2) av))
  (bd (bG (k:=3) rj.aY rfl (Or.inl rfl) (bn yT am (by omega) rfl (af (ae 0) aw))))))))))
  (aR (cv (bR uL (ae 3) g6 (bA _)) (bd (bz (bP (af bf (af (ae 0) (af (ae 2) aw)))))) cI)
  (bd (bz (bP (af (od (af bf (af bf aw)) (jE mX rfl B.int la (af (bn oy am (by omega) rfl (af (ae 0) aw)) aw)) (λ _ _=>rfl)) (af (ae 0) (af (ae 2) aw)))))))))),?_⟩
 refine ⟨t,rfl,ax.aJ,?_⟩;refine ⟨λ m ρ ap=>∃(u:Tm)(r:Nat)(o:Option D),ρ=[some u.enc,some (.int k),some (.int r),some (vb u.nx),o]/\ap=G/\ov u/\r<=k/\fR k t=(fR (k - r) u).map (λ z=>(z.1,z.2.1,z.2.2+r))/\m=k - r,⟨_,t,0,_,rfl,rfl,ax,e0 _,by rw [wH];cases fR k t<;>rfl,rfl⟩,?_⟩;rintro m ρ ap ⟨u,r,o,rfl,rfl,a0,adE,e,rfl⟩;rw [Jq]
 cases hz:u.gV with
 | none=>
  have aL:fR (k - r) u=some (fin u,u,0):=by
   cases adF:k - r<;>rw [fR,hz]
  rw [aL] at e;refine cA.no rfl (cA.no rfl (cA.no rfl ⟨u,rfl,by have:=a0.aJ;omega,?_⟩));rw [e] at q
  have bI:au (.tup [.str (fin u),u.enc,.int r]) ap:=by simpa [yy] using q
  unfold fin at bI
  cases aD:u.iH with
  | true=>rw [aD] at bI;exact lW (bh.of bI)
  | false=>rw [aD] at bI;exact lW (bh.of bI)
 | some z=>
  obtain ⟨x,p,DB,l3,BU,BV,KQ,o8,gy⟩:=Jm a0 hz;have adG:(z.1++z.2).length<=u.aJ:=(Tm.H3 (t:=u) (by rw [Jq,hz];rfl)).2;have adH:=Ww l3 DB;have adI:=a0.aJ
  have ag:u.behind (z.1++z.2)=Tm.ep x.comes (z.1++z.2) u:=by unfold Tm.behind;rw [l3]
  by_cases fy:r < k
  ·refine cA.yes rfl (cA.yes (by simp;omega) ⟨u,x,z.1++z.2,rfl,l3,DB,by omega,a0.aB,?_⟩);have aL:=e;rw [show k - r=(k - (r+1))+1 by omega,fR,hz] at aL;simp only at aL;rw [BU] at aL;by_cases aE:300 < nd u x
   ·rw [if_pos aE] at aL;rw [aL] at q;exact cA.yes (by simpa using aE) (bh.of q)
   ·rw [if_neg aE] at aL;refine cA.no (by simpa using aE) ⟨u,z.1++z.2,x,rfl,l3,x,rfl,DB,by omega,u,z.1++z.2,x,x.comes,rfl,l3,by omega,by omega,?_⟩;rw [<- ag];refine ⟨u.behind (z.1++z.2),rfl,by omega,?_⟩;by_cases aZ:100 < (u.behind (z.1++z.2)).aJ
    ·rw [if_pos aZ] at aL;rw [aL] at q;refine cA.yes (by simp;omega) (bh.of ?_);simpa [yy] using q
    ·rw [if_neg aZ] at aL
     have vl:ov (u.behind (z.1++z.2)):=⟨gy,o8 aE,by omega⟩
     refine cA.no (by simp;omega) ⟨u.behind (z.1++z.2),rfl,vl.aJ,?_⟩;refine eY.of ⟨k - (r+1),by omega,_,r+1,_,rfl,rfl,vl,fy,?_,rfl⟩;rw [aL]
     cases fR (k - (r+1)) (u.behind (z.1++z.2)) with
     | none=>rfl
     | some y=>simp only [nB];rw [show y.2.2+1+r=y.2.2+(r+1) by omega]
  ·have Yw:r=k:=by omega
   have aL:fR (k - r) u=some (("more" : Str),u,0):=by rw [Yw,Nat.sub_self,fR,hz]
   rw [aL] at e;rw [e] at q;refine cA.yes rfl (cA.no (by simp;omega) (cA.yes rfl (bh.of ?_)));simpa [yy] using q
abbrev DC:bB:=top 66
theorem KR:c9 ["_law_program_here", "_law_most", "_law_due"] ["_law_program_here", "_law_most"] (b1 DC):=⟨rfl,rfl,rfl,by decide +kernel,rfl,by decide +kernel,by decide +kernel⟩
theorem Yx{T:Addr}{pos:Pos}{eo:Addr}{dj:Pos}(B:e_ mg)(rk:Got P w K mg base 205 "_law_run" ["_law_program_here", "_law_most"] (aK K yz))(pN:Got P w K mg base 10 "run" ["program", "most"] (aK K (yv T pos eo dj)))(nf:Got P w K mg base 116 "_law_alike" ["_law_found", "_law_due"] (aK K (sx 115)))(F:c3 K "_law_right" "_law_right" DC f fd):cp P w K mg base cc 206 f fd ["_law_program_here", "_law_most"] (aK K (BZ T pos eo dj)):=by
 refine dn (k:=205) F KR (λ ds G au h=>?_) (λ bE A outer s H E am ds G au h=>?_)
 ·obtain ⟨_,_,rfl,_⟩:=h;rfl
 obtain ⟨t,k,rfl,ax,aO,bQ,q⟩:=h
 refine ⟨_,(aR (bG (k:=2) KR.aY rfl (Or.inl rfl) (bn rk am (by omega) rfl (af (ae 0) (af (ae 1) aw))))
  (bd (bz (RK (fg si (ae 2) g6 (bA _)) (lR (bn nf am (by omega) rfl (af (bn pN am (by omega) rfl (af (ae 0) (af (ae 1) aw))) (af (ae 2) aw)))))))),?_⟩
 refine ⟨t,k,rfl,ax,aO,?_⟩
 cases e:fR k t with
 | none=>exact cA.yes rfl (bh.of q)
 | some r=>
  obtain ⟨⟨aP,aL,d_⟩,aZ,k0,_⟩:=vH k t r ax e;refine cA.no rfl ⟨t,k,rfl,aZ,by omega,bQ,?_⟩;rw [aP,aL,d_];exact ⟨_,rfl,yA ..,yB k0.aJ,bh.of q⟩
abbrev DD:bB:=top 67
theorem wa:c9 ["_law_feed_here", "_law_program_here", "_law_form", "_law_some", "_law_other"] ["_law_feed_here", "_law_program_here"] (b1 DD):=⟨rfl,rfl,rfl,by decide +kernel,rfl,by decide +kernel,by decide +kernel⟩
theorem Yy(B:e_ mg)(d0:Got P w K mg base 1 "_law_take" ["_law_feed_here", "_law_many"] (aK K iG))(f7:Got P w K mg base 2 "_law_whole" ["_law_feed_here"] (aK K i7))(jO:Got P w K mg base 102 "_law_parts" ["_law_program_here"] (aK K (oi 101)))(F:c3 K "_law_closed" "_law_closed" DD f fd):cp P w K mg base cc 103 f fd ["_law_feed_here", "_law_program_here"] (aK K B0):=by
 refine dn (k:=102) F wa (λ ds G au h=>?_) (λ bE A outer s H E am ds G au h=>?_)
 ·obtain ⟨_,_,rfl,_⟩:=h;rfl
 obtain ⟨a,t,rfl,es,aE,hz,hd,q⟩:=h
 refine ⟨_,(aR (bG (k:=2) wa.aY rfl (Or.inl rfl) (bn d0 am (by omega) rfl (af (ae 0) (af av aw))))
  (aR (cv (fN.at (kM (bR h8 (ae 2) av (bA _)) (lT (bR h8 (bn jO am (by omega) rfl (af (ae 1) aw)) av (bA _))))) (bd (bz (ae 1))) cI)
  (aR (bG (k:=3) wa.aY rfl (Or.inl rfl) (hI (af (bP (af bf (af (bP (af bf (af av aw))) aw))) (af (bP (af bf (af (bn f7 am (by omega) rfl (af (ae 0) aw)) (af (bP (af bf (af av aw))) aw)))) (af (bP (af bf (af (bP (af bf (af av aw))) aw))) aw)))))
  (aR (bG (k:=3) wa.aY rfl (Or.inl rfl) (pw (bH dN (ae 3) (hI (af (bP (af bf (af (bP (af bf (af av aw))) (af (bn f7 am (by omega) rfl (af (ae 0) aw)) aw)))) (af (bP (af bf (af (a8 a9 (ae 3) av (λ _ _=>rfl)) (af (bP (af bf (af av aw))) (af (bP (af bf (af av aw))) aw))))) aw))))))
  (aR (bG (k:=4) wa.aY rfl (Or.inl rfl) (a8 a9 (ae 3) (bn d0 am (by omega) rfl (af (ae 0) (af av aw))) (λ _ _=>rfl)))
  (aR (cv (bR (cR (cC am)) (ae 2) av (bA _)) (bd (bz (n3 (bR iB (bn jO am (by omega) rfl (af (ae 1) aw)) av (bA _)) (bP (af bf (af (bP (af bf (af (ae 1) aw))) (af (bP (af bf (af (ae 4) (af (ae 1) aw)))) aw)))) (ae 1)))) cI)
  (bd (bz (bP (af (od (af bf (af bf (af bf aw))) (ae 2) (λ _ _=>rfl)) (af (ae 4) (af (ae 1) aw)))))))))))),?_⟩
 refine ⟨es,by decide,by decide,λ pO aA bY f0 f1=>?_⟩;have jk:∀ ap,dS a G ap->bh au t.enc ap:=λ ap u=>bh.of (q t ap u (by omega) (by omega) aE);by_cases hf:3 < pO
 ·exact cA.yes (by simpa using hf) (cA.yes rfl (jk aA bY))
 ·refine cA.no (by simpa using hf) ⟨t,rfl,by omega,by omega,?_⟩;by_cases az:54 < t.aB
  ·exact cA.yes (by simp;omega) (jk aA bY)
  ·refine cA.no (by simp;omega) ⟨bY.fd,λ i bc cg _ _ gw DE=>?_⟩;have ne1:=cg.fd.ne DE;refine ⟨cg.fd.new DE,λ j eZ fq _ _=>uM (fq.b0 ne1 bF) rfl λ cE uh=>?_⟩
   have ne2:gw≠cE:=by rintro rfl;rw [fq.b0 ne1 bF] at uh;cases uh
   refine ez (by rw [c7 ne2];exact fq.b0 ne1 bF) (ez bF ⟨small (by simp only [dH,gZ];omega),λ jM Yz=>?_⟩);obtain ⟨KS,s4,yU⟩:=dS.drop DE fq cg.fd;have DF:KS jM=none:=s4.none (og (o:=.lst []) Yz).2.1;refine ⟨up KS jM _,Sub.put (Sub.new s4 (s4.none uh)),yU.fd.new DF,by decide,by decide,λ d m3 yS jN hg=>?_⟩;obtain ⟨DG,nR,u8⟩:=dS.drop DF yS yU.fd;have YA:dS a G DG:=((bY.trans cg).trans yU).trans u8
   have fin:∀ p:Tm,p.aB<=62->p.aJ<=80->p.cl 0->bh au p.enc m3:=λ p ak aq aT=>⟨DG,nR,q p DG YA ak aq aT⟩
   have key:∀ o:Tm,o.aB<=5->o.aJ<=2->o.cl 0->(pO=3->¬ t.aB < 26->bh au t.enc m3)/\(pO=3->t.aB < 26->bh au (Tm.pair (.way t) (.plus o t)).enc m3)/\bh au (Tm.pair o t).enc m3/\bh au (Tm.plus o t).enc m3:=λ o ak aq aT=>
    ⟨λ _ _=>fin t (by omega) (by omega) aE,λ _ _=>fin _ (by simp only [Tm.aB];omega) (by simp only [Tm.aJ];omega) ⟨show t.cl 1 from Tm.Jj (e0 1) aE,aT,aE⟩,fin _ (by simp only [Tm.aB];omega) (by simp only [Tm.aJ];omega) ⟨aT,aE⟩,fin _ (by simp only [Tm.aB];omega) (by simp only [Tm.aJ];omega) ⟨aT,aE⟩⟩
   have aQ:=yS.b0 (yU.fd.ne DF) bF;obtain ⟨o,a4,m8,sW,yG⟩:=Wy (i:=i) (j:=j) jN hg;obtain ⟨d4,df,fm,mP⟩:=key o m8 sW yG;refine uM aQ a4 ?_;refine ⟨λ c=>?_,λ c=>?_⟩
   ·have aT:pO=3:=by simpa using c
    refine ⟨t,rfl,by omega,by omega,?_⟩;by_cases KU:t.aB < 26
    ·exact cA.yes (by simp;omega) (df aT KU)
    ·exact cA.no (by simp;omega) (d4 aT KU)
   ·have aT:¬ pO=3:=by simpa using c
    rcases (by omega:pO=0\/pO=1\/pO=2) with rfl | rfl | rfl
    ·exact lW fm
    ·exact lW fm
    ·exact lW mP
abbrev s7:bB:=top 68
theorem rl:c9 ["_law_script", "_law_feed_here", "_law_program_here", "_law_most", "_law_due", "_law_later", "_law_onward"] ["_law_script"] (b1 s7):=⟨rfl,rfl,rfl,by decide +kernel,rfl,by decide +kernel,by decide +kernel⟩
theorem YB{T eo:Addr}{dy s8:Pos}(B:e_ mg)(yV:Got P w K mg base 1 "_law_feed" ["_law_script", "_law_k"] (aK K u5))(d0:Got P w K mg base 1 "_law_take" ["_law_feed_here", "_law_many"] (aK K iG))(DH:Got P w K mg base 92 "_law_program" ["_law_feed_here"] (aK K vL))(DI:Got P w K mg base 103 "_law_closed" ["_law_feed_here", "_law_program_here"] (aK K B0))(rk:Got P w K mg base 205 "_law_run" ["_law_program_here", "_law_most"] (aK K yz))(pN:Got P w K mg base 10 "run" ["program", "most"] (aK K (yv T dy eo s8)))(yW:Got P w K mg base 206 "_law_right" ["_law_program_here", "_law_most"] (aK K (BZ T dy eo s8)))(nf:Got P w K mg base 116 "_law_alike" ["_law_found", "_law_due"] (aK K (sx 115)))(F:c3 K "law" "law" s7 f fd):cp P w K mg base cc 207 f fd ["_law_script"] (aK K (vi [(T,dy,"lifted.<locals>.moved"),(eo,s8,"put_in.<locals>.taken")])):=by
 refine dn (k:=206) F rl (λ ds G au h=>?_) (λ bE A outer s H E am ds G au h=>?_)
 ·obtain ⟨_,rfl,_⟩:=h;rfl
 obtain ⟨ns,rfl,aQ,rU,q⟩:=h;have bQ:G T=some (.tab dy "lifted.<locals>.moved"):=rU _ (fh ..);have sY:G eo=some (.tab s8 "put_in.<locals>.taken"):=rU _ (ig _ (fh ..));have yes:∀ ap,bh au (.aU true) ap:=λ ap=>bh.of (q ap)
 refine ⟨_,(aR (bG (k:=1) rl.aY rfl (Or.inl rfl) (bn yV am (by omega) rfl (af (ae 0) (af av aw))))
  (aR (bG (k:=2) rl.aY rfl (Or.inl rfl) (bn DI am (by omega) rfl (af (ae 1) (af (bn DH am (by omega) rfl (af (bn yV am (by omega) rfl (af (ae 0) (af av aw))) aw)) aw))))
  (aR (bG (k:=3) rl.aY rfl (Or.inl rfl) (od (af (bn d0 am (by omega) rfl (af (ae 1) (af av aw))) (af av aw)) (bn d0 am (by omega) rfl (af (ae 1) (af av aw))) (λ _ _=>rfl)))
  (aR (bG (k:=4) rl.aY rfl (Or.inl rfl) (bn rk am (by omega) rfl (af (ae 2) (af (ae 3) aw))))
  (aR (cv (bR si (ae 4) g6 (bA _)) (bd (bz kJ)) cI)
  (aR (cv (fN.at (kM (pq (gC (bn nf am (by omega) rfl (af (bn pN am (by omega) rfl (af (ae 2) (af (ae 3) aw))) (af (ae 4) aw))))) (lT (pq (gC (bn yW am (by omega) rfl (af (ae 2) (af (a8 a9 (ae 4) av (λ _ _=>rfl)) aw)))))))) (bd (bz kJ)) cI)
  (aR (cv (fN.at (sd (bR h8 (a8 a9 (ae 4) av (λ _ _=>rfl)) av (bA _)) (sb (pq (gC (bn yW am (by omega) rfl (af (ae 2) (af (bH dV (a8 a9 (ae 4) av (λ _ _=>rfl)) av) aw)))))))) (bd (bz kJ)) cI)
  (aR (cv (bR (qS (cC am)) (a8 a9 (ae 4) av (λ _ _=>rfl)) bf (bA _)) (bd (bz kJ)) cI)
  (aR (bG (k:=5) rl.aY rfl (Or.inl rfl) (bn d0 am (by omega) rfl (af (ae 1) (af av aw))))
  (aR (bG (k:=6) rl.aY rfl (Or.inl rfl) (bn rk am (by omega) rfl (af (a8 a9 (ae 4) av (λ _ _=>rfl)) (af (ae 5) aw))))
  (aR (cv (bR si (ae 6) g6 (bA _)) (bd (bz kJ)) cI)
  (aR (cv (pq (gC (bn nf am (by omega) rfl (af (bn pN am (by omega) rfl (af (a8 a9 (ae 4) av (λ _ _=>rfl)) (af (ae 5) aw))) (af (ae 6) aw))))) (bd (bz kJ)) cI)
  (bd (bz (bn nf am (by omega) rfl (af (bn pN am (by omega) rfl (af (ae 2) (af (bH dN (ae 3) (ae 5)) aw))) (af (bP (af (a8 a9 (ae 6) av (λ _ _=>rfl)) (af (a8 a9 (ae 6) av (λ _ _=>rfl)) (af (bH dN (ae 3) (a8 a9 (ae 6) av (λ _ _=>rfl))) aw)))) aw))))))))))))))))),?_⟩
 refine ⟨ns,rfl,aQ,by omega,by omega,λ a YC YD aD=>?_⟩
 have v7:T≠a:=by rintro rfl;rw [aD] at bQ;cases bQ
 have DJ:eo≠a:=by rintro rfl;rw [aD] at sY;cases sY
 refine ⟨ns,rfl,aQ,by omega,by omega,λ b adJ adK ag=>?_⟩
 have nX:a≠b:=by rintro rfl;rw [bF] at ag;cases ag
 have KV:T≠b:=by rintro rfl;rw [c7 v7,bQ] at ag;cases ag
 have KW:eo≠b:=by rintro rfl;rw [c7 DJ,sY] at ag;cases ag
 refine ⟨.up,λ kk aA bY cB i6 dF=>?_⟩
 have YE:gE aA a:=⟨YC,YD,bY.b0 nX (by rw [c7 nX];exact bF)⟩
 have YF:aA T=some (.tab dy "lifted.<locals>.moved"):=bY.b0 KV (by rw [c7 KV,c7 v7];exact bQ);have YG:aA eo=some (.tab s8 "put_in.<locals>.taken"):=bY.b0 KW (by rw [c7 KW,c7 DJ];exact sY)
 have bN:∀ ap,dS a aA ap->nb T dy eo s8 ap:=λ ap u=>⟨u.b0 v7 YF,u.b0 DJ YG⟩
 refine ⟨a,kk,rfl,YE,dF,cB,i6,λ p bc cg b8 ob dE=>?_⟩
 have ax:ov p:=⟨⟨dE,by have:=p.V1;omega⟩,by omega,by omega⟩
 refine ⟨cg.fd,by decide,by decide,λ d cQ du jN hg=>⟨du.fd,by decide,by decide,λ e eZ fq cf aP=>?_⟩⟩;have jP:dS a aA eZ:=(cg.trans du).trans fq
 obtain ⟨d',rfl⟩:∃ d':Nat,d=d':=⟨d.toNat,by omega⟩
 have pick:∀ R:c8,(∀ k:Nat,k<=40->R (.int k) eZ)->atS [.int d',.int 40] e eZ R:=λ R h=>by
  rcases (by omega:e=0\/e=1) with rfl | rfl
  ·exact lW (h d' (by omega))
  ·exact lW (h 40 (by omega))
 refine pick _ λ k aO=>?_;refine ⟨p,k,rfl,ax,by omega,?_⟩
 cases l4:fR k p with
 | none=>exact cA.yes rfl (yes _)
 | some r=>
  obtain ⟨⟨aP,aL,d_⟩,aZ,k0,yl⟩:=vH k p r ax l4;refine cA.no rfl ⟨p,k,rfl,aZ,by omega,bN _ jP,?_⟩;rw [aP,aL,d_];refine ⟨_,rfl,yA ..,yB k0.aJ,?_⟩;refine cA.no rfl ⟨p,r.2.2,rfl,ax,by omega,bN _ jP,cA.no rfl ?_⟩;by_cases h0:0 < r.2.2
  all_goals
   first
    | refine cA.yes (by simp;omega) ⟨p,r.2.2 - 1,by simp;omega,ax,by omega,bN _ jP,cA.no rfl ?_⟩
    | refine cA.no (by simp;omega) (cA.no rfl ?_)
   refine ⟨λ c=>yes _,λ c=>?_⟩
   have hm:r.1 = "more":=by simpa using c
   refine ⟨jP.fd,by decide,by decide,λ l kl yR IY cu=>?_⟩
   obtain ⟨dz,rfl⟩:∃ dz:Nat,l=dz:=⟨l.toNat,by omega⟩
   refine ⟨r.2.1,dz,rfl,k0,by omega,?_⟩
   cases em:fR dz r.2.1 with
   | none=>exact cA.yes rfl (yes _)
   | some y=>
    obtain ⟨⟨f1,f2,c6⟩,YH,yx,_⟩:=vH dz r.2.1 y k0 em;refine cA.no rfl ⟨r.2.1,dz,rfl,YH,by omega,bN _ (jP.trans yR),?_⟩;rw [f1,f2,c6];refine ⟨_,rfl,yA ..,yB yx.aJ,cA.no rfl ?_⟩;obtain ⟨_,more⟩:=Jo k p r l4 hm;have YI:=more dz y em;obtain ⟨⟨g1,g2,g3⟩,YJ,uY,_⟩:=vH (k+dz) p _ ax YI;refine ⟨p,k+dz,by simp,YJ,by omega,bN _ (jP.trans yR),?_⟩;rw [g1,g2,g3];exact ⟨.tup [.str y.1,y.2.1.enc,.int ((k:Int)+y.2.2)],by simp,yA ..,yB yx.aJ,yes _⟩
end
set_option maxHeartbeats 4000000
abbrev DK:List (Addr × Addr):=[(107,103),(112,110)]
abbrev DL:List (Addr × Pos × Str):=[(103,hN kp,"lifted.<locals>.moved"),(110,hN l7,"put_in.<locals>.taken")]
theorem aF6q{l:PySem.W.OpenLaw}{w:bW}{K:bl}{h:bL}{mg:Str->Option Value}{fa  : Addr}(X:K.In h)(G:h.Ns ef mg)(YK:mg "law" = some (.ref fa))
 (jN:DT K "walked" CI) (hg:DT K "is_over" CA) (KL:DT K "path_of" Co) (KM:DT K "is_answer" CN) (z8:DT K "pairs_and_leaves" CJ) (z9:DT K "inner_of_pair" CT) (YL:DT K "inner" B8) (YM:DT K "open_names" CU) (YN:DT K "names_in" Ch) (YO:DT K "ways_below" Cd) (YP:DTc K "lifted" yC 107) (YQ:DTc K "put_in" yK 112) (YR:DT K "copies_for" CV) (YS:DT K "with_names" Cf) (YT:DT K "at_place" Cp) (YU:DT K "replaced" Cy) (YV:DT K "with_inner" Cx) (YW:DT K "can_go" Cq) (YX:DT K "has_rule" B9) (YY:DT K "behind" C7) (YZ:DT K "comes_of" C4) (Y0:DT K "next_use" CP) (Y1:DT K "first_unanswered" Cu) (Y2:DT K "place_in_use" Cs) (Y3:DT K "inner_in_use" Cr) (Y4:DT K "run" Dd) (Y5:DT K "run_through" lEq) (Y6:DT K "is_great" CC) (Y7:DT K "_law_feed" B6) (Y8:DT K "_law_take" B4) (Y9:DT K "_law_whole" B7) (Y_:DT K "_law_type" B_) (Za:DT K "_law_least" Df) (Zb:DT K "_law_made" Dg) (Zc:DT K "_law_used" Dh) (Zd:DT K "_law_typed" Di) (Ze:DT K "_law_loop" Dm) (Zf:DT K "_law_wild" Dp) (Zg:DT K "_law_parts" Cb) (Zh:DT K "_law_program" Dn) (Zi:DT K "_law_can" Cc) (Zj:DT K "_law_shift" Cm) (Zk:DT K "_law_put" Dq) (Zl:DT K "_law_rule" Dr) (Zm:DT K "_law_changed" Cn) (Zn:DT K "_law_at" Ci) (Zo:DT K "_law_is_answer" Cw) (Zp:DT K "_law_next" Ds) (Zq:DT K "_law_alike" Ck) (Zr:DT K "_law_deep" Du) (Zs:DT K "_law_times" Dv) (Zt:DT K "_law_coming" Dw) (Zu:DT K "_law_run" Dy) (Zv:DT K "_law_right" DC) (Zw:DT K "_law_closed" DD) (Zx:DT K "law" s7) (r4:fT K ef "len" = some none) (cB:fT K ef "isinstance" = some none) (b8:fT K ef "range" = some none) (dg:fT K ef "int" = some none) (gx:fT K ef "bool" = some none) (yb:fT K ef "str" = some none) (Zy:fT K ef "tuple" = some none) (Zz:fT K ef "list" = some none) (ZA:fT K ef "zip" = some none) (ub:fT K ef "sorted" = some none) (ZC:fT K ef "set" = some none) (ZD:fT K ef "all" = some none) (ZE:fT K ef "reversed" = some none) (ZF:fT K ef "min" = some none) (ZG:fT K ef "max" = some none) (ZH:fT K ef "sum" = some none)
 {dy:Tok} (tp0:fT K ef "MOST_PARTS" = some (some (.int 3000 dy)))
 {e5:Tok} (td0:fT K ef "MOST_DEEP" = some (some (.int 100 e5)))
 : ∃ fd:f9,(∀(s:aC)(v:Value),rv s fd ⟨[v],[]⟩ [("_law_script", v)])/\∀ base:bL,K.In base->base.Ns ef mg->(∀ q∈DK,PySem.W.CodeHd base q.1 q.2)->lM mg base->cp l.prog w K mg base cc 207 fa fd ["_law_script"] ((λ K=>aK K (vi DL)) K):=by
 obtain ⟨f0,_,ZI,DN⟩:=jN.ok;have ZJ:=DN.binds (ps:=Jy) λ _ _ _ _ _ _=>gW λ _ _=>rfl;have ZK:=dc X G ZI;have ZL:=DN.b0;obtain ⟨f1,_,ZM,DO⟩:=hg.ok;have ZN:=DO.binds (ps:=Jz) λ _ _ _ _ _ _=>Jx λ _ _ _ _=>rfl;have ZO:=dc X G ZM;have ZP:=DO.b0;obtain ⟨f2,_,ZQ,DP⟩:=KL.ok;have ZR:=DP.binds (ps:=JA) λ _ _ _ _ _ _=>gn λ _=>rfl;have ZS:=dc X G ZQ;have ZT:=DP.b0;obtain ⟨c6,_,ZU,DQ⟩:=KM.ok;have ZV:=DQ.binds (ps:=JB) λ _ _ _ _ _ _=>gn λ _=>rfl;have ZW:=dc X G ZU;have ZX:=DQ.b0;obtain ⟨f4,_,ZY,DR⟩:=z8.ok;have ZZ:=DR.binds (ps:=JC) λ _ _ _ _ _ _=>gn λ _=>rfl;have Z0:=dc X G ZY;have Z1:=DR.b0;obtain ⟨fI,_,Z2,DS⟩:=z9.ok;have Z3:=DS.binds (ps:=JD) λ _ _ _ _ _ _=>gn λ _=>rfl;have CM:=dc X G Z2;have Z4:=DS.b0;obtain ⟨adL,_,Z5,DU⟩:=YL.ok;have Z6:=DU.binds (ps:=JE) λ _ _ _ _ _ _=>gn λ _=>rfl;have CG:=dc X G Z5;have Z7:=DU.b0;obtain ⟨adM,_,Z8,DV⟩:=YM.ok;have Z9:=DV.binds (ps:=JF) λ _ _ _ _ _ _=>gn λ _=>rfl;have Z_:=dc X G Z8;have aac:=DV.b0;obtain ⟨f8,_,aad,DW⟩:=YN.ok;have aae:=DW.binds (ps:=JG) λ _ _ _ _ _ _=>gn λ _=>rfl;have aaf:=dc X G aad;have aag:=DW.b0;obtain ⟨adN,_,aah,DX⟩:=YO.ok;have aai:=DX.binds (ps:=JH) λ _ _ _ _ _ _=>gW λ _ _=>rfl;have aaj:=dc X G aah;have aak:=DX.b0;obtain ⟨adO,_,aal,KY,KZ⟩:=YP.ok;have aam:=(KY.fun KZ).binds (ps:=JI) λ _ _ _ _ _ _=>sN λ _ _ _=>rfl;have aan:=dc X G aal;obtain ⟨adP,_,aao,K0,K1⟩:=YQ.ok;have aap:=(K0.fun K1).binds (ps:=JJ) λ _ _ _ _ _ _=>gW λ _ _=>rfl;have aaq:=dc X G aao;obtain ⟨adQ,_,aar,DY⟩:=YR.ok;have aas:=DY.binds (ps:=JK) λ _ _ _ _ _ _=>gW λ _ _=>rfl;have aat:=dc X G aar;have aau:=DY.b0;obtain ⟨adR,_,aav,DZ⟩:=YS.ok;have aaw:=DZ.binds (ps:=JL) λ _ _ _ _ _ _=>gW λ _ _=>rfl;have aax:=dc X G aav;have aay:=DZ.b0;obtain ⟨adS,_,aaz,D0⟩:=YT.ok;have aaA:=D0.binds (ps:=JM) λ _ _ _ _ _ _=>gW λ _ _=>rfl;have aaB:=dc X G aaz;have aaC:=D0.b0;obtain ⟨adT,_,aaD,D1⟩:=YU.ok;have aaE:=D1.binds (ps:=JN) λ _ _ _ _ _ _=>sN λ _ _ _=>rfl;have aaF:=dc X G aaD;have aaG:=D1.b0;obtain ⟨adU,_,aaH,D2⟩:=YV.ok;have aaI:=D2.binds (ps:=JO) λ _ _ _ _ _ _=>sN λ _ _ _=>rfl;have aaJ:=dc X G aaH;have aaK:=D2.b0;obtain ⟨adV,_,aaL,D3⟩:=YW.ok;have aaM:=D3.binds (ps:=JP) λ _ _ _ _ _ _=>gW λ _ _=>rfl;have aaN:=dc X G aaL;have aaO:=D3.b0;obtain ⟨adW,_,aaP,D4⟩:=YX.ok;have aaQ:=D4.binds (ps:=JQ) λ _ _ _ _ _ _=>gn λ _=>rfl;have aaR:=dc X G aaP;have aaS:=D4.b0
 obtain ⟨adX,_,aaT,D5⟩:=YY.ok;have aaU:=D5.binds (ps:=JR) λ _ _ _ _ _ _=>gW λ _ _=>rfl;have aaV:=dc X G aaT;have aaW:=D5.b0;obtain ⟨adY,_,aaX,D6⟩:=YZ.ok;have aaY:=D6.binds (ps:=JS) λ _ _ _ _ _ _=>gn λ _=>rfl;have aaZ:=dc X G aaX;have aa0:=D6.b0;obtain ⟨adZ,_,aa1,D7⟩:=Y0.ok;have aa2:=D7.binds (ps:=JT) λ _ _ _ _ _ _=>gn λ _=>rfl;have aa3:=dc X G aa1;have aa4:=D7.b0;obtain ⟨ad0,_,aa5,D8⟩:=Y1.ok;have aa6:=D8.binds (ps:=JU) λ _ _ _ _ _ _=>gn λ _=>rfl;have aa7:=dc X G aa5;have aa8:=D8.b0;obtain ⟨ad1,_,aa9,D9⟩:=Y2.ok;have abb:=D9.binds (ps:=JV) λ _ _ _ _ _ _=>gn λ _=>rfl;have abd:=dc X G aa9;have abe:=D9.b0;obtain ⟨ad2,_,abf,D_⟩:=Y3.ok;have abg:=D_.binds (ps:=JW) λ _ _ _ _ _ _=>gn λ _=>rfl;have abh:=dc X G abf;have abi:=D_.b0;obtain ⟨ad3,_,abj,Ea⟩:=Y4.ok;have abk:=Ea.binds (ps:=JX) λ _ _ _ _ _ _=>gW λ _ _=>rfl;have abl:=dc X G abj;have abm:=Ea.b0;obtain ⟨ad4,_,abn,Eb⟩:=Y5.ok;have abo:=Eb.binds (ps:=JY) λ _ _ _ _ _ _=>gW λ _ _=>rfl;have abp:=dc X G abn;have abq:=Eb.b0;obtain ⟨ad5,_,abr,Ec⟩:=Y6.ok;have abt:=Ec.binds (ps:=JZ) λ _ _ _ _ _ _=>gn λ _=>rfl;have abu:=dc X G abr;have abv:=Ec.b0;obtain ⟨ad6,_,abw,Ed⟩:=Y7.ok;have abx:=Ed.binds (ps:=J0) λ _ _ _ _ _ _=>gW λ _ _=>rfl;have aby:=dc X G abw;have abz:=Ed.b0;obtain ⟨ad7,_,abA,Ee⟩:=Y8.ok;have abB:=Ee.binds (ps:=J1) λ _ _ _ _ _ _=>gW λ _ _=>rfl;have abC:=dc X G abA;have abD:=Ee.b0;obtain ⟨ad8,_,abE,Ef⟩:=Y9.ok;have abF:=Ef.binds (ps:=J2) λ _ _ _ _ _ _=>gn λ _=>rfl;have abG:=dc X G abE;have abH:=Ef.b0;obtain ⟨K2,_,abI,Eg⟩:=Y_.ok;have K3:=Eg.binds (ps:=J3) λ _ _ _ _ _ _=>gW λ _ _=>rfl;have K4:=dc X G abI;have K5:=Eg.b0;obtain ⟨K6,_,abJ,Eh⟩:=Za.ok;have K7:=Eh.binds (ps:=J4) λ _ _ _ _ _ _=>gW λ _ _=>rfl;have K8:=dc X G abJ;have K9:=Eh.b0;obtain ⟨abK,_,abL,yX⟩:=Zb.ok;have abM:=yX.binds (ps:=J5) λ _ _ _ _ _ _=>B3 λ _ _ _ _ _=>rfl;have abN:=dc X G abL;have ad9:=yX.b0;obtain ⟨abO,_,abP,yY⟩:=Zc.ok;have abQ:=yY.binds (ps:=J6) λ _ _ _ _ _ _=>B3 λ _ _ _ _ _=>rfl;have abR:=dc X G abP;have aea:=yY.b0;obtain ⟨K_,_,abS,wb⟩:=Zd.ok;have La:=wb.binds (ps:=J7) λ _ _ _ _ _ _=>B3 λ _ _ _ _ _=>rfl;have Lb:=dc X G abS;have aeb:=wb.b0;obtain ⟨aec,_,abT,Ei⟩:=Ze.ok;have abU:=Ei.binds (ps:=J8) λ _ _ _ _ _ _=>gn λ _=>rfl;have abV:=dc X G abT;have abW:=Ei.b0;obtain ⟨Lc,_,abX,Ej⟩:=Zf.ok;have Ld:=Ej.binds (ps:=J9) λ _ _ _ _ _ _=>Jx λ _ _ _ _=>rfl;have Le:=dc X G abX;have Lf:=Ej.b0;obtain ⟨Lg,_,abY,Ek⟩:=Zg.ok;have Lh:=Ek.binds (ps:=J_) λ _ _ _ _ _ _=>gn λ _=>rfl
 have Li:=dc X G abY;have Lj:=Ek.b0;obtain ⟨aed,_,abZ,El⟩:=Zh.ok;have ab0:=El.binds (ps:=Ka) λ _ _ _ _ _ _=>gn λ _=>rfl;have ab1:=dc X G abZ;have ab2:=El.b0;obtain ⟨aee,_,ab3,Em⟩:=Zi.ok;have ab4:=Em.binds (ps:=Kb) λ _ _ _ _ _ _=>gn λ _=>rfl;have ab5:=dc X G ab3;have ab6:=Em.b0;obtain ⟨Lk,_,ab7,En⟩:=Zj.ok;have Ll:=En.binds (ps:=Kc) λ _ _ _ _ _ _=>sN λ _ _ _=>rfl;have Lm:=dc X G ab7;have Ln:=En.b0;obtain ⟨Lo,_,ab8,Eo⟩:=Zk.ok;have Lp:=Eo.binds (ps:=Kd) λ _ _ _ _ _ _=>sN λ _ _ _=>rfl;have Lq:=dc X G ab8;have Lr:=Eo.b0;obtain ⟨aef,_,ab9,Ep⟩:=Zl.ok;have aca:=Ep.binds (ps:=Ke) λ _ _ _ _ _ _=>gn λ _=>rfl;have acb:=dc X G ab9;have acd:=Ep.b0;obtain ⟨Ls,_,ace,Er⟩:=Zm.ok;have Lu:=Er.binds (ps:=Kf) λ _ _ _ _ _ _=>sN λ _ _ _=>rfl;have Lv:=dc X G ace;have Lw:=Er.b0;obtain ⟨aeg,_,acf,Es⟩:=Zn.ok;have acg:=Es.binds (ps:=Kg) λ _ _ _ _ _ _=>gW λ _ _=>rfl;have ach:=dc X G acf;have aci:=Es.b0;obtain ⟨Lx,_,acj,Et⟩:=Zo.ok;have Ly:=Et.binds (ps:=Kh) λ _ _ _ _ _ _=>gn λ _=>rfl;have Lz:=dc X G acj;have LA:=Et.b0;obtain ⟨aeh,_,ack,Eu⟩:=Zp.ok;have acl:=Eu.binds (ps:=Ki) λ _ _ _ _ _ _=>gn λ _=>rfl;have acm:=dc X G ack;have acn:=Eu.b0;obtain ⟨LB,_,aco,Ev⟩:=Zq.ok;have LC:=Ev.binds (ps:=Kj) λ _ _ _ _ _ _=>gW λ _ _=>rfl;have LD:=dc X G aco;have LE:=Ev.b0;obtain ⟨LF,_,acp,Ew⟩:=Zr.ok;have LG:=Ew.binds (ps:=Kk) λ _ _ _ _ _ _=>gn λ _=>rfl;have LH:=dc X G acp;have LI:=Ew.b0;obtain ⟨LJ,_,acq,Ex⟩:=Zs.ok;have LK:=Ex.binds (ps:=Kl) λ _ _ _ _ _ _=>gW λ _ _=>rfl;have LL:=dc X G acq;have LM:=Ex.b0;obtain ⟨aei,_,acr,Ey⟩:=Zt.ok;have acs:=Ey.binds (ps:=Km) λ _ _ _ _ _ _=>gW λ _ _=>rfl;have act:=dc X G acr;have acu:=Ey.b0;obtain ⟨aej,_,acv,Ez⟩:=Zu.ok;have acw:=Ez.binds (ps:=Kn) λ _ _ _ _ _ _=>gW λ _ _=>rfl;have acx:=dc X G acv;have acy:=Ez.b0;obtain ⟨aek,_,acz,EA⟩:=Zv.ok;have acA:=EA.binds (ps:=Ko) λ _ _ _ _ _ _=>gW λ _ _=>rfl;have acB:=dc X G acz;have acC:=EA.b0;obtain ⟨ael,_,acD,EB⟩:=Zw.ok;have acE:=EB.binds (ps:=Kp) λ _ _ _ _ _ _=>gW λ _ _=>rfl;have acF:=dc X G acD;have acG:=EB.b0
 have B:e_ mg:=⟨ik X G r4,ik X G cB,ik X G b8,ik X G dg,ik X G gx,ik X G yb,ik X G Zy,ik X G Zz,ik X G ZA,ik X G ub,ik X G ZC,ik X G ZD,ik X G ZE,ik X G ZF,ik X G ZG,ik X G ZH⟩
 obtain ⟨aem,_,acH,LN⟩:=Zx.ok;cases YK.symm.trans (dc X G acH);obtain ⟨_,_,dO,acI,pm,an,cd,ct,_,rfl,aen,aeo⟩:=LN.ex;refine ⟨k_ "law" "law" (j7 s7) (gP s7) (b1 s7) .none dO acI pm an cd ct,λ s v=>.of_eq rfl,λ base _ _ LO gj=>?_⟩;have CE:=dc X G tp0;have CF:=dc X G td0
 have gG:Got l.prog w K mg base 1 "inner" JE (aK K (jH Tm.enc Tm.aV)):=⟨_,_,WJ DU,CG,Z7,Z6⟩
 have sQ:Got l.prog w K mg base 1 "ways_below" JH (aK K ye):=⟨_,_,oEq DX,aaj,aak,aai⟩
 have sX:Got l.prog w K mg base 2 "names_in" JG (aK K yf):=⟨_,_,W4 B gG sQ DW,aaf,aag,aae⟩
 have sP:Got l.prog w K mg base 3 "with_names" JL (aK K (yg l.prog w K mg base 1)):=⟨_,_,WX B gG sQ DZ,aax,aay,aaw⟩
 have CX:Got l.prog w K mg base 4 "lifted" JI (aK K (Be 103 (hN kp))):=⟨_,_,WW (LO (107,103) (fh ..)) gj sP KY,aan,KZ,aam⟩
 have CW:Got l.prog w K mg base 3 "open_names" JF (aK K BN):=⟨_,_,XB B sX DV,Z_,aac,Z9⟩
 have C3:Got l.prog w K mg base 5 "copies_for" JK (aK K (BO 103 (hN kp))):=⟨_,_,XC B CW CX DY,aat,aau,aas⟩
 have C6:Got l.prog w K mg base 6 "put_in" JJ (aK K (BP 103 (hN kp) 110 (hN l7))):=⟨_,_,XJ (LO (112,110) (ig _ (fh ..))) gj B sX C3 sP K0,aaq,K1,aap⟩
 have sU:Got l.prog w K mg base 2 "at_place" JM (aK K px):=⟨_,_,Xe B gG D0,aaB,aaC,aaA⟩
 have sV:Got l.prog w K mg base 1 "has_rule" JQ (aK K (qV Tm.d1)):=⟨_,_,WK D4,aaR,aaS,aaQ⟩
 have C8:Got l.prog w K mg base 3 "can_go" JP (aK K A6):=⟨_,_,Xf sU sV D3,aaN,aaO,aaM⟩
 have Cz:Got l.prog w K mg base 2 "with_inner" JO (aK K BG):=⟨_,_,Xn gG D2,aaJ,aaK,aaI⟩
 have C_:Got l.prog w K mg base 3 "replaced" JN (aK K BH):=⟨_,_,Xo B gG Cz D1,aaF,aaG,aaE⟩
 have C9:Got l.prog w K mg base 7 "comes_of" JS (aK K (BQ 103 (hN kp) 110 (hN l7))):=⟨_,_,XN C6 D6,aaZ,aa0,aaY⟩
 have Da:Got l.prog w K mg base 8 "behind" JR (aK K (BR 103 (hN kp) 110 (hN l7))):=⟨_,_,XP C8 sU C9 C_ D5,aaV,aaW,aaU⟩
 have CD:Got l.prog w K mg base 2 "is_over" Jz (aK K (BI l.prog w K mg base 1)):=⟨_,_,Xp DO,ZO,ZP,ZN⟩
 have Db:Got l.prog w K mg base 3 "is_great" JZ (aK K BJ):=⟨_,_,Xr gG CD CE CF Ec,abu,abv,abt⟩
 have CL:Got l.prog w K mg base 2 "walked" Jy (aK K (BK l.prog w K mg base 1)):=⟨_,_,Xs B DN,ZK,ZL,ZJ⟩
 have CK:Got l.prog w K mg base 1 "inner_of_pair" JD (aK K (jH Tm.enc Tm.sG)):=⟨_,_,Xz DS,CM,Z4,Z3⟩
 have CO:Got l.prog w K mg base 3 "pairs_and_leaves" JC (aK K BL):=⟨_,_,Xu CK CL DR,Z0,Z1,ZZ⟩
 have Dc:Got l.prog w K mg base 4 "is_answer" JB (aK K BM):=⟨_,_,Xw B CO DQ,ZW,ZX,ZV⟩
 have Cv:Got l.prog w K mg base 1 "path_of" JA (aK K x9):=⟨_,_,Xc B DP,ZS,ZT,ZR⟩
 have CR:Got l.prog w K mg base 2 "first_unanswered" JU (aK K A9):=⟨_,_,Xj Cv D8,aa7,aa8,aa6⟩
 have Ct:Got l.prog w K mg base 1 "inner_in_use" JW (aK K A7):=⟨_,_,Xh D_,abh,abi,abg⟩
 have CS:Got l.prog w K mg base 2 "place_in_use" JV (aK K A8):=⟨_,_,Xi B sV Ct gG D9,abd,abe,abb⟩
 have yL:Got l.prog w K mg base 3 "next_use" JT (aK K BF):=⟨_,_,Xx CR CS D7,aa3,aa4,aa2⟩
 have De:Got l.prog w K mg base 9 "run_through" JY (aK K (BS 103 (hN kp) 110 (hN l7))):=⟨_,_,XQ B yL Da Db Dc Eb,abp,abq,abo⟩
 have pN:Got l.prog w K mg base 10 "run" JX (aK K (yv 103 (hN kp) 110 (hN l7))):=⟨_,_,XX B De Ea,abl,abm,abk⟩
 have yV:Got l.prog w K mg base 1 "_law_feed" J0 (aK K u5):=⟨_,_,WE B Ed,aby,abz,abx⟩
 have d0:Got l.prog w K mg base 1 "_law_take" J1 (aK K iG):=⟨_,_,WD Ee,abC,abD,abB⟩
 have f7:Got l.prog w K mg base 2 "_law_whole" J2 (aK K i7):=⟨_,_,WH d0 Ef,abG,abH,abF⟩
 have ox:∀ n:Nat,Got l.prog w K mg base (n+2) "_law_type" J3 (aK K (oh n)):=λ n=>by
  induction n with
  | zero=>exact ⟨K2,_,WL,K4,K5,K3⟩
  | succ n aN=>exact ⟨K2,_,WM d0 aN Eg,K4,K5,K3⟩
 have rh:∀ n:Nat,Got l.prog w K mg base (n+3) "_law_least" J4 (aK K (vI n)):=λ n=>by
  induction n with
  | zero=>exact ⟨K6,_,XY,K8,K9,K7⟩
  | succ n aN=>exact ⟨K6,_,XZ f7 aN Eh,K8,K9,K7⟩
 have ic:∀ n:Nat,Got l.prog w K mg base (2 * n+65) "_law_typed" J7 (aK K (sL n)):=λ n=>by
  induction n with
  | zero=>exact ⟨K_,_,X4,Lb,wb.b0,La⟩
  | succ n aN=>
   have Dl:Got l.prog w K mg base (2 * n+66) "_law_made" J5 (aK K (sM n)):=⟨abK,_,X0 d0 f7 aN yX,abN,yX.b0,abM⟩
   have Dk:Got l.prog w K mg base (2 * n+66) "_law_used" J6 (aK K (sM n)):=⟨abO,_,X1 d0 (ox 2) aN yY,abR,yY.b0,abQ⟩
   exact ⟨K_,_,X5 B d0 (rh 60) Dk Dl wb,Lb,wb.b0,La⟩
 have Do:Got l.prog w K mg base 3 "_law_loop" J8 (aK K vK):=⟨_,_,Yb d0 f7 Ei,abV,abW,abU⟩
 have l8:∀ n:Nat,Got l.prog w K mg base (n+2) "_law_wild" J9 (aK K (ow n)):=λ n=>by
  induction n with
  | zero=>exact ⟨Lc,_,Ye,Le,Lf,Ld⟩
  | succ n aN=>exact ⟨Lc,_,Yf d0 f7 aN Ej,Le,Lf,Ld⟩
 have jO:∀ n:Nat,Got l.prog w K mg base (n+1) "_law_parts" J_ (aK K (oi n)):=λ n=>by
  induction n with
  | zero=>exact ⟨Lg,_,WO,Li,Lj,Lh⟩
  | succ n aN=>exact ⟨Lg,_,WQ B aN Ek,Li,Lj,Lh⟩
 have DH:Got l.prog w K mg base 92 "_law_program" Ka (aK K vL):=⟨_,_,Yd d0 f7 Do (l8 15) (ox 3) (ic 13) (jO 80) El,ab1,ab2,ab0⟩
 have Dt:Got l.prog w K mg base 1 "_law_can" Kb (aK K (qV Tm.d1)):=⟨_,_,WS Em,ab5,ab6,ab4⟩
 have vS:∀ n:Nat,Got l.prog w K mg base (n+1) "_law_shift" Kc (aK K (vE n)):=λ n=>by
  induction n with
  | zero=>exact ⟨Lk,_,W9,Lm,Ln,Ll⟩
  | succ n aN=>exact ⟨Lk,_,W_ B aN En,Lm,Ln,Ll⟩
 have v8:∀ n:Nat,n<=200->Got l.prog w K mg base (n+102) "_law_put" Kd (aK K (vM n)):=λ n=>by
  induction n with
  | zero=>exact λ _=>⟨Lo,_,Yj,Lq,Lr,Lp⟩
  | succ n aN=>exact λ h=>⟨Lo,_,Yk B (by omega) (vS 101) (aN (by omega)) Eo,Lq,Lr,Lp⟩
 have DA:Got l.prog w K mg base 204 "_law_rule" Ke (aK K BW):=⟨_,_,Ym B (v8 101 (by omega)) Ep,acb,acd,aca⟩
 have vT:∀ n:Nat,Got l.prog w K mg base (n+1) "_law_changed" Kf (aK K (vF n)):=λ n=>by
  induction n with
  | zero=>exact ⟨Ls,_,Xa,Lv,Lw,Lu⟩
  | succ n aN=>exact ⟨Ls,_,Xb aN Er,Lv,Lw,Lu⟩
 have s6:Got l.prog w K mg base 1 "_law_at" Kg (aK K px):=⟨_,_,W5 Es,ach,aci,acg⟩
 have oy:∀ n:Nat,Got l.prog w K mg base (n+1) "_law_is_answer" Kh (aK K (sy n)):=λ n=>by
  induction n with
  | zero=>exact ⟨Lx,_,Xl,Lz,LA,Ly⟩
  | succ n aN=>exact ⟨Lx,_,Xm aN Et,Lz,LA,Ly⟩
 have yT:Got l.prog w K mg base 103 "_law_next" Ki (aK K BX):=⟨_,_,Yn B (oy 101) Dt Eu,acm,acn,acl⟩
 have nf:∀ n:Nat,Got l.prog w K mg base (n+1) "_law_alike" Kj (aK K (sx n)):=λ n=>by
  induction n with
  | zero=>exact ⟨LB,_,W7,LD,LE,LC⟩
  | succ n aN=>exact ⟨LB,_,W8 B aN Ev,LD,LE,LC⟩
 have v9:∀ n:Nat,Got l.prog w K mg base (n+1) "_law_deep" Kk (aK K (vO n)):=λ n=>by
  induction n with
  | zero=>exact ⟨LF,_,Yp,LH,LI,LG⟩
  | succ n aN=>exact ⟨LF,_,Yq B aN Ew,LH,LI,LG⟩
 have v_:∀ n:Nat,Got l.prog w K mg base (n+1) "_law_times" Kl (aK K (vN n)):=λ n=>by
  induction n with
  | zero=>exact ⟨LJ,_,Yr,LL,LM,LK⟩
  | succ n aN=>exact ⟨LJ,_,Ys B aN Ex,LL,LM,LK⟩
 have Dz:Got l.prog w K mg base 103 "_law_coming" Km (aK K BY):=⟨_,_,Yt B s6 (jO 101) (v_ 101) Ey,act,acu,acs⟩
 have rk:Got l.prog w K mg base 205 "_law_run" Kn (aK K yz):=⟨_,_,Yv B s6 yT Dz (vT 101) DA (v9 201) (oy 101) Ez,acx,acy,acw⟩
 have yW:Got l.prog w K mg base 206 "_law_right" Ko (aK K (BZ 103 (hN kp) 110 (hN l7))):=⟨_,_,Yx B rk pN (nf 115) EA,acB,acC,acA⟩
 have DI:Got l.prog w K mg base 103 "_law_closed" Kp (aK K B0):=⟨_,_,Yy B d0 f7 (jO 101) EB,acF,acG,acE⟩
 exact YB B yV d0 DH DI rk pN yW (nf 115) LN
theorem walk{l:PySem.W.OpenLaw}{q:ck}{loose:List Str}{rW:(Str->Option Value)->bL->Prop}{mI:bW->bL->Prop}{d:DefRec}{K:Params->bl}(bt:l.most=some 63)(t9:d.params.defaults=[])
 (lZ:∀(w:bW)(h:bL),mI w h->(K w.params).In h) (eR:∀ w:bW,PySem.W.noTabs (K w.params)=true) (Bg:∀(w:bW)(h:bL),mI w h->PySem.W.TabsAt DK h)
 (F:∀(w:bW)(mg:Str->Option Value)(fa:Addr)(h:bL),(K w.params).In h->h.Ns ef mg->mg d.name=some (.ref fa) →
  ∃ fd:f9,(∀(s:aC)(u:Value),rv s fd ⟨[u],[]⟩ [("_law_script", u)])/\∀ base:bL,(K w.params).In base->base.Ns ef mg->(∀ q∈DK,PySem.W.CodeHd base q.1 q.2)->lM mg base->cp l.prog w (K w.params) mg base cc 207 fa fd ["_law_script"] ((λ K=>aK K (vi DL)) (K w.params))) :
 PySem.W.WalkO q loose rW mI l.row.toRowW d [] (λ f ai=>PySem.call f ai):=
 L2.TD (n:=63) (k:=207) (x:="_law_script") (sp:=λ K=>(λ K=>aK K (vi DL)) K) bt (by decide) t9 ⟨rfl,by decide,by decide⟩ lZ eR Bg F λ _ _ _ _ aQ ux cX=>TG rfl (by decide) aQ ux cX
end KB
def PySem.W.Fast.tw13926214720639375410:=0
def PySem.W.Fast.tw1561037999486058162:=0
def PySem.W.Fast.tw4655460492582028279:=0
def PySem.W.Fast.tw11351955714846004718:=0
def PySem.W.Fast.tw14980515641913774663:=0
def PySem.W.Fast.tw2627863584802196961:=0
def PySem.W.Fast.tw43807289573225834:=0
def PySem.W.Fast.tw8897688318208753369:=0
def PySem.W.Fast.tw4499264905801713009:=0
def PySem.W.Fast.tw14212502916578022821:=0
def PySem.W.Fast.tw6805206327801367341:=0
def PySem.W.Fast.tw2004999131722743536:=0
def PySem.W.Fast.tw15325882072584953917:=0
def PySem.W.Fast.tw6530530978768215536:=0
def PySem.W.Fast.tw4657507699215246166:=0
def PySem.W.Fast.tw14886705155617388510:=0
def PySem.W.Fast.tw2520731615801746843:=0
def PySem.W.Fast.tw8936696098796433647:=0
def PySem.W.Fast.tw4945858281247346153:=0
def PySem.W.Fast.tw11461259623096084287:=0
def PySem.W.Fast.tw6162064159698502747:=0
def PySem.W.Fast.tw11224906106655620711:=0
def PySem.W.Fast.tw3702500768666234022:=0
def PySem.W.Fast.tw17788047101687915576:=0
def PySem.W.Fast.tw333362377304025452:=0
def PySem.W.Fast.tw9057685781591808696:=0
def PySem.W.Fast.tw8537745937056105216:=0
def PySem.W.Fast.tw17523083427734591366:=0
def PySem.W.Fast.tw12784626754211413319:=0
def PySem.W.Fast.tw4752326205318849972:=0
def PySem.W.Fast.tw10755720700190958948:=0
def PySem.W.Fast.tw6906400288327989810:=0
def PySem.W.Fast.tw5277428978167162382:=0
def PySem.W.Fast.tw13998749151241840526:=0
def PySem.W.Fast.tw12704511308991242385:=0
def PySem.W.Fast.tw17511488120613174351:=0
def PySem.W.Fast.tw10669487296100640338:=0
def PySem.W.Fast.tw14652691362844841706:=0
def PySem.W.Fast.tw2332740170268500854:=0
def PySem.W.Fast.tw88400842396243527:=0
open PySem PySem.W PyProof.Rows
set_option maxRecDepth 100000 in
set_option maxHeartbeats 0 in
theorem PySem.Challenge.cw_kindbags_k19_whole_runs_rule_by_rule_holds : PySem.Challenge.rw_kindbags_k19_whole_runs_rule_by_rule.Holds := by
  w_on; o_law; k_head; (case hw => w_witness2)
  k_fill
  refine KB.walk (l := PySem.Challenge.rw_kindbags_k19_whole_runs_rule_by_rule) rfl rfl (fun w h Y => PySem.W.km_in_of Y) (fun w => by kernel_rfl) (fun w h Y => List.forall_mem_cons.mpr ⟨⟨PySem.W.codeHd_of_K (c := 107) (P := 103) (PySem.W.km_in_of Y) (by kernel_rfl), PySem.W.km_tabs_of Y 103 (by k_mem)⟩, List.forall_mem_cons.mpr ⟨⟨PySem.W.codeHd_of_K (c := 112) (P := 110) (PySem.W.km_in_of Y) (by kernel_rfl), PySem.W.km_tabs_of Y 110 (by k_mem)⟩, fun _ h => nomatch h⟩⟩) ?F
  case F =>
    intro w mg fa h KX G hmg
    refine' KB.aF6q KX G hmg ?_ ?_ ?_ ?_ ?_ ?_ ?_ ?_ ?_ ?_ ?_ ?_ ?_ ?_ ?_ ?_ ?_ ?_ ?_ ?_ ?_ ?_ ?_ ?_ ?_ ?_ ?_ ?_ ?_ ?_ ?_ ?_ ?_ ?_ ?_ ?_ ?_ ?_ ?_ ?_ ?_ ?_ ?_ ?_ ?_ ?_ ?_ ?_ ?_ ?_ ?_ ?_ ?_ ?_ ?_ ?_ ?_ ?_ ?_ ?_ ?_ ?_ ?_ ?_ ?_ ?_ ?_ ?_ ?_ ?_ ?_ ?_ ?tp0 ?td0
    (case tp0 => k_is)
    (case td0 => k_is)
    all_goals first | k_is | (refine' L3.DT.mk ?_ ?_ ?_ ?_ <;> try k_is) | (refine' L3.DM.mk ?_ ?_ ?_ ?_ ?_ <;> try k_is) | (refine' L3.DTc.mk ?_ ?_ ?_ ?_ <;> try k_is) | (refine' L3.DMc.mk ?_ ?_ ?_ ?_ ?_ <;> try k_is) | skip
