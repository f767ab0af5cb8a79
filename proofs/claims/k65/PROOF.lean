import PyProof.Rows.All
import Wide.All
import OpenK.AllK
import Wide.FinOn
import Lean
import PyProof.EqAt
import PyProof.EqKinds
import PyProof.TupleCall
import PySem.Challenge.RW_kindbags_k65_costs_laid_in
set_option compiler.extract_closed false
set_option maxHeartbeats 4000000
local macro_rules | `(tactic| omega) => `(tactic| first | decide | lia)
local macro_rules | `(tactic| trivial) => `(tactic| decide +kernel)
open PySem renaming wpAny_bind->ah,wpAny_pure->aM,Shared->ay,wpAny->aD,model->aK,Expr->a5,Program->bZ,World->bM,Heap->bx,Stmt->bC,starEach->di,mainGlobals->et,Around->cK,wpAny_call_entry->f3,wpAny_newObj_type->gL,wpAny_field->fM,rawInt->dB,wpAny_setState_of->iu,compareOp->e_,wpAny_holding->g4,SetTable->eQ,wpAny_Call_Name_kw->je,builtinLookup_eq_fast->kW,pyNext->ef,wpAny_typeNameOfWhole_itemiter->oO,sizeLine_eq->hk,wpAny_setField_rec->kX,wpAny_setField->jf,wpAny_attempt->iT,wpAny_isInstance->kf,cLine->ea,foldedSetIterable->kY,FuncData->gM,isSubtype_type->kg,wpAny_mono->h4,wpAny_rule->h5,typeLookup_type->XL,binaryOp->g5,Scope->eV,backTo->fS,assignEach->iU,wpAny_dictEntries->nJ,sysModules->jg,wpAny_updateSeq->mx,codeAny_builtin->my,bootBuiltins->XV,attributeBase->lA,plainId_quiet->lB,wpAny_fieldsOf->mz,wpAny_specialOf->nK,wpAny_setEntries_of->qz,wpAny_isOneOf_itemiter->r8,intKind->h6,wpAny_seqItems->nL,wpAny_dictEpoch->oP,hashInt->iv,wpAny_typeNameOfWhole_keyiter->xt,codeAny->iV,firstArgMember->oQ,swapsWith->kZ,assign->WF,codeAny_mono->nM,wpAny_typeOf->nN,wpAny_passesOwn->qA,letOwnedTupleGo->qB,behindInMarks->oR,wpAny_storeSet_of->r9,holding->jE,isSubtype_stop->qC,NameKind->k0,wpAny_truthy_bool->WP,wpAny_pyIter_slot->ui,wpAny_setEpoch_of->uj,updateSeq->nO,setField->mA,spliced->lC,sliceBounds->qD,wpAny_of_eq->qE,field->jh,Operator->nP,wpAny_comprehension_free->AE,argsOk->k1,standAt->W1,getItem->mB,qualnameIn->qF,intKind_is->qG,setNext->mC,IsItemIter->qH,wpAny_Call_method0_late->AF,wpAny_letGo->r_,wpAny_askSetting->xu,tupleKind->qI,ItemsOf->nQ,wpAny_notOrdered_dict->AG,Paired->mD,isTrue->mE,wpAny_execs_nil->xv,pyIter->mF,wpAny_load->sa,IsPart->mG,typeLookup->sb,PlainAttrs->sd,Slot->jF,relabel->oS,entryFor->qJ,entryFor_alias->xw,wpAny_newTuple->xx,PassesOwn->se,tupleKind_room_in1->AH,wpAny_pyIter_tuple->Vs,wpAny_standAt->xy,wpAny_handled->xA,setWalkUnseen->xB,wpAny_pyIter_list->AI,builtinsNs->uk,valueAt->qK,noFill_tuple_add->AJ,call_meetsIn->xC,entryFor_of_tree->AK,IsPair->oT,relayAll->sf,atKey->nR,wpAny_ite_split->AL,IsRangeIter->xD,wpAny_pyNext_range_end->GK,wpAny_pyIter_rangeiter->GL,subscripted->xE,wpAny_throw->xF,unsupported->xG,Result->qL,BindsTo->sg,callerA->sh,newExc->qM,wpAny_runValue->AM,wpAny_isOneOf_keyiter->GM,CmpOp->oU,wpAny_call->xH,bindL->oV,bindC->oW,call_meets->xI,closureFor->xJ,compTurn->ul,compPost->um,Moved->oX,IsZip->oY,ZipApart->uo,setEntries->xK,swapsWithSole->AN,swappedStores->AO,seq_tuple_add->AP,wpAny_onRaise->AQ,Arguments->xL,concat_meets->AR,typeOf->si,scanBound->Uf,sub_set_self->AS,pickOrder->xM,setItem->uq,unaryOp->ur,collect->ut
open PyProof.Rows renaming IntsAre->lD,IsTup->ji,subscriptTail_builtinR->AU,envOfC->mH,AllBare->oZ,subscriptTail->AV,getItem_tuple->AW
open PySem.W renaming KdxIt->o1
open List renaming length_map->bL,size_toArray->cS,map_cons->cV,length_cons->dt,mem_cons->dw,getElem?_map->dF,length_append->dJ,mem_cons_self->dP,mem_cons_of_mem->eE,mem_map->eF,range->fg,mem_singleton->ft,map_append->fN,replicate->fT,getElem?_eq_some_iff->f5,getElem?_eq_getElem->f6,mem_append_right->gi,mem_of_getElem?->gj,map_map->gw,mem_append->hF,length_reverse->hG,length_nil->h7,map_reverse->iw,mem_map_of_mem->iy,nodup_cons->jj,all_cons->jk,take_add_one->jl,any_cons->jG,find?_cons->jH,not_mem_nil->jI,append_nil->kh,getElem?_append_left->ki,getElem?_eq_none->kj,cons_append->kk,length_take->k2,take_length->k3,getElem_of_mem->lE,getElem?_append_right->mI,length_drop->mJ,append_assoc->mK,length->nS,lookup_cons->nT,drop_eq_getElem_cons->nU,mem_filter->o2,mem_range->o3,filterMap_cons->o4,mem_append_left->o5,length_replicate->o6,length_singleton->o7,map_nil->o8,take_append_drop->o9,mem_of_mem_take->o_,reverse_cons->qN,flatMap_cons->qO,mem_iff_getElem?->qP,getElem?_replicate->sj,all_eq_true->sk,getElem_mem->sl,sum_cons->sm,length_range->so,sum_reverse->sq,forIn_cons->uu,drop_zero->uv,getD_eq_getElem?_getD->uw,mem_reverse->ux,drop_sublist->uy,map->uz,getElem?_range->uA,flatMap_append->uB,getElem?_set_ne->xN,mem_filterMap->xO,of_mem_zip->xP,map_congr_left->xQ,forIn_nil->xR,getElem?_zip_eq_some->xS,getElem?_cons_succ->xT,take_succ_cons->xU,take_zero->xV,toList_toArray->xW,nodup_append->xX,take_of_length_le->xY,singleton_append->xZ,perm_middle->x0,zipWith->x1,prefix_iff_eq_take->x2
open Nat renaming le_refl->ZB,ne_of_lt->du,le_trans->eG,ne_of_gt->fU,zero_le->fV,lt_of_lt_of_le->hH,lt_irrefl->lF,lt_trans->nV,le_of_lt->pa,lt_or_ge->qQ,sub_zero->uC,ble->uD,lt_succ_of_lt->uE,mod_lt->x3,zero_add->x4
open Array renaming length_toList->fu,getElem?_eq_getElem->hI,getD->lG,getElem?_eq_some_iff->nW,getElem?_toList->pb,getElem?_eq_none->sr,size_map->x5
open Option renaming some->eW,map_some->mL,map_eq_some_iff->pc,none->su,isSome_iff_exists->x6
open Bool renaming and_eq_true->fh,false_ne_true->f7,false_eq_true->mM,or_false->pd,eq_iff_iff->sv
open PySem.W renaming Frag->a8,mg_of->dj,nsIn->gk,mg_none_of->jm,kia_one->jJ,fnOf->lH,keepIn->mN,codeIn->qR,envX->uF,tabObj->uG,fnMade->uH,kitOne->x7,fnX->x8
open PyProof.Rows renaming callWith_type1->lI,boot_tuple->pe,boot_isinstance->qS,slot_tuple_getitem->sx
open PySem renaming boot_len->Wp,mem_of_lookup->mO
open PySem.Heap renaming get?_push_of_some->cc,lt_size->cm,get?_push_size->dK,get?_update_self->hl,get?_update_other->kl,size_push->pf
open Int renaming toNat_natCast->gx,natCast_add->sy,emod_lt_of_pos->x9,emod_nonneg->x_
set_option Elab.async false
set_option linter.all false
set_option maxRecDepth 100000
namespace L2
open PySem PySem.Spec PyProof.Rows
noncomputable abbrev Key:=Sum Int Str
noncomputable def sz:Key->Value->Bool
 |.inl k,v=>Value.isInt k v
 |.inr x,v=>Value.isStrOf x v
noncomputable def OA(w:bM):Key->Int
 |.inl k=>iv k
 |.inr x=>hashStr w x
theorem nX:∀{k:Key}{v:Value},sz k v=true->(∃ i t,k=Sum.inl i/\v=Value.int i t)\/(∃ x t,k=Sum.inr x/\v=Value.str x t)
 | .inl i,v,h=>by
  obtain⟨t,e⟩:=Value.isInt_shape (k:=i) (v:=v) h;exact .inl ⟨i,t,rfl,e⟩
 | .inr x,v,h=>by
  obtain⟨t,e⟩:=Value.isStrOf_shape (x:=x) (v:=v) h;exact .inr ⟨x,t,rfl,e⟩
theorem OB(i:Int)(t:Tok):sz (.inl i) (.int i t)=true:=by simp[sz,Value.isInt]
theorem OC(x:Str)(t:Tok):sz (.inr x) (.str x t)=true:=by simp[sz,Value.isStrOf]
theorem OD(a b:Int):decide ((Sum.inl a:Key)=Sum.inl b)=(a==b):=by
 by_cases e:a=b
 ·subst e;simp
 ·have h:¬ (Sum.inl a:Key)=Sum.inl b:=λ q=>e (Sum.inl.inj q);rw[decide_eq_false h];exact(beq_eq_false_iff_ne.mpr e).symm
theorem OE(a b:Str):decide ((Sum.inr a:Key)=Sum.inr b)=decide (a=b):=by
 by_cases e:a=b
 ·subst e;simp
 ·have h:¬ (Sum.inr a:Key)=Sum.inr b:=λ q=>e (Sum.inr.inj q);rw[decide_eq_false h,decide_eq_false e]
theorem OF(a:Int)(b:Str):decide ((Sum.inl a:Key)=Sum.inr b)=false:=decide_eq_false (λ q=>nomatch q)
theorem OG(a:Str)(b:Int):decide ((Sum.inr a:Key)=Sum.inl b)=false:=decide_eq_false (λ q=>nomatch q)
noncomputable def hJ(prog:bZ)(w:bM):PySem.KeyKind prog w Key where
 is:=sz
 hash:=OA w
 inj:=λ v a b aB af=>by
  rcases nX aB with⟨i,t,rfl,rfl⟩|⟨x,t,rfl,rfl⟩
  ·rcases nX af with⟨j,u,rfl,e⟩|⟨y,u,rfl,e⟩
   ·injection e with aC _;rw[aC]
   ·exact nomatch e
  ·rcases nX af with⟨j,u,rfl,e⟩|⟨y,u,rfl,e⟩
   ·exact nomatch e
   ·injection e with aC _;rw[aC]
 byValue:=λ k v h=>by
  rcases nX h with⟨i,t,rfl,rfl⟩|⟨x,t,rfl,rfl⟩<;>rfl
 pyHash:=λ bu h=>by
  rcases nX bu with⟨i,t,rfl,rfl⟩|⟨x,t,rfl,rfl⟩
  ·exact wpAny_pyHash_int h
  ·exact wpAny_pyHash_str h
 eqBool:=λ br bu h=>by
  rcases nX br with⟨i,t,rfl,rfl⟩|⟨x,t,rfl,rfl⟩
  ·rcases nX bu with⟨j,u,rfl,rfl⟩|⟨y,u,rfl,rfl⟩
   ·rw[OD]at h;exact wpAny_eqBool_int h
   ·rw[OF]at h;exact SeqAt.EqAt.int_str i t y u _ _ _ _ h
  ·rcases nX bu with⟨j,u,rfl,rfl⟩|⟨y,u,rfl,rfl⟩
   ·rw[OG]at h;exact SeqAt.EqAt.str_int x t j u _ _ _ _ h
   ·rw[OE]at h;exact wpAny_eqBool_str h
 «strs»:=λ k x t v h=>by
  rcases nX h with⟨i,u,rfl,e⟩|⟨y,u,rfl,e⟩
  ·exact nomatch e
  ·injection e with aC _;subst aC;cases v<;>rfl
theorem OH(prog:bZ)(w:bM)(i:Int)(t:Tok):(hJ prog w).is (.inl i) (.int i t)=true:=OB i t
theorem OI(prog:bZ)(w:bM)(x:Str)(t:Tok):(hJ prog w).is (.inr x) (.str x t)=true:=OC x t
inductive V where
 |bE|aW (b:Bool)|int (i:Int)|str (x:Str)|uI (b:Array UInt8)|sA (b:UInt64)|ref (a:Addr)|ty (n:String)
 deriving DecidableEq
noncomputable def RelV:V->Value->Prop
 |.bE,u=>u=Value.none
 |.aW b,u=>u=Value.bool b
 |.int i,u=>∃ t,u=Value.int i t
 |.str x,u=>∃ t,u=Value.str x t
 |.uI b,u=>∃ t,u=Value.bytes b t
 |.sA b,u=>∃ t,u=Value.float b t
 |.ref a,u=>u=Value.ref a
 |.ty n,u=>u=Value.type n
noncomputable abbrev Vals:List V->List Value->Prop:=mD RelV
theorem Vals.length{xs:List V}{us:List Value}(r:Vals xs us):xs.length=us.length:=Paired.length r
theorem Vals.get:∀{xs:List V}{us:List Value}{i:Nat}{x:V},Vals xs us->xs[i]?=some x->∃ u,us[i]?=some u/\RelV x u
 |_,_,_,_,.nil,e=>by simp at e
 |_,_,0,_,.cons r _,e=>by simp at e;subst e;exact⟨_,rfl,r⟩
 | _,_,i+1,x,.cons _ t,e=>by
  obtain⟨u,ag,ai⟩:=Vals.get (i:=i) (x:=x) t (by simpa using e);exact⟨u,by simpa using ag,ai⟩
theorem Vals.set{x:V}{u:Value}(r:RelV x u):∀{xs:List V}{us:List Value}(i:Nat),Vals xs us->Vals (xs.set i x) (us.set i u)
 |_,_,_,.nil=>.nil
 |_,_,0,.cons _ t=>.cons r t
 |_,_,i+1,.cons q t=>.cons q (Vals.set r i t)
theorem Vals.append:∀{xs ys:List V}{us ws:List Value},Vals xs us->Vals ys ws->Vals (xs++ys) (us++ws)
 |_,_,_,_,.nil,s=>s
 |_,_,_,_,.cons r t,s=>.cons r (Vals.append t s)
theorem Vals.take:∀{xs:List V}{us:List Value}(n:Nat),Vals xs us->Vals (xs.take n) (us.take n)
 |_,_,0,_=>.nil
 |_,_,_+1,.nil=>.nil
 |_,_,n+1,.cons r t=>.cons r (Vals.take n t)
theorem Vals.drop:∀{xs:List V}{us:List Value}(n:Nat),Vals xs us->Vals (xs.drop n) (us.drop n)
 |_,_,0,r=>r
 |_,_,_+1,.nil=>.nil
 |_,_,n+1,.cons _ t=>Vals.drop n t
noncomputable def km:Option V->Option Value->Prop
 |some v,some u=>RelV v u
 |none,none=>True
 |_,_=>False
noncomputable def fO{κ:Type}:List (κ×V)->List (κ×Value)->Prop:=mD λ(p:κ×V) (q:κ×Value)=>p.1=q.1/\RelV p.2 q.2
noncomputable def dd:Key->V
 |.inl i=>.int i
 |.inr x=>.str x
inductive fv where
 |lst (xs:List V)
 |tup (xs:List V)
 |cR (kvs:List (Key×V))|bz (kvs:List (List Key×V))
 |set (S:Int->Bool) (n:Nat)
 |ins (C e3:Addr) (fs:List (Str×V))
 |own (x:Addr)
 |AX (fs:List (Str×V))
 |met (f x:Addr)
 |AY (lo ar:Int)
 |eH (o:Obj) (u:fv)
 |hn (ps:Array Value)
 |ext (φ:bx->Prop)
noncomputable abbrev au:=Addr->Option fv
noncomputable def upd(H:au)(a:Addr)(o:fv):au:=λ b=>if b=a then some o else H b
theorem eC{H:au}{a:Addr}{o:fv}:upd H a o a=some o:=by unfold upd;rw[if_pos rfl]
theorem bS{H:au}{a b:Addr}{o:fv}(h:b≠a):upd H a o b=H b:=by unfold upd;rw[if_neg h]
theorem OJ{H:au}{a:Addr}{o u:fv}:upd (upd H a o) a u=upd H a u:=by
 funext b;unfold upd;split<;>rfl
theorem AZ{H:au}{a b:Addr}{o u:fv}(h:H a=some o)(h':H b=some u)(d:o≠u):a≠b:=by
 intro e;subst e;rw[h]at h';exact d (eW.inj h')
theorem gS{H:au}{a b:Addr}{o:fv}(h:H a=some o)(h':H b=none):a≠b:=by
 intro e;subst e;rw[h]at h';cases h'
section
variable(P:bZ)(w:bM)
noncomputable def ez(H:au)(h:bx)(a:Addr):fv->Prop
 |.lst xs=>xs.length<=sizeLine/\∃(aP:List Value)(n:Nat),Vals xs aP/\h.get? a=some {cls:=.type "list",data:=.seq aP.toArray n}
 |.tup xs=>xs.length<=sizeLine/\∃ aP:List Value,Vals xs aP/\ji h a aP.toArray
 |.cR kvs=>kvs.length<=sizeLine/\(a==jg)=false/\∃ ae,fO kvs ae/\h.DictOf (hJ P w) a ae
 | .bz kvs=>kvs.length<=sizeLine/\(a==jg)=false/\∃ xs:List (List Key×Addr×Value),
  mD (λ(p:List Key×V) (q:List Key×Addr×Value)=>p.1=q.1/\H q.2.1=some (.tup (p.1.map dd))/\RelV p.2 q.2.2) kvs xs ∧
  ∃ o es ep,h.get? a=some o/\o.ExactDict/\o.data=.dict es ep/\es.toList=xs.map (entryOfKey (qI (hJ P w)))/\(xs.map (·.1)).Nodup
 |.set S n=>h.SetOf (h6 P w) a S n
 | .ins C e3 fs=>H e3=some (.own a)/\fs.length<=1000/\e3≠a/\h.get? a=some (PySem.W.instObj C e3) ∧
  ∃ gl,h.Ns1 e3 gl/\(∀ f,km (fs.lookup f) (gl f))/\PySem.Within gl (fs.map (·.1))
 |.own _=>∃ o,h.get? a=some o
 |.AX fs=>∃ gl,h.Ns1 a gl/\∀ f,km (fs.lookup f) (gl f)
 |.AY lo ar=>∃ t u v,h.get? a=some {cls:=.type "range",data:=.fields #[.int lo t,.int ar u,.int 1 v]}
 |.eH o u=>h.get? a=some o/\ez H h a u
 |.hn ps=>h.get? a=some {cls:=.none,data:=.fields ps}
 |.met f x=>h.get? a=some (PySem.W.methodObj (.ref f) (.ref x))
 |.ext φ=>φ h/\(∃ o,h.get? a=some o)/\∀ ag ai:bx,φ ag->(∀ o,ag.get? a=some o->ai.get? a=some o)->φ ai
noncomputable def dW(H:au)(h:bx):Prop:=∀ a o,H a=some o->ez P w H h a o
end
section
variable{P:bZ}{w:bM}{H ak:au}{h h':bx}{a:Addr}{o:fv}
theorem ez.lt(x:ez P w H h a o):a<h.objs.size:=by
 cases o with
 |lst xs=>obtain⟨_,_,_,_,e⟩:=x;exact cm e
 |tup xs=>obtain⟨_,_,_,p⟩:=x;exact p.lt
 |cR kvs=>obtain⟨_,_,_,_,o,_,_,e,_⟩:=x;exact cm e
 |bz kvs=>obtain⟨_,_,_,_,o,_,_,e,_⟩:=x;exact cm e
 |set S n=>obtain⟨o,_,_,_,e,_⟩:=x;exact cm e
 |ins C e3 fs=>obtain⟨_,_,_,e,_⟩:=x;exact cm e
 |own y=>obtain⟨_,e⟩:=x;exact cm e
 |AX fs=>obtain⟨_,⟨_,_,_,e,_⟩,_⟩:=x;exact cm e
 |AY lo ar=>obtain⟨_,_,_,e⟩:=x;exact cm e
 |eH cw u=>obtain⟨e,_⟩:=x;exact cm e
 |hn ps=>exact cm (show h.get? a=some _ from x)
 |met f y=>exact cm (show h.get? a=some _ from x)
 |ext φ=>obtain⟨_,⟨_,e⟩,_⟩:=x;exact cm e
theorem Paired.A0{α β:Type}{F G:α->β->Prop}:∀{l₁:List α}{GN:List β},mD F l₁ GN->(∀ a b,F a b->G a b)->mD G l₁ GN
 |_,_,.nil,_=>.nil
 |_,_,.cons r t,f=>.cons (f _ _ r) (Paired.A0 t f)
theorem ez.jK(x:ez P w H h a o)(k:∀ b u,(b=a\/H b=some (.own a))->h.get? b=some u->h'.get? b=some u)
 (aO:∀ b,H b=some (.own a)->ak b=some (.own a)) (bN:∀ b xs,H b=some (.tup xs)->ak b=some (.tup xs)):ez P w ak h' a o:=by
 induction o with
 |lst xs=>obtain⟨z,aP,n,r,e⟩:=x;exact⟨z,aP,n,r,k _ _ (.inl rfl) e⟩
 |tup xs=>obtain⟨z,aP,r,cw,e,c⟩:=x;exact⟨z,aP,r,cw,k _ _ (.inl rfl) e,c⟩
 |cR kvs=>obtain⟨z,y,ae,r,cw,es,ep,e,c⟩:=x;exact⟨z,y,ae,r,cw,es,ep,k _ _ (.inl rfl) e,c⟩
 | bz kvs=>
  obtain⟨z,y,xs,r,cw,es,ep,e,c⟩:=x;exact⟨z,y,xs,Paired.A0 r λ p q z=>⟨z.1,bN _ _ z.2.1,z.2.2⟩,cw,es,ep,k _ _ (.inl rfl) e,c⟩
 |set S n=>obtain⟨cw,es,ep,t,e,c⟩:=x;exact⟨cw,es,ep,t,k _ _ (.inl rfl) e,c⟩
 | ins C e3 fs=>
  obtain⟨d,z,ne,e,gl,⟨c5,es,ep,aF,c⟩,r⟩:=x;exact⟨aO _ d,z,ne,k _ _ (.inl rfl) e,gl,⟨c5,es,ep,k _ _ (.inr d) aF,c⟩,r⟩
 |own y=>obtain⟨cw,e⟩:=x;exact⟨cw,k _ _ (.inl rfl) e⟩
 |AX fs=>obtain⟨gl,⟨c5,es,ep,e,c⟩,r⟩:=x;exact⟨gl,⟨c5,es,ep,k _ _ (.inl rfl) e,c⟩,r⟩
 |AY lo ar=>obtain⟨t,u,v,e⟩:=x;exact⟨t,u,v,k _ _ (.inl rfl) e⟩
 |eH cw u bG=>obtain⟨e,q⟩:=x;exact⟨k _ _ (.inl rfl) e,bG q⟩
 | hn ps=>
  have e:h.get? a=some {cls:=.none,data:=.fields ps}:=x;show h'.get? a=some {cls:=.none,data:=.fields ps};exact k a _ (.inl rfl) e
 | met f y=>
  have e:h.get? a=some (PySem.W.methodObj (.ref f) (.ref y)):=x;show h'.get? a=some (PySem.W.methodObj (.ref f) (.ref y));exact k a _ (.inl rfl) e
 |ext φ=>obtain⟨p,⟨o,e⟩,st⟩:=x;exact⟨st _ _ p λ o q=>k _ _ (.inl rfl) q,⟨o,k _ _ (.inl rfl) e⟩,st⟩
theorem dW.lt(x:dW P w H h)(e:H a=some o):a<h.objs.size:=(x a o e).lt
theorem dW.fresh(x:dW P w H h)(e:h.objs.size<=a):H a=none:=by
 cases q:H a with
 |none=>rfl
 |some u=>exact absurd (hH (x.lt q) e) (lF _)
theorem dW.kept(x:dW P w H h)(k:∀ b u,h.get? b=some u->h'.get? b=some u):dW P w H h':=λ a o e=>
 (x a o e).jK (λ b u _ q=>k b u q) (λ _ q=>q) λ _ _ q=>q
theorem dW.laid(x:dW P w H h)(k:∀ b u,h.get? b=some u->h'.get? b=some u)(ax:h.objs.size<=a)(new:ez P w (upd H a o) h' a o):dW P w (upd H a o) h':=λ b u e=>by
 have bc:=x.fresh ax;by_cases af:b=a
 ·subst af;rw[eC]at e;cases e;exact new
 ·rw[bS af]at e;exact(x b u e).jK (λ c v _ q=>k c v q) (λ c q=>by rw[bS (gS q bc)];exact q) λ c xs q=>by rw[bS (gS q bc)];exact q
end
noncomputable def iz(H:au)(a:Addr)(u:fv):Prop:=H a=some u\/∃ o,H a=some (.eH o u)
theorem iz.ok{P:bZ}{w:bM}{H:au}{h:bx}{a:Addr}{u:fv}(r:iz H a u)(x:dW P w H h):ez P w H h a u:=by
 rcases r with r|⟨o,r⟩
 ·exact x a u r
 ·obtain⟨_,q⟩:=x a _ r;exact q
noncomputable def uJ:Option fv->Prop
 |some (.lst _)=>True
 |some (.cR _)=>True
 |some (.bz _)=>True
 |some (.set _ _)=>True
 |some (.ins _ _ _)=>True
 |some (.ext _)=>True
 |_=>False
section
variable{P:bZ}{w:bM}{H:au}{h h':bx}{x e:Addr}{cy:fv}
theorem dW.write(ok:dW P w H h)(jL:uJ (H x))(he:e=x\/H e=some (.own x))(k:∀ b u,b≠e->h.get? b=some u->h'.get? b=some u)(sB:∃ u,h'.get? e=some u)
 (new:ez P w (upd H x cy) h' x cy):dW P w (upd H x cy) h':=λ b u q=>by
 have GO:∀ c y,H c=some (.own y)->c≠x:=λ c y r z=>by subst z;rw[r]at jL;exact jL
 have OL:∀ c xs,H c=some (.tup xs)->c≠x:=λ c xs r z=>by subst z;rw[r]at jL;exact jL
 by_cases af:b=x
 ·subst af;rw[eC]at q;cases q;exact new
 ·rw[bS af]at q;by_cases qT:b=e
  ·have h8:H b=some (.own x):=by
    rcases he with z|z
    ·exact absurd (qT.trans z) af
    ·rw[qT];exact z
   rw[q]at h8;cases h8;obtain⟨v,bu⟩:=sB;exact⟨v,by rw[qT];exact bu⟩
  ·refine(ok b u q).jK (λ c v aE r=>k c v ?_ r) (λ c r=>by rw[bS (GO c b r)];exact r) λ c xs r=>by rw[bS (OL c xs r)];exact r
   rcases aE with rfl|aE
   ·exact qT
   ·rintro rfl;rcases he with z|z
    ·exact GO c b aE z
    ·rw[aE]at z;cases z;exact af rfl
end
structure fi(fs ex:List Addr)(H ak:au)(h h':bx):Prop where
 keep:∀ b o,h.get? b=some o->H b=none->b ∉ fs->b ∉ ex->h'.get? b=some o
 slot:∀ b o,h.get? b=some o->H b=none->b∈fs->b ∉ ex->∃ ck,h'.get? b=some {o with slots:=ck}
 free:∀ b o,h.get? b=some o->H b=none->b ∉ ex->ak b=none
 there:∀ b o,h.get? b=some o->b ∉ ex->∃ cy,h'.get? b=some cy
 kn:∀ b xs,H b=some (.tup xs)->ak b=some (.tup xs)
 jn:∀ b o u,H b=some (.eH o u)->ak b=some (.eH o u)
 jM:∀ b ps,H b=some (.hn ps)->∃ more,ak b=some (.hn (ps++more))
section
variable{fs ya ex age:List Addr}{H H1 aQ:au}{h ag ai h':bx}{a x e:Addr}{o:fv}
theorem fi.any(u:fi fs ex H H1 h ag){b:Addr}{cw:Obj}(q:h.get? b=some cw)(n:H b=none)(aA:b ∉ ex):∃ ck,ag.get? b=some {cw with slots:=ck}:=by
 by_cases af:b∈fs
 ·exact u.slot b cw q n af aA
 ·exact⟨cw.slots,u.keep b cw q n af aA⟩
theorem fi.kept(k:∀ b u,h.get? b=some u->h'.get? b=some u):fi fs ex H H h h':=
 ⟨λ b cw q _ _ _=>k b cw q,λ b cw q _ _ _=>⟨cw.slots,k b cw q⟩,λ _ _ _ n _=>n,λ b cw q _=>⟨cw,k b cw q⟩,λ _ _ q=>q,λ _ _ _ q=>q,λ _ ps q=>⟨#[],by rw[q];simp⟩⟩
theorem fi.refl:fi fs ex H H h h:=fi.kept λ _ _ q=>q
theorem fi.laid(k:∀ b u,h.get? b=some u->h'.get? b=some u)(ax:h.objs.size<=a)(bc:H a=none):fi fs ex H (upd H a o) h h' where
 keep:=λ b u q _ _ _=>k b u q
 slot:=λ b u q _ _ _=>⟨u.slots,k b u q⟩
 free:=λ b u q n _=>by rw[bS (du (hH (cm q) ax))];exact n
 there:=λ b u q _=>⟨u,k b u q⟩
 kn:=λ b xs q=>by rw[bS (gS q bc)];exact q
 jn:=λ b u xs q=>by rw[bS (gS q bc)];exact q
 jM:=λ b ps q=>⟨#[],by rw[bS (gS q bc),q];simp⟩
theorem fi.write(jL:uJ (H x))(he:e=x\/H e=some (.own x))(k:∀ b u,b≠e->h.get? b=some u->h'.get? b=some u)(sB:∃ u,h'.get? e=some u):fi fs ex H (upd H x o) h h':=by
 have aA:∀ b,H b=none->b≠x:=λ b n z=>by subst z;rw[n]at jL;exact jL
 have af:∀ b,H b=none->b≠e:=λ b n z=>by
  subst z;rcases he with r|r
  ·exact aA b n r
  ·rw[n]at r;cases r
 have hm:∀ b u,H b=some u->¬ uJ (some u)->b≠x:=λ b u q nm z=>by subst z;rw[q]at jL;exact nm jL
 refine⟨λ b u q n _ _=>k b u (af b n) q,λ b u q n _ _=>⟨u.slots,k b u (af b n) q⟩,λ b u q n _=>by rw[bS (aA b n)];exact n,λ b u q _=>?_,
  λ b xs q=>by rw[bS (hm b _ q λ z=>z)];exact q,λ b u xs q=>by rw[bS (hm b _ q λ z=>z)];exact q,λ b ps q=>⟨#[],by rw[bS (hm b _ q λ z=>z),q];simp⟩⟩
 by_cases qT:b=e
 ·subst qT;exact sB
 ·exact⟨u,k b u qT q⟩
end
noncomputable def yb(h:bx)(H:au):List Addr:=(fg h.objs.size).filter λ a=>(H a).isSome
noncomputable def mP(h:bx)(H:au):bx:=PySem.W.hideAll h (yb h H)
theorem OM(h:bx)(H:au):(mP h H).objs.size=h.objs.size:=PySem.W.hideAll_size _ _
theorem ON{h:bx}{H:au}{b:Addr}{o:Obj}(e:h.get? b=some o)(n:H b=none):(mP h H).get? b=some o:=
 PySem.W.hideAll_get _ e λ hm=>by
  have q:(H b).isSome=true:=(o2.mp hm).2;rw[n]at q;simp at q
theorem OO{h:bx}{H:au}{b:Addr}{o:Obj}(e:(mP h H).get? b=some o):h.get? b=some o/\H b=none:=by
 have b0:h.get? b=some o:=PySem.W.of_hideAll (yb h H) e;refine⟨b0,?_⟩
 cases q:H b with
 |none=>rfl
 | some x=>
  have hm:b∈yb h H:=o2.mpr ⟨o3.mpr (cm b0),by simp[q]⟩;have z:(mP h H).get? b=none:=PySem.W.hideAll_none (yb h H) hm;rw[z]at e;cases e
structure Mod(K:a8)(mg:Str->Option Value)(base:bx):Prop where
 uK:K.In base
 glob:base.Ns et mg
 blt:∃ jN,base.Ns uk jN/\∀ x:Str,x≠"__name__"->jN x=XV x
 nolimit:base.NoLimit
structure a0 where
 prog:bZ
 w:bM
 K:a8
 mg:Str->Option Value
 base:bx
 A:cK
 N:List Str
 s₀:ay
 H₀:au
 env:Env
 outer:List Env
 stack:List Env
 ex:List Addr
 fn:Str->Bool
 calm:Bool
 pn:List (Addr×Obj)
 xe:Value->ay->Prop
noncomputable def jO(l:List Env):List Addr:=l.filterMap (·.frame)
noncomputable abbrev a0.fs(X:a0):List Addr:=jO X.outer
noncomputable def lJ(sc:eV)(x:Str):Prop:=sc.names.lookup x=some .local\/sc.names.lookup x=some .cell\/sc.names.lookup x=some .free
noncomputable def Loc(sc:eV)(x:Str):Prop:=sc.names.lookup x=some .local\/sc.names.lookup x=some .cell
noncomputable def Look(env:Env)(h:bx)(m:Str->Option Value)(x:Str)(u:Value):Prop:=
 (env.kindOf x=some .local/\m x=some u)\/((env.kindOf x=some .cell\/env.kindOf x=some .free)/\∃ c,env.cells.lookup x=some c/\h.IsCell c (some u))
structure a0.Ok(X:a0):Prop where
 mod:Mod X.K X.mg X.base
 kind:X.env.scope.kind=.function
 glob:X.env.globals=et
 blt:X.env.builtins=uk
 above:X.s₀.heap.objs.size<=X.env.locals
 inj:∀ x y c,X.env.cells.lookup x=some c->X.env.cells.lookup y=some c->x=y
 has:∀ x,(X.env.kindOf x=some .cell\/X.env.kindOf x=some .free)->∃ c,X.env.cells.lookup x=some c
 sC:∀ x c,X.fn x=true->X.env.cells.lookup x=some c->X.s₀.heap.objs.size<=c
 hd:X.calm=true->X.A.handled=none
 frames:X.A.frames=some X.stack
 yc:X.stack=X.outer\/(X.stack=X.env::X.outer/\X.env.frame=some X.env.locals)
 GP:∀ b∈X.ex,b≠X.env.locals/\∀ x c,X.env.cells.lookup x=some c->c≠b
 bs:∀ b o,X.base.get? b=some o->X.s₀.heap.get? b=some o/\X.H₀ b=none
 lK:X.base.objs.size<=X.s₀.heap.objs.size
 uL:∀ b o,X.base.get? b=some o->b ∉ X.ex
 yd:∀ b∈X.ex,b ∉ X.fs
 jP:X.s₀.heap.FunFrames X.base X.outer
 nY:∀ b∈X.fs,X.H₀ b=none
structure Inv(X:a0)(pins:List (Addr×Obj))(σ:List (Option V))(H:au)(s:ay):Prop where
 ok:X.Ok
 os:s.os=X.s₀.os
 bare:oZ s.gens
 base:fi X.fs X.ex X.H₀ H X.s₀.heap s.heap
 loc:∃ m,s.heap.Ns X.env.locals m/\∀(i:Nat)(x:Str)(v:V),X.N[i]?=some x->σ[i]?=some (some v)->lJ X.env.scope x->∃ u,RelV v u/\Look X.env s.heap m x u
 cell:∀ x c,X.env.cells.lookup x=some c->∃ v,s.heap.IsCell c v
 free:H X.env.locals=none
 jQ:∀ x c,X.env.cells.lookup x=some c->H c=none
 pin:∀ p∈X.pn++pins,s.heap.get? p.1=some p.2/\H p.1=none/\p.1≠X.env.locals/\p.1 ∉ X.fs/\∀ v,p.2.data≠.cell v
 bt:dW X.prog X.w H s.heap
 len:σ.length=X.N.length
section
variable{X:a0}{pins:List (Addr×Obj)}{σ:List (Option V)}{H ak:au}{s:ay}{h':bx}
theorem a0.Ok.OP(ok:X.Ok){b:Addr}{o:Obj}(e:X.base.get? b=some o):b ∉ X.fs:=λ af=>by
 have:=(ok.jP.mem af).1;rw[e]at this;cases this
theorem Inv.bs(I:Inv X pins σ H s):∀ b o,X.base.get? b=some o->s.heap.get? b=some o/\H b=none:=λ b o e=>
 ⟨I.base.keep b o (I.ok.bs b o e).1 (I.ok.bs b o e).2 (I.ok.OP e) (I.ok.uL b o e),I.base.free b o (I.ok.bs b o e).1 (I.ok.bs b o e).2 (I.ok.uL b o e)⟩
theorem Inv.bk(I:Inv X pins σ H s):∀ b o,X.base.get? b=some o->s.heap.get? b=some o:=λ b o e=>(I.bs b o e).1
theorem Inv.mod(I:Inv X pins σ H s):Mod X.K X.mg X.base:=I.ok.mod
theorem Inv.gN(I:Inv X pins σ H s):X.K.In s.heap:=I.ok.mod.uK.keeps I.bk
theorem Inv.lt(I:Inv X pins σ H s):X.env.locals<s.heap.objs.size:=let ⟨_,bc,_⟩:=I.loc;bc.lt
theorem Inv.aL(I:Inv X pins σ H s):X.s₀.heap.objs.size<=s.heap.objs.size:=eG I.ok.above (pa I.lt)
theorem Inv.ye(I:Inv X pins σ H s){a:Addr}(h:s.heap.objs.size<=a):a ∉ X.fs:=λ af=>by
 obtain⟨_,o,aO,_⟩:=I.ok.jP.mem af;exact absurd (hH (cm aO) (eG I.aL h)) (lF _)
theorem Inv.pg(I:Inv X pins σ H s):∀ x c,X.env.cells.lookup x=some c->c≠X.env.locals:=λ x c e z=>by
 obtain⟨v,o,aO,hd⟩:=I.cell x c e;obtain⟨m,⟨cy,es,ep,qU,eI,_⟩,_⟩:=I.loc;rw[z,qU]at aO;cases aO;rw[eI]at hd;cases hd
theorem Inv.jP(I:Inv X pins σ H s):s.heap.FunFrames X.base X.outer:=by
 have all:∀(l:List Env),(∀ b∈jO l,b∈X.fs)->X.s₀.heap.FunFrames X.base l->s.heap.FunFrames X.base l:=by
  intro l
  induction l with
  |nil=>intro _ _;trivial
  | cons env r bG=>
   intro av aH;obtain⟨aI,⟨L,o,hf,bc,aO,hd⟩,aq⟩:=aH;have eg:L∈X.fs:=av L (by unfold jO;rw[o4,hf];exact dP);obtain⟨ck,e⟩:=I.base.slot L o aO (I.ok.nY L eg) eg λ z=>I.ok.yd L z eg;exact⟨aI,⟨L,_,hf,bc,e,hd⟩,bG (λ b af=>av b (by unfold jO;rw[o4,hf];exact eE _ af)) aq⟩
 exact all X.outer (λ _ af=>af) I.ok.jP
theorem Inv.stack(I:Inv X pins σ H s):s.heap.FunFrames X.base X.stack:=by
 rcases I.ok.yc with e|⟨e,hf⟩
 ·rw[e];exact I.jP
 ·rw[e];obtain⟨m,bc,_⟩:=I.loc;refine .cons (by rw[I.ok.kind];decide) hf bc ?_ I.jP;exact Heap.get?_none_of_le (eG I.ok.lK I.ok.above)
theorem Inv.uM(I:Inv X pins σ H s):∀ b∈jO X.stack,b∈X.env.locals::X.fs:=λ b af=>by
 rcases I.ok.yc with e|⟨e,hf⟩
 ·rw[e]at af;exact eE _ af
 ·rw[e]at af;unfold jO at af;rw[o4,hf]at af;exact af
theorem Inv.GQ(I:Inv X pins σ H s):∀ b∈jO X.stack,H b=none:=λ b af=>by
 rcases dw.mp (I.uM b af) with e|af
 ·rw[e];exact I.free
 ·obtain⟨_,o,aO,_⟩:=I.ok.jP.mem af;exact I.base.free b o aO (I.ok.nY b af) λ z=>I.ok.yd b z af
theorem Inv.step{g':Array GenState}{t':Nat}{d':Drawn}{ch:List Addr}(I:Inv X pins σ H s)
 (k4:∀ b∈ch,(b∈X.ex\/X.s₀.heap.objs.size<=b)/\b≠X.env.locals/\(∀ x c,X.env.cells.lookup x=some c->c≠b)/\∀ p∈X.pn++pins,p.1≠b)
 (keep:∀ b o,b≠X.env.locals->b ∉ X.fs->b ∉ ch->s.heap.get? b=some o->H b=none->h'.get? b=some o)
 (slot:∀ b o,b≠X.env.locals->b∈X.fs->b ∉ ch->s.heap.get? b=some o->H b=none->∃ ck,h'.get? b=some {o with slots:=ck}) (free:∀ b o,b ∉ ch->s.heap.get? b=some o->H b=none->ak b=none)
 (there:∀ b o,b ∉ ch->s.heap.get? b=some o->∃ cy,h'.get? b=some cy)
 (kn:∀ b xs,H b=some (.tup xs)->ak b=some (.tup xs)) (jn:∀ b o u,H b=some (.eH o u)->ak b=some (.eH o u)) (jM:∀ b ps,H b=some (.hn ps)->∃ more,ak b=some (.hn (ps++more)))
 (ns:∀ m,s.heap.Ns X.env.locals m->h'.Ns X.env.locals m) (bt:dW X.prog X.w ak h') (a3:oZ g') :
 Inv X pins σ ak {s with heap:=h',gens:=g',drawn:=d',toks:=t'}:=by
 have GR:∀ b o,X.s₀.heap.get? b=some o->b≠X.env.locals:=λ b o e=>du (hH (cm e) I.ok.above)
 have yf:∀ b o,X.s₀.heap.get? b=some o->b ∉ X.ex->b ∉ ch:=λ b o e aA af=>by
  rcases(k4 b af).1 with z|z
  ·exact aA z
  ·exact absurd (hH (cm e) z) (lF _)
 have cellK:∀ x c,X.env.cells.lookup x=some c->∀ v,s.heap.IsCell c v->h'.IsCell c v:=λ x c e v ⟨o,aO,hd⟩=>by
  have uN:c ∉ ch:=λ z=>(k4 c z).2.2.1 x c e rfl;by_cases aE:c∈X.fs
  ·obtain⟨ck,q⟩:=slot c o (I.pg x c e) aE uN aO (I.jQ x c e);exact⟨_,q,hd⟩
  ·exact⟨o,keep c o (I.pg x c e) aE uN aO (I.jQ x c e),hd⟩
 refine⟨I.ok,I.os,a3,⟨λ b o e n af aA=>?_,λ b o e n af aA=>?_,λ b o e n aA=>?_,λ b o e aA=>?_,λ b xs e=>kn b xs (I.base.kn b xs e),λ b o xs e=>jn b o xs (I.base.jn b o xs e),λ b ps e=>?_⟩,?_,λ x c e=>?_,?_,λ x c e=>?_,λ p ax=>?_,bt,I.len⟩
 ·exact keep b o (GR b o e) af (yf b o e aA) (I.base.keep b o e n af aA) (I.base.free b o e n aA)
 ·obtain⟨ck,aC⟩:=I.base.slot b o e n af aA;obtain⟨sl',aF⟩:=slot b _ (GR b o e) af (yf b o e aA) aC (I.base.free b o e n aA);exact⟨sl',aF⟩
 ·obtain⟨cy,aC⟩:=I.base.there b o e aA;exact free b cy (yf b o e aA) aC (I.base.free b o e n aA)
 ·obtain⟨cy,aC⟩:=I.base.there b o e aA;exact there b cy (yf b o e aA) aC
 ·obtain⟨jR,aC⟩:=I.base.jM b ps e;obtain⟨k5,aF⟩:=jM b _ aC;exact⟨jR++k5,by rw[aF,Array.append_assoc]⟩
 ·obtain⟨m,bc,aH⟩:=I.loc;refine⟨m,ns m bc,λ i x v aC aF c6=>?_⟩;obtain⟨u,r,l⟩:=aH i x v aC aF c6;refine⟨u,r,?_⟩;rcases l with l|⟨k,c,e,z⟩
  ·exact .inl l
  ·exact .inr ⟨k,c,e,cellK x c e _ z⟩
 ·obtain⟨v,z⟩:=I.cell x c e;exact⟨v,cellK x c e v z⟩
 ·obtain⟨m,⟨o,_,_,aO,_⟩,_⟩:=I.loc;exact free _ o (λ z=>(k4 _ z).2.1 rfl) aO I.free
 ·obtain⟨v,o,aO,hd⟩:=I.cell x c e;exact free c o (λ z=>(k4 c z).2.2.1 x c e rfl) aO (I.jQ x c e)
 ·obtain⟨e,n,ne,qV,d⟩:=I.pin p ax;have uN:p.1 ∉ ch:=λ z=>(k4 p.1 z).2.2.2 p ax rfl;exact⟨keep p.1 p.2 ne qV uN e n,free p.1 p.2 uN e n,ne,qV,d⟩
theorem Inv.un{t':Nat}(I:Inv X pins σ H s)(u:fi X.fs [] H ak s.heap h')(bt:dW X.prog X.w ak h'):Inv X pins σ ak {s with heap:=h',toks:=t'}:=by
 obtain⟨m,⟨o,es,ep,aO,r⟩,_⟩:=id I.loc;obtain⟨ck,eg⟩:=u.any aO I.free (by simp)
 exact I.step (g':=s.gens) (d':=s.drawn) (ch:=[]) (λ _ z=>nomatch z) (λ b o _ af _ e n=>u.keep b o e n af (by simp)) (λ b o _ af _ e n=>u.slot b o e n af (by simp)) (λ b o _ e n=>u.free b o e n (by simp)) (λ b o _ e=>u.there b o e (by simp)) u.kn u.jn u.jM (λ cZ hm=>by
  obtain⟨cy,fw,ho,qU,de⟩:=hm;rw[aO]at qU;cases qU
  exact⟨_,fw,ho,eg,de⟩) bt I.bare
theorem Inv.call{g':Array GenState}{t':Nat}{d':Drawn}{ch:List Addr}(I:Inv X pins σ H s)(u:fi (jO X.stack) ch H ak s.heap h')(bt:dW X.prog X.w ak h')(a3:oZ g')
 (k4:∀ b∈ch,(b∈X.ex\/X.s₀.heap.objs.size<=b)/\b≠X.env.locals/\(∀ x c,X.env.cells.lookup x=some c->c≠b)/\∀ p∈X.pn++pins,p.1≠b) :
 Inv X pins σ ak {s with heap:=h',gens:=g',drawn:=d',toks:=t'}:=by
 obtain⟨m,⟨o,es,ep,aO,r⟩,_⟩:=id I.loc;obtain⟨ck,eg⟩:=u.any aO I.free λ z=>(k4 _ z).2.1 rfl
 exact I.step (ch:=ch) k4 (λ b o eg af aE e n=>u.keep b o e n (λ z=>(dw.mp (I.uM b z)).elim eg af) aE) (λ b o _ _ aE e n=>u.any e n aE) (λ b o aE e n=>u.free b o e n aE) (λ b o aE e=>u.there b o e aE) u.kn u.jn u.jM (λ cZ hm=>by
  obtain⟨cy,fw,ho,qU,de⟩:=hm;rw[aO]at qU;cases qU
  exact⟨_,fw,ho,eg,de⟩) bt a3
theorem Inv.turned{t':Nat}{it:Addr}(I:Inv X pins σ H s)(k:∀ b o,b≠it->s.heap.get? b=some o->h'.get? b=some o)(bc:H it=none)(eg:it≠X.env.locals)
 (ag:it∈X.ex\/X.s₀.heap.objs.size<=it) (ai:∀ x c,X.env.cells.lookup x=some c->c≠it) (aT:∀ p∈X.pn++pins,p.1≠it):Inv X pins σ H {s with heap:=h',toks:=t'}:=by
 have uO:∀ b u,H b=some u->b≠it:=λ b u e z=>by rw[z,bc]at e;cases e
 refine I.step (g':=s.gens) (d':=s.drawn) (ch:=[it]) (λ b af=>?_) (λ b o _ _ aE e _=>k b o (λ z=>aE (by simp[z])) e) (λ b o _ _ aE e _=>⟨o.slots,k b o (λ z=>aE (by simp[z])) e⟩) (λ _ _ _ _ n=>n)
  (λ b o aE e=>⟨o,k b o (λ z=>aE (by simp[z])) e⟩) (λ _ _ e=>e) (λ _ _ _ e=>e) (λ b ps e=>⟨#[],by rw[e];simp⟩) (λ m hm=>?_) (λ b u e=>?_) I.bare
 ·have e:b=it:=by simpa using af
  subst e;exact⟨ag,eg,ai,aT⟩
 ·obtain⟨o,es,ep,aO,r⟩:=hm;exact⟨o,es,ep,k _ o (Ne.symm eg) aO,r⟩
 ·refine(I.bt b u e).jK (λ c v aE q=>k c v ?_ q) (λ _ q=>q) λ _ _ q=>q;rcases aE with z|z
  ·rw[z];exact uO b u e
  ·exact uO c _ z
theorem Inv.tok(I:Inv X pins σ H s)(t:Nat):Inv X pins σ H {s with toks:=t}:=I.un (h':=s.heap) (t':=t) fi.refl I.bt
theorem Inv.kept{t':Nat}(I:Inv X pins σ H s)(k:∀ b u,s.heap.get? b=some u->h'.get? b=some u):Inv X pins σ H {s with heap:=h',toks:=t'}:=I.un (fi.kept k) (I.bt.kept k)
theorem Inv.laid{a:Addr}{o:fv}{t':Nat}(I:Inv X pins σ H s)(k:∀ b u,s.heap.get? b=some u->h'.get? b=some u)(ax:s.heap.objs.size<=a)(new:ez X.prog X.w (upd H a o) h' a o) :
 Inv X pins σ (upd H a o) {s with heap:=h',toks:=t'}:=I.un (fi.laid k ax (I.bt.fresh ax)) (I.bt.laid k ax new)
theorem Inv.write{x e:Addr}{o:fv}{t':Nat}(I:Inv X pins σ H s)(jL:uJ (H x))(he:e=x\/H e=some (.own x))(k:∀ b u,b≠e->s.heap.get? b=some u->h'.get? b=some u)(sB:∃ u,h'.get? e=some u)
 (new:ez X.prog X.w (upd H x o) h' x o):Inv X pins σ (upd H x o) {s with heap:=h',toks:=t'}:=I.un (fi.write jL he k sB) (I.bt.write jL he k sB new)
theorem Inv.GS{GU:List (Addr×Obj)}(I:Inv X pins σ H s)(h:∀ p∈GU,s.heap.get? p.1=some p.2/\H p.1=none/\p.1≠X.env.locals/\p.1 ∉ X.fs/\∀ v,p.2.data≠.cell v):Inv X GU σ H s:=
 ⟨I.ok,I.os,I.bare,I.base,I.loc,I.cell,I.free,I.jQ,λ p ax=>(hF.mp ax).elim (λ z=>I.pin p (o5 _ z)) (h p),I.bt,I.len⟩
theorem GV{N:List Str}(cn:N.Nodup){i j:Nat}{x:Str}(a:N[i]?=some x)(b:N[j]?=some x):i=j:=by
 obtain⟨ag,aC⟩:=f5.mp a;obtain⟨ai,aF⟩:=f5.mp b;exact(List.getElem_inj cn).mp (aC.trans aF.symm)
theorem GW{M:Model}{A:cK}{E:Value->ay->Prop}{i:Nat}{x:Str}{v:V}{u:Value}{Q:Unit->ay->Prop}(I:Inv X pins σ H s)(cn:X.N.Nodup)(ar:X.N[i]?=some x)(aA:Loc X.env.scope x)(r:RelV v u)
 (h:∀ s',Inv X pins (σ.set i (some v)) H s'->(∃ a,Heap.SameBut a s.heap s'.heap/\(a=X.env.locals\/X.env.cells.lookup x=some a))->Q () s') (hf:X.fn x=true\/X.env.scope.names.lookup x=some .local:=by first|exact .inl rfl|exact .inr rfl|assumption):aD M A (storeName X.env x u) Q E s:=by
 obtain⟨m,bc,aH⟩:=id I.loc
 have OQ:(X.env.scope.kind==.class||(X.env.scope.kind==.module&&X.env.locals !=X.env.globals))=false:=by rw[I.ok.kind];rfl
 have arσ:i<σ.length:=by rw[I.len];exact(f5.mp ar).1
 have pg:=I.pg
 have tracked:∀{a:Addr}{h':bx},(∃ o,s.heap.get? a=some o/\H a=none)->Heap.SameBut a s.heap h'->dW X.prog X.w H h':=λ{a h'} aB av b cw e=>by
  obtain⟨_,_,GX⟩:=aB;refine(I.bt b cw e).jK (λ c hK aE q=>(av.2 c ?_).trans q) (λ _ q=>q) λ _ _ q=>q;rintro rfl;rcases aE with rfl|aE
  ·rw[GX]at e;cases e
  ·rw[GX]at aE;cases aE
 rcases aA with aI|aI
 ·refine wpAny_storeName_local aI bc (λ h' OR av=>?_) OQ;obtain⟨OS,_,_,OT,_⟩:=id bc;refine h _ ⟨I.ok,I.os,I.bare,⟨λ b o e n af aA=>?_,λ b o e n af aA=>?_,I.base.free,λ b o e aA=>?_,I.base.kn,I.base.jn,I.base.jM⟩,⟨_,OR,λ j y iW aC aF c6=>?_⟩,λ y c e=>?_,I.free,I.jQ,λ p ax=>?_,tracked ⟨OS,OT,I.free⟩ av,by simpa using I.len⟩ ⟨_,av,.inl rfl⟩
  ·exact(av.2 b (du (hH (cm e) I.ok.above))).trans (I.base.keep b o e n af aA)
  ·obtain⟨ck,aC⟩:=I.base.slot b o e n af aA;exact⟨ck,(av.2 b (du (hH (cm e) I.ok.above))).trans aC⟩
  ·obtain⟨cy,aC⟩:=I.base.there b o e aA;exact⟨cy,(av.2 b (du (hH (cm e) I.ok.above))).trans aC⟩
  ·by_cases bW:j=i
   ·subst bW;rw[ar]at aC;cases aC;rw[List.getElem?_set_self arσ]at aF;cases aF;exact⟨u,r,.inl ⟨aI,by simp⟩⟩
   ·rw[xN (Ne.symm bW)]at aF;obtain⟨mQ,de,q⟩:=aH j y iW aC aF c6;refine⟨mQ,de,?_⟩;rcases q with⟨k,e⟩|⟨k,c,e,z⟩
    ·refine .inl ⟨k,?_⟩;have:y≠x:=λ e=>bW (GV cn aC (e ▸ ar));simp[this,e]
    ·exact .inr ⟨k,c,e,z.sameBut av (pg y c e)⟩
  ·obtain⟨hK,z⟩:=I.cell y c e;exact⟨hK,z.sameBut av (pg y c e)⟩
  ·obtain⟨e,n,ne,qV,d⟩:=I.pin p ax;exact⟨(av.2 p.1 ne).trans e,n,ne,qV,d⟩
 ·have mR:X.fn x=true:=by
   rcases hf with z|z
   ·exact z
   ·rw[z]at aI;cases aI
  obtain⟨c,aE⟩:=I.ok.has x (.inl aI);obtain⟨hK,z⟩:=I.cell x c aE;refine wpAny_storeName_cell I.ok.kind aI aE z (λ h' sD av=>?_);obtain⟨dT,sE,OU⟩:=id z;refine h {s with heap:=h'} ⟨I.ok,I.os,I.bare,⟨λ b o e n af aA=>?_,λ b o e n af aA=>?_,I.base.free,λ b o e aA=>?_,I.base.kn,I.base.jn,I.base.jM⟩,⟨m,bc.sameBut av (Ne.symm (pg x c aE)),λ j y iW aC aF c6=>?_⟩,λ y cu e=>?_,I.free,I.jQ,λ p ax=>?_,tracked ⟨dT,sE,I.jQ x c aE⟩ av,by simpa using I.len⟩ ⟨c,av,.inr aE⟩
  ·exact(av.2 b (du (hH (cm e) (I.ok.sC x c mR aE)))).trans (I.base.keep b o e n af aA)
  ·obtain⟨ck,aC⟩:=I.base.slot b o e n af aA;exact⟨ck,(av.2 b (du (hH (cm e) (I.ok.sC x c mR aE)))).trans aC⟩
  ·obtain⟨cy,aC⟩:=I.base.there b o e aA;exact⟨cy,(av.2 b (du (hH (cm e) (I.ok.sC x c mR aE)))).trans aC⟩
  ·by_cases bW:j=i
   ·subst bW;rw[ar]at aC;cases aC;rw[List.getElem?_set_self arσ]at aF;cases aF;exact⟨u,r,.inr ⟨.inl aI,c,aE,sD⟩⟩
   ·rw[xN (Ne.symm bW)]at aF;obtain⟨mQ,de,q⟩:=aH j y iW aC aF c6;refine⟨mQ,de,?_⟩;rcases q with q|⟨k,cu,e,gT⟩
    ·exact .inl q
    ·refine .inr ⟨k,cu,e,gT.sameBut av ?_⟩;rintro rfl;exact bW (GV cn aC (I.ok.inj _ _ _ e aE ▸ ar))
  ·by_cases GY:cu=c
   ·subst GY;exact⟨_,sD⟩
   ·obtain⟨h9,c7⟩:=I.cell y cu e;exact⟨h9,c7.sameBut av GY⟩
  ·obtain⟨e,n,ne,qV,d⟩:=I.pin p ax;refine⟨(av.2 p.1 ?_).trans e,n,ne,qV,d⟩;intro q;rw[q,sE]at e;have h8:dT=p.2:=eW.inj e;exact d hK (by rw[<- h8];exact OU)
theorem uP{M:Model}{A:cK}{E:Value->ay->Prop}{i:Nat}{x:Str}{v:V}{u:Value}{Q:Unit->ay->Prop}(I:Inv X pins σ H s)(cn:X.N.Nodup)(ar:X.N[i]?=some x)(aA:Loc X.env.scope x)(r:RelV v u)
 (h:∀ s',Inv X pins (σ.set i (some v)) H s'->Q () s') (hf:X.fn x=true\/X.env.scope.names.lookup x=some .local:=by first|exact .inl rfl|exact .inr rfl|assumption):aD M A (storeName X.env x u) Q E s:=
 GW I cn ar aA r (λ s' iX _=>h s' iX) hf
theorem Inv.OV{s':ay}{ch:List Addr}(I:Inv X pins σ H s)(aO:s'.os=s.os)(u:fi (jO X.stack) ch H ak s.heap s'.heap)(bt:dW X.prog X.w ak s'.heap)(a3:oZ s'.gens)
 (k4:∀ b∈ch,(b∈X.ex\/X.s₀.heap.objs.size<=b)/\b≠X.env.locals/\(∀ x c,X.env.cells.lookup x=some c->c≠b)/\∀ p∈X.pn++pins,p.1≠b):Inv X pins σ ak s':=by
 obtain⟨h',g',d',t',cy⟩:=s';have e:cy=s.os:=aO;subst e;exact I.call (g':=g') (t':=t') (d':=d') u bt a3 k4
end
noncomputable abbrev iA:=Value->Option Addr->au->Prop
noncomputable abbrev St:=List (Option V)
noncomputable abbrev cC:=V->au->Prop
noncomputable abbrev TE:=St->au->cC->Prop
noncomputable abbrev TT:=St->au->(Bool->au->Prop)->Prop
noncomputable abbrev eX:=St->au->(List V->au->Prop)->Prop
structure Ends where
 nx:St->au->Prop
 rt:cC
 bk:St->au->Prop:=λ _ _=>False
 ct:St->au->Prop:=λ _ _=>False
noncomputable abbrev fj:=Ends->St->au->Prop
noncomputable def gy(X:a0)(pins:List (Addr×Obj))(σ:St)(Q:cC)(u:Value)(s':ay):Prop:=∃ v ak,Inv X pins σ ak s'/\RelV v u/\Q v ak
noncomputable def yg(X:a0)(pins:List (Addr×Obj))(σ:St)(Q:Bool->au->Prop)(b:Bool)(s':ay):Prop:=∃ ak,Inv X pins σ ak s'/\Q b ak
noncomputable def OW(X:a0)(pins:List (Addr×Obj))(σ:St)(Q:List V->au->Prop)(us:List Value)(s':ay):Prop:=∃ ae ak,Inv X pins σ ak s'/\Vals ae us/\Q ae ak
noncomputable def ph(X:a0)(pins:List (Addr×Obj))(D:Ends)(f:Flow)(s':ay):Prop:=
 match f with
 |.next=>∃ σ' ak,Inv X pins σ' ak s'/\D.nx σ' ak
 |.brk=>∃ σ' ak,Inv X pins σ' ak s'/\D.bk σ' ak
 |.cont=>∃ σ' ak,Inv X pins σ' ak s'/\D.ct σ' ak
 |.ret u=>∃ v σ' ak,Inv X pins σ' ak s'/\RelV v u/\D.rt v ak
noncomputable def bO(X:a0)(e:a5)(t:TE):Prop:=
 ∀(pins:List (Addr×Obj))(s:ay)(σ:St)(H:au)(Q:cC),Inv X pins σ H s->t σ H Q->aD (aK X.prog X.w) X.A (eval e X.env) (gy X pins σ Q) X.xe s
noncomputable def jS(X:a0)(e:a5)(t:TT):Prop:=
 ∀(pins:List (Addr×Obj))(s:ay)(σ:St)(H:au)(Q:Bool->au->Prop),Inv X pins σ H s->t σ H Q->aD (aK X.prog X.w) X.A (mE e X.env (eval e X.env)) (yg X pins σ Q) X.xe s
noncomputable def mS(X:a0)(e:a5)(t:TT):Prop:=
 ∀(whole:Sem Value)(pins:List (Addr×Obj))(s:ay)(σ:St)(H:au)(Q:Bool->au->Prop),Inv X pins σ H s->t σ H Q->aD (aK X.prog X.w) X.A (mE e X.env whole) (yg X pins σ Q) X.xe s
theorem mS.pt{X:a0}{e:a5}{t:TT}(h:mS X e t):jS X e t:=h _
noncomputable def h_(X:a0)(es:List a5)(t:eX):Prop:=
 ∀(pos:Pos)(pins:List (Addr×Obj))(s:ay)(σ:St)(H:au)(Q:List V->au->Prop),Inv X pins σ H s->t σ H Q->aD (aK X.prog X.w) X.A (lC (fS pos (di es X.env))) (OW X pins σ Q) X.xe s
noncomputable def jT(X:a0)(st:bC)(t:fj):Prop:=
 ∀(pins:List (Addr×Obj))(s:ay)(σ:St)(H:au)(D:Ends),Inv X pins σ H s->t D σ H->aD (aK X.prog X.w) X.A (exec st X.env) (ph X pins D) X.xe s
noncomputable def jo(X:a0)(st:List bC)(t:fj):Prop:=
 ∀(pins:List (Addr×Obj))(s:ay)(σ:St)(H:au)(D:Ends),Inv X pins σ H s->t D σ H->aD (aK X.prog X.w) X.A (execs st X.env) (ph X pins D) X.xe s
theorem bU{α:Type}{t:Sem α}{Q gA:α->ay->Prop}{M:Model}{A:cK}{E:Value->ay->Prop}{s:ay}(h:aD M A t Q E s)(db:∀ a s,Q a s->gA a s):aD M A t gA E s:=h4 h db λ _ _ x=>x
section
variable{X:a0}
theorem bin{a b:a5}{bw b4:TE}(aB:bO X a bw)(af:bO X b b4){pins:List (Addr×Obj)}{s:ay}{σ:St}{H:au}{R:V->V->au->Prop}(I:Inv X pins σ H s)(h:bw σ H λ x H1=>b4 σ H1 λ y aQ=>R x y aQ)
 {α:Type} {Q:α->ay->Prop} {f:Value->Value->Sem α}
 (hf:∀ v u s2 x y aQ,Inv X pins σ aQ s2->RelV x v->RelV y u->R x y aQ->aD (aK X.prog X.w) X.A (f v u) Q X.xe s2) :
 aD (aK X.prog X.w) X.A (eval a X.env) (λ v dx=>aD (aK X.prog X.w) X.A (eval b X.env) (λ u mT=>aD (aK X.prog X.w) X.A (f v u) Q X.xe mT) X.xe dx) X.xe s:=by
 refine bU (aB pins s σ H _ I h) λ v s1 xz=>?_;obtain⟨x,H1,aZ,bf,aG⟩:=xz;refine bU (af pins s1 σ H1 _ aZ aG) λ u s2 xz=>?_;obtain⟨y,aQ,bY,bD,bv⟩:=xz;exact hf v u s2 x y aQ bY bf bD bv
noncomputable def GZ(i:Nat):TE:=λ σ H Q=>∃ v,σ[i]?=some (some v)/\Q v H
noncomputable def ko(v:V):TE:=λ _ H Q=>Q v H
theorem A1{i:Nat}{x:Str}{pos:Pos}(cn:X.N[i]?=some x)(bu:lJ X.env.scope x)(hd:(x==("__debug__" : Str))=false:=by decide)(eN:(x==("__classdict__" : Str))=false:=by decide):bO X (.Name x pos) (GZ i):=by
 intro pins s σ H Q I h;obtain⟨v,e,h⟩:=h;obtain⟨m,bc,aH⟩:=I.loc;obtain⟨u,r,l⟩:=aH i x v cn e bu
 have fin:gy X pins σ Q u s:=⟨v,H,I,r,h⟩
 rcases l with⟨aI,hm⟩|⟨aI,c,aE,yh⟩
 ·exact wpAny_Name (wpAny_loadName_local I.ok.kind aI bc hm fin) hd
 ·rcases aI with aI|aI
  ·exact wpAny_Name (wpAny_loadName_cell I.ok.kind aI aE yh fin) hd
  ·exact wpAny_Name (wpAny_loadName_free I.ok.kind aI aE yh fin eN) hd
theorem OX {i j pos}:bO X (.Constant (.int i) j pos) (ko (.int i)):=λ _ _ _ H _ I h=>wpAny_Constant_int ⟨.int i,H,I.tok _,⟨_,rfl⟩,h⟩
theorem OY {b j pos}:bO X (.Constant (.bool b) j pos) (ko (.aW b)):=λ _ _ _ H _ I h=>Constant_bool ⟨.aW b,H,I,rfl,h⟩
theorem OZ {j pos}:bO X (.Constant .none j pos) (ko .bE):=λ _ _ _ H _ I h=>Constant_none ⟨.bE,H,I,rfl,h⟩
theorem O0 {x j pos}:bO X (.Constant (.str x) j pos) (ko (.str x)):=λ _ _ _ H _ I h=>Calls.Constant_str ⟨.str x,H,I.tok _,⟨_,rfl⟩,h⟩
noncomputable def c8(X:a0)(x:Str):Prop:=X.env.kindOf x=some .globalImplicit
theorem A2{E:Value->ay->Prop}{pins:List (Addr×Obj)}{s:ay}{σ:St}{H:au}{x:Str}{u:Value}{pos:Pos}{Q:Value->ay->Prop}(I:Inv X pins σ H s)(a3:c8 X x)(hm:X.mg x=some u)(h:Q u s)
 (hd:(x==("__debug__" : Str))=false:=by decide):aD (aK X.prog X.w) X.A (eval (.Name x pos) X.env) Q E s:=
 Calls.Name_function_global I.ok.kind a3 (Calls.loadGlobal_global (by rw[I.ok.glob];exact I.mod.glob.keeps I.bk) hm h) hd
theorem jp{E:Value->ay->Prop}{pins:List (Addr×Obj)}{s:ay}{σ:St}{H:au}{x:Str}{u:Value}{pos:Pos}{Q:Value->ay->Prop}(I:Inv X pins σ H s)(a3:c8 X x)(hm:X.mg x=none)(bu:XV x=some u)(h:Q u s)
 (bc:x≠"__name__":=by decide) (hd:(x==("__debug__" : Str))=false:=by decide):aD (aK X.prog X.w) X.A (eval (.Name x pos) X.env) Q E s:=by
 obtain⟨jN,ag,ai⟩:=I.mod.blt;exact Calls.Name_function_global I.ok.kind a3 (Calls.loadGlobal_builtin (by rw[I.ok.glob];exact I.mod.glob.keeps I.bk) hm (by rw[I.ok.blt];exact ag.keeps I.bk) ((ai x bc).trans bu) h) hd
theorem O1{x:Str}{v:V}{u:Value}{pos:Pos}(a3:c8 X x)(hm:X.mg x=some u)(r:RelV v u)(hd:(x==("__debug__" : Str))=false:=by decide):bO X (.Name x pos) (ko v):=
 λ _ _ _ H _ I h=>A2 I a3 hm ⟨v,H,I,r,h⟩ hd
theorem O2{x:Str}{v:V}{u:Value}{pos:Pos}(a3:c8 X x)(hm:X.mg x=none)(bu:XV x=some u)(r:RelV v u)(bc:x≠"__name__":=by decide)(hd:(x==("__debug__" : Str))=false:=by decide):bO X (.Name x pos) (ko v):=
 λ _ _ _ H _ I h=>jp I a3 hm bu ⟨v,H,I,r,h⟩ bc hd
variable{a b:a5}{bw b4:TE}{pos:Pos}
variable{fW mU:TT}{rest:List a5}
noncomputable def G0(t u:TT):TT:=λ σ H Q=>t σ H λ c H1=>if c=true then u σ H1 Q else Q false H1
noncomputable def G1(t u:TT):TT:=λ σ H Q=>t σ H λ c H1=>if c=true then Q true H1 else u σ H1 Q
noncomputable def G2(t:TT):TT:=λ σ H Q=>t σ H λ c H1=>Q (!c) H1
theorem O3(aB:jS X a fW):mS X (.BoolOp .And [a] pos) fW:=by
 intro nZ pins s σ H Q I h;refine isTrue_and (bU (aB pins s σ H Q I h) λ c s1 e=>?_)
 cases c with
 |true=>exact isTrue_and_nil e
 |false=>exact e
theorem O4(aB:jS X a fW):mS X (.BoolOp .Or [a] pos) fW:=by
 intro nZ pins s σ H Q I h;refine isTrue_or (bU (aB pins s σ H Q I h) λ c s1 e=>?_)
 cases c with
 |false=>exact isTrue_or_nil e
 |true=>exact e
theorem O5(aB:jS X a fW)(af:mS X (.BoolOp .And (b::rest) pos) mU):mS X (.BoolOp .And (a::b::rest) pos) (G0 fW mU):=by
 intro nZ pins s σ H Q I h;refine isTrue_and (bU (aB pins s σ H _ I h) λ c s1 xz=>?_);obtain⟨H1,aZ,aG⟩:=xz
 cases c with
 |true=>exact af nZ pins s1 σ H1 Q aZ aG
 |false=>exact⟨H1,aZ,aG⟩
theorem O6(aB:jS X a fW)(af:mS X (.BoolOp .Or (b::rest) pos) mU):mS X (.BoolOp .Or (a::b::rest) pos) (G1 fW mU):=by
 intro nZ pins s σ H Q I h;refine isTrue_or (bU (aB pins s σ H _ I h) λ c s1 xz=>?_);obtain⟨H1,aZ,aG⟩:=xz
 cases c with
 |true=>exact⟨H1,aZ,aG⟩
 |false=>exact af nZ pins s1 σ H1 Q aZ aG
theorem O7(aB:jS X a fW):jS X (.UnaryOp .Not a pos) (G2 fW):=by
 intro pins s σ H Q I h;exact isTrue_not (aB pins s σ H (λ c H1=>Q (!c) H1) I h)
noncomputable def G3(bw b4:TE):TE:=λ σ H Q=>bw σ H λ x H1=>∃ c,x=.aW c/\if c=true then b4 σ H1 Q else Q (.aW false) H1
noncomputable def G4(bw:TE):TE:=λ σ H Q=>bw σ H λ x H1=>∃ c,x=.aW c/\Q (.aW (!c)) H1
theorem O8 {op} {t:TE} (h:bO X a t):bO X (.BoolOp op [a] pos) t:=λ pins s σ H Q I hw=>BoolOp_one (h pins s σ H Q I hw)
theorem O9(aB:bO X a bw)(af:bO X (.BoolOp .And (b::rest) pos) b4):bO X (.BoolOp .And (a::b::rest) pos) (G3 bw b4):=by
 intro pins s σ H Q I h;refine BoolOp_and (bU (aB pins s σ H _ I h) λ v s1 xz=>?_);obtain⟨x,H1,aZ,bf,aG⟩:=xz;obtain⟨c,rfl,aG⟩:=aG;cases bf;refine WP ?_
 cases c with
 |true=>exact af pins s1 σ H1 Q aZ aG
 |false=>exact⟨.aW false,H1,aZ,rfl,aG⟩
theorem O_(aB:bO X a bw):bO X (.UnaryOp .Not a pos) (G4 bw):=by
 intro pins s σ H Q I h;refine UnaryOp_ (bU (aB pins s σ H _ I h) λ v s1 xz=>?_);obtain⟨x,H1,aZ,bf,aG⟩:=xz;obtain⟨c,rfl,aG⟩:=aG;cases bf;exact not_of (WP ⟨.aW (!c),H1,aZ,rfl,aG⟩)
noncomputable def G5(t:TT)(bw b4:TE):TE:=λ σ H Q=>t σ H λ c H1=>if c=true then bw σ H1 Q else b4 σ H1 Q
theorem Pa{c:a5}(aE:jS X c fW)(aB:bO X a bw)(af:bO X b b4):bO X (.IfExp c a b pos) (G5 fW bw b4):=by
 intro pins s σ H Q I h;refine wpAny_IfExp (bU (aE pins s σ H _ I h) λ d s1 xz=>?_);obtain⟨H1,aZ,aG⟩:=xz
 cases d with
 |true=>exact aB pins s1 σ H1 Q aZ aG
 |false=>exact af pins s1 σ H1 Q aZ aG
end
noncomputable def eh(K:a8)(H:au)(a:Addr)(xs:List V):Prop:=
 iz H a (.lst xs) ∨
  ∃(o:Obj)(aP:Array Value)(n:Nat),K.lookup a=some o/\o.cls=.type "list"/\o.dict=none/\o.data=.seq aP n/\aP.size<=sizeLine/\Vals xs aP.toList
noncomputable def dk(K:a8)(H:au)(a:Addr)(xs:List V):Prop:=
 H a=some (.tup xs)
noncomputable def Pb:Value->Option V
 |.none=>some .bE
 |.bool b=>some (.aW b)
 |.int i _=>some (.int i)
 |.str x _=>some (.str x)
 |.bytes b _=>some (.uI b)
 |.float b _=>some (.sA b)
 |.ref a=>some (.ref a)
 |.type n=>some (.ty n)
 |_=>none
theorem RelV.abs{x:V}{u:Value}(r:RelV x u):Pb u=some x:=by
 cases x with
 |bE=>cases r;rfl
 |aW _=>cases r;rfl
 |int _=>obtain⟨t,rfl⟩:=r;rfl
 |str _=>obtain⟨t,rfl⟩:=r;rfl
 |uI _=>obtain⟨t,rfl⟩:=r;rfl
 |sA _=>obtain⟨t,rfl⟩:=r;rfl
 |ref _=>cases r;rfl
 |ty _=>cases r;rfl
theorem RelV.inj{x y:V}{u:Value}(r:RelV x u)(q:RelV y u):x=y:=eW.inj (r.abs.symm.trans q.abs)
theorem Vals.inj:∀{xs ys:List V}{us:List Value},Vals xs us->Vals ys us->xs=ys
 |_,_,_,.nil,.nil=>rfl
 |_,_,_,.cons r t,.cons de t'=>by rw[r.inj de,Vals.inj t t']
section
variable{X:a0}{pins:List (Addr×Obj)}{σ:St}{H:au}{s:ay}{a:Addr}{xs ys:List V}
theorem eh.of{K:a8}(h:H a=some (.lst xs)):eh K H a xs:=.inl (.inl h)
theorem dk.of{K:a8}(h:H a=some (.tup xs)):dk K H a xs:=h
theorem Inv.list(I:Inv X pins σ H s)(h:eh X.K H a xs):∃ aP:List Value,Vals xs aP/\PlainL s.heap a aP.toArray/\xs.length<=sizeLine:=by
 rcases h with h|⟨o,aP,n,aI,aE,hd,av,hz,r⟩
 ·obtain⟨z,aP,n,r,e⟩:=h.ok I.bt;exact⟨aP,r,⟨_,n,e,rfl,rfl,rfl⟩,z⟩
 ·refine⟨aP.toList,r,⟨o,n,I.gN a o aI,aE,hd,by simpa using av⟩,?_⟩;have e:=r.length;simp only[fu]at e;omega
theorem Inv.tuple(I:Inv X pins σ H s)(h:dk X.K H a xs):∃ aP:List Value,Vals xs aP/\ji s.heap a aP.toArray/\xs.length<=sizeLine:=by
 obtain⟨z,aP,r,p⟩:=I.bt a _ h;exact⟨aP,r,p,z⟩
theorem Inv.G6(I:Inv X pins σ H s)(h:eh X.K H a xs)(h':eh X.K H a ys):xs=ys:=by
 obtain⟨aP,r,⟨o,n,e,_,_,d⟩,_⟩:=I.list h;obtain⟨its',de,⟨cy,uQ,b0,_,_,d'⟩,_⟩:=I.list h';rw[e]at b0;cases b0;rw[d]at d';injection d' with iY _
 have:aP=its':=by simpa using congrArg Array.toList iY
 subst this;exact r.inj de
theorem Inv.uR(I:Inv X pins σ H s)(h:dk X.K H a xs)(h':dk X.K H a ys):xs=ys:=by
 obtain⟨aP,r,⟨o,e,_,n,d⟩,_⟩:=I.tuple h;obtain⟨its',de,⟨cy,b0,_,uQ,d'⟩,_⟩:=I.tuple h';rw[e]at b0;cases b0;rw[d]at d';injection d' with iY _
 have:aP=its':=by simpa using congrArg Array.toList iY
 subst this;exact r.inj de
end
noncomputable abbrev a0.mV(X:a0)(E:Value->ay->Prop):a0:={X with xe:=E}
noncomputable abbrev a0.pi(X:a0):a0:=X.mV λ _ _=>False
theorem a0.Ok.mV{X:a0}(ok:X.Ok)(E:Value->ay->Prop):(X.mV E).Ok:=
 ⟨ok.mod,ok.kind,ok.glob,ok.blt,ok.above,ok.inj,ok.has,ok.sC,ok.hd,ok.frames,ok.yc,ok.GP,ok.bs,ok.lK,ok.uL,ok.yd,ok.jP,ok.nY⟩
theorem a0.Ok.pj{X:a0}{E:Value->ay->Prop}(ok:(X.mV E).Ok):X.Ok:=
 ⟨ok.mod,ok.kind,ok.glob,ok.blt,ok.above,ok.inj,ok.has,ok.sC,ok.hd,ok.frames,ok.yc,ok.GP,ok.bs,ok.lK,ok.uL,ok.yd,ok.jP,ok.nY⟩
section
variable{X:a0}{pins:List (Addr×Obj)}{σ:St}{H:au}{s:ay}{E:Value->ay->Prop}
theorem Inv.mV(I:Inv X pins σ H s)(E:Value->ay->Prop):Inv (X.mV E) pins σ H s:=⟨I.ok.mV E,I.os,I.bare,I.base,I.loc,I.cell,I.free,I.jQ,I.pin,I.bt,I.len⟩
theorem Inv.pj(I:Inv (X.mV E) pins σ H s):Inv X pins σ H s:=⟨I.ok.pj,I.os,I.bare,I.base,I.loc,I.cell,I.free,I.jQ,I.pin,I.bt,I.len⟩
theorem ph.pj{D:Ends}{f:Flow}{s':ay}(h:ph (X.mV E) pins D f s'):ph X pins D f s':=by
 cases f with
 |next=>obtain⟨σ',ak,I,q⟩:=h;exact⟨σ',ak,I.pj,q⟩
 |brk=>obtain⟨σ',ak,I,q⟩:=h;exact⟨σ',ak,I.pj,q⟩
 |cont=>obtain⟨σ',ak,I,q⟩:=h;exact⟨σ',ak,I.pj,q⟩
 |ret u=>obtain⟨v,σ',ak,I,r,q⟩:=h;exact⟨v,σ',ak,I.pj,r,q⟩
theorem jo.pi{st:List bC}{t:fj}(h:jo X.pi st t):jo X st t:=λ pins s σ H D I hw=>
 h4 (h pins s σ H D (I.mV _) hw) (λ _ _ q=>q.pj) λ _ _ z=>False.elim z
end
section
variable{X:a0}{st:bC}{rest:List bC}{t u:fj}{e:a5}{aU:TE}{pos:Pos}
noncomputable def G7:fj:=λ D σ H=>D.nx σ H
noncomputable def G8(t u:fj):fj:=λ D σ H=>t {D with nx:=u D} σ H
theorem Pc:jo X [] G7:=λ _ _ σ H _ I h=>xv ⟨σ,H,I,h⟩
theorem Pd(ag:jT X st t)(ai:jo X rest u):jo X (st::rest) (G8 t u):=by
 intro pins s σ H D I h;refine wpAny_execs_cons (bU (ag pins s σ H {D with nx:=u D} I h) λ f s1 q=>?_)
 cases f with
 | next=>
  obtain⟨σ',ak,iX,q⟩:=q;exact ai pins s1 σ' ak D iX q
 |ret v=>exact q
 |brk=>exact q
 |cont=>exact q
theorem Pe(ag:jT X st t):jo X [st] t:=by
 intro pins s σ H D I h;refine wpAny_execs_cons (bU (ag pins s σ H D I h) λ f s1 q=>?_)
 cases f with
 |next=>exact xv q
 |ret v=>exact q
 |brk=>exact q
 |cont=>exact q
theorem Inv.quiet{pins:List (Addr×Obj)}{σ:St}{H:au}{s:ay}(I:Inv X pins σ H s):interactive X.env=false:=by simp[interactive,I.ok.kind]
noncomputable def G9(aU:TE):fj:=λ D σ H=>aU σ H λ _ H1=>D.nx σ H1
theorem Pf(he:bO X e aU)(av:kZ e none pos.line X.env=pure false:=by rfl):jT X (.Expr e pos) (G9 aU):=by
 intro pins s σ H D I h;refine wpAny_Expr_any (bU (he pins s σ H _ I h) λ v s1 xz=>?_) I.quiet av;obtain⟨x,H1,aZ,bf,aG⟩:=xz;exact⟨σ,H1,aZ,aG⟩
noncomputable def G_(aU:TE):fj:=λ D σ H=>aU σ H D.rt
theorem Pg(he:bO X e aU):jT X (.Return (some e) pos) (G_ aU):=by
 intro pins s σ H D I h;refine wpAny_Return_some (bU (he pins s σ H _ I h) λ v s1 xz=>?_);obtain⟨x,H1,aZ,bf,aG⟩:=xz;exact⟨x,σ,H1,aZ,bf,aG⟩
noncomputable def Ha(c:TT)(t u:fj):fj:=λ D σ H=>c σ H λ b H1=>if b=true then t D σ H1 else u D σ H1
theorem Ph{c:a5}{a b:List bC}{bg:TT}(aE:jS X c bg)(aB:jo X a t)(af:jo X b u):jT X (.If c a b pos) (Ha bg t u):=by
 intro pins s σ H D I h;refine wpAny_If (bU (aE pins s σ H _ I h) λ d s1 xz=>?_);obtain⟨H1,aZ,aG⟩:=xz
 cases d with
 |true=>exact aB pins s1 σ H1 D aZ aG
 |false=>exact af pins s1 σ H1 D aZ aG
end
noncomputable abbrev fX:=V->St->au->(St->au->Prop)->Prop
noncomputable abbrev lL:=List V->St->au->(St->au->Prop)->Prop
noncomputable def lM(X:a0)(target:a5)(t:fX):Prop:=
 ∀(pins:List (Addr×Obj))(s:ay)(σ:St)(H:au)(v:V)(u:Value)(Q:St->au->Prop),Inv X pins σ H s->RelV v u->t v σ H Q →
  aD (aK X.prog X.w) X.A (WF target X.env u) (λ _ s'=>∃ σ' ak,Inv X pins σ' ak s'/\Q σ' ak) X.xe s
noncomputable def uS(X:a0)(hL:List a5)(t:lL):Prop:=
 ∀(pins:List (Addr×Obj))(s:ay)(σ:St)(H:au)(ae:List V)(us:List Value)(Q:St->au->Prop),Inv X pins σ H s->Vals ae us->t ae σ H Q →
  aD (aK X.prog X.w) X.A (assignInOrder ((iU hL X.env).map (·.2)) us) (λ _ s'=>∃ σ' ak,Inv X pins σ' ak s'/\Q σ' ak) X.xe s
noncomputable abbrev uT:=V->V->V->au->(au->Prop)->Prop
noncomputable def A3(X:a0)(t:uT):Prop:=
 ∀(pins:List (Addr×Obj))(s:ay)(σ:St)(H:au)(o i v:V)(dG gB u:Value)(Q:au->Prop),Inv X pins σ H s->RelV o dG->RelV i gB->RelV v u->t o i v H Q →
  aD (aK X.prog X.w) X.A (uq dG gB u) (λ _ s'=>∃ ak,Inv X pins σ ak s'/\Q ak) X.xe s
noncomputable abbrev sF:=V->V->au->cC->Prop
noncomputable def A4(X:a0)(op:nP)(t:sF):Prop:=
 ∀(pins:List (Addr×Obj))(s:ay)(σ:St)(H:au)(x y:V)(v u:Value)(Q:cC),Inv X pins σ H s->RelV x v->RelV y u->t x y H Q →
  aD (aK X.prog X.w) X.A (inplaceOp op v u) (gy X pins σ Q) X.xe s
section
variable{X:a0}{pos:Pos}
noncomputable def sG(i:Nat):fX:=λ v σ H Q=>Q (σ.set i (some v)) H
theorem Pi{i:Nat}{x:Str}(cn:X.N.Nodup)(ar:X.N[i]?=some x)(aA:Loc X.env.scope x)(hf:X.fn x=true\/X.env.scope.names.lookup x=some .local:=by first|exact .inl rfl|exact .inr rfl|assumption):lM X (.Name x pos) (sG i):=by
 intro pins s σ H v u Q I r h;exact wpAny_assign_Name (uP I cn ar aA r (λ s' iX=>⟨_,H,iX,h⟩) hf)
noncomputable def Hb:lL:=λ ae σ H Q=>ae=[]/\Q σ H
noncomputable def Hc(t:fX)(u:lL):lL:=λ ae σ H Q=>∃ v r,ae=v::r/\t v σ H λ σ' ak=>u r σ' ak Q
theorem Pj:uS X [] Hb:=by
 intro pins s σ H ae us Q I r h;obtain⟨e,h⟩:=h;subst e;cases r;exact assignInOrder_nil ⟨σ,H,I,h⟩
theorem Pk{e:a5}{es:List a5}{t:fX}{u:lL}(ag:lM X e t)(ai:uS X es u)
 (av:(iU (e::es) X.env).map (·.2)=WF e X.env::(iU es X.env).map (·.2):=by rfl):uS X (e::es) (Hc t u):=by
 intro pins s σ H ae us Q I r h;obtain⟨v,agf,aC,h⟩:=h;subst aC
 cases r with
 | cons r dX=>
  rw[av];refine assignInOrder_cons (bU (ag pins s σ H _ _ _ I r h) λ _ s1 xz=>?_);obtain⟨σ1,H1,aZ,aG⟩:=xz;exact ai pins s1 σ1 H1 _ _ Q aZ dX aG
noncomputable def Hd(K:a8)(n:Nat)(t:lL):fX:=λ v σ H Q=>∃ a xs,v=.ref a/\dk K H a xs/\xs.length=n/\t xs σ H Q
theorem Pl{es:List a5}{k:Nat}{t:lL}{n:Nat}(aE:X.calm=true)(h:uS X es t)
 (bc:(iU es X.env).length=n:=by rfl) (ia:(iU es X.env).findIdx? (·.1)=none:=by rfl):lM X (.Tuple es k pos) (Hd X.K n t):=by
 intro pins s σ H v u Q I r hw;obtain⟨a,xs,aC,aV,aH,hw⟩:=hw;subst aC;cases r;obtain⟨aP,a9,bN,hz⟩:=I.tuple aV;refine assign_Tuple_tuple (I.ok.hd aE) bN (by simp[bc,<- aH,a9.length]) ia λ h' aA=>?_;have aZ:Inv X pins σ H {s with heap:=h'}:=I.kept (t':=s.toks) λ b o e=>aA b o (du (cm e)) e;exact h pins _ σ H xs _ Q aZ (by simpa using a9) hw
noncomputable def He(to d3:TE)(t:uT):fX:=λ v σ H Q=>to σ H λ o H1=>d3 σ H1 λ i aQ=>t o i v aQ λ c9=>Q σ c9
theorem Pm{o i:a5}{to d3:TE}{t:uT}(aO:bO X o to)(ar:bO X i d3)(av:A3 X t)
 (aB:∀ v,WF (.Subscript o i pos) X.env v=(do
  let dG ← jE [v] (eval o X.env)
  let gB ← jE [v,dG] (eval i X.env)
  W1 pos
  jE [v,dG,gB] (uq dG gB v)
  release [v,dG,gB] []):=by intro _;rfl):lM X (.Subscript o i pos) (He to d3 t):=by
 intro pins s σ H v u Q I r h;rw[aB];refine ah (g4 (bU (aO pins s σ H _ I h) λ dG s1 xz=>?_));obtain⟨x,H1,aZ,bf,aG⟩:=xz;refine ah (g4 (bU (ar pins s1 σ H1 _ aZ aG) λ gB s2 xz=>?_));obtain⟨y,aQ,bY,bD,bv⟩:=xz;refine ah (xy (ah (g4 (bU (av pins s2 σ aQ x y v dG gB u _ bY bf bD r bv) λ _ s3 xz=>?_))));obtain⟨c9,dU,dC⟩:=xz;exact wpAny_release ⟨σ,c9,dU,dC⟩
noncomputable def sH(aU:TE)(g:fX):fj:=λ D σ H=>aU σ H λ x H1=>g x σ H1 D.nx
theorem Pn{bd e:a5}{aU:TE}{g:fX}(he:bO X e aU)(a3:lM X bd g)(av:AN [bd] e pos.line X.env=pure false:=by rfl)(hw:AO [bd] e X.env=pure none:=by rfl)
 (ag:(iU [bd] X.env).map (·.2)=[WF bd X.env]:=by rfl):jT X (.Assign [bd] e pos) (sH aU g):=by
 intro pins s σ H D I h;refine wpAny_Assign_stores (bU (he pins s σ H _ I h) λ v s1 xz=>?_) av hw;obtain⟨x,H1,aZ,bf,aG⟩:=xz;rw[ag];exact bU (a3 pins s1 σ H1 x v _ aZ bf aG) λ _ s2 q=>q
theorem Po{i:Nat}{x:Str}{e:a5}{aU:TE}{pos':Pos}(cn:X.N.Nodup)(ar:X.N[i]?=some x)(aA:Loc X.env.scope x)(he:bO X e aU)(av:kZ e (some (.Name x pos')) pos.line X.env=pure false:=by rfl)(hf:X.fn x=true\/X.env.scope.names.lookup x=some .local:=by first|exact .inl rfl|exact .inr rfl|assumption) :
 jT X (.Assign [.Name x pos'] e pos) (sH aU (sG i)):=by
 intro pins s σ H D I h;refine wpAny_Assign_Name (bU (he pins s σ H _ I h) λ v s1 xz=>?_) av;obtain⟨y,H1,aZ,bf,aG⟩:=xz;exact uP aZ cn ar aA bf (λ s2 bY=>⟨_,H1,bY,aG⟩) hf
noncomputable def Hf(i:Nat)(aU:TE)(d3:sF):fj:=λ D σ H=>∃ x,σ[i]?=some (some x)/\aU σ H λ y H1=>d3 x y H1 λ z aQ=>D.nx (σ.set i (some z)) aQ
theorem Pp{i:Nat}{x:Str}{e:a5}{aU:TE}{op:nP}{d3:sF}{pos':Pos}(cn:X.N.Nodup)(ar:X.N[i]?=some x)(aA:Loc X.env.scope x)(he:bO X e aU)(aO:A4 X op d3)(hf:X.fn x=true\/X.env.scope.names.lookup x=some .local:=by first|exact .inl rfl|exact .inr rfl|assumption) :
 jT X (.AugAssign (.Name x pos') op e pos) (Hf i aU d3):=by
 intro pins s σ H D I h;obtain⟨v,aC,h⟩:=h;obtain⟨m,bc,aH⟩:=I.loc
 have Pq:lJ X.env.scope x:=by rcases aA with k|k;exact .inl k;exact .inr (.inl k)
 obtain⟨u,r,l⟩:=aH i x v ar aC Pq;refine wpAny_AugAssign_Name ?_
 have go:aD (aK X.prog X.w) X.A (eval e X.env) (λ w mT=>aD (aK X.prog X.w) X.A (inplaceOp op u w) (λ r yi=>aD (aK X.prog X.w) X.A (storeName X.env x r) (λ _=>ph X pins D .next) X.xe yi) X.xe mT) X.xe s:=by
  refine bU (he pins s σ H _ I h) λ w s1 xz=>?_;obtain⟨y,H1,aZ,bf,aG⟩:=xz;refine bU (aO pins s1 σ H1 v y u w _ aZ r bf aG) λ z s2 xz=>?_;obtain⟨agg,aQ,bY,bD,bv⟩:=xz;exact uP bY cn ar aA bD (λ s3 dU=>⟨_,aQ,dU,bv⟩) hf
 rcases l with⟨aI,hm⟩|⟨aI,c,aE,yh⟩
 ·exact wpAny_loadName_local I.ok.kind aI bc hm go
 ·rcases aI with aI|aI
  ·exact wpAny_loadName_cell I.ok.kind aI aE yh go
  ·rcases aA with k|k
   ·have:X.env.scope.names.lookup x=some .free:=aI;rw[k]at this;cases this
   ·have:X.env.scope.names.lookup x=some .free:=aI;rw[k]at this;cases this
noncomputable def Hg(f:Int->Int->Int):sF:=λ x y H Q=>∃ i j,x=.int i/\y=.int j/\Q (.int (f i j)) H
theorem Pr:A4 X .Add (Hg λ i j=>i+j):=by
 intro pins s σ H x y v u Q I bf bD h;obtain⟨i,j,aC,aF,q⟩:=h;subst aC;subst aF;obtain⟨t,rfl⟩:=bf;obtain⟨t',rfl⟩:=bD;exact iadd_int ⟨.int _,H,I.tok _,⟨_,rfl⟩,q⟩
end
section
variable{X:a0}{pos:Pos}
noncomputable def Hh(c:TT)(b4:fj):fj:=λ D σ H=>∃ W:Nat->St->au->Prop,(∃ m,W m σ H)/\∀ m σ H,W m σ H →
 c σ H λ b H1=>if b=true then ∃ N:St->au->Prop,(∀ σ' ak,N σ' ak->∃ cZ,cZ<m/\W cZ σ' ak)/\b4 {D with nx:=N,ct:=N,bk:=D.nx} σ H1 else D.nx σ H1
theorem Ps{c:a5}{body:List bC}{bg:TT}{b4:fj}(ax:se (aK X.prog X.w) X.A X.env X.xe)(aE:jS X c bg)(af:jo X body b4):jT X (.While c body [] pos) (Hh bg b4):=by
 intro pins s σ H D I h;obtain⟨W,⟨m0,mW⟩,turn⟩:=h;refine wpAny_While (codeAny_whileLoop (λ n s'=>∃ σ' ak,Inv X pins σ' ak s'/\W n σ' ak) ?_ m0 ⟨σ,H,I,mW⟩);rintro n s1 ⟨σ1,H1,aZ,iB⟩;refine qA ax (bU (aE pins s1 σ1 H1 _ aZ (turn n σ1 H1 iB)) λ b s2 xz=>?_);obtain⟨aQ,bY,bv⟩:=xz
 cases b with
 | true=>
  obtain⟨N,cn,bv⟩:=bv;rw[if_pos rfl];refine qA ax (bU (af pins s2 σ1 aQ _ bY bv) λ f s3 dC=>?_)
  cases f with
  | next=>
   obtain⟨σ3,c9,dU,sI⟩:=dC;obtain⟨cZ,hm,n0⟩:=cn σ3 c9 sI;exact⟨cZ,hm,σ3,c9,dU,n0⟩
  | cont=>
   obtain⟨σ3,c9,dU,sI⟩:=dC;obtain⟨cZ,hm,n0⟩:=cn σ3 c9 sI;exact⟨cZ,hm,σ3,c9,dU,n0⟩
  |brk=>exact dC
  |ret v=>exact dC
 | false=>
  rw[if_neg f7];exact xv ⟨σ1,aQ,bY,bv⟩
end
structure hp where
 go:Nat->au->Prop
 n1:Nat->au->V->au->Prop
 stop:Nat->au->Prop
noncomputable def hq(X:a0)(pins:List (Addr×Obj))(H:au)(b:Addr):Prop:=
 H b=none/\b≠X.env.locals/\b ∉ X.fs/\(b∈X.ex\/X.s₀.heap.objs.size<=b)/\(∀ x c,X.env.cells.lookup x=some c->c≠b)/\∀ p∈X.pn++pins,p.1≠b
theorem Inv.lN{X:a0}{pins:List (Addr×Obj)}{σ:St}{H ak:au}{s:ay}{b:Addr}(I:Inv X pins σ H s)(af:s.heap.objs.size<=b)(bc:ak b=none):hq X pins ak b:=by
 refine⟨bc,fU (hH I.lt af),I.ye af,.inr (eG I.aL af),λ x c e z=>?_,λ p ax z=>?_⟩
 ·obtain⟨v,q⟩:=I.cell x c e;exact absurd (hH q.lt (by rw[z];exact af)) (lF _)
 ·exact absurd (hH (cm (I.pin p ax).1) (by rw[z];exact af)) (lF _)
structure Turn(P:bZ)(w:bM)(K:a8)(bd:a5)(J:hp)(fp:List Addr)(it:Addr)(iC:Nat->bx->Prop):Prop where
 mem:it∈fp
 obj:∀ i h,iC i h->∀ b∈fp,∃ o,h.get? b=some o/\∀ v,o.data≠.cell v
 keep:∀ i h h',iC i h->(∀ b∈fp,∀ o,h.get? b=some o->h'.get? b=some o)->iC i h'
 item:∀(X:a0),X.prog=P->X.w=w->X.K=K->X.calm=true->∀(i:Nat)(pins:List (Addr×Obj))(s:ay)(σ:St)(H:au)(E:Value->ay->Prop),Inv X pins σ H s->(∀ b∈fp,hq X pins H b)->iC i s.heap->J.go i H →
  aD (aK P w) X.A (ef (.ref it)) (λ r s1=>∃ u,r=some u ∧
   aD (aK P w) X.A (qB bd (.ref it) u) (λ _ s2=>∃ x ak,Inv X pins σ ak s2/\RelV x u/\J.n1 i H x ak/\iC (i+1) s2.heap/\∀ b∈fp,ak b=none) E s1) E s
 done:∀(X:a0),X.prog=P->X.w=w->X.K=K->X.calm=true->∀(i:Nat)(pins:List (Addr×Obj))(s:ay)(σ:St)(H:au)(E:Value->ay->Prop),Inv X pins σ H s->(∀ b∈fp,hq X pins H b)->iC i s.heap->J.stop i H →
  aD (aK P w) X.A (ef (.ref it)) (λ r s1=>r=none/\Inv X pins σ H s1) E s
 self:∀(A:cK)(i:Nat)(s:ay)(Q:Value->ay->Prop)(E:Value->ay->Prop),iC i s.heap->Q (.ref it) s->aD (aK P w) A (mF (.ref it)) Q E s
noncomputable abbrev TI:=St->au->(hp->au->Prop)->Prop
noncomputable def yj(X:a0)(pins:List (Addr×Obj))(σ:St)(bd:a5)(R:hp->au->Prop)(pk:Value)(s2:ay):Prop:=
 ∃(it:Addr)(fp:List Addr)(iC:Nat->bx->Prop)(J:hp)(ak:au),pk=.ref it/\Inv X pins σ ak s2/\Turn X.prog X.w X.K bd J fp it iC/\iC 0 s2.heap/\(∀ b∈fp,hq X pins ak b)/\R J ak
noncomputable def lO(X:a0)(bd iter:a5)(c2:TI):Prop:=
 ∀(pins:List (Addr×Obj))(s:ay)(σ:St)(H:au)(R:hp->au->Prop),Inv X pins σ H s->c2 σ H R →
  aD (aK X.prog X.w) X.A (eval iter X.env) (λ v s1=>aD (aK X.prog X.w) X.A (mF v) (yj X pins σ bd R) X.xe s1) X.xe s
theorem sJ{M:Model}{A:cK}{E:Value->ay->Prop}{s:ay}{bd:a5}{it:Addr}{u:Value}{o:Obj}{n:String}{ae:Array Value}{Q:Unit->ay->Prop}(aO:s.heap.get? it=some o)(aE:o.cls=.type n)(hd:o.data=.fields ae)
 (bc:["enumerate","zip","dict_itemiterator","dict_reverseitemiterator","odict_iterator","itertools.zip_longest","itertools.pairwise"].contains n=false) (db:Q () s):aD M A (qB bd (.ref it) u) Q E s:=by
 unfold qB
 cases bd<;>first
  |exact aM db
  | (cases u<;>first
      |exact aM db
      | (refine ah (sa aO ?_)
         rw[aE,hd];show aD M A (if (["enumerate","zip","dict_itemiterator","dict_reverseitemiterator","odict_iterator","itertools.zip_longest","itertools.pairwise"].contains n&&ae[0]?==some (dB _))=true then _ else _) Q E s;rw[if_neg (by intro h;rw[bc,Bool.false_and]at h;cases h)]
         exact aM db))
noncomputable def uU(K:a8)(a:Addr):hp:=
 ⟨λ i H=>∃ xs x,eh K H a xs/\xs[i]?=some x,λ i H x ak=>ak=H/\∀ xs,eh K H a xs->xs[i]?=some x,λ i H=>∃ xs,eh K H a xs/\xs.length<=i⟩
noncomputable def uV(K:a8)(a:Addr):hp:=
 ⟨λ i H=>∃ xs x,dk K H a xs/\xs[i]?=some x,λ i H x ak=>ak=H/\∀ xs,dk K H a xs->xs[i]?=some x,λ i H=>∃ xs,dk K H a xs/\xs.length<=i⟩
noncomputable def sK(lo:Int)(n:Nat):hp:=⟨λ i _=>i<n,λ i H x ak=>ak=H/\x=.int (lo+i),λ i _=>n<=i⟩
theorem Pt{P:bZ}{w:bM}{K:a8}{bd:a5}(a it:Addr):Turn P w K bd (uU K a) [it] it (λ i h=>h.IsListIter it a i) where
 mem:=by simp
 obj:=λ i h st b af=>by
  have e:b=it:=by simpa using af
  subst e;obtain⟨o,e,c,d⟩:=st;exact⟨o,e,λ v z=>by rw[d]at z;cases z⟩
 keep:=λ i h h' st k=>st.at λ o e=>k it (by simp) o e
 item:=by
  intro X fx hw eu aE i pins s σ H E I hf st a3;subst fx hw eu;obtain⟨xs,x,aV,aA⟩:=a3;obtain⟨aP,a9,p,hz⟩:=I.list aV;obtain⟨u,br,d0⟩:=a9.get aA;obtain⟨f0,f1,f2,dD,f4,eD⟩:=hf it (by simp);refine wpAny_pyNext_list_item st p.isList (x:=u) (by simpa using br) λ h' hr fy=>?_;have aZ:Inv X pins σ H {s with heap:=h'}:=I.turned (t':=s.toks) (λ b o af e=>(fy.2 b af).trans e) f0 f1 dD f4 eD;obtain⟨o,e,c,d⟩:=id hr;exact⟨u,rfl,sJ (s:={s with heap:=h'}) e c d (by decide) ⟨x,H,aZ,d0,⟨rfl,λ ys bj=>by rw[I.G6 bj aV];exact aA⟩,hr,λ b af=>(hf b af).1⟩⟩
 done:=by
  intro X fx hw eu aE i pins s σ H E I hf st a3;subst fx hw eu;obtain⟨xs,aV,aA⟩:=a3;obtain⟨aP,a9,p,hz⟩:=I.list aV;obtain⟨f0,f1,f2,dD,f4,eD⟩:=hf it (by simp);have aH:=a9.length
  exact wpAny_pyNext_list_end (I.ok.hd aE) st p.isList (by simp;omega) λ h' dQ=>⟨rfl,I.turned (t':=s.toks) (λ b o af e=>dQ b o af e) f0 f1 dD f4 eD⟩
 self:=λ _ _ _ _ _ st h=>wpAny_pyIter_listiter st h
theorem Pu{P:bZ}{w:bM}{K:a8}{bd:a5}(a it:Addr):Turn P w K bd (uV K a) [it] it (λ i h=>h.IsTupleIter it a i) where
 mem:=by simp
 obj:=λ i h st b af=>by
  have e:b=it:=by simpa using af
  subst e;obtain⟨o,e,c,d⟩:=st;exact⟨o,e,λ v z=>by rw[d]at z;cases z⟩
 keep:=λ i h h' st k=>st.at λ o e=>k it (by simp) o e
 item:=by
  intro X fx hw eu aE i pins s σ H E I hf st a3;subst fx hw eu;obtain⟨xs,x,aV,aA⟩:=a3;obtain⟨aP,a9,p,hz⟩:=I.tuple aV;obtain⟨u,br,d0⟩:=a9.get aA;obtain⟨f0,f1,f2,dD,f4,eD⟩:=hf it (by simp);refine wpAny_pyNext_tuple_item st (show s.heap.IsTuple a aP.toArray from p) (x:=u) (by simpa using br) λ h' hr fy=>?_;have aZ:Inv X pins σ H {s with heap:=h'}:=I.turned (t':=s.toks) (λ b o af e=>(fy.2 b af).trans e) f0 f1 dD f4 eD;obtain⟨o,e,c,d⟩:=id hr;exact⟨u,rfl,sJ (s:={s with heap:=h'}) e c d (by decide) ⟨x,H,aZ,d0,⟨rfl,λ ys bj=>by rw[I.uR bj aV];exact aA⟩,hr,λ b af=>(hf b af).1⟩⟩
 done:=by
  intro X fx hw eu aE i pins s σ H E I hf st a3;subst fx hw eu;obtain⟨xs,aV,aA⟩:=a3;obtain⟨aP,a9,p,hz⟩:=I.tuple aV;obtain⟨f0,f1,f2,dD,f4,eD⟩:=hf it (by simp);have aH:=a9.length
  exact wpAny_pyNext_tuple_end (I.ok.hd aE) st (show s.heap.IsTuple a aP.toArray from p) (by simp;omega) λ h' dQ=>⟨rfl,I.turned (t':=s.toks) (λ b o af e=>dQ b o af e) f0 f1 dD f4 eD⟩
 self:=λ _ _ _ _ _ st h=>wpAny_pyIter_tupleiter st h
theorem Pv{P:bZ}{w:bM}{K:a8}{bd:a5}(it:Addr)(lo:Int)(n:Nat):Turn P w K bd (sK lo n) [it] it (λ i h=>xD h it (lo+(i:Nat) * 1) ((n:Int) - (i:Nat)) 1) where
 mem:=by simp
 obj:=λ i h st b af=>by
  have e:b=it:=by simpa using af
  subst e
  exact⟨_,st,λ v z=>by
   have gT:Data.fields _=Data.cell v:=z
   cases gT⟩
 keep:=λ i h h' st k=>k it (by simp) _ st
 item:=by
  intro X fx hw eu aE i pins s σ H E I hf st a3;subst fx hw eu;obtain⟨f0,f1,f2,dD,f4,eD⟩:=hf it (by simp);have W:=Walks.range (prog:=X.prog) (w:=X.w) (I.ok.hd aE) it lo 1 n;refine W.item i s _ _ a3 st λ v h' tk bu hr c0=>?_;obtain⟨t,rfl⟩:=bu;have aZ:Inv X pins σ H {s with heap:=h',toks:=tk}:=I.turned (λ b o af e=>c0 b o (by simpa using af) e) f0 f1 dD f4 eD;refine⟨_,rfl,sJ (s:={s with heap:=h',toks:=tk}) (n:="range_iterator") hr rfl rfl (by decide) ⟨.int (lo+i),H,aZ,⟨t,?_⟩,⟨rfl,rfl⟩,hr,λ b af=>(hf b af).1⟩⟩;rw[Int.mul_one]
 done:=by
  intro X fx hw eu aE i pins s σ H E I hf st a3;subst fx hw eu;obtain⟨f0,f1,f2,dD,f4,eD⟩:=hf it (by simp)
  exact GK (I.ok.hd aE) st (by have:n<=i:=a3;omega) λ h' dQ=>⟨rfl,I.turned (t':=s.toks) (λ b o af e=>dQ b o af e) f0 f1 dD f4 eD⟩
 self:=λ _ _ _ _ _ st h=>GL st h
section
variable{X:a0}{bd:a5}
theorem Pw{pins:List (Addr×Obj)}{σ:St}{H:au}{s:ay}{R:hp->au->Prop}{E:Value->ay->Prop}{lo ar:Int}{t u v:Tok}{tk:Nat}(I:Inv X pins σ H s)(ag:-(2 ^ 62)<=lo)(ai:lo<2 ^ 62)(aT:-(2 ^ 62)<=ar)(b6:ar<2 ^ 62)
 (q:R (sK lo (ar - lo).toNat) H):aD (aK X.prog X.w) X.A (mF (.ref s.heap.objs.size)) (yj X pins σ bd R) E {s with heap:=s.heap.push {cls:=.type "range",data:=.fields #[.int lo t,.int ar u,.int 1 v]},toks:=tk}:=by
 refine wpAny_pyIter_range (IsRange.new ..) (small_one ag ai aT b6) ?_;have aZ:Inv X pins σ H {s with heap:=s.heap.push {cls:=.type "range",data:=.fields #[.int lo t,.int ar u,.int 1 v]},toks:=tk}:=I.kept λ b o e=>cc _ e
 refine⟨(s.heap.push {cls:=.type "range",data:=.fields #[.int lo t,.int ar u,.int 1 v]}).objs.size,[(s.heap.push {cls:=.type "range",data:=.fields #[.int lo t,.int ar u,.int 1 v]}).objs.size],_,_,H,rfl,
  aZ.kept (t':=tk) λ b o e=>cc _ e,Pv _ lo (ar - lo).toNat,?_,λ b af=>?_,q⟩
 ·have aC:lo+((0:Nat):Int) * 1=lo:=by simp
  have aF:(((ar - lo).toNat:Nat):Int) - ((0:Nat):Int)=Builtin.Range.rangeSize lo ar 1:=by rw[rangeSize_one];split<;>omega
  show xD _ _ (lo+((0:Nat):Int) * 1) ((((ar - lo).toNat:Nat):Int) - ((0:Nat):Int)) 1;rw[aC,aF];exact dK _ rfl
 ·have e:b=(s.heap.push {cls:=.type "range",data:=.fields #[.int lo t,.int ar u,.int 1 v]}).objs.size:=by simpa using af
  subst e;exact aZ.lN (ZB _) (aZ.bt.fresh (ZB _))
noncomputable def Hi(bw:eX):TI:=λ σ H R=>bw σ H λ ae H1=>∃ j:Int,ae=[.int j]/\-(2 ^ 62)<=j/\j<2 ^ 62/\R (sK 0 j.toNat) H1
theorem Px{a:a5}{bw:eX}{p pos:Pos}(a3:c8 X "range")(hm:X.mg "range"=none)(aB:h_ X [a] bw)(av:di [a] X.env=[(false,eval a X.env)]:=by rfl):lO X bd (.Call (.Name "range" p) [a] [] pos) (Hi bw):=by
 intro pins s σ H R I h;refine Call_ (jp I a3 hm boot_range (lI (bU (aB pos pins s σ H _ I h) λ us s1 xz=>?_) av rfl));obtain⟨ae,H1,aZ,bf,aG⟩:=xz;obtain⟨j,e,aG,bv,q⟩:=aG;subst e
 cases bf with
 | cons r dX=>
  cases dX;obtain⟨t,rfl⟩:=r;exact call_range_1 (Pw aZ (by omega) (by omega) aG bv (by simpa using q))
noncomputable def Hj(c2:TI)(g:fX)(b4:fj):fj:=λ D σ H=>c2 σ H λ J H1=>∃ W:Nat->Nat->St->au->Prop,(∃ m,W 0 m σ H1)/\∀ i m σ H,W i m σ H →
 (J.stop i H/\D.nx σ H)\/(J.go i H/\∃ N:St->au->Prop,(∀ σ' ak,N σ' ak->∃ cZ,cZ<m/\W (i+1) cZ σ' ak)/\∀ x ak,J.n1 i H x ak->g x σ ak λ σ2 aQ=>b4 {D with nx:=N,ct:=N,bk:=D.nx} σ2 aQ)
noncomputable def uW(fp:List Addr)(h:bx):List (Addr×Obj):=fp.filterMap λ b=>(h.get? b).map λ o=>(b,o)
theorem sL{fp:List Addr}{h:bx}{b:Addr}{o:Obj}(af:b∈fp)(e:h.get? b=some o):(b,o)∈uW fp h:=xO.mpr ⟨b,af,by rw[e];rfl⟩
theorem Py{fp:List Addr}{h:bx}{p:Addr×Obj}(ax:p∈uW fp h):p.1∈fp/\h.get? p.1=some p.2:=by
 obtain⟨b,af,e⟩:=xO.mp ax
 cases q:h.get? b with
 |none=>rw[q]at e;cases e
 | some o=>
  rw[q]at e;have b0:(b,o)=p:=eW.inj e;subst b0;exact⟨af,q⟩
theorem Inv.pinned{pins:List (Addr×Obj)}{σ:St}{H:au}{s:ay}{fp:List Addr}(I:Inv X pins σ H s)(hf:∀ b∈fp,hq X pins H b)(aO:∀ b∈fp,∃ o,s.heap.get? b=some o/\∀ v,o.data≠.cell v):Inv X (pins++uW fp s.heap) σ H s:=
 I.GS λ p ax=>(hF.mp ax).elim (λ z=>I.pin p (gi _ z)) λ z=>by
  obtain⟨af,e⟩:=Py z;obtain⟨f0,f1,f2,_⟩:=hf p.1 af;obtain⟨o,b0,d⟩:=aO p.1 af;rw[e]at b0;cases b0;exact⟨e,f0,f1,f2,d⟩
theorem Inv.sM{pins cF:List (Addr×Obj)}{σ:St}{H:au}{s:ay}(I:Inv X (pins++cF) σ H s):Inv X pins σ H s:=I.GS λ p ax=>I.pin p (gi _ (o5 _ ax))
theorem Pz{iter:a5}{body:List bC}{c2:TI}{g:fX}{b4:fj}{pos:Pos}(ax:se (aK X.prog X.w) X.A X.env X.xe)(aE:X.calm=true)(ar:lO X bd iter c2)(a3:lM X bd g)(af:jo X body b4)
 (av:∀ x,kY iter X.env x=pure x:=by intro _;rfl):jT X (.For bd iter body [] pos) (Hj c2 g b4):=by
 intro pins s σ H D I h;refine wpAny_For (bU (ar pins s σ H _ I h) λ v s1 ag=>bU ag λ pk s2 ai=>?_) av;obtain⟨it,fp,iC,J,aQ,e,bY,T,yk,f2,W,⟨m0,mW⟩,turn⟩:=ai;subst e
 have qW:∀{ak:au},(∀ b∈fp,ak b=none)->∀ b∈fp,hq X pins ak b:=λ bc b af=>⟨bc b af,(f2 b af).2⟩
 refine codeAny_forLoop_any (λ n s'=>∃ i σ' ak,Inv X pins σ' ak s'/\iC i s'.heap/\(∀ b∈fp,ak b=none)/\W i n σ' ak) ?_ m0 ⟨0,σ,aQ,bY,yk,λ b af=>(f2 b af).1,mW⟩;rintro n s3 ⟨i,σ3,c9,dU,uX,Hk,n0⟩;rcases turn i n σ3 c9 n0 with⟨stop,A5⟩|⟨go,N,cn,step⟩
 ·refine qA ax (bU (T.done X rfl rfl rfl aE i pins s3 σ3 c9 X.xe dU (qW Hk) uX stop) λ r s4 xz=>?_);obtain⟨aq,k6⟩:=xz;subst aq;exact xv ⟨σ3,c9,k6,A5⟩
 ·refine qA ax (bU (T.item X rfl rfl rfl aE i pins s3 σ3 c9 X.xe dU (qW Hk) uX go) λ r s4 xz=>?_);obtain⟨u,aq,b6⟩:=xz;subst aq;refine qA ax (bU b6 λ _ s5 xz=>?_);obtain⟨x,iZ,sN,uY,A6,sO,yl⟩:=xz;have PA:=sN.pinned (qW yl) (T.obj _ _ sO);refine qA ax (bU (a3 _ s5 σ3 iZ x u _ PA uY (step x iZ A6)) λ _ hM xz=>?_);obtain⟨σ6,PB,A7,Hl⟩:=xz;refine qA ax (bU (af _ hM σ6 PB _ A7 Hl) λ f uZ k7=>?_)
  have again:∀{σ7:St}{iD:au},Inv X (pins++uW fp s5.heap) σ7 iD uZ->N σ7 iD->∃ m,m<n/\∃ i σ' ak,Inv X pins σ' ak uZ/\iC i uZ.heap/\(∀ b∈fp,ak b=none)/\W i m σ' ak:=λ{σ7 iD} kp u0=>by
   obtain⟨cZ,hm,PC⟩:=cn σ7 iD u0;refine⟨cZ,hm,i+1,σ7,iD,kp.sM,T.keep _ _ _ sO λ b af o e=>(kp.pin (b,o) (gi _ (gi _ (sL af e)))).1,λ b af=>?_,PC⟩;obtain⟨o,e,d⟩:=T.obj _ _ sO b af;exact(kp.pin (b,o) (gi _ (gi _ (sL af e)))).2.1
  cases f with
  |next=>obtain⟨σ7,iD,kp,u0⟩:=k7;exact again kp u0
  |cont=>obtain⟨σ7,iD,kp,u0⟩:=k7;exact again kp u0
  |brk=>obtain⟨σ7,iD,kp,k7⟩:=k7;exact⟨σ7,iD,kp.sM,k7⟩
  |ret v=>obtain⟨PD,σ7,iD,kp,A8,k7⟩:=k7;exact⟨PD,σ7,iD,kp.sM,A8,k7⟩
end
noncomputable abbrev d9:=V->V->au->cC->Prop
noncomputable def ei(X:a0)(f:Value->Value->Sem Value)(r:d9):Prop:=
 ∀(pins:List (Addr×Obj))(s:ay)(σ:St)(H:au)(x y:V)(v u:Value)(Q:cC),Inv X pins σ H s->RelV x v->RelV y u->r x y H Q →
  aD (aK X.prog X.w) X.A (f v u) (gy X pins σ Q) X.xe s
noncomputable def ym(X:a0)(f:Value->Sem Value)(r:V->au->cC->Prop):Prop:=
 ∀(pins:List (Addr×Obj))(s:ay)(σ:St)(H:au)(x:V)(v:Value)(Q:cC),Inv X pins σ H s->RelV x v->r x H Q →
  aD (aK X.prog X.w) X.A (f v) (gy X pins σ Q) X.xe s
noncomputable def kq(X:a0)(f:Value)(r:List V->au->cC->Prop):Prop:=
 ∀(pins:List (Addr×Obj))(s:ay)(σ:St)(H:au)(xs:List V)(us:List Value)(Q:cC),Inv X pins σ H s->Vals xs us->r xs H Q →
  aD (aK X.prog X.w) X.A (call f us) (gy X pins σ Q) X.xe s
noncomputable def PE(X:a0)(r:V->au->(Bool->au->Prop)->Prop):Prop:=
 ∀(pins:List (Addr×Obj))(s:ay)(σ:St)(H:au)(x:V)(v:Value)(Q:Bool->au->Prop),Inv X pins σ H s->RelV x v->r x H Q →
  aD (aK X.prog X.w) X.A (truthy v) (yg X pins σ Q) X.xe s
noncomputable def pl(r:d9)(bw b4:TE):TE:=λ σ H Q=>bw σ H λ x H1=>b4 σ H1 λ y aQ=>r x y aQ Q
noncomputable def Hm(r:V->au->cC->Prop)(bw:TE):TE:=λ σ H Q=>bw σ H λ x H1=>r x H1 Q
noncomputable def sP(C:Int->Int->Prop)(g:Int->Int->V):d9:=λ x y H Q=>∃ i j,x=.int i/\y=.int j/\C i j/\Q (g i j) H
noncomputable def n2(g:Int->Int->V):d9:=λ x y H Q=>∃ i j,x=.int i/\y=.int j/\Q (g i j) H
noncomputable def Hn(g:Int->V):V->au->cC->Prop:=λ x H Q=>∃ i,x=.int i/\Q (g i) H
section
variable{X:a0}{a b c:a5}{bw b4 bg:TE}{pos:Pos}
theorem A9(aB:bO X a bw)(af:bO X b b4){pins:List (Addr×Obj)}{s:ay}{σ:St}{H:au}{R:V->V->au->Prop}(I:Inv X pins σ H s)
 (h:bw σ H λ x H1=>b4 σ H1 λ y aQ=>R x y aQ) {Q:Value->ay->Prop} {f:Value->Value->Sem Value}
 (hf:∀ v u s2 x y aQ,Inv X pins σ aQ s2->RelV x v->RelV y u->R x y aQ->aD (aK X.prog X.w) X.A (f v u) Q X.xe s2) :
 aD (aK X.prog X.w) X.A (eval a X.env) (λ v dx=>aD (aK X.prog X.w) X.A (eval b X.env) (λ u mT=>aD (aK X.prog X.w) X.A (f v u) Q X.xe mT) X.xe dx) X.xe s:=by
 refine bU (aB pins s σ H _ I h) λ v s1 xz=>?_;obtain⟨x,H1,aZ,bf,aG⟩:=xz;refine bU (af pins s1 σ H1 _ aZ aG) λ u s2 xz=>?_;obtain⟨y,aQ,bY,bD,bv⟩:=xz;exact hf v u s2 x y aQ bY bf bD bv
theorem PF{op:nP}{r:d9}(aO:ei X (g5 op) r)(aB:bO X a bw)(af:bO X b b4):bO X (.BinOp a op b pos) (pl r bw b4):=by
 intro pins s σ H Q I h;exact wpAny_BinOp (A9 aB af I h λ v u s2 x y aQ bY bl b7 q=>aO pins s2 σ aQ x y v u Q bY bl b7 q)
theorem PG{op:UnaryOp}{r:V->au->cC->Prop}(aO:ym X (ur op) r)(aB:bO X a bw):bO X (.UnaryOp op a pos) (Hm r bw):=by
 intro pins s σ H Q I h;refine UnaryOp_ (bU (aB pins s σ H _ I h) λ v s1 xz=>?_);obtain⟨x,H1,aZ,bf,aG⟩:=xz;exact aO pins s1 σ H1 x v Q aZ bf aG
theorem yn{f:Value->Value->Sem Value}{C:Int->Int->Prop}{g:Int->Int->Int}
 (rule:∀(i j:Int)(t u:Tok)(s:ay)(Q:Value->ay->Prop)(E:Value->ay->Prop),C i j->Q (.int (g i j) s.toks) {s with toks:=s.toks+1}->aD (aK X.prog X.w) X.A (f (.int i t) (.int j u)) Q E s) :
 ei X f (sP C λ i j=>.int (g i j)):=by
 intro pins s σ H x y v u Q I bl b7 h;obtain⟨i,j,rfl,rfl,aE,q⟩:=h;obtain⟨t,rfl⟩:=bl;obtain⟨t',rfl⟩:=b7;exact rule i j t t' s _ _ aE ⟨.int (g i j),H,I.tok _,⟨_,rfl⟩,q⟩
theorem Ho{f:Value->Value->Sem Value}{g:Int->Int->Int}
 (rule:∀(i j:Int)(t u:Tok)(s:ay)(Q:Value->ay->Prop)(E:Value->ay->Prop),Q (.int (g i j) s.toks) {s with toks:=s.toks+1}->aD (aK X.prog X.w) X.A (f (.int i t) (.int j u)) Q E s) :
 ei X f (n2 λ i j=>.int (g i j)):=by
 intro pins s σ H x y v u Q I bl b7 h;obtain⟨i,j,rfl,rfl,q⟩:=h;obtain⟨t,rfl⟩:=bl;obtain⟨t',rfl⟩:=b7;exact rule i j t t' s _ _ ⟨.int (g i j),H,I.tok _,⟨_,rfl⟩,q⟩
theorem A_{f:Value->Value->Sem Value}{g:Int->Int->Bool}
 (rule:∀(i j:Int)(t u:Tok)(s:ay)(Q:Value->ay->Prop)(E:Value->ay->Prop),Q (.bool (g i j)) s->aD (aK X.prog X.w) X.A (f (.int i t) (.int j u)) Q E s) :
 ei X f (n2 λ i j=>.aW (g i j)):=by
 intro pins s σ H x y v u Q I bl b7 h;obtain⟨i,j,rfl,rfl,q⟩:=h;obtain⟨t,rfl⟩:=bl;obtain⟨t',rfl⟩:=b7;exact rule i j t t' s _ _ ⟨.aW (g i j),H,I,rfl,q⟩
noncomputable def Hp(i j:Int):Prop:=0<=j/\j<=1000000/\i.natAbs<2 ^ 64
noncomputable def u1(i j:Int):Prop:=(-(2 ^ 64)<i/\i<2 ^ 64)\/(-(2 ^ 64)<j/\j<2 ^ 64)
theorem u1.ok{i j:Int}(h:u1 i j):IntMulOk i j:=by
 rcases h with⟨ag,ai⟩|⟨ag,ai⟩
 ·exact .of_left (intBits_le_64 ag ai)
 ·exact .of_right (intBits_le_64 ag ai)
theorem PH:ei X (g5 .Add) (n2 λ i j=>.int (i+j)):=Ho λ _ _ _ _ _ _ _ q=>add_int q
theorem PI:ei X (g5 .Sub) (n2 λ i j=>.int (i - j)):=Ho λ _ _ _ _ _ _ _ q=>sub_int q
theorem PJ:ei X (g5 .Mult) (sP u1 λ i j=>.int (i * j)):=yn λ _ _ _ _ _ _ _ aE q=>mul_int q aE.ok
theorem PK:ei X (g5 .Mod) (sP (λ _ j=>0<j) λ i j=>.int (i % j)):=yn λ i j _ _ _ _ _ aE q=>by
 have ag:(0:Int)<j:=aE;exact mod_int' (by omega) (by rw[Int.fmod_eq_emod_of_nonneg i (by omega)];exact q)
theorem PL:ei X (g5 .Pow) (sP Hp λ i j=>.int (i ^ j.toNat)):=yn λ _ _ _ _ _ _ _ aE q=>pow_int_small aE.1 aE.2.1 aE.2.2 q
theorem PM{f:Value->Sem Value}{g:Int->Int}
 (rule:∀(i:Int)(t:Tok)(s:ay)(Q:Value->ay->Prop)(E:Value->ay->Prop),Q (.int (g i) s.toks) {s with toks:=s.toks+1}->aD (aK X.prog X.w) X.A (f (.int i t)) Q E s) :
 ym X f (Hn λ i=>.int (g i)):=by
 intro pins s σ H x v Q I bl h;obtain⟨i,rfl,q⟩:=h;obtain⟨t,rfl⟩:=bl;exact rule i t s _ _ ⟨.int (g i),H,I.tok _,⟨_,rfl⟩,q⟩
theorem PN:ym X (ur .USub) (Hn λ i=>.int (-i)):=PM λ _ _ _ _ _ q=>neg_int q
end
section
variable{X:a0}{a b c:a5}{bw b4 bg:TE}{pos:Pos}
theorem Ba{pins:List (Addr×Obj)}{σ:St}{H:au}{s:ay}{Q:cC}{k pp:Bool}(I:Inv X pins σ H s)(q:Q (.aW k) H)(e:k=pp):gy X pins σ Q (.bool pp) s:=by
 subst e;exact⟨.aW k,H,I,rfl,q⟩
theorem PO:ei X (e_ .Lt) (n2 λ i j=>.aW (decide (i<j))):=A_ λ _ _ _ _ _ _ _ q=>lt_int q
theorem PP:ei X (e_ .Gt) (n2 λ i j=>.aW (decide (j<i))):=A_ λ _ _ _ _ _ _ _ q=>gt_int q
theorem PQ:ei X (e_ .GtE) (n2 λ i j=>.aW (decide (j<=i))):=A_ λ _ _ _ _ _ _ _ q=>ge_int q
theorem PR:ei X (e_ .In) (λ x y H Q=>∃ i j,x=.str i/\y=.str j/\Q (.aW (!(Builtin.Str.occurrences j i 0 j.length 1).isEmpty)) H):=by
 intro pins s σ H x y v u Q I bl b7 h;obtain⟨i,j,rfl,rfl,q⟩:=h;obtain⟨t,rfl⟩:=bl;obtain⟨t',rfl⟩:=b7;exact in_str (Ba I q rfl)
theorem PS:ei X (e_ .Is) (λ x y H Q=>y=.bE/\Q (.aW (decide (x=.bE))) H):=by
 intro pins s σ H x y v u Q I bl b7 h;obtain⟨rfl,q⟩:=h;cases b7;refine is_none_gen (Ba I q ?_)
 cases x<;>first
  |(cases bl;rfl)
  |(obtain⟨t,rfl⟩:=bl;rfl)
theorem PT:ei X (e_ .IsNot) (λ x y H Q=>y=.bE/\Q (.aW (!decide (x=.bE))) H):=by
 intro pins s σ H x y v u Q I bl b7 h;obtain⟨rfl,q⟩:=h;cases b7;refine isnot_none_gen (Ba I q ?_)
 cases x<;>first
  |(cases bl;rfl)
  |(obtain⟨t,rfl⟩:=bl;rfl)
theorem ei.or{f:Value->Value->Sem Value}{r de:d9}(h:ei X f r)(h':ei X f de):ei X f (λ x y H Q=>r x y H Q\/de x y H Q):=by
 intro pins s σ H x y v u Q I bl b7 q;rcases q with q|q
 ·exact h pins s σ H x y v u Q I bl b7 q
 ·exact h' pins s σ H x y v u Q I bl b7 q
theorem cp(b:a5){op:oU}(h:op≠.In:=by decide)(ai:op≠.NotIn:=by decide):oR op b=false:=by
 have aC:(op==CmpOp.In)=false:=by cases op<;>first|rfl|exact absurd rfl h
 have aF:(op==CmpOp.NotIn)=false:=by cases op<;>first|rfl|exact absurd rfl ai
 cases b<;>simp[oR,aC,aF]
theorem PU{op:oU}{r:d9}(aO:ei X (e_ op) r)(aB:bO X a bw)(af:bO X b b4)(hm:oR op b=false):bO X (.Compare a [op] [b] pos) (pl r bw b4):=by
 intro pins s σ H Q I h;exact wpAny_Compare1 (A9 aB af I h λ v u s2 x y aQ bY bl b7 q=>aO pins s2 σ aQ x y v u Q bY bl b7 q) hm
noncomputable def Hq(t:TE):TT:=λ σ H Q=>t σ H λ x ak=>∃ k,x=.aW k/\Q k ak
theorem PV{op:oU}{r:d9}(aO:ei X (e_ op) r)(aB:bO X a bw)(af:bO X b b4)(hm:oR op b=false):jS X (.Compare a [op] [b] pos) (Hq (pl r bw b4)):=by
 intro pins s σ H Q I h
 refine wpAny_isTrue_Compare1 (bU (aB pins s σ H _ I h) λ v s1 ⟨x,H1,aZ,bf,aG⟩=>bU (af pins s1 σ H1 _ aZ aG) λ u s2 ⟨y,aQ,bY,bD,bv⟩=>
  bU (aO pins s2 σ aQ x y v u _ bY bf bD bv) λ c s3 ⟨z,c9,dU,qX,k,e,dC⟩=>?_) hm
 subst e;cases qX;exact WP ⟨c9,dU,dC⟩
noncomputable def yo(K:a8)(x:V)(H:au)(k:Bool):Prop:=
 match x with
 |.bE=>k=false
 |.aW b=>k=b
 |.int i=>k=(i !=0)
 |.str y=>y.length<=sizeLine/\k=((y.length:Int) !=0)
 |.uI y=>y.size<=sizeLine/\k=((y.size:Int) !=0)
 |.ref p=>(∃ xs,eh K H p xs/\k=!xs.isEmpty)\/(∃ xs,dk K H p xs/\k=!xs.isEmpty)\/∃ kvs,H p=some (.cR kvs)/\k=!kvs.isEmpty
 |_=>False
theorem PW{κ:Type}{kvs:List (κ×V)}{ae:List (κ×Value)}(r:fO kvs ae):(!ae.isEmpty)=!kvs.isEmpty:=by
 cases r<;>rfl
theorem Hr{xs:List V}{aP:List Value}(r:Vals xs aP):(!aP.toArray.isEmpty)=!xs.isEmpty:=by
 cases r<;>simp
theorem n3:(sizeLine:Nat)<2 ^ 63:=by rw[hk];decide
theorem Hs:PE X (λ x H Q=>∃ k,yo X.K x H k/\Q k H):=by
 intro pins s σ H x v Q I bl h;obtain⟨k,e,q⟩:=h;have aH:=n3;have av:sizeLine=16777216:=hk
 cases x with
 | bE=>
  cases bl;have b0:k=false:=e;subst b0;exact truthy_none ⟨H,I,q⟩
 | aW b=>
  cases bl;have b0:k=b:=e;subst b0;exact WP ⟨H,I,q⟩
 | int i=>
  obtain⟨t,rfl⟩:=bl;have b0:k=(i !=0):=e;subst b0;exact PySem.P.truthy_int ⟨H,I,q⟩
 | str y=>
  obtain⟨t,rfl⟩:=bl;obtain⟨bj,b0⟩:y.length<=sizeLine/\k=((y.length:Int) !=0):=e;subst b0;exact PySem.P.truthy_str (by omega) ⟨H,I.tok _,q⟩
 | uI y=>
  obtain⟨t,rfl⟩:=bl;obtain⟨bj,b0⟩:y.size<=sizeLine/\k=((y.size:Int) !=0):=e;subst b0;exact PySem.W.truthy_bytes (by omega) ⟨H,I.tok _,q⟩
 | ref p=>
  cases bl;have b0:(∃ xs,eh X.K H p xs/\k=!xs.isEmpty)\/(∃ xs,dk X.K H p xs/\k=!xs.isEmpty)\/∃ kvs,H p=some (.cR kvs)/\k=!kvs.isEmpty:=e;rcases b0 with⟨xs,aA,b0⟩|⟨xs,aA,b0⟩|⟨kvs,aA,b0⟩
  ·subst b0;obtain⟨aP,r,cF,hz⟩:=I.list aA;have hlen:=r.length;exact wpAny_truthy_list cF.isList (by simp only[cS];omega) ⟨H,I.tok _,by rw[Hr r];exact q⟩
  ·subst b0;obtain⟨aP,r,cF,hz⟩:=I.tuple aA;have hlen:=r.length;exact truthy_tuple cF (by simp only[cS];omega) ⟨H,I.tok _,by rw[Hr r];exact q⟩
  ·subst b0;obtain⟨hz,c3,ae,r,m⟩:kvs.length<=sizeLine/\(p==jg)=false/\∃ ae,fO kvs ae/\s.heap.DictOf (hJ X.prog X.w) p ae:=I.bt p _ aA;have hlen:kvs.length=ae.length:=Paired.length r;exact wpAny_truthy_dict c3 m (by omega) ⟨H,I.tok _,by rw[PW r];exact q⟩
 |_=>exact(show False from e).elim
theorem PX(aB:bO X a bw)(he:∀ whole,mE a X.env whole=(do let v ← whole;W1 a.pos;jE [v] (truthy v))) :
 jS X a (λ σ H Q=>bw σ H λ x ak=>∃ k,yo X.K x ak k/\Q k ak):=by
 intro pins s σ H Q I h;refine isTrue_plain (bU (aB pins s σ H _ I h) λ v s1 xz=>?_) (he _);obtain⟨x,H1,aZ,bf,aG⟩:=xz;exact Hs pins s1 σ H1 x v Q aZ bf aG
theorem PY:ei X (g5 .Add) (λ x y H Q=>∃ i j,x=.str i/\y=.str j/\i.length+j.length<=sizeLine/\Q (.str (i++j)) H):=by
 intro pins s σ H x y v u Q I bl b7 h;obtain⟨i,j,rfl,rfl,hz,q⟩:=h;obtain⟨t,rfl⟩:=bl;obtain⟨t',rfl⟩:=b7;exact add_str (λ t' tk=>⟨.str (i++j),H,I.tok _,⟨_,rfl⟩,q⟩) hz
theorem Bb{x:V}{us:List Value}(r:Vals [x] us):∃ u,us=[u]/\RelV x u:=by
 cases r with
 |cons bf bD=>cases bD;exact⟨_,rfl,bf⟩
end
structure Bc(h:bx)(x e3 C:Addr)(gl:Str->Option Value):Prop where
 obj:h.get? x=some (PySem.W.instObj C e3)
 ns:h.Ns1 e3 gl
 ne:e3≠x
theorem PZ{h:bx}{e3:Addr}{gl:Str->Option Value}(n:h.Ns1 e3 gl):∃ c5,h.get? e3=some c5/\∀ name,PySem.W.lookIn name c5=some (gl name):=by
 obtain⟨o,es,ep,aO,hd,aI,_,hm⟩:=n;refine⟨o,aO,λ name=>?_⟩;have e:=hm name;unfold nsFind findBy at e;rw[<- Array.find?_toList]at e;unfold PySem.W.lookIn;rw[hd]
 dsimp only
 split
 ·rename_i y q
  rw[q]at e;exact congrArg some e
 ·rename_i q
  rw[q]at e
  have a:es.toList.any (·.refKey)=false:=by
   rw[List.any_eq_false];intro y bj;obtain⟨z,t,P0⟩:=aI y (Array.mem_toList_iff.mp bj);simp[DictEntry.refKey,P0]
  have n4:¬ es.toList.any (·.refKey)=true:=by rw[a];exact f7
  rw[if_neg n4];exact congrArg some e
theorem Bc.look{h:bx}{x e3 C:Addr}{gl:Str->Option Value}(I:Bc h x e3 C gl):∃ c5,PySem.W.InstAt h x (PySem.W.instObj C e3) C (some c5)/\∀ name,PySem.W.lookIn name c5=some (gl name):=
 let ⟨c5,aO,aH⟩:=PZ I.ns
 ⟨c5,⟨I.obj,rfl,rfl,aO⟩,aH⟩
theorem km.some_of{v:V}{o:Option Value}(r:km (some v) o):∃ u,o=some u/\RelV v u:=by
 cases o with
 |none=>exact(show False from r).elim
 |some u=>exact⟨u,rfl,r⟩
section
variable{P:bZ}{w:bM}{H ak:au}{h h':bx}{a C e3:Addr}{fs ya:List (Str×V)}
theorem P1(bt:dW P w H h)(e:H a=some (.ins C e3 fs)):∃ gl,Bc h a e3 C gl/\(∀ f,km (fs.lookup f) (gl f))/\PySem.Within gl (fs.map (·.1))/\fs.length<=1000/\H e3=some (.own a):=by
 obtain⟨d,z,ne,cw,gl,n,r,q⟩:=(show ez P w H h a (.ins C e3 fs) from bt a _ e)
 exact⟨gl,⟨cw,n,ne⟩,r,q,z,d⟩
end
structure Bd(K:a8)(C:Addr):Prop where
 P2:PySem.W.plainGet K C Str.empty=true
 hd:PySem.W.hasDictIn K C=true
 po:PySem.W.plainOver K C=true
 agh:PySem.W.findIn K (.ref C) "__setattr__"=some (some (.builtin "object.__setattr__"))
theorem Bd.get{K:a8}{C:Addr}(c:Bd K C)(f:Str):PySem.W.plainGet K C f=true:=c.P2
section
variable{X:a0}{pins:List (Addr×Obj)}{σ:St}{H:au}{s:ay}{A:cK}{E:Value->ay->Prop}{Q:Value->ay->Prop}{c:Value}{b:Bool}
inductive kr(K:a8)(H:au):V->Value->Prop where
 |bE:kr K H .bE (.type "NoneType")
 |aW (x:Bool):kr K H (.aW x) (.type "bool")
 |int (i:Int):kr K H (.int i) (.type "int")
 |str (x:Str):kr K H (.str x) (.type "str")
 |sA (x:UInt64):kr K H (.sA x) (.type "float")
 |lst {a:Addr} {xs:List V} (e:H a=some (.lst xs)):kr K H (.ref a) (.type "list")
 |eH {a:Addr} {o:Obj} {xs:List V} (e:H a=some (.eH o (.lst xs))):kr K H (.ref a) (.type "list")
 |tup {a:Addr} {xs:List V} (e:H a=some (.tup xs)):kr K H (.ref a) (.type "tuple")
 |cR {a:Addr} {kvs:List (Key×V)} (e:H a=some (.cR kvs)):kr K H (.ref a) (.type "dict")
 |bz {a:Addr} {kvs:List (List Key×V)} (e:H a=some (.bz kvs)):kr K H (.ref a) (.type "dict")
 | ins {a C e3:Addr} {fs:List (Str×V)} (e:H a=some (.ins C e3 fs)) (cl:Bd K C) (aB:PySem.W.findIn K (.ref C) "__class__"=some (some (.builtin "object.__class__")))
  (bc:PySem.W.specialIn K (.builtin "object.__class__") "__get__"=some (some (.builtin "getset_descriptor.__get__"))) (qY:PySem.W.takesIn K (.builtin "object.__class__")=some true)
  (hm:PySem.W.mroIn K C (.type "object")=some true):kr K H (.ref a) (.ref C)
theorem P3{x:V}{u t:Value}(I:Inv X pins σ H s)(bl:RelV x u)(ty:kr X.K H x t)(e:x7 X.K t c=some b)(h:∀ tk,Q (.bool b) {s with toks:=tk}) :
 aD (aK X.prog X.w) A (call (.builtin "isinstance") [u,c]) Q E s:=by
 cases ty with
 |bE=>cases (show u=Value.none from bl);exact jJ PySem.W.kitx_none I.gN True.intro e (λ z=>nomatch z) h
 |aW y=>cases (show u=Value.bool y from bl);exact jJ PySem.W.kitx_bool I.gN True.intro e (λ z=>nomatch z) h
 |int i=>obtain⟨t,q⟩:=(show ∃ t,u=Value.int i t from bl);cases q;exact jJ PySem.W.kitx_int I.gN True.intro e (λ z=>nomatch z) h
 |str y=>obtain⟨t,q⟩:=(show ∃ t,u=Value.str y t from bl);cases q;exact jJ PySem.W.kitx_str I.gN True.intro e (λ z=>nomatch z) h
 |sA y=>obtain⟨t,q⟩:=(show ∃ t,u=Value.float y t from bl);cases q;exact jJ PySem.W.kitx_float I.gN True.intro e (λ z=>nomatch z) h
 | @lst a xs dR=>
  cases (show u=Value.ref a from bl)
  obtain⟨_,_,n,_,ag⟩:=(show ez X.prog X.w H s.heap a (.lst xs) from I.bt a _ dR)
  exact jJ PySem.W.kitx_list I.gN ⟨_,ag,rfl⟩ e (λ z=>nomatch z) h
 | @eH a cw xs dR=>
  cases (show u=Value.ref a from bl)
  obtain⟨_,_,_,n,_,ag⟩:=(show ez X.prog X.w H s.heap a (.eH cw (.lst xs)) from I.bt a _ dR)
  exact jJ PySem.W.kitx_list I.gN ⟨_,ag,rfl⟩ e (λ z=>nomatch z) h
 | @tup a xs dR=>
  cases (show u=Value.ref a from bl)
  obtain⟨_,_,_,p⟩:=(show ez X.prog X.w H s.heap a (.tup xs) from I.bt a _ dR)
  obtain⟨o,ag,ai,_⟩:=p;exact jJ PySem.W.kitx_tuple I.gN ⟨o,ag,ai⟩ e (λ z=>nomatch z) h
 | @cR a kvs dR=>
  cases (show u=Value.ref a from bl)
  obtain⟨_,_,ae,_,p⟩:=(show ez X.prog X.w H s.heap a (.cR kvs) from I.bt a _ dR)
  obtain⟨o,es,ep,ag,ai,_⟩:=p;exact jJ PySem.W.kitx_dict I.gN ⟨o,ag,ai.1⟩ e (λ z=>nomatch z) h
 | @bz a kvs dR=>
  cases (show u=Value.ref a from bl)
  obtain⟨_,_,xs,_,o,es,ep,ag,ai,_⟩:=(show ez X.prog X.w H s.heap a (.bz kvs) from I.bt a _ dR)
  exact jJ PySem.W.kitx_dict I.gN ⟨o,ag,ai.1⟩ e (λ z=>nomatch z) h
 | @ins a C e3 fs dR cl aB bc qY hm=>
  cases (show u=Value.ref a from bl);obtain⟨gl,O,_⟩:=P1 I.bt dR;obtain⟨c5,J,_⟩:=O.look;exact jJ (PySem.W.kitx_own (cl.get _) cl.hd aB bc qY hm) I.gN J e (λ z=>nomatch z) h
end
structure eY(k:Nat)(A:cK):Prop where
 hd:A.handled=none
 bn:A.depth+3 * k+5<recursionLimit
 un:A.units+16 * k+200<ea
 Ht:A.guards=some []
theorem eY.mono{j k:Nat}{A:cK}(r:eY k A)(h:j<=k):eY j A:=⟨r.hd,by have:=r.bn;omega,by have:=r.un;omega,r.Ht⟩
theorem eY.deeper{k:Nat}{A:cK}(r:eY (k+1) A)(env:Env):eY k (A.deeper env):=
 ⟨r.hd,by have:=r.bn;show A.depth+1+3 * k+5<_;omega,by have:=r.un;show A.units+3+16 * k+200<_;omega,r.Ht⟩
theorem eY.depth{k:Nat}{A:cK}(r:eY k A):A.depth<recursionLimit:=by have:=r.bn;omega
noncomputable def Hu:eX:=λ _ H Q=>Q [] H
noncomputable def Hv(bw:TE)(eJ:eX):eX:=λ σ H Q=>bw σ H λ x H1=>eJ σ H1 λ xs aQ=>Q (x::xs) aQ
section
variable{X:a0}{e:a5}{es:List a5}{aU:TE}{t:eX}{pos:Pos}
theorem P4:h_ X [] Hu:=λ _ _ _ _ H Q I h=>Calls.spliced_nil ⟨[],H,I,.nil,h⟩
theorem P5(aB:bO X e aU)(aq:h_ X es t)(av:di (e::es) X.env=(false,eval e X.env)::di es X.env:=by rfl):h_ X (e::es) (Hv aU t):=by
 intro pos pins s σ H Q I h;rw[av];show aD _ _ (lC ((false,eval e X.env)::fS pos (di es X.env))) _ _ s;refine Calls.spliced_cons (bU (aB pins s σ H _ I h) λ u s1 xz=>?_);obtain⟨x,H1,aZ,bf,aG⟩:=xz
 refine bU (aq pos pins s1 σ H1 _ aZ aG) λ us s2 xz=>?_;obtain⟨xs,aQ,bY,bD,bv⟩:=xz;exact⟨x::xs,aQ,bY,.cons bf bD,bv⟩
noncomputable def Hw(t:eX):TE:=λ σ H Q=>t σ H λ xs H1=>xs.length<=sizeLine/\∀ p,H1 p=none->Q (.ref p) (upd H1 p (.tup xs))
noncomputable def Hx(t:eX):TE:=λ σ H Q=>t σ H λ xs H1=>xs.length<=sizeLine/\∀ p,H1 p=none->Q (.ref p) (upd H1 p (.lst xs))
theorem P6 {qZ} (h:h_ X es t):bO X (.Tuple es qZ pos) (Hw t):=by
 intro pins s σ H Q I aV;refine wpAny_Tuple_spliced (bU (h pos pins s σ H _ I aV) λ us s1 ⟨xs,H1,aZ,r,z,q⟩=>⟨by rw[<- r.length];exact z,?_⟩);have hf:H1 s1.heap.objs.size=none:=aZ.bt.fresh (ZB _);refine⟨.ref s1.heap.objs.size,upd H1 s1.heap.objs.size (.tup xs),aZ.laid (t':=s1.toks) (λ b u e=>cc _ e) (ZB _) ?_,rfl,q _ hf⟩;exact⟨z,us,r,⟨_,dK _ rfl,rfl,_,rfl⟩⟩
theorem P7(h:h_ X es t):bO X (.List es pos) (Hx t):=by
 intro pins s σ H Q I aV;refine wpAny_List_spliced (bU (h pos pins s σ H _ I aV) λ us s1 ⟨xs,H1,aZ,r,z,q⟩=>⟨by rw[<- r.length];exact z,?_⟩);have hf:H1 s1.heap.objs.size=none:=aZ.bt.fresh (ZB _);refine⟨.ref s1.heap.objs.size,upd H1 s1.heap.objs.size (.lst xs),aZ.laid (t':=s1.toks) (λ b u e=>cc _ e) (ZB _) ?_,rfl,q _ hf⟩;exact⟨z,us,0,r,dK _ rfl⟩
end
noncomputable abbrev gm:=List V->au->cC->iA->Prop
noncomputable abbrev pq:=List Env->au->ay->iA->Value->ay->Prop
structure q0(P:bZ)(w:bM)(K:a8)(mg:Str->Option Value)(base:bx)(A:cK)(outer:List Env)(s:ay)(H:au):Prop where
 frames:A.frames=some outer
 mod:Mod K mg base
 bs:∀ b o,base.get? b=some o->s.heap.get? b=some o/\H b=none
 lK:base.objs.size<=s.heap.objs.size
 jP:s.heap.FunFrames base outer
 nY:∀ b∈jO outer,H b=none
 bt:dW P w H s.heap
 bare:oZ s.gens
noncomputable def u2(outer:List Env)(P:bZ)(w:bM)(H:au)(s:ay)(Q:cC)(u:Value)(s':ay):Prop:=
 ∃ v ak,s'.os=s.os/\oZ s'.gens/\fi (jO outer) [] H ak s.heap s'.heap/\dW P w ak s'.heap/\RelV v u/\Q v ak
noncomputable def Hy(g6:pq)(outer:List Env)(P:bZ)(w:bM)(H:au)(s:ay)(Q:cC)(E:iA)(r:qL)(s':ay):Prop:=
 match r with
 |.ok (.ret u)=>u2 outer P w H s Q u s'
 |.ok _=>False
 |.error e=>g6 outer H s E e s'
structure cN(P:bZ)(w:bM)(K:a8)(mg:Str->Option Value)(base:bx)(g6:pq)(k:Nat)(f:Addr)(fd:gM)(ps:List Str)(sp:gm):Prop where
 len:∀ ae H Q E,sp ae H Q E->ae.length=ps.length
 run:∀(A:cK)(outer:List Env)(s:ay)(H:au)(args:Args)(us:List Value)(ae:List V)(Q:cC)(E:iA),eY k A->q0 P w K mg base A outer s H->sg s fd args (ps.zip us)->Vals ae us->sp ae H Q E →
  iV (aK P w) A (.call (.ref f) args) (Hy g6 outer P w H s Q E) s
section
variable{X:a0}{pins:List (Addr×Obj)}{σ:St}{H:au}{s s':ay}
theorem Inv.u3(I:Inv X pins σ H s):q0 X.prog X.w X.K X.mg X.base X.A X.stack s H:=
 ⟨I.ok.frames,I.ok.mod,I.bs,eG I.ok.lK I.aL,I.stack,I.GQ,I.bt,I.bare⟩
theorem Inv.after{Q:cC}{u:Value}(I:Inv X pins σ H s)(h:u2 X.stack X.prog X.w H s Q u s'):gy X pins σ Q u s':=by
 obtain⟨v,ak,os,bare,un,bt,r,q⟩:=h;obtain⟨cY,g,d,t,Be⟩:=s';obtain rfl:Be=s.os:=os;exact⟨v,ak,I.call (h':=cY) (g':=g) (d':=d) (t':=t) (ch:=[]) un bt bare (λ b z=>absurd z (by simp)),r,q⟩
end
noncomputable def yp(sp:gm)(pv:List V)(E:iA)(t:eX):TE:=λ σ H Q=>t σ H λ ae H1=>sp (ae++pv) H1 Q E
noncomputable def Binds(K:a8)(fd:gM)(ps:List Str)(ds:List Value):Prop:=
 ∀(s:ay)(us:List Value),K.In s.heap->(us++ds).length=ps.length->sg s fd ⟨us,[]⟩ (ps.zip (us++ds))
theorem Binds.all{K:a8}{fd:gM}{ps:List Str}(h:∀ us:List Value,us.length=ps.length->bindArgs fd ⟨us,[]⟩=pure (ps.zip us)):Binds K fd ps []:=λ s us _ aH=>by
 rw[kh]at aH ⊢;exact .of_eq (h us aH)
noncomputable def Bf(g6:pq)(X:a0)(E:iA):Prop:=∀(pins:List (Addr×Obj))(σ:St)(H:au)(s:ay)(e:Value)(s':ay),Inv X pins σ H s->g6 X.stack H s E e s'->X.xe e s'
section
variable{X:a0}{g6:pq}{k:Nat}{f C:Addr}{fd:gM}{ps:List Str}{sp:gm}{pv:List V}{ds:List Value}{E:iA}{x m:Str}{p pos apos:Pos}{e o:a5}{es:List a5}{bw:TE}{t:eX}
theorem Hz{pins:List (Addr×Obj)}{σ:St}{H:au}{s:ay}{Q:cC}{us:List Value}{ae:List V}(F:cN X.prog X.w X.K X.mg X.base g6 k f fd ps sp)(aq:eY k X.A)(af:Binds X.K fd ps ds)(hd:Vals pv ds)(aA:Bf g6 X E)
 (I:Inv X pins σ H s) (r:Vals ae us) (h:sp (ae++pv) H Q E):aD (aK X.prog X.w) X.A (call (.ref f) us) (gy X pins σ Q) X.xe s:=by
 have bD:Vals (ae++pv) (us++ds):=r.append hd
 have aH:(us++ds).length=ps.length:=by rw[<- bD.length];exact F.len _ _ _ _ h
 refine xH (nM (F.run X.A X.stack s H ⟨us,[]⟩ (us++ds) (ae++pv) Q E aq I.u3 (af s us I.gN aH) bD h) λ r s' aV=>?_)
 cases r with
 |error e=>exact aA pins σ H s e s' I aV
 | ok hN=>
  cases hN with
  |ret u=>exact I.after aV
  |next=>exact False.elim aV
  |brk=>exact False.elim aV
  |cont=>exact False.elim aV
theorem P8(F:cN X.prog X.w X.K X.mg X.base g6 k f fd ps sp)(aq:eY k X.A)(a3:c8 X x)(hm:X.mg x=some (.ref f))(aI:mN X.K (.ref f)=true)(af:Binds X.K fd ps ds)(hd:Vals pv ds)(aA:Bf g6 X E)
 (aB:h_ X (e::es) t) (gO:(x==("__debug__" : Str))=false:=by decide) (he:di (e::es) X.env=(false,eval e X.env)::di es X.env:=by rfl) (e4:(fS pos (di es X.env)).any (·.1)=false:=by rfl) :
 bO X (.Call (.Name x p) (e::es) [] pos) (yp sp pv E t):=by
 intro pins s σ H Q I h;refine je (A2 I a3 hm ?_ gO);refine PySem.W.callWith_K (h₀:=X.base) I.ok.mod.uK aI (bU (aB pos pins s σ H _ I h) λ us s1 xz=>?_) he e4;obtain⟨ae,H1,aZ,r,q⟩:=xz;refine⟨aZ.gN,?_⟩;exact Hz F aq af hd aA aZ r q
end
structure df(N P:List Str)(sc:eV):Prop where
 kind:sc.kind=.function
 co:sc.isCoroutine=false
 gen:sc.isGenerator=false
 aS:N.Nodup
 pre:N.take P.length=P
 par:∀ x∈P,sc.names.lookup x=some .local\/sc.names.lookup x=some .cell
 P9:∀ y∈sc.names,y.2≠.free
theorem HA{kindOf:Str->Option k0}{x:Str}:∀{binds:List (Str×Value)}{m:Str->Option Value},(∀ v,(x,v) ∉ binds)->oV kindOf binds m x=m x
 |[],_,_=>rfl
 | (n,v)::r,m,h=>by
  unfold oV;rw[HA λ w hw=>h w (eE _ hw)];split
  ·have:x≠n:=by rintro rfl;exact h v dP
   simp[this]
  ·rfl
theorem HB{kindOf:Str->Option k0}{x:Str}:∀{binds:List (Str×Value)}{m:Str->Option Value},(∀ v,(x,v) ∉ binds)->oW kindOf binds m x=m x
 |[],_,_=>rfl
 | (n,v)::r,m,h=>by
  unfold oW;rw[HB λ w hw=>h w (eE _ hw)];split
  ·rfl
  ·have:x≠n:=by rintro rfl;exact h v dP
   simp[this]
theorem HC{kindOf:Str->Option k0}{x:Str}{v:Value}:∀{P:List Str}{ae:List Value}{i:Nat}{m:Str->Option Value},P.Nodup->P[i]?=some x->ae[i]?=some v->kindOf x=some .local →
 oV kindOf (P.zip ae) m x=some v
 |[],_,_,_,_,h,_,_=>by simp at h
 |_::_,[],_,_,_,_,h,_=>by simp at h
 | p::P,w::ae,0,m,aS,ag,ai,aI=>by
  simp at ag ai;subst ag;subst ai;show oV kindOf ((p,w)::P.zip ae) m p=_;unfold oV;rw[HA λ v bu=>(jj.mp aS).1 (xP bu).1,if_pos aI];simp
 | p::P,w::ae,i+1,m,aS,ag,ai,aI=>by
  show oV kindOf ((p,w)::P.zip ae) m x=_;unfold oV;exact HC (i:=i) (jj.mp aS).2 (by simpa using ag) (by simpa using ai) aI
theorem HD{kindOf:Str->Option k0}{x:Str}{v:Value}:∀{P:List Str}{ae:List Value}{i:Nat}{m:Str->Option Value},P.Nodup->P[i]?=some x->ae[i]?=some v->kindOf x≠some .local →
 oW kindOf (P.zip ae) m x=some v
 |[],_,_,_,_,h,_,_=>by simp at h
 |_::_,[],_,_,_,_,h,_=>by simp at h
 | p::P,w::ae,0,m,aS,ag,ai,aI=>by
  simp at ag ai;subst ag;subst ai;show oW kindOf ((p,w)::P.zip ae) m p=_;unfold oW;rw[HB λ v bu=>(jj.mp aS).1 (xP bu).1,if_neg aI];simp
 | p::P,w::ae,i+1,m,aS,ag,ai,aI=>by
  show oW kindOf ((p,w)::P.zip ae) m x=_;unfold oW;exact HD (i:=i) (jj.mp aS).2 (by simpa using ag) (by simpa using ai) aI
noncomputable def jU(N:List Str)(ae:List V):St:=ae.map some++fT (N.length - ae.length) none
noncomputable def n5(g6:pq)(P:bZ)(w:bM)(K:a8)(mg:Str->Option Value)(base:bx)(N:List Str)(qual:Str)(scope:eV)(f:Addr)(cd:Value)(A:cK)(outer:List Env)(s:ay)(H:au)(E:iA):a0 where
 prog:=P
 w:=w
 K:=K
 mg:=mg
 base:=base
 A:=A.deeper (mH qual scope s.heap.objs.size f cd)
 N:=N
 s₀:=s
 H₀:=H
 env:=mH qual scope s.heap.objs.size f cd
 outer:=outer
 stack:=mH qual scope s.heap.objs.size f cd::outer
 ex:=[]
 calm:=true
 fn:=λ _=>true
 pn:=[]
 xe:=λ e s'=>aD (aK P w) (A.deeper (mH qual scope s.heap.objs.size f cd)) (leaving (mH qual scope s.heap.objs.size f cd) e) (λ _ n6=>g6 outer H s E e n6) (λ b0 n6=>g6 outer H s E b0 n6) s'
theorem HE{sc:eV}{n:Nat}{x:Str}(h:sc.names.lookup x=some .cell):∃ c,(cellsFrom n sc.names []).lookup x=some c:=by
 have q:=PySem.W.cellsFrom_some sc.names n [] (.inl h);exact x6.mp q
theorem P_{g6:pq}{P:bZ}{w:bM}{K:a8}{mg:Str->Option Value}{base:bx}{N ps:List Str}{qual:Str}{scope:eV}{f:Addr}{cd:Value}{A:cK}{outer:List Env}{s s1:ay}{H:au}{E:iA}{us:List Value}{ae:List V}
 (S:df N ps scope) (hd:A.handled=none) (cg:q0 P w K mg base A outer s H) (aH:ae.length=ps.length) (r:Vals ae us)
 (x:InCallC s s.heap.objs.size (oV (mH qual scope s.heap.objs.size f cd).kindOf (ps.zip us) λ _=>none) (cellsFrom (s.heap.objs.size+1) scope.names []) (oW (mH qual scope s.heap.objs.size f cd).kindOf (ps.zip us) λ _=>none) s1) :
 Inv (n5 g6 P w K mg base N qual scope f cd A outer s H E) [] (jU N ae) H s1:=by
 have e4:ps.length<=N.length:=by have:=congrArg nS S.pre;rw[k2]at this;omega
 obtain⟨ag,tk,rfl,aI⟩:=x.done;have q1:∀ b:Addr,b ∉ (n5 g6 P w K mg base N qual scope f cd A outer s H E).ex:=λ b z=>absurd (show b∈([]:List Addr) from z) (by simp)
 refine⟨⟨cg.mod,S.kind,rfl,rfl,ZB _,λ y z c ag ai=>?_,λ y bj=>?_,λ y c _ h=>?_,λ _=>hd,Around.frames_deeper cg.frames,.inr ⟨rfl,rfl⟩,λ b z=>absurd z (q1 b),cg.bs,cg.lK,λ b _ _=>q1 b,λ b z=>absurd z (q1 b),cg.jP,cg.nY⟩,
  rfl,cg.bare,fi.kept aI,⟨_,x.toInCall.ns,λ i y v ag ai aT=>?_⟩,λ y c h=>⟨_,x.cell y c h⟩,cg.bt.fresh (ZB _),λ y c h=>?_,λ p ax=>absurd (show p∈([]:List (Addr×Obj)) from ax) (by simp),cg.bt.kept aI,?_⟩
 ·exact name_of_addr x.apart (mO ag) (mO ai)
 ·have bj:scope.names.lookup y=some .cell\/scope.names.lookup y=some .free:=bj;rcases bj with bj|bj
  ·exact HE bj
  ·exact absurd rfl (S.P9 _ (mO bj))
 ·exact pa (x.above y c (mO h))
 ·have ar:i<ae.length:=by
   unfold jU at ai;by_cases ar:i<ae.length
   ·exact ar
   ·rw[mI (by simpa using ar)]at ai;rw[sj]at ai;split at ai<;>cases ai
  have aB:ae[i]?=some v:=by
   unfold jU at ai;rw[ki (by simpa using ar),dF]at ai
   cases e:ae[i]? with
   |none=>rw[e]at ai;cases ai
   |some a=>rw[e]at ai;cases ai;rfl
  obtain⟨u,br,a9⟩:=r.get aB
  have ax:ps[i]?=some y:=by
   rw[<- S.pre,List.getElem?_take_of_lt (by omega)];exact ag
  have yq:ps.Nodup:=by rw[<- S.pre];exact S.aS.sublist (List.take_sublist _ _)
  refine⟨u,a9,?_⟩;rcases S.par y (gj ax) with k|k
  ·exact .inl ⟨k,HC yq ax br k⟩
  ·obtain⟨c,e⟩:=HE (n:=s.heap.objs.size+1) k;refine .inr ⟨.inl k,c,e,?_⟩;have q:=x.cell y c e;rw[HD yq ax br (by show scope.names.lookup y≠_;rw[k];decide)]at q;exact q
 ·exact cg.bt.fresh (pa (x.above y c (mO h)))
 ·unfold jU;show _=N.length;rw[dJ,bL,o6];omega
theorem HF{g6:pq}{P:bZ}{w:bM}{K:a8}{mg:Str->Option Value}{base:bx}{k:Nat}{f:Addr}{name qual:Str}{params:xL}{body:List bC}{scope:eV}{yr dd doc pm bF ct dT:Value}{an c5:Option Addr}
 {g7:Array (Option Value)} {N ps:List Str} {sp:gm} (lk:K.lookup f=some ⟨dT,c5,.func (lH name qual params body scope yr dd doc pm an bF ct),g7⟩) (eN:qR K bF qual=true) (S:df N ps scope)
 (len:∀ ae H Q E,sp ae H Q E->ae.length=ps.length)
 (kt:∀(A:cK)(outer:List Env)(s:ay)(H:au)(ae:List V)(Q:cC)(E:iA),eY k (A.deeper (mH qual scope s.heap.objs.size f bF))->sp ae H Q E →
  ∃ t,jo (n5 g6 P w K mg base N qual scope f bF A outer s H E) body t/\t {nx:=λ _ ak=>Q .bE ak,rt:=Q} (jU N ae) H) :
 cN P w K mg base g6 (k+1) f (lH name qual params body scope yr dd doc pm an bF ct) ps sp:=by
 refine⟨len,λ A outer s H args us ae Q E aq cg af r i0=>?_⟩;have aH:=len _ _ _ _ i0;have KX:K.In s.heap:=cg.mod.uK.keeps λ b o e=>(cg.bs b o e).1;have lim:s.heap.NoLimit:=cg.mod.nolimit.keeps λ b o e=>(cg.bs b o e).1
 have yt:∀ y∈ps.zip us,scope.names.lookup y.1=some .local\/(scope.names.lookup y.1=some .cell/\((cellsFrom (s.heap.objs.size+1) scope.names []).lookup y.1).isSome=true):=λ⟨n,v⟩ bj=>by
  rcases S.par n (xP bj).1 with q|q
  ·exact .inl q
  ·exact .inr ⟨q,PySem.W.cellsFrom_some _ _ _ (.inl q)⟩
 refine codeAny_call_function aq.depth (KX _ _ lk) rfl S.co S.gen rfl (PySem.W.codeRec_of KX eN) (af _ _ _ _ ?_);refine wpAny_newFunctionEnv_cells S.kind yt λ env he s1 x=>?_;subst he;refine⟨lim.keeps x.toInCall.keep,codeAny_func ?_⟩;obtain⟨t,bN,aV⟩:=kt A outer s H ae Q E (aq.deeper _) i0;have I:Inv (n5 g6 P w K mg base N qual scope f bF A outer s H E) [] (jU N ae) H s1:=P_ S aq.hd cg aH r x;refine h4 (bN [] s1 (jU N ae) H _ I aV) (λ hN s' av=>?_) λ e s' av=>av
 have fin:∀{σ':St}{ak:au}{v:V}{u:Value},Inv (n5 g6 P w K mg base N qual scope f bF A outer s H E) [] σ' ak s'->RelV v u->Q v ak->u2 outer P w H s Q u s':=
  λ{σ' ak v u} J a9 q=>⟨v,ak,J.os,J.bare,J.base,J.bt,a9,q⟩
 cases hN with
 | ret u=>
  obtain⟨v,σ',ak,J,a9,q⟩:=av;exact fin J a9 q
 | next=>
  obtain⟨σ',ak,J,q⟩:=av;exact fin (v:=V.bE) (u:=Value.none) J rfl q
 | brk=>
  obtain⟨_,_,_,q⟩:=av;exact False.elim q
 | cont=>
  obtain⟨_,_,_,q⟩:=av;exact False.elim q
section
variable{X:a0}{x:Str}{p pos:Pos}{e:a5}{es:List a5}{t:eX}{id T:String}{r:List V->au->cC->Prop}
noncomputable def yu(r:List V->au->cC->Prop)(t:eX):TE:=λ σ H Q=>t σ H λ ae H1=>r ae H1 Q
theorem Qa(aE:kq X (.builtin id) r)(a3:c8 X x)(hm:X.mg x=none)(bu:XV x=some (.builtin id))(aB:h_ X (e::es) t)(bc:x≠"__name__":=by decide)(gO:(x==("__debug__" : Str))=false:=by decide)
 (he:di (e::es) X.env=(false,eval e X.env)::di es X.env:=by rfl) (e4:(fS pos (di es X.env)).any (·.1)=false:=by rfl):bO X (.Call (.Name x p) (e::es) [] pos) (yu r t):=by
 intro pins s σ H Q I h;refine je (jp I a3 hm bu ?_ bc gO);refine PyProof.Rows.callWith_builtin1 (bU (aB pos pins s σ H _ I h) λ us s1 xz=>?_) he e4;obtain⟨ae,H1,aZ,bf,aG⟩:=xz;exact aE pins s1 σ H1 ae us Q aZ bf aG
theorem Qb(aE:kq X (.type T) r)(a3:c8 X x)(hm:X.mg x=none)(bu:XV x=some (.type T))(aB:h_ X (e::es) t)(bc:x≠"__name__":=by decide)(gO:(x==("__debug__" : Str))=false:=by decide)
 (he:di (e::es) X.env=(false,eval e X.env)::di es X.env:=by rfl) (e4:(fS pos (di es X.env)).any (·.1)=false:=by rfl):bO X (.Call (.Name x p) (e::es) [] pos) (yu r t):=by
 intro pins s σ H Q I h;refine je (jp I a3 hm bu ?_ bc gO);refine lI (bU (aB pos pins s σ H _ I h) λ us s1 xz=>?_) he e4;obtain⟨ae,H1,aZ,bf,aG⟩:=xz;exact aE pins s1 σ H1 ae us Q aZ bf aG
end
end L2
namespace dm
open PySem PyProof.Rows
section
variable{prog:bZ}{w:bM}{A:cK}{E:Value->ay->Prop}{s:ay}
theorem Qc{t b:Addr}{ae ws:List Value}{Q:Value->ay->Prop}(bN:ji s.heap t ae.toArray)(af:ji s.heap b ws.toArray)(bu:ae≠[])
 (ag:ws=[]->Q (.ref t) s) (ai:ws≠[]->Q (.ref s.heap.objs.size) {s with heap:=s.heap.push {cls:=.type "tuple",data:=.seq (ae++ws).toArray}})
 (hsz:ae.length+ws.length<=sizeLine):aD (aK prog w) A (g5 .Add (.ref t) (.ref b)) Q E s:=by
 obtain⟨⟨cls,dy,data,ck⟩,aO,aE,n,hd⟩:=id bN;obtain⟨⟨Qd,pw,data2,px⟩,ku,pz,eR,hd2⟩:=id af;simp only at aE hd pz hd2;subst aE hd pz hd2
 have e:ae.toArray++ws.toArray=(ae++ws).toArray:=by simp
 by_cases hw:ws=[]
 ·exact AR ⟨_,aO,rfl⟩ ⟨_,ku,rfl⟩ AJ AP PySem.F.slot_tuple_add PySem.F.entry_tuple_add (PySem.F.args_tuple_add_2 _ _)
   (tuple_addW1 t b ae.toArray ws.toArray n eR dy pw ck px (by simpa using bu) (by simp[hw])) ⟨aO,ku,ag hw⟩
 ·refine AR ⟨_,aO,rfl⟩ ⟨_,ku,rfl⟩ AJ AP PySem.F.slot_tuple_add PySem.F.entry_tuple_add (PySem.F.args_tuple_add_2 _ _)
   (tuple_addW2 t b ae.toArray ws.toArray n eR dy pw ck px (by simpa using bu) (by simpa using hw) (by rw[cS,cS];exact hsz)) ⟨aO,ku,?_⟩
  rw[e];exact ai hw
noncomputable def cq(n d:Nat):Option Int->Nat
 |none=>d
 |some v=>if v<0 then (v+(n:Int)).toNat else min v.toNat n
theorem HG(n d:Nat):cq n d none=d:=rfl
theorem Qe(n d k:Nat):cq n d (some (k:Int))=min k n:=by
 show (if (k:Int)<0 then ((k:Int)+(n:Int)).toNat else min (k:Int).toNat n)=min k n;rw[if_neg (by omega),gx]
theorem Qf(n d:Nat)(hd:d<=n)(o:Option Int):cq n d o<=n:=by
 cases o with
 |none=>exact hd
 | some v=>
  show (if v<0 then (v+(n:Int)).toNat else min v.toNat n)<=n;by_cases bu:v<0
  ·rw[if_pos bu];omega
  ·rw[if_neg bu];exact Nat.min_le_right _ _
theorem HH(v:Int)(n d:Nat):(if v<0 then max (v+(n:Int)) 0 else min v (n:Int))=((cq n d (some v):Nat):Int):=by
 show (if v<0 then max (v+(n:Int)) 0 else min v (n:Int))=(((if v<0 then (v+(n:Int)).toNat else min v.toNat n):Nat):Int)
 by_cases bu:v<0
 ·rw[if_pos bu,if_pos bu];exact(Int.ofNat_toNat _).symm
 ·simp only[if_neg bu];omega
theorem Qg(lo ar:Option Int)(n:Nat):Builtin.Slice.sliceAdjust lo ar 1 (n:Int)=(((cq n 0 lo:Nat):Int),((cq n n ar:Nat):Int)):=by
 have ag:¬ ((1:Int)<0):=by omega
 unfold Builtin.Slice.sliceAdjust;simp only[ag,if_false];refine Prod.ext ?_ ?_
 ·cases lo with
  |none=>rfl
  |some v=>exact HH v n 0
 ·cases ar with
  |none=>rfl
  |some v=>exact HH v n n
theorem Qh(i j:Nat):Builtin.Slice.slicePlaces (i:Int) (j:Int) 1=j - i:=by
 unfold Builtin.Slice.slicePlaces
 have ag:(1:Int) > 0:=by omega
 simp only[ag,if_true,Int.ediv_one];split<;>omega
theorem HI{v:Value}{o:Option Int}{Q:Option Int->ay->Prop}(p:mG v o)(h:Q o s):aD (aK prog w) A (Builtin.Slice.slicePartIndex v) Q E s:=by
 cases p with
 |none=>exact slicePart_none h
 |int i t=>exact slicePart_int h
theorem HJ{ck:Addr}{f9 f_:Value}{lo ar:Option Int}{n:Nat}{Q:Int×Int×Nat->ay->Prop}(av:s.heap.IsSliceOf ck f9 f_ .none)(cF:mG f9 lo)(pu:mG f_ ar)
 (h:Q (((cq n 0 lo:Nat):Int),1,cq n n ar - cq n 0 lo) s):aD (aK prog w) A (Builtin.Slice.sliceApplied (.ref ck) (pure (n:Int))) Q E s:=by
 obtain⟨os,n7,sQ,u4⟩:=id av;unfold Builtin.Slice.sliceApplied Builtin.Slice.sliceFields;refine ah (ah (fM n7 u4 (x:=f9) rfl (ah (fM n7 u4 (x:=f_) rfl (ah (fM n7 u4 (x:=.none) rfl (aM ?_)))))));refine ah (slicePart_none ?_);show aD _ _ (if ((1:Int)==0)=true then _ else _) _ _ s;rw[if_neg (by decide)];refine ah (HI cF (ah (HI pu (ah (aM ?_)))));show aD _ _ (match Builtin.Slice.sliceAdjust lo ar 1 (n:Int) with|(lo,ar)=>pure (lo,(1:Int),Builtin.Slice.slicePlaces lo ar 1)) _ _ s;rw[Qg lo ar n];show aD _ _ (pure (((cq n 0 lo:Nat):Int),(1:Int),Builtin.Slice.slicePlaces ((cq n 0 lo:Nat):Int) ((cq n n ar:Nat):Int) 1)) _ _ s;rw[Qh];exact aM h
theorem Qi(xs:Array Value)(i k:Nat):((fg k).filterMap λ(m:Nat)=>xs[((i:Int)+(m:Int) * 1).toNat]?).toArray=((xs.toList.drop i).take k).toArray:=by
 have e:(λ(m:Nat)=>xs[((i:Int)+(m:Int) * 1).toNat]?)=λ m=>xs[i+m]?:=by
  funext m
  have:((i:Int)+(m:Int) * 1).toNat=i+m:=by omega
  rw[this]
 rw[e];have:=pick_run xs i k;rw[List.filterMap_map]at this;have aF:((λ x=>xs[x]?) ∘ λ x=>i+x)=λ m=>xs[i+m]?:=rfl;rw[aF]at this;rw[this]
theorem Qj{t ck:Addr}{items:Array Value}{f9 f_:Value}{lo ar:Option Int}{Q:Value->ay->Prop}(bN:ji s.heap t items)(av:s.heap.IsSliceOf ck f9 f_ .none)(cF:mG f9 lo)(pu:mG f_ ar)
 (hw:¬ (cq items.size 0 lo=0/\cq items.size items.size ar=items.size))
 (h:Q (.ref s.heap.objs.size) {s with heap:=s.heap.push {cls:=.type "tuple",data:=.seq ((items.toList.drop (cq items.size 0 lo)).take (cq items.size items.size ar - cq items.size 0 lo)).toArray}})
 (hsz:items.size<=sizeLine):aD (aK prog w) A (mB (.ref t) (.ref ck)) Q E s:=by
 have yv:sizeOk (.seq ((items.toList.drop (cq items.size 0 lo)).take (cq items.size items.size ar - cq items.size 0 lo)).toArray):=by
  show ((items.toList.drop (cq items.size 0 lo)).take (cq items.size items.size ar - cq items.size 0 lo)).toArray.size<=sizeLine;rw[cS,k2,mJ,fu];exact eG (Nat.min_le_right ..) (eG (Nat.sub_le ..) hsz)
 have bW:cq items.size items.size ar<=items.size:=Qf _ _ (ZB _) ar;obtain⟨os,n7,sQ,u4⟩:=id av
 have sR:s.TypeIs (.ref ck) "slice":=⟨os,n7,sQ⟩
 unfold mB
 try with_reducible refine g4 ?_
 first|refine ah (aM ?_)|skip
 refine ah (wpAny_sequenceKey bN.typeIs (by decide) ?_)
 refine ah (wpAny_callSpecial?_slot (name:=Str.ofString "__getitem__") bN.typeIs sx
  (f3 sx bN.typeIs entry_tuple_getitem ?_ (args_tuple_getitem _ _)))
 show aD _ _ (Builtin.Tuple.tupleItemsOf (.ref t) >>= _) _ _ s;refine ah (tupleItemsOf_ bN ?_);refine ah (nN sR ?_);rw[if_pos (by decide)];refine ah (HJ av cF pu ?_)
 have u5:¬ ((((cq items.size 0 lo:Nat):Int)==0&&(1:Int)==1&&(cq items.size items.size ar - cq items.size 0 lo)==items.size)=true):=by
  intro q;rw[fh,fh]at q;have aG:((cq items.size 0 lo:Nat):Int)=0:=eq_of_beq q.1.1;have bv:cq items.size items.size ar - cq items.size 0 lo=items.size:=eq_of_beq q.2;exact hw ⟨by omega,by omega⟩
 show aD _ _ (if (((cq items.size 0 lo:Nat):Int)==0&&(1:Int)==1&&(cq items.size items.size ar - cq items.size 0 lo)==items.size)=true then _ else _) _ _ s;rw[if_neg u5,Qi]
 first
  |exact ah (m:=Builtin.Tuple.tupleExact _) (gL (aM ⟨_,rfl,aM h⟩) yv)
  |exact ah (m:=Builtin.Tuple.tupleExact _) (gL (ah (aM (aM ⟨_,rfl,aM h⟩))) yv)
  |exact ah (ah (m:=Builtin.Tuple.tupleExact _) (gL (aM (aM ⟨_,rfl,aM h⟩)) yv))
  |exact ah (ah (m:=Builtin.Tuple.tupleExact _) (gL (aM ⟨_,rfl,aM h⟩) yv))
end
end dm
namespace L2
open PySem PySem.Spec PyProof.Rows
noncomputable abbrev eb:=St->au->(Option Int->au->Prop)->Prop
noncomputable def u6(X:a0)(e:Option a5)(t:eb):Prop:=
 ∀(pins:List (Addr×Obj))(s:ay)(σ:St)(H:au)(Q:Option Int->au->Prop),Inv X pins σ H s->t σ H Q →
  aD (aK X.prog X.w) X.A (evalPart e X.env) (λ u s'=>∃ o ak,Inv X pins σ ak s'/\mG u o/\Q o ak) X.xe s
noncomputable def HK:eb:=λ _ H Q=>Q none H
noncomputable def HL(t:TE):eb:=λ σ H Q=>t σ H λ x H1=>∃ i,x=.int i/\Q (some i) H1
section
variable{X:a0}{e:a5}{aU:TE}{lo ar:Option a5}{ec k8:eb}{pos c_:Pos}
theorem Qk:u6 X none HK:=by
 intro pins s σ H Q I h;rw[evalPart_none];exact aM ⟨none,H,I,.none,h⟩
theorem Ql(h:bO X e aU):u6 X (some e) (HL aU):=by
 intro pins s σ H Q I hw;rw[evalPart_some];refine bU (h pins s σ H _ I hw) λ u s1 xz=>?_;obtain⟨x,H1,aZ,bf,aG⟩:=xz;obtain⟨i,rfl,q⟩:=aG;obtain⟨t,rfl⟩:=bf;exact⟨some i,H1,aZ,.int i t,q⟩
noncomputable def mX(X:a0)(r:V->Option Int->Option Int->au->cC->Prop):Prop:=
 ∀(pins:List (Addr×Obj))(s:ay)(σ:St)(H:au)(x:V)(v f9 f_:Value)(lo ar:Option Int)(ck:Addr)(Q:cC),Inv X pins σ H s->RelV x v->s.heap.IsSliceOf ck f9 f_ .none->mG f9 lo->mG f_ ar->r x lo ar H Q →
  ∃ T id,sb (.type T) "__getitem__"=pure (some (.builtin id))/\s.TypeIs v T/\aD (aK X.prog X.w) X.A (mB v (.ref ck)) (gy X pins σ Q) X.xe s
theorem mX.or{r de:V->Option Int->Option Int->au->cC->Prop}(h:mX X r)(h':mX X de):mX X (λ x lo ar H Q=>r x lo ar H Q\/de x lo ar H Q):=by
 intro pins s σ H x v f9 f_ lo ar ck Q I bl av cF pu q;rcases q with q|q
 ·exact h pins s σ H x v f9 f_ lo ar ck Q I bl av cF pu q
 ·exact h' pins s σ H x v f9 f_ lo ar ck Q I bl av cF pu q
noncomputable def HM(r:V->Option Int->Option Int->au->cC->Prop)(aU:TE)(ec k8:eb):TE:=λ σ H Q=>aU σ H λ x H1=>ec σ H1 λ l aQ=>k8 σ aQ λ u c9=>r x l u c9 Q
theorem Qm{r:V->Option Int->Option Int->au->cC->Prop}(aq:mX X r)(he:bO X e aU)(aH:u6 X lo ec)(br:u6 X ar k8):bO X (.Subscript e (.Slice lo ar none c_) pos) (HM r aU ec k8):=by
 intro pins s σ H Q I h;refine Subscript_ (bU (he pins s σ H _ I h) λ v s1 xz=>?_);obtain⟨x,H1,aZ,bf,aG⟩:=xz;refine wpAny_Slice (bU (aH pins s1 σ H1 _ aZ aG) λ f9 s2 xz=>?_);obtain⟨l,aQ,bY,cF,bv⟩:=xz;refine bU (br pins s2 σ aQ _ bY bv) λ f_ s3 xz=>?_;obtain⟨u,c9,dU,pu,dC⟩:=xz;rw[evalPart_none];refine aM ?_;have k6:Inv X pins σ c9 {s3 with heap:=s3.heap.push {cls:=.type "slice",data:=.fields #[f9,f_,.none]}}:=dU.kept (t':=s3.toks) λ b cw q=>cc _ q;obtain⟨T,id,bp,bN,a3⟩:=aq pins {s3 with heap:=s3.heap.push {cls:=.type "slice",data:=.fields #[f9,f_,.none]}} σ c9 x v f9 f_ l u s3.heap.objs.size Q k6 bf (Heap.IsSliceOf.new ..) cF pu dC;show aD (aK X.prog X.w) X.A (AV e (.Slice lo ar none c_) v (.ref s3.heap.objs.size)) (gy X pins σ Q) X.xe {s3 with heap:=s3.heap.push {cls:=.type "slice",data:=.fields #[f9,f_,.none]}};exact tail_any (ops:=[.ref s3.heap.objs.size,v]) bN bp a3 (by with_unfolding_all rfl)
noncomputable def k9(xs:List V)(lo ar:Option Int):List V:=(xs.drop (dm.cq xs.length 0 lo)).take (dm.cq xs.length xs.length ar - dm.cq xs.length 0 lo)
theorem HN(xs:List V)(lo ar:Option Int):(k9 xs lo ar).length<=xs.length:=by
 unfold k9;rw[k2,mJ];exact eG (Nat.min_le_right ..) (Nat.sub_le ..)
noncomputable def Qn(K:a8):V->Option Int->Option Int->au->cC->Prop:=λ x lo ar H Q=>∃ a xs,x=.ref a/\dk K H a xs ∧
 ¬ (dm.cq xs.length 0 lo=0/\dm.cq xs.length xs.length ar=xs.length)/\∀ p,H p=none->Q (.ref p) (upd H p (.tup (k9 xs lo ar)))
theorem Qo:mX X (Qn X.K):=by
 intro pins s σ H x v f9 f_ lo ar ck Q I bl av cF pu h;obtain⟨a,xs,rfl,aA,hw,q⟩:=h;cases bl;obtain⟨aP,r,bN,hz⟩:=I.tuple aA
 have hlen:aP.toArray.size=xs.length:=by rw[cS];exact r.length.symm
 refine⟨"tuple",_,sx.lookup,bN.typeIs,?_⟩;refine dm.Qj bN av cF pu (by rw[hlen];exact hw) ?_ (by rw[hlen];exact hz);rw[hlen];refine⟨.ref s.heap.objs.size,_,I.laid (t':=s.toks) (o:=.tup (k9 xs lo ar)) (λ b cw q=>cc _ q) (ZB _) ?_,rfl,q _ (I.bt.fresh (ZB _))⟩;exact⟨eG (HN xs lo ar) hz,_,(r.drop (dm.cq xs.length 0 lo)).take (dm.cq xs.length xs.length ar - dm.cq xs.length 0 lo),IsTup.new _ _⟩
noncomputable def Qp(K:a8):d9:=λ x y H Q=>∃ a b xs ys,x=.ref a/\y=.ref b/\dk K H a xs/\dk K H b ys/\xs≠[]/\xs.length+ys.length<=sizeLine ∧
 (ys=[]->Q (.ref a) H)/\(ys≠[]->∀ p,H p=none->Q (.ref p) (upd H p (.tup (xs++ys))))
theorem Vals.Bg{xs:List V}{us:List Value}(r:Vals xs us):us=[] ↔ xs=[]:=by
 cases r with
 |nil=>simp
 |cons _ _=>simp
theorem Qq:ei X (g5 .Add) (Qp X.K):=by
 intro pins s σ H x y v u Q I bl b7 h;obtain⟨a,b,xs,ys,rfl,rfl,aB,af,aA,hz,aG,bv⟩:=h;cases bl;cases b7;obtain⟨aP,bf,gU,_⟩:=I.tuple aB;obtain⟨dn,bD,c_,_⟩:=I.tuple af;refine dm.Qc gU c_ (λ z=>aA (bf.Bg.mp z)) (λ z=>⟨.ref a,H,I,rfl,aG (bD.Bg.mp z)⟩) (λ z=>?_) (by rw[<- bf.length,<- bD.length];exact hz);refine⟨.ref s.heap.objs.size,_,I.laid (t':=s.toks) (o:=.tup (xs++ys)) (λ b cw q=>cc _ q) (ZB _) ?_,rfl,bv (λ w=>z (bD.Bg.mpr w)) _ (I.bt.fresh (ZB _))⟩;exact⟨by rw[dJ];exact hz,_,bf.append bD,IsTup.new _ _⟩
end
noncomputable def mY(n:Nat)(i:Int):Option Nat:=if 0<=i then (if i<n then some i.toNat else none) else if -(n:Int)<=i then some (i+n).toNat else none
noncomputable def gC{α:Type}(xs:List α)(i:Int):Option α:=(mY xs.length i).bind λ j=>xs[j]?
theorem HO{n:Nat}{i:Int}{j:Nat}(h:mY n i=some j):seqIndex? i n=some j/\j<n/\-(n:Int)<=i/\i<n:=by
 unfold mY at h;by_cases h0:0<=i
 ·rw[if_pos h0]at h;by_cases ag:i<n
  ·rw[if_pos ag]at h;have e:i.toNat=j:=eW.inj h;exact⟨by rw[seqIndex_of h0 ag,e],by omega,by omega,ag⟩
  ·rw[if_neg ag]at h;cases h
 ·rw[if_neg h0]at h;by_cases ag:-(n:Int)<=i
  ·rw[if_pos ag]at h;have e:(i+n).toNat=j:=eW.inj h;exact⟨by rw[seqIndex_neg (by omega) ag,e],by omega,ag,by omega⟩
  ·rw[if_neg ag]at h;cases h
theorem yw{α:Type}{xs:List α}{i:Int}{v:α}(h:gC xs i=some v):∃ j,seqIndex? i xs.length=some j/\xs[j]?=some v/\j<xs.length/\-(xs.length:Int)<=i/\i<xs.length:=by
 unfold gC at h
 cases e:mY xs.length i with
 |none=>rw[e]at h;cases h
 | some j=>
  rw[e]at h;obtain⟨ag,ai,aT,b6⟩:=HO e;exact⟨j,ag,h,ai,aT,b6⟩
theorem mZ{α:Type}{xs:List α}{j:Nat}{v:α}(h:xs[j]?=some v):gC xs (j:Int)=some v:=by
 have bW:j<xs.length:=(f5.mp h).1
 have e:mY xs.length (j:Int)=some j:=by
  unfold mY;rw[if_pos (by omega),if_pos (by omega)];simp
 unfold gC;rw[e];exact h
noncomputable def yx(b:a5):Prop:=∀ o i,xE b false o i=operate [o,i] (mB o i)
noncomputable def lP(X:a0)(r:d9):Prop:=
 ∀(value slice:a5)(pins:List (Addr×Obj))(s:ay)(σ:St)(H:au)(x y:V)(v u:Value)(Q:cC),Inv X pins σ H s->RelV x v->RelV y u->r x y H Q →
  xE slice false v u=operate [v,u] (mB v u)->aD (aK X.prog X.w) X.A (AV value slice v u) (gy X pins σ Q) X.xe s
noncomputable def q2(X:a0)(id:String)(r:V->List V->au->cC->Prop):Prop:=
 ∀(pins:List (Addr×Obj))(s:ay)(σ:St)(H:au)(x:V)(xs:List V)(v:Value)(us:List Value)(Q:cC),Inv X pins σ H s->RelV x v->Vals xs us->r x xs H Q →
  aD (aK X.prog X.w) X.A (call (.builtin id) (v::us)) (gy X pins σ Q) X.xe s
section
variable{X:a0}{a b:a5}{bw b4:TE}{pos:Pos}
theorem lP.or{r de:d9}(h:lP X r)(h':lP X de):lP X (λ x y H Q=>r x y H Q\/de x y H Q):=by
 intro value slice pins s σ H x y v u Q I bl b7 q av;rcases q with q|q
 ·exact h value slice pins s σ H x y v u Q I bl b7 q av
 ·exact h' value slice pins s σ H x y v u Q I bl b7 q av
theorem q2.or{id:String}{r de:V->List V->au->cC->Prop}(h:q2 X id r)(h':q2 X id de):q2 X id (λ x xs H Q=>r x xs H Q\/de x xs H Q):=by
 intro pins s σ H x xs v us Q I bl rs q;rcases q with q|q
 ·exact h pins s σ H x xs v us Q I bl rs q
 ·exact h' pins s σ H x xs v us Q I bl rs q
theorem Qr{r:d9}(aq:lP X r)(aB:bO X a bw)(af:bO X b b4)(av:yx b):bO X (.Subscript a b pos) (pl r bw b4):=by
 intro pins s σ H Q I h;exact Subscript_ (A9 aB af I h λ v u s2 x y aQ bY bl b7 q=>aq a b pins s2 σ aQ x y v u Q bY bl b7 q (av _ _))
noncomputable def HP(K:a8):d9:=λ x y H Q=>∃ p xs i v,x=.ref p/\y=.int i/\eh K H p xs/\gC xs i=some v/\Q v H
noncomputable def HQ(K:a8):d9:=λ x y H Q=>∃ p xs i v,x=.ref p/\y=.int i/\dk K H p xs/\gC xs i=some v/\Q v H
noncomputable def HR:d9:=λ x y H Q=>∃ z i c,x=.str z/\y=.int i/\z.length<=sizeLine/\gC z.cps.toList i=some c/\Q (.str ⟨#[c]⟩) H
theorem Qs:lP X (HP X.K):=by
 intro value slice pins s σ H x y v u Q I bl b7 h av;obtain⟨p,xs,i,z,rfl,rfl,aV,he,q⟩:=h;cases bl;obtain⟨t,rfl⟩:=b7;obtain⟨aP,r,cF,hz⟩:=I.list aV;obtain⟨j,ag,ai,aT,b6,dp⟩:=yw he;obtain⟨w,sS,kv⟩:=r.get ai;have aH:=r.length;have bc:=n3
 have fin:gy X pins σ Q w s:=⟨z,H,I,kv,q⟩
 by_cases h0:0<=i
 ·have bW:i.toNat=j:=by
   rw[seqIndex_of h0 dp]at ag;exact eW.inj ag
  exact item_listR cF.isList h0 (by omega) (by rw[bW];simpa using sS) fin av
 ·have bW:(i+(aP.toArray.size:Int)).toNat=j:=by
   rw[seqIndex_neg (by omega) b6]at ag;rw[cS,<- aH];exact eW.inj ag
  exact AU (x:=w) cF.isList.typeIs slot_list_getitem.lookup
   (wpAny_getItem_list_neg (Q:=λ r s'=>r=w/\gy X pins σ Q r s') cF.isList (by omega) (by rw[cS]<;>omega) (by omega) (by rw[bW];simpa using sS) ⟨rfl,fin⟩) av
theorem Qt:lP X (HQ X.K):=by
 intro value slice pins s σ H x y v u Q I bl b7 h av;obtain⟨p,xs,i,z,rfl,rfl,aV,he,q⟩:=h;cases bl;obtain⟨t,rfl⟩:=b7;obtain⟨aP,r,cF,hz⟩:=I.tuple aV;obtain⟨j,ag,ai,aT,b6,dp⟩:=yw he;obtain⟨w,sS,kv⟩:=r.get ai;have aH:=r.length;have bc:=n3
 have fin:gy X pins σ Q w s:=⟨z,H,I,kv,q⟩
 exact AU (x:=w) cF.typeIs slot_tuple_getitem.lookup
  (AW (j:=j) (Q:=λ r s'=>r=w/\gy X pins σ Q r s') cF (by omega) (by omega) (by rw[cS,<- aH];exact ag) (by simpa using sS) ⟨rfl,fin⟩) av
theorem Qu:lP X HR:=by
 intro value slice pins s σ H x y v u Q I bl b7 h av;obtain⟨z,i,c,rfl,rfl,hz,he,q⟩:=h;obtain⟨t,rfl⟩:=bl;obtain⟨t',rfl⟩:=b7;obtain⟨j,ag,ai,aT,b6,dp⟩:=yw he
 have aH:z.cps.toList.length=z.length:=by simp[Str.length]
 rw[aH]at ag b6 dp;have bc:=n3
 exact tail_any (typeIs_str s z t) slot_str_getitem.lookup (getItem_str (c:=c) (by
  have aC:decide (i < -(2 ^ 63:Int))=false:=decide_eq_false (by omega);have aF:decide (i ≥ 2 ^ 63)=false:=decide_eq_false (by omega)
  rw[aC,aF,pd]) (by rw[ag];simpa using ai) ⟨.str ⟨#[c]⟩,H,I.tok _,⟨_,rfl⟩,q⟩) av
noncomputable def Qv(K:a8):d9:=λ x y H Q=>HP K x y H Q\/HQ K x y H Q\/HR x y H Q
theorem HS:lP X (Qv X.K):=Qs.or (Qt.or Qu)
theorem Qw(aP:List Value)(n j:Nat)(u:Value):Obj.mapSeq (·.setIfInBounds j u) {cls:=.type "list",data:=.seq aP.toArray n}={cls:=.type "list",data:=.seq (aP.set j u).toArray n}:=by
 simp[Obj.mapSeq]
theorem Inv.lst{pins:List (Addr×Obj)}{σ:St}{H:au}{s:ay}{p:Addr}{xs:List V}(I:Inv X pins σ H s)(h:H p=some (.lst xs)) :
 ∃(aP:List Value)(n:Nat),Vals xs aP/\s.heap.get? p=some {cls:=.type "list",data:=.seq aP.toArray n}/\xs.length<=sizeLine:=by
 obtain⟨z,aP,n,r,e⟩:=I.bt p _ h;exact⟨aP,n,r,e,z⟩
theorem Inv.Qx{pins:List (Addr×Obj)}{σ:St}{H:au}{s:ay}{p:Addr}{xs ys:List V}{aP its':List Value}{n uQ:Nat}{f:Obj->Obj}(I:Inv X pins σ H s)(h:H p=some (.lst xs))
 (aO:s.heap.get? p=some {cls:=.type "list",data:=.seq aP.toArray n}) (hf:f {cls:=.type "list",data:=.seq aP.toArray n}={cls:=.type "list",data:=.seq its'.toArray uQ}) (r:Vals ys its') (hz:ys.length<=sizeLine) (t:Nat) :
 Inv X pins σ (upd H p (.lst ys)) {s with heap:=s.heap.update p f,toks:=t}:=by
 have e:(s.heap.update p f).get? p=some {cls:=.type "list",data:=.seq its'.toArray uQ}:=by
  rw[hl f aO (by rw[hf]<;>rfl),hf]
 refine I.write (x:=p) (e:=p) (by rw[h];trivial) (.inl rfl) (λ b u af q=>(kl _ _ (Ne.symm af)).trans q) ⟨_,e⟩ ?_;exact⟨hz,its',uQ,r,e⟩
noncomputable def Qy:V->V->V->au->(au->Prop)->Prop:=λ o i v H Q=>∃ p xs k j,o=.ref p/\i=.int k/\H p=some (.lst xs)/\mY xs.length k=some j/\Q (upd H p (.lst (xs.set j v)))
theorem Qz:A3 X Qy:=by
 intro pins s σ H o i v dG gB u Q I fb gn a9 h;obtain⟨p,xs,k,j,rfl,rfl,ax,bW,q⟩:=h;cases fb;obtain⟨t,rfl⟩:=gn;obtain⟨aP,n,r,aO,hz⟩:=I.lst ax;obtain⟨ag,ai,aT,b6⟩:=HO bW;have aH:=r.length;have bc:=n3
 have iX:Inv X pins σ (upd H p (.lst (xs.set j v))) {s with heap:=s.heap.update p (Obj.mapSeq (·.setIfInBounds j u))}:=
  I.Qx ax aO (Qw aP n j u) (r.set a9 j) (by rw[List.length_set];exact hz) s.toks
 by_cases h0:0<=k
 ·have aI:k.toNat=j:=by
   rw[seqIndex_of h0 b6]at ag;exact eW.inj ag
  exact PySem.W.ki_setAt aO h0 (by omega) (by rw[cS,<- aH];exact b6) (by rw[aI];exact⟨_,iX,q⟩)
 ·have aI:(k+(aP.toArray.size:Int)).toNat=j:=by
   rw[seqIndex_neg (by omega) aT]at ag;rw[cS,<- aH];exact eW.inj ag
  exact PySem.W.ki_setBack aO (by omega) (by rw[cS,<- aH];exact aT) (by omega) (by rw[aI];exact⟨_,iX,q⟩)
theorem HT{i:Int}{n:Nat}(h:i<0):max 0 (min (i+(n:Int)) (n:Int))=(((i+(n:Int)).toNat:Nat):Int):=by omega
theorem HU{i:Int}{n:Nat}(h:¬i<0):max 0 (min i (n:Int))=((min i.toNat n:Nat):Int):=by omega
theorem QA(lo ar:Option Int)(n:Nat):(qD lo ar none n).1=((dm.cq n 0 lo:Nat):Int)/\(qD lo ar none n).2.1=((dm.cq n n ar:Nat):Int)/\(qD lo ar none n).2.2=1:=by
 refine⟨?_,?_,rfl⟩
 ·cases lo with
  |none=>simp[qD,dm.cq]
  | some i=>
   simp only[qD,dm.cq,Option.getD_none,show (1:Int) > 0 by decide,if_true];by_cases h:i<0
   ·simp only[h,if_true];exact HT h
   ·simp only[h,if_false];exact HU h
 ·cases ar with
  |none=>simp[qD,dm.cq]
  | some i=>
   simp only[qD,dm.cq,Option.getD_none,show (1:Int) > 0 by decide,if_true];by_cases h:i<0
   ·simp only[h,if_true];exact HT h
   ·simp only[h,if_false];exact HU h
theorem QB(aP:List Value)(lo ar:Option Int):slicePick aP.toArray lo ar none=((aP.drop (dm.cq aP.length 0 lo)).take (dm.cq aP.length aP.length ar - dm.cq aP.length 0 lo)).toArray:=by
 obtain⟨ag,ai,aT⟩:=QA lo ar aP.toArray.size;unfold slicePick;rw[ag,ai,aT];simp only[sliceRange_one,pick_run,cS]<;>rfl
noncomputable def QC(K:a8):V->Option Int->Option Int->au->cC->Prop:=λ x lo ar H Q=>∃ a xs,x=.ref a/\eh K H a xs/\∀ p,H p=none->Q (.ref p) (upd H p (.lst (k9 xs lo ar)))
theorem QD:mX X (QC X.K):=by
 intro pins s σ H x v f9 f_ lo ar ck Q I bl av cF pu h;obtain⟨a,xs,rfl,aA,q⟩:=h;cases bl;obtain⟨aP,r,bN,hz⟩:=I.list aA;have hlen:=r.length;refine⟨"list",_,slot_list_getitem.lookup,bN.isList.typeIs,?_⟩;refine wpAny_getItem_list_slice bN.isList av cF pu .none (by simp) ?_ (by rw[cS]<;>omega);rw[QB,<- hlen];refine⟨.ref s.heap.objs.size,_,I.laid (t':=s.toks) (o:=.lst (k9 xs lo ar)) (λ b cw q=>cc _ q) (ZB _) ?_,rfl,q _ (I.bt.fresh (ZB _))⟩;exact⟨eG (HN xs lo ar) hz,_,0,(r.drop (dm.cq xs.length 0 lo)).take (dm.cq xs.length xs.length ar - dm.cq xs.length 0 lo),dK _ rfl⟩
noncomputable def m1:V->Bool
 |.bE=>true
 |.aW _=>true
 |.int _=>true
 |.str _=>true
 |_=>false
noncomputable def n8:V->V->Bool
 |.bE,.bE=>true
 |.aW a,.aW b=>a==b
 |.aW a,.int b=>(if a then 1 else 0)==b
 |.int a,.aW b=>a==(if b then 1 else 0)
 |.int a,.int b=>a==b
 |.str a,.str b=>a==b
 |_,_=>false
theorem QE{A:cK}{s:ay}{y x:V}{u v:Value}(b7:RelV y u)(bl:RelV x v)(QF:m1 y=true)(hO:m1 x=true):SeqAt.EqAt A s u v (n8 y x):=by
 cases y with
 | bE=>
  cases b7
  cases x with
  |bE=>cases bl;exact SeqAt.EqAt.same _
  |aW b=>cases bl;exact SeqAt.EqAt.none_bool b
  |int b=>obtain⟨t,rfl⟩:=bl;exact SeqAt.EqAt.none_int b t
  |str b=>obtain⟨t,rfl⟩:=bl;exact SeqAt.EqAt.none_str b t
  |_=>exact absurd (show false=true from hO) f7
 | aW a=>
  cases b7
  cases x with
  |bE=>cases bl;exact SeqAt.EqAt.bool_none a
  |aW b=>cases bl;exact SeqAt.EqAt.bool_bool a b
  |int b=>obtain⟨t,rfl⟩:=bl;exact SeqAt.EqAt.bool_int a b t
  |str b=>obtain⟨t,rfl⟩:=bl;exact SeqAt.EqAt.bool_str a b t
  |_=>exact absurd (show false=true from hO) f7
 | int a=>
  obtain⟨t',rfl⟩:=b7
  cases x with
  |bE=>cases bl;exact SeqAt.EqAt.int_none a t'
  |aW b=>cases bl;exact SeqAt.EqAt.int_bool a t' b
  |int b=>obtain⟨t,rfl⟩:=bl;exact SeqAt.EqAt.int_int a t' b t
  |str b=>obtain⟨t,rfl⟩:=bl;exact SeqAt.EqAt.int_str a t' b t
  |_=>exact absurd (show false=true from hO) f7
 | str a=>
  obtain⟨t',rfl⟩:=b7
  cases x with
  |bE=>cases bl;exact SeqAt.EqAt.str_none a t'
  |aW b=>cases bl;exact SeqAt.EqAt.str_bool a t' b
  |int b=>obtain⟨t,rfl⟩:=bl;exact SeqAt.EqAt.str_int a t' b t
  |str b=>obtain⟨t,rfl⟩:=bl;exact SeqAt.EqAt.str_str a t' b t
  |_=>exact absurd (show false=true from hO) f7
 |_=>exact absurd (show false=true from QF) f7
noncomputable def n9(x:V)(u:Value):Bool:=match u with
 |.none=>n8 .bE x
 |.bool b=>n8 (.aW b) x
 |.int i _=>n8 (.int i) x
 |.str z _=>n8 (.str z) x
 |_=>false
theorem HV{x y:V}{u:Value}(r:RelV y u)(f:m1 y=true):n9 x u=n8 y x:=by
 cases y with
 |bE=>cases r;rfl
 |aW b=>cases r;rfl
 |int i=>obtain⟨t,rfl⟩:=r;rfl
 |str z=>obtain⟨t,rfl⟩:=r;rfl
 |_=>exact absurd (show false=true from f) f7
theorem Bh{x:V}:∀{xs:List V}{us:List Value},Vals xs us->xs.all m1=true->us.any (n9 x)=xs.any λ y=>n8 y x
 |_,_,.nil,_=>rfl
 | y::xs,u::us,.cons r t,f=>by
  rw[jk,fh]at f;rw[jG,jG,HV r f.1,Bh t f.2]
theorem Bi{A:cK}{s:ay}{x:V}{v:Value}(bl:RelV x v)(hO:m1 x=true):∀{xs:List V}{us:List Value},Vals xs us->xs.all m1=true->∀ u∈us,SeqAt.EqAt A s u v (n9 x u)
 |_,_,.nil,_=>λ u br=>by cases br
 | y::xs,u::us,.cons r t,f=>λ mQ br=>by
  rw[jk,fh]at f;rcases dw.mp br with rfl|br
  ·rw[HV r f.1];exact QE r bl f.1 hO
  ·exact Bi bl hO t f.2 mQ br
noncomputable def yy(x:V)(xs:List V):Bool:=xs.any λ y=>n8 y x
noncomputable def QG(K:a8)(neg:Bool):d9:=λ x y H Q=>∃ p xs,y=.ref p/\(eh K H p xs\/dk K H p xs)/\m1 x=true/\xs.all m1=true/\Q (.aW (if neg then !yy x xs else yy x xs)) H
theorem QH:ei X (e_ .In) (QG X.K false):=by
 intro pins s σ H x y v u Q I bl b7 h;obtain⟨p,xs,rfl,aV,hO,fs,q⟩:=h;cases b7;rcases aV with aV|aV
 ·obtain⟨aP,r,cF,hz⟩:=I.list aV;refine SeqAt.in_listAt (n9 x) cF.isList (λ w hw=>Bi bl hO r fs w (by simpa using hw)) ⟨.aW _,H,I,rfl,?_⟩;rw[show aP.toArray.any (n9 x)=aP.any (n9 x) by simp,Bh r fs];exact q
 ·obtain⟨aP,r,cF,hz⟩:=I.tuple aV;refine SeqAt.in_tupleAt (n9 x) cF (λ w hw=>Bi bl hO r fs w (by simpa using hw)) ⟨.aW _,H,I,rfl,?_⟩;rw[show aP.toArray.any (n9 x)=aP.any (n9 x) by simp,Bh r fs];exact q
theorem QI:kq X (.builtin "len") (λ xs H Q=>∃ p ys,xs=[.ref p]/\(eh X.K H p ys\/dk X.K H p ys)/\Q (.int ys.length) H):=by
 intro pins s σ H xs us Q I r h;obtain⟨p,ys,rfl,aV,q⟩:=h;obtain⟨u,rfl,bl⟩:=Bb r;cases bl;have bc:=n3;rcases aV with aV|aV
 ·obtain⟨aP,de,cF,hz⟩:=I.list aV;have hlen:=de.length;exact Calls.call_len_list cF.isList (by simp only[cS]<;>omega) ⟨.int ys.length,H,I.tok _,⟨s.toks+1,by rw[cS,hlen]⟩,q⟩
 ·obtain⟨aP,de,cF,hz⟩:=I.tuple aV;have hlen:=de.length;exact len_tuple cF (by simp only[cS]<;>omega) ⟨.int ys.length,H,I.tok _,⟨s.toks+1,by rw[cS,hlen]⟩,q⟩
theorem QJ:kq X (.builtin "len") (λ xs H Q=>∃ z,xs=[.str z]/\z.length<=sizeLine/\Q (.int z.length) H):=by
 intro pins s σ H xs us Q I r h;obtain⟨z,rfl,hz,q⟩:=h;obtain⟨u,rfl,t,rfl⟩:=Bb r;have bc:=n3;exact len_str (by omega) ⟨.int z.length,H,I.tok _,⟨_,rfl⟩,q⟩
theorem kq.or{f:Value}{r de:List V->au->cC->Prop}(h:kq X f r)(h':kq X f de):kq X f (λ xs H Q=>r xs H Q\/de xs H Q):=by
 intro pins s σ H xs us Q I rs q;rcases q with q|q
 ·exact h pins s σ H xs us Q I rs q
 ·exact h' pins s σ H xs us Q I rs q
theorem QK:kq X (.type "tuple") (λ xs H Q=>∃ p ys,xs=[.ref p]/\((eh X.K H p ys/\∀ l,H l=none->Q (.ref l) (upd H l (.tup ys)))\/(dk X.K H p ys/\Q (.ref p) H))):=by
 intro pins s σ H xs us Q I r h;obtain⟨p,ys,rfl,h⟩:=h;obtain⟨u,rfl,bl⟩:=Bb r;cases bl;rcases h with⟨aV,q⟩|⟨aV,q⟩
 ·obtain⟨aP,de,cF,hz⟩:=I.list aV;have hlen:=de.length;refine call_tuple_list cF.isList (λ h' b8=>?_) (by simp only[cS]<;>omega);have aZ:Inv X pins σ H {s with heap:=h'}:=I.kept (t':=s.toks) b8
  have bY:Inv X pins σ (upd H h'.objs.size (.tup ys)) {s with heap:=h'.push {cls:=.type "tuple",data:=.seq aP.toArray}}:=
   aZ.laid (t':=s.toks) (λ b o e=>cc _ e) (ZB _) (show ez X.prog X.w _ _ _ (.tup ys) from⟨hz,aP,de,IsTup.new _ _⟩)
  exact⟨.ref h'.objs.size,_,bY,rfl,q _ (aZ.bt.fresh (ZB _))⟩
 ·obtain⟨aP,de,cF,hz⟩:=I.tuple aV;exact call_tuple_same cF ⟨.ref p,H,I,rfl,q⟩
noncomputable def u7(K:a8)(T:String)(x:V)(H:au):Prop:=match x with
 |.str _=>T = "str"
 |.int _=>T = "int"
 | .ref p=>(T = "list"/\∃ xs,eh K H p xs)\/(T = "tuple"/\∃ o,K.lookup p=some o/\o.cls=.type "tuple"/\o.dict=none) ∨
  (T = "dict"/\((∃ kvs,H p=some (.cR kvs))\/∃ kvs,H p=some (.bz kvs)))\/(T = "set"/\∃ S n,H p=some (.set S n))
 |_=>False
theorem HW{pins:List (Addr×Obj)}{σ:St}{H:au}{s:ay}{T:String}{x:V}{v:Value}(I:Inv X pins σ H s)(r:RelV x v)(ty:u7 X.K T x H) :
 s.TypeIs v T/\∀ a,v=.ref a->∃ cw,s.heap.get? a=some cw/\cw.dict=none:=by
 cases x with
 | str z=>
  obtain⟨t,rfl⟩:=r;cases (show T = "str" from ty);exact⟨typeIs_str s z t,λ _ e=>nomatch e⟩
 | int i=>
  obtain⟨t,rfl⟩:=r;cases (show T = "int" from ty);exact⟨typeIs_int s i t,λ _ e=>nomatch e⟩
 | ref p=>
  cases r;rcases ty with⟨rfl,xs,aV⟩|⟨rfl,o,aI,aE,hd⟩|⟨rfl,aI⟩|⟨rfl,S,n,aI⟩
  ·obtain⟨aP,_,cF,_⟩:=I.list aV;refine⟨cF.isList.typeIs,λ a e=>?_⟩;cases e;obtain⟨o,n,e,c,hd,_⟩:=cF;exact⟨o,e,hd⟩
  ·refine⟨⟨o,I.gN p o aI,aE⟩,λ a e=>?_⟩;cases e;exact⟨o,I.gN _ o aI,hd⟩
  ·have z:∃ o,s.heap.get? p=some o/\o.ExactDict:=by
    rcases aI with⟨kvs,aI⟩|⟨kvs,aI⟩
    ·obtain⟨_,_,_,_,o,_,_,e,ex,_⟩:=I.bt p _ aI;exact⟨o,e,ex⟩
    ·obtain⟨_,_,_,_,o,_,_,e,ex,_⟩:=I.bt p _ aI;exact⟨o,e,ex⟩
   obtain⟨o,e,ex⟩:=z;refine⟨⟨o,e,ex.1⟩,λ a aF=>?_⟩;cases aF;exact⟨o,e,ex.2.1⟩
  ·obtain⟨o,_,_,_,e,ex,_⟩:=I.bt p _ aI;refine⟨⟨o,e,ex.1⟩,λ a aF=>?_⟩;cases aF;exact⟨o,e,ex.2.1⟩
 |_=>exact False.elim ty
noncomputable def HX(K:a8)(T:String)(r:V->List V->au->cC->Prop)(to:TE):TE:=λ σ H Q=>to σ H λ x H1=>u7 K T x H1/\r x [] H1 Q
noncomputable def HY(K:a8)(T:String)(r:V->List V->au->cC->Prop)(to:TE)(t:eX):TE:=λ σ H Q=>to σ H λ x H1=>u7 K T x H1/\t σ H1 λ xs aQ=>r x xs aQ Q
variable{o e:a5}{es:List a5}{to:TE}{t:eX}{name:Str}{apos dH:Pos}{T id:String}{r:V->List V->au->cC->Prop}
theorem QL(lQ:sd T)(slot:jF T name id)(lR:si (.builtin id)=pure (.type "method_descriptor"))(hm:q2 X id r)(aO:bO X o to)
 (hP:lA o name X.env (eval o X.env)=eval o X.env:=by rfl) (hQ:(apos.endLine==dH.line)=true:=by rfl):bO X (.Call (.Attribute o name apos) [] [] dH) (HX X.K T r to):=by
 intro pins s σ H Q I h;refine AF hP hQ (bU (aO pins s σ H _ I h) λ v s1 xz=>?_);obtain⟨x,H1,aZ,bf,ty,aG⟩:=xz;obtain⟨ag,ai⟩:=HW aZ bf ty;exact⟨T,id,lQ,slot,lR,ag,ai,Calls.callWith_builtin rfl (PySem.evalArgs_none (hm pins s1 σ H1 x [] v [] Q aZ bf .nil aG))⟩
theorem QM(lQ:sd T)(slot:jF T name id)(lR:si (.builtin id)=pure (.type "method_descriptor"))(hm:q2 X id r)(aO:bO X o to)(aB:h_ X (e::es) t)
 (hP:lA o name X.env (eval o X.env)=eval o X.env:=by rfl)
 (sT:((fS dH (di (e::es) X.env)).all (λ x=>!x.1)&&(backToKw dH (keywordEach [] X.env)).all (λ x=>x.1.isSome)
  &&decide ((e::es).length+([]:List Keyword).length+(if ([]:List Keyword).isEmpty then 0 else 1)<30))=true:=by rfl)
 (hQ:(apos.endLine==dH.line)=true:=by rfl) (av:di (e::es) X.env=(false,eval e X.env)::di es X.env:=by rfl) (QN:(fS dH (di es X.env)).any (·.1)=false:=by rfl) :
 bO X (.Call (.Attribute o name apos) (e::es) [] dH) (HY X.K T r to t):=by
 intro pins s σ H Q I h;refine wpAny_Call_method_late hP sT hQ rfl (bU (aO pins s σ H _ I h) λ v s1 xz=>?_);obtain⟨x,H1,aZ,bf,ty,aG⟩:=xz;obtain⟨ag,ai⟩:=HW aZ bf ty;refine⟨T,id,lQ,slot,lR,ag,ai,?_⟩;have q3:=aB dH pins s1 σ H1 _ aZ aG;rw[av]at q3 ⊢;refine Calls.callWith_builtin (by show (false||(fS dH (di es X.env)).any (·.1))=false;rw[QN]<;>rfl) (Calls.evalArgs_plain ?_);refine bU q3 λ us s2 xz=>?_;obtain⟨ae,aQ,bY,bD,bv⟩:=xz;exact hm pins s2 σ aQ x ae v us Q bY bf bD bv
end
noncomputable def yz(X:a0)(id:String)(r:V->List V->au->cC->Prop):Prop:=
 ∀(pins:List (Addr×Obj))(s:ay)(σ:St)(H:au)(x:V)(xs:List V)(v:Value)(us:List Value)(Q:cC),Inv X pins σ H s->RelV x v->Vals xs us->r x xs H Q →
  aD (aK X.prog X.w) X.A (call (.builtin id) (v::us)) (gy X pins σ Q) X.xe s
theorem Vals.one{x:V}{us:List Value}(h:Vals [x] us):∃ u,us=[u]/\RelV x u:=by
 cases h with
 |cons r h=>cases h;exact⟨_,rfl,r⟩
theorem Vals.two{x y:V}{us:List Value}(h:Vals [x,y] us):∃ u v,us=[u,v]/\RelV x u/\RelV y v:=by
 cases h with
 | cons r h=>
  obtain⟨v,rfl,q⟩:=Vals.one h;exact⟨_,_,rfl,r,q⟩
theorem Vals.zero:∀{us:List Value},Vals [] us->us=[]
 |_,.nil=>rfl
theorem Vals.dropLast{xs:List V}{us:List Value}(h:Vals xs us):Vals xs.dropLast us.dropLast:=by
 induction h with
 |nil=>exact .nil
 | cons r t bG=>
  cases t with
  |nil=>exact .nil
  |cons q t'=>exact .cons r bG
theorem Vals.reverse{xs:List V}{us:List Value}(h:Vals xs us):Vals xs.reverse us.reverse:=by
 induction h with
 |nil=>exact .nil
 |cons r t bG=>rw[qN,qN];exact Vals.append bG (.cons r .nil)
theorem QO{α:Type}(l:List α):l.eraseIdx (l.length - 1)=l.dropLast:=by
 induction l with
 |nil=>rfl
 | cons a r bG=>
  cases r with
  |nil=>rfl
  | cons b r=>
   have e:(a::b::r).length - 1=((b::r).length - 1)+1:=by
    have ag:(a::b::r).length=r.length+2:=rfl;have ai:(b::r).length=r.length+1:=rfl;omega
   rw[e,List.eraseIdx_cons_succ,bG]
   all_goals rfl
section
variable{X:a0}{pins:List (Addr×Obj)}{σ:St}{H:au}{s:ay}{l b:Addr}{xs ys zs:List V}
theorem Inv.yA{aP its':List Value}{n:Nat}{f:Array Value->Array Value}{t':Nat}(I:Inv X pins σ H s)(iE:H l=some (.lst xs))
 (e:s.heap.get? l=some {cls:=.type "list",data:=.seq aP.toArray n}) (hf:f aP.toArray=its'.toArray) (bu:Vals ys its') (hz:ys.length<=sizeLine) :
 Inv X pins σ (upd H l (.lst ys)) {s with heap:=s.heap.update l (Obj.mapSeq f),toks:=t'}:=by
 have q:=PySem.IsL.update e f;rw[hf]at q;refine I.write (x:=l) (e:=l) (by rw[iE];exact trivial) (.inl rfl) (λ gV u af br=>(kl s.heap (Obj.mapSeq f) (Ne.symm af)).trans br) ⟨_,q⟩ ?_;exact⟨hz,its',_,bu,q⟩
theorem Inv.QP{aP:List Value}{t':Nat}(I:Inv X pins σ H s)(bu:Vals ys aP)(hz:ys.length<=sizeLine) :
 Inv X pins σ (upd H s.heap.objs.size (.lst ys)) {s with heap:=s.heap.push {cls:=.type "list",data:=.seq aP.toArray},toks:=t'}:=
 I.laid (λ _ _ q=>cc _ q) (ZB _) ⟨hz,aP,0,bu,dK _ rfl⟩
theorem Inv.fresh(I:Inv X pins σ H s):H s.heap.objs.size=none:=I.bt.fresh (ZB _)
theorem Inv.q4(I:Inv X pins σ H s)(iE:H l=some (.lst xs)):xs.length<=sizeLine/\∃(aP:List Value)(n:Nat),Vals xs aP/\xs.length=aP.length/\s.heap.get? l=some {cls:=.type "list",data:=.seq aP.toArray n}:=by
 obtain⟨z,aP,n,r,e⟩:=I.bt l _ iE;exact⟨z,aP,n,r,r.length,e⟩
theorem HZ{n:Nat}(h:n<=sizeLine):Builtin.List.listTooLong n=false:=by
 unfold Builtin.List.listTooLong;exact decide_eq_false (by omega)
end
section
variable{X:a0}
noncomputable def QQ:V->List V->au->cC->Prop:=λ x ae H Q=>∃ l xs y,x=.ref l/\ae=[y]/\H l=some (.lst xs)/\xs.length<sizeLine/\Q .bE (upd H l (.lst (xs++[y])))
theorem H0:yz X "list.append" QQ:=by
 intro pins s σ H x ae v us Q I bl a9 h;obtain⟨l,xs,y,rfl,rfl,iE,hz,q⟩:=h;cases bl;obtain⟨u,rfl,d0⟩:=a9.one;obtain⟨z,aP,n,r,aH,e⟩:=I.q4 iE;refine xI F.slot_list_append ⟨_,e,rfl⟩ F.entry_list_append (F.args_list_append_2 _ _) (PySem.list_append l aP.toArray n u (by rw[cS];omega)) ⟨e,?_⟩;refine⟨.bE,_,I.yA (its':=aP++[u]) iE e (by simp) (r.append (.cons d0 .nil)) ?_,rfl,q⟩;rw[dJ,o7];omega
noncomputable def QR:V->List V->au->cC->Prop:=λ x ae H Q=>∃ l b xs zs,x=.ref l/\ae=[.ref b]/\H l=some (.lst xs)/\H b=some (.lst zs)/\xs.length+zs.length<=sizeLine/\Q .bE (upd H l (.lst (xs++zs)))
theorem QS:yz X "list.extend" QR:=by
 intro pins s σ H x ae v us Q I bl a9 h;obtain⟨l,b,xs,zs,rfl,rfl,iE,fk,hz,q⟩:=h;cases bl;obtain⟨u,rfl,d0⟩:=a9.one;cases d0;obtain⟨z,aP,n,r,aH,e⟩:=I.q4 iE;obtain⟨c7,dn,eR,bD,fz,aF⟩:=I.q4 fk
 have hsz:aP.toArray.size+dn.toArray.size<=sizeLine:=by rw[cS,cS];omega
 have Bj:¬ (!aP.toArray.isEmpty&&Builtin.List.listTooLong (aP.toArray.size+dn.toArray.size))=true:=by
  rw[HZ hsz,Bool.and_false];exact f7
 refine xI F.slot_list_extend ⟨_,e,rfl⟩ F.entry_list_extend (F.args_list_extend_2 _ _)
  (AutoSeq1.list_extend_list_list_0 l aP.toArray n b dn.toArray eR Bj (by rw[cS];omega) (by omega)) ⟨e,aF,?_⟩
 refine⟨.bE,_,I.yA (its':=aP++dn) iE e (by simp) (r.append bD) ?_,rfl,q⟩;rw[dJ];omega
noncomputable def QT:V->List V->au->cC->Prop:=λ x ae H Q=>∃ l xs y,x=.ref l/\ae=[]/\H l=some (.lst xs)/\xs[xs.length - 1]?=some y/\Q y (upd H l (.lst xs.dropLast))
theorem QU:yz X "list.pop" QT:=by
 intro pins s σ H x ae v us Q I bl a9 h;obtain⟨l,xs,y,rfl,rfl,iE,bj,q⟩:=h;cases bl;have H2:=a9.zero;subst H2;obtain⟨z,aP,n,r,aH,e⟩:=I.q4 iE;obtain⟨u,br,d0⟩:=r.get bj
 have Bk:aP.toArray[aP.toArray.size - 1]?=some u:=by
  show aP.toArray[aP.length - 1]?=some u;rw[<- pb,<- aH];exact br
 refine xI F.slot_list_pop ⟨_,e,rfl⟩ F.entry_list_pop (F.args_list_pop_1 _) (MeetsSeq.list_pop_last l aP.toArray n u Bk (by rw[cS];omega)) ⟨e,?_⟩;refine⟨y,_,I.yA (its':=aP.dropLast) iE e ?_ r.dropLast ?_,d0,q⟩
 ·show aP.toArray.eraseIdxIfInBounds (aP.toArray.size - 1)=aP.dropLast.toArray;rw[cS,List.eraseIdxIfInBounds_toArray,QO]
 ·rw[List.length_dropLast];omega
noncomputable def QV:d9:=λ x y H Q=>∃ l b xs zs,x=.ref l/\y=.ref b/\H l=some (.lst xs)/\H b=some (.lst zs)/\xs.length+zs.length<=sizeLine/\∀ p,H p=none->Q (.ref p) (upd H p (.lst (xs++zs)))
theorem QW:ei X (g5 .Add) QV:=by
 intro pins s σ H x y v u Q I bl b7 h;obtain⟨l,b,xs,zs,rfl,rfl,iE,fk,hz,q⟩:=h;cases bl;cases b7;obtain⟨z,aP,n,r,aH,e⟩:=I.q4 iE;obtain⟨c7,dn,eR,bD,fz,aF⟩:=I.q4 fk;refine PySem.P.add_list e aF ?_ (by rw[cS,cS];omega)
 have dR:aP.toArray++dn.toArray=(aP++dn).toArray:=by simp
 rw[dR];exact⟨.ref _,_,I.QP (t':=s.toks) (r.append bD) (by rw[dJ];omega),rfl,q _ I.fresh⟩
end
end L2
namespace H3
open PySem PySem.W PySem.Calls PyProof.Rows
theorem QX{P:Params}{h:bx}:∀(ns:List Int)(ae:List Value),WellAll P h ae (ns.map WData.int)->lD ae ns:=by
 intro ns
 induction ns with
 | nil=>
  intro ae w;rw[o8]at w;cases w;exact .nil
 | cons n ns bG=>
  intro ae w;rw[cV]at w
  cases w with
  | cons a b=>
   cases a;exact .cons _ _ (bG _ b)
theorem QY{l:OpenLaw}{n:Nat}(bc:l.most=some n){P:Params}{h:bx}{args:List WData}{vals:List Value}
 (yB:l.row.toRowW.claim.pre args=true) (yC:WellAll P h vals args) :
 ∃ a ae ns,vals=[Value.ref a]/\args=[WData.list (ns.map WData.int)]/\h.get? a=some {cls:=.type "list",data:=.seq ae.toArray}/\lD ae ns/\ns.length<=n:=by
 have QZ:WShape.hasAll [] args [.list .int]=true:=(pre_splitW yB).1;have aE:l.pre.holds [] {args:=args}=true:=(pre_splitW yB).2;obtain⟨d,r,rfl,ag,ai⟩:=hasAllW_cons QZ;obtain rfl:=hasAllW_nil ai;obtain⟨xs,rfl,aT⟩:=hasW_list ag;obtain⟨ns,rfl⟩:=items_int aT
 have hlen:ns.length<=n:=by
  unfold OpenLaw.pre at aE
  have b6:(WTm.not (.lt (.lit (.int (n:Int))) (.len (.arg 0)))).holds [] {args:=[.list (ns.map .int)]}=true:=by
   have b6:=(holds_andW aE).1;rw[bc]at b6;exact b6
  have dp:=condW_of b6 (w_not (w_lt w_lit (w_len_list (w_arg rfl))));rw[bL]at dp;refine Nat.le_of_not_lt λ q=>?_
  have h8:(n:Int)<((ns.length:Nat):Int):=by omega
  first
   |(rw[decide_eq_true h8]at dp;exact absurd dp (by decide))
   |(simp at dp;omega)
 cases yC with
 | cons iB h9=>
  cases h9
  cases iB with
  |list aO eS=>exact⟨_,_,ns,rfl,rfl,aO,QX ns _ eS,hlen⟩
theorem Q0(l:OpenLaw)(args:List WData):l.row.toRowW.claim.post args (.bool true) args=true:=
 postW_of (r:=l.row.toRowW) (X:=(true==true))
  (show WShape.has [] (.bool true) .bool=true by first|rfl|decide|simp[WShape.has,WShape.arms,WShape.armsAll])
  (show (WTm.eq .res (.lit (.bool true))).value [] {args:=args,res:=some (.bool true),after:=args}=some (.bool (true==true)) from w_eq_bool (w_res rfl) w_lit) rfl
theorem Q1{l:OpenLaw}{n:Nat}{q:bZ}{loose:List Str}{sU:(Str->Option Value)->bx->Prop}{m2:bM->bx->Prop}{d:DefRec}
 (bc:l.most=some n) (u8:d.params.defaults=[])
 (call:∀(w:bM)(s₀ dx:ay)(mg jN:Str->Option Value)(fa:Addr)(o:Obj)(pm cd doc:Value)(a:Addr)(ae:List Value)(ns:List Int),
  Ground q loose [] sU w s₀ mg jN dx.heap->m2 w dx.heap →
  dx.heap.get? fa=some o->o.data=.func (docDef d.name d.params d.body d.scope pm cd doc)->dx.heap.CodeRec cd d.name->mg d.name=some (.ref fa) →
  dx.heap.get? a=some {cls:=.type "list",data:=.seq ae.toArray}->lD ae ns->ns.length<=n->dx.gens=#[] →
  iV (aK l.prog w) sh (.call (.ref fa) ⟨[.ref a],[]⟩) (λ r s'=>r=.ok (.ret (.bool true))/\OldK dx.heap s'.heap/\s'.os=dx.os/\oZ s'.gens) dx) :
 WalkO q loose sU m2 l.row.toRowW d [] (λ f ae=>PySem.call f ae):=by
 intro w s₀ dx mg jN G Y fa o pm cd doc yr dd aO hd eN g8 hmg a3 args vals as yB agi agj yC agk;obtain rfl:yr=.none:=Dflts.none g8 u8;obtain rfl:dd=.none:=Dflts.noKw g8;obtain⟨a,ae,ns,rfl,rfl,Bl,hints,hlen⟩:=QY bc yB yC;refine enter_call (nM (call w s₀ dx mg jN fa o pm cd doc a ae ns G Y aO (fd_plain hd) eN hmg Bl hints hlen a3) λ r s' aV=>?_);obtain⟨rfl,ai,aT,b6⟩:=aV;exact⟨.inl ⟨.bool true,.bool true,[],rfl,λ _=>rfl,.bool true,Q0 l _,λ _=>⟨List.Pairwise.nil,λ _ hm=>(nomatch hm)⟩⟩,ai,aT,b6⟩
end H3
namespace L2
open PySem PySem.Spec PyProof.Rows
theorem Bm:∀{ae:List Value}{ns:List Int},lD ae ns->Vals (ns.map V.int) ae
 |_,_,.nil=>.nil
 |_,_,.cons n t h=>.cons ⟨t,rfl⟩ (Bm h)
noncomputable def kx(s:bC):xL:=match s with
 |.FunctionDef _ a _ _ _ _ _ _ _ _=>a
 |_=>{posonlyargs:=[],args:=[],vararg:=none,kwonlyargs:=[],kw_defaults:=[],kwarg:=none,defaults:=[]}
noncomputable def g9(s:bC):List bC:=match s with
 |.FunctionDef _ _ b _ _ _ _ _ _ _=>b
 |_=>[]
noncomputable def b9(s:bC):eV:=match s with
 |.FunctionDef _ _ _ _ _ _ sc _ _ _=>sc
 |_=>{kind:=.function,names:=[],isGenerator:=false,isCoroutine:=false}
noncomputable abbrev cG:pq:=λ _ _ _ _ _ _=>False
noncomputable abbrev pA:iA:=λ _ _ _=>False
theorem H4{X:a0}:Bf cG X pA:=λ _ _ _ _ _ _ _ h=>h.elim
structure c4(K:a8)(x qual:Str)(st:bC)(f:Addr)(fd:gM):Prop where
 ex:∃(dT:Value)(c5:Option Addr)(dd doc pm:Value)(an:Option Addr)(bF ct:Value)(g7:Array (Option Value)),
  fd=lH x qual (kx st) (g9 st) (b9 st) .none dd doc pm an bF ct/\K.lookup f=some ⟨dT,c5,.func fd,g7⟩/\qR K bF qual=true
 b8:mN K (.ref f)=true
section
variable{P:bZ}{w:bM}{K:a8}{mg:Str->Option Value}{base:bx}
theorem c4.ok{x qual:Str}{st:bC}{f:Addr}{fd:gM}{N ps:List Str}{k:Nat}{sp:gm}(F:c4 K x qual st f fd)(S:df N ps (b9 st))(len:∀ ae H Q E,sp ae H Q E->ae.length=ps.length)
 (kt:∀(bF:Value)(A:cK)(outer:List Env)(s:ay)(H:au)(ae:List V)(Q:cC)(E:iA),eY k (A.deeper (mH qual (b9 st) s.heap.objs.size f bF))->sp ae H Q E →
  ∃ t,jo (n5 cG P w K mg base N qual (b9 st) f bF A outer s H E).pi (g9 st) t/\t {nx:=λ _ ak=>Q .bE ak,rt:=Q} (jU N ae) H):cN P w K mg base cG (k+1) f fd ps sp:=by
 obtain⟨dT,c5,dd,doc,pm,an,bF,ct,g7,rfl,lk,eN⟩:=F.ex;refine HF lk eN S len λ A outer s H ae Q E aq i0=>?_;obtain⟨t,h,q⟩:=kt bF A outer s H ae Q E aq i0;exact⟨t,h.pi,q⟩
theorem c4.binds{x qual:Str}{st:bC}{f:Addr}{fd:gM}{ps:List Str}(F:c4 K x qual st f fd)
 (h:∀(dd doc pm:Value)(an:Option Addr)(bF ct:Value)(us:List Value),us.length=ps.length->bindArgs (lH x qual (kx st) (g9 st) (b9 st) .none dd doc pm an bF ct) ⟨us,[]⟩=pure (ps.zip us)):Binds K fd ps []:=by
 obtain⟨dT,c5,dd,doc,pm,an,bF,ct,g7,rfl,lk,eN⟩:=F.ex;exact .all (h dd doc pm an bF ct)
theorem Q2{x qual:Str}{st:bC}{f:Addr}{dT:Value}{c5 an:Option Addr}{g7:Array (Option Value)}{dd doc pm bF ct:Value}(l:K.lookup f=some ⟨dT,c5,.func (lH x qual (kx st) (g9 st) (b9 st) .none dd doc pm an bF ct),g7⟩)
 (c:qR K bF qual=true) (k:mN K (.ref f)=true):c4 K x qual st f (lH x qual (kx st) (g9 st) (b9 st) .none dd doc pm an bF ct):=⟨⟨dT,c5,dd,doc,pm,an,bF,ct,g7,rfl,l,c⟩,k⟩
end
noncomputable def lS(H ak:au):Prop:=∀ b o,H b=some o->ak b=some o
theorem lS.refl(H:au):lS H H:=λ _ _ h=>h
noncomputable def iF(cells:List (Str×Addr)):List (Str×k0)->List (Str×Addr)->List (Str×Addr)
 |[],acc=>acc
 |(n,k)::r,acc=>iF cells r (if k=.free then (n,(cells.lookup n).getD 0)::acc else acc)
theorem H5{α β:Type}{f:α->β->Sem (ForInStep β)}(g:β->α->β):∀(l:List α)(c:β),(∀ x∈l,∀ c,f x c=pure (.yield (g c x)))->forIn l c f=pure (l.foldl g c)
 |[],_,_=>rfl
 | x::l,c,h=>by
  rw[uu,h x dP,pure_bind];exact H5 g l _ λ y bj=>h y (eE _ bj)
theorem H6(cells:List (Str×Addr)):∀(names:List (Str×k0))(acc:List (Str×Addr)),
 names.foldl (λ c y=>if y.2=.free then (y.1,(cells.lookup y.1).getD 0)::c else c) acc=iF cells names acc
 |[],_=>rfl
 | (n,k)::r,acc=>by
  rw[List.foldl_cons,iF];exact H6 cells r _
theorem Bn{scope:eV}{env:Env}(h:∀ y∈scope.names,y.2=.free->∃ c,env.cells.lookup y.1=some c):xJ scope env=pure (iF env.cells scope.names []):=by
 rw[<- H6];simp only[xJ];rw[H5 (λ c y=>if y.2=.free then (y.1,(env.cells.lookup y.1).getD 0)::c else c) scope.names [] λ x aA c=>?_]
 ·rfl
 ·obtain⟨n,k⟩:=x;by_cases aI:k=.free
  ·subst aI;obtain⟨a,e⟩:=h _ aA rfl;have b0:env.cells.lookup n=some a:=e;simp[cellOf,b0]
  ·have af:(k==NameKind.free)=false:=by simpa using aI
   simp[af,aI]
theorem H7{cells:List (Str×Addr)}:∀(names:List (Str×k0))(acc:List (Str×Addr)),(∀ y∈names,y.2=.free->∃ c,cells.lookup y.1=some c)->(∀ x c,acc.lookup x=some c->cells.lookup x=some c) →
 ∀ x c,(iF cells names acc).lookup x=some c->cells.lookup x=some c
 |[],_,_,aB=>aB
 | (n,k)::r,acc,h,aB=>by
  rw[iF];refine H7 r _ (λ y bj=>h y (eE _ bj)) λ x c e=>?_;by_cases aI:k=.free
  ·rw[if_pos aI]at e;obtain⟨a,dR⟩:=h (n,k) dP aI;have H8:cells.lookup n=some a:=dR;rw[nT]at e
   cases aA:x==n with
   | true=>
    rw[aA]at e;have aF:some ((cells.lookup n).getD 0)=some c:=e;rw[H8]at aF;have c6:a=c:=eW.inj aF;rw[eq_of_beq aA,H8,c6]
   | false=>
    rw[aA]at e;exact aB x c e
  ·rw[if_neg aI]at e;exact aB x c e
theorem H9{cells:List (Str×Addr)}{x:Str}:∀(names:List (Str×k0))(acc:List (Str×Addr)),(acc.lookup x).isSome=true->((iF cells names acc).lookup x).isSome=true
 |[],_,h=>h
 | (n,k)::r,acc,h=>by
  rw[iF];refine H9 r _ ?_;by_cases aI:k=.free
  ·rw[if_pos aI,nT]
   cases aA:x==n with
   |true=>rfl
   |false=>exact h
  ·rw[if_neg aI];exact h
theorem Bo{cells:List (Str×Addr)}{x:Str}:∀(names:List (Str×k0))(acc:List (Str×Addr)),(x,NameKind.free)∈names->((iF cells names acc).lookup x).isSome=true
 |[],_,h=>nomatch h
 | (n,k)::r,acc,h=>by
  rw[iF];rcases dw.mp h with e|h
  ·cases e;refine H9 r _ ?_;rw[if_pos rfl,nT,beq_self_eq_true];rfl
  ·exact Bo r _ h
theorem H_{g:Str->k0->k0}{x:Str}:∀ names:List (Str×k0),(names.map λ y=>(y.1,g y.1 y.2)).lookup x=(names.lookup x).map (g x)
 |[]=>rfl
 | (n,k)::r=>by
  rw[cV,nT,nT]
  cases aA:x==n with
  | true=>
   have e:=eq_of_beq aA;subst e;rfl
  |false=>exact H_ r
theorem Q3(scope:eV)(env:Env):(oS scope env).names=scope.names.map λ y=>(y.1,if (y.2==.free&&env.scope.kind==.function&&env.kindOf y.1==some .cell)=true then NameKind.cell else y.2):=by
 unfold oS;refine xQ λ y _=>?_;obtain⟨n,k⟩:=y;show (if (k==.free&&env.scope.kind==.function&&env.kindOf n==some .cell)=true then (n,NameKind.cell) else (n,k))=_;split<;>simp_all
theorem Ia(scope:eV)(env:Env)(x:Str):(oS scope env).names.lookup x=(scope.names.lookup x).map λ k=>if (k==.free&&env.scope.kind==.function&&env.kindOf x==some .cell)=true then NameKind.cell else k:=by
 rw[Q3];exact H_ (g:=λ n k=>if (k==.free&&env.scope.kind==.function&&env.kindOf n==some .cell)=true then NameKind.cell else k) scope.names
noncomputable def d4(X:a0)(scope:eV)(N':List Str)(C:Addr)(ex:List Addr)(s:ay)(H:au):a0:=
 {X with N:=N',s₀:=s,H₀:=H,env:=compEnvC scope (iF X.env.cells scope.names []) C X.env,outer:=X.stack,stack:=X.stack,ex:=ex,fn:=λ _=>false,pn:=[],xe:=λ _ _=>False}
noncomputable def lT(nt:Nat)(cap:List Nat)(σ:St):St:=fT nt none++cap.map λ i=>(σ[i]?).join
structure fA(X:a0)(scope:eV)(N':List Str)(nt:Nat)(cap:List Nat):Prop where
 kind:scope.kind=.function
 u9:∀ y∈scope.names,y.2≠.cell
 locs:∀ y∈scope.names,y.2=.local->scope.names.lookup y.1=some .local
 frees:∀ y∈scope.names,y.2=.free->X.env.scope.names.lookup y.1=some .cell\/X.env.scope.names.lookup y.1=some .free
 len:N'.length=nt+cap.length
 Q4:∀(j i:Nat)(x:Str),cap[j]?=some i->N'[nt+j]?=some x->X.N[i]?=some x/\scope.names.lookup x=some .free
section
variable{X:a0}{scope:eV}{N':List Str}{nt:Nat}{cap:List Nat}{pins:List (Addr×Obj)}{σ:St}{H:au}{s:ay}
theorem fA.has(c:fA X scope N' nt cap)(ok:X.Ok):∀ y∈scope.names,y.2=.free->∃ a,X.env.cells.lookup y.1=some a:=λ y bj aI=>ok.has y.1 (c.frees y bj aI)
theorem fA.cells(c:fA X scope N' nt cap)(ok:X.Ok){x:Str}{a:Addr}(e:(iF X.env.cells scope.names []).lookup x=some a):X.env.cells.lookup x=some a:=
 H7 scope.names [] (c.has ok) (λ _ _ z=>by simp at z) x a e
theorem fA.Q5(c:fA X scope N' nt cap){x:Str}(h:(oS scope X.env).names.lookup x=some .cell\/(oS scope X.env).names.lookup x=some .free):(x,NameKind.free)∈scope.names:=by
 rw[Ia]at h
 cases q:scope.names.lookup x with
 |none=>rw[q]at h;simp at h
 | some k=>
  have hm:=mO q;have n_:k≠.cell:=c.u9 _ hm;rw[q]at h;by_cases aI:k=.free
  ·subst aI;exact hm
  ·have af:(k==NameKind.free)=false:=by simpa using aI
   simp only[mL,af,Bool.false_and,mM,if_false,eW.injEq]at h;rcases h with h|h
   ·exact absurd h n_
   ·exact absurd h aI
theorem Inv.comp(I:Inv X pins σ H s)(c:fA X scope N' nt cap){fp:List Addr}(hf:∀ b∈fp,hq X pins H b)(hR:∀ b∈fp,b<s.heap.objs.size){h':bx}{m:Str->Option Value}{t':Nat}
 (aI:∀ b o,s.heap.get? b=some o->h'.get? b=some o) (bc:h'.Ns s.heap.objs.size m) :
 Inv (d4 X scope N' s.heap.objs.size fp s H) [] (lT nt cap σ) H {s with heap:=h',toks:=t'}:=by
 have cl:=λ{x:Str} {a:Addr} (e:(iF X.env.cells scope.names []).lookup x=some a)=>c.cells I.ok e
 have agl:∀ x a,X.env.cells.lookup x=some a->a<s.heap.objs.size:=λ x a e=>by
  obtain⟨v,q⟩:=I.cell x a e;exact q.lt
 refine⟨⟨I.ok.mod,c.kind,I.ok.glob,I.ok.blt,ZB _,λ x y a aC aF=>I.ok.inj x y a (cl aC) (cl aF),λ x aA=>?_,λ x a aA=>absurd aA f7,I.ok.hd,I.ok.frames,.inl rfl,λ b af=>⟨?_,λ x a e=>?_⟩,
  λ b o e=>I.bs b o e,eG I.ok.lK I.aL,λ b o e af=>?_,λ b af Q6=>?_,I.stack,λ b af=>I.GQ b af⟩,
  rfl,I.bare,fi.kept aI,⟨m,bc,λ i x v aC aF c6=>?_⟩,λ x a e=>?_,I.bt.fresh (ZB _),λ x a e=>I.jQ x a (cl e),λ p ax=>absurd (show p∈([]:List (Addr×Obj)) from ax) (by simp),I.bt.kept aI,?_⟩
 ·exact x6.mp (Bo scope.names [] (c.Q5 aA))
 ·exact du (hR b af)
 ·exact(hf b af).2.2.2.2.1 x a (cl e)
 ·obtain⟨f0,f1,f2,dD,_⟩:=hf b af;rcases dD with z|z
  ·exact I.ok.uL b o e z
  ·exact absurd (hH (cm e) (eG I.ok.lK z)) (lF _)
 ·obtain⟨f0,f1,f2,_⟩:=hf b af;rcases dw.mp (I.uM b Q6) with z|z
  ·exact f1 z
  ·exact f2 z
 .
  have Bp:N'[i]?=some x:=aC
  have ar:nt<=i:=by
   refine Nat.le_of_not_lt λ q=>?_;unfold lT at aF;rw[ki (by simpa using q),sj,if_pos q]at aF;cases aF
  obtain⟨j,rfl⟩:=Nat.exists_eq_add_of_le ar;unfold lT at aF;rw[mI (by simp),o6,Nat.add_sub_cancel_left,dF]at aF
  cases q:cap[j]? with
  |none=>rw[q]at aF;cases aF
  | some k=>
   rw[q]at aF;have oa:(σ[k]?).join=some v:=eW.inj aF
   have g_:σ[k]?=some (some v):=by
    cases z:σ[k]? with
    |none=>rw[z]at oa;cases oa
    |some hK=>rw[z]at oa;exact congrArg some oa
   obtain⟨ky,eR⟩:=c.Q4 j k x q Bp;have sV:=mO eR;have yt:=c.frees _ sV rfl;obtain⟨m0,_,aH⟩:=I.loc;obtain⟨u,r,lk⟩:=aH k x v ky g_ (.inr yt);refine⟨u,r,.inr ⟨?_,?_⟩⟩
   ·show (oS scope X.env).names.lookup x=some .cell\/(oS scope X.env).names.lookup x=some .free;rw[Ia,eR]
    by_cases z:((NameKind.free==.free&&X.env.scope.kind==.function&&X.env.kindOf x==some .cell)=true)
    ·exact .inl (by rw[mL,if_pos z])
    ·exact .inr (by rw[mL,if_neg z])
   ·rcases lk with⟨ej,_⟩|⟨_,a,e,z⟩
    ·have Q7:X.env.scope.names.lookup x=some .local:=ej;rcases yt with y|y<;>(rw[Q7]at y;cases y)
    ·obtain⟨n4,dR⟩:=x6.mp (Bo (cells:=X.env.cells) scope.names [] sV);have b0:=cl dR;rw[e]at b0;cases b0;obtain⟨o,aO,hd⟩:=z;exact⟨a,dR,o,aI _ _ aO,hd⟩
 ·obtain⟨v,o,aO,hd⟩:=I.cell x a (cl e);exact⟨v,o,aI _ _ aO,hd⟩
 ·show (lT nt cap σ).length=N'.length;unfold lT;rw[dJ,o6,bL,c.len]
theorem Inv.Ib{C:Addr}{fp:List Addr}{σ':St}{ak:au}{s':ay}(I:Inv X pins σ H s)(kz:C=s.heap.objs.size)(hf:∀ b∈fp,hq X pins H b){N':List Str}(J:Inv (d4 X scope N' C fp s H) [] σ' ak s') :
 ∃ m,s'.heap.Ns C m/\∀ h',Heap.SameBut C s'.heap h'->Inv X pins σ ak {s' with heap:=h'}:=by
 subst kz;obtain⟨m,bc,_⟩:=J.loc;refine⟨m,bc,λ h' av=>?_⟩;have ne:∀ b o,s.heap.get? b=some o->b≠s.heap.objs.size:=λ b o e=>du (cm e);have B:=J.base;refine I.OV (ch:=fp) J.os ⟨λ b o e n af aA=>?_,λ b o e n af aA=>?_,B.free,λ b o e aA=>?_,B.kn,B.jn,B.jM⟩ (λ b u e=>?_) J.bare λ b af=>?_
 ·exact(av.2 b (ne b o e)).trans (B.keep b o e n af aA)
 ·obtain⟨ck,q⟩:=B.slot b o e n af aA;exact⟨ck,(av.2 b (ne b o e)).trans q⟩
 ·obtain⟨cy,q⟩:=B.there b o e aA;exact⟨cy,(av.2 b (ne b o e)).trans q⟩
 ·have Ic:ak s.heap.objs.size=none:=J.free;refine(J.bt b u e).jK (λ d hK hd q=>(av.2 d ?_).trans q) (λ _ q=>q) λ _ _ q=>q;intro z;subst z;rcases hd with z|z
  ·rw[<- z,Ic]at e;cases e
  ·rw[Ic]at z;cases z
 ·obtain⟨f0,f1,f2,dD,f4,eD⟩:=hf b af;exact⟨dD,f1,f4,eD⟩
end
noncomputable def u_(c2:TI)(g:fX)(aU:TE)(nt:Nat)(cap:List Nat):TE:=λ σ H Q=>c2 σ H λ J H1=>∀ acc,H1 acc=none →
 ∃ W:Nat->Nat->List V->St->au->Prop,(∃ m,W 0 m [] (lT nt cap σ) (upd H1 acc (.lst [])))/\∀ i m ys σ' ak,W i m ys σ' ak →
  (J.stop i ak/\Q (.ref acc) ak)\/(J.go i ak/\∀ x aQ,J.n1 i ak x aQ->g x σ' aQ λ σ3 c9=>aU σ3 c9 λ y hs=>
   hs acc=some (.lst ys)/\ys.length<sizeLine/\∃ cZ,cZ<m/\W (i+1) cZ (ys++[y]) σ3 (upd hs acc (.lst (ys++[y]))))
noncomputable def va(c2:TI)(g:fX)(bg:TT)(aU:TE)(nt:Nat)(cap:List Nat):TE:=λ σ H Q=>c2 σ H λ J H1=>∀ acc,H1 acc=none →
 ∃ W:Nat->Nat->List V->St->au->Prop,(∃ m,W 0 m [] (lT nt cap σ) (upd H1 acc (.lst [])))/\∀ i m ys σ' ak,W i m ys σ' ak →
  (J.stop i ak/\Q (.ref acc) ak)\/(J.go i ak/\∀ x aQ,J.n1 i ak x aQ->g x σ' aQ λ σ3 c9=>bg σ3 c9 λ b iZ=>if b=true then aU σ3 iZ λ y hs=>
   hs acc=some (.lst ys)/\ys.length<sizeLine/\∃ cZ,cZ<m/\W (i+1) cZ (ys++[y]) σ3 (upd hs acc (.lst (ys++[y])))
   else ∃ cZ,cZ<m/\W (i+1) cZ ys σ3 iZ)
theorem Q8(elt target iter c:a5)(scope:eV)(pos:Pos)(it acc:Value)(env:Env) :
 ul (.ListComp elt [⟨target,iter,[c],0⟩] scope pos) 0 it acc env=(W1 iter.pos >>= λ _=>ef it >>= λ r=>match r with
  |none=>pure (.done .next)
  | some v=>qB target it v >>= λ _=>WF target env v >>= λ _=>(forIn [c] true λ c r=>if r=true then do let ok ← mE c env (eval c env);pure (ForInStep.yield ok) else pure (ForInStep.yield r)) >>= λ ok=>
   if ok=true then (eval elt env >>= λ x=>call (.builtin "list.append") [acc,x] >>= λ _=>pure ()) >>= λ _=>again (.compLoop (.ListComp elt [⟨target,iter,[c],0⟩] scope pos) 0 it acc env)
   else again (.compLoop (.ListComp elt [⟨target,iter,[c],0⟩] scope pos) 0 it acc env)):=by
 rfl
theorem Q9(c:a5)(env:Env):(forIn [c] true λ c r=>if r=true then do let ok ← mE c env (eval c env);pure (ForInStep.yield ok) else pure (ForInStep.yield r))=mE c env (eval c env):=by
 rw[uu,if_pos rfl];simp only[bind_assoc,pure_bind,xR,bind_pure]
theorem Q_(elt target iter c:a5)(scope:eV)(pos:Pos)(it acc:Value)(env:Env) :
 ul (.ListComp elt [⟨target,iter,[c],0⟩] scope pos) 0 it acc env=(W1 iter.pos >>= λ _=>ef it >>= λ r=>match r with
  |none=>pure (.done .next)
  | some v=>qB target it v >>= λ _=>WF target env v >>= λ _=>mE c env (eval c env) >>= λ ok=>
   if ok=true then (eval elt env >>= λ x=>call (.builtin "list.append") [acc,x] >>= λ _=>pure ()) >>= λ _=>again (.compLoop (.ListComp elt [⟨target,iter,[c],0⟩] scope pos) 0 it acc env)
   else again (.compLoop (.ListComp elt [⟨target,iter,[c],0⟩] scope pos) 0 it acc env)):=by
 rw[Q8,Q9]
section
variable{X:a0}{scope:eV}{N':List Str}{nt:Nat}{cap:List Nat}{elt iter bd:a5}{pos:Pos}{c2:TI}{g:fX}{aU:TE}
theorem Bq{cs:List a5}{B:Env->Sem Bool}{bg:TT}{use:Option (Value->Sem Unit)}{Br:Value->ay->Prop}{R0:V->au->Prop}{pins:List (Addr×Obj)}{s s2:ay}{σ:St}{H:au}{pk:Value}
 (aE:X.calm=true) (c:fA X scope N' nt cap) (a3:∀ C ex s H,lM (d4 X scope N' C ex s H) bd g) (he:∀ C ex s H,bO (d4 X scope N' C ex s H) elt aU)
 (bN:∀ C ex s H pins yD σ yE Q,Inv (d4 X scope N' C ex s H) pins σ yE yD->bg σ yE Q->aD (aK X.prog X.w) X.A (B (d4 X scope N' C ex s H).env) (yg (d4 X scope N' C ex s H) pins σ Q) (d4 X scope N' C ex s H).xe yD)
 (Ra:∀ it acc env,ul (.ListComp elt [⟨bd,iter,cs,0⟩] scope pos) 0 it acc env=(W1 iter.pos >>= λ _=>ef it >>= λ r=>match r with
  |none=>pure (.done .next)
  | some v=>qB bd it v >>= λ _=>WF bd env v >>= λ _=>B env >>= λ ok=>
   if ok=true then (eval elt env >>= λ x=>call (.builtin "list.append") [acc,x] >>= λ _=>pure ()) >>= λ _=>again (.compLoop (.ListComp elt [⟨bd,iter,cs,0⟩] scope pos) 0 it acc env)
   else again (.compLoop (.ListComp elt [⟨bd,iter,cs,0⟩] scope pos) 0 it acc env)))
 (I:Inv X pins σ H s)
 (fin:∀{aT:bx}{s2:ay}{aQ:au}{D:Addr}{fp:List Addr}{σ':St}{ak:au}{s':ay},Inv X pins σ (upd aQ D (.lst [])) {s2 with heap:=aT}->(∀ b∈fp,hq X pins (upd aQ D (.lst [])) b) →
  Inv (d4 X scope N' aT.objs.size fp {s2 with heap:=aT} (upd aQ D (.lst []))) [] σ' ak s'->R0 (.ref D) ak->um (aK X.prog X.w) X.A X.xe use Br (.ref D) aT.objs.size (.ok .next) s')
 (ai:yj X pins σ bd (λ J H1=>∀ acc,H1 acc=none->∃ W:Nat->Nat->List V->St->au->Prop,(∃ m,W 0 m [] (lT nt cap σ) (upd H1 acc (.lst [])))/\∀ i m ys σ' ak,W i m ys σ' ak →
  (J.stop i ak/\R0 (.ref acc) ak)\/(J.go i ak/\∀ x aQ,J.n1 i ak x aQ->g x σ' aQ λ σ3 c9=>bg σ3 c9 λ b iZ=>if b=true then aU σ3 iZ λ y hs=>
  hs acc=some (.lst ys)/\ys.length<sizeLine/\∃ cZ,cZ<m/\W (i+1) cZ (ys++[y]) σ3 (upd hs acc (.lst (ys++[y])))
  else ∃ cZ,cZ<m/\W (i+1) cZ ys σ3 iZ)) pk s2) :
 aD (aK X.prog X.w) X.A (newList [])
  (λ acc s3=>aD (aK X.prog X.w) X.A (newFunctionEnv scope X.env.globals (iF X.env.cells scope.names []) [] X.env.qual none Value.none (some X.env))
   (λ Ie s4=>iV (aK X.prog X.w) X.A (Code.compStart (.ListComp elt [⟨bd,iter,cs,0⟩] scope pos) 0 pk acc {Ie with scope:=oS scope X.env}) (um (aK X.prog X.w) X.A X.xe use Br acc Ie.locals) s4) X.xe s3) X.xe s2:=by
 obtain⟨it,fp,iC,J,aQ,rfl,bY,T,yk,f2,R⟩:=ai;have g8:aQ s2.heap.objs.size=none:=bY.bt.fresh (ZB _);obtain⟨W,⟨m0,mW⟩,turn⟩:=R _ g8
 have dU:Inv X pins σ (upd aQ s2.heap.objs.size (.lst [])) {s2 with heap:=s2.heap.push {cls:=.type "list",dict:=none,data:=.seq ([]:List Value).toArray}}:=
  bY.laid (t':=s2.toks) (λ b u e=>cc _ e) (ZB _) ⟨fV _,[],0,.nil,dK _ rfl⟩
 have yF:∀ b∈fp,b<s2.heap.objs.size:=λ b af=>by
  obtain⟨o,e,_⟩:=T.obj _ _ yk b af;exact cm e
 have dD:∀ b∈fp,hq X pins (upd aQ s2.heap.objs.size (.lst [])) b:=λ b af=>⟨by rw[bS (du (yF b af))];exact(f2 b af).1,(f2 b af).2⟩
 have uX:iC 0 (s2.heap.push {cls:=.type "list",dict:=none,data:=.seq ([]:List Value).toArray}):=T.keep _ _ _ yk λ b _ o e=>cc _ e;generalize Ig:s2.heap.push {cls:=.type "list",dict:=none,data:=.seq ([]:List Value).toArray}=aT at dU uX
 have Bs:s2.heap.objs.size<aT.objs.size:=by rw[<- Ig,pf];exact Nat.lt_succ_self _
 generalize Rb:s2.heap.objs.size=D at dU dD g8 mW turn Bs yF;refine gL ?_;rw[Rb,Ig];refine wpAny_newFunctionEnv c.u9 (by intro y bj;simp at bj) (λ b6 Ih Ii=>?_) c.kind
 dsimp only at Ih Ii ⊢
 have Ij:∀ b o,aT.get? b=some o->b6.get? b=some o:=λ b o e=>(Ii.2 b (du (cm e))).trans (cc _ e);have k6:=dU.comp (t':=s2.toks+([]:List (Str×Value)).length) c dD (λ b af=>nV (yF b af) Bs) Ij Ih;have Ik:iC 0 b6:=T.keep _ _ _ uX λ b _ o e=>Ij b o e
 dsimp only at k6
 have qW:∀{ak:au},(∀ b∈fp,ak b=none)->∀ b∈fp,hq (d4 X scope N' aT.objs.size fp {s2 with heap:=aT} (upd aQ D (.lst []))) [] ak b:=λ{ak} bc b af=>by
  refine⟨bc b af,du (nV (yF b af) Bs),λ z=>?_,.inl af,λ x a e=>(dD b af).2.2.2.2.1 x a (c.cells I.ok e),λ p ax=>absurd (show p∈([]:List (Addr×Obj)) from ax) (by simp)⟩;rcases dw.mp (I.uM b z) with y|y
  ·exact(dD b af).2.1 y
  ·exact(dD b af).2.2.1 y
 have loop:iV (aK X.prog X.w) X.A (.compLoop (.ListComp elt [⟨bd,iter,cs,0⟩] scope pos) 0 (.ref it) (.ref D) (compEnvC scope (iF X.env.cells scope.names []) aT.objs.size X.env))
  (um (aK X.prog X.w) X.A X.xe use Br (.ref D) aT.objs.size) {s2 with heap:=b6,toks:=s2.toks+([]:List (Str×Value)).length}:=by
  refine codeAny_loop rfl (λ n s'=>∃ i ys σ' ak,Inv (d4 X scope N' aT.objs.size fp {s2 with heap:=aT} (upd aQ D (.lst []))) [] σ' ak s'/\iC i s'.heap/\(∀ b∈fp,ak b=none)/\W i n ys σ' ak) (λ n s5 k_=>?_) m0 ⟨0,[],_,_,k6,Ik,λ b af=>(dD b af).1,mW⟩;obtain⟨i,ys,σ5,iZ,sN,sO,yl,Bt⟩:=k_;show aD _ X.A ((ul (.ListComp elt [⟨bd,iter,cs,0⟩] scope pos) 0 (.ref it) (.ref D) (compEnvC scope (iF X.env.cells scope.names []) aT.objs.size X.env)).onRaise (λ x=>do noteFrame x (compEnvC scope (iF X.env.cells scope.names []) aT.objs.size X.env);theTreesLotGoes x)) _ _ s5;refine wpAny_noted ?_;rw[Ra];rcases turn i n ys σ5 iZ Bt with⟨stop,A5⟩|⟨go,step⟩
  ·refine ah (xy (ah (h4 (T.done (d4 X scope N' aT.objs.size fp {s2 with heap:=aT} (upd aQ D (.lst []))) rfl rfl rfl aE i [] s5 σ5 iZ (λ _ _=>False) sN (qW yl) sO stop) (λ r hM xz=>?_) λ _ _ z=>z.elim)));obtain⟨aq,A7⟩:=xz;subst aq;exact aM (fin dU dD A7 A5)
  ·refine ah (xy (ah (h4 (T.item (d4 X scope N' aT.objs.size fp {s2 with heap:=aT} (upd aQ D (.lst []))) rfl rfl rfl aE i [] s5 σ5 iZ (λ _ _=>False) sN (qW yl) sO go) (λ r hM xz=>?_) λ _ _ z=>z.elim)));obtain⟨u,aq,q5⟩:=xz;subst aq;refine ah (h4 q5 (λ _ uZ xz=>?_) λ _ _ z=>z.elim);obtain⟨x,iD,kp,A8,Rc,vb,Rd⟩:=xz;have Re:=kp.pinned (qW Rd) (T.obj _ _ vb);refine ah (h4 (a3 _ _ _ _ _ uZ σ5 iD x u _ Re A8 (step x iD Rc)) (λ _ yD xz=>?_) λ _ _ z=>z.elim);obtain⟨σ8,yE,Rf,Rg⟩:=xz;refine ah (h4 (bN _ _ _ _ _ yD σ8 yE _ Rf Rg) (λ yG Rh xz=>?_) λ _ _ z=>z.elim);obtain⟨Ri,yH,yI⟩:=xz
   cases yG with
   | true=>
    rw[if_pos rfl];rw[if_pos rfl]at yI;refine ah (ah (h4 (he _ _ _ _ _ Rh σ8 Ri _ yH yI) (λ Rj Rk xz=>?_) λ _ _ z=>z.elim));obtain⟨y,Il,Rl,Rm,Bu,Rn,cZ,pB,Ro⟩:=xz
    refine ah (h4 (H0 (X:=d4 X scope N' aT.objs.size fp {s2 with heap:=aT} (upd aQ D (.lst []))) _ Rk σ8 Il (.ref D) [y] (.ref D) [Rj] (λ v Im=>v=.bE/\Im=upd Il D (.lst (ys++[y]))) Rl rfl (.cons Rm .nil) ⟨D,ys,y,rfl,rfl,Bu,Rn,rfl,rfl⟩)
     (λ _ agm ⟨v10,Im,Bv,_,_,Rp⟩=>?_) λ _ _ z=>z.elim)
    subst Rp;refine aM (aM ⟨rfl,cZ,pB,i+1,ys++[y],σ8,_,Bv.sM,?_,λ b af=>?_,Ro⟩)
    ·exact T.keep _ _ _ vb λ b af o e=>(Bv.pin (b,o) (gi _ (gi _ (sL af e)))).1
    ·obtain⟨o,e,d⟩:=T.obj _ _ vb b af;exact(Bv.pin (b,o) (gi _ (gi _ (sL af e)))).2.1
   | false=>
    rw[if_neg f7];rw[if_neg f7]at yI;obtain⟨cZ,pB,Rq⟩:=yI;refine aM ⟨rfl,cZ,pB,i+1,ys,σ8,_,yH.sM,?_,λ b af=>?_,Rq⟩
    ·exact T.keep _ _ _ vb λ b af o e=>(yH.pin (b,o) (gi _ (gi _ (sL af e)))).1
    ·obtain⟨o,e,d⟩:=T.obj _ _ vb b af;exact(yH.pin (b,o) (gi _ (gi _ (sL af e)))).2.1
 exact codeAny_compStart_list loop (T.self _ 0 _ _ _ Ik loop)
theorem Io(elt bd iter:a5)(scope:eV)(pos:Pos)(it acc:Value)(env:Env):ul (.ListComp elt [⟨bd,iter,[],0⟩] scope pos) 0 it acc env=(W1 iter.pos >>= λ _=>ef it >>= λ r=>match r with
 |none=>pure (.done .next)
 | some v=>qB bd it v >>= λ _=>WF bd env v >>= λ _=>(pure true:Sem Bool) >>= λ ok=>
  if ok=true then (eval elt env >>= λ x=>call (.builtin "list.append") [acc,x] >>= λ _=>pure ()) >>= λ _=>again (.compLoop (.ListComp elt [⟨bd,iter,[],0⟩] scope pos) 0 it acc env)
  else again (.compLoop (.ListComp elt [⟨bd,iter,[],0⟩] scope pos) 0 it acc env)):=by
 rw[compTurn_list1];simp only[pure_bind,if_true];rfl
theorem Ip{pins:List (Addr×Obj)}{σ:St}{Q:cC}{aT:bx}{s2:ay}{aQ:au}{D:Addr}{fp:List Addr}{σ':St}{ak:au}{s':ay}(dU:Inv X pins σ (upd aQ D (.lst [])) {s2 with heap:=aT})(dD:∀ b∈fp,hq X pins (upd aQ D (.lst [])) b)
 (jV:Inv (d4 X scope N' aT.objs.size fp {s2 with heap:=aT} (upd aQ D (.lst []))) [] σ' ak s') (q:Q (.ref D) ak):um (aK X.prog X.w) X.A X.xe none (gy X pins σ Q) (.ref D) aT.objs.size (.ok .next) s':=by
 obtain⟨m,bc,cY⟩:=dU.Ib rfl dD jV;exact⟨m,bc,λ h' pC=>⟨.ref D,ak,cY h' pC,rfl,q⟩⟩
theorem Rr(aE:X.calm=true)(c:fA X scope N' nt cap)(ar:lO X bd iter c2)(a3:∀ C ex s H,lM (d4 X scope N' C ex s H) bd g)(he:∀ C ex s H,bO (d4 X scope N' C ex s H) elt aU)
 (av:∀ x,kY iter X.env x=pure x:=by intro _;rfl):bO X (.ListComp elt [⟨bd,iter,[],0⟩] scope pos) (u_ c2 g aU nt cap):=by
 intro pins s σ H Q I h;rw[eval_ListComp]
 exact AE (use:=none) rfl av (Bn (c.has I.ok)) c.kind c.locs (bU (ar pins s σ H _ I (show va c2 g (λ _ H k=>k true H) aU nt cap σ H Q from h)) λ v s1 ag=>bU ag λ pk s2 ai=>
  Bq aE c a3 he (B:=λ _=>pure true) (λ _ _ _ _ _ _ _ _ _ iX q=>aM ⟨_,iX,q⟩) (Io _ _ _ _ _) I Ip ai)
theorem Rs{ct:a5}{bg:TT}(aE:X.calm=true)(c:fA X scope N' nt cap)(ar:lO X bd iter c2)(a3:∀ C ex s H,lM (d4 X scope N' C ex s H) bd g)(bN:∀ C ex s H,jS (d4 X scope N' C ex s H) ct bg)(he:∀ C ex s H,bO (d4 X scope N' C ex s H) elt aU)
 (av:∀ x,kY iter X.env x=pure x:=by intro _;rfl):bO X (.ListComp elt [⟨bd,iter,[ct],0⟩] scope pos) (va c2 g bg aU nt cap):=by
 intro pins s σ H Q I h;rw[eval_ListComp]
 exact AE (use:=none) rfl av (Bn (c.has I.ok)) c.kind c.locs (bU (ar pins s σ H _ I h) λ v s1 ag=>bU ag λ pk s2 ai=>
  Bq aE c a3 he (B:=λ env=>mE ct env (eval ct env)) (λ C ex s H=>bN C ex s H) (Q_ _ _ _ _ _ _) I Ip ai)
end
structure Got(P:bZ)(w:bM)(K:a8)(mg:Str->Option Value)(base:bx)(k:Nat)(x:Str)(ps:List Str)(sp:gm):Prop where
 ex:∃(f:Addr)(fd:gM),cN P w K mg base cG k f fd ps sp/\mg x=some (.ref f)/\mN K (.ref f)=true/\Binds K fd ps []
section
variable{X:a0}{k j:Nat}{x:Str}{ps:List Str}{sp:gm}{p pos:Pos}{e:a5}{es:List a5}{t:eX}
theorem Rt(G:Got X.prog X.w X.K X.mg X.base k x ps sp)(aq:eY j X.A)(aI:k<=j)(a3:c8 X x)(aB:h_ X (e::es) t)(gO:(x==("__debug__" : Str))=false:=by decide)
 (he:di (e::es) X.env=(false,eval e X.env)::di es X.env:=by rfl) (e4:(fS pos (di es X.env)).any (·.1)=false:=by rfl) :
 bO X (.Call (.Name x p) (e::es) [] pos) (yp sp [] pA t):=by
 obtain⟨f,fd,F,hm,b8,b⟩:=G.ex;exact P8 F (aq.mono aI) a3 hm b8 b .nil H4 aB gO he e4
end
section
variable{X:a0}
theorem Ru:ei X (g5 .FloorDiv) (sP (λ _ j=>0<j/\j<2 ^ 64) λ i j=>.int (i / j)):=yn λ i j t u s E Q aE q=>by
 have h0:j≠0:=by omega
 have ag:j.natAbs.log2<9000:=by
  have aC:j.natAbs<2 ^ 64:=by omega
  exact nV ((Nat.log2_lt (by omega)).mpr aC) (by decide)
 have e:i.fdiv j=i / j:=Int.fdiv_eq_ediv_of_nonneg i (by omega);exact floordiv_int h0 (by rw[e];exact q) (.inl (PyProof.noPylong_of_log2 ag))
theorem Rv(l b:Addr)(items vd:Array Value)(n eR:Nat)(pw:Option Addr)(px:Array (Option Value))(h0:¬(!items.isEmpty&&Builtin.List.listTooLong (items.size+vd.size))=true)(ag:items.size<=sizeLine)(ai:items.size+vd.size<=sizeLine+1) :
 Meets (Builtin.«list.extend» ⟨[.ref l,.ref b],[]⟩) (λ _ R s=>s.heap.get? l=some {cls:=.type "list",dict:=none,data:=.seq items n,slots:=#[]} ∧
  s.heap.get? b=some {cls:=.type "tuple",dict:=pw,data:=.seq vd eR,slots:=px}/\R (.ok (.ret Value.none)) {s with heap:=s.heap.update l (Obj.mapSeq λ x=>x++vd),toks:=s.toks}):=
 .of_wp λ prog w A R s h=>by
  obtain⟨ax,g,d,tk,os⟩:=s;obtain⟨aH,af,h⟩:=h;have f1:=AutoSeq1.idx_int;have f2:=AutoSeq1.sub_tuple_tuple;have dD:=AutoSeq1.sub_list_list;have f4:=AutoSeq1.sub_tuple_list;have eD:=AutoSeq1.sub_list_tuple
  have kA:(items++vd).size<=sizeLine+1:=by rw[Array.size_append];exact ai
  wp_walk using(mx aH rfl (hz:=ag) (_hz':=kA)),wpAny_loadPart' aH,wpAny_loadPart' af
  exact⟨_,rfl,h⟩
noncomputable def Rw(K:a8):V->List V->au->cC->Prop:=λ x ae H Q=>∃ l b xs zs,x=.ref l/\ae=[.ref b]/\H l=some (.lst xs)/\dk K H b zs/\xs.length+zs.length<=sizeLine/\Q .bE (upd H l (.lst (xs++zs)))
theorem Rx:yz X "list.extend" (Rw X.K):=by
 intro pins s σ H x ae v us Q I bl a9 h;obtain⟨l,b,xs,zs,rfl,rfl,iE,fk,hz,q⟩:=h;cases bl;obtain⟨u,rfl,d0⟩:=a9.one;cases d0;obtain⟨z,aP,n,r,aH,e⟩:=I.q4 iE;obtain⟨dn,bD,⟨⟨dS,pw,agn,px⟩,aF,pz,eR,hd2⟩,m3⟩:=I.tuple fk;simp only at pz hd2;subst pz hd2;have fz:=bD.length
 have hsz:aP.toArray.size+dn.toArray.size<=sizeLine:=by rw[cS,cS];omega
 have Bj:¬ (!aP.toArray.isEmpty&&Builtin.List.listTooLong (aP.toArray.size+dn.toArray.size))=true:=by
  rw[HZ hsz,Bool.and_false];exact f7
 refine xI F.slot_list_extend ⟨_,e,rfl⟩ F.entry_list_extend (F.args_list_extend_2 _ _) (Rv l b aP.toArray dn.toArray n eR pw px Bj (by rw[cS];omega) (by omega)) ⟨e,aF,?_⟩;refine⟨.bE,_,I.yA (its':=aP++dn) iE e (by simp) (r.append bD) ?_,rfl,q⟩;rw[dJ];omega
end
noncomputable def dz:a5->Bool
 |.Starred ..=>false
 |_=>true
theorem eT{e:a5}{es:List a5}{env:Env}(h:dz e=true):di (e::es) env=(false,eval e env)::di es env:=by
 cases e<;>first|rfl|cases h
section
variable{κ:Type} [DecidableEq κ]
noncomputable def ib(kvs:List (κ×V))(k:κ):Option V:=(kvs.find? λ bq=>decide (bq.1=k)).map (·.2)
noncomputable def fY(kvs:List (κ×V))(k:κ)(v:V):List (κ×V):=
 if (kvs.any λ bq=>decide (bq.1=k))=true then kvs.map (λ bq=>if bq.1=k then (bq.1,v) else bq) else kvs++[(k,v)]
theorem ve{p:κ×V}{r:List (κ×V)}{k:κ}(e:p.1=k):ib (p::r) k=some p.2:=by simp[ib,jH,e]
theorem vf{p:κ×V}{r:List (κ×V)}{k:κ}(e:¬ p.1=k):ib (p::r) k=ib r k:=by simp[ib,jH,e]
theorem Iq(k:κ):∀ kvs:List (κ×V),(kvs.any λ bq=>decide (bq.1=k))=(ib kvs k).isSome
 |[]=>rfl
 | p::r=>by
  rw[jG];by_cases e:p.1=k
  ·simp only[ve e,decide_eq_true e,Bool.true_or,Option.isSome_some]
  ·rw[vf e,decide_eq_false e,Bool.false_or];exact Iq k r
theorem vg(kvs:List (κ×V))(k:κ)(v:V):(fY kvs k v).length<=kvs.length+1:=by
 unfold fY;split
 ·rw[bL];omega
 ·rw[dJ,dt,h7];omega
theorem km.Ry{o:Option V}{u:Option Value}(r:km o u):o.isSome=u.isSome:=by
 cases o with
 | none=>cases u with
  |none=>rfl
  |some _=>exact(show False from r).elim
 | some _=>cases u with
  |none=>exact(show False from r).elim
  |some _=>rfl
theorem km.getD{o:Option V}{u:Option Value}{d:V}{d':Value}(r:km o u)(cv:RelV d d'):RelV (o.getD d) (u.getD d'):=by
 cases o with
 | none=>cases u with
  |none=>exact cv
  |some _=>exact(show False from r).elim
 | some _=>cases u with
  |none=>exact(show False from r).elim
  |some _=>exact r
theorem fO.val{kvs:List (κ×V)}{ae:List (κ×Value)}(r:fO kvs ae)(k:κ):km (ib kvs k) (qK ae k):=by
 unfold fO at r
 induction r with
 |nil=>exact True.intro
 | @cons p q ps a7 h t bG=>
  obtain⟨ag,ai⟩:=h;by_cases e:p.1=k
  ·have b0:q.1=k:=ag.symm.trans e
   have b:qK (q::a7) k=some q.2:=by simp[qK,jH,b0]
   rw[ve e,b];exact ai
  ·have b0:¬ q.1=k:=λ z=>e (ag.trans z)
   have b:qK (q::a7) k=qK a7 k:=by simp[qK,jH,b0]
   rw[vf e,b];exact bG
theorem fO.any{kvs:List (κ×V)}{ae:List (κ×Value)}(r:fO kvs ae)(k:κ):(kvs.any λ bq=>decide (bq.1=k))=ae.any λ bq=>decide (bq.1=k):=by
 unfold fO at r
 induction r with
 |nil=>rfl
 |cons h t bG=>rw[jG,jG,bG,h.1]
theorem fO.Bw{kvs:List (κ×V)}{ae:List (κ×Value)}(r:fO kvs ae)(k:κ){y:V}{u:Value}(b7:RelV y u) :
 fO (kvs.map λ bq=>if bq.1=k then (bq.1,y) else bq) (ae.map λ bq=>if bq.1=k then (bq.1,u) else bq):=by
 unfold fO at r ⊢
 induction r with
 |nil=>exact .nil
 | @cons p q ps a7 h t bG=>
  rw[cV,cV];refine .cons ?_ bG;obtain⟨ag,ai⟩:=h;by_cases e:p.1=k
  ·rw[if_pos e,if_pos (ag.symm.trans e)];exact⟨ag,b7⟩
  ·rw[if_neg e,if_neg (λ z=>e (ag.trans z))];exact⟨ag,ai⟩
theorem fO.put{kvs:List (κ×V)}{ae:List (κ×Value)}(r:fO kvs ae)(k:κ){y:V}{u:Value}(b7:RelV y u):fO (fY kvs k y) (stored ae k u):=by
 unfold fY stored;rw[r.any k];by_cases e:(ae.any λ bq=>decide (bq.1=k))=true
 ·rw[if_pos e,if_pos e];exact r.Bw k b7
 ·rw[if_neg e,if_neg e];exact Paired.snoc r ⟨rfl,b7⟩
theorem fO.length{kvs:List (κ×V)}{ae:List (κ×Value)}(r:fO kvs ae):kvs.length=ae.length:=Paired.length r
end
theorem vh{P:bZ}{w:bM}{k:Key}{u:Value}(r:RelV (dd k) u):(hJ P w).is k u=true:=by
 cases k with
 |inl i=>obtain⟨t,e⟩:=(show ∃ t,u=Value.int i t from r);subst e;exact OH P w i t
 |inr x=>obtain⟨t,e⟩:=(show ∃ t,u=Value.str x t from r);subst e;exact OI P w x t
theorem Ir{P:bZ}{w:bM}:∀{ks:List Key}{us:List Value},Vals (ks.map dd) us->ItemsAre (hJ P w) ks us
 |[],_,r=>by rw[o8]at r;cases r;exact .nil
 | k::ks,_,r=>by
  rw[cV]at r
  cases r with
  |cons h t=>exact .cons (vh h) (Ir t)
noncomputable abbrev KT(H:au):List (List Key×V)->List (List Key×Addr×Value)->Prop:=mD λ p q=>p.1=q.1/\H q.2.1=some (.tup (p.1.map dd))/\RelV p.2 q.2.2
theorem KT.val{H:au}{kvs:List (List Key×V)}{xs:List (List Key×Addr×Value)}(r:KT H kvs xs)(k:List Key):km (ib kvs k) ((nR xs k).map (·.2)):=by
 induction r with
 |nil=>exact True.intro
 | @cons p q ps a7 h t bG=>
  obtain⟨ag,_,ai⟩:=h;by_cases e:p.1=k
  ·have b0:q.1=k:=ag.symm.trans e
   have b:nR (q::a7) k=some q.2:=by simp[nR,jH,b0]
   rw[ve e,b];exact ai
  ·have b0:¬ q.1=k:=λ z=>e (ag.trans z)
   have b:nR (q::a7) k=nR a7 k:=by simp[nR,jH,b0]
   rw[vf e,b];exact bG
theorem KT.Bw{H:au}{kvs:List (List Key×V)}{xs:List (List Key×Addr×Value)}(r:KT H kvs xs)(k:List Key){y:V}{u:Value}(b7:RelV y u) :
 KT H (kvs.map λ bq=>if bq.1=k then (bq.1,y) else bq) (xs.map (putAt k u)):=by
 induction r with
 |nil=>exact .nil
 | @cons p q ps a7 h t bG=>
  rw[cV,cV];refine .cons ?_ bG;obtain⟨ag,ai,aT⟩:=h;unfold putAt;by_cases e:p.1=k
  ·rw[if_pos e,if_pos (ag.symm.trans e)];exact⟨ag,ai,b7⟩
  ·rw[if_neg e,if_neg (λ z=>e (ag.trans z))];exact⟨ag,ai,aT⟩
theorem KT.put{H:au}{kvs:List (List Key×V)}{xs:List (List Key×Addr×Value)}(r:KT H kvs xs)(k:List Key){b:Addr}{y:V}{u:Value}(af:H b=some (.tup (k.map dd)))(b7:RelV y u) :
 KT H (fY kvs k y) (storedH xs k b u):=by
 have e:(kvs.any λ bq=>decide (bq.1=k))=(nR xs k).isSome:=by
  rw[Iq,(r.val k).Ry,Option.isSome_map]
 unfold fY storedH;rw[e];by_cases q:(nR xs k).isSome=true
 ·rw[if_pos q,if_pos q];exact r.Bw k b7
 ·rw[if_neg q,if_neg q];exact Paired.snoc r ⟨rfl,af,b7⟩
theorem KT.keeps{H ak:au}{kvs:List (List Key×V)}{xs:List (List Key×Addr×Value)}(r:KT H kvs xs)(bN:∀ b ys,H b=some (.tup ys)->ak b=some (.tup ys)):KT ak kvs xs:=
 Paired.A0 r λ _ _ z=>⟨z.1,bN _ _ z.2.1,z.2.2⟩
section
variable{P:bZ}{w:bM}{H:au}{h:bx}{a:Addr}
theorem Bx{u:fv}(ok:dW P w H h)(e:iz H a u):ez P w H h a u:=e.ok ok
theorem vi{kvs:List (Key×V)}(ok:dW P w H h)(e:iz H a (.cR kvs)):kvs.length<=sizeLine/\(a==jg)=false/\∃ ae,fO kvs ae/\h.DictOf (hJ P w) a ae:=
 show ez P w H h a (.cR kvs) from Bx ok e
theorem It{kvs:List (Key×V)}(ok:dW P w H h)(e:H a=some (.cR kvs)):kvs.length<=sizeLine/\(a==jg)=false/\∃ ae,fO kvs ae/\h.DictOf (hJ P w) a ae:=vi ok (.inl e)
theorem lEq{ks:List Key}(ok:dW P w H h)(e:H a=some (.tup (ks.map dd))):(qI (hJ P w)).is h ks a:=by
 obtain⟨_,aP,r,o,ag,ai,n,aT⟩:=(show ez P w H h a (.tup (ks.map dd)) from ok a _ e)
 exact⟨o,aP.toArray,n,ag,ai,aT,by simpa using Ir r⟩
theorem vj{kvs:List (List Key×V)}(ok:dW P w H h)(e:iz H a (.bz kvs)):kvs.length<=sizeLine/\(a==jg)=false ∧
 ∃ xs,KT H kvs xs/\h.DictOfH (qI (hJ P w)) a xs:=by
 obtain⟨z,y,xs,r,o,es,ep,ag,ai,aT,b6,dp⟩:=(show ez P w H h a (.bz kvs) from Bx ok e)
 refine⟨z,y,xs,r,o,es,ep,ag,ai,aT,b6,λ x aA=>?_,dp⟩
 have all:∀{l:List (List Key×V)}{m:List (List Key×Addr×Value)},KT H l m->∀ x∈m,(qI (hJ P w)).is h x.1 x.2.1:=by
  intro l m q
  induction q with
  |nil=>intro x aA;exact nomatch aA
  | @cons p q ps a7 aV t bG=>
   intro x aA;rcases dw.mp aA with e|aA
   ·subst e;exact lEq ok (by rw[<- aV.1];exact aV.2.1)
   ·exact bG x aA
 exact all r x aA
theorem yJ{kvs:List (List Key×V)}(ok:dW P w H h)(e:H a=some (.bz kvs)):kvs.length<=sizeLine/\(a==jg)=false ∧
 ∃ xs,KT H kvs xs/\h.DictOfH (qI (hJ P w)) a xs:=vj ok (.inl e)
end
noncomputable def pD(H:au)(a:Addr)(y:V)(r:Option V):Prop:=
 (∃ kvs k,iz H a (.cR kvs)/\y=dd k/\r=ib kvs k)\/∃ kvs k b,iz H a (.bz kvs)/\y=.ref b/\H b=some (.tup (k.map dd))/\r=ib kvs k
noncomputable def pE(H:au)(a:Addr)(y v:V)(ak:au):Prop:=
 (∃ kvs k,H a=some (.cR kvs)/\y=dd k/\kvs.length<sizeLine/\ak=upd H a (.cR (fY kvs k v))) ∨
 ∃ kvs k b,H a=some (.bz kvs)/\y=.ref b/\H b=some (.tup (k.map dd))/\kvs.length<sizeLine/\ak=upd H a (.bz (fY kvs k v))
theorem pD.k{H:au}{a:Addr}{kvs:List (Key×V)}{k:Key}(e:H a=some (.cR kvs)):pD H a (dd k) (ib kvs k):=.inl ⟨kvs,k,.inl e,rfl,rfl⟩
theorem pE.k{H:au}{a:Addr}{kvs:List (Key×V)}{k:Key}{v:V}(e:H a=some (.cR kvs))(aH:kvs.length<sizeLine):pE H a (dd k) v (upd H a (.cR (fY kvs k v))):=.inl ⟨kvs,k,e,rfl,aH,rfl⟩
theorem pE.t{H:au}{a b:Addr}{kvs:List (List Key×V)}{k:List Key}{v:V}(e:H a=some (.bz kvs))(dQ:H b=some (.tup (k.map dd)))(aH:kvs.length<sizeLine) :
 pE H a (.ref b) v (upd H a (.bz (fY kvs k v))):=.inr ⟨kvs,k,b,e,rfl,dQ,aH,rfl⟩
section
variable{X:a0}{pins:List (Addr×Obj)}{σ:St}{H:au}{s:ay}{a:Addr}{y v:V}{u r:Value}{o:Option V}{A:cK}{E:Value->ay->Prop}
theorem Inv.big(I:Inv X pins σ H s):jg<s.heap.objs.size:=by
 have h:et<s.heap.objs.size:=(I.mod.glob.keeps I.bk).lt;exact nV (by decide) h
theorem Rz{Q:Value->ay->Prop}(br:A.units+1<ea)(I:Inv X pins σ H s)(g:pD H a y (some v))(b7:RelV y u)(h:∀ hK s',Inv X pins σ H s'->RelV v hK->Q hK s') :
 aD (aK X.prog X.w) A (mB (.ref a) u) Q E s:=by
 rcases g with⟨kvs,k,e,lU,l⟩|⟨kvs,k,b,e,lU,dQ,l⟩
 ·subst lU;obtain⟨z,hd,ae,rel,dy⟩:=vi I.bt e;obtain⟨hK,hw,kv⟩:=km.some_of (v:=v) (o:=qK ae k) (by rw[l];exact rel.val k);exact wpAny_getItem_of (vh b7) dy.mapOf hw (h hK _ (I.tok _) kv)
 ·subst lU;cases (show u=Value.ref b from b7);obtain⟨z,hd,xs,rel,dy⟩:=vj I.bt e;obtain⟨hK,hw,kv⟩:=km.some_of (v:=v) (o:=(nR xs k).map (·.2)) (by rw[l];exact rel.val k);obtain⟨p,ax,RA⟩:=pc.mp hw;refine wpAny_getItem_heap (AH br) (lEq I.bt dQ) dy ax ?_;rw[RA];exact h hK _ (I.tok _) kv
theorem vk{h':bx}{t':Nat}{cw:fv}(I:Inv X pins σ H s)(jL:uJ (H a))(av:Heap.SameBut a s.heap h')(he:∃ q,h'.get? a=some q)(new:ez X.prog X.w (upd H a cw) h' a cw) :
 Inv X pins σ (upd H a cw) {s with heap:=h',toks:=t'}:=
 I.write (x:=a) (e:=a) jL (.inl rfl) (λ b q af z=>(av.2 b af).trans z) he new
theorem Iu{P:bZ}{w:bM}{ak:au}{h':bx}{kvs:List (Key×V)}{ae:List (Key×Value)}(z:kvs.length<=sizeLine)(hd:(a==jg)=false)(rel:fO kvs ae)(dy:h'.DictOf (hJ P w) a ae) :
 ez P w ak h' a (.cR kvs):=⟨z,hd,ae,rel,dy⟩
theorem RB{ak:au}{Q:Unit->ay->Prop}(br:A.units+1<ea)(I:Inv X pins σ H s)(g:pE H a y v ak)(b7:RelV y u)(a9:RelV v r)(h:∀ s',Inv X pins σ ak s'->Q () s') :
 aD (aK X.prog X.w) A (uq (.ref a) u r) Q E s:=by
 rcases g with⟨kvs,k,e,lU,l,lV⟩|⟨kvs,k,b,e,lU,dQ,l,lV⟩
 ·subst lU lV;obtain⟨z,hd,ae,rel,dy⟩:=It I.bt e
  have hz:ae.length<=sizeLine:=by rw[<- rel.length];exact z
  have aH:(fY kvs k v).length<=sizeLine:=by have:=vg kvs k v;omega
  refine wpAny_setItem_pairs (hsz:=hz) (vh b7) dy λ h' ob av=>h _ ?_
  have he:∃ q,h'.get? a=some q:=let ⟨q,_,_,aV,_⟩:=ob;⟨q,aV⟩
  exact vk I (by rw[e];exact True.intro) av he (Iu aH hd (rel.put k a9) ob)
 ·subst lU lV;cases (show u=Value.ref b from b7);obtain⟨z,hd,xs,rel,dy⟩:=yJ I.bt e
  have hz:xs.length<=sizeLine:=by rw[<- Paired.length rel];exact z
  have aH:(fY kvs k v).length<=sizeLine:=by have:=vg kvs k v;omega
  refine wpAny_setItem_heap (hsz:=hz) (AH br) (lEq I.bt dQ) dy λ h' ob av=>h _ ?_;obtain⟨q,es,ep,aV,ai,aT,b6,_,dp⟩:=ob;refine vk I (by rw[e];exact True.intro) av ⟨q,aV⟩ ⟨aH,hd,_,(rel.put k dQ a9).keeps λ c ys kB=>?_,q,es,ep,aV,ai,aT,b6,dp⟩;rw[bS (AZ kB e (λ z=>nomatch z))];exact kB
end
noncomputable def yK(i:a5):Prop:=∀ dG gB,xE i false dG gB=operate [dG,gB] (mB dG gB)
theorem RC{prog:bZ}{w:bM}{A:cK}{E:Value->ay->Prop}{s:ay}{env:Env}{value slice:a5}{pos:Pos}{T id:String}{Q:Value->ay->Prop}
 (aH:sb (.type T) "__getitem__"=pure (some (.builtin id))) (av:yK slice)
 (h:aD (aK prog w) A (eval value env) (λ o dx=>aD (aK prog w) A (eval slice env) (λ i mT=>mT.TypeIs o T/\aD (aK prog w) A (mB o i) Q E mT) E dx) E s) :
 aD (aK prog w) A (eval (.Subscript value slice pos) env) Q E s:=by
 refine Subscript_ (h4 h (λ o dx h₁=>h4 h₁ (λ i mT kC=>?_) λ _ _ x=>x) λ _ _ x=>x);obtain⟨bp,kC⟩:=kC;unfold AV;refine ah ?_;rw[getitemInPython_of_ne bp.not_modules];refine ah (nK bp aH ?_)
 have fin:aD (aK prog w) A (xE slice false o i) (λ r yi=>aD (aK prog w) A (letTemporaryGo value o r >>= λ _=>pure r) Q E yi) E mT:=by
  rw[av o i];exact wpAny_operating (h4 kC (λ r yi jq=>ah (wpAny_letTemporaryGo (aM jq))) λ _ _ x=>x)
 first
  |exact aM (ah fin)
  |exact ah (aM (ah fin))
  |exact ah fin
theorem RD{X:a0}{pins:List (Addr×Obj)}{σ:St}{H:au}{s:ay}{a:Addr}{y:V}{o:Option V}(I:Inv X pins σ H s)(g:pD H a y o):s.TypeIs (.ref a) "dict":=by
 rcases g with⟨kvs,k,e,_,_⟩|⟨kvs,k,b,e,_,_,_⟩
 ·obtain⟨_,_,ae,_,dy⟩:=vi I.bt e;exact dy.typeIs
 ·obtain⟨_,_,xs,_,dy⟩:=vj I.bt e;exact dy.typeIs
noncomputable def RE(cD ty:TE):TE:=λ σ H Q=>cD σ H λ x H1=>ty σ H1 λ y aQ=>∃ a v,x=.ref a/\pD aQ a y (some v)/\Q v aQ
noncomputable def RF(cD ty fB:TE):fj:=λ D σ H=>fB σ H λ v H1=>cD σ H1 λ x aQ=>ty σ aQ λ y c9=>∃ a hs,x=.ref a/\pE c9 a y v hs/\D.nx σ hs
section
variable{X:a0}{o i e value:a5}{pos pos' By:Pos}{cD ty fB:TE}
theorem Iv(br:X.A.units+1<ea)(aO:bO X o cD)(ar:bO X i ty)(av:yK i):bO X (.Subscript o i pos) (RE cD ty):=by
 intro pins s σ H Q I h;refine RC PySem.F.slot_dict_getitem.lookup av (bU (aO pins s σ H _ I h) λ u s1 xz=>?_);obtain⟨x,H1,aZ,bl,aG⟩:=xz;refine bU (ar pins s1 σ H1 _ aZ aG) λ gB s2 xz=>?_;obtain⟨y,aQ,bY,b7,a,v,ex,g,bv⟩:=xz;subst ex;obtain rfl:u=Value.ref a:=bl;exact⟨RD bY g,Rz br bY g b7 λ hK s3 dU kv=>⟨v,aQ,dU,kv,bv⟩⟩
theorem Iw(br:X.A.units+1<ea)(aO:bO X o cD)(ar:bO X i ty)(bu:bO X value fB)(av:kZ value (some (.Subscript o i pos')) pos.line X.env=pure false) :
 jT X (.Assign [.Subscript o i pos'] value pos) (RF cD ty fB):=by
 intro pins s σ H D I h;refine wpAny_Assign_Subscript (bU (bu pins s σ H _ I h) λ r s1 xz=>?_) av;obtain⟨v,H1,aZ,a9,aG⟩:=xz;refine bU (aO pins s1 σ H1 _ aZ aG) λ u s2 xz=>?_;obtain⟨x,aQ,bY,bl,bv⟩:=xz;refine bU (ar pins s2 σ aQ _ bY bv) λ gB s3 xz=>?_;obtain⟨y,c9,dU,b7,a,hs,ex,g,dC⟩:=xz;subst ex;obtain rfl:u=Value.ref a:=bl
 exact RB br dU g b7 a9 λ s4 k6=>⟨σ,hs,k6,dC⟩
end
theorem RG{P:bZ}{w:bM}{H:au}(h:bx)(af:jg<h.objs.size):ez P w H (h.push {cls:=.type "dict",data:=.dict #[]}) h.objs.size (.cR []):=
 ⟨fV _,beq_eq_false_iff_ne.mpr (Ne.symm (du af)),[],.nil,Heap.DictOf.new h⟩
theorem Ix{P:bZ}{w:bM}{H:au}(h:bx)(af:jg<h.objs.size):ez P w H (h.push {cls:=.type "dict",data:=.dict #[]}) h.objs.size (.bz []):=
 ⟨fV _,beq_eq_false_iff_ne.mpr (Ne.symm (du af)),[],.nil,_,#[],0,dK _ rfl,⟨rfl,rfl,rfl⟩,rfl,rfl,List.nodup_nil⟩
noncomputable def RH:TE:=λ _ H Q=>∀ p,H p=none->Q (.ref p) (upd H p (.bz []))
section
variable{X:a0}{pos:Pos}
theorem RI:bO X (.Dict [] [] pos) RH:=λ pins s σ H Q I h=>
 wpAny_Dict_empty ⟨.ref s.heap.objs.size,_,I.laid (a:=s.heap.objs.size) (o:=.bz []) (t':=s.toks) (λ _ _ q=>cc _ q) (ZB _) (Ix s.heap I.big),rfl,h _ (I.bt.fresh (ZB _))⟩
end
noncomputable def vl:List (TE×TE)->St->au->(List (V×V)->au->Prop)->Prop
 |[],_,H,Q=>Q [] H
 |(tk,fB)::r,σ,H,Q=>tk σ H λ x H1=>fB σ H1 λ y aQ=>vl r σ aQ λ ps c9=>Q ((x,y)::ps) c9
noncomputable abbrev Bz:List (V×V)->List (Value×Value)->Prop:=mD λ p q=>RelV p.1 q.1/\RelV p.2 q.2
noncomputable def sW(X:a0)(pos:Pos)(keys:List (Option a5))(values:List a5)(jW:List (TE×TE)):Prop:=
 ∀(pins:List (Addr×Obj))(s:ay)(σ:St)(H:au)(Q:List (V×V)->au->Prop),Inv X pins σ H s->vl jW σ H Q →
  aD (aK X.prog X.w) X.A (evalPairs (pairTrees keys values X.env pos)) (λ ae s'=>∃ ps ak,Inv X pins σ ak s'/\Bz ps ae/\Q ps ak) X.xe s
theorem Iy{X:a0}{pos:Pos}:sW X pos [] [] []:=λ pins s σ H Q I h=>pairTrees_nil_walk ⟨[],H,I,.nil,h⟩
theorem Iz{X:a0}{pos:Pos}{k v:a5}{ks:List (Option a5)}{ae:List a5}{tk fB:TE}{jW:List (TE×TE)}(aI:bO X k tk)(bu:bO X v fB)(aq:sW X pos ks ae jW) :
 sW X pos (some k::ks) (v::ae) ((tk,fB)::jW):=λ pins s σ H Q I h=>
 pairTrees_cons_walk (bU (aI pins s σ H _ I h) λ u s1 ⟨x,H1,aZ,bl,aG⟩=>bU (bu pins s1 σ H1 _ aZ aG) λ h9 s2 ⟨y,aQ,bY,b7,bv⟩=>
  bU (aq pins s2 σ aQ _ bY bv) λ ws s3 ⟨ps,c9,dU,rel,dC⟩=>⟨(x,y)::ps,c9,dU,.cons ⟨bl,b7⟩ rel,dC⟩)
noncomputable def vm(kvs more:List (Key×V)):List (Key×V):=more.foldl (λ acc bq=>fY acc bq.1 bq.2) kvs
theorem fO.merge:∀{more:List (Key×V)}{rs:List (Key×Value)}{kvs:List (Key×V)}{ae:List (Key×Value)},fO more rs->fO kvs ae->fO (vm kvs more) (merged ae rs):=by
 intro more rs kvs ae r;unfold fO at r
 induction r generalizing kvs ae with
 |nil=>intro q;exact q
 | @cons p q ps a7 h t bG=>
  intro BA
  have e:fO (fY kvs p.1 p.2) (stored ae q.1 q.2):=by
   have:=BA.put p.1 h.2;rw[<- h.1];exact this
  exact bG e
theorem IA:∀(more kvs:List (Key×V)),(vm kvs more).length<=kvs.length+more.length
 |[],kvs=>by show kvs.length<=kvs.length+0;omega
 | p::r,kvs=>by
  have ag:=IA r (fY kvs p.1 p.2);have ai:=vg kvs p.1 p.2;show (vm (fY kvs p.1 p.2) r).length<=_;rw[dt];omega
theorem IB{P:bZ}{w:bM}:∀{kvs:List (Key×V)}{ws:List (Value×Value)},Bz (kvs.map λ bq=>(dd bq.1,bq.2)) ws->∃ rs,Carries (hJ P w) ws rs/\fO kvs rs
 |[],_,r=>by rw[o8]at r;cases r;exact⟨[],True.intro,.nil⟩
 | p::kvs,_,r=>by
  rw[cV]at r
  cases r with
  | @cons a b as bs h t=>
   obtain⟨rs,c,q⟩:=IB (P:=P) (w:=w) t;obtain⟨b1,b2⟩:=b;exact⟨(p.1,b2)::rs,⟨vh h.1,rfl,c⟩,.cons ⟨rfl,h.2⟩ q⟩
noncomputable def RJ(jW:List (TE×TE)):TE:=λ σ H Q=>∀ p,H p=none->vl jW σ (upd H p (.cR [])) λ ps aQ=>aQ p=some (.cR [])/\∃ kvs:List (Key×V),ps=kvs.map (λ bq=>(dd bq.1,bq.2))/\kvs.length<=15/\Q (.ref p) (upd aQ p (.cR (vm [] kvs)))
theorem RK{X:a0}{pos:Pos}{keys:List (Option a5)}{values:List a5}{jW:List (TE×TE)}(h:sW X pos keys values jW)(eS:keys.all (·.isSome)=true)(aH:keys.length=values.length)(h0:keys≠[])
 (vn:keys.length<=15):bO X (.Dict keys values pos) (RJ jW):=by
 intro pins s σ H Q I q;have bc:=I.bt.fresh (ZB s.heap.objs.size);have aZ:=I.laid (a:=s.heap.objs.size) (o:=.cR []) (h':=s.heap.push {cls:=.type "dict",data:=.dict #[]}) (t':=s.toks) (λ _ _ q=>cc _ q) (ZB _) (RG s.heap I.big);refine wpAny_Dict_walk (knd:=hJ X.prog X.w) eS aH h0 vn (bU (h pins _ σ _ _ aZ (q _ bc)) λ ws s2 xz=>?_);obtain⟨ps,aQ,bY,rel,e,kvs,ep,lk,bv⟩:=xz;subst ep;obtain⟨rs,c,vo⟩:=IB (P:=X.prog) (w:=X.w) rel;obtain⟨z,hd,ago,BA,dy⟩:=It bY.bt e;cases BA;refine⟨rs,c,dy,λ h' ob av=>⟨.ref s.heap.objs.size,_,?_,rfl,bv⟩⟩
 have hz:(vm [] kvs).length<=sizeLine:=by
  have ag:=IA kvs [];rw[h7]at ag;rw[hk];omega
 have he:∃ q,h'.get? s.heap.objs.size=some q:=let ⟨q,_,_,aV,_⟩:=ob;⟨q,aV⟩
 exact vk bY (by rw[e];exact True.intro) av he (Iu hz hd (vo.merge .nil) ob)
structure M2(X:a0)(o:a5)(m:Str)(apos:Pos)(e f:a5)(dH:Pos):Prop where
 base:lA o m X.env (eval o X.env)=eval o X.env
 fc:((fS dH (di [e,f] X.env)).all (λ x=>!x.1)&&(backToKw dH (keywordEach [] X.env)).all (λ x=>x.1.isSome)
  &&decide (([e,f]:List a5).length+([]:List Keyword).length+(if ([]:List Keyword).isEmpty then 0 else 1)<30))=true
 line:(apos.endLine==dH.line)=true
 trees:fS dH (di [e,f] X.env)=[(false,eval e X.env),(false,eval f X.env)]
noncomputable def IC(H:au)(a:Addr):Prop:=(∃ kvs,iz H a (.cR kvs))\/∃ kvs,iz H a (.bz kvs)
theorem RL{X:a0}{pins:List (Addr×Obj)}{σ:St}{H:au}{s:ay}{a:Addr}(I:Inv X pins σ H s)(d:IC H a) :
 s.TypeIs (.ref a) "dict"/\(∀ b,Value.ref a=.ref b->∃ cw,s.heap.get? b=some cw/\cw.dict=none)/\(a==jg)=false:=by
 rcases d with⟨kvs,e⟩|⟨kvs,e⟩
 ·obtain⟨_,hd,ae,_,dy⟩:=vi I.bt e;refine⟨dy.typeIs,λ b q=>?_,hd⟩;cases q;obtain⟨cw,_,_,ag,ai,_⟩:=dy;exact⟨cw,ag,ai.2.1⟩
 ·obtain⟨_,hd,xs,_,dy⟩:=vj I.bt e;refine⟨dy.typeIs,λ b q=>?_,hd⟩;cases q;obtain⟨cw,_,_,ag,ai,_⟩:=dy;exact⟨cw,ag,ai.2.1⟩
section
variable{X:a0}{pins:List (Addr×Obj)}{σ:St}{H:au}{s:ay}{a:Addr}{y d:V}{u r:Value}{o:Option V}{A:cK}{E:Value->ay->Prop}
theorem RM{Q:Value->ay->Prop}(br:A.units+1<ea)(I:Inv X pins σ H s)(g:pD H a y o)(b7:RelV y u)(cv:RelV d r)(h:∀ hK s',Inv X pins σ H s'->RelV (o.getD d) hK->Q hK s') :
 aD (aK X.prog X.w) A (call (.builtin "dict.get") [.ref a,u,r]) Q E s:=by
 rcases g with⟨kvs,k,e,lU,l⟩|⟨kvs,k,b,e,lU,dQ,l⟩
 ·subst lU;obtain⟨z,hd,ae,rel,dy⟩:=vi I.bt e;refine xC PySem.F.slot_dict_get dy.typeIs PySem.F.entry_dict_get (PySem.F.args_dict_get_3 _ _ _) (meets_dict_get_default (hJ X.prog X.w) a (vh b7) hd r) ⟨_,dy.mapOf,h _ _ (I.tok _) ?_⟩;rw[l];exact(rel.val k).getD cv
 ·subst lU;cases (show u=Value.ref b from b7);obtain⟨z,hd,xs,rel,dy⟩:=vj I.bt e;refine xC PySem.F.slot_dict_get dy.typeIs PySem.F.entry_dict_get (PySem.F.args_dict_get_3 _ _ _) (meetsH_dict_get_default (qI (hJ X.prog X.w)) a b hd r) ⟨AH br,k,xs,lEq I.bt dQ,dy,h _ _ (I.tok _) ?_⟩;rw[l];exact(rel.val k).getD cv
end
noncomputable def RN(cD ty m4:TE):TE:=λ σ H Q=>cD σ H λ x H1=>∃ a,x=.ref a/\IC H1 a/\ty σ H1 λ y aQ=>m4 σ aQ λ z c9=>∃ o,pD c9 a y o/\Q (o.getD z) c9
section
variable{X:a0}{o e f:a5}{apos dH:Pos}{cD ty m4:TE}
theorem RO(br:X.A.units+1<ea)(aO:bO X o cD)(he:bO X e ty)(hf:bO X f m4)(m:M2 X o "get" apos e f dH):bO X (.Call (.Attribute o "get" apos) [e,f] [] dH) (RN cD ty m4):=by
 intro pins s σ H Q I h;refine wpAny_Call_method m.base m.fc m.line PySem.F.plainAttrs_dict PySem.F.slot_dict_get PySem.F.type_dict_get (bU (aO pins s σ H _ I h) λ u s1 xz=>?_);obtain⟨x,H1,aZ,bl,a,ex,d,aG⟩:=xz;subst ex;obtain rfl:u=Value.ref a:=bl;obtain⟨t1,t2,_⟩:=RL aZ d;refine⟨t1,t2,?_⟩;rw[m.trees]
 refine Calls.callWith_builtin rfl (Calls.evalArgs_plain (Calls.spliced_cons (bU (he pins s1 σ H1 _ aZ aG) λ gB s2 ⟨y,aQ,bY,b7,bv⟩=>
  Calls.spliced_cons (bU (hf pins s2 σ aQ _ bY bv) λ agp s3 ⟨z,c9,dU,yL,dG,g,dC⟩=>Calls.spliced_nil ?_))))
 exact RM br dU g b7 yL λ hK s4 k6 kv=>⟨_,c9,k6,kv,dC⟩
end
section
variable{prog:bZ}{w:bM}{A:cK}{E:Value->ay->Prop}{s:ay}
theorem RP{t ck:Addr}{items:Array Value}{f9 f_:Value}{lo ar:Option Int}{Q:Value->ay->Prop}(bN:ji s.heap t items)(av:s.heap.IsSliceOf ck f9 f_ .none)(cF:mG f9 lo)(pu:mG f_ ar)
 (hw:dm.cq items.size 0 lo=0/\dm.cq items.size items.size ar=items.size) (h:Q (.ref t) s):aD (aK prog w) A (mB (.ref t) (.ref ck)) Q E s:=by
 obtain⟨os,n7,sQ,u4⟩:=id av
 have sR:s.TypeIs (.ref ck) "slice":=⟨os,n7,sQ⟩
 unfold mB
 try with_reducible refine g4 ?_
 first|refine ah (aM ?_)|skip
 refine ah (wpAny_sequenceKey bN.typeIs (by decide) ?_);refine ah (wpAny_callSpecial?_slot (name:=Str.ofString "__getitem__") bN.typeIs sx (f3 sx bN.typeIs entry_tuple_getitem ?_ (args_tuple_getitem _ _)));show aD _ _ (Builtin.Tuple.tupleItemsOf (.ref t) >>= _) _ _ s;refine ah (tupleItemsOf_ bN ?_);refine ah (nN sR ?_);rw[if_pos (by decide)];refine ah (dm.HJ av cF pu ?_)
 have RQ:(((dm.cq items.size 0 lo:Nat):Int)==0&&(1:Int)==1&&(dm.cq items.size items.size ar - dm.cq items.size 0 lo)==items.size)=true:=by
  rw[hw.1,hw.2];simp
 show aD _ _ (if (((dm.cq items.size 0 lo:Nat):Int)==0&&(1:Int)==1&&(dm.cq items.size items.size ar - dm.cq items.size 0 lo)==items.size)=true then _ else _) _ _ s;rw[if_pos RQ]
 have ex:∀{gA:Bool->ay->Prop},gA true s->aD (aK prog w) A.in1 (Builtin.Tuple.tupleIsExact (.ref t)) gA E s:=λ{gA} q=>by
  unfold Builtin.Tuple.tupleIsExact;refine ah (nN bN.typeIs (aM ?_));have e:(Value.type "tuple"==Value.type "tuple")=true:=beq_self_eq_true _;rw[e];exact q
 first
  |exact ah (ex (ah (h5 (aM ⟨_,rfl,aM h⟩))))
  | (unfold Builtin.Tuple.tupleIsExact
     refine ah (ah (nN bN.typeIs (aM ?_)));have e:(Value.type "tuple"==Value.type "tuple")=true:=beq_self_eq_true _;rw[e,if_pos rfl]
     first
      |exact ah (h5 (aM ⟨_,rfl,aM h⟩))
      |exact ah (h5 (ah (aM (aM ⟨_,rfl,aM h⟩))))
      |exact ah (h5 (ah (ah (aM (aM ⟨_,rfl,aM h⟩))))))
end
section
variable{X:a0}
noncomputable def RR(K:a8):V->Option Int->Option Int->au->cC->Prop:=λ x lo ar H Q=>∃ a xs,x=.ref a/\dk K H a xs ∧
 ((dm.cq xs.length 0 lo=0/\dm.cq xs.length xs.length ar=xs.length)->Q (.ref a) H)/\(¬ (dm.cq xs.length 0 lo=0/\dm.cq xs.length xs.length ar=xs.length)->∀ p,H p=none->Q (.ref p) (upd H p (.tup (k9 xs lo ar))))
theorem RS:mX X (RR X.K):=by
 intro pins s σ H x v f9 f_ lo ar ck Q I bl av cF pu h;obtain⟨a,xs,rfl,aA,aG,bv⟩:=h;by_cases hw:dm.cq xs.length 0 lo=0/\dm.cq xs.length xs.length ar=xs.length
 ·cases bl;obtain⟨aP,r,bN,hz⟩:=I.tuple aA
  have hlen:aP.toArray.size=xs.length:=by rw[cS];exact r.length.symm
  refine⟨"tuple",_,sx.lookup,bN.typeIs,?_⟩;exact RP bN av cF pu (by rw[hlen];exact hw) ⟨.ref a,H,I,rfl,aG hw⟩
 ·exact Qo pins s σ H _ v f9 f_ lo ar ck Q I bl av cF pu ⟨a,xs,rfl,aA,hw,bv hw⟩
noncomputable def RT(K:a8):d9:=λ x y H Q=>∃ a b xs ys,x=.ref a/\y=.ref b/\dk K H a xs/\dk K H b ys/\xs.length+ys.length<=sizeLine ∧
 (xs=[]->Q (.ref b) H)/\(xs≠[]->ys=[]->Q (.ref a) H)/\(xs≠[]->ys≠[]->∀ p,H p=none->Q (.ref p) (upd H p (.tup (xs++ys))))
theorem RU:ei X (g5 .Add) (RT X.K):=by
 intro pins s σ H x y v u Q I bl b7 h;obtain⟨a,b,xs,ys,rfl,rfl,aB,af,hz,jX,aG,bv⟩:=h
 by_cases aA:xs=[]
 ·cases bl;cases b7;obtain⟨aP,r,bN,_⟩:=I.tuple aB;obtain⟨dn,bD,RV,_⟩:=I.tuple af;subst aA;cases r;obtain⟨⟨cls,dy,data,ck⟩,aO,aE,n,hd⟩:=id bN;obtain⟨⟨Qd,pw,data2,px⟩,ku,pz,eR,hd2⟩:=id RV;simp only at aE hd pz hd2;subst aE hd pz hd2;refine AR ⟨_,aO,rfl⟩ ⟨_,ku,rfl⟩ AJ AP PySem.F.slot_tuple_add PySem.F.entry_tuple_add (PySem.F.args_tuple_add_2 _ _) (tuple_addW0 a b _ dn.toArray n eR dy pw ck px (by simp)) ⟨aO,ku,?_⟩;exact⟨.ref b,H,I,rfl,jX rfl⟩
 ·exact Qq pins s σ H _ _ v u Q I bl b7 ⟨a,b,xs,ys,rfl,rfl,aB,af,aA,hz,aG aA,bv aA⟩
end
section
variable{X:a0}
noncomputable def RW(K:a8):V->Option Int->Option Int->au->cC->Prop:=λ x lo ar H Q=>∃ a xs,x=.ref a/\dk K H a xs/\∀ t aQ,lS H aQ->dk K aQ t (k9 xs lo ar)->Q (.ref t) aQ
theorem RX{xs:List V}{lo ar:Option Int}(h:dm.cq xs.length 0 lo=0/\dm.cq xs.length xs.length ar=xs.length):k9 xs lo ar=xs:=by
 unfold k9;rw[h.1,h.2,uv,uC,k3]
theorem RY:mX X (RW X.K):=by
 intro pins s σ H x v f9 f_ lo ar ck Q I bl av cF pu h;obtain⟨a,xs,rfl,aA,q⟩:=h;refine RS pins s σ H _ v f9 f_ lo ar ck Q I bl av cF pu ⟨a,xs,rfl,aA,λ w=>q a H (lS.refl _) (by rw[RX w];exact aA),λ _ p ax=>q p _ (λ b u e=>by rw[bS (gS e ax)];exact e) (dk.of eC)⟩
end
structure cL(X:a0)(e:a5)(t:TE):Prop where
 run:bO X e t
structure hS(X:a0)(e:a5)(t:TT):Prop where
 run:jS X e t
structure oc(X:a0)(e:a5)(t:TT):Prop where
 run:mS X e t
structure jY(X:a0)(es:List a5)(t:eX):Prop where
 run:h_ X es t
structure la(X:a0)(st:bC)(t:fj):Prop where
 run:jT X st t
structure m5(X:a0)(st:List bC)(t:fj):Prop where
 run:jo X st t
structure jr(X:a0)(e:a5)(t:fX):Prop where
 run:lM X e t
structure vp(X:a0)(es:List a5)(t:lL):Prop where
 run:uS X es t
structure m6(X:a0)(bd iter:a5)(c2:TI):Prop where
 run:lO X bd iter c2
structure vq(X:a0)(e:Option a5)(t:eb):Prop where
 run:u6 X e t
structure yM(X:a0)(f:Value->Value->Sem Value)(r:d9):Prop where
 run:ei X f r
structure ID(X:a0)(f:Value->Sem Value)(r:V->au->cC->Prop):Prop where
 run:ym X f r
structure BB(X:a0)(f:Value)(r:List V->au->cC->Prop):Prop where
 run:kq X f r
structure IE(X:a0)(r:d9):Prop where
 run:lP X r
structure IF(X:a0)(r:V->Option Int->Option Int->au->cC->Prop):Prop where
 run:mX X r
structure pF(X:a0)(id:String)(r:V->List V->au->cC->Prop):Prop where
 run:q2 X id r
structure IG(X:a0)(op:nP)(t:sF):Prop where
 run:A4 X op t
structure RZ(X:a0)(t:uT):Prop where
 run:A3 X t
section
variable{X:a0}{a b c e o i:a5}{es:List a5}{bw b4 aU to d3:TE}{t eJ:eX}{pos p apos dH:Pos}
theorem R1{n:Int} {j}:cL X (.Constant (.int n) j pos) (ko (.int n)):=⟨OX⟩
theorem R2{n:Bool} {j}:cL X (.Constant (.bool n) j pos) (ko (.aW n)):=⟨OY⟩
theorem R3 {j}:cL X (.Constant .none j pos) (ko .bE):=⟨OZ⟩
theorem R4{x:Str} {j}:cL X (.Constant (.str x) j pos) (ko (.str x)):=⟨O0⟩
theorem od(k:Nat){x:Str}(cn:X.N[k]?=some x:=by rfl)(bu:lJ X.env.scope x:=by first|exact Or.inl rfl|exact Or.inr (Or.inl rfl)|exact Or.inr (Or.inr rfl))(hd:(x==("__debug__" : Str))=false:=by decide)
 (eN:(x==("__classdict__" : Str))=false:=by decide):cL X (.Name x pos) (GZ k):=⟨A1 cn bu hd eN⟩
theorem R5{x:Str}{v:V}{u:Value}(a3:c8 X x)(hm:X.mg x=none)(bu:XV x=some u)(r:RelV v u)(bc:x≠"__name__":=by decide)(hd:(x==("__debug__" : Str))=false:=by decide):cL X (.Name x pos) (ko v):=⟨O2 a3 hm bu r bc hd⟩
theorem R6{x:Str}{v:V}{u:Value}(a3:c8 X x)(hm:X.mg x=some u)(r:RelV v u)(hd:(x==("__debug__" : Str))=false:=by decide):cL X (.Name x pos) (ko v):=⟨O1 a3 hm r hd⟩
theorem R7:jY X [] Hu:=⟨P4⟩
theorem R8(aB:cL X e aU)(aq:jY X es t)(av:dz e=true:=by rfl):jY X (e::es) (Hv aU t):=⟨P5 aB.run aq.run (eT av)⟩
theorem R9 {qZ} (h:jY X es t):cL X (.Tuple es qZ pos) (Hw t):=⟨P6 h.run⟩
theorem IH(h:jY X es t):cL X (.List es pos) (Hx t):=⟨P7 h.run⟩
theorem R_{op:nP}{r:d9}(aO:yM X (g5 op) r)(aB:cL X a bw)(af:cL X b b4):cL X (.BinOp a op b pos) (pl r bw b4):=⟨PF aO.run aB.run af.run⟩
theorem Sa{op:UnaryOp}{r:V->au->cC->Prop}(aO:ID X (ur op) r)(aB:cL X a bw):cL X (.UnaryOp op a pos) (Hm r bw):=⟨PG aO.run aB.run⟩
theorem Sb(aB:cL X a bw):cL X (.UnaryOp .Not a pos) (G4 bw):=⟨O_ aB.run⟩
theorem Sc{op:oU}{r:d9}(aO:yM X (e_ op) r)(aB:cL X a bw)(af:cL X b b4)(hm:oR op b=false):cL X (.Compare a [op] [b] pos) (pl r bw b4):=⟨PU aO.run aB.run af.run hm⟩
theorem Sd {op} (h:cL X a bw):cL X (.BoolOp op [a] pos) bw:=⟨O8 h.run⟩
theorem Se{rest:List a5}(aB:cL X a bw)(af:cL X (.BoolOp .And (b::rest) pos) b4):cL X (.BoolOp .And (a::b::rest) pos) (G3 bw b4):=⟨O9 aB.run af.run⟩
theorem Sf{bg:TT}(aE:hS X c bg)(aB:cL X a bw)(af:cL X b b4):cL X (.IfExp c a b pos) (G5 bg bw b4):=⟨Pa aE.run aB.run af.run⟩
theorem Sg:vq X none HK:=⟨Qk⟩
theorem Sh(h:cL X e aU):vq X (some e) (HL aU):=⟨Ql h.run⟩
theorem Si{r:V->Option Int->Option Int->au->cC->Prop}{lo ar:Option a5}{ec k8:eb}{c_:Pos}(aq:IF X r)(he:cL X e aU)(aH:vq X lo ec)(br:vq X ar k8):cL X (.Subscript e (.Slice lo ar none c_) pos) (HM r aU ec k8):=⟨Qm aq.run he.run aH.run br.run⟩
theorem II{r:d9}(aq:IE X r)(aB:cL X a bw)(af:cL X b b4)(av:yx b):cL X (.Subscript a b pos) (pl r bw b4):=⟨Qr aq.run aB.run af.run av⟩
theorem sX{es:List a5}{env:Env}(h:es.all dz=true):(fS pos (di es env)).any (·.1)=false:=by
 induction es with
 |nil=>rfl
 | cons x r bG=>
  rw[jk,fh]at h;rw[eT h.1];exact bG h.2
theorem Sj{k j:Nat}{x:Str}{ps:List Str}{sp:gm}(G:Got X.prog X.w X.K X.mg X.base k x ps sp)(aq:eY j X.A)(aI:k<=j)(a3:c8 X x)(aB:jY X (e::es) t)(gO:(x==("__debug__" : Str))=false:=by decide)
 (av:(e::es).all dz=true:=by rfl):cL X (.Call (.Name x p) (e::es) [] pos) (yp sp [] pA t):=by
 have h:=av;rw[jk,fh]at h;exact⟨Rt G aq aI a3 aB.run gO (eT h.1) (sX h.2)⟩
theorem Sk{x:Str}{id:String}{r:List V->au->cC->Prop}(aE:BB X (.builtin id) r)(a3:c8 X x)(hm:X.mg x=none)(bu:XV x=some (.builtin id))(aB:jY X (e::es) t)(bc:x≠"__name__":=by decide)(gO:(x==("__debug__" : Str))=false:=by decide)
 (av:(e::es).all dz=true:=by rfl):cL X (.Call (.Name x p) (e::es) [] pos) (yu r t):=by
 have h:=av;rw[jk,fh]at h;exact⟨Qa aE.run a3 hm bu aB.run bc gO (eT h.1) (sX h.2)⟩
theorem Sl{x:Str}{T:String}{r:List V->au->cC->Prop}(aE:BB X (.type T) r)(a3:c8 X x)(hm:X.mg x=none)(bu:XV x=some (.type T))(aB:jY X (e::es) t)(bc:x≠"__name__":=by decide)(gO:(x==("__debug__" : Str))=false:=by decide)
 (av:(e::es).all dz=true:=by rfl):cL X (.Call (.Name x p) (e::es) [] pos) (yu r t):=by
 have h:=av;rw[jk,fh]at h;exact⟨Qb aE.run a3 hm bu aB.run bc gO (eT h.1) (sX h.2)⟩
theorem Sm{name:Str}{T id:String}{r:V->List V->au->cC->Prop}(lQ:sd T)(slot:jF T name id)(lR:si (.builtin id)=pure (.type "method_descriptor"))(hm:pF X id r)(aO:cL X o to)(aB:jY X [e] t)
 (hP:lA o name X.env (eval o X.env)=eval o X.env:=by rfl) (hQ:(apos.endLine==dH.line)=true:=by rfl) (av:dz e=true:=by rfl):cL X (.Call (.Attribute o name apos) [e] [] dH) (HY X.K T r to t):=
 ⟨QM lQ slot lR hm.run aO.run aB.run hP (by rw[eT av];rfl) hQ (eT av) rfl⟩
theorem Sn{name:Str}{T id:String}{r:V->List V->au->cC->Prop}(lQ:sd T)(slot:jF T name id)(lR:si (.builtin id)=pure (.type "method_descriptor"))(hm:pF X id r)(aO:cL X o to)
 (hP:lA o name X.env (eval o X.env)=eval o X.env:=by rfl) (hQ:(apos.endLine==dH.line)=true:=by rfl):cL X (.Call (.Attribute o name apos) [] [] dH) (HX X.K T r to):=⟨QL lQ slot lR hm.run aO.run hP hQ⟩
theorem So{op:oU}{r:d9}(aO:yM X (e_ op) r)(aB:cL X a bw)(af:cL X b b4)(hm:oR op b=false):hS X (.Compare a [op] [b] pos) (Hq (pl r bw b4)):=⟨PV aO.run aB.run af.run hm⟩
theorem Sp{bg:TT}(aB:hS X a bg):hS X (.UnaryOp .Not a pos) (G2 bg):=⟨O7 aB.run⟩
theorem Sq(aB:cL X a bw)(he:∀ whole,mE a X.env whole=(do let v ← whole;W1 a.pos;jE [v] (truthy v))):hS X a (λ σ H Q=>bw σ H λ x ak=>∃ k,yo X.K x ak k/\Q k ak):=⟨PX aB.run he⟩
theorem Sr{fW:TT}(aB:hS X a fW):oc X (.BoolOp .And [a] pos) fW:=⟨O3 aB.run⟩
theorem Ss{fW:TT}(aB:hS X a fW):oc X (.BoolOp .Or [a] pos) fW:=⟨O4 aB.run⟩
theorem Su{fW mU:TT}{rest:List a5}(aB:hS X a fW)(af:oc X (.BoolOp .And (b::rest) pos) mU):oc X (.BoolOp .And (a::b::rest) pos) (G0 fW mU):=⟨O5 aB.run af.run⟩
theorem Sv{fW mU:TT}{rest:List a5}(aB:hS X a fW)(af:oc X (.BoolOp .Or (b::rest) pos) mU):oc X (.BoolOp .Or (a::b::rest) pos) (G1 fW mU):=⟨O6 aB.run af.run⟩
theorem oc.pt{fW:TT}(h:oc X e fW):hS X e fW:=⟨mS.pt h.run⟩
theorem Sw{k:Nat}{x:Str}(cn:X.N.Nodup)(ar:X.N[k]?=some x)(aA:Loc X.env.scope x)(hf:X.fn x=true\/X.env.scope.names.lookup x=some .local:=by first|exact .inl rfl|exact .inr rfl|assumption):jr X (.Name x pos) (sG k):=⟨Pi cn ar aA hf⟩
theorem Sx:vp X [] Hb:=⟨Pj⟩
theorem vEq{bd:fX}{u:lL}(ag:jr X e bd)(ai:vp X es u)(av:(iU (e::es) X.env).map (·.2)=WF e X.env::(iU es X.env).map (·.2):=by rfl):vp X (e::es) (Hc bd u):=⟨Pk ag.run ai.run av⟩
theorem Sy{k n:Nat}{bd:lL}(aE:X.calm=true)(h:vp X es bd)(bc:(iU es X.env).length=n:=by rfl)(ia:(iU es X.env).findIdx? (·.1)=none:=by rfl):jr X (.Tuple es k pos) (Hd X.K n bd):=⟨Pl aE h.run bc ia⟩
theorem Sz{IJ:uT}(aO:cL X o to)(ar:cL X i d3)(av:RZ X IJ) (aB:∀ v,WF (.Subscript o i pos) X.env v=(do
 let dG ← jE [v] (eval o X.env)
 let gB ← jE [v,dG] (eval i X.env)
 W1 pos
 jE [v,dG,gB] (uq dG gB v)
 release [v,dG,gB] []):=by intro _;rfl):jr X (.Subscript o i pos) (He to d3 IJ):=⟨Pm aO.run ar.run av.run aB⟩
theorem SA{bd:a5}(a3:c8 X "range")(hm:X.mg "range"=none)(aB:jY X [a] t)(av:dz a=true:=by rfl):m6 X bd (.Call (.Name "range" p) [a] [] pos) (Hi t):=⟨Px a3 hm aB.run (eT av)⟩
theorem SB:m5 X [] G7:=⟨Pc⟩
theorem SC{st:bC}{rest:List bC}{hL us:fj}(ag:la X st hL)(ai:m5 X rest us):m5 X (st::rest) (G8 hL us):=⟨Pd ag.run ai.run⟩
theorem SD{st:bC}{hL:fj}(ag:la X st hL):m5 X [st] hL:=⟨Pe ag.run⟩
theorem SE(he:cL X e aU)(av:kZ e none pos.line X.env=pure false:=by rfl):la X (.Expr e pos) (G9 aU):=⟨Pf he.run av⟩
theorem SF(he:cL X e aU):la X (.Return (some e) pos) (G_ aU):=⟨Pg he.run⟩
theorem SG{ss us:List bC}{bg:TT}{hL vr:fj}(aE:hS X c bg)(aB:m5 X ss hL)(af:m5 X us vr):la X (.If c ss us pos) (Ha bg hL vr):=⟨Ph aE.run aB.run af.run⟩
theorem SH{k:Nat}{x:Str}{pos':Pos}(cn:X.N.Nodup)(ar:X.N[k]?=some x)(aA:Loc X.env.scope x)(he:cL X e aU)(av:kZ e (some (.Name x pos')) pos.line X.env=pure false:=by rfl)(hf:X.fn x=true\/X.env.scope.names.lookup x=some .local:=by first|exact .inl rfl|exact .inr rfl|assumption) :
 la X (.Assign [.Name x pos'] e pos) (sH aU (sG k)):=⟨Po cn ar aA he.run av hf⟩
theorem SI{bd:a5}{g:fX}(he:cL X e aU)(a3:jr X bd g)(av:AN [bd] e pos.line X.env=pure false:=by rfl)(hw:AO [bd] e X.env=pure none:=by rfl)(ag:(iU [bd] X.env).map (·.2)=[WF bd X.env]:=by rfl):la X (.Assign [bd] e pos) (sH aU g):=⟨Pn he.run a3.run av hw ag⟩
theorem SJ{k:Nat}{x:Str}{op:nP}{IK:sF}{pos':Pos}(cn:X.N.Nodup)(ar:X.N[k]?=some x)(aA:Loc X.env.scope x)(he:cL X e aU)(aO:IG X op IK)(hf:X.fn x=true\/X.env.scope.names.lookup x=some .local:=by first|exact .inl rfl|exact .inr rfl|assumption) :
 la X (.AugAssign (.Name x pos') op e pos) (Hf k aU IK):=⟨Pp cn ar aA he.run aO.run hf⟩
theorem SK{body:List bC}{bg:TT}{vs:fj}(ax:se (aK X.prog X.w) X.A X.env X.xe)(aE:hS X c bg)(af:m5 X body vs):la X (.While c body [] pos) (Hh bg vs):=⟨Ps ax aE.run af.run⟩
theorem SL{bd iter:a5}{body:List bC}{c2:TI}{g:fX}{vs:fj}(ax:se (aK X.prog X.w) X.A X.env X.xe)(aE:X.calm=true)(ar:m6 X bd iter c2)(a3:jr X bd g)(af:m5 X body vs)(av:∀ x,kY iter X.env x=pure x:=by intro _;rfl) :
 la X (.For bd iter body [] pos) (Hj c2 g vs):=⟨Pz ax aE ar.run a3.run af.run av⟩
theorem SM{scope:eV}{N':List Str}{nt:Nat}{cap:List Nat}{elt iter bd:a5}{c2:TI}{g:fX}(aE:X.calm=true)(ok:fA X scope N' nt cap)(ar:m6 X bd iter c2)(a3:∀ C ex s H,jr (d4 X scope N' C ex s H) bd g)(he:∀ C ex s H,cL (d4 X scope N' C ex s H) elt aU)
 (av:∀ x,kY iter X.env x=pure x:=by intro _;rfl):cL X (.ListComp elt [⟨bd,iter,[],0⟩] scope pos) (u_ c2 g aU nt cap):=⟨Rr aE ok ar.run (λ C ex s H=>(a3 C ex s H).run) (λ C ex s H=>(he C ex s H).run) av⟩
theorem sEq{ct:a5}{bg:TT}{scope:eV}{N':List Str}{nt:Nat}{cap:List Nat}{elt iter bd:a5}{c2:TI}{g:fX}(aE:X.calm=true)(ok:fA X scope N' nt cap)(ar:m6 X bd iter c2)(a3:∀ C ex s H,jr (d4 X scope N' C ex s H) bd g)
 (bN:∀ C ex s H,hS (d4 X scope N' C ex s H) ct bg) (he:∀ C ex s H,cL (d4 X scope N' C ex s H) elt aU) (av:∀ x,kY iter X.env x=pure x:=by intro _;rfl):cL X (.ListComp elt [⟨bd,iter,[ct],0⟩] scope pos) (va c2 g bg aU nt cap):=
 ⟨Rs aE ok ar.run (λ C ex s H=>(a3 C ex s H).run) (λ C ex s H=>(bN C ex s H).run) (λ C ex s H=>(he C ex s H).run) av⟩
end
theorem c4.SN{P:bZ}{w:bM}{K:a8}{mg:Str->Option Value}{base:bx}{x qual:Str}{st:bC}{f:Addr}{fd:gM}{N ps:List Str}{k:Nat}{sp:gm}(F:c4 K x qual st f fd)(S:df N ps (b9 st))(len:∀ ae H Q E,sp ae H Q E->ae.length=ps.length)
 (kt:∀(bF:Value)(A:cK)(outer:List Env)(s:ay)(H:au)(ae:List V)(Q:cC)(E:iA),eY k (A.deeper (mH qual (b9 st) s.heap.objs.size f bF))->sp ae H Q E →
  ∃ t,m5 (n5 cG P w K mg base N qual (b9 st) f bF A outer s H E).pi (g9 st) t/\t {nx:=λ _ ak=>Q .bE ak,rt:=Q} (jU N ae) H):cN P w K mg base cG (k+1) f fd ps sp:=
 F.ok S len λ bF A outer s H ae Q E aq h=>let ⟨t,j,q⟩:=kt bF A outer s H ae Q E aq h;⟨t,j.run,q⟩
section
variable{X:a0}{scope:eV}{N':List Str}{nt:Nat}{cap:List Nat}{elt iter bd:a5}{pos:Pos}{c2:TI}{g:fX}{aU:TE}
theorem SO{y:Str}{py:Pos}{k:Nat}(cn:X.N.Nodup)(aI:X.N[k]?=some y)(bj:Loc X.env.scope y)(hf:X.fn y=true\/X.env.scope.names.lookup y=some .local){pins:List (Addr×Obj)}{σ:St}{sY:Ends}{aT:bx}{s2:ay}{aQ:au}{D:Addr}{fp:List Addr}{σ':St}{ak:au}{s':ay}(dU:Inv X pins σ (upd aQ D (.lst [])) {s2 with heap:=aT})(dD:∀ b∈fp,hq X pins (upd aQ D (.lst [])) b)
 (jV:Inv (d4 X scope N' aT.objs.size fp {s2 with heap:=aT} (upd aQ D (.lst []))) [] σ' ak s') (q:sY.nx (σ.set k (some (.ref D))) ak):um (aK X.prog X.w) X.A X.xe (some (WF (.Name y py) X.env)) (λ _ s'=>ph X pins sY .next s') (.ref D) aT.objs.size (.ok .next) s':=by
 obtain⟨m,bc,cY⟩:=dU.Ib rfl dD jV;have SP:Inv X pins σ ak s':=cY s'.heap (Heap.SameBut.refl ..);have IL:aT.objs.size≠X.env.locals:=fU dU.lt
 have IM:∀ x a,X.env.cells.lookup x=some a->a≠aT.objs.size:=λ x a e=>by
  obtain⟨v,z⟩:=dU.cell x a e;exact du z.lt
 show aD _ X.A (WF (.Name y py) X.env (.ref D)) _ _ s';refine wpAny_assign_Name (GW SP cn aI bj (v:=.ref D) rfl (λ n6 SQ k4=>?_) hf);obtain⟨a,fy,aB⟩:=k4
 have SR:aT.objs.size≠a:=by
  rcases aB with z|z
  ·rw[z];exact IL
  ·exact(IM _ _ z).symm
 refine⟨m,bc.sameBut fy SR,λ h' pC=>⟨_,ak,?_,q⟩⟩
 exact SQ.turned (t':=n6.toks) (λ b o af e=>(pC.2 b af).trans e) jV.free IL (.inr dU.aL) IM λ p ax z=>by
  have e:=(dU.pin p ax).1;rw[z]at e;exact absurd (cm e) (lF _)
theorem SS{y:Str}{py pG:Pos}{k:Nat}(aE:X.calm=true)(cn:X.N.Nodup)(aI:X.N[k]?=some y)(bj:Loc X.env.scope y)(c:fA X scope N' nt cap)(ar:lO X bd iter c2)(a3:∀ C ex s H,lM (d4 X scope N' C ex s H) bd g)(he:∀ C ex s H,bO (d4 X scope N' C ex s H) elt aU)
 (av:∀ x,kY iter X.env x=pure x:=by intro _;rfl) (vt:kZ (.ListComp elt [⟨bd,iter,[],0⟩] scope pos) (some (.Name y py)) pG.line X.env=pure true:=by rfl) (hf:X.fn y=true\/X.env.scope.names.lookup y=some .local:=by first|exact .inl rfl|exact .inr rfl|assumption) :
 jT X (.Assign [.Name y py] (.ListComp elt [⟨bd,iter,[],0⟩] scope pos) pG) (sH (u_ c2 g aU nt cap) (sG k)):=by
 intro pins s σ H sY I h;rw[exec_Assign_Name_used _ _ _ _ vt];refine ah (xy (ah ?_));show aD _ X.A (do let _ ← comprehension (.ListComp elt [⟨bd,iter,[],0⟩] scope pos) scope X.env _ (newList []) false (eval iter X.env) (some (WF (.Name y py) X.env))) _ _ s
 exact ah (h4 (AE (use:=some (WF (.Name y py) X.env)) (Q:=λ _ s'=>ph X pins sY .next s') rfl av (Bn (c.has I.ok)) c.kind c.locs (bU (ar pins s σ H _ I (show va c2 g (λ _ H k=>k true H) aU nt cap σ H (λ v ak=>sY.nx (σ.set k (some v)) ak) from h)) λ v s1 ag=>bU ag λ pk s2 ai=>
  Bq (R0:=λ v ak=>sY.nx (σ.set k (some v)) ak) aE c a3 he (B:=λ _=>pure true) (λ _ _ _ _ _ _ _ _ _ iX q=>aM ⟨_,iX,q⟩) (Io _ _ _ _ _) I (SO cn aI bj hf) ai)) (λ _ s' aV=>aM (aM aV)) λ _ _ e=>e)
end
noncomputable def IN(ar:Int)(n:Nat):hp:=⟨λ i _=>i<n,λ i H x ak=>ak=H/\x=.int (ar - i),λ i _=>n<=i⟩
theorem SU{P:bZ}{w:bM}{K:a8}{bd:a5}(it:Addr)(ar:Int)(n:Nat):Turn P w K bd (IN ar n) [it] it (λ i h=>xD h it (ar+(i:Nat) * (-1)) ((n:Int) - (i:Nat)) (-1)) where
 mem:=by simp
 obj:=λ i h st b af=>by
  have e:b=it:=by simpa using af
  subst e
  exact⟨_,st,λ v z=>by
   have gT:Data.fields _=Data.cell v:=z
   cases gT⟩
 keep:=λ i h h' st k=>k it (by simp) _ st
 item:=by
  intro X fx hw eu aE i pins s σ H E I hf st a3;subst fx hw eu;obtain⟨f0,f1,f2,dD,f4,eD⟩:=hf it (by simp);have W:=Walks.range (prog:=X.prog) (w:=X.w) (I.ok.hd aE) it ar (-1) n;refine W.item i s _ _ a3 st λ v h' tk bu hr c0=>?_;obtain⟨t,rfl⟩:=bu;have aZ:Inv X pins σ H {s with heap:=h',toks:=tk}:=I.turned (λ b o af e=>c0 b o (by simpa using af) e) f0 f1 dD f4 eD;refine⟨_,rfl,sJ (s:={s with heap:=h',toks:=tk}) (n:="range_iterator") hr rfl rfl (by decide) ⟨.int (ar - i),H,aZ,⟨t,?_⟩,⟨rfl,rfl⟩,hr,λ b af=>(hf b af).1⟩⟩;rw[show ar - (i:Int)=ar+(i:Int) * (-1) by omega]
 done:=by
  intro X fx hw eu aE i pins s σ H E I hf st a3;subst fx hw eu;obtain⟨f0,f1,f2,dD,f4,eD⟩:=hf it (by simp)
  exact GK (I.ok.hd aE) st (by have:n<=i:=a3;omega) λ h' dQ=>⟨rfl,I.turned (t':=s.toks) (λ b o af e=>dQ b o af e) f0 f1 dD f4 eD⟩
 self:=λ _ _ _ _ _ st h=>GL st h
theorem IP(a b:Int):Builtin.Range.rangeSize a b (-1)=if a > b then a - b else 0:=by
 unfold Builtin.Range.rangeSize;rw[if_neg (by decide)];split
 ·rw[show -(-1:Int)=1 by decide,Int.ediv_one];omega
 ·rfl
theorem SV{a b:Int}(aB:-(2 ^ 62)<=a)(agq:a<2 ^ 62)(af:-(2 ^ 62)<=b)(q6:b<2 ^ 62):Builtin.Range.small a b (-1)=true:=by
 unfold Builtin.Range.small;rw[IP];rw[if_neg (show ¬ ((-1:Int) > 0) by decide)];simp only[Builtin.Range.rangeFitsLong,fh,Bool.or_eq_true,decide_eq_true_eq,beq_iff_eq];split<;>omega
section
variable{X:a0}{bd:a5}
noncomputable def IQ(bw:eX):TI:=λ σ H R=>bw σ H λ ae H1=>∃ i:Int,ae=[.int i,.int (-1),.int (-1)]/\(-(2 ^ 62)<=i/\i<2 ^ 62)/\R (IN i (i+1).toNat) H1
theorem SX{a b c:a5}{bw:eX}{p pos:Pos}(a3:c8 X "range")(hm:X.mg "range"=none)(aB:h_ X [a,b,c] bw)(ag:dz a=true:=by rfl)(ai:dz b=true:=by rfl)(aT:dz c=true:=by rfl) :
 lO X bd (.Call (.Name "range" p) [a,b,c] [] pos) (IQ bw):=by
 intro pins s σ H R I h;have av:di [a,b,c] X.env=(false,eval a X.env)::di [b,c] X.env:=eT ag
 have ax:(fS pos (di [b,c] X.env)).any (·.1)=false:=by rw[eT ai,eT aT];rfl
 refine Call_ (jp I a3 hm boot_range (lI (bU (aB pos pins s σ H _ I h) λ us s1 xz=>?_) av ax));obtain⟨ae,H1,aZ,bf,aG⟩:=xz;obtain⟨i,e,⟨aG,bv⟩,q⟩:=aG;subst e
 cases bf with
 | cons r dX=>
  cases dX with
  | cons de dX=>
   cases dX with
   | cons SY dX=>
    cases dX;obtain⟨t,rfl⟩:=r;obtain⟨t',rfl⟩:=de;obtain⟨yN,rfl⟩:=SY;refine call_range_3 (by decide) ?_ (.inl (PyProof.noPylong_of_log2 (by trivial)));refine wpAny_pyIter_range (IsRange.new ..) (SV aG bv (by decide) (by decide)) ?_;have bY:Inv X pins σ H1 {s1 with heap:=s1.heap.push {cls:=.type "range",data:=.fields #[.int i t,.int (-1) t',.int (-1) yN]},toks:=s1.toks}:=aZ.kept λ b o e=>cc _ e
    refine⟨(s1.heap.push {cls:=.type "range",data:=.fields #[.int i t,.int (-1) t',.int (-1) yN]}).objs.size,[(s1.heap.push {cls:=.type "range",data:=.fields #[.int i t,.int (-1) t',.int (-1) yN]}).objs.size],_,_,H1,rfl,
     bY.kept (t':=s1.toks) λ b o e=>cc _ e,SU _ i (i+1).toNat,?_,λ b af=>?_,q⟩
    ·have aC:i+((0:Nat):Int) * (-1)=i:=by simp
     have aF:(((i+1).toNat:Nat):Int) - ((0:Nat):Int)=Builtin.Range.rangeSize i (-1) (-1):=by rw[IP];split<;>omega
     show xD _ _ (i+((0:Nat):Int) * (-1)) ((((i+1).toNat:Nat):Int) - ((0:Nat):Int)) (-1);rw[aC,aF];exact dK _ rfl
    ·have e:b=(s1.heap.push {cls:=.type "range",data:=.fields #[.int i t,.int (-1) t',.int (-1) yN]}).objs.size:=by simpa using af
     subst e;exact bY.lN (ZB _) (bY.bt.fresh (ZB _))
end
section
variable{X:a0}{a b c e:a5}{t:eX}{aU:TE}{pos p:Pos}
theorem SZ{bd:a5}(a3:c8 X "range")(hm:X.mg "range"=none)(aB:jY X [a,b,c] t)(ag:dz a=true:=by rfl)(ai:dz b=true:=by rfl)(aT:dz c=true:=by rfl):m6 X bd (.Call (.Name "range" p) [a,b,c] [] pos) (IQ t):=
 ⟨SX a3 hm aB.run ag ai aT⟩
variable{scope:eV}{N':List Str}{nt:Nat}{cap:List Nat}{elt iter bd:a5}{c2:TI}{g:fX}
theorem S0{y:Str}{py pG:Pos}{k:Nat}(aE:X.calm=true)(cn:X.N.Nodup)(aI:X.N[k]?=some y)(bj:Loc X.env.scope y)(ok:fA X scope N' nt cap)(ar:m6 X bd iter c2)(a3:∀ C ex s H,jr (d4 X scope N' C ex s H) bd g)(he:∀ C ex s H,cL (d4 X scope N' C ex s H) elt aU)
 (av:∀ x,kY iter X.env x=pure x:=by intro _;rfl) (vt:kZ (.ListComp elt [⟨bd,iter,[],0⟩] scope pos) (some (.Name y py)) pG.line X.env=pure true:=by rfl) (hf:X.fn y=true\/X.env.scope.names.lookup y=some .local:=by first|exact .inl rfl|exact .inr rfl|assumption) :
 la X (.Assign [.Name y py] (.ListComp elt [⟨bd,iter,[],0⟩] scope pos) pG) (sH (u_ c2 g aU nt cap) (sG k)):=⟨SS aE cn aI bj ok ar.run (λ C ex s H=>(a3 C ex s H).run) (λ C ex s H=>(he C ex s H).run) av vt hf⟩
end
structure q7(P:bZ)(w:bM)(K:a8)(mg:Str->Option Value)(base:bx)(k:Nat)(f:Addr)(sp:gm):Prop where
 ex:∃(fd:gM)(ps:List Str),cN P w K mg base cG k f fd ps sp/\mN K (.ref f)=true/\Binds K fd ps []
theorem Got.BC{P:bZ}{w:bM}{K:a8}{mg:Str->Option Value}{base:bx}{k:Nat}{x:Str}{ps:List Str}{sp:gm}(G:Got P w K mg base k x ps sp):∃ f,mg x=some (.ref f)/\q7 P w K mg base k f sp:=by
 obtain⟨f,fd,F,hm,b8,b⟩:=G.ex;exact⟨f,hm,fd,ps,F,b8,b⟩
noncomputable def IR(i:Nat)(f:Addr)(sp:gm)(t:eX):TE:=λ σ H Q=>σ[i]?=some (some (.ref f))/\yp sp [] pA t σ H Q
section
variable{X:a0}{k j:Nat}{f:Addr}{x:Str}{sp:gm}{p pos:Pos}{e:a5}{es:List a5}{t:eX}
theorem S1{i:Nat}(G:q7 X.prog X.w X.K X.mg X.base k f sp)(aq:eY j X.A)(aI:k<=j)(cn:X.N[i]?=some x)(bu:lJ X.env.scope x)(aB:h_ X (e::es) t)(hd:(x==("__debug__" : Str))=false)(eN:(x==("__classdict__" : Str))=false)
 (he:di (e::es) X.env=(false,eval e X.env)::di es X.env) (e4:(fS pos (di es X.env)).any (·.1)=false) :
 bO X (.Call (.Name x p) (e::es) [] pos) (IR i f sp t):=by
 intro pins s σ H Q I h;obtain⟨aC,h⟩:=h;obtain⟨fd,ps,F,b8,b⟩:=G.ex;refine je (bU (A1 (pos:=p) cn bu hd eN pins s σ H (λ v H1=>v=.ref f/\H1=H) I ⟨_,aC,rfl,rfl⟩) λ u s1 xz=>?_);obtain⟨v,H1,aZ,bf,ev,lV⟩:=xz;subst ev lV;obtain rfl:u=Value.ref f:=bf;refine PySem.W.callWith_K (h₀:=X.base) I.ok.mod.uK b8 (bU (aB pos pins s1 σ H1 _ aZ h) λ us s2 xz=>?_) he e4;obtain⟨ae,aQ,bY,r,q⟩:=xz;refine⟨bY.gN,?_⟩;exact Hz F (aq.mono aI) b .nil H4 bY r q
theorem S2(i:Nat)(G:q7 X.prog X.w X.K X.mg X.base k f sp)(aq:eY j X.A)(aI:k<=j)(aB:jY X (e::es) t)(cn:X.N[i]?=some x:=by rfl)(bu:lJ X.env.scope x:=by first|exact Or.inl rfl|exact Or.inr (Or.inl rfl)|exact Or.inr (Or.inr rfl))
 (hd:(x==("__debug__" : Str))=false:=by decide) (eN:(x==("__classdict__" : Str))=false:=by decide) (av:(e::es).all dz=true:=by rfl):cL X (.Call (.Name x p) (e::es) [] pos) (IR i f sp t):=by
 have h:=av;rw[jk,fh]at h;exact⟨S1 G aq aI cn bu aB.run hd eN (eT h.1) (sX h.2)⟩
end
end L2
namespace fZ
open PySem PyProof.Rows
theorem own:Manifest.owners.lookup (String.ofList ['d','e','s','r','e','v','e','r'].reverse)=some Manifest.sig_reversed:=by kernel_rfl
theorem iG:jF "reversed" "__next__" "reversed.__next__":=.of (owner:="reversed") (n:="__next__") (by rw[XL,kW];kernel_rfl) (by trivial) (by trivial) (by trivial) (by first|exact .inl (by trivial)|exact .inr (by trivial)) (by rw[kg];kernel_rfl)
theorem vu:jF "reversed" "__iter__" "reversed.__iter__":=.of (owner:="reversed") (n:="__iter__") (by rw[XL,kW];kernel_rfl) (by trivial) (by trivial) (by trivial) (by first|exact .inl (by trivial)|exact .inr (by trivial)) (by rw[kg];kernel_rfl)
theorem BD:jF "reversed" "__length_hint__" "reversed.__length_hint__":=.of (owner:="reversed") (n:="__length_hint__") (by rw[XL,kW];kernel_rfl) (by trivial) (by trivial) (by trivial) (by first|exact .inl (by trivial)|exact .inr (by trivial)) (by rw[kg];kernel_rfl)
theorem S3:jF "reversed" "__init__" "object.__init__":=.of (owner:="object") (n:="__init__") (by rw[XL,kW];kernel_rfl) (by trivial) (by trivial) (by trivial) (by first|exact .inl (by trivial)|exact .inr (by trivial)) (by rw[kg];kernel_rfl)
theorem q8:qJ table "reversed.__next__"=some Builtin.«reversed.__next__»:=AK (by kernel_rfl)
theorem S4:qJ table "reversed.__length_hint__"=some Builtin.«reversed.__length_hint__»:=AK (by kernel_rfl)
theorem BE:qJ table "reversed.__iter__"=some Builtin.«dict_keyiterator.__iter__»:=xw (id':="dict_keyiterator.__iter__") (by kernel_rfl) (by first|rfl|decide +kernel|(unfold String.splitOn;simp +decide [String.splitOnAux])) (by trivial) (by kernel_rfl)
theorem q9(a:Value):k1 "reversed.__next__" ⟨[a],[]⟩:=by unfold k1;rw[signature?_of (id:="reversed.__next__") (n:=['_','_','t','x','e','n','_','_']) (o:=['d','e','s','r','e','v','e','r']) (by kernel_rfl) own];kernel_rfl
theorem BF(a:Value):k1 "reversed.__iter__" ⟨[a],[]⟩:=by unfold k1;rw[signature?_of (id:="reversed.__iter__") (n:=['_','_','r','e','t','i','_','_']) (o:=['d','e','s','r','e','v','e','r']) (by kernel_rfl) own];kernel_rfl
theorem S5(a:Value):k1 "reversed.__length_hint__" ⟨[a],[]⟩:=by unfold k1;rw[signature?_of (id:="reversed.__length_hint__") (n:=['_','_','t','n','i','h','_','h','t','g','n','e','l','_','_']) (o:=['d','e','s','r','e','v','e','r']) (by kernel_rfl) own];kernel_rfl
theorem S6:TypeCalled "reversed" "reversed.__new__" "object.__init__":=⟨by trivial,by trivial,⟨_,_,F.mro_reversed⟩,F.made_reversed,by trivial,by rw[kg];kernel_rfl,S3⟩
theorem S7:sb (.type "reversed") "__len__"=pure none:=by rw[XL,kW];kernel_rfl
theorem S8:sb (.type "list_reverseiterator") "__len__"=pure none:=by rw[XL,kW];kernel_rfl
theorem S9:sb (.type "list_reverseiterator") "__length_hint__"=pure (some (.builtin "list_reverseiterator.__length_hint__")):=by rw[XL,kW];kernel_rfl
theorem S_:sb (.type "tuple") "__reversed__"=pure none:=by rw[XL,kW];kernel_rfl
theorem Ta:isSubtype (.type "tuple") (.type "dict")=pure false:=by rw[kg];kernel_rfl
noncomputable abbrev m7(h:bx)(it t:Addr)(k:Int):Prop:=h.get? it=some {cls:=.type "reversed",dict:=none,data:=.fields #[.ref t,dB k],slots:=#[]}
section
variable{prog:bZ}{w:bM}{A:cK}{E:Value->ay->Prop}{s:ay}{it t:Addr}
theorem yO{α:Type}{Q:α->ay->Prop}(cY:A.handled=none)(h:∀ h' e,(∀ b o,s.heap.get? b=some o->h'.get? b=some o)->Shared.TypeIs {s with heap:=h'} (.ref e) "StopIteration"->E (.ref e) {s with heap:=h'}):aD (aK prog w) A (Builtin.SmallTypes.stopIteration:Sem α) Q E s:=by
 unfold Builtin.SmallTypes.stopIteration;refine ah ?_;unfold qM newTuple;refine ah (gL ?_ (by size_fits));rw[show oQ (.type "StopIteration") []=pure Value.none from by unfold oQ;rfl,pure_bind];refine gL ?_ (by size_fits);unfold raiseNew;refine ah (xA ?_);rw[cY];exact xF (h _ _ (λ b o e=>cc _ (cc _ e)) ⟨_,dK _ rfl,rfl⟩)
theorem Tb{k:Int}{Q:Value->ay->Prop}(hit:m7 s.heap it t k)(h:Q (.ref it) s):aD (aK prog w) A (mF (.ref it)) Q E s:=
 have bp:s.TypeIs (.ref it) "reversed":=⟨_,hit,rfl⟩
 ui bp vu (f3 vu bp BE (aM ⟨_,rfl,"reversed",_,bp,iG.lookup,h⟩) (BF _))
theorem Tc{k:Nat}{items:Array Value}{x:Value}{Q:Option Value->ay->Prop}(hit:m7 s.heap it t k)(bN:ji s.heap t items)(aA:items[k]?=some x)(aI:(k:Int)<2 ^ 63)
 (db:∀ h' tk,m7 h' it t ((k:Int) - 1)->Heap.SameBut it s.heap h'->Q (some x) {s with heap:=h',toks:=tk}):aD (aK prog w) A (ef (.ref it)) Q E s:=by
 have bp:s.TypeIs (.ref it) "reversed":=⟨_,hit,rfl⟩
 have eO:k<items.size:=(nW.mp aA).1;unfold ef;refine ah (iT (wpAny_callSpecial?_slot bp iG (f3 iG bp q8 ?_ (q9 _))));refine(show aD (aK prog w) A.in1 (jh (.ref it) 0 >>= _) _ _ s from ah (fM hit rfl (x:=.ref t) rfl ?_));refine(show aD (aK prog w) A.in1 (jh (.ref it) 1 >>= _) _ _ s from ah (fM hit rfl (x:=dB k) rfl ?_));refine(show aD (aK prog w) A.in1 (if (k:Int)<0 then _ else _) _ _ s from ?_);rw[if_neg (by omega)];refine ah (nK bN.typeIs slot_tuple_getitem.lookup ?_);rw[if_neg (by simp)];refine(show aD (aK prog w) A.in1 (mkInt k >>= _) _ _ s from ah (wpAny_mkInt ?_));refine ah (iT (AW (j:=k) (x:=x) (s:={s with toks:=s.toks+1}) bN (by omega) aI (by simp[seqIndex?];omega) aA ?_));refine(show aD (aK prog w) A.in1 (jh (.ref it) 1 >>= _) _ _ _ from ah (fM hit rfl (x:=dB k) rfl ?_));exact ah (jf hit rfl (by simp) (aM ⟨x,rfl,aM (db _ _ (hl _ hit rfl) (Heap.SameBut.update ..))⟩))
theorem Td{k:Int}{Q:Option Value->ay->Prop}(cY:A.handled=none)(hit:m7 s.heap it t k)(aI:k<0)(db:∀ h',Heap.ExtBut it s.heap h'->Q none {s with heap:=h'}):aD (aK prog w) A (ef (.ref it)) Q E s:=by
 have bp:s.TypeIs (.ref it) "reversed":=⟨_,hit,rfl⟩
 unfold ef;refine ah (iT (wpAny_callSpecial?_slot bp iG (f3 iG bp q8 ?_ (q9 _))));refine(show aD (aK prog w) A.in1 (jh (.ref it) 0 >>= _) _ _ s from ah (fM hit rfl (x:=.ref t) rfl ?_));refine(show aD (aK prog w) A.in1 (jh (.ref it) 1 >>= _) _ _ s from ah (fM hit rfl (x:=dB k) rfl ?_));refine(show aD (aK prog w) A.in1 (if k<0 then _ else _) _ _ s from ?_);rw[if_pos aI];refine ah (h5 (ah ?_));refine(show aD (aK prog w) A.in1 (mA (.ref it) 1 (dB (-1)) >>= λ _=>mA (.ref it) 0 .none) _ _ s from ah (jf hit rfl (by simp) ?_));refine jf (hl (Obj.mapFields (·.setIfInBounds 1 (dB (-1)))) hit rfl) rfl (by simp) ?_;refine ah (yO (A:=A.in1) cY λ h' e c0 av=>?_);refine ah (kf (T:="StopIteration") (b:=true) av qC (aM (db _ λ b o af e=>c0 b o ?_)));exact((Heap.SameBut.update ..).trans (Heap.SameBut.update ..)).extBut b o af e
theorem Te{k:Int}{items:Array Value}{Q:Value->ay->Prop}(hit:m7 s.heap it t k)(bN:ji s.heap t items)(hz:(items.size:Int)<2 ^ 63)(aI:k+1=items.size)
 (h:∀ u tk,s.toks<=tk->Q (.int (items.size:Int) u) {s with toks:=tk}):aD (aK prog w) A (call (.builtin "reversed.__length_hint__") [.ref it]) Q E s:=by
 have bp:s.TypeIs (.ref it) "reversed":=⟨_,hit,rfl⟩
 refine f3 BD bp S4 ?_ (S5 _);refine(show aD (aK prog w) A.in1 (jh (.ref it) 0 >>= _) _ _ s from ah (fM hit rfl (x:=.ref t) rfl ?_));refine(show aD (aK prog w) A.in1 (if (Value.ref t==Value.none)=true then _ else _) _ _ s from ?_);rw[if_neg (show ¬ ((Value.ref t==Value.none)=true) from f7)];refine(show aD (aK prog w) A.in1 (call (.builtin "len") [.ref t] >>= _) _ _ s from ah (len_tuple bN hz ?_));refine ah (m:=asInt? (.int (items.size:Int) _)) (aM ?_);refine(show aD (aK prog w) A.in1 (jh (.ref it) 1 >>= _) _ _ _ from ah (fM hit rfl (x:=dB k) rfl ?_));refine(show aD (aK prog w) A.in1 (if (items.size:Int)<k+1 then _ else _) _ _ _ from ?_);rw[if_neg (by omega),aI];exact ah (wpAny_mkInt (aM ⟨_,rfl,h _ _ (by simp;omega)⟩))
end
theorem lW(t:Addr)(items:Array Value)(hz:(items.size:Int)<2 ^ 63) :
 Meets (Builtin.«reversed.__new__» ⟨[.type "reversed",.ref t],[]⟩) (λ _ R s=>ji s.heap t items ∧
  ∀ tk,R (.ok (.ret (.ref s.heap.objs.size))) {s with heap:=s.heap.push {cls:=.type "reversed",data:=.fields #[.ref t,dB ((items.size:Int) - 1)]},toks:=tk}):=
 .of_wp λ prog w A R s ⟨bN,h⟩=>by
  unfold Builtin.«reversed.__new__»;refine ah (qE (newClass_reversed _) (ah (m:=Builtin.SmallTypes.refuseKeywords _ _ _) (aM ?_)));refine ah (qE (a:=()) (by rfl) (ah (nK bN.typeIs S_ (ah ?_))));refine(show aD (aK prog w) A.in1 (isInstance (Value.ref t) (.type "dict") >>= _) _ _ s from ah (kf (T:="tuple") (b:=false) bN.typeIs Ta ?_));rw[if_neg (by decide)];refine ah (nK bN.typeIs slot_tuple_getitem.lookup ?_);refine(show aD (aK prog w) A.in1 (if (["tuple.__getitem__","str.__getitem__","bytes.__getitem__","bytearray.__getitem__","memoryview.__getitem__","numpy.ndarray.__getitem__","sqlite3.Row.__getitem__"].contains "tuple.__getitem__")=true then _ else _) _ _ s from ?_);rw[if_pos (by decide)];refine aM ?_;rw[if_neg (by decide)];refine(show aD (aK prog w) A.in1 (call (.builtin "len") [.ref t] >>= _) _ _ s from ah (len_tuple bN hz ?_));refine ah (m:=asInt? (.int (items.size:Int) _)) (aM ?_);refine(show aD (aK prog w) A.in1 (newObj (.type "reversed") (.fields #[.ref t,dB ((items.size:Int) - 1)]) >>= _) _ _ _ from ah (gL ?_ (by size_fits)));exact aM ⟨_,rfl,h _⟩
theorem Tf{prog:bZ}{w:bM}{A:cK}{E:Value->ay->Prop}{s:ay}{t:Addr}{items:Array Value}{Q:Value->ay->Prop}(bN:ji s.heap t items)(hz:(items.size:Int)<2 ^ 63)
 (h:∀ tk,Q (.ref s.heap.objs.size) {s with heap:=s.heap.push {cls:=.type "reversed",data:=.fields #[.ref t,dB ((items.size:Int) - 1)]},toks:=tk}):aD (aK prog w) A (call (.type "reversed") [.ref t]) Q E s:=
 callType_new S6 (by decide) (F.typeCall_reversed_1 _) (F.newCall_reversed_1 _) (λ obj=>F.args_object_init_2 obj _) F.entry_reversed_new (lW t items hz) ⟨bN,λ tk=>⟨⟨_,dK _ rfl,rfl⟩,h tk⟩⟩
theorem Tg{prog:bZ}{w:bM}{A:cK}(cY:A.handled=none)(I t:Addr)(cE:t≠I)(items:Array Value)(hz:(items.size:Int)<2 ^ 63) :
 Walks prog w A I [I,t] [I] items.size (λ i v=>items[items.size - 1 - i]?=some v) (λ i h=>m7 h I t ((items.size:Int) - 1 - i)/\ji h t items) where
 sub:=λ b af=>by rw[ft.mp af];exact dP
 frame:=λ _ _ _ st aI=>⟨aI I (by simp) _ st.1,let ⟨o,aO,r⟩:=st.2;⟨o,aI t (by simp) _ aO,r⟩⟩
 item:=λ i s Q E ar st db=>by
  have Th:m7 s.heap I t ((items.size - 1 - i:Nat):Int):=by rw[show ((items.size - 1 - i:Nat):Int)=(items.size:Int) - 1 - i by omega];exact st.1
  refine Tc Th st.2 (x:=items[items.size - 1 - i]) (by simp<;>omega) (by omega) λ h' tk IS pC=>?_;rw[show ((items.size - 1 - i:Nat):Int) - 1=(items.size:Int) - 1 - ((i+1:Nat):Int) by omega]at IS;exact db _ h' tk (by simp<;>omega) ⟨IS,st.2.extBut pC.extBut cE⟩ λ b o af e=>pC.extBut b o (λ z=>af (ft.mpr z)) e
 done:=λ s Q E st db=>Td cY st.1 (by omega) λ h' he=>db h' s.toks λ b o af e=>he b o (λ z=>af (ft.mpr z)) e
 self:=λ i s Q E st h=>Tb st.1 h
noncomputable def BG(prog:bZ)(w:bM)(A:cK)(I:Addr)(St:Nat->ay->Prop):Prop:=
 ∀(s:ay)(Q:Bool->ay->Prop)(E:Value->ay->Prop),St 0 s->(∀ b tk,s.toks<=tk->Q b {s with toks:=tk})->aD (aK prog w) A (Builtin.List.listLengthHint (.ref I)) Q E s
structure hp(prog:bZ)(w:bM)(A:cK)(I:Addr)(fp wr:List Addr)(n:Nat)(P:Nat->Value->Prop)(St:Nat->ay->Prop):Prop where
 walk:WalksS prog w A I fp wr (λ a b=>b=a) n P St
 ty:∃ T,(Value.type T==Value.type "list")=false/\(Value.type T==Value.type "tuple")=false/\∀ i s,St i s->s.TypeIs (.ref I) T
 hint:BG prog w A I St
 mem:I∈fp
 fc:n<=sizeLine
section
variable{prog:bZ}{w:bM}{A:cK}{E:Value->ay->Prop}{s:ay}{R:qL->ay->Prop}{I S:Addr}{fp wr:List Addr}{n:Nat}{P:Nat->Value->Prop}{St:Nat->ay->Prop}
noncomputable abbrev listAt(acc:Array Value)(c:Nat):Obj:={cls:=.type "list",dict:=none,data:=.seq acc c,slots:=#[]}
theorem IT(J:hp prog w A.in1 I fp wr n P St)(res:Value)(c₀:Nat)(ia:St 0 s)(m8:S ∉ fp)(c3:s.heap.get? S=some (listAt #[] c₀))
 (ed:∀ s' acc c,oX (S::wr) (λ a b=>b=a) s s'->s'.heap.get? S=some (listAt acc c)->nQ P acc n->R (.ok (.ret res)) s') :
 aD (aK prog w) A.in1 (Builtin.List.listExtendWith (.ref S) (.ref I) res)
  (λ fin s'=>match fin with|.done f=>R (.ok f) s'|.again cu=>cu.quiet=true/\iV (aK prog w) A cu R s') (λ e s'=>R (.error e) s') s:=by
 obtain⟨T,t1,t2,bp⟩:=J.ty;have W:=J.walk
 have ag:Builtin.List.listSameRef (.ref S) (.ref I)=false:=by
  have:S≠I:=λ e=>m8 (e ▸ J.mem);simp[Builtin.List.listSameRef,this]
 unfold Builtin.List.listExtendWith;refine ah (nN (bp 0 _ ia) ?_);rw[ag,t1,t2,pd,pd,if_neg f7];refine ah (W.self 0 _ _ _ ia (ah (g4 (J.hint _ _ _ ia λ b tk qY=>?_))))
 have go:∀(h':bx)(c:Nat),(∀ b o,b≠S->s.heap.get? b=some o->h'.get? b=some o)->h'.get? S=some (listAt #[] c) →
  iV (aK prog w) A (.builtin "list.extend.loop" ⟨[.ref S,.ref I,res],[]⟩) R {s with heap:=h',toks:=tk}:=λ h' c c0 e=>
  codeAny_extend_loopS W J.fc _ m8 _ n 0 _ _ _ rfl (fV _) (W.frame 0 s h' tk ia qY λ b af o e=>c0 b o (λ z=>m8 (z ▸ af)) e) e (ItemsOf.nil P) λ s' acc cu hm gW eK=>
   ed s' acc cu (Moved.trans (s':={s with heap:=h',toks:=tk}) W.gtrans ⟨λ b o af e=>c0 b o (λ z=>af (by rw[z];exact dP)) e,rfl,rfl,rfl,qY⟩ hm) gW eK
 refine AL (λ _=>ah (h5 (ah ?_))) (λ _=>aM ⟨lB F.plain_extend_loop _,go _ _ (λ _ _ _ e=>e) c3⟩);refine(show aD (aK prog w) A.in1 (nO S (·.push .none) >>= λ _=>nO S (·.pop)) _ _ _ from ah (mx c3 rfl ?_));have aF:=hl (Obj.mapSeq (·.push Value.none)) c3 rfl;refine mx (hz:=by seq_fits) aF rfl (aM ⟨lB F.plain_extend_loop _,go _ _ (λ b o af e=>?_) (hl (Obj.mapSeq (·.pop)) aF rfl)⟩);exact(kl _ _ (Ne.symm af)).trans ((kl _ _ (Ne.symm af)).trans e)
theorem listOf{Q:Value->ay->Prop}(J:hp prog w A.in1.in1 I fp wr n P St)(ia:St 0 s)(vv:∀ b∈fp,b<s.heap.objs.size)
 (db:∀ s' acc c,oX (s.heap.objs.size::wr) (λ a b=>b=a) {s with heap:=s.heap.push (listAt #[] 0)} s'->s'.heap.get? s.heap.objs.size=some (listAt acc c)->nQ P acc n->Q (.ref s.heap.objs.size) s') :
 aD (aK prog w) A (call (.type "list") [.ref I]) Q E s:=by
 have m8:s.heap.objs.size ∉ fp:=λ hm=>lF _ (vv _ hm);refine callType_codes (Q₁:=λ obj dx=>obj=.ref s.heap.objs.size/\dx={s with heap:=s.heap.push (listAt #[] 0)}) F.called_list (F.typeCall_list_1 _) F.entry_list_init (code_list_new _ ⟨rfl,rfl⟩) ?_;rintro obj dx ⟨rfl,rfl⟩;have c3:(s.heap.push (listAt #[] 0)).get? s.heap.objs.size=some (listAt #[] 0):=dK _ rfl;refine⟨⟨_,c3,rfl⟩,F.args_list_init_2 _ _,?_⟩;refine(show aD (aK prog w) A.in1.in1 (Builtin.List.listItems (.ref s.heap.objs.size) >>= λ old=>Builtin.List.listUpdate (.ref s.heap.objs.size) (λ _=>#[]) >>= λ _=>letGo old.toList.reverse >>= λ _=>Builtin.List.listExtendWith (.ref s.heap.objs.size) (.ref I) .none) _ _ _ from ah ?_);unfold Builtin.List.listItems;refine ah (nL c3 rfl (aM ?_));refine(show aD (aK prog w) A.in1.in1 (nO s.heap.objs.size (λ _=>#[]) >>= λ _=>letGo (#[]:Array Value).toList.reverse >>= λ _=>Builtin.List.listExtendWith (.ref s.heap.objs.size) (.ref I) .none) _ _ _ from ah (mx c3 rfl (ah (r_ ?_))));have c0:∀ b o,b≠s.heap.objs.size->(s.heap.push (listAt #[] 0)).get? b=some o->((s.heap.push (listAt #[] 0)).update s.heap.objs.size (Obj.mapSeq (λ _=>(#[]:Array Value)))).get? b=some o:=λ b o af e=>(kl _ _ (Ne.symm af)).trans e
 refine IT (A:=A.in1) J .none _ (J.walk.frame 0 s _ s.toks ia (ZB _) λ b af o e=>c0 b o (λ z=>m8 (z ▸ af)) (cc _ e)) m8 (hl (Obj.mapSeq (λ _=>(#[]:Array Value))) c3 rfl) λ s' acc c hm gW eK=>⟨rfl,db s' acc c ?_ gW eK⟩
 exact Moved.trans (s':={s with heap:=(s.heap.push (listAt #[] 0)).update s.heap.objs.size (Obj.mapSeq (λ _=>(#[]:Array Value)))}) J.walk.gtrans ⟨λ b o af e=>c0 b o (λ z=>af (by rw[z];exact dP)) e,rfl,rfl,rfl,ZB _⟩ hm
theorem Ti{Q:List Value->ay->Prop}(J:hp prog w A.in1 I fp wr n P St)(ia:St 0 s)(vv:∀ b∈fp,b<s.heap.objs.size)(db:∀ s' acc,oX wr (λ a b=>b=a) s s'->nQ P acc n->Q acc.toList s') :
 aD (aK prog w) A (ut (.ref I)) Q E s:=by
 have m8:s.heap.objs.size ∉ fp:=λ hm=>lF _ (vv _ hm);unfold ut;refine ah (AM (my F.entry_proto_collect ?_));rw[Around.under_plainId F.plain_proto_collect _];refine(show aD (aK prog w) A.in1 (newList [] >>= λ l=>again (.builtin "list.__iadd__" ⟨[l,.ref I],[]⟩)) _ _ s from ah (gL (aM ⟨lB F.plain_list_iadd _,my F.entry_list_iadd ?_⟩)));rw[Around.under_plainId F.plain_list_iadd _];have c3:(s.heap.push (listAt #[] 0)).get? s.heap.objs.size=some (listAt #[] 0):=dK _ rfl
 have fin:∀ s',(∃ acc c,oX (s.heap.objs.size::wr) (λ a b=>b=a) {s with heap:=s.heap.push (listAt #[] 0)} s'/\s'.heap.get? s.heap.objs.size=some (listAt acc c)/\nQ P acc n) →
  aD (aK prog w) A (do
   match (← load s.heap.objs.size).data with
   |.seq xs _=>pure xs.toList
   |_=>xG "internal:collect") Q E s':=by
  rintro s' ⟨acc,c,hm,gW,eK⟩;exact ah (sa gW (aM (db s' acc (Moved.drop_new (o:=listAt #[] 0) (tk:=s.toks) hm (ZB _)) eK)))
 refine(show aD (aK prog w) A.in1 (Builtin.List.listExtendWith (.ref s.heap.objs.size) (.ref I) (.ref s.heap.objs.size)) _ _ _ from ?_)
 refine h4 (IT (A:=A) (R:=λ r s'=>r=.ok (.ret (.ref s.heap.objs.size))/\∃ acc c,oX (s.heap.objs.size::wr) (λ a b=>b=a) {s with heap:=s.heap.push (listAt #[] 0)} s'/\s'.heap.get? s.heap.objs.size=some (listAt acc c)/\nQ P acc n) J _ _
  (J.walk.frame 0 s _ s.toks ia (ZB _) λ b _ o e=>cc _ e) m8 c3 (λ s' acc c hm gW eK=>⟨rfl,acc,c,hm,gW,eK⟩)) (λ fn s' h=>?_) (λ e s' h=>absurd h.1 (by simp))
 cases fn with
 | done f=>
  obtain⟨e,h⟩:=h;cases e;exact fin s' h
 |again cu=>exact⟨h.1,nM h.2 λ r n6 aq=>by obtain⟨rfl,aq⟩:=aq;exact fin n6 aq⟩
theorem Tj{l:Addr}{k:Nat->Int}{U:Nat->ay->Prop}:BG prog w A I (λ i s=>i<=n/\s.heap.IsRevIter I l (k i)/\U i s):=by
 intro s Q E st h;have bp:s.TypeIs (.ref I) "list_reverseiterator":=st.2.1.typeIs;unfold Builtin.List.listLengthHint;refine ah (nK bp S8 ?_);refine(show aD (aK prog w) A (specialOf (Value.ref I) (Str.ofString "__length_hint__") >>= _) _ _ _ from ah (nK bp S9 ?_))
 (generalize lX:("list_reverseiterator.__length_hint__" : String)=pH;(fail_if_success (clear lX pH));wp_delta;rw[show splitId pH=some ("list_reverseiterator","__length_hint__") from by subst lX;decide +kernel];subst lX)
 exact ah (kf (b:=true) bp (by rw[kg];kernel_rfl) (aM (h _ _ (ZB _))))
theorem Tk{t:Addr}{items:Array Value}(hz:items.size<=sizeLine):BG prog w A I (λ i s=>m7 s.heap I t ((items.size:Int) - 1 - i)/\ji s.heap t items):=by
 intro s Q E st h
 have bp:s.TypeIs (.ref I) "reversed":=⟨_,st.1,rfl⟩
 have aH:=hk;unfold Builtin.List.listLengthHint;refine ah (nK bp S7 ?_);refine(show aD (aK prog w) A (specialOf (Value.ref I) (Str.ofString "__length_hint__") >>= _) _ _ _ from ah (nK bp BD.lookup ?_))
 (generalize lX:("reversed.__length_hint__" : String)=pH;(fail_if_success (clear lX pH));wp_delta;rw[show splitId pH=some ("reversed","__length_hint__") from by subst lX;decide +kernel];subst lX)
 refine ah (kf (b:=true) bp (by rw[kg];kernel_rfl) ?_);rw[if_neg (by decide)];refine AL (λ sZ=>absurd sZ (by trivial)) (λ _=>ah (h5 (ah (qE (BD.bind _) ?_))));refine(show aD (aK prog w) A ((call (.builtin "reversed.__length_hint__") [.ref I]).attempt >>= _) _ _ _ from ah (iT (Te (items:=items) st.1 st.2 (by omega) (by omega) λ u tk qY=>?_)))
 dsimp only
 have aB:∀(n:Int)(u:Tok),asInt? (Value.int n u)=pure (some n):=λ _ _=>rfl
 have ag:Builtin.List.listFitsIndex (items.size:Int)=true:=by
  unfold Builtin.List.listFitsIndex;simp only[fh,decide_eq_true_eq];omega
 have ai:Builtin.List.listTooLong ((items.size:Int)).toNat=false:=by simp[Builtin.List.listTooLong,sizeLine];omega
 rw[aB,pure_bind]
 dsimp only
 rw[ag,ai,if_neg (by decide),if_neg (by omega),if_neg (by decide)];exact aM (h _ _ qY)
end
theorem BH{wr:List Addr}{s s':ay}(hm:oX wr (λ a b=>b=a) s s'):s'={s with heap:=s'.heap,toks:=s'.toks}:=by
 obtain⟨h',g',d',IU,Be⟩:=s';cases (show g'=s.gens from hm.gens);cases (show d'=s.drawn from hm.drawn);cases (show Be=s.os from hm.os);rfl
theorem back{aP:List Value}{acc:Array Value}(h:nQ (λ i v=>aP.toArray[aP.toArray.size - 1 - i]?=some v) acc aP.toArray.size):acc.toList=aP.reverse:=by
 obtain⟨Tl,ax⟩:=h
 have av:acc.size=aP.length:=by simpa using Tl
 apply List.ext_getElem?;intro i;by_cases ar:i<aP.length
 ·have ag:i<acc.size:=by omega
  have e:=ax i acc[i] (by simp[ag]);rw[List.getElem?_reverse ar,pb,hI ag,<- e];simp
 ·rw[kj (by rw[fu];omega),kj (by rw[hG];omega)]
theorem Tn{prog:bZ}{w:bM}{A:cK}{I t:Addr}{items:Array Value}(cY:A.handled=none)(cE:t≠I)(hz:items.size<=sizeLine) :
 hp prog w A I [I,t] [I] items.size (λ i v=>items[items.size - 1 - i]?=some v) (λ i s=>m7 s.heap I t ((items.size:Int) - 1 - i)/\ji s.heap t items) where
 walk:=(Tg cY I t cE items (by have:=hk;omega)).toS
 ty:=⟨"reversed",by decide,by decide,λ _ _ st=>⟨_,st.1,rfl⟩⟩
 hint:=Tk hz
 mem:=by simp
 fc:=hz
theorem To{prog:bZ}{w:bM}{A:cK}{I l:Addr}{items:Array Value}(cY:A.handled=none)(cE:l≠I)(hz:items.size<=sizeLine) :
 hp prog w A I [I,l] [I] items.size (λ i v=>items[items.size - 1 - i]?=some v) (λ i s=>i<=items.size/\s.heap.IsRevIter I l ((items.size:Int) - 1 - (i:Int))/\s.heap.IsList l items) where
 walk:=(Walks.listRev cY I l cE items).toS
 ty:=⟨"list_reverseiterator",by decide,by decide,λ _ _ st=>st.2.1.typeIs⟩
 hint:=Tj (k:=λ i=>(items.size:Int) - 1 - (i:Int)) (U:=λ _ s=>s.heap.IsList l items)
 mem:=by simp
 fc:=hz
theorem Tp{prog:bZ}{w:bM}(it l:Addr)(aP:List Value)(hz:aP.toArray.size<=sizeLine) :
 MeetsIn prog w (Builtin.«tuple.__new__» ⟨[.type "tuple",.ref it],[]⟩) (λ A R s=>A.handled=none/\l≠it/\s.heap.IsRevIter it l ((aP.toArray.size:Int) - 1)/\s.heap.IsList l aP.toArray ∧
  ∀(h':bx)(tk:Nat),(∀ b o,b≠it->s.heap.get? b=some o->h'.get? b=some o)->R (.ok (.ret (.ref h'.objs.size))) {s with heap:=h'.push {cls:=.type "tuple",data:=.seq aP.reverse.toArray},toks:=tk}):=
 .of_wp λ A R s h=>by
  obtain⟨ax,g,d,tk,os⟩:=s;obtain⟨cY,cE,hit,aH,h⟩:=h;have Tq:=sub_tuple_self;have agr:=init_tuple_lookup;have ags:=madeHere_tuple;have bp:Shared.TypeIs ⟨ax,g,d,tk,os⟩ (.ref it) "list_reverseiterator":=hit.typeIs;obtain⟨Tr,IV,_⟩:=id hit;obtain⟨ol,s0,_⟩:=id aH
  have vv:∀ b∈[it,l],b<ax.objs.size:=λ b af=>by
   simp only[dw,jI,or_false]at af;rcases af with rfl|rfl
   ·exact cm IV
   ·exact cm s0
  have Ts:∀(Q:List Value->ay->Prop)(E:Value->ay->Prop),(∀ s' acc,oX [it] (λ a b=>b=a) ⟨ax,g,d,tk,os⟩ s'->nQ (λ i v=>aP.toArray[aP.toArray.size - 1 - i]?=some v) acc aP.toArray.size->Q acc.toList s') →
   aD (aK prog w) A.in1 (ut (.ref it)) Q E ⟨ax,g,d,tk,os⟩:=λ Q E db=>Ti (To (A:=A.in1.in1) cY cE hz) ⟨fV _,by simpa using hit,aH⟩ vv db
  wp_walk using AutoSeq1.wpAny_loadPart' IV,nN bp,Ts _ _
  intro s' acc hm eK;rw[back eK];refine(show aD (aK prog w) A.in1 (Builtin.Tuple.tupleExact aP.reverse.toArray >>= λ v=>ret v) _ _ _ from ?_);unfold Builtin.Tuple.tupleExact;refine ah (gL (aM ⟨_,rfl,?_⟩) (by show aP.reverse.toArray.size<=sizeLine;simpa using hz));rw[BH hm];exact h s'.heap s'.toks λ b o af e=>hm.heap b o (by simpa using af) e
end fZ
namespace L2
open PySem PySem.Spec PyProof.Rows
section
variable{X:a0}{e:a5}{aU:TE}{p c_ pos dL:Pos}
noncomputable def Tt(X:a0)(pins:List (Addr×Obj))(σ:St)(R:Addr->List V->au->Prop)(v:Value)(s:ay):Prop:=
 ∃(a it:Addr)(xs:List V)(aP:List Value)(H:au),v=.ref it/\Inv X pins σ H s/\fZ.m7 s.heap it a ((aP.toArray.size:Int) - 1)/\ji s.heap a aP.toArray/\a≠it/\Vals xs aP/\aP.toArray.size<=sizeLine/\dk X.K H a xs/\hq X pins H it/\R a xs H
noncomputable def Tu(X:a0)(pins:List (Addr×Obj))(σ:St)(R:Addr->List V->au->Prop)(v:Value)(s:ay):Prop:=
 ∃(a it:Addr)(xs:List V)(aP:List Value)(H:au),v=.ref it/\Inv X pins σ H s/\s.heap.IsRevIter it a ((aP.toArray.size:Int) - 1)/\s.heap.IsList a aP.toArray/\a≠it/\Vals xs aP/\aP.toArray.size<=sizeLine/\eh X.K H a xs/\hq X pins H it/\R a xs H
theorem Tv{pins:List (Addr×Obj)}{s:ay}{σ:St}{H:au}{R:Addr->List V->au->Prop}(a3:c8 X "reversed")(hm:X.mg "reversed"=none)(he:bO X e aU)(av:dz e=true)(I:Inv X pins σ H s)
 (h:aU σ H λ x H1=>∃ a xs,x=.ref a/\dk X.K H1 a xs/\R a xs H1):aD (aK X.prog X.w) X.A (eval (.Call (.Name "reversed" c_) [e] [] dL) X.env) (Tt X pins σ R) X.xe s:=by
 refine je (jp I a3 hm PyProof.Rows.boot_reversed ?_);refine lI ?_ (eT av) rfl;rw[eT av];show aD _ _ (lC ((false,eval e X.env)::fS dL (di [] X.env))) _ _ s;refine Calls.spliced_cons (bU (he pins s σ H _ I h) λ u s1 xz=>?_);obtain⟨x,H1,aZ,bf,a,xs,ex,aV,q⟩:=xz;refine Calls.spliced_nil ?_;subst ex;cases bf;obtain⟨aP,a9,cF,hz⟩:=aZ.tuple aV;have aH:=a9.length;have agt:=n3;refine fZ.Tf cF (by rw[cS];omega) λ tk=>?_;exact⟨a,s1.heap.objs.size,xs,aP,H1,rfl,aZ.kept λ b o e=>cc _ e,dK _ rfl,cF.push _,du cF.lt,a9,by rw[cS];omega,aV,aZ.lN (ZB _) (aZ.bt.fresh (ZB _)),q⟩
theorem IW{pins:List (Addr×Obj)}{s:ay}{σ:St}{H:au}{R:Addr->List V->au->Prop}(a3:c8 X "reversed")(hm:X.mg "reversed"=none)(he:bO X e aU)(av:dz e=true)(I:Inv X pins σ H s)
 (h:aU σ H λ x H1=>∃ a xs,x=.ref a/\eh X.K H1 a xs/\R a xs H1):aD (aK X.prog X.w) X.A (eval (.Call (.Name "reversed" c_) [e] [] dL) X.env) (Tu X pins σ R) X.xe s:=by
 refine je (jp I a3 hm PyProof.Rows.boot_reversed ?_);refine lI ?_ (eT av) rfl;rw[eT av];show aD _ _ (lC ((false,eval e X.env)::fS dL (di [] X.env))) _ _ s;refine Calls.spliced_cons (bU (he pins s σ H _ I h) λ u s1 xz=>?_);obtain⟨x,H1,aZ,bf,a,xs,ex,aV,q⟩:=xz;refine Calls.spliced_nil ?_;subst ex;cases bf;obtain⟨aP,a9,cF,hz⟩:=aZ.list aV;have aH:=a9.length
 have eO:a<s1.heap.objs.size:=by obtain⟨o,aO,_⟩:=cF.isList;exact cm aO
 refine call_reversed_list cF.isList ?_;exact⟨a,s1.heap.objs.size,xs,aP,H1,rfl,aZ.kept (t':=s1.toks) λ b o e=>cc _ e,⟨_,dK _ rfl,rfl,rfl⟩,let ⟨o,aO,r⟩:=cF.isList;⟨o,cc _ aO,r⟩,du eO,a9,by rw[cS];omega,aV,aZ.lN (ZB _) (aZ.bt.fresh (ZB _)),q⟩
theorem Tw{pins:List (Addr×Obj)}{σ:St}{H:au}{s s':ay}{it:Addr}{acc:Array Value}{c:Nat}{ys:List V}{Q:cC}(I:Inv X pins σ H s)(fp:hq X pins H it)(hit:it<s.heap.objs.size)
 (hm:oX (s.heap.objs.size::[it]) (λ a b=>b=a) {s with heap:=s.heap.push (fZ.listAt #[] 0)} s') (c3:s'.heap.get? s.heap.objs.size=some (fZ.listAt acc c))
 (a9:Vals ys acc.toList) (hz:ys.length<=sizeLine) (q:∀ l,H l=none->Q (.ref l) (upd H l (.lst ys))):gy X pins σ Q (.ref s.heap.objs.size) s':=by
 have bY:Inv X pins σ (upd H s.heap.objs.size (.lst ys)) {s with heap:=s.heap.push {cls:=.type "list",dict:=none,data:=.seq acc c,slots:=#[]}}:=
  I.laid (t':=s.toks) (λ b o e=>cc _ e) (ZB _) (show ez X.prog X.w _ _ _ (.lst ys) from⟨hz,acc.toList,c,a9,by simpa using dK s.heap (o:={cls:=.type "list",dict:=none,data:=.seq acc c,slots:=#[]}) rfl⟩)
 obtain⟨f0,f1,f2,dD,f4,eD⟩:=fp;have dU:=bY.turned (h':=s'.heap) (t':=s'.toks) (it:=it) (λ b o af e=>?_) (by rw[bS (du hit)];exact f0) f1 dD f4 eD
 ·rw[fZ.BH hm];exact⟨.ref s.heap.objs.size,_,dU,rfl,q _ (I.bt.fresh (ZB _))⟩
 ·rcases Heap.get?_push_cases e with⟨cW,c7⟩|e
  ·rw[cW,c7];exact c3
  ·refine hm.heap b o (λ z=>?_) (cc _ e);simp only[dw,jI,or_false]at z;rcases z with z|z
   ·rw[z]at e;exact absurd (cm e) (lF _)
   ·exact af z
noncomputable def IX(K:a8)(aU:TE):TE:=λ σ H Q=>aU σ H λ x H1=>∃ a xs,x=.ref a/\dk K H1 a xs/\∀ l,H1 l=none->Q (.ref l) (upd H1 l (.lst xs.reverse))
noncomputable def IY(K:a8)(aU:TE):TE:=λ σ H Q=>aU σ H λ x H1=>∃ a xs,x=.ref a/\eh K H1 a xs/\∀ l,H1 l=none->Q (.ref l) (upd H1 l (.tup xs.reverse))
theorem Tx(aE:X.calm=true)(lY:c8 X "list")(lZ:X.mg "list"=none)(a3:c8 X "reversed")(hm:X.mg "reversed"=none)(he:bO X e aU)(av:dz e=true) :
 bO X (.Call (.Name "list" p) [.Call (.Name "reversed" c_) [e] [] dL] [] pos) (IX X.K aU):=by
 intro pins s σ H Q I h;refine je (jp I lY lZ PyProof.Rows.boot_list ?_);refine lI ?_ (eT rfl) rfl;rw[eT rfl];show aD _ _ (lC ((false,eval (.Call (.Name "reversed" c_) [e] [] dL) X.env)::fS pos (di [] X.env))) _ _ s;refine Calls.spliced_cons (bU (Tv (R:=λ _ xs H1=>∀ l,H1 l=none->Q (.ref l) (upd H1 l (.lst xs.reverse))) a3 hm he av I h) λ v s1 ag=>Calls.spliced_nil ?_);obtain⟨a,it,xs,aP,H1,rfl,aZ,hit,bN,cE,a9,hz,_,fp,q⟩:=ag;have ar:=cm hit;have aH:=a9.length;refine fZ.listOf (fZ.Tn (prog:=X.prog) (w:=X.w) (A:=X.A.in1.in1) (I:=it) (t:=a) (items:=aP.toArray) (I.ok.hd aE) cE hz) ⟨by simpa using hit,bN⟩ (λ b af=>?_) (λ s' acc cu pB c3 eK=>?_)
 ·simp only[dw,jI,or_false]at af;rcases af with rfl|rfl
  ·exact ar
  ·exact bN.lt
 ·exact Tw aZ fp ar pB c3 (by rw[fZ.back eK];exact a9.reverse) (by rw[hG];rw[cS]at hz;omega) q
theorem Tz(aE:X.calm=true)(lY:c8 X "tuple")(lZ:X.mg "tuple"=none)(a3:c8 X "reversed")(hm:X.mg "reversed"=none)(he:bO X e aU)(av:dz e=true) :
 bO X (.Call (.Name "tuple" p) [.Call (.Name "reversed" c_) [e] [] dL] [] pos) (IY X.K aU):=by
 intro pins s σ H Q I h;refine je (jp I lY lZ pe ?_);refine lI ?_ (eT rfl) rfl;rw[eT rfl];show aD _ _ (lC ((false,eval (.Call (.Name "reversed" c_) [e] [] dL) X.env)::fS pos (di [] X.env))) _ _ s;refine Calls.spliced_cons (bU (IW (R:=λ _ xs H1=>∀ l,H1 l=none->Q (.ref l) (upd H1 l (.tup xs.reverse))) a3 hm he av I h) λ v s1 ag=>Calls.spliced_nil ?_);obtain⟨a,it,xs,aP,H1,rfl,aZ,hit,bN,cE,a9,hz,_,fp,q⟩:=ag;have aH:=a9.length;refine callType_newIn F.called_tuple (by decide) (F.typeCall_tuple_1 _) (F.newCall_tuple_1 _) (λ obj=>F.args_object_init_2 obj _) F.entry_tuple_new (fZ.Tp it a aP hz) ⟨I.ok.hd aE,cE,hit,bN,λ h' tk c0=>⟨⟨_,dK _ rfl,rfl⟩,?_⟩⟩;obtain⟨f0,f1,f2,dD,f4,eD⟩:=fp;have bY:=aZ.turned (h':=h') (t':=tk) (it:=it) c0 f0 f1 dD f4 eD
 have dU:Inv X pins σ (upd H1 h'.objs.size (.tup xs.reverse)) {s1 with heap:=h'.push {cls:=.type "tuple",data:=.seq aP.reverse.toArray},toks:=tk}:=
  bY.laid (t':=tk) (λ b o e=>cc _ e) (ZB _) (show ez X.prog X.w _ _ _ (.tup xs.reverse) from⟨by rw[hG];rw[cS]at hz;omega,aP.reverse,a9.reverse,IsTup.new _ _⟩)
 exact⟨.ref h'.objs.size,_,dU,rfl,q _ (bY.bt.fresh (ZB _))⟩
theorem TA:∀(bs:List Bool),(fg bs.length).all (λ i=>bs.getD i true)=bs.all id:=by
 intro bs;rw[sv,sk,sk];constructor
 ·intro h x aA;obtain⟨i,ar,e⟩:=lE aA;have:=h i (o3.mpr ar);rw[uw,f6 ar,Option.getD_some,e]at this;exact this
 ·intro h i ar;have kD:=o3.mp ar;rw[uw,f6 kD,Option.getD_some];exact h _ (sl kD)
noncomputable def TB(K:a8):List V->au->cC->Prop:=λ xs H Q=>∃(p:Addr)(bs:List Bool),xs=[.ref p]/\eh K H p (bs.map V.aW)/\Q (.aW (bs.all id)) H
theorem TC(aE:X.calm=true):kq X (.builtin "all") (TB X.K):=by
 intro pins s σ H xs us Q I r h;obtain⟨p,bs,rfl,ax,db⟩:=h;obtain⟨u,rfl,d0⟩:=r.one;cases d0;obtain⟨aP,a9,cF,hz⟩:=I.list ax;have hlen:=a9.length;rw[bL]at hlen
 have eO:p<s.heap.objs.size:=by obtain⟨o,aO,_⟩:=cF.isList;exact cm aO
 refine call_all_walk (AI cF.isList ?_);refine⟨s.heap.objs.size,[s.heap.objs.size,p],[s.heap.objs.size],aP.toArray.size,_,_,λ i=>bs.getD i true,rfl,Walks.list (A:=X.A.in1) (I.ok.hd aE) _ p (du eO) aP.toArray,⟨⟨_,dK _ rfl,rfl,rfl⟩,let ⟨o,aO,r⟩:=cF.isList;⟨o,cc _ aO,r⟩⟩,?_,λ h' tk c0=>?_⟩
 ·intro i v s' gA IZ bu aV
  have ar:i<aP.length:=by
   have:=(nW.mp bu).1;simpa using this
  obtain⟨v1,aC,aF⟩:=a9.get (i:=i) (x:=V.aW bs[i]) (by rw[dF,f6 (by omega)];rfl)
  have c6:aP[i]?=some v:=by simpa using bu
  rw[aC]at c6;cases c6;have g_:v=Value.bool bs[i]:=aF;subst g_;refine WP ?_
  have l0:bs.getD i true=bs[i]:=by rw[uw,f6 (by omega)];rfl
  rw[<- l0];exact aV
 ·refine⟨.aW (bs.all id),H,I.kept λ b o e=>c0 b o ?_ (cc _ e),?_,db⟩
  ·simp only[dw,jI,or_false];exact du (cm e)
  ·show Value.bool _=Value.bool _;rw[cS,<- hlen,TA]
end
section
variable{X:a0}{e:a5}{aU:TE}{p c_ pos dL:Pos}
theorem TD(lY:c8 X "list")(lZ:X.mg "list"=none)(a3:c8 X "reversed")(hm:X.mg "reversed"=none)(he:cL X e aU)(aE:X.calm=true:=by rfl)(av:dz e=true:=by rfl) :
 cL X (.Call (.Name "list" p) [.Call (.Name "reversed" c_) [e] [] dL] [] pos) (IX X.K aU):=⟨Tx aE lY lZ a3 hm he.run av⟩
theorem TF(lY:c8 X "tuple")(lZ:X.mg "tuple"=none)(a3:c8 X "reversed")(hm:X.mg "reversed"=none)(he:cL X e aU)(aE:X.calm=true:=by rfl)(av:dz e=true:=by rfl) :
 cL X (.Call (.Name "tuple" p) [.Call (.Name "reversed" c_) [e] [] dL] [] pos) (IY X.K aU):=⟨Tz aE lY lZ a3 hm he.run av⟩
end
end L2
namespace vw
open PySem PyProof.Rows
section
variable{prog:bZ}{w:bM}{A:cK}{E:Value->ay->Prop}{s:ay}
theorem I0{it t:Addr}{i:Nat}{items:Array Value}{x:Value}{Q:Value->ay->Prop}(hit:s.heap.IsTupleIter it t i)(bN:s.heap.IsTuple t items)(aA:items[i]?=some x)
 (db:∀ h',h'.IsTupleIter it t (i+1)->Heap.SameBut it s.heap h'->Q x {s with heap:=h'}):aD (aK prog w) A (Builtin.SmallTypes.nextOf (.ref it)) Q E s:=by
 obtain⟨o,aO,aE,hd⟩:=id hit;obtain⟨ol,s0,_,nl,oe⟩:=bN;unfold Builtin.SmallTypes.nextOf;refine ah (wpAny_callSpecial?_slot hit.typeIs F.slot_tuple_iterator_next (f3 F.slot_tuple_iterator_next hit.typeIs F.entry_tuple_iterator_next ?_ (F.args_tuple_iterator_next_1 _)));refine(show aD (aK prog w) A.in1 (jh (.ref it) 0 >>= _) _ _ s from ah (fM aO hd (x:=.ref t) rfl ?_));refine(show aD (aK prog w) A.in1 (if (Value.ref t==Value.none)=true then _ else _) _ _ s from ?_);rw[if_neg (show ¬ ((Value.ref t==Value.none)=true) from f7)];refine(show aD (aK prog w) A.in1 (jh (.ref it) 1 >>= _) _ _ s from ah (fM aO hd (x:=.int i 0) rfl ?_));refine(show aD (aK prog w) A.in1 (seqItems? (.ref t) >>= _) _ _ s from ah (nL s0 oe ?_));simp only[gx,aA];refine ah (jf aO hd (by simp) (aM ⟨x,rfl,aM (db _ ⟨_,hl _ aO (Obj.isFreed_of_fields (Obj.data_mapFields hd _)),(Obj.cls_mapFields ..).trans aE,?_⟩ (Heap.SameBut.update ..))⟩));rw[Obj.data_mapFields hd];simp[dB]
theorem TG{it t:Addr}{i:Nat}{items:Array Value}{Q:Value->ay->Prop}(cY:A.handled=none)(hit:s.heap.IsTupleIter it t i)(bN:s.heap.IsTuple t items)(aA:items[i]?=none)
 (vx:∀ h' e,Heap.ExtBut it s.heap h'->Shared.TypeIs {s with heap:=h'} (.ref e) "StopIteration"->E (.ref e) {s with heap:=h'}):aD (aK prog w) A (Builtin.SmallTypes.nextOf (.ref it)) Q E s:=by
 obtain⟨o,aO,aE,hd⟩:=id hit;obtain⟨ol,s0,_,nl,oe⟩:=bN;unfold Builtin.SmallTypes.nextOf;refine ah (wpAny_callSpecial?_slot hit.typeIs F.slot_tuple_iterator_next (f3 F.slot_tuple_iterator_next hit.typeIs F.entry_tuple_iterator_next ?_ (F.args_tuple_iterator_next_1 _)));refine(show aD (aK prog w) A.in1 (jh (.ref it) 0 >>= _) _ _ s from ah (fM aO hd (x:=.ref t) rfl ?_));refine(show aD (aK prog w) A.in1 (if (Value.ref t==Value.none)=true then _ else _) _ _ s from ?_);rw[if_neg (show ¬ ((Value.ref t==Value.none)=true) from f7)];refine(show aD (aK prog w) A.in1 (jh (.ref it) 1 >>= _) _ _ s from ah (fM aO hd (x:=.int i 0) rfl ?_));refine(show aD (aK prog w) A.in1 (seqItems? (.ref t) >>= _) _ _ s from ah (nL s0 oe ?_));simp only[gx,aA];refine ah (h5 (ah (jf aO hd (by simp) ?_)));exact fZ.yO (A:=A.in1) cY λ h' e c0 av=>vx _ e (λ b cy af b0=>c0 b cy ((Heap.SameBut.update ..).extBut b cy af b0)) av
structure St(z TI eb dM dV b_ bI:Addr)(f0:Value)(i:Nat)(h:bx):Prop where
 zip:oY h z TI eb f0
 d3:oT h TI (.ref dM) (.ref dV)
 to:∃ a b,oT h eb a b
 agu:h.IsTupleIter dM b_ i
 agv:h.IsTupleIter dV bI i
variable{z TI eb dM dV b_ bI:Addr}{i:Nat}{xs ys:Array Value}
theorem TH{x y:Value}{Q:Option Value->ay->Prop}(D:uo z TI eb dM dV b_ bI)(st:St z TI eb dM dV b_ bI .none i s.heap)(og:s.heap.IsTuple b_ xs)(fz:s.heap.IsTuple bI ys)(aA:xs[i]?=some x)(bj:ys[i]?=some y)
 (db:∀ h',St z TI eb dM dV b_ bI (dB s.heap.objs.size) (i+1) h'->oT h' s.heap.objs.size x y->(∀ c o,c≠z->c≠eb->c≠dM->c≠dV->s.heap.get? c=some o->h'.get? c=some o)->Q (some (.ref s.heap.objs.size)) {s with heap:=h'}) :
 aD (aK prog w) A (ef (.ref z)) Q E s:=by
 obtain⟨hz,yP,⟨a,b,I1⟩,ag,ai⟩:=st
 have bp:s.TypeIs (.ref z) "zip":=⟨_,hz,rfl⟩
 unfold ef;refine ah (iT (wpAny_callSpecial?_slot bp F.slot_zip_next (f3 F.slot_zip_next bp F.entry_zip_next ?_ (F.args_zip_next_1 _))));refine(show aD (aK prog w) A.in1 (jh (.ref z) 2 >>= _) _ _ _ from ah (fM hz rfl (x:=.bool false) rfl ?_));refine(show aD (aK prog w) A.in1 (jh (.ref z) 3 >>= _) _ _ _ from ah (fM hz rfl (x:=.ref TI) rfl (ah (nL yP rfl ?_))));refine(show aD (aK prog w) A.in1 (Builtin.SmallTypes.ownedTupleIsFree (.ref z) >>= _) _ _ _ from ah ?_);unfold Builtin.SmallTypes.ownedTupleIsFree;refine ah (fM hz rfl (x:=.none) rfl (aM ?_));simp only[if_true];refine ah (h5 (ah (fM hz rfl (x:=.ref eb) rfl (ah (kX hz (by simp) λ g1 pI ej=>ah ?_)))))
 replace pI:oY g1 z TI eb .ellipsis:=pI
 simp only[List.zipIdx_cons,List.zipIdx_nil,uu,xR];refine ah (ah (AQ ?_));refine(show aD (aK prog w) A.in1 (Builtin.SmallTypes.nextOf (.ref dM) >>= _) _ _ _ from ah (I0 (ag.extBut ej.extBut D.i1z) (og.extBut ej.extBut D.l1z) aA λ g2 ht dA=>aM ?_));have I2:oT g2 eb a b:=dA.extBut _ _ D.TOi1 (ej.extBut _ _ D.TOz I1);refine ah (nL I2 rfl (ah (wpAny_updateSeq_pair I2 λ g3 BI ha=>ah (r_ (aM ?_)))))
 replace BI:oT g3 eb x b:=BI
 refine ah (ah (AQ ?_));refine(show aD (aK prog w) A.in1 (Builtin.SmallTypes.nextOf (.ref dV) >>= _) _ _ _ from ah (I0 (((ai.extBut ej.extBut D.i2z).extBut dA.extBut D.i12.symm).extBut ha.extBut D.TOi2.symm) (((fz.extBut ej.extBut D.l2z).extBut dA.extBut D.l2i1).extBut ha.extBut D.l2TO) bj λ hu q_ m9=>aM ?_));have I3:oT hu eb x b:=m9.extBut _ _ D.TOi2 BI;refine ah (nL I3 rfl (ah (wpAny_updateSeq_pair I3 λ ga yQ ra=>ah (r_ (aM (aM ?_))))))
 replace yQ:oT ga eb x y:=yQ
 refine ah (nL yQ rfl (ah (xx ?_)))
 have hsz:ga.objs.size=s.heap.objs.size:=by rw[ra.1,m9.1,ha.1,dA.1,ej.1]
 have I4:oY ga z TI eb .ellipsis:=ra.extBut _ _ D.TOz.symm (m9.extBut _ _ D.i2z.symm (ha.extBut _ _ D.TOz.symm (dA.extBut _ _ D.i1z.symm pI)));have keep:∀ c o,c≠z->c≠eb->c≠dM->c≠dV->s.heap.get? c=some o->ga.get? c=some o:=λ c o ew dS s6 BJ e=>ra.extBut _ _ dS (m9.extBut _ _ BJ (ha.extBut _ _ dS (dA.extBut _ _ s6 (ej.extBut _ _ ew e))));have TJ:ga.IsTupleIter dM b_ (i+1):=((ht.extBut ha.extBut D.TOi1.symm).extBut m9.extBut D.i12).extBut ra.extBut D.TOi1.symm;have TK:ga.IsTupleIter dV bI (i+1):=q_.extBut ra.extBut D.TOi2.symm;refine(show aD (aK prog w) A.in1 (Builtin.SmallTypes.ownedTupleHandOut (.ref z) (.ref ga.objs.size) >>= _) _ _ _ from ah ?_);unfold Builtin.SmallTypes.ownedTupleHandOut;have TL:oY (ga.push {cls:=.type "tuple",data:=.seq #[x,y]}) z TI eb .ellipsis:=cc _ I4;refine ah (kX TL (by simp) λ rb BK rd=>?_)
 replace BK:oY rb z TI eb (dB ga.objs.size):=BK
 refine kX BK (by simp) λ yR yS I5=>?_
 replace yS:oY yR z TI eb (dB ga.objs.size):=yS
 have up:∀ c o,c≠z->ga.get? c=some o->yR.get? c=some o:=λ c o ew e=>I5.extBut _ _ ew (rd.extBut _ _ ew (cc _ e));have I6:ga.objs.size≠z:=fU (cm I4);have I7:oT yR ga.objs.size x y:=I5.extBut _ _ I6 (rd.extBut _ _ I6 (dK _ rfl));rw[hsz]at yS I7;refine aM ⟨_,rfl,aM ?_⟩;rw[hsz];exact db yR ⟨yS,up _ _ D.TIz (keep _ _ D.TIz D.TITO D.TIi1 D.TIi2 yP),⟨x,y,up _ _ D.TOz yQ⟩,let ⟨o,aO,r⟩:=TJ;⟨o,up _ _ D.i1z aO,r⟩,let ⟨o,aO,r⟩:=TK;⟨o,up _ _ D.i2z aO,r⟩⟩ I7 λ c o ew dS s6 BJ e=>up c o ew (keep c o ew dS s6 BJ e)
theorem TM{Q:Option Value->ay->Prop}(cY:A.handled=none)(D:uo z TI eb dM dV b_ bI)(st:St z TI eb dM dV b_ bI .none i s.heap)(og:s.heap.IsTuple b_ xs)(aA:xs[i]?=none)
 (db:∀ h',(∀ c o,c≠z->c≠eb->c≠dM->c≠dV->s.heap.get? c=some o->h'.get? c=some o)->Q none {s with heap:=h'}):aD (aK prog w) A (ef (.ref z)) Q E s:=by
 obtain⟨hz,yP,⟨a,b,I1⟩,ag,ai⟩:=st
 have bp:s.TypeIs (.ref z) "zip":=⟨_,hz,rfl⟩
 unfold ef;refine ah (iT (wpAny_callSpecial?_slot bp F.slot_zip_next (f3 F.slot_zip_next bp F.entry_zip_next ?_ (F.args_zip_next_1 _))));refine(show aD (aK prog w) A.in1 (jh (.ref z) 2 >>= _) _ _ _ from ah (fM hz rfl (x:=.bool false) rfl ?_));refine(show aD (aK prog w) A.in1 (jh (.ref z) 3 >>= _) _ _ _ from ah (fM hz rfl (x:=.ref TI) rfl (ah (nL yP rfl ?_))));refine(show aD (aK prog w) A.in1 (Builtin.SmallTypes.ownedTupleIsFree (.ref z) >>= _) _ _ _ from ah ?_);unfold Builtin.SmallTypes.ownedTupleIsFree;refine ah (fM hz rfl (x:=.none) rfl (aM ?_));simp only[if_true];refine ah (h5 (ah (fM hz rfl (x:=.ref eb) rfl (ah (kX hz (by simp) λ g1 pI ej=>ah ?_)))))
 replace pI:oY g1 z TI eb .ellipsis:=pI
 simp only[List.zipIdx_cons,List.zipIdx_nil,uu,xR];refine ah (ah (AQ ?_));refine(show aD (aK prog w) A.in1 (Builtin.SmallTypes.nextOf (.ref dM) >>= _) _ _ _ from ah (TG (A:=A.in1) cY (ag.extBut ej.extBut D.i1z) (og.extBut ej.extBut D.l1z) aA λ g2 e dA he=>?_));obtain⟨I8,I9,I_⟩:=he;have m3:oY g2 z TI eb .ellipsis:=dA _ _ D.i1z.symm pI
 have TN:e≠z:=λ q=>by
  subst q;have bv:some _=some I8:=Eq.trans (Eq.symm m3) I9;cases bv;simp at I_
 refine kX m3 (by simp) λ g3 _ ha=>?_;refine ah (kf (T:="StopIteration") (b:=true) ⟨I8,ha.extBut _ _ TN I9,I_⟩ qC (aM (db _ λ c o ew _ s6 _ q=>?_)));exact ha.extBut _ _ ew (dA _ _ s6 (ej.extBut _ _ ew q))
end
noncomputable abbrev g1(h:bx)(b_:Addr):bx:=h.push {cls:=.type "tuple_iterator",data:=.fields #[.ref b_,.int 0 0]}
noncomputable abbrev g2(h:bx)(b_ bI:Addr):bx:=(g1 h b_).push {cls:=.type "tuple_iterator",data:=.fields #[.ref bI,.int 0 0]}
noncomputable abbrev g3(h:bx)(b_ bI:Addr):bx:=(g2 h b_ bI).push {cls:=.type "tuple",data:=.seq #[.ref h.objs.size,.ref (g1 h b_).objs.size]}
noncomputable abbrev hu(h:bx)(b_ bI:Addr):bx:=(g3 h b_ bI).push {cls:=.type "tuple",data:=.seq #[.none,.none]}
noncomputable abbrev ga(h:bx)(b_ bI:Addr):bx:=(hu h b_ bI).push {cls:=.type "zip",data:=.fields #[.none,.bool false,.bool false,.ref (g2 h b_ bI).objs.size,.ref (g3 h b_ bI).objs.size]}
theorem TO(b_ bI:Addr)(xs ys:Array Value) :
 Meets (Builtin.«zip.__new__» ⟨[.type "zip",.ref b_,.ref bI],[]⟩) (λ _ R s=>s.heap.IsTuple b_ xs/\s.heap.IsTuple bI ys/\R (.ok (.ret (.ref (hu s.heap b_ bI).objs.size))) {s with heap:=ga s.heap b_ bI}):=
 .of_wp λ prog w A R s h=>by
  obtain⟨ax,g,d,tk,os⟩:=s;obtain⟨og,fz,h⟩:=h;have Tq:=sub_zip;have BL:Heap.IsTuple (Shared.heap ⟨ax,g,d,tk,os⟩) b_ xs:=og;have TP:Heap.IsTuple (Shared.heap ⟨g1 ax b_,g,d,tk,os⟩) bI ys:=Heap.IsTuple.push fz _
  wp_walk using Vs BL,Vs TP
  exact⟨_,rfl,h⟩
theorem TQ{prog:bZ}{w:bM}{A:cK}{E:Value->ay->Prop}{s:ay}{b_ bI:Addr}{xs ys:Array Value}{Q:Value->ay->Prop}(og:s.heap.IsTuple b_ xs)(fz:s.heap.IsTuple bI ys)
 (h:∀ h',St (s.heap.objs.size+4) (s.heap.objs.size+2) (s.heap.objs.size+3) s.heap.objs.size (s.heap.objs.size+1) b_ bI .none 0 h'->(∀ c o,s.heap.get? c=some o->h'.get? c=some o)->Q (.ref (s.heap.objs.size+4)) {s with heap:=h'}) :
 aD (aK prog w) A (call (.type "zip") [.ref b_,.ref bI]) Q E s:=by
 refine callType_new F.called_zip (by decide) (F.typeCall_zip_2 _ _) (F.newCall_zip_2 _ _) (λ obj=>F.args_object_init_3 obj _ _) F.entry_zip_new (TO b_ bI xs ys) ⟨og,fz,?_⟩;have cW:(g1 s.heap b_).objs.size=s.heap.objs.size+1:=pf ..
 have c7:(g2 s.heap b_ bI).objs.size=s.heap.objs.size+2:=by rw[pf,cW]
 have eZ:(g3 s.heap b_ bI).objs.size=s.heap.objs.size+3:=by rw[pf,c7]
 have gD:(hu s.heap b_ bI).objs.size=s.heap.objs.size+4:=by rw[pf,eZ]
 have l0:(ga s.heap b_ bI).get? (hu s.heap b_ bI).objs.size=some _:=dK _ rfl;have g_:(ga s.heap b_ bI).get? (g3 s.heap b_ bI).objs.size=some _:=cc _ (dK _ rfl);have c6:(ga s.heap b_ bI).get? (g2 s.heap b_ bI).objs.size=some _:=cc _ (cc _ (dK _ rfl));have aF:(ga s.heap b_ bI).get? (g1 s.heap b_).objs.size=some _:=cc _ (cc _ (cc _ (dK _ rfl)));have aC:(ga s.heap b_ bI).get? s.heap.objs.size=some _:=cc _ (cc _ (cc _ (cc _ (dK _ rfl))));rw[c7,eZ,gD]at l0;rw[cW,c7]at c6;rw[eZ]at g_;rw[cW]at aF;show _/\_;rw[gD];exact⟨⟨_,l0,rfl⟩,h _ ⟨l0,c6,⟨_,_,g_⟩,⟨_,aC,rfl,rfl⟩,⟨_,aF,rfl,rfl⟩⟩ λ c o x=>cc _ (cc _ (cc _ (cc _ (cc _ x))))⟩
end vw
namespace L2
open PySem PySem.Spec PyProof.Rows
theorem Inv.Ja{X:a0}{pins:List (Addr×Obj)}{σ:St}{H:au}{s:ay}{h':bx}{t':Nat}{fp:List Addr}(I:Inv X pins σ H s)(hf:∀ b∈fp,hq X pins H b)(k:∀ b o,b ∉ fp->s.heap.get? b=some o->h'.get? b=some o):Inv X pins σ H {s with heap:=h',toks:=t'}:=by
 have uO:∀ b u,H b=some u->b ∉ fp:=λ b u e z=>by rw[(hf b z).1]at e;cases e
 refine I.step (g':=s.gens) (d':=s.drawn) (ch:=fp) (λ b af=>?_) (λ b o _ _ aE e _=>k b o aE e) (λ b o _ _ aE e _=>⟨o.slots,k b o aE e⟩) (λ _ _ _ _ n=>n)
  (λ b o aE e=>⟨o,k b o aE e⟩) (λ _ _ e=>e) (λ _ _ _ e=>e) (λ b ps e=>⟨#[],by rw[e];simp⟩) (λ m hm=>?_) (λ b u e=>?_) I.bare
 ·obtain⟨f0,f1,f2,dD,f4,eD⟩:=hf b af;exact⟨dD,f1,f4,eD⟩
 ·obtain⟨o,es,ep,aO,r⟩:=hm;exact⟨o,es,ep,k _ o (λ z=>(hf _ z).2.1 rfl) aO,r⟩
 ·refine(I.bt b u e).jK (λ c v aE q=>k c v ?_ q) (λ _ q=>q) λ _ _ q=>q;rcases aE with z|z
  ·rw[z];exact uO b u e
  ·exact uO c _ z
theorem apart(n a b:Nat)(ag:a<n)(ai:b<n):uo (n+4) (n+2) (n+3) n (n+1) a b:=by
 constructor<;>(intro e;have b0:(@Eq Nat _ _):=e;omega)
noncomputable def Jb(K:a8)(a b:Addr):hp:=
 ⟨λ i H=>∃ xs ys x y,dk K H a xs/\dk K H b ys/\xs[i]?=some x/\ys[i]?=some y,λ i H v ak=>∃ T x y,v=.ref T/\H T=none/\ak=upd H T (.tup [x,y])/\(∀ xs,dk K H a xs->xs[i]?=some x)/\∀ ys,dk K H b ys->ys[i]?=some y,λ i H=>∃ xs,dk K H a xs/\xs.length<=i⟩
theorem TR{P:bZ}{w:bM}{K:a8}{es:List a5}{k:Nat}{pos:Pos}{z TI eb dM dV b_ bI:Addr}(D:uo z TI eb dM dV b_ bI) :
 Turn P w K (.Tuple es k pos) (Jb K b_ bI) [z,TI,eb,dM,dV] z (λ i h=>vw.St z TI eb dM dV b_ bI .none i h) where
 mem:=by simp
 obj:=λ i h st b af=>by
  simp only[dw,jI,or_false]at af;obtain⟨a1,a2,⟨p,q,i1⟩,⟨fC,rf,_,BM⟩,⟨ek,kE,_,BN⟩⟩:=st;rcases af with rfl|rfl|rfl|rfl|rfl
  ·exact⟨_,a1,λ v e=>by cases (show Data.fields _=Data.cell v from e)⟩
  ·exact⟨_,a2,λ v e=>by cases (show Data.seq _ _=Data.cell v from e)⟩
  ·exact⟨_,i1,λ v e=>by cases (show Data.seq _ _=Data.cell v from e)⟩
  ·exact⟨_,rf,λ v e=>by rw[BM]at e;cases e⟩
  ·exact⟨_,kE,λ v e=>by rw[BN]at e;cases e⟩
 keep:=λ i h h' st c0=>by
  obtain⟨a1,a2,⟨p,q,i1⟩,⟨fC,rf,BO⟩,⟨ek,kE,uY⟩⟩:=st;exact⟨c0 _ (by simp) _ a1,c0 _ (by simp) _ a2,⟨p,q,c0 _ (by simp) _ i1⟩,⟨fC,c0 _ (by simp) _ rf,BO⟩,⟨ek,c0 _ (by simp) _ kE,uY⟩⟩
 item:=by
  intro X fx hw eu aE i pins s σ H E I hf st a3;subst fx hw eu;obtain⟨xs,ys,x,y,rg,Jc,aA,bj⟩:=a3;obtain⟨vy,yT,gU,_⟩:=I.tuple rg;obtain⟨dn,Jd,c_,_⟩:=I.tuple Jc;obtain⟨d5,TS,TU⟩:=yT.get aA;obtain⟨eA,TV,TW⟩:=Jd.get bj;refine vw.TH D st (show s.heap.IsTuple b_ vy.toArray from gU) (show s.heap.IsTuple bI dn.toArray from c_) (x:=d5) (y:=eA) (by simpa using TS) (by simpa using TV) λ h' hr bp c0=>?_;refine⟨_,rfl,wpAny_letOwnedTupleGo_zip hr.zip λ ai m3 dA=>?_⟩
  have TX:∀ b o,b ∉ [z,TI,eb,dM,dV]->s.heap.get? b=some o->ai.get? b=some o:=λ b o af e=>by
   simp only[dw,jI,or_false,not_or]at af;exact dA.extBut _ _ af.1 (c0 b o af.1 af.2.2.1 af.2.2.2.1 af.2.2.2.2 e)
  have aZ:Inv X pins σ (upd H s.heap.objs.size (.tup [x,y])) {s with heap:=s.heap.push {cls:=.type "tuple",data:=.seq #[d5,eA]}}:=
   I.laid (t':=s.toks) (λ b o e=>cc _ e) (ZB _) (show ez X.prog X.w _ _ _ (.tup [x,y]) from⟨by show 2<=sizeLine;decide,[d5,eA],.cons TU (.cons TW .nil),IsTup.new _ _⟩)
  have TY:s.heap.objs.size≠z:=fU (cm st.zip)
  have Je:∀ b∈[z,TI,eb,dM,dV],b<s.heap.objs.size:=λ b af=>by
   obtain⟨a1,a2,⟨p,q,i1⟩,⟨fC,rf,_⟩,⟨ek,kE,_⟩⟩:=st;simp only[dw,jI,or_false]at af;rcases af with rfl|rfl|rfl|rfl|rfl
   ·exact cm a1
   ·exact cm a2
   ·exact cm i1
   ·exact cm rf
   ·exact cm kE
  have bY:Inv X pins σ (upd H s.heap.objs.size (.tup [x,y])) {s with heap:=ai}:=
   Inv.Ja (s:={s with heap:=s.heap.push {cls:=.type "tuple",data:=.seq #[d5,eA]}}) (h':=ai) (t':=s.toks) (fp:=[z,TI,eb,dM,dV]) aZ (λ b af=>by
    obtain⟨f0,fr⟩:=hf b af
    exact⟨by rw[bS (du (Je b af))];exact f0,fr⟩) (λ b o af e=>by
    rcases Heap.get?_push_cases e with⟨aC,aF⟩|e
    ·rw[aC,aF];exact dA.extBut _ _ TY bp
    ·exact TX b o af e)
  refine⟨.ref s.heap.objs.size,_,bY,rfl,⟨_,x,y,rfl,I.bt.fresh (ZB _),rfl,λ lb h=>by rw[I.uR h rg];exact aA,λ agw h=>by rw[I.uR h Jc];exact bj⟩,?_,λ b af=>by rw[bS (du (Je b af))];exact(hf b af).1⟩;obtain⟨a1,a2,⟨p,q,i1⟩,⟨fC,rf,BO⟩,⟨ek,kE,uY⟩⟩:=hr;exact⟨m3,dA.extBut _ _ D.TIz a2,⟨p,q,dA.extBut _ _ D.TOz i1⟩,⟨fC,dA.extBut _ _ D.i1z rf,BO⟩,⟨ek,dA.extBut _ _ D.i2z kE,uY⟩⟩
 done:=by
  intro X fx hw eu aE i pins s σ H E I hf st a3;subst fx hw eu;obtain⟨xs,rg,aA⟩:=a3;obtain⟨vy,yT,gU,_⟩:=I.tuple rg;have aH:=yT.length
  refine vw.TM (I.ok.hd aE) D st (show s.heap.IsTuple b_ vy.toArray from gU) (by simp;omega) λ h' c0=>⟨rfl,?_⟩
  exact I.Ja (t':=s.toks) (fp:=[z,TI,eb,dM,dV]) hf λ b o af e=>by
   simp only[dw,jI,or_false,not_or]at af;exact c0 b o af.1 af.2.2.1 af.2.2.2.1 af.2.2.2.2 e
 self:=λ _ _ _ _ _ st h=>wpAny_pyIter_zip st.zip h
section
variable{X:a0}
noncomputable def Jf(K:a8)(t:eX):TI:=λ σ H R=>t σ H λ ae H1=>∃ a b,ae=[.ref a,.ref b]/\(∃ xs,dk K H1 a xs)/\(∃ ys,dk K H1 b ys)/\R (Jb K a b) H1
theorem TZ{es:List a5}{k:Nat}{cj:Pos}{a b:a5}{t:eX}{p pos:Pos}(a3:c8 X "zip")(hm:X.mg "zip"=none)(aB:h_ X [a,b] t)(ag:dz a=true)(ai:dz b=true):lO X (.Tuple es k cj) (.Call (.Name "zip" p) [a,b] [] pos) (Jf X.K t):=by
 intro pins s σ H R I h;have av:di [a,b] X.env=(false,eval a X.env)::di [b] X.env:=eT ag
 have ax:(fS pos (di [b] X.env)).any (·.1)=false:=by rw[eT ai];rfl
 refine Call_ (jp I a3 hm PyProof.Rows.boot_zip (lI (bU (aB pos pins s σ H _ I h) λ us s1 xz=>?_) av ax));obtain⟨ae,H1,aZ,bf,b_,bI,ev,⟨xs,aG⟩,⟨ys,bv⟩,q⟩:=xz;subst ev
 cases bf with
 | cons r dX=>
  cases dX with
  | cons de dX=>
   cases dX;cases r;cases de;obtain⟨vy,yT,gU,_⟩:=aZ.tuple aG;obtain⟨dn,Jd,c_,_⟩:=aZ.tuple bv;refine vw.TQ (show s1.heap.IsTuple b_ vy.toArray from gU) (show s1.heap.IsTuple bI dn.toArray from c_) λ h' st c0=>wpAny_pyIter_zip st.zip ?_;have b1:=gU.lt;have b2:=c_.lt;have D:uo (s1.heap.objs.size+4) (s1.heap.objs.size+2) (s1.heap.objs.size+3) s1.heap.objs.size (s1.heap.objs.size+1) b_ bI:=apart _ _ _ b1 b2;refine⟨s1.heap.objs.size+4,_,_,_,H1,rfl,aZ.kept (t':=s1.toks) c0,TR D,st,λ b af=>?_,q⟩
   have q6:s1.heap.objs.size<=b:=by
    simp only[dw,jI,or_false]at af;rcases af with e|e|e|e|e<;>(rw[e];first|exact ZB _|exact Nat.le_add_right _ _)
   exact aZ.lN q6 (aZ.bt.fresh q6)
theorem T0{es:List a5}{k:Nat}{cj:Pos}{a b:a5}{t:eX}{p pos:Pos}(a3:c8 X "zip")(hm:X.mg "zip"=none)(aB:jY X [a,b] t)(ag:dz a=true:=by rfl)(ai:dz b=true:=by rfl):m6 X (.Tuple es k cj) (.Call (.Name "zip" p) [a,b] [] pos) (Jf X.K t):=⟨TZ a3 hm aB.run ag ai⟩
end
noncomputable def fP(o:Obj):fv:=.eH o (.ext λ _=>True)
noncomputable def less(H:au)(as:List Addr):au:=λ b=>if b∈as then none else H b
noncomputable def more(H:au)(as:List Addr)(oh:au):au:=λ b=>if b∈as then oh b else H b
theorem vz{H:au}{as:List Addr}{b:Addr}(h:b∈as):less H as b=none:=by unfold less;rw[if_pos h]
theorem hb{H:au}{as:List Addr}{b:Addr}(h:b ∉ as):less H as b=H b:=by unfold less;rw[if_neg h]
theorem vA{H oh:au}{as:List Addr}{b:Addr}(h:b∈as):more H as oh b=oh b:=by unfold more;rw[if_pos h]
theorem m_{H oh:au}{as:List Addr}{b:Addr}(h:b ∉ as):more H as oh b=H b:=by unfold more;rw[if_neg h]
theorem rh{H:au}{as:List Addr}{b:Addr}(h:H b=none):less H as b=none:=by unfold less;split<;>first|rfl|exact h
section
variable{P:bZ}{w:bM}{H ak:au}{h h':bx}{as:List Addr}
noncomputable def pJ(H:au)(as:List Addr):Prop:=∀ a∈as,∃ o,H a=some (fP o)
theorem pK{a:Addr}{o:Obj}(ok:dW P w H h)(e:H a=some (fP o)):h.get? a=some o:=(ok a _ e).1
theorem vB{a:Addr}{o:Obj}(e:h.get? a=some o):ez P w H h a (fP o):=⟨e,trivial,⟨o,e⟩,λ _ _ _ _=>trivial⟩
theorem dW.less(ok:dW P w H h)(dq:pJ H as):dW P w (less H as) h:=λ b u e=>by
 have af:b ∉ as:=λ z=>by rw[vz z]at e;cases e
 rw[hb af]at e;refine(ok b u e).jK (λ c v _ q=>q) (λ c q=>?_) λ c xs q=>?_
 ·rw[hb λ z=>?_];exact q;obtain⟨o,z⟩:=dq c z;rw[q]at z;cases z
 ·rw[hb λ z=>?_];exact q;obtain⟨o,z⟩:=dq c z;rw[q]at z;cases z
theorem dW.more{oh:au}(ok:dW P w ak h')(no:∀ a∈as,ak a=none)(dq:∀ a∈as,∃ o,oh a=some (fP o)/\h'.get? a=some o):dW P w (more ak as oh) h':=λ b u e=>by
 by_cases af:b∈as
 ·obtain⟨o,aC,aF⟩:=dq b af;rw[vA af,aC]at e;cases e;exact vB aF
 ·rw[m_ af]at e;refine(ok b u e).jK (λ c v _ q=>q) (λ c q=>?_) λ c xs q=>?_
  ·rw[m_ λ z=>?_];exact q;rw[no c z]at q;cases q
  ·rw[m_ λ z=>?_];exact q;rw[no c z]at q;cases q
theorem fi.more{fs:List Addr}(u:fi fs [] (less H as) ak h h')(ok:dW P w H h)(dq:pJ H as)(qV:∀ a∈as,a ∉ fs):fi fs [] H (more ak as H) h h' where
 keep:=λ b o e n af aA=>by
  exact u.keep b o e (rh n) af aA
 slot:=λ b o e n af aA=>u.slot b o e (rh n) af aA
 free:=λ b o e n aA=>by
  have af:b ∉ as:=λ z=>by obtain⟨cy,z⟩:=dq b z;rw[n]at z;cases z
  rw[m_ af];exact u.free b o e (rh n) aA
 there:=λ b o e aA=>u.there b o e aA
 kn:=λ b xs e=>by
  have af:b ∉ as:=λ z=>by obtain⟨cy,z⟩:=dq b z;rw[e]at z;cases z
  rw[m_ af];exact u.kn b xs (by rw[hb af];exact e)
 jn:=λ b o v e=>by
  by_cases af:b∈as
  ·rw[vA af];exact e
  ·rw[m_ af];exact u.jn b o v (by rw[hb af];exact e)
 jM:=λ b ps e=>by
  have af:b ∉ as:=λ z=>by obtain⟨cy,z⟩:=dq b z;rw[e]at z;cases z
  rw[m_ af];exact u.jM b ps (by rw[hb af];exact e)
end
structure vC(N ps fr:List Str)(sc:eV):Prop where
 kind:sc.kind=.function
 co:sc.isCoroutine=false
 gen:sc.isGenerator=false
 aS:N.Nodup
 pre:N.take ps.length=ps
 Jg:N.drop (N.length - fr.length)=fr
 len:ps.length+fr.length<=N.length
 par:∀ x∈ps,sc.names.lookup x=some .local
 u9:∀ y∈sc.names,y.2≠.cell
 free:∀ y∈sc.names,y.2=.free->y.1∈fr
 T1:∀ x∈fr,sc.names.lookup x=some .free
structure kF(H:au)(f:Addr)(name qual:Str)(st:bC)(cl:List (Str×Addr))(cz:List V):Prop where
 fn:∃(dT:Value)(c5:Option Addr)(doc pm bF ct:Value)(ck:Array (Option Value)),H f=some (fP ⟨dT,c5,.func (x8 name qual (kx st) (g9 st) (b9 st) cl .none .none doc pm none bF ct),ck⟩) ∧
  ∃ c o ae t,bF=.ref c/\H c=some (fP o)/\o.data=.fields ae/\ae[1]?=some (.str qual t)
 cells:∀(i:Nat)(x:Str)(c:Addr),cl[i]?=some (x,c)->∃ v u o,cz[i]?=some v/\RelV v u/\H c=some (fP o)/\o.data=.cell (some u)
 len:cl.length=cz.length
 BP:(cl.map (·.2)).Nodup
structure yU(P:bZ)(w:bM)(K:a8)(mg:Str->Option Value)(base:bx)(k:Nat)(name qual:Str)(st:bC)(fr:List Str)(cz:List V)(ps:List Str)(sp:gm):Prop where
 len:∀ ae H Q E,sp ae H Q E->ae.length=ps.length
 run:∀(A:cK)(outer:List Env)(s:ay)(H:au)(f:Addr)(cl:List (Str×Addr))(us:List Value)(ae:List V)(Q:cC)(E:iA),eY k A->q0 P w K mg base A outer s H->kF H f name qual st cl cz->cl.map (·.1)=fr->Vals ae us->sp ae H Q E →
  iV (aK P w) A (.call (.ref f) ⟨us,[]⟩) (Hy cG outer P w H s Q E) s
noncomputable def ri(P:bZ)(w:bM)(K:a8)(mg:Str->Option Value)(base:bx)(N:List Str)(qual:Str)(scope:eV)(f:Addr)(cd:Value)(cl:List (Str×Addr))(A:cK)(outer:List Env)(s:ay)(H:au):a0 where
 prog:=P
 w:=w
 K:=K
 mg:=mg
 base:=base
 A:=A.deeper (uF qual scope s.heap.objs.size f cd cl)
 N:=N
 s₀:=s
 H₀:=H
 env:=uF qual scope s.heap.objs.size f cd cl
 outer:=outer
 stack:=uF qual scope s.heap.objs.size f cd cl::outer
 ex:=[]
 calm:=true
 fn:=λ _=>false
 pn:=[]
 xe:=λ _ _=>False
noncomputable def l1(N:List Str)(ae cz:List V):St:=ae.map some++fT (N.length - ae.length - cz.length) none++cz.map some
theorem T2{l:List (Str×Value)}(aS:(l.map (·.1)).Nodup){x:Str}{u:Value}(h:(x,u)∈l):l.reverse.lookup x=some u:=by
 have yV:(l.reverse.map (·.1)).Nodup:=by rw[iw];exact List.pairwise_reverse.mpr (List.Pairwise.imp (λ h=>Ne.symm h) aS)
 have h':(x,u)∈l.reverse:=ux.mpr h;generalize l.reverse=m at yV h'
 induction m with
 |nil=>cases h'
 | cons y r bG=>
  rw[cV,jj]at yV;rcases dw.mp h' with e|e
  ·subst e;simp
  ·have ne:x≠y.1:=λ z=>yV.1 (by rw[<- z];exact iy e);rw[nT,beq_false_of_ne ne];exact bG yV.2 e
section
variable{P:bZ}{w:bM}{K:a8}{mg:Str->Option Value}{base:bx}{k:Nat}{name qual:Str}{st:bC}{fr:List Str}{cz:List V}{N ps:List Str}{sp:gm}
theorem kF.eH{H:au}{f:Addr}{cl:List (Str×Addr)}(C:kF H f name qual st cl cz):pJ H (cl.map (·.2)):=λ a aB=>by
 obtain⟨⟨x,c⟩,hm,rfl⟩:=eF.mp aB;obtain⟨i,ar,e⟩:=lE hm;obtain⟨_,_,o,_,_,z,_⟩:=C.cells i x c (by rw[f6 ar,e]);exact⟨o,z⟩
theorem Jh:∀{l:List (Str×Addr)}{x y:Str}{c:Addr},(l.map (·.2)).Nodup->(x,c)∈l->(y,c)∈l->x=y
 | q::l,x,y,c,aS,ag,ai=>by
  rw[cV,jj]at aS;rcases dw.mp ag with aC|aC<;>rcases dw.mp ai with aF|aF
  ·rw[<- aC]at aF;cases aF;rfl
  ·exact absurd (iy (f:=(·.2)) aF) (by rw[<- aC]at aS;exact aS.1)
  ·exact absurd (iy (f:=(·.2)) aC) (by rw[<- aF]at aS;exact aS.1)
  ·exact Jh aS.2 aC aF
theorem T3{f:Addr}{cd:Value}{cl:List (Str×Addr)}{A:cK}{outer:List Env}{s:ay}{H:au}{us:List Value}{ae:List V}{h₁:bx}{tk:Nat}(S:vC N ps fr (b9 st))(hd:A.handled=none)(cg:q0 P w K mg base A outer s H)(C:kF H f name qual st cl cz)
 (ic:cl.map (·.1)=fr) (aH:ae.length=ps.length) (r:Vals ae us) (s7:h₁.Ns s.heap.objs.size (λ x=>(ps.zip us).reverse.lookup x)) (aI:∀ b o,s.heap.get? b=some o->h₁.get? b=some o) :
 Inv (ri P w K mg base N qual (b9 st) f cd cl A outer s (less H (cl.map (·.2)))) [] (l1 N ae cz) (less H (cl.map (·.2))) {s with heap:=h₁,toks:=tk}:=by
 have q1:∀ b:Addr,b ∉ ([]:List Addr):=λ b=>by simp
 have d6:fr.length=cz.length:=by rw[<- ic,bL];exact C.len
 have T4:(cl.map (·.1)).Nodup:=by rw[ic,<- S.Jg];exact S.aS.sublist (uy _ _)
 have lk:∀{x:Str}{c:Addr},(x,c)∈cl->cl.lookup x=some c:=λ hm=>lookup_of_mem_nodup T4 hm;have mem:∀{x:Str}{c:Addr},cl.lookup x=some c->(x,c)∈cl:=λ h=>mO h
 have cellAt:∀{x:Str}{c:Addr},(x,c)∈cl->∃ i v u o,cl[i]?=some (x,c)/\cz[i]?=some v/\RelV v u/\H c=some (fP o)/\o.data=.cell (some u):=λ{x c} hm=>by
  obtain⟨i,ar,e⟩:=lE hm
  have b0:cl[i]?=some (x,c):=by rw[f6 ar,e]
  obtain⟨v,u,o,z⟩:=C.cells i x c b0;exact⟨i,v,u,o,b0,z⟩
 have T5:∀{x:Str}{c:Addr},(x,c)∈cl->∃ u,h₁.IsCell c (some u):=λ hm=>by
  obtain⟨i,v,u,o,_,_,_,cW,c7⟩:=cellAt hm;exact⟨u,o,aI _ _ (pK cg.bt cW),c7⟩
 refine⟨⟨cg.mod,S.kind,rfl,rfl,ZB _,λ y z c ag ai=>?_,λ y bj=>?_,λ y c h _=>?_,λ _=>hd,Around.frames_deeper cg.frames,.inr ⟨rfl,rfl⟩,λ b z=>absurd z (q1 b),λ b o e=>⟨(cg.bs b o e).1,rh (cg.bs b o e).2⟩,cg.lK,λ b _ _=>q1 b,λ b z=>absurd z (q1 b),cg.jP,λ b af=>rh (cg.nY b af)⟩,
  rfl,cg.bare,fi.kept aI,⟨_,s7,λ i y v ag ai aT=>?_⟩,λ y c h=>?_,rh (cg.bt.fresh (ZB _)),λ y c h=>vz (iy (mem h)),λ p ax=>absurd (show p∈([]:List (Addr×Obj)) from ax) (by simp),(cg.bt.less C.eH).kept aI,?_⟩
 ·exact Jh C.BP (mem ag) (mem ai)
 ·have bj:(b9 st).names.lookup y=some .cell\/(b9 st).names.lookup y=some .free:=bj;rcases bj with bj|bj
  ·exact absurd rfl (S.u9 _ (mO bj))
  ·have hf:=S.free _ (mO bj) rfl;rw[<- ic]at hf;obtain⟨⟨x,c⟩,hm,e⟩:=eF.mp hf;cases e;exact⟨c,lk hm⟩
 ·exact absurd h (by simp[ri])
 ·have ag:N[i]?=some y:=ag;have ck:=S.len;by_cases ar:i<ae.length
  ·have aB:ae[i]?=some v:=by
    unfold l1 at ai;rw[mK,ki (by simpa using ar),dF]at ai
    cases e:ae[i]? with
    |none=>rw[e]at ai;cases ai
    |some a=>rw[e]at ai;cases ai;rfl
   obtain⟨u,br,a9⟩:=r.get aB
   have ax:ps[i]?=some y:=by rw[<- S.pre,List.getElem?_take_of_lt (by omega)];exact ag
   have yq:ps.Nodup:=by rw[<- S.pre];exact S.aS.sublist (List.take_sublist _ _)
   refine⟨u,a9,.inl ⟨S.par y (gj ax),?_⟩⟩
   have Ji:us.length=ps.length:=by rw[<- r.length];exact aH
   refine T2 (l:=ps.zip us) ?_ ?_
   ·rw[List.map_fst_zip (by omega)];exact yq
   ·refine gj (i:=i) ?_;rw[xS];exact⟨ax,br⟩
  ·have vD:N.length - cz.length<=i:=by
    unfold l1 at ai;rcases qQ i (N.length - cz.length) with z|z
    ·rw[ki (by simp;omega),mI (by simpa using ar),sj]at ai;split at ai<;>cases ai
    ·exact z
   have hf:cz[i - (N.length - cz.length)]?=some v:=by
    unfold l1 at ai;rw[mI (by simp;omega),dF]at ai
    have aC:i - (uz some ae++fT (N.length - ae.length - cz.length) none).length=i - (N.length - cz.length):=by simp;omega
    rw[aC]at ai
    cases e:cz[i - (N.length - cz.length)]? with
    |none=>rw[e]at ai;cases ai
    |some a=>rw[e]at ai;cases ai;rfl
   have bj:fr[i - (N.length - cz.length)]?=some y:=by
    rw[<- S.Jg,List.getElem?_drop,d6,show N.length - cz.length+(i - (N.length - cz.length))=i by omega];exact ag
   rw[<- ic,dF]at bj
   cases e:cl[i - (N.length - cz.length)]? with
   |none=>rw[e]at bj;cases bj
   | some q=>
    obtain⟨x,c⟩:=q;rw[e]at bj;cases bj;obtain⟨iW,u,o,cW,c7,eZ,gD⟩:=C.cells _ _ _ e;rw[hf]at cW;cases cW;have hm:=gj e;refine⟨u,c7,.inr ⟨.inr (S.T1 _ (by rw[<- ic];exact iy hm)),c,lk hm,o,aI _ _ (pK cg.bt eZ),gD⟩⟩
 ·obtain⟨u,z⟩:=T5 (mem h);exact⟨_,z⟩
 ·have:=S.len;show (l1 N ae cz).length=N.length;simp only[l1,dJ,bL,o6];omega
theorem T6(S:vC N ps fr (b9 st))(len:∀ ae H Q E,sp ae H Q E->ae.length=ps.length)
 (vE:∀(cl:List (Str×Addr))(doc pm bF ct:Value)(us:List Value),us.length=ps.length->bindArgs (x8 name qual (kx st) (g9 st) (b9 st) cl .none .none doc pm none bF ct) ⟨us,[]⟩=pure (ps.zip us))
 (kt:∀(f:Addr)(bF:Value)(cl:List (Str×Addr))(A:cK)(outer:List Env)(s:ay)(H:au)(ae:List V)(Q:cC)(E:iA),eY k (A.deeper (uF qual (b9 st) s.heap.objs.size f bF cl))->cl.map (·.1)=fr->pJ H (cl.map (·.2))->sp ae H Q E →
  ∃ t,jo (ri P w K mg base N qual (b9 st) f bF cl A outer s (less H (cl.map (·.2)))) (g9 st) t ∧
   t {nx:=λ _ ak=>(∀ a∈cl.map (·.2),ak a=none)->Q .bE (more ak (cl.map (·.2)) H),rt:=λ v ak=>(∀ a∈cl.map (·.2),ak a=none)->Q v (more ak (cl.map (·.2)) H)} (l1 N ae cz) (less H (cl.map (·.2)))) :
 yU P w K mg base (k+1) name qual st fr cz ps sp:=by
 refine⟨len,λ A outer s H f cl us ae Q E aq cg C ic r i0=>?_⟩;have aH:=len _ _ _ _ i0;have lim:s.heap.NoLimit:=cg.mod.nolimit.keeps λ b o e=>(cg.bs b o e).1;obtain⟨dT,c5,doc,pm,bF,ct,ck,hf,c,o,BQ,t',eN,aE,hd,bu⟩:=C.fn
 have Ji:us.length=ps.length:=by rw[<- r.length];exact aH
 have dq:=C.eH;refine codeAny_call_def (binds:=ps.zip us) aq.depth (pK cg.bt hf) rfl lim ⟨c,o,BQ,t',eN,pK cg.bt aE,hd,bu⟩ rfl (.of_eq (vE cl doc pm bF ct us Ji)) S.u9 (λ y bj=>S.par y.1 (xP (show (y.1,y.2)∈ps.zip us from bj)).1) (λ h₀ s7 aI=>?_) S.co S.gen S.kind;obtain⟨t,bN,aV⟩:=kt f bF cl A outer s H ae Q E (aq.deeper _) ic dq i0;have I:=T3 (h₁:=h₀) (tk:=s.toks+(ps.zip us).length) (cd:=bF) S aq.hd cg C ic aH r s7 aI;refine h4 (bN [] _ _ _ _ I aV) (λ hN s' av=>?_) λ e s' av=>False.elim av
 have ye:∀ a∈cl.map (·.2),a ∉ jO outer:=λ a aB z=>by
  obtain⟨cy,gT⟩:=dq a aB;rw[cg.nY a z]at gT;cases gT
 have fin:∀{σ':St}{ak:au}{v:V}{u:Value},Inv (ri P w K mg base N qual (b9 st) f bF cl A outer s (less H (cl.map (·.2)))) [] σ' ak s'->RelV v u->((∀ a∈cl.map (·.2),ak a=none)->Q v (more ak (cl.map (·.2)) H))->u2 outer P w H s Q u s':=
  λ{σ' ak v u} J a9 q=>by
   have no:∀ a∈cl.map (·.2),ak a=none:=λ a aB=>by
    obtain⟨cy,z⟩:=dq a aB;exact J.base.free a cy (pK cg.bt z) (vz aB) (by simp[ri])
   refine⟨v,_,J.os,J.bare,J.base.more cg.bt dq ye,J.bt.more no λ a aB=>?_,a9,q no⟩;obtain⟨cy,z⟩:=dq a aB;exact⟨cy,z,J.base.keep a cy (pK cg.bt z) (vz aB) (ye a aB) (by simp[ri])⟩
 cases hN with
 | ret u=>
  obtain⟨v,σ',ak,J,a9,q⟩:=av;exact fin J a9 q
 | next=>
  obtain⟨σ',ak,J,q⟩:=av;exact fin (v:=V.bE) (u:=Value.none) J rfl q
 | brk=>
  obtain⟨_,_,_,q⟩:=av;exact False.elim q
 | cont=>
  obtain⟨_,_,_,q⟩:=av;exact False.elim q
noncomputable def Jj(i:Nat)(name qual:Str)(st:bC)(fr:List Str)(cz:List V)(sp:gm)(t:eX):TE:=λ σ H Q=>∃ f cl,σ[i]?=some (some (.ref f))/\kF H f name qual st cl cz/\cl.map (·.1)=fr/\t σ H λ ae H1=>kF H1 f name qual st cl cz/\sp ae H1 Q pA
end
section
variable{X:a0}{k j:Nat}{name qual:Str}{st:bC}{fr:List Str}{cz:List V}{ps:List Str}{x:Str}{sp:gm}{p pos:Pos}{e:a5}{es:List a5}{t:eX}
theorem kF.at'{H:au}{f:Addr}{cl:List (Str×Addr)}{P:bZ}{w:bM}{h:bx}(C:kF H f name qual st cl cz)(ok:dW P w H h):PySem.W.FnAt f h:=by
 obtain⟨dT,c5,doc,pm,bF,ct,ck,hf,_⟩:=C.fn;exact⟨dT,c5,_,ck,pK ok hf⟩
theorem T7{i:Nat}(G:yU X.prog X.w X.K X.mg X.base k name qual st fr cz ps sp)(aq:eY j X.A)(aI:k<=j)(cn:X.N[i]?=some x)(bu:lJ X.env.scope x)(aB:h_ X (e::es) t)(hd:(x==("__debug__" : Str))=false)(eN:(x==("__classdict__" : Str))=false)
 (he:di (e::es) X.env=(false,eval e X.env)::di es X.env) (e4:(fS pos (di es X.env)).any (·.1)=false) :
 bO X (.Call (.Name x p) (e::es) [] pos) (Jj i name qual st fr cz sp t):=by
 intro pins s σ H Q I h;obtain⟨f,cl,aC,C,ic,h⟩:=h;refine je (bU (A1 (pos:=p) cn bu hd eN pins s σ H (λ v H1=>v=.ref f/\H1=H) I ⟨_,aC,rfl,rfl⟩) λ u s1 xz=>?_);obtain⟨v,H1,aZ,bf,ev,lV⟩:=xz;subst ev lV;obtain rfl:u=Value.ref f:=bf;refine PySem.W.callWith_F (C.at' aZ.bt) (bU (aB pos pins s1 σ H1 _ aZ h) λ us s2 xz=>?_) he e4;obtain⟨ae,aQ,bY,r,Jk,q⟩:=xz;refine⟨Jk.at' bY.bt,?_⟩;refine xH (nM (G.run X.A X.stack s2 aQ f cl us ae Q pA (aq.mono aI) bY.u3 Jk ic r q) λ r s' aV=>?_)
 cases r with
 |error e=>exact False.elim aV
 | ok hN=>
  cases hN with
  |ret u=>exact bY.after aV
  |next=>exact False.elim aV
  |brk=>exact False.elim aV
  |cont=>exact False.elim aV
end
noncomputable def fD(env:Env)(fr:List Str):List (Str×Addr):=fr.map λ x=>(x,(env.cells.lookup x).getD 0)
structure s8(env:Env)(H:au)(f:Addr)(name qual:Str)(st:bC)(fr:List Str):Prop where
 fn:∃(dT:Value)(c5:Option Addr)(doc pm bF ct:Value)(ck:Array (Option Value)),H f=some (fP ⟨dT,c5,.func (x8 name qual (kx st) (g9 st) (b9 st) (fD env fr) .none .none doc pm none bF ct),ck⟩) ∧
  ∃ c o ae t,bF=.ref c/\H c=some (fP o)/\o.data=.fields ae/\ae[1]?=some (.str qual t)
section
variable{X:a0}{pins:List (Addr×Obj)}{σ:St}{H aQ:au}{s s':ay}{as:List Addr}
structure rj(X:a0)(H aQ:au)(as:List Addr)(h:bx):Prop where
 out:∀ b,b ∉ as->aQ b=H b
 no:∀ a∈as,H a=none
 at':∀ a∈as,∃ o,aQ a=some (fP o)/\h.get? a=some o
 T8:∀ a∈as,X.base.get? a=none
 Jl:∀ a∈as,a ∉ jO X.stack
theorem rj.ok(p:rj X H aQ as s.heap)(ok:dW X.prog X.w H s.heap):dW X.prog X.w aQ s.heap:=λ b u e=>by
 by_cases af:b∈as
 ·obtain⟨o,aC,aF⟩:=p.at' b af;rw[aC]at e;cases e;exact vB aF
 ·rw[p.out b af]at e;refine(ok b u e).jK (λ c v _ q=>q) (λ c q=>?_) λ c xs q=>?_
  ·rw[p.out c λ z=>?_];exact q;rw[p.no c z]at q;cases q
  ·rw[p.out c λ z=>?_];exact q;rw[p.no c z]at q;cases q
theorem rj.u3(p:rj X H aQ as s.heap)(I:Inv X pins σ H s):q0 X.prog X.w X.K X.mg X.base X.A X.stack s aQ:=by
 have cg:=I.u3;refine⟨cg.frames,cg.mod,λ b o e=>⟨(cg.bs b o e).1,?_⟩,cg.lK,cg.jP,λ b af=>?_,p.ok cg.bt,cg.bare⟩
 ·rw[p.out b λ z=>?_];exact(cg.bs b o e).2;rw[p.T8 b z]at e;cases e
 ·rw[p.out b λ z=>p.Jl b z af];exact cg.nY b af
theorem rj.after{Q:cC}{u:Value}(p:rj X H aQ as s.heap)(I:Inv X pins σ H s)(h:u2 X.stack X.prog X.w aQ s (λ v ak=>Q v (less ak as)) u s'):gy X pins σ Q u s':=by
 obtain⟨v,ak,os,bare,un,bt,r,q⟩:=h
 have dq:∀ a∈as,∃ o,ak a=some (fP o)/\s.heap.get? a=some o:=λ a aB=>by
  obtain⟨o,aC,aF⟩:=p.at' a aB;exact⟨o,un.jn a o _ aC,aF⟩
 refine I.after ⟨v,less ak as,os,bare,⟨λ b o e n af aA=>?_,λ b o e n af aA=>?_,λ b o e n aA=>?_,λ b o e aA=>un.there b o e aA,λ b xs e=>?_,λ b o x e=>?_,λ b ps e=>?_⟩,bt.less λ a aB=>let ⟨o,e,_⟩:=dq a aB;⟨o,e⟩,r,q⟩
 ·by_cases z:b∈as
  ·obtain⟨cy,aC,aF⟩:=dq b z;rw[e]at aF;cases aF;exact pK bt aC
  ·exact un.keep b o e (by rw[p.out b z];exact n) af aA
 ·have z:b ∉ as:=λ z=>p.Jl b z af;exact un.slot b o e (by rw[p.out b z];exact n) af aA
 ·by_cases z:b∈as
  ·exact vz z
  ·exact rh (un.free b o e (by rw[p.out b z];exact n) aA)
 ·have z:b ∉ as:=λ z=>by rw[p.no b z]at e;cases e
  rw[hb z];exact un.kn b xs (by rw[p.out b z];exact e)
 ·have z:b ∉ as:=λ z=>by rw[p.no b z]at e;cases e
  rw[hb z];exact un.jn b o x (by rw[p.out b z];exact e)
 ·have z:b ∉ as:=λ z=>by rw[p.no b z]at e;cases e
  rw[hb z];exact un.jM b ps (by rw[p.out b z];exact e)
end
noncomputable def T9(X:a0)(name qual:Str)(st:bC)(fr:List Str)(ix:List Nat)(sp:gm)(t:eX):TE:=λ σ H Q=>t σ H λ ae H1=>∃(f:Addr)(cz:List V),s8 X.env H1 f name qual st fr/\(∀(i j:Nat),ix[i]?=some j->∃ v,σ[j]?=some (some v)/\cz[i]?=some v)/\cz.length=fr.length ∧
 ∀ aQ,(∀ b,b ∉ (fD X.env fr).map (·.2)->aQ b=H1 b)->(∀ b∈(fD X.env fr).map (·.2),H1 b=none)->kF aQ f name qual st (fD X.env fr) cz->sp ae aQ (λ v ak=>Q v (less ak ((fD X.env fr).map (·.2)))) pA
section
variable{X:a0}{k j:Nat}{g:Addr}{fd:gM}{name qual:Str}{st:bC}{fr:List Str}{ix:List Nat}{ps:List Str}{x:Str}{sp:gm}{p pos:Pos}{e:a5}{es:List a5}{t:eX}
theorem T_(G:Got X.prog X.w X.K X.mg X.base k x ps sp)(aq:eY j X.A)(aI:k<=j)(a3:c8 X x)(aB:h_ X (e::es) t)(gO:(x==("__debug__" : Str))=false)(BR:fr.Nodup)(vF:ix.length=fr.length)
 (pL:∀(i:Nat)(y:Str),fr[i]?=some y->∃ j,ix[i]?=some j/\X.N[j]?=some y/\X.env.scope.names.lookup y=some .cell/\X.fn y=true)
 (he:di (e::es) X.env=(false,eval e X.env)::di es X.env) (e4:(fS pos (di es X.env)).any (·.1)=false) :
 bO X (.Call (.Name x p) (e::es) [] pos) (T9 X name qual st fr ix sp t):=by
 intro pins s σ H Q I h;obtain⟨f,fd,F,hm,b8,b⟩:=G.ex;refine je (A2 I a3 hm ?_ gO);refine PySem.W.callWith_K (h₀:=X.base) I.ok.mod.uK b8 (bU (aB pos pins s σ H _ I h) λ us s1 xz=>?_) he e4;obtain⟨ae,H1,aZ,r,Ua,cz,M,bu,BS,q⟩:=xz;refine⟨aZ.gN,?_⟩
 have cells:∀(i:Nat)(y:Str),fr[i]?=some y->∃ v u c o,cz[i]?=some v/\RelV v u/\X.env.cells.lookup y=some c/\s1.heap.get? c=some o/\o.data=.cell (some u)/\H1 c=none/\X.s₀.heap.objs.size<=c:=λ i y bj=>by
  obtain⟨j,ag,ai,aT,b6⟩:=pL i y bj;obtain⟨v,dp,q5⟩:=bu i j ag;obtain⟨m,_,aH⟩:=aZ.loc;obtain⟨u,a9,lk⟩:=aH j y v ai dp (.inr (.inl aT));rcases lk with⟨z,_⟩|⟨_,c,cW,o,c7,eZ⟩
  ·have gT:X.env.scope.names.lookup y=some .local:=z;rw[aT]at gT;cases gT
  ·exact⟨v,u,c,o,q5,a9,cW,c7,eZ,aZ.jQ y c cW,aZ.ok.sC y c b6 cW⟩
 have mem:∀ a∈(fD X.env fr).map (·.2),∃ i y,fr[i]?=some y/\X.env.cells.lookup y=some a:=λ a aB=>by
  obtain⟨q,aV,rfl⟩:=eF.mp aB;obtain⟨y,bj,rfl⟩:=eF.mp aV;obtain⟨i,ar,aC⟩:=lE bj
  have aF:fr[i]?=some y:=by rw[f6 ar,aC]
  obtain⟨v,u,c,o,_,_,cW,_⟩:=cells i y aF;exact⟨i,y,aF,by rw[cW];rfl⟩
 have yW:∀ a∈(fD X.env fr).map (·.2),∃ o,s1.heap.get? a=some o/\H1 a=none/\X.s₀.heap.objs.size<=a:=λ a aB=>by
  obtain⟨i,y,ag,ai⟩:=mem a aB;obtain⟨v,u,c,o,_,_,cW,c7,_,eZ,gD⟩:=cells i y ag;rw[ai]at cW;cases cW;exact⟨o,c7,eZ,gD⟩
 let aQ:au:=λ b=>if b∈(fD X.env fr).map (·.2) then (s1.heap.get? b).map fP else H1 b
 have Jm:∀ a∈(fD X.env fr).map (·.2),∀ o,s1.heap.get? a=some o->aQ a=some (fP o):=λ a aB o e=>by
  show (if a∈(fD X.env fr).map (·.2) then (s1.heap.get? a).map fP else H1 a)=_;rw[if_pos aB,e];rfl
 have BU:∀ b,b ∉ (fD X.env fr).map (·.2)->aQ b=H1 b:=λ b af=>if_neg af
 have u5:∀ b∈(fD X.env fr).map (·.2),H1 b=none:=λ b af=>let ⟨_,_,z,_⟩:=yW b af;z
 have Jn:∀ b u,H1 b=some u->aQ b=some u:=λ b u e=>by
  rw[BU b λ z=>?_];exact e;rw[u5 b z]at e;cases e
 have c_:rj X H1 aQ ((fD X.env fr).map (·.2)) s1.heap:=by
  refine⟨BU,u5,λ a aB=>?_,λ a aB=>?_,λ a aB z=>?_⟩
  ·obtain⟨o,e,_⟩:=yW a aB;exact⟨o,Jm a aB o e,e⟩
  ·obtain⟨o,_,_,z⟩:=yW a aB;exact Heap.get?_none_of_le (eG aZ.ok.lK z)
  ·obtain⟨o,_,_,gD⟩:=yW a aB;obtain⟨i,y,_,ai⟩:=mem a aB;rcases dw.mp (aZ.uM a z) with e|e
   ·exact aZ.pg y a ai e
   ·obtain⟨_,cy,aO,_⟩:=aZ.ok.jP.mem e;exact absurd (hH (cm aO) gD) (lF _)
 have C:kF aQ Ua name qual st (fD X.env fr) cz:=by
  obtain⟨dT,c5,doc,pm,bF,ct,ck,jR,c,o,BQ,t',k5,l2,s9⟩:=M.fn;refine⟨⟨dT,c5,doc,pm,bF,ct,ck,Jn _ _ jR,c,o,BQ,t',k5,Jn _ _ l2,s9⟩,λ i y c ar=>?_,?_,?_⟩
  ·unfold fD at ar;rw[dF]at ar
   cases aC:fr[i]? with
   |none=>rw[aC]at ar;cases ar
   | some Ub=>
    rw[aC]at ar;cases ar;obtain⟨v,u,c,o,l3,cW,c7,eZ,gD,_⟩:=cells i _ aC;refine⟨v,u,o,l3,cW,?_,gD⟩
    have c6:(X.env.cells.lookup y).getD 0=c:=by rw[c7];rfl
    refine Jm _ (iy (f:=(·.2)) (iy (f:=λ x=>(x,(X.env.cells.lookup x).getD 0)) (gj aC))) o ?_;show s1.heap.get? ((X.env.cells.lookup y).getD 0)=some o;rw[c6];exact eZ
  ·rw[fD,bL];exact BS.symm
  ·rw[fD,gw];refine List.pairwise_map.mpr (List.Pairwise.imp_of_mem (λ{a b} aB af sZ e=>?_) BR);obtain⟨i,ar,dR⟩:=lE aB;obtain⟨lc,bW,dQ⟩:=lE af;obtain⟨_,_,ca,_,_,_,Jo,_⟩:=cells i a (by rw[f6 ar,dR]);obtain⟨_,_,kG,_,_,_,Jp,_⟩:=cells lc b (by rw[f6 bW,dQ])
   have b0:ca=kG:=by
    have aF:(X.env.cells.lookup a).getD 0=(X.env.cells.lookup b).getD 0:=e;rw[Jo,Jp]at aF;exact aF
   exact sZ (aZ.ok.inj a b ca Jo (by rw[b0];exact Jp))
 have i0:=q aQ BU u5 C
 have aH:us.length=ps.length:=by rw[<- r.length];exact F.len _ _ _ _ i0
 have af:=b s1 us aZ.gN (by rw[kh];exact aH);rw[kh]at af;refine xH (nM (F.run X.A X.stack s1 aQ ⟨us,[]⟩ us ae _ pA (aq.mono aI) (c_.u3 aZ) af r i0) λ dX s' aV=>?_)
 cases dX with
 |error e=>exact False.elim aV
 | ok hN=>
  cases hN with
  |ret u=>exact c_.after aZ aV
  |next=>exact False.elim aV
  |brk=>exact False.elim aV
  |cont=>exact False.elim aV
end
noncomputable def Tab(H:au)(T:Addr)(pos:Pos)(qual:Str):Prop:=∃ ps,H T=some (.hn ps)/\TriplesOk ps.toList/\(codeAmong pos ps.toList=none\/∃ c o ae t,codeAmong pos ps.toList=some (.ref c)/\H c=some (fP o)/\o.data=.fields ae/\ae[1]?=some (.str qual t))
noncomputable def l4(mg:Str->Option Value)(h:bx):Prop:=∃ bm cw,mg "__builtins__"=some (.ref bm)/\bm≠uk/\bm≠et/\h.get? bm=some cw/\cw.cls=.type "module"/\cw.dict=some uk/\cw.data=.plain
section
variable{P:bZ}{w:bM}{H:au}{h h':bx}{T c:Addr}{ps mo:Array Value}{dT:Obj}{fs ex:List Addr}
theorem fi.tab(bp:H T=some (.hn ps))(aE:H c=none)(na:h.objs.size<=c)(aA:Heap.ExtBut T h h')(bN:h'.get? T=some (uG (ps++mo))):fi fs ex H (upd (upd H T (.hn (ps++mo))) c (fP dT)) h h':=by
 have nb:∀ b u,H b=some u->u≠.hn ps->b≠T:=λ b u e n z=>by rw[z,bp]at e;exact n (eW.inj e).symm
 have BV:∀ b,H b=none->b≠T:=λ b e z=>by rw[z,bp]at e;cases e
 have n_:∀ b u,H b=some u->b≠c:=λ b u e z=>by rw[z,aE]at e;cases e
 have Uc:∀ b o,h.get? b=some o->b≠c:=λ b o e=>du (hH (cm e) na);refine⟨λ b o e n _ _=>aA b o (BV b n) e,λ b o e n _ _=>⟨o.slots,aA b o (BV b n) e⟩,λ b o e n _=>?_,λ b o e _=>?_,λ b xs e=>?_,λ b o u e=>?_,λ b a7 e=>?_⟩
 ·rw[bS (Uc b o e),bS (BV b n)];exact n
 ·by_cases z:b=T
  ·subst z;exact⟨_,bN⟩
  ·exact⟨o,aA b o z e⟩
 ·rw[bS (n_ b _ e),bS (nb b _ e λ z=>nomatch z)];exact e
 ·rw[bS (n_ b _ e),bS (nb b _ e λ z=>nomatch z)];exact e
 ·by_cases z:b=T
  ·subst z;rw[bp]at e;cases e;exact⟨mo,by rw[bS (n_ b _ bp),eC]⟩
  ·exact⟨#[],by rw[bS (n_ b _ e),bS z,e];simp⟩
theorem dW.tab(ok:dW P w H h)(bp:H T=some (.hn ps))(na:h.objs.size<=c)(aA:Heap.ExtBut T h h')(bN:h'.get? T=some (uG (ps++mo)))(sE:h'.get? c=some dT):dW P w (upd (upd H T (.hn (ps++mo))) c (fP dT)) h':=λ b u e=>by
 have aE:H c=none:=ok.fresh na
 have nb:∀ b u,H b=some u->u≠.hn ps->b≠T:=λ b u e n z=>by rw[z,bp]at e;exact n (eW.inj e).symm
 have n_:∀ b u,H b=some u->b≠c:=λ b u e z=>by rw[z,aE]at e;cases e
 by_cases ag:b=c
 ·subst ag;rw[eC]at e;cases e;exact vB sE
 ·rw[bS ag]at e;by_cases ai:b=T
  ·subst ai;rw[eC]at e;cases e;exact bN
  ·rw[bS ai]at e;refine(ok b u e).jK (λ d v hd q=>aA d v ?_ q) (λ d q=>?_) λ d xs q=>?_
   ·rcases hd with rfl|hd
    ·exact ai
    ·exact nb d _ hd λ z=>nomatch z
   ·rw[bS (n_ d _ q),bS (nb d _ q λ z=>nomatch z)];exact q
   ·rw[bS (n_ d _ q),bS (nb d _ q λ z=>nomatch z)];exact q
end
noncomputable def Ud(X:a0)(i:Nat)(T:Addr)(name qual:Str)(st:bC)(fr:List Str)(pos:Pos):fj:=λ D σ H=>Tab H T pos qual/\∀ f ak,H f=none->s8 X.env ak f name qual st fr->Tab ak T pos qual->(∀ b u,b≠T->H b=some u->ak b=some u)->D.nx (σ.set i (some (.ref f))) ak
section
variable{X:a0}{i:Nat}{T c:Addr}{name:Str}{params:xL}{body:List bC}{scope:eV}{pos:Pos}{fr:List Str}
theorem Ue(cn:X.N.Nodup)(ar:X.N[i]?=some name)(aH:Loc X.env.scope name)(yX:X.env.code=.ref c)(kz:PySem.W.CodeHd X.base c T)(fk:l4 X.mg X.base)
 (ic:xJ scope X.env=pure (fD X.env fr)) (yY:params.defaults=[]) (BW:params.kw_defaults=[]) (aB:annTrees params none X.env=[])
 (hf:X.fn name=true\/X.env.scope.names.lookup name=some .local) :
 jT X (.FunctionDef name params body [] none [] scope none name pos) (Ud X i T name (qF X.env name name) (.FunctionDef name params body [] none [] scope none name pos) fr pos):=by
 intro pins s σ H D I h;obtain⟨⟨ps,bp,bN,Ug⟩,h⟩:=h;have yZ:s.heap.get? T=some (uG ps):=I.bt T _ bp;have C:=kz.keeps I.bk;have a3:s.heap.Ns et X.mg:=I.ok.mod.glob.keeps I.bk;obtain⟨bm,cw,b1,b2,b3,ie,js,rk,Uh⟩:=fk
 have Ui:bm≠T:=λ z=>by
  have e:=I.bk _ _ ie;rw[z,yZ]at e;cases e;cases js
 have Uj:et≠T:=λ z=>by
  obtain⟨o,es,ep,e,hd,_⟩:=a3;rw[z,yZ]at e;cases e;cases hd
 have Jq:s.heap.BuiltinsAt X.mg T:=⟨bm,cw,b1,b2,b3,Ui,I.bk _ _ ie,js,rk,Uh⟩
 refine PySem.W.nestDef_K yY BW aB ?_;rcases Ug with bc|⟨cu,o,ae,t,sD,Jr,hd,bu⟩
 ·refine PySem.W.makeFunction_K (mg:=X.mg) ic I.ok.glob a3 yX C yZ bN bc Uj Jq λ cu pM doc h' tk aA na eO Uk Js=>?_;obtain⟨dS,dT,ae,t,aF,sE,hd,bu⟩:=Uk;cases aF
  have aZ:Inv X pins σ (upd (upd H T (.hn (ps++#[dB pos.line,dB pos.col,.ref cu]))) cu (fP dT)) {s with heap:=h',toks:=tk}:=
   I.un (fi.tab bp (I.bt.fresh na) na aA Js) (I.bt.tab bp na aA Js sE)
  have bY:=aZ.laid (a:=h'.objs.size) (o:=fP (uH name (qF X.env name name) params body scope (fD X.env fr) doc ((X.mg "__name__").getD .none) cu pM)) (t':=tk) (h':=h'.push (uH name (qF X.env name name) params body scope (fD X.env fr) doc ((X.mg "__name__").getD .none) cu pM)) (λ b u e=>cc _ e) (ZB _) (vB (dK _ rfl));have mR:H h'.objs.size=none:=I.bt.fresh (pa (Nat.lt_of_le_of_lt na eO));have Jt:cu≠h'.objs.size:=du eO
  have Ul:T≠h'.objs.size:=λ z=>by rw[z,mR]at bp;cases bp
  have BX:T≠cu:=λ z=>by rw[z,I.bt.fresh na]at bp;cases bp
  refine uP (v:=.ref h'.objs.size) bY cn ar aH rfl (λ s' dU=>⟨_,_,dU,h _ _ mR ⟨⟨_,_,doc,_,_,pM,_,eC,cu,dT,ae,t,rfl,?_,hd,bu⟩⟩ ⟨ps++#[dB pos.line,dB pos.col,.ref cu],?_,?_,.inr ⟨cu,dT,ae,t,by rw[Array.toList_append];exact codeAmong_snoc _ bN bc,?_,hd,bu⟩⟩ λ b u af e=>?_⟩) hf
  ·rw[bS Jt,eC]
  ·rw[bS Ul,bS BX,eC]
  ·rw[Array.toList_append];exact TriplesOk_snoc _ _ _ _ bN
  ·rw[bS Jt,eC]
  ·rw[bS (λ z=>by rw[z,mR]at e;cases e),bS (λ z=>by rw[z,I.bt.fresh na]at e;cases e),bS af];exact e
 ·refine PySem.W.makeFunction_hit (mg:=X.mg) ic I.ok.glob a3 yX C yZ bN sD Jq λ pM doc h' tk aI hsz=>?_;have mR:H h'.objs.size=none:=I.bt.fresh hsz;have bY:=I.laid (a:=h'.objs.size) (o:=fP (uH name (qF X.env name name) params body scope (fD X.env fr) doc ((X.mg "__name__").getD .none) cu pM)) (t':=tk) (h':=h'.push (uH name (qF X.env name name) params body scope (fD X.env fr) doc ((X.mg "__name__").getD .none) cu pM)) (λ b u e=>cc _ (aI b u e)) hsz (vB (dK _ rfl))
  have keep:∀ b u,H b=some u->upd H h'.objs.size (fP (uH name (qF X.env name name) params body scope (fD X.env fr) doc ((X.mg "__name__").getD .none) cu pM)) b=some u:=λ b u e=>by
   rw[bS (λ z=>by rw[z,mR]at e;cases e)];exact e
  exact uP (v:=.ref h'.objs.size) bY cn ar aH rfl (λ s' dU=>⟨_,_,dU,h _ _ mR ⟨⟨_,_,doc,_,_,pM,_,eC,cu,o,ae,t,rfl,keep _ _ Jr,hd,bu⟩⟩ ⟨ps,keep _ _ bp,bN,.inr ⟨cu,o,ae,t,sD,keep _ _ Jr,hd,bu⟩⟩ λ b u _ e=>keep b u e⟩) hf
end
structure y0(tabs:List (Addr×Addr))(K:a8)(a:Addr)(H:au):Prop where
 only:∀ b,H b=none\/(∃ o xs,H b=some (.eH o (.lst xs)))\/(b∈tabs.map (·.2)/\H b=some (.hn #[]))
 tab:∀ q∈tabs,H q.2=some (.hn #[])
noncomputable def BY(tabs:List (Addr×Addr))(K:a8)(a:Addr)(o:Obj)(xs:List V):au:=λ b=>
 if b∈tabs.map (·.2) then some (.hn #[]) else if b=a then (if (K.lookup a).isSome then none else some (.eH o (.lst xs))) else none
section
variable{P:bZ}{w:bM}{K:a8}{mg jN:Str->Option Value}{k:Nat}{fa a:Addr}{fd:gM}{x:Str}{sp:gm}{dx:ay}{ae:List Value}{ns:List Int}{tabs:List (Addr×Addr)}
theorem Um(KX:K.In dx.heap)(s7:dx.heap.Ns et mg)(af:dx.heap.Ns uk jN)(Un:∀ x:Str,x≠"__name__"->jN x=XV x)(Uo:dx.heap.NoLimit)(a3:dx.gens=#[])
 (aB:dx.heap.get? a=some {cls:=.type "list",data:=.seq ae.toArray}) (ar:lD ae ns) (aH:ns.length<=sizeLine) (aq:eY k sh)
 (bp:PySem.W.TabsAt tabs dx.heap) (eu:PySem.W.noTabs K=true) (fk:l4 mg dx.heap)
  (F:∀ base:bx,K.In base->base.Ns et mg->(∀ q∈tabs,PySem.W.CodeHd base q.1 q.2)->l4 mg base->cN P w K mg base cG k fa fd [x] sp) (vE:∀(s:ay)(u:Value),sg s fd ⟨[u],[]⟩ [(x,u)])
  (i0:∀ H:au,y0 tabs K a H->eh K H a (ns.map V.int)->sp [.ref a] H (λ v _=>v=.aW true) λ _ _ _=>False) :
  iV (aK P w) sh (.call (.ref fa) ⟨[.ref a],[]⟩) (λ r s'=>r=.ok (.ret (.bool true))/\OldK dx.heap s'.heap/\s'.os=dx.os/\oZ s'.gens) dx:=by
  generalize s_:({cls:=.type "list",data:=.seq ae.toArray}:Obj)=ta at aB
  have tb:ta.data=.seq ae.toArray 0/\ta.cls=.type "list"/\ta.dict=none:=by rw[<- s_];exact⟨rfl,rfl,rfl⟩
  have a9:=Bm ar
  have tabAt:∀ b∈tabs.map (·.2),dx.heap.get? b=some (uG #[]):=λ b af=>by
   obtain⟨q,aV,rfl⟩:=eF.mp af;exact(bp q aV).2
  have Up:a ∉ tabs.map (·.2):=λ z=>by
   have e:=tabAt a z;rw[aB]at e;have:=tb.2.1;rw[eW.inj e]at this;cases this
  obtain⟨H,lV⟩:∃ H,H=BY tabs K a ta (ns.map V.int):=⟨_,rfl⟩
  have BZ:∀ b∈tabs.map (·.2),H b=some (.hn #[]):=λ b af=>by rw[lV];exact if_pos af
  have vG:H a=if (K.lookup a).isSome then none else some (.eH ta (.lst (ns.map V.int))):=by
   rw[lV];unfold BY;rw[if_neg Up,if_pos rfl]
  have off:∀ b,b ∉ tabs.map (·.2)->b≠a->H b=none:=λ b ag ai=>by rw[lV];unfold BY;rw[if_neg ag,if_neg ai]
  have free:∀{b:Addr}{o:Obj},dx.heap.get? b=some o->o≠uG #[]->(b=a->(K.lookup a).isSome=true)->H b=none:=λ{b o} e ag ai=>by
   by_cases z:b∈tabs.map (·.2)
   ·rw[tabAt b z]at e;exact absurd (eW.inj e).symm ag
   ·by_cases y:b=a
    ·subst y;rw[vG,if_pos (ai rfl)]
    ·exact off b z y
  have Ju:∀{b:Addr}{o:Obj},dx.heap.get? b=some o->o.cls≠.type "list"->b≠a:=λ{b o} e ag z=>by
   rw[z,aB]at e;exact ag (by rw[<- eW.inj e];exact tb.2.1)
  have get:∀{b:Addr}{o:Obj},dx.heap.get? b=some o->H b=none->(mP dx.heap H).get? b=some o:=λ e n=>ON e n
  have y1:∀{b:Addr}{m:Str->Option Value},dx.heap.Ns b m->(mP dx.heap H).Ns b m:=λ{b m} ⟨o,es,ep,e,d,r⟩=>
   ⟨o,es,ep,get e (free e (λ z=>by rw[z]at d;cases d) λ z=>by
    rw[z,aB]at e;have d':=tb.1
    rw[eW.inj e,d]at d';cases d'),d,r⟩
  have ey:K.In (mP dx.heap H):=λ b o e=>get (KX b o e) (free (KX b o e) (λ z=>by
   have ai:=sk.mp eu (b,o) (PySem.W.mem_of_lookupK e);subst z
   exact absurd (show false=true from ai) f7) λ z=>by rw[<- z,e];rfl)
  have Uq:∀ q∈tabs,PySem.W.CodeHd (mP dx.heap H) q.1 q.2:=λ q aV=>by
   obtain⟨o,us,file,pN,flags,bd,Ur,nc,tt,aC,bf,bD⟩:=(bp q aV).1;refine⟨o,us,file,pN,flags,bd,Ur,nc,tt,get aC (free aC (λ z=>by rw[z]at bf;cases bf) λ z=>absurd z (Ju aC (by rw[bf];decide))),bf,bD⟩
  have aW:l4 mg (mP dx.heap H):=by
   obtain⟨bm,cw,b1,b2,b3,ie,js,rk⟩:=fk;exact⟨bm,cw,b1,b2,b3,get ie (free ie (λ z=>by rw[z]at js;cases js) λ z=>absurd z (Ju ie (by rw[js];decide))),js,rk⟩
  have bt:dW P w H dx.heap:=λ b u e=>by
   by_cases z:b∈tabs.map (·.2)
   ·rw[BZ b z]at e;cases e;exact tabAt b z
   ·by_cases y:b=a
    ·subst y;rw[vG]at e;split at e
     ·cases e
     ·cases e;refine⟨aB,?_⟩;subst s_;exact⟨by rw[bL];exact aH,ae,_,a9,aB⟩
    ·rw[off b z y]at e;cases e
  have ent:y0 tabs K a H:=⟨λ b=>by
   by_cases z:b∈tabs.map (·.2)
   ·exact .inr (.inr ⟨z,BZ b z⟩)
   ·by_cases y:b=a
    ·subst y
     cases aI:(K.lookup b).isSome with
     |true=>exact .inl (by rw[vG,aI];rfl)
     |false=>exact .inr (.inl ⟨_,_,by rw[vG,aI];rfl⟩)
    ·exact .inl (off b z y),λ q aV=>BZ _ (iy aV)⟩
  have d7:eh K H a (ns.map V.int):=by
   cases aI:K.lookup a with
   | some o=>
    have e:=KX a o aI;rw[aB]at e;obtain rfl:=eW.inj e;exact .inr ⟨_,ae.toArray,0,aI,tb.2.1,tb.2.2,tb.1,by rw[cS,ar.length];exact aH,by simpa using a9⟩
   |none=>exact .inl (.inr ⟨ta,by rw[vG,aI];rfl⟩)
  have cg:q0 P w K mg (mP dx.heap H) sh [] dx H:=⟨rfl,⟨ey,y1 s7,⟨jN,y1 af,Un⟩,let ⟨Us,ag,ai⟩:=Uo;⟨Us,y1 ag,ai⟩⟩,λ b o e=>OO e,Nat.le_of_eq (OM _ _),trivial,λ b af=>absurd (show b∈([]:List Addr) from af) (by simp),bt,.of_eq a3⟩
  refine nM ((F _ ey (y1 s7) Uq aW).run sh [] dx H ⟨[.ref a],[]⟩ [.ref a] [.ref a] _ _ aq cg (vE dx (.ref a)) (.cons rfl .nil) (i0 H ent d7)) λ r s' h=>?_
  match r,h with
  | .ok (.ret u),⟨v,ak,os,bare,un,Jv,de,q⟩=>
   obtain rfl:v=.aW true:=q;obtain rfl:u=Value.bool true:=de;have no:∀ b:Addr,b ∉ jO ([]:List Env):=λ b z=>absurd (show b∈([]:List Addr) from z) (by simp);refine⟨rfl,⟨λ b o e=>?_,λ b o e=>un.there b o e (by simp)⟩,os,bare⟩;rcases ent.only b with z|⟨cw,xs,z⟩|⟨z,y⟩
   ·exact .inl (un.keep b o e z (no b) (by simp))
   ·refine .inl ?_;have c7:=un.jn b cw _ z;obtain⟨aC,_⟩:=bt b _ z;rw[e]at aC;cases aC;exact(Jv b _ c7).1
   ·obtain⟨mo,c7⟩:=un.jM b _ y;have c6:=tabAt b z;rw[e]at c6;obtain rfl:=eW.inj c6;obtain⟨p,ax,rfl⟩:=eF.mp z;exact .inr (.inl ⟨((bp p ax).1.tab (bp p ax).2).isCodeTable,rfl,#[],mo,rfl,Jv p.2 _ c7⟩)
end
theorem Ut{p:bZ}{loose:List Str}{Uu:ExcName->Option Value}{mg jN:Str->Option Value}{h:bx}(T:Top p loose Uu mg jN h):l4 mg h:=by
 obtain⟨bm,cw,b1,b2,b3,ie,js,rk⟩:=T.bmain;refine⟨bm,cw,b1,b2,λ z=>?_,b3,ie,js,rk⟩;obtain⟨o,es,ep,e,hd,_⟩:=T.g;rw[z,e]at b3;cases b3;rw[hd]at rk;cases rk
end L2
namespace L3
open PySem PySem.Spec L2
inductive D where
 |bE|aW (b:Bool)|int (i:Int)|str (x:Str)|ref (a:Addr)|ty (n:String)|tup (ds:List D)|d6 (ds:List D)
noncomputable def jZ(K:a8)(H:au)(a:Addr)(xs:List V):Prop:=
 (∃ o,H a=some (.eH o (.lst xs)))\/∃(o:Obj)(aP:Array Value)(n:Nat),K.lookup a=some o/\o.cls=.type "list"/\o.dict=none/\o.data=.seq aP n/\aP.size<=sizeLine/\Vals xs aP.toList
theorem jZ.d7{K:a8}{H:au}{a:Addr}{xs:List V}(h:jZ K H a xs):eh K H a xs:=by
 rcases h with h|h
 ·exact .inl (.inr h)
 ·exact .inr h
mutual
noncomputable def cQ(K:a8)(H:au):D->V->Prop
 |.bE,v=>v=.bE
 |.aW b,v=>v=.aW b
 |.int i,v=>v=.int i
 |.str x,v=>v=.str x
 |.ref a,v=>v=.ref a
 |.ty n,v=>v=.ty n
 |.tup ds,v=>∃ a ae,v=.ref a/\dk K H a ae/\bR K H ds ae
 |.d6 ds,v=>∃ a ae,v=.ref a/\jZ K H a ae/\bR K H ds ae
noncomputable def bR(K:a8)(H:au):List D->List V->Prop
 |[],ae=>ae=[]
 |d::ds,ae=>∃ v r,ae=v::r/\cQ K H d v/\bR K H ds r
end
structure iH(K:a8)(H ak:au):Prop where
 cj:∀ a xs,dk K H a xs->dk K ak a xs
 fr:∀ a xs,jZ K H a xs->jZ K ak a xs
 dq:∀ a o,H a=some (fP o)->ak a=some (fP o)
section
variable{K:a8}{H ak:au}
mutual
theorem cQ.mono(h:iH K H ak):∀{d:D}{v:V},cQ K H d v->cQ K ak d v
 |.bE,_,r=>r
 |.aW _,_,r=>r
 |.int _,_,r=>r
 |.str _,_,r=>r
 |.ref _,_,r=>r
 |.ty _,_,r=>r
 |.tup _,_,⟨a,ae,e,q,l⟩=>⟨a,ae,e,h.cj a ae q,bR.mono h l⟩
 |.d6 _,_,⟨a,ae,e,q,l⟩=>⟨a,ae,e,h.fr a ae q,bR.mono h l⟩
theorem bR.mono(h:iH K H ak):∀{ds:List D}{ae:List V},bR K H ds ae->bR K ak ds ae
 |[],_,r=>r
 |_::_,_,⟨v,r,e,q,l⟩=>⟨v,r,e,cQ.mono h q,bR.mono h l⟩
end
theorem bR.len:∀{ds:List D}{ae:List V},bR K H ds ae->ae.length=ds.length
 |[],_,r=>by cases r;rfl
 |_::_,_,⟨v,r,e,_,l⟩=>by subst e;simp[l.len]
theorem bR.append:∀{ds es:List D}{ae us:List V},bR K H ds ae->bR K H es us->bR K H (ds++es) (ae++us)
 |[],_,_,_,r,s=>by cases r;exact s
 |_::_,_,_,_,⟨v,r,e,q,l⟩,s=>by subst e;exact⟨v,_,rfl,q,l.append s⟩
theorem bR.one{d:D}{v:V}(h:cQ K H d v):bR K H [d] [v]:=⟨v,[],rfl,h,rfl⟩
theorem bR.get:∀{ds:List D}{ae:List V}{i:Nat}{d:D},bR K H ds ae->ds[i]?=some d->∃ v,ae[i]?=some v/\cQ K H d v
 |[],_,_,_,_,e=>by simp at e
 |_::_,_,0,_,⟨v,r,b0,q,l⟩,e=>by simp at e;subst e b0;exact⟨v,rfl,q⟩
 | _::_,_,i+1,d,⟨v,r,b0,q,l⟩,e=>by
  subst b0;obtain⟨u,ag,ai⟩:=bR.get (i:=i) (d:=d) l (by simpa using e);exact⟨u,by simpa using ag,ai⟩
theorem bR.take:∀{ds:List D}{ae:List V}(n:Nat),bR K H ds ae->bR K H (ds.take n) (ae.take n)
 |_,_,0,_=>by simp[bR]
 |[],_,n+1,r=>by cases r;simp[bR]
 |_::_,_,n+1,⟨v,r,e,q,l⟩=>by subst e;exact⟨v,_,rfl,q,l.take n⟩
theorem bR.drop:∀{ds:List D}{ae:List V}(n:Nat),bR K H ds ae->bR K H (ds.drop n) (ae.drop n)
 |_,_,0,r=>r
 |[],_,n+1,r=>by cases r;simp[bR]
 |_::_,_,n+1,⟨v,r,e,q,l⟩=>by subst e;exact l.drop n
theorem bR.reverse:∀{ds:List D}{ae:List V},bR K H ds ae->bR K H ds.reverse ae.reverse
 |[],_,r=>by cases r;simp[bR]
 |_::_,_,⟨v,r,e,q,l⟩=>by subst e;rw[qN,qN];exact l.reverse.append (.one q)
theorem bR.set{d:D}{v:V}(h:cQ K H d v):∀{ds:List D}{ae:List V}(i:Nat),bR K H ds ae->bR K H (ds.set i d) (ae.set i v)
 |[],_,_,r=>by cases r;simp[bR]
 |_::_,_,0,⟨u,r,e,q,l⟩=>by subst e;exact⟨v,r,rfl,h,l⟩
 |_::_,_,i+1,⟨u,r,e,q,l⟩=>by subst e;exact⟨u,_,rfl,q,l.set h i⟩
theorem bR.ints{ns:List Int}:∀{ae:List V},bR K H (ns.map D.int) ae->ae=ns.map V.int:=by
 induction ns with
 |nil=>intro ae h;exact h
 |cons n ns bG=>rintro ae ⟨v,r,e,q,l⟩;subst e;rw[bG l,show v=V.int n from q];rfl
theorem bR.y2:∀(ns:List Int),bR K H (ns.map D.int) (ns.map V.int)
 |[]=>rfl
 |n::ns=>⟨_,_,rfl,rfl,bR.y2 ns⟩
end
noncomputable def cut{α:Type}(xs:List α)(lo ar:Option Int):List α:=(xs.drop (dm.cq xs.length 0 lo)).take (dm.cq xs.length xs.length ar - dm.cq xs.length 0 lo)
theorem bR.cut{K:a8}{H:au}{ds:List D}{ae:List V}(h:bR K H ds ae)(lo ar:Option Int):bR K H (L3.cut ds lo ar) (k9 ae lo ar):=by
 have e:=h.len;rw[L3.cut,k9,e];exact(h.drop _).take _
inductive eU where
 |lst (ds:List D)
 |ins (C:Addr) (fs:List (Str×D))
 |cR (kvs:List (Key×D))
 |bz (kvs:List (List Key×D))
 |hv (o:Obj) (gs:List (List Key×V)) (kvs:List (List Key×D))
 |tc (o:Obj) (gs:List (Key×V)) (kvs:List (Key×D))
 |tab (pos:Pos) (qual:Str)|made (env:Env) (name qual:Str) (st:bC) (fr:List Str)|l5 (name qual:Str) (st:bC) (fr:List Str) (vals:List D)
noncomputable abbrev aY:=Addr->Option eU
noncomputable abbrev el:=List (Option D)
noncomputable def up(G:aY)(a:Addr)(o:eU):aY:=λ b=>if b=a then some o else G b
theorem bh{G:aY}{a:Addr}{o:eU}:up G a o a=some o:=by unfold up;rw[if_pos rfl]
theorem bH{G:aY}{a b:Addr}{o:eU}(h:b≠a):up G a o b=G b:=by unfold up;rw[if_neg h]
theorem fE{G:aY}{a:Addr}{o u:eU}:up (up G a o) a u=up G a u:=by funext b;unfold up;split<;>rfl
theorem y3{G:aY}{a b:Addr}{o u:eU}(h:a≠b):up (up G a o) b u=up (up G b u) a o:=by
 funext c;unfold up;split<;>split<;>simp_all
theorem Uv{G:aY}{a:Addr}{o:eU}(h:G a=some o):up G a o=G:=by
 funext b;unfold up;split
 ·next e=>rw[e,h]
 ·rfl
noncomputable def cT{κ:Type}(K:a8)(H:au)(fs:List (κ×D))(gs:List (κ×V)):Prop:=fs.map (·.1)=gs.map (·.1)/\bR K H (fs.map (·.2)) (gs.map (·.2))
noncomputable def lf(K:a8)(H:au)(a:Addr):eU->Prop
 |.lst ds=>∃ ae,H a=some (.lst ae)/\bR K H ds ae
 |.ins C fs=>∃ e3 gs,H a=some (.ins C e3 gs)/\cT K H fs gs
 |.cR kvs=>∃ gs,H a=some (.cR gs)/\cT K H kvs gs
 |.bz kvs=>∃ gs,H a=some (.bz gs)/\cT K H kvs gs
 |.hv o gs kvs=>H a=some (.eH o (.bz gs))/\cT K H kvs gs
 |.tc o gs kvs=>H a=some (.eH o (.cR gs))/\cT K H kvs gs
 |.tab pos qual=>Tab H a pos qual
 |.made env name qual st fr=>s8 env H a name qual st fr
 |.l5 name qual st fr vals=>∃ cl cz,kF H a name qual st cl cz/\cl.map (·.1)=fr/\bR K H vals cz
noncomputable def d1(K:a8)(G:aY)(H:au):Prop:=∀ a o,G a=some o->lf K H a o
theorem lf.some{K:a8}{H:au}{a:Addr}{o:eU}(h:lf K H a o):∃ u,H a=.some u:=by
 cases o with
 |lst ds=>obtain⟨_,e,_⟩:=h;exact⟨_,e⟩
 |ins C fs=>obtain⟨_,_,e,_⟩:=h;exact⟨_,e⟩
 |cR kvs=>obtain⟨_,e,_⟩:=h;exact⟨_,e⟩
 |bz kvs=>obtain⟨_,e,_⟩:=h;exact⟨_,e⟩
 |hv o gs kvs=>obtain⟨e,_⟩:=h;exact⟨_,e⟩
 |tc o gs kvs=>exact⟨_,h.1⟩
 |tab pos qual=>obtain⟨_,e,_⟩:=h;exact⟨_,e⟩
 |made env name qual st fr=>obtain⟨_,_,_,_,_,_,_,e,_⟩:=h.fn;exact⟨_,e⟩
 |l5 name qual st fr vals=>obtain⟨_,_,h,_⟩:=h;obtain⟨_,_,_,_,_,_,_,e,_⟩:=h.fn;exact⟨_,e⟩
theorem d1.none{K:a8}{G:aY}{H:au}(h:d1 K G H){a:Addr}(e:H a=.none):G a=.none:=by
 cases q:G a with
 |none=>rfl
 |some o=>obtain⟨u,z⟩:=(h a o q).some;rw[e]at z;cases z
theorem lf.mono{K:a8}{H ak:au}{a:Addr}{o:eU}(bN:iH K H ak)(e:ak a=H a)(h:lf K H a o):lf K ak a o:=by
 cases o with
 |lst ds=>obtain⟨ae,q,l⟩:=h;exact⟨ae,by rw[e];exact q,l.mono bN⟩
 |ins C fs=>obtain⟨e3,gs,q,l⟩:=h;exact⟨e3,gs,by rw[e];exact q,l.1,l.2.mono bN⟩
 |cR kvs=>obtain⟨gs,q,l⟩:=h;exact⟨gs,by rw[e];exact q,l.1,l.2.mono bN⟩
 |bz kvs=>obtain⟨gs,q,l⟩:=h;exact⟨gs,by rw[e];exact q,l.1,l.2.mono bN⟩
 |hv o gs kvs=>obtain⟨q,l⟩:=h;exact⟨by rw[e];exact q,l.1,l.2.mono bN⟩
 |tc o gs kvs=>obtain⟨q,l⟩:=h;exact⟨by rw[e];exact q,l.1,l.2.mono bN⟩
 | tab pos qual=>
  obtain⟨ps,ag,ai,aT⟩:=h;refine⟨ps,by rw[e];exact ag,ai,?_⟩;rcases aT with aT|⟨c,o,ae,t,aT,b6,dp⟩
  ·exact .inl aT
  ·exact .inr ⟨c,o,ae,t,aT,bN.dq _ _ b6,dp⟩
 | made env name qual st fr=>
  obtain⟨dT,c5,doc,pm,bF,ct,ck,ag,c,o,ae,t,ai,aT,b6⟩:=h.fn;exact⟨dT,c5,doc,pm,bF,ct,ck,bN.dq _ _ ag,c,o,ae,t,ai,bN.dq _ _ aT,b6⟩
 | l5 name qual st fr vals=>
  obtain⟨cl,cz,C,ag,ai⟩:=h;obtain⟨dT,c5,doc,pm,bF,ct,ck,aT,c,o,ae,t,b6,dp,q5⟩:=C.fn;exact⟨cl,cz,⟨⟨dT,c5,doc,pm,bF,ct,ck,bN.dq _ _ aT,c,o,ae,t,b6,bN.dq _ _ dp,q5⟩,λ i x c ar=>let ⟨v,u,o,cW,c7,eZ,gD⟩:=C.cells i x c ar;⟨v,u,o,cW,c7,bN.dq _ _ eZ,gD⟩,C.len,C.BP⟩,ag,ai.mono bN⟩
structure Go(K:a8)(G:aY)(H:au)(am:aY)(ak:au):Prop where
 tup:iH K H ak
 hT:∀ a o,H a=some o->∃ cy,ak a=some cy
 same:∀ a o,H a=some o->G a=none->ak a=some o
 new:∀ a o,H a=some o->G a=none->am a=none
 bB:d1 K am ak
section
variable{K:a8}{G aw a_ am:aY}{H H1 aQ ak:au}
theorem Go.refl(v:d1 K G H):Go K G H G H:=⟨⟨λ _ _ h=>h,λ _ _ h=>h,λ _ _ h=>h⟩,λ _ o e=>⟨o,e⟩,λ _ _ e _=>e,λ _ _ _ e=>e,v⟩
theorem Go.trans(a:Go K G H aw H1)(b:Go K aw H1 a_ aQ):Go K G H a_ aQ:=
 ⟨⟨λ x xs h=>b.tup.cj x xs (a.tup.cj x xs h),λ x xs h=>b.tup.fr x xs (a.tup.fr x xs h),λ x o h=>b.tup.dq x o (a.tup.dq x o h)⟩,λ x o e=>let ⟨cy,b0⟩:=a.hT x o e;b.hT x cy b0,λ x o e n=>b.same x o (a.same x o e n) (a.new x o e n),
  λ x o e n=>b.new x o (a.same x o e n) (a.new x o e n),b.bB⟩
noncomputable def Sub(G am:aY):Prop:=∀ a o,G a=some o->am a=some o
theorem Sub.refl(G:aY):Sub G G:=λ _ _ e=>e
theorem Sub.trans{G aw a_:aY}(a:Sub G aw)(b:Sub aw a_):Sub G a_:=λ x o e=>b x o (a x o e)
theorem Sub.none{G am:aY}(h:Sub G am){a:Addr}(e:am a=.none):G a=.none:=by
 cases q:G a with
 |none=>rfl
 |some o=>rw[h a o q]at e;cases e
theorem d1.sub(v:d1 K am H)(h:Sub G am):d1 K G H:=λ a o e=>v a o (h a o e)
theorem Go.sub(g:Go K G H aw H1)(h:Sub a_ aw):Go K G H a_ H1:=⟨g.tup,g.hT,g.same,λ x o e n=>h.none (g.new x o e n),g.bB.sub h⟩
theorem Uw{a p:Addr}{o:fv}{xs:List V}(ax:∀ ys,¬ iz H p (.tup ys))(h:dk K H a xs):dk K (upd H p o) a xs:=by
 have ne:a≠p:=by rintro rfl;exact ax _ (.inl h)
 show upd H p o a=_;rw[bS ne];exact h
theorem Ux{p:Addr}{ys:List V}(h:H p=none):¬ iz H p (.tup ys):=by
 rintro(e|⟨o,e⟩)<;>rw[h]at e<;>cases e
theorem Uy{p:Addr}{xs ys:List V}(h:H p=some (.lst xs)):¬ iz H p (.tup ys):=by
 rintro(e|⟨o,e⟩)<;>rw[h]at e<;>cases e
theorem y4{p:Addr}{o:fv}(ax:∀ ys,¬ iz H p (.tup ys))(aH:∀ o ys,H p≠some (.eH o ys)):iH K H (upd H p o) where
 cj:=λ _ _ q=>Uw ax q
 fr:=λ a xs q=>by
  rcases q with⟨z,q⟩|q
  ·exact .inl ⟨z,by rw[bS (by rintro rfl;exact aH _ _ q)];exact q⟩
  ·exact .inr q
 dq:=λ a u q=>by rw[bS (by rintro rfl;exact aH _ _ q)];exact q
theorem l6{p:Addr}{o:fv}(h:H p=none):iH K H (upd H p o):=y4 (λ _=>Ux h) λ _ _ e=>by rw[h]at e;cases e
theorem nd{p:Addr}{o:fv}{xs:List V}(h:H p=some (.lst xs)):iH K H (upd H p o):=y4 (λ _=>Uy h) λ _ _ e=>by rw[h]at e;cases e
theorem Go.lW(v:d1 K G H){p:Addr}{o:fv}(h:H p=none):Go K G H G (upd H p o) where
 tup:=l6 h
 hT:=λ a u e=>⟨u,by rw[bS (gS e h)];exact e⟩
 same:=λ a u e _=>by rw[bS (gS e h)];exact e
 new:=λ _ _ _ e=>e
 bB:=λ a u e=>(v a u e).mono (l6 h) (bS (by rintro rfl;obtain⟨z,q⟩:=(v _ _ e).some;rw[h]at q;cases q))
theorem Go.pO(v:d1 K G H){p:Addr}{ds:List D}{ae:List V}(h:H p=none)(r:bR K H ds ae):Go K G H (up G p (.lst ds)) (upd H p (.lst ae)) where
 tup:=l6 h
 hT:=λ a u e=>⟨u,by rw[bS (gS e h)];exact e⟩
 same:=λ a u e _=>by rw[bS (gS e h)];exact e
 new:=λ a u e n=>by rw[bH (gS e h)];exact n
 bB:=λ a u e=>by
  by_cases c:a=p
  ·subst c;rw[bh]at e;cases e;exact⟨ae,eC,r.mono (l6 h)⟩
  ·rw[bH c]at e;exact(v a u e).mono (l6 h) (bS c)
theorem Go.vH(v:d1 K G H){p:Addr}{Uz ds:List D}{ae:List V}(h:G p=some (.lst Uz))(r:bR K H ds ae):Go K G H (up G p (.lst ds)) (upd H p (.lst ae)):=by
 obtain⟨us,ax,_⟩:=v p _ h
 exact {
  tup:=nd ax
  hT:=λ a u e=>by
   by_cases c:a=p
   ·subst c;exact⟨_,eC⟩
   ·exact⟨u,by rw[bS c];exact e⟩
  same:=λ a u e n=>by
   have c:a≠p:=by rintro rfl;rw[h]at n;cases n
   rw[bS c];exact e
  new:=λ a u e n=>by
   have c:a≠p:=by rintro rfl;rw[h]at n;cases n
   rw[bH c];exact n
  bB:=λ a u e=>by
   by_cases c:a=p
   ·subst c;rw[bh]at e;cases e;exact⟨ae,eC,r.mono (nd ax)⟩
   ·rw[bH c]at e
    exact(v a u e).mono (nd ax) (bS c)}
theorem Go.grow(v:d1 K G H)(h:lS H ak):Go K G H G ak:=by
 have bN:iH K H ak:=⟨λ b xs q=>h _ _ q,λ b xs q=>by
  rcases q with⟨o,q⟩|q
  ·exact .inl ⟨o,h _ _ q⟩
  ·exact .inr q,λ b o q=>h _ _ q⟩
 exact⟨bN,λ a o e=>⟨o,h a o e⟩,λ a o e _=>h a o e,λ _ _ _ e=>e,λ a u e=>by
  obtain⟨z,q⟩:=(v a u e).some
  exact(v a u e).mono bN (by rw[q];exact h _ _ q)⟩
end
structure dI(K:a8)(ρ:el)(G:aY)(σ:St)(H:au):Prop where
 len:ρ.length=σ.length
 st:∀(i:Nat)(d:D),ρ[i]?=some (some d)->∃ v,σ[i]?=some (some v)/\cQ K H d v
 bB:d1 K G H
theorem dI.go{K:a8}{ρ:el}{G am:aY}{σ:St}{H ak:au}(b:dI K ρ G σ H)(g:Go K G H am ak):dI K ρ am σ ak:=
 ⟨b.len,λ i d e=>let ⟨v,ag,ai⟩:=b.st i d e;⟨v,ag,ai.mono g.tup⟩,g.bB⟩
theorem dI.set{K:a8}{ρ:el}{G:aY}{σ:St}{H:au}{d:D}{v:V}(b:dI K ρ G σ H)(h:cQ K H d v)(i:Nat):dI K (ρ.set i (some d)) G (σ.set i (some v)) H where
 len:=by simp[b.len]
 bB:=b.bB
 st:=λ j e he=>by
  by_cases c:j=i
  ·subst c;rw[List.getElem?_set]at he ⊢;have l:=b.len;simp only[if_true]at he ⊢;split at he
   ·next q=>rw[if_pos (by omega)];simp at he;subst he;exact⟨v,rfl,h⟩
   ·cases he
  ·rw[xN (by omega)]at he ⊢;exact b.st j e he
noncomputable def vI(ρ ρ':el):Prop:=ρ.length=ρ'.length/\∀(i:Nat)(d:D),ρ[i]?=some (some d)->ρ'[i]?=some (some d)
theorem vI.refl(ρ:el):vI ρ ρ:=⟨rfl,λ _ _ e=>e⟩
theorem dI.weak{K:a8}{ρ ρ':el}{G am:aY}{σ:St}{H:au}(b:dI K ρ' am σ H)(s:vI ρ ρ')(g:Sub G am):dI K ρ G σ H:=
 ⟨s.1.trans b.len,λ i d e=>b.st i d (s.2 i d e),b.bB.sub g⟩
noncomputable abbrev dg:=D->aY->Prop
noncomputable abbrev bK:=el->aY->dg->Prop
noncomputable abbrev fF:=el->aY->(Bool->aY->Prop)->Prop
noncomputable abbrev gE:=el->aY->(List D->aY->Prop)->Prop
noncomputable abbrev vJ:=el->aY->(Option Int->aY->Prop)->Prop
structure B0 where
 nx:el->aY->Prop
 rt:dg
 bk:el->aY->Prop:=λ _ _=>False
 ct:el->aY->Prop:=λ _ _=>False
noncomputable abbrev gF:=B0->el->aY->Prop
noncomputable abbrev Fin(K:a8)(G:aY)(H:au)(az:dg)(Q:cC):Prop:=∀ d am v ak,Go K G H am ak->cQ K ak d v->az d am->Q v ak
noncomputable abbrev B1(K:a8)(G:aY)(H:au)(az:Bool->aY->Prop)(Q:Bool->au->Prop):Prop:=∀ b am ak,Go K G H am ak->az b am->Q b ak
noncomputable abbrev UA(K:a8)(G:aY)(H:au)(az:Option Int->aY->Prop)(Q:Option Int->au->Prop):Prop:=∀ b am ak,Go K G H am ak->az b am->Q b ak
noncomputable abbrev UB(K:a8)(n:Nat)(G:aY)(H:au)(az:List D->aY->Prop)(Q:List V->au->Prop):Prop:=∀ ds am ae ak,Go K G H am ak->bR K ak ds ae->ds.length=n->az ds am->Q ae ak
structure bJ(X:a0)(e:a5)(t:bK):Prop where
 run:∃ bg:TE,cL X e bg/\∀ ρ G az σ H Q,dI X.K ρ G σ H->t ρ G az->Fin X.K G H az Q->bg σ H Q
structure AT(X:a0)(e:a5)(t:fF):Prop where
 run:∃ bg:TT,hS X e bg/\∀ ρ G az σ H Q,dI X.K ρ G σ H->t ρ G az->B1 X.K G H az Q->bg σ H Q
structure hx(X:a0)(e:a5)(t:fF):Prop where
 run:∃ bg:TT,oc X e bg/\∀ ρ G az σ H Q,dI X.K ρ G σ H->t ρ G az->B1 X.K G H az Q->bg σ H Q
structure i2(X:a0)(es:List a5)(t:gE):Prop where
 run:∃ bg:eX,jY X es bg/\∀ ρ G az σ H Q,dI X.K ρ G σ H->t ρ G az->UB X.K es.length G H az Q->bg σ H Q
structure y5(X:a0)(e:Option a5)(t:vJ):Prop where
 run:∃ bg:eb,vq X e bg/\∀ ρ G az σ H Q,dI X.K ρ G σ H->t ρ G az->UA X.K G H az Q->bg σ H Q
structure vK(K:a8)(G:aY)(H:au)(dE:B0)(fe:Ends):Prop where
 nx:∀ ρ am σ ak,Go K G H am ak->dI K ρ am σ ak->dE.nx ρ am->fe.nx σ ak
 rt:Fin K G H dE.rt fe.rt
 bk:∀ ρ am σ ak,Go K G H am ak->dI K ρ am σ ak->dE.bk ρ am->fe.bk σ ak
 ct:∀ ρ am σ ak,Go K G H am ak->dI K ρ am σ ak->dE.ct ρ am->fe.ct σ ak
structure jt(X:a0)(st:bC)(t:gF):Prop where
 run:∃ bg:fj,la X st bg/\∀ dE fe ρ G σ H,dI X.K ρ G σ H->t dE ρ G->vK X.K G H dE fe->bg fe σ H
structure l7(X:a0)(st:List bC)(t:gF):Prop where
 run:∃ bg:fj,m5 X st bg/\∀ dE fe ρ G σ H,dI X.K ρ G σ H->t dE ρ G->vK X.K G H dE fe->bg fe σ H
noncomputable abbrev fQ:=D->el->aY->(el->aY->Prop)->Prop
noncomputable abbrev lg:=List D->el->aY->(el->aY->Prop)->Prop
noncomputable abbrev B2(K:a8)(G:aY)(H:au)(az:el->aY->Prop)(Q:St->au->Prop):Prop:=∀ ρ am σ ak,Go K G H am ak->dI K ρ am σ ak->az ρ am->Q σ ak
structure j0(X:a0)(bd:a5)(t:fQ):Prop where
 run:∃ bg:fX,jr X bd bg/\∀ d v ρ G az σ H Q,dI X.K ρ G σ H->cQ X.K H d v->t d ρ G az->B2 X.K G H az Q->bg v σ H Q
structure y6(X:a0)(UC:List a5)(t:lg):Prop where
 run:∃ bg:lL,vp X UC bg/\∀ ds ae ρ G az σ H Q,dI X.K ρ G σ H->bR X.K H ds ae->t ds ρ G az->B2 X.K G H az Q->bg ae σ H Q
noncomputable abbrev y7:=D->aY->dg->Prop
noncomputable abbrev ju:=D->D->aY->dg->Prop
noncomputable abbrev td:=List D->aY->dg->Prop
structure hc(X:a0)(f:Value->Value->Sem Value)(r:ju):Prop where
 run:∃ rc:d9,yM X f rc/\∀ x y ff iI G H az Q,d1 X.K G H->cQ X.K H x ff->cQ X.K H y iI->r x y G az->Fin X.K G H az Q->rc ff iI H Q
structure Jw(X:a0)(f:Value->Sem Value)(r:y7):Prop where
 run:∃ rc:V->au->cC->Prop,ID X f rc/\∀ x ff G H az Q,d1 X.K G H->cQ X.K H x ff->r x G az->Fin X.K G H az Q->rc ff H Q
structure rl(X:a0)(f:Value)(r:td):Prop where
 run:∃ rc:List V->au->cC->Prop,BB X f rc/\∀ xs ae G H az Q,d1 X.K G H->bR X.K H xs ae->r xs G az->Fin X.K G H az Q->rc ae H Q
structure B3(X:a0)(r:ju):Prop where
 run:∃ rc:d9,IE X rc/\∀ x y ff iI G H az Q,d1 X.K G H->cQ X.K H x ff->cQ X.K H y iI->r x y G az->Fin X.K G H az Q->rc ff iI H Q
structure Jx(X:a0)(r:D->Option Int->Option Int->aY->dg->Prop):Prop where
 run:∃ rc,IF X rc/\∀ x ff lo ar G H az Q,d1 X.K G H->cQ X.K H x ff->r x lo ar G az->Fin X.K G H az Q->rc ff lo ar H Q
theorem Fin.after{K:a8}{G aw:aY}{H H1:au}{az:dg}{Q:cC}(F:Fin K G H az Q)(g:Go K G H aw H1):Fin K aw H1 az Q:=λ d am v ak g' a q=>F d am v ak (g.trans g') a q
theorem vK.after{K:a8}{G aw:aY}{H H1:au}{dE:B0}{fe:Ends}(F:vK K G H dE fe)(g:Go K G H aw H1):vK K aw H1 dE fe:=
 ⟨λ ρ am σ ak g' b q=>F.nx ρ am σ ak (g.trans g') b q,λ d am v ak g' a q=>F.rt d am v ak (g.trans g') a q,λ ρ am σ ak g' b q=>F.bk ρ am σ ak (g.trans g') b q,λ ρ am σ ak g' b q=>F.ct ρ am σ ak (g.trans g') b q⟩
section
variable{X:a0}{a b c e o i:a5}{es:List a5}{bw b4 aU to d3:bK}{t:gE}{pos p apos dH:Pos}
noncomputable abbrev rm(d:D):bK:=λ _ G Q=>Q d G
noncomputable abbrev Jy(k:Nat):bK:=λ ρ G Q=>match ρ[k]? with
 |some (some d)=>Q d G
 |_=>False
theorem te{v:V}{d:D}(h:cL X e (ko v))(r:∀ H,cQ X.K H d v):bJ X e (rm d):=⟨_,h,λ ρ G az σ H Q B q F=>F d G v H (.refl B.bB) (r H) q⟩
theorem aN{n:Int} {j}:bJ X (.Constant (.int n) j pos) (rm (.int n)):=te R1 λ _=>rfl
theorem l8{n:Bool} {j}:bJ X (.Constant (.bool n) j pos) (rm (.aW n)):=te R2 λ _=>rfl
theorem hg {j}:bJ X (.Constant .none j pos) (rm .bE):=te R3 λ _=>rfl
theorem bX{x:Str} {j}:bJ X (.Constant (.str x) j pos) (rm (.str x)):=te R4 λ _=>rfl
theorem aj(k:Nat){x:Str}(cn:X.N[k]?=some x:=by rfl)(bu:lJ X.env.scope x:=by first|exact Or.inl rfl|exact Or.inr (Or.inl rfl)|exact Or.inr (Or.inr rfl))(hd:(x==("__debug__" : Str))=false:=by decide)
 (eN:(x==("__classdict__" : Str))=false:=by decide):bJ X (.Name x pos) (Jy k):=⟨_,od k cn bu hd eN,λ ρ G az σ H Q B q F=>by
 unfold Jy at q;split at q
 ·next d h=>
  obtain⟨v,ag,ai⟩:=B.st k d h;exact⟨v,ag,F d G v H (.refl B.bB) ai q⟩
 ·exact q.elim⟩
theorem rn{x:Str}{n:String}(a3:c8 X x)(hm:X.mg x=none)(bu:XV x=some (.type n))(bc:x≠"__name__":=by decide)(hd:(x==("__debug__" : Str))=false:=by decide):bJ X (.Name x pos) (rm (.ty n)):=
 te (R5 (v:=.ty n) a3 hm bu rfl bc hd) λ _=>rfl
theorem ro{x:Str}{v:V}{u:Value}{d:D}(a3:c8 X x)(hm:X.mg x=some u)(r:RelV v u)(aB:∀ H,cQ X.K H d v)(hd:(x==("__debug__" : Str))=false:=by decide):bJ X (.Name x pos) (rm d):=te (R6 a3 hm r hd) aB
noncomputable abbrev UD:gE:=λ _ G Q=>Q [] G
noncomputable abbrev UE(bw:bK)(eJ:gE):gE:=λ ρ G Q=>bw ρ G λ x aw=>eJ ρ aw λ xs a_=>Q (x::xs) a_
theorem aJ:i2 X [] UD:=⟨_,R7,λ ρ G az σ H Q B q F=>F [] G [] H (.refl B.bB) rfl rfl q⟩
theorem ao(aB:bJ X e aU)(aq:i2 X es t)(av:dz e=true:=by rfl):i2 X (e::es) (UE aU t):=by
 obtain⟨ca,cH,cI⟩:=aB.run;obtain⟨cr,B4,dX⟩:=aq.run;refine⟨_,R8 cH B4 av,λ ρ G az σ H Q B q F=>?_⟩;refine cI ρ G _ σ H _ B q λ x aw v H1 g1 a4 aG=>dX ρ aw _ σ H1 _ (B.go g1) aG λ xs a_ ae aQ g2 UF aH bv=>?_;exact F (x::xs) a_ (v::ae) aQ (g1.trans g2) ⟨v,ae,rfl,a4.mono g2.tup,UF⟩ (by simp[aH]) bv
noncomputable abbrev UG(t:gE):bK:=λ ρ G Q=>t ρ G λ ds aw=>Q (.tup ds) aw
noncomputable abbrev UH(t:gE):bK:=λ ρ G Q=>t ρ G λ ds aw=>∀ p,aw p=none->Q (.ref p) (up aw p (.lst ds))
theorem y8{n:Nat}(h:uD n 1000=true):n<=sizeLine:=by
 have:=Nat.le_of_ble_eq_true h;rw[hk];omega
theorem cb {qZ} (h:i2 X es t) (aH:uD es.length 1000=true:=by rfl):bJ X (.Tuple es qZ pos) (UG t):=by
 obtain⟨ca,cH,cI⟩:=h.run;refine⟨_,R9 cH,λ ρ G az σ H Q B q F=>cI ρ G _ σ H _ B q λ ds aw ae H1 g1 al bc aG=>⟨by rw[al.len,bc];exact y8 aH,λ p ax=>?_⟩⟩;have g2:=Go.lW (o:=.tup ae) g1.bB ax;exact F (.tup ds) aw _ _ (g1.trans g2) ⟨p,ae,rfl,.of eC,al.mono g2.tup⟩ aG
theorem iJ(h:i2 X es t)(aH:uD es.length 1000=true:=by rfl):bJ X (.List es pos) (UH t):=by
 obtain⟨ca,cH,cI⟩:=h.run;refine⟨_,IH cH,λ ρ G az σ H Q B q F=>cI ρ G _ σ H _ B q λ ds aw ae H1 g1 al bc aG=>⟨by rw[al.len,bc];exact y8 aH,λ p ax=>?_⟩⟩;exact F (.ref p) _ _ _ (g1.trans (Go.pO g1.bB ax al)) rfl (aG p (g1.bB.none ax))
noncomputable def Jz(ds:List D):Int->Option D
 |.ofNat k=>ds[k]?
 |.negSucc k=>gC ds (.negSucc k)
theorem JA(ds:List D)(i:Int):Jz ds i=gC ds i:=by
 cases i with
 |negSucc k=>rfl
 | ofNat k=>
  show ds[k]?=gC ds (k:Int);by_cases h:k<ds.length
  ·rw[f6 h];exact(mZ (f6 h)).symm
  ·rw[kj (by omega)];unfold gC mY;rw[if_pos (by omega),if_neg (by omega)];rfl
noncomputable def oi(ds:List D)(i:Int)(G:aY)(Q:dg):Prop:=match Jz ds i with
 |some d=>Q d G
 |none=>False
theorem tf{ds:List D}{i:Int}{G:aY}{Q:dg}{d:D}(h:gC ds i=some d)(q:Q d G):oi ds i G Q:=by unfold oi;rw[JA,h];exact q
@[irreducible] noncomputable def hy(G:aY)(l:Addr)(k:List D->Prop):Prop:=match G l with
 |some (.lst ds)=>k ds
 |_=>False
@[irreducible] noncomputable def lh(G:aY)(l:Addr)(k:List D->Prop):Prop:=match G l with
 |some (.lst ds)=>k ds
 |_=>False
theorem dc{G:aY}{l:Addr}{k:List D->Prop}{ds:List D}(h:G l=some (.lst ds))(q:k ds):hy G l k:=by unfold hy;rw[h];exact q
theorem eL{G:aY}{l:Addr}{k:List D->Prop}{ds:List D}(h:G l=some (.lst ds))(q:k ds):lh G l k:=by unfold lh;rw[h];exact q
theorem i3{K:a8}{G:aY}{H:au}{l:Addr}{k:List D->Prop}(v:d1 K G H)(h:hy G l k):∃ ds ae,k ds/\eh K H l ae/\bR K H ds ae:=by
 unfold hy at h;split at h
 ·next ds e=>obtain⟨ae,z,r⟩:=v _ _ e;exact⟨ds,ae,h,.of z,r⟩
 ·exact h.elim
theorem pP{K:a8}{G:aY}{H:au}{l:Addr}{k:List D->Prop}(v:d1 K G H)(h:lh G l k):∃ ds ae,k ds/\G l=some (.lst ds)/\H l=some (.lst ae)/\bR K H ds ae:=by
 unfold lh at h;split at h
 ·next ds e=>obtain⟨ae,z,r⟩:=v _ _ e;exact⟨ds,ae,h,e,z,r⟩
 ·exact h.elim
noncomputable abbrev y9(r:ju)(bw b4:bK):bK:=λ ρ G Q=>bw ρ G λ x aw=>b4 ρ aw λ y a_=>r x y a_ Q
noncomputable abbrev UI(r:y7)(bw:bK):bK:=λ ρ G Q=>bw ρ G λ x aw=>r x aw Q
theorem cO{op:nP}{r:ju}(aO:hc X (g5 op) r)(aB:bJ X a bw)(af:bJ X b b4):bJ X (.BinOp a op b pos) (y9 r bw b4):=by
 obtain⟨ca,cH,cI⟩:=aB.run;obtain⟨kG,gP,gQ⟩:=af.run;obtain⟨co,fG,fb⟩:=aO.run;refine⟨_,R_ fG cH gP,λ ρ G az σ H Q B q F=>?_⟩;exact cI ρ G _ σ H _ B q λ x aw v H1 g1 a4 aG=>gQ ρ aw _ σ H1 _ (B.go g1) aG λ y a_ u aQ g2 be bv=>fb x y v u a_ aQ az Q g2.bB (a4.mono g2.tup) be bv (F.after (g1.trans g2))
theorem jv{op:oU}{r:ju}(aO:hc X (e_ op) r)(aB:bJ X a bw)(af:bJ X b b4)(hm:oR op b=false):bJ X (.Compare a [op] [b] pos) (y9 r bw b4):=by
 obtain⟨ca,cH,cI⟩:=aB.run;obtain⟨kG,gP,gQ⟩:=af.run;obtain⟨co,fG,fb⟩:=aO.run;refine⟨_,Sc fG cH gP hm,λ ρ G az σ H Q B q F=>?_⟩;exact cI ρ G _ σ H _ B q λ x aw v H1 g1 a4 aG=>gQ ρ aw _ σ H1 _ (B.go g1) aG λ y a_ u aQ g2 be bv=>fb x y v u a_ aQ az Q g2.bB (a4.mono g2.tup) be bv (F.after (g1.trans g2))
theorem oj{op:UnaryOp}{r:y7}(aO:Jw X (ur op) r)(aB:bJ X a bw):bJ X (.UnaryOp op a pos) (UI r bw):=by
 obtain⟨ca,cH,cI⟩:=aB.run;obtain⟨co,fG,fb⟩:=aO.run;refine⟨_,Sa fG cH,λ ρ G az σ H Q B q F=>?_⟩;exact cI ρ G _ σ H _ B q λ x aw v H1 g1 a4 aG=>fb x v aw H1 az Q g1.bB a4 aG (F.after g1)
theorem bT{r:ju}(aq:B3 X r)(aB:bJ X a bw)(af:bJ X b b4)(av:yx b):bJ X (.Subscript a b pos) (y9 r bw b4):=by
 obtain⟨ca,cH,cI⟩:=aB.run;obtain⟨kG,gP,gQ⟩:=af.run;obtain⟨co,fG,fb⟩:=aq.run;refine⟨_,II fG cH gP av,λ ρ G az σ H Q B q F=>?_⟩;exact cI ρ G _ σ H _ B q λ x aw v H1 g1 a4 aG=>gQ ρ aw _ σ H1 _ (B.go g1) aG λ y a_ u aQ g2 be bv=>fb x y v u a_ aQ az Q g2.bB (a4.mono g2.tup) be bv (F.after (g1.trans g2))
noncomputable def fH(c:Bool)(A B:Prop):Prop:=(c=true->A)/\(c=false->B)
theorem fH.yes{c:Bool}{A B:Prop}(h:c=true)(q:A):fH c A B:=⟨λ _=>q,λ z=>absurd (h.symm.trans z) (by decide)⟩
theorem fH.no{c:Bool}{A B:Prop}(h:c=false)(q:B):fH c A B:=⟨λ z=>absurd (h.symm.trans z) (by decide),λ _=>q⟩
noncomputable abbrev vL(x:D)(k:Bool->Prop):Prop:=match x with
 |.aW c=>k c
 |_=>False
theorem B5{K:a8}{H:au}{x:D}{v:V}{k:Bool->Prop}(h:vL x k)(r:cQ K H x v):∃ c,v=.aW c/\x=.aW c/\k c:=by
 unfold vL at h;split at h
 ·exact⟨_,r,rfl,h⟩
 ·exact h.elim
noncomputable abbrev UJ(bw b4:bK):bK:=λ ρ G Q=>bw ρ G λ x aw=>vL x λ c=>fH c (b4 ρ aw Q) (Q (.aW false) aw)
noncomputable abbrev UK(bw:bK):bK:=λ ρ G Q=>bw ρ G λ x aw=>vL x λ c=>Q (.aW (!c)) aw
theorem rp {op} (h:bJ X a bw):bJ X (.BoolOp op [a] pos) bw:=by
 obtain⟨ca,cH,cI⟩:=h.run;exact⟨_,Sd cH,cI⟩
theorem pQ{rest:List a5}(aB:bJ X a bw)(af:bJ X (.BoolOp .And (b::rest) pos) b4):bJ X (.BoolOp .And (a::b::rest) pos) (UJ bw b4):=by
 obtain⟨ca,cH,cI⟩:=aB.run;obtain⟨kG,gP,gQ⟩:=af.run;refine⟨_,Se cH gP,λ ρ G az σ H Q B q F=>cI ρ G _ σ H _ B q λ x aw v H1 g1 a4 aG=>?_⟩;obtain⟨c,aC,aF,bv⟩:=B5 aG a4;refine⟨c,aC,?_⟩
 cases c with
 |true=>exact gQ ρ aw _ σ H1 _ (B.go g1) (bv.1 rfl) (F.after g1)
 |false=>exact F (.aW false) _ _ _ g1 rfl (bv.2 rfl)
theorem UL(aB:bJ X a bw):bJ X (.UnaryOp .Not a pos) (UK bw):=by
 obtain⟨ca,cH,cI⟩:=aB.run;refine⟨_,Sb cH,λ ρ G az σ H Q B q F=>cI ρ G _ σ H _ B q λ x aw v H1 g1 a4 aG=>?_⟩;obtain⟨c,aC,aF,bv⟩:=B5 aG a4;exact⟨c,aC,F (.aW (!c)) _ _ _ g1 rfl bv⟩
noncomputable abbrev UM(bg:fF)(bw b4:bK):bK:=λ ρ G Q=>bg ρ G λ c aw=>fH c (bw ρ aw Q) (b4 ρ aw Q)
theorem nf{bg:fF}(aE:AT X c bg)(aB:bJ X a bw)(af:bJ X b b4):bJ X (.IfExp c a b pos) (UM bg bw b4):=by
 obtain⟨pR,om,rc⟩:=aE.run;obtain⟨ca,cH,cI⟩:=aB.run;obtain⟨kG,gP,gQ⟩:=af.run;refine⟨_,Sf om cH gP,λ ρ G az σ H Q B q F=>rc ρ G _ σ H _ B q λ c aw H1 g1 aG=>?_⟩
 cases c with
 |true=>exact cI ρ aw _ σ H1 _ (B.go g1) (aG.1 rfl) (F.after g1)
 |false=>exact gQ ρ aw _ σ H1 _ (B.go g1) (aG.2 rfl) (F.after g1)
noncomputable abbrev UN(t:bK):fF:=λ ρ G Q=>t ρ G λ x aw=>vL x λ c=>Q c aw
theorem cP{op:oU}{r:ju}(aO:hc X (e_ op) r)(aB:bJ X a bw)(af:bJ X b b4)(hm:oR op b=false):AT X (.Compare a [op] [b] pos) (UN (y9 r bw b4)):=by
 obtain⟨ca,cH,cI⟩:=aB.run;obtain⟨kG,gP,gQ⟩:=af.run;obtain⟨co,fG,fb⟩:=aO.run;refine⟨_,So fG cH gP hm,λ ρ G az σ H Q B q F=>?_⟩;refine cI ρ G _ σ H _ B q λ x aw v H1 g1 a4 aG=>gQ ρ aw _ σ H1 _ (B.go g1) aG λ y a_ u aQ g2 be bv=>fb x y v u a_ aQ _ _ g2.bB (a4.mono g2.tup) be bv λ z dv w c9 g3 rq dC=>?_;obtain⟨c,aC,aF,hU⟩:=B5 dC rq;exact⟨c,aC,F c dv c9 ((g1.trans g2).trans g3) hU⟩
noncomputable abbrev UO(bg:fF):fF:=λ ρ G Q=>bg ρ G λ c aw=>Q (!c) aw
noncomputable abbrev UP(bg cD:fF):fF:=λ ρ G Q=>bg ρ G λ c aw=>fH c (cD ρ aw Q) (Q false aw)
noncomputable abbrev UQ(bg cD:fF):fF:=λ ρ G Q=>bg ρ G λ c aw=>fH c (Q true aw) (cD ρ aw Q)
theorem pS{bg:fF}(aB:AT X a bg):AT X (.UnaryOp .Not a pos) (UO bg):=by
 obtain⟨ca,cH,cI⟩:=aB.run;exact⟨_,Sp cH,λ ρ G az σ H Q B q F=>cI ρ G _ σ H _ B q λ c aw H1 g1 aG=>F _ _ _ g1 aG⟩
theorem JB{bg:fF}(aB:AT X a bg):hx X (.BoolOp .And [a] pos) bg:=by
 obtain⟨ca,cH,cI⟩:=aB.run;exact⟨_,Sr cH,cI⟩
theorem ng{bg:fF}(aB:AT X a bg):hx X (.BoolOp .Or [a] pos) bg:=by
 obtain⟨ca,cH,cI⟩:=aB.run;exact⟨_,Ss cH,cI⟩
theorem JC{bg cD:fF}{rest:List a5}(aB:AT X a bg)(af:hx X (.BoolOp .And (b::rest) pos) cD):hx X (.BoolOp .And (a::b::rest) pos) (UP bg cD):=by
 obtain⟨ca,cH,cI⟩:=aB.run;obtain⟨kG,gP,gQ⟩:=af.run;refine⟨_,Su cH gP,λ ρ G az σ H Q B q F=>cI ρ G _ σ H _ B q λ c aw H1 g1 aG=>?_⟩
 cases c with
 |true=>exact gQ ρ aw _ σ H1 _ (B.go g1) (aG.1 rfl) λ c am ak g'=>F c am ak (g1.trans g')
 |false=>exact F _ _ _ g1 (aG.2 rfl)
theorem l9{bg cD:fF}{rest:List a5}(aB:AT X a bg)(af:hx X (.BoolOp .Or (b::rest) pos) cD):hx X (.BoolOp .Or (a::b::rest) pos) (UQ bg cD):=by
 obtain⟨ca,cH,cI⟩:=aB.run;obtain⟨kG,gP,gQ⟩:=af.run;refine⟨_,Sv cH gP,λ ρ G az σ H Q B q F=>cI ρ G _ σ H _ B q λ c aw H1 g1 aG=>?_⟩
 cases c with
 |false=>exact gQ ρ aw _ σ H1 _ (B.go g1) (aG.2 rfl) λ c am ak g'=>F c am ak (g1.trans g')
 |true=>exact F _ _ _ g1 (aG.1 rfl)
theorem hx.at{bg:fF}(h:hx X e bg):AT X e bg:=by
 obtain⟨ca,cH,cI⟩:=h.run;exact⟨_,cH.pt,cI⟩
noncomputable def JD(x:D)(G:aY)(k:Bool->Prop):Prop:=match x with
 |.bE=>k false
 |.aW b=>k b
 |.int i=>k (i !=0)
 |.str y=>y.length<=sizeLine/\k ((y.length:Int) !=0)
 |.tup ds=>k (!ds.isEmpty)
 |.ref p=>hy G p λ ds=>k (!ds.isEmpty)
 |_=>False
theorem bR.isEmpty{K:a8}{H:au}{ds:List D}{ae:List V}(h:bR K H ds ae):ae.isEmpty=ds.isEmpty:=by
 have:=h.len;cases ds<;>cases ae<;>simp_all
noncomputable abbrev UR(t:bK):fF:=λ ρ G Q=>t ρ G λ x aw=>JD x aw λ c=>Q c aw
theorem hA(aB:bJ X a bw)(he:∀ whole,mE a X.env whole=(do let v ← whole;W1 a.pos;jE [v] (truthy v)):=by intro _;rfl):AT X a (UR bw):=by
 obtain⟨ca,cH,cI⟩:=aB.run;refine⟨_,Sq cH he,λ ρ G az σ H Q B q F=>cI ρ G _ σ H _ B q λ x aw v H1 g1 a4 aG=>?_⟩
 cases x with
 |bE=>cases a4;exact⟨_,rfl,F _ _ _ g1 aG⟩
 |aW b=>cases a4;exact⟨_,rfl,F _ _ _ g1 aG⟩
 |int i=>cases a4;exact⟨_,rfl,F _ _ _ g1 aG⟩
 |str y=>cases a4;exact⟨_,⟨aG.1,rfl⟩,F _ _ _ g1 aG.2⟩
 | ref l=>
  cases a4;obtain⟨ds,ae,k,s,r⟩:=i3 g1.bB aG;exact⟨_,.inl ⟨ae,s,rfl⟩,by rw[r.isEmpty];exact F _ _ _ g1 k⟩
 | tup ds=>
  obtain⟨l,ae,rfl,s,r⟩:=a4;exact⟨_,.inr (.inl ⟨ae,s,rfl⟩),by rw[r.isEmpty];exact F _ _ _ g1 aG⟩
 |ty n=>exact(show False from aG).elim
 |d6 ds=>exact(show False from aG).elim
noncomputable abbrev US:vJ:=λ _ G Q=>Q none G
noncomputable abbrev UT(t:bK):vJ:=λ ρ G Q=>t ρ G λ x aw=>match x with
 |.int i=>Q (some i) aw
 |_=>False
theorem li:y5 X none US:=⟨_,Sg,λ ρ G az σ H Q B q F=>F none G H (.refl B.bB) q⟩
theorem lj(h:bJ X e aU):y5 X (some e) (UT aU):=by
 obtain⟨ca,cH,cI⟩:=h.run;refine⟨_,Sh cH,λ ρ G az σ H Q B q F=>cI ρ G _ σ H _ B q λ x aw v H1 g1 a4 aG=>?_⟩;split at aG
 ·next i=>exact⟨i,a4,F _ _ _ g1 aG⟩
 ·exact aG.elim
noncomputable abbrev UU(r:D->Option Int->Option Int->aY->dg->Prop)(aU:bK)(ec k8:vJ):bK:=λ ρ G Q=>aU ρ G λ x aw=>ec ρ aw λ l a_=>k8 ρ a_ λ u dv=>r x l u dv Q
theorem ll{r:D->Option Int->Option Int->aY->dg->Prop}{lo ar:Option a5}{ec k8:vJ}{c_:Pos}(aq:Jx X r)(he:bJ X e aU)(aH:y5 X lo ec)(br:y5 X ar k8):bJ X (.Subscript e (.Slice lo ar none c_) pos) (UU r aU ec k8):=by
 obtain⟨ce,iK,re⟩:=he.run;obtain⟨cl,B6,en⟩:=aH.run;obtain⟨agx,UV,d0⟩:=br.run;obtain⟨cr,B4,dX⟩:=aq.run;refine⟨_,Si B4 iK B6 UV,λ ρ G az σ H Q B q F=>re ρ G _ σ H _ B q λ x aw v H1 g1 a4 aG=>en ρ aw _ σ H1 _ (B.go g1) aG λ l a_ aQ g2 bv=>d0 ρ a_ _ σ aQ _ ((B.go g1).go g2) bv λ u dv c9 g3 dC=>?_⟩;exact dX x v l u dv c9 az Q g3.bB ((a4.mono g2.tup).mono g3.tup) dC (F.after ((g1.trans g2).trans g3))
noncomputable abbrev UW:gF:=λ D ρ G=>D.nx ρ G
noncomputable abbrev JE(t u:gF):gF:=λ D ρ G=>t {D with nx:=u D} ρ G
noncomputable abbrev UX(aU:bK):gF:=λ D ρ G=>aU ρ G λ _ aw=>D.nx ρ aw
noncomputable abbrev UY(aU:bK):gF:=λ D ρ G=>aU ρ G D.rt
noncomputable abbrev UZ(c:fF)(t u:gF):gF:=λ D ρ G=>c ρ G λ b aw=>fH b (t D ρ aw) (u D ρ aw)
theorem dN:l7 X [] UW:=⟨_,SB,λ dE fe ρ G σ H B q F=>F.nx ρ G σ H (.refl B.bB) B q⟩
theorem a6{st:bC}{rest:List bC}{hL us:gF}(ag:jt X st hL)(ai:l7 X rest us):l7 X (st::rest) (JE hL us):=by
 obtain⟨ew,ht,bf⟩:=ag.run;obtain⟨dS,q_,bD⟩:=ai.run;refine⟨_,SC ht q_,λ dE fe ρ G σ H B q F=>bf _ _ ρ G σ H B q ⟨λ ρ' am σ' ak g b q=>bD dE fe ρ' am σ' ak b q (F.after g),F.rt,F.bk,F.ct⟩⟩
theorem bo{st:bC}{hL:gF}(ag:jt X st hL):l7 X [st] hL:=by
 obtain⟨ew,ht,bf⟩:=ag.run;exact⟨_,SD ht,bf⟩
theorem hB(he:bJ X e aU)(av:kZ e none pos.line X.env=pure false:=by rfl):jt X (.Expr e pos) (UX aU):=by
 obtain⟨ew,ht,bf⟩:=he.run;exact⟨_,SE ht av,λ dE fe ρ G σ H B q F=>bf ρ G _ σ H _ B q λ d am v ak g _ q=>F.nx ρ am σ ak g (B.go g) q⟩
theorem b5(he:bJ X e aU):jt X (.Return (some e) pos) (UY aU):=by
 obtain⟨ew,ht,bf⟩:=he.run;exact⟨_,SF ht,λ dE fe ρ G σ H B q F=>bf ρ G _ σ H _ B q F.rt⟩
theorem dr{ss us:List bC}{bg:fF}{hL vr:gF}(aE:AT X c bg)(aB:l7 X ss hL)(af:l7 X us vr):jt X (.If c ss us pos) (UZ bg hL vr):=by
 obtain⟨pR,om,rc⟩:=aE.run;obtain⟨ca,cH,cI⟩:=aB.run;obtain⟨kG,gP,gQ⟩:=af.run;refine⟨_,SG om cH gP,λ dE fe ρ G σ H B q F=>rc ρ G _ σ H _ B q λ c aw H1 g1 aG=>?_⟩
 cases c with
 |true=>exact cI dE fe ρ aw σ H1 (B.go g1) (aG.1 rfl) (F.after g1)
 |false=>exact gQ dE fe ρ aw σ H1 (B.go g1) (aG.2 rfl) (F.after g1)
noncomputable abbrev vM(k:Nat):fQ:=λ d ρ G Q=>Q (ρ.set k (some d)) G
noncomputable abbrev B7:lg:=λ ds ρ G Q=>match ds with
 |[]=>Q ρ G
 |_=>False
noncomputable abbrev B8(t:fQ)(u:lg):lg:=λ ds ρ G Q=>match ds with
 |d::r=>t d ρ G λ ρ' am=>u r ρ' am Q
 |[]=>False
noncomputable abbrev JF(t:lg):fQ:=λ d ρ G Q=>match d with
 |.tup ds=>t ds ρ G Q
 |_=>False
theorem e5{k:Nat}{x:Str}(cn:X.N.Nodup)(ar:X.N[k]?=some x)(aA:Loc X.env.scope x)(hf:X.fn x=true\/X.env.scope.names.lookup x=some .local:=by first|exact .inl rfl|exact .inr rfl|assumption):j0 X (.Name x pos) (vM k):=
 ⟨_,Sw cn ar aA hf,λ d v ρ G az σ H Q B a q F=>F _ G _ H (.refl B.bB) (B.set a k) q⟩
noncomputable abbrev B9(aU:bK)(g:fQ):gF:=λ D ρ G=>aU ρ G λ x aw=>g x ρ aw D.nx
theorem JG{bd:a5}{g:fQ}(he:bJ X e aU)(a3:j0 X bd g)(av:AN [bd] e pos.line X.env=pure false:=by rfl)(hw:AO [bd] e X.env=pure none:=by rfl)(ag:(iU [bd] X.env).map (·.2)=[WF bd X.env]:=by rfl):jt X (.Assign [bd] e pos) (B9 aU g):=by
 obtain⟨ew,ht,bf⟩:=he.run;obtain⟨dS,q_,bD⟩:=a3.run;exact⟨_,SI ht q_ av hw ag,λ dE fe ρ G σ H B q F=>bf ρ G _ σ H _ B q λ d aw v H1 g1 a aG=>bD d v ρ aw _ σ H1 _ (B.go g1) a aG λ ρ' am σ' ak g' b h8=>F.nx ρ' am σ' ak (g1.trans g') b h8⟩
theorem bP{k:Nat}{x:Str}{pos':Pos}(cn:X.N.Nodup)(ar:X.N[k]?=some x)(aA:Loc X.env.scope x)(he:bJ X e aU)(av:kZ e (some (.Name x pos')) pos.line X.env=pure false:=by rfl)(hf:X.fn x=true\/X.env.scope.names.lookup x=some .local:=by first|exact .inl rfl|exact .inr rfl|assumption) :
 jt X (.Assign [.Name x pos'] e pos) (B9 aU (vM k)):=by
 obtain⟨ew,ht,bf⟩:=he.run;exact⟨_,SH cn ar aA ht av hf,λ dE fe ρ G σ H B q F=>bf ρ G _ σ H _ B q λ d aw v H1 g1 a aG=>F.nx _ aw _ H1 g1 ((B.go g1).set a k) aG⟩
theorem y_:y6 X [] B7:=⟨_,Sx,λ ds ae ρ G az σ H Q B a q F=>by
 cases ds with
 |nil=>cases a;exact⟨rfl,F ρ G σ H (.refl B.bB) B q⟩
 |cons d r=>exact(show False from q).elim⟩
theorem pT{bd:fQ}{u:lg}(ag:j0 X e bd)(ai:y6 X es u)(av:(iU (e::es) X.env).map (·.2)=WF e X.env::(iU es X.env).map (·.2):=by rfl):y6 X (e::es) (B8 bd u):=by
 obtain⟨ew,ht,bf⟩:=ag.run;obtain⟨dS,q_,bD⟩:=ai.run;refine⟨_,vEq ht q_ av,λ ds ae ρ G az σ H Q B a q F=>?_⟩
 cases ds with
 |nil=>exact(show False from q).elim
 | cons d r=>
  obtain⟨v,us,rfl,ad,U0⟩:=a;exact⟨v,us,rfl,bf d v ρ G _ σ H _ B ad q λ ρ' am σ' ak g b h8=>bD r us ρ' am _ σ' ak _ b (U0.mono g.tup) h8 λ ρ2 a_ σ2 aQ g2 b2 bv=>F ρ2 a_ σ2 aQ (g.trans g2) b2 bv⟩
theorem za{k n:Nat}{bd:lg}(aE:X.calm=true)(h:y6 X es bd)(aH:es.length=n:=by rfl)(bc:(iU es X.env).length=n:=by rfl)(ia:(iU es X.env).findIdx? (·.1)=none:=by rfl)
 (hlen:∀ ds ρ G Q,bd ds ρ G Q->ds.length=n:=by intro ds ρ G Q h;match ds,h with|[],h=>(first|rfl|exact(show False from h).elim)|[_],h=>(first|rfl|exact(show False from h).elim)|[_,_],h=>(first|rfl|exact(show False from h).elim)|[_,_,_],h=>(first|rfl|exact(show False from h).elim)|_::_::_::_::_,h=>exact(show False from h).elim):j0 X (.Tuple es k pos) (JF bd):=by
 obtain⟨ew,ht,bf⟩:=h.run;refine⟨_,Sy (n:=n) aE ht bc ia,λ d v ρ G az σ H Q B a q F=>?_⟩
 cases d with
 | tup ds=>
  obtain⟨l,ae,rfl,s,r⟩:=a;exact⟨l,ae,rfl,s,by rw[r.len];exact hlen _ _ _ _ q,bf ds ae ρ G az σ H Q B r q F⟩
 |_=>exact(show False from q).elim
end
section
variable{X:a0}
noncomputable def U1:ju:=λ x y G Q=>match x,y with
 |.int i,.int j=>Q (.int (i+j)) G
 |.str i,.str j=>i.length+j.length<=sizeLine/\Q (.str (i++j)) G
 |.tup xs,.tup ys=>xs.length+ys.length<=sizeLine/\Q (.tup (xs++ys)) G
 |.ref l,.ref m=>lh G l λ xs=>lh G m λ ys=>xs.length+ys.length<=sizeLine/\∀ p,G p=none->Q (.ref p) (up G p (.lst (xs++ys)))
 |_,_=>False
theorem e0:hc X (g5 .Add) U1:=by
 refine⟨_,⟨PH.or (PY.or (RU.or QW))⟩,λ x y ff iI G H az Q v a4 be r F=>?_⟩
 cases x with
 | int i=>
  cases y with
  |int j=>cases a4;cases be;exact .inl ⟨i,j,rfl,rfl,F (.int (i+j)) G _ H (.refl v) rfl r⟩
  |_=>exact(show False from r).elim
 | str i=>
  cases y with
  |str j=>cases a4;cases be;exact .inr (.inl ⟨i,j,rfl,rfl,r.1,F (.str (i++j)) G _ H (.refl v) rfl r.2⟩)
  |_=>exact(show False from r).elim
 | tup xs=>
  cases y with
  | tup ys=>
   obtain⟨l,ae,rfl,s1,bf⟩:=a4;obtain⟨m,us,rfl,s2,bD⟩:=be;have b_:=bf.len;have bI:=bD.len;refine .inr (.inr (.inl ⟨l,m,ae,us,rfl,rfl,s1,s2,by rw[b_,bI];exact r.1,λ e=>?_,λ e aF=>?_,λ e aF p ax=>?_⟩))
   ·subst e
    have b0:xs=[]:=by cases xs<;>simp_all
    subst b0;exact F (.tup ys) G _ H (.refl v) ⟨m,us,rfl,s2,bD⟩ (by simpa using r.2)
   ·subst aF
    have b0:ys=[]:=by cases ys<;>simp_all
    subst b0;exact F (.tup xs) G _ H (.refl v) ⟨l,ae,rfl,s1,bf⟩ (by simpa using r.2)
   ·have g:=Go.lW (o:=.tup (ae++us)) v ax;exact F (.tup (xs++ys)) G _ _ g ⟨p,_,rfl,.of eC,(bf.append bD).mono g.tup⟩ r.2
  |_=>exact(show False from r).elim
 | ref l=>
  cases y with
  | ref m=>
   cases a4;cases be;obtain⟨xs,ae,ej,aC,ag,bf⟩:=pP v r;obtain⟨ys,us,dA,aF,ai,bD⟩:=pP v ej;have b_:=bf.len;have bI:=bD.len;exact .inr (.inr (.inr ⟨l,m,ae,us,rfl,rfl,ag,ai,by rw[b_,bI];exact dA.1,λ p ax=>F (.ref p) _ _ _ (Go.pO v ax (bf.append bD)) rfl (dA.2 p (v.none ax))⟩))
  |_=>exact(show False from r).elim
 |_=>exact(show False from r).elim
noncomputable def vN(C:Int->Int->Prop)(g:Int->Int->D):ju:=λ x y G Q=>match x,y with
 |.int i,.int j=>C i j/\Q (g i j) G
 |_,_=>False
noncomputable def tg(g:Int->Int->D):ju:=λ x y G Q=>match x,y with
 |.int i,.int j=>Q (g i j) G
 |_,_=>False
theorem zb{f:Value->Value->Sem Value}{C:Int->Int->Prop}{g:Int->Int->Int}(h:ei X f (sP C λ i j=>.int (g i j))):hc X f (vN C λ i j=>.int (g i j)):=by
 refine⟨_,⟨h⟩,λ x y ff iI G H az Q v a4 be r F=>?_⟩
 cases x with
 | int i=>
  cases y with
  |int j=>cases a4;cases be;exact⟨i,j,rfl,rfl,r.1,F (.int (g i j)) G _ H (.refl v) rfl r.2⟩
  |_=>exact(show False from r).elim
 |_=>exact(show False from r).elim
theorem U2{f:Value->Value->Sem Value}{g:Int->Int->Int}(h:ei X f (n2 λ i j=>.int (g i j))):hc X f (tg λ i j=>.int (g i j)):=by
 refine⟨_,⟨h⟩,λ x y ff iI G H az Q v a4 be r F=>?_⟩
 cases x with
 | int i=>
  cases y with
  |int j=>cases a4;cases be;exact⟨i,j,rfl,rfl,F (.int (g i j)) G _ H (.refl v) rfl r⟩
  |_=>exact(show False from r).elim
 |_=>exact(show False from r).elim
theorem B_{f:Value->Value->Sem Value}{g:Int->Int->Bool}(h:ei X f (n2 λ i j=>.aW (g i j))):hc X f (tg λ i j=>.aW (g i j)):=by
 refine⟨_,⟨h⟩,λ x y ff iI G H az Q v a4 be r F=>?_⟩
 cases x with
 | int i=>
  cases y with
  |int j=>cases a4;cases be;exact⟨i,j,rfl,rfl,F (.aW (g i j)) G _ H (.refl v) rfl r⟩
  |_=>exact(show False from r).elim
 |_=>exact(show False from r).elim
theorem kH:hc X (g5 .Sub) (tg λ i j=>.int (i - j)):=U2 PI
theorem nh:hc X (g5 .Mult) (vN u1 λ i j=>.int (i * j)):=zb PJ
theorem Ca:hc X (g5 .FloorDiv) (vN (λ _ j=>0<j/\j<2 ^ 64) λ i j=>.int (i / j)):=zb Ru
theorem pU:hc X (g5 .Mod) (vN (λ _ j=>0<j) λ i j=>.int (i % j)):=zb PK
theorem U3:hc X (g5 .Pow) (vN Hp λ i j=>.int (i ^ j.toNat)):=zb PL
theorem rr:hc X (e_ .Lt) (tg λ i j=>.aW (decide (i<j))):=B_ PO
theorem th:hc X (e_ .Gt) (tg λ i j=>.aW (decide (j<i))):=B_ PP
theorem vO:hc X (e_ .GtE) (tg λ i j=>.aW (decide (j<=i))):=B_ PQ
noncomputable def U4:y7:=λ x G Q=>match x with
 |.int i=>Q (.int (-i)) G
 |_=>False
theorem oo:Jw X (ur .USub) U4:=by
 refine⟨_,⟨PN⟩,λ x ff G H az Q v a4 r F=>?_⟩
 cases x with
 |int i=>cases a4;exact⟨i,rfl,F (.int (-i)) G _ H (.refl v) rfl r⟩
 |_=>exact(show False from r).elim
noncomputable def JH:D->Bool
 |.bE=>true
 |_=>false
noncomputable def zc(neg:Bool):ju:=λ x y G Q=>match y with
 |.bE=>Q (.aW (neg ^^ JH x)) G
 |_=>False
theorem JI{K:a8}{H:au}{x:D}{v:V}(a:cQ K H x v):decide (v=.bE)=JH x:=by
 cases x with
 |tup ds=>obtain⟨_,_,rfl,_⟩:=a;rfl
 |d6 ds=>obtain⟨_,_,rfl,_⟩:=a;rfl
 |_=>cases a;rfl
theorem pV:hc X (e_ .Is) (zc false):=by
 refine⟨_,⟨PS⟩,λ x y ff iI G H az Q v a4 be r F=>?_⟩
 cases y with
 |bE=>cases be;exact⟨rfl,by rw[JI a4];exact F (.aW _) G _ H (.refl v) rfl (by simpa[zc] using r)⟩
 |_=>exact(show False from r).elim
theorem Cb:hc X (e_ .IsNot) (zc true):=by
 refine⟨_,⟨PT⟩,λ x y ff iI G H az Q v a4 be r F=>?_⟩
 cases y with
 |bE=>cases be;exact⟨rfl,by rw[JI a4];exact F (.aW _) G _ H (.refl v) rfl (by simpa[zc] using r)⟩
 |_=>exact(show False from r).elim
theorem zd{K:a8}{H:au}{ds:List D}{ae:List V}{i:Int}{d:D}(r:bR K H ds ae)(h:gC ds i=some d):∃ v,gC ae i=some v/\cQ K H d v:=by
 unfold gC at h ⊢;rw[r.len]
 cases e:mY ds.length i with
 |none=>rw[e]at h;cases h
 | some j=>
  rw[e]at h;exact r.get h
theorem ze{ds:List D}{i:Int}{G:aY}{Q:dg}(h:oi ds i G Q):∃ d,gC ds i=some d/\Q d G:=by
 unfold oi at h;rw[JA]at h;split at h
 ·next d e=>exact⟨d,e,h⟩
 ·exact h.elim
noncomputable def ln:ju:=λ x y G Q=>match x,y with
 |.tup ds,.int i=>oi ds i G Q
 |.ref l,.int i=>hy G l λ ds=>oi ds i G Q
 |.d6 ds,.int i=>oi ds i G Q
 |.str z,.int i=>z.length<=sizeLine/\∃ c,gC z.cps.toList i=some c/\Q (.str ⟨#[c]⟩) G
 |_,_=>False
theorem ti{ds:List D}{i:Int}{G:aY}{Q:dg}{d:D}(h:gC ds i=some d)(q:Q d G):ln (.tup ds) (.int i) G Q:=tf h q
theorem JJ{ds:List D}{i:Int}{G:aY}{Q:dg}{d:D}(h:gC ds i=some d)(q:Q d G):ln (.d6 ds) (.int i) G Q:=tf h q
theorem U5{l:Addr}{ds:List D}{i:Int}{G:aY}{Q:dg}{d:D}(aH:G l=some (.lst ds))(h:gC ds i=some d)(q:Q d G):ln (.ref l) (.int i) G Q:=dc aH (tf h q)
theorem bV:B3 X ln:=by
 refine⟨_,⟨HS⟩,λ x y ff iI G H az Q v a4 be r F=>?_⟩
 cases x with
 | tup ds=>
  cases y with
  | int i=>
   cases be;obtain⟨l,ae,rfl,s,en⟩:=a4;obtain⟨d,hd,q⟩:=ze r;obtain⟨u,br,ad⟩:=zd en hd;exact .inr (.inl ⟨l,ae,i,u,rfl,rfl,s,br,F d G u H (.refl v) ad q⟩)
  |_=>exact(show False from r).elim
 | ref l=>
  cases y with
  | int i=>
   cases a4;cases be;obtain⟨ds,ae,k,s,en⟩:=i3 v r;obtain⟨d,hd,q⟩:=ze k;obtain⟨u,br,ad⟩:=zd en hd;exact .inl ⟨l,ae,i,u,rfl,rfl,s,br,F d G u H (.refl v) ad q⟩
  |_=>exact(show False from r).elim
 | d6 ds=>
  cases y with
  | int i=>
   cases be;obtain⟨l,ae,rfl,s,en⟩:=a4;obtain⟨d,hd,q⟩:=ze r;obtain⟨u,br,ad⟩:=zd en hd;exact .inl ⟨l,ae,i,u,rfl,rfl,s.d7,br,F d G u H (.refl v) ad q⟩
  |_=>exact(show False from r).elim
 | str z=>
  cases y with
  | int i=>
   cases a4;cases be;obtain⟨hz,c,aE,q⟩:=r;exact .inr (.inr ⟨z,i,c,rfl,rfl,hz,aE,F (.str ⟨#[c]⟩) G _ H (.refl v) rfl q⟩)
  |_=>exact(show False from r).elim
 |_=>exact(show False from r).elim
noncomputable def U6:D->Option Int->Option Int->aY->dg->Prop:=λ x lo ar G Q=>match x with
 |.tup ds=>Q (.tup (cut ds lo ar)) G
 |.ref l=>hy G l λ ds=>∀ p,G p=none->Q (.ref p) (up G p (.lst (cut ds lo ar)))
 |.d6 ds=>∀ p,G p=none->Q (.ref p) (up G p (.lst (cut ds lo ar)))
 |_=>False
theorem lp:Jx X U6:=by
 refine⟨_,⟨RY.or QD⟩,λ x ff lo ar G H az Q v a4 r F=>?_⟩
 cases x with
 | tup ds=>
  obtain⟨l,ae,rfl,s,en⟩:=a4;refine .inl ⟨l,ae,rfl,s,λ t aQ zf st=>?_⟩;have g:=Go.grow v zf;exact F (.tup (cut ds lo ar)) G _ _ g ⟨t,_,rfl,st,(en.cut lo ar).mono g.tup⟩ r
 | ref l=>
  cases a4;obtain⟨ds,ae,k,s,en⟩:=i3 v r;exact .inr ⟨l,ae,rfl,s,λ p ax=>F (.ref p) _ _ _ (Go.pO v ax (en.cut lo ar)) rfl (k p (v.none ax))⟩
 | d6 ds=>
  obtain⟨l,ae,rfl,s,en⟩:=a4;exact .inr ⟨l,ae,rfl,s.d7,λ p ax=>F (.ref p) _ _ _ (Go.pO v ax (en.cut lo ar)) rfl (r p (v.none ax))⟩
 |_=>exact(show False from r).elim
noncomputable def kI:D->Bool
 |.bE=>true
 |.aW _=>true
 |.int _=>true
 |.str _=>true
 |_=>false
noncomputable def toV:D->V
 |.bE=>.bE
 |.aW b=>.aW b
 |.int i=>.int i
 |.str x=>.str x
 |_=>.bE
theorem Cc{K:a8}{H:au}{d:D}{v:V}(a:cQ K H d v)(h:kI d=true):v=toV d/\m1 v=true:=by
 cases d with
 |bE=>cases a;exact⟨rfl,rfl⟩
 |aW b=>cases a;exact⟨rfl,rfl⟩
 |int b=>cases a;exact⟨rfl,rfl⟩
 |str b=>cases a;exact⟨rfl,rfl⟩
 |_=>exact absurd h (by simp[kI])
theorem toVs{K:a8}{H:au}:∀{ds:List D}{ae:List V},bR K H ds ae->ds.all kI=true->ae=ds.map toV/\ae.all m1=true
 |[],_,r,_=>by cases r;exact⟨rfl,rfl⟩
 | _::_,_,⟨v,r,e,q,l⟩,h=>by
  subst e;rw[jk,fh]at h;obtain⟨ag,ai⟩:=Cc q h.1;obtain⟨aT,b6⟩:=toVs l h.2;exact⟨by rw[cV,<- ag,<- aT],by rw[jk,ai,b6];rfl⟩
noncomputable def zg:D->D->Bool
 |.bE,.bE=>true
 |.aW a,.aW b=>a==b
 |.aW a,.int b=>(if a then 1 else 0)==b
 |.int a,.aW b=>a==(if b then 1 else 0)
 |.int a,.int b=>a==b
 |.str a,.str b=>a==b
 |_,_=>false
theorem U7{x y:D}(aA:kI x=true)(bj:kI y=true):n8 (toV x) (toV y)=zg x y:=by
 cases x<;>cases y<;>first|rfl|(simp[kI]at aA;done)|(simp[kI]at bj;done)
noncomputable def pW(x:D)(ds:List D):Bool:=ds.any λ y=>zg y x
theorem Cd{x:D}(aA:kI x=true):∀{ds:List D},ds.all kI=true->yy (toV x) (ds.map toV)=pW x ds
 |[],_=>rfl
 | d::ds,h=>by
  rw[jk,fh]at h;have bG:=Cd aA h.2;unfold yy pW at *;rw[cV,jG,jG,bG,U7 h.1 aA]
noncomputable def inD(neg:Bool):ju:=λ x y G Q=>match y with
 |.tup ds=>kI x=true/\ds.all kI=true/\Q (.aW (neg ^^ pW x ds)) G
 |.ref l=>hy G l λ ds=>kI x=true/\ds.all kI=true/\Q (.aW (neg ^^ pW x ds)) G
 | .str j=>(match x with
  |.str i=>Q (.aW (neg ^^ !(Builtin.Str.occurrences j i 0 j.length 1).isEmpty)) G
  |_=>False)
 |_=>False
theorem Ce:hc X (e_ .In) (inD false):=by
 refine⟨_,⟨QH.or PR⟩,λ x y ff iI G H az Q v a4 be r F=>?_⟩
 cases y with
 | tup ds=>
  obtain⟨ag,ai,q⟩:=r;obtain⟨l,ae,rfl,s,en⟩:=be;obtain⟨aC,f1⟩:=Cc a4 ag;obtain⟨aF,f2⟩:=toVs en ai;refine .inl ⟨l,ae,rfl,.inr s,f1,f2,?_⟩;rw[aC,aF,Cd ag ai];exact F (.aW _) G _ H (.refl v) rfl (by simpa using q)
 | ref l=>
  cases be;obtain⟨ds,ae,⟨ag,ai,q⟩,s,en⟩:=i3 v r;obtain⟨aC,f1⟩:=Cc a4 ag;obtain⟨aF,f2⟩:=toVs en ai;refine .inl ⟨l,ae,rfl,.inl s,f1,f2,?_⟩;rw[aC,aF,Cd ag ai];exact F (.aW _) G _ H (.refl v) rfl (by simpa using q)
 | str j=>
  cases x with
  |str i=>cases a4;cases be;exact .inr ⟨i,j,rfl,rfl,F (.aW _) G _ H (.refl v) rfl (by simpa[inD] using r)⟩
  |_=>exact(show False from r).elim
 |_=>exact(show False from r).elim
variable{e o:a5}{es:List a5}{aU to:bK}{t:gE}{pos p apos dH:Pos}
noncomputable abbrev JK(r:td)(t:gE):bK:=λ ρ G Q=>t ρ G λ ds aw=>r ds aw Q
theorem gX{x:Str}{id:String}{r:td}(aE:rl X (.builtin id) r)(a3:c8 X x)(hm:X.mg x=none)(bu:XV x=some (.builtin id))(aB:i2 X (e::es) t)(bc:x≠"__name__":=by decide)(gO:(x==("__debug__" : Str))=false:=by decide)
 (av:(e::es).all dz=true:=by rfl):bJ X (.Call (.Name x p) (e::es) [] pos) (JK r t):=by
 obtain⟨ca,cH,cI⟩:=aB.run;obtain⟨pR,om,rc⟩:=aE.run;exact⟨_,Sk om a3 hm bu cH bc gO av,λ ρ G az σ H Q B q F=>cI ρ G _ σ H _ B q λ ds aw ae H1 g1 al _ aG=>rc ds ae aw H1 az Q g1.bB al aG (F.after g1)⟩
theorem vP{x:Str}{T:String}{r:td}(aE:rl X (.type T) r)(a3:c8 X x)(hm:X.mg x=none)(bu:XV x=some (.type T))(aB:i2 X (e::es) t)(bc:x≠"__name__":=by decide)(gO:(x==("__debug__" : Str))=false:=by decide)
 (av:(e::es).all dz=true:=by rfl):bJ X (.Call (.Name x p) (e::es) [] pos) (JK r t):=by
 obtain⟨ca,cH,cI⟩:=aB.run;obtain⟨pR,om,rc⟩:=aE.run;exact⟨_,Sl om a3 hm bu cH bc gO av,λ ρ G az σ H Q B q F=>cI ρ G _ σ H _ B q λ ds aw ae H1 g1 al _ aG=>rc ds ae aw H1 az Q g1.bB al aG (F.after g1)⟩
noncomputable abbrev vQ(r:D->aY->dg->Prop):td:=λ xs G Q=>match xs with
 |[x]=>r x G Q
 |_=>False
noncomputable abbrev zh(r:D->D->aY->dg->Prop):td:=λ xs G Q=>match xs with
 |[x,y]=>r x y G Q
 |_=>False
theorem Cf{K:a8}{H:au}{r:D->aY->dg->Prop}{xs:List D}{ae:List V}{G:aY}{Q:dg}(h:vQ r xs G Q)(a:bR K H xs ae):∃ x v,xs=[x]/\ae=[v]/\cQ K H x v/\r x G Q:=by
 unfold vQ at h;split at h
 ·obtain⟨v,r,rfl,q,l⟩:=a;cases l;exact⟨_,v,rfl,rfl,q,h⟩
 ·exact h.elim
theorem JL{K:a8}{H:au}{r:D->D->aY->dg->Prop}{xs:List D}{ae:List V}{G:aY}{Q:dg}(h:zh r xs G Q)(a:bR K H xs ae):∃ x y v u,xs=[x,y]/\ae=[v,u]/\cQ K H x v/\cQ K H y u/\r x y G Q:=by
 unfold zh at h;split at h
 ·obtain⟨v,r,rfl,q,u,bD,rfl,bv,l⟩:=a;cases l;exact⟨_,_,v,u,rfl,rfl,q,bv,h⟩
 ·exact h.elim
noncomputable def U8:D->aY->dg->Prop:=λ x G Q=>match x with
 |.tup ds=>Q (.int ds.length) G
 |.ref l=>hy G l λ ds=>Q (.int ds.length) G
 |.d6 ds=>Q (.int ds.length) G
 |.str z=>z.length<=sizeLine/\Q (.int z.length) G
 |_=>False
theorem kJ:rl X (.builtin "len") (vQ U8):=by
 refine⟨_,⟨QI.or QJ⟩,λ xs ae G H az Q v a r F=>?_⟩;obtain⟨x,u,rfl,rfl,a4,r⟩:=Cf r a
 cases x with
 | tup ds=>
  obtain⟨l,ws,rfl,s,en⟩:=a4;exact .inl ⟨l,ws,rfl,.inr s,by rw[en.len];exact F (.int ds.length) G _ H (.refl v) rfl r⟩
 | ref l=>
  cases a4;obtain⟨ds,ws,k,s,en⟩:=i3 v r;exact .inl ⟨l,ws,rfl,.inl s,by rw[en.len];exact F (.int ds.length) G _ H (.refl v) rfl k⟩
 | d6 ds=>
  obtain⟨l,ws,rfl,s,en⟩:=a4;exact .inl ⟨l,ws,rfl,.inl s.d7,by rw[en.len];exact F (.int ds.length) G _ H (.refl v) rfl r⟩
 |str z=>cases a4;exact .inr ⟨z,rfl,r.1,F (.int z.length) G _ H (.refl v) rfl r.2⟩
 |_=>exact(show False from r).elim
noncomputable def U9:D->aY->dg->Prop:=λ x G Q=>match x with
 |.tup ds=>Q (.tup ds) G
 |.ref l=>hy G l λ ds=>Q (.tup ds) G
 |_=>False
theorem vR:rl X (.type "tuple") (vQ U9):=by
 refine⟨_,⟨QK⟩,λ xs ae G H az Q v a r F=>?_⟩;obtain⟨x,u,rfl,rfl,a4,r⟩:=Cf r a
 cases x with
 | tup ds=>
  obtain⟨l,ws,rfl,s,en⟩:=a4;exact⟨l,ws,rfl,.inr ⟨s,F (.tup ds) G _ H (.refl v) ⟨l,ws,rfl,s,en⟩ r⟩⟩
 | ref l=>
  cases a4;obtain⟨ds,ws,k,s,en⟩:=i3 v r;refine⟨l,ws,rfl,.inl ⟨s,λ p ax=>?_⟩⟩;have g:=Go.lW (o:=.tup ws) v ax;exact F (.tup ds) G _ _ g ⟨p,ws,rfl,.of eC,en.mono g.tup⟩ k
 |_=>exact(show False from r).elim
noncomputable def pX:List D->Option (List Int)
 |[]=>some []
 |.int i::r=>(pX r).map (i::·)
 |_::_=>none
theorem Cg:∀{ds:List D}{ns:List Int},pX ds=some ns->ds=ns.map D.int
 |[],ns,h=>by cases h;rfl
 | d::r,ns,h=>by
  cases d with
  | int i=>
   simp only[pX,pc]at h;obtain⟨ms,ag,rfl⟩:=h;rw[Cg ag];rfl
  |_=>simp[pX]at h
theorem Ch:∀ ns:List Int,pX (ns.map D.int)=some ns
 |[]=>rfl
 |n::ns=>by simp[pX,Ch ns]
end
end L3
namespace L2
open PySem PySem.Spec PyProof.Rows
noncomputable def JM(K:a8)(ec:TE):TI:=λ σ H R=>ec σ H λ x H1=>∃ a,x=.ref a/\(((∃ xs,eh K H1 a xs)/\R (uU K a) H1)\/((∃ xs,dk K H1 a xs)/\R (uV K a) H1))
theorem U_{X:a0}{bd l:a5}{ec:TE}(aH:bO X l ec):lO X bd l (JM X.K ec):=by
 intro pins s σ H R I h;refine bU (aH pins s σ H _ I h) λ v s1 xz=>?_;obtain⟨x,H1,aZ,bf,aG⟩:=xz;obtain⟨a,e,aG⟩:=aG;subst e;cases bf;rcases aG with⟨⟨xs,aV⟩,q⟩|⟨⟨xs,aV⟩,q⟩
 ·obtain⟨aP,a9,p,hz⟩:=aZ.list aV;refine AI p.isList ?_;refine⟨s1.heap.objs.size,[s1.heap.objs.size],_,_,H1,rfl,aZ.kept (t':=s1.toks) λ b o e=>cc _ e,Pt a _,⟨_,dK _ rfl,rfl,rfl⟩,λ b af=>?_,q⟩
  have e:b=s1.heap.objs.size:=by simpa using af
  subst e;exact aZ.lN (ZB _) (aZ.bt.fresh (ZB _))
 ·obtain⟨aP,a9,p,hz⟩:=aZ.tuple aV;refine Vs (show s1.heap.IsTuple a aP.toArray from p) ?_;refine⟨s1.heap.objs.size,[s1.heap.objs.size],_,_,H1,rfl,aZ.kept (t':=s1.toks) λ b o e=>cc _ e,Pu a _,⟨_,dK _ rfl,rfl,rfl⟩,λ b af=>?_,q⟩
  have e:b=s1.heap.objs.size:=by simpa using af
  subst e;exact aZ.lN (ZB _) (aZ.bt.fresh (ZB _))
end L2
namespace L3
open PySem PySem.Spec L2
section
variable{X:a0}{a b c e o i bd iter:a5}{es:List a5}{bw b4 aU to d3:bK}{t:gE}{pos p apos dH:Pos}
structure j1 where
 items:List D
 held:aY->Prop
noncomputable abbrev i4:=el->aY->(j1->aY->Prop)->Prop
noncomputable def zi(K:a8)(J:j1)(jw:hp)(G:aY)(H:au):Prop:=∀ aw H1,Go K G H aw H1->J.held aw →
 (∀(i:Nat)(d:D),J.items[i]?=some d->jw.go i H1/\∀ x ak,jw.n1 i H1 x ak->Go K aw H1 aw ak/\cQ K ak d x)/\∀ i,J.items.length<=i->jw.stop i H1
structure ni(X:a0)(bd iter:a5)(c2:i4):Prop where
 run:∃ JN:TI,m6 X bd iter JN/\∀ ρ G i5 σ H R,dI X.K ρ G σ H->c2 ρ G i5->(∀ J jw am ak,Go X.K G H am ak->zi X.K J jw am ak->i5 J am->R jw ak)->JN σ H R
@[irreducible] noncomputable def vS(G:aY)(l:Addr)(k:j1->Prop):Prop:=match G l with
 |some (.lst ds)=>k ⟨ds,λ G=>G l=some (.lst ds)⟩
 |_=>False
noncomputable abbrev Va(bw:bK):i4:=λ ρ G R=>bw ρ G λ x aw=>match x with
 |.tup ds=>R ⟨ds,λ _=>True⟩ aw
 |.ref l=>vS aw l λ J=>R J aw
 |.d6 ds=>R ⟨ds,λ _=>True⟩ aw
 |_=>False
theorem lq{G:aY}{l:Addr}{k:j1->Prop}{ds:List D}(h:G l=some (.lst ds))(q:k ⟨ds,λ G=>G l=some (.lst ds)⟩):vS G l k:=by unfold vS;rw[h];exact q
theorem Vb{K:a8}{ds:List D}{ae:List V}{l:Addr}{aw:aY}{H1:au}(v:d1 K aw H1)(s:dk K H1 l ae)(r:bR K H1 ds ae) :
 (∀(i:Nat)(d:D),ds[i]?=some d->(uV K l).go i H1/\∀ x ak,(uV K l).n1 i H1 x ak->Go K aw H1 aw ak/\cQ K ak d x)/\∀ i,ds.length<=i->(uV K l).stop i H1:=by
 refine⟨λ i d hd=>?_,λ i ar=>⟨ae,s,by rw[r.len];exact ar⟩⟩;obtain⟨w,hw,jx⟩:=r.get hd;refine⟨⟨ae,w,s,hw⟩,λ x ak y=>?_⟩;obtain⟨rfl,y⟩:=y;have z:=y ae s;rw[hw]at z;cases z;exact⟨.refl v,jx⟩
theorem JO{K:a8}{ds:List D}{ae:List V}{l:Addr}{aw:aY}{H1:au}(v:d1 K aw H1)(s:eh K H1 l ae)(r:bR K H1 ds ae) :
 (∀(i:Nat)(d:D),ds[i]?=some d->(uU K l).go i H1/\∀ x ak,(uU K l).n1 i H1 x ak->Go K aw H1 aw ak/\cQ K ak d x)/\∀ i,ds.length<=i->(uU K l).stop i H1:=by
 refine⟨λ i d hd=>?_,λ i ar=>⟨ae,s,by rw[r.len];exact ar⟩⟩;obtain⟨w,hw,jx⟩:=r.get hd;refine⟨⟨ae,w,s,hw⟩,λ x ak y=>?_⟩;obtain⟨rfl,y⟩:=y;have z:=y ae s;rw[hw]at z;cases z;exact⟨.refl v,jx⟩
theorem Vc{bg:TE}(aH:cL X a bg):m6 X bd a (JM X.K bg):=⟨U_ aH.run⟩
theorem ig(aB:bJ X a bw):ni X bd a (Va bw):=by
 obtain⟨ca,cH,cI⟩:=aB.run;refine⟨_,Vc cH,λ ρ G i5 σ H R B q F=>cI ρ G _ σ H _ B q λ x aw v H1 g1 a4 aG=>?_⟩
 cases x with
 | tup ds=>
  obtain⟨l,ae,rfl,s,r⟩:=a4;exact⟨l,rfl,.inr ⟨⟨ae,s⟩,F ⟨ds,λ _=>True⟩ _ aw H1 g1 (λ a_ aQ g2 _=>Vb g2.bB (g2.tup.cj _ _ s) (r.mono g2.tup)) aG⟩⟩
 | ref l=>
  cases a4;refine⟨l,rfl,.inl ?_⟩
  replace aG:vS aw l λ J=>i5 J aw:=aG
  unfold vS at aG;split at aG
  ·next ds hd=>
   obtain⟨ae,z,r⟩:=g1.bB _ _ hd;refine⟨⟨ae,.of z⟩,F ⟨ds,λ G=>G l=some (.lst ds)⟩ _ aw H1 g1 (λ a_ aQ g2 ai=>?_) aG⟩;obtain⟨us,c7,bD⟩:=g2.bB _ _ ai;exact JO g2.bB (.of c7) bD
  ·exact aG.elim
 | d6 ds=>
  obtain⟨l,ae,rfl,s,r⟩:=a4;exact⟨l,rfl,.inl ⟨⟨ae,s.d7⟩,F ⟨ds,λ _=>True⟩ _ aw H1 g1 (λ a_ aQ g2 _=>JO g2.bB (g2.tup.fr _ _ s).d7 (r.mono g2.tup)) aG⟩⟩
 |_=>exact(show False from aG).elim
noncomputable def j2(lo:Int)(n:Nat):List D:=(fg n).map λ(i:Nat)=>D.int (lo+(i:Int))
theorem vT{lo:Int}{n i:Nat}{d:D}(h:(j2 lo n)[i]?=some d):i<n/\d=.int (lo+i):=by
 unfold j2 at h;rw[dF]at h;by_cases c:i<n
 ·rw[uA c]at h;simp at h;exact⟨c,h.symm⟩
 ·rw[kj (by simpa using c)]at h;cases h
theorem vU{lo:Int}{n:Nat}:(j2 lo n).length=n:=by simp[j2]
@[irreducible] noncomputable def vV(r:List D->Option (Int×Nat))(ds:List D)(k:Int->Nat->Prop):Prop:=match r ds with
 |some (lo,n)=>k lo n
 |none=>False
noncomputable abbrev Vd(r:List D->Option (Int×Nat))(t:gE):i4:=λ ρ G R=>t ρ G λ ds aw=>vV r ds λ lo n=>R ⟨j2 lo n,λ _=>True⟩ aw
noncomputable def zj(i:Int):Bool:=decide (-(2 ^ 62)<=i)&&decide (i<2 ^ 62)
noncomputable def vW:List D->Option (Int×Nat)
 |[.int j]=>if zj j=true then some (0,j.toNat) else none
 |_=>none
theorem vX{i:Int}:zj i=true ↔ -(2 ^ 62)<=i/\i<2 ^ 62:=by unfold zj;simp
theorem Ve{K:a8}{lo:Int}{n:Nat}{aw:aY}{H1:au}(v:d1 K aw H1) :
 (∀(i:Nat)(d:D),(j2 lo n)[i]?=some d->(sK lo n).go i H1/\∀ x ak,(sK lo n).n1 i H1 x ak->Go K aw H1 aw ak/\cQ K ak d x)/\∀ i,(j2 lo n).length<=i->(sK lo n).stop i H1:=by
 refine⟨λ i d hd=>?_,λ i ar=>by rw[vU]at ar;exact ar⟩;obtain⟨ag,rfl⟩:=vT hd;refine⟨ag,λ x ak y=>?_⟩;obtain⟨rfl,rfl⟩:=y;exact⟨.refl v,rfl⟩
theorem Vf{ds:List D}{lo:Int}{n:Nat}(h:vW ds=some (lo,n)):∃ j,ds=[.int j]/\(-(2 ^ 62)<=j/\j<2 ^ 62)/\lo=0/\n=j.toNat:=by
 unfold vW at h;split at h
 ·next j=>
  split at h
  ·next c=>cases h;exact⟨j,rfl,vX.mp c,rfl,rfl⟩
  ·cases h
 ·cases h
theorem tj{j:Int}{k:Int->Nat->Prop}(h:-(2 ^ 62)<=j/\j<2 ^ 62)(q:k 0 j.toNat):vV vW [.int j] k:=by
 have e:vW [.int j]=some (0,j.toNat):=if_pos (vX.mpr h);unfold vV;rw[e];exact q
theorem Vg{r:List D->Option (Int×Nat)}{ds:List D}{R:j1->aY->Prop}{G:aY}(h:vV r ds λ lo n=>R ⟨j2 lo n,λ _=>True⟩ G):∃ lo n,r ds=some (lo,n)/\R ⟨j2 lo n,λ _=>True⟩ G:=by
 unfold vV at h;split at h
 ·next lo n e=>exact⟨lo,n,e,h⟩
 ·exact h.elim
theorem vY(a3:c8 X "range")(hm:X.mg "range"=none)(aB:i2 X [a] t)(av:dz a=true:=by rfl):ni X bd (.Call (.Name "range" p) [a] [] pos) (Vd vW t):=by
 obtain⟨ca,cH,cI⟩:=aB.run;refine⟨_,SA a3 hm cH av,λ ρ G i5 σ H R B q F=>cI ρ G _ σ H _ B q λ ds aw ae H1 g1 al aH aG=>?_⟩;obtain⟨lo,n,e,bv⟩:=Vg aG;obtain⟨j,rfl,c,rfl,rfl⟩:=Vf e;obtain⟨v,r,rfl,oq,l⟩:=al;cases l;cases oq;exact⟨j,rfl,c.1,c.2,F _ _ aw H1 g1 (λ a_ aQ g2 _=>Ve g2.bB) bv⟩
noncomputable def vZ(ar:Int)(n:Nat):List D:=(fg n).map λ(i:Nat)=>D.int (ar - (i:Int))
noncomputable abbrev Vh(t:gE):i4:=λ ρ G R=>t ρ G λ ds aw=>match ds with
 |[.int i,.int j,.int k]=>j=-1/\k=-1/\zj i=true/\R ⟨vZ i (i+1).toNat,λ _=>True⟩ aw
 |_=>False
theorem Ci{lo:Int}{n i:Nat}{d:D}(h:(vZ lo n)[i]?=some d):i<n/\d=.int (lo - i):=by
 unfold vZ at h;rw[dF]at h;by_cases c:i<n
 ·rw[uA c]at h;simp at h;exact⟨c,h.symm⟩
 ·rw[kj (by simpa using c)]at h;cases h
theorem Cj{lo:Int}{n:Nat}:(vZ lo n).length=n:=by simp[vZ]
theorem JP(a3:c8 X "range")(hm:X.mg "range"=none)(aB:i2 X [a,b,c] t)(ag:dz a=true:=by rfl)(ai:dz b=true:=by rfl)(aT:dz c=true:=by rfl):ni X bd (.Call (.Name "range" p) [a,b,c] [] pos) (Vh t):=by
 obtain⟨ca,cH,cI⟩:=aB.run;refine⟨_,SZ a3 hm cH ag ai aT,λ ρ G i5 σ H R B q F=>cI ρ G _ σ H _ B q λ ds aw ae H1 g1 al aH aG=>?_⟩;split at aG
 ·next i j k=>
  obtain⟨rfl,rfl,c,bv⟩:=aG;obtain⟨v,r,rfl,oq,u,bD,rfl,ru,w,qX,rfl,jx,l⟩:=al;cases l;cases oq;cases ru;cases jx;refine⟨i,rfl,vX.mp c,F _ _ aw H1 g1 (λ a_ aQ g2 _=>⟨λ n d hd=>?_,λ n bc=>?_⟩) bv⟩
  ·obtain⟨cW,rfl⟩:=Ci hd;refine⟨cW,λ x ak y=>?_⟩;obtain⟨rfl,rfl⟩:=y;exact⟨.refl g2.bB,rfl⟩
  ·rw[Cj]at bc;exact bc
 ·exact aG.elim
noncomputable def d8(P:el->aY->Prop):el->aY->Prop:=λ ρ G=>∃ ρ' am,vI ρ' ρ/\Sub am G/\P ρ' am
theorem d8.of{P:el->aY->Prop}{ρ:el}{G:aY}(h:P ρ G):d8 P ρ G:=⟨ρ,G,.refl _,.refl _,h⟩
noncomputable abbrev Vi(c2:i4)(g:fQ)(b4:gF):gF:=λ dE ρ G=>c2 ρ G λ J aw=>∃ P:Nat->el->aY->Prop,P 0 ρ aw/\(∀ i ρ G,i<=J.items.length->P i ρ G->J.held G) ∧
 (∀(i:Nat)(d:D)(ρ:el)(G:aY),J.items[i]?=some d->P i ρ G->g d ρ G λ ρ' am=>b4 {dE with nx:=d8 (P (i+1)),ct:=d8 (P (i+1)),bk:=dE.nx} ρ' am)/\∀ ρ G,P J.items.length ρ G->dE.nx ρ G
theorem ih{body:List bC}{c2:i4}{g:fQ}{b4:gF}(ax:se (aK X.prog X.w) X.A X.env X.xe)(aE:X.calm=true)(ar:ni X bd iter c2)(a3:j0 X bd g)(af:l7 X body b4)(av:∀ x,kY iter X.env x=pure x:=by intro _;rfl) :
 jt X (.For bd iter body [] pos) (Vi c2 g b4):=by
 obtain⟨ci,hV,gn⟩:=ar.run;obtain⟨ot,rv,hW⟩:=a3.run;obtain⟨kG,gP,gQ⟩:=af.run;refine⟨_,SL ax aE hV rv gP av,λ dE fe ρ G σ H B q F=>gn ρ G _ σ H _ B q λ J jw aw H1 g1 ok aG=>?_⟩;obtain⟨P,l_,held,turn,done⟩:=aG;refine⟨λ i m σ' ak=>m=J.items.length - i/\i<=J.items.length/\∃ ρ' am,P i ρ' am/\dI X.K ρ' am σ' ak/\Go X.K aw H1 am ak,⟨_,rfl,fV _,ρ,aw,l_,B.go g1,.refl g1.bB⟩,?_⟩;rintro i m σ2 aQ ⟨rfl,ar,ρ2,a_,c_,b2,g2⟩;have dA:=ok a_ aQ g2 (held i ρ2 a_ ar c_);by_cases eO:i<J.items.length
 ·have hd:J.items[i]?=some J.items[i]:=by simp[eO]
  obtain⟨go,v3⟩:=dA.1 i _ hd;refine .inr ⟨go,λ σ' ak=>∃ ρ' am,P (i+1) ρ' am/\dI X.K ρ' am σ' ak/\Go X.K aw H1 am ak,λ σ' ak ⟨ρ',am,cW,c7,eZ⟩=>⟨J.items.length - (i+1),by omega,rfl,eO,ρ',am,cW,c7,eZ⟩,λ x ak y=>?_⟩;obtain⟨g3,a4⟩:=v3 x ak y;refine hW _ x ρ2 a_ _ σ2 ak _ (b2.go g3) a4 (turn i _ ρ2 a_ hd c_) λ ρ4 iL σ4 hs hu ie hU=>?_;have gp:=(g2.trans g3).trans hu
  have again:∀ ρ' am σ' ak,Go X.K iL hs am ak->dI X.K ρ' am σ' ak->d8 (P (i+1)) ρ' am->∃ ρ' am,P (i+1) ρ' am/\dI X.K ρ' am σ' ak/\Go X.K aw H1 am ak:=λ ρ' am σ' ak g' gV ⟨ρ5,ma,s1,s2,w⟩=>
   ⟨ρ5,ma,w,gV.weak s1 s2,(gp.trans g').sub s2⟩
  exact gQ _ _ ρ4 iL σ4 hs ie hU ⟨λ ρ' am σ' ak g' gV w=>again ρ' am σ' ak g' gV w,(F.after ((g1.trans gp))).rt,λ ρ' am σ' ak g' gV w=>F.nx ρ' am σ' ak ((g1.trans gp).trans g') gV w,λ ρ' am σ' ak g' gV w=>again ρ' am σ' ak g' gV w⟩
 ·have e:i=J.items.length:=by omega
  subst e;exact .inl ⟨dA.2 _ (ZB _),F.nx ρ2 a_ σ2 aQ (g1.trans g2) b2 (done ρ2 a_ c_)⟩
noncomputable abbrev Vj(bg:fF)(b4:gF):gF:=λ dE ρ G=>∃ W:Nat->el->aY->Prop,(∃ m,W m ρ G)/\∀ m ρ G,W m ρ G →
 bg ρ G λ b aw=>fH b (b4 {dE with nx:=d8 λ ρ' am=>∃ cZ,cZ<m/\W cZ ρ' am,ct:=d8 λ ρ' am=>∃ cZ,cZ<m/\W cZ ρ' am,bk:=dE.nx} ρ aw) (dE.nx ρ aw)
theorem ou{body:List bC}{bg:fF}{b4:gF}(ax:se (aK X.prog X.w) X.A X.env X.xe)(aE:AT X c bg)(af:l7 X body b4):jt X (.While c body [] pos) (Vj bg b4):=by
 obtain⟨pR,om,rc⟩:=aE.run;obtain⟨kG,gP,gQ⟩:=af.run;refine⟨_,SK ax om gP,λ dE fe ρ G σ H B q F=>?_⟩;obtain⟨W,⟨m0,mW⟩,turn⟩:=q;refine⟨λ m σ' ak=>∃ ρ' am,W m ρ' am/\dI X.K ρ' am σ' ak/\Go X.K G H am ak,⟨m0,ρ,G,mW,B,.refl B.bB⟩,?_⟩;rintro m σ2 aQ ⟨ρ2,a_,h9,b2,g2⟩;refine rc ρ2 a_ _ σ2 aQ _ b2 (turn m ρ2 a_ h9) λ k dv c9 g3 dC=>?_
 cases k with
 | true=>
  refine⟨λ σ' ak=>∃ cZ,cZ<m/\∃ ρ' am,W cZ ρ' am/\dI X.K ρ' am σ' ak/\Go X.K G H am ak,λ σ' ak ⟨cZ,z,ρ',am,cW,c7,eZ⟩=>⟨cZ,z,ρ',am,cW,c7,eZ⟩,?_⟩;have gp:=g2.trans g3
  have again:∀ ρ' am σ' ak,Go X.K dv c9 am ak->dI X.K ρ' am σ' ak->d8 (λ ρ' am=>∃ cZ,cZ<m/\W cZ ρ' am) ρ' am->∃ cZ,cZ<m/\∃ ρ' am,W cZ ρ' am/\dI X.K ρ' am σ' ak/\Go X.K G H am ak:=λ ρ' am σ' ak g' gV ⟨ρ5,ma,s1,s2,cZ,hm,w⟩=>
   ⟨cZ,hm,ρ5,ma,w,gV.weak s1 s2,(gp.trans g').sub s2⟩
  exact gQ _ _ ρ2 dv σ2 c9 (b2.go g3) (dC.1 rfl) ⟨λ ρ' am σ' ak g' gV w=>again ρ' am σ' ak g' gV w,(F.after gp).rt,λ ρ' am σ' ak g' gV w=>F.nx ρ' am σ' ak (gp.trans g') gV w,λ ρ' am σ' ak g' gV w=>again ρ' am σ' ak g' gV w⟩
 |false=>exact F.nx ρ2 dv σ2 c9 (g2.trans g3) (b2.go g3) (dC.2 rfl)
end
end L3
namespace L2
open PySem PySem.Spec PyProof.Rows
theorem cL.imp{X:a0}{e:a5}{t t':TE}(h:cL X e t)(i:∀ σ H Q,t' σ H Q->t σ H Q):cL X e t':=⟨λ pins s σ H Q I q=>h.run pins s σ H Q I (i σ H Q q)⟩
theorem hS.imp{X:a0}{e:a5}{t t':TT}(h:hS X e t)(i:∀ σ H Q,t' σ H Q->t σ H Q):hS X e t':=⟨λ pins s σ H Q I q=>h.run pins s σ H Q I (i σ H Q q)⟩
theorem jr.imp{X:a0}{e:a5}{t t':fX}(h:jr X e t)(i:∀ v σ H Q,t' v σ H Q->t v σ H Q):jr X e t':=⟨λ pins s σ H x v Q I r q=>h.run pins s σ H x v Q I r (i _ _ _ _ q)⟩
end L2
namespace L3
open PySem PySem.Spec L2
section
variable{X:a0}{a b c e o i bd iter elt ct:a5}{es:List a5}{bw b4 aU to d3:bK}{t:gE}{pos p apos dH:Pos}
noncomputable abbrev tl(K:a8)(bg:TE)(t:bK):Prop:=∀ ρ G az σ H Q,dI K ρ G σ H->t ρ G az->Fin K G H az Q->bg σ H Q
noncomputable abbrev Ck(K:a8)(bg:TT)(t:fF):Prop:=∀ ρ G az σ H Q,dI K ρ G σ H->t ρ G az->B1 K G H az Q->bg σ H Q
noncomputable abbrev zk(K:a8)(bg:fX)(t:fQ):Prop:=∀ d v ρ G az σ H Q,dI K ρ G σ H->cQ K H d v->t d ρ G az->B2 K G H az Q->bg v σ H Q
theorem bJ.ov{ι:Type}{cx:ι->a0}{K:a8}(eu:∀ z,(cx z).K=K)(h:∀ z,bJ (cx z) e aU):∃ bg:TE,(∀ z,cL (cx z) e bg)/\tl K bg aU:=by
 have h':∀ z,∃ bg,cL (cx z) e bg/\tl K bg aU:=λ z=>by
  have q:=(h z).run;rw[eu z]at q;exact q
 exact⟨λ σ H Q=>∀ z,Classical.choose (h' z) σ H Q,λ z=>(Classical.choose_spec (h' z)).1.imp λ σ H Q q=>q z,λ ρ G az σ H Q B q F z=>(Classical.choose_spec (h' z)).2 ρ G az σ H Q B q F⟩
theorem AT.ov{ι:Type}{cx:ι->a0}{K:a8}{aU:fF}(eu:∀ z,(cx z).K=K)(h:∀ z,AT (cx z) e aU):∃ bg:TT,(∀ z,hS (cx z) e bg)/\Ck K bg aU:=by
 have h':∀ z,∃ bg,hS (cx z) e bg/\Ck K bg aU:=λ z=>by
  have q:=(h z).run;rw[eu z]at q;exact q
 exact⟨λ σ H Q=>∀ z,Classical.choose (h' z) σ H Q,λ z=>(Classical.choose_spec (h' z)).1.imp λ σ H Q q=>q z,λ ρ G az σ H Q B q F z=>(Classical.choose_spec (h' z)).2 ρ G az σ H Q B q F⟩
theorem j0.ov{ι:Type}{cx:ι->a0}{K:a8}{aU:fQ}(eu:∀ z,(cx z).K=K)(h:∀ z,j0 (cx z) e aU):∃ bg:fX,(∀ z,jr (cx z) e bg)/\zk K bg aU:=by
 have h':∀ z,∃ bg,jr (cx z) e bg/\zk K bg aU:=λ z=>by
  have q:=(h z).run;rw[eu z]at q;exact q
 exact⟨λ v σ H Q=>∀ z,Classical.choose (h' z) v σ H Q,λ z=>(Classical.choose_spec (h' z)).1.imp λ v σ H Q q=>q z,λ d v ρ G az σ H Q B ad q F z=>(Classical.choose_spec (h' z)).2 d v ρ G az σ H Q B ad q F⟩
noncomputable def jy(nt:Nat)(cap:List Nat)(ρ:el):el:=fT nt none++cap.map λ i=>(ρ[i]?).join
theorem zl{nt:Nat}{cap:List Nat}{ρ:el}{i:Nat}{d:D}(h:(jy nt cap ρ)[i]?=some (some d)):nt<=i:=by
 by_cases c:nt<=i
 ·exact c
 ·unfold jy at h;rw[ki (by simpa using c),sj]at h;rw[if_pos (by omega)]at h;cases h
theorem dI.comp{K:a8}{ρ:el}{G:aY}{σ:St}{H:au}(B:dI K ρ G σ H)(nt:Nat)(cap:List Nat):dI K (jy nt cap ρ) G (lT nt cap σ) H:=by
 refine⟨by simp[jy,lT],λ i d h=>?_,B.bB⟩;have ar:=zl h;unfold jy at h;unfold lT;rw[mI (by simpa using ar)]at h ⊢;rw[o6,dF]at h ⊢
 cases e:cap[i - nt]? with
 |none=>rw[e]at h;cases h
 | some k=>
  rw[e]at h
  have h':(ρ[k]?).join=some d:=by simpa using h
  have ai:ρ[k]?=some (some d):=by
   cases q:ρ[k]? with
   |none=>rw[q]at h';cases h'
   | some z=>rw[q]at h';cases z with
    |none=>cases h'
    |some y=>simp at h';rw[h']
  obtain⟨v,aT,b6⟩:=B.st k d ai;exact⟨v,by simp[aT],b6⟩
noncomputable def pY(nt:Nat)(g:fQ):Prop:=∀ d ρ G Q,g d ρ G Q->g d ρ G λ ρ' am=>Q ρ' am/\ρ'.length=ρ.length/\∀ i,nt<=i->ρ'[i]?=ρ[i]?
noncomputable def zm(nt:Nat)(g:lg):Prop:=∀ d ρ G Q,g d ρ G Q->g d ρ G λ ρ' am=>Q ρ' am/\ρ'.length=ρ.length/\∀ i,nt<=i->ρ'[i]?=ρ[i]?
theorem kK{nt k:Nat}(h:k<nt):pY nt (vM k):=λ d ρ G Q q=>⟨q,by simp,λ i ar=>xN (by omega)⟩
theorem Cm{nt:Nat}:zm nt B7:=λ ds ρ G Q q=>by
 cases ds with
 |nil=>exact⟨q,rfl,λ _ _=>rfl⟩
 |cons _ _=>exact(show False from q).elim
noncomputable def Cn(g:fQ):Prop:=∀ d ρ G Q gA,(∀ ρ' am,Q ρ' am->gA ρ' am)->g d ρ G Q->g d ρ G gA
noncomputable def zo(g:lg):Prop:=∀ d ρ G Q gA,(∀ ρ' am,Q ρ' am->gA ρ' am)->g d ρ G Q->g d ρ G gA
theorem ow{k:Nat}:Cn (vM k):=λ _ _ _ _ _ i q=>i _ _ q
theorem tm:zo B7:=λ ds ρ G Q gA i q=>by
 cases ds with
 |nil=>exact i _ _ q
 |cons _ _=>exact(show False from q).elim
theorem Co{g:fQ}{u:lg}(ag:Cn g)(ai:zo u):zo (B8 g u):=λ ds ρ G Q gA i q=>by
 cases ds with
 |nil=>exact(show False from q).elim
 |cons d r=>exact ag d ρ G _ _ (λ ρ' am z=>ai r ρ' am _ _ i z) q
theorem tn{nt:Nat}{g:fQ}{u:lg}(jR:Cn g)(k5:zo u)(ag:pY nt g)(ai:zm nt u):zm nt (B8 g u):=λ ds ρ G Q q=>by
 cases ds with
 |nil=>exact(show False from q).elim
 |cons d r=>exact jR d ρ G _ _ (λ ρ' am ⟨z,cW,c7⟩=>k5 r ρ' am _ _ (λ ρ2 a_ ⟨y,pZ,tp⟩=>⟨y,pZ.trans cW,λ i ar=>(tp i ar).trans (c7 i ar)⟩) (ai r ρ' am Q z)) (ag d ρ G _ q)
theorem Cp{nt:Nat}{u:lg}(h:zm nt u):pY nt (JF u):=λ d ρ G Q q=>by
 cases d with
 |tup ds=>exact h ds ρ G Q q
 |_=>exact(show False from q).elim
noncomputable def nj(P:aY->Prop):aY->Prop:=λ G=>∃ am,Sub am G/\P am
theorem nj.of{P:aY->Prop}{G:aY}(h:P G):nj P G:=⟨G,.refl _,h⟩
@[irreducible] noncomputable def oEq(g:fQ)(aU:bK)(nt:Nat)(cap:List Nat)(ρ:el)(Q:dg)(J:j1)(aw:aY):Prop:=J.items.length<sizeLine/\∃ P:Nat->List D->aY->Prop,P 0 [] aw/\(∀ i ds G,i<=J.items.length->P i ds G->J.held G) ∧
 (∀(i:Nat)(d:D)(ds:List D)(G:aY),J.items[i]?=some d->P i ds G->g d (jy nt cap ρ) G λ ρ3 dv=>aU ρ3 dv λ y iL=>nj (P (i+1) (ds++[y])) iL)/\∀ ds G,P J.items.length ds G->∀ p,G p=none->Q (.ref p) (up G p (.lst ds))
@[irreducible] noncomputable def zp(g:fQ)(bg:fF)(aU:bK)(nt:Nat)(cap:List Nat)(ρ:el)(Q:dg)(J:j1)(aw:aY):Prop:=J.items.length<sizeLine/\∃ P:Nat->List D->aY->Prop,P 0 [] aw/\(∀ i ds G,i<=J.items.length->P i ds G->J.held G) ∧
 (∀(i:Nat)(d:D)(ds:List D)(G:aY),J.items[i]?=some d->P i ds G->g d (jy nt cap ρ) G λ ρ3 dv=>bg ρ3 dv λ b ma=>fH b (aU ρ3 ma λ y iL=>nj (P (i+1) (ds++[y])) iL) (nj (P (i+1) ds) ma))/\∀ ds G,P J.items.length ds G->∀ p,G p=none->Q (.ref p) (up G p (.lst ds))
noncomputable abbrev Cq(c2:i4)(g:fQ)(aU:bK)(nt:Nat)(cap:List Nat):bK:=λ ρ G Q=>c2 ρ G (oEq g aU nt cap ρ Q)
noncomputable abbrev JQ(c2:i4)(g:fQ)(bg:fF)(aU:bK)(nt:Nat)(cap:List Nat):bK:=λ ρ G Q=>c2 ρ G (zp g bg aU nt cap ρ Q)
theorem Vk{g:fQ}{aU:bK}{nt:Nat}{cap:List Nat}{ρ:el}{Q:dg}{J:j1}{aw:aY}(P:Nat->List D->aY->Prop)(hz:J.items.length<sizeLine)(h0:P 0 [] aw)(held:∀ i ds G,i<=J.items.length->P i ds G->J.held G)
 (turn:∀(i:Nat)(d:D)(ds:List D)(G:aY),J.items[i]?=some d->P i ds G->g d (jy nt cap ρ) G λ ρ3 dv=>aU ρ3 dv λ y iL=>nj (P (i+1) (ds++[y])) iL) (done:∀ ds G,P J.items.length ds G->∀ p,G p=none->Q (.ref p) (up G p (.lst ds))):oEq g aU nt cap ρ Q J aw:=by
 unfold oEq;exact⟨hz,P,h0,held,turn,done⟩
theorem p0{α:Type}{J:j1}{aw:aY}{g:fQ}{aU:bK}{nt:Nat}{cap:List Nat}{ρ:el}{Q:dg}(xs:List α)(v4 fn:α->D)(he:J.items=xs.map v4)(hz:xs.length<sizeLine)(held:J.held aw)
 (turn:∀ x∈xs,∀ R:dg,R (fn x) aw->g (v4 x) (jy nt cap ρ) aw λ ρ3 dv=>aU ρ3 dv R) (q:∀ p,aw p=none->Q (.ref p) (up aw p (.lst (xs.map fn)))) :
 oEq g aU nt cap ρ Q J aw:=by
 unfold oEq;refine⟨by rw[he,bL];exact hz,λ i ds G=>G=aw/\ds=(xs.take i).map fn,⟨rfl,rfl⟩,λ i ds G _ h=>h.1 ▸ held,?_,?_⟩
 ·rintro i d ds G hd ⟨rfl,rfl⟩;rw[he,dF]at hd
  cases e:xs[i]? with
  |none=>rw[e]at hd;cases hd
  | some x=>
   rw[e]at hd;cases hd;refine turn x (gj e) _ (nj.of ⟨rfl,?_⟩);rw[jl,e,fN];rfl
 ·rintro ds G ⟨rfl,rfl⟩ p ax;rw[he,bL,k3];exact q p ax
theorem JR{α:Type}{J:j1}{aw:aY}{g:fQ}{bg:fF}{aU:bK}{nt:Nat}{cap:List Nat}{ρ:el}{Q:dg}(xs:List α)(v4:α->D)(fn:α->Option D)(he:J.items=xs.map v4)(hz:xs.length<sizeLine)(held:J.held aw)
 (turn:∀ x∈xs,∀(R:dg)(S:aY->Prop),(∀ y,fn x=some y->R y aw)->(fn x=none->S aw)->g (v4 x) (jy nt cap ρ) aw λ ρ3 dv=>bg ρ3 dv λ b ma=>fH b (aU ρ3 ma R) (S ma)) (q:∀ p,aw p=none->Q (.ref p) (up aw p (.lst (xs.filterMap fn)))) :
 zp g bg aU nt cap ρ Q J aw:=by
 unfold zp;refine⟨by rw[he,bL];exact hz,λ i ds G=>G=aw/\ds=(xs.take i).filterMap fn,⟨rfl,rfl⟩,λ i ds G _ h=>h.1 ▸ held,?_,?_⟩
 ·rintro i d ds G hd ⟨rfl,rfl⟩;rw[he,dF]at hd
  cases e:xs[i]? with
  |none=>rw[e]at hd;cases hd
  | some x=>
   rw[e]at hd;cases hd;refine turn x (gj e) _ _ (λ y bj=>nj.of ⟨rfl,?_⟩) (λ bj=>nj.of ⟨rfl,?_⟩)
   ·rw[jl,e,List.filterMap_append];simp[bj]
   ·rw[jl,e,List.filterMap_append];simp[bj]
 ·rintro ds G ⟨rfl,rfl⟩ p ax;rw[he,bL,k3];exact q p ax
theorem d1.p1{K:a8}{G:aY}{H:au}{acc:Addr}{ys zs:List V}(v:d1 K G H)(h:H acc=some (.lst ys))(n:G acc=su):d1 K G (upd H acc (.lst zs)):=λ a o e=>
 (v a o e).mono (nd h) (bS (by rintro rfl;rw[n]at e;cases e))
theorem Go.p1{K:a8}{G am:aY}{H ak:au}{acc:Addr}{ys zs:List V}(g:Go K G H am ak)(h0:H acc=none)(h:ak acc=some (.lst ys))(n:am acc=none):Go K G H am (upd ak acc (.lst zs)) where
 tup:=⟨λ a xs q=>(nd h).cj a xs (g.tup.cj a xs q),λ a xs q=>(nd h).fr a xs (g.tup.fr a xs q),λ a o q=>(nd (K:=K) h).dq a o (g.tup.dq a o q)⟩
 hT:=λ a o e=>by
  obtain⟨cy,b0⟩:=g.hT a o e;exact⟨cy,by rw[bS (gS e h0)];exact b0⟩
 same:=λ a o e z=>by rw[bS (gS e h0)];exact g.same a o e z
 new:=g.new
 bB:=g.bB.p1 h n
theorem dI.p1{K:a8}{ρ:el}{G:aY}{σ:St}{H:au}{acc:Addr}{ys zs:List V}(B:dI K ρ G σ H)(h:H acc=some (.lst ys))(n:G acc=none):dI K ρ G σ (upd H acc (.lst zs)):=
 ⟨B.len,λ i d e=>let ⟨v,ag,ai⟩:=B.st i d e;⟨v,ag,ai.mono (nd h)⟩,B.bB.p1 h n⟩
theorem Go.held{K:a8}{G am:aY}{H ak:au}{acc:Addr}{ds:List D}{ys:List V}(g:Go K G H am ak)(h0:H acc=none)(h:ak acc=some (.lst ys))(r:bR K ak ds ys):Go K G H (up am acc (.lst ds)) ak where
 tup:=g.tup
 hT:=g.hT
 same:=g.same
 new:=λ a o e z=>by rw[bH (gS e h0)];exact g.new a o e z
 bB:=λ a o e=>by
  by_cases c:a=acc
  ·subst c;rw[bh]at e;cases e;exact⟨ys,h,r⟩
  ·rw[bH c]at e;exact g.bB a o e
theorem JS{K:a8}{ci:TI}{ot:fX}{ce:TE}{c2:i4}{g:fQ}{aU:bK}{nt:Nat}{cap:List Nat}(aI:pY nt g)
 (gn:∀ ρ G i5 σ H R,dI K ρ G σ H->c2 ρ G i5->(∀ J jw am ak,Go K G H am ak->zi K J jw am ak->i5 J am->R jw ak)->ci σ H R) (hW:zk K ot g) (re:tl K ce aU):tl K (u_ ci ot ce nt cap) (Cq c2 g aU nt cap):=by
 intro ρ G az σ H Q B q F;refine gn ρ G _ σ H _ B q λ J jw aw H1 g1 ok aG=>?_;unfold oEq at aG;obtain⟨hsz,P,l_,held,turn,done⟩:=aG;intro acc eK;have ky:=g1.bB.none eK;have v5:=Go.lW (o:=.lst []) g1.bB eK
 refine⟨λ i m ys σ' ak=>m=J.items.length - i/\i<=J.items.length/\∃ ds am,P i ds am/\bR K ak ds ys/\ds.length<=i/\dI K (jy nt cap ρ) am σ' ak/\Go K aw H1 am ak/\am acc=none/\ak acc=some (.lst ys),
  ⟨_,rfl,fV _,[],aw,l_,rfl,ZB _,((B.go g1).comp nt cap).go v5,v5,ky,eC⟩,?_⟩
 rintro i m ys σ2 aQ ⟨rfl,ar,ds,a_,c_,bD,bI,b2,g2,eR,ai⟩;have dA:=ok a_ aQ g2 (held i ds a_ ar c_);by_cases eO:i<J.items.length
 ·have hd:J.items[i]?=some J.items[i]:=by simp[eO]
  obtain⟨go,v3⟩:=dA.1 i _ hd;refine .inr ⟨go,λ x ak y=>?_⟩;obtain⟨g3,a4⟩:=v3 x ak y;refine hW _ x _ a_ _ σ2 ak _ (b2.go g3) a4 (aI _ _ _ _ (turn i _ ds a_ hd c_)) λ ρ4 iL σ4 hs hu ie xz=>?_;obtain⟨hU,zq,zr⟩:=xz;refine re ρ4 iL _ σ4 hs _ ie hU λ z ma u iZ ga rq zt=>?_;obtain⟨lr,hM,v6⟩:=zt;have gp:=(g3.trans hu).trans ga;have dp:=gp.same acc _ ai eR;have v7:=gp.new acc _ ai eR;have ox:=hM.none v7;have js:dI K (jy nt cap ρ) lr σ4 iZ:=(ie.go ga).weak ⟨zq.symm,λ j d e=>by rw[zr j (zl e)];exact e⟩ hM;refine⟨dp,by rw[bD.len];omega,J.items.length - (i+1),by omega,rfl,eO,ds++[z],lr,v6,((bD.mono gp.tup).append (.one rq)).mono (nd dp),by simp;omega,js.p1 dp ox,(((g2.trans gp).sub hM)).p1 eK dp ox,ox,eC⟩
 ·have e:i=J.items.length:=by omega
  subst e;refine .inl ⟨dA.2 _ (ZB _),F (.ref acc) (up a_ acc (.lst ds)) _ _ ((g1.trans g2).held ?_ ai bD) rfl (done ds a_ c_ acc eR)⟩
  cases z:H acc with
  |none=>rfl
  |some o=>obtain⟨cy,b0⟩:=g1.hT acc o z;rw[eK]at b0;cases b0
theorem Vl{K:a8}{ci:TI}{ot:fX}{pR:TT}{ce:TE}{c2:i4}{g:fQ}{bg:fF}{aU:bK}{nt:Nat}{cap:List Nat}(aI:pY nt g)
 (gn:∀ ρ G i5 σ H R,dI K ρ G σ H->c2 ρ G i5->(∀ J jw am ak,Go K G H am ak->zi K J jw am ak->i5 J am->R jw ak)->ci σ H R) (hW:zk K ot g) (rt:Ck K pR bg) (re:tl K ce aU):tl K (va ci ot pR ce nt cap) (JQ c2 g bg aU nt cap):=by
 intro ρ G az σ H Q B q F;refine gn ρ G _ σ H _ B q λ J jw aw H1 g1 ok aG=>?_;unfold zp at aG;obtain⟨hsz,P,l_,held,turn,done⟩:=aG;intro acc eK;have ky:=g1.bB.none eK;have v5:=Go.lW (o:=.lst []) g1.bB eK
 refine⟨λ i m ys σ' ak=>m=J.items.length - i/\i<=J.items.length/\∃ ds am,P i ds am/\bR K ak ds ys/\ds.length<=i/\dI K (jy nt cap ρ) am σ' ak/\Go K aw H1 am ak/\am acc=none/\ak acc=some (.lst ys),
  ⟨_,rfl,fV _,[],aw,l_,rfl,ZB _,((B.go g1).comp nt cap).go v5,v5,ky,eC⟩,?_⟩
 rintro i m ys σ2 aQ ⟨rfl,ar,ds,a_,c_,bD,bI,b2,g2,eR,ai⟩;have dA:=ok a_ aQ g2 (held i ds a_ ar c_);by_cases eO:i<J.items.length
 ·have hd:J.items[i]?=some J.items[i]:=by simp[eO]
  obtain⟨go,v3⟩:=dA.1 i _ hd;refine .inr ⟨go,λ x ak y=>?_⟩;obtain⟨g3,a4⟩:=v3 x ak y;refine hW _ x _ a_ _ σ2 ak _ (b2.go g3) a4 (aI _ _ _ _ (turn i _ ds a_ hd c_)) λ ρ4 iL σ4 hs hu ie xz=>?_;obtain⟨hU,zq,zr⟩:=xz;refine rt ρ4 iL _ σ4 hs _ ie hU λ yG JT iD rb k7=>?_
  cases yG with
  | true=>
   refine re ρ4 JT _ σ4 iD _ (ie.go rb) (k7.1 rfl) λ z ma u iZ ga rq zt=>?_;obtain⟨lr,hM,v6⟩:=zt;have gp:=((g3.trans hu).trans rb).trans ga;have dp:=gp.same acc _ ai eR;have v7:=gp.new acc _ ai eR;have ox:=hM.none v7;have js:dI K (jy nt cap ρ) lr σ4 iZ:=((ie.go rb).go ga).weak ⟨zq.symm,λ j d e=>by rw[zr j (zl e)];exact e⟩ hM;exact⟨dp,by rw[bD.len];omega,J.items.length - (i+1),by omega,rfl,eO,ds++[z],lr,v6,((bD.mono gp.tup).append (.one rq)).mono (nd dp),by simp;omega,js.p1 dp ox,(((g2.trans gp).sub hM)).p1 eK dp ox,ox,eC⟩
  | false=>
   obtain⟨lr,hM,v6⟩:=k7.2 rfl;have gp:=(g3.trans hu).trans rb;have dp:=gp.same acc _ ai eR;have v7:=gp.new acc _ ai eR;have ox:=hM.none v7;have js:dI K (jy nt cap ρ) lr σ4 iD:=(ie.go rb).weak ⟨zq.symm,λ j d e=>by rw[zr j (zl e)];exact e⟩ hM;exact⟨J.items.length - (i+1),by omega,rfl,eO,ds,lr,v6,bD.mono gp.tup,by omega,js,(g2.trans gp).sub hM,ox,dp⟩
 ·have e:i=J.items.length:=by omega
  subst e;refine .inl ⟨dA.2 _ (ZB _),F (.ref acc) (up a_ acc (.lst ds)) _ _ ((g1.trans g2).held ?_ ai bD) rfl (done ds a_ c_ acc eR)⟩
  cases z:H acc with
  |none=>rfl
  |some o=>obtain⟨cy,b0⟩:=g1.hT acc o z;rw[eK]at b0;cases b0
theorem rx{scope:eV}{N':List Str}{nt:Nat}{cap:List Nat}{c2:i4}{g:fQ}(aE:X.calm=true)(ok:fA X scope N' nt cap)(aI:pY nt g)(ar:ni X bd iter c2)(a3:∀ C ex s H,j0 (d4 X scope N' C ex s H) bd g)(he:∀ C ex s H,bJ (d4 X scope N' C ex s H) elt aU)
 (av:∀ x,kY iter X.env x=pure x:=by intro _;rfl):bJ X (.ListComp elt [⟨bd,iter,[],0⟩] scope pos) (Cq c2 g aU nt cap):=by
 obtain⟨ci,hV,gn⟩:=ar.run;obtain⟨ot,rv,hW⟩:=j0.ov (ι:=Addr×List Addr×ay×au) (cx:=λ z=>d4 X scope N' z.1 z.2.1 z.2.2.1 z.2.2.2) (K:=X.K) (λ _=>rfl) λ z=>a3 _ _ _ _;obtain⟨ce,iK,re⟩:=bJ.ov (ι:=Addr×List Addr×ay×au) (cx:=λ z=>d4 X scope N' z.1 z.2.1 z.2.2.1 z.2.2.2) (K:=X.K) (λ _=>rfl) λ z=>he _ _ _ _;exact⟨_,SM aE ok hV (λ C ex s H=>rv (C,ex,s,H)) (λ C ex s H=>iK (C,ex,s,H)) av,JS aI gn hW re⟩
theorem JU{scope:eV}{N':List Str}{nt:Nat}{cap:List Nat}{c2:i4}{g:fQ}{bg:fF}(aE:X.calm=true)(ok:fA X scope N' nt cap)(aI:pY nt g)(ar:ni X bd iter c2)(a3:∀ C ex s H,j0 (d4 X scope N' C ex s H) bd g)(bN:∀ C ex s H,AT (d4 X scope N' C ex s H) ct bg)(he:∀ C ex s H,bJ (d4 X scope N' C ex s H) elt aU)
 (av:∀ x,kY iter X.env x=pure x:=by intro _;rfl):bJ X (.ListComp elt [⟨bd,iter,[ct],0⟩] scope pos) (JQ c2 g bg aU nt cap):=by
 obtain⟨ci,hV,gn⟩:=ar.run;obtain⟨ot,rv,hW⟩:=j0.ov (ι:=Addr×List Addr×ay×au) (cx:=λ z=>d4 X scope N' z.1 z.2.1 z.2.2.1 z.2.2.2) (K:=X.K) (λ _=>rfl) λ z=>a3 _ _ _ _;obtain⟨pR,Vm,rt⟩:=AT.ov (ι:=Addr×List Addr×ay×au) (cx:=λ z=>d4 X scope N' z.1 z.2.1 z.2.2.1 z.2.2.2) (K:=X.K) (λ _=>rfl) λ z=>bN _ _ _ _;obtain⟨ce,iK,re⟩:=bJ.ov (ι:=Addr×List Addr×ay×au) (cx:=λ z=>d4 X scope N' z.1 z.2.1 z.2.2.1 z.2.2.2) (K:=X.K) (λ _=>rfl) λ z=>he _ _ _ _;exact⟨_,sEq aE ok hV (λ C ex s H=>rv (C,ex,s,H)) (λ C ex s H=>Vm (C,ex,s,H)) (λ C ex s H=>iK (C,ex,s,H)) av,Vl aI gn hW rt re⟩
theorem Vn{scope:eV}{N':List Str}{nt:Nat}{cap:List Nat}{c2:i4}{g:fQ}{y:Str}{py pG:Pos}{k:Nat}(aE:X.calm=true)(cn:X.N.Nodup)(bj:X.N[k]?=some y)(aH:Loc X.env.scope y)(ok:fA X scope N' nt cap)(aI:pY nt g)(ar:ni X bd iter c2)(a3:∀ C ex s H,j0 (d4 X scope N' C ex s H) bd g)(he:∀ C ex s H,bJ (d4 X scope N' C ex s H) elt aU)
 (av:∀ x,kY iter X.env x=pure x:=by intro _;rfl) (vt:kZ (.ListComp elt [⟨bd,iter,[],0⟩] scope pos) (some (.Name y py)) pG.line X.env=pure true:=by rfl) (hf:X.fn y=true\/X.env.scope.names.lookup y=some .local:=by first|exact .inl rfl|exact .inr rfl|assumption) :
 jt X (.Assign [.Name y py] (.ListComp elt [⟨bd,iter,[],0⟩] scope pos) pG) (B9 (Cq c2 g aU nt cap) (vM k)):=by
 obtain⟨ci,hV,gn⟩:=ar.run;obtain⟨ot,rv,hW⟩:=j0.ov (ι:=Addr×List Addr×ay×au) (cx:=λ z=>d4 X scope N' z.1 z.2.1 z.2.2.1 z.2.2.2) (K:=X.K) (λ _=>rfl) λ z=>a3 _ _ _ _;obtain⟨ce,iK,re⟩:=bJ.ov (ι:=Addr×List Addr×ay×au) (cx:=λ z=>d4 X scope N' z.1 z.2.1 z.2.2.1 z.2.2.2) (K:=X.K) (λ _=>rfl) λ z=>he _ _ _ _;exact⟨_,S0 aE cn bj aH ok hV (λ C ex s H=>rv (C,ex,s,H)) (λ C ex s H=>iK (C,ex,s,H)) av vt hf,λ dE fe ρ G σ H B q F=>JS aI gn hW re ρ G _ σ H _ B q λ d aw v H1 g1 a aG=>F.nx _ aw _ H1 g1 ((B.go g1).set a k) aG⟩
structure v8(X:a0)(T id:String)(ty:D->aY->Prop)(r:D->List D->aY->dg->Prop):Prop where
 run:∃ rc:V->List V->au->cC->Prop,pF X id rc/\(∀ x v G H,d1 X.K G H->cQ X.K H x v->ty x G->u7 X.K T v H) ∧
  ∀ x xs ff ae G H az Q,d1 X.K G H->cQ X.K H x ff->bR X.K H xs ae->r x xs G az->Fin X.K G H az Q->rc ff ae H Q
noncomputable abbrev Vo(ty:D->aY->Prop)(r:D->List D->aY->dg->Prop)(to:bK)(t:gE):bK:=λ ρ G Q=>to ρ G λ x aw=>ty x aw/\t ρ aw λ xs a_=>r x xs a_ Q
noncomputable abbrev Vp(ty:D->aY->Prop)(r:D->List D->aY->dg->Prop)(to:bK):bK:=λ ρ G Q=>to ρ G λ x aw=>ty x aw/\r x [] aw Q
theorem hX{name:Str}{T id:String}{ty:D->aY->Prop}{r:D->List D->aY->dg->Prop}(lQ:sd T)(slot:jF T name id)(lR:si (.builtin id)=pure (.type "method_descriptor"))(hm:v8 X T id ty r)(aO:bJ X o to)(aB:i2 X [e] t)
 (hP:lA o name X.env (eval o X.env)=eval o X.env:=by rfl) (hQ:(apos.endLine==dH.line)=true:=by rfl) (av:dz e=true:=by rfl):bJ X (.Call (.Attribute o name apos) [e] [] dH) (Vo ty r to t):=by
 obtain⟨co,fG,fb⟩:=aO.run;obtain⟨ca,cH,cI⟩:=aB.run;obtain⟨Vq,Cr,bj,tq⟩:=hm.run;refine⟨_,Sm lQ slot lR Cr fG cH hP hQ av,λ ρ G az σ H Q B q F=>fb ρ G _ σ H _ B q λ x aw v H1 g1 a4 ⟨ag,aG⟩=>⟨bj x v aw H1 g1.bB a4 ag,?_⟩⟩;exact cI ρ aw _ σ H1 _ (B.go g1) aG λ xs a_ ae aQ g2 al _ bv=>tq x xs v ae a_ aQ az Q g2.bB (a4.mono g2.tup) al bv (F.after (g1.trans g2))
theorem p2{name:Str}{T id:String}{ty:D->aY->Prop}{r:D->List D->aY->dg->Prop}(lQ:sd T)(slot:jF T name id)(lR:si (.builtin id)=pure (.type "method_descriptor"))(hm:v8 X T id ty r)(aO:bJ X o to)
 (hP:lA o name X.env (eval o X.env)=eval o X.env:=by rfl) (hQ:(apos.endLine==dH.line)=true:=by rfl):bJ X (.Call (.Attribute o name apos) [] [] dH) (Vp ty r to):=by
 obtain⟨co,fG,fb⟩:=aO.run;obtain⟨Vq,Cr,bj,tq⟩:=hm.run;exact⟨_,Sn lQ slot lR Cr fG hP hQ,λ ρ G az σ H Q B q F=>fb ρ G _ σ H _ B q λ x aw v H1 g1 a4 ⟨ag,aG⟩=>⟨bj x v aw H1 g1.bB a4 ag,tq x [] v [] aw H1 az Q g1.bB a4 rfl aG (F.after g1)⟩⟩
noncomputable def zu:D->aY->Prop:=λ x G=>match x with
 |.ref l=>hy G l λ _=>True
 |_=>False
theorem Cs{K:a8}{x:D}{v:V}{G:aY}{H:au}(w:d1 K G H)(a4:cQ K H x v)(h:zu x G):u7 K "list" v H:=by
 cases x with
 |ref l=>cases a4;obtain⟨ds,ae,_,s,_⟩:=i3 w h;exact .inl ⟨rfl,ae,s⟩
 |_=>exact(show False from h).elim
noncomputable def JV:D->List D->aY->dg->Prop:=λ x xs G Q=>match x,xs with
 |.ref l,[y]=>lh G l λ ds=>ds.length<sizeLine/\Q .bE (up G l (.lst (ds++[y])))
 |_,_=>False
theorem jz:v8 X "list" "list.append" zu JV:=by
 refine⟨_,⟨H0⟩,λ x v G H w a4 h=>Cs w a4 h,λ x xs ff ae G H az Q v a4 al r F=>?_⟩;unfold JV at r;split at r
 ·next l y=>
  cases a4;obtain⟨u,us,rfl,ru,z⟩:=al;cases z;obtain⟨ds,ws,k,aC,ag,bf⟩:=pP v r;exact⟨l,ws,u,rfl,rfl,ag,by rw[bf.len];exact k.1,F .bE _ _ _ (Go.vH v aC (bf.append (.one ru))) rfl k.2⟩
 ·exact r.elim
noncomputable def JW:D->List D->aY->dg->Prop:=λ x xs G Q=>match x,xs with
 |.ref l,[.tup es]=>lh G l λ ds=>ds.length+es.length<=sizeLine/\Q .bE (up G l (.lst (ds++es)))
 |.ref l,[.ref m]=>lh G l λ ds=>lh G m λ es=>ds.length+es.length<=sizeLine/\Q .bE (up G l (.lst (ds++es)))
 |_,_=>False
theorem pF.or{id:String}{r de:V->List V->au->cC->Prop}(h:pF X id r)(h':pF X id de):pF X id (λ x xs H Q=>r x xs H Q\/de x xs H Q):=⟨h.run.or h'.run⟩
theorem zv:v8 X "list" "list.extend" zu JW:=by
 refine⟨_,pF.or ⟨Rx⟩ ⟨QS⟩,λ x v G H w a4 h=>Cs w a4 h,λ x xs ff ae G H az Q v a4 al r F=>?_⟩;unfold JW at r;split at r
 ·next l fw=>
  cases a4;obtain⟨u,us,rfl,⟨m,zs,rfl,s,yL⟩,z⟩:=al;cases z;obtain⟨ds,ws,k,aC,ag,bf⟩:=pP v r;exact .inl ⟨l,m,ws,zs,rfl,rfl,ag,s,by rw[bf.len,yL.len];exact k.1,F .bE _ _ _ (Go.vH v aC (bf.append yL)) rfl k.2⟩
 ·next l m=>
  cases a4;obtain⟨u,us,rfl,ru,z⟩:=al;cases z;cases ru;obtain⟨ds,ws,k,aC,ag,bf⟩:=pP v r;obtain⟨fw,zs,dA,aF,ai,bD⟩:=pP v k;exact .inr ⟨l,m,ws,zs,rfl,rfl,ag,ai,by rw[bf.len,bD.len];exact dA.1,F .bE _ _ _ (Go.vH v aC (bf.append bD)) rfl dA.2⟩
 ·exact r.elim
noncomputable def JX:D->List D->aY->dg->Prop:=λ x xs G Q=>match x,xs with
 |.ref l,[]=>lh G l λ ds=>∃ es d,ds=es++[d]/\Q d (up G l (.lst es))
 |_,_=>False
theorem p3:v8 X "list" "list.pop" zu JX:=by
 refine⟨_,⟨QU⟩,λ x v G H w a4 h=>Cs w a4 h,λ x xs ff ae G H az Q v a4 al r F=>?_⟩;unfold JX at r;split at r
 ·next l=>
  cases a4;cases al;obtain⟨ds,ws,⟨fw,d,rfl,k⟩,aC,ag,bf⟩:=pP v r;have aH:=bf.len
  have hd:(fw++[d])[fw.length]?=some d:=by simp
  obtain⟨u,br,ru⟩:=bf.get hd
  have e:ws.length - 1=fw.length:=by rw[aH];simp
  have bD:bR X.K H fw ws.dropLast:=by
   have z:=bf.take fw.length;rw[List.take_left]at z;rw[List.dropLast_eq_take,e];exact z
  have g:=Go.vH v aC bD;exact⟨l,ws,u,rfl,rfl,ag,by rw[e];exact br,F d _ _ _ g (ru.mono g.tup) k⟩
 ·exact r.elim
noncomputable abbrev cX:=List D->aY->dg->Prop
noncomputable def aX(K:a8)(eo:cX):gm:=λ ae H Q _=>∃ ds G az,bR K H ds ae/\d1 K G H/\eo ds G az/\Fin K G H az Q
noncomputable abbrev JY(eo:cX)(t:gE):bK:=λ ρ G Q=>t ρ G λ ds aw=>eo ds aw Q
theorem cf{k j:Nat}{x:Str}{ps:List Str}{eo:cX}(Gt:Got X.prog X.w X.K X.mg X.base k x ps (aX X.K eo))(aq:eY j X.A)(aI:k<=j)(a3:c8 X x)(aB:i2 X (e::es) t)(gO:(x==("__debug__" : Str))=false:=by decide)
 (av:(e::es).all dz=true:=by rfl):bJ X (.Call (.Name x p) (e::es) [] pos) (JY eo t):=by
 obtain⟨ca,cH,cI⟩:=aB.run;exact⟨_,Sj Gt aq aI a3 cH gO av,λ ρ G az σ H Q B q F=>cI ρ G _ σ H _ B q λ ds aw ae H1 g1 al _ aG=>⟨ds,aw,az,by rw[kh];exact al,g1.bB,aG,F.after g1⟩⟩
noncomputable abbrev Vr(k:Nat)(f:Addr)(eo:cX)(t:gE):bK:=λ ρ G Q=>ρ[k]?=some (some (.ref f))/\JY eo t ρ G Q
theorem Ct(n:Nat){k j:Nat}{f:Addr}{x:Str}{eo:cX}(Gt:q7 X.prog X.w X.K X.mg X.base k f (aX X.K eo))(aq:eY j X.A)(aI:k<=j)(aB:i2 X (e::es) t)(cn:X.N[n]?=some x:=by rfl)(bu:lJ X.env.scope x:=by first|exact Or.inl rfl|exact Or.inr (Or.inl rfl)|exact Or.inr (Or.inr rfl))
 (hd:(x==("__debug__" : Str))=false:=by decide) (eN:(x==("__classdict__" : Str))=false:=by decide) (av:(e::es).all dz=true:=by rfl):bJ X (.Call (.Name x p) (e::es) [] pos) (Vr n f eo t):=by
 obtain⟨ca,cH,cI⟩:=aB.run;refine⟨_,S2 n Gt aq aI cH cn bu hd eN av,λ ρ G az σ H Q B q F=>?_⟩;obtain⟨jX,q⟩:=q;obtain⟨v,ag,ai⟩:=B.st n _ jX;cases ai;exact⟨ag,cI ρ G _ σ H _ B q λ ds aw ae H1 g1 al _ aG=>⟨ds,aw,az,by rw[kh];exact al,g1.bB,aG,F.after g1⟩⟩
noncomputable def bQ(az:dg):dg:=λ d G=>∃ am,Sub am G/\az d am
theorem bQ.of{az:dg}{d:D}{G:aY}(h:az d G):bQ az d G:=⟨G,.refl _,h⟩
noncomputable def ry(N:List Str)(ds:List D):el:=ds.map some++fT (N.length - ds.length) none
theorem JZ{K:a8}{N:List Str}{ds:List D}{ae:List V}{G:aY}{H:au}(r:bR K H ds ae)(v:d1 K G H):dI K (ry N ds) G (L2.jU N ae) H:=by
 have aH:=r.len;refine⟨by simp[ry,L2.jU,aH],λ i d h=>?_,v⟩;unfold ry at h;unfold L2.jU;by_cases c:i<ds.length
 ·rw[ki (by simpa using c),dF]at h;rw[ki (by simpa[aH] using c),dF]
  cases e:ds[i]? with
  |none=>rw[e]at h;cases h
  | some z=>
   rw[e]at h;simp at h;subst h;obtain⟨u,ag,ai⟩:=r.get e;exact⟨u,by rw[ag];rfl,ai⟩
 ·rw[mI (by simpa using c),sj]at h;split at h<;>cases h
theorem dO{P:bZ}{w:bM}{K:a8}{mg:Str->Option Value}{base:bx}{x qual:Str}{st:bC}{f:Addr}{fd:gM}{N ps:List Str}{k:Nat}{eo:cX}(F:c4 K x qual st f fd)(S:df N ps (b9 st))(len:∀ ds G az,eo ds G az->ds.length=ps.length)
 (kt:∀(bF:Value)(A:cK)(outer:List Env)(s:ay)(H:au)(E:iA),eY k (A.deeper (PyProof.Rows.envOfC qual (b9 st) s.heap.objs.size f bF))->∀(ds:List D)(G:aY)(az:dg),eo ds G az →
  ∃ t,l7 (n5 cG P w K mg base N qual (b9 st) f bF A outer s H E).pi (g9 st) t/\t {nx:=λ _ am=>bQ az .bE am,rt:=bQ az} (ry N ds) G):cN P w K mg base cG (k+1) f fd ps (aX K eo):=by
 refine F.SN S (λ ae H Q E h=>?_) (λ bF A outer s H ae Q E aq h=>?_)
 ·obtain⟨ds,G,az,r,_,h,_⟩:=h;rw[r.len];exact len ds G az h
 ·obtain⟨ds,G,az,r,v,h,rz⟩:=h;obtain⟨t,⟨bg,j,imp⟩,q⟩:=kt bF A outer s H E aq ds G az h;refine⟨bg,j,imp _ _ (ry N ds) G (L2.jU N ae) H (JZ r v) q ⟨λ ρ' am σ' ak g b ⟨a_,s2,bv⟩=>rz .bE a_ .bE ak (g.sub s2) rfl bv,λ d am v ak g a ⟨a_,s2,bv⟩=>rz d a_ v ak (g.sub s2) a bv,λ _ _ _ _ _ _ z=>z.elim,λ _ _ _ _ _ _ z=>z.elim⟩⟩
end
mutual
noncomputable def gb:D->D->Bool
 |.bE,.bE=>true
 |.aW a,.aW b=>a==b
 |.aW a,.int b=>(if a then 1 else 0)==b
 |.int a,.aW b=>a==(if b then 1 else 0)
 |.int a,.int b=>a==b
 |.str a,.str b=>a==b
 |.tup xs,.tup ys=>ii xs ys
 |_,_=>false
noncomputable def ii:List D->List D->Bool
 |[],[]=>true
 |x::xs,y::ys=>gb x y&&ii xs ys
 |_,_=>false
end
mutual
noncomputable def D.data:D->Bool
 |.ref _=>false
 |.ty _=>false
 |.d6 _=>false
 |.tup ds=>jA ds
 |_=>true
noncomputable def jA:List D->Bool
 |[]=>true
 |d::ds=>d.data&&jA ds
end
mutual
noncomputable def D.bn:D->Nat
 |.tup ds=>1+ij ds
 |_=>0
noncomputable def ij:List D->Nat
 |[]=>0
 |d::ds=>max d.bn (ij ds)
end
noncomputable def i6(ds es:List D)(j:Nat):Bool:=match ds[j]?,es[j]? with
 |some d,some e=>gb d e
 |_,_=>false
theorem v9:∀(ds es:List D),((fg (min ds.length es.length)).all (i6 ds es)&&ds.length==es.length)=ii ds es
 |[],[]=>by simp[ii]
 |[],e::es=>by simp[ii]
 |d::ds,[]=>by simp[ii]
 | d::ds,e::es=>by
  rw[ii,<- v9 ds es,dt,dt,Nat.succ_min_succ,List.range_succ_eq_map,jk,List.all_map];have ag:i6 (d::ds) (e::es) 0=gb d e:=rfl
  have ai:(i6 (d::ds) (e::es) ∘ Nat.succ)=i6 ds es:=by funext j;simp[i6]
  rw[ag,ai,Bool.and_assoc];congr 2;rw[sv];simp
section
variable{X:a0}{pins:List (Addr×Obj)}{σ:L2.St}{H:au}{s:ay}
mutual
theorem Vt(I:Inv X pins σ H s):∀{d e:D}{v:V},d.data=true->e.data=true->cQ X.K H d v->cQ X.K H e v->d=e
 | .bE,e,v,_,h,a,b=>by
  cases a;cases e<;>first|rfl|(cases b;done)|(obtain⟨_,_,z,_⟩:=b;cases z)
 | .aW _,e,v,_,h,a,b=>by
  cases a;cases e<;>first|(cases b;rfl)|(cases b;done)|(obtain⟨_,_,z,_⟩:=b;cases z)
 | .int _,e,v,_,h,a,b=>by
  cases a;cases e<;>first|(cases b;rfl)|(cases b;done)|(obtain⟨_,_,z,_⟩:=b;cases z)
 | .str _,e,v,_,h,a,b=>by
  cases a;cases e<;>first|(cases b;rfl)|(cases b;done)|(obtain⟨_,_,z,_⟩:=b;cases z)
 |.ref _,_,_,h,_,_,_=>by simp[D.data]at h
 |.ty _,_,_,h,_,_,_=>by simp[D.data]at h
 |.d6 _,_,_,h,_,_,_=>by simp[D.data]at h
 | .tup ds,e,v,h0,h,a,b=>by
  obtain⟨l,ae,rfl,s1,bf⟩:=a
  cases e with
  | tup es=>
   obtain⟨m,us,z,s2,bD⟩:=b;cases z;have e:=I.uR s1 s2;subst e;rw[Cu I (by simpa[D.data] using h0) (by simpa[D.data] using h) bf bD]
  |ref m=>simp[D.data]at h
  |d6 m=>simp[D.data]at h
  |_=>cases b
theorem Cu(I:Inv X pins σ H s):∀{ds es:List D}{ae:List V},jA ds=true->jA es=true->bR X.K H ds ae->bR X.K H es ae->ds=es
 |[],[],_,_,_,_,_=>rfl
 |[],e::es,_,_,_,a,b=>by cases a;obtain⟨_,_,z,_⟩:=b;cases z
 |d::ds,[],_,_,_,a,b=>by cases b;obtain⟨_,_,z,_⟩:=a;cases z
 | d::ds,e::es,ae,ag,ai,⟨v,r,aC,a1,b_⟩,⟨u,q,aF,a2,bI⟩=>by
  subst aC;cases aF;simp only[jA,fh]at ag ai;rw[Vt I ag.1 ai.1 a1 a2,Cu I ag.2 ai.2 b_ bI]
end
mutual
theorem J0:∀{d:D},d.data=true->gb d d=true
 |.bE,_=>rfl
 |.aW _,_=>by simp[gb]
 |.int _,_=>by simp[gb]
 |.str _,_=>by simp[gb]
 |.ref _,h=>by simp[D.data]at h
 |.ty _,h=>by simp[D.data]at h
 |.d6 _,h=>by simp[D.data]at h
 |.tup ds,h=>by rw[gb];exact J1 (by simpa[D.data] using h)
theorem J1:∀{ds:List D},jA ds=true->ii ds ds=true
 |[],_=>rfl
 | d::ds,h=>by
  simp only[jA,fh]at h;rw[ii,J0 h.1,J1 h.2];rfl
end
mutual
theorem Vu(I:Inv X pins σ H s):∀(d e:D)(A:cK)(x y:V)(u v:Value),d.data=true->e.data=true->cQ X.K H d x->cQ X.K H e y->RelV x u->RelV y v->A.units+d.bn<ea->SeqAt.EqAt A s u v (gb d e)
 | .tup ds,e,A,x,y,u,v,hd,he,a4,be,d0,a9,br=>by
  obtain⟨a,ae,rfl,s1,bf⟩:=a4;cases d0;obtain⟨aP,dX,t1,_⟩:=I.tuple s1
  have e1:A.units<ea:=by omega
  cases e with
  |bE=>cases be;cases a9;exact SeqAt.EqAt.tuple_none t1 e1
  |aW b=>cases be;cases a9;exact SeqAt.EqAt.tuple_bool b t1 e1
  |int b=>cases be;obtain⟨t,rfl⟩:=a9;exact SeqAt.EqAt.tuple_int b t t1 e1
  |str b=>cases be;obtain⟨t,rfl⟩:=a9;exact SeqAt.EqAt.tuple_str b t t1 e1
  |ref b=>simp[D.data]at he
  |ty b=>simp[D.data]at he
  |d6 b=>simp[D.data]at he
  | tup es=>
   obtain⟨b,us,rfl,s2,bD⟩:=be;cases a9;by_cases sZ:a=b
   ·subst sZ;have aC:=I.uR s1 s2;subst aC;have aF:=Cu I (by simpa[D.data] using hd) (by simpa[D.data] using he) bf bD;subst aF;rw[J0 hd];exact SeqAt.EqAt.same _
   ·obtain⟨dn,e6,t2,_⟩:=I.tuple s2;have b_:=dX.length;have bI:=e6.length;have jB:=bf.len;have mb:=bD.len;simp only[D.bn]at br
    have z:=SeqAt.RcAt.tuples (A:=A) (e:=i6 ds es) t1 t2 e1 (λ j ag ai=>by
     have q:=tr I ds es A.in1 ae us aP dn (by simpa[D.data] using hd) (by simpa[D.data] using he) bf bD dX e6 (by show A.units+1+ij ds<ea;omega) j (by simpa using ag) (by simpa using ai)
     simpa using q)
    have ts:((fg (min aP.toArray.size dn.toArray.size)).all (i6 ds es)&&aP.toArray.size==dn.toArray.size)=gb (.tup ds) (.tup es):=by
     rw[cS,cS,<- b_,<- bI,jB,mb,v9];rfl
    rw[ts]at z;exact SeqAt.EqAt.of_refs sZ z
 |.ref _,_,_,_,_,_,_,hd,_,_,_,_,_,_=>by simp[D.data]at hd
 |.ty _,_,_,_,_,_,_,hd,_,_,_,_,_,_=>by simp[D.data]at hd
 |.d6 _,_,_,_,_,_,_,hd,_,_,_,_,_,_=>by simp[D.data]at hd
 | .bE,e,A,x,y,u,v,hd,he,a4,be,d0,a9,br=>by
  cases a4;cases d0
  have e1:A.units<ea:=by omega
  cases e with
  |bE=>cases be;cases a9;exact SeqAt.EqAt.same _
  |aW b=>cases be;cases a9;exact SeqAt.EqAt.none_bool b
  |int b=>cases be;obtain⟨t,rfl⟩:=a9;exact SeqAt.EqAt.none_int b t
  |str b=>cases be;obtain⟨t,rfl⟩:=a9;exact SeqAt.EqAt.none_str b t
  |ref b=>simp[D.data]at he
  |ty b=>simp[D.data]at he
  |d6 b=>simp[D.data]at he
  |tup es=>obtain⟨b,us,rfl,s2,bD⟩:=be;cases a9;obtain⟨dn,e6,t2,_⟩:=I.tuple s2;exact SeqAt.EqAt.none_tuple t2 e1
 | .aW a,e,A,x,y,u,v,hd,he,a4,be,d0,a9,br=>by
  cases a4;cases d0
  have e1:A.units<ea:=by omega
  cases e with
  |bE=>cases be;cases a9;exact SeqAt.EqAt.bool_none a
  |aW b=>cases be;cases a9;exact SeqAt.EqAt.bool_bool a b
  |int b=>cases be;obtain⟨t,rfl⟩:=a9;exact SeqAt.EqAt.bool_int a b t
  |str b=>cases be;obtain⟨t,rfl⟩:=a9;exact SeqAt.EqAt.bool_str a b t
  |ref b=>simp[D.data]at he
  |ty b=>simp[D.data]at he
  |d6 b=>simp[D.data]at he
  |tup es=>obtain⟨b,us,rfl,s2,bD⟩:=be;cases a9;obtain⟨dn,e6,t2,_⟩:=I.tuple s2;exact SeqAt.EqAt.bool_tuple a t2 e1
 | .int a,e,A,x,y,u,v,hd,he,a4,be,d0,a9,br=>by
  cases a4;obtain⟨t',rfl⟩:=d0
  have e1:A.units<ea:=by omega
  cases e with
  |bE=>cases be;cases a9;exact SeqAt.EqAt.int_none a t'
  |aW b=>cases be;cases a9;exact SeqAt.EqAt.int_bool a t' b
  |int b=>cases be;obtain⟨t,rfl⟩:=a9;exact SeqAt.EqAt.int_int a t' b t
  |str b=>cases be;obtain⟨t,rfl⟩:=a9;exact SeqAt.EqAt.int_str a t' b t
  |ref b=>simp[D.data]at he
  |ty b=>simp[D.data]at he
  |d6 b=>simp[D.data]at he
  |tup es=>obtain⟨b,us,rfl,s2,bD⟩:=be;cases a9;obtain⟨dn,e6,t2,_⟩:=I.tuple s2;exact SeqAt.EqAt.int_tuple a t' t2 e1
 | .str a,e,A,x,y,u,v,hd,he,a4,be,d0,a9,br=>by
  cases a4;obtain⟨t',rfl⟩:=d0
  have e1:A.units<ea:=by omega
  cases e with
  |bE=>cases be;cases a9;exact SeqAt.EqAt.str_none a t'
  |aW b=>cases be;cases a9;exact SeqAt.EqAt.str_bool a t' b
  |int b=>cases be;obtain⟨t,rfl⟩:=a9;exact SeqAt.EqAt.str_int a t' b t
  |str b=>cases be;obtain⟨t,rfl⟩:=a9;exact SeqAt.EqAt.str_str a t' b t
  |ref b=>simp[D.data]at he
  |ty b=>simp[D.data]at he
  |d6 b=>simp[D.data]at he
  |tup es=>obtain⟨b,us,rfl,s2,bD⟩:=be;cases a9;obtain⟨dn,e6,t2,_⟩:=I.tuple s2;exact SeqAt.EqAt.str_tuple a t' t2 e1
theorem tr(I:Inv X pins σ H s):∀(ds es:List D)(A:cK)(ae us:List V)(aP dn:List Value),jA ds=true->jA es=true->bR X.K H ds ae->bR X.K H es us->Vals ae aP->Vals us dn->A.units+ij ds<ea →
 ∀ j (ag:j<aP.length) (ai:j<dn.length),SeqAt.EqAt A s aP[j] dn[j] (i6 ds es j)
 | [],es,A,ae,us,aP,dn,_,_,e,b0,dX,e6,_,j,ag,ai=>by
  rw[show ae=[] from e]at dX;cases dX;exact absurd ag (by simp)
 | d::ds,[],A,ae,us,aP,dn,_,_,e,b0,dX,e6,_,j,ag,ai=>by
  rw[show us=[] from b0]at e6;cases e6;exact absurd ai (by simp)
 | d::ds,cg::es,A,ae,us,aP,dn,hd,he,⟨v,r,e,q,t⟩,⟨iW,de,b0,h8,t'⟩,dX,e6,br,j,ag,ai=>by
  subst e b0
  cases dX with
  | cons bf rt=>
   cases e6 with
   | cons bD Vv=>
    simp only[ij]at br;simp only[jA,fh]at hd he
    cases j with
    |zero=>exact Vu I d cg A _ _ _ _ hd.1 he.1 q h8 bf bD (by omega)
    | succ j=>
     have z:=tr I ds es A _ _ _ _ hd.2 he.2 t t' rt Vv (by omega) j (by simpa using ag) (by simpa using ai);simpa[i6] using z
end
theorem Vw(I:Inv X pins σ H s)(d e:D)(A:cK)(x y:V)(u v:Value)(hd:d.data=true)(he:e.data=true)(a4:cQ X.K H d x)(be:cQ X.K H e y)(d0:RelV x u)(a9:RelV y v)(br:A.units+d.bn<ea):SeqAt.RcAt A s u v (gb d e):=by
 have e1:A.units<ea:=by omega
 cases d with
 | tup ds=>
  obtain⟨a,ae,rfl,s1,bf⟩:=a4;cases d0;obtain⟨aP,dX,t1,_⟩:=I.tuple s1
  cases e with
  |bE=>cases be;cases a9;exact SeqAt.RcAt.tuple_none t1 e1
  |aW b=>cases be;cases a9;exact SeqAt.RcAt.tuple_bool b t1 e1
  |int b=>cases be;obtain⟨t,rfl⟩:=a9;exact SeqAt.RcAt.tuple_int b t t1 e1
  |str b=>cases be;obtain⟨t,rfl⟩:=a9;exact SeqAt.RcAt.tuple_str b t t1 e1
  |ref b=>simp[D.data]at he
  |ty b=>simp[D.data]at he
  |d6 b=>simp[D.data]at he
  | tup es=>
   obtain⟨b,us,rfl,s2,bD⟩:=be;cases a9;obtain⟨dn,e6,t2,_⟩:=I.tuple s2;have b_:=dX.length;have bI:=e6.length;have jB:=bf.len;have mb:=bD.len;simp only[D.bn]at br
   have z:=SeqAt.RcAt.tuples (A:=A) (e:=i6 ds es) t1 t2 e1 (λ j ag ai=>by
    have q:=tr I ds es A.in1 ae us aP dn (by simpa[D.data] using hd) (by simpa[D.data] using he) bf bD dX e6 (by show A.units+1+ij ds<ea;omega) j (by simpa using ag) (by simpa using ai)
    simpa using q)
   have ts:((fg (min aP.toArray.size dn.toArray.size)).all (i6 ds es)&&aP.toArray.size==dn.toArray.size)=gb (.tup ds) (.tup es):=by
    rw[cS,cS,<- b_,<- bI,jB,mb,v9];rfl
   rw[ts]at z;exact z
 |ref a=>simp[D.data]at hd
 |ty a=>simp[D.data]at hd
 |d6 a=>simp[D.data]at hd
 | bE=>
  cases a4;cases d0
  cases e with
  |bE=>cases be;cases a9;exact SeqAt.RcAt.none_none
  |aW b=>cases be;cases a9;exact SeqAt.RcAt.none_bool b
  |int b=>cases be;obtain⟨t,rfl⟩:=a9;exact SeqAt.RcAt.none_int b t
  |str b=>cases be;obtain⟨t,rfl⟩:=a9;exact SeqAt.RcAt.none_str b t
  |ref b=>simp[D.data]at he
  |ty b=>simp[D.data]at he
  |d6 b=>simp[D.data]at he
  |tup es=>obtain⟨b,us,rfl,s2,bD⟩:=be;cases a9;obtain⟨dn,e6,t2,_⟩:=I.tuple s2;exact SeqAt.RcAt.none_tuple t2 e1
 | aW a=>
  cases a4;cases d0
  cases e with
  |bE=>cases be;cases a9;exact SeqAt.RcAt.bool_none a
  |aW b=>cases be;cases a9;exact SeqAt.RcAt.bool_bool a b
  |int b=>cases be;obtain⟨t,rfl⟩:=a9;exact SeqAt.RcAt.bool_int a b t
  |str b=>cases be;obtain⟨t,rfl⟩:=a9;exact SeqAt.RcAt.bool_str a b t
  |ref b=>simp[D.data]at he
  |ty b=>simp[D.data]at he
  |d6 b=>simp[D.data]at he
  |tup es=>obtain⟨b,us,rfl,s2,bD⟩:=be;cases a9;obtain⟨dn,e6,t2,_⟩:=I.tuple s2;exact SeqAt.RcAt.bool_tuple a t2 e1
 | int a=>
  cases a4;obtain⟨t',rfl⟩:=d0
  cases e with
  |bE=>cases be;cases a9;exact SeqAt.RcAt.int_none a t'
  |aW b=>cases be;cases a9;exact SeqAt.RcAt.int_bool a t' b
  |int b=>cases be;obtain⟨t,rfl⟩:=a9;exact SeqAt.RcAt.int_int a t' b t
  |str b=>cases be;obtain⟨t,rfl⟩:=a9;exact SeqAt.RcAt.int_str a t' b t
  |ref b=>simp[D.data]at he
  |ty b=>simp[D.data]at he
  |d6 b=>simp[D.data]at he
  |tup es=>obtain⟨b,us,rfl,s2,bD⟩:=be;cases a9;obtain⟨dn,e6,t2,_⟩:=I.tuple s2;exact SeqAt.RcAt.int_tuple a t' t2 e1
 | str a=>
  cases a4;obtain⟨t',rfl⟩:=d0
  cases e with
  |bE=>cases be;cases a9;exact SeqAt.RcAt.str_none a t'
  |aW b=>cases be;cases a9;exact SeqAt.RcAt.str_bool a t' b
  |int b=>cases be;obtain⟨t,rfl⟩:=a9;exact SeqAt.RcAt.str_int a t' b t
  |str b=>cases be;obtain⟨t,rfl⟩:=a9;exact SeqAt.RcAt.str_str a t' b t
  |ref b=>simp[D.data]at he
  |ty b=>simp[D.data]at he
  |d6 b=>simp[D.data]at he
  |tup es=>obtain⟨b,us,rfl,s2,bD⟩:=be;cases a9;obtain⟨dn,e6,t2,_⟩:=I.tuple s2;exact SeqAt.RcAt.str_tuple a t' t2 e1
end
section
variable{X:a0}{pins:List (Addr×Obj)}{σ:L2.St}{H:au}{s:ay}
theorem Vx(I:Inv X pins σ H s)(d e:D)(A:cK)(x y:V)(u v:Value)(hd:d.data=true)(he:e.data=true)(a4:cQ X.K H d x)(be:cQ X.K H e y)(d0:RelV x u)(a9:RelV y v)(br:A.units+d.bn<ea):SeqAt.RcNeAt A s u v (!gb d e):=by
 have e1:A.units<ea:=by omega
 cases d with
 | tup ds=>
  obtain⟨a,ae,rfl,s1,bf⟩:=a4;cases d0;obtain⟨aP,dX,t1,_⟩:=I.tuple s1
  cases e with
  |bE=>cases be;cases a9;exact SeqAt.RcNeAt.tuple_none t1 e1
  |aW b=>cases be;cases a9;exact SeqAt.RcNeAt.tuple_bool b t1 e1
  |int b=>cases be;obtain⟨t,rfl⟩:=a9;exact SeqAt.RcNeAt.tuple_int b t t1 e1
  |str b=>cases be;obtain⟨t,rfl⟩:=a9;exact SeqAt.RcNeAt.tuple_str b t t1 e1
  |ref b=>simp[D.data]at he
  |ty b=>simp[D.data]at he
  |d6 b=>simp[D.data]at he
  | tup es=>
   obtain⟨b,us,rfl,s2,bD⟩:=be;cases a9;obtain⟨dn,e6,t2,_⟩:=I.tuple s2;have b_:=dX.length;have bI:=e6.length;have jB:=bf.len;have mb:=bD.len;simp only[D.bn]at br
   have z:=SeqAt.RcNeAt.tuples (A:=A) (e:=i6 ds es) t1 t2 e1 (λ j ag ai=>by
    have q:=tr I ds es A.in1 ae us aP dn (by simpa[D.data] using hd) (by simpa[D.data] using he) bf bD dX e6 (by show A.units+1+ij ds<ea;omega) j (by simpa using ag) (by simpa using ai)
    simpa using q)
   have ts:((fg (min aP.toArray.size dn.toArray.size)).all (i6 ds es)&&aP.toArray.size==dn.toArray.size)=gb (.tup ds) (.tup es):=by
    rw[cS,cS,<- b_,<- bI,jB,mb,v9];rfl
   rw[ts]at z;exact z
 |ref a=>simp[D.data]at hd
 |ty a=>simp[D.data]at hd
 |d6 a=>simp[D.data]at hd
 | bE=>
  cases a4;cases d0
  cases e with
  |bE=>cases be;cases a9;exact SeqAt.RcNeAt.none_none
  |aW b=>cases be;cases a9;exact SeqAt.RcNeAt.none_bool b
  |int b=>cases be;obtain⟨t,rfl⟩:=a9;exact SeqAt.RcNeAt.none_int b t
  |str b=>cases be;obtain⟨t,rfl⟩:=a9;exact SeqAt.RcNeAt.none_str b t
  |ref b=>simp[D.data]at he
  |ty b=>simp[D.data]at he
  |d6 b=>simp[D.data]at he
  |tup es=>obtain⟨b,us,rfl,s2,bD⟩:=be;cases a9;obtain⟨dn,e6,t2,_⟩:=I.tuple s2;exact SeqAt.RcNeAt.none_tuple t2 e1
 | aW a=>
  cases a4;cases d0
  cases e with
  |bE=>cases be;cases a9;exact SeqAt.RcNeAt.bool_none a
  |aW b=>cases be;cases a9;exact SeqAt.RcNeAt.bool_bool a b
  |int b=>cases be;obtain⟨t,rfl⟩:=a9;exact SeqAt.RcNeAt.bool_int a b t
  |str b=>cases be;obtain⟨t,rfl⟩:=a9;exact SeqAt.RcNeAt.bool_str a b t
  |ref b=>simp[D.data]at he
  |ty b=>simp[D.data]at he
  |d6 b=>simp[D.data]at he
  |tup es=>obtain⟨b,us,rfl,s2,bD⟩:=be;cases a9;obtain⟨dn,e6,t2,_⟩:=I.tuple s2;exact SeqAt.RcNeAt.bool_tuple a t2 e1
 | int a=>
  cases a4;obtain⟨t',rfl⟩:=d0
  cases e with
  |bE=>cases be;cases a9;exact SeqAt.RcNeAt.int_none a t'
  |aW b=>cases be;cases a9;exact SeqAt.RcNeAt.int_bool a t' b
  |int b=>cases be;obtain⟨t,rfl⟩:=a9;exact SeqAt.RcNeAt.int_int a t' b t
  |str b=>cases be;obtain⟨t,rfl⟩:=a9;exact SeqAt.RcNeAt.int_str a t' b t
  |ref b=>simp[D.data]at he
  |ty b=>simp[D.data]at he
  |d6 b=>simp[D.data]at he
  |tup es=>obtain⟨b,us,rfl,s2,bD⟩:=be;cases a9;obtain⟨dn,e6,t2,_⟩:=I.tuple s2;exact SeqAt.RcNeAt.int_tuple a t' t2 e1
 | str a=>
  cases a4;obtain⟨t',rfl⟩:=d0
  cases e with
  |bE=>cases be;cases a9;exact SeqAt.RcNeAt.str_none a t'
  |aW b=>cases be;cases a9;exact SeqAt.RcNeAt.str_bool a t' b
  |int b=>cases be;obtain⟨t,rfl⟩:=a9;exact SeqAt.RcNeAt.str_int a t' b t
  |str b=>cases be;obtain⟨t,rfl⟩:=a9;exact SeqAt.RcNeAt.str_str a t' b t
  |ref b=>simp[D.data]at he
  |ty b=>simp[D.data]at he
  |d6 b=>simp[D.data]at he
  |tup es=>obtain⟨b,us,rfl,s2,bD⟩:=be;cases a9;obtain⟨dn,e6,t2,_⟩:=I.tuple s2;exact SeqAt.RcNeAt.str_tuple a t' t2 e1
end
section
variable{X:a0}{a b c e o i bd iter:a5}{es:List a5}{bw b4 aU to d3 bg:bK}{t:gE}{pos p apos dH:Pos}
theorem cA{A:cK}{k:Nat}(aq:eY k A):A.units+200<ea:=by have:=aq.un;omega
noncomputable def zw(K:a8)(f:Bool->Bool):d9:=λ x y H Q=>∃ d e,cQ K H d x/\cQ K H e y/\d.data=true/\e.data=true/\d.bn<=150/\Q (.aW (f (gb d e))) H
noncomputable def Cv(K:a8)(f:Bool->Bool):d9:=λ x y H Q=>∃ l m ae us ds es,x=.ref l/\y=.ref m/\eh K H l ae/\eh K H m us/\bR K H ds ae/\bR K H es us/\jA ds=true/\jA es=true/\ij ds<=150/\Q (.aW (f (ii ds es))) H
theorem Vy(br:X.A.units+200<ea):ei X (e_ .Eq) (zw X.K id):=by
 intro pins s σ H x y v u Q I bl b7 h;obtain⟨d,e,a4,be,hd,he,hz,q⟩:=h;exact Vw I d e X.A x y v u hd he a4 be bl b7 (by omega) X.prog X.w X.xe _ ⟨.aW _,H,I,rfl,q⟩
theorem Vz(br:X.A.units+200<ea):ei X (e_ .NotEq) (zw X.K (!·)):=by
 intro pins s σ H x y v u Q I bl b7 h;obtain⟨d,e,a4,be,hd,he,hz,q⟩:=h;exact Vx I d e X.A x y v u hd he a4 be bl b7 (by omega) X.prog X.w X.xe _ ⟨.aW _,H,I,rfl,q⟩
theorem Cw:∀{ds es:List D},ds.length≠es.length->ii ds es=false
 |[],[],h=>absurd rfl h
 |[],_::_,_=>rfl
 |_::_,[],_=>rfl
 |d::ds,e::es,h=>by rw[ii,Cw (by simpa using h),Bool.and_false]
theorem J2{ds es:List D}(h:ds.length=es.length):(fg ds.length).all (i6 ds es)=ii ds es:=by
 rw[<- v9,<- h,Nat.min_self];simp
theorem VA(br:X.A.units+200<ea):ei X (e_ .Eq) (Cv X.K id):=by
 intro pins s σ H x y v u Q I bl b7 h;obtain⟨l,m,ae,us,ds,es,rfl,rfl,s1,s2,bf,bD,hd,he,hz,q⟩:=h;cases bl;cases b7;obtain⟨aP,dX,t1,_⟩:=I.list s1;obtain⟨dn,e6,t2,_⟩:=I.list s2;have b_:=dX.length;have bI:=e6.length;have jB:=bf.len;have mb:=bD.len;by_cases aH:ds.length=es.length
 ·refine SeqAt.RcAt.lists (e:=i6 ds es) t1.isList t2.isList (by rw[cS,cS];omega) (by omega) (λ j ag ai=>?_) X.prog X.w X.xe _ ⟨.aW _,H,I,?_,q⟩
  ·have q:=tr I ds es X.A.in1 ae us aP dn hd he bf bD dX e6 (by show X.A.units+1+ij ds<ea;omega) j (by simpa using ag) (by simpa using ai);simpa using q
  ·show Value.bool _=Value.bool _;rw[cS,<- b_,jB,J2 aH];rfl
 ·refine SeqAt.RcAt.lists_lengths t1.isList t2.isList (by rw[cS,cS];simp;omega) (by omega) X.prog X.w X.xe _ ⟨.aW _,H,I,?_,q⟩;rw[Cw aH];rfl
theorem VB(br:X.A.units+200<ea):ei X (e_ .NotEq) (Cv X.K (!·)):=by
 intro pins s σ H x y v u Q I bl b7 h;obtain⟨l,m,ae,us,ds,es,rfl,rfl,s1,s2,bf,bD,hd,he,hz,q⟩:=h;cases bl;cases b7;obtain⟨aP,dX,t1,_⟩:=I.list s1;obtain⟨dn,e6,t2,_⟩:=I.list s2;have b_:=dX.length;have bI:=e6.length;have jB:=bf.len;have mb:=bD.len;by_cases aH:ds.length=es.length
 ·refine SeqAt.RcNeAt.lists (e:=i6 ds es) t1.isList t2.isList (by rw[cS,cS];omega) (by omega) (λ j ag ai=>?_) X.prog X.w X.xe _ ⟨.aW _,H,I,?_,q⟩
  ·have q:=tr I ds es X.A.in1 ae us aP dn hd he bf bD dX e6 (by show X.A.units+1+ij ds<ea;omega) j (by simpa using ag) (by simpa using ai);simpa using q
  ·show Value.bool _=Value.bool _;rw[cS,<- b_,jB,J2 aH]
 ·refine SeqAt.RcNeAt.lists_lengths t1.isList t2.isList (by rw[cS,cS];simp;omega) (by omega) X.prog X.w X.xe _ ⟨.aW _,H,I,?_,q⟩;rw[Cw aH];rfl
noncomputable def zx(f:Bool->Bool):ju:=λ x y G Q=>match x,y with
 |.int i,.int j=>Q (.aW (f (i==j))) G
 |.str i,.str j=>Q (.aW (f (i==j))) G
 |.tup _,.str _=>Q (.aW (f false)) G
 |.str _,.tup _=>Q (.aW (f false)) G
 |.ref l,.ref m=>hy G l λ ds=>hy G m λ es=>jA ds=true/\jA es=true/\ij ds<=150/\Q (.aW (f (ii ds es))) G
 |x,y=>x.data=true/\y.data=true/\x.bn<=150/\Q (.aW (f (gb x y))) G
noncomputable def Cx(K:a8)(f:Bool->Bool):d9:=λ x y H Q=>(∃ a ae z,x=.ref a/\dk K H a ae/\y=.str z/\Q (.aW (f false)) H)\/∃ a ae z,y=.ref a/\dk K H a ae/\x=.str z/\Q (.aW (f false)) H
theorem VC(br:X.A.units+200<ea):ei X (e_ .Eq) (Cx X.K id):=by
 intro pins s σ H x y v u Q I bl b7 h;rcases h with⟨a,ae,z,rfl,d7,rfl,q⟩|⟨a,ae,z,rfl,d7,rfl,q⟩
 ·cases bl;obtain⟨t,rfl⟩:=b7;obtain⟨aP,dX,t1,_⟩:=I.tuple d7;exact SeqAt.RcAt.tuple_str z t t1 (by omega) X.prog X.w X.xe _ ⟨.aW false,H,I,rfl,q⟩
 ·cases b7;obtain⟨t,rfl⟩:=bl;obtain⟨aP,dX,t1,_⟩:=I.tuple d7;exact SeqAt.RcAt.str_tuple z t t1 (by omega) X.prog X.w X.xe _ ⟨.aW false,H,I,rfl,q⟩
theorem VD(br:X.A.units+200<ea):ei X (e_ .NotEq) (Cx X.K (!·)):=by
 intro pins s σ H x y v u Q I bl b7 h;rcases h with⟨a,ae,z,rfl,d7,rfl,q⟩|⟨a,ae,z,rfl,d7,rfl,q⟩
 ·cases bl;obtain⟨t,rfl⟩:=b7;obtain⟨aP,dX,t1,_⟩:=I.tuple d7;exact SeqAt.RcNeAt.tuple_str z t t1 (by omega) X.prog X.w X.xe _ ⟨.aW true,H,I,rfl,q⟩
 ·cases b7;obtain⟨t,rfl⟩:=bl;obtain⟨aP,dX,t1,_⟩:=I.tuple d7;exact SeqAt.RcNeAt.str_tuple z t t1 (by omega) X.prog X.w X.xe _ ⟨.aW true,H,I,rfl,q⟩
theorem J3{f:Bool->Bool}{op:oU}(ag:ei X (e_ op) (zw X.K f))(ai:ei X (e_ op) (Cv X.K f))(aT:ei X (e_ op) (Cx X.K f)):hc X (e_ op) (zx f):=by
 refine⟨_,⟨ag.or (ai.or aT)⟩,λ x y ff iI G H az Q v a4 be r F=>?_⟩;have fin:∀ b:Bool,az (.aW b) G->Q (.aW b) H:=λ b q=>F (.aW b) G _ H (.refl v) rfl q
 have gen:x.data=true/\y.data=true/\x.bn<=150/\az (.aW (f (gb x y))) G->zw X.K f ff iI H Q:=λ⟨cW,c7,eZ,gD⟩=>⟨x,y,a4,be,cW,c7,eZ,fin _ gD⟩
 unfold zx at r;split at r
 ·exact .inl (gen ⟨rfl,rfl,fV _,r⟩)
 ·exact .inl (gen ⟨rfl,rfl,fV _,r⟩)
 ·obtain⟨l,ae,rfl,s1,_⟩:=a4;cases be;exact .inr (.inr (.inl ⟨l,ae,_,rfl,s1,rfl,fin _ r⟩))
 ·obtain⟨l,ae,rfl,s1,_⟩:=be;cases a4;exact .inr (.inr (.inr ⟨l,ae,_,rfl,s1,rfl,fin _ r⟩))
 ·cases a4;cases be;obtain⟨ds,ae,ej,s1,bf⟩:=i3 v r;obtain⟨es,us,⟨cW,c7,eZ,dA⟩,s2,bD⟩:=i3 v ej;exact .inr (.inl ⟨_,_,ae,us,ds,es,rfl,rfl,s1,s2,bf,bD,cW,c7,eZ,fin _ dA⟩)
 ·exact .inl (gen r)
theorem dY(br:X.A.units+200<ea):hc X (e_ .Eq) (zx id):=J3 (Vy br) (VA br) (VC br)
theorem v_(br:X.A.units+200<ea):hc X (e_ .NotEq) (zx (!·)):=J3 (Vz br) (VB br) (VD br)
noncomputable abbrev VE(t:bK):bK:=λ ρ G Q=>t ρ G λ d am=>∃ a_,Sub a_ am/\Q d a_
theorem wa(h:bJ X e aU):bJ X e (VE aU):=by
 obtain⟨ca,cH,cI⟩:=h.run;exact⟨_,cH,λ ρ G az σ H Q B q F=>cI ρ G _ σ H _ B q λ d am v ak g a ⟨a_,s2,bv⟩=>F d a_ v ak (g.sub s2) a bv⟩
@[irreducible] noncomputable def atS(ds:List D)(i:Int)(G:aY)(Q:dg):Prop:=oi ds i G Q
theorem Cy{ds:List D}{i:Int}{G:aY}{Q:dg}(h:oi ds i G Q):atS ds i G Q:=by unfold atS;exact h
noncomputable abbrev VF(t:gE)(b4:bK):bK:=λ ρ G Q=>t ρ G λ ds aw=>b4 ρ aw λ y a_=>match y with
 |.int i=>atS ds i a_ Q
 |_=>False
theorem zy{Cz:Pos}(h:i2 X es t)(af:bJ X b b4)(av:yx b)(aH:uD es.length 1000=true:=by rfl):bJ X (.Subscript (.List es Cz) b pos) (VF t b4):=by
 obtain⟨ca,cH,cI⟩:=h.run;obtain⟨kG,gP,gQ⟩:=af.run;refine⟨_,II ⟨HS⟩ (IH cH) gP av,λ ρ G az σ H Q B q F=>cI ρ G _ σ H _ B q λ ds aw ae H1 g1 al bc aG=>⟨by rw[al.len,bc];exact y8 aH,λ p ax=>?_⟩⟩;have g2:=Go.lW (o:=.lst ae) g1.bB ax;have ky:=g1.bB.none ax;refine gQ ρ aw _ σ _ _ ((B.go g1).go g2) aG λ y dv u c9 g3 be dC=>?_;have aT:=g3.same p _ eC ky;split at dC
 ·next i=>
  cases be;unfold atS at dC;obtain⟨d,hd,hU⟩:=ze dC;obtain⟨w,hw,jx⟩:=zd ((al.mono g2.tup).mono g3.tup) hd;exact .inl ⟨p,ae,i,w,rfl,rfl,.of aT,hw,F d dv w c9 ((g1.trans g2).trans g3) jx hU⟩
 ·exact dC.elim
noncomputable def J4(sc:eV)(N:List Str)(scope:eV)(N':List Str)(nt:Nat)(cap:List Nat):Bool:=
 scope.names.all (λ y=>y.2 !=.cell)&&scope.names.all (λ y=>y.2 !=.local||scope.names.lookup y.1==some .local) &&
 scope.names.all (λ y=>y.2 !=.free||(sc.names.lookup y.1==some .cell||sc.names.lookup y.1==some .free))&&N'.length==nt+cap.length &&
 (fg cap.length).all λ j=>match cap[j]?,N'[nt+j]? with
  |some i,some x=>N[i]?==some x&&scope.names.lookup x==some .free
  |_,_=>true
theorem fA.of{scope:eV}{N':List Str}{nt:Nat}{cap:List Nat}(aI:scope.kind=.function)(h:J4 X.env.scope X.N scope N' nt cap=true):fA X scope N' nt cap:=by
 unfold J4 at h;simp only[fh,sk]at h;obtain⟨⟨⟨⟨ag,ai⟩,aT⟩,b6⟩,dp⟩:=h;refine⟨aI,λ y bj=>by simpa using ag y bj,λ y bj e=>?_,λ y bj e=>?_,by simpa using b6,λ j i x bW aA=>?_⟩
 ·have z:=ai y bj;rw[e]at z;simpa using z
 ·have z:=aT y bj;rw[e]at z;simpa using z
 ·have lt:j<cap.length:=by
   rcases qQ j cap.length with z|z
   ·exact z
   ·rw[kj z]at bW;cases bW
  have z:=dp j (o3.mpr lt);rw[bW,aA]at z;simpa using z
noncomputable abbrev VG(to d3:bK):fQ:=λ d ρ G Q=>to ρ G λ x aw=>d3 ρ aw λ y a_=>match x,y with
 |.ref l,.int k=>lh a_ l λ ds=>∃ j,mY ds.length k=some j/\Q ρ (up a_ l (.lst (ds.set j d)))
 |_,_=>False
theorem J5(aO:bJ X o to)(ar:bJ X i d3) (aB:∀ v,WF (.Subscript o i pos) X.env v=(do
 let dG ← jE [v] (eval o X.env)
 let gB ← jE [v,dG] (eval i X.env)
 W1 pos
 jE [v,dG,gB] (uq dG gB v)
 release [v,dG,gB] []):=by intro _;rfl):j0 X (.Subscript o i pos) (VG to d3):=by
 obtain⟨co,fG,fb⟩:=aO.run;obtain⟨ci,hV,gn⟩:=ar.run;refine⟨_,Sz fG hV ⟨Qz⟩ aB,λ d v ρ G az σ H Q B ad q F=>fb ρ G _ σ H _ B q λ x aw ff H1 g1 a4 aG=>gn ρ aw _ σ H1 _ (B.go g1) aG λ y a_ iI aQ g2 be bv=>?_⟩;split at bv
 ·next l k=>
  cases a4;cases be;obtain⟨ds,ae,⟨j,bW,dC⟩,aC,ag,bf⟩:=pP g2.bB bv;have VH:=(ad.mono g1.tup).mono g2.tup;have g3:=Go.vH g2.bB aC (bf.set VH j);have gp:=(g1.trans g2).trans g3;exact⟨l,ae,k,j,rfl,rfl,ag,by rw[bf.len];exact bW,F ρ _ σ _ gp (B.go gp) dC⟩
 ·exact bv.elim
noncomputable abbrev J6(k:Nat)(aU:bK)(f:Int->Int->Int):gF:=λ dE ρ G=>match ρ[k]? with
 | some (some (.int x))=>aU ρ G λ y aw=>(match y with
  |.int z=>dE.nx (ρ.set k (some (.int (f x z)))) aw
  |_=>False)
 |_=>False
structure J7(X:a0)(op:nP)(f:Int->Int->Int):Prop where
 run:IG X op (Hg f)
theorem J8:J7 X .Add (λ i j=>i+j):=⟨⟨Pr⟩⟩
theorem J9{k:Nat}{x:Str}{op:nP}{f:Int->Int->Int}{pos':Pos}(cn:X.N.Nodup)(ar:X.N[k]?=some x)(aA:Loc X.env.scope x)(he:bJ X e aU)(aO:J7 X op f)(hf:X.fn x=true\/X.env.scope.names.lookup x=some .local:=by first|exact .inl rfl|exact .inr rfl|assumption) :
 jt X (.AugAssign (.Name x pos') op e pos) (J6 k aU f):=by
 obtain⟨ce,iK,re⟩:=he.run;refine⟨_,SJ cn ar aA iK aO.run hf,λ dE fe ρ G σ H B q F=>?_⟩;unfold J6 at q;split at q
 ·next x h=>
  obtain⟨v,ag,ai⟩:=B.st k _ h;cases ai;refine⟨.int x,ag,re ρ G _ σ H _ B q λ y aw u H1 g1 be aG=>?_⟩;split at aG
  ·next z=>cases be;exact⟨x,z,rfl,rfl,F.nx _ aw _ H1 g1 ((B.go g1).set (d:=.int (f x z)) rfl k) aG⟩
  ·exact aG.elim
 ·exact q.elim
noncomputable abbrev VI(aU:bK):bK:=λ ρ G Q=>aU ρ G λ x aw=>match x with
 |.tup ds=>∀ p,aw p=none->Q (.ref p) (up aw p (.lst ds.reverse))
 |_=>False
theorem VJ(lY:c8 X "list")(lZ:X.mg "list"=none)(a3:c8 X "reversed")(hm:X.mg "reversed"=none)(he:bJ X e aU)(aE:X.calm=true:=by rfl)(av:dz e=true:=by rfl):bJ X (.Call (.Name "list" p) [.Call (.Name "reversed" apos) [e] [] dH] [] pos) (VI aU):=by
 obtain⟨ce,iK,re⟩:=he.run;refine⟨_,TD lY lZ a3 hm iK aE av,λ ρ G az σ H Q B q F=>re ρ G _ σ H _ B q λ x aw v H1 g1 a4 aG=>?_⟩;split at aG
 ·next ds=>
  obtain⟨l,ae,rfl,s,r⟩:=a4;exact⟨l,ae,rfl,s,λ p ax=>F (.ref p) _ _ _ (g1.trans (Go.pO g1.bB ax r.reverse)) rfl (aG p (g1.bB.none ax))⟩
 ·exact aG.elim
noncomputable abbrev agy(aU:bK):bK:=λ ρ G Q=>aU ρ G λ x aw=>match x with
 |.ref l=>hy aw l λ ds=>∀ p,aw p=none->Q (.ref p) (up aw p (.lst ds.reverse))
 |_=>False
noncomputable abbrev VK(aU:bK):bK:=λ ρ G Q=>aU ρ G λ x aw=>match x with
 |.ref l=>hy aw l λ ds=>Q (.tup ds.reverse) aw
 |_=>False
theorem VL(lY:c8 X "tuple")(lZ:X.mg "tuple"=none)(a3:c8 X "reversed")(hm:X.mg "reversed"=none)(he:bJ X e aU)(aE:X.calm=true:=by rfl)(av:dz e=true:=by rfl):bJ X (.Call (.Name "tuple" p) [.Call (.Name "reversed" apos) [e] [] dH] [] pos) (VK aU):=by
 obtain⟨ce,iK,re⟩:=he.run;refine⟨_,TF lY lZ a3 hm iK aE av,λ ρ G az σ H Q B q F=>re ρ G _ σ H _ B q λ x aw v H1 g1 a4 aG=>?_⟩;split at aG
 ·next l=>
  cases a4;obtain⟨ds,ae,k,s,r⟩:=i3 g1.bB aG;refine⟨l,ae,rfl,s,λ p ax=>?_⟩;have g:=Go.lW (o:=.tup ae.reverse) g1.bB ax;exact F (.tup ds.reverse) _ _ _ (g1.trans g) ⟨p,_,rfl,.of eC,r.reverse.mono g.tup⟩ k
 ·exact aG.elim
noncomputable def rA:List D->Option (List Bool)
 |[]=>some []
 |.aW i::r=>(rA r).map (i::·)
 |_::_=>none
theorem J_{K:a8}{H:au}:∀{ds:List D}{bs:List Bool}{ae:List V},rA ds=some bs->bR K H ds ae->ae=bs.map V.aW
 |[],bs,ae,h,r=>by cases h;exact r
 | d::ds,bs,ae,h,⟨v,q,e,oq,l⟩=>by
  cases d with
  | aW i=>
   simp only[rA,pc]at h;obtain⟨ms,ag,rfl⟩:=h;subst e;cases oq;rw[J_ ag l];rfl
  |_=>simp[rA]at h
theorem CA:∀ bs:List Bool,rA (bs.map D.aW)=some bs
 |[]=>rfl
 |b::bs=>by simp[rA,CA bs]
noncomputable def VM:D->aY->dg->Prop:=λ x G Q=>match x with
 |.ref l=>hy G l λ ds=>∃ bs,rA ds=some bs/\Q (.aW (bs.all id)) G
 |_=>False
theorem Ka(aE:X.calm=true):rl X (.builtin "all") (vQ VM):=by
 refine⟨_,⟨TC aE⟩,λ xs ae G H az Q v a r F=>?_⟩;obtain⟨x,u,rfl,rfl,a4,r⟩:=Cf r a
 cases x with
 | ref l=>
  cases a4;obtain⟨ds,ws,⟨bs,e,k⟩,s,en⟩:=i3 v r;rw[J_ e en]at s;exact⟨l,bs,rfl,s,F (.aW (bs.all id)) G _ H (.refl v) rfl k⟩
 |_=>exact(show False from r).elim
noncomputable def VN(x:D)(G:aY)(k:String->Prop):Prop:=match x with
 |.bE=>k "NoneType"
 |.aW _=>k "bool"
 |.int _=>k "int"
 |.str _=>k "str"
 |.tup _=>k "tuple"
 |.ref l=>hy G l λ _=>k "list"
 |_=>False
noncomputable def CB(t T:String):Option Bool:=
 if (t = "NoneType"\/t = "bool"\/t = "int"\/t = "str"\/t = "tuple"\/t = "list")/\(T = "bool"\/T = "int"\/T = "str"\/T = "tuple"\/T = "list") then some (decide (t=T)||(decide (t = "bool")&&decide (T = "int"))) else none
theorem tu{K:a8}{t T:String}{b:Bool}(h:CB t T=some b):x7 K (.type t) (.type T)=some b:=by
 unfold CB at h;split at h
 ·next c=>
  obtain⟨ew,dS⟩:=c;rcases ew with rfl|rfl|rfl|rfl|rfl|rfl<;>rcases dS with rfl|rfl|rfl|rfl|rfl<;>(simp at h;subst h;first|rfl|exact agz rfl (by decide))
 ·cases h
noncomputable def VO(K:a8):List V->au->cC->Prop:=λ xs H Q=>∃ x T t b,xs=[x,.ty T]/\((kr K H x (.type t))\/(t = "tuple"/\∃ a ae,x=.ref a/\dk K H a ae)\/(t = "list"/\∃ a ae,x=.ref a/\eh K H a ae))/\x7 K (.type t) (.type T)=some b/\Q (.aW b) H
theorem VP:kq X (.builtin "isinstance") (VO X.K):=by
 intro pins s σ H xs us Q I r h;obtain⟨x,T,t,b,rfl,ty,aI,db⟩:=h;obtain⟨u,v,rfl,d0,a9⟩:=Vals.two r;cases a9;rcases ty with ty|⟨rfl,a,ae,rfl,d7⟩|⟨rfl,a,ae,rfl,d7⟩
 ·exact P3 I d0 ty aI λ tk=>⟨.aW b,H,I.tok tk,rfl,db⟩
 ·cases d0;obtain⟨aP,_,⟨o,ag,ai,_⟩,_⟩:=I.tuple d7
  exact jJ PySem.W.kitx_tuple I.gN ⟨o,ag,ai⟩ aI (λ z=>nomatch z) λ tk=>⟨.aW b,H,I.tok tk,rfl,db⟩
 ·cases d0;obtain⟨aP,_,⟨o,n,ag,ai,_⟩,_⟩:=I.list d7
  exact jJ PySem.W.kitx_list I.gN ⟨o,ag,ai⟩ aI (λ z=>nomatch z) λ tk=>⟨.aW b,H,I.tok tk,rfl,db⟩
noncomputable def VQ:D->D->aY->dg->Prop:=λ x y G Q=>match y with
 |.ty T=>VN x G λ t=>∃ b,CB t T=some b/\Q (.aW b) G
 |_=>False
theorem tv:rl X (.builtin "isinstance") (zh VQ):=by
 refine⟨_,⟨VP⟩,λ xs ae G H az Q v a r F=>?_⟩;obtain⟨x,y,u,w,rfl,rfl,a4,be,r⟩:=JL r a
 cases y with
 | ty T=>
  cases be
  cases x with
  |bE=>cases a4;obtain⟨b,af,q⟩:=r;exact⟨_,T,_,b,rfl,.inl .bE,tu af,F (.aW b) G _ H (.refl v) rfl q⟩
  |aW z=>cases a4;obtain⟨b,af,q⟩:=r;exact⟨_,T,_,b,rfl,.inl (.aW z),tu af,F (.aW b) G _ H (.refl v) rfl q⟩
  |int z=>cases a4;obtain⟨b,af,q⟩:=r;exact⟨_,T,_,b,rfl,.inl (.int z),tu af,F (.aW b) G _ H (.refl v) rfl q⟩
  |str z=>cases a4;obtain⟨b,af,q⟩:=r;exact⟨_,T,_,b,rfl,.inl (.str z),tu af,F (.aW b) G _ H (.refl v) rfl q⟩
  |tup ds=>obtain⟨l,ws,rfl,s,_⟩:=a4;obtain⟨b,af,q⟩:=r;exact⟨_,T,"tuple",b,rfl,.inr (.inl ⟨rfl,l,ws,rfl,s⟩),tu af,F (.aW b) G _ H (.refl v) rfl q⟩
  | ref l=>
   cases a4;obtain⟨ds,ws,⟨b,af,q⟩,s,_⟩:=i3 v r;exact⟨_,T,"list",b,rfl,.inr (.inr ⟨rfl,l,ws,rfl,s⟩),tu af,F (.aW b) G _ H (.refl v) rfl q⟩
  |ty z=>exact(show False from r).elim
  |d6 z=>exact(show False from r).elim
 |_=>exact(show False from r).elim
noncomputable abbrev VR(t:gE):i4:=λ ρ G R=>t ρ G λ ds aw=>match ds with
 |[.tup xs,.tup ys]=>xs.length<=ys.length/\R ⟨(xs.zip ys).map λ z=>.tup [z.1,z.2],λ _=>True⟩ aw
 |_=>False
theorem VS{k:Nat}{cj:Pos}(a3:c8 X "zip")(hm:X.mg "zip"=none)(aB:i2 X [a,b] t)(ag:dz a=true:=by rfl)(ai:dz b=true:=by rfl):ni X (.Tuple es k cj) (.Call (.Name "zip" p) [a,b] [] pos) (VR t):=by
 obtain⟨ca,cH,cI⟩:=aB.run;refine⟨_,T0 a3 hm cH ag ai,λ ρ G i5 σ H R B q F=>cI ρ G _ σ H _ B q λ ds aw ae H1 g1 al aH aG=>?_⟩;split at aG
 ·next xs ys=>
  obtain⟨hle,bv⟩:=aG;obtain⟨v,r,rfl,⟨l,ws,rfl,s1,bf⟩,u,bD,rfl,⟨m,zs,rfl,s2,VT⟩,z⟩:=al;cases z;refine⟨l,m,rfl,⟨ws,s1⟩,⟨zs,s2⟩,F _ _ aw H1 g1 (λ a_ aQ g2 _=>⟨λ n d hd=>?_,λ n bc=>⟨ws,g2.tup.cj _ _ s1,?_⟩⟩) bv⟩
  ·rw[dF]at hd
   cases e:(xs.zip ys)[n]? with
   |none=>rw[e]at hd;cases hd
   | some z=>
    rw[e]at hd;simp at hd;subst hd;obtain⟨aC,aF⟩:=xS.mp e;obtain⟨iB,ej,a1⟩:=(bf.mono g2.tup).get aC;obtain⟨h9,dA,a2⟩:=(VT.mono g2.tup).get aF;refine⟨⟨ws,zs,iB,h9,g2.tup.cj _ _ s1,g2.tup.cj _ _ s2,ej,dA⟩,λ x ak y=>?_⟩;obtain⟨T,qZ,pZ,rfl,bp,rfl,aA,bj⟩:=y;have cW:=aA ws (g2.tup.cj _ _ s1);have c7:=bj zs (g2.tup.cj _ _ s2);rw[ej]at cW;rw[dA]at c7;cases cW;cases c7;have g3:=Go.lW (o:=.tup [iB,h9]) g2.bB bp;exact⟨g3,T,_,rfl,.of eC,⟨_,_,rfl,a1.mono g3.tup,.one (a2.mono g3.tup)⟩⟩
  ·have:=bf.len;simp at bc;omega
 ·exact aG.elim
end
end L3
namespace L3
open PySem PyProof L2
open PySem.MeetsSeq
structure zz(K:a8)(a:Addr)(ws:List Str):Prop where
 obj:∃(o:Obj)(aP:Array Value)(n:Nat),K.lookup a=some o/\o.cls=.type "tuple"/\o.dict=none/\o.data=.seq aP n/\aP.size<=sizeLine/\Vals (ws.map V.str) aP.toList
theorem VU{a b:String}(h:Str.ofString a=Str.ofString b):a=b:=by
 rw[Str.ofString_eq_toList,Str.ofString_eq_toList]at h
 have ag:a.toList.map Char.toNat=b.toList.map Char.toNat:=by simpa using h
 have ai:a.toList=b.toList:=by
  generalize a.toList=x at ag;generalize b.toList=y at ag
  induction x generalizing y with
  | nil=>cases y with
   |nil=>rfl
   |cons _ _=>simp at ag
  | cons c x bG=>cases y with
   |nil=>simp at ag
   | cons d y=>
    simp only[cV,List.cons.injEq]at ag;rw[Char.ext (UInt32.toNat_inj.mp ag.1),bG y ag.2]
 exact String.toList_inj.mp ai
theorem CC{a b:String}:(Str.ofString a=Str.ofString b)=(a=b):=propext ⟨VU,λ h=>by rw[h]⟩
theorem Kb{a b:String}:(Str.ofString a==Str.ofString b)=(a==b):=by
 rw[sv];simp[CC]
inductive Tm where
 |name (k:Nat)|whole (n:Int)|way (t:Tm)|give (t u:Tm)|pair (t u:Tm)|first (t:Tm)|second (t:Tm)|plus (t u:Tm)|look (t u v:Tm)
noncomputable def Tm.bb:Tm->List Tm
 |.name _=>[]
 |.whole _=>[]
 |.way t=>[t]
 |.give t u=>[t,u]
 |.pair t u=>[t,u]
 |.first t=>[t]
 |.second t=>[t]
 |.plus t u=>[t,u]
 |.look t u v=>[t,u,v]
noncomputable def Tm.word:Tm->Str
 |.name _=>"name"|.whole _=>"whole"|.way _=>"way"|.give _ _=>"give"|.pair _ _=>"pair"|.first _=>"first"|.second _=>"second"|.plus _ _=>"plus"|.look _ _ _=>"look"
noncomputable def Tm.enc:Tm->D
 |.name k=>.tup [.str "name",.int k]
 |.whole n=>.tup [.str "whole",.int n]
 |.way t=>.tup [.str "way",t.enc]
 |.give t u=>.tup [.str "give",t.enc,u.enc]
 |.pair t u=>.tup [.str "pair",t.enc,u.enc]
 |.first t=>.tup [.str "first",t.enc]
 |.second t=>.tup [.str "second",t.enc]
 |.plus t u=>.tup [.str "plus",t.enc,u.enc]
 |.look t u v=>.tup [.str "look",t.enc,u.enc,v.enc]
noncomputable def Tm.aL:Tm->Nat
 |.name _=>1
 |.whole _=>1
 |.way t=>1+t.aL
 |.give t u=>1+t.aL+u.aL
 |.pair t u=>1+t.aL+u.aL
 |.first t=>1+t.aL
 |.second t=>1+t.aL
 |.plus t u=>1+t.aL+u.aL
 |.look t u v=>1+t.aL+u.aL+v.aL
noncomputable def Tm.bn:Tm->Nat
 |.name _=>0
 |.whole _=>0
 |.way t=>1+t.bn
 |.give t u=>1+max t.bn u.bn
 |.pair t u=>1+max t.bn u.bn
 |.first t=>1+t.bn
 |.second t=>1+t.bn
 |.plus t u=>1+max t.bn u.bn
 |.look t u v=>1+max t.bn (max u.bn v.bn)
theorem Tm.mc(t:Tm):1<=t.aL:=by cases t<;>simp[Tm.aL]<;>omega
theorem Tm.wb(t:Tm):t.bn<=t.aL:=by
 induction t<;>simp_all [Tm.bn,Tm.aL]<;>omega
noncomputable def Tm.args:Tm->List D
 |.name k=>[.int k]
 |.whole n=>[.int n]
 |t=>t.bb.map Tm.enc
theorem Tm.oy(t:Tm):t.enc=.tup (.str t.word::t.args):=by cases t<;>rfl
noncomputable abbrev tw(x y:Int):eU:=.lst [.int x,.int y]
noncomputable def gq(G:aY)(a:Addr):Prop:=∃ x y,G a=some (tw x y)
theorem gq.up{G:aY}{a:Addr}{x y:Int}:gq (up G a (tw x y)) a:=⟨x,y,bh⟩
theorem gq.new{G:aY}{a l:Addr}{o:eU}(h:gq G a)(n:G l=none):gq (L3.up G l o) a:=by
 obtain⟨x,y,e⟩:=h;exact⟨x,y,by rw[bH (by rintro rfl;rw[n]at e;cases e)];exact e⟩
theorem gq.ne{G:aY}{a l:Addr}(h:gq G a)(n:G l=none):l≠a:=by
 obtain⟨x,y,e⟩:=h;rintro rfl;rw[n]at e;cases e
theorem iM{G:aY}{a l:Addr}{f o:eU}(n:up G a f l=none):up (up G a f) l o=up (up G l o) a f/\G l=none/\l≠a:=by
 have ne:l≠a:=by rintro rfl;rw[bh]at n;cases n
 exact⟨y3 (Ne.symm ne),by rw[bH ne]at n;exact n,ne⟩
theorem Sub.new{G aw:aY}{p:Addr}{o:eU}(h:Sub G aw)(n:G p=su):Sub G (up aw p o):=λ b u e=>by
 rw[bH (by rintro rfl;rw[n]at e;cases e)];exact h b u e
theorem Sub.put{G aw:aY}{a:Addr}{o:eU}(h:Sub G aw):Sub (up G a o) (up aw a o):=λ b u e=>by
 by_cases c:b=a
 ·subst c;rw[bh]at e ⊢;exact e
 ·rw[bH c]at e ⊢;exact h b u e
noncomputable def gu(a:Addr)(G am:aY):Prop:=∃ x y,am=up G a (tw x y)
theorem gu.mk{a:Addr}{G:aY}{x y:Int}:gu a G (up G a (tw x y)):=⟨x,y,rfl⟩
theorem gu.trans{a:Addr}{G aw a_:aY}(h:gu a G aw)(k:gu a aw a_):gu a G a_:=by
 obtain⟨x,y,rfl⟩:=h;obtain⟨z,u,rfl⟩:=k;exact⟨z,u,fE⟩
theorem gu.fd{a:Addr}{G am:aY}(h:gu a G am):gq am a:=by obtain⟨x,y,rfl⟩:=h;exact .up
theorem gu.refl{a:Addr}{G:aY}(h:gq G a):gu a G G:=by obtain⟨x,y,e⟩:=h;exact⟨x,y,(Uv e).symm⟩
theorem gu.other{a l:Addr}{G am:aY}(h:gu a G am)(n:l≠a):am l=G l:=by obtain⟨x,y,rfl⟩:=h;exact bH n
noncomputable def ls:cX:=λ ds G Q=>match ds with
 |[.ref a,.int m]=>gq G a/\0<m/\m<2 ^ 62/\∀ d am,gu a G am->0<=d->d<m->Q (.int d) am
 |_=>False
noncomputable def wc:cX:=λ ds G Q=>match ds with
 |[.d6 ss,.int k]=>∃ ns:List Int,ss=ns.map D.int/\ns.length<=63/\0<=k/\k<2 ^ 32/\∀ r x y,G r=none->Q (.ref r) (up G r (tw x y))
 |_=>False
noncomputable def tx:cX:=λ ds G Q=>match ds with
 |[.ref a]=>gq G a/\∀ n am,gu a G am->-(2 ^ 40)<n->n<2 ^ 40->Q (Tm.enc (.whole n)) am
 |_=>False
theorem zA{P:bZ}{w:bM}{K:a8}{mg:Str->Option Value}{base:bx}{f:Addr}{fd:gM}{ps:List Str}{k:Nat}{eo:cX}(no:∀ ds G az,¬ eo ds G az):cN P w K mg base cG k f fd ps (aX K eo):=
 ⟨λ ae H Q E ⟨ds,G,az,_,_,h,_⟩=>absurd h (no ds G az),λ A outer s H args us ae Q E _ _ _ _ ⟨ds,G,az,_,_,h,_⟩=>absurd h (no ds G az)⟩
theorem at2{x y:D}{G:aY}{Q:dg}{i:Int}(h0:0<=i)(ag:i<2)(aA:i=0->Q x G)(bj:i=1->Q y G):atS [x,y] i G Q:=by
 refine Cy ?_;rcases(by omega:i=0\/i=1) with rfl|rfl
 ·exact aA rfl
 ·exact bj rfl
theorem VV{x y z u:D}{G:aY}{Q:dg}{i:Int}(h0:0<=i)(ag:i<4)(aA:i=0->Q x G)(bj:i=1->Q y G)(hz:i=2->Q z G)(br:i=3->Q u G):atS [x,y,z,u] i G Q:=by
 refine Cy ?_;rcases(by omega:i=0\/i=1\/i=2\/i=3) with rfl|rfl|rfl|rfl
 ·exact aA rfl
 ·exact bj rfl
 ·exact hz rfl
 ·exact br rfl
noncomputable def gc(ns:List Int):D:=.tup (ns.map D.int)
noncomputable def gd{α:Type}(all:α->List (List Int×α)):List α->Int->List (List Int×α)
 |[],_=>[]
 |x::r,k=>(all x).map (λ z=>(k::z.1,z.2))++gd all r (k+1)
theorem CD{α:Type}(all:α->List (List Int×α)):∀(xs ys:List α)(k:Int),gd all (xs++ys) k=gd all xs k++gd all ys (k+xs.length)
 |[],ys,k=>by simp[gd]
 |x::xs,ys,k=>by rw[kk,gd,gd,CD all xs ys,mK,dt];congr 3;omega
noncomputable def Tm.e2:Tm->Bool
 |.give (.way _) _=>true
 |.first (.pair _ _)=>true
 |.second (.pair _ _)=>true
 |.plus (.whole _) (.whole _)=>true
 |.look (.whole _) _ _=>true
 |_=>false
noncomputable def zB(b:Tm->Bool):cX:=λ ds G Q=>∃ t:Tm,ds=[t.enc]/\Q (.aW (b t)) G
theorem VW(t u:Tm):(Tm.give t u).e2=(t.word=="way"):=by cases t<;>first|rfl|decide
theorem VX(t:Tm):(Tm.first t).e2=(t.word=="pair"):=by cases t<;>first|rfl|decide
theorem VY(t:Tm):(Tm.second t).e2=(t.word=="pair"):=by cases t<;>first|rfl|decide
theorem VZ(t u:Tm):(Tm.plus t u).e2=(t.word=="whole"&&u.word=="whole"):=by cases t<;>cases u<;>first|rfl|decide
theorem V0(t u v:Tm):(Tm.look t u v).e2=(t.word=="whole"):=by cases t<;>first|rfl|decide
noncomputable def ik{α:Type}(enc:α->D)(bb:α->List α):cX:=λ ds G Q=>∃ x,ds=[enc x]/\Q (.tup ((bb x).map enc)) G
noncomputable def j3{α:Type}(enc:α->D)(z:List Int×α):D:=.tup [gc z.1,enc z.2]
noncomputable def CE(P:bZ)(w:bM)(K:a8)(mg:Str->Option Value)(base:bx)(k:Nat):cX:=λ ds G Q=>∃(α:Type)(enc:α->D)(bb:α->List α)(all:α->List (List Int×α))(f:Addr)(x:α),
 ds=[enc x,.ref f]/\(∀ y,all y=([],y)::gd all (bb y) 0)/\q7 P w K mg base k f (aX K (ik enc bb))/\(all x).length<=100000/\(∀ z∈all x,z.1.length<=10000)/\∀ l,G l=none->Q (.ref l) (up G l (.lst ((all x).map (j3 enc))))
section
variable{α:Type}{all:α->List (List Int×α)}{bb:α->List α}
noncomputable def md(pre:List Int)(zs:List (List Int×α)):List (List Int×α):=zs.map λ y=>(pre++y.1,y.2)
noncomputable def i7(all:α->List (List Int×α))(ps:List (List Int×α)):List (List Int×α):=ps.reverse.flatMap λ z=>md z.1 (all z.2)
noncomputable def hY(pre:List Int):List α->Int->List (List Int×α)
 |[],_=>[]
 |x::r,k=>(pre++[k],x)::hY pre r (k+1)
theorem wd(pre:List Int):∀(xs:List α)(k:Int),(hY pre xs k).length=xs.length
 |[],_=>rfl
 |_::r,k=>by rw[hY,dt,wd pre r,dt]
theorem Kc(pre:List Int):∀(xs:List α)(k:Int)(i:Nat),(hY pre xs k)[i]?=xs[i]?.map λ x=>(pre++[k+(i:Int)],x)
 |[],_,_=>by simp[hY]
 |x::r,k,0=>by simp[hY]
 | x::r,k,i+1=>by
  rw[hY,xT,Kc pre r (k+1) i,xT];congr 1;funext y;rw[show k+1+(i:Int)=k+((i+1:Nat):Int) by omega]
theorem Kd(pre:List Int):∀(xs:List α)(k:Int),md pre (gd all xs k)=(hY pre xs k).flatMap λ z=>md z.1 (all z.2)
 |[],_=>rfl
 | x::r,k=>by
  rw[gd,hY,qO,<- Kd pre r (k+1)];unfold md;rw[fN,gw];congr 1;apply xQ;intro y _;simp
theorem Ke(h:∀ y,all y=([],y)::gd all (bb y) 0)(z:List Int×α):md z.1 (all z.2)=z::(hY z.1 (bb z.2) 0).flatMap λ z=>md z.1 (all z.2):=by
 rw[<- Kd,h z.2];simp[md]
theorem V1(ps:List (List Int×α))(z:List Int×α):i7 all (ps++[z])=md z.1 (all z.2)++i7 all ps:=by simp[i7]
theorem V2(ps a7:List (List Int×α)):i7 all (ps++a7.reverse)=(a7.flatMap λ z=>md z.1 (all z.2))++i7 all ps:=by simp[i7]
theorem Kf(h:∀ y,all y=([],y)::gd all (bb y) 0)(ps:List (List Int×α))(z:List Int×α):i7 all (ps++[z])=z::i7 all (ps++(hY z.1 (bb z.2) 0).reverse):=by
 rw[V1,V2,Ke h];rfl
theorem V3(h:∀ y,all y=([],y)::gd all (bb y) 0)(ps:List (List Int×α)):ps.length<=(i7 all ps).length:=by
 have key:∀ a7:List (List Int×α),a7.length<=(a7.flatMap λ z=>md z.1 (all z.2)).length:=λ a7=>by
  induction a7 with
  |nil=>simp
  |cons z a7 bG=>rw[qO,Ke h z,dJ,dt,dt];omega
 have:=key ps.reverse
 rwa[hG]at this
theorem V4(x:α):i7 all [([],x)]=all x:=by simp[i7,md]
theorem small{n:Nat}(h:n<=200000):n<=sizeLine:=by rw[hk];omega
theorem fI{n:Nat}(h:n<=200000):n<sizeLine:=by rw[hk];omega
theorem nk{G:aY}{p q:Addr}{x y z:eU}(h:p≠q):up (up (up G q x) p y) q z=up (up G q z) p y:=by
 rw[y3 h,fE]
end
theorem Tm.V5{t u:Tm}(h:u∈t.bb):u.bn+1<=t.bn:=by
 cases t<;>simp[Tm.bb]at h<;>simp only[Tm.bn]<;>first|(subst h;omega)|(rcases h with rfl|rfl<;>omega)|(rcases h with rfl|rfl|rfl<;>omega)
theorem Tm.Kg{t u:Tm}(h:u∈t.bb):u.aL+1<=t.aL:=by
 cases t<;>simp[Tm.bb]at h<;>simp only[Tm.aL]<;>first|(subst h;omega)|(rcases h with rfl|rfl<;>omega)|(rcases h with rfl|rfl|rfl<;>omega)
theorem Tm.rB(t:Tm):t.bb.length<=3:=by cases t<;>simp[Tm.bb]
noncomputable def Tm.at:Tm->List Int->Option Tm
 |t,[]=>some t
 |t,k::ks=>if 0<=k then (match t.bb[k.toNat]? with|some u=>Tm.at u ks|none=>none) else none
theorem Tm.me{t u:Tm}{k:Int}{ks:List Int}(h0:0<=k)(h:t.bb[k.toNat]?=some u):t.at (k::ks)=u.at ks:=by rw[Tm.at,if_pos h0,h]
theorem Tm.CF{t:Tm}{k:Int}{ks:List Int}{q:Tm}(h:t.at (k::ks)=some q):0<=k/\∃ x,t.bb[k.toNat]?=some x/\x.at ks=some q:=by
 rw[Tm.at]at h;split at h
 ·next c=>
  split at h
  ·next u e=>exact⟨c,u,e,h⟩
  ·cases h
 ·cases h
theorem Tm.CG:∀{ns:List Int}{t q:Tm}{i:Nat}{k:Int},t.at ns=some q->ns[i]?=some k->∃ u v,t.at (ns.take i)=some u/\0<=k/\u.bb[k.toNat]?=some v/\t.at (ns.take (i+1))=some v
 |[],_,_,_,_,_,ar=>by simp at ar
 | n::ns,t,q,0,k,h,ar=>by
  simp at ar;subst ar;obtain⟨rC,x,aA,h'⟩:=Tm.CF h;exact⟨t,x,rfl,rC,aA,by rw[xU,xV,Tm.me rC aA];rfl⟩
 | n::ns,t,q,i+1,k,h,ar=>by
  obtain⟨rC,x,aA,h'⟩:=Tm.CF h;obtain⟨u,v,ag,ai,aT,b6⟩:=Tm.CG (i:=i) (k:=k) h' (by simpa using ar);exact⟨u,v,by rw[xU,Tm.me rC aA];exact ag,ai,aT,by rw[xU,Tm.me rC aA];exact b6⟩
noncomputable def zC:cX:=λ ds G Q=>∃(t:Tm)(ns:List Int)(u:Tm),ds=[t.enc,gc ns]/\t.at ns=some u/\Q u.enc G
mutual
noncomputable def D.plain:D->Bool
 |.int _=>true
 |.str _=>true
 |.tup ds=>decide (ds.length<=100000)&&mf ds
 |_=>false
noncomputable def mf:List D->Bool
 |[]=>true
 |d::ds=>d.plain&&mf ds
end
theorem Kh:∀{ds:List D}{d:D},mf ds=true->d∈ds->d.plain=true
 | d::ds,e,h,m=>by
  simp only[mf,fh]at h;rcases dw.mp m with rfl|m
  ·exact h.1
  ·exact Kh h.2 m
theorem Ki:∀{ds:List D}{d:D},d∈ds->d.bn<=ij ds
 | d::ds,e,m=>by
  rcases dw.mp m with rfl|m
  ·simp only[ij];omega
  ·have:=Ki m;simp only[ij];omega
noncomputable def we(n:Nat):cX:=λ ds G Q=>∃ d:D,ds=[d,d]/\d.plain=true/\d.bn<n/\Q (.aW true) G
theorem Kj{α β:Type}(f:α×α->β):∀ xs:List α,(xs.zip xs).map f=xs.map λ x=>f (x,x)
 |[]=>rfl
 |x::xs=>by rw[List.zip_cons_cons,cV,cV,Kj f xs]
inductive aR where
 |w (n:Int)|p (a b:aR)
noncomputable def aR.enc:aR->D
 |.w n=>.tup [.str "whole",.int n]
 |.p a b=>.tup [.str "pair",a.enc,b.enc]
noncomputable def aR.bb:aR->List aR
 |.w _=>[]
 |.p a b=>[a,b]
noncomputable def aR.aL:aR->Nat
 |.w _=>1
 |.p a b=>1+a.aL+b.aL
noncomputable def aR.bn:aR->Nat
 |.w _=>0
 |.p a b=>1+max a.bn b.bn
noncomputable def aR.all:aR->List (List Int×aR)
 |.w n=>[([],.w n)]
 |.p a b=>([],.p a b)::((a.all.map λ z=>(0::z.1,z.2))++(b.all.map λ z=>(1::z.1,z.2)))
theorem aR.all_eq(t:aR):t.all=([],t)::gd aR.all t.bb 0:=by
 cases t<;>simp[aR.all,gd,aR.bb]
theorem aR.p4(t:aR):t.all.length=t.aL:=by
 induction t with
 |w n=>rfl
 |p a b dM dV=>simp only[aR.all,dt,dJ,bL,aR.aL,dM,dV];omega
theorem aR.rD:∀{t:aR}{z:List Int×aR},z∈t.all->z.1.length<=t.bn/\∀ k∈z.1,k=0\/k=1:=by
 intro t
 induction t with
 |w n=>intro z h;simp[aR.all]at h;subst h;simp
 | p a b dM dV=>
  intro z h;simp only[aR.all,dw,hF,eF]at h;rcases h with rfl|⟨y,bj,rfl⟩|⟨y,bj,rfl⟩
  ·simp
  ·obtain⟨ag,ai⟩:=dM bj;refine⟨by simp only[dt,aR.bn];omega,λ k aI=>?_⟩;rcases dw.mp aI with rfl|aI
   ·exact .inl rfl
   ·exact ai k aI
  ·obtain⟨ag,ai⟩:=dV bj;refine⟨by simp only[dt,aR.bn];omega,λ k aI=>?_⟩;rcases dw.mp aI with rfl|aI
   ·exact .inr rfl
   ·exact ai k aI
theorem aR.wb(t:aR):t.bn<=t.aL:=by
 induction t<;>simp_all [aR.bn,aR.aL]<;>omega
noncomputable def fl(k:Int):Str:=if k=0 then "first" else "second"
noncomputable def cB(ns:List Int):D:=.tup (ns.map λ k=>D.str (fl k))
theorem Kk(ms:List Int)(k:Int):cB (ms++[k])=.tup ((ms.map λ k=>D.str (fl k))++[.str (fl k)]):=by simp[cB]
theorem aR.mc(t:aR):1<=t.aL:=by cases t<;>simp[aR.aL]<;>omega
theorem Kl:∀ ns:List Int,mf (ns.map λ k=>D.str (fl k))=true
 |[]=>rfl
 |n::ns=>by simp[mf,D.plain,Kl ns]
theorem Km:∀ ns:List Int,ij (ns.map λ k=>D.str (fl k))=0
 |[]=>rfl
 |n::ns=>by simp[ij,D.bn,Km ns]
noncomputable def zD:cX:=λ ds G Q=>∃ ns:List Int,ds=[gc ns]/\(∀ k∈ns,k=0\/k=1)/\ns.length<=1000/\Q (cB ns) G
noncomputable def oz(n:Nat):cX:=λ ds G Q=>∃ t:aR,ds=[t.enc]/\t.bn<n/\t.aL<=1000/\∀ l,G l=none->Q (.ref l) (up G l (.lst (t.all.map λ z=>cB z.1)))
noncomputable def wf(n:Nat):cX:=λ ds G Q=>∃ a room deep,ds=[.ref a,.int room,.int deep]/\gq G a/\room<1000/\0<=deep/\deep<n/\∀(t:aR) am,gu a G am->(t.aL:Int)<=max room 1->(t.bn:Int)<=deep->Q t.enc am
section
variable{X:a0}
noncomputable abbrev V6(i:Nat)(T:Addr)(env:Env)(name qual:Str)(st:bC)(fr:List Str)(pos:Pos):gF:=λ dE ρ G=>G T=some (.tab pos qual)/\∀ f,G f=none->dE.nx (ρ.set i (some (.ref f))) (up G f (.made env name qual st fr))
theorem Go.def{K:a8}{G:aY}{H ak:au}{T f:Addr}{env:Env}{name qual:Str}{st:bC}{fr:List Str}{pos:Pos}(v:d1 K G H)(bp:G T=some (.tab pos qual))(hf:H f=none)(M:s8 env ak f name qual st fr)(b4:Tab ak T pos qual)(b8:∀ b u,b≠T->H b=some u->ak b=some u) :
 Go K G H (up G f (.made env name qual st fr)) ak:=by
 obtain⟨ps,V7,_⟩:=v T _ bp;obtain⟨zE,V8,_⟩:=id b4
 have nb:∀ a u,H a=some u->u≠.hn ps->a≠T:=λ a u e n z=>by rw[z,V7]at e;exact n (eW.inj e).symm
 have bN:iH K H ak:=by
  refine⟨λ a xs q=>?_,λ a xs q=>?_,λ a o q=>b8 _ _ (nb _ _ q λ z=>nomatch z) q⟩
  ·exact b8 _ _ (nb _ _ q λ z=>nomatch z) q
  ·rcases q with⟨o,q⟩|q
   ·exact .inl ⟨o,b8 _ _ (nb _ _ q λ z=>nomatch z) q⟩
   ·exact .inr q
 refine⟨bN,λ a o e=>?_,λ a o e n=>?_,λ a o e n=>?_,λ a u e=>?_⟩
 ·by_cases z:a=T
  ·subst z;exact⟨_,V8⟩
  ·exact⟨o,b8 a o z e⟩
 ·exact b8 a o (λ z=>by rw[z,bp]at n;cases n) e
 ·rw[bH (λ z=>by rw[z,hf]at e;cases e)];exact n
 ·by_cases z:a=f
  ·subst z;rw[bh]at e;cases e;exact M
  ·rw[bH z]at e;by_cases y:a=T
   ·subst y;rw[bp]at e;cases e;exact b4
   ·obtain⟨gT,q⟩:=(v a u e).some;exact(v a u e).mono bN (by rw[q];exact b8 _ _ y q)
variable{i:Nat}{T c:Addr}{name:Str}{params:xL}{body:List bC}{scope:eV}{pos:Pos}{fr:List Str}
theorem Kn(cn:X.N.Nodup)(ar:X.N[i]?=some name)(aH:Loc X.env.scope name)(yX:X.env.code=.ref c)(kz:PySem.W.CodeHd X.base c T)(fk:l4 X.mg X.base)
 (ic:xJ scope X.env=pure (fD X.env fr)) (yY:params.defaults=[]) (BW:params.kw_defaults=[]) (aB:annTrees params none X.env=[])
 (hf:X.fn name=true\/X.env.scope.names.lookup name=some .local:=by first|exact .inl rfl|exact .inr rfl|assumption) :
 jt X (.FunctionDef name params body [] none [] scope none name pos) (V6 i T X.env name (qF X.env name name) (.FunctionDef name params body [] none [] scope none name pos) fr pos):=by
 refine⟨_,⟨Ue (T:=T) cn ar aH yX kz fk ic yY BW aB hf⟩,λ dE fe ρ G σ H B q F=>?_⟩;obtain⟨bp,q⟩:=q;refine⟨B.bB T _ bp,λ f ak Ko M b4 b8=>?_⟩;have g:=Go.def B.bB bp Ko M b4 b8;exact F.nx _ _ _ _ g ((B.go g).set (d:=.ref f) rfl i) (q f (B.bB.none Ko))
end
end L3
namespace L2
open PySem PySem.Spec PyProof.Rows
noncomputable def V9(i:Nat)(name qual:Str)(st:bC)(fr:List Str)(sp:List V->gm)(t:eX):TE:=λ σ H Q=>∃ cz,Jj i name qual st fr cz (sp cz) t σ H Q
theorem V_{X:a0}{k j i:Nat}{name qual:Str}{st:bC}{fr:List Str}{ps:List Str}{x:Str}{sp:List V->gm}{p pos:Pos}{e:a5}{es:List a5}{t:eX}(G:∀ cz,yU X.prog X.w X.K X.mg X.base k name qual st fr cz ps (sp cz))(aq:eY j X.A)(aI:k<=j)(cn:X.N[i]?=some x)(bu:lJ X.env.scope x)(aB:h_ X (e::es) t)
 (hd:(x==("__debug__" : Str))=false) (eN:(x==("__classdict__" : Str))=false) (he:di (e::es) X.env=(false,eval e X.env)::di es X.env) (e4:(fS pos (di es X.env)).any (·.1)=false) :
 bO X (.Call (.Name x p) (e::es) [] pos) (V9 i name qual st fr sp t):=λ pins s σ H Q I ⟨cz,h⟩=>T7 (G cz) aq aI cn bu aB hd eN he e4 pins s σ H Q I h
end L2
namespace L3
open PySem PyProof L2
noncomputable def Wa(K:a8)(vals:List D)(eo:cX)(cz:List V):gm:=λ ae H Q _=>∃ ds G az,bR K H ds ae/\bR K H vals cz/\d1 K G H/\eo ds G az/\Fin K G H az Q
structure wg(P:bZ)(w:bM)(K:a8)(mg:Str->Option Value)(base:bx)(k:Nat)(name qual:Str)(st:bC)(fr:List Str)(vals:List D)(ps:List Str)(eo:cX):Prop where
 ok:∀ cz,yU P w K mg base k name qual st fr cz ps (Wa K vals eo cz)
section
variable{X:a0}{k j:Nat}{name qual:Str}{st:bC}{fr:List Str}{vals:List D}{ps:List Str}{x:Str}{eo:cX}{p pos:Pos}{e:a5}{es:List a5}{t:gE}
noncomputable abbrev Wb(n:Nat)(name qual:Str)(st:bC)(fr:List Str)(vals:List D)(eo:cX)(t:gE):bK:=λ ρ G Q=>∃ f,ρ[n]?=some (some (.ref f))/\G f=some (.l5 name qual st fr vals)/\t ρ G λ ds aw=>aw f=some (.l5 name qual st fr vals)/\eo ds aw Q
theorem Go.eH{K:a8}{G aw:aY}{H H1:au}{f:Addr}{cl:List (Str×Addr)}{cz:List V}(g:Go K G H aw H1)(C:kF H f name qual st cl cz):kF H1 f name qual st cl cz:=by
 obtain⟨dT,c5,doc,pm,bF,ct,ck,aT,c,o,ae,t,b6,dp,q5⟩:=C.fn;exact⟨⟨dT,c5,doc,pm,bF,ct,ck,g.tup.dq _ _ aT,c,o,ae,t,b6,g.tup.dq _ _ dp,q5⟩,λ i x c ar=>let ⟨v,u,o,cW,c7,eZ,gD⟩:=C.cells i x c ar;⟨v,u,o,cW,c7,g.tup.dq _ _ eZ,gD⟩,C.len,C.BP⟩
theorem Wc(n:Nat)(Wd:wg X.prog X.w X.K X.mg X.base k name qual st fr vals ps eo)(aq:eY j X.A)(aI:k<=j)(aB:i2 X (e::es) t)(cn:X.N[n]?=some x:=by rfl)(bu:lJ X.env.scope x:=by first|exact Or.inl rfl|exact Or.inr (Or.inl rfl)|exact Or.inr (Or.inr rfl))
 (hd:(x==("__debug__" : Str))=false:=by decide) (eN:(x==("__classdict__" : Str))=false:=by decide) (av:(e::es).all dz=true:=by rfl):bJ X (.Call (.Name x p) (e::es) [] pos) (Wb n name qual st fr vals eo t):=by
 obtain⟨ca,cH,cI⟩:=aB.run;have h:=av;rw[jk,fh]at h;refine⟨_,⟨V_ Wd.ok aq aI cn bu cH.run hd eN (eT h.1) (sX h.2)⟩,λ ρ G az σ H Q B q F=>?_⟩;obtain⟨f,jX,aG,q⟩:=q;obtain⟨v,ag,ai⟩:=B.st n _ jX;cases ai;obtain⟨cl,cz,C,ic,CH⟩:=B.bB f _ aG;exact⟨cz,f,cl,ag,C,ic,cI ρ G _ σ H _ B q λ ds aw ae H1 g1 al _ ⟨_,dC⟩=>⟨g1.eH C,ds,aw,az,al,CH.mono g1.tup,g1.bB,dC,F.after g1⟩⟩
end
theorem CI{p:Prop}(c:false=true):p:=nomatch c
theorem zF{p:Prop}(c:true=false):p:=nomatch c
noncomputable def Tm.i8:Tm->Bool
 |.pair a b=>a.i8&&b.i8
 |.whole _=>true
 |.way _=>true
 |_=>false
noncomputable def Tm.j4:Tm->Option Nat
 |.plus a _=>if a.word=="whole" then some 1 else some 0
 |.give _ _=>some 0
 |.first _=>some 0
 |.second _=>some 0
 |.look _ _ _=>some 0
 |_=>none
noncomputable def Tm.use:Tm->Option (List Int)
 |.give a b=>if (Tm.give a b).e2 then some [] else a.use.map (0::·)
 |.first a=>if (Tm.first a).e2 then some [] else a.use.map (0::·)
 |.second a=>if (Tm.second a).e2 then some [] else a.use.map (0::·)
 |.look a b c=>if (Tm.look a b c).e2 then some [] else a.use.map (0::·)
 |.plus a b=>if (Tm.plus a b).e2 then some [] else if a.word=="whole" then b.use.map (1::·) else a.use.map (0::·)
 |_=>none
noncomputable def Tm.eM:Tm->Option (List Int×Tm)
 | .pair a b=>match a.eM with
  |some z=>some (0::z.1,z.2)
  | none=>match b.eM with
   |some z=>some (1::z.1,z.2)
   |none=>none
 |.whole _=>none
 |.way _=>none
 |t=>some ([],t)
noncomputable def Tm.nx(t:Tm):Option (List Int):=match t.eM with
 |none=>none
 |some z=>z.2.use.map (z.1++·)
theorem Tm.Kp(t:Tm):t.eM=none ↔ t.i8=true:=by
 induction t with
 | pair a b wh wi=>
  simp only[Tm.eM,Tm.i8,fh,<- wh,<- wi];cases a.eM<;>cases b.eM<;>simp
 |_=>simp[Tm.eM,Tm.i8]
theorem Tm.CJ{t:Tm}(h:t.e2=true):t.use=some []:=by
 cases t with
 |give a b=>simp only[Tm.use];rw[if_pos h]
 |first a=>simp only[Tm.use];rw[if_pos h]
 |second a=>simp only[Tm.use];rw[if_pos h]
 |plus a b=>simp only[Tm.use];rw[if_pos h]
 |look a b c=>simp only[Tm.use];rw[if_pos h]
 |_=>simp[Tm.e2]at h
theorem Tm.Kq{t:Tm}(h:t.j4=none):t.use=none:=by
 cases t with
 |plus a b=>simp only[Tm.j4]at h;split at h<;>cases h
 |_=>first|rfl|simp[Tm.j4]at h
theorem Tm.Kr{t:Tm}{k:Nat}(aq:t.e2=false)(h:t.j4=some k):∃ u,t.bb[k]?=some u/\t.use=u.use.map ((k:Int)::·):=by
 have wj:¬ t.e2=true:=by rw[aq];simp
 cases t with
 | plus a b=>
  simp only[Tm.j4]at h;simp only[Tm.use];rw[if_neg wj];split at h
  ·next c=>cases h;exact⟨b,rfl,by rw[if_pos c];rfl⟩
  ·next c=>cases h;exact⟨a,rfl,by rw[if_neg c];rfl⟩
 |give a b=>simp only[Tm.j4]at h;cases h;exact⟨a,rfl,by simp only[Tm.use];rw[if_neg wj];rfl⟩
 |first a=>simp only[Tm.j4]at h;cases h;exact⟨a,rfl,by simp only[Tm.use];rw[if_neg wj];rfl⟩
 |second a=>simp only[Tm.j4]at h;cases h;exact⟨a,rfl,by simp only[Tm.use];rw[if_neg wj];rfl⟩
 |look a b c=>simp only[Tm.j4]at h;cases h;exact⟨a,rfl,by simp only[Tm.use];rw[if_neg wj];rfl⟩
 |_=>simp[Tm.j4]at h
theorem Tm.Ks:∀{n:Nat}{t:Tm}{ns:List Int},t.aL<=n->t.use=some ns->(∃ u,t.at ns=some u/\u.e2=true)/\ns.length<=t.bn
 |0,t,_,bc,_=>by have:=t.mc;omega
 | n+1,t,ns,bc,h=>by
  cases aq:t.e2 with
  |true=>rw[Tm.CJ aq]at h;cases h;exact⟨⟨t,rfl,aq⟩,fV _⟩
  | false=>
   cases br:t.j4 with
   |none=>rw[Tm.Kq br]at h;cases h
   | some k=>
    obtain⟨u,ag,ai⟩:=Tm.Kr aq br;rw[ai]at h
    cases e:u.use with
    |none=>rw[e]at h;cases h
    | some ms=>
     rw[e]at h;cases h;have hm:=gj ag;have:=Tm.Kg hm;have:=Tm.V5 hm;obtain⟨⟨v,aT,b6⟩,dp⟩:=Tm.Ks (n:=n) (by omega) e;exact⟨⟨v,by rw[Tm.me (u:=u) (by omega) (by simpa using ag)];exact aT,b6⟩,by rw[dt];omega⟩
theorem Tm.Kt:∀{ps:List Int}{t u:Tm}{ns:List Int},t.at ps=some u->t.at (ps++ns)=u.at ns
 |[],t,u,ns,h=>by cases h;rfl
 | p::ps,t,u,ns,h=>by
  obtain⟨l_,x,aA,h'⟩:=Tm.CF h;rw[kk,Tm.me l_ aA];exact Tm.Kt h'
theorem Tm.We:∀{t:Tm}{z:List Int×Tm},t.eM=some z->t.at z.1=some z.2/\z.1.length+z.2.bn<=t.bn:=by
 intro t
 induction t with
 | pair a b wh wi=>
  intro z h;simp only[Tm.eM]at h
  cases dR:a.eM with
  | some y=>
   rw[dR]at h;cases h;obtain⟨ag,ai⟩:=wh dR;exact⟨by rw[Tm.me (u:=a) (by decide) rfl];exact ag,by simp only[dt,Tm.bn];omega⟩
  | none=>
   rw[dR]at h
   cases dQ:b.eM with
   | some y=>
    rw[dQ]at h;cases h;obtain⟨ag,ai⟩:=wi dQ;exact⟨by rw[Tm.me (u:=b) (by decide) rfl];exact ag,by simp only[dt,Tm.bn];omega⟩
   |none=>rw[dQ]at h;cases h
 |whole _=>intro z h;cases h
 |way _ _=>intro z h;cases h
 |_=>intro z h;cases h;exact⟨rfl,by simp⟩
theorem Tm.Wf:∀{t:Tm}{z:List Int×Tm},t.eM=some z->z.2.aL<=t.aL:=by
 intro t
 induction t with
 | pair a b wh wi=>
  intro z h;simp only[Tm.eM]at h
  cases dR:a.eM with
  | some y=>
   rw[dR]at h;cases h;have:=wh dR;simp only[Tm.aL];omega
  | none=>
   rw[dR]at h
   cases dQ:b.eM with
   | some y=>
    rw[dQ]at h;cases h;have:=wi dQ;simp only[Tm.aL];omega
   |none=>rw[dQ]at h;cases h
 |whole _=>intro z h;cases h
 |way _ _=>intro z h;cases h
 |_=>intro z h;cases h;exact ZB _
theorem Tm.Wg{t:Tm}{ns:List Int}(h:t.nx=some ns):(∃ u,t.at ns=some u/\u.e2=true)/\ns.length<=t.bn:=by
 unfold Tm.nx at h;split at h
 ·cases h
 ·next z e=>
  obtain⟨ag,ai⟩:=Tm.We e
  cases aF:z.2.use with
  |none=>rw[aF]at h;cases h
  | some ms=>
   rw[aF]at h;cases h;obtain⟨⟨u,aT,b6⟩,dp⟩:=Tm.Ks (ZB _) aF;exact⟨⟨u,by rw[Tm.Kt ag];exact aT,b6⟩,by simp only[dJ];omega⟩
noncomputable def oA:List (Tm×List Int)->Option (List Int×Tm)
 |[]=>none
 | (t,r)::rest=>match t.eM with
  |some z=>some (r.reverse++z.1,z.2)
  |none=>oA rest
theorem Wh(a b:Tm)(r:List Int)(rest:List (Tm×List Int)):oA ((Tm.pair a b,r)::rest)=oA ((a,0::r)::(b,1::r)::rest):=by
 simp only[oA,Tm.eM]
 cases a.eM with
 |some z=>simp
 |none=>cases b.eM<;>simp
noncomputable def rE:List Int->D
 |[]=>.bE
 |k::r=>.tup [rE r,.int k]
noncomputable def p5(z:Tm×List Int):D:=.tup [z.1.enc,rE z.2]
noncomputable def il(zs:List (Tm×List Int)):Nat:=(zs.map λ z=>z.1.aL).sum
theorem rF(zs:List (Tm×List Int))(z:Tm×List Int):il (zs++[z])=il zs+z.1.aL:=by simp[il]
theorem Ku:∀ zs:List (Tm×List Int),zs.length<=il zs
 |[]=>fV _
 | z::zs=>by
  have:=Ku zs;have:=z.1.mc;simp only[il,cV,sm,dt]at *;omega
noncomputable def Kv:Option (List Int)->D
 |none=>.bE
 |some ns=>gc ns
noncomputable def zG:cX:=λ ds G Q=>∃ r:List Int,ds=[rE r]/\r.length<=100000/\Q (gc r.reverse) G
noncomputable def CK:cX:=λ ds G Q=>∃(t:Tm)(ns:List Int)(u:Tm),ds=[t.enc,gc ns]/\t.at ns=some u/\Q (.aW u.e2) G
noncomputable def CL:cX:=λ ds G Q=>∃ t:Tm,ds=[t.enc]/\Q (match t.j4 with|none=>.bE|some k=>.int k) G
noncomputable def CM:cX:=λ ds G Q=>∃ t:Tm,ds=[t.enc]/\t.aL<=10000/\Q (Kv t.use) G
noncomputable def CN:cX:=λ ds G Q=>∃ t:Tm,ds=[t.enc]/\t.aL<=10000/\Q (match t.eM with|none=>.bE|some z=>.tup [z.2.enc,gc z.1]) G
section
variable{K:a8}{H ak:au}
mutual
theorem cQ.iN(cj:∀ a xs,dk K H a xs->dk K ak a xs)(fr:∀ a xs,jZ K H a xs->jZ K ak a xs):∀{d:D}{v:V},cQ K H d v->cQ K ak d v
 |.bE,_,r=>r
 |.aW _,_,r=>r
 |.int _,_,r=>r
 |.str _,_,r=>r
 |.ref _,_,r=>r
 |.ty _,_,r=>r
 |.tup _,_,⟨a,ae,e,q,l⟩=>⟨a,ae,e,cj a ae q,bR.iN cj fr l⟩
 |.d6 _,_,⟨a,ae,e,q,l⟩=>⟨a,ae,e,fr a ae q,bR.iN cj fr l⟩
theorem bR.iN(cj:∀ a xs,dk K H a xs->dk K ak a xs)(fr:∀ a xs,jZ K H a xs->jZ K ak a xs):∀{ds:List D}{ae:List V},bR K H ds ae->bR K ak ds ae
 |[],_,r=>r
 |_::_,_,⟨v,r,e,q,l⟩=>⟨v,r,e,cQ.iN cj fr q,bR.iN cj fr l⟩
end
noncomputable def eU.rG:eU->Bool
 |.lst _=>true
 |.ins _ _=>true
 |.cR _=>true
 |.bz _=>true
 |.hv _ _ _=>true
 |.tc _ _ _=>true
 |_=>false
theorem lf.iN{a:Addr}{o:eU}(cj:∀ a xs,dk K H a xs->dk K ak a xs)(fr:∀ a xs,jZ K H a xs->jZ K ak a xs)(aO:o.rG=true)(e:ak a=H a)(h:lf K H a o):lf K ak a o:=by
 cases o with
 |lst ds=>obtain⟨ae,q,l⟩:=h;exact⟨ae,by rw[e];exact q,l.iN cj fr⟩
 |ins C fs=>obtain⟨e3,gs,q,l⟩:=h;exact⟨e3,gs,by rw[e];exact q,l.1,l.2.iN cj fr⟩
 |cR kvs=>obtain⟨gs,q,l⟩:=h;exact⟨gs,by rw[e];exact q,l.1,l.2.iN cj fr⟩
 |bz kvs=>obtain⟨gs,q,l⟩:=h;exact⟨gs,by rw[e];exact q,l.1,l.2.iN cj fr⟩
 |hv o gs kvs=>obtain⟨q,l⟩:=h;exact⟨by rw[e];exact q,l.1,l.2.iN cj fr⟩
 |tc o gs kvs=>obtain⟨q,l⟩:=h;exact⟨by rw[e];exact q,l.1,l.2.iN cj fr⟩
 |_=>cases aO
theorem lf.Wi{a:Addr}{o:eU}(aO:o.rG=true)(h:lf K H a o){u:Obj}(e:H a=eW (fP u)):False:=by
 cases o with
 |lst ds=>obtain⟨ae,q,l⟩:=h;rw[e]at q;cases q
 |ins C fs=>obtain⟨e3,gs,q,l⟩:=h;rw[e]at q;cases q
 |cR kvs=>obtain⟨gs,q,l⟩:=h;rw[e]at q;cases q
 |bz kvs=>obtain⟨gs,q,l⟩:=h;rw[e]at q;cases q
 |hv o gs kvs=>obtain⟨q,l⟩:=h;rw[e]at q;simp[fP]at q
 |tc o gs kvs=>obtain⟨q,l⟩:=h;rw[e]at q;simp[fP]at q
 |_=>cases aO
theorem lS.mono(h:lS H ak):iH K H ak:=⟨λ b xs q=>h _ _ q,λ b xs q=>by
 rcases q with⟨o,q⟩|q
 ·exact .inl ⟨o,h _ _ q⟩
 ·exact .inr q,λ b o q=>h _ _ q⟩
theorem rH{as:List Addr}(dq:pJ H as):∀ a xs,dk K H a xs->dk K (less H as) a xs:=λ a xs q=>by
 have out:∀ {u},H a=some u->(∀ o,u≠fP o)->less H as a=some u:=λ{u} e n=>by
  rw[hb λ z=>?_];exact e;obtain⟨o,z⟩:=dq a z;rw[e]at z;exact n o (eW.inj z)
 exact out q λ o z=>nomatch z
theorem rI{as:List Addr}(dq:pJ H as):∀ a xs,jZ K H a xs->jZ K (less H as) a xs:=λ a xs q=>by
 rcases q with⟨o,q⟩|q
 ·refine .inl ⟨o,?_⟩;rw[hb λ z=>?_];exact q;obtain⟨o,z⟩:=dq a z;rw[q]at z;cases z
 ·exact .inr q
end
noncomputable def Kw(sc:eV)(N:List Str)(fn:Str->Bool)(fr:List Str)(ix:List Nat):Bool:=
 ix.length==fr.length&&(fg fr.length).all λ i=>match fr[i]?,ix[i]? with
  |some y,some j=>N[j]?==some y&&sc.names.lookup y==some .cell&&fn y
  |_,_=>false
section
variable{X:a0}{e:a5}{es:List a5}{t:gE}{p pos:Pos}
noncomputable abbrev Wj(env:Env)(name qual:Str)(st:bC)(fr:List Str)(ix:List Nat)(eo:cX)(t:gE):bK:=λ ρ G Q=>t ρ G λ ds aw=>∃ f vals,aw f=some (.made env name qual st fr)/\vals.length=fr.length ∧
 (∀(i j:Nat),ix[i]?=some j->∃ d,ρ[j]?=some (some d)/\vals[i]?=some d)/\eo ds (up aw f (.l5 name qual st fr vals)) λ d a_=>a_=up aw f (.l5 name qual st fr vals)/\Q d aw
theorem Kx{k j:Nat}{x:Str}{ps:List Str}{eo:cX}{name qual:Str}{st:bC}{fr:List Str}{ix:List Nat}(Gt:Got X.prog X.w X.K X.mg X.base k x ps (aX X.K eo))(aq:eY j X.A)(aI:k<=j)(a3:c8 X x)(BR:fr.Nodup)(fk:Kw X.env.scope X.N X.fn fr ix=true)(aB:i2 X (e::es) t)
 (gO:(x==("__debug__" : Str))=false:=by decide) (av:(e::es).all dz=true:=by rfl):bJ X (.Call (.Name x p) (e::es) [] pos) (Wj X.env name qual st fr ix eo t):=by
 obtain⟨ca,cH,cI⟩:=aB.run;have h:=av;rw[jk,fh]at h;unfold Kw at fk;rw[fh,sk]at fk
 have vF:ix.length=fr.length:=by simpa using fk.1
 have pL:∀(i:Nat)(y:Str),fr[i]?=some y->∃ j,ix[i]?=some j/\X.N[j]?=some y/\X.env.scope.names.lookup y=some .cell/\X.fn y=true:=λ i y bj=>by
  have lt:i<fr.length:=(f5.mp bj).1;have z:=fk.2 i (o3.mpr lt);have j5:ix[i]?=some (ix[i]'(by omega)):=f6 (by omega);rw[bj,j5]at z;simp only[fh,beq_iff_eq]at z;exact⟨_,j5,z.1.1,z.1.2,z.2⟩
 refine⟨_,⟨T_ (name:=name) (qual:=qual) (st:=st) (ix:=ix) Gt aq aI a3 cH.run gO BR vF pL (eT h.1) (sX h.2)⟩,λ ρ G az σ H Q B q F=>?_⟩;refine cI ρ G _ σ H _ B q λ ds aw ae H1 g1 al _ aG=>?_;obtain⟨f,vals,hf,agA,CH,bv⟩:=aG;have M:s8 X.env H1 f name qual st fr:=g1.bB f _ hf
 let cz:List V:=ix.map λ j=>match σ[j]? with
  |some (some v)=>v
  |_=>.bE
 have Ky:∀(i j:Nat),ix[i]?=some j->∃ d v,ρ[j]?=some (some d)/\vals[i]?=some d/\σ[j]?=some (some v)/\cz[i]?=some v/\cQ X.K H1 d v:=λ i j bW=>by
  obtain⟨d,ag,ai⟩:=CH i j bW;obtain⟨v,aT,b6⟩:=B.st j d ag;refine⟨d,v,ag,ai,aT,?_,b6.mono g1.tup⟩;show (ix.map _)[i]?=_;rw[dF,bW];simp only[mL,aT]
 have Wk:bR X.K H1 vals cz:=by
  have key:∀(n:Nat)(ws:List D)(us:List V),ws.length=n->us.length=n->(∀(i:Nat)(d:D),ws[i]?=some d->∃ v:V,us[i]?=some v/\cQ X.K H1 d v)->bR X.K H1 ws us:=λ n=>by
   induction n with
   |zero=>intro ws us ag ai _;cases ws<;>cases us<;>simp_all [bR]
   | succ n bG=>
    intro ws us ag ai cY
    cases ws with
    |nil=>simp at ag
    | cons w ws=>
     cases us with
     |nil=>simp at ai
     | cons u us=>
      obtain⟨v,aC,aF⟩:=cY 0 w rfl;cases aC;exact⟨u,us,rfl,aF,bG ws us (by simpa using ag) (by simpa using ai) λ i d hd=>by simpa using cY (i+1) d (by simpa using hd)⟩
  refine key vals.length vals cz rfl (by show (ix.map _).length=_;rw[bL];omega) λ i d hd=>?_
  have lt:i<ix.length:=by have:=(f5.mp hd).1;omega
  obtain⟨d',v,_,ai,_,b6,dp⟩:=Ky i ix[i] (f6 lt);rw[hd]at ai;cases ai;exact⟨v,b6,dp⟩
 refine⟨f,cz,M,λ i j bW=>let ⟨d,v,_,_,aT,b6,_⟩:=Ky i j bW;⟨v,aT,b6⟩,by show (ix.map _).length=_;rw[bL];exact vF,λ aQ out no C=>?_⟩
 have zH:lS H1 aQ:=λ b u dQ=>by
  rw[out b λ z=>?_];exact dQ;rw[no b z]at dQ;cases dQ
 have tz:iH X.K H1 aQ:=lS.mono zH
 have v2:d1 X.K (up aw f (.l5 name qual st fr vals)) aQ:=λ a o dR=>by
  by_cases z:a=f
  ·subst z;rw[bh]at dR;cases dR;refine⟨_,cz,C,?_,Wk.mono tz⟩;rw[fD,gw];exact List.map_id fr
  ·rw[bH z]at dR;obtain⟨u,rJ⟩:=(g1.bB a o dR).some;exact(g1.bB a o dR).mono tz (by rw[rJ];exact zH a u rJ)
 refine⟨ds,_,_,by rw[show ae=ae from rfl];exact al.mono tz,v2,bv,λ d a_ v ak g2 ad aV=>?_⟩;obtain⟨rfl,aV⟩:=aV;have Wl:pJ aQ ((fD X.env fr).map (·.2)):=C.eH
 have tA:pJ ak ((fD X.env fr).map (·.2)):=λ a aB=>let ⟨o,z⟩:=Wl a aB;⟨o,g2.tup.dq a o z⟩
 have wk:∀ {b u},H1 b=some u->b ∉ (fD X.env fr).map (·.2):=λ{b u} dQ z=>by rw[no b z]at dQ;cases dQ
 have cZ:iH X.K H1 (less ak ((fD X.env fr).map (·.2))):=⟨λ a xs q=>rH tA a xs (g2.tup.cj a xs (tz.cj a xs q)),λ a xs q=>rI tA a xs (g2.tup.fr a xs (tz.fr a xs q)),λ a o q=>by rw[hb (wk q)];exact g2.tup.dq a o (tz.dq a o q)⟩
 refine F d aw v _ (g1.trans ⟨cZ,λ a o dR=>?_,λ a o dR n=>?_,λ _ _ _ n=>n,λ a o dR=>?_⟩) (ad.iN (rH tA) (rI tA)) aV
 ·rw[hb (wk dR)];exact g2.hT a o (zH a o dR)
 ·rw[hb (wk dR)];refine g2.same a o (zH a o dR) ?_;rw[bH (by rintro rfl;rw[hf]at n;cases n)];exact n
 ·have b1:=g1.bB a o dR;obtain⟨u,rJ⟩:=b1.some;by_cases aO:o.rG=true
  ·have z:a≠f:=by rintro rfl;rw[hf]at dR;cases dR;cases aO
   exact(g2.bB a o (by rw[bH z];exact dR)).iN (rH tA) (rI tA) aO (hb (wk rJ))
  ·cases o with
   | made Wm Kz zI hr KA=>
    obtain⟨_,_,_,_,_,_,_,z,_⟩:=(show s8 Wm H1 a Kz zI hr KA from b1).fn;exact b1.mono cZ (by rw[z];exact cZ.dq _ _ z)
   | l5 Kz zI hr KA agB=>
    obtain⟨cl,us,CO,_⟩:=id b1;obtain⟨_,_,_,_,_,_,_,z,_⟩:=CO.fn;exact b1.mono cZ (by rw[z];exact cZ.dq _ _ z)
   | tab pos' zI=>
    have z:a≠f:=by rintro rfl;rw[hf]at dR;cases dR
    obtain⟨zE,t1,t2,t3⟩:=g2.bB a (.tab pos' zI) (by rw[bH z];exact dR);refine⟨zE,by rw[hb (wk rJ)];exact t1,t2,?_⟩;rcases t3 with t3|⟨c,o,us,tt,t3,rK,KC,tB⟩
    ·exact .inl t3
    ·refine .inr ⟨c,o,us,tt,t3,?_,KC,tB⟩;rw[hb λ Wn=>?_];exact rK;obtain⟨⟨y,cu⟩,hm,aE⟩:=eF.mp Wn;cases aE;obtain⟨i,ar,Wo⟩:=lE hm;obtain⟨_,_,dT,_,_,eZ,gD⟩:=C.cells i y cu (by rw[f6 ar,Wo]);have zJ:=g2.tup.dq _ _ eZ;rw[rK]at zJ;cases zJ;rw[KC]at gD;cases gD
   |_=>exact absurd rfl aO
end
noncomputable def lu(G:aY):aY:=λ a=>match G a with
 |some o=>if o.rG then some o else none
 |none=>none
theorem zK{G:aY}{a:Addr}{o:eU}:lu G a=some o ↔ G a=some o/\o.rG=true:=by
 unfold lu
 cases e:G a with
 |none=>simp
 | some u=>
  by_cases h:u.rG=true
  ·simp only[h,if_true,eW.injEq];exact⟨λ z=>(by subst z;exact⟨rfl,h⟩),λ z=>z.1⟩
  ·simp only[if_neg h];exact⟨λ z=>(by cases z),λ z=>(by rw[eW.inj z.1]at h;exact absurd z.2 h)⟩
noncomputable def wl(N:List Str)(ds vals:List D):el:=ds.map some++fT (N.length - ds.length - vals.length) none++vals.map some
theorem Wq{K:a8}{N:List Str}{ds vals:List D}{ae cz:List V}{G:aY}{H:au}(r:bR K H ds ae)(bD:bR K H vals cz)(v:d1 K G H):dI K (wl N ds vals) G (l1 N ae cz) H:=by
 have aH:=r.len;have fz:=bD.len
 have one:∀{ws:List D}{us:List V}{i:Nat}{d:D},bR K H ws us->(ws.map some)[i]?=some (some d)->∃ v,(us.map some)[i]?=some (some v)/\cQ K H d v:=λ{ws us i d} r h=>by
  rw[dF]at h
  cases e:ws[i]? with
  |none=>rw[e]at h;cases h
  | some z=>
   rw[e]at h;simp at h;subst h;obtain⟨u,ag,ai⟩:=r.get e;exact⟨u,by rw[dF,ag];rfl,ai⟩
 refine⟨by simp[wl,l1,aH,fz],λ i d h=>?_,v⟩;unfold wl at h;unfold l1;rw[aH,fz];by_cases c:i<(ds.map some++fT (N.length - ds.length - vals.length) (none:Option D)).length
 ·rw[ki c]at h;rw[ki (by simpa[aH] using c)];by_cases dS:i<(ds.map (some:D->Option D)).length
  ·rw[ki dS]at h;rw[ki (by simpa[aH] using dS)];exact one r h
  ·rw[mI (by omega),sj]at h;split at h<;>cases h
 ·rw[mI (by omega)]at h;rw[mI (by simpa[aH] using c)]
  have aC:(ds.map some++fT (N.length - ds.length - vals.length) (none:Option D)).length=(ae.map some++fT (N.length - ds.length - vals.length) (none:Option V)).length:=by simp[aH]
  rw[<- aC];exact one bD h
theorem KD{P:bZ}{w:bM}{K:a8}{mg:Str->Option Value}{base:bx}{k:Nat}{name qual:Str}{st:bC}{fr N ps:List Str}{vals:List D}{eo:cX}(S:vC N ps fr (b9 st))(len:∀ ds G az,eo ds G az->ds.length=ps.length)
 (vE:∀(cl:List (Str×Addr))(doc pm bF ct:Value)(us:List Value),us.length=ps.length->bindArgs (x8 name qual (kx st) (g9 st) (b9 st) cl .none .none doc pm none bF ct) ⟨us,[]⟩=pure (ps.zip us))
 (kt:∀(f:Addr)(bF:Value)(cl:List (Str×Addr))(A:cK)(outer:List Env)(s:ay)(H:au),eY k (A.deeper (uF qual (b9 st) s.heap.objs.size f bF cl))->∀(ds:List D)(G:aY)(az:dg),eo ds G az →
  ∃ t,l7 (ri P w K mg base N qual (b9 st) f bF cl A outer s H) (g9 st) t/\t {nx:=λ _ am=>Sub (lu G) am/\az .bE G,rt:=λ d am=>Sub (lu G) am/\az d G} (wl N ds vals) (lu G)):wg P w K mg base (k+1) name qual st fr vals ps eo:=by
 refine⟨λ cz=>T6 S (λ ae H Q E h=>?_) vE λ f bF cl A outer s H ae Q E aq ic dq i0=>?_⟩
 ·obtain⟨ds,G,az,r,_,_,h,_⟩:=h;rw[r.len];exact len ds G az h
 ·obtain⟨ds,G,az,r,bD,v,h,rz⟩:=i0;obtain⟨t,⟨bg,j,imp⟩,q⟩:=kt f bF cl A outer s (less H (cl.map (·.2))) aq ds G az h
  have v0:d1 K (lu G) (less H (cl.map (·.2))):=λ a o e=>by
   obtain⟨aC,aO⟩:=zK.mp e;refine(v a o aC).iN (rH dq) (rI dq) aO (hb λ z=>?_);obtain⟨u,z⟩:=dq a z;exact(v a o aC).Wi aO z
  have fin:∀ {d am v ak},Go K (lu G) (less H (cl.map (·.2))) am ak->cQ K ak d v->Sub (lu G) am/\az d G->(∀ a∈cl.map (·.2),ak a=none)->Q v (more ak (cl.map (·.2)) H):=λ{d am u ak} g ad q no=>by
   have zf:lS ak (more ak (cl.map (·.2)) H):=λ b u dQ=>by
    rw[m_ λ z=>?_];exact dQ;rw[no b z]at dQ;cases dQ
   have wm:iH K ak (more ak (cl.map (·.2)) H):=lS.mono zf
   have m:iH K H (more ak (cl.map (·.2)) H):=⟨λ a xs q=>wm.cj a xs (g.tup.cj a xs (rH dq a xs q)),λ a xs q=>wm.fr a xs (g.tup.fr a xs (rI dq a xs q)),λ a o q=>by
    by_cases z:a∈cl.map (·.2)
    ·rw[vA z];exact q
    ·exact wm.dq a o (g.tup.dq a o (by rw[hb z];exact q))⟩
   have same:∀ a o,H a=some o->lu G a=none->more ak (cl.map (·.2)) H a=some o:=λ a o e n=>by
    by_cases z:a∈cl.map (·.2)
    ·rw[vA z];exact e
    ·rw[m_ z];exact g.same a o (by rw[hb z];exact e) n
   refine rz d G u _ ⟨m,λ a o e=>?_,λ a o e n=>same a o e ?_,λ _ _ _ n=>n,λ a o e=>?_⟩ (ad.mono wm) q.2
   ·by_cases z:a∈cl.map (·.2)
    ·rw[vA z];exact⟨o,e⟩
    ·rw[m_ z];exact g.hT a o (by rw[hb z];exact e)
   ·unfold lu;rw[n]
   ·by_cases aO:o.rG=true
    ·have b:=g.bB a o (q.1 a o (zK.mpr ⟨e,aO⟩));obtain⟨x,ex⟩:=b.some;exact b.mono wm (by rw[ex];exact zf a x ex)
    ·obtain⟨x,ex⟩:=(v a o e).some;refine(v a o e).mono m ?_;rw[ex];refine same a x ex ?_
     cases z:lu G a with
     |none=>rfl
     | some y=>
      obtain⟨cW,c7⟩:=zK.mp z;rw[e]at cW;cases cW;exact absurd c7 aO
  refine⟨bg,j.run,imp _ _ (wl N ds vals) (lu G) (l1 N ae cz) _ (Wq (r.iN (rH dq) (rI dq)) (bD.iN (rH dq) (rI dq)) v0) q ⟨λ ρ' am σ' ak g b z no=>fin (d:=.bE) (v:=.bE) g rfl z no,λ d am v ak g a z no=>fin g a z no,λ _ _ _ _ _ _ z=>z.elim,λ _ _ _ _ _ _ z=>z.elim⟩⟩
structure tC(K:a8)(x qual:Str)(st:bC)(f:Addr)(fd:gM)(c:Addr):Prop where
 ex:∃(dT:Value)(c5:Option Addr)(dd doc pm:Value)(an:Option Addr)(ct:Value)(g7:Array (Option Value)),
  fd=lH x qual (kx st) (g9 st) (b9 st) .none dd doc pm an (.ref c) ct/\K.lookup f=some ⟨dT,c5,.func fd,g7⟩/\qR K (.ref c) qual=true
theorem KE{P:bZ}{w:bM}{K:a8}{mg:Str->Option Value}{base:bx}{x qual:Str}{st:bC}{f c:Addr}{fd:gM}{N ps:List Str}{k:Nat}{eo:cX}(F:tC K x qual st f fd c)(S:df N ps (b9 st))(len:∀ ds G az,eo ds G az->ds.length=ps.length)
 (kt:∀(A:cK)(outer:List Env)(s:ay)(H:au)(E:iA),eY k (A.deeper (PyProof.Rows.envOfC qual (b9 st) s.heap.objs.size f (.ref c)))->∀(ds:List D)(G:aY)(az:dg),eo ds G az →
  ∃ t,l7 (n5 cG P w K mg base N qual (b9 st) f (.ref c) A outer s H E).pi (g9 st) t/\t {nx:=λ _ am=>bQ az .bE am,rt:=bQ az} (ry N ds) G):cN P w K mg base cG (k+1) f fd ps (aX K eo):=by
 obtain⟨dT,c5,dd,doc,pm,an,ct,g7,rfl,lk,eN⟩:=F.ex;refine HF lk eN S (λ ae H Q E h=>?_) λ A outer s H ae Q E aq h=>?_
 ·obtain⟨ds,G,az,r,_,h,_⟩:=h;rw[r.len];exact len ds G az h
 ·obtain⟨ds,G,az,r,v,h,rz⟩:=h;obtain⟨t,⟨bg,j,imp⟩,q⟩:=kt A outer s H E aq ds G az h;refine⟨bg,(j.run).pi,imp _ _ (ry N ds) G (L2.jU N ae) H (JZ r v) q ⟨λ ρ' am σ' ak g b ⟨a_,s2,bv⟩=>rz .bE a_ .bE ak (g.sub s2) rfl bv,λ d am v ak g a ⟨a_,s2,bv⟩=>rz d a_ v ak (g.sub s2) a bv,λ _ _ _ _ _ _ z=>z.elim,λ _ _ _ _ _ _ z=>z.elim⟩⟩
noncomputable def Tm.hh:Tm->Nat->Nat
 |.way _,w=>w+1
 |_,w=>w
noncomputable def Tm.cU(φ:Nat->Nat->Tm):Nat->Tm->Tm
 |w,.name n=>φ n w
 |_,.whole k=>.whole k
 |w,.way t=>.way (t.cU φ (w+1))
 |w,.give t u=>.give (t.cU φ w) (u.cU φ w)
 |w,.pair t u=>.pair (t.cU φ w) (u.cU φ w)
 |w,.first t=>.first (t.cU φ w)
 |w,.second t=>.second (t.cU φ w)
 |w,.plus t u=>.plus (t.cU φ w) (u.cU φ w)
 |w,.look t u v=>.look (t.cU φ w) (u.cU φ w) (v.cU φ w)
noncomputable def Tm.cM:Nat->Tm->List (Nat×Nat)
 |w,.name n=>[(n,w)]
 |_,.whole _=>[]
 |w,.way t=>t.cM (w+1)
 |w,.give t u=>u.cM w++t.cM w
 |w,.pair t u=>u.cM w++t.cM w
 |w,.first t=>t.cM w
 |w,.second t=>t.cM w
 |w,.plus t u=>u.cM w++t.cM w
 |w,.look t u v=>v.cM w++(u.cM w++t.cM w)
noncomputable def Tm.leaf:Tm->Bool
 |.name _=>true
 |.whole _=>true
 |_=>false
theorem Tm.Wr{t:Tm}(h:t.leaf=false)(w:Nat):t.cM w=t.bb.reverse.flatMap (λ u=>u.cM (t.hh w)):=by
 cases t<;>simp[Tm.cM,Tm.bb,Tm.hh,Tm.leaf]at h ⊢
theorem Tm.Ws{t u:Tm}(h:t.leaf=false)(br:u∈t.bb){w:Nat}{z:Nat×Nat}(hz:z∈u.cM (t.hh w)):z∈t.cM w:=by
 rw[Tm.Wr h];exact List.mem_flatMap.mpr ⟨u,ux.mpr br,hz⟩
theorem Tm.CP(t:Tm):∀ w,(t.cM w).length<=t.aL:=by
 induction t<;>intro w<;>simp only[Tm.cM,Tm.aL,dJ,dt,h7]<;>first|omega|skip
 case way t bG=>have:=bG (w+1);omega
 case give t u dM dV=>have:=dM w;have:=dV w;omega
 case pair t u dM dV=>have:=dM w;have:=dV w;omega
 case first t bG=>have:=bG w;omega
 case second t bG=>have:=bG w;omega
 case plus t u dM dV=>have:=dM w;have:=dV w;omega
 case look t u v dM dV wn=>have:=dM w;have:=dV w;have:=wn w;omega
noncomputable def Tm.p6:Tm->List Tm->Tm
 |.way _,[a]=>.way a
 |.give _ _,[a,b]=>.give a b
 |.pair _ _,[a,b]=>.pair a b
 |.first _,[a]=>.first a
 |.second _,[a]=>.second a
 |.plus _ _,[a,b]=>.plus a b
 |.look _ _ _,[a,b,c]=>.look a b c
 |t,_=>t
theorem Tm.Wt{φ:Nat->Nat->Tm}{t:Tm}(h:t.leaf=false)(w:Nat):t.cU φ w=t.p6 (t.bb.map λ u=>u.cU φ (t.hh w)):=by
 cases t<;>first|rfl|cases h
theorem Tm.KF{t:Tm}{cs:List Tm}(h:t.leaf=false)(aH:cs.length=t.bb.length):(t.p6 cs).enc=.tup (.str t.word::cs.map Tm.enc):=by
 cases t<;>simp only[Tm.leaf,reduceCtorEq]at h<;>simp only[Tm.bb,dt,h7]at aH
 all_goals(rcases cs with _|⟨a,_|⟨b,_|⟨c,_|⟨d,r⟩⟩⟩⟩<;>simp at aH<;>rfl)
noncomputable abbrev Ent:=Tm×Nat×Bool
noncomputable def oB(z:Ent):D:=.tup [z.1.enc,.int z.2.1,.aW z.2.2]
noncomputable def CQ(φ:Nat->Nat->Tm)(z:Ent)(m:List Tm):Option (List Tm):=match z.1 with
 |.name n=>some (φ n z.2.1::m)
 |.whole k=>some (.whole k::m)
 |t=>if z.2.2 then (if t.bb.length<=m.length then some (t.p6 (m.take t.bb.length)::m.drop t.bb.length) else none) else some (t.cU φ z.2.1::m)
noncomputable def mh(φ:Nat->Nat->Tm):List Ent->List Tm->Option (List Tm)
 |[],m=>some m
 | z::zs,m=>match CQ φ z m with
  |some cZ=>mh φ zs cZ
  |none=>none
theorem CR{φ:Nat->Nat->Tm}(t:Tm)(w:Nat)(m:List Tm):CQ φ (t,w,false) m=some (t.cU φ w::m):=by cases t<;>rfl
theorem KG{φ:Nat->Nat->Tm}{t:Tm}(h:t.leaf=false)(w:Nat)(m:List Tm):CQ φ (t,w,true) m=if t.bb.length<=m.length then some (t.p6 (m.take t.bb.length)::m.drop t.bb.length) else none:=by
 cases t<;>first|rfl|cases h
theorem KH{φ:Nat->Nat->Tm}{w:Nat}{zs:List Ent}:∀(xs:List Tm)(m:List Tm),mh φ (xs.map (λ u=>(u,w,false))++zs) m=mh φ zs ((xs.map λ u=>u.cU φ w).reverse++m)
 |[],m=>rfl
 | x::xs,m=>by
  rw[cV,kk,mh,CR];simp only[];rw[KH xs];simp
theorem Wu{φ:Nat->Nat->Tm}{t:Tm}(h:t.leaf=false)(w:Nat)(zs:List Ent)(m:List Tm):mh φ ((t.bb.map λ u=>((u,t.hh w,false):Ent)).reverse++(t,w,true)::zs) m=mh φ ((t,w,false)::zs) m:=by
 rw[<- iw,KH,mh,mh,CR,KG h];rw[iw,List.reverse_reverse,if_pos (by simp)];simp only[bL,List.take_left',List.drop_left',Tm.Wt h]
noncomputable def nq(z:Ent):Nat:=if z.2.2 then 1 else 2 * z.1.aL
noncomputable def j6(zs:List Ent):Nat:=(zs.map nq).sum
theorem zL(z:Ent)(zs:List Ent):j6 (z::zs)=nq z+j6 zs:=by simp[j6]
theorem KI(w:Nat)(zs:List Ent):∀ xs:List Tm,j6 (xs.map (λ u=>((u,w,false):Ent))++zs)=2 * (xs.map Tm.aL).sum+j6 zs
 |[]=>by simp
 |x::xs=>by rw[cV,kk,zL,KI w zs xs,cV,sm];simp only[nq];simp;omega
theorem KJ:∀ zs:List Ent,zs.length<=j6 zs
 |[]=>fV _
 | z::zs=>by
  have:=KJ zs;have:=z.1.mc
  have h:1<=nq z:=by unfold nq;split<;>omega
  rw[zL,dt];omega
theorem Tm.Wv{t:Tm}(h:t.leaf=false):(t.bb.map Tm.aL).sum+1=t.aL:=by
 cases t<;>simp[Tm.bb,Tm.aL,Tm.leaf]at h ⊢<;>omega
noncomputable def zM:cX:=λ ds G Q=>∃(t:Tm)(w:Nat),ds=[t.enc,.int w]/\Q (.int (t.hh w:Nat)) G
noncomputable def lv(z:Nat×Nat):D:=.tup [.int z.1,.int z.2]
noncomputable def zN:cX:=λ ds G Q=>∃ t:Tm,ds=[t.enc]/\t.aL<=10000/\∀ l,G l=none->Q (.ref l) (up G l (.lst ((t.cM 0).map lv)))
noncomputable def CS(φ:Nat->Nat->Tm)(C:Nat->Nat->Prop)(L:List (Addr×eU)):cX:=λ ds G Q=>∃ n w:Nat,ds=[.int n,.int w]/\C n w/\(∀ q∈L,G q.1=some q.2)/\Q (φ n w).enc G
noncomputable def zO(P:bZ)(w:bM)(K:a8)(mg:Str->Option Value)(base:bx)(k:Nat):cX:=λ ds G Q=>∃(t:Tm)(f:Addr)(name qual:Str)(st:bC)(fr:List Str)(vals:List D)(ps:List Str)(φ:Nat->Nat->Tm)(C:Nat->Nat->Prop)(L:List (Addr×eU)),
 ds=[t.enc,.ref f]/\G f=some (.l5 name qual st fr vals)/\wg P w K mg base k name qual st fr vals ps (CS φ C L)/\(∀ q∈L,G q.1=some q.2)/\t.aL<=10000/\(∀ z∈t.cM 0,C z.1 z.2)/\Q (t.cU φ 0).enc G
noncomputable def gY:bC->Pos
 |.FunctionDef _ _ _ _ _ _ _ _ _ p=>p
 |_=>⟨0,0,0,0⟩
noncomputable def gf(m l:Nat):Nat->Nat->Tm:=λ n w=>.name (if n ≥ w+l then n+m else n)
noncomputable def CT(T:Addr)(pos:Pos):cX:=λ ds G Q=>∃(t:Tm)(m l:Nat),ds=[t.enc,.int m,.int l]/\G T=some (.tab pos "lifted.<locals>.moved")/\t.aL<=10000/\Q (t.cU (gf m l) 0).enc G
noncomputable def i9(z:Tm×Nat):D:=.tup [z.1.enc,.int z.2]
noncomputable def j7(zs:List (Tm×Nat)):Nat:=(zs.map λ z=>z.1.aL).sum
theorem CU(z:Tm×Nat)(zs:List (Tm×Nat)):j7 (z::zs)=z.1.aL+j7 zs:=by simp[j7]
theorem wo(w:Nat)(zs:List (Tm×Nat)):∀ xs:List Tm,j7 (xs.map (λ u=>(u,w))++zs)=(xs.map Tm.aL).sum+j7 zs
 |[]=>by simp
 |x::xs=>by rw[cV,kk,CU,wo w zs xs,cV,sm];simp only[];omega
theorem KL:∀ zs:List (Tm×Nat),zs.length<=j7 zs
 |[]=>fV _
 | z::zs=>by
  have:=KL zs;have:=z.1.mc;rw[CU,dt];omega
theorem Tm.zP(t:Tm):(t.bb.map Tm.aL).sum+1<=t.aL:=by cases t<;>simp[Tm.bb,Tm.aL]<;>omega
section
variable{K:a8}{H:au}
noncomputable def putD(f:Str)(v:D):List (Str×D)->List (Str×D)
 |[]=>[(f,v)]
 |(g,x)::r=>if g=f then (g,v)::r else (g,x)::putD f v r
end
@[irreducible] noncomputable def KM(G:aY)(a C:Addr)(k:List (Str×D)->Prop):Prop:=match G a with
 |some (.ins CO fs)=>CO=C/\k fs
 |_=>False
noncomputable def Ww(fs:List (Str×D))(f:Str)(k:D->Prop):Prop:=match fs.lookup f with
 |some d=>k d
 |none=>False
end L3
namespace L2
open PySem PySem.Spec PyProof.Rows
theorem Wx{l:PySem.W.OpenLaw}{n k:Nat}{q:bZ}{loose:List Str}{sU:(Str->Option Value)->bx->Prop}{m2:bM->bx->Prop}{d:DefRec}{K:Params->a8}{sp:a8->gm}{x:Str}{tabs:List (Addr×Addr)}
 (bc:l.most=some n) (Wy:n<=sizeLine) (u8:d.params.defaults=[]) (aq:eY k sh) (mi:∀(w:bM)(h:bx),m2 w h->(K w.params).In h) (eu:∀ w:bM,PySem.W.noTabs (K w.params)=true)
 (CV:∀(w:bM)(h:bx),m2 w h->PySem.W.TabsAt tabs h)
 (F:∀(w:bM)(mg:Str->Option Value)(fa:Addr)(h:bx),(K w.params).In h->h.Ns et mg->mg d.name=some (.ref fa) →
  ∃ fd:gM,(∀(s:ay)(u:Value),sg s fd ⟨[u],[]⟩ [(x,u)]) ∧
   ∀ base:bx,(K w.params).In base->base.Ns et mg->(∀ q∈tabs,PySem.W.CodeHd base q.1 q.2)->l4 mg base->cN l.prog w (K w.params) mg base cG k fa fd [x] (sp (K w.params)))
 (i0:∀(K:a8)(H:au)(a:Addr)(ns:List Int),ns.length<=n->y0 tabs K a H->eh K H a (ns.map V.int)->sp K [.ref a] H (λ v _=>v=.aW true) λ _ _ _=>False) :
 PySem.W.WalkO q loose sU m2 l.row.toRowW d [] (λ f ae=>PySem.call f ae):=by
 refine H3.Q1 bc u8 λ w s₀ dx mg jN fa o pm cd doc a ae ns G Y aO hd eN hmg Bl hints hlen a3=>?_;have KX:=mi w _ Y;obtain⟨fd,af,fm⟩:=F w mg fa _ KX G.T.g hmg;exact Um KX G.T.g G.T.b G.T.builtins G.T.nolimit a3 Bl hints (eG hlen Wy) aq (CV w _ Y) (eu w) (Ut G.T) fm af λ H vx c3=>i0 _ H a ns hlen vx c3
end L2
namespace L3
open PySem PyProof L2
noncomputable def wp(ec:List (Addr×Pos×Str)):cX:=λ ds G Q=>∃ ns:List Int,ds=[.d6 (ns.map D.int)]/\ns.length<=63/\(∀ q∈ec,G q.1=some (.tab q.2.1 q.2.2))/\∀ am,Q (.aW true) am
noncomputable def zQ:List Addr->Bool
 |[]=>true
 |a::r=>!r.contains a&&zQ r
theorem KN:∀{ec:List (Addr×Pos×Str)}{q:Addr×Pos×Str},zQ (ec.map (·.1))=true->q∈ec->ec.lookup q.1=some q.2
 | (gU,c_)::r,(aG,bv),aS,h=>by
  simp only[cV,zQ,fh,Bool.not_eq_true',List.contains_eq_mem,decide_eq_false_iff_not]at aS;show ((gU,c_)::r).lookup aG=some bv;rcases dw.mp h with e|h
  ·cases e;rw[nT,beq_self_eq_true]
  ·have ne:aG≠gU:=λ z=>aS.1 (by rw[<- z];exact iy (f:=(·.1)) h);rw[nT,beq_false_of_ne ne];exact KN aS.2 h
theorem KO:∀{ec:List (Addr×Pos×Str)}{a:Addr}{z:Pos×Str},ec.lookup a=some z->(a,z)∈ec
 | (gU,c_)::r,a,z,h=>by
  rw[nT]at h
  cases e:(a==gU) with
  | true=>
   rw[e]at h;cases h
   obtain rfl:a=gU:=by simpa using e
   exact dP ..
  |false=>rw[e]at h;exact eE _ (KO h)
theorem Wz{K:a8}{H:au}{a:Addr}{ns:List Int}{tabs:List (Addr×Addr)}{ec:List (Addr×Pos×Str)}(hm:ec.map (·.1)=tabs.map (·.2))(aS:zQ (ec.map (·.1))=true)(aH:ns.length<=63)(o:y0 tabs K a H)(h:eh K H a (ns.map V.int)) :
 aX K (wp ec) [.ref a] H (λ v _=>v=.aW true) λ _ _ _=>False:=by
 have f:jZ K H a (ns.map V.int):=by
  rcases h with(h|h)|h
  ·rcases o.only a with z|⟨_,_,z⟩|⟨_,z⟩<;>(rw[h]at z;cases z)
  ·exact .inl h
  ·exact .inr h
 refine⟨[.d6 (ns.map D.int)],λ b=>(ec.lookup b).map λ z=>.tab z.1 z.2,λ d _=>d=.aW true,⟨.ref a,[],rfl,⟨a,_,rfl,f,bR.y2 ns⟩,rfl⟩,λ b u e=>?_,⟨ns,rfl,aH,λ q aV=>by simp only[KN aS aV,mL],λ _=>rfl⟩,λ d am v ak g ad e=>?_⟩
 ·cases z:ec.lookup b with
  |none=>simp only[z,Option.map_none]at e;cases e
  | some y=>
   simp only[z,mL]at e;cases e
   have af:b∈tabs.map (·.2):=by rw[<- hm];exact iy (KO z)
   obtain⟨q,aV,rfl⟩:=eF.mp af;exact⟨#[],o.tab q aV,trivial,.inl rfl⟩
 ·subst e;exact ad
end L3
namespace hi
open PySem PyProof.Rows
noncomputable abbrev i_(xs:Array Nat):Prop:=xs.toList.Pairwise (·<·)
theorem i_.lt{xs:Array Nat}(h:i_ xs){i j:Nat}(KP:i<j)(bW:j<xs.size):xs.getD i 0<xs.getD j 0:=by
 have ar:i<xs.size:=by omega
 have z:=List.pairwise_iff_getElem.mp h i j (by simpa using ar) (by simpa using bW) KP;simpa[lG,ar,bW] using z
theorem WA{xs:Array Nat}(h:i_ xs)(j:Nat):∀(fuel lo ar:Nat),ar - lo<=fuel->lo<=ar->ar<=xs.size->(∀ i,i<lo->xs.getD i 0<j)->(∀ i,ar<=i->i<xs.size->j<=xs.getD i 0) →
 ∃ p,SetTable.below.go xs j fuel lo ar=p/\p<=xs.size/\(∀ i,i<p->xs.getD i 0<j)/\∀ i,p<=i->i<xs.size->j<=xs.getD i 0:=by
 intro fuel
 induction fuel with
 | zero=>
  intro lo ar ag ai aT b6 dp
  obtain rfl:lo=ar:=by omega
  exact⟨lo,rfl,aT,b6,dp⟩
 | succ fuel bG=>
  intro lo ar ag ai aT b6 dp;unfold SetTable.below.go;by_cases c:lo<ar
  ·rw[if_pos c]
   dsimp only
   have hm:(lo+ar) / 2<xs.size:=by omega
   have cg:xs.getD ((lo+ar) / 2) j=xs.getD ((lo+ar) / 2) 0:=by simp[lG,hm]
   by_cases d:xs.getD ((lo+ar) / 2) j<j
   ·rw[if_pos d];refine bG _ _ (by omega) (by omega) aT (λ i kD=>?_) dp;rw[cg]at d;rcases Nat.lt_or_eq_of_le (Nat.lt_succ_iff.mp kD) with z|z
    ·exact nV (h.lt z hm) d
    ·rw[z];exact d
   ·rw[if_neg d];refine bG _ _ (by omega) (by omega) (by omega) b6 (λ i kD av=>?_);rw[cg]at d;rcases Nat.lt_or_eq_of_le kD with z|z
    ·exact pa (Nat.lt_of_le_of_lt (Nat.not_lt.mp d) (h.lt z av))
    ·rw[<- z];exact Nat.not_lt.mp d
  ·rw[if_neg c]
   obtain rfl:lo=ar:=by omega
   exact⟨lo,rfl,aT,b6,dp⟩
theorem KQ{xs:Array Nat}(h:i_ xs)(j:Nat):SetTable.below xs j<=xs.size/\(∀ i,i<SetTable.below xs j->xs.getD i 0<j)/\∀ i,SetTable.below xs j<=i->i<xs.size->j<=xs.getD i 0:=by
 obtain⟨p,e,q⟩:=WA h j xs.size 0 xs.size (by omega) (fV _) (ZB _) (by omega) (by omega);unfold SetTable.below;rw[e];exact q
theorem WB{xs:Array Nat}(h:i_ xs){j:Nat}(bW:xs[SetTable.below xs j]?≠some j):i_ (SetTable.insertAt xs (SetTable.below xs j) j):=by
 obtain⟨ag,ai,aT⟩:=KQ h j;generalize SetTable.below xs j=p at *;unfold i_;rw[SetTable.toList_insertAt]
 have gt:∀ y∈xs.toList.drop p,j<y:=λ y bj=>by
  obtain⟨i,ar,e⟩:=lE bj;rw[List.getElem_drop]at e;rw[mJ]at ar
  have av:p+i<xs.size:=by simpa using(by omega:p+i<xs.toList.length)
  have z:=aT (p+i) (by omega) av
  have aF:xs.getD (p+i) 0=y:=by rw[<- e];simp[lG,av]
  rw[aF]at z;rcases Nat.lt_or_eq_of_le z with z|z
  ·exact z
  ·exfalso;subst z;rcases Nat.eq_zero_or_pos i with l3|l3
   ·subst l3;apply bW
    have ax:p<xs.size:=by omega
    have c6:xs[p]=j:=by rw[<- e];simp
    rw[hI ax,c6]
   ·have l:=h.lt (show p<p+i by omega) av;have:=aT p (ZB _) (by omega);omega
 refine List.pairwise_append.mpr ⟨h.sublist (List.take_sublist _ _),List.pairwise_cons.mpr ⟨gt,h.sublist (uy _ _)⟩,λ x aA y bj=>?_⟩
 have lt:x<j:=by
  obtain⟨i,ar,e⟩:=lE aA;rw[List.getElem_take]at e;rw[k2]at ar
  have av:i<xs.size:=by simpa using(by omega:i<xs.toList.length)
  have z:=ai i (by omega);rw[<- e];simpa[lG,av] using z
 rcases dw.mp bj with rfl|bj
 ·exact lt
 ·exact nV lt (gt y bj)
theorem WC(n:Nat):i_ (Array.range n):=by
 unfold i_;rw[Array.toList_range];exact List.pairwise_lt_range
theorem WD{t:eQ}(h:t.dummies=#[])(j:Nat):t.slot j≠.dummy:=by
 unfold SetTable.slot SetTable.has;rw[h]
 dsimp only
 split
 ·exact nofun
 ·rw[if_neg (by simp)];exact nofun
theorem KR{t:eQ}(h:t.dummies=#[]){av:Nat->Int}{k:Int}:∀(fuel:Nat)(p:SetTable.Probe)(j:Nat)(d:Option Nat),SetTable.probe.go t av k fuel p=some (.empty j d)->t.slot j=.empty/\d=p.dummy
 |0,_,_,_,e=>by cases e
 | fuel+1,p,j,d,e=>by
  unfold SetTable.probe.go at e
  have WE:∀ q:SetTable.Probe,(t.advance q).dummy=q.dummy:=λ q=>by unfold SetTable.advance;split<;>rfl
  split at e
  ·next z=>cases e;exact⟨z,rfl⟩
  ·next z=>exact absurd z (WD h _)
  ·split at e
   ·cases e
   ·obtain⟨ag,ai⟩:=KR h fuel _ j d e;exact⟨ag,by rw[ai,WE]⟩
theorem WG{t:eQ}(h:t.dummies=#[]){k:Int}{j:Nat}{b:Bool}(e:t.freeSlot k=some (j,b)):t.slot j=.empty/\b=false:=by
 unfold SetTable.freeSlot at e;split at e
 ·next lc d z=>
  obtain⟨ag,ai⟩:=KR h _ _ _ _ (show SetTable.probe.go t (λ _=>k+1) k (10 * SetTable.turns t.mask) (t.probeStart k)=_ from z);have:d=none:=ai;subst this;cases e;exact⟨ag,rfl⟩
 ·cases e
theorem WH{t:eQ}{j:Nat}(h:t.slot j=.empty):t.place[SetTable.below t.place j]?≠some j:=λ z=>by
 unfold SetTable.slot at h
 dsimp only at h
 rw[if_pos (by rw[z];simp)]at h;cases h
structure Cl(b:Bool)(t:eQ):Prop where
 up:i_ t.place
 led:b=false->t.led=true
 rL:t.dummies=#[]
theorem Cl.standIn{b:Bool}{t:eQ}(h:Cl b t)(n:Nat):Cl b (t.standIn n):=⟨WC n,h.led,rfl⟩
theorem Cl.orStandIn{b:Bool}{t:eQ}(h:Cl b t)(n:Nat):Cl b (t.orStandIn n):=by
 unfold SetTable.orStandIn;split
 ·exact h
 ·exact h.standIn n
theorem Cl.lay{b:Bool}{t:eQ}(h:Cl b t)(es:Array (Int×Value))(k:Int)(x:Value):Cl b (layNew t es k x).2.1/\(layNew t es k x).2.2.1=false:=by
 unfold layNew;split
 ·next slot d e=>
  obtain⟨ag,rfl⟩:=WG h.rL e
  have c:Cl b (t.put slot).1:=⟨WB h.up (WH ag),h.led,by
   show (if SetTable.has t.dummies slot=true then _ else t.dummies)=#[]
   rw[h.rL,if_neg (by simp[SetTable.has])]⟩
  exact⟨c.orStandIn _,rfl⟩
 ·exact⟨h.standIn _,rfl⟩
theorem zR{α:Type}(g:Nat->Option α):∀ l:List Nat,((l.filterMap λ j=>(g j).map (j,·)).map (·.1)).Sublist l
 |[]=>by simp
 | a::l=>by
  cases e:g a with
  |none=>simp only[o4,e,Option.map_none];exact(zR g l).cons _
  |some y=>simp only[o4,e,mL,cV];exact(zR g l).cons₂ _
theorem WI{b:Bool}{mask finger moves:Nat}{led plain:Bool}{av:Array Int}{t':eQ}{order:Array Nat}(aH:b=false->led=true)(e:SetTable.laid mask finger moves led plain av=some (t',order)):Cl b t':=by
 unfold SetTable.laid at e
 cases z:SetTable.layClean mask av with
 |none=>rw[z]at e;cases e
 | some owner=>
  rw[z]at e;simp only[Option.pure_def,Option.bind_eq_bind,Option.bind_some,eW.injEq,Prod.mk.injEq]at e;obtain⟨rfl,_⟩:=e;refine⟨?_,aH,rfl⟩;show ((uz _ _).toArray.toList).Pairwise _;rw[xW];exact(List.pairwise_lt_range (n:=mask+1)).sublist (zR (λ j=>owner.getD j none) _)
theorem Cl.WJ{b:Bool}{t:eQ}(h:Cl b t)(es:Array (Int×Value))(n:Nat):Cl b (sf t es n).2.1:=by
 unfold sf;split
 ·next t' order e=>
  dsimp only
  split
  ·exact WI h.led e
  ·exact h.standIn _
 ·exact h.standIn _
noncomputable abbrev gG(w:bM):Bool:=w.params.followText "set-order"
noncomputable def gg:Value->Int
 |.int k _=>k
 |_=>0
noncomputable def hZ(es:List (Int×Value)):Prop:=∀ e∈es,(∃ t,e.2=.int (gg e.2) t)/\e.1=iv (gg e.2)
noncomputable abbrev keys(es:Array (Int×Value)):List Int:=es.toList.map λ e=>gg e.2
noncomputable abbrev setAt(es:Array (Int×Value))(ep:Nat)(t:eQ):Obj:={cls:=.type "set",dict:=none,data:=.set es ep t,slots:=#[]}
theorem hZ.elems{prog:bZ}{w:bM}{es:List (Int×Value)}(h:hZ es):ElemsOf (h6 prog w) es:=λ e he=>by
 obtain⟨⟨t,aC⟩,aF⟩:=h e he;refine⟨⟨gg e.2,?_,aF⟩,?_⟩
 ·rw[aC];exact qG _ _ _ _
 ·rw[aC];rfl
theorem hZ.perm{es fw:List (Int×Value)}(h:hZ es)(p:fw.Perm es):hZ fw:=λ e he=>h e (p.mem_iff.mp he)
theorem hZ.snoc{es:List (Int×Value)}(h:hZ es)(k:Int)(u:Tok):hZ (es++[(iv k,.int k u)]):=λ e he=>by
 rcases hF.mp he with he|he
 ·exact h e he
 ·rw[ft.mp he];exact⟨⟨u,rfl⟩,rfl⟩
theorem hZ.met{prog:bZ}{w:bM}{es:List (Int×Value)}(h:hZ es){k:Int}:(∃ e∈es,(h6 prog w).is k e.2=true) ↔ k∈es.map λ e=>gg e.2:=by
 constructor
 ·rintro⟨e,he,q⟩;obtain⟨⟨t,aC⟩,_⟩:=h e he;refine eF.mpr ⟨e,he,?_⟩;rw[aC]at q ⊢;exact(h6 prog w).inj _ _ _ (qG prog w _ t) q
 ·intro aI;obtain⟨e,he,rfl⟩:=eF.mp aI;obtain⟨⟨t,aC⟩,_⟩:=h e he;exact⟨e,he,by rw[aC];exact qG _ _ _ _⟩
structure eB(w:bM)(h:bx)(a:Addr)(es:Array (Int×Value))(ep:Nat)(t:eQ):Prop where
 at_:h.get? a=some (setAt es ep t)
 all:hZ es.toList
 aS:(keys es).Nodup
 fits:t.fits es.size=true
 fc:es.size<1000
 cl:Cl (gG w) t
theorem zS{n:Nat}(h:n<1000):n<=sizeLine:=by have:=hk;omega
section
variable{prog:bZ}{w:bM}{A:cK}{E:Value->ay->Prop}{s:ay}{a:Addr}{es:Array (Int×Value)}{ep:Nat}{t:eQ}
theorem tD{h:bx}(e:h.get? a=some (setAt es ep t))(fw:Array (Int×Value))(t':eQ):(h.update a (Obj.putSet fw t')).get? a=some (setAt fw (ep+1) t'):=hl (Obj.putSet fw t') e rfl
theorem tail{g:Bool->Sem Unit}(a3:∀ b (s1:ay) (gA:Unit->ay->Prop),gA () s1->aD (aK prog w) A (g b) gA E s1)(cg:s.heap.get? a=some (setAt es ep t)){xs:Array (Int×Value)}{t2:eQ}(eS:hZ xs.toList)(oC:(keys xs).Nodup)(hf:t2.fits xs.size=true)(sT:xs.size<1000)(aE:Cl (gG w) t2){KS:Bool}{R:Option Bool->ay->Prop}
 (h:∀ h' lb ho t',Heap.SameBut a s.heap h'->eB w h' a lb ho t'->lb.toList.Perm xs.toList->R (some true) {s with heap:=h'}) :
 aD (aK prog w) A (do storeSet a xs t2;(if (!KS&&t2.tooFull)=true then (do g (sf t2 xs (SetTable.grown xs.size)).2.2;storeSet a (sf t2 xs (SetTable.grown xs.size)).1 (sf t2 xs (SetTable.grown xs.size)).2.1;pure (some true)) else pure (some true))) R E s:=by
 have aC:=tD cg xs t2;have b1:=Heap.SameBut.update s.heap a (Obj.putSet xs t2);refine ah (r9 cg rfl ?_ (zS sT));have pm:=relayAll_perm t2 xs (SetTable.grown xs.size);have fr:=relayAll_fits t2 xs (SetTable.grown xs.size);have cr:=aE.WJ xs (SetTable.grown xs.size)
 have aL:(sf t2 xs (SetTable.grown xs.size)).1.size=xs.size:=by rw[<- fu,pm.length_eq,fu]
 split
 ·refine ah (a3 _ _ _ (ah (r9 aC rfl (aM (h _ _ _ _ (b1.trans (Heap.SameBut.update _ a _)) ⟨tD aC _ _,eS.perm pm,?_,fr,by rw[aL];exact sT,cr⟩ pm)) (zS (by rw[aL];exact sT)))));exact(pm.map λ e=>gg e.2).nodup_iff.mpr oC
 ·exact aM (h _ _ _ _ b1 ⟨aC,eS,oC,hf,sT,aE⟩ (List.Perm.refl _))
theorem add{k:Int}{u:Tok}{Q:Bool->ay->Prop}(X:eB w s.heap a es ep t)(aq:es.size+1<1000)
 (h:∀ b h' fw ho t',Heap.SameBut a s.heap h'->eB w h' a fw ho t'->(∀ j,j∈keys fw ↔ j∈keys es\/j=k)->fw.size<=es.size+1->Q b {s with heap:=h'}):aD (aK prog w) A (setAddHashed a (.int k u) (iv k)) Q E s:=by
 have wq:=X.all.elems (prog:=prog) (w:=w)
 have fy:es.size<Uf:=by have:=X.fc;unfold Uf;omega
 unfold setAddHashed setAddHashedIn;refine g4 (ah (iu X.at_ rfl X.fits ?_))
 dsimp only
 rw[byScan_of (knd:=h6 prog w) (x:=.int k u) rfl fy wq,if_pos rfl];unfold setAddByScan;refine ah (ah (h5 (ah (wpAny_setScan_of (knd:=h6 prog w) (k:=k) (qG _ _ _ _) X.at_ rfl X.fits wq ?_))))
 cases ar:List.findIdx? (λ e=>(h6 prog w).is k e.2) es.toList with
 | some j=>
  obtain⟨bW,q,_⟩:=List.findIdx?_eq_some_iff_getElem.mp ar;have aI:k∈keys es:=X.all.met.mp ⟨_,sl bW,q⟩;exact aM (aM (h false s.heap es ep t (Heap.SameBut.refl a _) X (λ i=>⟨.inl,λ z=>z.elim id λ z=>by rw[z];exact aI⟩) (Nat.le_succ _)))
 | none=>
  have aI:k ∉ keys es:=λ z=>by
   obtain⟨e,he,q⟩:=(X.all.met (prog:=prog) (w:=w)).mpr z;have:=List.findIdx?_eq_none_iff.mp ar e he;rw[q]at this;cases this
  have pm:=layNew_perm t es (iv k) (.int k u);have fr:=layNew_fits t es (iv k) (.int k u);have cr:=X.cl.lay es (iv k) (.int k u)
  dsimp only
  generalize layNew t es (iv k) (.int k u)=L at pm fr cr ⊢;obtain⟨xs,t1,KS,agC⟩:=L
  dsimp only at pm fr cr ⊢
  obtain⟨cr,rfl⟩:=cr;rw[Array.toList_push]at pm
  have aL:xs.size=es.size+1:=by rw[<- fu,pm.length_eq];simp
  have b8:(keys xs).Perm (keys es++[k]):=by have z:=pm.map λ e=>gg e.2;rwa[fN]at z
  have aS:(keys xs).Nodup:=b8.nodup_iff.mpr (xX.mpr ⟨X.aS,by simp,λ x aA y bj=>by rw[ft.mp bj];rintro rfl;exact aI aA⟩)
  have CW:∀ b (s1:ay) (gA:Unit->ay->Prop),gA () s1->aD (aK prog w) A (match b with|true=>rule "set.scan.the-table-gave-way"|false=>pure ()) gA E s1:=λ b s1 gA aV=>by
   cases b
   ·exact aM aV
   ·exact h5 aV
  have fin:∀ h' lb ho t',Heap.SameBut a s.heap h'->eB w h' a lb ho t'->lb.toList.Perm xs.toList->Q true {s with heap:=h'}:=λ h' lb ho t' af wt ax=>by
   refine h true h' lb ho t' af wt (λ j=>?_) (by rw[<- fu,ax.length_eq,fu,aL];exact ZB _);rw[((ax.map λ e=>gg e.2).trans b8).mem_iff,hF,ft]
  refine ah (CW _ _ _ ?_);split
  ·refine ah ?_;rw[hashByValue_scannable 8 (x:=.int k u) rfl];refine aM ?_;refine tail CW X.at_ ((X.all.snoc k u).perm pm) aS (by simpa[plainKind] using fr) (by omega) (by simpa[plainKind] using cr) λ h' lb ho t' af wt ax=>aM (fin h' lb ho t' af wt ax)
  ·refine ah (aM ?_);refine tail CW X.at_ ((X.all.snoc k u).perm pm) aS (by simpa using fr) (by omega) (by simpa using cr) λ h' lb ho t' af wt ax=>aM (fin h' lb ho t' af wt ax)
end
section
variable{prog:bZ}{w:bM}{A:cK}{E:Value->ay->Prop}{s:ay}
noncomputable abbrev hC(w:bM):Obj:=setAt #[] 0 (.fresh 0 0 (!gG w))
theorem eB.fresh{h:bx}{a:Addr}(e:h.get? a=some (hC w)):eB w h a #[] 0 (.fresh 0 0 (!gG w)):=
 ⟨e,λ _ h=>(nomatch (show _∈([]:List (Int×Value)) from h)),List.Pairwise.nil,rfl,by decide,List.Pairwise.nil,λ h=>by simp[SetTable.fresh,h],rfl⟩
theorem WK(x:Value){Q:Value->ay->Prop}(h:Q (.ref s.heap.objs.size) {s with heap:=s.heap.push (hC w)}):iV (aK prog w) A (.call (.builtin "set.__new__") ⟨[.type "set",x],[]⟩) (wants Q E) s:=by
 refine codeAny_of_tree (show aD _ A.in1 (checkBuiltinCall "set.__new__" ⟨[.type "set",x],[]⟩ >>= λ _=>again (.builtin "set.__new__" ⟨[.type "set",x],[]⟩)) _ _ s from ?_);refine ah (qE (F.newCall_set_1 x) (aM ⟨lB F.plain_set_new _,my F.entry_set_new ?_⟩));rw[Around.under_plainId F.plain_set_new _];unfold Builtin.«set.__new__» Builtin.Frozenset.newClass;have sub:=AS;cases s
 dsimp only
 wp_walk
 refine xu (aM ?_)
 dsimp only
 unfold newObj;exact ah (wpAny_alloc (aM (aM h)))
theorem WL{I l S:Addr}{items:Array Value}{ns:List Int}{R:qL->ay->Prop}(cY:A.handled=none)(cE:l≠I)(k_:S≠I)(aH:S≠l)(ar:lD items.toList ns)(af:items.size<900) :
 ∀(k i:Nat)(s:ay)(es:Array (Int×Value))(ep:Nat)(t:eQ),items.size - i=k->i<=items.size->s.heap.IsListIter I l i->s.heap.IsList l items->eB w s.heap S es ep t->es.size<=i->(∀ j,j∈keys es ↔ j∈ns.take i) →
  (∀ h' tk fw ho t',eB w h' S fw ho t'->fw.size<=items.size->(∀ j,j∈keys fw ↔ j∈ns)->(∀ b o,b≠S->b≠I->s.heap.get? b=some o->h'.get? b=some o)->R (.ok (.ret .none)) {s with heap:=h',toks:=tk}) →
  iV (aK prog w) A (.builtin "set.update.loop" ⟨[.ref S,.ref I],[]⟩) R s:=by
 have W:=Walks.list (prog:=prog) (w:=w) (A:=A.in1) cY I l cE items;have hlen:=ar.length;rw[fu]at hlen;intro k
 induction k with
 | zero=>
  intro i s es ep t aI hle ag ai X hsz sV fin
  obtain rfl:i=items.size:=by omega
  refine my F.entry_set_update_loop ?_;rw[Around.under_plainId F.plain_set_update_loop _];refine(show aD _ A.in1 (ef (.ref I) >>= _) _ _ s from ah (W.done s _ _ ⟨ag,ai⟩ λ h' tk c0=>?_));have e:=c0 S _ (by simpa using k_) X.at_;exact aM (fin h' tk es ep t ⟨e,X.all,X.aS,X.fits,X.fc,X.cl⟩ hsz (λ j=>by rw[sV,xY (by omega)]) λ b o _ af e=>c0 b o (by simpa using af) e)
 | succ k bG=>
  intro i s es ep t aI hle ag ai X hsz sV fin;refine my F.entry_set_update_loop ?_;rw[Around.under_plainId F.plain_set_update_loop _];refine(show aD _ A.in1 (ef (.ref I) >>= _) _ _ s from ah (W.item i s _ _ (by omega) ⟨ag,ai⟩ λ v h' tk bu st c0=>?_));obtain⟨u,rfl⟩:=IntsAre.int_at ar i v (by rw[pb];exact bu);have e:=c0 S _ (by simpa using k_) X.at_;refine(show aD _ A.in1 (jE [Value.int (ns.getD i 0) u] (setAdd S (.int (ns.getD i 0) u)) >>= _) _ _ {s with heap:=h',toks:=tk} from ah (g4 ?_));unfold setAdd;refine g4 (ah ((h6 prog w).pyHash (k:=ns.getD i 0) (qG _ _ _ _) ?_));refine add (s:={s with heap:=h',toks:=tk+1}) (X:=⟨e,X.all,X.aS,X.fits,X.fc,X.cl⟩) (by omega) λ b WM fw ho t' fy iO WN agD=>?_
  have ne:∀ b o,b≠S->h'.get? b=some o->WM.get? b=some o:=λ b o af e=>by rw[fy.2 b af];exact e
  refine aM ⟨lB F.plain_set_update_loop _,bG (i+1) _ fw ho t' (by omega) (by omega) ?_ ?_ iO (by omega) (λ j=>?_) λ aT WO WQ WR t3 CX eZ l2 ha=>?_⟩
  ·obtain⟨o,aO,r⟩:=st.1;exact⟨o,ne I o (Ne.symm k_) aO,r⟩
  ·obtain⟨o,aO,r⟩:=st.2;exact⟨o,ne l o (Ne.symm aH) aO,r⟩
  ·rw[WN,sV,jl]
   have:ns[i]?=some (ns.getD i 0):=by rw[uw,f6 (by omega)];rfl
   rw[this];simp
  ·exact fin aT WO WQ WR t3 CX eZ l2 λ b o KU oD e=>ha b o KU oD (ne b o KU (c0 b o (by simpa using oD) e))
theorem ofList{l:Addr}{items:Array Value}{ns:List Int}{Q:Value->ay->Prop}(cY:A.handled=none)(aH:s.heap.IsList l items)(ar:lD items.toList ns)(af:items.size<900)
 (h:∀ h' tk es ep t,eB w h' s.heap.objs.size es ep t->es.size<=items.size->(∀ j,j∈keys es ↔ j∈ns)->(∀ b o,s.heap.get? b=some o->h'.get? b=some o)->Q (.ref s.heap.objs.size) {s with heap:=h',toks:=tk}) :
 aD (aK prog w) A (call (.type "set") [.ref l]) Q E s:=by
 obtain⟨c,ec,agE⟩:=F.called_set.mro;have aG:=F.called_set.made;have bv:=F.called_set.sub;have dC:=F.called_set.notType;have hU:=F.called_set.canCreate;have zt:=F.typeCall_set_1 (.ref l);refine xH (codeAny_of_tree (show aD _ _ (callAny (.type "set") _) _ _ _ from aM ⟨Code.quiet_builtin _ (by trivial),my F.entry_type_call ?_⟩));rw[Around.under_plain (weight_type_call_type "set" [.ref l] []) rfl]
 repeat(any_goals(first|assumption|wp_step))
 refine nM (WK (.ref l) (E:=E) (Q:=λ obj s1=>obj=.ref s.heap.objs.size/\s1={s with heap:=s.heap.push (hC w)}) ⟨rfl,rfl⟩) λ r s1 aq=>?_
 cases r with
 |error e=>exact aq
 | ok hN=>
  cases hN with
  | ret obj=>
   obtain⟨rfl,rfl⟩:=aq;have KV:(s.heap.push (hC w)).get? s.heap.objs.size=some (hC w):=dK _ rfl
   have WS:Shared.TypeIs {s with heap:=s.heap.push (hC w)} (.ref s.heap.objs.size) "set":=⟨_,KV,rfl⟩
   have Hl:=F.called_set.init.lookup;have k7:=F.called_set.init.bind (.ref s.heap.objs.size)
   repeat(any_goals(first|assumption|wp_step))
   refine nM (codeAny_call_builtin (R:=wants (λ r s2=>r=.none/\Q (.ref s.heap.objs.size) s2) E) F.called_set.init.plain F.entry_set_init (check_set_init_1 WS ?_)) λ bD s2 CY=>?_
   ·obtain⟨⟨dT,c5,agF,g7⟩,aO,aE,nl,hd⟩:=aH;simp only at aE hd;subst aE;subst hd;have eO:=cm aO;have WT:(s.heap.push (hC w)).get? l=some {cls:=.type "list",dict:=c5,data:=.seq items nl,slots:=g7}:=cc _ aO
    have eg:(s.heap.push (hC w)).IsList l items:=⟨_,WT,rfl,nl,rfl⟩
    have ky:=F.sub_list_set;have eR:=F.sub_list_frozenset
    have sI:(Value.type "list"==Value.type "dict")=false:=by decide
    unfold Builtin.«set.__init__» noKeywords Builtin.Frozenset.updateFrom;generalize fx:mF=P
    wp_walk
    subst fx;refine AI eg (ah (AM ?_));have aL:(s.heap.push (hC w)).objs.size=s.heap.objs.size+1:=pf ..;refine WL (I:=(s.heap.push (hC w)).objs.size) (l:=l) (S:=s.heap.objs.size) (show A.in1.in1.handled=none from cY) ?WU ?WV (fU eO) ar af (items.size - 0) 0 _ #[] 0 (.fresh 0 0 (!gG w)) rfl (fV _) ?WW ?WX ?WY (ZB _) ?WZ ?W0
    case WU=>rw[aL];exact du (uE eO)
    case WV=>rw[aL];exact du (Nat.lt_succ_self _)
    case WW=>exact⟨_,dK _ rfl,rfl,rfl⟩
    case WX=>exact eg.push _
    case WY=>exact eB.fresh (cc _ KV)
    case WZ=>intro j;simp
    case W0=>
     intro h' tk es ep t X z m k;refine aM (show aD _ _ (ret Value.none) _ _ _ from aM ⟨rfl,h h' tk es ep t X z m λ b o e=>k b o (du (cm e)) ?_ (cc _ (cc _ e))⟩);rw[aL];exact du (uE (cm e))
   ·cases bD with
    |error e=>exact CY
    | ok W2=>
     cases W2 with
     | ret r=>
      obtain⟨rfl,aV⟩:=CY
      repeat(any_goals(first|assumption|wp_step))
     |_=>exact CY.elim
  |_=>exact aq.elim
end
theorem own:Manifest.owners.lookup (String.ofList ['r','o','t','a','r','e','t','i','_','t','e','s'].reverse)=some Manifest.sig_set_iterator:=by kernel_rfl
theorem iG:jF "set_iterator" "__next__" "set_iterator.__next__":=.of (owner:="set_iterator") (n:="__next__") (by rw[XL,kW];kernel_rfl) (by trivial) (by trivial) (by trivial) (by first|exact .inl (by trivial)|exact .inr (by trivial)) (by rw[kg];kernel_rfl)
theorem KW:jF "set_iterator" "__iter__" "set_iterator.__iter__":=.of (owner:="set_iterator") (n:="__iter__") (by rw[XL,kW];kernel_rfl) (by trivial) (by trivial) (by trivial) (by first|exact .inl (by trivial)|exact .inr (by trivial)) (by rw[kg];kernel_rfl)
theorem vu:jF "set" "__iter__" "set.__iter__":=.of (owner:="set") (n:="__iter__") (by rw[XL,kW];kernel_rfl) (by trivial) (by trivial) (by trivial) (by first|exact .inl (by trivial)|exact .inr (by trivial)) (by rw[kg];kernel_rfl)
theorem W3:jF "set" "__len__" "set.__len__":=.of (owner:="set") (n:="__len__") (by rw[XL,kW];kernel_rfl) (by trivial) (by trivial) (by trivial) (by first|exact .inl (by trivial)|exact .inr (by trivial)) (by rw[kg];kernel_rfl)
theorem q8:qJ table "set_iterator.__next__"=some Builtin.«set_iterator.__next__»:=AK (by kernel_rfl)
theorem W4:qJ table "set_iterator.__iter__"=some Builtin.«dict_keyiterator.__iter__»:=xw (id':="dict_keyiterator.__iter__") (by kernel_rfl) (by first|rfl|decide +kernel|(unfold String.splitOn;simp +decide [String.splitOnAux])) (by trivial) (by kernel_rfl)
theorem BE:qJ table "set.__iter__"=some Builtin.«frozenset.__iter__»:=xw (id':="frozenset.__iter__") (by kernel_rfl) (by first|rfl|decide +kernel|(unfold String.splitOn;simp +decide [String.splitOnAux])) (by trivial) (by kernel_rfl)
theorem q9(a:Value):k1 "set_iterator.__next__" ⟨[a],[]⟩:=by unfold k1;rw[signature?_of (id:="set_iterator.__next__") (n:=['_','_','t','x','e','n','_','_']) (o:=['r','o','t','a','r','e','t','i','_','t','e','s']) (by kernel_rfl) own];kernel_rfl
theorem W5(a:Value):k1 "set_iterator.__iter__" ⟨[a],[]⟩:=by unfold k1;rw[signature?_of (id:="set_iterator.__iter__") (n:=['_','_','r','e','t','i','_','_']) (o:=['r','o','t','a','r','e','t','i','_','t','e','s']) (by kernel_rfl) own];kernel_rfl
theorem BF(a:Value):k1 "set.__iter__" ⟨[a],[]⟩:=by unfold k1;rw[signature?_of (id:="set.__iter__") (n:=['_','_','r','e','t','i','_','_']) (o:=['t','e','s']) (by kernel_rfl) F.owner_set];kernel_rfl
theorem KY{α:Type}(f:Nat->Nat):∀(fuel k:Nat)(left:List α)(out:Array α),left.length=fuel->(pickOrder.go f fuel k left out).toList.Perm (out.toList++left)
 | 0,k,left,out,h=>by
  have:left=[]:=List.length_eq_zero_iff.mp h;subst this;simp[pickOrder.go]
 | fuel+1,k,left,out,h=>by
  have lt:f k % left.length<left.length:=x3 _ (by omega);unfold pickOrder.go;rw[f6 lt]
  dsimp only
  refine(KY f fuel (k+1) _ _ (by rw[List.length_eraseIdx_of_lt lt];omega)).trans ?_;rw[Array.toList_push,mK];refine List.Perm.append_left _ ?_;have e:=o9 (f k % left.length) left;have aF:left.eraseIdx (f k % left.length)=left.take (f k % left.length)++left.drop (f k % left.length+1):=List.eraseIdx_eq_take_drop_succ ..;rw[aF,xZ]
  have c6:left=left.take (f k % left.length)++left[f k % left.length]::left.drop (f k % left.length+1):=by
   rw[<- nU lt,e]
  conv=>rhs;rw[c6]
  exact x0.symm
theorem KZ{α:Type}(f:Nat->Nat)(xs:Array α):(xM f xs).toList.Perm xs.toList:=by
 have h:=KY f xs.size 0 xs.toList #[] (by simp);simpa[xM] using h
theorem W6{M:Model}{A:cK}{E:Value->ay->Prop}{s:ay}{src:Source}{n:Nat}{Q:Nat->ay->Prop}(bc:0<n)(h:∀ i d,i<n->Q i {s with drawn:=d}):aD M A (choose src n) Q E s:=
 λ _ _ _=>⟨by omega,h _ _ (x3 _ bc)⟩
theorem draw{α:Type}{M:Model}{A:cK}{E:Value->ay->Prop}:∀(n:Nat)(xs:List α)(s:ay)(Q:List α->ay->Prop),xs.length=n->(∀ ys d,ys.Perm xs->Q ys {s with drawn:=d})->aD M A (drawOrder n xs) Q E s
 | 0,xs,s,Q,h,q=>by
  have:xs=[]:=List.length_eq_zero_iff.mp h;subst this;exact aM (q [] s.drawn (.refl _))
 |n+1,[],s,Q,h,q=>by simp at h
 | n+1,x::xs,s,Q,h,q=>by
  unfold drawOrder;refine ah (W6 (by simp) λ i d ar=>?_);rw[f6 ar]
  dsimp only
  refine ah (draw n _ _ _ (by rw[List.length_eraseIdx_of_lt ar];simp at h ⊢;omega) λ ys d' ax=>aM (q _ d' ?_));have aF:(x::xs).eraseIdx i=(x::xs).take i++(x::xs).drop (i+1):=List.eraseIdx_eq_take_drop_succ ..;rw[aF]at ax
  have c6:x::xs=(x::xs).take i++(x::xs)[i]::(x::xs).drop (i+1):=by
   rw[<- nU ar,o9]
  refine(ax.cons _).trans ?_
  conv=>rhs;rw[c6]
  exact x0.symm
structure SW(w:bM)(h:bx)(a:Addr)(es:Array (Int×Value))(ep:Nat)(t:eQ):Prop where
 at_:h.get? a=some (setAt es ep t)
 fits:t.fits es.size=true
 fc:es.size<1000
 led:gG w=false->t.led=true
 up:i_ t.place
theorem eB.sw{w:bM}{h:bx}{a:Addr}{es:Array (Int×Value)}{ep:Nat}{t:eQ}(X:eB w h a es ep t):SW w h a es ep t:=⟨X.at_,X.fits,X.fc,X.cl.led,X.cl.up⟩
noncomputable abbrev h1(first:Value)(i:Nat)(a:Addr)(n ep:Nat):Obj:={cls:=.type "set_iterator",dict:=none,data:=.fields #[first,dB i,.ref a,dB n,dB ep],slots:=#[]}
section
variable{prog:bZ}{w:bM}{A:cK}{E:Value->ay->Prop}{s:ay}{a I T:Addr}{es:Array (Int×Value)}{ep:Nat}{t:eQ}
theorem nc(Q:Bool->ay->Prop)(h:Q (gG w) s):aD (aK prog w) A setsByText Q E s:=by
 unfold setsByText;exact ah (xu (aM h))
theorem W7{Q:Option (Value×Nat)->ay->Prop}(af:gG w=true)(X:SW w s.heap a es ep t){ck i:Nat}(h:Q (((xM (w.params.setOrder a ep) es)[i]?).map λ e=>(e.2,ck)) s):aD (aK prog w) A (mC a ck i ep) Q E s:=by
 unfold mC;refine ah (iu X.at_ rfl X.fits (ah (nc _ ?_)));rw[af,if_pos rfl];rw[if_neg (by simp)];unfold setWalk;refine ah (ah (iu X.at_ rfl X.fits (ah (nc _ ?_))));rw[af,if_pos rfl];exact ah (xu (aM (aM h)))
theorem K0(X:SW w s.heap a es ep t):t.place.size=es.size:=by
 have:=X.fits;simp only[SetTable.fits,fh,beq_iff_eq]at this;exact this.1
noncomputable def mj(t:eQ):Nat->Nat
 |0=>0
 |i+1=>t.place.getD i 0+1
theorem W8(br:i_ t.place){i:Nat}(ar:i<=t.place.size):SetTable.below t.place (mj t i)=i:=by
 obtain⟨ag,ai,aT⟩:=KQ br (mj t i);generalize SetTable.below t.place (mj t i)=p at *
 cases i with
 | zero=>
  rcases Nat.eq_zero_or_pos p with z|z
  ·exact z
  ·exact absurd (ai 0 z) (by simp[mj])
 | succ i=>
  rcases Nat.lt_trichotomy p (i+1) with z|z|z
  ·have:=aT i (by omega) (by omega);simp only[mj]at this;omega
  ·exact z
  ·have y:=ai (i+1) z;have l:=br.lt (show i<i+1 by omega) (by omega);simp only[mj]at y;omega
theorem W9{Q:Option (Value×Nat)->ay->Prop}(af:gG w=false)(hd:(!t.plain&&decide (es.size > 1))=false)(X:SW w s.heap a es ep t){i:Nat}(ar:i<=es.size)(h:Q ((es[i]?).map λ e=>(e.2,mj t (i+1))) s):aD (aK prog w) A (mC a (mj t i) i ep) Q E s:=by
 have ax:=K0 X;unfold mC;refine ah (iu X.at_ rfl X.fits (ah (nc _ ?_)));rw[af,if_neg (by simp)];refine(show aD (aK prog w) A (if (!t.plain&&decide (es.size > 1))=true then _ else _) _ _ s from ?_);rw[hd,if_neg (by simp)];refine(show aD (aK prog w) A ((if (!t.led&&!es.isEmpty)=true then xG "set:maker-not-led" else pure ()) >>= λ _=>_) _ _ s from ?_);rw[X.led af,if_neg (by simp)];refine ah (aM (aM ?_));rw[W8 X.up (by omega)]
 cases e:es[i]? with
 |none=>rw[e]at h;exact h
 | some y=>
  have lt:i<t.place.size:=by have:=(nW.mp e).1;omega
  rw[e]at h;rw[hI lt]
  have:mj t (i+1)=t.place[i]+1:=by simp[mj,lG,lt]
  rw[this]at h;exact h
end
section
variable{prog:bZ}{w:bM}{A:cK}{E:Value->ay->Prop}{s:ay}{a I T:Addr}{es:Array (Int×Value)}{ep:Nat}{t:eQ}
theorem K1{first:Value}{i n:Nat}{Q:Value->ay->Prop}(hit:s.heap.get? I=some (h1 first i a n ep))(h:Q (.ref I) s):aD (aK prog w) A (mF (.ref I)) Q E s:=
 have bp:s.TypeIs (.ref I) "set_iterator":=⟨_,hit,rfl⟩
 ui bp KW (f3 KW bp W4 (aM ⟨_,rfl,"set_iterator",_,bp,iG.lookup,h⟩) (W5 _))
theorem W_{ck i sl':Nat}{x:Value}{Q:Option Value->ay->Prop}(cE:a≠I)(hit:s.heap.get? I=some (h1 (dB ck) i a es.size ep))(X:SW w s.heap a es ep t)
 (cn:∀(A:cK)(E:Value->ay->Prop)(Q:Option (Value×Nat)->ay->Prop),Q (some (x,sl')) s->aD (aK prog w) A (mC a ck i ep) Q E s)
 (db:∀ h',h'.get? I=some (h1 (dB sl') (i+1) a es.size ep)->Heap.SameBut I s.heap h'->Q (some x) {s with heap:=h'}):aD (aK prog w) A (ef (.ref I)) Q E s:=by
 have bp:s.TypeIs (.ref I) "set_iterator":=⟨_,hit,rfl⟩
 unfold ef;refine ah (iT (wpAny_callSpecial?_slot bp iG (f3 iG bp q8 ?_ (q9 _))));refine(show aD (aK prog w) A.in1 (fieldsOf (.ref I) >>= _) _ _ s from ah (mz hit rfl ?_));refine(show aD (aK prog w) A.in1 (xK a >>= _) _ _ s from ah (qz X.at_ rfl X.fits ?_));rw[if_neg (by simp)];refine(show aD (aK prog w) A.in1 (mC a ((ck:Int)).toNat ((i:Int)).toNat ((ep:Int)).toNat >>= _) _ _ s from ah ?_);rw[gx,gx,gx];refine cn _ _ _ ?_;refine(show aD (aK prog w) A.in1 (mA (.ref I) 0 (dB sl') >>= _) _ _ s from ah (jf hit rfl (by simp) ?_));have aC:=hl (Obj.mapFields (·.setIfInBounds 0 (dB sl'))) hit rfl;refine ah (jf aC rfl (by simp[Obj.mapFields]) (aM ⟨x,rfl,aM (db _ ?_ ((Heap.SameBut.update ..).trans (Heap.SameBut.update ..)))⟩));exact hl (Obj.mapFields (·.setIfInBounds 1 (dB ((i:Int)+1)))) aC rfl
theorem Xa{ck i:Nat}{Q:Option Value->ay->Prop}(cY:A.handled=none)(hit:s.heap.get? I=some (h1 (dB ck) i a es.size ep))(X:SW w s.heap a es ep t)
 (cn:∀(A:cK)(E:Value->ay->Prop)(Q:Option (Value×Nat)->ay->Prop),Q none s->aD (aK prog w) A (mC a ck i ep) Q E s)
 (db:∀ h',Heap.ExtBut I s.heap h'->Q none {s with heap:=h'}):aD (aK prog w) A (ef (.ref I)) Q E s:=by
 have bp:s.TypeIs (.ref I) "set_iterator":=⟨_,hit,rfl⟩
 unfold ef;refine ah (iT (wpAny_callSpecial?_slot bp iG (f3 iG bp q8 ?_ (q9 _))));refine(show aD (aK prog w) A.in1 (fieldsOf (.ref I) >>= _) _ _ s from ah (mz hit rfl ?_));refine(show aD (aK prog w) A.in1 (xK a >>= _) _ _ s from ah (qz X.at_ rfl X.fits ?_));rw[if_neg (by simp)];refine(show aD (aK prog w) A.in1 (mC a ((ck:Int)).toNat ((i:Int)).toNat ((ep:Int)).toNat >>= _) _ _ s from ah ?_);rw[gx,gx,gx];refine cn _ _ _ ?_;refine(show aD (aK prog w) A.in1 (mA (.ref I) 2 .none >>= _) _ _ s from ah (jf hit rfl (by simp) ?_));refine(show aD (aK prog w) A.in1 (Builtin.SmallTypes.stopIteration) _ _ _ from fZ.yO (A:=A.in1) cY λ h' e c0 av=>?_);refine ah (kf (T:="StopIteration") (b:=true) av qC (aM (db _ λ b o af e=>c0 b o ?_)));exact(Heap.SameBut.update ..).extBut b o af e
theorem Xb(cY:A.handled=none)(cE:a≠I)(ck:Nat->Nat)(xs:Array Value)(aA:xs.size=es.size)
 (cn:∀(s:ay),SW w s.heap a es ep t->∀(A:cK)(E:Value->ay->Prop)(Q:Option (Value×Nat)->ay->Prop)(i:Nat),i<=es.size->Q ((xs[i]?).map λ x=>(x,ck (i+1))) s->aD (aK prog w) A (mC a (ck i) i ep) Q E s) (X:SW w s.heap a es ep t) :
 Walks prog w A I [I,a] [I] es.size (λ i v=>xs[i]?=some v) (λ i h=>h.get? I=some (h1 (dB (ck i)) i a es.size ep)/\h.get? a=some (setAt es ep t)) where
 sub:=λ b af=>by rw[ft.mp af];exact dP
 frame:=λ _ _ _ st aI=>⟨aI I (by simp) _ st.1,aI a (by simp) _ st.2⟩
 item:=λ i s' Q E ar st db=>by
  have lt:i<xs.size:=by omega
  have iO:SW w s'.heap a es ep t:=⟨st.2,X.fits,X.fc,X.led,X.up⟩
  refine W_ (x:=xs[i]) (sl':=ck (i+1)) cE st.1 iO (λ A E Q q=>cn s' iO A E Q i (by omega) (by rw[hI lt];exact q)) λ h' aC fy=>?_;exact db _ h' s'.toks (hI lt) ⟨aC,by rw[fy.2 a cE];exact st.2⟩ λ b o af e=>by rw[fy.2 b (λ z=>af (ft.mpr z))];exact e
 done:=λ s' Q E st db=>by
  have iO:SW w s'.heap a es ep t:=⟨st.2,X.fits,X.fc,X.led,X.up⟩
  exact Xa cY st.1 iO (λ A E Q q=>cn s' iO A E Q es.size (ZB _) (by rw[sr (by omega)];exact q)) λ h' he=>db h' s'.toks λ b o af e=>he b o (λ z=>af (ft.mpr z)) e
 self:=λ i s' Q E st h=>K1 st.1 h
end
section
variable{prog:bZ}{w:bM}{A:cK}{E:Value->ay->Prop}{s:ay}{a I T:Addr}{es:Array (Int×Value)}{ep:Nat}{t:eQ}
noncomputable abbrev j8(ps:List Nat):Obj:={cls:=.type "tuple",dict:=none,data:=.seq (ps.map λ(p:Nat)=>dB (p:Int)).toArray 0,slots:=#[]}
theorem Xc{i p:Nat}{ps:List Nat}{k:Int}{x:Value}{Q:Option Value->ay->Prop}(hit:s.heap.get? I=some (h1 (.ref T) i a es.size ep))(tE:s.heap.get? T=some (j8 ps))(X:SW w s.heap a es ep t)(ax:ps[i]?=some p)(aA:es[p]?=some (k,x))
 (db:∀ h',h'.get? I=some (h1 (.ref T) (i+1) a es.size ep)->Heap.SameBut I s.heap h'->Q (some x) {s with heap:=h'}):aD (aK prog w) A (ef (.ref I)) Q E s:=by
 have bp:s.TypeIs (.ref I) "set_iterator":=⟨_,hit,rfl⟩
 unfold ef;refine ah (iT (wpAny_callSpecial?_slot bp iG (f3 iG bp q8 ?_ (q9 _))));refine(show aD (aK prog w) A.in1 (fieldsOf (.ref I) >>= _) _ _ s from ah (mz hit rfl ?_));refine(show aD (aK prog w) A.in1 (xK a >>= _) _ _ s from ah (qz X.at_ rfl X.fits ?_));rw[if_neg (by simp)];refine(show aD (aK prog w) A.in1 (seqItems? (.ref T) >>= _) _ _ s from ah ?_);unfold seqItems?;refine(show aD (aK prog w) A.in1 (load T >>= _) _ _ s from ah (sa tE (aM ?_)))
 have cg:((ps.map λ(p:Nat)=>dB (p:Int)).toArray)[((i:Int)).toNat]?=some (dB p):=by
  rw[gx,List.getElem?_toArray,dF,ax];rfl
 dsimp only
 rw[cg];refine(show aD (aK prog w) A.in1 (setNextDrawn a ((p:Int)).toNat ((ep:Int)).toNat >>= _) _ _ s from ah ?_);rw[gx,gx];unfold setNextDrawn;refine ah (iu X.at_ rfl X.fits ?_)
 dsimp only
 rw[if_neg (by simp),aA];refine aM ?_;refine ah (jf hit rfl (by simp) (aM ⟨x,rfl,aM (db _ ?_ (Heap.SameBut.update ..))⟩));exact hl (Obj.mapFields (·.setIfInBounds 1 (dB ((i:Int)+1)))) hit rfl
theorem Xd{i:Nat}{ps:List Nat}{Q:Option Value->ay->Prop}(cY:A.handled=none)(hit:s.heap.get? I=some (h1 (.ref T) i a es.size ep))(tE:s.heap.get? T=some (j8 ps))(X:SW w s.heap a es ep t)(ax:ps[i]?=none)
 (db:∀ h',Heap.ExtBut I s.heap h'->Q none {s with heap:=h'}):aD (aK prog w) A (ef (.ref I)) Q E s:=by
 have bp:s.TypeIs (.ref I) "set_iterator":=⟨_,hit,rfl⟩
 unfold ef;refine ah (iT (wpAny_callSpecial?_slot bp iG (f3 iG bp q8 ?_ (q9 _))));refine(show aD (aK prog w) A.in1 (fieldsOf (.ref I) >>= _) _ _ s from ah (mz hit rfl ?_));refine(show aD (aK prog w) A.in1 (xK a >>= _) _ _ s from ah (qz X.at_ rfl X.fits ?_));rw[if_neg (by simp)];refine(show aD (aK prog w) A.in1 (seqItems? (.ref T) >>= _) _ _ s from ah ?_);unfold seqItems?;refine(show aD (aK prog w) A.in1 (load T >>= _) _ _ s from ah (sa tE (aM ?_)))
 have cg:((ps.map λ(p:Nat)=>dB (p:Int)).toArray)[((i:Int)).toNat]?=none:=by
  rw[gx,List.getElem?_toArray,dF,ax];rfl
 dsimp only
 rw[cg];refine ah (jf hit rfl (by simp) ?_);have aC:=hl (Obj.mapFields (·.setIfInBounds 0 (dB 0))) hit rfl;refine ah (jf aC rfl (by simp[Obj.mapFields]) ?_);refine(show aD (aK prog w) A.in1 (Builtin.SmallTypes.stopIteration) _ _ _ from fZ.yO (A:=A.in1) cY λ h' e c0 av=>?_);refine ah (kf (T:="StopIteration") (b:=true) av qC (aM (db _ λ b o af e=>c0 b o ?_)));exact((Heap.SameBut.update ..).trans (Heap.SameBut.update ..)).extBut b o af e
theorem Xe(cY:A.handled=none)(cE:a≠I)(Xf:T≠I)(ps:List Nat)(K2:ps.length=es.size)(af:∀ p∈ps,p<es.size)(X:SW w s.heap a es ep t) :
 Walks prog w A I [I,a,T] [I] es.size (λ i v=>((ps.map λ p=>(es.getD p (0,.none)).2).toArray)[i]?=some v) (λ i h=>h.get? I=some (h1 (.ref T) i a es.size ep)/\h.get? a=some (setAt es ep t)/\h.get? T=some (j8 ps)) where
 sub:=λ b af=>by rw[ft.mp af];exact dP
 frame:=λ _ _ _ st aI=>⟨aI I (by simp) _ st.1,aI a (by simp) _ st.2.1,aI T (by simp) _ st.2.2⟩
 item:=λ i s' Q E ar st db=>by
  have lt:i<ps.length:=by omega
  have iO:SW w s'.heap a es ep t:=⟨st.2.1,X.fits,X.fc,X.led,X.up⟩
  have ax:=af ps[i] (sl lt);refine Xc (p:=ps[i]) (k:=(es.getD ps[i] (0,.none)).1) (x:=(es.getD ps[i] (0,.none)).2) st.1 st.2.2 iO (f6 lt) (by rw[hI ax];simp[lG,ax]) λ h' aC fy=>?_;exact db _ h' s'.toks (by simp[lt]) ⟨aC,by rw[fy.2 a cE];exact st.2.1,by rw[fy.2 T Xf];exact st.2.2⟩ λ b o af e=>by rw[fy.2 b (λ z=>af (ft.mpr z))];exact e
 done:=λ s' Q E st db=>by
  have iO:SW w s'.heap a es ep t:=⟨st.2.1,X.fits,X.fc,X.led,X.up⟩
  exact Xd cY st.1 st.2.2 iO (kj (by omega)) λ h' he=>db h' s'.toks λ b o af e=>he b o (λ z=>af (ft.mpr z)) e
 self:=λ i s' Q E st h=>K1 st.1 h
theorem ml(X:SW w s.heap a es ep t):s.TypeIs (.ref a) "set":=⟨_,X.at_,rfl⟩
theorem Xg{Q:Value->ay->Prop}(X:SW w s.heap a es ep t)
 (ag:(!gG w&&(!t.plain&&decide (es.size > 1)))=false->Q (.ref s.heap.objs.size) {s with heap:=s.heap.push (h1 (dB 0) 0 a es.size ep)})
 (ai:(!gG w&&(!t.plain&&decide (es.size > 1)))=true->∀ ps d,ps.Perm (fg es.size)->Q (.ref (s.heap.push (j8 ps)).objs.size) {s with heap:=(s.heap.push (j8 ps)).push (h1 (.ref s.heap.objs.size) 0 a es.size ep),drawn:=d}) :
 aD (aK prog w) A (mF (.ref a)) Q E s:=by
 have aH:=hk;have hf:=X.fc;refine ui (ml X) vu (f3 vu (ml X) BE ?_ (BF _));refine(show aD (aK prog w) A.in1 (Builtin.Frozenset.sizeOf a >>= _) _ _ s from ah ?_);unfold Builtin.Frozenset.sizeOf;refine ah (qz X.at_ rfl X.fits (aM ?_));refine ah ?_;unfold setDrawn;refine ah (iu X.at_ rfl X.fits (ah (nc _ (aM ?_))))
 cases c:(!gG w&&(!t.plain&&decide (es.size > 1))) with
 | false=>
  refine(show aD (aK prog w) A.in1 (if (!gG w&&(!t.plain&&decide (es.size > 1)))=true then _ else _) _ _ s from ?_);rw[c,if_neg (by simp)];refine ah (aM (ah (uj X.at_ rfl X.fits ?_)));unfold newFields;refine ah (gL ?_ (by size_fits));exact aM ⟨_,rfl,"set_iterator",_,⟨_,dK _ rfl,rfl⟩,iG.lookup,ag c⟩
 | true=>
  refine(show aD (aK prog w) A.in1 (if (!gG w&&(!t.plain&&decide (es.size > 1)))=true then _ else _) _ _ s from ?_);rw[c,if_pos rfl];refine ah (draw _ _ _ _ so λ ps d ax=>?_);have e4:=ax.length_eq;rw[so]at e4;refine ah (xx ?_ (by rw[bL];omega));have iO:(s.heap.push (j8 ps)).get? a=some (setAt es ep t):=cc _ X.at_;refine ah (uj iO rfl X.fits ?_);unfold newFields;refine ah (gL ?_ (by size_fits));exact aM ⟨_,rfl,"set_iterator",_,⟨_,dK _ rfl,rfl⟩,iG.lookup,ai c ps d ax⟩
end
section
variable{prog:bZ}{w:bM}{A:cK}{E:Value->ay->Prop}{s:ay}{a:Addr}{es:Array (Int×Value)}{ep:Nat}{t:eQ}
theorem K3(X:SW w s.heap a es ep t){Q:Bool->ay->Prop}(h:Q false s):aD (aK prog w) A (Builtin.List.listLengthHint (.ref a)) Q E s:=by
 unfold Builtin.List.listLengthHint;refine ah (nK (ml X) W3.lookup ?_)
 (generalize lX:("set.__len__" : String)=pH;(fail_if_success (clear lX pH));wp_delta;rw[show splitId pH=some ("set","__len__") from by subst lX;decide +kernel];subst lX)
 exact ah (kf (b:=true) (ml X) (by rw[kg];kernel_rfl) (ah (nN (ml X) (aM h))))
theorem K4{xs acc:Array Value}{n:Nat}(bc:xs.size=n)(h:nQ (λ i v=>xs[i]?=some v) acc n):acc=xs:=by
 obtain⟨ag,ai⟩:=h;apply Array.ext_getElem?;intro i;by_cases c:i<acc.size
 ·rw[hI c,ai i _ (hI c)]
 ·rw[sr (by omega),sr (by omega)]
theorem K5{S I:Addr}{fp:List Addr}{n c:Nat}{P:Nat->Value->Prop}{St:Nat->bx->Prop}{res:Value}{R:qL->ay->Prop}(W:Walks prog w A.in1 I fp [I] n P St)(bc:n<=sizeLine)(m8:S ∉ fp)(st:St 0 s.heap)(c3:s.heap.get? S=some (fZ.listAt #[] c))
 (h:∀ h' tk acc cu,nQ P acc n->h'.get? S=some (fZ.listAt acc cu)->(∀ b o,b≠S->b≠I->s.heap.get? b=some o->h'.get? b=some o)->R (.ok (.ret res)) {s with heap:=h',toks:=tk}):iV (aK prog w) A (.builtin "list.extend.loop" ⟨[.ref S,.ref I,res],[]⟩) R s:=
 codeAny_extend_loopS W.toS bc S m8 res n 0 s #[] c rfl (fV _) st c3 (ItemsOf.nil P) λ s' acc cu hm gW eK=>by
  rw[fZ.BH hm];exact h s'.heap s'.toks acc cu eK gW λ b o ag ai e=>hm.heap b o (by simp[ag,ai]) e
theorem Xh(es:Array (Int×Value)):∀(ps:List Nat),ps.Perm (fg es.size)->(ps.map λ p=>(es.getD p (0,.none)).2).Perm (es.toList.map (·.2)):=λ ps ax=>by
 refine(ax.map _).trans ?_
 have e:(fg es.size).map (λ p=>(es.getD p (0,.none)).2)=es.toList.map (·.2):=by
  apply List.ext_getElem?;intro i;rw[dF,dF];by_cases c:i<es.size
  ·rw[uA c,pb,hI c];simp[lG,c]
  ·rw[kj (by simpa using c),kj (by simpa using c)];rfl
 rw[e]
theorem K6{M:Model}{S:Addr}{c:Nat}{Q:Unit->ay->Prop}(c3:s.heap.get? S=some (fZ.listAt #[] c))(h:∀ g cu,g.get? S=some (fZ.listAt #[] cu)->(∀ b o,b≠S->s.heap.get? b=some o->g.get? b=some o)->Q () {s with heap:=g}):aD M A (Builtin.List.listTouch (.ref S)) Q E s:=by
 refine(show aD M A (nO S (·.push .none) >>= λ _=>nO S (·.pop)) _ _ _ from ah (mx c3 rfl ?_));have aF:=hl (Obj.mapSeq (·.push Value.none)) c3 rfl;refine mx (hz:=by seq_fits) aF rfl (h _ _ (hl (Obj.mapSeq (·.pop)) aF rfl) λ b o af e=>?_);exact(kl _ _ (Ne.symm af)).trans ((kl _ _ (Ne.symm af)).trans e)
theorem Xi{S:Addr}{c:Nat}{res:Value}{R:qL->ay->Prop}(cY:A.handled=none)(X:SW w s.heap a es ep t)(c3:s.heap.get? S=some (fZ.listAt #[] c))(wu:S≠a)
 (h:∀ h' tk d acc cu,acc.toList.Perm (es.toList.map (·.2))->h'.get? S=some (fZ.listAt acc cu)->(∀ b o,b≠S->s.heap.get? b=some o->h'.get? b=some o)->R (.ok (.ret res)) {s with heap:=h',toks:=tk,drawn:=d}) :
 aD (aK prog w) A.in1 (Builtin.List.listExtendWith (.ref S) (.ref a) res)
  (λ fin s'=>match fin with|.done f=>R (.ok f) s'|.again cu=>cu.quiet=true/\iV (aK prog w) A cu R s') (λ e s'=>R (.error e) s') s:=by
 have aH:=hk;have hf:=X.fc;have alt:=cm X.at_;have slt:=cm c3;unfold Builtin.List.listExtendWith;refine ah (nN (ml X) ?_)
 have ag:Builtin.List.listSameRef (.ref S) (.ref a)=false:=by simp[Builtin.List.listSameRef,wu]
 rw[ag,show (Value.type "set"==Value.type "list")=false by decide,show (Value.type "set"==Value.type "tuple")=false by decide,pd,pd,if_neg f7];refine ah (Xg X (λ c=>?_) λ c ps d ax=>?_)
 ·have aC:(s.heap.push (h1 (dB 0) 0 a es.size ep)).get? a=some (setAt es ep t):=cc _ X.at_
  have lw:SW w (s.heap.push (h1 (dB 0) 0 a es.size ep)) a es ep t:=⟨aC,X.fits,X.fc,X.led,X.up⟩
  refine ah (g4 (K3 (s:={s with heap:=s.heap.push (h1 (dB 0) 0 a es.size ep)}) lw ?_));rw[if_pos (by simp;decide)];refine ah (h5 (ah (K6 (s:={s with heap:=s.heap.push (h1 (dB 0) 0 a es.size ep)}) (cc _ c3) λ g dS wv p7=>?_)));have Xj:s.heap.objs.size≠S:=fU slt;have aF:=p7 a _ (Ne.symm wu) aC
  have ww:SW w g a es ep t:=⟨aF,X.fits,X.fc,X.led,X.up⟩
  have go:∀(ck:Nat->Nat)(xs:Array Value),ck 0=0->xs.size=es.size->xs.toList.Perm (es.toList.map (·.2))->(∀(s:ay),SW w s.heap a es ep t->∀(A:cK)(E:Value->ay->Prop)(Q:Option (Value×Nat)->ay->Prop)(i:Nat),i<=es.size->Q ((xs[i]?).map λ x=>(x,ck (i+1))) s->aD (aK prog w) A (mC a (ck i) i ep) Q E s) →
   iV (aK prog w) A (.builtin "list.extend.loop" ⟨[.ref S,.ref s.heap.objs.size,res],[]⟩) R {s with heap:=g}:=λ ck xs h0 aA ax cn=>by
   refine K5 (s:={s with heap:=g}) (Xb (s:={s with heap:=g}) (show A.in1.handled=none from cY) (du alt) ck xs aA cn ww) (by omega) ?_ ⟨by rw[h0];exact p7 _ _ Xj (dK _ rfl),aF⟩ wv λ h' tk acc cu k_ gW c0=>h h' tk s.drawn acc cu (by rw[K4 aA k_];exact ax) gW λ b o af e=>c0 b o af (du (cm e)) (p7 b o af (cc _ e));simp only[dw,jI,or_false,not_or];exact⟨du slt,wu⟩
  refine aM ⟨lB F.plain_extend_loop _,?_⟩
  cases af:gG w with
  | true=>
   have pm:=KZ (w.params.setOrder a ep) es;refine go (λ _=>0) ((xM (w.params.setOrder a ep) es).map (·.2)) rfl (by rw[x5,<- fu,pm.length_eq,fu]) (by rw[Array.toList_map];exact pm.map _) λ s' iO Xk IZ gA i _ q=>W7 af iO ?_;rw[Array.getElem?_map,Option.map_map]at q;exact q
  | false=>
   rw[af]at c;refine go (mj t) (es.map (·.2)) rfl (by rw[x5]) (by rw[Array.toList_map]) λ s' iO Xk IZ gA i ar q=>W9 af (by simpa using c) iO ar ?_;rw[Array.getElem?_map,Option.map_map]at q;exact q
 ·have e4:=ax.length_eq;rw[so]at e4;have aL:(s.heap.push (j8 ps)).objs.size=s.heap.objs.size+1:=pf ..;have aC:((s.heap.push (j8 ps)).push (h1 (.ref s.heap.objs.size) 0 a es.size ep)).get? a=some (setAt es ep t):=cc _ (cc _ X.at_)
  have lw:SW w ((s.heap.push (j8 ps)).push (h1 (.ref s.heap.objs.size) 0 a es.size ep)) a es ep t:=⟨aC,X.fits,X.fc,X.led,X.up⟩
  refine ah (g4 (K3 (s:={s with heap:=(s.heap.push (j8 ps)).push (h1 (.ref s.heap.objs.size) 0 a es.size ep),drawn:=d}) lw ?_));rw[if_pos (by simp;decide)];refine ah (h5 (ah (K6 (s:={s with heap:=(s.heap.push (j8 ps)).push (h1 (.ref s.heap.objs.size) 0 a es.size ep),drawn:=d}) (cc _ (cc _ c3)) λ g dS wv p7=>?_)));refine aM ⟨lB F.plain_extend_loop _,?_⟩
  have Xl:a<(s.heap.push (j8 ps)).objs.size:=by rw[aL];exact uE alt
  have zT:S<(s.heap.push (j8 ps)).objs.size:=by rw[aL];exact uE slt
  have K7:s.heap.objs.size<(s.heap.push (j8 ps)).objs.size:=by rw[aL];exact Nat.lt_succ_self _
  have aF:=p7 a _ (Ne.symm wu) aC
  have ww:SW w g a es ep t:=⟨aF,X.fits,X.fc,X.led,X.up⟩
  refine K5 (s:={s with heap:=g,drawn:=d}) (Xe (T:=s.heap.objs.size) (s:={s with heap:=g,drawn:=d}) (show A.in1.handled=none from cY) (du Xl) (du K7) ps e4 (λ p zU=>o3.mp (ax.mem_iff.mp zU)) ww) (by omega) ?_ ⟨p7 _ _ (fU zT) (dK _ rfl),aF,p7 _ _ (fU slt) (cc _ (dK _ rfl))⟩ wv λ h' tk acc cu k_ gW c0=>h h' tk d acc cu ?_ gW λ b o af e=>c0 b o af ?_ (p7 b o af (cc _ (cc _ e)))
  ·simp only[dw,jI,or_false,not_or];exact⟨du zT,wu,du slt⟩
  ·rw[K4 (by rw[cS,bL];exact e4) k_,xW];exact Xh es ps ax
  ·exact du (nV (cm e) K7)
theorem Xm{Q:List Value->ay->Prop}(cY:A.handled=none)(X:SW w s.heap a es ep t)
 (h:∀ h' tk d (ae:List Value),ae.Perm (es.toList.map (·.2))->(∀ b o,s.heap.get? b=some o->h'.get? b=some o)->Q ae {s with heap:=h',toks:=tk,drawn:=d}):aD (aK prog w) A (ut (.ref a)) Q E s:=by
 unfold ut;refine ah (AM (my F.entry_proto_collect ?_));rw[Around.under_plainId F.plain_proto_collect _];refine(show aD (aK prog w) A.in1 (newList [] >>= λ l=>again (.builtin "list.__iadd__" ⟨[l,.ref a],[]⟩)) _ _ s from ah (gL (aM ⟨lB F.plain_list_iadd _,my F.entry_list_iadd ?_⟩)));rw[Around.under_plainId F.plain_list_iadd _]
 have lw:SW w (s.heap.push (fZ.listAt #[] 0)) a es ep t:=⟨cc _ X.at_,X.fits,X.fc,X.led,X.up⟩
 have fin:∀ s',(∃ h' tk d acc cu,s'={s with heap:=h',toks:=tk,drawn:=d}/\acc.toList.Perm (es.toList.map (·.2))/\h'.get? s.heap.objs.size=some (fZ.listAt acc cu)/\∀ b o,s.heap.get? b=some o->h'.get? b=some o) →
  aD (aK prog w) A (do
   match (← load s.heap.objs.size).data with
   |.seq xs _=>pure xs.toList
   |_=>xG "internal:collect") Q E s':=by
  rintro s' ⟨h',tk,d,acc,cu,rfl,ax,e,k⟩;exact ah (sa e (aM (h h' tk d acc.toList ax k)))
 refine(show aD (aK prog w) A.in1 (Builtin.List.listExtendWith (.ref s.heap.objs.size) (.ref a) (.ref s.heap.objs.size)) _ _ _ from ?_)
 refine h4 (Xi (s:={s with heap:=s.heap.push (fZ.listAt #[] 0)}) (R:=λ r s'=>r=.ok (.ret (.ref s.heap.objs.size))/\∃ h' tk d acc cu,s'={s with heap:=h',toks:=tk,drawn:=d}/\acc.toList.Perm (es.toList.map (·.2))/\h'.get? s.heap.objs.size=some (fZ.listAt acc cu)/\∀ b o,s.heap.get? b=some o->h'.get? b=some o) cY lw (dK _ rfl) (fU (cm X.at_))
  (λ h' tk d acc cu ax e k=>⟨rfl,h',tk,d,acc,cu,rfl,ax,e,λ b o dQ=>k b o (du (cm dQ)) (cc _ dQ)⟩)) (λ fn s' h=>?_) (λ e s' h=>absurd h.1 (by simp))
 cases fn with
 | done f=>
  obtain⟨e,h⟩:=h;cases e;exact fin s' h
 |again cu=>exact⟨h.1,nM h.2 λ r n6 aq=>by obtain⟨rfl,aq⟩:=aq;exact fin n6 aq⟩
end
end hi
namespace hi
open PySem PyProof.Rows
section
variable{prog:bZ}{w:bM}{A:cK}{E:Value->ay->Prop}{s:ay}{a:Addr}{es:Array (Int×Value)}{ep:Nat}{t:eQ}
theorem K8:∀{ae:List Value},(∀ v∈ae,∃ u,v=.int (gg v) u)->lD ae (ae.map gg)
 |[],_=>IntsAre.nil
 | v::ae,h=>by
  obtain⟨u,e⟩:=h v (dP ..);rw[cV,e];exact IntsAre.cons _ _ (K8 λ x aA=>h x (eE _ aA))
theorem sortedS{Q:Value->ay->Prop}(cY:A.handled=none)(X:SW w s.heap a es ep t)(eS:hZ es.toList)(p8:es.size<64)
 (h:∀(ag h':bx)(tk:Nat)(d:Drawn)(out:Array Value)(c:Nat)(j9:List Int),lD out.toList j9->j9.Perm (keys es)->j9.Pairwise (·<=·)->(∀ b o,s.heap.get? b=some o->ag.get? b=some o)->(∀ b o,ag.get? b=some o->h'.get? b=some o)->h'.get? ag.objs.size=some (fZ.listAt out c)->Q (.ref ag.objs.size) {s with heap:=h',toks:=tk,drawn:=d}) :
 aD (aK prog w) A (call (.builtin "sorted") [.ref a]) Q E s:=by
 refine Calls.call_function_entry kind_sorted plain_sorted entry_sorted (args_sorted1 _) ?_;unfold Builtin.«sorted»;refine ah (m:=checkCount "sorted" 1 1 _) (aM (ah (Xm (show A.in1.handled=none from cY) X λ h' tk d ae ax k=>?_)));have aH:=hk
 have hlen:ae.length=es.size:=by have z:=ax.length_eq;simpa using z
 have ar:lD ae (ae.map gg):=K8 λ v bu=>by
  obtain⟨e,he,rfl⟩:=eF.mp (ax.mem_iff.mp bu);exact(eS e he).1
 have Xn:(ae.map gg).Perm (keys es):=by
  have z:=ax.map gg
  rwa[gw]at z
 have s_:(h'.push (fZ.listAt ae.toArray 0)).get? h'.objs.size=some (fZ.listAt ae.toArray 0):=dK _ rfl;refine ah (gL ?_ (by show ae.toArray.size<=sizeLine;rw[cS];omega));refine ah (g4 (f3 slot_list_sort ⟨_,s_,rfl⟩ entry_list_sort (list_sort_tree s_ ar (by omega) λ out j9 a1 a2 i1=>⟨_,rfl,?_⟩) (args_list_sort _)));obtain⟨c,aE⟩:=sortedHeap_at (out:=out) s_;refine aM ⟨_,rfl,h h' _ _ _ out c j9 a1 (a2.trans Xn) i1 k (λ b o z=>?_) aE⟩;rw[sortedHeap_old (du (cm z)) (by rw[pf];exact uE (cm z))];exact cc _ z
end
end hi
namespace L2
open PySem PySem.Spec PyProof.Rows
section
variable{X:a0}{e:a5}{aU:TE}{p c_ pos dL:Pos}
theorem Inv.drew{pins:List (Addr×Obj)}{σ:St}{H:au}{s:ay}{d:Drawn}(I:Inv X pins σ H s):Inv X pins σ H {s with drawn:=d}:=⟨I.ok,I.os,I.bare,I.base,I.loc,I.cell,I.free,I.jQ,I.pin,I.bt,I.len⟩
theorem CZ:∀{ns:List Int}{us:List Value},Vals (ns.map V.int) us->lD us ns
 |[],_,h=>by cases h;exact IntsAre.nil
 | n::ns,_,h=>by
  cases h with
  | cons r dX=>
   obtain⟨t,rfl⟩:=r;exact IntsAre.cons _ _ (CZ dX)
noncomputable def nr(ns ms:List Int):Prop:=ms.Pairwise (·<·)/\∀ j,j∈ms ↔ j∈ns
theorem Xo{ns ms ks:List Int}(oC:ks.Nodup)(hm:∀ j,j∈ks ↔ j∈ns)(ax:ms.Perm ks)(av:ms.Pairwise (·<=·)):nr ns ms:=by
 have aS:ms.Nodup:=ax.nodup_iff.mpr oC;refine⟨?_,λ j=>by rw[ax.mem_iff,hm]⟩;have z:ms.Pairwise λ a b=>a<=b/\a≠b:=List.pairwise_and_iff.mpr ⟨av,aS⟩;exact z.imp λ h=>by omega
noncomputable def Xp(K:a8)(aU:TE):TE:=λ σ H Q=>aU σ H λ x H1=>∃(l:Addr)(ns:List Int),x=.ref l/\eh K H1 l (ns.map V.int)/\ns.length<64/\∀ ms,nr ns ms->∀ er,H1 er=none->Q (.ref er) (upd H1 er (.lst (ms.map V.int)))
theorem K9{pins:List (Addr×Obj)}{σ:St}{H:au}{s:ay}{a:Addr}{es:Array (Int×Value)}{ep:Nat}{t:eQ}{Q:cC}{ns:List Int}(aE:X.calm=true)(I:Inv X pins σ H s)(W:hi.SW X.w s.heap a es ep t)(eS:hi.hZ es.toList)(oC:(hi.keys es).Nodup)(p8:es.size<64)(hm:∀ j,j∈hi.keys es ↔ j∈ns)
 (q:∀ ms,nr ns ms->∀ er,H er=none->Q (.ref er) (upd H er (.lst (ms.map V.int)))):aD (aK X.prog X.w) X.A (call (.builtin "sorted") [.ref a]) (gy X pins σ Q) X.xe s:=by
 have aH:=hk;refine hi.sortedS (I.ok.hd aE) W eS p8 λ ag h' tk d out c ms a1 a2 i1 ej dA e=>?_;have aZ:Inv X pins σ H {s with heap:=ag}:=I.kept (t':=s.toks) ej
 have len:ms.length<=sizeLine:=by
  have z:=a2.length_eq
  have c7:(hi.keys es).length=es.size:=by simp[hi.keys]
  omega
 have bY:Inv X pins σ (upd H ag.objs.size (.lst (ms.map V.int))) {s with heap:=h',toks:=tk}:=
  aZ.laid (t':=tk) dA (ZB _) (show ez X.prog X.w _ h' _ (.lst (ms.map V.int)) from⟨by rw[bL];exact len,out.toList,c,Bm a1,by simpa using e⟩)
 exact⟨.ref ag.objs.size,_,bY.drew (d:=d),rfl,q ms (Xo oC hm a2 i1) _ (aZ.bt.fresh (ZB _))⟩
theorem Xq{pins:List (Addr×Obj)}{s:ay}{σ:St}{H:au}{R:Addr->List Int->au->Prop}(aE:X.calm=true)(a3:c8 X "set")(hm:X.mg "set"=none)(he:bO X e aU)(av:dz e=true)(I:Inv X pins σ H s)
 (h:aU σ H λ x H1=>∃(l:Addr)(ns:List Int),x=.ref l/\eh X.K H1 l (ns.map V.int)/\ns.length<64/\R l ns H1) :
 aD (aK X.prog X.w) X.A (eval (.Call (.Name "set" c_) [e] [] dL) X.env) (λ v s'=>∃(l S:Addr)(ns:List Int)(H1:au)(es:Array (Int×Value))(ep:Nat)(t:eQ),v=.ref S/\Inv X pins σ H1 s'/\hi.eB X.w s'.heap S es ep t/\H1 S=none/\es.size<=ns.length/\ns.length<64/\(∀ j,j∈hi.keys es ↔ j∈ns)/\R l ns H1) X.xe s:=by
 refine je (jp I a3 hm PyProof.Rows.boot_set ?_);refine lI ?_ (eT av) rfl;rw[eT av];show aD _ _ (lC ((false,eval e X.env)::fS dL (di [] X.env))) _ _ s;refine Calls.spliced_cons (bU (he pins s σ H _ I h) λ u s1 xz=>?_);obtain⟨x,H1,aZ,bf,l,ns,ex,aV,aH,q⟩:=xz;refine Calls.spliced_nil ?_;subst ex;cases bf;obtain⟨aP,a9,cF,hz⟩:=aZ.list aV;have hlen:=a9.length;rw[bL]at hlen;refine hi.ofList (items:=aP.toArray) (ns:=ns) (aZ.ok.hd aE) cF.isList (by simpa using CZ a9) (by rw[cS];omega) λ h' tk es ep t eB z m k=>?_;exact⟨l,s1.heap.objs.size,ns,H1,es,ep,t,rfl,aZ.kept (t':=tk) k,eB,aZ.bt.fresh (ZB _),by have y:aP.toArray.size=aP.length:=cS;omega,aH,m,q⟩
theorem Xr(aE:X.calm=true)(mm:c8 X "sorted")(mn:X.mg "sorted"=none)(a3:c8 X "set")(hm:X.mg "set"=none)(he:bO X e aU)(av:dz e=true):bO X (.Call (.Name "sorted" p) [.Call (.Name "set" c_) [e] [] dL] [] pos) (Xp X.K aU):=by
 intro pins s σ H Q I h;refine je (jp I mm mn PyProof.Rows.boot_sorted ?_);refine PyProof.Rows.callWith_builtin1 ?_ (eT rfl) rfl;rw[eT rfl];show aD _ _ (lC ((false,eval (.Call (.Name "set" c_) [e] [] dL) X.env)::fS pos (di [] X.env))) _ _ s;refine Calls.spliced_cons (bU (Xq (R:=λ _ ns H1=>∀ ms,nr ns ms->∀ er,H1 er=none->Q (.ref er) (upd H1 er (.lst (ms.map V.int)))) aE a3 hm he av I h) λ v s1 ag=>Calls.spliced_nil ?_);obtain⟨l,S,ns,H1,es,ep,t,rfl,aZ,eB,_,z,aH,m,q⟩:=ag;exact K9 aE aZ eB.sw eB.all eB.aS (by omega) m q
end
end L2
namespace L3
open PySem PyProof L2
section
variable{X:a0}{e:a5}{aU:bK}{p c_ pos dL:Pos}
noncomputable abbrev Xs(aU:bK):bK:=λ ρ G Q=>aU ρ G λ x aw=>match x with
 |.ref l=>hy aw l λ ds=>∃ ns,pX ds=some ns/\ns.length<64/\∀ ms,nr ns ms->∀ er,aw er=none->Q (.ref er) (up aw er (.lst (ms.map D.int)))
 |_=>False
theorem Xt(mm:c8 X "sorted")(mn:X.mg "sorted"=none)(a3:c8 X "set")(hm:X.mg "set"=none)(he:bJ X e aU)(aE:X.calm=true:=by rfl)(av:dz e=true:=by rfl):bJ X (.Call (.Name "sorted" p) [.Call (.Name "set" c_) [e] [] dL] [] pos) (Xs aU):=by
 obtain⟨ce,iK,re⟩:=he.run;refine⟨_,⟨Xr aE mm mn a3 hm iK.run av⟩,λ ρ G az σ H Q B q F=>re ρ G _ σ H _ B q λ x aw v H1 g1 a4 aG=>?_⟩
 cases x with
 | ref l=>
  cases a4;obtain⟨ds,ae,⟨ns,aC,aH,k⟩,s,en⟩:=i3 g1.bB aG;rw[Cg aC]at en;rw[en.ints]at s;exact⟨l,ns,rfl,s,aH,λ ms av er im=>F (.ref er) _ _ _ (g1.trans (Go.pO g1.bB im (bR.y2 ms))) rfl (k ms av er (g1.bB.none im))⟩
 |_=>exact(show False from aG).elim
end
noncomputable def K_(zs:List (Nat×Nat)):List Int:=zs.filterMap λ z=>if z.2<=z.1 then some ((z.1:Int) - z.2) else none
noncomputable def Tm.nu(t:Tm):List Int:=K_ (t.cM 0)
theorem Tm.Xu(t:Tm):t.nu.length<=(t.cM 0).length:=List.length_filterMap_le _ _
noncomputable def C0:cX:=λ ds G Q=>∃ t:Tm,ds=[t.enc]/\t.aL<=10000/\(t.cM 0).length<64/\∀ ms,nr t.nu ms->∀ l,G l=none->Q (.ref l) (up G l (.lst (ms.map D.int)))
theorem tF(l:Nat)(t:Tm):∀ w,t.cU (gf 0 l) w=t:=by
 induction t<;>intro w<;>simp_all [Tm.cU,gf]
theorem C1:∀{xs ys:List Int},xs.Nodup->(∀ j∈xs,j∈ys)->xs.length<=ys.length
 |[],_,_,_=>fV _
 | x::xs,ys,h,av=>by
  rw[jj]at h;have aA:=av x (dP ..);have bG:=C1 (ys:=ys.erase x) h.2 λ j bW=>(List.mem_erase_of_ne (by rintro rfl;exact h.1 bW)).mpr (av j (eE _ bW));rw[List.length_erase_of_mem aA]at bG;have:0<ys.length:=List.length_pos_of_mem aA;rw[dt];omega
theorem b8{G:aY}{l b:Addr}{o u:eU}(h:G l=none)(e:G b=some u):up G l o b=some u:=Sub.new (Sub.refl _) h b u e
theorem gu.b8{a b:Addr}{G am:aY}{u:eU}(h:gu a G am)(n:b≠a)(e:G b=some u):am b=some u:=by rw[h.other n];exact e
theorem gq.set{G:aY}{a l:Addr}{o:eU}(h:gq G a)(n:l≠a):gq (L3.up G l o) a:=by
 obtain⟨x,y,e⟩:=h;exact⟨x,y,by rw[bH (Ne.symm n)];exact e⟩
section
variable{K:a8}{H:au}{G:aY}
noncomputable def rM:Key->D
 |.inl i=>.int i
 |.inr x=>.str x
theorem zV{k:Key}{v:V}(h:cQ K H (rM k) v):v=dd k:=by cases k<;>exact h
noncomputable def gH(kvs:List (Key×D))(k:Key):Option D:=(kvs.find? λ bq=>decide (bq.1=k)).map (·.2)
noncomputable def kL(kvs:List (Key×D))(k:Key)(v:D):List (Key×D):=
 if (kvs.any λ bq=>decide (bq.1=k))=true then kvs.map (λ bq=>if bq.1=k then (bq.1,v) else bq) else kvs++[(k,v)]
theorem cT.cons_inv{κ:Type}{x:κ}{y:D}{r:List (κ×D)}{gs:List (κ×V)}(h:cT K H ((x,y)::r) gs):∃ v s,gs=(x,v)::s/\cQ K H y v/\cT K H r s:=by
 obtain⟨ag,ai⟩:=h
 cases gs with
 |nil=>cases ag
 | cons g s=>
  obtain⟨g1,g2⟩:=g;simp only[cV,List.cons.injEq]at ag;obtain⟨v,us,aC,a1,a2⟩:=ai;simp only[cV,List.cons.injEq]at aC;obtain⟨rfl,ag⟩:=ag;obtain⟨rfl,rfl⟩:=aC;exact⟨g2,s,rfl,a1,ag,a2⟩
theorem cT.nil_inv{κ:Type}{gs:List (κ×V)}(h:cT K H ([]:List (κ×D)) gs):gs=[]:=by
 cases gs with
 |nil=>rfl
 |cons g s=>cases h.1
theorem cT.p9{κ:Type}{x:κ}{y:D}{v:V}{r:List (κ×D)}{s:List (κ×V)}(h:cQ K H y v)(aq:cT K H r s):cT K H ((x,y)::r) ((x,v)::s):=⟨by simp[aq.1],v,_,rfl,h,aq.2⟩
theorem cT.append{κ:Type}:∀{fs es:List (κ×D)}{gs av:List (κ×V)},cT K H fs gs->cT K H es av->cT K H (fs++es) (gs++av)
 |[],_,_,_,r,s=>by rw[r.nil_inv];exact s
 | (x,y)::r,_,_,_,h,s=>by
  obtain⟨v,t,rfl,a,aq⟩:=h.cons_inv;exact cT.p9 a (aq.append s)
theorem cT.val{k:Key}:∀{fs:List (Key×D)}{gs:List (Key×V)},cT K H fs gs->(∀ d,gH fs k=some d->∃ v,ib gs k=some v/\cQ K H d v)/\(gH fs k=su->ib gs k=su)
 |[],_,h=>by rw[h.nil_inv];exact⟨λ d e=>(by cases e),λ _=>rfl⟩
 | (x,y)::r,_,h=>by
  obtain⟨v,t,rfl,a,aq⟩:=h.cons_inv;obtain⟨dM,dV⟩:=cT.val (k:=k) aq;by_cases c:x=k
  ·have aC:gH ((x,y)::r) k=some y:=by simp[gH,jH,c]
   have aF:ib ((x,v)::t) k=some v:=ve c;rw[aC,aF];exact⟨λ d e=>⟨v,rfl,by cases e;exact a⟩,λ e=>by cases e⟩
  ·have aC:gH ((x,y)::r) k=gH r k:=by simp[gH,jH,c]
   have aF:ib ((x,v)::t) k=ib t k:=vf c;rw[aC,aF];exact⟨dM,dV⟩
theorem cT.La{k:Key}:∀{fs:List (Key×D)}{gs:List (Key×V)},cT K H fs gs->(fs.any λ bq=>decide (bq.1=k))=gs.any λ bq=>decide (bq.1=k)
 |[],_,h=>by rw[h.nil_inv];rfl
 | (x,y)::r,_,h=>by
  obtain⟨v,t,rfl,a,aq⟩:=h.cons_inv;rw[jG,jG,cT.La aq]
theorem cT.C2{k:Key}{d:D}{u:V}(hd:cQ K H d u):∀{fs:List (Key×D)}{gs:List (Key×V)},cT K H fs gs->cT K H (fs.map λ bq=>if bq.1=k then (bq.1,d) else bq) (gs.map λ bq=>if bq.1=k then (bq.1,u) else bq)
 |[],_,h=>by rw[h.nil_inv];exact⟨rfl,rfl⟩
 | (x,y)::r,_,h=>by
  obtain⟨v,t,rfl,a,aq⟩:=h.cons_inv;rw[cV,cV];by_cases c:x=k
  ·simp only[c,if_true];exact cT.p9 hd (cT.C2 hd aq)
  ·simp only[if_neg c];exact cT.p9 a (cT.C2 hd aq)
theorem cT.kL{k:Key}{d:D}{u:V}(hd:cQ K H d u){fs:List (Key×D)}{gs:List (Key×V)}(h:cT K H fs gs):cT K H (L3.kL fs k d) (fY gs k u):=by
 unfold L3.kL fY;rw[h.La];split
 ·exact cT.C2 hd h
 ·exact h.append (cT.p9 hd ⟨rfl,rfl⟩)
theorem Lb(kvs:List (Key×D))(k j:Key)(y:D):gH (kL kvs k y) j=if j=k then some y else gH kvs j:=by
 have key:∀ l:List (Key×D),gH (l.map λ bq=>if bq.1=k then (bq.1,y) else bq) j=(gH l j).map λ x=>if j=k then y else x:=λ l=>by
  induction l with
  |nil=>rfl
  | cons p r bG=>
   obtain⟨gU,c_⟩:=p;simp only[gH,cV,jH]at bG ⊢;by_cases c:gU=k
   ·subst c;by_cases d:gU=j
    ·subst d;simp
    ·simp only[if_true,d,decide_false];exact bG
   ·by_cases d:gU=j
    ·subst d;simp[c]
    ·simp only[if_neg c,d,decide_false];exact bG
 unfold kL;by_cases c:(kvs.any λ bq=>decide (bq.1=k))=true
 ·rw[if_pos c,key];by_cases d:j=k
  ·subst d
   have:(gH kvs j).isSome=true:=by
    unfold gH;rw[Option.isSome_map,List.find?_isSome];obtain⟨x,aA,e⟩:=List.any_eq_true.mp c;exact⟨x,aA,e⟩
   obtain⟨z,e⟩:=x6.mp this;rw[e];simp
  ·simp[d]
 ·rw[if_neg c];have no:∀ x∈kvs,x.1≠k:=λ x aA e=>c (List.any_eq_true.mpr ⟨x,aA,by simpa using e⟩);unfold gH;rw[List.find?_append];by_cases d:j=k
  ·subst d
   have:kvs.find? (λ bq=>decide (bq.1=j))=none:=List.find?_eq_none.mpr λ x aA=>by simpa using no x aA
   rw[this];simp
  ·rw[if_neg d]
   have e:([(k,y)]:List (Key×D)).find? (λ bq=>decide (bq.1=j))=none:=by simp[Ne.symm d]
   rw[e];simp
theorem Lc(kvs:List (Key×D))(k:Key)(v:D):(kL kvs k v).length<=kvs.length+1:=by
 unfold kL;split<;>simp
@[irreducible] noncomputable def p_(G:aY)(a:Addr)(k:List (Key×D)->Prop):Prop:=match G a with
 |some (.cR kvs)=>k kvs
 |_=>False
theorem C3{a:Addr}{k:List (Key×D)->Prop}{kvs:List (Key×D)}(h:G a=some (.cR kvs))(q:k kvs):p_ G a k:=by unfold p_;rw[h];exact q
theorem Ld{a:Addr}{k:List (Key×D)->Prop}(v:d1 K G H)(h:p_ G a k):∃ kvs gs,k kvs/\G a=some (.cR kvs)/\H a=some (.cR gs)/\cT K H kvs gs:=by
 unfold p_ at h;split at h
 ·next kvs e=>obtain⟨gs,z,r⟩:=v _ _ e;exact⟨kvs,gs,h,e,z,r⟩
 ·exact h.elim
theorem C4{p:Addr}{gs:List (Key×V)}{o:fv}(h:H p=some (.cR gs)):iH K H (upd H p o):=y4 (λ ys=>by rintro(e|⟨o,e⟩)<;>rw[h]at e<;>cases e) λ _ _ e=>by rw[h]at e;cases e
theorem Go.newD(v:d1 K G H){p:Addr}{kvs:List (Key×D)}{gs:List (Key×V)}(h:H p=none)(r:cT K H kvs gs):Go K G H (up G p (.cR kvs)) (upd H p (.cR gs)) where
 tup:=l6 h
 hT:=λ a u e=>⟨u,by rw[bS (gS e h)];exact e⟩
 same:=λ a u e _=>by rw[bS (gS e h)];exact e
 new:=λ a u e n=>by rw[bH (gS e h)];exact n
 bB:=λ a u e=>by
  by_cases c:a=p
  ·subst c;rw[bh]at e;cases e;exact⟨gs,eC,r.1,r.2.mono (l6 h)⟩
  ·rw[bH c]at e;exact(v a u e).mono (l6 h) (bS c)
theorem Go.Le(v:d1 K G H){p:Addr}{C5 kvs:List (Key×D)}{gs:List (Key×V)}(h:G p=some (.cR C5))(r:cT K H kvs gs):Go K G H (up G p (.cR kvs)) (upd H p (.cR gs)):=by
 obtain⟨us,ax,_⟩:=v p _ h
 exact {
  tup:=C4 ax
  hT:=λ a u e=>by
   by_cases c:a=p
   ·subst c;exact⟨_,eC⟩
   ·exact⟨u,by rw[bS c];exact e⟩
  same:=λ a u e n=>by
   have c:a≠p:=by rintro rfl;rw[h]at n;cases n
   rw[bS c];exact e
  new:=λ a u e n=>by
   have c:a≠p:=by rintro rfl;rw[h]at n;cases n
   rw[bH c];exact n
  bB:=λ a u e=>by
   by_cases c:a=p
   ·subst c;rw[bh]at e;cases e;exact⟨gs,eC,r.1,r.2.mono (C4 ax)⟩
   ·rw[bH c]at e
    exact(v a u e).mono (C4 ax) (bS c)}
noncomputable def qa:D->Option Key
 |.int i=>some (.inl i)
 |.str x=>some (.inr x)
 |_=>none
theorem zW{d:D}{k:Key}(h:qa d=some k):d=rM k:=by cases d<;>simp[qa]at h<;>subst h<;>rfl
end
section
variable{X:a0}{o i e value:a5}{pos pos' By:Pos}{cD d3 fB:bK}
noncomputable abbrev Xv(cD d3:bK):bK:=λ ρ G Q=>cD ρ G λ x aw=>d3 ρ aw λ y a_=>match x with
 |.ref a=>p_ a_ a λ kvs=>∃ k d,qa y=some k/\gH kvs k=some d/\Q d a_
 |_=>False
theorem Xw(br:X.A.units+200<ea)(aO:bJ X o cD)(ar:bJ X i d3)(av:yK i):bJ X (.Subscript o i pos) (Xv cD d3):=by
 obtain⟨co,fG,fb⟩:=aO.run;obtain⟨ci,hV,gn⟩:=ar.run;refine⟨_,⟨Iv (by omega) fG.run hV.run av⟩,λ ρ G az σ H Q B q F=>fb ρ G _ σ H _ B q λ x aw v H1 g1 a4 aG=>gn ρ aw _ σ H1 _ (B.go g1) aG λ y a_ u aQ g2 be bv=>?_⟩
 cases x with
 | ref a=>
  cases a4;obtain⟨kvs,gs,⟨k,d,iP,C6,dC⟩,aC,aF,r⟩:=Ld g2.bB bv;obtain⟨w,hw,jx⟩:=(r.val (k:=k)).1 d C6;rw[zW iP]at be;have:=zV be;subst this;exact⟨a,w,rfl,by rw[<- hw];exact pD.k aF,F d a_ w aQ (g1.trans g2) jx dC⟩
 |_=>exact(show False from bv).elim
noncomputable abbrev Xx(cD d3 fB:bK):gF:=λ dE ρ G=>fB ρ G λ v aw=>cD ρ aw λ x a_=>d3 ρ a_ λ y dv=>match x with
 |.ref a=>p_ dv a λ kvs=>∃ k,qa y=some k/\kvs.length<sizeLine/\dE.nx ρ (up dv a (.cR (kL kvs k v)))
 |_=>False
theorem Xy(br:X.A.units+200<ea)(aO:bJ X o cD)(ar:bJ X i d3)(bu:bJ X value fB)(av:kZ value (some (.Subscript o i pos')) pos.line X.env=pure false:=by rfl):jt X (.Assign [.Subscript o i pos'] value pos) (Xx cD d3 fB):=by
 obtain⟨co,fG,fb⟩:=aO.run;obtain⟨ci,hV,gn⟩:=ar.run;obtain⟨C7,od,a9⟩:=bu.run;refine⟨_,⟨Iw (by omega) fG.run hV.run od.run av⟩,λ dE fe ρ G σ H B q F=>a9 ρ G _ σ H _ B q λ Lf aw v0 H1 g1 oq aG=>fb ρ aw _ σ H1 _ (B.go g1) aG λ x a_ v aQ g2 a4 bv=>gn ρ a_ _ σ aQ _ ((B.go g1).go g2) bv λ y dv u c9 g3 be dC=>?_⟩
 cases x with
 | ref a=>
  cases a4;obtain⟨kvs,gs,⟨k,iP,aH,hU⟩,aC,aF,r⟩:=Ld g3.bB dC;rw[zW iP]at be;have:=zV be;subst this
  have len:gs.length=kvs.length:=by have:=congrArg nS r.1;simpa using this.symm
  have hu:=Go.Le g3.bB aC (r.kL (k:=k) ((oq.mono g2.tup).mono g3.tup));exact⟨a,_,rfl,pE.k aF (by omega),F.nx _ _ _ _ (((g1.trans g2).trans g3).trans hu) ((((B.go g1).go g2).go g3).go hu) hU⟩
 |_=>exact(show False from dC).elim
noncomputable abbrev Xz(tk fB:bK):bK:=λ ρ G Q=>∀ p,G p=none->tk ρ (up G p (.cR [])) λ x aw=>fB ρ aw λ y a_=>a_ p=some (.cR [])/\∃ k,qa x=some k/\Q (.ref p) (up a_ p (.cR [(k,y)]))
theorem XA{tk:bK}(aI:bJ X i tk)(bu:bJ X e fB):bJ X (.Dict [some i] [e] pos) (Xz tk fB):=by
 obtain⟨XB,C8,vo⟩:=aI.run;obtain⟨C7,od,a9⟩:=bu.run;refine⟨_,⟨RK (Iz C8.run od.run Iy) rfl rfl (by simp) (by simp)⟩,λ ρ G az σ H Q B q F p ax=>?_⟩;have qb:=Go.newD (kvs:=[]) (gs:=[]) B.bB ax ⟨rfl,rfl⟩;refine vo ρ _ _ σ _ _ (B.go qb) (q p (B.bB.none ax)) λ x aw v H1 g1 a4 aG=>a9 ρ aw _ σ H1 _ ((B.go qb).go g1) aG λ y a_ u aQ g2 be bv=>?_;obtain⟨cg,k,iP,dC⟩:=bv;obtain⟨gs,z,r⟩:=g2.bB p _ cg;rw[r.nil_inv]at z;rw[zW iP]at a4;have:=zV a4;subst this;have g3:=Go.Le (kvs:=[(k,y)]) (gs:=[(k,u)]) g2.bB cg (cT.p9 be ⟨rfl,rfl⟩);exact⟨z,[(k,u)],rfl,by simp,F (.ref p) _ _ _ (((qb.trans g1).trans g2).trans g3) rfl dC⟩
end
end L3
namespace hi
open PySem PyProof.Rows
section
variable{prog:bZ}{w:bM}{A:cK}{E:Value->ay->Prop}{s:ay}{a:Addr}{es:Array (Int×Value)}{ep:Nat}{t:eQ}
structure nv(w:bM)(h:bx)(a:Addr)(es:Array (Int×Value))(ep:Nat)(t:eQ):Prop extends SW w h a es ep t where
 all:hZ es.toList
theorem eB.rN{h:bx}(X:eB w h a es ep t):nv w h a es ep t:=⟨X.sw,X.all⟩
theorem eB.mono{h h':bx}(X:eB w h a es ep t)(e:h'.get? a=some (setAt es ep t)):eB w h' a es ep t:=⟨e,X.all,X.aS,X.fits,X.fc,X.cl⟩
theorem Lg{k:Int}{u:Tok}{Q:Option Nat->ay->Prop}(X:nv w s.heap a es ep t)(h:Q (es.toList.findIdx? λ e=>(h6 prog w).is k e.2) s):aD (aK prog w) A (setFind a (.int k u) (iv k)) Q E s:=by
 have wq:=X.all.elems (prog:=prog) (w:=w)
 have fy:es.size<Uf:=by have:=X.fc;unfold Uf;omega
 unfold setFind setFindIn;refine ah (iu X.at_ rfl X.fits ?_)
 dsimp only
 rw[byScan_of (knd:=h6 prog w) (x:=.int k u) rfl fy wq,if_pos rfl];refine ah (h5 (ah (wpAny_setScan_of (knd:=h6 prog w) (k:=k) (qG _ _ _ _) X.at_ rfl X.fits wq ?_)))
 cases ar:List.findIdx? (λ e=>(h6 prog w).is k e.2) es.toList with
 |some j=>rw[ar]at h;dsimp only;rw[x4];exact aM h
 |none=>rw[ar]at h;exact aM h
theorem XC(eS:hZ es.toList)(k:Int):(es.toList.findIdx? λ e=>(h6 prog w).is k e.2).isSome=decide (k∈keys es):=by
 rw[sv,decide_eq_true_eq]
 have z:(es.toList.findIdx? λ e=>(h6 prog w).is k e.2).isSome=true ↔ ∃ e∈es.toList,(h6 prog w).is k e.2=true:=by
  rw[List.findIdx?_isSome,List.any_eq_true]
 rw[z,eS.met]
theorem Lh{Q:Array (Int×Value)->ay->Prop}(X:SW w s.heap a es ep t)(h:∀(xs:Array (Int×Value))(d:Drawn),xs.toList.Perm es.toList->Q xs {s with drawn:=d}):aD (aK prog w) A (setWalk a) Q E s:=by
 unfold setWalk;refine ah (iu X.at_ rfl X.fits (ah (nc _ ?_)))
 cases af:gG w with
 |true=>rw[if_pos rfl];exact ah (xu (aM (h _ s.drawn (KZ _ es))))
 | false=>
  rw[if_neg (by simp)];refine(show aD (aK prog w) A (if (!t.plain&&decide (es.size > 1))=true then _ else _) _ _ s from ?_);split
  ·exact ah (draw _ _ _ _ (by simp) λ ys d ax=>aM (h ys.toArray d (by simpa using ax)))
  ·refine(show aD (aK prog w) A ((if (!t.led&&decide (es.size > 1))=true then xG "set:maker-not-led" else pure ()) >>= λ _=>_) _ _ s from ?_);rw[X.led af,if_neg (by simp)];exact ah (aM (aM (h es s.drawn (.refl _))))
theorem XD:∀(as:List Addr)(s:ay)(Q:Bool->ay->Prop),(∀ b∈as,∃ es ep t,nv w s.heap b es ep t)->Q true s->aD (aK prog w) A (setsQuiet as) Q E s:=by
 intro as s Q av q;unfold setsQuiet;refine ah (wpAny_forIn_list _ (λ rest r s'=>r=(none,PUnit.unit)/\s'=s/\∀ b∈rest,∃ es ep t,nv w s.heap b es ep t) _ ?_ ?_ _ _ ⟨rfl,rfl,av⟩)
 ·rintro b rest r s' ⟨rfl,rfl,aq⟩;obtain⟨es,ep,t,X⟩:=aq b (dP ..);refine ah (qz X.at_ rfl X.fits ?_);refine ah (h4 (MeetsSeq2.wpAny_forIn_array _ (λ rs r s2=>r=(none,PUnit.unit)/\s2=s'/\∀ e∈rs,∃ u,e.2=.int (gg e.2) u) (λ r s2=>r=(none,PUnit.unit)/\s2=s') ?XE (λ r s2 h=>⟨h.1,h.2.1⟩) es _ ⟨rfl,rfl,λ e he=>(X.all e he).1⟩) ?qc λ _ _ h=>h)
  case XE=>
   rintro e rs r s2 ⟨rfl,rfl,ai⟩;obtain⟨aC,aF⟩:=e;obtain⟨u,br⟩:=ai (aC,aF) (dP ..)
   dsimp only at br ⊢
   rw[br];exact aM ⟨rfl,rfl,λ e he=>ai e (eE _ he)⟩
  case qc=>
   rintro r s2 ⟨rfl,rfl⟩;exact aM ⟨rfl,rfl,λ b af=>aq b (eE _ af)⟩
 ·rintro r s' ⟨rfl,rfl,_⟩;exact aM q
theorem XF{f:Addr}{os:List Addr}{Li:Array (Int×Value)}{wx:Nat}{pN:eQ}{Q:Array (Int×Value)->ay->Prop}(X:nv w s.heap a es ep t)(n7:∀ b∈os,∃ es ep t,nv w s.heap b es ep t)(Y:eB w s.heap f Li wx pN)
 (h:∀(xs:Array (Int×Value))(h':bx)(d:Drawn)(XG:Nat)(XH:eQ),xs.toList.Perm es.toList->Heap.SameBut f s.heap h'->eB w h' f Li XG XH->Q xs {s with heap:=h',drawn:=d}):aD (aK prog w) A (xB a os (some f)) Q E s:=by
 unfold xB;refine ah (iu X.at_ rfl X.fits (ah (nc _ ?_)));have XI:aD (aK prog w) A (setWalk a) Q E s:=Lh X.toSW λ xs d ax=>h xs s.heap d wx pN ax (Heap.SameBut.refl f _) Y;split
 ·exact XI
 ·next c=>
  have af:gG w=false:=by
   cases e:gG w with
   |false=>rfl
   |true=>rw[e]at c;exact absurd rfl c
  refine ah (XD _ s _ (λ b af=>?_) ?_)
  ·rcases dw.mp af with rfl|af
   ·exact⟨es,ep,t,X⟩
   ·exact n7 b af
  rw[if_neg (by simp)];refine ah (h5 ?_);refine ah (iu Y.at_ rfl Y.fits ?_)
  dsimp only
  split
  ·refine ah (r9 Y.at_ rfl (aM ?_) (zS Y.fc));refine h es _ s.drawn (wx+1) _ (.refl _) (Heap.SameBut.update s.heap f _) ⟨tD Y.at_ _ _,Y.all,Y.aS,Y.fits,Y.fc,Y.cl.up,λ z=>?_,Y.cl.rL⟩;show (pN.led&&t.led)=true;rw[Y.cl.led z,X.led z];rfl
  ·exact aM (h es s.heap s.drawn wx pN (.refl _) (Heap.SameBut.refl f _) Y)
theorem Lj(X:SW w s.heap a es ep t){Q:Value->ay->Prop}(h:Q (.type "set") s):aD (aK prog w) A (Builtin.Frozenset.baseOf a) Q E s:=by
 unfold Builtin.Frozenset.baseOf;refine ah (kf (ml X) AS (aM ?_));rw[if_pos rfl];exact h
theorem Lk{Q:Value->ay->Prop}(h:Q (.ref s.heap.objs.size) {s with heap:=s.heap.push (hC w)}):aD (aK prog w) A (newSet (.type "set")) Q E s:=by
 unfold newSet;refine ah (nc _ ?_);unfold newObj;exact ah (wpAny_alloc (aM h))
theorem anyS(X:SW w s.heap a es ep t){Q:Bool->ay->Prop}(h:Q true s):aD (aK prog w) A (Builtin.Frozenset.isAnySet (.ref a)) Q E s:=by
 unfold Builtin.Frozenset.isAnySet;refine(show aD (aK prog w) A (isInstance (.ref a) (.type "set") >>= λ(b:Bool)=>_) _ _ s from ah (kf (ml X) AS ?_));exact aM h
theorem C9{id:String}(X:SW w s.heap a es ep t){Q:Unit->ay->Prop}(h:Q () s):aD (aK prog w) A (Builtin.Frozenset.unchanged id a ep) Q E s:=by
 unfold Builtin.Frozenset.unchanged;refine ah (uj X.at_ rfl X.fits ?_);rw[if_neg (by simp)];exact aM h
theorem zX(X:SW w s.heap a es ep t){Q:Nat->ay->Prop}(h:Q es.size s):aD (aK prog w) A (Builtin.Frozenset.sizeOf a) Q E s:=by
 unfold Builtin.Frozenset.sizeOf;exact ah (qz X.at_ rfl X.fits (aM h))
end
noncomputable def nx(S i:Nat):Nat:=(i * 5+1) % S
noncomputable def rO(S:Nat):Nat->Nat->List Nat
 |0,_=>[]
 |n+1,i=>i::rO S n (nx S i)
noncomputable def nw(S:Nat):Nat->Nat->Nat
 |0,i=>i
 |n+1,i=>nw S n (nx S i)
theorem Ll(S:Nat):∀(n i b:Nat),b<n->(rO S n i)[b]?=some (nw S b i)
 |0,_,_,h=>by omega
 |n+1,i,0,_=>rfl
 |n+1,i,b+1,h=>by rw[rO,xT,Ll S n _ b (by omega)];rfl
theorem C_(S:Nat):∀ n i,(rO S n i).length=n
 |0,_=>rfl
 |n+1,i=>by rw[rO,dt,C_ S n]
theorem zY(S:Nat):∀(a b i:Nat),nw S (a+b) i=nw S b (nw S a i)
 |0,b,i=>by rw[x4];rfl
 |a+1,b,i=>by rw[show a+1+b=(a+b)+1 by omega,nw,zY S a b];rfl
noncomputable def oE(S:Nat):Bool:=((fg S).all λ f=>(rO S S 0).contains f)&&nw S S 0==0
theorem XJ{S:Nat}(h:oE S=true){i f:Nat}(ar:i<S)(hf:f<S):∃ m,m<S/\nw S m i=f:=by
 unfold oE at h;rw[fh,sk,beq_iff_eq]at h
 have at_:∀ x,x<S->∃ b,b<S/\nw S b 0=x:=λ x aA=>by
  have z:=h.1 x (o3.mpr aA)
  have c7:x∈rO S S 0:=by simpa using z
  obtain⟨b,af,e⟩:=lE c7;rw[C_]at af;refine⟨b,af,?_⟩;have aF:=Ll S S 0 b af;rw[f6 (by rw[C_];exact af),e]at aF;exact(eW.inj aF).symm
 obtain⟨a,aB,rfl⟩:=at_ i ar;obtain⟨b,af,rfl⟩:=at_ f hf;rcases qQ b a with c|c
 ·refine⟨S - a+b,by omega,?_⟩;rw[<- zY,show a+(S - a+b)=S+b by omega,zY,h.2]
 ·exact⟨b - a,by omega,by rw[<- zY,show a+(b - a)=b by omega]⟩
theorem XK:oE 32=true:=by trivial
theorem XM:oE 64=true:=by trivial
theorem XN:oE 128=true:=by trivial
theorem XO{mask:Nat}{cJ:Array (Option Nat)}{i p fuel:Nat}(h:cJ.getD i (some 0)=none):∃ j,SetTable.layClean.free mask cJ (fuel+1) i p=some j:=by
 unfold SetTable.layClean.free
 have z:((fg (SetTable.runEnd mask i+1 - i)).find? λ k=>(cJ.getD (i+k) (some 0)).isNone).isSome=true:=by
  rw[List.find?_isSome];refine⟨0,o3.mpr ?_,by rw[Nat.add_zero,h];rfl⟩;unfold SetTable.runEnd;split<;>omega
 cases e:(fg (SetTable.runEnd mask i+1 - i)).find? λ k=>(cJ.getD (i+k) (some 0)).isNone with
 |none=>rw[e]at z;cases z
 |some k=>exact⟨i+k,rfl⟩
theorem Lm{mask:Nat}{cJ:Array (Option Nat)}{i p fuel:Nat}(h:∃ j,SetTable.layClean.free mask cJ fuel (SetTable.leap mask i p).1 (SetTable.leap mask i p).2=some j):∃ j,SetTable.layClean.free mask cJ (fuel+1) i p=some j:=by
 rw[SetTable.layClean.free]
 cases e:(fg (SetTable.runEnd mask i+1 - i)).find? λ k=>(cJ.getD (i+k) (some 0)).isNone with
 |none=>exact h
 |some k=>exact⟨i+k,rfl⟩
theorem Ln{mask:Nat}{cJ:Array (Option Nat)}:∀(m i fuel:Nat),m<fuel->cJ.getD (nw (mask+1) m i) (some 0)=none->∃ j,SetTable.layClean.free mask cJ fuel i 0=some j
 |0,i,fuel+1,_,h=>XO h
 | m+1,i,fuel+1,hm,h=>by
  refine Lm ?_
  have e:SetTable.leap mask i 0=(nx (mask+1) i,0):=by unfold SetTable.leap nx;simp
  rw[e];exact Ln m _ fuel (by omega) h
theorem Lo{mask:Nat}{cJ:Array (Option Nat)}(c3:oE (mask+1)=true){f:Nat}(hf:f<=mask)(pL:cJ.getD f (some 0)=none):∀(n i p fuel:Nat),p<32 ^ n->i<=mask->n+mask+1<=fuel->∃ j,SetTable.layClean.free mask cJ fuel i p=some j
 | 0,i,p,fuel,ax,ar,XP=>by
  have:p=0:=by simp at ax;exact ax
  subst this;obtain⟨m,hm,e⟩:=XJ c3 (i:=i) (f:=f) (by omega) (by omega);exact Ln m i fuel (by omega) (by rw[e];exact pL)
 | n+1,i,p,fuel,ax,ar,XP=>by
  obtain⟨k,rfl⟩:∃ k,fuel=k+1:=⟨fuel - 1,by omega⟩
  refine Lm (Lo c3 hf pL n _ _ k ?_ ?_ (by omega))
  ·show p / 32<32 ^ n;rw[Nat.div_lt_iff_lt_mul (by decide)];rw[Nat.pow_succ]at ax;exact ax
  ·show (i * 5+1+p / 32) % (mask+1)<=mask;have:=x3 (i * 5+1+p / 32) (show 0<mask+1 by omega);omega
theorem Lp{mask:Nat}{cJ:Array (Option Nat)}:∀(fuel i p j:Nat),SetTable.layClean.free mask cJ fuel i p=some j->cJ.getD j (some 0)=none
 |0,_,_,_,h=>by cases h
 | fuel+1,i,p,j,h=>by
  rw[SetTable.layClean.free]at h
  cases e:(fg (SetTable.runEnd mask i+1 - i)).find? λ k=>(cJ.getD (i+k) (some 0)).isNone with
  |none=>rw[e]at h;exact Lp fuel _ _ j h
  | some k=>
   rw[e]at h;cases h;have z:=List.find?_some e
   cases q:cJ.getD (i+k) (some 0) with
   |none=>rfl
   |some y=>rw[q]at z;cases z
noncomputable def mq(cJ:Array (Option Nat)):List Nat:=cJ.toList.filterMap id
theorem XQ{cJ:Array (Option Nat)}{j k:Nat}(h:cJ.getD j (some 0)=none):(mq (cJ.setIfInBounds j (some k))).Perm (k::mq cJ)/\j<cJ.size:=by
 have lt:j<cJ.size:=by
  rcases qQ j cJ.size with z|z
  ·exact z
  ·simp[lG,Nat.not_lt.mpr z]at h
 have bW:cJ[j]=none:=by simpa[lG,lt] using h
 refine⟨?_,lt⟩;unfold mq
 have cg:cJ.toList=cJ.toList.take j++cJ.toList[j]'(by simpa using lt)::cJ.toList.drop (j+1):=by
  rw[<- nU (by simpa using lt),o9]
 have aC:(cJ.setIfInBounds j (some k)).toList=cJ.toList.take j++some k::cJ.toList.drop (j+1):=by
  rw[Array.toList_setIfInBounds,List.set_eq_take_append_cons_drop,if_pos (by simpa using lt)]
 have wy:cJ.toList[j]'(by simpa using lt)=none:=by simpa using bW
 rw[wy]at cg;rw[aC]
 conv=>rhs;rw[cg]
 simp only[List.filterMap_append,o4,id];exact x0
theorem XR(cJ:Array (Option Nat))(h:∀ f,f<cJ.size->cJ.getD f (some 0)≠none):(mq cJ).length=cJ.size:=by
 unfold mq;rw[<- fu]
 have:∀ l:List (Option Nat),(∀ x∈l,x≠none)->(l.filterMap id).length=l.length:=λ l=>by
  induction l with
  |nil=>intro _;rfl
  | cons x l bG=>
   intro aA
   cases x with
   |none=>exact absurd rfl (aA none (dP ..))
   |some y=>simp only[o4,id,dt];rw[bG λ z hz=>aA z (eE _ hz)]
 refine this _ λ x aA=>?_;obtain⟨i,ar,e⟩:=lE aA
 have vD:i<cJ.size:=by simpa using ar
 have z:=h i vD;rw[<- e];simpa[lG,vD] using z
theorem Lq{mask:Nat}(c3:oE (mask+1)=true):∀(av:List Int)(cJ:Array (Option Nat))(k:Nat),cJ.size=mask+1->(mq cJ).Perm (fg k)->k+av.length<=mask →
 ∃ wz,(av.foldl (λ acc h=>do let (owner,k) ← acc;let j ← SetTable.layClean.free mask owner (SetTable.turns mask) (SetTable.bits h % (mask+1)) (SetTable.bits h);pure (owner.setIfInBounds j (some k),k+1)) (some (cJ,k)))=some (wz,k+av.length)/\wz.size=mask+1/\(mq wz).Perm (fg (k+av.length))
 |[],cJ,k,ag,ai,_=>⟨cJ,rfl,ag,ai⟩
 | h::av,cJ,k,ag,ai,aT=>by
  have ex:∃ f,f<=mask/\cJ.getD f (some 0)=none:=by
   apply Classical.byContradiction;intro c;have z:=XR cJ λ f hf q=>c ⟨f,by omega,q⟩;rw[ai.length_eq,so]at z;simp only[dt]at aT;omega
  obtain⟨f,hf,pL⟩:=ex
  have af:SetTable.bits h<32 ^ 13:=by
   unfold SetTable.bits
   have z:(h % (2 ^ 64:Int)).toNat<2 ^ 64:=by
    have:=x9 h (show (0:Int)<2 ^ 64 by decide);have:=x_ h (show (2 ^ 64:Int)≠0 by decide);omega
   exact hH z (by decide)
  obtain⟨j,bW⟩:=Lo c3 hf pL 13 (SetTable.bits h % (mask+1)) (SetTable.bits h) (SetTable.turns mask) af (by have:=x3 (SetTable.bits h) (show 0<mask+1 by omega);omega) (by unfold SetTable.turns;omega);obtain⟨Cz,_⟩:=XQ (k:=k) (Lp _ _ _ _ bW)
  have step:((do let (owner,k) ← some (cJ,k);let j ← SetTable.layClean.free mask owner (SetTable.turns mask) (SetTable.bits h % (mask+1)) (SetTable.bits h);pure (owner.setIfInBounds j (some k),k+1)):Option (Array (Option Nat)×Nat))=some (cJ.setIfInBounds j (some k),k+1):=by
   show (SetTable.layClean.free mask cJ (SetTable.turns mask) (SetTable.bits h % (mask+1)) (SetTable.bits h) >>= λ j=>pure (cJ.setIfInBounds j (some k),k+1))=_;rw[bW];rfl
  rw[List.foldl_cons,step];obtain⟨wz,aC,aF,c6⟩:=Lq c3 av (cJ.setIfInBounds j (some k)) (k+1) (by rw[Array.size_setIfInBounds];exact ag) (by rw[List.range_succ];exact Cz.trans ((ai.cons k).trans (List.perm_append_singleton k (fg k)).symm)) (by simp only[dt]at aT;omega);exact⟨wz,by rw[aC,dt];congr 2;omega,aF,by rw[dt,show k+(av.length+1)=k+1+av.length by omega];exact c6⟩
theorem Lr{mask:Nat}{cJ:Array (Option Nat)}(h:cJ.size=mask+1):(((fg (mask+1)).filterMap λ j=>(cJ.getD j none).map (j,·)).map (·.2))=mq cJ:=by
 rw[List.map_filterMap]
 have e:(λ j=>Option.map (λ(x:Nat×Nat)=>x.2) ((cJ.getD j none).map (j,·)))=λ j=>cJ.getD j none:=by
  funext j;cases cJ.getD j none<;>rfl
 rw[e];unfold mq;rw[<- h]
 have aF:cJ.toList=(fg cJ.size).map λ j=>cJ.getD j none:=by
  apply List.ext_getElem?;intro i;rw[dF];by_cases c:i<cJ.size
  ·rw[uA c,pb,hI c];simp[lG,c]
  ·rw[kj (by simpa using c),kj (by simpa using c)];rfl
 rw[aF,List.filterMap_map];rfl
theorem Ls{mask finger moves:Nat}{led plain:Bool}(c3:oE (mask+1)=true)(av:Array Int)(bc:av.size<=mask):∃ t' order,SetTable.laid mask finger moves led plain av=some (t',order)/\order.toList.Perm (fg av.size)/\t'.place.size=av.size/\t'.mask=mask/\t'.dummies=#[]/\t'.led=led/\i_ t'.place:=by
 have qd:(mq (Array.replicate (mask+1) none)).Perm (fg 0):=by simp[mq]
 obtain⟨cJ,aC,aF,c6⟩:=Lq c3 av.toList (Array.replicate (mask+1) none) 0 (by simp) qd (by simpa using bc)
 have kB:SetTable.layClean mask av=some cJ:=by
  unfold SetTable.layClean;rw[<- Array.foldl_toList,aC];rfl
 unfold SetTable.laid;rw[kB];simp only[Option.pure_def,Option.bind_eq_bind,Option.bind_some];rw[x4,fu]at c6;refine⟨_,_,rfl,?_,?_,rfl,rfl,rfl,?_⟩
 ·rw[xW,Lr aF];exact c6
 ·show (List.toArray _).size=_;have z:=congrArg nS (Lr aF);rw[bL]at z;rw[cS,bL,z,c6.length_eq,so]
 ·show ((uz _ _).toArray.toList).Pairwise _;rw[xW];exact(List.pairwise_lt_range (n:=mask+1)).sublist (zR (λ j=>cJ.getD j none) _)
theorem XS:∀ n,n<64->8<=n->(SetTable.sizeAbove (n * 2)=32\/SetTable.sizeAbove (n * 2)=64\/SetTable.sizeAbove (n * 2)=128)/\n<SetTable.sizeAbove (n * 2):=by trivial
theorem XT{n:Nat}(ag:n<64)(ai:8<=n):oE (SetTable.sizeAbove (n * 2) - 1+1)=true/\31<=SetTable.sizeAbove (n * 2) - 1/\n<=SetTable.sizeAbove (n * 2) - 1/\SetTable.sizeAbove (n * 2)<=128:=by
 obtain⟨h|h|h,z⟩:=XS n ag ai<;>rw[h]at z ⊢
 ·exact⟨XK,by omega,by omega,by omega⟩
 ·exact⟨XM,by omega,by omega,by omega⟩
 ·exact⟨XN,by omega,by omega,by omega⟩
theorem XU{es:Array (Int×Value)}{order:Array Nat}(h:order.toList.Perm (fg es.size)):(order.filterMap (es[·]?)).toList.Perm es.toList:=by
 rw[Array.toList_filterMap];refine(h.filterMap _).trans ?_;rw[filterMap_getElem?_range]
section
variable{prog:bZ}{w:bM}{A:cK}{E:Value->ay->Prop}{s:ay}{a:Addr}{es:Array (Int×Value)}{ep:Nat}{t:eQ}
theorem XW{Q:Value->ay->Prop}(X:eB w s.heap a es ep t)(Da:8<=es.size)(p8:es.size<64)
 (h:∀ h' c1 pr eJ,eB w h' s.heap.objs.size c1 pr eJ->c1.toList.Perm es.toList->4<=eJ.mask->(∀ b o,s.heap.get? b=some o->h'.get? b=some o)->Q (.ref s.heap.objs.size) {s with heap:=h'}):aD (aK prog w) A (Builtin.Frozenset.copyOf a) Q E s:=by
 have aH:=hk;obtain⟨f1,f2,dD,f4⟩:=XT p8 Da;have alt:=cm X.at_;unfold Builtin.Frozenset.copyOf;refine ah (Lj X.sw (ah (Lk ?_)));have tG:(s.heap.push (hC w)).get? s.heap.objs.size=some (hC w):=dK _ rfl;have Bu:(s.heap.push (hC w)).get? a=some (setAt es ep t):=cc _ X.at_;refine(show aD (aK prog w) A (setMerge s.heap.objs.size a >>= _) _ _ _ from ah ?_);unfold setMerge;rw[if_neg (by simpa using fU alt)];refine ah (iu Bu rfl X.fits ?_)
 have cE:es.isEmpty=false:=by rw[Array.isEmpty_eq_false_iff];intro z;rw[z]at Da;simp at Da
 dsimp only
 rw[cE,if_neg (by simp)];refine ah ?_;unfold setRoomFor;refine ah (iu tG rfl rfl ?_)
 have c1:(SetTable.fresh 0 0 (!gG w)).roomFor es.size=some (es.size * 2):=by
  unfold SetTable.roomFor SetTable.fill SetTable.fresh;rw[if_pos (by simp;omega)];simp
 rw[c1]
 dsimp only
 unfold setRelay;refine ah (iu tG rfl rfl ?_)
 dsimp only
 rw[if_neg (by omega)];obtain⟨t0,o0,b_,bI,jB,mb,Lu,XX,agG⟩:=Ls (finger:=0) (moves:=SetTable.movedTo (.fresh 0 0 (!gG w)) (SetTable.sizeAbove (es.size * 2) - 1)) (led:=!gG w) (plain:=true) f1 #[] (fV _)
 have XY:o0=#[]:=by
  have:o0.toList=[]:=by simpa using bI
  exact Array.toList_eq_nil_iff.mp this
 have en:SetTable.relaid (.fresh 0 0 (!gG w)) ((#[]:Array (Int×Value)).map (·.1)) (es.size * 2)=some (t0,#[]):=by
  rw[<- XY,show ((#[]:Array (Int×Value)).map (·.1))=#[] by simp];exact b_
 rw[en];refine(show aD (aK prog w) A (pure ((#[]:Array (Int×Value)),t0) >>= λ x=>storeSet s.heap.objs.size x.1 x.2) _ _ _ from ah (aM (r9 tG rfl ?_ (by simp))));have aC:=tD tG #[] t0
 have XZ:t0.fits 0=true:=by unfold SetTable.fits SetTable.fill;rw[jB,Lu,mb];simp
 have ej:∀ b o,s.heap.get? b=some o->((s.heap.push (hC w)).update s.heap.objs.size (Obj.putSet #[] t0)).get? b=some o:=λ b o e=>(kl _ _ (fU (cm e))).trans (cc _ e);refine ah (iu aC rfl XZ ?_)
 dsimp only
 have X0:t0.fill=0:=by unfold SetTable.fill;rw[jB,Lu];simp
 have fin:∀ c1 eJ,hZ c1.toList->c1.toList.Perm es.toList->eJ.fits c1.size=true->Cl (gG w) eJ->4<=eJ.mask->aD (aK prog w) A (storeSet s.heap.objs.size c1 eJ) (λ _ s'=>aD (aK prog w) A (pure (Value.ref s.heap.objs.size)) Q E s') E {s with heap:=(s.heap.push (hC w)).update s.heap.objs.size (Obj.putSet #[] t0)}:=λ c1 eJ ag ai aT b6 dp=>by
  have aL:c1.size=es.size:=by rw[<- fu,ai.length_eq,fu]
  refine r9 aC rfl (aM (h _ c1 _ eJ ⟨tD aC c1 eJ,ag,(ai.map λ e=>gg e.2).nodup_iff.mpr X.aS,aT,by omega,b6⟩ ai dp λ b o e=>(kl _ _ (fU (cm e))).trans (ej b o e))) (by omega)
 have Lv:gG w=false->(t0.led&&t.led)=true:=λ z=>by rw[XX,X.cl.led z,z];rfl
 unfold SetTable.road;rw[X0,if_neg (by simp)];by_cases c:(t0.mask==t.mask&&t.dummies.isEmpty)=true
 ·rw[if_pos c];rw[fh,beq_iff_eq]at c;exact fin es _ X.all (.refl _) X.fits ⟨X.cl.up,Lv,X.cl.rL⟩ (by show 4<=t.mask;rw[<- c.1,mb];omega)
 ·rw[if_neg c]
  dsimp only
  rw[mb];obtain⟨t1,lx,jR,k5,l2,s9,Lw,X1,X2⟩:=Ls (finger:=t0.finger) (moves:=t0.moves) (led:=t0.led&&t.led) (plain:=t0.plain&&t.plain) f1 (es.map (·.1)) (by rw[x5];exact dD);rw[x5]at k5 l2;have pm:=XU k5
  have aL:(lx.filterMap (es[·]?)).size=es.size:=by rw[<- fu,pm.length_eq,fu]
  rw[jR];refine ah (show aD (aK prog w) A (if ((lx.filterMap (es[·]?)).size !=es.size)=true then _ else pure (lx.filterMap (es[·]?),t1)) _ _ _ from ?_);rw[if_neg (by simp[aL])];refine aM (fin _ t1 (X.all.perm pm) pm ?_ ⟨X2,λ z=>by rw[X1];exact Lv z,Lw⟩ (by rw[s9];omega));unfold SetTable.fits SetTable.fill;rw[l2,Lw,s9,aL];simp;omega
end
theorem wA{α:Type}(xs:Array α)(i:Nat):(SetTable.eraseAt xs i).toList=xs.toList.take i++xs.toList.drop (i+1):=by
 unfold SetTable.eraseAt;rw[Array.toList_append,Array.toList_extract,Array.toList_extract];simp[List.extract_eq_take_drop];exact xY (by simp)
theorem X3{xs:Array Nat}(h:i_ xs)(i:Nat):i_ (SetTable.eraseAt xs i):=by
 unfold i_;rw[wA]
 have z:(xs.toList.take i++xs.toList.drop (i+1)).Sublist xs.toList:=by
  conv=>rhs;rw[<- o9 i xs.toList]
  refine List.Sublist.append (.refl _) ?_;rw[show i+1=i+1 from rfl,<- List.drop_drop];exact uy _ _
 exact h.sublist z
theorem Lx{α:Type}{xs:Array α}{i:Nat}(h:i<xs.size):(SetTable.eraseAt xs i).size+1=xs.size:=by
 rw[<- fu,wA,dJ,k2,mJ,fu];omega
section
variable{prog:bZ}{w:bM}{A:cK}{E:Value->ay->Prop}{s:ay}{a o:Addr}{es iQ:Array (Int×Value)}{ep po:Nat}{t to:eQ}
theorem X4{i:Nat}{z:Int}(eS:hZ es.toList)(oC:(keys es).Nodup)(ar:es.toList.findIdx? (λ e=>(h6 prog w).is z e.2)=some i):i<es.size/\∀ j,j∈keys (SetTable.eraseAt es i) ↔ j∈keys es/\j≠z:=by
 obtain⟨lt,q,_⟩:=List.findIdx?_eq_some_iff_getElem.mp ar
 have zT:i<es.size:=by simpa using lt
 have hz:gg (es.toList[i]).2=z:=by
  obtain⟨⟨u,e⟩,_⟩:=eS _ (sl lt);rw[e]at q;exact(h6 prog w).inj _ _ _ (qG prog w _ u) q
 refine⟨zT,λ j=>?_⟩
 have cg:es.toList=es.toList.take i++es.toList[i]::es.toList.drop (i+1):=by rw[<- nU lt,o9]
 have e7:keys es=(es.toList.take i).map (λ e=>gg e.2)++z::(es.toList.drop (i+1)).map λ e=>gg e.2:=by
  conv=>lhs;unfold keys;rw[cg,fN,cV,hz]
 have ej:keys (SetTable.eraseAt es i)=(es.toList.take i).map (λ e=>gg e.2)++(es.toList.drop (i+1)).map λ e=>gg e.2:=by unfold keys;rw[wA,fN]
 rw[e7]at oC;rw[e7,ej];have aS:=x0.nodup_iff.mp oC;rw[jj]at aS;simp only[hF,dw]at aS ⊢;constructor
 ·intro h;exact⟨h.elim .inl λ z=>.inr (.inr z),by rintro rfl;exact aS.1 h⟩
 ·rintro⟨h|h|h,n⟩
  ·exact .inl h
  ·exact absurd h n
  ·exact .inr h
theorem X5{z:Int}{u:Tok}{Q:Bool->ay->Prop}(X:eB w s.heap a es ep t)
 (h:∀ b h' c1 pr eJ,Heap.SameBut a s.heap h'->nv w h' a c1 pr eJ->(keys c1).Nodup->c1.size<=es.size->(∀ j,j∈keys c1 ↔ j∈keys es/\j≠z)->eJ.mask=t.mask->eJ.dummies.size<=1->Q b {s with heap:=h'}):aD (aK prog w) A (setDiscardHashed a (.int z u) (iv z)) Q E s:=by
 unfold setDiscardHashed;refine ah (Lg X.rN ?_)
 cases ar:List.findIdx? (λ e=>(h6 prog w).is z e.2) es.toList with
 | none=>
  refine aM (h false s.heap es ep t (Heap.SameBut.refl a _) X.rN X.aS (ZB _) (λ j=>⟨λ bW=>⟨bW,?_⟩,λ bW=>bW.1⟩) rfl (by rw[X.cl.rL];simp));rintro rfl;obtain⟨e,he,q⟩:=(X.all.met (prog:=prog) (w:=w)).mpr bW;have:=List.findIdx?_eq_none_iff.mp ar e he;rw[q]at this;cases this
 | some i=>
  obtain⟨lt,aI⟩:=X4 X.all X.aS ar
  dsimp only
  refine ah (iu X.at_ rfl X.fits ?_)
  dsimp only
  have ts:=Lx lt;have fc:=X.fc;refine ah (r9 X.at_ rfl (ah (wpAny_point (aM ?_))) (zS (by omega)));have agH:=K0 X.sw
  have Ly:i<t.place.size:=by omega
  have hf:=X.fits;unfold SetTable.fits SetTable.fill at hf;rw[fh,beq_iff_eq,decide_eq_true_eq,X.cl.rL]at hf
  have sub:(es.toList.take i++es.toList.drop (i+1)).Sublist es.toList:=by
   conv=>rhs;rw[<- o9 i es.toList]
   refine List.Sublist.append (.refl _) ?_;rw[<- List.drop_drop];exact uy _ _
  have gI:t.drop i={t with place:=SetTable.eraseAt t.place i,dummies:=SetTable.insertAt t.dummies (SetTable.below t.dummies t.place[i]) t.place[i]}:=by
   unfold SetTable.drop;rw[hI Ly]
  have agI:=Lx Ly
  have ds:(SetTable.insertAt t.dummies (SetTable.below t.dummies t.place[i]) t.place[i]).size=1:=by rw[X.cl.rL];simp[SetTable.insertAt]
  refine h true _ (SetTable.eraseAt es i) (ep+1) (t.drop i) (Heap.SameBut.update s.heap a _) ⟨⟨tD X.at_ _ _,?_,by omega,λ z=>?_,?_⟩,λ e he=>X.all e ?_⟩ ?_ (by omega) aI (by rw[gI]) (by rw[gI];show Array.size _<=1;rw[ds];exact ZB _)
  ·rw[gI];unfold SetTable.fits SetTable.fill;show (_==_&&decide (_+_<=t.mask))=true;rw[fh,beq_iff_eq,decide_eq_true_eq]
   dsimp only
   rw[ds];simp at hf;omega
  ·rw[gI];exact X.cl.led z
  ·rw[gI];exact X3 X.cl.up i
  ·rw[wA]at he;exact sub.subset he
  ·unfold keys;rw[wA];exact X.aS.sublist (sub.map _)
theorem X6{id:String}{z:Int}{u:Tok}{Q:Value->ay->Prop}(cE:o≠a)(X:eB w s.heap a es ep t)(Y:eB w s.heap o iQ po to)(mi:iQ.toList=[(iv z,.int z u)])(p8:es.size<64)
 (h:∀ r h' d c1 pr eJ,nv w h' r c1 pr eJ->(keys c1).Nodup->c1.size<=es.size->(∀ j,j∈keys c1 ↔ j∈keys es/\j≠z)->(∀ b o,s.heap.get? b=some o->h'.get? b=some o)->Q (.ref r) {s with heap:=h',drawn:=d}) :
 aD (aK prog w) A (Builtin.Frozenset.difference id a (.ref o)) Q E s:=by
 have Lz:iQ.size=1:=by rw[<- fu,mi];rfl
 have one:∀{xs:Array (Int×Value)},xs.toList.Perm iQ.toList->xs.toList=[(iv z,.int z u)]:=λ ax=>by rw[mi]at ax;exact List.perm_singleton.mp ax
 have X7:keys iQ=[z]:=by unfold keys;rw[mi];rfl
 unfold Builtin.Frozenset.difference;refine ah (anyS Y.sw ?_)
 dsimp only
 rw[if_neg (by simp)];refine(show aD (aK prog w) A (pure o >>= _) _ _ s from ah (aM ?_));rw[if_neg (by simp),if_pos rfl];refine ah (zX Y.sw (ah (zX X.sw ?_)));rw[Lz];by_cases c:es.size / 4 > 1
 ·rw[if_pos c];refine ah (h5 ?_);refine ah (XW X (by omega) p8 λ ag c1 pr eJ lw ax hm ej=>?_);have j_:=Y.mono (ej o _ Y.at_);have Db:s.heap.objs.size≠o:=fU (cm Y.at_)
  have agJ:c1.size=es.size:=by rw[<- fu,ax.length_eq,fu]
  have wB:∀ j,j∈keys c1 ↔ j∈keys es:=λ j=>(ax.map λ e=>gg e.2).mem_iff;refine(show aD (aK prog w) A (jE [.ref s.heap.objs.size] (Builtin.Frozenset.differenceUpdate id s.heap.objs.size (.ref o)) >>= _) _ _ _ from ah (g4 ?_));unfold Builtin.Frozenset.differenceUpdate;rw[if_neg (by simpa using Ne.symm Db)];refine ah (anyS (s:={s with heap:=ag}) j_.sw ?_);rw[if_pos rfl];refine(show aD (aK prog w) A (pure o >>= _) _ _ _ from ah (aM ?_));refine ah (zX (s:={s with heap:=ag}) j_.sw (ah (zX (s:={s with heap:=ag}) lw.sw ?_)));rw[if_neg (by omega)];refine ah (uj j_.at_ rfl j_.fits ?_);refine ah (g4 ?_);refine ah (show aD (aK prog w) A (xB o [s.heap.objs.size] none) _ _ _ from ?_);unfold xB;refine ah (iu j_.at_ rfl j_.fits (ah (nc _ ?_)));rw[if_pos (by rw[Lz];simp)];refine Lh (s:={s with heap:=ag}) j_.sw λ xs d aA=>?_;have X8:=one aA;refine ah (MeetsSeq2.wpAny_forIn_array _ (λ rest _ s'=>(rest=[(iv z,.int z u)]/\s'={s with heap:=ag,drawn:=d})\/(rest=[]/\∃ ai qe wC qf,s'={s with heap:=ai,drawn:=d}/\Heap.SameBut s.heap.objs.size ag ai/\nv w ai s.heap.objs.size qe wC qf/\(keys qe).Nodup/\qe.size<=c1.size/\(∀ j,j∈keys qe ↔ j∈keys c1/\j≠z)/\qf.mask=eJ.mask/\qf.dummies.size<=1)) _ ?_ ?_ xs _ (.inl ⟨X8,rfl⟩))
  ·rintro e rest b s' (⟨he,rfl⟩|⟨he,_⟩)
   ·cases he;refine ah (g4 (X5 (s:={s with heap:=ag,drawn:=d}) lw λ b ai qe wC qf fy d9 Dc j7 Dd De LA=>?_))
    have X9:SW w ai o iQ po to:=⟨by rw[fy.2 o (Ne.symm Db)];exact j_.at_,j_.fits,j_.fc,j_.cl.led,j_.cl.up⟩
    refine ah (C9 (s:={s with heap:=ai,drawn:=d}) X9 (aM (.inr ⟨rfl,ai,qe,wC,qf,rfl,fy,d9,Dc,j7,Dd,De,LA⟩)))
   ·cases he
  ·rintro b s' (⟨he,_⟩|⟨_,ai,qe,wC,qf,rfl,fy,d9,Dc,j7,Dd,De,LA⟩)
   ·cases he
   ·refine aM ?_;unfold setTidy;refine ah (iu d9.at_ rfl d9.fits ?_)
    dsimp only
    have nt:qf.tooManyDummies=false:=by unfold SetTable.tooManyDummies;rw[De];simp;omega
    rw[nt,if_neg (by simp)];refine aM (aM (h s.heap.objs.size ai d qe wC qf d9 Dc (by omega) (λ j=>by rw[Dd,wB]) λ b cy e=>?_));rw[fy.2 b (du (cm e))];exact ej b cy e
 ·rw[if_neg c];refine ah (Lj X.sw (ah (Lk ?_)));have tG:(s.heap.push (hC w)).get? s.heap.objs.size=some (hC w):=dK _ rfl;have e7:∀ b cy,s.heap.get? b=some cy->(s.heap.push (hC w)).get? b=some cy:=λ b cy e=>cc _ e;have lw:=X.mono (e7 a _ X.at_);have j_:=Y.mono (e7 o _ Y.at_);have tH:=eB.fresh tG;have agK:s.heap.objs.size≠a:=fU (cm X.at_);have Db:s.heap.objs.size≠o:=fU (cm Y.at_);refine(show aD (aK prog w) A (pure s.heap.objs.size >>= _) _ _ _ from ah (aM ?_));refine ah (uj lw.at_ rfl lw.fits ?_);refine ah (g4 ?_);rw[if_pos rfl];refine ah (XF (s:={s with heap:=s.heap.push (hC w)}) lw.rN (λ b af=>?_) tH λ xs ai d wx pN aA fy d9=>?_)
  ·rcases dw.mp af with rfl|af
   ·exact⟨_,_,_,j_.rN⟩
   ·rw[ft.mp af];exact⟨_,_,_,tH.rN⟩
  have dA:∀ b cy,s.heap.get? b=some cy->ai.get? b=some cy:=λ b cy e=>by rw[fy.2 b (du (cm e))];exact e7 b cy e
  have fc:=X.fc;refine ah (MeetsSeq2.wpAny_forIn_array _ (λ rest _ s'=>∃ done aT c1 pr eJ,xs.toList=done++rest/\s'={s with heap:=aT,drawn:=d}/\(∀ b cy,s.heap.get? b=some cy->aT.get? b=some cy)/\eB w aT s.heap.objs.size c1 pr eJ/\c1.size<=done.length/\∀ j,j∈keys c1 ↔ j∈done.map (λ e=>gg e.2)/\j≠z) _ ?_ ?_ xs _ ⟨[],ai,_,_,_,rfl,rfl,dA,d9,ZB _,by simp[keys]⟩)
  ·rintro e rest b s' ⟨done,aT,c1,pr,eJ,hd,rfl,ha,wD,eZ,l2⟩;have X_:e∈es.toList:=aA.mem_iff.mp (by rw[hd];simp);obtain⟨⟨v,bu⟩,cY⟩:=X.all e X_;obtain⟨aC,aF⟩:=e
   dsimp only at bu cY ⊢
   generalize wE:gg aF=k at bu cY;subst bu cY;have Ya:=Y.mono (ha o _ Y.at_);have CX:=X.mono (ha a _ X.at_)
   have dl:done.length<es.size:=by
    have:=congrArg nS hd;rw[aA.length_eq,fu]at this;simp at this;omega
   refine ah (g4 ?_);rw[if_pos rfl];refine ah (Lg (s:={s with heap:=aT,drawn:=d}) Ya.rN (ah (aM ?_)));rw[XC Y.all,X7];by_cases Df:k=z
   ·subst Df;rw[if_neg (by simp)];refine aM (ah (C9 (s:={s with heap:=aT,drawn:=d}) CX.sw (aM ⟨done++[(iv k,.int k v)],aT,c1,pr,eJ,by rw[hd];simp,rfl,ha,wD,by simp;omega,λ j=>?_⟩)));rw[l2,fN,hF];simp only[cV,o8,ft,gg];constructor
    ·rintro⟨x,y⟩;exact⟨.inl x,y⟩
    ·rintro⟨x|x,y⟩
     ·exact⟨x,y⟩
     ·exact absurd x y
   ·rw[if_pos (by simp[Df])];refine ah (add (s:={s with heap:=aT,drawn:=d}) wD (by omega) λ yG b6 Yb Yc Yd Ye Yf s9 gD=>aM ?_)
    have m9:∀ b cy,s.heap.get? b=some cy->b6.get? b=some cy:=λ b cy e=>by rw[Ye.2 b (du (cm e))];exact ha b cy e
    have Yg:=X.mono (m9 a _ X.at_);refine ah (C9 (s:={s with heap:=b6,drawn:=d}) Yg.sw (aM ⟨done++[(iv k,.int k v)],b6,Yb,Yc,Yd,by rw[hd];simp,rfl,m9,Yf,by simp;omega,λ j=>?_⟩));rw[s9,l2,fN,hF];simp only[cV,o8,ft,gg];constructor
    ·rintro(⟨x,y⟩|x)
     ·exact⟨.inl x,y⟩
     ·exact⟨.inr x,by rw[x];exact Df⟩
    ·rintro⟨x|x,y⟩
     ·exact .inl ⟨x,y⟩
     ·exact .inr x
  ·rintro b s' ⟨done,aT,c1,pr,eJ,hd,rfl,ha,wD,eZ,l2⟩;rw[kh]at hd;refine aM (aM (h s.heap.objs.size aT d c1 pr eJ wD.rN wD.aS ?_ (λ j=>?_) ha))
   ·have:=congrArg nS hd;rw[aA.length_eq,fu]at this;omega
   ·rw[l2,<- hd,(aA.map λ e=>gg e.2).mem_iff]
end
theorem Yh:qJ table "set.__sub__"=some Builtin.«frozenset.__sub__»:=xw (id':="frozenset.__sub__") (by kernel_rfl) (by first|rfl|decide +kernel|(unfold String.splitOn;simp +decide [String.splitOnAux])) (by trivial) (by kernel_rfl)
section
variable{prog:bZ}{w:bM}{A:cK}{E:Value->ay->Prop}{s:ay}{a o:Addr}{es iQ:Array (Int×Value)}{ep po:Nat}{t to:eQ}
theorem Yi{z:Int}{u:Tok}{Q:Value->ay->Prop}(cE:o≠a)(X:eB w s.heap a es ep t)(Y:eB w s.heap o iQ po to)(mi:iQ.toList=[(iv z,.int z u)])(p8:es.size<64)
 (h:∀ r h' d c1 pr eJ,nv w h' r c1 pr eJ->(keys c1).Nodup->c1.size<=es.size->(∀ j,j∈keys c1 ↔ j∈keys es/\j≠z)->(∀ b o,s.heap.get? b=some o->h'.get? b=some o)->Q (.ref r) {s with heap:=h',drawn:=d}) :
 aD (aK prog w) A (g5 .Sub (.ref a) (.ref o)) Q E s:=by
 refine wpAny_binaryOp_same (T:="set") (id:="set.__sub__") (ml X.sw) (ml Y.sw) F.fills_set_sub F.slot_set_sub ?_;refine f3 F.slot_set_sub (ml X.sw) Yh ?_ (F.args_set_sub_2 _ _);refine(show aD (aK prog w) A.in1 ((Builtin.Frozenset.isAnySet (.ref a) <&&> Builtin.Frozenset.isAnySet (.ref o)) >>= λ(b:Bool)=>_) _ _ s from ah ?_);unfold andM;refine ah (anyS X.sw (anyS Y.sw ?_));refine(show aD (aK prog w) A.in1 (Builtin.Frozenset.difference _ a (.ref o) >>= _) _ _ s from ah (X6 cE X Y mi p8 λ r h' d c1 pr eJ R aS aL wB k=>?_));exact aM ⟨_,rfl,by simp,h r h' d c1 pr eJ R aS aL wB k⟩
theorem Yj(eS:hZ iQ.toList)(av:iQ.size<=1){z:Int}(hz:∀ j,j∈keys iQ ↔ j∈[z]):∃ u,iQ.toList=[(iv z,.int z u)]:=by
 have hm:=(hz z).mpr (ft.mpr rfl);obtain⟨e,he,aI⟩:=eF.mp hm
 have aH:iQ.toList.length<=1:=by rw[fu];exact av
 match eg:iQ.toList,aH,he with
 | [x],_,he=>
  obtain rfl:e=x:=ft.mp he;obtain⟨⟨u,aC⟩,aF⟩:=eS e (by rw[eg];exact he);rw[aI]at aC aF;exact⟨u,by obtain⟨p,q⟩:=e;simp only at aC aF;rw[aC,aF]⟩
 |_::_::_,h,_=>simp at h
end
end hi
namespace L2
open PySem PySem.Spec PyProof.Rows
section
variable{X:a0}{e aF:a5}{aU ny:TE}{p c_ tI pos dL zZ z0:Pos}
theorem LB{pins:List (Addr×Obj)}{s:ay}{σ:St}{H:au}{R:Addr->List Int->au->Prop}(aE:X.calm=true)(a3:c8 X "set")(hm:X.mg "set"=none)(he:bO X e aU)(av:dz e=true)(I:Inv X pins σ H s)
 (h:aU σ H λ x H1=>∃(l:Addr)(ns:List Int),x=.ref l/\eh X.K H1 l (ns.map V.int)/\ns.length<64/\R l ns H1) :
 aD (aK X.prog X.w) X.A (eval (.Call (.Name "set" c_) [e] [] dL) X.env) (λ v s'=>∃(l S:Addr)(ns:List Int)(H1:au)(es:Array (Int×Value))(ep:Nat)(t:eQ),v=.ref S/\Inv X pins σ H1 s'/\hi.eB X.w s'.heap S es ep t/\hq X pins H1 S/\es.size<=ns.length/\ns.length<64/\(∀ j,j∈hi.keys es ↔ j∈ns)/\R l ns H1) X.xe s:=by
 refine je (jp I a3 hm PyProof.Rows.boot_set ?_);refine lI ?_ (eT av) rfl;rw[eT av];show aD _ _ (lC ((false,eval e X.env)::fS dL (di [] X.env))) _ _ s;refine Calls.spliced_cons (bU (he pins s σ H _ I h) λ u s1 xz=>?_);obtain⟨x,H1,aZ,bf,l,ns,ex,aV,aH,q⟩:=xz;refine Calls.spliced_nil ?_;subst ex;cases bf;obtain⟨aP,a9,cF,hz⟩:=aZ.list aV;have hlen:=a9.length;rw[bL]at hlen;refine hi.ofList (items:=aP.toArray) (ns:=ns) (aZ.ok.hd aE) cF.isList (by simpa using CZ a9) (by rw[cS];omega) λ h' tk es ep t eB z m k=>?_;exact⟨l,s1.heap.objs.size,ns,H1,es,ep,t,rfl,aZ.kept (t':=tk) k,eB,aZ.lN (ZB _) (aZ.bt.fresh (ZB _)),by have y:aP.toArray.size=aP.length:=cS;omega,aH,m,q⟩
noncomputable def Yk(K:a8)(aU ny:TE):TE:=λ σ H Q=>aU σ H λ x H1=>∃(l:Addr)(ns:List Int),x=.ref l/\eh K H1 l (ns.map V.int)/\ns.length<64/\ny σ H1 λ y aQ=>∃(bI:Addr)(nz:List Int),y=.ref bI/\eh K aQ bI (nz.map V.int)/\nz.length<64/\∃ z,nz=[z] ∧
 ∀ ms,nr (ns.filter λ j=>decide (j≠z)) ms->∀ er,aQ er=none->Q (.ref er) (upd aQ er (.lst (ms.map V.int)))
theorem Yl(aE:X.calm=true)(mm:c8 X "sorted")(mn:X.mg "sorted"=none)(a3:c8 X "set")(hm:X.mg "set"=none)(he:bO X e aU)(av:dz e=true)(Dg:bO X aF ny)(kM:dz aF=true) :
 bO X (.Call (.Name "sorted" p) [.BinOp (.Call (.Name "set" c_) [e] [] dL) .Sub (.Call (.Name "set" tI) [aF] [] zZ) z0] [] pos) (Yk X.K aU ny):=by
 intro pins s σ H Q I h;refine je (jp I mm mn PyProof.Rows.boot_sorted ?_);refine PyProof.Rows.callWith_builtin1 ?_ (eT rfl) rfl;rw[eT rfl];show aD _ _ (lC ((false,eval (.BinOp (.Call (.Name "set" c_) [e] [] dL) .Sub (.Call (.Name "set" tI) [aF] [] zZ) z0) X.env)::fS pos (di [] X.env))) _ _ s;refine Calls.spliced_cons (wpAny_BinOp (bU (LB (R:=λ _ ns H1=>ny σ H1 λ y aQ=>∃(bI:Addr)(nz:List Int),y=.ref bI/\eh X.K aQ bI (nz.map V.int)/\nz.length<64/\∃ z,nz=[z]/\∀ ms,nr (ns.filter λ j=>decide (j≠z)) ms->∀ er,aQ er=none->Q (.ref er) (upd aQ er (.lst (ms.map V.int)))) aE a3 hm he av I h) λ v s1 ag=>?_));obtain⟨l,S,ns,H1,es,ep,t,rfl,aZ,Dh,Ym,cW,aH,jR,q⟩:=ag
 have Yn:∀ b∈[S],∃ o,s1.heap.get? b=some o/\∀ v,o.data≠.cell v:=λ b af=>by
  rw[ft.mp af];exact⟨_,Dh.at_,λ _=>nofun⟩
 have Yo:=aZ.pinned (fp:=[S]) (λ b af=>by rw[ft.mp af];exact Ym) Yn;refine bU (LB (R:=λ _ nz aQ=>∃ z,nz=[z]/\∀ ms,nr (ns.filter λ j=>decide (j≠z)) ms->∀ er,aQ er=none->Q (.ref er) (upd aQ er (.lst (ms.map V.int)))) aE a3 hm Dg kM Yo q) λ v2 s2 ai=>?_;obtain⟨bI,wF,nz,aQ,agL,agM,t2,rfl,bY,LC,Yp,c7,fz,k5,z,rfl,bv⟩:=ai;have pin:(S,hi.setAt es ep t)∈pins++uW [S] s1.heap:=gi _ (xO.mpr ⟨S,ft.mpr rfl,by rw[Dh.at_];rfl⟩);have wv:=(bY.pin _ (gi _ pin)).1;have z1:wF≠S:=λ y=>Yp.2.2.2.2.2 _ (gi _ pin) y.symm;have ww:=Dh.mono wv;obtain⟨u,mi⟩:=hi.Yj LC.all (by simpa using c7) k5;refine hi.Yi z1 ww LC mi (by omega) λ r h' d c1 pr eJ R aS aL wB k=>Calls.spliced_nil ?_;have dU:Inv X pins σ aQ {s2 with heap:=h',drawn:=d}:=((bY.sM).kept (t':=s2.toks) k).drew;refine K9 aE dU R.toSW R.all aS (by omega) (λ j=>?_) bv;rw[wB,jR,o2,decide_eq_true_eq]
end
end L2
namespace L3
open PySem PyProof L2
section
variable{X:a0}{e aF:a5}{aU ny:bK}{p c_ tI pos dL zZ z0:Pos}
noncomputable abbrev Yq(aU ny:bK):bK:=λ ρ G Q=>aU ρ G λ x aw=>match x with
 | .ref l=>hy aw l λ ds=>∃ ns,pX ds=some ns/\ns.length<64/\ny ρ aw λ y a_=>match y with
  |.ref bI=>hy a_ bI λ LD=>∃ z,LD=[.int z]/\∀ ms,nr (ns.filter λ j=>decide (j≠z)) ms->∀ er,a_ er=none->Q (.ref er) (up a_ er (.lst (ms.map D.int)))
  |_=>False
 |_=>False
theorem Yr(mm:c8 X "sorted")(mn:X.mg "sorted"=none)(a3:c8 X "set")(hm:X.mg "set"=none)(he:bJ X e aU)(Dg:bJ X aF ny)(aE:X.calm=true:=by rfl)(av:dz e=true:=by rfl)(kM:dz aF=true:=by rfl) :
 bJ X (.Call (.Name "sorted" p) [.BinOp (.Call (.Name "set" c_) [e] [] dL) .Sub (.Call (.Name "set" tI) [aF] [] zZ) z0] [] pos) (Yq aU ny):=by
 obtain⟨ce,iK,re⟩:=he.run;obtain⟨agN,Ys,Yt⟩:=Dg.run;refine⟨_,⟨Yl aE mm mn a3 hm iK.run av Ys.run kM⟩,λ ρ G az σ H Q B q F=>re ρ G _ σ H _ B q λ x aw v H1 g1 a4 aG=>?_⟩
 cases x with
 | ref l=>
  cases a4;obtain⟨ds,ae,⟨ns,aC,aH,k⟩,s,en⟩:=i3 g1.bB aG;rw[Cg aC]at en;rw[en.ints]at s;refine⟨l,ns,rfl,s,aH,Yt ρ aw _ σ H1 _ (B.go g1) k λ y a_ u aQ g2 be bv=>?_⟩
  cases y with
  | ref bI=>
   cases be;obtain⟨LD,agO,⟨z,rfl,dA⟩,s2,Di⟩:=i3 g2.bB bv;obtain⟨v2,bD,rfl,a2,Di⟩:=Di;cases Di;cases a2;exact⟨bI,[z],rfl,s2,by simp,z,rfl,λ ms av er im=>F (.ref er) _ _ _ ((g1.trans g2).trans (Go.pO g2.bB im (bR.y2 ms))) rfl (dA ms av er (g2.bB.none im))⟩
  |_=>exact(show False from bv).elim
 |_=>exact(show False from aG).elim
end
theorem LF(m:Nat)(t:Tm):∀ w,(∀ z∈t.cM w,z.1<z.2)->t.cU (gf m 0) w=t:=by
 induction t with
 |name n=>intro w h;have:=h (n,w) (dP ..);simp only[Tm.cU,gf];rw[if_neg (by omega)]
 |whole k=>intro w _;rfl
 |way t bG=>intro w h;simp only[Tm.cU];rw[bG (w+1) h]
 |first t bG=>intro w h;simp only[Tm.cU];rw[bG w h]
 |second t bG=>intro w h;simp only[Tm.cU];rw[bG w h]
 |give t u dM dV=>intro w h;simp only[Tm.cU];rw[dM w λ z hz=>h z (gi _ hz),dV w λ z hz=>h z (o5 _ hz)]
 |pair t u dM dV=>intro w h;simp only[Tm.cU];rw[dM w λ z hz=>h z (gi _ hz),dV w λ z hz=>h z (o5 _ hz)]
 |plus t u dM dV=>intro w h;simp only[Tm.cU];rw[dM w λ z hz=>h z (gi _ hz),dV w λ z hz=>h z (o5 _ hz)]
 |look t u v dM dV wn=>intro w h;simp only[Tm.cU];rw[dM w λ z hz=>h z (gi _ (gi _ hz)),dV w λ z hz=>h z (gi _ (o5 _ hz)),wn w λ z hz=>h z (o5 _ hz)]
theorem LG{t:Tm}(h:t.nu=[]):∀ z∈t.cM 0,z.1<z.2:=λ z hz=>by
 rcases qQ z.1 z.2 with c|c
 ·exact c
 ·have:((z.1:Int) - z.2)∈t.nu:=xO.mpr ⟨z,hz,by rw[if_pos c]⟩;rw[h]at this;cases this
noncomputable def ka(u:Tm):Nat->Nat->Tm:=λ n w=>if n=w then u.cU (gf w 0) 0 else .name (if w<n then n - 1 else n)
noncomputable def qg(t:Tm):List Nat:=((t.cM 0).filter λ z=>decide (z.1=z.2)).map (·.2)
theorem Yu{t:Tm}{n:Nat}(h:(n,n)∈t.cM 0):n∈qg t:=eF.mpr ⟨(n,n),o2.mpr ⟨h,by simp⟩,rfl⟩
theorem Yv(t:Tm):(qg t).length<=(t.cM 0).length:=by unfold qg;rw[bL];exact List.length_filter_le _ _
noncomputable def Yw(kvs:List (Key×D))(u:Tm)(ws:List Nat):Prop:=∀ w∈ws,gH kvs (.inl w)=some (u.cU (gf w 0) 0).enc
noncomputable def Dj(T:Addr)(pos:Pos):cX:=λ ds G Q=>∃(u:Tm)(l:Addr)(ws:List Nat),ds=[u.enc,.ref l]/\G l=some (.lst (ws.map λ(w:Nat)=>D.int (w:Int)))/\ws.length<64/\u.aL<=10000/\(u.cM 0).length<64/\G T=some (.tab pos "lifted.<locals>.moved")/\∀ d kvs,G d=none->Yw kvs u ws->Q (.ref d) (up G d (.cR kvs))
noncomputable def Dk(T:Addr)(pos:Pos)(da:Addr)(dL:Pos):cX:=λ ds G Q=>∃ t u:Tm,ds=[t.enc,u.enc]/\t.aL<=10000/\u.aL<=10000/\(t.cM 0).length<64/\(u.cM 0).length<64/\G T=some (.tab pos "lifted.<locals>.moved")/\G da=some (.tab dL "put_in.<locals>.taken")/\Q (t.cU (ka u) 0).enc G
theorem rP{t:Tm}{G:aY}{Q:dg}(q:Q (.str t.word) G):ln t.enc (.int 0) G Q:=by cases t<;>exact ti rfl q
theorem LH{t:Tm}(h:(t.word=="name")=true):∃ k,t=.name k:=by
 cases t<;>first|exact⟨_,rfl⟩|(simp[Tm.word,Kb,CC]at h)
theorem Yx{t:Tm}(h:(t.word=="whole")=true):∃ k,t=.whole k:=by
 cases t<;>first|exact⟨_,rfl⟩|(simp[Tm.word,Kb,CC]at h)
theorem Yy{t:Tm}(ag:(t.word=="name")=false)(ai:(t.word=="whole")=false):t.leaf=false:=by
 cases t<;>first|rfl|(simp[Tm.word]at ag;done)|(simp[Tm.word]at ai;done)
theorem Yz{t:Tm}(h:(t.word=="name")=false)(w:Nat):t.cM w=t.bb.reverse.flatMap (λ u=>u.cM (t.hh w)):=by
 cases t<;>first|(simp[Tm.word]at h;done)|simp[Tm.cM,Tm.bb,Tm.hh]
noncomputable def Tm.comes:Tm->Tm
 |.give (.way b) a=>b.cU (ka a) 0
 |.first (.pair a _)=>a
 |.second (.pair _ b)=>b
 |.plus (.whole i) (.whole j)=>.whole (i+j)
 |.look (.whole i) a b=>if i=0 then a else b
 |t=>t
noncomputable def qh:Tm->Prop
 |.give (.way b) a=>b.aL<=10000/\a.aL<=10000/\(b.cM 0).length<64/\(a.cM 0).length<64
 |_=>True
noncomputable def Tm.oF(o:Tm):List Int->Tm->Tm
 |[],_=>o
 |k::ks,t=>t.p6 (t.bb.set k.toNat (Tm.oF o ks (t.bb.getD k.toNat (.name 0))))
noncomputable def Tm.behind(t:Tm)(ns:List Int):Tm:=match t.at ns with
 |some u=>Tm.oF u.comes ns t
 |none=>t
noncomputable def Tm.over(t:Tm):Bool:=decide (3000<t.aL)||decide (100<t.bn)
noncomputable def Tm.ja(t:Tm):Option (List Int×List Int):=match t.eM with
 |none=>none
 |some z=>z.2.use.map λ ns=>(z.1,ns)
noncomputable def LI:Option (List Int×List Int)->D
 |none=>.bE
 |some z=>.tup [gc z.1,gc z.2]
noncomputable def Dl:cX:=λ ds G Q=>∃ t:Tm,ds=[t.enc]/\t.aL<=10000/\Q (LI t.ja) G
theorem YA{t:Tm}{z:List Int×List Int}(h:t.ja=some z):(∃ u,t.at (z.1++z.2)=some u/\u.e2=true)/\(z.1++z.2).length<=t.bn:=by
 refine Tm.Wg ?_;unfold Tm.ja at h;unfold Tm.nx
 cases e:t.eM with
 |none=>rw[e]at h;cases h
 | some y=>
  rw[e]at h;simp only[]at h ⊢
  cases aF:y.2.use with
  |none=>rw[aF]at h;cases h
  |some ns=>rw[aF]at h;cases h;rfl
noncomputable def fin(t:Tm):Str:=if t.i8 then "answer" else "stuck"
noncomputable def eP:Nat->Tm->Str×Tm×List (List Int)
 | 0,t=>match t.ja with
  |none=>(fin t,t,[])
  |some _=>("more",t,[])
 | k+1,t=>match t.ja with
  |none=>(fin t,t,[])
  |some z=>if (t.behind (z.1++z.2)).over=true then ("great",t,[]) else ((eP k (t.behind (z.1++z.2))).1,(eP k (t.behind (z.1++z.2))).2.1,z.1::(eP k (t.behind (z.1++z.2))).2.2)
noncomputable def GoodR:Nat->Tm->Prop
 |0,t=>t.aL<=3000
 |k+1,t=>t.aL<=3000/\∀ z u,t.ja=some z->t.at (z.1++z.2)=some u->qh u/\((t.behind (z.1++z.2)).over=false->GoodR k (t.behind (z.1++z.2)))
theorem GoodR.aL{k:Nat}{t:Tm}(h:GoodR k t):t.aL<=3000:=by cases k with
 |zero=>exact h
 |succ k=>exact h.1
theorem LJ:∀(k:Nat)(t:Tm),(eP k t).2.2.length<=k
 |0,t=>by unfold eP;split<;>exact ZB _
 | k+1,t=>by
  unfold eP;split
  ·exact fV _
  ·split
   ·exact fV _
   ·exact Nat.succ_le_succ (LJ k _)
section
variable(T:Addr)(pos:Pos)(da:Addr)(dL:Pos)
noncomputable def h2(G:aY):Prop:=G T=some (.tab pos "lifted.<locals>.moved")/\G da=some (.tab dL "put_in.<locals>.taken")
theorem h2.new {T pos da dL} {G:aY} {p:Addr} {o:eU} (h:h2 T pos da dL G) (n:G p=none):h2 T pos da dL (up G p o):=
 ⟨by rw[bH (by rintro rfl;rw[h.1]at n;cases n)];exact h.1,by rw[bH (by rintro rfl;rw[h.2]at n;cases n)];exact h.2⟩
noncomputable def Dm:cX:=λ ds G Q=>∃ t:Tm,ds=[t.enc]/\t.e2=true/\qh t/\h2 T pos da dL G/\Q t.comes.enc G
noncomputable def Dn:cX:=λ ds G Q=>∃(t:Tm)(k:Nat)(o:Tm),ds=[t.enc,.int k,o.enc]/\t.leaf=false/\k<t.bb.length/\Q (t.p6 (t.bb.set k o)).enc G
noncomputable def Do:cX:=λ ds G Q=>∃(t:Tm)(ns:List Int)(u o:Tm),ds=[t.enc,gc ns,o.enc]/\t.at ns=some u/\ns.length<=10000/\Q (Tm.oF o ns t).enc G
noncomputable def Dp:cX:=λ ds G Q=>∃(t:Tm)(ns:List Int)(u:Tm),ds=[t.enc,gc ns]/\t.at ns=some u/\u.e2=true/\qh u/\ns.length<=10000/\h2 T pos da dL G/\Q (t.behind ns).enc G
noncomputable def Dq(P:bZ)(w:bM)(K:a8)(mg:Str->Option Value)(base:bx)(k:Nat):cX:=λ ds G Q=>∃(t:Tm)(f:Addr),ds=[t.enc,.ref f,.int 3000,.int 100]/\q7 P w K mg base k f (aX K (ik Tm.enc Tm.bb))/\Q (.aW t.over) G
noncomputable def Dr:cX:=λ ds G Q=>∃ t:Tm,ds=[t.enc]/\Q (.aW t.over) G
noncomputable def Ds(P:bZ)(w:bM)(K:a8)(mg:Str->Option Value)(base:bx)(k:Nat):cX:=λ ds G Q=>∃(α:Type)(enc:α->D)(bb:α->List α)(all:α->List α)(f:Addr)(x:α),ds=[enc x,.ref f]/\(∀ y,all y=y::(bb y).flatMap all) ∧
 q7 P w K mg base k f (aX K (ik enc bb))/\(all x).length<=10000/\∀ l,G l=none->Q (.ref l) (up G l (.lst ((all x).map enc)))
noncomputable def Tm.tJ:Tm->List Tm
 |.pair a b=>[a,b]
 |_=>[]
noncomputable def Tm.hj:Tm->List Tm
 |.pair a b=>.pair a b::(a.hj++b.hj)
 |t=>[t]
theorem Tm.YB(t:Tm):t.hj=t::t.tJ.flatMap Tm.hj:=by cases t<;>simp[Tm.hj,Tm.tJ]
theorem Tm.Dt(t:Tm):t.hj.length<=t.aL:=by
 induction t<;>simp only[Tm.hj,Tm.aL,dt,dJ,h7]<;>omega
noncomputable def Tm.wG(u:Tm):Bool:=u.word=="whole"||u.word=="way"||u.word=="pair"
theorem Tm.YC(t:Tm):t.hj.all Tm.wG=t.i8:=by
 induction t with
 |pair a b ag ai=>simp only[Tm.hj,jk,List.all_append,ag,ai,Tm.i8];rfl
 |_=>rfl
noncomputable def z2:cX:=λ ds G Q=>∃ t:Tm,ds=[t.enc]/\t.aL<=10000/\∀ l,G l=none->Q (.ref l) (up G l (.lst (t.hj.map Tm.enc)))
noncomputable def Du:cX:=λ ds G Q=>∃ t:Tm,ds=[t.enc]/\t.aL<=10000/\Q (.aW t.i8) G
noncomputable def Dv:cX:=λ ds G Q=>∃(t:Tm)(k:Nat),ds=[t.enc,.int k]/\GoodR k t/\k<=1000/\h2 T pos da dL G/\∀ l,G l=none->Q (.tup [.str (eP k t).1,(eP k t).2.1.enc,.ref l]) (up G l (.lst ((eP k t).2.2.map gc)))
end
theorem YD{u:Tm}{d:Nat}(h:d<=100):100<d+u.bn ↔ ∃ x∈u.bb,100<d+1+x.bn:=by
 cases u<;>simp[Tm.bn,Tm.bb]<;>omega
noncomputable def oG(ps:List (Tm×Nat)):Nat:=(ps.map λ z=>z.1.aL).sum
noncomputable def wH(ps:List (Tm×Nat)):Prop:=∃ z∈ps,100<z.2+z.1.bn
theorem YE(z:Tm×Nat)(ps:List (Tm×Nat)):oG (z::ps)=z.1.aL+oG ps:=by simp[oG]
theorem YF(u:Tm):(u.bb.map Tm.aL).sum+1=u.aL:=by cases u<;>simp[Tm.bb,Tm.aL]<;>omega
theorem YG{u:Tm}{d:Nat}{ps:List (Tm×Nat)}:oG ((u.bb.map λ x=>(x,d+1)).reverse++ps)+1=u.aL+oG ps:=by
 have h:(u.bb.map λ x=>x.aL).sum+1=u.aL:=YF u;simp only[oG,fN,List.sum_append,iw,sq,gw,Function.comp_def];omega
theorem YH{u:Tm}{d:Nat}{ps:List (Tm×Nat)}(h:d<=100):wH ((u.bb.map λ x=>(x,d+1)).reverse++ps) ↔ wH ((u,d)::ps):=by
 unfold wH;have e:=YD (u:=u) h;constructor
 ·rintro⟨z,hz,hd⟩;rcases hF.mp hz with hz|hz
  ·obtain⟨x,aA,rfl⟩:=eF.mp (ux.mp hz);exact⟨(u,d),dP ..,e.mpr ⟨x,aA,hd⟩⟩
  ·exact⟨z,eE _ hz,hd⟩
 ·rintro⟨z,hz,hd⟩;rcases dw.mp hz with rfl|hz
  ·obtain⟨x,aA,ai⟩:=e.mp hd;exact⟨(x,d+1),o5 _ (ux.mpr (eF.mpr ⟨x,aA,rfl⟩)),ai⟩
  ·exact⟨z,gi _ hz,hd⟩
noncomputable def Tm.along(t:Tm)(ns:List Int)(i:Nat):Tm:=(t.at (ns.take i)).getD (.name 0)
theorem Tm.LK{t u:Tm}{ns:List Int}{i:Nat}{k:Int}(h:t.at ns=some u)(aI:ns[i]?=some k):0<=k/\(t.along ns i).bb[k.toNat]?=some (t.along ns (i+1)):=by
 obtain⟨v,x,ag,ai,aT,b6⟩:=Tm.CG h aI;unfold Tm.along;rw[ag,b6];exact⟨ai,aT⟩
theorem YI(z:Str):pW (.str z) [.str "whole",.str "way",.str "pair"]=(z=="whole"||z=="way"||z=="pair"):=by
 have e:∀ a b:Str,(a==b)=(b==a):=λ a b=>by rw[sv,beq_iff_eq,beq_iff_eq];exact eq_comm
 simp only[pW,jG,List.any_nil,zg,pd];rw[e "whole" z,e "way" z,e "pair" z,Bool.or_assoc]
theorem LL{α:Type}{bb all:α->List α}(eS:∀ y,all y=y::(bb y).flatMap all):∀ ps:List α,ps.length<=(ps.flatMap all).length
 |[]=>ZB _
 | y::ps=>by
  have:=LL eS ps;rw[qO,eS y,dJ,dt,dt];omega
theorem LM{α:Type}{xs:List α}{k:Nat}(h:k<=xs.length):cut xs none (some (k:Int))=xs.take k:=by
 unfold cut;rw[show dm.cq xs.length 0 none=0 from rfl,show dm.cq xs.length xs.length (some (k:Int))=k by unfold dm.cq;simp only[];rw[if_neg (by omega)];omega,uv,uC]
theorem LN{α:Type}{xs:List α}{k:Nat}(h:k+1<=xs.length):cut xs (some ((k:Int)+1)) none=xs.drop (k+1):=by
 unfold cut;rw[show dm.cq xs.length xs.length none=xs.length from rfl,show dm.cq xs.length 0 (some ((k:Int)+1))=k+1 by unfold dm.cq;simp only[];rw[if_neg (by omega)];omega];rw[xY (by rw[mJ];omega)]
theorem YJ{t x:Tm}{k:Nat}(h:t.bb[k]?=some x):t.leaf=false:=by
 cases t<;>first|rfl|(simp[Tm.bb]at h)
noncomputable def busy:Tm->Bool
 |.give _ _=>true
 |.first _=>true
 |.second _=>true
 |.plus _ _=>true
 |.look _ _ _=>true
 |_=>false
section
variable{v:Int}
theorem YK{p:Tm}{ns:List Int}(af:busy p=true)(h:p.use=some ns):p.ja=some ([],ns):=by
 unfold Tm.ja
 have e:p.eM=some ([],p):=by cases p<;>first|rfl|cases af
 rw[e];simp only[h,mL]
end
noncomputable def YL(a:Addr)(G am:aY):Prop:=gq am a/\∀ b o,b≠a->G b=some o->am b=some o
end L3
namespace L2
open PySem PySem.Spec PyProof.Rows
section
variable{X:a0}
noncomputable def Dw(K:a8)(a:Addr)(n:Nat):hp:=
 ⟨λ i H=>i<n/\∃ xs,eh K H a xs/\xs.length=n,λ i H x ak=>ak=H/\∀ xs,eh K H a xs->xs[n - 1 - i]?=some x,λ i _=>n<=i⟩
theorem YM{P:bZ}{w:bM}{K:a8}{bd:a5}(a it:Addr)(n:Nat):Turn P w K bd (Dw K a n) [it] it (λ i h=>i<=n/\h.IsRevIter it a ((n:Int) - 1 - (i:Int))) where
 mem:=by simp
 obj:=λ i h st b af=>by
  have e:b=it:=by simpa using af
  subst e;obtain⟨_,o,e,c,d⟩:=st;exact⟨o,e,λ v z=>by rw[d]at z;cases z⟩
 keep:=λ i h h' st k=>⟨st.1,st.2.at λ o e=>k it (by simp) o e⟩
 item:=by
  intro X fx hw eu aE i pins s σ H E I hf st a3;subst fx hw eu;obtain⟨ar,xs,aV,aA⟩:=a3;obtain⟨_,st⟩:=st;obtain⟨aP,a9,p,hz⟩:=I.list aV
  have eO:n - 1 - i<xs.length:=by omega
  have kb:xs[n - 1 - i]?=some xs[n - 1 - i]:=f6 eO;obtain⟨u,br,d0⟩:=a9.get kb;obtain⟨f0,f1,f2,dD,f4,eD⟩:=hf it (by simp);rw[show (n:Int) - 1 - (i:Int)=((n - 1 - i:Nat):Int) by omega]at st;refine wpAny_pyNext_rev_item st p.isList (x:=u) (by simpa using br) λ h' hr fy=>?_;have aZ:Inv X pins σ H {s with heap:=h'}:=I.turned (t':=s.toks) (λ b o af e=>(fy.2 b af).trans e) f0 f1 dD f4 eD;obtain⟨o,e,c,d⟩:=id hr;exact⟨u,rfl,sJ (s:={s with heap:=h'}) e c d (by decide) ⟨_,H,aZ,d0,⟨rfl,λ ys bj=>by rw[I.G6 bj aV];exact kb⟩,⟨ar,by rw[show (n:Int) - 1 - ((i+1:Nat):Int)=((n - 1 - i:Nat):Int) - 1 by omega];exact hr⟩,λ b af=>(hf b af).1⟩⟩
 done:=by
  intro X fx hw eu aE i pins s σ H E I hf st a3;subst fx hw eu;have agP:n<=i:=a3;obtain⟨ar,st⟩:=st;obtain⟨f0,f1,f2,dD,f4,eD⟩:=hf it (by simp);rw[show (n:Int) - 1 - (i:Int)=-1 by omega]at st
  exact wpAny_pyNext_rev_end (I.ok.hd aE) st λ h' dQ=>⟨rfl,I.turned (t':=s.toks) (λ b o af e=>dQ b o af e) f0 f1 dD f4 eD⟩
 self:=λ _ _ _ _ _ st h=>wpAny_pyIter_revIter st.2 h
noncomputable def LO(K:a8)(ec:TE):TI:=λ σ H R=>ec σ H λ x H1=>∃ a xs,x=.ref a/\eh K H1 a xs/\R (Dw K a xs.length) H1
theorem YN{bd e:a5}{ec:TE}{p pos:Pos}(a3:c8 X "reversed")(hm:X.mg "reversed"=none)(aH:bO X e ec)(av:dz e=true):lO X bd (.Call (.Name "reversed" p) [e] [] pos) (LO X.K ec):=by
 intro pins s σ H R I h;refine bU (IW (R:=λ a xs H1=>R (Dw X.K a xs.length) H1) a3 hm aH av I h) λ v s1 ag=>?_;obtain⟨a,it,xs,aP,H1,rfl,aZ,hit,bN,cE,a9,hz,_,fp,q⟩:=ag;have im:=a9.length;refine wpAny_pyIter_revIter hit ⟨it,[it],_,_,H1,rfl,aZ,YM a it xs.length,?_,λ b af=>?_,q⟩
 ·rw[cS,<- im]at hit;exact⟨fV _,by simpa using hit⟩
 ·have e:b=it:=by simpa using af
  subst e;exact fp
end
end L2
namespace L3
open PySem PySem.Spec L2
section
variable{X:a0}{a b c e f o i bd iter value:a5}{x:Str}{ad C:Addr}{tab:Str->Option D}{bw fB aU pN to d3:bK}{pos pos' By p apos dH:Pos}
noncomputable abbrev agQ(C:Addr)(f:Str)(bw aU:bK)(g:Int->Int->Int):gF:=λ dE ρ G=>bw ρ G λ x aw=>match x with
 | .ref a=>KM aw a C λ fs=>Ww fs f λ d=>aU ρ aw λ y a_=>match d,y with
  |.int i,.int j=>KM a_ a C λ ya=>ya.length<1000/\dE.nx ρ (up a_ a (.ins C (putD f (.int (g i j)) ya)))
  |_,_=>False
 |_=>False
@[irreducible] noncomputable def wI(G:aY)(l:Addr)(k:j1->Prop):Prop:=match G l with
 |some (.lst ds)=>k ⟨ds.reverse,λ G=>G l=some (.lst ds)⟩
 |_=>False
theorem YO{G:aY}{l:Addr}{k:j1->Prop}{ds:List D}(h:G l=some (.lst ds))(q:k ⟨ds.reverse,λ G=>G l=some (.lst ds)⟩):wI G l k:=by unfold wI;rw[h];exact q
noncomputable abbrev YP(bw:bK):i4:=λ ρ G R=>bw ρ G λ x aw=>match x with
 |.ref l=>wI aw l λ J=>R J aw
 |_=>False
theorem YQ{bg:TE}(a3:c8 X "reversed")(hm:X.mg "reversed"=none)(aH:cL X a bg)(av:dz a=true):m6 X bd (.Call (.Name "reversed" p) [a] [] pos) (LO X.K bg):=⟨YN a3 hm aH.run av⟩
theorem YR(a3:c8 X "reversed")(hm:X.mg "reversed"=none)(aB:bJ X a bw)(av:dz a=true:=by rfl):ni X bd (.Call (.Name "reversed" p) [a] [] pos) (YP bw):=by
 obtain⟨ca,cH,cI⟩:=aB.run;refine⟨_,YQ a3 hm cH av,λ ρ G i5 σ H R B q F=>cI ρ G _ σ H _ B q λ x aw v H1 g1 a4 aG=>?_⟩
 cases x with
 | ref l=>
  cases a4
  replace aG:wI aw l λ J=>i5 J aw:=aG
  unfold wI at aG;split at aG
  ·next ds hd=>
   obtain⟨ae,z,r⟩:=g1.bB _ _ hd;refine⟨l,ae,rfl,.of z,F ⟨ds.reverse,λ G=>G l=some (.lst ds)⟩ _ aw H1 g1 (λ a_ aQ g2 ai=>?_) aG⟩;obtain⟨us,c7,bD⟩:=g2.bB _ _ ai;have ky:=r.len;have eR:=bD.len;refine⟨λ i d eI=>?_,λ i ar=>?_⟩
   ·have ar:i<ds.length:=by
     rcases qQ i ds.length with c|c
     ·exact c
     ·rw[kj (by rw[hG];exact c)]at eI;cases eI
    rw[List.getElem?_reverse ar]at eI;obtain⟨w,hw,jx⟩:=bD.get eI;refine⟨⟨by omega,us,.of c7,by omega⟩,λ x ak y=>?_⟩;obtain⟨rfl,y⟩:=y;have z:=y us (.of c7);rw[show ae.length=ds.length by omega,hw]at z;cases z;exact⟨.refl g2.bB,jx⟩
   ·show ae.length<=i;rw[hG]at ar;omega
  ·exact aG.elim
 |_=>exact(show False from aG).elim
theorem YS{st:bC}:jt X st (λ _ _ _=>False):=⟨λ _ _ _=>False,⟨λ _ _ _ _ _ _ h=>h.elim⟩,λ dE fe ρ G σ H B q F=>q.elim⟩
end
theorem YT{ds:List D}{i:Int}{G:aY}{Q:dg}(h0:0<=i)(ag:i<ds.length)(h:∀ d∈ds,Q d G):atS ds i G Q:=by
 obtain⟨n,rfl⟩:∃ n:Nat,i=n:=⟨i.toNat,by omega⟩
 have aH:n<ds.length:=by omega
 exact Cy (tf (d:=ds[n]) (mZ (f6 aH)) (h _ (sl aH)))
end L3
namespace L2
open PySem PySem.Spec PyProof.Rows
noncomputable def fo(h:bx)(d:Addr)(es:Array DictEntry)(ep:Nat):Prop:=∃ o,h.get? d=some o/\o.ExactDict/\o.data=.dict es ep
theorem fo.typeIs{s:ay}{d:Addr}{es:Array DictEntry}{ep:Nat}(x:fo s.heap d es ep):s.TypeIs (.ref d) "dict":=let ⟨o,aO,aE,_⟩:=x;⟨o,aO,aE.1⟩
theorem fo.lt{h:bx}{d:Addr}{es:Array DictEntry}{ep:Nat}(x:fo h d es ep):d<h.objs.size:=let ⟨_,aO,_⟩:=x;cm aO
section
variable{prog:bZ}{w:bM}{A:cK}{E:Value->ay->Prop}{s:ay}{d it:Addr}{es:Array DictEntry}{ep i:Nat}
theorem YU{Q:Value->ay->Prop}(hd:(d==jg)=false)(R:fo s.heap d es ep)
 (h:Q (.ref s.heap.objs.size) {s with heap:=s.heap.push {cls:=.type "dict_keyiterator",data:=.fields #[.ref d,.int 0 0,.int es.size 0,.int ep 0]}}):aD (aK prog w) A (mF (.ref d)) Q E s:=by
 obtain⟨o,aO,aE,e⟩:=id R;refine ui R.typeIs PySem.F.slot_dict_iter (f3 PySem.F.slot_dict_iter R.typeIs PySem.F.entry_dict_iter ?_ (PySem.F.args_dict_iter_1 _));unfold Builtin.«dict.__iter__» Builtin.Dict.dictSlotNone;refine ah (ah (AG R.typeIs ?_));refine(show aD _ _ (pure (Value.ref d)) _ _ s from aM ?_);show aD _ _ (Builtin.Dict.showsAll d >>= _) _ _ s;unfold Builtin.Dict.showsAll;rw[if_neg (by rw[hd];decide)];refine ah (aM (ah (nJ aO e (ah (oP aO e ?_)))));refine ah (gL (aM ⟨_,rfl,"dict_keyiterator",_,⟨_,dK _ rfl,rfl⟩,PySem.F.slot_dict_keyiterator_next.lookup,?_⟩));simpa[dB] using h
theorem YV{x:DictEntry}{Q:Option Value->ay->Prop}(J:s.heap.IsKeyIter it d i es.size ep)(R:fo s.heap d es ep)(aA:es[i]?=some x)
 (h:∀ h',h'.IsKeyIter it d (i+1) es.size ep->Heap.SameBut it s.heap h'->Q (some x.key) {s with heap:=h'}):aD (aK prog w) A (ef (.ref it)) Q E s:=by
 obtain⟨o,aO,aE,hd⟩:=id J;obtain⟨c5,iR,eN,io⟩:=id R;have eO:i<es.size:=(nW.mp aA).1;obtain rfl:es[i]=x:=(nW.mp aA).2;unfold ef;refine ah (iT (wpAny_callSpecial?_slot (name:=Str.ofString "__next__") J.typeIs PySem.F.slot_dict_keyiterator_next (f3 PySem.F.slot_dict_keyiterator_next J.typeIs PySem.F.entry_dict_keyiterator_next ?_ (PySem.F.args_dict_keyiterator_next_1 _))));refine ah (aM (ah (ah ?_)));refine ah (xt J.typeIs (aM (ah (mz aO hd ?_))));simp only[show Builtin.Dict_items.ownsTuple "dict_keyiterator"=false by decide,mM,if_false];refine(show aD _ _ (if (Value.ref d==Value.none)=true then _ else _) _ _ s from ?_);rw[if_neg (show ¬ (Value.ref d==Value.none)=true from f7)];refine ah (aM (ah (nJ iR io ?_)));rw[if_neg (by simp)];refine ah (aM (ah (oP iR io ?_)));rw[if_neg (by simp)];refine aM ?_;simp only[show ¬ (i:Int)<0 by omega,if_false,gx,hI eO];refine ah (ah (xt J.typeIs (aM (ah (GM J.typeIs ?_)))));refine(show aD _ _ (mA (.ref it) 1 (dB ((i:Int)+1)) >>= _) _ _ s from ah (jf aO hd (by simp) ?_))
 have jV:(s.heap.update it (Obj.mapFields (·.setIfInBounds 1 (dB ((i:Int)+1))))).IsKeyIter it d (i+1) es.size ep:=
  ⟨_,hl _ aO (Obj.isFreed_of_fields (Obj.data_mapFields hd _)),(Obj.cls_mapFields ..).trans aE,by rw[Obj.data_mapFields hd];simp[dB]⟩
 refine ah (g4 (ah (GM (s:={s with heap:=s.heap.update it (Obj.mapFields (·.setIfInBounds 1 (dB ((i:Int)+1))))}) jV.typeIs ?_)));exact(show aD _ _ (pure es[i].key) _ _ _ from aM (aM ⟨_,rfl,aM (h _ jV (Heap.SameBut.update ..))⟩))
theorem YW{Q:Option Value->ay->Prop}(cY:A.handled=none)(J:s.heap.IsKeyIter it d i es.size ep)(R:fo s.heap d es ep)(aA:es.size<=i)(h:∀ h',Heap.ExtBut it s.heap h'->Q none {s with heap:=h'}):aD (aK prog w) A (ef (.ref it)) Q E s:=by
 obtain⟨o,aO,aE,hd⟩:=id J;obtain⟨c5,iR,eN,io⟩:=id R;unfold ef;refine ah (iT (wpAny_callSpecial?_slot (name:=Str.ofString "__next__") J.typeIs PySem.F.slot_dict_keyiterator_next (f3 PySem.F.slot_dict_keyiterator_next J.typeIs PySem.F.entry_dict_keyiterator_next ?_ (PySem.F.args_dict_keyiterator_next_1 _))));refine ah (aM (ah (ah ?_)));refine ah (xt J.typeIs (aM (ah (mz aO hd ?_))));simp only[show Builtin.Dict_items.ownsTuple "dict_keyiterator"=false by decide,mM,if_false];refine(show aD _ _ (if (Value.ref d==Value.none)=true then _ else _) _ _ s from ?_);rw[if_neg (show ¬ (Value.ref d==Value.none)=true from f7)];refine ah (aM (ah (nJ iR io ?_)));rw[if_neg (by simp)];refine ah (aM (ah (oP iR io ?_)));rw[if_neg (by simp)];refine aM ?_;simp only[show ¬ (i:Int)<0 by omega,if_false,gx,sr aA];refine ah (ah (xt J.typeIs (aM ?_)));refine(show aD _ _ (mA (.ref it) 0 .none >>= _) _ _ s from ah (jf aO hd (by simp) ?_));refine(show aD _ _ (qM (.type "StopIteration") [] >>= _) _ _ _ from ah ?_);simp only[qM,newTuple];refine ah (gL (ah (m:=oQ _ _) (qE (a:=Value.none) (by first|rfl|(simp only[oQ];rfl)) (gL ?_ (by size_fits)))) (by size_fits));simp only[raiseNew];refine ah (xA ?_);rw[show A.in1.handled=none from cY];refine ah (aM (xF ?_));refine ah (kf (T:="StopIteration") (b:=true) ⟨_,dK _ rfl,rfl⟩ qC ?_);exact aM (h _ (((Heap.SameBut.update ..).extBut.push _).push _))
end
noncomputable def LP(H:au)(kvs:List (List Key×V))(i:Nat)(e:DictEntry):Prop:=∃ k v b,kvs[i]?=some (k,v)/\e.key=.ref b/\H b=some (.tup (k.map dd))/\RelV v e.val
theorem LQ{α β:Type}{R:α->β->Prop}:∀{xs:List α}{ys:List β},mD R xs ys->∀{i:Nat}{y:β},ys[i]?=some y->∃ x,xs[i]?=some x/\R x y
 |_,_,.nil,i,y,e=>by simp at e
 |_,_,.cons h t,0,y,e=>by simp at e;subst e;exact⟨_,rfl,h⟩
 |_,_,.cons h t,i+1,y,e=>by simp at e;obtain⟨x,aC,r⟩:=LQ t e;exact⟨x,by simpa using aC,r⟩
theorem wJ{P:bZ}{w:bM}{H:au}{h:bx}{a:Addr}{kvs:List (List Key×V)}(ok:dW P w H h)(e:iz H a (.bz kvs)) :
 (a==jg)=false/\∃ o es ep,h.get? a=some o/\o.ExactDict/\o.data=.dict es ep/\es.size=kvs.length/\∀ i x,es[i]?=some x->LP H kvs i x:=by
 obtain⟨_,hd,xs,pr,o,es,ep,aO,aE,oH,he,_⟩:=Bx ok e
 have aH:es.size=xs.length:=by rw[<- fu,he,bL]
 refine⟨hd,o,es,ep,aO,aE,oH,by rw[aH];exact(Paired.length pr).symm,λ i x aA=>?_⟩;rw[<- pb,he,dF]at aA
 cases aV:xs[i]? with
 |none=>rw[aV]at aA;cases aA
 | some q=>
  rw[aV]at aA;cases aA;obtain⟨p,ax,aC,aF,c6⟩:=LQ pr aV;exact⟨p.1,p.2,q.2.1,ax,rfl,aF,c6⟩
noncomputable def wK(a:Addr)(o:Obj)(kvs:List (List Key×V)):hp:=⟨λ i H=>H a=some (.eH o (.bz kvs))/\i<kvs.length,λ i H x ak=>ak=H/\∃ k v b,kvs[i]?=some (k,v)/\x=.ref b/\H b=some (.tup (k.map dd)),λ i H=>H a=some (.eH o (.bz kvs))/\kvs.length<=i⟩
theorem LR{P:bZ}{w:bM}{H:au}{h:bx}{a:Addr}{o:Obj}{kvs:List (List Key×V)}{es:Array DictEntry}{ep:Nat}(ok:dW P w H h)(e:H a=some (.eH o (.bz kvs)))(aE:o.ExactDict)(hd:o.data=.dict es ep) :
 fo h a es ep/\es.size=kvs.length/\∀ i x,es[i]?=some x->LP H kvs i x:=by
 obtain⟨_,cy,fw,ho,aO,sD,eI,av,aI⟩:=wJ ok (.inr ⟨o,e⟩);have ku:h.get? a=some o:=(show ez P w H h a (.eH o (.bz kvs)) from ok a _ e).1;rw[ku]at aO;cases aO;rw[hd]at eI;cases eI;exact⟨⟨o,ku,aE,hd⟩,av,aI⟩
theorem YX{P:bZ}{w:bM}{K:a8}{bd:a5}{a:Addr}(it:Addr){o:Obj}{kvs:List (List Key×V)}{es:Array DictEntry}{ep:Nat}(aE:o.ExactDict)(hd:o.data=.dict es ep)(cE:a≠it) :
 Turn P w K bd (wK a o kvs) [it] it (λ i h=>i<=es.size/\h.IsKeyIter it a i es.size ep) where
 mem:=by simp
 obj:=λ i h st b af=>by
  have e:b=it:=by simpa using af
  subst e;obtain⟨_,o,e,c,d⟩:=st;exact⟨o,e,λ v z=>by rw[d]at z;cases z⟩
 keep:=λ i h h' st k=>⟨st.1,st.2.at λ o e=>k it (by simp) o e⟩
 item:=by
  intro X fx hw eu LS i pins s σ H E I hf st a3;subst fx hw eu;obtain⟨f0,f1,f2,dD,f4,eD⟩:=hf it (by simp);obtain⟨R,av,aI⟩:=LR I.bt a3.1 aE hd
  have ar:i<es.size:=by rw[av];exact a3.2
  refine YV st.2 R (hI ar) λ h' jV fy=>?_;obtain⟨k,v,b,aC,aF,c6,_⟩:=aI i _ (hI ar);have aZ:Inv X pins σ H {s with heap:=h'}:=I.turned (t':=s.toks) (λ b o af e=>fy.extBut b o af e) f0 f1 dD f4 eD;obtain⟨Tr,iQ,ew,iY⟩:=id jV;refine⟨_,rfl,sJ (s:={s with heap:=h'}) iQ ew iY (by decide) ⟨.ref b,H,aZ,aF ▸ rfl,⟨rfl,k,v,b,aC,rfl,c6⟩,⟨ar,jV⟩,λ b af=>(hf b af).1⟩⟩
 done:=by
  intro X fx hw eu LS i pins s σ H E I hf st a3;subst fx hw eu;obtain⟨f0,f1,f2,dD,f4,eD⟩:=hf it (by simp);obtain⟨R,av,aI⟩:=LR I.bt a3.1 aE hd
  exact YW (I.ok.hd LS) st.2 R (by rw[av];exact a3.2) λ h' c0=>⟨rfl,I.turned (t':=s.toks) (λ b o af e=>c0 b o af e) f0 f1 dD f4 eD⟩
 self:=λ _ _ _ _ _ st h=>wpAny_pyIter_keyiter st.2 h
section
variable{X:a0}{pins:List (Addr×Obj)}{σ:St}{H:au}{s:ay}{a:Addr}{kvs:List (List Key×V)}{o:Obj}
theorem Inv.freeze(I:Inv X pins σ H s)(e:H a=some (.bz kvs))(aO:s.heap.get? a=some o):Inv X pins σ (upd H a (.eH o (.bz kvs))) s:=by
 have ne:∀ b u,H b=some u->(∀ kvs,u≠.bz kvs)->b≠a:=λ b u z n c=>by subst c;rw[e]at z;cases z;exact n _ rfl
 have U:fi X.fs [] H (upd H a (.eH o (.bz kvs))) s.heap s.heap:=
  ⟨λ _ _ q _ _ _=>q,λ b cw q _ _ _=>⟨cw.slots,q⟩,λ b cw q n _=>by rw[bS (by rintro rfl;rw[e]at n;cases n)];exact n,λ _ cw q _=>⟨cw,q⟩,
   λ b xs z=>by rw[bS (ne b _ z λ _ c=>nomatch c)];exact z,λ b cw u z=>by rw[bS (ne b _ z λ _ c=>nomatch c)];exact z,λ b ps z=>⟨#[],by rw[bS (ne b _ z λ _ c=>nomatch c),z];simp⟩⟩
 refine I.un (h':=s.heap) (t':=s.toks) U λ b u z=>?_;by_cases c:b=a
 ·subst c;rw[eC]at z;cases z;exact⟨aO,(I.bt b _ e).jK (λ _ _ _ q=>q) (λ b z=>by rw[bS (ne b _ z λ _ c=>nomatch c)];exact z) λ b y z=>by rw[bS (ne b _ z λ _ c=>nomatch c)];exact z⟩
 ·rw[bS c]at z;exact(I.bt b u z).jK (λ _ _ _ q=>q) (λ b z=>by rw[bS (ne b _ z λ _ c=>nomatch c)];exact z) λ b y z=>by rw[bS (ne b _ z λ _ c=>nomatch c)];exact z
noncomputable abbrev YY(cD:TE):TI:=λ σ H R=>cD σ H λ x H1=>∃ a kvs,x=.ref a/\((H1 a=some (.bz kvs)/\∀ o,R (wK a o kvs) (upd H1 a (.eH o (.bz kvs))))\/∃ o,H1 a=some (.eH o (.bz kvs))/\R (wK a o kvs) H1)
theorem YZ{bd l:a5}{ec:TE}(aH:bO X l ec):lO X bd l (YY ec):=by
 intro pins s σ H R I h;refine bU (aH pins s σ H _ I h) λ u s1 xz=>?_;obtain⟨x,H1,aZ,bl,a,kvs,ex,aV⟩:=xz;subst ex;obtain rfl:u=Value.ref a:=bl;have cv:iz H1 a (.bz kvs):=aV.elim (λ z=>.inl z.1) λ⟨o,z,_⟩=>.inr ⟨o,z⟩;obtain⟨hm,o,es,ep,aO,aE,hd,av,aI⟩:=wJ aZ.bt cv
 have fin:∀ aQ:au,Inv X pins σ aQ s1->R (wK a o kvs) aQ->aD (aK X.prog X.w) X.A (mF (.ref a)) (yj X pins σ bd R) X.xe s1:=λ aQ bY r=>by
  refine YU hm ⟨o,aO,aE,hd⟩ ?_;refine⟨s1.heap.objs.size,[s1.heap.objs.size],_,_,aQ,rfl,bY.kept (t':=s1.toks) λ b o e=>cc _ e,YX _ aE hd (du (cm aO)),⟨fV _,_,dK _ rfl,rfl,rfl⟩,λ b af=>?_,r⟩
  have e:b=s1.heap.objs.size:=by simpa using af
  subst e;exact bY.lN (ZB _) (bY.bt.fresh (ZB _))
 rcases aV with⟨e,r⟩|⟨cy,e,r⟩
 ·exact fin _ (aZ.freeze e aO) (r o)
 ·have ku:s1.heap.get? a=some cy:=(show ez X.prog X.w H1 s1.heap a (.eH cy (.bz kvs)) from aZ.bt a _ e).1;rw[aO]at ku;cases ku;exact fin _ aZ r
end
section
variable{prog:bZ}{w:bM}{A:cK}{E:Value->ay->Prop}{s:ay}{d it:Addr}{es:Array DictEntry}{ep i:Nat}
theorem Y0{Q:Value->ay->Prop}(hd:(d==jg)=false)(R:fo s.heap d es ep)(h:Q (.ref s.heap.objs.size) {s with heap:=s.heap.push {cls:=.type "dict_items",data:=.fields #[.ref d]}}):aD (aK prog w) A (call (.builtin "dict.items") [.ref d]) Q E s:=by
 refine xC PySem.F.slot_dict_items R.typeIs PySem.F.entry_dict_items (PySem.F.args_dict_items_1 _) (S:=λ _ z3 s=>fo s.heap d es ep/\z3 (.ok (.ret (.ref s.heap.objs.size))) {s with heap:=s.heap.push {cls:=.type "dict_items",data:=.fields #[.ref d]}}) (.of_wp λ A z3 s xz=>?_) ⟨R,h⟩;obtain⟨hm,h⟩:=xz;unfold Builtin.«dict.items» Builtin.Dict.noArgs;refine ah (ah (AG hm.typeIs ?_));refine(show aD _ _ (pure d) _ _ s from aM ?_);show aD _ _ (Builtin.Dict.showsAll d >>= _) _ _ s;unfold Builtin.Dict.showsAll;rw[if_neg (by rw[hd];decide)];exact ah (aM (ah (gL (aM ⟨_,rfl,h⟩))))
theorem Y1{v:Addr}{Q:Value->ay->Prop}(bu:s.heap.IsItemsView v d)(R:fo s.heap d es ep)
 (h:Q (.ref s.heap.objs.size) {s with heap:=s.heap.push {cls:=.type "dict_itemiterator",data:=.fields #[.none,.bool false,.ref d,.int 0 0,.int es.size 0,.int ep 0,.none,.none]}}):aD (aK prog w) A (mF (.ref v)) Q E s:=by
 obtain⟨dG,Y2,agR,Y3⟩:=id bu;obtain⟨o,aO,aE,oH⟩:=id R;refine ui bu.typeIs PySem.F.slot_dict_items_iter (f3 PySem.F.slot_dict_items_iter bu.typeIs PySem.F.entry_dict_items_iter ?_ (PySem.F.args_dict_items_iter_1 _));unfold Builtin.«dict_items.__iter__» Builtin.Dict_items.dictOf;refine ah (aM (ah (ah (fM Y2 Y3 (x:=.ref d) rfl (aM (ah ?_))))));unfold Builtin.Dict_items.newIterator;refine ah (nJ aO oH (ah (oP aO oH ?_)));simp only[show Builtin.Dict_items.ownsTuple "dict_itemiterator"=true by decide,if_true];refine gL (aM ⟨_,rfl,"dict_itemiterator",_,⟨_,dK _ rfl,rfl⟩,PySem.F.slot_dict_itemiterator_next.lookup,?_⟩) (by simp only[sizeOk,Builtin.Dict_items.ownedTupleFields,cS,dJ,dt,h7,hk];omega);simpa[dB,Builtin.Dict_items.ownedTupleFields] using h
theorem Y4{x:DictEntry}{ok dG:Value}{Q:Option Value->ay->Prop}(J:qH s.heap it d i es.size ep ok dG)(R:fo s.heap d es ep)(aA:es[i]?=some x)
 (h:∀ h',IsItemIterOut h' it d (i+1) es.size ep x.key x.val s.heap.objs.size->h'.get? s.heap.objs.size=some {cls:=.type "tuple",data:=.seq #[x.key,x.val]} →
  (∀ b o,b≠it->s.heap.get? b=some o->h'.get? b=some o)->Q (some (.ref s.heap.objs.size)) {s with heap:=h'}):aD (aK prog w) A (ef (.ref it)) Q E s:=by
 obtain⟨ax,g,gI,tk,os⟩:=s;obtain⟨c5,iR,eN,io⟩:=id R;have eO:i<es.size:=(nW.mp aA).1;obtain rfl:es[i]=x:=(nW.mp aA).2
 have bp:Shared.TypeIs ⟨ax,g,gI,tk,os⟩ (.ref it) "dict_itemiterator":=⟨_,J,rfl⟩
 unfold ef;refine ah (iT (wpAny_callSpecial?_slot (name:=Str.ofString "__next__") bp PySem.F.slot_dict_itemiterator_next (f3 PySem.F.slot_dict_itemiterator_next bp PySem.F.entry_dict_itemiterator_next ?_ (PySem.F.args_dict_itemiterator_next_1 _))));refine ah (aM (ah (ah ?_)));refine ah (oO bp (aM (ah (mz J rfl ?_))));simp only[show Builtin.Dict_items.ownsTuple "dict_itemiterator"=true by decide,if_true];refine(show aD _ _ (if (Value.ref d==Value.none)=true then _ else _) _ _ _ from ?_);rw[if_neg (show ¬ (Value.ref d==Value.none)=true from f7)];refine ah (aM (ah (nJ iR io ?_)));rw[if_neg (by simp)];refine ah (aM (ah (oP iR io ?_)));rw[if_neg (by simp)];refine aM ?_;simp only[show ¬ (i:Int)<0 by omega,if_false,gx,hI eO];refine ah (ah (oO bp (aM (ah (r8 bp ?_)))));refine(show aD _ _ (mA (.ref it) 3 (dB ((i:Int)+1)) >>= _) _ _ ⟨ax,g,gI,tk,os⟩ from ah (kX J (by simp) λ h₁ aC s1=>?_))
 replace s1:Heap.SameBut it ax h₁:=s1
 replace aC:qH h₁ it d (i+1) es.size ep ok dG:=by
  unfold qH;rw[show ((i+1:Nat):Int)=(i:Int)+1 by omega];simpa[dB] using aC
 have wL:Shared.TypeIs ⟨h₁,g,gI,tk,os⟩ (.ref it) "dict_itemiterator":=⟨_,aC,rfl⟩
 refine ah (g4 (ah (r8 wL (ah (r8 wL ?_)))));show aD _ _ (Builtin.Dict_items.pairFromOwner (.ref it) 6 es[i].key es[i].val) _ _ ⟨h₁,g,gI,tk,os⟩;unfold Builtin.Dict_items.pairFromOwner;refine ah (xx ?_);have aF:qH (h₁.push {cls:=.type "tuple",data:=.seq #[es[i].key,es[i].val]}) it d (i+1) es.size ep ok dG:=cc _ aC;have cW:h₁.objs.size=ax.objs.size:=s1.1;have nA:it<ax.objs.size:=cm J
 have t2:(h₁.push {cls:=.type "tuple",data:=.seq #[es[i].key,es[i].val]}).get? ax.objs.size=some {cls:=.type "tuple",data:=.seq #[es[i].key,es[i].val]}:=by rw[<- cW];exact dK _ rfl
 have dA:∀ b o,b≠it->ax.get? b=some o->(h₁.push {cls:=.type "tuple",data:=.seq #[es[i].key,es[i].val]}).get? b=some o:=λ b o af e=>cc _ (s1.extBut b o af e);rw[cW];generalize h₁.push {cls:=.type "tuple",data:=.seq #[es[i].key,es[i].val]}=kC at aF t2 dA ⊢;show aD _ _ (Builtin.Dict_items.ownedTupleIsFree (.ref it) >>= _) _ _ ⟨kC,g,gI,tk,os⟩;refine ah ?_;unfold Builtin.Dict_items.ownedTupleIsFree;refine ah (fM aF rfl (x:=.none) rfl (aM ?_));simp only[if_true];refine ah (fM aF rfl (x:=ok) rfl (ah (fM aF rfl (x:=dG) rfl (ah (kX aF (by simp) λ jq c6 s3=>?_)))))
 replace s3:Heap.SameBut it kC jq:=s3
 replace c6:qH jq it d (i+1) es.size ep es[i].key dG:=c6
 refine ah (kX c6 (by simp) λ Dx g_ s4=>?_)
 replace s4:Heap.SameBut it jq Dx:=s4
 replace g_:qH Dx it d (i+1) es.size ep es[i].key es[i].val:=g_
 refine ah (kX g_ (by simp) λ Dy l0 s5=>?_)
 replace s5:Heap.SameBut it Dx Dy:=s5
 replace l0:IsItemIterOut Dy it d (i+1) es.size ep es[i].key es[i].val ax.objs.size:=l0
 refine ah (kX l0 (by simp) λ Dz Y5 hM=>?_)
 replace hM:Heap.SameBut it Dy Dz:=hM
 have c0:∀ b o,b≠it->kC.get? b=some o->Dz.get? b=some o:=λ b o af e=>hM.extBut b o af (s5.extBut b o af (s4.extBut b o af (s3.extBut b o af e)));exact ah (r_ (aM (aM ⟨_,rfl,aM (h Dz Y5 (c0 _ _ (fU nA) t2) λ b o af e=>c0 b o af (dA b o af e))⟩)))
theorem Y6{ok dG:Value}{Q:Option Value->ay->Prop}(cY:A.handled=none)(J:qH s.heap it d i es.size ep ok dG)(R:fo s.heap d es ep)(aA:es.size<=i)(h:∀ h',Heap.ExtBut it s.heap h'->Q none {s with heap:=h'}):aD (aK prog w) A (ef (.ref it)) Q E s:=by
 obtain⟨c5,iR,eN,io⟩:=id R
 have bp:s.TypeIs (.ref it) "dict_itemiterator":=⟨_,J,rfl⟩
 unfold ef;refine ah (iT (wpAny_callSpecial?_slot (name:=Str.ofString "__next__") bp PySem.F.slot_dict_itemiterator_next (f3 PySem.F.slot_dict_itemiterator_next bp PySem.F.entry_dict_itemiterator_next ?_ (PySem.F.args_dict_itemiterator_next_1 _))));refine ah (aM (ah (ah ?_)));refine ah (oO bp (aM (ah (mz J rfl ?_))));simp only[show Builtin.Dict_items.ownsTuple "dict_itemiterator"=true by decide,if_true];refine(show aD _ _ (if (Value.ref d==Value.none)=true then _ else _) _ _ s from ?_);rw[if_neg (show ¬ (Value.ref d==Value.none)=true from f7)];refine ah (aM (ah (nJ iR io ?_)));rw[if_neg (by simp)];refine ah (aM (ah (oP iR io ?_)));rw[if_neg (by simp)];refine aM ?_;simp only[show ¬ (i:Int)<0 by omega,if_false,gx,sr aA];refine ah (ah (oO bp (aM ?_)));refine(show aD _ _ (mA (.ref it) 2 .none >>= _) _ _ s from ah (jf J rfl (by simp) ?_));refine(show aD _ _ (qM (.type "StopIteration") [] >>= _) _ _ _ from ah ?_);simp only[qM,newTuple];refine ah (gL (ah (m:=oQ _ _) (qE (a:=Value.none) (by first|rfl|(simp only[oQ];rfl)) (gL ?_ (by size_fits)))) (by size_fits));simp only[raiseNew];refine ah (xA ?_);rw[show A.in1.handled=none from cY];refine ah (aM (xF ?_));refine ah (kf (T:="StopIteration") (b:=true) ⟨_,dK _ rfl,rfl⟩ qC ?_);exact aM (h _ (((Heap.SameBut.update ..).extBut.push _).push _))
end
end L2
namespace L2
open PySem PySem.Spec PySem.W PySem.Calls PyProof.Rows
section
variable{prog:bZ}{w:bM}{A:cK}{E:Value->ay->Prop}{s:ay}{d it:Addr}{es:Array DictEntry}{ep i:Nat}
theorem fo.to{h h':bx}(x:fo h d es ep)(k:∀ o,h.get? d=some o->h'.get? d=some o):fo h' d es ep:=let ⟨o,ag,ai⟩:=x;⟨o,k o ag,ai⟩
theorem Y7{a:Addr}{f:Bool}{rQ:Obj}{x:DictEntry}{ok dG:Value}{Q:Option Value->ay->Prop}(J:o1 s.heap it d i es.size ep ok dG a f)(aB:s.heap.get? a=some rQ)(wM:a≠it)(R:fo s.heap d es ep)(aA:es[i]?=some x)
 (db:∀ h',o1 h' it d (i+1) es.size ep ok dG a true->h'.get? s.heap.objs.size=some {cls:=.type "tuple",data:=.seq #[x.key,x.val]}->(∀ b o,b≠it->s.heap.get? b=some o->h'.get? b=some o)->Q (some (.ref s.heap.objs.size)) {s with heap:=h'}) :
 aD (aK prog w) A (ef (.ref it)) Q E s:=by
 obtain⟨ax,g,gI,tk,os⟩:=s;obtain⟨c5,iR,eN,io⟩:=id R;have eO:i<es.size:=(nW.mp aA).1;obtain rfl:es[i]=x:=(nW.mp aA).2
 have bp:Shared.TypeIs ⟨ax,g,gI,tk,os⟩ (.ref it) "dict_itemiterator":=⟨_,J,rfl⟩
 unfold ef;refine ah (iT (wpAny_callSpecial?_slot (name:=Str.ofString "__next__") bp PySem.F.slot_dict_itemiterator_next (f3 PySem.F.slot_dict_itemiterator_next bp PySem.F.entry_dict_itemiterator_next ?_ (PySem.F.args_dict_itemiterator_next_1 _))));refine ah (aM (ah (ah ?_)));refine ah (oO bp (aM (ah (mz J rfl ?_))));simp only[show Builtin.Dict_items.ownsTuple "dict_itemiterator"=true by decide,if_true];refine(show aD _ _ (if (Value.ref d==Value.none)=true then _ else _) _ _ _ from ?_);rw[if_neg (show ¬ (Value.ref d==Value.none)=true from f7)];refine ah (aM (ah (nJ iR io ?_)));rw[if_neg (by simp)];refine ah (aM (ah (oP iR io ?_)));rw[if_neg (by simp)];refine aM ?_;simp only[show ¬ (i:Int)<0 by omega,if_false,gx,hI eO];refine ah (ah (oO bp (aM (ah (r8 bp ?_)))));refine(show aD _ _ (mA (.ref it) 3 (dB ((i:Int)+1)) >>= _) _ _ ⟨ax,g,gI,tk,os⟩ from ah (kX J (by simp) λ h₁ aC s1=>?_))
 replace s1:Heap.SameBut it ax h₁:=s1
 replace aC:o1 h₁ it d (i+1) es.size ep ok dG a f:=by
  unfold o1;rw[show ((i+1:Nat):Int)=(i:Int)+1 by omega];simpa[dB] using aC
 have wL:Shared.TypeIs ⟨h₁,g,gI,tk,os⟩ (.ref it) "dict_itemiterator":=⟨_,aC,rfl⟩
 refine ah (g4 (ah (r8 wL (ah (r8 wL ?_)))));show aD _ _ (Builtin.Dict_items.pairFromOwner (.ref it) 6 es[i].key es[i].val) _ _ ⟨h₁,g,gI,tk,os⟩;unfold Builtin.Dict_items.pairFromOwner;refine ah (xx ?_);have aF:o1 (h₁.push {cls:=.type "tuple",data:=.seq #[es[i].key,es[i].val]}) it d (i+1) es.size ep ok dG a f:=cc _ aC;have cW:h₁.objs.size=ax.objs.size:=s1.1;have nA:it<ax.objs.size:=cm J
 have t2:(h₁.push {cls:=.type "tuple",data:=.seq #[es[i].key,es[i].val]}).get? ax.objs.size=some {cls:=.type "tuple",data:=.seq #[es[i].key,es[i].val]}:=by rw[<- cW];exact dK _ rfl
 have dA:∀ b o,b≠it->ax.get? b=some o->(h₁.push {cls:=.type "tuple",data:=.seq #[es[i].key,es[i].val]}).get? b=some o:=λ b o af e=>cc _ (s1.extBut b o af e);rw[cW];generalize h₁.push {cls:=.type "tuple",data:=.seq #[es[i].key,es[i].val]}=kC at aF t2 dA ⊢;have a2:kC.get? a=some rQ:=dA a rQ wM aB;show aD _ _ (Builtin.Dict_items.ownedTupleIsFree (.ref it) >>= _) _ _ ⟨kC,g,gI,tk,os⟩;refine ah ?_;unfold Builtin.Dict_items.ownedTupleIsFree;refine ah (fM aF rfl (x:=dB a) rfl ?_);show aD _ _ (loadIfAlive ((a:Int).toNat) >>= _) _ _ _;rw[gx];refine ah (kdx_alive a2 ?_);simp only[Option.isNone_some,mM,if_false];refine ah (fM aF rfl (x:=.bool f) rfl ?_)
 have fin:∀ jq:bx,o1 jq it d (i+1) es.size ep ok dG a true->Heap.SameBut it kC jq->Q (some (.ref ax.objs.size)) ⟨jq,g,gI,tk,os⟩:=λ jq wN tK=>
  db jq wN (tK.extBut _ _ (fU nA) t2) λ b o af e=>tK.extBut b o af (dA b o af e)
 cases f with
 | true=>
  rw[if_neg (show ¬ ((Value.bool true !=Value.bool true)=true) from f7)];refine aM ?_;simp only[mM,if_false];exact aM (aM ⟨_,rfl,aM (fin kC aF (Heap.SameBut.refl _ _))⟩)
 | false=>
  rw[if_pos (show (Value.bool false !=Value.bool true)=true from rfl)];refine ah (kX aF (by simp) λ jq wN tK=>?_)
  replace tK:Heap.SameBut it kC jq:=tK
  replace wN:o1 jq it d (i+1) es.size ep ok dG a true:=wN
  refine aM ?_;simp only[mM,if_false];exact aM (aM ⟨_,rfl,aM (fin jq wN tK)⟩)
theorem Y8{a:Addr}{f:Bool}{ok dG:Value}{Q:Option Value->ay->Prop}(cY:A.handled=none)(J:o1 s.heap it d i es.size ep ok dG a f)(R:fo s.heap d es ep)(aA:es.size<=i)(h:∀ h',Heap.ExtBut it s.heap h'->Q none {s with heap:=h'}):aD (aK prog w) A (ef (.ref it)) Q E s:=by
 obtain⟨c5,iR,eN,io⟩:=id R
 have bp:s.TypeIs (.ref it) "dict_itemiterator":=⟨_,J,rfl⟩
 unfold ef;refine ah (iT (wpAny_callSpecial?_slot (name:=Str.ofString "__next__") bp PySem.F.slot_dict_itemiterator_next (f3 PySem.F.slot_dict_itemiterator_next bp PySem.F.entry_dict_itemiterator_next ?_ (PySem.F.args_dict_itemiterator_next_1 _))));refine ah (aM (ah (ah ?_)));refine ah (oO bp (aM (ah (mz J rfl ?_))));simp only[show Builtin.Dict_items.ownsTuple "dict_itemiterator"=true by decide,if_true];refine(show aD _ _ (if (Value.ref d==Value.none)=true then _ else _) _ _ s from ?_);rw[if_neg (show ¬ (Value.ref d==Value.none)=true from f7)];refine ah (aM (ah (nJ iR io ?_)));rw[if_neg (by simp)];refine ah (aM (ah (oP iR io ?_)));rw[if_neg (by simp)];refine aM ?_;simp only[show ¬ (i:Int)<0 by omega,if_false,gx,sr aA];refine ah (ah (oO bp (aM ?_)));refine(show aD _ _ (mA (.ref it) 2 .none >>= _) _ _ s from ah (jf J rfl (by simp) ?_));refine(show aD _ _ (qM (.type "StopIteration") [] >>= _) _ _ _ from ah ?_);simp only[qM,newTuple];refine ah (gL (ah (m:=oQ _ _) (qE (a:=Value.none) (by first|rfl|(simp only[oQ];rfl)) (gL ?_ (by size_fits)))) (by size_fits));simp only[raiseNew];refine ah (xA ?_);rw[show A.in1.handled=none from cY];refine ah (aM (xF ?_));refine ah (kf (T:="StopIteration") (b:=true) ⟨_,dK _ rfl,rfl⟩ qC ?_);exact aM (h _ (((Heap.SameBut.update ..).extBut.push _).push _))
theorem Y9{S:Addr}{x:DictEntry}{Q:Option Value->ay->Prop}(st:KdxSt s.heap it d S i es.size ep)(c3:S<s.heap.objs.size)(R:fo s.heap d es ep)(aA:es[i]?=some x)
 (db:∀ h',KdxSt h' it d S (i+1) es.size ep->h'.get? s.heap.objs.size=some {cls:=.type "tuple",data:=.seq #[x.key,x.val]}->(∀ b o,b≠it->s.heap.get? b=some o->h'.get? b=some o)->Q (some (.ref s.heap.objs.size)) {s with heap:=h'}):aD (aK prog w) A (ef (.ref it)) Q E s:=by
 rcases st with⟨rfl,ok,dG,J⟩|⟨ok,dG,a,f,rQ,J,aB,wM,Y_⟩
 ·exact Y4 J R aA λ h' jV bN b8=>db h' (.inr ⟨x.key,x.val,_,false,_,jV,bN,fU (cm J),fU c3⟩) bN b8
 ·exact Y7 J aB wM R aA λ h' jV bN b8=>db h' (.inr ⟨ok,dG,a,true,rQ,jV,b8 a rQ wM aB,wM,Y_⟩) bN b8
theorem Za{S:Addr}{Q:Option Value->ay->Prop}(cY:A.handled=none)(st:KdxSt s.heap it d S i es.size ep)(R:fo s.heap d es ep)(aA:es.size<=i)(db:∀ h',Heap.ExtBut it s.heap h'->Q none {s with heap:=h'}):aD (aK prog w) A (ef (.ref it)) Q E s:=by
 rcases st with⟨rfl,ok,dG,J⟩|⟨ok,dG,a,f,rQ,J,_,_,_⟩
 ·exact Y6 cY J R aA db
 ·exact Y8 cY J R aA db
structure nB(es:Array DictEntry)(lo:Addr)(h:bx)(as:List Addr):Prop where
 rise:as.Pairwise (·<·)
 above:∀ a∈as,lo<a
 pairs:∀(j:Nat)(a:Addr),as[j]?=some a->∃ x:DictEntry,es[j]?=some x/\h.get? a=some {cls:=.type "tuple",data:=.seq #[x.key,x.val]}
theorem nB.there{lo:Addr}{h:bx}{as:List Addr}(g:nB es lo h as){a:Addr}(aB:a∈as):a<h.objs.size:=by
 obtain⟨j,bW⟩:=qP.mp aB;obtain⟨_,_,e⟩:=g.pairs j a bW;exact cm e
theorem nB.low{lo LU:Addr}{h:bx}{as:List Addr}(g:nB es lo h as)(aH:LU<=lo):nB es LU h as:=⟨g.rise,λ a aB=>Nat.lt_of_le_of_lt aH (g.above a aB),g.pairs⟩
end
section
variable{prog:bZ}{w:bM}{A:cK}{s:ay}{es:Array DictEntry}{ep:Nat}
theorem Zb{R:qL->ay->Prop}{S I d:Addr}(cY:A.handled=none)(wO:S<I)(z4:d≠S)(Zc:d≠I)(bc:es.size<=sizeLine)(res:Value){h₁:bx}
 (ed:∀ h' tk acc c as,(∀ b o,b≠S->b≠I->h₁.get? b=some o->h'.get? b=some o)->h'.get? S=some {cls:=.type "list",dict:=none,data:=.seq acc c,slots:=#[]}->as.length=es.size->nB es I h' as->acc.toList=as.map Value.ref->R (.ok (.ret res)) {s with heap:=h',toks:=tk}) :
 ∀(k i:Nat)(h:bx)(tk c:Nat)(acc:Array Value)(as:List Addr),es.size - i=k->i<=es.size->KdxSt h I d S i es.size ep->fo h d es ep->(∀ b o,b≠S->b≠I->h₁.get? b=some o->h.get? b=some o) →
  h.get? S=some {cls:=.type "list",dict:=none,data:=.seq acc c,slots:=#[]}->acc.toList=as.map Value.ref->as.length=i->nB es I h as->I<h.objs.size->iV (aK prog w) A (.builtin "list.extend.loop" ⟨[.ref S,.ref I,res],[]⟩) R {s with heap:=h,toks:=tk}:=by
 have cE:S≠I:=du wO;intro k
 induction k with
 | zero=>
  intro i h tk c acc as aI ar ia g8 DA c3 eK z5 e8 DB;refine my PySem.F.entry_extend_loop ?_;rw[Around.under_plainId PySem.F.plain_extend_loop _];refine(show aD _ A.in1 (ef (.ref I) >>= _) _ _ _ from ah (Za (s:={s with heap:=h,toks:=tk}) (A:=A.in1) cY ia g8 (by omega) λ h' he=>?_));refine aM (ed h' tk acc c as (λ b o ag ai e=>he b o ai (DA b o ag ai e)) (he S _ cE c3) (by omega) ⟨e8.rise,e8.above,λ j a bW=>?_⟩ eK);obtain⟨x,aC,c6⟩:=e8.pairs j a bW;exact⟨x,aC,he a _ (fU (e8.above a (gj bW))) c6⟩
 | succ k bG=>
  intro i h tk c acc as aI ar ia g8 DA c3 eK z5 e8 DB
  have eO:i<es.size:=by omega
  have aA:es[i]?=some es[i]:=hI eO
  have hsz:acc.size=i:=by rw[<- fu,eK,bL,z5]
  refine my PySem.F.entry_extend_loop ?_;rw[Around.under_plainId PySem.F.plain_extend_loop _];refine(show aD _ A.in1 (ef (.ref I) >>= _) _ _ _ from ah (Y9 (s:={s with heap:=h,toks:=tk}) (S:=S) ia (cm c3) g8 aA λ h' Zd bN wP=>?_))
  dsimp only at bN wP ⊢
  have gW:=wP S _ cE c3;have up:∀ b o,b≠S->h'.get? b=some o->(h'.update S (Obj.mapSeq (·.push (Value.ref h.objs.size)))).get? b=some o:=λ b o af e=>(kl _ _ (Ne.symm af)).trans e;have LV:S<h.objs.size:=cm c3;refine(show aD _ A.in1 (nO S (·.push (Value.ref h.objs.size)) >>= _) _ _ _ from ah ?_)
  refine mx gW rfl (aM ⟨lB PySem.F.plain_extend_loop _,bG (i+1) _ tk _ (acc.push (Value.ref h.objs.size)) (as++[h.objs.size]) (by omega) eO (Zd.keep up (Ne.symm cE)) (g8.to λ o e=>up d o z4 (wP d o Zc e))
   (λ b o ag ai e=>up b o ag (wP b o ai (DA b o ag ai e))) (hl _ gW rfl) (by rw[Array.toList_push,eK,fN];rfl) (by rw[dJ,z5];rfl) ⟨?_,?_,?_⟩ ?_⟩) (by rw[hsz];omega) (by show (acc.push (Value.ref h.objs.size)).size<=sizeLine+1;rw[Array.size_push,hsz];omega)
  ·refine List.pairwise_append.mpr ⟨e8.rise,List.pairwise_singleton _ _,λ a aB b af=>?_⟩;rw[ft.mp af];exact e8.there aB
  ·intro a aB;rcases hF.mp aB with aB|aB
   ·exact e8.above a aB
   ·rw[ft.mp aB];exact DB
  ·intro j b bW;rcases Nat.lt_trichotomy j as.length with ag|ag|ag
   ·rw[ki ag]at bW;obtain⟨x,aC,c6⟩:=e8.pairs j b bW;have af:=e8.above b (gj bW);exact⟨x,aC,up b _ (fU (nV wO af)) (wP b _ (fU af) c6)⟩
   ·subst ag
    have af:h.objs.size=b:=by simpa using bW
    subst af;exact⟨_,by rw[z5];exact aA,up _ _ (fU LV) bN⟩
   ·have Ze:(as++[h.objs.size])[j]?=none:=kj (by rw[dJ,o7];omega);rw[Ze]at bW;cases bW
  ·have e:(h'.update S (Obj.mapSeq (·.push (Value.ref h.objs.size)))).get? h.objs.size=_:=up _ _ (fU LV) bN;exact nV DB (cm e)
theorem Zf{R:qL->ay->Prop}{r d:Addr}(cY:A.handled=none)(bu:s.heap.IsItemsView r d)(hm:fo s.heap d es ep)(S:Addr)(Zg:S≠r)(z4:d≠S)(res:Value)(c₀:Nat)(c3:s.heap.get? S=some {cls:=.type "list",data:=.seq #[] c₀})
 (ed:∀ h' tk acc c as,(∀ b o,b≠S->s.heap.get? b=some o->h'.get? b=some o)->h'.get? S=some {cls:=.type "list",dict:=none,data:=.seq acc c,slots:=#[]}->as.length=es.size->nB es s.heap.objs.size h' as->acc.toList=as.map Value.ref->R (.ok (.ret res)) {s with heap:=h',toks:=tk}) (bc:es.size<=sizeLine) :
 aD (aK prog w) A.in1 (Builtin.List.listExtendWith (.ref S) (.ref r) res)
  (λ fin s'=>match fin with|.done f=>R (.ok f) s'|.again cu=>cu.quiet=true/\iV (aK prog w) A cu R s') (λ e s'=>R (.error e) s') s:=by
 have wO:S<s.heap.objs.size:=cm c3;have Zh:d<s.heap.objs.size:=hm.lt
 have key:∀(h:bx)(c₁ tk:Nat),(∀ b o,b≠S->(s.heap.push {cls:=.type "dict_itemiterator",data:=.fields #[.none,.bool false,.ref d,.int 0 0,.int es.size 0,.int ep 0,.none,.none]}).get? b=some o->h.get? b=some o) →
  h.get? S=some {cls:=.type "list",data:=.seq #[] c₁}->iV (aK prog w) A (.builtin "list.extend.loop" ⟨[.ref S,.ref s.heap.objs.size,res],[]⟩) R {s with heap:=h,toks:=tk}:=by
  intro h c₁ tk aI wQ;have k_:=aI s.heap.objs.size _ (fU wO) (dK _ rfl)
  refine Zb (s:=s) (h₁:=s.heap) cY wO z4 (du Zh) bc res (λ h' IU acc c as Zi gW aH e8 eK=>ed h' IU acc c as (λ b o af e=>Zi b o af (du (cm e)) e) gW aH e8 eK)
   es.size 0 h tk c₁ #[] [] (uC _) (fV _) (.inl ⟨rfl,.none,.none,k_⟩) (hm.to λ o e=>aI d o z4 (cc _ e)) (λ b o af _ e=>aI b o af (cc _ e)) wQ rfl rfl
   ⟨List.Pairwise.nil,(λ _ aB=>nomatch aB),(λ j a bW=>by simp at bW)⟩ (cm k_)
 unfold Builtin.List.listExtendWith;refine ah (nN (T:="dict_items") bu.typeIs ?_)
 have ag:Builtin.List.listSameRef (.ref S) (.ref r)=false:=by simp[Builtin.List.listSameRef,Zg]
 have ai:(Value.type "dict_items"==Value.type "list")=false:=by decide
 have aT:(Value.type "dict_items"==Value.type "tuple")=false:=by decide
 simp only[ag,ai,aT,pd,mM,if_false];refine ah (Y1 bu hm ?_);have wQ:=cc {cls:=.type "dict_itemiterator",data:=.fields #[.none,.bool false,.ref d,.int 0 0,.int es.size 0,.int ep 0,.none,.none]} c3;refine ah (g4 (kdx_hint (let ⟨o,aO,aE,_⟩:=bu;⟨o,cc _ aO,aE⟩) ?_));refine AL (λ _=>?_) (λ _=>aM ⟨lB PySem.F.plain_extend_loop _,key _ c₀ _ (λ b o _ e=>e) wQ⟩);refine ah (h5 ?_);refine ah ?_;refine(show aD _ _ (nO S (·.push .none) >>= λ _=>nO S (·.pop)) _ _ _ from ah (mx wQ rfl ?_));have wR:=hl (Obj.mapSeq (·.push Value.none)) wQ rfl;refine mx (hz:=by seq_fits) wR rfl ?_;have Zj:=hl (Obj.mapSeq (·.pop)) wR rfl;refine aM ⟨lB PySem.F.plain_extend_loop _,key _ _ _ (λ b o af e=>?_) Zj⟩;exact(kl _ _ (Ne.symm af)).trans ((kl _ _ (Ne.symm af)).trans e)
theorem Zk{E:Value->ay->Prop}{Q:Value->ay->Prop}{r d:Addr}(cY:A.handled=none)(bu:s.heap.IsItemsView r d)(hm:fo s.heap d es ep)(bc:es.size<=sizeLine)
 (db:∀ h' tk acc c as,(∀ b o,s.heap.get? b=some o->h'.get? b=some o)->h'.get? s.heap.objs.size=some {cls:=.type "list",dict:=none,data:=.seq acc c,slots:=#[]}->as.length=es.size->nB es s.heap.objs.size h' as->acc.toList=as.map Value.ref->Q (.ref s.heap.objs.size) {s with heap:=h',toks:=tk}) :
 aD (aK prog w) A (call (.type "list") [.ref r]) Q E s:=by
 refine callType_codes (Q₁:=λ obj dx=>obj=.ref s.heap.objs.size/\dx={s with heap:=s.heap.push {cls:=.type "list",data:=.seq #[]}}) PySem.F.called_list (PySem.F.typeCall_list_1 _) PySem.F.entry_list_init
  (code_list_new _ ⟨rfl,rfl⟩) λ obj dx h₁=>?_
 obtain⟨rfl,rfl⟩:=h₁;have c3:(s.heap.push {cls:=.type "list",data:=.seq #[]}).get? s.heap.objs.size=some {cls:=.type "list",data:=.seq #[]}:=dK _ rfl
 have aq:r<s.heap.objs.size:=let ⟨_,aO,_⟩:=bu;cm aO
 have hd:d<s.heap.objs.size:=hm.lt
 have wS:(s.heap.push {cls:=.type "list",data:=.seq #[]}).IsItemsView r d:=let ⟨o,aO,x⟩:=bu;⟨o,cc _ aO,x⟩
 have pB:fo (s.heap.push {cls:=.type "list",data:=.seq #[]}) d es ep:=hm.to λ o e=>cc _ e
 have fin:∀ h' tk acc c as,(∀ b o,b≠s.heap.objs.size->(s.heap.push {cls:=.type "list",data:=.seq #[]}).get? b=some o->h'.get? b=some o)->h'.get? s.heap.objs.size=some {cls:=.type "list",dict:=none,data:=.seq acc c,slots:=#[]}->as.length=es.size->nB es s.heap.objs.size h' as->acc.toList=as.map Value.ref->Q (.ref s.heap.objs.size) {s with heap:=h',toks:=tk}:=λ h' tk acc c as aI gW aH e8 eK=>
  db h' tk acc c as (λ b o e=>aI b o (du (cm e)) (cc _ e)) gW aH e8 eK
 generalize s.heap.push {cls:=.type "list",data:=.seq #[]}=ax at c3 wS pB fin ⊢;refine⟨⟨_,c3,rfl⟩,PySem.F.args_list_init_2 _ _,?_⟩;refine(show aD _ _ (do let old ← Builtin.List.listItems (.ref s.heap.objs.size);Builtin.List.listUpdate (.ref s.heap.objs.size) (λ _=>#[]);letGo old.toList.reverse;Builtin.List.listExtendWith (.ref s.heap.objs.size) (.ref r) .none) _ _ _ from ah ?_);unfold Builtin.List.listItems;refine ah (nL c3 rfl (aM ?_));refine(show aD _ _ (nO s.heap.objs.size (λ _=>#[]) >>= λ _=>letGo (#[]:Array Value).toList.reverse >>= λ _=>Builtin.List.listExtendWith (.ref s.heap.objs.size) (.ref r) .none) _ _ _ from ah (mx c3 rfl ?_));have wR:=hl (Obj.mapSeq (λ _=>(#[]:Array Value))) c3 rfl;have DC:∀ b o,b≠s.heap.objs.size->ax.get? b=some o->(ax.update s.heap.objs.size (Obj.mapSeq (λ _=>(#[]:Array Value)))).get? b=some o:=λ b o af e=>(kl _ _ (Ne.symm af)).trans e;refine ah (r_ ?_);refine Zf (s:={s with heap:=ax.update s.heap.objs.size (Obj.mapSeq (λ _=>(#[]:Array Value)))}) (A:=A.in1) (es:=es) (ep:=ep) cY (let ⟨o,aO,x⟩:=wS;⟨o,DC r o (du aq) aO,x⟩) (pB.to λ o e=>DC d o (du hd) e) _ (fU aq) (du hd) .none _ wR (λ h' tk acc c as aI gW aH e8 eK=>?_) bc;exact⟨rfl,fin h' tk acc c as (λ b o af e=>aI b o af (DC b o af e)) gW aH (e8.low (pa (cm wR))) eK⟩
end
end L2
namespace L3
open PySem PyProof L2
section
variable{K:a8}{H:au}{G:aY}
noncomputable def hD(ks:List Key):D:=.tup (ks.map rM)
theorem Zl{ks:List Key}:∀{ae:List V},bR K H (ks.map rM) ae->ae=ks.map dd:=by
 induction ks with
 |nil=>intro ae h;exact h
 | cons k ks bG=>
  rintro ae ⟨v,r,e,q,l⟩;subst e;rw[bG l,zV q];rfl
noncomputable def d2(kvs:List (List Key×D))(k:List Key):Option D:=(kvs.find? λ bq=>decide (bq.1=k)).map (·.2)
noncomputable def fJ(kvs:List (List Key×D))(k:List Key)(v:D):List (List Key×D):=
 if (kvs.any λ bq=>decide (bq.1=k))=true then kvs.map (λ bq=>if bq.1=k then (bq.1,v) else bq) else kvs++[(k,v)]
theorem cT.d2{k:List Key}:∀{fs:List (List Key×D)}{gs:List (List Key×V)},cT K H fs gs->(∀ d,L3.d2 fs k=some d->∃ v,ib gs k=some v/\cQ K H d v)/\(L3.d2 fs k=su->ib gs k=su)
 |[],gs,h=>by rw[h.nil_inv];exact⟨λ d e=>(by cases e),λ _=>rfl⟩
 | (x,y)::r,gs,h=>by
  obtain⟨v,s,rfl,a,t⟩:=h.cons_inv;obtain⟨dM,dV⟩:=cT.d2 (k:=k) t;by_cases c:x=k
  ·refine⟨λ d e=>⟨v,ve c,?_⟩,λ e=>?_⟩
   ·simp[L3.d2,jH,c]at e;subst e;exact a
   ·simp[L3.d2,jH,c]at e
  ·rw[vf (p:=(x,v)) c];refine⟨λ d e=>dM d ?_,λ e=>dV ?_⟩
   ·simpa[L3.d2,jH,c] using e
   ·simpa[L3.d2,jH,c] using e
theorem cT.LW{k:List Key}:∀{fs:List (List Key×D)}{gs:List (List Key×V)},cT K H fs gs->(fs.any λ bq=>decide (bq.1=k))=gs.any λ bq=>decide (bq.1=k)
 |[],gs,h=>by rw[h.nil_inv];rfl
 | (x,y)::r,gs,h=>by
  obtain⟨v,s,rfl,a,t⟩:=h.cons_inv;rw[jG,jG,cT.LW t]
theorem cT.DD{k:List Key}{d:D}{u:V}(hd:cQ K H d u):∀{fs:List (List Key×D)}{gs:List (List Key×V)},cT K H fs gs->cT K H (fs.map λ bq=>if bq.1=k then (bq.1,d) else bq) (gs.map λ bq=>if bq.1=k then (bq.1,u) else bq)
 |[],gs,h=>by rw[h.nil_inv];exact⟨rfl,rfl⟩
 | (x,y)::r,gs,h=>by
  obtain⟨v,s,rfl,a,t⟩:=h.cons_inv;rw[cV,cV];by_cases c:x=k
  ·rw[if_pos c,if_pos c];exact cT.p9 hd (cT.DD hd t)
  ·rw[if_neg c,if_neg c];exact cT.p9 a (cT.DD hd t)
theorem cT.fJ{k:List Key}{d:D}{u:V}(hd:cQ K H d u){fs:List (List Key×D)}{gs:List (List Key×V)}(h:cT K H fs gs):cT K H (L3.fJ fs k d) (fY gs k u):=by
 unfold L3.fJ fY;rw[h.LW];split
 ·exact h.DD hd
 ·exact h.append (cT.p9 hd ⟨rfl,rfl⟩)
theorem tL(kvs:List (List Key×D))(k:List Key)(v:D):(fJ kvs k v).length<=kvs.length+1:=by
 unfold fJ;split<;>simp
@[irreducible] noncomputable def rR(G:aY)(a:Addr)(k:List (List Key×D)->Prop):Prop:=match G a with
 |some (.bz kvs)=>k kvs
 |some (.hv _ _ kvs)=>k kvs
 |_=>False
theorem gZ{a:Addr}{k:List (List Key×D)->Prop}{kvs:List (List Key×D)}(h:G a=some (.bz kvs)\/∃ o gs,G a=some (.hv o gs kvs))(q:k kvs):rR G a k:=by unfold rR;rcases h with h|⟨o,gs,h⟩<;>(rw[h];exact q)
theorem DE{a:Addr}{k:List (List Key×D)->Prop}(v:d1 K G H)(h:rR G a k):∃ kvs gs,k kvs/\iz H a (.bz gs)/\cT K H kvs gs:=by
 unfold rR at h;split at h
 ·next kvs e=>obtain⟨gs,z,r⟩:=v _ _ e;exact⟨kvs,gs,h,.inl z,r⟩
 ·next o gs kvs e=>obtain⟨z,r⟩:=v _ _ e;exact⟨kvs,gs,h,.inr ⟨o,z⟩,r⟩
 ·exact h.elim
theorem tM{p:Addr}{gs:List (List Key×V)}{o:fv}(h:H p=some (.bz gs)):iH K H (upd H p o):=y4 (λ ys=>by rintro(e|⟨o,e⟩)<;>rw[h]at e<;>cases e) λ _ _ e=>by rw[h]at e;cases e
theorem Go.LX(v:d1 K G H){p:Addr}{kvs:List (List Key×D)}{gs:List (List Key×V)}(h:H p=none)(r:cT K H kvs gs):Go K G H (up G p (.bz kvs)) (upd H p (.bz gs)) where
 tup:=l6 h
 hT:=λ a u e=>⟨u,by rw[bS (gS e h)];exact e⟩
 same:=λ a u e _=>by rw[bS (gS e h)];exact e
 new:=λ a u e n=>by rw[bH (gS e h)];exact n
 bB:=λ a u e=>by
  by_cases c:a=p
  ·subst c;rw[bh]at e;cases e;exact⟨gs,eC,r.1,r.2.mono (l6 h)⟩
  ·rw[bH c]at e;exact(v a u e).mono (l6 h) (bS c)
theorem Go.DF(v:d1 K G H){p:Addr}{C5:List (List Key×D)}{mQ:eU}{cy:fv}(h:G p=some (.bz C5))(r:∀ ak,iH K H ak->ak p=some cy->lf K ak p mQ):Go K G H (up G p mQ) (upd H p cy):=by
 obtain⟨us,ax,_⟩:=v p _ h
 exact {
  tup:=tM ax
  hT:=λ a u e=>by
   by_cases c:a=p
   ·subst c;exact⟨_,eC⟩
   ·exact⟨u,by rw[bS c];exact e⟩
  same:=λ a u e n=>by
   have c:a≠p:=by rintro rfl;rw[h]at n;cases n
   rw[bS c];exact e
  new:=λ a u e n=>by
   have c:a≠p:=by rintro rfl;rw[h]at n;cases n
   rw[bH c];exact n
  bB:=λ a u e=>by
   by_cases c:a=p
   ·subst c;rw[bh]at e;cases e;exact r _ (tM ax) eC
   ·rw[bH c]at e
    exact(v a u e).mono (tM ax) (bS c)}
noncomputable def rS:List D->Option (List Key)
 |[]=>some []
 | d::ds=>match qa d,rS ds with
  |some k,some ks=>some (k::ks)
  |_,_=>none
noncomputable def nC:D->Option (List Key)
 |.tup ds=>rS ds
 |_=>none
theorem LY:∀{ds:List D}{ks:List Key},rS ds=some ks->ds=ks.map rM
 |[],ks,h=>by simp[rS]at h;subst h;rfl
 | d::ds,ks,h=>by
  rw[rS]at h;split at h
  ·next k agS aC aF=>cases h;rw[zW aC,LY aF];rfl
  ·cases h
theorem Zm{d:D}{ks:List Key}(h:nC d=some ks):d=hD ks:=by
 cases d<;>simp[nC]at h;rw[hD,LY h]
theorem LZ(ks:List Key):nC (hD ks)=some ks:=by
 show rS (ks.map rM)=some ks
 induction ks with
 |nil=>rfl
 |cons k ks bG=>rw[cV,rS,bG];cases k<;>rfl
theorem z6{d:D}{ks:List Key}{v:V}(iP:nC d=some ks)(a:cQ K H d v):∃ b,v=.ref b/\dk K H b (ks.map dd):=by
 rw[Zm iP]at a;obtain⟨b,ae,rfl,d7,r⟩:=a;exact⟨b,rfl,by rw[<- Zl r];exact d7⟩
end
end L3
namespace L3
open PySem PySem.Spec L2
section
variable{K:a8}{H:au}{G:aY}
@[irreducible] noncomputable def qi(G:aY)(a:Addr)(k:List (List Key×D)->Prop):Prop:=match G a with
 |some (.bz kvs)=>k kvs
 |_=>False
theorem mr{a:Addr}{k:List (List Key×D)->Prop}{kvs:List (List Key×D)}(h:G a=some (.bz kvs))(q:k kvs):qi G a k:=by unfold qi;rw[h];exact q
theorem z7{a:Addr}{k:List (List Key×D)->Prop}(v:d1 K G H)(h:qi G a k):∃ kvs gs,k kvs/\G a=some (.bz kvs)/\H a=some (.bz gs)/\cT K H kvs gs:=by
 unfold qi at h;split at h
 ·next kvs e=>obtain⟨gs,z,r⟩:=v _ _ e;exact⟨kvs,gs,h,e,z,r⟩
 ·exact h.elim
end
section
variable{X:a0}{o f:a5}{es:List a5}{apos dH By:Pos}{cD m4:bK}{bw:gE}{n:Nat}
noncomputable abbrev Zn:bK:=λ _ G Q=>∀ p,G p=none->Q (.ref p) (up G p (.bz []))
theorem wT{pos:Pos}:bJ X (.Dict [] [] pos) Zn:=⟨_,⟨RI⟩,λ ρ G az σ H Q B q F p ax=>F (.ref p) _ _ _ (Go.LX B.bB ax (kvs:=[]) (gs:=[]) ⟨rfl,rfl⟩) rfl (q p (B.bB.none ax))⟩
end
end L3
namespace L2
open PySem PySem.Spec PyProof.Rows
section
variable{X:a0}{pins:List (Addr×Obj)}{σ:St}{H:au}{s:ay}{a b:Addr}{v:V}{r:Value}{kvs:List (List Key×V)}{k:List Key}{A:cK}{E:Value->ay->Prop}
theorem Zo{Q:Unit->ay->Prop}(br:A.units<ea)(I:Inv X pins σ H s)(e:H a=some (.bz kvs))(dQ:H b=some (.tup (k.map dd)))(l:kvs.length<sizeLine)(a9:RelV v r)(h:∀ s',Inv X pins σ (upd H a (.bz (fY kvs k v))) s'->Q () s') :
 aD (aK X.prog X.w) A (dictSet a (.ref b) r) Q E s:=by
 obtain⟨z,hd,xs,rel,dy⟩:=yJ I.bt e
 have hz:xs.length<=sizeLine:=by rw[<- Paired.length rel];exact z
 have aH:(fY kvs k v).length<=sizeLine:=by have:=vg kvs k v;omega
 refine wpAny_dictSet_heap (knd:=qI (hJ X.prog X.w)) (hsz:=hz) br (lEq I.bt dQ) dy λ h' ob av=>h _ ?_;obtain⟨q,es,ep,aV,ai,aT,b6,_,dp⟩:=ob;refine vk I (by rw[e];exact True.intro) av ⟨q,aV⟩ ⟨aH,hd,_,(rel.put k dQ a9).keeps λ c ys kB=>?_,q,es,ep,aV,ai,aT,b6,dp⟩;rw[bS (AZ kB e (λ z=>nomatch z))];exact kB
end
noncomputable def z8(kvs:List (List Key×V))(more:List (List Key×Addr×V)):List (List Key×V):=more.foldl (λ acc ey=>fY acc ey.1 ey.2.2) kvs
noncomputable abbrev DG(fR:List (List Key×Addr×V)):List (V×V):=fR.map λ ey=>(.ref ey.2.1,ey.2.2)
theorem L0{X:a0}{pins:List (Addr×Obj)}{σ:St}{a:Addr}{A:cK}{E:Value->ay->Prop}{Q:PUnit->ay->Prop}(br:A.units<ea):∀(fR:List (List Key×Addr×V))(ae:List (Value×Value))(kvs:List (List Key×V))(H:au)(s:ay),Inv X pins σ H s->H a=some (.bz kvs)->Bz (DG fR) ae →
 (∀ ey∈fR,H ey.2.1=some (.tup (ey.1.map dd)))->kvs.length+fR.length<=sizeLine->(∀ s',Inv X pins σ (upd H a (.bz (z8 kvs fR))) s'->Q PUnit.unit s')->aD (aK X.prog X.w) A (storeAll a ae) Q E s
 | [],ae,kvs,H,s,I,e,r,_,_,h=>by
  cases r
  have rJ:upd H a (.bz kvs)=H:=by
   funext b;by_cases c:b=a
   ·subst c;rw[eC,e]
   ·rw[bS c]
  unfold storeAll;rw[xR];exact aM (h s (by show Inv X pins σ (upd H a (.bz kvs)) s;rw[rJ];exact I))
 | ey::fR,ae,kvs,H,s,I,e,r,aI,aH,h=>by
  cases r with
  | @cons p q ps a7 ag t=>
   obtain⟨aG,bv⟩:=q;obtain⟨bf,bD⟩:=ag;cases (show aG=Value.ref ey.2.1 from bf);rw[dt]at aH;unfold storeAll;rw[uu];refine ah (ah (Zo br I e (aI ey (dP ..)) (by omega) bD λ s' iX=>aM ?_));refine L0 br fR a7 _ _ s' iX eC t (λ Zp h'=>?_) ?_ λ s2 bY=>h s2 ?_
   ·have aF:=aI Zp (eE _ h');rw[bS (AZ aF e (λ z=>nomatch z))];exact aF
   ·have:=vg kvs ey.1 ey.2.2;show (fY kvs ey.1 ey.2.2).length+_<=_;omega
   ·rw[OJ]at bY;exact bY
noncomputable def Zq(jW:List (TE×TE)):TE:=λ σ H Q=>∀ p,H p=none->vl jW σ (upd H p (.bz [])) λ ps aQ=>aQ p=some (.bz [])/\∃ fR:List (List Key×Addr×V),ps=DG fR/\(∀ ey∈fR,aQ ey.2.1=some (.tup (ey.1.map dd)))/\fR.length<=15/\Q (.ref p) (upd aQ p (.bz (z8 [] fR)))
theorem Zr{X:a0}{pos:Pos}{keys:List (Option a5)}{values:List a5}{jW:List (TE×TE)}(br:X.A.units<ea)(h:sW X pos keys values jW)(eS:keys.all (·.isSome)=true)(aH:keys.length=values.length)(h0:keys≠[])
 (vn:keys.length<=15):bO X (.Dict keys values pos) (Zq jW):=by
 intro pins s σ H Q I q;have bc:=I.bt.fresh (ZB s.heap.objs.size);have aZ:=I.laid (a:=s.heap.objs.size) (o:=.bz []) (h':=s.heap.push {cls:=.type "dict",data:=.dict #[]}) (t':=s.toks) (λ _ _ q=>cc _ q) (ZB _) (Ix s.heap I.big);refine wpAny_Dict_any eS aH h0 vn (bU (h pins _ σ _ _ aZ (q _ bc)) λ ws s2 xz=>?_);obtain⟨ps,aQ,bY,rel,e,fR,ep,aI,lk,bv⟩:=xz;subst ep;have ck:=hk
 exact L0 br fR ws [] aQ s2 bY e rel aI (by rw[h7];omega) λ s' iX=>⟨.ref s.heap.objs.size,_,iX,rfl,bv⟩
section
variable{X:a0}{o:a5}{apos dH:Pos}{cD:TE}
theorem Zs{prog:bZ}{w:bM}{d:Addr}{es:Array DictEntry}{ep:Nat}(Zt:es.size<=sizeLine):MeetsIn prog w (Builtin.«dict.clear» ⟨[.ref d],[]⟩) (λ _ R s=>fo s.heap d es ep/\∀ h',fo h' d #[] (ep+1)->Heap.SameBut d s.heap h'->R (.ok (.ret .none)) {s with heap:=h'}):=
 .of_wp λ A R s ⟨hm,h⟩=>by
  obtain⟨o,aO,aE,oH⟩:=id hm;unfold Builtin.«dict.clear»;refine ah ?_;unfold Builtin.Dict.noArgs;refine ah (AG hm.typeIs ?_);refine(show aD _ _ (pure d) _ _ s from aM (ah (nJ aO oH (ah ?_))));unfold bearsInstanceDictMark;refine ah (sa aO (aM (ah (wpAny_updateDictKeys (hz:=Zt) aO oH ?_))))
  have L1:fo (s.heap.update d (Obj.mapDictKeys λ _=>#[])) d #[] (ep+1):=⟨_,hl _ aO (Obj.isFreed_of_dict (Obj.data_mapDictKeys oH _)),aE.mapDictKeys _,Obj.data_mapDictKeys oH _⟩
  split
  ·exact ah (r_ (aM ⟨.none,rfl,h _ L1 (Heap.SameBut.update ..)⟩))
  ·exact ah (aM (aM ⟨.none,rfl,h _ L1 (Heap.SameBut.update ..)⟩))
noncomputable def Zu(cD:TE):TE:=λ σ H Q=>cD σ H λ x H1=>∃ a kvs,x=.ref a/\H1 a=some (.bz kvs)/\Q .bE (upd H1 a (.bz []))
theorem Zv(aO:bO X o cD)(hP:lA o "clear" X.env (eval o X.env)=eval o X.env:=by rfl)(hQ:(apos.endLine==dH.line)=true:=by rfl):bO X (.Call (.Attribute o "clear" apos) [] [] dH) (Zu cD):=by
 intro pins s σ H Q I h;refine AF hP hQ (bU (aO pins s σ H _ I h) λ u s1 xz=>?_);obtain⟨x,H1,aZ,bl,a,kvs,ex,aV,q⟩:=xz;subst ex;obtain rfl:u=Value.ref a:=bl;obtain⟨z,_⟩:=yJ aZ.bt aV;obtain⟨hd,cw,es,ep,ag,ai,aT,b6,_⟩:=wJ aZ.bt (.inl aV)
 have R:fo s1.heap a es ep:=⟨cw,ag,ai,aT⟩
 refine⟨"dict","dict.clear",PySem.F.plainAttrs_dict,PySem.F.slot_dict_clear,PySem.F.type_dict_clear,R.typeIs,λ b q=>?_,Calls.callWith_builtin rfl (PySem.evalArgs_none (xC PySem.F.slot_dict_clear R.typeIs PySem.F.entry_dict_clear (PySem.F.args_dict_clear_1 _) (Zs (es:=es) (ep:=ep) (by omega)) ⟨R,λ h' z3 av=>?_⟩))⟩
 ·cases q;exact⟨cw,ag,ai.2.1⟩
 obtain⟨cy,g1,g2,g3⟩:=z3;exact⟨.bE,_,vk (t':=s1.toks) aZ (by rw[aV];exact True.intro) av ⟨cy,g1⟩ (show ez X.prog X.w _ h' a (.bz []) from⟨fV _,hd,[],.nil,cy,#[],_,g1,g2,g3,rfl,List.nodup_nil⟩),rfl,q⟩
theorem Zw:kq X (.builtin "isinstance") (λ xs H Q=>∃ a kvs,xs=[.ref a,.ty "dict"]/\H a=some (.bz kvs)/\Q (.aW true) H):=by
 intro pins s σ H xs us Q I r h;obtain⟨a,kvs,rfl,e,q⟩:=h;obtain⟨u,v,rfl,d0,a9⟩:=Vals.two r;cases d0;cases a9;obtain⟨hd,o,es,ep,ag,ai,_⟩:=wJ I.bt (.inl e)
 exact jJ PySem.W.kitx_dict I.gN ⟨o,ag,ai.1⟩ (show x7 X.K (.type "dict") (.type "dict")=some true from rfl) (λ z=>nomatch z) λ tk=>⟨.aW true,H,I.tok tk,rfl,q⟩
end
end L2
namespace L3
open PySem PySem.Spec L2
section
variable{X:a0}{o i e f value:a5}{pos pos' apos dH:Pos}{cD d3 fB m4:bK}
noncomputable abbrev Zx(cD d3:bK):bK:=λ ρ G Q=>cD ρ G λ x aw=>d3 ρ aw λ y a_=>match x with
 |.ref a=>rR a_ a λ kvs=>∃ k d,nC y=some k/\d2 kvs k=some d/\Q d a_
 |_=>False
theorem wU(br:X.A.units+200<ea)(aO:bJ X o cD)(ar:bJ X i d3)(av:yK i):bJ X (.Subscript o i pos) (Zx cD d3):=by
 obtain⟨co,fG,fb⟩:=aO.run;obtain⟨ci,hV,gn⟩:=ar.run;refine⟨_,⟨Iv (by omega) fG.run hV.run av⟩,λ ρ G az σ H Q B q F=>fb ρ G _ σ H _ B q λ x aw v H1 g1 a4 aG=>gn ρ aw _ σ H1 _ (B.go g1) aG λ y a_ u aQ g2 be bv=>?_⟩
 cases x with
 | ref a=>
  cases a4;obtain⟨kvs,gs,⟨k,d,iP,C6,dC⟩,aF,r⟩:=DE g2.bB bv;obtain⟨b,rfl,d7⟩:=z6 iP be;obtain⟨w,hw,jx⟩:=(r.d2 (k:=k)).1 d C6;exact⟨a,w,rfl,.inr ⟨gs,k,b,aF,rfl,d7,hw.symm⟩,F d a_ w aQ (g1.trans g2) jx dC⟩
 |_=>exact(show False from bv).elim
noncomputable abbrev Zy(cD d3 m4:bK):bK:=λ ρ G Q=>cD ρ G λ x aw=>(match x with|.ref a=>rR aw a λ _=>True|_=>False)/\d3 ρ aw λ y a_=>m4 ρ a_ λ z dv=>match x with
 |.ref a=>rR dv a λ kvs=>∃ k,nC y=some k/\Q ((d2 kvs k).getD z) dv
 |_=>False
theorem rT(br:X.A.units+200<ea)(aO:bJ X o cD)(he:bJ X e d3)(hf:bJ X f m4)(m:M2 X o "get" apos e f dH):bJ X (.Call (.Attribute o "get" apos) [e,f] [] dH) (Zy cD d3 m4):=by
 obtain⟨co,fG,fb⟩:=aO.run;obtain⟨ci,hV,gn⟩:=he.run;obtain⟨cx,Zz,bl⟩:=hf.run;refine⟨_,⟨RO (by omega) fG.run hV.run Zz.run m⟩,λ ρ G az σ H Q B q F=>fb ρ G _ σ H _ B q λ x aw v H1 g1 a4 ⟨jX,aG⟩=>?_⟩
 cases x with
 | ref a=>
  cases a4;obtain⟨_,ZA,_,cg,_⟩:=DE g1.bB jX;refine⟨a,rfl,.inr ⟨ZA,cg⟩,gn ρ aw _ σ H1 _ (B.go g1) aG λ y a_ u aQ g2 be bv=>bl ρ a_ _ σ aQ _ ((B.go g1).go g2) bv λ z dv ZC c9 g3 rq dC=>?_⟩;obtain⟨kvs,gs,⟨k,iP,hU⟩,aF,r⟩:=DE g3.bB dC;obtain⟨b,rfl,d7⟩:=z6 iP (be.mono g3.tup);refine⟨_,.inr ⟨gs,k,b,aF,rfl,d7,rfl⟩,?_⟩
  cases hd:d2 kvs k with
  | none=>
   rw[hd]at hU;rw[(r.d2 (k:=k)).2 hd];exact F z dv ZC c9 ((g1.trans g2).trans g3) rq hU
  | some d=>
   rw[hd]at hU;obtain⟨w,hw,jx⟩:=(r.d2 (k:=k)).1 d hd;rw[hw];exact F d dv w c9 ((g1.trans g2).trans g3) jx hU
 |_=>exact(show False from jX).elim
noncomputable abbrev ZD(cD d3 fB:bK):gF:=λ dE ρ G=>fB ρ G λ v aw=>cD ρ aw λ x a_=>d3 ρ a_ λ y dv=>match x with
 |.ref a=>qi dv a λ kvs=>∃ k,nC y=some k/\kvs.length<sizeLine/\dE.nx ρ (up dv a (.bz (fJ kvs k v)))
 |_=>False
theorem rU(br:X.A.units+200<ea)(aO:bJ X o cD)(ar:bJ X i d3)(bu:bJ X value fB)(av:kZ value (some (.Subscript o i pos')) pos.line X.env=pure false:=by rfl):jt X (.Assign [.Subscript o i pos'] value pos) (ZD cD d3 fB):=by
 obtain⟨co,fG,fb⟩:=aO.run;obtain⟨ci,hV,gn⟩:=ar.run;obtain⟨C7,od,a9⟩:=bu.run;refine⟨_,⟨Iw (by omega) fG.run hV.run od.run av⟩,λ dE fe ρ G σ H B q F=>a9 ρ G _ σ H _ B q λ Lf aw v0 H1 g1 oq aG=>fb ρ aw _ σ H1 _ (B.go g1) aG λ x a_ v aQ g2 a4 bv=>gn ρ a_ _ σ aQ _ ((B.go g1).go g2) bv λ y dv u c9 g3 be dC=>?_⟩
 cases x with
 | ref a=>
  cases a4;obtain⟨kvs,gs,⟨k,iP,aH,hU⟩,aC,aF,r⟩:=z7 g3.bB dC;obtain⟨b,rfl,d7⟩:=z6 iP be
  have len:gs.length=kvs.length:=by have:=congrArg nS r.1;simpa using this.symm
  have L4:=r.fJ (k:=k) ((oq.mono g2.tup).mono g3.tup);have hu:Go X.K dv c9 (up dv a (.bz (fJ kvs k Lf))) (upd c9 a (.bz (fY gs k v0))):=Go.DF g3.bB aC (λ ak mo he=>⟨_,he,L4.1,L4.2.mono mo⟩);exact⟨a,_,rfl,pE.t aF d7 (by omega),F.nx _ _ _ _ (((g1.trans g2).trans g3).trans hu) ((((B.go g1).go g2).go g3).go hu) hU⟩
 |_=>exact(show False from dC).elim
noncomputable abbrev ZE(cD:bK):bK:=λ ρ G Q=>cD ρ G λ x aw=>match x with
 |.ref a=>qi aw a λ _=>Q .bE (up aw a (.bz []))
 |_=>False
theorem ZF(aO:bJ X o cD)(hP:lA o "clear" X.env (eval o X.env)=eval o X.env:=by rfl)(hQ:(apos.endLine==dH.line)=true:=by rfl):bJ X (.Call (.Attribute o "clear" apos) [] [] dH) (ZE cD):=by
 obtain⟨co,fG,fb⟩:=aO.run;refine⟨_,⟨Zv fG.run hP hQ⟩,λ ρ G az σ H Q B q F=>fb ρ G _ σ H _ B q λ x aw v H1 g1 a4 aG=>?_⟩
 cases x with
 | ref a=>
  cases a4;obtain⟨kvs,gs,bv,aC,aF,r⟩:=z7 g1.bB aG;have g2:Go X.K aw H1 (up aw a (.bz [])) (upd H1 a (.bz [])):=Go.DF g1.bB aC (λ ak mo he=>⟨[],he,rfl,rfl⟩);exact⟨a,gs,rfl,aF,F .bE _ _ _ (g1.trans g2) rfl bv⟩
 |_=>exact(show False from aG).elim
noncomputable def ZG:D->D->aY->dg->Prop:=λ x y G Q=>match x with
 |.ref a=>qi G a λ _=>(match y with|.ty T=>T = "dict"|_=>False)/\Q (.aW true) G
 |_=>False
theorem ZH:rl X (.builtin "isinstance") (zh ZG):=by
 refine⟨_,⟨Zw⟩,λ xs ae G H az Q v a r F=>?_⟩;obtain⟨x,y,u,w,rfl,rfl,a4,be,r⟩:=JL r a
 cases x with
 | ref l=>
  cases a4;obtain⟨kvs,gs,⟨bj,q⟩,aC,aF,en⟩:=z7 v r
  cases y with
  | ty T=>
   cases be;have Bk:T = "dict":=bj;subst Bk;exact⟨l,gs,rfl,aF,F (.aW true) G _ H (.refl v) rfl q⟩
  |_=>exact(show False from bj).elim
 |_=>exact(show False from r).elim
end
section
variable{K:a8}{H:au}{G:aY}
@[irreducible] noncomputable def qj(G:aY)(a:Addr)(k:Obj->List (List Key×V)->List (List Key×D)->aY->Prop):Prop:=match G a with
 |some (.bz kvs)=>∀ o gs,k o gs kvs (up G a (.hv o gs kvs))
 |some (.hv o gs kvs)=>k o gs kvs G
 |_=>False
theorem ZI{a:Addr}{k:Obj->List (List Key×V)->List (List Key×D)->aY->Prop}{kvs:List (List Key×D)}(h:G a=some (.bz kvs))(q:∀ o gs,k o gs kvs (up G a (.hv o gs kvs))):qj G a k:=by unfold qj;rw[h];exact q
theorem ZJ{a:Addr}{k:Obj->List (List Key×V)->List (List Key×D)->aY->Prop}{o:Obj}{gs:List (List Key×V)}{kvs:List (List Key×D)}(h:G a=some (.hv o gs kvs))(q:k o gs kvs G):qj G a k:=by unfold qj;rw[h];exact q
theorem Go.ZK(v:d1 K G H){p:Addr}{kvs:List (List Key×D)}{gs:List (List Key×V)}{o:Obj}(h:G p=some (.bz kvs))(ax:H p=some (.bz gs))(r:cT K H kvs gs):Go K G H (up G p (.hv o gs kvs)) (upd H p (.eH o (.bz gs))) where
 tup:=tM ax
 hT:=λ a u e=>by
  by_cases c:a=p
  ·subst c;exact⟨_,eC⟩
  ·exact⟨u,by rw[bS c];exact e⟩
 same:=λ a u e n=>by
  have c:a≠p:=by rintro rfl;rw[h]at n;cases n
  rw[bS c];exact e
 new:=λ a u e n=>by
  have c:a≠p:=by rintro rfl;rw[h]at n;cases n
  rw[bH c];exact n
 bB:=λ a u e=>by
  by_cases c:a=p
  ·subst c;rw[bh]at e;cases e;exact⟨eC,r.1,r.2.mono (tM ax)⟩
  ·rw[bH c]at e;exact(v a u e).mono (tM ax) (bS c)
end
section
variable{X:a0}
theorem DH{K:a8}{H:au}:∀ ks:List Key,bR K H (ks.map rM) (ks.map dd)
 |[]=>rfl
 |k::ks=>⟨_,_,rfl,by cases k<;>rfl,DH ks⟩
noncomputable abbrev ZL(cD:bK):i4:=λ ρ G R=>cD ρ G λ x aw=>match x with
 |.ref a=>qj aw a λ o gs kvs a_=>R ⟨kvs.map λ bq=>hD bq.1,λ G=>G a=some (.hv o gs kvs)⟩ a_
 |_=>False
theorem ZM{bd l:a5}{cD:bK}(aH:bJ X l cD):ni X bd l (ZL cD):=by
 obtain⟨cl,B6,en⟩:=aH.run;refine⟨_,⟨YZ B6.run⟩,λ ρ G i5 σ H R B q F=>en ρ G _ σ H _ B q λ x aw v H1 g1 a4 aG=>?_⟩
 cases x with
 | ref a=>
  cases a4
  have L5:∀{o:Obj}{gs:List (List Key×V)}{kvs:List (List Key×D)}{a_:aY}{aQ:au},zi X.K ⟨kvs.map λ bq=>hD bq.1,λ G=>G a=some (.hv o gs kvs)⟩ (wK a o gs) a_ aQ:=λ{o gs kvs a_ aQ} dv c9 g3 hd=>by
   obtain⟨z,r⟩:=g3.bB _ _ hd
   have len:gs.length=kvs.length:=by have:=congrArg nS r.1;simpa using this.symm
   refine⟨λ i d e=>?_,λ i ar=>⟨z,by have ai:(kvs.map λ bq=>hD bq.1).length<=i:=ar;rw[bL]at ai;omega⟩⟩;have b0:(kvs.map λ bq=>hD bq.1)[i]?=some d:=e;rw[dF]at b0;obtain⟨bq,aC,rfl⟩:=pc.mp b0;refine⟨⟨z,by have:=(f5.mp aC).1;omega⟩,?_⟩;rintro x ak ⟨rfl,k,hK,b,aF,rfl,c6⟩;have c0:=congrArg (λ l:List (List Key)=>l[i]?) r.1;simp only[dF,aC,aF,mL,eW.injEq]at c0;subst c0;exact⟨.refl g3.bB,b,_,rfl,c6,DH _⟩
  have bv:qj aw a _:=aG;unfold qj at bv;split at bv
  ·next kvs e=>
   obtain⟨gs,z,r⟩:=g1.bB _ _ e;exact⟨a,gs,rfl,.inl ⟨z,λ o=>F _ _ _ _ (g1.trans (Go.ZK (o:=o) g1.bB e z r)) L5 (bv o gs)⟩⟩
  ·next o gs kvs e=>
   obtain⟨z,r⟩:=g1.bB _ _ e;exact⟨a,gs,rfl,.inr ⟨o,z,F _ _ _ _ g1 L5 bv⟩⟩
  ·exact bv.elim
 |_=>exact(show False from aG).elim
end
section
variable{X:a0}{pos:Pos}
noncomputable def DI:List (bK×bK)->el->aY->(List (D×D)->aY->Prop)->Prop
 |[],_,G,Q=>Q [] G
 |(tk,fB)::r,ρ,G,Q=>tk ρ G λ x aw=>fB ρ aw λ y a_=>DI r ρ a_ λ ps dv=>Q ((x,y)::ps) dv
noncomputable def L6(K:a8)(H:au)(ps:List (D×D))(ae:List (V×V)):Prop:=bR K H (ps.map (·.1)) (ae.map (·.1))/\bR K H (ps.map (·.2)) (ae.map (·.2))
noncomputable def z9(X:a0)(pos:Pos)(keys:List (Option a5))(values:List a5)(oI:List (bK×bK)):Prop:=∃ ct,sW X pos keys values ct/\∀ ρ G (az:List (D×D)->aY->Prop) σ H (Q:List (V×V)->au->Prop),dI X.K ρ G σ H->DI oI ρ G az->(∀ ps am ae ak,Go X.K G H am ak->L6 X.K ak ps ae->az ps am->Q ae ak)->vl ct σ H Q
theorem z_:z9 X pos [] [] []:=⟨[],Iy,λ ρ G az σ H Q B q F=>F [] G [] H (.refl B.bB) ⟨rfl,rfl⟩ q⟩
theorem qk{k v:a5}{ks:List (Option a5)}{ae:List a5}{tk fB:bK}{oI:List (bK×bK)}(aI:bJ X k tk)(bu:bJ X v fB)(h:z9 X pos ks ae oI):z9 X pos (some k::ks) (v::ae) ((tk,fB)::oI):=by
 obtain⟨XB,C8,vo⟩:=aI.run;obtain⟨C7,od,a9⟩:=bu.run;obtain⟨ct,j,r⟩:=h;refine⟨_,Iz C8.run od.run j,λ ρ G az σ H Q B q F=>vo ρ G _ σ H _ B q λ x aw v H1 g1 a4 aG=>a9 ρ aw _ σ H1 _ (B.go g1) aG λ y a_ u aQ g2 be bv=>r ρ a_ _ σ aQ _ ((B.go g1).go g2) bv λ ps dv ae c9 g3 ap dC=>?_⟩;exact F ((x,y)::ps) _ ((v,u)::ae) _ ((g1.trans g2).trans g3) ⟨⟨_,_,rfl,(a4.mono g2.tup).mono g3.tup,ap.1⟩,⟨_,_,rfl,be.mono g3.tup,ap.2⟩⟩ dC
theorem L7{K:a8}{H:au}:∀{kds:List (List Key×D)}{ae:List (V×V)},L6 K H (kds.map λ fK=>(hD fK.1,fK.2)) ae->∃ fR:List (List Key×Addr×V),ae=DG fR/\(∀ ey∈fR,H ey.2.1=some (.tup (ey.1.map dd)))/\fR.length=kds.length/\mD (λ(fK:List Key×D) (ey:List Key×Addr×V)=>fK.1=ey.1/\cQ K H fK.2 ey.2.2) kds fR
 | [],ae,⟨e,_⟩=>by
  have b0:ae.map (·.1)=[]:=e
  obtain rfl:ae=[]:=by simpa using b0
  exact⟨[],rfl,by simp,rfl,.nil⟩
 | fK::kds,ae,⟨⟨x,xs,aC,a1,bf⟩,⟨y,ys,aF,a2,bD⟩⟩=>by
  cases ae with
  |nil=>cases aC
  | cons v ae=>
   obtain⟨v1,v2⟩:=v;rw[cV]at aC aF;injection aC with aC Bp;injection aF with aF oa;subst aC aF Bp oa;obtain⟨fR,rfl,ag,ai,aT⟩:=L7 (kds:=kds) ⟨bf,bD⟩;obtain⟨b,af,d7⟩:=z6 (LZ fK.1) a1;have q6:v1=.ref b:=af;subst q6
   exact⟨(fK.1,b,v2)::fR,rfl,λ ey aI=>by
    rcases dw.mp aI with rfl|aI
    ·exact d7
    ·exact ag ey aI,by simp[ai],.cons ⟨rfl,a2⟩ aT⟩
theorem ZN{K:a8}{H:au}{kds:List (List Key×D)}{fR:List (List Key×Addr×V)}(h:mD (λ(fK:List Key×D) (ey:List Key×Addr×V)=>fK.1=ey.1/\cQ K H fK.2 ey.2.2) kds fR):∀{fs:List (List Key×D)}{gs:List (List Key×V)},cT K H fs gs->cT K H (kds.foldl (λ acc fK=>fJ acc fK.1 fK.2) fs) (z8 gs fR):=by
 induction h with
 |nil=>intro fs gs r;exact r
 | @cons p q ps a7 ag t bG=>
  intro fs gs r;have e:=r.fJ (k:=p.1) ag.2;rw[show fY gs p.1 q.2.2=fY gs q.1 q.2.2 by rw[ag.1]]at e;exact bG e
noncomputable abbrev ZO(oI:List (bK×bK)):bK:=λ ρ G Q=>∀ p,G p=none->DI oI ρ (up G p (.bz [])) λ ps a_=>a_ p=some (.bz [])/\∃ kds:List (List Key×D),ps=kds.map (λ fK=>(hD fK.1,fK.2))/\kds.length<=15/\Q (.ref p) (up a_ p (.bz (kds.foldl (λ acc fK=>fJ acc fK.1 fK.2) [])))
theorem Aa{keys:List (Option a5)}{values:List a5}{oI:List (bK×bK)}(br:X.A.units+200<ea)(h:z9 X pos keys values oI)(eS:keys.all (·.isSome)=true:=by rfl)(aH:keys.length=values.length:=by rfl)(h0:keys≠[]:=by simp)(vn:keys.length<=15:=by simp):bJ X (.Dict keys values pos) (ZO oI):=by
 obtain⟨ct,j,r⟩:=h;refine⟨_,⟨Zr (by omega) j eS aH h0 vn⟩,λ ρ G az σ H Q B q F p ax=>?_⟩;have qb:=Go.LX (kvs:=[]) (gs:=[]) B.bB ax ⟨rfl,rfl⟩;refine r ρ _ _ σ _ _ (B.go qb) (q p (B.bB.none ax)) λ ps a_ ae aQ g2 ap xz=>?_;obtain⟨cg,kds,iP,fz,dC⟩:=xz;subst iP;obtain⟨gs,aC,hW⟩:=g2.bB _ _ cg
 have a3:gs=[]:=by have:=hW.1;simpa using this.symm
 subst a3;obtain⟨fR,rfl,ej,dA,ha⟩:=L7 ap;have tq:=ZN ha (fs:=[]) (gs:=[]) ⟨rfl,rfl⟩;have g3:Go X.K a_ aQ (up a_ p (.bz (kds.foldl (λ acc fK=>fJ acc fK.1 fK.2) []))) (upd aQ p (.bz (z8 [] fR))):=Go.DF g2.bB cg (λ ak mo he=>⟨_,he,tq.1,tq.2.mono mo⟩);exact⟨aC,fR,rfl,ej,by omega,F (.ref p) _ _ _ ((qb.trans g2).trans g3) rfl dC⟩
end
end L3
namespace L2
open PySem PySem.Spec PySem.W PyProof.Rows
section
variable{X:a0}{pins:List (Addr×Obj)}{σ:St}{H:au}{s:ay}
theorem Inv.adopt{a:Addr}{o:fv}(I:Inv X pins σ H s)(bc:H a=none)(eg:a≠X.env.locals)(h0:X.s₀.heap.objs.size<=a)(aE:∀ x c,X.env.cells.lookup x=some c->c≠a)(ax:∀ p∈X.pn++pins,p.1≠a)
 (new:ez X.prog X.w (upd H a o) s.heap a o):Inv X pins σ (upd H a o) s where
 ok:=I.ok
 os:=I.os
 bare:=I.bare
 base:=by
  have u:=I.base
  have nn:∀ b v,H b=some v->b≠a:=λ b v e z=>by rw[z,bc]at e;cases e
  refine⟨u.keep,u.slot,λ b cw q n aA=>?_,u.there,λ b xs q=>?_,λ b cw v q=>?_,λ b ps q=>?_⟩
  ·rw[bS (du (hH (cm q) h0))];exact u.free b cw q n aA
  ·have e:=u.kn b xs q;rw[bS (nn b _ e)];exact e
  ·have e:=u.jn b cw v q;rw[bS (nn b _ e)];exact e
  ·obtain⟨m,e⟩:=u.jM b ps q;exact⟨m,by rw[bS (nn b _ e)];exact e⟩
 loc:=I.loc
 cell:=I.cell
 free:=by rw[bS eg.symm];exact I.free
 jQ:=λ x c e=>by rw[bS (aE x c e)];exact I.jQ x c e
 pin:=λ p zU=>by
  obtain⟨gU,c_,tI⟩:=I.pin p zU;exact⟨gU,by rw[bS (ax p zU)];exact c_,tI⟩
 bt:=λ b u e=>by
  by_cases af:b=a
  ·subst af;rw[eC]at e;cases e;exact new
  ·rw[bS af]at e;exact(I.bt b u e).jK (λ _ _ _ q=>q) (λ c q=>by rw[bS (gS q bc)];exact q) λ c xs q=>by rw[bS (gS q bc)];exact q
 len:=I.len
end
end L2
namespace L3
open PySem PySem.Spec PySem.W PyProof.Rows L2
noncomputable def kN(H:au):List (Addr×V×V)->au
 |[]=>H
 |z::zs=>kN (upd H z.1 (.tup [z.2.1,z.2.2])) zs
theorem DJ:∀(zs:List (Addr×V×V)){H:au}{b:Addr},(∀ z∈zs,z.1≠b)->kN H zs b=H b
 |[],_,_,_=>rfl
 | z::zs,H,b,h=>by
  rw[kN,DJ zs λ y bj=>h y (eE _ bj),bS λ c=>h z (dP ..) c.symm]
theorem ZP(zs:List (Addr×V×V)):∀{H:au},(zs.map (·.1)).Nodup->∀ z∈zs,kN H zs z.1=some (.tup [z.2.1,z.2.2]):=by
 induction zs with
 |nil=>intro H aS z hz;cases hz
 | cons y zs bG=>
  intro H aS z hz;rw[cV,jj]at aS;rw[kN];rcases dw.mp hz with rfl|hz
  ·rw[DJ zs λ x aA c=>aS.1 (eF.mpr ⟨x,aA,c⟩),eC]
  ·exact bG aS.2 z hz
theorem DK{K:a8}:∀(zs:List (Addr×V×V)){G:aY}{H:au},d1 K G H->(∀ z∈zs,H z.1=none)->(zs.map (·.1)).Nodup->Go K G H G (kN H zs)
 |[],_,_,v,_,_=>.refl v
 | z::zs,G,H,v,h,aS=>by
  rw[cV,jj]at aS;have g:=Go.lW (K:=K) v (o:=.tup [z.2.1,z.2.2]) (h z (dP ..));refine g.trans (DK zs g.bB (λ y bj=>?_) aS.2);rw[bS λ c=>aS.1 (eF.mpr ⟨y,bj,c⟩)];exact h y (eE _ bj)
theorem L8{K:a8}{H:au}:∀{ds:List D}{ae:List V},ds.length=ae.length->(∀(i:Nat)(d:D)(v:V),ds[i]?=some d->ae[i]?=some v->cQ K H d v)->bR K H ds ae
 |[],[],_,_=>rfl
 |d::ds,v::ae,aH,h=>⟨v,ae,rfl,h 0 d v rfl rfl,L8 (by simpa using aH) λ i x y aC aF=>h (i+1) x y (by simpa using aC) (by simpa using aF)⟩
theorem L9:∀ as:List Addr,Vals (as.map V.ref) (as.map Value.ref)
 |[]=>.nil
 |_::as=>.cons rfl (L9 as)
section
variable{X:a0}{pins:List (Addr×Obj)}{σ:L2.St}{s:ay}
theorem L_:∀(zs:List (Addr×V×V)){H:au},Inv X pins σ H s->(∀ z∈zs,hq X pins H z.1/\X.s₀.heap.objs.size<=z.1)->(zs.map (·.1)).Nodup->(∀ z∈zs,∃ key val,RelV z.2.1 key/\RelV z.2.2 val/\s.heap.get? z.1=some {cls:=.type "tuple",data:=.seq #[key,val]})->Inv X pins σ (kN H zs) s
 |[],H,I,_,_,_=>I
 | z::zs,H,I,hf,aS,aO=>by
  rw[cV,jj]at aS;obtain⟨⟨f0,f1,f2,dD,f4,eD⟩,Ma⟩:=hf z (dP ..);obtain⟨key,val,bf,bD,e⟩:=aO z (dP ..);refine L_ zs (I.adopt (a:=z.1) (o:=.tup [z.2.1,z.2.2]) f0 f1 Ma f4 eD (show ez X.prog X.w _ _ _ (.tup [z.2.1,z.2.2]) from⟨by show 2<=sizeLine;decide,[key,val],.cons bf (.cons bD .nil),_,e,rfl,_,rfl⟩)) (λ y bj=>?_) aS.2 λ y bj=>aO y (eE _ bj);have ne:y.1≠z.1:=λ c=>aS.1 (eF.mpr ⟨y,bj,c⟩);obtain⟨⟨qb,g⟩,ZQ⟩:=hf y (eE _ bj);exact⟨⟨by rw[bS ne];exact qb,g⟩,ZQ⟩
end
noncomputable def ZR(K:a8)(cD:TE):TE:=λ σ H Q=>cD σ H λ x H1=>∃(a:Addr)(a7:List (List Key×D))(gs:List (List Key×V)),x=.ref a/\H1 a=some (.bz gs)/\cT K H1 a7 gs ∧
 ∀(zs:List (Addr×V×V))(ae:List V),(∀ z∈zs,H1 z.1=none)->(zs.map (·.1)).Nodup->bR K (kN H1 zs) (a7.map λ q=>.tup [hD q.1,q.2]) ae->∀ p,kN H1 zs p=none->Q (.ref p) (upd (kN H1 zs) p (.lst ae))
section
variable{X:a0}{o:a5}{cD:TE}{p pos apos dH:Pos}
theorem ZS(aE:X.calm=true)(mm:c8 X "list")(mn:X.mg "list"=none)(aO:bO X o cD)(hP:lA o "items" X.env (eval o X.env)=eval o X.env)(hQ:(apos.endLine==dH.line)=true):bO X (.Call (.Name "list" p) [.Call (.Attribute o "items" apos) [] [] dH] [] pos) (ZR X.K cD):=by
 intro pins s σ H Q I h;refine je (jp I mm mn PyProof.Rows.boot_list ?_);refine lI ?_ (eT rfl) rfl;rw[eT rfl];refine(show aD _ _ (lC ((false,eval (.Call (.Attribute o "items" apos) [] [] dH) X.env)::fS pos (di [] X.env))) _ _ s from ?_);refine Calls.spliced_cons (AF hP hQ (bU (aO pins s σ H _ I h) λ u s1 xz=>?_));obtain⟨x,H1,aZ,bl,a,a7,gs,ex,aC,DL,q⟩:=xz;subst ex;obtain rfl:u=Value.ref a:=bl;obtain⟨z,_⟩:=yJ aZ.bt aC;obtain⟨hd,cw,es,ep,g1,g2,g3,hu,aI⟩:=wJ aZ.bt (.inl aC)
 have tH:fo s1.heap a es ep:=⟨cw,g1,g2,g3⟩
 refine⟨"dict","dict.items",PySem.F.plainAttrs_dict,PySem.F.slot_dict_items,PySem.F.type_dict_items,tH.typeIs,λ b q=>?_,Calls.callWith_builtin rfl (PySem.evalArgs_none (Y0 hd tH (Calls.spliced_nil ?_)))⟩
 ·cases q;exact⟨cw,g1,g2.2.1⟩
 have bY:=aZ.kept (t':=s1.toks) (h':=s1.heap.push {cls:=.type "dict_items",data:=.fields #[.ref a]}) λ b o e=>cc _ e
 have bu:(s1.heap.push {cls:=.type "dict_items",data:=.fields #[.ref a]}).IsItemsView s1.heap.objs.size a:=⟨_,dK _ rfl,rfl,rfl⟩
 have d9:fo (s1.heap.push {cls:=.type "dict_items",data:=.fields #[.ref a]}) a es ep:=tH.to λ o e=>cc _ e;generalize s1.heap.push {cls:=.type "dict_items",data:=.fields #[.ref a]}=ax at bY bu d9 ⊢
 have gJ:gs.length=a7.length:=by have:=congrArg nS DL.1;simpa using this.symm
 refine Zk (s:={s1 with heap:=ax}) (I.ok.hd aE) bu d9 (by omega) λ ag tk acc c as k c3 aH e8 eK=>?_;have dU:Inv X pins σ H1 {s1 with heap:=ag,toks:=tk}:=bY.kept (t':=tk) k
 let ey:DictEntry->V:=λ e=>match e.key with|.ref b=>.ref b|_=>.bE
 let zs:List (Addr×V×V):=x1 (λ a (g:DictEntry×List Key×V)=>(a,ey g.1,g.2.2)) as (es.toList.zip gs)
 have le:(es.toList.zip gs).length=a7.length:=by rw[List.length_zip,fu];omega
 have DN:zs.map (·.1)=as:=by
  show (x1 _ _ _).map _=_;rw[List.map_zipWith];exact List.ext_getElem (by rw[List.length_zipWith];omega) λ i ag ai=>by simp
 have Ab:(zs.map (·.1)).Nodup:=by rw[DN];exact e8.rise.imp λ h=>du h
 have ZT:∀ z∈zs,∃(i:Nat)(e:DictEntry)(g:List Key×V),as[i]?=some z.1/\es[i]?=some e/\gs[i]?=some g/\z.2=(ey e,g.2):=λ z hz=>by
  obtain⟨i,ar⟩:=qP.mp hz;have kD:(x1 (λ a (g:DictEntry×List Key×V)=>(a,ey g.1,g.2.2)) as (es.toList.zip gs))[i]?=some z:=ar;rw[List.getElem?_zipWith]at kD;split at kD
  ·next n4 g' ag ai=>
   cases kD;obtain⟨iB,h9⟩:=xS.mp ai;exact⟨i,g'.1,g'.2,ag,by rw[<- pb];exact iB,h9,rfl⟩
  ·cases kD
 have DO:∀ z∈zs,hq X pins H1 z.1/\X.s₀.heap.objs.size<=z.1:=λ z hz=>by
  have hm:z.1∈as:=by rw[<- DN];exact iy hz
  have le:ax.objs.size<=z.1:=pa (e8.above _ hm);exact⟨bY.lN le (bY.bt.fresh le),eG bY.aL le⟩
 have Mb:∀{i:Nat}{e:DictEntry},es[i]?=some e->∃ k v b,gs[i]?=some (k,v)/\ey e=.ref b/\e.key=.ref b/\H1 b=some (.tup (k.map dd))/\RelV v e.val:=λ{i e} he=>by
  obtain⟨pp,iW,b,iB,h9,n0,Mc⟩:=aI i e he;exact⟨pp,iW,b,iB,by show (match e.key with|.ref b=>V.ref b|_=>.bE)=_;rw[h9],h9,n0,Mc⟩
 have ZU:∀ z∈zs,∃ key val,RelV z.2.1 key/\RelV z.2.2 val/\ag.get? z.1=some {cls:=.type "tuple",data:=.seq #[key,val]}:=λ z hz=>by
  obtain⟨i,e,g,pZ,tp,Md,rV⟩:=ZT z hz;obtain⟨x,v1,ZV⟩:=e8.pairs i _ pZ;rw[tp]at v1;cases v1;obtain⟨pp,iW,b,iB,h9,n0,Mc,Bt⟩:=Mb tp;rw[Md]at iB;cases iB;rw[rV];exact⟨e.key,e.val,by show RelV (ey e) e.key;rw[h9,n0];rfl,Bt,ZV⟩
 have k6:Inv X pins σ (kN H1 zs) {s1 with heap:=ag,toks:=tk}:=L_ zs dU DO Ab ZU
 have ZW:d1 X.K (λ _=>none) H1:=λ _ _ e=>by cases e
 have Me:=(DK zs ZW (λ z hz=>(DO z hz).1.1) Ab).tup
 have ab:bR X.K (kN H1 zs) (a7.map λ q=>.tup [hD q.1,q.2]) (as.map V.ref):=L8 (by rw[bL,bL];omega) λ i d v aF c6=>by
  rw[dF]at aF c6;obtain⟨Mf,iB,rfl⟩:=pc.mp aF;obtain⟨aa,h9,rfl⟩:=pc.mp c6
  have agT:i<gs.length:=by have:=(f5.mp iB).1;omega
  have Mg:i<es.size:=by omega
  obtain⟨pp,iW,b,pZ,tp,Md,rV,A6⟩:=Mb (hI Mg)
  have hz:((aa,V.ref b,iW):Addr×V×V)∈zs:=by
   refine qP.mpr ⟨i,?_⟩;show (x1 _ as (es.toList.zip gs))[i]?=_;have l0:(es.toList.zip gs)[i]?=some (es[i],(pp,iW)):=xS.mpr ⟨by rw[pb];exact hI Mg,pZ⟩;rw[List.getElem?_zipWith,h9,l0];show some (aa,ey es[i],iW)=_;rw[tp]
  have at':=ZP zs (H:=H1) Ab _ hz
  have key:pp=Mf.1:=by
   have:=congrArg (λ l:List (List Key)=>l[i]?) DL.1;simp only[dF,iB,pZ,mL,eW.injEq]at this;exact this.symm
  subst key;obtain⟨ZX,jR,k5⟩:=DL.2.get (i:=i) (d:=Mf.2) (by rw[dF,iB];rfl);rw[dF,pZ]at jR
  have ZY:iW=ZX:=by simpa using jR
  exact⟨aa,[.ref b,iW],rfl,at',_,_,rfl,⟨b,_,rfl,Me.cj _ _ rV,DH _⟩,_,_,rfl,by rw[ZY];exact k5.mono Me,rfl⟩
 have z1:kN H1 zs ax.objs.size=none:=by
  rw[DJ zs λ z hz c=>?_]
  ·exact bY.bt.fresh (ZB _)
  ·have hm:z.1∈as:=by rw[<- DN];exact iy hz
   exact fU (e8.above _ hm) c
 obtain⟨f0,f1,f2,dD,f4,eD⟩:=bY.lN (b:=ax.objs.size) (ZB _) (bY.bt.fresh (ZB _));have sN:=k6.adopt (a:=ax.objs.size) (o:=.lst (as.map V.ref)) z1 f1 bY.aL f4 eD (show ez X.prog X.w _ _ _ (.lst (as.map V.ref)) from⟨by rw[bL];omega,as.map Value.ref,c,L9 as,by rw[<- eK];exact c3⟩);exact⟨.ref ax.objs.size,_,sN,rfl,q zs _ (λ z hz=>(DO z hz).1.1) Ab ab _ z1⟩
end
section
variable{X:a0}{o:a5}{cD:bK}{p pos apos dH:Pos}
noncomputable abbrev ZZ(cD:bK):bK:=λ ρ G Q=>cD ρ G λ x aw=>match x with
 |.ref a=>qi aw a λ kvs=>∀ l,aw l=none->Q (.ref l) (up aw l (.lst (kvs.map λ q=>.tup [hD q.1,q.2])))
 |_=>False
theorem Mh(mm:c8 X "list")(mn:X.mg "list"=none)(aO:bJ X o cD)(aE:X.calm=true:=by rfl)(hP:lA o "items" X.env (eval o X.env)=eval o X.env:=by rfl)(hQ:(apos.endLine==dH.line)=true:=by rfl):bJ X (.Call (.Name "list" p) [.Call (.Attribute o "items" apos) [] [] dH] [] pos) (ZZ cD):=by
 obtain⟨co,fG,fb⟩:=aO.run;refine⟨_,⟨ZS aE mm mn fG.run hP hQ⟩,λ ρ G az σ H Q B q F=>fb ρ G _ σ H _ B q λ x aw v H1 g1 a4 aG=>?_⟩
 cases x with
 | ref a=>
  cases a4;obtain⟨kvs,gs,k,aC,aF,r⟩:=z7 g1.bB aG;refine⟨a,kvs,gs,rfl,aF,r,λ zs ae aT b6 dp l im=>?_⟩;have g2:=DK zs g1.bB aT b6;exact F (.ref l) _ _ _ ((g1.trans g2).trans (Go.pO g2.bB im dp)) rfl (k l (g2.bB.none im))
 |_=>exact(show False from aG).elim
end
section
variable{X:a0}{kO:Addr}{ws:List Str}
noncomputable def Z0(kO:Addr)(ws:List Str):d9:=λ x y H Q=>∃ i w,x=.ref kO/\y=.int i/\gC (ws.map V.str) i=some (.str w)/\Q (.str w) H
theorem Z1(T:zz X.K kO ws):lP X (Z0 kO ws):=by
 intro value slice pins s σ H x y v u Q I bl b7 h av;obtain⟨i,mW,rfl,rfl,he,q⟩:=h;cases bl;obtain⟨t,rfl⟩:=b7;obtain⟨o,aP,n,ej,dA,ha,m9,ra,r⟩:=T.obj
 have cF:ji s.heap kO aP.toList.toArray:=⟨o,I.gN kO o ej,dA,n,by simpa using m9⟩
 obtain⟨j,ag,ai,aT,b6,dp⟩:=yw he;obtain⟨w,sS,kv⟩:=r.get ai;have aH:=r.length;have bc:=n3
 have hz:aP.toList.length<=sizeLine:=by rw[fu];exact ra
 have fin:gy X pins σ Q w s:=⟨.str mW,H,I,kv,q⟩
 exact AU (x:=w) cF.typeIs slot_tuple_getitem.lookup
  (AW (j:=j) (Q:=λ r s'=>r=w/\gy X pins σ Q r s') cF (by omega) (by omega) (by rw[cS,<- aH];exact ag) (by simpa using sS) ⟨rfl,fin⟩) av
noncomputable def Z2(kO:Addr)(ws:List Str):ju:=λ x y G Q=>match x,y with
 |.ref a,.int i=>a=kO/\∃ w,gC (ws.map V.str) i=some (.str w)/\Q (.str w) G
 |_,_=>False
theorem Z3(T:zz X.K kO ws):B3 X (Z2 kO ws):=by
 refine⟨_,⟨Z1 T⟩,λ x y ff iI G H az Q v a4 be r F=>?_⟩
 cases x with
 | ref a=>
  cases y with
  | int i=>
   cases a4;cases be;obtain⟨rfl,w,e,q⟩:=r;exact⟨i,w,rfl,rfl,e,F (.str w) G _ H (.refl v) rfl q⟩
  |_=>exact(show False from r).elim
 |_=>cases y<;>exact(show False from r).elim
end
end L3
namespace L3
open PySem L2
inductive kP(t t':Tm):Prop
 |mk (ns:List Int) (v:Tm):busy t=true->t.use=some ns->t.at ns=some v->qh v->t'=Tm.oF v.comes ns t->kP t t'
theorem Z4{t:Tm}(h:t.e2=true):busy t=true:=by cases t<;>first|rfl|simp[Tm.e2]at h
theorem kP.red{t:Tm}(h:t.e2=true)(p:qh t):kP t t.comes:=⟨[],t,Z4 h,Tm.CJ h,rfl,p,rfl⟩
theorem Z5{a:Tm}(h:busy a=true):(a.word=="whole")=false:=by cases a<;>first|rfl|cases h
theorem Mi{a b:Tm}(h:busy a=true\/busy b=true):(Tm.plus a b).e2=false:=by
 cases a<;>first|rfl|skip
 cases b<;>first|rfl|skip
 rcases h with h|h<;>cases h
theorem kP.ql{a n4:Tm}(b:Tm)(h:kP a n4):kP (.plus a b) (.plus n4 b):=by
 obtain⟨ns,v,ag,ai,aT,b6,rfl⟩:=h;refine⟨0::ns,v,rfl,?_,by rw[Tm.me (u:=a) (by omega) rfl];exact aT,b6,rfl⟩;simp only[Tm.use];rw[if_neg (by rw[Mi (.inl ag)];decide),if_neg (by rw[Z5 ag];decide),ai];rfl
theorem kP.qm{b gV:Tm}(i:Int)(h:kP b gV):kP (.plus (.whole i) b) (.plus (.whole i) gV):=by
 obtain⟨ns,v,ag,ai,aT,b6,rfl⟩:=h;refine⟨1::ns,v,rfl,?_,by rw[Tm.me (u:=b) (by omega) rfl];exact aT,b6,rfl⟩;simp only[Tm.use];rw[if_neg (by rw[Mi (.inr ag)];decide),if_pos (by rfl),ai];rfl
inductive d_(s d:Nat):Nat->Tm->Tm->Prop
 |nil {t:Tm}:t.aL<=s->t.bn<=d->d_ s d 0 t t
 |cons {n:Nat} {t t' u:Tm}:t.aL<=s->t.bn<=d->kP t t'->d_ s d n t' u->d_ s d (n+1) t u
section
variable{s d s' d' n m:Nat}{t u v a b:Tm}
theorem d_.aL(h:d_ s d n t u):t.aL<=s:=by cases h<;>assumption
theorem d_.bn(h:d_ s d n t u):t.bn<=d:=by cases h<;>assumption
theorem d_.mono(h:d_ s d n t u)(av:s<=s')(hd:d<=d'):d_ s' d' n t u:=by
 induction h with
 |nil ag ai=>exact .nil (eG ag av) (eG ai hd)
 |cons ag ai aT _ bG=>exact .cons (eG ag av) (eG ai hd) aT bG
theorem d_.trans(h:d_ s d n t u)(h':d_ s d m u v):d_ s d (n+m) t v:=by
 induction h with
 |nil _ _=>rw[x4];exact h'
 |@cons n t t' u ag ai aT _ bG=>rw[show n+1+m=(n+m)+1 by omega];exact .cons ag ai aT (bG h')
theorem d_.ql(h:d_ s d n a u)(b:Tm)(av:1+s+b.aL<=s')(hd:1+max d b.bn<=d'):d_ s' d' n (.plus a b) (.plus u b):=by
 induction h with
 |nil ag ai=>exact .nil (by simp only[Tm.aL];omega) (by simp only[Tm.bn];omega)
 |cons ag ai aT _ bG=>exact .cons (by simp only[Tm.aL];omega) (by simp only[Tm.bn];omega) (aT.ql b) bG
theorem d_.qm(h:d_ s d n b u)(i:Int)(av:2+s<=s')(hd:1+d<=d'):d_ s' d' n (.plus (.whole i) b) (.plus (.whole i) u):=by
 induction h with
 |nil ag ai=>exact .nil (by simp only[Tm.aL];omega) (by simp only[Tm.bn];omega)
 |cons ag ai aT _ bG=>exact .cons (by simp only[Tm.aL];omega) (by simp only[Tm.bn];omega) (aT.qm i) bG
theorem d_.one(ag:t.e2=true)(ai:qh t)(av:t.aL<=s)(hd:t.bn<=d)(h:d_ s d n t.comes u):d_ s d (n+1) t u:=.cons av hd (.red ag ai) h
theorem d_.DP{i j:Int}{S E:Nat}(h:d_ s d n a (.whole i))(h':d_ s' d' m b (.whole j))(ag:1+s+b.aL<=S)(ai:2+s'<=S)(aT:1+max d b.bn<=E)(b6:1+d'<=E)(dp:3<=S):d_ S E (n+m+1) (.plus a b) (.whole (i+j)):=
 ((h.ql b ag aT).trans (h'.qm i ai b6)).trans (.one (n:=0) rfl trivial (by simp only[Tm.aL];omega) (by simp only[Tm.bn];omega) (.nil (by simp only[Tm.comes,Tm.aL];omega) (by simp only[Tm.comes,Tm.bn];omega)))
end
inductive oJ(t:Tm)(p:List Int)(t':Tm):Prop
 |mk (ns:List Int) (v:Tm):t.ja=some (p,ns)->t.at (p++ns)=some v->qh v->t'=Tm.oF v.comes (p++ns) t->oJ t p t'
theorem kP.cj{t t':Tm}(h:kP t t'):oJ t [] t':=by
 obtain⟨ns,v,ag,ai,aT,b6,dp⟩:=h;exact⟨ns,v,YK ag ai,aT,b6,dp⟩
theorem oJ.ql{a n4:Tm}{p:List Int}(b:Tm)(h:oJ a p n4):oJ (.pair a b) (0::p) (.pair n4 b):=by
 obtain⟨ns,v,ag,ai,aT,rfl⟩:=h;refine⟨ns,v,?_,by rw[kk,Tm.me (u:=a) (by omega) rfl];exact ai,aT,rfl⟩;unfold Tm.ja at ag ⊢;simp only[Tm.eM]
 cases e:a.eM with
 |none=>rw[e]at ag;cases ag
 | some z=>
  rw[e]at ag;simp only[]at ag ⊢
  cases aF:z.2.use with
  |none=>rw[aF]at ag;cases ag
  |some ms=>rw[aF]at ag;cases ag;rfl
theorem oJ.qm{a b gV:Tm}{p:List Int}(aB:a.i8=true)(h:oJ b p gV):oJ (.pair a b) (1::p) (.pair a gV):=by
 obtain⟨ns,v,ag,ai,aT,rfl⟩:=h;refine⟨ns,v,?_,by rw[kk,Tm.me (u:=b) (by omega) rfl];exact ai,aT,rfl⟩;have cg:=(Tm.Kp a).mpr aB;unfold Tm.ja at ag ⊢;simp only[Tm.eM,cg]
 cases e:b.eM with
 |none=>rw[e]at ag;cases ag
 | some z=>
  rw[e]at ag;simp only[]at ag ⊢
  cases aF:z.2.use with
  |none=>rw[aF]at ag;cases ag
  |some ms=>rw[aF]at ag;cases ag;rfl
inductive Top(s d:Nat):List (List Int)->Tm->Tm->Prop
 |nil {t:Tm}:t.aL<=s->t.bn<=d->Top s d [] t t
 |cons {ps:List (List Int)} {p:List Int} {t t' u:Tm}:t.aL<=s->t.bn<=d->oJ t p t'->Top s d ps t' u->Top s d (p::ps) t u
section
variable{s d s' d':Nat}{ps a7:List (List Int)}{t u v a b:Tm}
theorem Top.aL(h:Top s d ps t u):t.aL<=s:=by cases h<;>assumption
theorem Top.bn(h:Top s d ps t u):t.bn<=d:=by cases h<;>assumption
theorem Top.mono(h:Top s d ps t u)(av:s<=s')(hd:d<=d'):Top s' d' ps t u:=by
 induction h with
 |nil ag ai=>exact .nil (eG ag av) (eG ai hd)
 |cons ag ai aT _ bG=>exact .cons (eG ag av) (eG ai hd) aT bG
theorem Top.trans(h:Top s d ps t u)(h':Top s d a7 u v):Top s d (ps++a7) t v:=by
 induction h with
 |nil _ _=>exact h'
 |cons ag ai aT _ bG=>exact .cons ag ai aT (bG h')
theorem Top.ql(h:Top s d ps a u)(b:Tm)(av:1+s+b.aL<=s')(hd:1+max d b.bn<=d'):Top s' d' (ps.map (0::·)) (.pair a b) (.pair u b):=by
 induction h with
 |nil ag ai=>exact .nil (by simp only[Tm.aL];omega) (by simp only[Tm.bn];omega)
 |cons ag ai aT _ bG=>exact .cons (by simp only[Tm.aL];omega) (by simp only[Tm.bn];omega) (aT.ql b) bG
theorem Top.qm(h:Top s d ps b u)(aB:a.i8=true)(av:1+s+a.aL<=s')(hd:1+max d a.bn<=d'):Top s' d' (ps.map (1::·)) (.pair a b) (.pair a u):=by
 induction h with
 |nil ag ai=>exact .nil (by simp only[Tm.aL];omega) (by simp only[Tm.bn];omega)
 |cons ag ai aT _ bG=>exact .cons (by simp only[Tm.aL];omega) (by simp only[Tm.bn];omega) (aT.qm aB) bG
theorem d_.top{n:Nat}(h:d_ s d n t u):Top s d (fT n []) t u:=by
 induction h with
 |nil ag ai=>exact .nil ag ai
 |cons ag ai aT _ bG=>exact .cons ag ai aT.cj bG
theorem Z6(h:u.i8=true):u.ja=none:=by unfold Tm.ja;rw[(Tm.Kp u).mpr h]
theorem Top.run(h:Top s d ps t u)(av:s<=3000)(hd:d<=100)(br:u.i8=true):∀ k,(ps.length<=k->eP k t=(("answer" : Str),u,ps))/\(k<ps.length->(eP k t).1 = "more")/\GoodR k t:=by
 induction h with
 | @nil t ag ai=>
  intro k;have e:=Z6 br;refine⟨λ _=>?_,λ h=>absurd h (Nat.not_lt_zero _),?_⟩
  ·cases k<;>(unfold eP;rw[e];show (fin t,t,[])=_;rw[fin,if_pos br])
  ·cases k with
   |zero=>exact eG ag av
   |succ k=>exact⟨eG ag av,λ z v hz=>by rw[e]at hz;cases hz⟩
 | @cons ps p t t' u ag ai aT b6 bG=>
  obtain⟨ns,v,aC,aF,c6,g_⟩:=aT
  have dQ:t.behind (p++ns)=t':=by unfold Tm.behind;rw[aF];exact g_.symm
  have dG:t'.over=false:=by
   unfold Tm.over;have:=b6.aL;have:=b6.bn;rw[decide_eq_false (by omega),decide_eq_false (by omega)];rfl
  intro k
  cases k with
  |zero=>exact⟨λ h=>absurd h (by simp),λ _=>by unfold eP;rw[aC],eG ag av⟩
  | succ k=>
   obtain⟨dM,dV,wn⟩:=bG br k
   have c1:eP (k+1) t=((eP k t').1,(eP k t').2.1,p::(eP k t').2.2):=by
    rw[eP,aC];show (if (t.behind (p++ns)).over=true then _ else _)=_;rw[dQ,if_neg (by rw[dG];decide)]
   refine⟨λ h=>?_,λ h=>?_,eG ag av,λ z iW hz bu=>?_⟩
   ·rw[c1,dM (by simpa using h)]
   ·rw[c1];exact dV (by simpa using h)
   ·rw[aC]at hz;cases hz;rw[aF]at bu;cases bu;exact⟨c6,λ _=>by rw[dQ];exact wn⟩
end
noncomputable def aR.gK:aR->Tm
 |.w n=>.whole n
 |.p a b=>.pair a.gK b.gK
theorem aR.Mj(t:aR):t.gK.enc=t.enc:=by induction t<;>simp_all [aR.gK,aR.enc,Tm.enc]
theorem aR.DQ(t:aR):t.gK.i8=true:=by induction t<;>simp_all [aR.gK,Tm.i8]
theorem aR.Mk(t:aR):t.gK.aL=t.aL:=by induction t<;>simp_all [aR.gK,aR.aL,Tm.aL]
theorem aR.Z7(t:aR):t.gK.bn=t.bn:=by induction t<;>simp_all [aR.gK,aR.bn,Tm.bn]
inductive kQ:Tm->Prop
 |a:kQ (.whole 0)|b:kQ (.whole 7)|c:kQ (.first (.whole 2))
inductive kc:Bool->Tm->Tm->Prop
 |id {b:Bool} {p:Tm}:kc b p (.give (.way (.name 0)) p)
 |gI {b:Bool} {p o:Tm}:kQ o->kc b p (.give (.way p) o)
 |fs {b:Bool} {p o:Tm}:kQ o->kc b p (.first (.pair p o))
 |sn {b:Bool} {p o:Tm}:kQ o->kc b p (.second (.pair o p))
 |qd {b:Bool} {p o:Tm}:kQ o->kc b p (.look (.whole 0) p o)
 |cF {p:Tm}:kc true p (.plus p (.whole 0))
 |b_ {p o:Tm} {i:Int}:i≠0->kQ o->kc true p (.look (.whole i) o p)
noncomputable def Fix(t:Tm):Prop:=∀ a w,t.cU (ka a) w=t
theorem kQ.fix{o:Tm}(h:kQ o):Fix o:=λ a w=>by cases h<;>rfl
theorem kQ.aL{o:Tm}(h:kQ o):o.aL<=2/\o.bn<=1/\∀ w,o.cM w=[]:=by cases h<;>exact⟨by decide,by decide,λ _=>rfl⟩
theorem Ml{c:Bool}{p q:Tm}(h:kc c p q)(f:Fix p):Fix q:=by
 intro a w
 cases h with
 |id=>simp only[Tm.cU,f a w];rfl
 |gI o=>simp only[Tm.cU,f a _,o.fix a _]
 |fs o=>simp only[Tm.cU,f a _,o.fix a _]
 |sn o=>simp only[Tm.cU,f a _,o.fix a _]
 |qd o=>simp only[Tm.cU,f a _,o.fix a _]
 |cF=>simp only[Tm.cU,f a _]
 |b_ _ o=>simp only[Tm.cU,f a _,o.fix a _]
theorem Mm{c:Bool}{p q:Tm}(h:kc c p q):q.aL<=p.aL+4/\q.bn<=p.bn+3:=by
 cases h with
 |id=>simp only[Tm.aL,Tm.bn];omega
 |gI o=>have:=o.aL;simp only[Tm.aL,Tm.bn];omega
 |fs o=>have:=o.aL;simp only[Tm.aL,Tm.bn];omega
 |sn o=>have:=o.aL;simp only[Tm.aL,Tm.bn];omega
 |qd o=>have:=o.aL;simp only[Tm.aL,Tm.bn];omega
 |cF=>simp only[Tm.aL,Tm.bn];omega
 |b_ _ o=>have:=o.aL;simp only[Tm.aL,Tm.bn];omega
theorem Mn{c:Bool}{p q:Tm}{n:Nat}(h:kc c p q)(bc:∀ w,(p.cM w).length<=n):∀ w,(q.cM w).length<=n+1:=by
 intro w;have ag:=bc w;have ai:=bc (w+1)
 cases h with
 |id=>simp only[Tm.cM,dJ,o7];omega
 |gI o=>simp only[Tm.cM,dJ,o.aL.2.2,h7];omega
 |fs o=>simp only[Tm.cM,dJ,o.aL.2.2,h7];omega
 |sn o=>simp only[Tm.cM,dJ,o.aL.2.2,h7];omega
 |qd o=>simp only[Tm.cM,dJ,o.aL.2.2,h7];omega
 |cF=>simp only[Tm.cM,dJ,h7];omega
 |b_ _ o=>simp only[Tm.cM,dJ,o.aL.2.2,h7];omega
theorem Mo{c:Bool}{p q:Tm}(h:kc c p q)(f:Fix p)(hz:p.aL<=9000)(bc:(p.cM 0).length<64):(q.e2=true/\qh q/\q.comes=p)\/(c=true/\q=.plus p (.whole 0)):=by
 cases h with
 |id=>exact .inl ⟨rfl,⟨by decide,by omega,by decide,bc⟩,tF 0 p 0⟩
 |gI o=>exact .inl ⟨rfl,⟨by omega,by have:=o.aL;omega,bc,by rw[o.aL.2.2];decide⟩,f _ 0⟩
 |fs o=>exact .inl ⟨rfl,trivial,rfl⟩
 |sn o=>exact .inl ⟨rfl,trivial,rfl⟩
 |qd o=>exact .inl ⟨rfl,trivial,rfl⟩
 |cF=>exact .inr ⟨rfl,rfl⟩
 |b_ ar o=>exact .inl ⟨rfl,trivial,if_neg ar⟩
structure oK(n:Nat)(t:Tm)(v:Int):Prop where
 hO:Fix t
 nm:∀ w,(t.cM w).length<=n
 d7:d_ (1+4 * n) (3 * n) n t (.whole v)
theorem oK.nil(v:Int):oK 0 (.whole v) v:=⟨λ _ _=>rfl,λ _=>ZB _,.nil (ZB 1) (ZB 0)⟩
theorem oK.DR{n:Nat}{t q:Tm}{v:Int}(h:oK n t v)(hw:kc true t q)(bc:n<=50):oK (n+1) q v:=by
 refine⟨Ml hw h.hO,Mn hw h.nm,?_⟩;have z:=Mm hw;have s1:=h.d7.aL;have s2:=h.d7.bn;have rC:=h.nm 0;rcases Mo hw h.hO (by omega) (by omega) with⟨ag,ai,aT⟩|⟨_,rfl⟩
 ·exact .one ag ai (by omega) (by omega) (by rw[aT];exact h.d7.mono (by omega) (by omega))
 ·have:=d_.DP (j:=0) h.d7 (.nil (s:=1) (d:=0) (t:=.whole 0) (by decide) (by decide)) (S:=1+4 * (n+1)) (E:=3 * (n+1)) (by simp only[Tm.aL];omega) (by omega) (by simp only[Tm.bn];omega) (by omega) (by omega);rw[Int.add_zero,Nat.add_zero]at this;exact this
structure kR(ps:List (List Int))(t:Tm)(u:aR):Prop where
 hO:Fix t
 nm:∀ w,(t.cM w).length<=ps.length
 cj:Top (u.aL+4 * ps.length) (u.bn+3 * ps.length) ps t u.gK
theorem oK.to{n:Nat}{t:Tm}{v:Int}(h:oK n t v):kR (fT n []) t (.w v):=
 ⟨h.hO,by simpa using h.nm,by have:=h.d7.top;rw[o6];exact this.mono (ZB _) (by simp only[aR.bn];omega)⟩
theorem kR.DR{ps:List (List Int)}{t q:Tm}{u:aR}(h:kR ps t u)(hw:kc false t q)(bc:ps.length<=50)(br:u.aL<=1000):kR ([]::ps) q u:=by
 refine⟨Ml hw h.hO,Mn hw h.nm,?_⟩;have z:=Mm hw;have s1:=h.cj.aL;have s2:=h.cj.bn;have rC:=h.nm 0;rcases Mo hw h.hO (by omega) (by omega) with⟨ag,ai,aT⟩|⟨ag,_⟩
 ·rw[dt];have e:=kP.red ag ai;rw[aT]at e;exact .cons (by omega) (by omega) e.cj (h.cj.mono (by omega) (by omega))
 ·cases ag
theorem kR.pair{ps a7:List (List Int)}{a b:Tm}{x y:aR}(h:kR ps a x)(h':kR a7 b y):kR (ps.map (0::·)++a7.map (1::·)) (.pair a b) (.p x y):=by
 have cW:=h.cj.aL;have c7:=h.cj.bn;have eZ:=h'.cj.aL;have gD:=h'.cj.bn;have qZ:=x.Mk;have agU:=x.Z7;refine⟨λ c w=>by simp only[Tm.cU,h.hO c w,h'.hO c w],λ w=>?_,?_⟩
 ·have:=h.nm w;have:=h'.nm w;simp only[Tm.cM,dJ,bL];omega
 ·rw[dJ,bL,bL];refine .trans (h.cj.ql b (by simp only[aR.aL];omega) (by simp only[aR.bn];omega)) (h'.cj.qm x.DQ ?_ ?_)
  ·simp only[aR.aL];omega
  ·simp only[aR.bn];omega
noncomputable def jb(x:Tm):List Bool->Tm
 |[]=>x
 |c::bs=>if c then .plus (jb x bs) x else .plus x (jb x bs)
theorem DS(x:Tm):∀ bs,(jb x bs).aL=(bs.length+1) * x.aL+bs.length/\(jb x bs).bn<=x.bn+bs.length
 |[]=>by simp[jb]
 | c::bs=>by
  obtain⟨ag,ai⟩:=DS x bs
  have e:(bs.length+1+1) * x.aL=(bs.length+1) * x.aL+x.aL:=by rw[Nat.add_mul,Nat.one_mul]
  cases c<;>simp[jb,Tm.aL,Tm.bn,e]<;>omega
theorem Mp(a:Tm):∀ bs,(jb (.name 0) bs).cU (ka a) 0=jb a bs
 |[]=>tF 0 a 0
 |c::bs=>by cases c<;>simp only[jb,if_true,if_false,mM,Tm.cU,Mp a bs]<;>rw[show ka a 0 0=a from tF 0 a 0]
theorem DU(w:Nat):∀ bs,((jb (.name 0) bs).cM w).length=bs.length+1
 |[]=>rfl
 |c::bs=>by cases c<;>simp[jb,Tm.cM,DU w bs]<;>omega
theorem Mq{s d n:Nat}{a:Tm}{v:Int}(h:d_ s d n a (.whole v))(ag:1<=s):∀ bs:List Bool,d_ ((bs.length+1) * s+bs.length) (d+bs.length) ((bs.length+1) * n+bs.length) (jb a bs) (.whole ((bs.length+1) * v))
 |[]=>by simpa[jb] using h
 | c::bs=>by
  have bG:=Mq h ag bs;have hz:=h.aL;have hd:=h.bn;obtain⟨cW,c7⟩:=DS a bs
  have aC:(bs.length+1+1) * s=(bs.length+1) * s+s:=by rw[Nat.add_mul,Nat.one_mul]
  have aF:(bs.length+1+1) * n=(bs.length+1) * n+n:=by rw[Nat.add_mul,Nat.one_mul]
  have c6:(bs.length+1) * a.aL<=(bs.length+1) * s:=Nat.mul_le_mul_left _ hz;have g_:s<=(bs.length+1) * s:=Nat.le_mul_of_pos_left _ (by omega)
  have ev:((((c::bs).length:Nat):Int)+1) * v=((bs.length:Int)+1) * v+v:=by rw[dt,sy,Int.natCast_one,Int.add_mul (a:=(bs.length:Int)+1),Int.one_mul]
  rw[ev,dt]
  cases c with
  | true=>
   have:=d_.DP bG h (S:=(bs.length+1+1) * s+(bs.length+1)) (E:=d+(bs.length+1)) (by omega) (by omega) (by omega) (by omega) (by omega);rw[show (bs.length+1+1) * n+(bs.length+1)=(bs.length+1) * n+bs.length+n+1 by omega];exact this
  | false=>
   have:=d_.DP h bG (S:=(bs.length+1+1) * s+(bs.length+1)) (E:=d+(bs.length+1)) (by omega) (by omega) (by omega) (by omega) (by omega);rw[show (bs.length+1+1) * n+(bs.length+1)=n+((bs.length+1) * n+bs.length)+1 by omega,Int.add_comm (_ * v) v];exact this
noncomputable def qn(a:Tm)(bs:List Bool):Tm:=.give (.way (jb (.name 0) bs)) a
structure qo(s d n m:Nat)(t:Tm)(v:Int):Prop where
 d7:d_ s d n t (.whole v)
 nm:∀ w,(t.cM w).length<=m
 one:1<=s
theorem qo.nil(v:Int):qo 1 0 0 0 (.whole v) v:=⟨.nil (ZB 1) (ZB 0),λ _=>ZB _,ZB _⟩
theorem qo.add{s d n m:Nat}{t:Tm}{v:Int}(h:qo s d n m t v)(bs:List Bool)(av:s<=9000)(hm:m<64)(af:bs.length<=20):qo ((bs.length+1) * s+2 * bs.length+3) (d+bs.length+3) ((bs.length+1) * n+bs.length+1) (m+bs.length+1) (qn t bs) ((bs.length+1) * v):=by
 have hz:=h.d7.aL;have hd:=h.d7.bn;obtain⟨cW,c7⟩:=DS (.name 0) bs;have g_:s<=(bs.length+1) * s:=Nat.le_mul_of_pos_left _ (by omega);have zn:(Tm.name 0).aL=1:=rfl;have agV:(Tm.name 0).bn=0:=rfl;rw[zn,Nat.mul_one]at cW;refine⟨.one rfl ⟨by omega,by omega,by rw[DU];omega,by have:=h.nm 0;omega⟩ ?_ ?_ ?_,λ w=>?_,by omega⟩
 ·simp only[qn,Tm.aL];omega
 ·simp only[qn,Tm.bn];omega
 ·show d_ _ _ _ ((jb (.name 0) bs).cU (ka t) 0) _;rw[Mp];exact(Mq h.d7 h.one bs).mono (by omega) (by omega)
 ·have:=h.nm w;simp only[qn,Tm.cM,dJ,DU];omega
theorem Z8{v:Int}{b1 b2 b3:List Bool}(ag:b1.length=9)(ai:b2.length=8)(aT:b3.length=3):qo 1300 40 400 30 (qn (qn (qn (.whole v) b1) b2) b3) (360 * v):=by
 have a1:=(qo.nil v).add b1 (by decide) (by decide) (by omega);rw[ag]at a1;have a2:=a1.add b2 (by decide) (by decide) (by omega);rw[ai]at a2;have i1:=a2.add b3 (by decide) (by decide) (by omega);rw[aT]at i1
 have ev:((3:Nat)+1:Int) * (((8:Nat)+1:Int) * (((9:Nat)+1:Int) * v))=360 * v:=by omega
 rw[ev]at i1;exact⟨i1.d7.mono (by decide) (by decide),λ w=>eG (i1.nm w) (by decide),by decide⟩
theorem Z9{v:Int}{t:Tm}(h:qo 1300 40 400 30 t v):d_ 1310 50 401 (.give (.way (.name 0)) t) (.whole v):=by
 have hz:=h.d7.aL;have hd:=h.d7.bn;refine .one rfl ⟨by decide,by omega,by decide,by have:=h.nm 0;omega⟩ (by simp only[Tm.aL];omega) (by simp only[Tm.bn];omega) ?_;show d_ _ _ _ (t.cU (gf 0 0) 0) _;rw[tF];exact h.d7.mono (by decide) (by decide)
end L3
namespace L3
open PySem L2
noncomputable def fL(ns:List Int):Prop:=∀ k∈ns,k=0\/k=1
noncomputable def dh(ns:List Int):List Key:=ns.map λ k=>.inr (fl k)
theorem DV(ns:List Int):cB ns=hD (dh ns):=by
 unfold cB hD dh;rw[gw];rfl
theorem h3(ns:List Int):nC (cB ns)=some (dh ns):=by rw[DV,LZ]
theorem tN:∀{ns ms:List Int},fL ns->fL ms->dh ns=dh ms->ns=ms
 |[],[],_,_,_=>rfl
 |[],_::_,_,_,h=>by cases h
 |_::_,[],_,_,h=>by cases h
 | n::ns,m::ms,ag,ai,h=>by
  injection h with aC aF;rw[tN (λ k aI=>ag k (eE _ aI)) (λ k aI=>ai k (eE _ aI)) aF];rcases ag n (dP ..) with rfl|rfl<;>rcases ai m (dP ..) with rfl|rfl
  ·rfl
  ·exact absurd aC (by decide)
  ·exact absurd aC (by decide)
  ·rfl
theorem nD(bq:List Key×D)(kvs:List (List Key×D))(j:List Key):d2 (bq::kvs) j=if bq.1=j then some bq.2 else d2 kvs j:=by
 unfold d2;rw[jH];by_cases c:bq.1=j
 ·simp[c]
 ·simp[c]
theorem Z_(a b:List (List Key×D))(j:List Key):d2 (a++b) j=(d2 a j).or (d2 b j):=by
 induction a with
 |nil=>rfl
 |cons x a bG=>rw[kk,nD,nD,bG];split<;>rfl
theorem Ac:∀(kvs:List (List Key×D))(k:List Key),(kvs.any λ bq=>decide (bq.1=k))=(d2 kvs k).isSome
 |[],_=>rfl
 | x::kvs,k=>by
  rw[jG,nD,Ac kvs k];by_cases c:x.1=k<;>simp[c]
theorem Mr:∀(kvs:List (List Key×D))(k j:List Key)(y:D),d2 (kvs.map λ bq=>if bq.1=k then (bq.1,y) else bq) j=if j=k/\(d2 kvs k).isSome=true then some y else d2 kvs j
 |[],k,j,y=>by simp[d2]
 | x::kvs,k,j,y=>by
  rw[cV,nD,Mr kvs k j y,nD,nD];by_cases c:x.1=k
  ·subst c;by_cases dS:j=x.1
   ·subst dS;simp
   ·simp[dS,Ne.symm dS]
  ·by_cases dS:x.1=j
   ·subst dS;simp[c]
   ·simp[c,dS]
theorem aac(kvs:List (List Key×D))(k j:List Key)(y:D):d2 (fJ kvs k y) j=if j=k then some y else d2 kvs j:=by
 unfold fJ;rw[Ac];split
 ·next h=>rw[Mr];simp[h]
 ·next h=>
  rw[Z_,nD]
  have bc:d2 kvs k=none:=by cases e:d2 kvs k with|none=>rfl|some d=>rw[e]at h;exact absurd rfl h
  by_cases c:j=k
  ·subst c;simp[bc]
  ·rw[if_neg (Ne.symm c),if_neg c];cases d2 kvs j<;>rfl
theorem Ms{kvs:List (List Key×D)}{k:List Key}(y:D)(h:d2 kvs k=none):fJ kvs k y=kvs++[(k,y)]:=by
 unfold fJ;rw[Ac,h,if_neg (by simp)]
section
variable{kvs:List (List Key×D)}{f:List Int->Int}{ns ms:List Int}{v:Int}
theorem nE(z:fL ns)(gT:fL ms):d2 (fJ kvs (dh ns) (.int v)) (dh ms)=if ms=ns then some (.int v) else d2 kvs (dh ms):=by
 rw[aac];by_cases c:ms=ns
 ·subst c;rw[if_pos rfl,if_pos rfl]
 ·rw[if_neg c,if_neg λ e=>c (tN gT z e)]
noncomputable def jc(kvs:List (List Key×D))(f:List Int->Int):Prop:=∀ ns,fL ns->(d2 kvs (dh ns)).getD (.int 0)=.int (f ns)
theorem jc.put(h:jc kvs f)(z:fL ns):jc (fJ kvs (dh ns) (.int v)) (λ ms=>if ms=ns then v else f ms):=λ ms gT=>by
 rw[nE z gT];by_cases c:ms=ns
 ·rw[if_pos c];simp only[if_pos c];rfl
 ·rw[if_neg c];simp only[if_neg c];exact h ms gT
theorem jc.nil:jc [] λ _=>0:=λ _ _=>rfl
theorem jc.cnt{ps:List (List Int)}(h:jc kvs λ ns=>ps.count ns)(z:fL ns):jc (fJ kvs (dh ns) (.int ((ps.count ns:Int)+1))) λ ms=>(ps++[ns]).count ms:=by
 have ag:=h.put (v:=(ps.count ns:Int)+1) z;intro ms gT;rw[ag ms gT];show D.int (if ms=ns then (ps.count ns:Int)+1 else ps.count ms)=.int ((ps++[ns]).count ms:Nat);rw[List.count_append];by_cases c:ms=ns
 ·subst c;rw[if_pos rfl];simp
 ·rw[if_neg c,List.count_singleton,show (ns==ms)=false by simpa using Ne.symm c];simp
end
noncomputable def aR.bA(u:aR):List (List Int):=u.all.map (·.1)
theorem wV(a b:aR):(aR.p a b).bA=[]::(a.bA.map (0::·)++b.bA.map (1::·)):=by
 unfold aR.bA;rw[aR.all,cV,fN,gw,gw,gw,gw];rfl
theorem ip(u:aR):∀ r∈u.bA,fL r:=λ r aq=>by
 obtain⟨z,hz,rfl⟩:=eF.mp aq;exact(aR.rD hz).2
theorem tO:∀ u:aR,u.bA.Nodup
 |.w n=>by simp[aR.bA,aR.all]
 | .p a b=>by
  rw[wV,jj];refine⟨by simp,xX.mpr ⟨?_,?_,?_⟩⟩
  ·exact(List.pairwise_map.mpr ((tO a).imp λ h c=>h (by injection c)))
  ·exact(List.pairwise_map.mpr ((tO b).imp λ h c=>h (by injection c)))
  ·intro x aA y bj e;obtain⟨agW,_,rfl⟩:=eF.mp aA;obtain⟨Ub,_,rfl⟩:=eF.mp bj;injection e with e;exact absurd e (by decide)
theorem rW:∀(u:aR)(m:Nat)(r:List Int),u.bA[m]?=some r->r=[]\/r.dropLast∈u.bA.take m
 | .w n,m,r,h=>by
  have:r∈(aR.w n).bA:=gj h;left;simpa[aR.bA,aR.all] using this
 |.p a b,0,r,h=>by rw[wV]at h;left;simpa using h.symm
 | .p a b,m+1,r,h=>by
  right;rw[wV,xT]at h;rw[wV,xU];by_cases c:m<a.bA.length
  ·rw[ki (by simpa using c),dF]at h;obtain⟨de,ag,rfl⟩:=pc.mp h;rcases rW a m de ag with rfl|ai
   ·exact dP ..
   ·have cE:de≠[]\/de=[]:=by cases de<;>simp
    rcases cE with cE|rfl
    ·rw[List.dropLast_cons_of_ne_nil cE];refine eE _ ?_;rw[List.take_append_of_le_length (by rw[bL];omega),<- List.map_take];exact iy ai
    ·exact dP ..
  ·rw[mI (by rw[bL];omega),dF,bL]at h;obtain⟨de,ag,rfl⟩:=pc.mp h;rcases rW b _ de ag with rfl|ai
   ·exact dP ..
   ·have cE:de≠[]\/de=[]:=by cases de<;>simp
    rcases cE with cE|rfl
    ·rw[List.dropLast_cons_of_ne_nil cE];refine eE _ ?_;rw[List.take_append,bL,<- List.map_take (i:=m - a.bA.length)];exact gi _ (iy ai)
    ·exact dP ..
theorem Mt(u:aR):u.bA[0]?=some []:=by cases u<;>rfl
theorem aad{u:aR}{m:Nat}{r:List Int}{k:Int}(h:u.bA[m]?=some r)(aI:r++[k]∈u.bA):r++[k]∈u.bA.drop (m+1):=by
 obtain⟨j,bW⟩:=qP.mp aI;rcases rW u j _ bW with e|ai
 ·simp at e
 rw[List.dropLast_concat]at ai;obtain⟨i,ar⟩:=qP.mp ai;rw[List.getElem?_take]at ar;split at ar
 ·next KP=>
  have e:i=m:=by
   have a1:=f5.mp ar;have a2:=f5.mp h;exact(List.getElem_inj (h₀:=a1.1) (h₁:=a2.1) (tO u)).mp (a1.2.trans a2.2.symm)
  subst e;refine qP.mpr ⟨j - (i+1),?_⟩;rw[List.getElem?_drop,show i+1+(j - (i+1))=j by omega];exact bW
 ·cases ar
theorem Mu{u:aR}:∀(n:Nat){x q:List Int},q.length=n->q∈u.bA->x <+: q->x∈u.bA
 | 0,x,q,bc,aV,h=>by
  have:q=[]:=List.length_eq_zero_iff.mp bc;subst this;rw[List.prefix_nil.mp h];exact aV
 | n+1,x,q,bc,aV,h=>by
  obtain⟨m,hm⟩:=qP.mp aV;rcases rW u m q hm with rfl|ai
  ·simp at bc
  have cE:q≠[]:=by rintro rfl;simp at bc
  have eq:q.dropLast++[q.getLast cE]=q:=List.dropLast_concat_getLast cE;rw[<- eq]at h;rcases List.prefix_concat_iff.mp h with e|aT
  ·rw[e,eq];exact aV
  ·exact Mu n (by rw[List.length_dropLast];omega) (o_ ai) aT
section
variable{ps:List (List Int)}
noncomputable def mu(ps:List (List Int))(r:List Int):Int:=ps.countP λ q=>decide (q≠r/\q <+: r)
noncomputable def gR(ps:List (List Int))(r:List Int):Int:=ps.countP λ q=>decide (r <+: q)
noncomputable def cst(ps:List (List Int))(r:List Int):Int:=ps.countP λ q=>decide (r <+: q\/q <+: r)
theorem wW{P A B:List Int->Bool}:∀{ps:List (List Int)},(∀ q∈ps,(P q=true ↔ (A q=true\/B q=true))/\¬ (A q=true/\B q=true))->ps.countP P=ps.countP A+ps.countP B
 |[],_=>rfl
 | q::ps,h=>by
  have bG:=wW (ps:=ps) λ x aA=>h x (eE _ aA);obtain⟨ag,ai⟩:=h q (dP ..);rw[List.countP_cons,List.countP_cons,List.countP_cons,bG];cases aC:P q<;>cases aF:A q<;>cases c6:B q<;>simp[aC,aF,c6]at ag ai ⊢<;>omega
theorem aae(r:List Int):cst ps r=mu ps r+gR ps r:=by
 unfold cst mu gR;rw[<- sy,wW (A:=λ q=>decide (q≠r/\q <+: r)) (B:=λ q=>decide (r <+: q))];intro q _;simp only[decide_eq_true_eq];refine⟨⟨λ h=>?_,λ h=>?_⟩,λ⟨⟨ag,ai⟩,aT⟩=>ag (ai.eq_of_length (Nat.le_antisymm ai.length_le aT.length_le))⟩
 ·by_cases c:q=r
  ·subst c;exact .inr (List.prefix_refl _)
  ·rcases h with h|h
   ·exact .inr h
   ·exact .inl ⟨c,h⟩
 ·rcases h with h|h
  ·exact .inr h.2
  ·exact .inl h
theorem aaf:mu ps []=0:=by
 unfold mu;rw[List.countP_eq_zero.mpr λ q _=>by simp only[decide_eq_true_eq,List.prefix_nil];exact λ h=>h.1 h.2];rfl
theorem Mv(r:List Int):ps.countP (λ q=>decide (q=r))=ps.count r:=by
 rw[List.count_eq_countP];exact List.countP_congr λ q _=>by simp
theorem Mw{r:List Int}(h:r≠[]):mu ps r=mu ps r.dropLast+ps.count r.dropLast:=by
 unfold mu;rw[<- Mv,<- sy,wW (A:=λ q=>decide (q≠r.dropLast/\q <+: r.dropLast)) (B:=λ q=>decide (q=r.dropLast))];intro q _;simp only[decide_eq_true_eq];have eq:r.dropLast++[r.getLast h]=r:=List.dropLast_concat_getLast h;generalize r.dropLast=x at eq ⊢;generalize r.getLast h=k at eq;subst eq;rw[List.prefix_concat_iff];refine⟨⟨λ⟨ag,ai⟩=>?_,λ h=>?_⟩,λ⟨⟨ag,_⟩,ai⟩=>ag ai⟩
 ·rcases ai with ai|ai
  ·exact absurd ai ag
  ·by_cases c:q=x
   ·exact .inr c
   ·exact .inl ⟨c,ai⟩
 ·have ai:q <+: x:=h.elim (·.2) λ e=>e ▸ List.prefix_refl _;refine⟨λ e=>?_,.inr ai⟩;have:=ai.length_le;rw[e]at this;simp at this;omega
theorem aag{r q:List Int}(z:fL q):(r <+: q ↔ (q=r\/(r++[0] <+: q\/r++[1] <+: q))):=by
 constructor
 ·rintro⟨s,rfl⟩
  cases s with
  |nil=>left;simp
  | cons k s=>
   right;rcases z k (by simp) with rfl|rfl
   ·left;exact⟨s,by simp⟩
   ·right;exact⟨s,by simp⟩
 ·rintro(rfl|h|h)
  ·exact List.prefix_refl _
  ·exact(List.prefix_append r [0]).trans h
  ·exact(List.prefix_append r [1]).trans h
theorem aah(z:∀ q∈ps,fL q)(r:List Int):gR ps r=ps.count r+(gR ps (r++[0])+gR ps (r++[1])):=by
 unfold gR;rw[<- Mv,<- sy,<- sy,wW (A:=λ q=>decide (q=r)) (B:=λ q=>decide (r++[0] <+: q\/r++[1] <+: q)),wW (P:=λ q=>decide (r++[0] <+: q\/r++[1] <+: q)) (A:=λ q=>decide (r++[0] <+: q)) (B:=λ q=>decide (r++[1] <+: q))]
 ·intro q _;simp only[decide_eq_true_eq,true_and];rintro⟨ag,ai⟩;have e:=List.prefix_of_prefix_length_le ag ai (by simp);have:=e.eq_of_length (by simp);simp at this
 ·intro q aV;simp only[decide_eq_true_eq];refine⟨aag (z q aV),?_⟩;rintro⟨rfl,h|h⟩<;>(have:=h.length_le;simp at this;omega)
theorem aai{u:aR}(ax:∀ q∈ps,q∈u.bA){x:List Int}(h:x ∉ u.bA):gR ps x=0:=by
 unfold gR
 rw[List.countP_eq_zero.mpr λ q aV=>by
  simp only[decide_eq_true_eq]
  exact λ c=>h (Mu _ rfl (ax q aV) c)];rfl
end
section
variable{u:aR}{ps:List (List Int)}{kvs:List (List Key×D)}{m:Nat}{r:List Int}
noncomputable def wX(u:aR)(ps:List (List Int))(m:Nat)(kvs:List (List Key×D)):Prop:=∀ r∈u.bA.take m,d2 kvs (dh r)=some (.int (mu ps r))
theorem wY{m:Nat}(h:u.bA[m]?=some r){x:List Int}:x∈u.bA.take (m+1) ↔ x∈u.bA.take m\/x=r:=by
 rw[jl,h,hF];simp
theorem wX.step(h:wX u ps m kvs)(aq:u.bA[m]?=some r)(bc:r≠[]):d2 kvs (dh r.dropLast)=some (.int (mu ps r.dropLast))/\wX u ps (m+1) (fJ kvs (dh r) (.int (mu ps r.dropLast+ps.count r.dropLast))):=by
 have z:=ip u r (gj aq);have ax:=(rW u m r aq).resolve_left bc;refine⟨h _ ax,λ x aA=>?_⟩;have mv:=ip u x (o_ aA);rw[nE z mv];rcases(wY aq).mp aA with aA|rfl
 ·by_cases c:x=r
  ·subst c;rw[if_pos rfl,<- Mw bc]
  ·rw[if_neg c];exact h x aA
 ·rw[if_pos rfl,<- Mw bc]
noncomputable def qp(u:aR)(ps:List (List Int))(m:Nat)(x:List Int):Int:=(if x++[0]∈u.bA.drop m then gR ps (x++[0]) else 0)+(if x++[1]∈u.bA.drop m then gR ps (x++[1]) else 0)
structure ly(u:aR)(ps:List (List Int))(m:Nat)(kvs:List (List Key×D)):Prop where
 on:∀ r∈u.bA.drop m,d2 kvs (dh r)=some (.int (gR ps r))
 hd:∀ x∈u.bA.take m,(d2 kvs (dh x)).getD (.int 0)=.int (qp u ps m x)
theorem ly.nil:ly u ps u.bA.length [] where
 on:=λ r aq=>by rw[List.drop_length]at aq;cases aq
 hd:=λ x _=>by
  unfold qp;rw[List.drop_length,if_neg (by simp),if_neg (by simp)];rfl
theorem kS{m:Nat}(h:u.bA[m]?=some r){x:List Int}:x∈u.bA.drop m ↔ x=r\/x∈u.bA.drop (m+1):=by
 obtain⟨aH,e⟩:=f5.mp h;rw[nU aH,e,dw]
theorem DW{m:Nat}(h:u.bA[m]?=some r):r ∉ u.bA.drop (m+1):=by
 obtain⟨aH,e⟩:=f5.mp h;have aS:=(tO u).sublist (uy m _);rw[nU aH,e]at aS;exact(jj.mp aS).1
theorem wZ{m:Nat}{x:List Int}(h:x∈u.bA.take m):x ∉ u.bA.drop m:=λ c=>by
 have aS:=tO u;rw[<- o9 m u.bA]at aS;exact(xX.mp aS).2.2 x h x c rfl
theorem ly.at(h:ly u ps (m+1) kvs)(aq:u.bA[m]?=some r)(ax:∀ q∈ps,q∈u.bA):(d2 kvs (dh r)).getD (.int 0)=.int (gR ps r - ps.count r):=by
 have e:=h.hd r ((wY aq).mpr (.inr rfl));rw[e];have st:=aah (ps:=ps) (λ q aV=>ip u q (ax q aV)) r
 have Mx:∀ k:Int,(if r++[k]∈u.bA.drop (m+1) then gR ps (r++[k]) else 0)=gR ps (r++[k]):=λ k=>by
  by_cases c:r++[k]∈u.bA
  ·rw[if_pos (aad aq c)]
  ·rw[if_neg λ z=>c (List.mem_of_mem_drop z),aai ax c]
 have aF:qp u ps (m+1) r=gR ps r - ps.count r:=by
  unfold qp;rw[Mx 0,Mx 1,st];omega
 rw[aF]
theorem l3:fL []:=λ k aI=>by cases aI
theorem ly.root(h:ly u ps (m+1) kvs)(aq:u.bA[m]?=some []):ly u ps m (fJ kvs (dh []) (.int (gR ps []))) where
 on:=λ x aA=>by
  have mv:=ip u x (List.mem_of_mem_drop aA);rw[nE l3 mv];rcases(kS aq).mp aA with rfl|aA
  ·rw[if_pos rfl]
  ·rw[if_neg λ c=>by rw[c]at aA;exact DW aq aA];exact h.on x aA
 hd:=λ x aA=>by
  have mv:=ip u x (o_ aA);have cE:x≠[]:=λ c=>wZ aA ((kS aq).mpr (.inl c));rw[nE l3 mv,if_neg cE,h.hd x ((wY aq).mpr (.inl aA))];have e:∀ k:Int,(x++[k]∈u.bA.drop m)=(x++[k]∈u.bA.drop (m+1)):=λ k=>propext ⟨λ c=>((kS aq).mp c).resolve_left (by simp),λ c=>(kS aq).mpr (.inr c)⟩;unfold qp;simp only[e]
theorem ly.step(h:ly u ps (m+1) kvs)(aq:u.bA[m]?=some r)(bc:r≠[]):∃ c:Int,(d2 (fJ kvs (dh r) (.int (gR ps r))) (dh r.dropLast)).getD (.int 0)=.int c/\ly u ps m (fJ (fJ kvs (dh r) (.int (gR ps r))) (dh r.dropLast) (.int (c+gR ps r))):=by
 have z:=ip u r (gj aq);have ax:=(rW u m r aq).resolve_left bc;have qc:=ip u _ (o_ ax);have ne:r.dropLast≠r:=λ c=>wZ ax ((kS aq).mpr (.inl c));refine⟨qp u ps (m+1) r.dropLast,?_,?_,?_⟩
 ·rw[nE z qc,if_neg ne];exact h.hd _ ((wY aq).mpr (.inl ax))
 ·intro x aA;have mv:=ip u x (List.mem_of_mem_drop aA);rw[nE qc mv,if_neg λ c=>by rw[c]at aA;exact wZ ax aA,nE z mv];rcases(kS aq).mp aA with rfl|aA
  ·rw[if_pos rfl]
  ·rw[if_neg λ c=>by rw[c]at aA;exact DW aq aA];exact h.on x aA
 ·intro x aA;have mv:=ip u x (o_ aA);have nx:x≠r:=λ c=>wZ aA ((kS aq).mpr (.inl c));have eq:r.dropLast++[r.getLast bc]=r:=List.dropLast_concat_getLast bc;rw[nE qc mv];by_cases c:x=r.dropLast
  ·subst c;rw[if_pos rfl];have aH:=z (r.getLast bc) (List.getLast_mem bc);have c5:=DW aq;have e:∀ k:Int,k≠r.getLast bc->(r.dropLast++[k]∈u.bA.drop m)=(r.dropLast++[k]∈u.bA.drop (m+1)):=λ k aI=>propext ⟨λ c=>((kS aq).mp c).resolve_left (λ e=>aI (by have b0:=e.trans eq.symm;simpa using List.append_cancel_left b0)),λ c=>(kS aq).mpr (.inr c)⟩;have y:r∈u.bA.drop m:=(kS aq).mpr (.inl rfl);show D.int _=D.int _;unfold qp;rcases aH with h0|ag
   ·have cg:r.dropLast++[0]=r:=by rw[<- h0];exact eq
    simp only[e 1 (by rw[h0];decide)];rw[cg,if_neg c5,if_pos y];congr 1;omega
   ·have aC:r.dropLast++[1]=r:=by rw[<- ag];exact eq
    simp only[e 0 (by rw[ag];decide)];rw[aC,if_neg c5,if_pos y];congr 1;omega
  ·rw[if_neg c,nE z mv,if_neg nx,h.hd x ((wY aq).mpr (.inl aA))];have e:∀ k:Int,(x++[k]∈u.bA.drop m)=(x++[k]∈u.bA.drop (m+1)):=λ k=>propext ⟨λ q=>((kS aq).mp q).resolve_left (λ e=>c (by rw[<- e,List.dropLast_concat])),λ c=>(kS aq).mpr (.inr c)⟩;unfold qp;simp only[e]
end
end L3
namespace L3
open PySem L2
noncomputable def kd(f:List Int->Int):aR->List Int->List (List Int)
 |.w _,cv=>fT (f cv).toNat []
 |.p x y,cv=>fT (f cv).toNat []++((kd f x (cv++[0])).map (0::·)++(kd f y (cv++[1])).map (1::·))
theorem DX(k:Int)(q:List Int):∀ ps:List (List Int),(ps.map (k::·)).count (k::q)=ps.count q
 |[]=>rfl
 | p::ps=>by
  rw[cV,List.count_cons,List.count_cons,DX k q ps];by_cases c:p=q
  ·subst c;simp
  ·have dS:¬ (k::p=k::q):=λ e=>c (by injection e);simp[c]
theorem Ad{k j:Int}(h:j≠k)(q:List Int)(ps:List (List Int)):(ps.map (k::·)).count (j::q)=0:=by
 rw[List.count_eq_zero];intro c;obtain⟨x,_,e⟩:=eF.mp c;injection e with e;exact h e.symm
theorem My(k:Int)(ps:List (List Int)):(ps.map (k::·)).count []=0:=by
 rw[List.count_eq_zero];intro c;obtain⟨x,_,e⟩:=eF.mp c;cases e
theorem DY(f:List Int->Int):∀(u:aR)(cv q:List Int),(kd f u cv).count q=if q∈u.bA then (f (cv++q)).toNat else 0
 | .w n,cv,q=>by
  have e:(aR.w n).bA=[[]]:=rfl;rw[kd,e,List.count_replicate]
  by_cases c:q=[]
  ·subst c;simp
  ·rw[if_neg (by simpa using Ne.symm c),if_neg (by simpa using c)]
 | .p x y,cv,q=>by
  rw[kd,wV,List.count_append,List.count_append,List.count_replicate]
  cases q with
  |nil=>rw[My,My];simp
  | cons k q=>
   rw[if_neg (by simp)];by_cases Ae:k=0
   ·subst Ae;rw[DX,Ad (by decide),DY f x,mK,xZ]
    have e:(0::q∈[]::(x.bA.map (0::·)++y.bA.map (1::·)))=(q∈x.bA):=by simp
    simp only[e];omega
   ·by_cases ew:k=1
    ·subst ew;rw[DX,Ad (by decide),DY f y,mK,xZ]
     have e:(1::q∈[]::(x.bA.map (0::·)++y.bA.map (1::·)))=(q∈y.bA):=by simp
     simp only[e];omega
    ·rw[Ad Ae,Ad ew,if_neg];simp only[dw,hF,eF,reduceCtorEq,false_or,not_or];exact⟨λ⟨z,_,e⟩=>by injection e with e;exact Ae e.symm,λ⟨z,_,e⟩=>by injection e with e;exact ew e.symm⟩
theorem aaj{u:aR}{L:List (List Int)}(h:∀ q∈L,q∈u.bA):(kd (λ ns=>L.count ns) u []).Perm L:=by
 rw[List.perm_iff_count];intro q;rw[DY,List.nil_append];by_cases c:q∈u.bA
 ·rw[if_pos c];simp
 ·rw[if_neg c,List.count_eq_zero.mpr λ z=>c (h q z)]
theorem aak{ps L:List (List Int)}(h:ps.Perm L)(r:List Int):cst ps r=cst L r:=by unfold cst;rw[h.countP_eq]
noncomputable def kT(u:aR)(ps:List (List Int)):List (List Key×D):=u.bA.map λ r=>(dh r,.int (cst ps r))
theorem aal{u:aR}{ps L:List (List Int)}(h:ps.Perm L):kT u ps=kT u L:=by
 unfold kT;simp only[aak h]
theorem Mz{u:aR}{m:Nat}{r:List Int}{g:List Int->Int}(aq:u.bA[m]?=some r):fJ ((u.bA.take m).map λ r=>(dh r,.int (g r))) (dh r) (.int (g r))=(u.bA.take (m+1)).map λ r=>(dh r,.int (g r)):=by
 have bc:r ∉ u.bA.take m:=λ c=>wZ c ((kS aq).mpr (.inl rfl));have z:=ip u r (gj aq)
 have key:∀ l:List (List Int),(∀ x∈l,fL x)->r ∉ l->d2 (l.map λ r=>(dh r,D.int (g r))) (dh r)=none:=by
  intro l
  induction l with
  |nil=>intro _ _;rfl
  | cons x l bG=>
   intro ag ai;rw[cV,nD,if_neg λ e=>ai (by rw[tN (ag x (dP ..)) z e];exact dP ..)];exact bG (λ y bj=>ag y (eE _ bj)) λ c=>ai (eE _ c)
 rw[Ms _ (key _ (λ x aA=>ip u x (o_ aA)) bc),jl,aq,fN];rfl
noncomputable abbrev qq(q:List Int×Int):List Key×D:=(dh q.1,.int q.2)
structure qr(u:aR)(kvs:List (List Key×D))(L:List (List Int)):Prop where
 mem:∀ q∈L,q∈u.bA
 hW:jc kvs λ ns=>L.count ns
 a7:∃ a7:List (List Int×Int),kvs=a7.map qq/\(∀ q∈a7,fL q.1)/\(a7.map (·.1)).Nodup/\∀ P:List Int->Bool,(a7.map λ q=>if P q.1 then q.2 else 0).sum=(L.countP P:Int)
theorem qr.nil(u:aR):qr u [] []:=⟨λ _ h=>(by cases h),jc.nil,[],rfl,λ _ h=>(by cases h),List.nodup_nil,λ _=>rfl⟩
theorem DZ:∀{a7:List (List Int×Int)},(∀ q∈a7,fL q.1)->(a7.map (·.1)).Nodup->∀ q∈a7,d2 (a7.map qq) (dh q.1)=some (.int q.2)
 |[],_,_,q,aV=>by cases aV
 | x::a7,ag,ai,q,aV=>by
  rw[cV,jj]at ai;rw[cV,nD];rcases dw.mp aV with rfl|aV
  ·rw[if_pos rfl]
  ·rw[if_neg λ e=>ai.1 (by rw[tN (ag x (dP ..)) (ag q (eE _ aV)) e];exact iy aV)];exact DZ (λ y bj=>ag y (eE _ bj)) ai.2 q aV
theorem MA:∀{a7:List (List Int×Int)}{ns:List Int},(∀ q∈a7,fL q.1)->fL ns->ns ∉ a7.map (·.1)->d2 (a7.map qq) (dh ns)=none
 |[],_,_,_,_=>rfl
 | x::a7,ns,ag,z,h=>by
  rw[cV,nD,if_neg λ e=>h (by rw[<- tN (ag x (dP ..)) z e,cV];exact dP ..)];exact MA (λ y bj=>ag y (eE _ bj)) z λ c=>h (by rw[cV];exact eE _ c)
theorem MB:∀{a7:List (List Int×Int)}{ns:List Int}{v:Int},(∀ q∈a7,fL q.1)->fL ns->(a7.map qq).map (λ bq=>if bq.1=dh ns then (bq.1,D.int v) else bq)=(a7.map λ q=>if q.1=ns then (q.1,v) else q).map qq
 |[],_,_,_,_=>rfl
 | x::a7,ns,v,ag,z=>by
  rw[cV,cV,cV,cV,MB (λ y bj=>ag y (eE _ bj)) z];congr 1;by_cases c:x.1=ns
  ·rw[if_pos c,if_pos (by show dh x.1=_;rw[c])]
  ·rw[if_neg c,if_neg λ e=>c (tN (ag x (dP ..)) z e)]
theorem MC{P:List Int->Bool}:∀{a7:List (List Int×Int)}{ns:List Int}{c:Int},(a7.map (·.1)).Nodup->(ns,c)∈a7->((a7.map λ q=>if q.1=ns then (q.1,c+1) else q).map λ q=>if P q.1 then q.2 else 0).sum=(a7.map λ q=>if P q.1 then q.2 else 0).sum+(if P ns then 1 else 0)
 |[],_,_,_,h=>by cases h
 | x::a7,ns,c,aS,h=>by
  rw[cV,jj]at aS;rw[cV,cV,cV,sm,sm];rcases dw.mp h with rfl|h
  ·have e:(a7.map λ q=>if q.1=ns then (q.1,c+1) else q)=a7:=by
    have:∀ q∈a7,(if q.1=ns then (q.1,c+1) else q)=q:=λ q aV=>if_neg λ e=>aS.1 (eF.mpr ⟨q,aV,e⟩);exact(xQ this).trans (List.map_id _)
   rw[e,if_pos rfl];by_cases p:P ns=true
   ·simp only[p,if_true];omega
   ·simp[p]
  ·have e:x.1≠ns:=λ e=>aS.1 (by rw[e];exact iy (f:=(·.1)) h);rw[if_neg e,MC aS.2 h];omega
theorem qr.put{u:aR}{kvs:List (List Key×D)}{L:List (List Int)}(h:qr u kvs L){ns:List Int}(hm:ns∈u.bA):qr u (fJ kvs (dh ns) (.int ((L.count ns:Int)+1))) (L++[ns]):=by
 have z:=ip u ns hm;refine⟨λ q aV=>?_,h.hW.cnt z,?_⟩
 ·rcases hF.mp aV with aV|aV
  ·exact h.mem q aV
  ·rw[ft.mp aV];exact hm
 obtain⟨a7,rfl,ag,ai,aT⟩:=h.a7
 have ax:∀ P:List Int->Bool,((L++[ns]).countP P:Int)=(L.countP P:Int)+if P ns then 1 else 0:=λ P=>by
  rw[List.countP_append,List.countP_singleton];split<;>simp
 by_cases c:ns∈a7.map (·.1)
 ·obtain⟨⟨j9,v⟩,aV,rfl⟩:=eF.mp c;have ev:=DZ ag ai _ aV;have c1:=h.hW j9 z;rw[ev]at c1
  have kB:v=L.count j9:=by injection c1
  refine⟨a7.map λ q=>if q.1=j9 then (q.1,(L.count j9:Int)+1) else q,?_,λ q aV=>?_,?_,λ P=>?_⟩
  ·unfold fJ;rw[Ac,ev,if_pos (by rfl)];exact MB ag z
  ·obtain⟨y,bj,rfl⟩:=eF.mp aV;split<;>exact ag y bj
  ·rw[gw]
   have:(λ q:List Int×Int=>q.1) ∘ (λ q=>if q.1=j9 then (q.1,(L.count j9:Int)+1) else q)=(·.1):=by funext q;simp only[Function.comp];split<;>rfl
   rw[show a7.map ((λ x=>x.1) ∘ λ q=>if q.1=j9 then (q.1,(L.count j9:Int)+1) else q)=a7.map (·.1) from congrArg (λ g=>a7.map g) this];exact ai
  ·rw[ax,<- aT,<- kB];exact MC ai aV
 ·have cg:=MA ag z c;have c1:=h.hW ns z;rw[cg]at c1
  have kB:(L.count ns:Int)=0:=by injection c1 with c1;exact c1.symm
  refine⟨a7++[(ns,(L.count ns:Int)+1)],?_,λ q aV=>?_,?_,λ P=>?_⟩
  ·rw[Ms _ cg,fN];rfl
  ·rcases hF.mp aV with aV|aV
   ·exact ag q aV
   ·rw[ft.mp aV];exact z
  ·rw[fN,xX];exact⟨ai,by simp,λ x aA y bj e=>c (by rw[show ns=y by simpa using(ft.mp (by simpa using bj)).symm,<- e];exact aA)⟩
  ·rw[ax,fN,List.sum_append,aT];simp only[cV,o8,sm,List.sum_nil,kB];split<;>omega
theorem aam(z:Str):pW (.str z) [.str "whole",.str "pair"]=(z=="whole"||z=="pair"):=by
 have e:∀ a b:Str,(a==b)=(b==a):=λ a b=>by rw[sv,beq_iff_eq,beq_iff_eq];exact eq_comm
 simp only[pW,jG,List.any_nil,zg,pd];rw[e "whole" z,e "pair" z]
noncomputable def Tm.w0(u:Tm):Bool:=u.word=="whole"||u.word=="pair"
theorem aR.aan(u:aR):u.gK.hj.all Tm.w0=true:=by
 induction u with
 |w n=>rfl
 |p a b ag ai=>simp only[aR.gK,Tm.hj,jk,List.all_append,ag,ai];rfl
theorem aao{G:aY}{b:Addr}{kvs:List (List Key×D)}{k:Obj->List (List Key×V)->List (List Key×D)->aY->Prop}(af:G b=some (.bz kvs)\/∃ o gs,G b=some (.hv o gs kvs))(q:∀ o gs aw,(∀ c o,c≠b->G c=some o->aw c=some o)->aw b=some (.hv o gs kvs)->k o gs kvs aw):qj G b k:=by
 rcases af with af|⟨o,gs,af⟩
 ·exact ZI af λ o gs=>q o gs _ (λ c cy aE e=>by rw[bH aE];exact e) bh
 ·exact ZJ af (q o gs G (λ c cy _ e=>e) af)
theorem aap{α:Type}(xs:List α)(k:Nat):cut xs none (some (k:Int))=xs.take k:=by
 rcases Nat.le_total k xs.length with h|h
 ·exact LM h
 ·unfold cut;rw[dm.Qe,dm.HG,Nat.min_eq_right h,xY h];simp
theorem aaq{α:Type}(xs:List α):cut xs none (some (-1))=xs.dropLast:=by
 unfold cut;rw[dm.HG,List.dropLast_eq_take]
 have e:dm.cq xs.length xs.length (some (-1))=xs.length - 1:=by
  unfold dm.cq;simp only[];rw[if_pos (by decide)];omega
 rw[e];simp
theorem MD{α:Type}(xs:List α):cut xs (some 1) none=xs.drop 1:=by
 cases xs with
 |nil=>rfl
 |cons x xs=>exact LN (xs:=x::xs) (k:=0) (by simp)
theorem ME(ns:List Int)(k:Nat):D.tup (cut (ns.map λ k=>D.str (fl k)) none (some (k:Int)))=cB (ns.take k):=by rw[aap,<- List.map_take];rfl
theorem MF(ns:List Int):D.tup (cut (ns.map λ k=>D.str (fl k)) none (some (-1)))=cB ns.dropLast:=by rw[aaq,<- List.map_dropLast];rfl
theorem MG:∀{x y:List Int},fL x->fL y->ii (x.map λ k=>D.str (fl k)) (y.map λ k=>D.str (fl k))=decide (x=y)
 |[],[],_,_=>rfl
 |[],_::_,_,_=>by simp[ii]
 |_::_,[],_,_=>by simp[ii]
 | a::x,b::y,ag,ai=>by
  have bG:=MG (x:=x) (y:=y) (λ k aI=>ag k (eE _ aI)) (λ k aI=>ai k (eE _ aI));rw[cV,cV,ii,bG];rcases ag a (dP ..) with rfl|rfl<;>rcases ai b (dP ..) with rfl|rfl
  ·rw[show gb (.str (fl 0)) (.str (fl 0))=true from rfl];simp
  ·rw[show gb (.str (fl 0)) (.str (fl 1))=false from rfl];simp
  ·rw[show gb (.str (fl 1)) (.str (fl 0))=false from rfl];simp
  ·rw[show gb (.str (fl 1)) (.str (fl 1))=true from rfl];simp
theorem D0{x y:List Int}(ag:fL x)(ai:fL y):gb (cB x) (cB y)=decide (x=y):=by
 rw[<- MG ag ai];unfold cB;rw[gb]
theorem oL(ns:List Int):(cB ns).data=true/\(cB ns).bn<=1:=by
 constructor
 ·unfold cB;rw[D.data]
  induction ns with
  |nil=>rfl
  |cons n ns bG=>rw[cV,jA,bG];rfl
 ·simp[cB,D.bn,Km]
theorem fL.take{ns:List Int}(h:fL ns)(k:Nat):fL (ns.take k):=λ j bW=>h j (o_ bW)
theorem aar(u:aR)(ps:List (List Int)):((kT u ps).map λ q=>D.tup [hD q.1,q.2])=u.bA.map λ r=>.tup [cB r,.int (cst ps r)]:=by
 unfold kT;rw[gw];exact xQ λ r _=>by simp only[Function.comp,DV]
theorem MH(g:List Int->Int):∀{R:List (List Int)},(∀ r∈R,r.length<=1000)->mf (R.map λ r=>.tup [cB r,.int (g r)])=true/\ij (R.map λ r=>.tup [cB r,.int (g r)])<=2
 |[],_=>⟨rfl,fV _⟩
 | r::R,h=>by
  obtain⟨ag,ai⟩:=MH g (R:=R) λ y bj=>h y (eE _ bj);have hz:=h r (dP ..);have e:(cB r).bn<=1:=(oL r).2
  have aF:(cB r).plain=true:=by simp[cB,D.plain,Kl];omega
  refine⟨?_,?_⟩
  ·rw[cV,mf,ag,D.plain,mf,mf,mf,aF];rfl
  ·simp only[cV,ij,D.bn];omega
theorem aas{u:aR}{ps:List (List Int)}(h:u.aL<=900):(D.tup ((kT u ps).map λ q=>D.tup [hD q.1,q.2])).plain=true/\(D.tup ((kT u ps).map λ q=>D.tup [hD q.1,q.2])).bn<40:=by
 rw[aar];have hd:=u.wb
 have aH:u.bA.length=u.aL:=by unfold aR.bA;rw[bL,u.p4]
 obtain⟨ag,ai⟩:=MH (cst ps) (R:=u.bA) λ r aq=>by
  obtain⟨z,hz,rfl⟩:=eF.mp aq;have:=(aR.rD hz).1;omega
 refine⟨?_,by simp only[D.bn];omega⟩;rw[D.plain,ag,bL];simp;omega
inductive kU(t:Tm):Option (aR×List (List Int))->Prop
 |D1 (u:aR) (ps:List (List Int)):GoodR 400 t->eP 400 t=(("answer" : Str),u.gK,ps)->(∀ q∈ps,q∈u.bA)->u.aL<=900->kU t (some (u,ps))
 |MI:GoodR 400 t->(eP 400 t).1 = "more"->kU t none
theorem kR.cs{ps:List (List Int)}{t:Tm}{u:aR}(h:kR ps t u)(ax:∀ q∈ps,q∈u.bA)(br:u.aL<=100)(aH:ps.length<=20)(hd:u.bn<=20):kU t (some (u,ps)):=by
 obtain⟨bf,_,qX⟩:=h.cj.run (by omega) (by omega) u.DQ 400;exact .D1 u ps qX (bf (by omega)) ax (by omega)
inductive w1:Int->Tm->Int->Prop
 |a {t:Tm} {v:Int}:d_ 1310 50 400 t (.whole v)->w1 0 t v
 |b {t:Tm} {v:Int}:d_ 1310 50 401 t (.whole v)->w1 1 t v
theorem tP{n:Nat}{x q:List Int}(h:q∈fT n x):q=x:=(List.mem_replicate.mp h).2
theorem MJ{n:Nat}{t:Tm}{v:Int}(h:d_ 1310 50 n t (.whole v)):Top 1320 60 (fT n []) t (aR.w v).gK/\Top 1320 60 (fT n [0]) (.pair t (.whole 7)) (aR.p (.w v) (.w 7)).gK/\Top 1320 60 (fT n [1]) (.pair (.whole 7) t) (aR.p (.w 7) (.w v)).gK:=by
 refine⟨h.top.mono (by decide) (by decide),?_,?_⟩
 ·have:=h.top.ql (.whole 7) (s':=1320) (d':=60) (by simp only[Tm.aL];omega) (by simp only[Tm.bn];omega);rw[List.map_replicate]at this;exact this
 ·have:=h.top.qm (a:=.whole 7) rfl (s':=1320) (d':=60) (by simp only[Tm.aL];omega) (by simp only[Tm.bn];omega);rw[List.map_replicate]at this;exact this
theorem tQ{ps:List (List Int)}{t:Tm}{u:aR}(h:Top 1320 60 ps t u.gK)(ax:∀ q∈ps,q∈u.bA)(br:u.aL<=900):(ps.length<=400->kU t (some (u,ps)))/\(400<ps.length->kU t none):=by
 obtain⟨bf,bD,qX⟩:=h.run (by decide) (by decide) u.DQ 400;exact⟨λ aH=>.D1 u ps qX (bf aH) ax br,λ aH=>.MI qX (bD aH)⟩
theorem rX(n:Nat)(p r:List Int):cst (fT n p) r=if r <+: p\/p <+: r then n else 0:=by
 unfold cst;rw[List.countP_replicate];by_cases c:r <+: p\/p <+: r
 ·rw[if_pos (decide_eq_true c),if_pos c]
 ·rw[if_neg (by rw[decide_eq_true_eq];exact c),if_neg c]
theorem aat(v:Int):kT (.w v) (fT 400 [])=[([],.int 400)]:=by
 show [(dh [],D.int (cst _ []))]=_;rw[rX,if_pos (by decide)];rfl
theorem aau(v w:Int):kT (.p (.w v) (.w w)) (fT 400 [0])=[([],.int 400),([.inr "first"],.int 400),([.inr "second"],.int 0)]:=by
 show [(dh [],D.int (cst _ [])),(dh [0],D.int (cst _ [0])),(dh [1],D.int (cst _ [1]))]=_;rw[rX,rX,rX,if_pos (by decide),if_pos (by decide),if_neg (by decide)];rfl
theorem aav(v w:Int):kT (.p (.w v) (.w w)) (fT 400 [1])=[([],.int 400),([.inr "first"],.int 0),([.inr "second"],.int 400)]:=by
 show [(dh [],D.int (cst _ [])),(dh [0],D.int (cst _ [0])),(dh [1],D.int (cst _ [1]))]=_;rw[rX,rX,rX,if_pos (by decide),if_neg (by decide),if_pos (by decide)];rfl
theorem D2{t:Tm}{v:Int}(h:w1 0 t v):kU t (some (.w v,fT 400 []))/\kU (.pair t (.whole 7)) (some (.p (.w v) (.w 7),fT 400 [0]))/\kU (.pair (.whole 7) t) (some (.p (.w 7) (.w v),fT 400 [1])):=by
 cases h with
 | a h=>
  obtain⟨ag,ai,aT⟩:=MJ h;exact⟨(tQ ag (λ q aV=>by rw[tP aV];simp[aR.bA,aR.all]) (by simp[aR.aL])).1 (by simp),(tQ ai (λ q aV=>by rw[tP aV];simp[aR.bA,aR.all]) (by simp[aR.aL])).1 (by simp),(tQ aT (λ q aV=>by rw[tP aV];simp[aR.bA,aR.all]) (by simp[aR.aL])).1 (by simp)⟩
theorem D3{t:Tm}{v:Int}(h:w1 1 t v):kU t none/\kU (.pair t (.whole 7)) none/\kU (.pair (.whole 7) t) none:=by
 cases h with
 | b h=>
  obtain⟨ag,ai,aT⟩:=MJ h;exact⟨(tQ ag (λ q aV=>by rw[tP aV];simp[aR.bA,aR.all]) (by simp[aR.aL])).2 (by simp),(tQ ai (λ q aV=>by rw[tP aV];simp[aR.bA,aR.all]) (by simp[aR.aL])).2 (by simp),(tQ aT (λ q aV=>by rw[tP aV];simp[aR.bA,aR.all]) (by simp[aR.aL])).2 (by simp)⟩
section
variable(T:Addr)(pos:Pos)(da:Addr)(dL:Pos)
noncomputable def D4:cX:=λ ds G Q=>∃ u:aR,ds=[u.enc]/\u.aL<=1000/\Q (.aW true) G
noncomputable def D5:cX:=λ ds G Q=>∃(l:Addr)(ps:List (List Int)),ds=[.ref l]/\G l=some (.lst (ps.map gc))/\(∀ q∈ps,fL q/\q.length<=1000)/\ps.length<=1000/\∀ a kvs am,Sub G am->G a=none->am a=some (.bz kvs)->jc kvs (λ ns=>ps.count ns)->Q (.ref a) am
noncomputable def D6:cX:=λ ds G Q=>∃(l a:Addr)(u:aR)(ps:List (List Int))(kvs:List (List Key×D)),ds=[.ref l,.ref a]/\G l=some (.lst (u.bA.map cB))/\G a=some (.bz kvs)/\jc kvs (λ ns=>ps.count ns)/\(∀ q∈ps,q∈u.bA)/\u.aL<=1000/\∀ b am,Sub G am->G b=none->am b=some (.bz (kT u ps))->Q (.ref b) am
noncomputable def tR(w:Bool):cX:=λ ds G Q=>∃(t:Tm)(o:Option (aR×List (List Int))),ds=[t.enc]/\kU t o/\h2 T pos da dL G/\(o=none->∀ am,Sub G am->Q .bE am)/\∀ u ps,o=some (u,ps)->∀ b am,Sub G am->G b=none->am b=some (.bz (kT u ps))->Q (if w then .tup [u.enc,.ref b] else .ref b) am
noncomputable def D7:cX:=λ ds G Q=>∃(a:Addr)(p:Tm)(c:Bool),ds=[.ref a,p.enc,.aW c]/\gq G a/\∀ q am,gu a G am->kc c p q->Q q.enc am
noncomputable def D8:cX:=λ ds G Q=>∃(a:Addr)(u:aR),ds=[.ref a,u.enc,.int 10]/\gq G a/\u.bn<=20/\u.aL<=100/\∀ b kvs L am,YL a G am->b≠a->G b=none->am b=some (.bz kvs)->L.length<=10->qr u kvs L->Q (.ref b) am
noncomputable def w2(n:Nat):cX:=λ ds G Q=>∃(a b:Addr)(u:aR)(cv:List Int)(kvs:List (List Key×D))(f:List Int->Int),ds=[.ref a,u.enc,cB cv,.ref b]/\gq G a/\G b=some (.bz kvs)/\jc kvs f/\(∀ ns,0<=f ns)/\fL cv/\u.bn<n/\u.aL<=100/\cv.length+u.bn<=100/\(kd f u cv).length<=20/\∀ t am,gu a G am->kR (kd f u cv) t u->Q t.enc am
noncomputable def D9:cX:=λ ds G Q=>∃(b:Addr)(cv:List Int)(u:aR)(kvs:List (List Key×D))(L:List (List Int)),ds=[.ref b,cB cv]/\(G b=some (.bz kvs)\/∃ o gs,G b=some (.hv o gs kvs))/\qr u kvs L/\fL cv/\cv.length<=100/\u.bn<=20/\L.length<=10/\∀ am,(∀ c o,c≠b->G c=some o->am c=some o)->(∃ o gs,am b=some (.hv o gs kvs))->Q (.int (cst L cv)) am
noncomputable def D_:cX:=λ ds G Q=>∃(a:Addr)(m:Nat)(t:Tm),ds=[.ref a,.int m,t.enc]/\gq G a/\1<=m/\m<=20/\∀ bs am,gu a G am->bs.length+1=m->Q (qn t bs).enc am
noncomputable def Ea:cX:=λ ds G Q=>∃(a:Addr)(c:Int),ds=[.ref a,.int c]/\gq G a/\(c=0\/c=1)/\∀ t v am,gu a G am->w1 c t v->Q t.enc am
noncomputable def Af:cX:=λ ds G Q=>∃(t:Tm)(o:Option (aR×List (List Int)))(r:D)(n:Nat),ds=[t.enc,r,.int n]/\kU t o/\h2 T pos da dL G/\1<=n/\n<=2/\(o=none->r=.bE)/\(∀ u ps,o=some (u,ps)->∃ b,r=.ref b/\G b=some (.bz (kT u ps))/\u.bn<=20)/\∀ am,Q (.aW true) am
noncomputable def Eb:cX:=λ ds G Q=>∃ a:Addr,ds=[.ref a]/\gq G a/\h2 T pos da dL G/\T≠a/\da≠a/\∀ am,Q (.aW true) am
end
noncomputable def FnAt(K:a8)(x q:Str)(st:bC)(f:Addr)(cd:Value):Prop:=∃(dT:Value)(c5:Option Addr)(dd doc pm:Value)(an:Option Addr)(ct:Value)(g7:Array (Option Value)),
 K.lookup f=some ⟨dT,c5,.func (lH x q (kx st) (g9 st) (b9 st) .none dd doc pm an cd ct),g7⟩/\qR K cd q=true/\mN K (.ref f)=true
noncomputable def DT(K:a8)(x:Str)(st:bC):Prop:=∃(f:Addr)(cd:Value),gk K et x=some (some (.ref f))/\FnAt K x x st f cd
noncomputable def DTc(K:a8)(x:Str)(st:bC)(c:Addr):Prop:=∃ f:Addr,gk K et x=some (some (.ref f))/\FnAt K x x st f (.ref c)
section
variable{K:a8}{x m q:Str}{st:bC}{C c:Addr}
theorem DT.mk{f:Addr}{cd dT dd doc pm ct:Value}{c5 an:Option Addr}{g7:Array (Option Value)}(a:gk K et x=some (some (.ref f)))(l:K.lookup f=some ⟨dT,c5,.func (lH x x (kx st) (g9 st) (b9 st) .none dd doc pm an cd ct),g7⟩)(k:qR K cd x=true)(p:mN K (.ref f)=true):DT K x st:=⟨f,cd,a,_,_,_,_,_,_,_,_,l,k,p⟩
theorem DTc.mk{f:Addr}{dT dd doc pm ct:Value}{c5 an:Option Addr}{g7:Array (Option Value)}(a:gk K et x=some (some (.ref f)))(l:K.lookup f=some ⟨dT,c5,.func (lH x x (kx st) (g9 st) (b9 st) .none dd doc pm an (.ref c) ct),g7⟩)(k:qR K (.ref c) x=true)(p:mN K (.ref f)=true):DTc K x st c:=⟨f,a,_,_,_,_,_,_,_,_,l,k,p⟩
theorem DT.ok(h:DT K x st):∃(f:Addr)(fd:gM),gk K et x=some (some (.ref f))/\c4 K x x st f fd:=by
 obtain⟨f,_,a,_,_,_,_,_,_,_,_,l,k,p⟩:=h;exact⟨f,_,a,Q2 l k p⟩
theorem DTc.ok(h:DTc K x st c):∃(f:Addr)(fd:gM),gk K et x=some (some (.ref f))/\tC K x x st f fd c/\mN K (.ref f)=true:=by
 obtain⟨f,a,_,_,_,_,_,_,_,_,l,k,p⟩:=h;exact⟨f,_,a,⟨⟨_,_,_,_,_,_,_,_,rfl,l,k⟩⟩,p⟩
theorem tC.fun{f:Addr}{fd:gM}(F:tC K x q st f fd c)(k:mN K (.ref f)=true):c4 K x q st f fd:=by
 obtain⟨dT,c5,dd,doc,pm,an,ct,g7,h⟩:=F.ex;exact⟨⟨dT,c5,dd,doc,pm,an,_,ct,g7,h⟩,k⟩
end
theorem gJ{α:Type}{P:List α->Prop}(h:∀ a,P [a]):∀ us:List α,us.length=1->P us
 |[a],_=>h a
theorem jd{α:Type}{P:List α->Prop}(h:∀ a b,P [a,b]):∀ us:List α,us.length=2->P us
 |[a,b],_=>h a b
theorem qs{α:Type}{P:List α->Prop}(h:∀ a b c,P [a,b,c]):∀ us:List α,us.length=3->P us
 |[a,b,c],_=>h a b c
theorem MK{α:Type}{P:List α->Prop}(h:∀ a b c d,P [a,b,c,d]):∀ us:List α,us.length=4->P us
 |[a,b,c,d],_=>h a b c d
end L3
namespace L2
open PySem PySem.Spec PyProof.Rows
section
variable{X:a0}{a:a5}{bw:TE}{pos:Pos}
noncomputable def aaw(K:a8)(bw:TE):TE:=λ σ H Q=>bw σ H λ x H1=>∃ k,yo K x H1 k/\Q (.aW (!k)) H1
theorem aax(aB:bO X a bw):bO X (.UnaryOp .Not a pos) (aaw X.K bw):=by
 intro pins s σ H Q I h;refine UnaryOp_ (bU (aB pins s σ H _ I h) λ v s1 xz=>?_);obtain⟨x,H1,aZ,bf,k,aI,aG⟩:=xz;refine not_of ?_
 exact bU (Hs pins s1 σ H1 x v (λ c aQ=>Q (.aW (!c)) aQ) aZ bf ⟨k,aI,aG⟩) λ c s2 ⟨aQ,bY,bv⟩=>⟨.aW (!c),aQ,bY,rfl,bv⟩
end
end L2
namespace L3
open PySem PyProof L2
section
variable{X:a0}{a:a5}{bw:bK}{pos:Pos}
noncomputable abbrev aay(bw:bK):bK:=λ ρ G Q=>bw ρ G λ x aw=>JD x aw λ c=>Q (.aW (!c)) aw
theorem aaz(aB:bJ X a bw):bJ X (.UnaryOp .Not a pos) (aay bw):=by
 obtain⟨ca,cH,cI⟩:=aB.run;refine⟨_,⟨aax cH.run⟩,λ ρ G az σ H Q B q F=>cI ρ G _ σ H _ B q λ x aw v H1 g1 a4 aG=>?_⟩
 cases x with
 |bE=>cases a4;exact⟨_,rfl,F (.aW _) _ _ _ g1 rfl aG⟩
 |aW b=>cases a4;exact⟨_,rfl,F (.aW _) _ _ _ g1 rfl aG⟩
 |int i=>cases a4;exact⟨_,rfl,F (.aW _) _ _ _ g1 rfl aG⟩
 |str y=>cases a4;exact⟨_,⟨aG.1,rfl⟩,F (.aW _) _ _ _ g1 rfl aG.2⟩
 | ref l=>
  cases a4;obtain⟨ds,ae,k,s,r⟩:=i3 g1.bB aG;exact⟨_,.inl ⟨ae,s,rfl⟩,by rw[r.isEmpty];exact F (.aW _) _ _ _ g1 rfl k⟩
 | tup ds=>
  obtain⟨l,ae,rfl,s,r⟩:=a4;exact⟨_,.inr (.inl ⟨ae,s,rfl⟩),by rw[r.isEmpty];exact F (.aW _) _ _ _ g1 rfl aG⟩
 |ty n=>exact(show False from aG).elim
 |d6 ds=>exact(show False from aG).elim
end
end L3
namespace KB
open PySem L2
noncomputable def top(i:Nat):bC:=PySem.Challenge.pw_kindbags_k65_costs_laid_in.main.body.getD i (.Pass ⟨0,0,0,0⟩)
structure gh(mg:Str->Option Value):Prop where
 len:mg "len"=none
 isinstance:mg "isinstance"=none
 range:mg "range"=none
 int:mg "int"=none
 bool:mg "bool"=none
 str:mg "str"=none
 tuple:mg "tuple"=none
 list:mg "list"=none
 zip:mg "zip"=none
 sorted:mg "sorted"=none
 set:mg "set"=none
 all:mg "all"=none
 reversed:mg "reversed"=none
 min:mg "min"=none
 dict:mg "dict"=none
end KB
namespace KB
open PySem
noncomputable abbrev ML:List Str:=["thing","inners_of"]
noncomputable abbrev MM:List Str:=["thing","inners_of"]
noncomputable abbrev MN:List Str:=["thing","inners_of","most","deepest"]
noncomputable abbrev MO:List Str:=["trail"]
noncomputable abbrev MP:List Str:=["program"]
noncomputable abbrev MQ:List Str:=["program"]
noncomputable abbrev MR:List Str:=["program"]
noncomputable abbrev Ec:List Str:=["program"]
noncomputable abbrev MS:List Str:=["program"]
noncomputable abbrev MT:List Str:=["program"]
noncomputable abbrev MU:List Str:=["program"]
noncomputable abbrev MV:List Str:=["program","ways"]
noncomputable abbrev MW:List Str:=["program","many","least"]
noncomputable abbrev MX:List Str:=["program","other"]
noncomputable abbrev MY:List Str:=["program","depths"]
noncomputable abbrev MZ:List Str:=["program","change"]
noncomputable abbrev M0:List Str:=["program","place"]
noncomputable abbrev M1:List Str:=["program","place","other"]
noncomputable abbrev M3:List Str:=["program","k","other"]
noncomputable abbrev M4:List Str:=["program","place"]
noncomputable abbrev M5:List Str:=["program"]
noncomputable abbrev M6:List Str:=["program","place"]
noncomputable abbrev M7:List Str:=["program"]
noncomputable abbrev M8:List Str:=["program"]
noncomputable abbrev M9:List Str:=["program"]
noncomputable abbrev M_:List Str:=["program"]
noncomputable abbrev Na:List Str:=["program"]
noncomputable abbrev Nb:List Str:=["program","most"]
noncomputable abbrev Nc:List Str:=["program"]
noncomputable abbrev Nd:List Str:=["data"]
noncomputable abbrev Nf:List Str:=["path"]
noncomputable abbrev Ng:List Str:=["program"]
noncomputable abbrev Nh:List Str:=["program"]
noncomputable abbrev Ni:List Str:=["stood_at"]
noncomputable abbrev Nj:List Str:=["found","rules"]
noncomputable abbrev Nk:List Str:=["_law_script","_law_k"]
noncomputable abbrev Nl:List Str:=["_law_feed_here","_law_many"]
noncomputable abbrev Nm:List Str:=["_law_feed_here"]
noncomputable abbrev Nn:List Str:=["_law_found","_law_due"]
noncomputable abbrev No:List Str:=["_law_data"]
noncomputable abbrev Np:List Str:=["_law_feed_here","_law_room","_law_deep"]
noncomputable abbrev Nq:List Str:=["_law_feed_here","_law_program","_law_whole_here"]
noncomputable abbrev Nr:List Str:=["_law_feed_here","_law_data","_law_road","_law_numbers_here"]
noncomputable abbrev Nt:List Str:=["_law_feed_here","_law_data","_law_most"]
noncomputable abbrev Nu:List Str:=["_law_numbers_here","_law_road"]
noncomputable abbrev Nv:List Str:=["_law_feed_here","_law_many","_law_program"]
noncomputable abbrev Nw:List Str:=["_law_feed_here","_law_more"]
noncomputable abbrev Nx:List Str:=["_law_program","_law_right","_law_many"]
noncomputable abbrev Ny:List Str:=["_law_feed_here"]
end KB
namespace KB
open PySem L2 L3
section
variable{P:bZ}{w:bM}{K:a8}{mg:Str->Option Value}{base:bx}{f:Addr}{fd:gM}
noncomputable abbrev Ed:bC:=top 52
theorem Ee:df ["_law_feed_here","_law_many","_law_digit","_law_one"] ["_law_feed_here","_law_many"] (b9 Ed):=⟨rfl,rfl,rfl,by trivial,rfl,by trivial,by trivial⟩
theorem aaA(F:c4 K "_law_take" "_law_take" Ed f fd):cN P w K mg base cG 1 f fd ["_law_feed_here","_law_many"] (aX K ls):=by
 refine dO (k:=0) F Ee (λ ds G az h=>?_) (λ bF A outer s H E aq ds G az h=>?_)
 ·unfold ls at h;split at h
  ·rfl
  ·exact h.elim
 unfold ls at h;split at h
 case h_2=>exact h.elim
 next a m=>
 obtain⟨⟨x,y,fm⟩,h0,ag,q⟩:=h
 refine⟨_,(a6 (dr (cP th (bT bV (aj 0) aN (λ _ _=>rfl)) aN (cp _)) (a6 (bP (k:=2) Ee.aS rfl (Or.inl rfl) (cO pU (bT bV (aj 0) aN (λ _ _=>rfl)) (aj 1)))
  (a6 (JG (cO Ca (bT bV (aj 0) aN (λ _ _=>rfl)) (aj 1)) (J5 (aj 0) aN))
  (bo (b5 (aj 2))))) dN)
  (a6 (bP (k:=3) Ee.aS rfl (Or.inl rfl) (cO pU (cO nh (bT bV (aj 0) aN (λ _ _=>rfl)) aN) aN))
  (a6 (JG (cO e0 (cO pU (cO e0 (cO nh (aj 3) aN) aN) aN) aN) (J5 (aj 0) aN))
  (bo (b5 (cO pU (cO Ca (cO e0 (cO nh (aj 3) aN) (bT bV (aj 0) aN (λ _ _=>rfl))) aN) (aj 1))))))),?_⟩
 refine dc fm ⟨λ c=>?_,λ c=>?_⟩
 ·refine dc fm ⟨h0,dc fm ⟨⟨h0,by omega⟩,eL fm ⟨0,rfl,bQ.of (q _ _ .mk (x_ _ (by omega)) (x9 _ h0))⟩⟩⟩
 ·refine dc fm ⟨.inr ⟨by decide,by decide⟩,by simp,.inr ⟨by decide,by decide⟩,by simp,eL fm ⟨1,rfl,.inr ⟨by decide,by decide⟩,dc bh ⟨⟨by decide,by decide⟩,h0,bQ.of (q _ _ .mk (x_ _ (by omega)) (x9 _ h0))⟩⟩⟩
noncomputable abbrev Ef:bC:=top 51
theorem tS:df ["_law_script","_law_k","_law_cell","_law_own"] ["_law_script","_law_k"] (b9 Ef):=⟨rfl,rfl,rfl,by trivial,rfl,by trivial,by trivial⟩
theorem aaB(B:gh mg)(F:c4 K "_law_feed" "_law_feed" Ef f fd):cN P w K mg base cG 1 f fd ["_law_script","_law_k"] (aX K wc):=by
 refine dO (k:=0) F tS (λ ds G az h=>?_) (λ bF A outer s H E aq ds G az h=>?_)
 ·unfold wc at h;split at h
  ·rfl
  ·exact h.elim
 unfold wc at h;split at h
 case h_2=>exact h.elim
 next ss k=>
 obtain⟨ns,rfl,aH,h0,ag,q⟩:=h;have fin:∀ x y:Int,∀ p,G p=none->bQ az (.ref p) (up G p (tw x y)):=λ x y p ax=>bQ.of (q p x y ax)
 have Nz:∀ j:Int,0<=j->j<ns.length->∃ v,gC (ns.map D.int) j=some (.int v):=λ j aaC ht=>by
  refine⟨ns[j.toNat],?_⟩;have e:=mZ (xs:=ns.map D.int) (j:=j.toNat) (v:=D.int ns[j.toNat]) (by simp[show j.toNat<ns.length by omega])
  rwa[show ((j.toNat:Nat):Int)=j by omega]at e
 refine⟨_,(a6 (bP (k:=2) tS.aS rfl (Or.inl rfl) (cO e0 (cO nh aN (aj 1)) aN))
  (a6 (dr (cP rr (aj 1) (gX kJ rfl B.len Wp (ao (aj 0) aJ)) (cp _)) (bo (bP (k:=2) tS.aS rfl (Or.inl rfl) (bT bV (aj 0) (aj 1) (λ _ _=>rfl)))) (bo (dr (cP th (gX kJ rfl B.len Wp (ao (aj 0) aJ)) aN (cp _)) (bo (bP (k:=2) tS.aS rfl (Or.inl rfl) (cO e0 (cO nh (cO pU (bT bV (aj 0) (cO pU (aj 1) (gX kJ rfl B.len Wp (ao (aj 0) aJ))) (λ _ _=>rfl)) aN) aN) (cO nh aN (aj 1))))) dN)))
  (a6 (bP (k:=3) tS.aS rfl (Or.inl rfl) aN)
  (a6 (dr (cP vO (aj 2) (cO U3 aN aN) (cp _)) (bo (bP (k:=3) tS.aS rfl (Or.inl rfl) (aj 2))) dN)
  (bo (b5 (iJ (ao (aj 3) (ao (cO e0 (cO pU (cO e0 (cO nh (cO pU (aj 2) aN) aN) (cO nh aN (aj 1))) aN) aN) aJ))))))))),?_⟩
 refine⟨.inl ⟨by decide,by decide⟩,⟨λ c=>?_,λ c=>?_⟩⟩
 ·have cu:k<ns.length:=by simpa using c
  obtain⟨v,bu⟩:=Nz k h0 cu;refine(JJ bu ⟨⟨by decide,by decide,by decide⟩,λ c=>?_,λ c=>?_⟩)
  ·exact⟨by simp,.inr ⟨by decide,by decide⟩,.inl ⟨by decide,by decide⟩,by simp,λ p ax=>fin _ _ p ax⟩
  ·exact⟨by simp,.inr ⟨by decide,by decide⟩,.inl ⟨by decide,by decide⟩,by simp,λ p ax=>fin _ _ p ax⟩
 ·refine⟨λ c=>?_,λ c=>?_⟩
  ·have cu:0<ns.length:=by
    have:(0:Int)<(ns.map D.int).length:=by simpa using c
    simpa using this
   obtain⟨v,bu⟩:=Nz (k % (ns.map D.int).length) (x_ _ (show ((ns.map D.int).length:Int)≠0 by rw[bL];omega)) (by have:=x9 k (show (0:Int)<(ns.map D.int).length by simpa using cu);simpa using this);refine⟨by simpa using cu,?_⟩;refine(JJ bu ⟨by simp,.inr ⟨by decide,by decide⟩,.inl ⟨by decide,by decide⟩,⟨by decide,by decide,by decide⟩,λ c=>?_,λ c=>?_⟩)
   ·exact⟨by simp,.inr ⟨by decide,by decide⟩,.inl ⟨by decide,by decide⟩,by simp,λ p ax=>fin _ _ p ax⟩
   ·exact⟨by simp,.inr ⟨by decide,by decide⟩,.inl ⟨by decide,by decide⟩,by simp,λ p ax=>fin _ _ p ax⟩
  ·refine⟨⟨by decide,by decide,by decide⟩,λ c=>?_,λ c=>?_⟩
   ·exact⟨by simp,.inr ⟨by decide,by decide⟩,.inl ⟨by decide,by decide⟩,by simp,λ p ax=>fin _ _ p ax⟩
   ·exact⟨by simp,.inr ⟨by decide,by decide⟩,.inl ⟨by decide,by decide⟩,by simp,λ p ax=>fin _ _ p ax⟩
noncomputable abbrev Eg:bC:=top 53
theorem NA:df ["_law_feed_here","_law_form"] ["_law_feed_here"] (b9 Eg):=⟨rfl,rfl,rfl,by trivial,rfl,by trivial,by trivial⟩
theorem aaD(e9:Got P w K mg base 1 "_law_take" ["_law_feed_here","_law_many"] (aX K ls))(F:c4 K "_law_whole" "_law_whole" Eg f fd):cN P w K mg base cG 2 f fd ["_law_feed_here"] (aX K tx):=by
 refine dO (k:=1) F NA (λ ds G az h=>?_) (λ bF A outer s H E aq ds G az h=>?_)
 ·unfold tx at h;split at h
  ·rfl
  ·exact h.elim
 unfold tx at h;split at h
 case h_2=>exact h.elim
 next a=>
 obtain⟨fm,q⟩:=h
 refine⟨_,(a6 (bP (k:=1) NA.aS rfl (Or.inl rfl) (cf e9 aq (by omega) rfl (ao (aj 0) (ao aN aJ))))
  (a6 (dr (cP rr (aj 1) aN (cp _)) (bo (b5 (cb (ao bX (ao (zy (ao aN (ao aN (ao (oj oo aN) (ao aN aJ)))) (aj 1) (λ _ _=>rfl)) aJ))))) dN)
  (a6 (dr (cP rr (aj 1) aN (cp _)) (bo (b5 (cb (ao bX (ao (cO kH (cf e9 aq (by omega) rfl (ao (aj 0) (ao aN aJ))) aN) aJ))))) dN)
  (bo (b5 (cb (ao bX (ao (cO kH (cf e9 aq (by omega) rfl (ao (aj 0) (ao aN aJ))) aN) aJ)))))))),?_⟩
 refine⟨fm,by decide,by decide,λ d aw d5 Ag iY=>⟨λ c=>?_,λ c=>⟨λ dS=>?_,λ dS=>?_⟩⟩⟩
 ·exact VV Ag (by simpa using c) (λ _=>bQ.of (q 0 _ d5 (by decide) (by decide))) (λ _=>bQ.of (q 1 _ d5 (by decide) (by decide))) (λ _=>bQ.of (q (-1) _ d5 (by decide) (by decide))) (λ _=>bQ.of (q 2 _ d5 (by decide) (by decide)))
 ·exact⟨d5.fd,by decide,by decide,λ e a_ eA cg aC=>bQ.of (q (e - 5) _ (d5.trans eA) (by omega) (by omega))⟩
 ·exact⟨d5.fd,by decide,by decide,λ e a_ eA cg aC=>bQ.of (q (e - 999999999) _ (d5.trans eA) (by omega) (by omega))⟩
noncomputable abbrev Eh:bC:=top 2
theorem tT:df ["thing","inners_of","found","pending","entry","inners","k"] ["thing","inners_of"] (b9 Eh):=⟨rfl,rfl,rfl,by trivial,rfl,by trivial,by trivial⟩
theorem aaE{e7:Nat}(B:gh mg)(F:c4 K "with_paths" "with_paths" Eh f fd):cN P w K mg base cG (e7+1) f fd ["thing","inners_of"] (aX K (CE P w K mg base e7)):=by
 refine dO (k:=e7) F tT (λ ds G az h=>?_) (λ bF A outer s H E aq ds G az h=>?_)
 ·obtain⟨_,_,_,_,_,_,rfl,_⟩:=h;rfl
 obtain⟨α,enc,bb,all,lz,x,rfl,eS,w3,hsz,e4,fin⟩:=h
 refine⟨_,(a6 (bP (k:=2) tT.aS rfl (Or.inl rfl) (iJ aJ))
  (a6 (bP (k:=3) tT.aS rfl (Or.inl rfl) (iJ (ao (cb (ao (cb aJ) (ao (aj 0) aJ))) aJ)))
  (a6 (ou PassesOwn.never (hA (aj 3)) (a6 (bP (k:=4) tT.aS rfl (Or.inl rfl) (p2 PySem.F.plainAttrs_list PySem.F.slot_list_pop PySem.F.type_list_pop p3 (aj 3)))
  (a6 (hB (hX PySem.F.plainAttrs_list PySem.F.slot_list_append PySem.F.type_list_append jz (aj 2) (ao (aj 4) aJ)))
  (a6 (bP (k:=5) tT.aS rfl (Or.inl rfl) (Ct 1 w3 aq (by omega) (ao (bT bV (aj 4) aN (λ _ _=>rfl)) aJ)))
  (bo (ih PassesOwn.never rfl (JP rfl B.range (ao (cO kH (gX kJ rfl B.len Wp (ao (aj 5) aJ)) aN) (ao (oj oo aN) (ao (oj oo aN) aJ)))) (e5 (k:=6) tT.aS rfl (Or.inl rfl)) (bo (hB (hX PySem.F.plainAttrs_list PySem.F.slot_list_append PySem.F.type_list_append jz (aj 3) (ao (cb (ao (cO e0 (bT bV (aj 4) aN (λ _ _=>rfl)) (cb (ao (aj 6) aJ))) (ao (bT bV (aj 5) (aj 6) (λ _ _=>rfl)) aJ))) aJ))))))))))
  (bo (b5 (aj 2)))))),?_⟩
 intro q aV p ax;obtain⟨-,nF,cE⟩:=iM (o:=.lst []) ax
 refine⟨λ m ρ am=>∃ ps fs fC ek fq,ρ=[some (enc x),some (.ref lz),some (.ref q),some (.ref p),fC,ek,fq]/\am=up (up G q (.lst (fs.map (j3 enc)))) p (.lst (ps.map (j3 enc)))/\fs++i7 all ps=all x/\m=(i7 all ps).length,
  ⟨_,[([],x)],[],none,none,none,rfl,rfl,by rw[V4];rfl,rfl⟩,?_⟩
 rintro m ρ am ⟨ps,fs,fC,ek,fq,rfl,rfl,hR,rfl⟩
 have hlen:fs.length+(i7 all ps).length=(all x).length:=by rw[<- hR,dJ]
 refine dc bh ⟨λ c=>?_,λ c=>?_⟩
 ·obtain⟨a7,z,rfl⟩:∃ a7 z,ps=a7++[z]:=by
   rcases List.eq_nil_or_concat ps with rfl|⟨a7,z,rfl⟩
   ·simp at c
   ·exact⟨a7,z,List.concat_eq_append ..⟩
  rw[Kf eS]at hR hlen;have fz:=V3 eS (a7++(hY z.1 (bb z.2) 0).reverse);rw[dJ,hG,wd]at fz;rw[dt]at hlen;refine⟨dc bh trivial,eL bh ⟨a7.map (j3 enc),j3 enc z,by simp,?_⟩⟩;rw[fE]
  have rg:∀ o,up (up G q (.lst (fs.map (j3 enc)))) p o q=some (.lst (fs.map (j3 enc))):=λ o=>by rw[bH (Ne.symm cE)];exact bh
  refine⟨dc (rg _) trivial,eL (rg _) ⟨fI (by rw[bL];omega),?_⟩⟩;rw[nk cE];refine⟨rfl,z.2,rfl,rfl,rfl,vX.mpr (by rw[bL];omega),?_⟩;refine⟨λ i ρ am=>∃ fq,ρ=[some (enc x),some (.ref lz),some (.ref q),some (.ref p),some (j3 enc z),some (.tup ((bb z.2).map enc)),fq]/\am=up (up G q (.lst (fs.map (j3 enc)++[j3 enc z]))) p (.lst ((a7++((hY z.1 (bb z.2) 0).drop ((bb z.2).length - i)).reverse).map (j3 enc))),⟨fq,rfl,?_⟩,λ _ _ _ _ _=>trivial,?_,?_⟩
  ·rw[uC,List.drop_eq_nil_of_le (by rw[wd];exact ZB _),List.reverse_nil,kh]
  ·rintro i d ρ am hd ⟨fq,rfl,rfl⟩;obtain⟨ar,rfl⟩:=Ci hd
   have kD:i<(bb z.2).length:=by rw[bL]at ar;omega
   have iP:((((bb z.2).map enc).length:Nat):Int) - 1 - (i:Int)=(((bb z.2).length - 1 - i:Nat):Int):=by rw[bL];omega
   rw[iP];generalize bW:(bb z.2).length - 1 - i=j
   have Ah:j<(bb z.2).length:=by omega
   have aE:(hY z.1 (bb z.2) 0)[j]?=some (z.1++[(j:Int)],(bb z.2)[j]):=by
    rw[Kc,f6 Ah];simp
   refine⟨dc bh trivial,small ?_,tf (mZ (j:=j) (v:=enc (bb z.2)[j]) (by simp[Ah])) (eL bh ⟨fI ?_,d8.of ⟨_,rfl,?_⟩⟩)⟩
   ·have hz:z∈all x:=by rw[<- hR];simp
    have:=e4 z hz;show (z.1.map D.int).length+1<=200000;rw[bL];omega
   ·rw[bL,dJ,hG,mJ,wd];omega
   ·rw[fE];congr 2
    have aC:(bb z.2).length - i=j+1:=by omega
    have aF:(bb z.2).length - (i+1)=j:=by omega
    have NB:j<(hY z.1 (bb z.2) 0).length:=by rw[wd];exact Ah
    have c6:(hY z.1 (bb z.2) 0).drop j=(z.1++[(j:Int)],(bb z.2)[j])::(hY z.1 (bb z.2) 0).drop (j+1):=by
     rw[nU NB];congr 1;rw[f6 NB]at aE;exact eW.inj aE
    rw[aC,aF,c6,qN,<- mK,fN];simp[j3,gc]
  ·rintro ρ am ⟨fq,rfl,rfl⟩;refine d8.of ⟨(i7 all (a7++(hY z.1 (bb z.2) 0).reverse)).length,by rw[Kf eS,dt];omega,a7++(hY z.1 (bb z.2) 0).reverse,fs++[z],_,_,_,rfl,?_,by rw[mK];exact hR,rfl⟩;rw[Cj,bL,show (bb z.2).length - ((((bb z.2).length:Nat):Int) - 1+1).toNat=0 by omega,uv,fN (l₁:=fs)];rfl
 ·have e:ps=[]:=by
   cases ps with
   |nil=>rfl
   |cons _ _=>simp at c
  subst e
  have aF:fs=all x:=by simpa[i7] using hR
  subst aF;exact⟨up G q (.lst ((all x).map (j3 enc))),Sub.new (Sub.refl _) (by rw[bH cE];exact nF),fin q aV⟩
noncomputable abbrev Ei:bC:=top 11
theorem aaF:df ["program"] ["program"] (b9 Ei):=⟨rfl,rfl,rfl,by trivial,rfl,by trivial,by trivial⟩
theorem aaG(F:c4 K "inner" "inner" Ei f fd):cN P w K mg base cG 1 f fd ["program"] (aX K (ik Tm.enc Tm.bb)):=by
 refine dO (k:=0) F aaF (λ ds G az h=>?_) (λ bF A outer s H E aq ds G az h=>?_)
 ·obtain⟨t,rfl,_⟩:=h;rfl
 obtain⟨t,rfl,q⟩:=h
 refine⟨_,(a6 (dr (hx.at (l9 (cP (dY (cA aq)) (bT bV (aj 0) aN (λ _ _=>rfl)) bX (cp _)) (ng (cP (dY (cA aq)) (bT bV (aj 0) aN (λ _ _=>rfl)) bX (cp _))))) (bo (b5 (cb aJ))) dN)
  (bo (b5 (ll lp (aj 0) (lj aN) li)))),?_⟩
 cases t with
 |name k=>exact⟨λ _=>⟨λ _=>bQ.of q,nofun⟩,λ c=>absurd c (by decide)⟩
 |whole k=>exact⟨λ c=>absurd c (by decide),λ _=>⟨λ _=>bQ.of q,λ c=>absurd c (by decide)⟩⟩
 |_=>exact⟨λ c=>absurd c (by decide),λ _=>⟨λ c=>absurd c (by decide),λ _=>bQ.of q⟩⟩
noncomputable abbrev Ej:bC:=top 29
theorem NC:df ["program","word"] ["program"] (b9 Ej):=⟨rfl,rfl,rfl,by trivial,rfl,by trivial,by trivial⟩
theorem aaH(F:c4 K "has_rule" "has_rule" Ej f fd):cN P w K mg base cG 1 f fd ["program"] (aX K (zB Tm.e2)):=by
 refine dO (k:=0) F NC (λ ds G az h=>?_) (λ bF A outer s H E aq ds G az h=>?_)
 ·obtain⟨t,rfl,_⟩:=h;rfl
 obtain⟨t,rfl,q⟩:=h
 refine⟨_,(a6 (bP (k:=1) NC.aS rfl (Or.inl rfl) (bT bV (aj 0) aN (λ _ _=>rfl)))
  (a6 (dr (cP (dY (cA aq)) (aj 1) bX (cp _)) (bo (b5 (jv (dY (cA aq)) (bT bV (bT bV (aj 0) aN (λ _ _=>rfl)) aN (λ _ _=>rfl)) bX (cp _)))) dN)
  (a6 (dr (hx.at (l9 (cP (dY (cA aq)) (aj 1) bX (cp _)) (ng (cP (dY (cA aq)) (aj 1) bX (cp _))))) (bo (b5 (jv (dY (cA aq)) (bT bV (bT bV (aj 0) aN (λ _ _=>rfl)) aN (λ _ _=>rfl)) bX (cp _)))) dN)
  (a6 (dr (cP (dY (cA aq)) (aj 1) bX (cp _)) (bo (b5 (pQ (jv (dY (cA aq)) (bT bV (bT bV (aj 0) aN (λ _ _=>rfl)) aN (λ _ _=>rfl)) bX (cp _)) (rp (jv (dY (cA aq)) (bT bV (bT bV (aj 0) aN (λ _ _=>rfl)) aN (λ _ _=>rfl)) bX (cp _)))))) dN)
  (bo (b5 (pQ (jv (dY (cA aq)) (aj 1) bX (cp _)) (rp (jv (dY (cA aq)) (bT bV (bT bV (aj 0) aN (λ _ _=>rfl)) aN (λ _ _=>rfl)) bX (cp _)))))))))),?_⟩
 cases t with
 | give t u=>
  rw[VW]at q;simp only[Tm.enc];rw[t.oy];exact⟨λ _=>bQ.of q,λ c=>absurd c (by decide)⟩
 | first t=>
  rw[VX]at q;simp only[Tm.enc];rw[t.oy];exact⟨λ c=>absurd c (by decide),λ _=>⟨λ _=>⟨λ _=>bQ.of q,nofun⟩,λ c=>absurd c (by decide)⟩⟩
 | second t=>
  rw[VY]at q;simp only[Tm.enc];rw[t.oy];exact⟨λ c=>absurd c (by decide),λ _=>⟨λ c=>absurd c (by decide),λ _=>⟨λ _=>bQ.of q,λ c=>absurd c (by decide)⟩⟩⟩
 | plus t u=>
  rw[VZ]at q;simp only[Tm.enc];rw[t.oy,u.oy];refine⟨λ c=>absurd c (by decide),λ _=>⟨λ c=>absurd c (by decide),λ _=>⟨λ c=>absurd c (by decide),λ _=>⟨λ _=>⟨λ c=>?_,λ c=>?_⟩,λ c=>absurd c (by decide)⟩⟩⟩⟩
  ·rw[show (t.word==Str.ofString "whole")=true from c]at q;exact bQ.of q
  ·rw[show (t.word==Str.ofString "whole")=false from c]at q;exact bQ.of q
 | look t u v=>
  rw[V0]at q;simp only[Tm.enc];rw[t.oy];exact⟨λ c=>absurd c (by decide),λ _=>⟨λ c=>absurd c (by decide),λ _=>⟨λ c=>absurd c (by decide),λ _=>⟨λ c=>absurd c (by decide),λ _=>⟨λ _=>bQ.of q,λ c=>absurd c (by decide)⟩⟩⟩⟩⟩
 |_=>exact⟨λ c=>absurd c (by decide),λ _=>⟨λ c=>absurd c (by decide),λ _=>⟨λ c=>absurd c (by decide),λ _=>⟨λ c=>absurd c (by decide),λ _=>⟨λ c=>absurd c (by decide),λ _=>bQ.of q⟩⟩⟩⟩⟩
noncomputable abbrev Ek:bC:=top 18
theorem aaI:df ["program","ways"] ["program","ways"] (b9 Ek):=⟨rfl,rfl,rfl,by trivial,rfl,by trivial,by trivial⟩
theorem aaJ(F:c4 K "ways_below" "ways_below" Ek f fd):cN P w K mg base cG 1 f fd ["program","ways"] (aX K zM):=by
 refine dO (k:=0) F aaI (λ ds G az h=>?_) (λ bF A outer s H E aq ds G az h=>?_)
 ·obtain⟨_,_,rfl,_⟩:=h;rfl
 obtain⟨t,w,rfl,q⟩:=h;refine⟨_,(bo (b5 (nf (cP (dY (cA aq)) (bT bV (aj 0) aN (λ _ _=>rfl)) bX (cp _)) (cO e0 (aj 1) aN) (aj 1)))),?_⟩
 cases t with
 |way a=>exact⟨λ _=>bQ.of (by simpa[Tm.hh] using q),λ c=>absurd c (by decide)⟩
 |_=>exact⟨λ c=>absurd c (by decide),λ _=>bQ.of q⟩
noncomputable abbrev Ai:bC:=top 19
theorem ND:df ["program","many","least","moved"] ["program","many","least"] (b9 Ai):=⟨rfl,rfl,rfl,by trivial,rfl,by trivial,by trivial⟩
noncomputable abbrev jC:bC:=(g9 Ai).getD 0 (.Pass ⟨0,0,0,0⟩)
theorem aaK:vC ["number","ways","many","least"] ["number","ways"] ["many","least"] (b9 jC):=⟨rfl,rfl,rfl,by trivial,rfl,rfl,by trivial,by trivial,by trivial,by trivial,by trivial⟩
theorem aaL{m l:Nat}:wg P w K mg base 1 "moved" "lifted.<locals>.moved" jC ["many","least"] [.int m,.int l] ["number","ways"] (CS (gf m l) (λ _ _=>True) []):=by
 refine KD (k:=0) aaK (λ ds G az h=>?_) (λ _ _ _ _ _ us aH=>match us,aH with|[_,_],_=>rfl) (λ f bF cl A outer s H aq ds G az h=>?_)
 ·obtain⟨_,_,rfl,_⟩:=h;rfl
 obtain⟨n,w,rfl,_,_,q⟩:=h;refine⟨_,(bo (b5 (cb (ao bX (ao (nf (cP vO (aj 0) (cO e0 (aj 1) (aj 3)) (cp _)) (cO e0 (aj 0) (aj 2)) (aj 0)) aJ))))),?_⟩;refine⟨λ c=>⟨Sub.refl _,?_⟩,λ c=>⟨Sub.refl _,?_⟩⟩
 ·have cu:(w:Int)+l<=n:=by simpa using c
  rw[gf,if_pos (by omega),Tm.enc,sy]at q;exact q
 ·have cu:¬ (w:Int)+l<=n:=by simpa using c
  rw[gf,if_neg (by omega),Tm.enc]at q;exact q
theorem aaM{c El:Addr}(kz:PySem.W.CodeHd base c El)(fk:l4 mg base)(tU:Got P w K mg base 3 "with_names" ["program","change"] (aX K (zO P w K mg base 1)))(F:tC K "lifted" "lifted" Ai f fd c):cN P w K mg base cG 4 f fd ["program","many","least"] (aX K (CT El (gY jC))):=by
 refine KE (k:=3) F ND (λ ds G az h=>?_) (λ A outer s H E aq ds G az h=>?_)
 ·obtain⟨_,_,_,rfl,_⟩:=h;rfl
 obtain⟨t,m,l,rfl,bp,hz,q⟩:=h
 refine⟨_,(a6 (Kn (i:=3) (T:=El) (fr:=["many","least"]) ND.aS rfl (Or.inl rfl) rfl kz fk (by kernel_rfl) rfl rfl rfl)
  (bo (b5 (Kx (name:="moved") (qual:="lifted.<locals>.moved") (st:=jC) (fr:=["many","least"]) (ix:=[1,2]) tU aq (by omega) rfl (by trivial) (by kernel_rfl) (ao (aj 0) (ao (aj 3) aJ)))))),?_⟩
 refine⟨bp,λ f hf=>⟨f,[.int m,.int l],bh,rfl,λ i j h=>?_,t,f,_,_,_,_,_,_,gf m l,λ _ _=>True,[],rfl,bh,aaL,λ y bj=>absurd bj (jI),hz,λ _ _=>trivial,rfl,G,Sub.new (Sub.refl _) hf,q⟩⟩;rcases i with _|_|i
 ·cases h;exact⟨_,rfl,rfl⟩
 ·cases h;exact⟨_,rfl,rfl⟩
 ·cases h
noncomputable abbrev Em:bC:=top 22
theorem rY:df ["program","change","made","pending","entry","one","inners","below"] ["program","change"] (b9 Em):=⟨rfl,rfl,rfl,by trivial,rfl,by trivial,by trivial⟩
theorem aaN{e7:Nat}(B:gh mg)(g0:Got P w K mg base 1 "inner" ["program"] (aX K (ik Tm.enc Tm.bb)))(tV:Got P w K mg base 1 "ways_below" ["program","ways"] (aX K zM))(F:c4 K "with_names" "with_names" Em f fd):cN P w K mg base cG (e7+2) f fd ["program","change"] (aX K (zO P w K mg base e7)):=by
 refine dO (k:=e7+1) F rY (λ ds G az h=>?_) (λ bF A outer s H E aq ds G az h=>?_)
 ·obtain⟨_,_,_,_,_,_,_,_,_,_,_,rfl,_⟩:=h;rfl
 obtain⟨t,qt,name,qual,aaO,fr,vals,ps,φ,C,L,rfl,hf,aaP,eg,hz,kz,q⟩:=h
 refine⟨_,(a6 (bP (k:=2) rY.aS rfl (Or.inr rfl) (iJ aJ))
  (a6 (bP (k:=3) rY.aS rfl (Or.inl rfl) (iJ (ao (cb (ao (aj 0) (ao aN (ao l8 aJ)))) aJ)))
  (a6 (ou PassesOwn.never (hA (aj 3)) (a6 (bP (k:=4) rY.aS rfl (Or.inl rfl) (p2 PySem.F.plainAttrs_list PySem.F.slot_list_pop PySem.F.type_list_pop p3 (aj 3)))
  (a6 (bP (k:=5) rY.aS rfl (Or.inl rfl) (bT bV (aj 4) aN (λ _ _=>rfl)))
  (bo (dr (cP (dY (cA aq)) (bT bV (aj 5) aN (λ _ _=>rfl)) bX (cp _)) (bo (hB (hX PySem.F.plainAttrs_list PySem.F.slot_list_append PySem.F.type_list_append jz (aj 2) (ao (Wc 1 aaP aq (by omega) (ao (bT bV (aj 5) aN (λ _ _=>rfl)) (ao (bT bV (aj 4) aN (λ _ _=>rfl)) aJ))) aJ)))) (bo (dr (cP (dY (cA aq)) (bT bV (aj 5) aN (λ _ _=>rfl)) bX (cp _)) (bo (hB (hX PySem.F.plainAttrs_list PySem.F.slot_list_append PySem.F.type_list_append jz (aj 2) (ao (aj 5) aJ)))) (bo (dr (hA (bT bV (aj 4) aN (λ _ _=>rfl))) (a6 (Vn (k:=6) rfl rY.aS rfl (Or.inl rfl) (fA.of (N':=["part","made"]) (nt:=1) (cap:=[2]) rfl (by kernel_rfl)) (kK (k:=0) (by decide)) (ig (cf g0 aq (by omega) rfl (ao (aj 5) aJ))) (λ _ _ _ _=>(e5 (k:=0) (show List.Nodup (["part","made"]:List Str) by trivial) rfl (Or.inl rfl)))  (λ _ _ _ _=>(p2 PySem.F.plainAttrs_list PySem.F.slot_list_pop PySem.F.type_list_pop p3 (aj 1))))
  (bo (hB (hX PySem.F.plainAttrs_list PySem.F.slot_list_append PySem.F.type_list_append jz (aj 2) (ao (cO e0 (cb (ao (bT bV (aj 5) aN (λ _ _=>rfl)) aJ)) (vP vR rfl B.tuple pe (ao (aj 6) aJ))) aJ))))) (a6 (hB (hX PySem.F.plainAttrs_list PySem.F.slot_list_append PySem.F.type_list_append jz (aj 3) (ao (cb (ao (aj 5) (ao (bT bV (aj 4) aN (λ _ _=>rfl)) (ao l8 aJ)))) aJ)))
  (a6 (bP (k:=7) rY.aS rfl (Or.inr rfl) (cf tV aq (by omega) rfl (ao (aj 5) (ao (bT bV (aj 4) aN (λ _ _=>rfl)) aJ))))
  (bo (hB (hX PySem.F.plainAttrs_list PySem.F.slot_list_extend PySem.F.type_list_extend zv (aj 3) (ao (rx rfl (fA.of (N':=["part","below"]) (nt:=1) (cap:=[7]) rfl (by kernel_rfl)) (kK (k:=0) (by decide)) (ig (cf g0 aq (by omega) rfl (ao (aj 5) aJ))) (λ _ _ _ _=>(e5 (k:=0) (show List.Nodup (["part","below"]:List Str) by trivial) rfl (Or.inl rfl))) (λ _ _ _ _=>(cb (ao (aj 0) (ao (aj 1) (ao l8 aJ)))))) aJ)))))))))))))))
  (bo (b5 (p2 PySem.F.plainAttrs_list PySem.F.slot_list_pop PySem.F.type_list_pop p3 (aj 2))))))),?_⟩
 intro a aB b af;obtain⟨-,hE,cE⟩:=iM (o:=.lst []) af
 have aaQ:qt≠a:=by rintro rfl;rw[hf]at aB;cases aB
 have aaR:qt≠b:=by rintro rfl;rw[hf]at hE;cases hE
 refine⟨λ μ ρ am=>∃(st:List Ent)(m:List Tm)(fC ek fq tW:Option D),ρ=[some t.enc,some (.ref qt),some (.ref a),some (.ref b),fC,ek,fq,tW]/\am=up (up G a (.lst (m.reverse.map Tm.enc))) b (.lst (st.reverse.map oB))/\mh φ st m=some [t.cU φ 0]/\(∀ z∈st,(z.2.2=false\/z.1.leaf=true)->∀ y∈z.1.cM z.2.1,C y.1 y.2)/\m.length+j6 st<=2 * t.aL/\μ=j6 st,
  ⟨_,[(t,0,false)],[],_,_,_,_,rfl,rfl,by simp[mh,CR],by intro z hz _;simp at hz;subst hz;exact kz,by simp[j6,nq],rfl⟩,?_⟩
 rintro μ ρ am ⟨st,m,fC,ek,fq,tW,rfl,rfl,mw,NE,hsz,rfl⟩;refine dc bh ⟨λ c=>?_,λ c=>?_⟩
 ·obtain⟨u,w,hN,a7,rfl⟩:∃ u w hN a7,st=(u,w,hN)::a7:=by
   cases st with
   |nil=>simp at c
   |cons z a7=>exact⟨z.1,z.2.1,z.2.2,a7,rfl⟩
  rw[zL]at hsz ⊢;have aaS:=KJ a7;have Aj:∀ z∈a7,(z.2.2=false\/z.1.leaf=true)->∀ y∈z.1.cM z.2.1,C y.1 y.2:=λ z hz=>NE z (eE _ hz);have Ak:=NE (u,w,hN) (dP ..);refine⟨dc bh trivial,eL bh ⟨a7.reverse.map oB,oB (u,w,hN),by simp,?_⟩⟩;rw[fE]
  have iq:∀(o:eU)(ds:List D),up (up G a (.lst ds)) b o a=some (.lst ds):=λ o ds=>by rw[bH (Ne.symm cE)];exact bh
  have NF:∀(o p:eU),up (up G a o) b p qt=some (.l5 name qual aaO fr vals):=λ o p=>by rw[bH aaR,bH aaQ];exact hf
  have BL:∀(o p:eU),∀ q∈L,up (up G a o) b p q.1=some q.2:=λ o p q aV=>by
   rw[bH (by rintro e;rw[<- e,eg q aV]at hE;cases hE),bH (by rintro e;rw[<- e,eg q aV]at aB;cases aB)];exact eg q aV
  have tX:1<=nq (u,w,hN):=by have:=u.mc;show 1<=(if hN=true then 1 else 2 * u.aL);split<;>omega
  refine(show ln u.enc (.int 0) _ _ from rP ⟨λ c=>?_,λ c=>?_⟩)
  ·obtain⟨k,rfl⟩:=LH c
   have BS:m.length+1<=2 * t.aL:=by omega
   refine⟨dc (iq _ _) trivial,qt,rfl,NF _ _,NF _ _,k,w,rfl,?_,BL _ _,eL (iq _ _) ⟨fI (by simp only[bL,hG];omega),?_⟩⟩
   ·exact Ak (.inr rfl) (k,w) (dP ..)
   rw[nk cE];exact d8.of ⟨j6 a7,by omega,a7,φ k w::m,_,_,_,_,rfl,by simp,mw,Aj,by simp only[dt];omega,rfl⟩
  refine(show ln u.enc (.int 0) _ _ from rP ⟨λ dS=>?_,λ dS=>?_⟩)
  ·obtain⟨k,rfl⟩:=Yx dS;refine⟨dc (iq _ _) trivial,eL (iq _ _) ⟨fI (by simp only[bL,hG];omega),?_⟩⟩;rw[nk cE];exact d8.of ⟨j6 a7,by omega,a7,.whole k::m,_,_,_,_,rfl,by simp,mw,Aj,by simp only[dt];omega,rfl⟩
  have qu:=Yy c dS;have nA:=Tm.rB u
  cases hN with
  | true=>
   refine⟨λ _=>?_,nofun⟩;rw[mh,KG (t:=u) qu]at mw
   have aI:(Tm.bb u).length<=m.length:=by
    rcases qQ m.length (Tm.bb u).length with z|z
    ·rw[if_neg (by omega)]at mw;cases mw
    ·exact z
   rw[if_pos aI]at mw;simp only[]at mw;generalize wE:(Tm.bb u).length=c0 at aI mw nA;refine⟨u,rfl,Vk (λ i ds am=>ds=(m.take i).map Tm.enc/\i<=c0/\am=up (up G a (.lst ((m.drop i).reverse.map Tm.enc))) b (.lst (a7.reverse.map oB))) ?_ ⟨rfl,fV _,by rw[uv]⟩ (λ _ _ _ _ _=>trivial) ?_ ?_⟩
   ·show ((Tm.bb u).map Tm.enc).length<sizeLine;rw[bL,wE];exact fI (by omega)
   ·rintro i d ds am hd ⟨rfl,ar,rfl⟩
    have kD:i<c0:=by
     have z:=(f5.mp hd).1;have gT:i<((Tm.bb u).map Tm.enc).length:=z;rw[bL,wE]at gT;exact gT
    have aA:m.drop i=m[i]::m.drop (i+1):=nU (by omega);refine⟨dc (iq _ _) trivial,eL (iq _ _) ⟨(m.drop (i+1)).reverse.map Tm.enc,(m[i]'(by omega)).enc,by rw[aA,qN,fN];rfl,?_⟩⟩;rw[nk cE];refine nj.of ⟨?_,by omega,rfl⟩;rw[jl,f6 (by omega),Option.toList_some,fN];rfl
   ·rintro ds am ⟨rfl,_,rfl⟩ p ax
    have En:nS (uz Tm.enc (Tm.bb u))=c0:=by rw[bL];exact wE
    rw[show (⟨uz Tm.enc (Tm.bb u),_⟩:j1).items.length=c0 from En]at ax ⊢
    have Al:a≠p:=by rintro rfl;rw[iq]at ax;cases ax
    refine⟨dc (by rw[bH Al];exact iq _ _) trivial,(show ln u.enc (.int 0) _ _ from rP (dc bh ⟨small (by simp only[bL,k2,dt,h7];omega),eL (by rw[bH Al];exact iq _ _) ⟨fI (by simp only[bL,hG,mJ];omega),?_⟩⟩))⟩;refine⟨_,up (up G a (.lst ((m.drop c0).reverse.map Tm.enc++[.tup (.str (Tm.word u)::(m.take c0).map Tm.enc)]))) b (.lst (a7.reverse.map oB)),.refl _,?_,j6 a7,by omega,a7,Tm.p6 u (m.take c0)::m.drop c0,_,_,_,_,rfl,?_,mw,Aj,?_,rfl⟩
    ·rw[<- nk (x:=.lst ((m.drop c0).reverse.map Tm.enc)) cE];exact Sub.put (Sub.new (Sub.refl _) ax)
    ·congr 2;rw[qN,fN,cV,o8,Tm.KF (t:=u) qu (by rw[k2,wE];omega)]
    ·simp only[dt,mJ];omega
  | false=>
   refine⟨nofun,λ _=>?_⟩;have agX:=Tm.Wv (t:=u) qu;simp only[nq,mM,if_false]at hsz;refine⟨dc bh trivial,eL bh ⟨fI (by simp only[bL,hG];omega),?_⟩⟩;rw[fE];refine⟨u,w,rfl,dc bh trivial,u,rfl,?_⟩;refine p0 (Tm.bb u) Tm.enc (λ x=>oB (x,Tm.hh u w,false)) rfl (fI (by omega)) trivial (λ x _ R ed=>ed) (λ p ax=>?_)
   have np:b≠p:=by rintro rfl;rw[bh]at ax;cases ax
   refine eL (by rw[bH np];exact bh) (eL bh ⟨small (by simp only[bL,hG,dJ,dt,h7];omega),?_⟩)
   have agY:j6 ((Tm.bb u|>.map λ x=>((x,Tm.hh u w,false):Ent)).reverse++(u,w,true)::a7)+1=2 * Tm.aL u+j6 a7:=by
    rw[<- iw,KI,iw,sq,zL];simp only[nq,if_true];omega
   refine⟨_,up (up G a (.lst (m.reverse.map Tm.enc))) b (.lst (a7.reverse.map oB++[oB (u,w,true)]++(Tm.bb u).map λ x=>oB (x,Tm.hh u w,false))),.refl _,Sub.put (Sub.trans (Sub.new (Sub.refl _) (by rw[bH cE];exact hE)) (Sub.new (Sub.refl _) ax)),_,?_,(Tm.bb u|>.map λ x=>((x,Tm.hh u w,false):Ent)).reverse++(u,w,true)::a7,m,_,_,_,_,rfl,?_,?_,?_,?_,rfl⟩
   ·simp only[nq,mM,if_false];omega
   ·congr 2;simp[gw,Function.comp_def]
   ·rw[Wu (t:=u) qu];exact mw
   ·intro z hz m3 y bj;rcases hF.mp hz with hz|hz
    ·obtain⟨x,aA,rfl⟩:=eF.mp (ux.mp hz);exact Ak (.inl rfl) y (Tm.Ws (t:=u) qu aA bj)
    ·rcases dw.mp hz with rfl|hz
     ·rcases m3 with z|z
      ·cases z
      ·exact absurd (qu.symm.trans z) (by decide)
     ·exact Aj z hz m3 y bj
   ·omega
 ·have e:st=[]:=by
   cases st with
   |nil=>rfl
   |cons _ _=>simp at c
  subst e;have aF:m=[t.cU φ 0]:=eW.inj mw;subst aF
  have iq:∀(o:eU)(ds:List D),up (up G a (.lst ds)) b o a=some (.lst ds):=λ o ds=>by rw[bH (Ne.symm cE)];exact bh
  refine⟨dc (iq _ _) trivial,eL (iq _ _) ⟨[],(t.cU φ 0).enc,rfl,?_⟩⟩;rw[nk cE];exact⟨G,Sub.trans (Sub.new (Sub.refl _) aB) (Sub.new (Sub.refl _) (by rw[bH cE];exact hE)),q⟩
noncomputable abbrev Eo:bC:=top 17
theorem tY:df ["program","found","pending","entry","one","below"] ["program"] (b9 Eo):=⟨rfl,rfl,rfl,by trivial,rfl,by trivial,by trivial⟩
theorem aaT(B:gh mg)(g0:Got P w K mg base 1 "inner" ["program"] (aX K (ik Tm.enc Tm.bb)))(tV:Got P w K mg base 1 "ways_below" ["program","ways"] (aX K zM))(F:c4 K "names_in" "names_in" Eo f fd):cN P w K mg base cG 2 f fd ["program"] (aX K zN):=by
 refine dO (k:=1) F tY (λ ds G az h=>?_) (λ bF A outer s H E aq ds G az h=>?_)
 ·obtain⟨_,rfl,_⟩:=h;rfl
 obtain⟨t,rfl,hz,q⟩:=h
 refine⟨_,(a6 (bP (k:=1) tY.aS rfl (Or.inl rfl) (iJ aJ))
  (a6 (bP (k:=2) tY.aS rfl (Or.inl rfl) (iJ (ao (cb (ao (aj 0) (ao aN aJ))) aJ)))
  (a6 (ou PassesOwn.never (hA (aj 2)) (a6 (bP (k:=3) tY.aS rfl (Or.inl rfl) (p2 PySem.F.plainAttrs_list PySem.F.slot_list_pop PySem.F.type_list_pop p3 (aj 2)))
  (a6 (bP (k:=4) tY.aS rfl (Or.inl rfl) (bT bV (aj 3) aN (λ _ _=>rfl)))
  (a6 (dr (cP (dY (cA aq)) (bT bV (aj 4) aN (λ _ _=>rfl)) bX (cp _)) (bo (hB (hX PySem.F.plainAttrs_list PySem.F.slot_list_append PySem.F.type_list_append jz (aj 1) (ao (cb (ao (bT bV (aj 4) aN (λ _ _=>rfl)) (ao (bT bV (aj 3) aN (λ _ _=>rfl)) aJ))) aJ)))) dN)
  (a6 (bP (k:=5) tY.aS rfl (Or.inr rfl) (cf tV aq (by omega) rfl (ao (aj 4) (ao (bT bV (aj 3) aN (λ _ _=>rfl)) aJ))))
  (bo (hB (hX PySem.F.plainAttrs_list PySem.F.slot_list_extend PySem.F.type_list_extend zv (aj 2) (ao (rx rfl (fA.of (N':=["part","below"]) (nt:=1) (cap:=[5]) rfl (by kernel_rfl)) (kK (k:=0) (by decide)) (ig (cf g0 aq (by omega) rfl (ao (aj 4) aJ))) (λ _ _ _ _=>(e5 (k:=0) (show List.Nodup (["part","below"]:List Str) by trivial) rfl (Or.inl rfl))) (λ _ _ _ _=>(cb (ao (aj 0) (ao (aj 1) aJ))))) aJ)))))))))
  (bo (b5 (aj 1)))))),?_⟩
 intro a aB b af;obtain⟨-,hE,cE⟩:=iM (o:=.lst []) af;refine⟨λ m ρ am=>∃(ps:List (Tm×Nat))(fs:List (Nat×Nat))(dZ fC ek:Option D),ρ=[some t.enc,some (.ref a),some (.ref b),dZ,fC,ek]/\am=up (up G a (.lst (fs.map lv))) b (.lst (ps.reverse.map i9))/\fs++ps.flatMap (λ z=>z.1.cM z.2)=t.cM 0/\j7 ps<=t.aL/\m=j7 ps,⟨_,[(t,0)],[],_,_,_,rfl,rfl,by simp,by simp[j7],rfl⟩,?_⟩;rintro m ρ am ⟨ps,fs,dZ,fC,ek,rfl,rfl,hR,hsz,rfl⟩;have hlen:=t.CP 0
 have BS:fs.length<=t.aL:=by rw[<- hR,dJ]at hlen;omega
 refine dc bh ⟨λ c=>?_,λ c=>?_⟩
 ·obtain⟨u,w,a7,rfl⟩:∃ u w a7,ps=(u,w)::a7:=by
   cases ps with
   |nil=>simp at c
   |cons z a7=>exact⟨z.1,z.2,a7,rfl⟩
  rw[CU]at hsz ⊢;rw[qO]at hR;have aaS:=KL a7;have br:=u.mc;refine⟨dc bh trivial,eL bh ⟨a7.reverse.map i9,i9 (u,w),by simp,?_⟩⟩;rw[fE]
  have iq:∀ o,up (up G a (.lst (fs.map lv))) b o a=some (.lst (fs.map lv)):=λ o=>by rw[bH (Ne.symm cE)];exact bh
  refine(show ln u.enc (.int 0) _ _ from rP ⟨λ c=>?_,λ c=>?_⟩)
  ·obtain⟨k,rfl⟩:=LH c;refine⟨dc (iq _) trivial,eL (iq _) ⟨fI (by rw[bL];omega),?_⟩⟩;rw[nk cE];refine⟨(.name k:Tm),w,rfl,dc bh trivial,(.name k:Tm),rfl,?_⟩;refine p0 (Tm.bb (.name k:Tm)) Tm.enc (λ x=>i9 (x,Tm.hh (.name k:Tm) w)) rfl (fI (by have:=Tm.rB (.name k:Tm);omega)) trivial (λ x _ R ed=>ed) (λ p ax=>?_)
   have np:b≠p:=by rintro rfl;rw[bh]at ax;cases ax
   refine eL (by rw[bH np];exact bh) (eL bh ⟨small (by have:=Tm.rB (.name k:Tm);simp only[bL,hG];omega),?_⟩);refine⟨_,up (up G a (.lst (fs.map lv++[.tup [.int k,.int w]]))) b (.lst (a7.reverse.map i9++(Tm.bb (.name k:Tm)).map λ x=>i9 (x,Tm.hh (.name k:Tm) w))),.refl _,Sub.put (Sub.trans (Sub.new (Sub.refl _) (by rw[bH cE];exact hE)) (Sub.new (Sub.refl _) ax)),j7 (((Tm.bb (.name k:Tm)).map λ x=>(x,Tm.hh (.name k:Tm) w)).reverse++a7),?_,((Tm.bb (.name k:Tm)).map λ x=>(x,Tm.hh (.name k:Tm) w)).reverse++a7,fs++[(k,w)],_,_,_,rfl,?_,?_,?_,rfl⟩
   ·have:=Tm.zP (.name k:Tm);rw[<- iw,wo,iw,sq];simp only[];omega
   ·congr 2
    ·simp[lv]
    ·simp[gw,Function.comp_def]
   ·rw[<- hR];simp[Tm.bb,Tm.cM]
   ·have:=Tm.zP (.name k:Tm);rw[<- iw,wo,iw,sq];simp only[]at hsz;omega
  refine⟨u,w,rfl,dc bh trivial,u,rfl,?_⟩;refine p0 (Tm.bb u) Tm.enc (λ x=>i9 (x,Tm.hh u w)) rfl (fI (by have:=Tm.rB u;omega)) trivial (λ x _ R ed=>ed) (λ p ax=>?_)
  have np:b≠p:=by rintro rfl;rw[bh]at ax;cases ax
  refine eL (by rw[bH np];exact bh) (eL bh ⟨small (by have:=Tm.rB u;simp only[bL,hG];omega),?_⟩);refine⟨_,up (up G a (.lst (fs.map lv))) b (.lst (a7.reverse.map i9++(Tm.bb u).map λ x=>i9 (x,Tm.hh u w))),.refl _,Sub.put (Sub.trans (Sub.new (Sub.refl _) (by rw[bH cE];exact hE)) (Sub.new (Sub.refl _) ax)),j7 (((Tm.bb u).map λ x=>(x,Tm.hh u w)).reverse++a7),?_,((Tm.bb u).map λ x=>(x,Tm.hh u w)).reverse++a7,fs,_,_,_,rfl,?_,?_,?_,rfl⟩
  ·have:=Tm.zP u;rw[<- iw,wo,iw,sq];simp only[];omega
  ·congr 2;simp[gw,Function.comp_def]
  ·rw[<- hR,uB,<- iw,List.flatMap_map];congr 2;exact(Yz c w).symm
  ·have:=Tm.zP u;rw[<- iw,wo,iw,sq];simp only[]at hsz;omega
 ·have e:ps=[]:=by
   cases ps with
   |nil=>rfl
   |cons _ _=>simp at c
  subst e
  have aF:fs=t.cM 0:=by simpa using hR
  subst aF;exact⟨up G a (.lst ((t.cM 0).map lv)),Sub.new (Sub.refl _) (by rw[bH cE];exact hE),q a aB⟩
noncomputable abbrev Ep:bC:=top 44
theorem aaU:df ["data"] ["data"] (b9 Ep):=⟨rfl,rfl,rfl,by trivial,rfl,by trivial,by trivial⟩
theorem aaV(Er:Got P w K mg base 2 "with_paths" ["thing","inners_of"] (aX K (CE P w K mg base 1)))(w4:Got P w K mg base 1 "inner_of_pair" ["program"] (aX K (ik aR.enc aR.bb)))(tZ:Got P w K mg base 1 "road_of" ["path"] (aX K zD))(F:c4 K "roads" "roads" Ep f fd):cN P w K mg base cG 3 f fd ["data"] (aX K (oz 1000)):=by
 refine dO (k:=2) F aaU (λ ds G az h=>?_) (λ bF A outer s H E aq ds G az h=>?_)
 ·obtain⟨_,rfl,_⟩:=h;rfl
 obtain⟨t,rfl,hd,hz,q⟩:=h;obtain⟨lz,t4,w5⟩:=w4.BC;refine⟨_,(bo (b5 (rx rfl (fA.of (N':=["path","part"]) (nt:=2) (cap:=[]) rfl (by kernel_rfl)) (Cp (tn ow (Co ow tm) (kK (k:=0) (by decide)) (tn ow tm (kK (k:=1) (by decide)) Cm))) (ig (cf Er aq (by omega) rfl (ao (aj 0) (ao (ro (d:=.ref _) (v:=.ref _) rfl t4 rfl (λ _=>rfl)) aJ)))) (λ _ _ _ _=>(za (n:=2) rfl (pT (e5 (k:=0) (show List.Nodup (["path","part"]:List Str) by trivial) rfl (Or.inl rfl)) (pT (e5 (k:=1) (show List.Nodup (["path","part"]:List Str) by trivial) rfl (Or.inl rfl)) y_)))) (λ _ _ _ _=>(cf tZ aq (by omega) rfl (ao (aj 0) aJ)))))),?_⟩;refine⟨aR,aR.enc,aR.bb,aR.all,lz,t,rfl,aR.all_eq,w5,by rw[aR.p4];omega,λ z kA=>?_,λ l aH=>lq bh ?_⟩
 ·have:=(aR.rD kA).1;omega
 ·refine p0 t.all (j3 aR.enc) (λ z=>cB z.1) ?_ ?_ ?_ ?_ ?_
  ·rfl
  ·rw[aR.p4];exact fI (by omega)
  ·exact bh
  ·intro z kA R ed;have:=aR.rD kA;exact⟨z.1,rfl,this.2,by omega,ed⟩
  ·intro p ax;obtain⟨_,ky,eR⟩:=iM (o:=.lst []) ax;exact⟨up G p (.lst (t.all.map λ z=>cB z.1)),Sub.put (Sub.new (Sub.refl _) aH),q p ky⟩
noncomputable abbrev Es:bC:=top 54
theorem Et:df ["_law_found","_law_due","_law_one","_law_other"] ["_law_found","_law_due"] (b9 Es):=⟨rfl,rfl,rfl,by trivial,rfl,by trivial,by trivial⟩
theorem aaW:cN P w K mg base cG 1 f fd ["_law_found","_law_due"] (aX K (we 0)):=zA λ ds G az h=>by
 obtain⟨_,_,_,h,_⟩:=h;omega
theorem aaX{n:Nat}(B:gh mg)(g_same:Got P w K mg base (n+1) "_law_same" ["_law_found","_law_due"] (aX K (we n)))(F:c4 K "_law_same" "_law_same" Es f fd):cN P w K mg base cG (n+2) f fd ["_law_found","_law_due"] (aX K (we (n+1))):=by
 refine dO (k:=n+1) F Et (λ ds G az h=>?_) (λ bF A outer s H E aq ds G az h=>?_)
 ·obtain⟨_,rfl,_⟩:=h;rfl
 obtain⟨d,rfl,ax,hd,q⟩:=h
 refine⟨_,(a6 (dr (hA (gX tv rfl B.isinstance qS (ao (aj 1) (ao (rn rfl B.tuple pe) aJ)))) (a6 (dr (hx.at (l9 (pS (hA (gX tv rfl B.isinstance qS (ao (aj 0) (ao (rn rfl B.tuple pe) aJ))))) (ng (cP (v_ (cA aq)) (gX kJ rfl B.len Wp (ao (aj 0) aJ)) (gX kJ rfl B.len Wp (ao (aj 1) aJ)) (cp _))))) (bo (b5 l8)) dN)
  (a6 (ih PassesOwn.never rfl (VS rfl B.zip (ao (aj 0) (ao (aj 1) aJ))) (za (n:=2) rfl (pT (e5 (k:=2) Et.aS rfl (Or.inl rfl)) (pT (e5 (k:=3) Et.aS rfl (Or.inl rfl)) y_))) (bo (dr (pS (hA (cf g_same aq (by omega) rfl (ao (aj 2) (ao (aj 3) aJ))))) (bo (b5 l8)) dN)))
  (bo (b5 l8)))) dN)
  (a6 (dr (hA (gX tv rfl B.isinstance qS (ao (aj 1) (ao (rn rfl B.str PyProof.Rows.boot_str) aJ)))) (bo (b5 (pQ (gX tv rfl B.isinstance qS (ao (aj 0) (ao (rn rfl B.str PyProof.Rows.boot_str) aJ))) (rp (jv (dY (cA aq)) (aj 0) (aj 1) (cp _)))))) dN)
  (bo (b5 (pQ (gX tv rfl B.isinstance qS (ao (aj 0) (ao (rn rfl B.int PyProof.Rows.boot_int) aJ))) (pQ (UL (gX tv rfl B.isinstance qS (ao (aj 0) (ao (rn rfl B.bool PyProof.Rows.boot_bool) aJ)))) (rp (jv (dY (cA aq)) (aj 0) (aj 1) (cp _))))))))),?_⟩
 cases d with
 |int i=>exact⟨false,rfl,nofun,λ _=>⟨false,rfl,nofun,λ _=>⟨true,rfl,λ _=>⟨false,rfl,λ _=>bQ.of (by simpa using q),nofun⟩,nofun⟩⟩⟩
 |str x=>exact⟨false,rfl,nofun,λ _=>⟨true,rfl,λ _=>⟨true,rfl,λ _=>bQ.of (by simpa using q),nofun⟩,nofun⟩⟩
 | tup ds=>
  simp only[D.plain,fh,decide_eq_true_eq]at ax;simp only[D.bn]at hd;refine⟨true,rfl,λ _=>⟨true,rfl,nofun,λ _=>⟨λ c=>absurd c (by simp),λ _=>⟨ZB _,?_⟩⟩⟩,nofun⟩;refine⟨λ i ρ am=>∃ lx iS,ρ=[some (.tup ds),some (.tup ds),lx,iS]/\am=G,⟨_,_,rfl,rfl⟩,λ _ _ _ _ _=>trivial,?_,?_⟩
  ·rintro i e ρ am he ⟨lx,iS,rfl,rfl⟩;have w6:((ds.zip ds).map λ z=>D.tup [z.1,z.2])[i]?=some e:=he;rw[Kj,dF]at w6
   cases aC:ds[i]? with
   |none=>rw[aC]at w6;cases w6
   | some x=>
    rw[aC]at w6;cases w6;have aA:=gj aC;have ag:=Ki aA;exact⟨x,rfl,Kh ax.2 aA,by omega,nofun,λ _=>d8.of ⟨_,_,rfl,rfl⟩⟩
  ·rintro ρ am ⟨lx,iS,rfl,rfl⟩;exact bQ.of q
 |_=>simp[D.plain]at ax
noncomputable abbrev Eu:bC:=top 55
theorem Am:df ["_law_data","_law_found","_law_k","_law_road"] ["_law_data"] (b9 Eu):=⟨rfl,rfl,rfl,by trivial,rfl,by trivial,by trivial⟩
theorem aaY:cN P w K mg base cG 1 f fd ["_law_data"] (aX K (oz 0)):=zA λ ds G az h=>by
 obtain⟨_,_,h,_⟩:=h;omega
theorem aaZ{n:Nat}(B:gh mg)(qv:Got P w K mg base (n+1) "_law_roads" ["_law_data"] (aX K (oz n)))(F:c4 K "_law_roads" "_law_roads" Eu f fd):cN P w K mg base cG (n+2) f fd ["_law_data"] (aX K (oz (n+1))):=by
 refine dO (k:=n+1) F Am (λ ds G az h=>?_) (λ bF A outer s H E aq ds G az h=>?_)
 ·obtain⟨_,rfl,_⟩:=h;rfl
 obtain⟨t,rfl,hd,hz,q⟩:=h
 refine⟨_,(a6 (bP (k:=1) Am.aS rfl (Or.inl rfl) (iJ (ao (cb aJ) aJ)))
  (a6 (dr (cP (dY (cA aq)) (bT bV (aj 0) aN (λ _ _=>rfl)) bX (cp _)) (bo (ih PassesOwn.never rfl (vY rfl B.range (ao aN aJ)) (e5 (k:=2) Am.aS rfl (Or.inl rfl)) (bo (ih PassesOwn.never rfl (ig (cf qv aq (by omega) rfl (ao (bT bV (aj 0) (cO e0 aN (aj 2)) (λ _ _=>rfl)) aJ))) (e5 (k:=3) Am.aS rfl (Or.inl rfl)) (bo (hB (hX PySem.F.plainAttrs_list PySem.F.slot_list_append PySem.F.type_list_append jz (aj 1) (ao (cO e0 (cb (ao (zy (ao bX (ao bX aJ)) (aj 2) (λ _ _=>rfl)) aJ)) (aj 3)) aJ)))))))) dN)
  (bo (b5 (aj 1))))),?_⟩
 intro p ax
 cases t with
 |w n=>exact⟨λ c=>absurd c (by decide),λ _=>bQ.of (q p ax)⟩
 | p a b=>
  refine⟨λ _=>?_,λ c=>absurd c (by decide)⟩;refine tj (by decide) ?_;refine⟨λ i ρ am=>∃ iS dZ,ρ=[some (aR.enc (.p a b)),some (.ref p),iS,dZ]/\am=up G p (.lst ((([],aR.p a b)::gd aR.all ((aR.p a b).bb.take i) 0).map λ z=>cB z.1)),⟨_,_,rfl,rfl⟩,λ _ _ _ _ _=>trivial,?_,?_⟩
  ·rintro i d ρ am oM ⟨iS,dZ,rfl,rfl⟩;obtain⟨ar,rfl⟩:=vT oM;have vD:i<2:=ar
   obtain⟨u,br,agZ,ag0,vF⟩:∃ u,(aR.p a b).bb[i]?=some u/\u.bn<(aR.p a b).bn/\u.aL<(aR.p a b).aL/\gC [D.str "pair",a.enc,b.enc] (1+(0+(i:Int)))=some u.enc:=by
    rcases(by omega:i=0\/i=1) with rfl|rfl
    ·exact⟨a,rfl,by simp only[aR.bn];omega,by simp only[aR.aL];omega,rfl⟩
    ·exact⟨b,rfl,by simp only[aR.bn];omega,by simp only[aR.aL];omega,rfl⟩
   refine ti vF ?_;refine⟨u,rfl,by omega,by omega,λ l aH=>lq bh ?_⟩;obtain⟨_,Ev,cE⟩:=iM (o:=.lst []) aH
   have NG:gd aR.all ((aR.p a b).bb.take (i+1)) 0=gd aR.all ((aR.p a b).bb.take i) 0++(u.all.map λ z=>((0+(i:Int))::z.1,z.2)):=by
    have aa0:i<(aR.p a b).bb.length:=vD;rw[jl,br,CD,k2,Nat.min_eq_left (pa aa0)];simp[gd]
   have hlen:(gd aR.all ((aR.p a b).bb.take i) 0).length+u.all.length+1<=1000:=by
    have es:gd aR.all ((aR.p a b).bb.take (i+1)++(aR.p a b).bb.drop (i+1)) 0=_:=CD aR.all ((aR.p a b).bb.take (i+1)) ((aR.p a b).bb.drop (i+1)) 0;rw[o9]at es;have aC:=(aR.p a b).p4;rw[(aR.p a b).all_eq,es,NG,dt,dJ,dJ,bL]at aC;omega
   refine⟨λ j ρ rZ=>∃ dZ,ρ=[some (aR.enc (.p a b)),some (.ref p),some (.int (0+(i:Int))),dZ]/\rZ=up (up G p (.lst ((([],aR.p a b)::gd aR.all ((aR.p a b).bb.take i) 0).map (λ z=>cB z.1)++(u.all.take j).map λ z=>cB ((0+(i:Int))::z.1)))) l (.lst (u.all.map λ z=>cB z.1)),⟨_,rfl,by rw[xV,o8,kh]⟩,λ j ρ rZ _ ⟨_,_,e⟩=>by rw[e];exact bh,?_,?_⟩
   ·rintro j d' ρ rZ eI ⟨dZ,rfl,rfl⟩;have hd2:(u.all.map λ z=>cB z.1)[j]?=some d':=eI;rw[dF]at hd2
    cases aC:u.all[j]? with
    |none=>rw[aC]at hd2;cases hd2
    | some z=>
     rw[aC]at hd2;cases hd2;have pI:=(aR.rD (gj aC)).1;have ag1:=u.p4;have ag2:=u.wb
     have e4:∀ X Y:eU,up (up G p X) l Y p=some X:=λ X Y=>by rw[bH (Ne.symm cE)];exact bh
     have NH:1+(z.1.map λ k=>D.str (fl k)).length<=200000:=by rw[bL];omega
     have kM:((([],aR.p a b)::gd aR.all ((aR.p a b).bb.take i) 0).map (λ z=>cB z.1)++(u.all.take j).map λ z=>cB ((0+(i:Int))::z.1)).length<=200000:=by
      simp only[dJ,bL,dt,k2];omega
     refine⟨dc (e4 _ _) trivial,at2 (i:=0+(i:Int)) (by omega) (by omega) (λ e=>⟨small NH,eL (e4 _ _) ⟨fI kM,d8.of ⟨_,rfl,?_⟩⟩⟩) (λ e=>⟨small NH,eL (e4 _ _) ⟨fI kM,d8.of ⟨_,rfl,?_⟩⟩⟩)⟩
     ·rw[nk cE,mK,jl,aC,fN,e];rfl
     ·rw[nk cE,mK,jl,aC,fN,e];rfl
   ·rintro ρ rZ ⟨dZ,rfl,rfl⟩;refine⟨_,up G p (.lst ((([],aR.p a b)::gd aR.all ((aR.p a b).bb.take (i+1)) 0).map λ z=>cB z.1)),vI.refl _,?_,_,_,rfl,rfl⟩
    have e:u.all.take (u.all.map λ z=>cB z.1).length=u.all:=by rw[bL,k3]
    have b0:((([],aR.p a b)::gd aR.all ((aR.p a b).bb.take (i+1)) 0).map λ z=>cB z.1)=((([],aR.p a b)::gd aR.all ((aR.p a b).bb.take i) 0).map (λ z=>cB z.1)++(u.all.take (u.all.map λ z=>cB z.1).length).map λ z=>cB ((0+(i:Int))::z.1)):=by
     rw[e,NG,<- kk,fN,gw];rfl
    rw[b0];exact Sub.new (Sub.refl _) (by rw[bH cE];exact Ev)
  ·rintro ρ am ⟨iS,dZ,rfl,rfl⟩;refine bQ.of ?_;have z:=q p ax;rw[aR.all_eq]at z;exact z
noncomputable abbrev Ew:bC:=top 56
theorem Ex:df ["_law_feed_here","_law_room","_law_deep","_law_one","_law_found"] ["_law_feed_here","_law_room","_law_deep"] (b9 Ew):=⟨rfl,rfl,rfl,by trivial,rfl,by trivial,by trivial⟩
theorem aa1:cN P w K mg base cG 2 f fd ["_law_feed_here","_law_room","_law_deep"] (aX K (wf 0)):=zA λ ds G az h=>by
 obtain⟨_,_,_,_,_,_,ag,ai,_⟩:=h;omega
theorem aa2{n:Nat}(e9:Got P w K mg base 1 "_law_take" ["_law_feed_here","_law_many"] (aX K ls))(Ey:Got P w K mg base 2 "_law_whole" ["_law_feed_here"] (aX K tx))(t5:Got P w K mg base (n+2) "_law_tree" ["_law_feed_here","_law_room","_law_deep"] (aX K (wf n)))(F:c4 K "_law_tree" "_law_tree" Ew f fd):cN P w K mg base cG (n+3) f fd ["_law_feed_here","_law_room","_law_deep"] (aX K (wf (n+1))):=by
 refine dO (k:=n+2) F Ex (λ ds G az h=>?_) (λ bF A outer s H E aq ds G az h=>?_)
 ·obtain⟨_,_,_,rfl,_⟩:=h;rfl
 obtain⟨a,room,deep,rfl,fm,ag3,yY,ag4,q⟩:=h
 have nZ:∀ a_,gu a G a_->tx [.ref a] a_ (bQ az):=λ a_ eA=>⟨eA.fd,λ k dv ke _ _=>bQ.of (q (.w k) dv (eA.trans ke) (by simp only[aR.aL];omega) (by simp only[aR.bn];omega))⟩
 refine⟨_,(a6 (dr (hx.at (l9 (cP rr (aj 1) aN (cp _)) (l9 (cP rr (aj 2) aN (cp _)) (ng (cP (dY (cA aq)) (cf e9 aq (by omega) rfl (ao (aj 0) (ao aN aJ))) aN (cp _)))))) (bo (b5 (cf Ey aq (by omega) rfl (ao (aj 0) aJ)))) dN)
  (a6 (bP (k:=3) Ex.aS rfl (Or.inl rfl) (cO e0 aN (cO nh aN (cf e9 aq (by omega) rfl (ao (aj 0) (ao (cO Ca (cO kH (aj 1) aN) aN) aJ))))))
  (a6 (bP (k:=4) Ex.aS rfl (Or.inl rfl) (cf t5 aq (by omega) rfl (ao (aj 0) (ao (aj 3) (ao (cO kH (aj 2) aN) aJ)))))
  (bo (b5 (cb (ao bX (ao (aj 4) (ao (cf t5 aq (by omega) rfl (ao (aj 0) (ao (cO kH (cO kH (aj 1) aN) (aj 3)) (ao (cO kH (aj 2) aN) aJ)))) aJ))))))))),?_⟩
 refine⟨λ ew=>⟨λ _=>nZ G (.refl fm),nofun⟩,λ ew=>⟨λ dS=>⟨λ _=>nZ G (.refl fm),nofun⟩,λ dS=>⟨fm,by decide,by decide,λ e aw d5 cg aC=>⟨λ _=>nZ aw d5,λ s6=>?_⟩⟩⟩⟩
 have iY:¬ room<3:=by simpa using ew
 have w7:¬ deep<1:=by simpa using dS
 refine⟨⟨by decide,by decide⟩,d5.fd,by omega,by omega,λ aF a_ eA f0 f1=>?_⟩;refine⟨.inl ⟨by decide,by decide⟩,a,_,_,rfl,(d5.trans eA).fd,by omega,by omega,by omega,λ t1 dv ke cW c7=>?_⟩;refine⟨a,_,_,rfl,((d5.trans eA).trans ke).fd,by omega,by omega,by omega,λ t2 iL Ez eZ gD=>bQ.of (q (.p t1 t2) iL (((d5.trans eA).trans ke).trans Ez) ?_ ?_)⟩
 ·simp only[aR.aL];omega
 ·simp only[aR.bn];omega
noncomputable abbrev EA:bC:=top 16
theorem aa3:df ["program"] ["program"] (b9 EA):=⟨rfl,rfl,rfl,by trivial,rfl,by trivial,by trivial⟩
theorem aa4(B:gh mg)(t6:Got P w K mg base 2 "names_in" ["program"] (aX K zN))(F:c4 K "open_names" "open_names" EA f fd):cN P w K mg base cG 3 f fd ["program"] (aX K C0):=by
 refine dO (k:=2) F aa3 (λ ds G az h=>?_) (λ bF A outer s H E aq ds G az h=>?_)
 ·obtain⟨_,rfl,_⟩:=h;rfl
 obtain⟨t,rfl,hz,bc,q⟩:=h;refine⟨_,(bo (b5 (Xt rfl B.sorted rfl B.set (JU rfl (fA.of (N':=["number","ways"]) (nt:=2) (cap:=[]) rfl (by kernel_rfl)) (Cp (tn ow (Co ow tm) (kK (k:=0) (by decide)) (tn ow tm (kK (k:=1) (by decide)) Cm))) (ig (cf t6 aq (by omega) rfl (ao (aj 0) aJ))) (λ _ _ _ _=>(za (n:=2) rfl (pT (e5 (k:=0) (show List.Nodup (["number","ways"]:List Str) by trivial) rfl (Or.inl rfl)) (pT (e5 (k:=1) (show List.Nodup (["number","ways"]:List Str) by trivial) rfl (Or.inl rfl)) y_)))) (λ _ _ _ _=>(cP vO (aj 0) (aj 1) (cp _))) (λ _ _ _ _=>(cO kH (aj 0) (aj 1))))))),?_⟩;refine⟨t,rfl,hz,λ b_ ag=>lq bh ?_⟩;refine JR (t.cM 0) lv (λ z=>if z.2<=z.1 then some (.int ((z.1:Int) - z.2)) else none) rfl (fI (by have:=t.CP 0;omega)) bh ?_ ?_
 ·intro z kA R S ed c3;refine⟨λ c=>?_,λ c=>?_⟩
  ·have cu:(z.2:Int)<=z.1:=by simpa using c
   exact ed _ (by rw[if_pos (by omega)])
  ·have cu:¬ (z.2:Int)<=z.1:=by simpa using c
   exact c3 (by rw[if_neg (by omega)])
 ·intro p ax
  have e:((t.cM 0).filterMap λ z=>if z.2<=z.1 then some (D.int ((z.1:Int) - z.2)) else none)=t.nu.map D.int:=by
   unfold Tm.nu K_;rw[List.map_filterMap];congr 1;funext z;split<;>rfl
  rw[e];have s0:=t.Xu;refine dc bh ⟨t.nu,Ch _,by omega,λ ms av er im=>?_⟩;obtain⟨_,ky,_⟩:=iM (o:=.lst []) im;obtain⟨_,eR,_⟩:=iM (o:=.lst []) ky;exact⟨up G er (.lst (ms.map D.int)),Sub.put (Sub.trans (Sub.new (Sub.refl _) ag) (Sub.new (Sub.refl _) ax)),q ms av er eR⟩
noncomputable abbrev EB:bC:=top 21
theorem w8:df ["program","depths","deeper","closed","copies","ways"] ["program","depths"] (b9 EB):=⟨rfl,rfl,rfl,by trivial,rfl,by trivial,by trivial⟩
theorem aa5{T:Addr}{cj:Pos}(B:gh mg)(EC:Got P w K mg base 3 "open_names" ["program"] (aX K C0))(ED:Got P w K mg base 4 "lifted" ["program","many","least"] (aX K (CT T cj)))(F:c4 K "copies_for" "copies_for" EB f fd):cN P w K mg base cG 5 f fd ["program","depths"] (aX K (Dj T cj)):=by
 refine dO (k:=4) F w8 (λ ds G az h=>?_) (λ bF A outer s H E aq ds G az h=>?_)
 ·obtain⟨_,_,_,rfl,_⟩:=h;rfl
 obtain⟨u,l,ws,rfl,aH,hw,hz,bc,bp,q⟩:=h
 refine⟨_,(a6 (bP (k:=2) w8.aS rfl (Or.inl rfl) (Yr rfl B.sorted rfl B.set (aj 1) (iJ (ao aN aJ))))
  (a6 (bP (k:=3) w8.aS rfl (Or.inl rfl) (pQ (jv th (gX kJ rfl B.len Wp (ao (aj 2) aJ)) aN (cp _)) (rp (aaz (cf EC aq (by omega) rfl (ao (aj 0) aJ))))))
  (a6 (bP (k:=4) w8.aS rfl (Or.inl rfl) (XA aN (aj 0)))
  (a6 (ih PassesOwn.never rfl (ig (aj 2)) (e5 (k:=5) w8.aS rfl (Or.inl rfl)) (bo (Xy (cA aq) (aj 4) (aj 5) (nf (hA (aj 3)) (aj 0) (cf ED aq (by omega) rfl (ao (aj 0) (ao (aj 5) (ao aN aJ))))))))
  (bo (b5 (aj 4))))))),?_⟩
 refine dc aH ⟨ws.map (λ(w:Nat)=>(w:Int)),by rw[<- Ch,gw];rfl,by rw[bL];exact hw,?_⟩;refine λ l_ nF=>dc bh ⟨0,rfl,λ ms av bI fz=>?_⟩;have EE:Sub G (up (up G l_ (.lst [.int 0])) bI (.lst (ms.map D.int))):=Sub.trans (Sub.new (Sub.refl _) nF) (Sub.new (Sub.refl _) fz);have EF:up (up G l_ (.lst [.int 0])) bI (.lst (ms.map D.int)) bI=some (.lst (ms.map D.int)):=bh;have tE:=EE _ _ bp;generalize up (up G l_ (.lst [.int 0])) bI (.lst (ms.map D.int))=NI at *;refine dc EF ⟨λ c=>?_,λ c=>?_⟩
 ·refine⟨u,rfl,hz,bc,λ nG pC jB aT=>dc bh ?_⟩;have w9:=Sub.trans EE (Sub.new (o:=.lst (nG.map D.int)) (Sub.refl _) aT);have aF:=b8 (o:=.lst (nG.map D.int)) aT EF;have w_:=b8 (o:=.lst (nG.map D.int)) aT tE
  have af:(!(!(nG.map D.int).isEmpty))=true->u.nu=[]:=λ c=>by
   have:nG=[]:=by cases nG with|nil=>rfl|cons _ _=>simp at c
   subst this
   cases aO:u.nu with
   |nil=>rfl
   |cons x xs=>have:=(pC.2 x).mpr (by rw[aO];exact dP ..);cases this
  generalize up NI jB (.lst (nG.map D.int))=V at *;intro d hd
  have oe:bI≠d:=by rintro rfl;rw[aF]at hd;cases hd
  refine⟨bh,.inl 0,rfl,?_⟩;rw[fE];refine lq (by rw[bH oe];exact aF) ⟨λ i ρ am=>∃(kvs:List (Key×D))(ek:Option D),ρ=[some u.enc,some (.ref l),some (.ref bI),some (.aW (!(!(nG.map D.int).isEmpty))),some (.ref d),ek]/\am=up V d (.cR kvs)/\(∀ j∈(0:Int)::ms.take i,gH kvs (.inl j)=some (u.cU (gf j.toNat 0) 0).enc)/\kvs.length<=i+1,⟨[(.inl 0,u.enc)],_,rfl,rfl,?_,ZB _⟩,λ i ρ am _ ⟨kvs,ek,_,h,_⟩=>(show am bI=some (.lst (ms.map D.int)) by rw[h,bH oe];exact aF),?_,?_⟩
  ·intro j bW;rw[xV]at bW;rw[ft.mp bW];show some u.enc=some (u.cU (gf 0 0) 0).enc;rw[tF]
  ·rintro i x ρ am aA ⟨kvs,ek,rfl,rfl,aI,aa6⟩;have kb:(ms.map D.int)[i]?=some x:=aA;rw[dF]at kb
   cases j5:ms[i]? with
   |none=>rw[j5]at kb;cases kb
   | some j=>
    rw[j5]at kb;cases kb;have EG:=gj j5;have xa:=(av.2 j).mp EG;rw[o2,eF]at xa;obtain⟨⟨w,tX,rfl⟩,aa7⟩:=xa;have aa8:i<ms.length:=(f5.mp j5).1
    have lm:ms.length<=64:=by
     have aS:ms.Nodup:=av.1.imp λ h=>by omega
     have:=C1 aS λ j bW=>(av.2 j).mp bW;have:=List.length_filter_le (λ j:Int=>decide (j≠0)) (ws.map λ(w:Nat)=>(w:Int));rw[bL]at this;omega
    have EH:∀ y,y=(u.cU (gf w 0) 0).enc->∀ j∈(0:Int)::ms.take (i+1),gH (kL kvs (.inl (w:Int)) y) (.inl j)=some (u.cU (gf j.toNat 0) 0).enc:=λ y bj j bW=>by
     rw[Lb];by_cases c:(Sum.inl j:Key)=.inl (w:Int)
     ·rw[if_pos c];obtain rfl:j=(w:Int):=Sum.inl.inj c;rw[bj,gx]
     ·rw[if_neg c];refine aI j ?_;rcases dw.mp bW with h|h
      ·exact dw.mpr (.inl h)
      ·rw[jl,j5]at h;rcases hF.mp h with h|h
       ·exact dw.mpr (.inr h)
       ·have wy:j=(w:Int):=by simpa using h
        exact absurd (by rw[wy]) c
    have fin:∀ y,y=(u.cU (gf w 0) 0).enc->p_ (up V d (.cR kvs)) d λ xb=>∃ k,qa (.int (w:Int))=some k/\xb.length<sizeLine/\d8 (λ ρ am=>∃(kvs:List (Key×D))(ek:Option D),ρ=[some u.enc,some (.ref l),some (.ref bI),some (.aW (!(!(nG.map D.int).isEmpty))),some (.ref d),ek]/\am=up V d (.cR kvs)/\(∀ j∈(0:Int)::ms.take (i+1),gH kvs (.inl j)=some (u.cU (gf j.toNat 0) 0).enc)/\kvs.length<=i+1+1) [some u.enc,some (.ref l),some (.ref bI),some (.aW (!(!(nG.map D.int).isEmpty))),some (.ref d),some (.int (w:Int))] (up (up V d (.cR kvs)) d (.cR (kL xb k y))):=λ y bj=>by
     refine C3 bh ⟨.inl (w:Int),rfl,fI (by omega),d8.of ⟨_,_,rfl,fE,EH y bj,?_⟩⟩;have:=Lc kvs (.inl (w:Int)) y;omega
    refine⟨λ c=>fin _ ?_,λ c=>⟨u,w,0,rfl,by rw[bH (by rintro rfl;rw[w_]at hd;cases hd)];exact w_,hz,fin _ rfl⟩⟩;rw[LF w u 0 (LG (af c))]
  ·rintro ρ am ⟨kvs,ek,rfl,rfl,aI,_⟩;refine⟨up G d (.cR kvs),Sub.put w9,q d kvs (w9.none hd) λ w tX=>?_⟩;have z:=aI (w:Int) ?_
   ·rw[gx]at z;exact z
   ·by_cases c:w=0
    ·rw[c];exact dw.mpr (.inl rfl)
    ·refine dw.mpr (.inr ?_)
     have e:ms.take (ms.map D.int).length=ms:=by rw[bL];exact k3 ..
     show (w:Int)∈ms.take (ms.map D.int).length;rw[e,av.2,o2];exact⟨eF.mpr ⟨w,tX,rfl⟩,by simpa using c⟩
 ·have w9:=EE;have aF:=EF;have w_:=tE;have af:false=true->u.nu=[]:=nofun;generalize NI=V at *;intro d hd
  have oe:bI≠d:=by rintro rfl;rw[aF]at hd;cases hd
  refine⟨bh,.inl 0,rfl,?_⟩;rw[fE];refine lq (by rw[bH oe];exact aF) ⟨λ i ρ am=>∃(kvs:List (Key×D))(ek:Option D),ρ=[some u.enc,some (.ref l),some (.ref bI),some (.aW false),some (.ref d),ek]/\am=up V d (.cR kvs)/\(∀ j∈(0:Int)::ms.take i,gH kvs (.inl j)=some (u.cU (gf j.toNat 0) 0).enc)/\kvs.length<=i+1,⟨[(.inl 0,u.enc)],_,rfl,rfl,?_,ZB _⟩,λ i ρ am _ ⟨kvs,ek,_,h,_⟩=>(show am bI=some (.lst (ms.map D.int)) by rw[h,bH oe];exact aF),?_,?_⟩
  ·intro j bW;rw[xV]at bW;rw[ft.mp bW];show some u.enc=some (u.cU (gf 0 0) 0).enc;rw[tF]
  ·rintro i x ρ am aA ⟨kvs,ek,rfl,rfl,aI,aa6⟩;have kb:(ms.map D.int)[i]?=some x:=aA;rw[dF]at kb
   cases j5:ms[i]? with
   |none=>rw[j5]at kb;cases kb
   | some j=>
    rw[j5]at kb;cases kb;have EG:=gj j5;have xa:=(av.2 j).mp EG;rw[o2,eF]at xa;obtain⟨⟨w,tX,rfl⟩,aa7⟩:=xa;have aa8:i<ms.length:=(f5.mp j5).1
    have lm:ms.length<=64:=by
     have aS:ms.Nodup:=av.1.imp λ h=>by omega
     have:=C1 aS λ j bW=>(av.2 j).mp bW;have:=List.length_filter_le (λ j:Int=>decide (j≠0)) (ws.map λ(w:Nat)=>(w:Int));rw[bL]at this;omega
    have EH:∀ y,y=(u.cU (gf w 0) 0).enc->∀ j∈(0:Int)::ms.take (i+1),gH (kL kvs (.inl (w:Int)) y) (.inl j)=some (u.cU (gf j.toNat 0) 0).enc:=λ y bj j bW=>by
     rw[Lb];by_cases c:(Sum.inl j:Key)=.inl (w:Int)
     ·rw[if_pos c];obtain rfl:j=(w:Int):=Sum.inl.inj c;rw[bj,gx]
     ·rw[if_neg c];refine aI j ?_;rcases dw.mp bW with h|h
      ·exact dw.mpr (.inl h)
      ·rw[jl,j5]at h;rcases hF.mp h with h|h
       ·exact dw.mpr (.inr h)
       ·have wy:j=(w:Int):=by simpa using h
        exact absurd (by rw[wy]) c
    have fin:∀ y,y=(u.cU (gf w 0) 0).enc->p_ (up V d (.cR kvs)) d λ xb=>∃ k,qa (.int (w:Int))=some k/\xb.length<sizeLine/\d8 (λ ρ am=>∃(kvs:List (Key×D))(ek:Option D),ρ=[some u.enc,some (.ref l),some (.ref bI),some (.aW false),some (.ref d),ek]/\am=up V d (.cR kvs)/\(∀ j∈(0:Int)::ms.take (i+1),gH kvs (.inl j)=some (u.cU (gf j.toNat 0) 0).enc)/\kvs.length<=i+1+1) [some u.enc,some (.ref l),some (.ref bI),some (.aW false),some (.ref d),some (.int (w:Int))] (up (up V d (.cR kvs)) d (.cR (kL xb k y))):=λ y bj=>by
     refine C3 bh ⟨.inl (w:Int),rfl,fI (by omega),d8.of ⟨_,_,rfl,fE,EH y bj,?_⟩⟩;have:=Lc kvs (.inl (w:Int)) y;omega
    refine⟨λ c=>fin _ ?_,λ c=>⟨u,w,0,rfl,by rw[bH (by rintro rfl;rw[w_]at hd;cases hd)];exact w_,hz,fin _ rfl⟩⟩;rw[LF w u 0 (LG (af c))]
  ·rintro ρ am ⟨kvs,ek,rfl,rfl,aI,_⟩;refine⟨up G d (.cR kvs),Sub.put w9,q d kvs (w9.none hd) λ w tX=>?_⟩;have z:=aI (w:Int) ?_
   ·rw[gx]at z;exact z
   ·by_cases c:w=0
    ·rw[c];exact dw.mpr (.inl rfl)
    ·refine dw.mpr (.inr ?_)
     have e:ms.take (ms.map D.int).length=ms:=by rw[bL];exact k3 ..
     show (w:Int)∈ms.take (ms.map D.int).length;rw[e,av.2,o2];exact⟨eF.mpr ⟨w,tX,rfl⟩,by simpa using c⟩
noncomputable abbrev An:bC:=top 20
theorem EI:df ["program","other","copies","taken"] ["program","other"] (b9 An):=⟨rfl,rfl,rfl,by trivial,rfl,by trivial,by trivial⟩
noncomputable abbrev kV:bC:=(g9 An).getD 1 (.Pass ⟨0,0,0,0⟩)
theorem aa9:vC ["number","ways","copies"] ["number","ways"] ["copies"] (b9 kV):=⟨rfl,rfl,rfl,by trivial,rfl,rfl,by trivial,by trivial,by trivial,by trivial,by trivial⟩
theorem abb{u:Tm}{d:Addr}{kvs:List (Key×D)}(C:Nat->Nat->Prop)(kz:∀ n w:Nat,C n w->n=w->gH kvs (.inl w)=some (u.cU (gf w 0) 0).enc):wg P w K mg base 1 "taken" "put_in.<locals>.taken" kV ["copies"] [.ref d] ["number","ways"] (CS (ka u) C [(d,.cR kvs)]):=by
 refine KD (k:=0) aa9 (λ ds G az h=>?_) (λ _ _ _ _ _ us aH=>match us,aH with|[_,_],_=>rfl) (λ f bF cl A outer s H aq ds G az h=>?_)
 ·obtain⟨_,_,rfl,_⟩:=h;rfl
 obtain⟨n,w,rfl,aE,eg,q⟩:=h
 refine⟨_,(a6 (dr (cP (dY (cA aq)) (aj 0) (aj 1) (cp _)) (bo (b5 (Xw (cA aq) (aj 2) (aj 1) (λ _ _=>rfl)))) dN)
  (bo (b5 (cb (ao bX (ao (nf (cP th (aj 0) (aj 1) (cp _)) (cO kH (aj 0) aN) (aj 0)) aJ)))))),?_⟩
 refine⟨λ c=>?_,λ c=>⟨λ dS=>⟨Sub.refl _,?_⟩,λ dS=>⟨Sub.refl _,?_⟩⟩⟩
 ·have cu:(n:Int)=w:=by simpa using c
  obtain rfl:n=w:=by omega
  have bu:=kz n n aE rfl
  have e:ka u n n=u.cU (gf n 0) 0:=by unfold ka;rw[if_pos rfl]
  rw[e]at q;exact C3 (zK.mpr ⟨eg _ (dP ..),rfl⟩) ⟨.inl (n:Int),_,rfl,bu,Sub.refl _,q⟩
 ·have cu:¬ (n:Int)=w:=by simpa using c
  have abd:(w:Int)<n:=by simpa using dS
  have e:(ka u n w).enc=.tup [.str "name",.int ((n:Int) - 1)]:=by
   unfold ka;rw[if_neg (by omega),if_pos (by omega)];show D.tup [.str "name",.int ((n - 1:Nat):Int)]=_;rw[show ((n - 1:Nat):Int)=(n:Int) - 1 by omega]
  rw[e]at q;exact q
 ·have cu:¬ (n:Int)=w:=by simpa using c
  have abd:¬ (w:Int)<n:=by simpa using dS
  have e:(ka u n w).enc=.tup [.str "name",.int (n:Int)]:=by
   unfold ka;rw[if_neg (by omega),if_neg (by omega)];rfl
  rw[e]at q;exact q
theorem abe{c T EJ:Addr}{cj:Pos}(kz:PySem.W.CodeHd base c EJ)(fk:l4 mg base)(B:gh mg)(t6:Got P w K mg base 2 "names_in" ["program"] (aX K zN))(EK:Got P w K mg base 5 "copies_for" ["program","depths"] (aX K (Dj T cj)))(tU:Got P w K mg base 3 "with_names" ["program","change"] (aX K (zO P w K mg base 1)))(F:tC K "put_in" "put_in" An f fd c):cN P w K mg base cG 6 f fd ["program","other"] (aX K (Dk T cj EJ (gY kV))):=by
 refine KE (k:=5) F EI (λ ds G az h=>?_) (λ A outer s H E aq ds G az h=>?_)
 ·obtain⟨_,_,rfl,_⟩:=h;rfl
 obtain⟨t,u,rfl,hz,abf,bc,Ak,bp,r0,q⟩:=h
 refine⟨_,(a6 (bP (k:=2) EI.aS rfl (Or.inr rfl) (cf EK aq (by omega) rfl (ao (aj 1) (ao (JU rfl (fA.of (N':=["number","ways"]) (nt:=2) (cap:=[]) rfl (by kernel_rfl)) (Cp (tn ow (Co ow tm) (kK (k:=0) (by decide)) (tn ow tm (kK (k:=1) (by decide)) Cm))) (ig (cf t6 aq (by omega) rfl (ao (aj 0) aJ))) (λ _ _ _ _=>(za (n:=2) rfl (pT (e5 (k:=0) (show List.Nodup (["number","ways"]:List Str) by trivial) rfl (Or.inl rfl)) (pT (e5 (k:=1) (show List.Nodup (["number","ways"]:List Str) by trivial) rfl (Or.inl rfl)) y_)))) (λ _ _ _ _=>(cP (dY (cA aq)) (aj 0) (aj 1) (cp _))) (λ _ _ _ _=>(aj 1))) aJ))))
  (a6 (Kn (i:=3) (T:=EJ) (fr:=["copies"]) EI.aS rfl (Or.inl rfl) rfl kz fk (by kernel_rfl) rfl rfl rfl)
  (bo (b5 (Kx (name:="taken") (qual:="put_in.<locals>.taken") (st:=kV) (fr:=["copies"]) (ix:=[2]) tU aq (by omega) rfl (by trivial) (by kernel_rfl) (ao (aj 0) (ao (aj 3) aJ))))))),?_⟩
 refine⟨t,rfl,hz,λ b_ ag=>lq bh ?_⟩;refine JR (t.cM 0) lv (λ z=>if z.1=z.2 then some (.int (z.2:Int)) else none) rfl (fI (by have:=t.CP 0;omega)) bh ?_ ?_
 ·intro z kA R S ed c3;refine⟨λ c=>?_,λ c=>?_⟩
  ·have cu:(z.1:Int)=z.2:=by simpa using c
   exact ed _ (by rw[if_pos (by omega)])
  ·have cu:¬ (z.1:Int)=z.2:=by simpa using c
   exact c3 (by rw[if_neg (by omega)])
 intro bI ai
 have e:((t.cM 0).filterMap λ z=>if z.1=z.2 then some (D.int (z.2:Int)) else none)=(qg t).map λ(w:Nat)=>D.int (w:Int):=by
  unfold qg;rw[gw]
  induction t.cM 0 with
  |nil=>rfl
  |cons z zs bG=>by_cases c:z.1=z.2<;>simp_all [o4,List.filter_cons]
 rw[e];have yC:=Yv t;have wF:Sub G (up (up G b_ (.lst ((t.cM 0).map lv))) bI (.lst ((qg t).map λ(w:Nat)=>D.int (w:Int)))):=Sub.trans (Sub.new (Sub.refl _) ag) (Sub.new (Sub.refl _) ai);refine⟨u,bI,qg t,rfl,bh,by omega,abf,Ak,wF _ _ bp,λ d kvs hd abg=>?_⟩;generalize up (up G b_ (.lst ((t.cM 0).map lv))) bI (.lst ((qg t).map λ(w:Nat)=>D.int (w:Int)))=V at *;refine⟨b8 hd (wF _ _ r0),λ qt hf=>?_⟩;obtain⟨_,ag5,NJ⟩:=iM (o:=.lst []) hf;refine⟨qt,[.ref d],bh,rfl,λ i j h=>?_,t,qt,_,_,_,_,_,_,ka u,λ n w=>(n,w)∈t.cM 0,[(d,.cR kvs)],rfl,bh,abb _ (λ n w bc e=>?_),λ y bj=>?_,hz,λ z hz=>hz,rfl,?_⟩
 ·match i,j,h with
  |0,_,rfl=>exact⟨_,rfl,rfl⟩
 ·subst e;exact abg n (Yu bc)
 ·rw[ft.mp bj,bH (Ne.symm NJ),bH (Ne.symm NJ)];exact bh
 ·exact⟨G,Sub.trans wF (Sub.trans (Sub.new (Sub.refl _) hd) (Sub.new (Sub.refl _) hf)),q⟩
noncomputable abbrev EL:bC:=top 4
theorem Ao:df ["trail","numbers","rest"] ["trail"] (b9 EL):=⟨rfl,rfl,rfl,by trivial,rfl,by trivial,by trivial⟩
theorem abh(B:gh mg)(F:c4 K "path_of" "path_of" EL f fd):cN P w K mg base cG 1 f fd ["trail"] (aX K zG):=by
 refine dO (k:=0) F Ao (λ ds G az h=>?_) (λ bF A outer s H E aq ds G az h=>?_)
 ·obtain⟨_,rfl,_⟩:=h;rfl
 obtain⟨r,rfl,aH,q⟩:=h
 refine⟨_,(a6 (bP (k:=1) Ao.aS rfl (Or.inl rfl) (iJ aJ))
  (a6 (bP (k:=2) Ao.aS rfl (Or.inl rfl) (aj 0))
  (a6 (ou PassesOwn.never (cP Cb (aj 2) hg (cp _)) (a6 (hB (hX PySem.F.plainAttrs_list PySem.F.slot_list_append PySem.F.type_list_append jz (aj 1) (ao (bT bV (aj 2) aN (λ _ _=>rfl)) aJ)))
  (bo (bP (k:=2) Ao.aS rfl (Or.inl rfl) (bT bV (aj 2) aN (λ _ _=>rfl))))))
  (bo (b5 (VL rfl B.tuple rfl B.reversed (aj 1))))))),?_⟩
 intro l Ev;refine⟨λ m ρ am=>∃(us ae:List Int),ρ=[some (rE r),some (.ref l),some (rE ae)]/\am=up G l (.lst (us.map D.int))/\us++ae=r/\m=ae.length,⟨_,[],r,rfl,rfl,rfl,rfl⟩,?_⟩;rintro m ρ am ⟨us,ae,rfl,rfl,rfl,rfl⟩
 cases ae with
 | nil=>
  refine⟨λ c=>absurd c (by decide),λ _=>?_⟩;refine dc bh ⟨_,Sub.new (Sub.refl _) Ev,?_⟩;have z:=q;rw[kh,gc,iw]at z;exact z
 | cons k ae=>
  refine⟨λ _=>?_,λ c=>zF c⟩;refine⟨dc bh trivial,eL bh ⟨fI (by rw[bL];simp only[dJ,dt]at aH;omega),?_⟩⟩;rw[fE];exact d8.of ⟨ae.length,by simp,us++[k],ae,rfl,by rw[fN];rfl,by simp,rfl⟩
noncomputable abbrev EM:bC:=top 24
theorem xc:df ["program","place","one","k","inners"] ["program","place"] (b9 EM):=⟨rfl,rfl,rfl,by trivial,rfl,by trivial,by trivial⟩
theorem abi(B:gh mg)(g0:Got P w K mg base 1 "inner" ["program"] (aX K (ik Tm.enc Tm.bb)))(F:c4 K "at_place" "at_place" EM f fd):cN P w K mg base cG 2 f fd ["program","place"] (aX K zC):=by
 refine dO (k:=1) F xc (λ ds G az h=>?_) (λ bF A outer s H E aq ds G az h=>?_)
 ·obtain⟨_,_,_,rfl,_⟩:=h;rfl
 obtain⟨t,ns,u,rfl,br,q⟩:=h
 refine⟨_,(a6 (bP (k:=2) xc.aS rfl (Or.inl rfl) (aj 0))
  (a6 (ih PassesOwn.never rfl (ig (aj 1)) (e5 (k:=3) xc.aS rfl (Or.inl rfl)) (a6 (bP (k:=4) xc.aS rfl (Or.inl rfl) (cf g0 aq (by omega) rfl (ao (aj 2) aJ)))
  (a6 (dr (hx.at (l9 (cP rr (aj 3) aN (cp _)) (ng (cP vO (aj 3) (gX kJ rfl B.len Wp (ao (aj 4) aJ)) (cp _))))) (bo (b5 hg)) dN)
  (bo (bP (k:=2) xc.aS rfl (Or.inl rfl) (bT bV (aj 4) (aj 3) (λ _ _=>rfl)))))))
  (bo (b5 (aj 2))))),?_⟩
 refine⟨λ i ρ am=>∃ v o p,ρ=[some (Tm.enc t),some (gc ns),some (Tm.enc v),o,p]/\am=G/\t.at (ns.take i)=some v,⟨t,_,_,rfl,rfl,rfl⟩,λ _ _ _ _ _=>trivial,?_,?_⟩
 ·rintro i d ρ am hd ⟨v,o,p,rfl,rfl,bu⟩;have eI:(ns.map D.int)[i]?=some d:=hd;rw[dF]at eI
  cases e:ns[i]? with
  |none=>rw[e]at eI;cases eI
  | some k=>
   rw[e]at eI;cases eI;obtain⟨iW,x,ag,ai,aT,b6⟩:=Tm.CG br e;rw[bu]at ag;cases ag;have aI:k.toNat<v.bb.length:=(f5.mp aT).1;refine⟨v,rfl,⟨λ c=>absurd (show k<0 by simpa using c) (by omega),λ _=>⟨λ c=>?_,λ _=>?_⟩⟩⟩
   ·have cu:(v.bb.map Tm.enc).length<=k:=by simpa using c
    rw[bL]at cu;omega
   ·refine ti (d:=x.enc) ?_ (d8.of ⟨x,_,_,rfl,rfl,b6⟩);have z:=mZ (xs:=v.bb.map Tm.enc) (j:=k.toNat) (v:=x.enc) (by rw[dF,aT];rfl)
    rwa[show ((k.toNat:Nat):Int)=k by omega]at z
 ·rintro ρ am ⟨v,o,p,rfl,rfl,bu⟩;have e:(ns.map D.int).length=ns.length:=bL ..;have wS:t.at (ns.take (ns.map D.int).length)=some v:=bu;rw[e,k3,br]at wS;cases wS;exact bQ.of q
noncomputable abbrev EN:bC:=top 28
theorem NK:df ["program","place","one"] ["program","place"] (b9 EN):=⟨rfl,rfl,rfl,by trivial,rfl,by trivial,by trivial⟩
theorem abj(t7:Got P w K mg base 2 "at_place" ["program","place"] (aX K zC))(t8:Got P w K mg base 1 "has_rule" ["program"] (aX K (zB Tm.e2)))(F:c4 K "can_go" "can_go" EN f fd):cN P w K mg base cG 3 f fd ["program","place"] (aX K CK):=by
 refine dO (k:=2) F NK (λ ds G az h=>?_) (λ bF A outer s H E aq ds G az h=>?_)
 ·obtain⟨_,_,_,rfl,_⟩:=h;rfl
 obtain⟨t,ns,u,rfl,br,q⟩:=h
 refine⟨_,(a6 (bP (k:=2) NK.aS rfl (Or.inl rfl) (cf t7 aq (by omega) rfl (ao (aj 0) (ao (aj 1) aJ))))
  (bo (b5 (pQ (jv Cb (aj 2) hg (cp _)) (rp (cf t8 aq (by omega) rfl (ao (aj 2) aJ))))))),?_⟩
 refine⟨t,ns,u,rfl,br,?_⟩;rw[u.oy];refine⟨λ _=>⟨u,?_,bQ.of q⟩,nofun⟩;rw[u.oy]
noncomputable abbrev EO:bC:=top 38
theorem abk:df ["program"] ["program"] (b9 EO):=⟨rfl,rfl,rfl,by trivial,rfl,by trivial,by trivial⟩
theorem abl(F:c4 K "inner_in_use" "inner_in_use" EO f fd):cN P w K mg base cG 1 f fd ["program"] (aX K CL):=by
 refine dO (k:=0) F abk (λ ds G az h=>?_) (λ bF A outer s H E aq ds G az h=>?_)
 ·obtain⟨t,rfl,_⟩:=h;rfl
 obtain⟨t,rfl,q⟩:=h
 refine⟨_,(a6 (dr (cP Ce (bT bV (aj 0) aN (λ _ _=>rfl)) (cb (ao bX (ao bX (ao bX (ao bX aJ))))) (by with_unfolding_all rfl)) (bo (b5 hg)) dN)
  (a6 (dr (hx.at (JC (cP (dY (cA aq)) (bT bV (aj 0) aN (λ _ _=>rfl)) bX (cp _)) (JB (cP (dY (cA aq)) (bT bV (bT bV (aj 0) aN (λ _ _=>rfl)) aN (λ _ _=>rfl)) bX (cp _))))) (bo (b5 aN)) dN)
  (bo (b5 aN)))),?_⟩
 cases t with
 | plus a b=>
  simp only[Tm.j4]at q;simp only[Tm.enc];rw[a.oy];refine⟨rfl,rfl,λ c=>absurd c (by decide),λ _=>⟨λ _=>⟨λ c=>?_,λ c=>?_⟩,λ c=>absurd c (by decide)⟩⟩
  ·rw[show (a.word==Str.ofString "whole")=true from c]at q;exact bQ.of q
  ·rw[show (a.word==Str.ofString "whole")=false from c]at q;exact bQ.of q
 |name _=>exact⟨rfl,rfl,λ _=>bQ.of q,λ c=>absurd c (by decide)⟩
 |whole _=>exact⟨rfl,rfl,λ _=>bQ.of q,λ c=>absurd c (by decide)⟩
 |way _=>exact⟨rfl,rfl,λ _=>bQ.of q,λ c=>absurd c (by decide)⟩
 |pair _ _=>exact⟨rfl,rfl,λ _=>bQ.of q,λ c=>absurd c (by decide)⟩
 |_=>exact⟨rfl,rfl,λ c=>absurd c (by decide),λ _=>⟨λ c=>absurd c (by decide),λ _=>⟨nofun,λ _=>bQ.of q⟩⟩⟩
noncomputable abbrev EP:bC:=top 37
theorem xd:df ["program","place","one","k"] ["program"] (b9 EP):=⟨rfl,rfl,rfl,by trivial,rfl,by trivial,by trivial⟩
theorem abm(B:gh mg)(t8:Got P w K mg base 1 "has_rule" ["program"] (aX K (zB Tm.e2)))(EQ:Got P w K mg base 1 "inner_in_use" ["program"] (aX K CL))(g0:Got P w K mg base 1 "inner" ["program"] (aX K (ik Tm.enc Tm.bb)))(F:c4 K "place_in_use" "place_in_use" EP f fd):cN P w K mg base cG 2 f fd ["program"] (aX K CM):=by
 refine dO (k:=1) F xd (λ ds G az h=>?_) (λ bF A outer s H E aq ds G az h=>?_)
 ·obtain⟨t,rfl,_⟩:=h;rfl
 obtain⟨t,rfl,hz,q⟩:=h
 refine⟨_,(a6 (bP (k:=1) xd.aS rfl (Or.inl rfl) (iJ aJ))
  (a6 (bP (k:=2) xd.aS rfl (Or.inl rfl) (aj 0))
  (a6 (ou PassesOwn.never (pS (hA (cf t8 aq (by omega) rfl (ao (aj 2) aJ)))) (a6 (bP (k:=3) xd.aS rfl (Or.inl rfl) (cf EQ aq (by omega) rfl (ao (aj 2) aJ)))
  (a6 (dr (cP pV (aj 3) hg (cp _)) (bo (b5 hg)) dN)
  (a6 (hB (hX PySem.F.plainAttrs_list PySem.F.slot_list_append PySem.F.type_list_append jz (aj 1) (ao (aj 3) aJ)))
  (bo (bP (k:=2) xd.aS rfl (Or.inl rfl) (bT bV (cf g0 aq (by omega) rfl (ao (aj 2) aJ)) (aj 3) (λ _ _=>rfl))))))))
  (bo (b5 (vP vR rfl B.tuple pe (ao (aj 1) aJ))))))),?_⟩
 intro l aH;refine⟨λ m ρ am=>∃(ns:List Int)(u:Tm)(o:Option D),ρ=[some (Tm.enc t),some (.ref l),some (Tm.enc u),o]/\am=up G l (.lst (ns.map D.int))/\t.use=u.use.map (ns++·)/\ns.length+u.aL<=t.aL/\m=u.aL,⟨_,[],t,_,rfl,rfl,by simp,by simp,rfl⟩,?_⟩;rintro m ρ am ⟨ns,u,o,rfl,rfl,br,bc,rfl⟩;refine⟨u,rfl,λ c=>?_,λ c=>?_⟩
 ·have cu:u.e2=false:=by simpa using c
  refine⟨u,rfl,?_⟩
  cases ar:u.j4 with
  | none=>
   rw[Tm.Kq ar]at br;rw[br]at q;exact⟨λ _=>⟨_,Sub.new (Sub.refl _) aH,q⟩,λ c=>absurd c (by decide)⟩
  | some k=>
   obtain⟨v,ag,ai⟩:=Tm.Kr cu ar;have aI:k<u.bb.length:=(f5.mp ag).1;have av:=Tm.Kg (gj ag);refine⟨λ c=>CI c,λ _=>?_⟩;refine⟨dc bh trivial,eL bh ⟨fI (by rw[bL];omega),?_⟩⟩;rw[fE];refine⟨u,rfl,ti (d:=v.enc) (mZ (by rw[dF,ag];rfl)) (d8.of ⟨v.aL,by omega,ns++[(k:Int)],v,_,rfl,by rw[fN];rfl,?_,by simp;omega,rfl⟩)⟩;rw[br,ai];cases v.use<;>simp
 ·have cu:u.e2=true:=by simpa using c
  rw[Tm.CJ cu]at br;rw[br]at q;refine dc bh ⟨_,Sub.new (Sub.refl _) aH,?_⟩;simpa[Kv,gc] using q
noncomputable abbrev ER:bC:=top 36
theorem Ap:df ["program","pending","entry","one"] ["program"] (b9 ER):=⟨rfl,rfl,rfl,by trivial,rfl,by trivial,by trivial⟩
theorem abn(ES:Got P w K mg base 1 "path_of" ["trail"] (aX K zG))(F:c4 K "first_unanswered" "first_unanswered" ER f fd):cN P w K mg base cG 2 f fd ["program"] (aX K CN):=by
 refine dO (k:=1) F Ap (λ ds G az h=>?_) (λ bF A outer s H E aq ds G az h=>?_)
 ·obtain⟨t,rfl,_⟩:=h;rfl
 obtain⟨t,rfl,hz,q⟩:=h
 refine⟨_,(a6 (bP (k:=1) Ap.aS rfl (Or.inl rfl) (iJ (ao (cb (ao (aj 0) (ao hg aJ))) aJ)))
  (a6 (ou PassesOwn.never (hA (aj 1)) (a6 (bP (k:=2) Ap.aS rfl (Or.inl rfl) (p2 PySem.F.plainAttrs_list PySem.F.slot_list_pop PySem.F.type_list_pop p3 (aj 1)))
  (a6 (bP (k:=3) Ap.aS rfl (Or.inl rfl) (bT bV (aj 2) aN (λ _ _=>rfl)))
  (bo (dr (cP (dY (cA aq)) (bT bV (aj 3) aN (λ _ _=>rfl)) bX (cp _)) (a6 (hB (hX PySem.F.plainAttrs_list PySem.F.slot_list_append PySem.F.type_list_append jz (aj 1) (ao (cb (ao (bT bV (aj 3) aN (λ _ _=>rfl)) (ao (cb (ao (bT bV (aj 2) aN (λ _ _=>rfl)) (ao aN aJ))) aJ))) aJ)))
  (bo (hB (hX PySem.F.plainAttrs_list PySem.F.slot_list_append PySem.F.type_list_append jz (aj 1) (ao (cb (ao (bT bV (aj 3) aN (λ _ _=>rfl)) (ao (cb (ao (bT bV (aj 2) aN (λ _ _=>rfl)) (ao aN aJ))) aJ))) aJ))))) (bo (dr (hx.at (JC (cP (v_ (cA aq)) (bT bV (aj 3) aN (λ _ _=>rfl)) bX (cp _)) (JB (cP (v_ (cA aq)) (bT bV (aj 3) aN (λ _ _=>rfl)) bX (cp _))))) (bo (b5 (cb (ao (aj 3) (ao (cf ES aq (by omega) rfl (ao (bT bV (aj 2) aN (λ _ _=>rfl)) aJ)) aJ))))) dN)))))))
  (bo (b5 hg)))),?_⟩
 intro l aH;refine⟨λ m ρ am=>∃(ps:List (Tm×List Int))(lx iS:Option D),ρ=[some (Tm.enc t),some (.ref l),lx,iS]/\am=up G l (.lst (ps.map p5))/\t.eM=oA ps.reverse/\il ps<=t.aL/\(∀ z∈ps,z.2.length<=t.aL - il ps)/\m=il ps,⟨_,[(t,[])],_,_,rfl,rfl,?_,by simp[il],by simp[il],rfl⟩,?_⟩
 ·simp only[List.reverse_singleton,oA,List.reverse_nil,List.nil_append];cases t.eM<;>rfl
 rintro m ρ am ⟨ps,lx,iS,rfl,rfl,hf,av,hd,rfl⟩;refine dc bh ⟨λ c=>?_,λ c=>?_⟩
 ·obtain⟨a7,z,rfl⟩:∃ a7 z,ps=a7++[z]:=by
   rcases List.eq_nil_or_concat ps with rfl|⟨a7,z,rfl⟩
   ·simp at c
   ·exact⟨a7,z,List.concat_eq_append ..⟩
  obtain⟨u,r⟩:=z;rw[rF]at av hd ⊢;rw[List.reverse_append,List.reverse_singleton,xZ]at hf;have aq:r.length<=t.aL - (il a7+u.aL):=hd (u,r) (by simp);have aV:∀ z∈a7,z.2.length<=t.aL - (il a7+u.aL):=λ z hz=>hd z (by simp[hz]);have br:=u.mc;have hlen:=Ku a7;refine⟨dc bh trivial,eL bh ⟨a7.map p5,p5 (u,r),by simp,?_⟩⟩;rw[fE]
  have leaf:u.eM=none->d8 (λ ρ am=>∃ cZ<il a7+u.aL,∃(ps:List (Tm×List Int))(lx iS:Option D),ρ=[some (Tm.enc t),some (.ref l),lx,iS]/\am=up G l (.lst (ps.map p5))/\t.eM=oA ps.reverse/\il ps<=t.aL/\(∀ z∈ps,z.2.length<=t.aL - il ps)/\cZ=il ps) [some (Tm.enc t),some (.ref l),some (p5 (u,r)),some u.enc] (up G l (.lst (a7.map p5))):=λ e=>
   d8.of ⟨il a7,by omega,a7,_,_,rfl,rfl,by rw[hf];simp only[oA,e],by omega,λ z hz=>by have:=aV z hz;omega,rfl⟩
  have out:u.eM=some ([],u)->zG [rE r] (up G l (.lst (a7.map p5))) (λ d am=>bQ az (.tup [u.enc,d]) am):=λ e=>by
   have aF:t.eM=some (r.reverse,u):=by rw[hf];simp only[oA,e,kh]
   rw[aF]at q;exact⟨r,rfl,by omega,_,Sub.new (Sub.refl _) aH,q⟩
  cases u with
  | pair a b=>
   refine⟨λ _=>?_,λ c=>absurd c (by decide)⟩;simp only[Tm.aL]at av aq aV;refine⟨dc bh trivial,eL bh ⟨fI (by rw[bL];omega),?_⟩⟩;rw[fE];refine⟨dc bh trivial,eL bh ⟨fI (by simp;omega),?_⟩⟩;rw[fE];refine d8.of ⟨il (a7++[(b,1::r)]++[(a,0::r)]),by rw[rF,rF];simp only[Tm.aL];omega,a7++[(b,1::r)]++[(a,0::r)],_,_,rfl,by simp[p5,rE],?_,by rw[rF,rF];simp only[];omega,?_,rfl⟩
   ·rw[hf,Wh];simp
   ·intro z hz;rw[rF,rF];simp only[mK,kk,List.nil_append,hF,dw,jI,or_false]at hz;rcases hz with hz|rfl|rfl
    ·have:=aV z hz;simp only[];omega
    ·simp only[dt];omega
    ·simp only[dt];omega
  |whole k=>exact⟨λ c=>absurd c (by decide),λ _=>⟨λ c=>absurd c (by decide),λ _=>⟨nofun,λ _=>leaf rfl⟩⟩⟩
  |way a=>exact⟨λ c=>absurd c (by decide),λ _=>⟨λ _=>⟨λ c=>absurd c (by decide),λ _=>leaf rfl⟩,λ c=>absurd c (by decide)⟩⟩
  |_=>exact⟨λ c=>absurd c (by decide),λ _=>⟨λ _=>⟨λ _=>out rfl,λ c=>absurd c (by decide)⟩,λ c=>absurd c (by decide)⟩⟩
 ·have e:ps=[]:=by
   cases ps with
   |nil=>rfl
   |cons _ _=>simp at c
  subst e;rw[show t.eM=none from hf]at q;exact⟨_,Sub.new (Sub.refl _) aH,q⟩
noncomputable abbrev ET:bC:=top 26
theorem NL:df ["program","k","other","inners"] ["program","k","other"] (b9 ET):=⟨rfl,rfl,rfl,by trivial,rfl,by trivial,by trivial⟩
theorem abo(g0:Got P w K mg base 1 "inner" ["program"] (aX K (ik Tm.enc Tm.bb)))(F:c4 K "with_inner" "with_inner" ET f fd):cN P w K mg base cG 2 f fd ["program","k","other"] (aX K Dn):=by
 refine dO (k:=1) F NL (λ ds G az h=>?_) (λ bF A outer s H E aq ds G az h=>?_)
 ·obtain⟨_,_,_,rfl,_⟩:=h;rfl
 obtain⟨t,k,o,rfl,qu,aI,q⟩:=h
 refine⟨_,(a6 (bP (k:=3) NL.aS rfl (Or.inl rfl) (cf g0 aq (by omega) rfl (ao (aj 0) aJ)))
  (bo (b5 (cO e0 (cO e0 (cO e0 (cb (ao (bT bV (aj 0) aN (λ _ _=>rfl)) aJ)) (ll lp (aj 3) li (lj (aj 1)))) (cb (ao (aj 2) aJ))) (ll lp (aj 3) (lj (cO e0 (aj 1) aN)) li))))),?_⟩
 have nA:=t.rB;have hm:(t.bb.map Tm.enc).length=t.bb.length:=bL ..;refine⟨t,rfl,(show ln t.enc (.int 0) _ _ from rP ?_)⟩
 have aC:((t.bb.map Tm.enc).take k).length<=3:=by rw[k2,hm];omega
 have aF:((t.bb.map Tm.enc).drop (k+1)).length<=3:=by rw[mJ,hm];omega
 have ew:cut (t.bb.map Tm.enc) none (some (k:Int))=(t.bb.map Tm.enc).take k:=LM (by omega);have dS:cut (t.bb.map Tm.enc) (some ((k:Int)+1)) none=(t.bb.map Tm.enc).drop (k+1):=LN (by omega);refine⟨small ?_,small ?_,small ?_,bQ.of ?_⟩
 ·rw[ew];simp only[dt,h7];omega
 ·rw[ew];simp only[dJ,dt,h7];omega
 ·rw[ew,dS];simp only[dJ,dt,h7];omega
 ·rw[ew,dS];rw[Tm.KF qu (List.length_set ..)]at q
  have z:(t.bb.set k o).map Tm.enc=(t.bb.map Tm.enc).take k++o.enc::(t.bb.map Tm.enc).drop (k+1):=by
   rw[List.map_set,List.set_eq_take_append_cons_drop,if_pos (by omega)]
  rw[z]at q;simpa using q
noncomputable abbrev EU:bC:=top 25
theorem qw:df ["program","place","other","around","one","k","made","depth"] ["program","place","other"] (b9 EU):=⟨rfl,rfl,rfl,by trivial,rfl,by trivial,by trivial⟩
theorem abp(B:gh mg)(g0:Got P w K mg base 1 "inner" ["program"] (aX K (ik Tm.enc Tm.bb)))(EV:Got P w K mg base 2 "with_inner" ["program","k","other"] (aX K Dn))(F:c4 K "replaced" "replaced" EU f fd):cN P w K mg base cG 3 f fd ["program","place","other"] (aX K Do):=by
 refine dO (k:=2) F qw (λ ds G az h=>?_) (λ bF A outer s H E aq ds G az h=>?_)
 ·obtain⟨_,_,_,_,rfl,_⟩:=h;rfl
 obtain⟨t,ns,u,o,rfl,br,aH,q⟩:=h
 refine⟨_,(a6 (bP (k:=3) qw.aS rfl (Or.inl rfl) (iJ aJ))
  (a6 (bP (k:=4) qw.aS rfl (Or.inl rfl) (aj 0))
  (a6 (ih PassesOwn.never rfl (ig (aj 1)) (e5 (k:=5) qw.aS rfl (Or.inl rfl)) (a6 (hB (hX PySem.F.plainAttrs_list PySem.F.slot_list_append PySem.F.type_list_append jz (aj 3) (ao (aj 4) aJ)))
  (bo (bP (k:=4) qw.aS rfl (Or.inl rfl) (bT bV (cf g0 aq (by omega) rfl (ao (aj 4) aJ)) (aj 5) (λ _ _=>rfl))))))
  (a6 (bP (k:=6) qw.aS rfl (Or.inl rfl) (aj 2))
  (a6 (ih PassesOwn.never rfl (JP rfl B.range (ao (cO kH (gX kJ rfl B.len Wp (ao (aj 1) aJ)) aN) (ao (oj oo aN) (ao (oj oo aN) aJ)))) (e5 (k:=7) qw.aS rfl (Or.inl rfl)) (bo (bP (k:=6) qw.aS rfl (Or.inl rfl) (cf EV aq (by omega) rfl (ao (bT bV (aj 3) (aj 7) (λ _ _=>rfl)) (ao (bT bV (aj 1) (aj 7) (λ _ _=>rfl)) (ao (aj 6) aJ)))))))
  (bo (b5 (aj 6)))))))),?_⟩
 intro a aB;refine⟨λ i ρ am=>∃ ek:Option D,ρ=[some t.enc,some (gc ns),some o.enc,some (.ref a),some (t.along ns i).enc,ek,none,none]/\up G a (.lst ((fg i).map λ j=>(t.along ns j).enc))=am,⟨_,rfl,rfl⟩,λ _ _ _ _ _=>trivial,?_,?_⟩
 ·rintro i d ρ am hd ⟨ek,rfl,rfl⟩;have eI:(ns.map D.int)[i]?=some d:=hd;rw[dF]at eI
  cases e:ns[i]? with
  |none=>rw[e]at eI;cases eI
  | some k=>
   rw[e]at eI;cases eI;obtain⟨e7,xf⟩:=Tm.LK br e;have ar:=(f5.mp e).1;refine⟨dc bh trivial,eL bh ⟨fI (by rw[bL,so];omega),?_⟩⟩;rw[fE];refine⟨t.along ns i,rfl,ti (d:=(t.along ns (i+1)).enc) ?_ (d8.of ⟨_,rfl,?_⟩)⟩
   ·have z:=mZ (xs:=(t.along ns i).bb.map Tm.enc) (j:=k.toNat) (v:=(t.along ns (i+1)).enc) (by rw[dF,xf];rfl)
    rwa[show ((k.toNat:Nat):Int)=k by omega]at z
   ·rw[List.range_succ,fN];rfl
 ·rintro ρ am ⟨ek,hρ,rfl⟩;have En:(⟨ns.map D.int,λ _=>True⟩:j1).items.length=ns.length:=bL ..;rw[En]at hρ ⊢;subst hρ;refine⟨rfl,rfl,vX.mpr (by rw[bL];omega),?_⟩;rw[bL];refine⟨λ j ρ am=>∃ tW:Option D,ρ=[some t.enc,some (gc ns),some o.enc,some (.ref a),some (t.along ns ns.length).enc,ek,some (Tm.oF o (ns.drop (ns.length - j)) (t.along ns (ns.length - j))).enc,tW]/\up G a (.lst ((fg ns.length).map λ j=>(t.along ns j).enc))=am,⟨none,?_,rfl⟩,λ _ _ _ _ _=>trivial,?_,?_⟩
  ·rw[uC,List.drop_length];rfl
  ·rintro j d ρ am hd ⟨tW,rfl,rfl⟩;obtain⟨bW,rfl⟩:=Ci hd
   have Ah:j<ns.length:=by omega
   rw[show ((ns.length:Nat):Int) - 1 - (j:Int)=((ns.length - 1 - j:Nat):Int) by omega];generalize io:ns.length - 1 - j=dy
   have eO:dy<ns.length:=by omega
   rw[show ns.length - j=dy+1 by omega];have aI:ns[dy]?=some ns[dy]:=f6 eO;obtain⟨e7,xf⟩:=Tm.LK br aI;refine U5 bh (d:=(t.along ns dy).enc) (mZ (by rw[dF,uA eO];rfl)) (ti (d:=.int ns[dy]) (mZ (by rw[dF,aI];rfl)) ?_);refine⟨t.along ns dy,ns[dy].toNat,_,by rw[Int.toNat_of_nonneg e7],YJ xf,(f5.mp xf).1,d8.of ⟨some (.int (dy:Nat)),?_,rfl⟩⟩
   have e:Tm.oF o (ns.drop dy) (t.along ns dy)=(t.along ns dy).p6 ((t.along ns dy).bb.set ns[dy].toNat (Tm.oF o (ns.drop (dy+1)) (t.along ns (dy+1)))):=by
    rw[nU eO,Tm.oF,uw,xf];rfl
   rw[show ns.length - (j+1)=dy by omega,e];rfl
  ·rintro ρ am ⟨tW,rfl,rfl⟩;rw[Cj,show ns.length - (((ns.length:Nat):Int) - 1+1).toNat=0 by omega,uv];exact⟨G,Sub.new (Sub.refl _) aB,q⟩
noncomputable abbrev EW:bC:=top 31
theorem EX:df ["program","word","held"] ["program"] (b9 EW):=⟨rfl,rfl,rfl,by trivial,rfl,by trivial,by trivial⟩
theorem abq{T da:Addr}{pos dL:Pos}(EY:Got P w K mg base 6 "put_in" ["program","other"] (aX K (Dk T pos da dL)))(F:c4 K "comes_of" "comes_of" EW f fd):cN P w K mg base cG 7 f fd ["program"] (aX K (Dm T pos da dL)):=by
 refine dO (k:=6) F EX (λ ds G az h=>?_) (λ bF A outer s H E aq ds G az h=>?_)
 ·obtain⟨_,rfl,_⟩:=h;rfl
 obtain⟨t,rfl,jD,ax,bp,q⟩:=h
 refine⟨_,(a6 (bP (k:=1) EX.aS rfl (Or.inl rfl) (bT bV (aj 0) aN (λ _ _=>rfl)))
  (a6 (bP (k:=2) EX.aS rfl (Or.inl rfl) (bT bV (aj 0) aN (λ _ _=>rfl)))
  (a6 (dr (cP (dY (cA aq)) (aj 1) bX (cp _)) (bo (b5 (cf EY aq (by omega) rfl (ao (bT bV (aj 2) aN (λ _ _=>rfl)) (ao (bT bV (aj 0) aN (λ _ _=>rfl)) aJ))))) dN)
  (a6 (dr (cP (dY (cA aq)) (aj 1) bX (cp _)) (bo (b5 (bT bV (aj 2) aN (λ _ _=>rfl)))) dN)
  (a6 (dr (cP (dY (cA aq)) (aj 1) bX (cp _)) (bo (b5 (bT bV (aj 2) aN (λ _ _=>rfl)))) dN)
  (a6 (dr (cP (dY (cA aq)) (aj 1) bX (cp _)) (bo (b5 (cb (ao bX (ao (cO e0 (bT bV (aj 2) aN (λ _ _=>rfl)) (bT bV (bT bV (aj 0) aN (λ _ _=>rfl)) aN (λ _ _=>rfl))) aJ))))) dN)
  (bo (b5 (nf (cP (dY (cA aq)) (bT bV (aj 2) aN (λ _ _=>rfl)) aN (cp _)) (bT bV (aj 0) aN (λ _ _=>rfl)) (bT bV (aj 0) aN (λ _ _=>rfl))))))))))),?_⟩
 cases t with
 | give b a=>
  cases b with
  |way b=>exact fH.yes rfl ⟨b,a,rfl,ax.1,ax.2.1,ax.2.2.1,ax.2.2.2,bp.1,bp.2,bQ.of q⟩
  |_=>cases jD
 | first a=>
  cases a with
  |pair a b=>exact fH.no rfl (fH.yes rfl (bQ.of q))
  |_=>cases jD
 | second a=>
  cases a with
  |pair a b=>exact fH.no rfl (fH.no rfl (fH.yes rfl (bQ.of q)))
  |_=>cases jD
 | plus a b=>
  cases a with
  | whole i=>
   cases b with
   |whole j=>exact fH.no rfl (fH.no rfl (fH.no rfl (fH.yes rfl (bQ.of q))))
   |_=>cases jD
  |_=>cases jD
 | look a b c=>
  cases a with
  | whole i=>
   refine fH.no rfl (fH.no rfl (fH.no rfl (fH.no rfl ⟨λ c=>?_,λ c=>?_⟩)))
   ·have e:i=0:=by simpa using c
    have h8:=q;rw[show (Tm.look (.whole i) b _).comes=b from if_pos e]at h8;exact bQ.of h8
   ·have e:¬ i=0:=by simpa using c
    have h8:=q;rw[show (Tm.look (.whole i) b _).comes=_ from if_neg e]at h8;exact bQ.of h8
  |_=>cases jD
 |_=>cases jD
noncomputable abbrev EZ:bC:=top 30
theorem abr:df ["program","place"] ["program","place"] (b9 EZ):=⟨rfl,rfl,rfl,by trivial,rfl,by trivial,by trivial⟩
theorem abt{T da:Addr}{pos dL:Pos}(E0:Got P w K mg base 3 "can_go" ["program","place"] (aX K CK))(t7:Got P w K mg base 2 "at_place" ["program","place"] (aX K zC))(E1:Got P w K mg base 7 "comes_of" ["program"] (aX K (Dm T pos da dL)))(E2:Got P w K mg base 3 "replaced" ["program","place","other"] (aX K Do))(F:c4 K "behind" "behind" EZ f fd):cN P w K mg base cG 8 f fd ["program","place"] (aX K (Dp T pos da dL)):=by
 refine dO (k:=7) F abr (λ ds G az h=>?_) (λ bF A outer s H E aq ds G az h=>?_)
 ·obtain⟨_,_,_,rfl,_⟩:=h;rfl
 obtain⟨t,ns,u,rfl,br,jD,ax,aH,bp,q⟩:=h
 refine⟨_,(a6 (dr (pS (hA (cf E0 aq (by omega) rfl (ao (aj 0) (ao (aj 1) aJ))))) (bo YS) dN)
  (bo (b5 (cf E2 aq (by omega) rfl (ao (aj 0) (ao (aj 1) (ao (cf E1 aq (by omega) rfl (ao (cf t7 aq (by omega) rfl (ao (aj 0) (ao (aj 1) aJ))) aJ)) aJ))))))),?_⟩
 refine⟨t,ns,u,rfl,br,fH.no (by rw[jD];rfl) ⟨t,ns,u,rfl,br,u,rfl,jD,ax,bp,t,ns,u,u.comes,rfl,br,aH,bQ.of ?_⟩⟩;unfold Tm.behind at q;rw[br]at q;exact q
noncomputable abbrev E3:bC:=top 3
theorem xg:df ["thing","inners_of","most","deepest","many","pending","entry"] ["thing","inners_of","most","deepest"] (b9 E3):=⟨rfl,rfl,rfl,by trivial,rfl,by trivial,by trivial⟩
theorem abu{e7:Nat}(F:c4 K "is_over" "is_over" E3 f fd):cN P w K mg base cG (e7+1) f fd ["thing","inners_of","most","deepest"] (aX K (Dq P w K mg base e7)):=by
 refine dO (k:=e7) F xg (λ ds G az h=>?_) (λ bF A outer s H E aq ds G az h=>?_)
 ·obtain⟨_,_,rfl,_⟩:=h;rfl
 obtain⟨t,lz,rfl,w3,q⟩:=h
 refine⟨_,(a6 (bP (k:=4) xg.aS rfl (Or.inl rfl) aN)
  (a6 (bP (k:=5) xg.aS rfl (Or.inl rfl) (iJ (ao (cb (ao (aj 0) (ao aN aJ))) aJ)))
  (a6 (ou PassesOwn.never (hA (aj 5)) (a6 (bP (k:=6) xg.aS rfl (Or.inr rfl) (p2 PySem.F.plainAttrs_list PySem.F.slot_list_pop PySem.F.type_list_pop p3 (aj 5)))
  (a6 (J9 (k:=4) xg.aS rfl (Or.inl rfl) aN J8)
  (a6 (dr (hx.at (l9 (cP th (aj 4) (aj 2) (cp _)) (ng (cP th (bT bV (aj 6) aN (λ _ _=>rfl)) (aj 3) (cp _))))) (bo (b5 l8)) dN)
  (bo (hB (hX PySem.F.plainAttrs_list PySem.F.slot_list_extend PySem.F.type_list_extend zv (aj 5) (ao (rx rfl (fA.of (N':=["one","entry"]) (nt:=1) (cap:=[6]) rfl (by kernel_rfl)) (kK (k:=0) (by decide)) (ig (Ct 1 w3 aq (by omega) (ao (bT bV (aj 6) aN (λ _ _=>rfl)) aJ))) (λ _ _ _ _=>(e5 (k:=0) (show List.Nodup (["one","entry"]:List Str) by trivial) rfl (Or.inl rfl))) (λ _ _ _ _=>(cb (ao (aj 0) (ao (cO e0 (bT bV (aj 1) aN (λ _ _=>rfl)) aN) aJ))))) aJ))))))))
  (bo (b5 l8))))),?_⟩
 intro b af;refine⟨λ μ ρ am=>∃(ps:List (Tm×Nat))(m:Nat)(fq:Option D),ρ=[some t.enc,some (.ref lz),some (.int 3000),some (.int 100),some (.int m),some (.ref b),fq]/\up G b (.lst (ps.reverse.map i9))=am/\m+oG ps=t.aL/\(wH ps ↔ 100<t.bn)/\m<=3000/\ps.length<=3 * m+1/\3001 - m=μ,⟨_,[(t,0)],0,_,rfl,rfl,by simp[oG],by simp[wH],by decide,by simp,rfl⟩,?_⟩;rintro μ ρ am ⟨ps,m,fq,rfl,rfl,av,hd,hm,e4,rfl⟩;refine dc bh ⟨λ c=>?_,λ c=>?_⟩
 ·obtain⟨u,d,a7,rfl⟩:∃ u d a7,ps=(u,d)::a7:=by
   cases ps with
   |nil=>simp at c
   |cons z a7=>exact⟨z.1,z.2,a7,rfl⟩
  have br:=u.mc;rw[YE]at av;simp only[]at av;rw[dt]at e4;refine⟨dc bh trivial,eL bh ⟨a7.reverse.map i9,i9 (u,d),by simp,?_⟩⟩;rw[fE]
  have NM:t.over=true->bQ az (.aW true) (up G b (.lst (a7.reverse.map i9))):=λ e=>⟨G,Sub.new (Sub.refl _) af,by rw[e]at q;exact q⟩
  refine⟨λ ew=>⟨λ _=>NM ?_,λ c=>zF c⟩,λ ew=>⟨λ dS=>NM ?_,λ dS=>?_⟩⟩
  ·have:3000<m+1:=by have cW:(3000:Int)<(m:Int)+1:=of_decide_eq_true ew;omega
   unfold Tm.over;rw[decide_eq_true (show 3000<t.aL by omega)];rfl
  ·have ai:100<d:=by have:=of_decide_eq_true dS;omega
   unfold Tm.over;rw[decide_eq_true (hd.mp ⟨(u,d),dP ..,by show 100<d+u.bn;omega⟩),Bool.or_true]
  ·have ag:m+1<=3000:=by have cW:¬ (3000:Int)<(m:Int)+1:=of_decide_eq_false ew;omega
   have ai:d<=100:=by have:=of_decide_eq_false dS;omega
   have nA:=u.rB;refine⟨dc bh trivial,rfl,u,rfl,?_⟩;refine p0 u.bb Tm.enc (λ x=>i9 (x,d+1)) rfl (fI (by omega)) trivial (λ x _ R ed=>ed) (λ p ax=>?_)
   have np:b≠p:=by rintro rfl;rw[bh]at ax;cases ax
   refine eL (by rw[bH np];exact bh) (eL bh ⟨small (by simp only[bL,hG];omega),?_⟩);have ag6:=YG (u:=u) (d:=d) (ps:=a7);refine⟨_,up G b (.lst (a7.reverse.map i9++u.bb.map λ x=>i9 (x,d+1))),.refl _,Sub.put (Sub.trans (Sub.new (Sub.refl _) af) (Sub.new (Sub.refl _) ax)),3001 - (m+1),by omega,(u.bb.map λ x=>(x,d+1)).reverse++a7,m+1,_,rfl,?_,by omega,by rw[YH ai];exact hd,ag,?_,rfl⟩
   ·simp[gw,Function.comp_def]
   ·simp only[dJ,hG,bL];omega
 ·have e:ps=[]:=by
   cases ps with
   |nil=>rfl
   |cons _ _=>simp at c
  subst e
  have aC:t.over=false:=by
   unfold Tm.over;rw[decide_eq_false (show ¬ 3000<t.aL by simp[oG]at av;omega),decide_eq_false (show ¬ 100<t.bn from λ h=>by obtain⟨z,hz,_⟩:=hd.mpr h;cases hz)];rfl
  rw[aC]at q;exact⟨G,Sub.new (Sub.refl _) af,q⟩
noncomputable abbrev E4:bC:=top 40
theorem abv:df ["program"] ["program"] (b9 E4):=⟨rfl,rfl,rfl,by trivial,rfl,by trivial,by trivial⟩
theorem abw(g0:Got P w K mg base 1 "inner" ["program"] (aX K (ik Tm.enc Tm.bb)))(E5:Got P w K mg base 2 "is_over" ["thing","inners_of","most","deepest"] (aX K (Dq P w K mg base 1))){t1 t2:Tok}(E6:mg "MOST_PARTS"=some (.int 3000 t1))(E7:mg "MOST_DEEP"=some (.int 100 t2))(F:c4 K "is_great" "is_great" E4 f fd):cN P w K mg base cG 3 f fd ["program"] (aX K Dr):=by
 refine dO (k:=2) F abv (λ ds G az h=>?_) (λ bF A outer s H E aq ds G az h=>?_)
 ·obtain⟨_,rfl,_⟩:=h;rfl
 obtain⟨t,rfl,q⟩:=h;obtain⟨lz,E8,w5⟩:=g0.BC;exact⟨_,(bo (b5 (cf E5 aq (by omega) rfl (ao (aj 0) (ao (ro (d:=.ref _) (v:=.ref _) rfl E8 rfl (λ _=>rfl)) (ao (ro (d:=.int _) (v:=.int _) rfl E6 ⟨_,rfl⟩ (λ _=>rfl)) (ao (ro (d:=.int _) (v:=.int _) rfl E7 ⟨_,rfl⟩ (λ _=>rfl)) aJ))))))),t,lz,rfl,w5,bQ.of q⟩
noncomputable abbrev E9:bC:=top 1
theorem Aq:df ["thing","inners_of","found","pending","one"] ["thing","inners_of"] (b9 E9):=⟨rfl,rfl,rfl,by trivial,rfl,by trivial,by trivial⟩
theorem abx{e7:Nat}(B:gh mg)(F:c4 K "walked" "walked" E9 f fd):cN P w K mg base cG (e7+1) f fd ["thing","inners_of"] (aX K (Ds P w K mg base e7)):=by
 refine dO (k:=e7) F Aq (λ ds G az h=>?_) (λ bF A outer s H E aq ds G az h=>?_)
 ·obtain⟨_,_,_,_,_,_,rfl,_⟩:=h;rfl
 obtain⟨α,enc,bb,all,lz,x,rfl,eS,w3,hsz,fin⟩:=h
 refine⟨_,(a6 (bP (k:=2) Aq.aS rfl (Or.inl rfl) (iJ aJ))
  (a6 (bP (k:=3) Aq.aS rfl (Or.inl rfl) (iJ (ao (aj 0) aJ)))
  (a6 (ou PassesOwn.never (hA (aj 3)) (a6 (bP (k:=4) Aq.aS rfl (Or.inl rfl) (p2 PySem.F.plainAttrs_list PySem.F.slot_list_pop PySem.F.type_list_pop p3 (aj 3)))
  (a6 (hB (hX PySem.F.plainAttrs_list PySem.F.slot_list_append PySem.F.type_list_append jz (aj 2) (ao (aj 4) aJ)))
  (bo (hB (hX PySem.F.plainAttrs_list PySem.F.slot_list_extend PySem.F.type_list_extend zv (aj 3) (ao (VJ rfl B.list rfl B.reversed (Ct 1 w3 aq (by omega) (ao (aj 4) aJ))) aJ)))))))
  (bo (b5 (aj 2)))))),?_⟩
 intro a aB b af;obtain⟨-,hE,cE⟩:=iM (o:=.lst []) af;refine⟨λ μ ρ am=>∃(ps fs:List α)(fC:Option D),ρ=[some (enc x),some (.ref lz),some (.ref a),some (.ref b),fC]/\up (up G a (.lst (fs.map enc))) b (.lst (ps.reverse.map enc))=am/\fs++ps.flatMap all=all x/\(ps.flatMap all).length=μ,⟨_,[x],[],_,rfl,rfl,by simp,rfl⟩,?_⟩;rintro μ ρ am ⟨ps,fs,fC,rfl,rfl,hR,rfl⟩
 have hlen:fs.length+(ps.flatMap all).length=(all x).length:=by rw[<- hR,dJ]
 refine dc bh ⟨λ c=>?_,λ c=>?_⟩
 ·obtain⟨y,a7,rfl⟩:∃ y a7,ps=y::a7:=by
   cases ps with
   |nil=>simp at c
   |cons z a7=>exact⟨z,a7,rfl⟩
  rw[qO,eS y,kk]at hR;have fz:=LL eS ((bb y)++a7);rw[qO,eS y,kk,dt,<- uB]at hlen;rw[dJ]at fz;rw[<- uB]at hR;refine⟨dc bh trivial,eL bh ⟨a7.reverse.map enc,enc y,by simp,?_⟩⟩;rw[fE]
  have iq:∀ o,up (up G a (.lst (fs.map enc))) b o a=some (.lst (fs.map enc)):=λ o=>by rw[bH (Ne.symm cE)];exact bh
  refine⟨dc (iq _) trivial,eL (iq _) ⟨fI (by rw[bL];omega),?_⟩⟩;rw[nk cE];refine⟨dc bh trivial,rfl,y,rfl,λ p ax=>?_⟩
  have np:b≠p:=by rintro rfl;rw[bh]at ax;cases ax
  refine eL (by rw[bH np];exact bh) (eL bh ⟨small (by simp only[bL,hG];omega),?_⟩);refine⟨_,up (up G a (.lst (fs.map enc++[enc y]))) b (.lst (a7.reverse.map enc++((bb y).map enc).reverse)),.refl _,Sub.put (Sub.trans (Sub.new (Sub.refl _) (by rw[bH cE];exact hE)) (Sub.new (Sub.refl _) ax)),((bb y++a7).flatMap all).length,?_,bb y++a7,fs++[y],_,rfl,?_,?_,rfl⟩
  ·rw[qO,eS y,kk,dt,uB];omega
  ·simp
  ·rw[<- hR,uB];simp
 ·have e:ps=[]:=by
   cases ps with
   |nil=>rfl
   |cons _ _=>simp at c
  subst e
  have aF:fs=all x:=by simpa using hR
  subst aF;exact⟨up G a (.lst ((all x).map enc)),Sub.new (Sub.refl _) (by rw[bH cE];exact hE),fin a aB⟩
noncomputable abbrev E_:bC:=top 8
theorem aby:df ["program"] ["program"] (b9 E_):=⟨rfl,rfl,rfl,by trivial,rfl,by trivial,by trivial⟩
theorem abz(w4:Got P w K mg base 1 "inner_of_pair" ["program"] (aX K (ik Tm.enc Tm.tJ)))(Fa:Got P w K mg base 2 "walked" ["thing","inners_of"] (aX K (Ds P w K mg base 1)))(F:c4 K "pairs_and_leaves" "pairs_and_leaves" E_ f fd):cN P w K mg base cG 3 f fd ["program"] (aX K z2):=by
 refine dO (k:=2) F aby (λ ds G az h=>?_) (λ bF A outer s H E aq ds G az h=>?_)
 ·obtain⟨_,rfl,_⟩:=h;rfl
 obtain⟨t,rfl,hz,q⟩:=h;obtain⟨lz,t4,w5⟩:=w4.BC;have aH:=t.Dt;exact⟨_,(bo (b5 (cf Fa aq (by omega) rfl (ao (aj 0) (ao (ro (d:=.ref _) (v:=.ref _) rfl t4 rfl (λ _=>rfl)) aJ))))),Tm,Tm.enc,Tm.tJ,Tm.hj,lz,t,rfl,Tm.YB,w5,by omega,λ l aH=>bQ.of (q l aH)⟩
noncomputable abbrev Fb:bC:=top 6
theorem abA:df ["program"] ["program"] (b9 Fb):=⟨rfl,rfl,rfl,by trivial,rfl,by trivial,by trivial⟩
theorem abB(B:gh mg)(t9:Got P w K mg base 3 "pairs_and_leaves" ["program"] (aX K z2))(F:c4 K "is_answer" "is_answer" Fb f fd):cN P w K mg base cG 4 f fd ["program"] (aX K Du):=by
 refine dO (k:=3) F abA (λ ds G az h=>?_) (λ bF A outer s H E aq ds G az h=>?_)
 ·obtain⟨_,rfl,_⟩:=h;rfl
 obtain⟨t,rfl,hz,q⟩:=h;refine⟨_,(bo (b5 (wa (gX (Ka rfl) rfl B.all PyProof.Rows.boot_all (ao (rx rfl (fA.of (N':=["one"]) (nt:=1) (cap:=[]) rfl (by kernel_rfl)) (kK (k:=0) (by decide)) (ig (cf t9 aq (by omega) rfl (ao (aj 0) aJ))) (λ _ _ _ _=>(e5 (k:=0) (show List.Nodup (["one"]:List Str) by trivial) rfl (Or.inl rfl))) (λ _ _ _ _=>(jv Ce (bT bV (aj 0) aN (λ _ _=>rfl)) (cb (ao bX (ao bX (ao bX aJ)))) (by with_unfolding_all rfl)))) aJ))))),?_⟩;have aH:=t.Dt;refine⟨t,rfl,hz,λ l im=>lq bh ?_⟩;refine p0 t.hj Tm.enc (λ u=>.aW u.wG) rfl (fI (by omega)) bh (λ u _ R ed=>?_) (λ p ax=>?_)
 ·refine(show ln u.enc (.int 0) _ _ from rP ⟨rfl,rfl,?_⟩);rw[Bool.false_xor,YI];exact ed
 ·obtain⟨-,g2,eR⟩:=iM (o:=.lst []) ax;refine dc bh ⟨t.hj.map Tm.wG,?_,G,Sub.new (Sub.new (Sub.refl _) im) g2,bQ.of ?_⟩
  ·rw[<- CA (t.hj.map Tm.wG),gw];rfl
  ·rw[List.all_map,show t.hj.all (id ∘ Tm.wG)=t.i8 from t.YC];exact q
noncomputable abbrev Fc:bC:=top 39
theorem qx:df ["program","most","now","stood_at","use","later","word"] ["program","most"] (b9 Fc):=⟨rfl,rfl,rfl,by trivial,rfl,by trivial,by trivial⟩
theorem abC{T da:Addr}{pos dL:Pos}(B:gh mg)(Ar:Got P w K mg base 3 "next_use" ["program"] (aX K Dl))(Fd:Got P w K mg base 8 "behind" ["program","place"] (aX K (Dp T pos da dL)))(Fe:Got P w K mg base 3 "is_great" ["program"] (aX K Dr))(Ff:Got P w K mg base 4 "is_answer" ["program"] (aX K Du))(F:c4 K "run_through" "run_through" Fc f fd):cN P w K mg base cG 9 f fd ["program","most"] (aX K (Dv T pos da dL)):=by
 refine dO (k:=8) F qx (λ ds G az h=>?_) (λ bF A outer s H E aq ds G az h=>?_)
 ·obtain⟨_,_,rfl,_⟩:=h;rfl
 obtain⟨t,k,rfl,e8,aI,bp,q⟩:=h
 refine⟨_,(a6 (bP (k:=2) qx.aS rfl (Or.inl rfl) (aj 0))
  (a6 (bP (k:=3) qx.aS rfl (Or.inl rfl) (iJ aJ))
  (a6 (bP (k:=4) qx.aS rfl (Or.inl rfl) (cf Ar aq (by omega) rfl (ao (aj 2) aJ)))
  (a6 (ou PassesOwn.never (cP Cb (aj 4) hg (cp _)) (a6 (dr (cP vO (gX kJ rfl B.len Wp (ao (aj 3) aJ)) (aj 1) (cp _)) (bo (b5 (cb (ao bX (ao (aj 2) (ao (aj 3) aJ)))))) dN)
  (a6 (bP (k:=5) qx.aS rfl (Or.inl rfl) (cf Fd aq (by omega) rfl (ao (aj 2) (ao (cO e0 (bT bV (aj 4) aN (λ _ _=>rfl)) (bT bV (aj 4) aN (λ _ _=>rfl))) aJ))))
  (a6 (dr (hA (cf Fe aq (by omega) rfl (ao (aj 5) aJ))) (bo (b5 (cb (ao bX (ao (aj 2) (ao (aj 3) aJ)))))) dN)
  (a6 (bP (k:=2) qx.aS rfl (Or.inl rfl) (aj 5))
  (a6 (hB (hX PySem.F.plainAttrs_list PySem.F.slot_list_append PySem.F.type_list_append jz (aj 3) (ao (bT bV (aj 4) aN (λ _ _=>rfl)) aJ)))
  (bo (bP (k:=4) qx.aS rfl (Or.inl rfl) (cf Ar aq (by omega) rfl (ao (aj 2) aJ))))))))))
  (a6 (bP (k:=6) qx.aS rfl (Or.inl rfl) (nf (hA (cf Ff aq (by omega) rfl (ao (aj 2) aJ))) bX bX))
  (bo (b5 (cb (ao (aj 6) (ao (aj 2) (ao (aj 3) aJ))))))))))),?_⟩
 intro a aB;have hsz:=e8.aL;refine⟨t,rfl,by omega,?_⟩;refine⟨λ μ ρ am=>∃(u:Tm)(j:Nat)(done:List (List Int))(ek:Option D),ρ=[some t.enc,some (.int k),some u.enc,some (.ref a),some (LI u.ja),ek,none]/\up G a (.lst (done.map gc))=am/\GoodR j u/\done.length+j=k/\eP k t=((eP j u).1,(eP j u).2.1,done++(eP j u).2.2)/\j=μ,⟨_,t,k,[],_,rfl,rfl,e8,by simp,rfl,rfl⟩,?_⟩;rintro μ ρ am ⟨u,j,done,ek,rfl,rfl,a3,ag7,jD,rfl⟩;have H2:=a3.aL;have qy:h2 T pos da dL (up G a (.lst (done.map gc))):=bp.new aB;have aV:=q a aB;rw[jD]at aV
 cases e:u.ja with
 | none=>
  refine fH.no rfl ?_
  have abD:eP j u=(fin u,u,[]):=by cases j<;>(unfold eP;rw[e])
  rw[abD,kh]at aV;refine⟨u,rfl,by omega,⟨λ c=>?_,λ c=>?_⟩⟩
  ·rw[show fin u = "answer" from if_pos c]at aV;exact bQ.of aV
  ·rw[show fin u = "stuck" from if_neg (by rw[c];decide)]at aV;exact bQ.of aV
 | some z=>
  refine fH.yes rfl ?_;obtain⟨⟨v,bu,abE⟩,abF⟩:=YA e;have ag8:=u.wb;refine dc bh ⟨λ c=>?_,λ c=>?_⟩
  ·have bW:j=0:=by have cW:(k:Int)<=((done.map gc).length:Int):=of_decide_eq_true c;rw[bL]at cW;omega
   subst bW;rw[show eP 0 u=(("more" : Str),u,[]) by unfold eP;rw[e],kh]at aV;exact bQ.of aV
  ·obtain⟨lc,rfl⟩:∃ lc,j=lc+1:=⟨j - 1,by have cW:¬ (k:Int)<=((done.map gc).length:Int):=of_decide_eq_false c;rw[bL]at cW;omega⟩
   obtain⟨abG,abH⟩:=a3.2 z v e bu
   have ag9:z.1.length+z.2.length<=3000:=by rw[dJ]at abF;omega
   refine⟨small (by rw[bL,bL];omega),u,z.1++z.2,v,?_,bu,abE,abG,by omega,qy,?_⟩
   ·rw[gc,fN]
   refine⟨u.behind (z.1++z.2),rfl,⟨λ c=>?_,λ c=>?_⟩⟩
   ·rw[show eP (lc+1) u=(("great" : Str),u,[]) by unfold eP;rw[e];simp only[];rw[if_pos c],kh]at aV;exact bQ.of aV
   ·have NN:=abH c;have kM:=NN.aL;refine⟨dc bh trivial,eL bh ⟨fI (by rw[bL];omega),?_⟩⟩;rw[fE];refine⟨u.behind (z.1++z.2),rfl,by omega,?_⟩;refine d8.of ⟨lc,by omega,u.behind (z.1++z.2),lc,done++[z.1],_,rfl,by rw[fN];rfl,NN,by rw[dJ,o7];omega,?_,rfl⟩;rw[jD,show eP (lc+1) u=((eP lc (u.behind (z.1++z.2))).1,(eP lc (u.behind (z.1++z.2))).2.1,z.1::(eP lc (u.behind (z.1++z.2))).2.2) by rw[eP,e];simp only[];rw[if_neg (by rw[c];decide)]];simp
noncomputable abbrev Fg:bC:=top 35
theorem Fh:df ["program","found","rest"] ["program"] (b9 Fg):=⟨rfl,rfl,rfl,by trivial,rfl,by trivial,by trivial⟩
theorem abI(Fi:Got P w K mg base 2 "first_unanswered" ["program"] (aX K CN))(Fj:Got P w K mg base 2 "place_in_use" ["program"] (aX K CM))(F:c4 K "next_use" "next_use" Fg f fd):cN P w K mg base cG 3 f fd ["program"] (aX K Dl):=by
 refine dO (k:=2) F Fh (λ ds G az h=>?_) (λ bF A outer s H E aq ds G az h=>?_)
 ·obtain⟨t,rfl,_⟩:=h;rfl
 obtain⟨t,rfl,hz,q⟩:=h
 refine⟨_,(a6 (bP (k:=1) Fh.aS rfl (Or.inl rfl) (cf Fi aq (by omega) rfl (ao (aj 0) aJ)))
  (a6 (dr (cP pV (aj 1) hg (cp _)) (bo (b5 hg)) dN)
  (a6 (bP (k:=2) Fh.aS rfl (Or.inl rfl) (cf Fj aq (by omega) rfl (ao (bT bV (aj 1) aN (λ _ _=>rfl)) aJ)))
  (bo (b5 (nf (cP pV (aj 2) hg (cp _)) hg (cb (ao (bT bV (aj 1) aN (λ _ _=>rfl)) (ao (aj 2) aJ))))))))),?_⟩
 refine⟨t,rfl,hz,?_⟩;unfold Tm.ja at q
 cases e:t.eM with
 |none=>rw[e]at q;exact⟨λ _=>bQ.of q,λ c=>zF c⟩
 | some z=>
  rw[e]at q;simp only[]at q;refine⟨λ c=>CI c,λ _=>⟨z.2,rfl,?_,?_⟩⟩
  ·have:=Tm.Wf e;omega
  ·cases aF:z.2.use with
   |none=>rw[aF]at q;exact⟨λ _=>bQ.of q,λ c=>zF c⟩
   |some ns=>rw[aF]at q;exact⟨λ c=>CI c,λ _=>bQ.of q⟩
noncomputable abbrev As:bC:=top 9
theorem NO:df ["program"] ["program"] (b9 As):=⟨rfl,rfl,rfl,by trivial,rfl,by trivial,by trivial⟩
theorem abJ(F:c4 K "inner_of_pair" "inner_of_pair" As f fd):cN P w K mg base cG 1 f fd ["program"] (aX K (ik Tm.enc Tm.tJ)):=by
 refine dO (k:=0) F NO (λ ds G az h=>?_) (λ bF A outer s H E aq ds G az h=>?_)
 ·obtain⟨_,rfl,_⟩:=h;rfl
 obtain⟨t,rfl,q⟩:=h;refine⟨_,(bo (b5 (nf (cP (dY (cA aq)) (bT bV (aj 0) aN (λ _ _=>rfl)) bX (cp _)) (ll lp (aj 0) (lj aN) li) (cb aJ)))),?_⟩
 cases t with
 |pair a b=>exact⟨λ _=>bQ.of q,λ c=>absurd c (by decide)⟩
 |_=>exact⟨λ c=>absurd c (by decide),λ _=>bQ.of q⟩
theorem abK(F:c4 K "inner_of_pair" "inner_of_pair" As f fd):cN P w K mg base cG 1 f fd ["program"] (aX K (ik aR.enc aR.bb)):=by
 refine dO (k:=0) F NO (λ ds G az h=>?_) (λ bF A outer s H E aq ds G az h=>?_)
 ·obtain⟨t,rfl,_⟩:=h;rfl
 obtain⟨t,rfl,q⟩:=h;refine⟨_,(bo (b5 (nf (cP (dY (cA aq)) (bT bV (aj 0) aN (λ _ _=>rfl)) bX (cp _)) (ll lp (aj 0) (lj aN) li) (cb aJ)))),?_⟩
 cases t with
 |w n=>exact⟨λ c=>absurd c (by decide),λ _=>bQ.of q⟩
 |p a b=>exact⟨λ _=>bQ.of q,λ c=>absurd c (by decide)⟩
noncomputable abbrev Fk:bC:=top 45
theorem abL:df ["path"] ["path"] (b9 Fk):=⟨rfl,rfl,rfl,by trivial,rfl,by trivial,by trivial⟩
theorem abM{ad:Addr}(B:gh mg)(Fl:mg "ROAD_WORDS"=some (.ref ad))(Fm:zz K ad ["first","second"])(F:c4 K "road_of" "road_of" Fk f fd):cN P w K mg base cG 1 f fd ["path"] (aX K zD):=by
 refine dO (k:=0) F abL (λ ds G az h=>?_) (λ bF A outer s H E aq ds G az h=>?_)
 ·obtain⟨t,rfl,_⟩:=h;rfl
 obtain⟨ns,rfl,abN,aH,q⟩:=h;refine⟨_,(bo (b5 (wa (vP vR rfl B.tuple pe (ao (rx rfl (fA.of (N':=["k"]) (nt:=1) (cap:=[]) rfl (by kernel_rfl)) (kK (k:=0) (by decide)) (ig (aj 0)) (λ _ _ _ _=>(e5 (k:=0) (show List.Nodup (["k"]:List Str) by trivial) rfl (Or.inl rfl))) (λ _ _ _ _=>(bT (Z3 Fm) (ro (d:=.ref ad) (v:=.ref _) rfl Fl rfl (λ _=>rfl)) (aj 0) (λ _ _=>rfl)))) aJ))))),?_⟩;refine p0 ns D.int (λ k=>.str (fl k)) ?_ ?_ ?_ ?_ ?_
 ·rfl
 ·exact fI (by omega)
 ·trivial
 ·intro k aI R ed;rcases abN k aI with rfl|rfl
  ·exact⟨rfl,"first",rfl,ed⟩
  ·exact⟨rfl,"second",rfl,ed⟩
 ·intro p ax;exact dc bh ⟨G,Sub.new (Sub.refl _) ax,bQ.of q⟩
noncomputable abbrev Fn:bC:=top 7
theorem abO:df ["program"] ["program"] (b9 Fn):=⟨rfl,rfl,rfl,by trivial,rfl,by trivial,by trivial⟩
theorem abP(B:gh mg)(t9:Got P w K mg base 3 "pairs_and_leaves" ["program"] (aX K z2))(F:c4 K "is_data" "is_data" Fn f fd):cN P w K mg base cG 4 f fd ["program"] (aX K D4):=by
 refine dO (k:=3) F abO (λ ds G az h=>?_) (λ bF A outer s H E aq ds G az h=>?_)
 ·obtain⟨_,rfl,_⟩:=h;rfl
 obtain⟨u,rfl,hz,q⟩:=h;refine⟨_,(bo (b5 (wa (gX (Ka rfl) rfl B.all PyProof.Rows.boot_all (ao (rx rfl (fA.of (N':=["one"]) (nt:=1) (cap:=[]) rfl (by kernel_rfl)) (kK (k:=0) (by decide)) (ig (cf t9 aq (by omega) rfl (ao (aj 0) aJ))) (λ _ _ _ _=>(e5 (k:=0) (show List.Nodup (["one"]:List Str) by trivial) rfl (Or.inl rfl))) (λ _ _ _ _=>(jv Ce (bT bV (aj 0) aN (λ _ _=>rfl)) (cb (ao bX (ao bX aJ))) (by with_unfolding_all rfl)))) aJ))))),?_⟩;have aH:=u.gK.Dt;have av:=u.Mk;refine⟨u.gK,by rw[aR.Mj],by omega,λ l im=>lq bh ?_⟩;refine p0 u.gK.hj Tm.enc (λ v=>.aW v.w0) rfl (fI (by omega)) bh (λ v _ R ed=>?_) (λ p ax=>?_)
 ·refine(show ln v.enc (.int 0) _ _ from rP ⟨rfl,rfl,?_⟩);rw[Bool.false_xor,aam];exact ed
 ·obtain⟨-,g2,eR⟩:=iM (o:=.lst []) ax;refine dc bh ⟨u.gK.hj.map Tm.w0,?_,G,Sub.new (Sub.new (Sub.refl _) im) g2,bQ.of ?_⟩
  ·rw[<- CA (u.gK.hj.map Tm.w0),gw];rfl
  ·rw[List.all_map,show u.gK.hj.all (id ∘ Tm.w0)=true from u.aan];exact q
noncomputable abbrev Fo:bC:=top 48
theorem At:df ["stood_at","rules","place","road"] ["stood_at"] (b9 Fo):=⟨rfl,rfl,rfl,by trivial,rfl,by trivial,by trivial⟩
theorem abQ(tZ:Got P w K mg base 1 "road_of" ["path"] (aX K zD))(F:c4 K "rules_by_road" "rules_by_road" Fo f fd):cN P w K mg base cG 2 f fd ["stood_at"] (aX K D5):=by
 refine dO (k:=1) F At (λ ds G az h=>?_) (λ bF A outer s H E aq ds G az h=>?_)
 ·obtain⟨_,_,rfl,_⟩:=h;rfl
 obtain⟨l,ps,rfl,aH,K2,hlen,q⟩:=h
 refine⟨_,(a6 (bP (k:=1) At.aS rfl (Or.inl rfl) wT)
  (a6 (ih PassesOwn.never rfl (ig (aj 0)) (e5 (k:=2) At.aS rfl (Or.inl rfl)) (a6 (bP (k:=3) At.aS rfl (Or.inl rfl) (cf tZ aq (by omega) rfl (ao (aj 2) aJ)))
  (bo (rU (cA aq) (aj 1) (aj 3) (cO e0 (rT (cA aq) (aj 1) (aj 3) aN ⟨rfl,rfl,rfl,rfl⟩) aN)))))
  (bo (b5 (aj 1))))),?_⟩
 intro a aB
 have xh:l≠a:=by rintro rfl;rw[aH]at aB;cases aB
 refine lq (by rw[bH xh];exact aH) ?_;refine⟨λ i ρ am=>∃ kvs iS dZ,ρ=[some (.ref l),some (.ref a),iS,dZ]/\am=up G a (.bz kvs)/\jc kvs (λ ns=>(ps.take i).count ns)/\kvs.length<=i,⟨[],_,_,rfl,rfl,jc.nil,ZB _⟩,λ i ρ am _ h=>?_,?_,?_⟩
 ·obtain⟨kvs,iS,dZ,rfl,rfl,_⟩:=h;exact(bH xh).trans aH
 ·rintro i d ρ am hd ⟨kvs,iS,dZ,rfl,rfl,ed,aI⟩;have eI:(ps.map gc)[i]?=some d:=hd;rw[dF]at eI
  cases aC:ps[i]? with
  |none=>rw[aC]at eI;cases eI
  | some p=>
   rw[aC]at eI;cases eI;obtain⟨z,e4⟩:=K2 p (gj aC);have ar:=(f5.mp aC).1;refine⟨p,rfl,z,e4,gZ (.inl bh) trivial,gZ (.inl bh) ⟨dh p,h3 p,?_⟩⟩;rw[ed p z];refine mr bh ⟨dh p,h3 p,by rw[hk];omega,?_⟩;rw[fE];refine d8.of ⟨_,_,_,rfl,rfl,?_,eG (tL ..) (by omega)⟩;rw[jl,aC];exact ed.cnt z
 ·rintro ρ am ⟨kvs,iS,dZ,rfl,rfl,ed,aI⟩;have NP:jc kvs λ ns=>(ps.take (ps.map gc).length).count ns:=ed;rw[bL,k3]at NP;exact bQ.of (q a kvs _ (Sub.new (Sub.refl _) aB) aB bh NP)
noncomputable abbrev Fp:bC:=top 49
theorem r1:df ["found","rules","ahead","road","beyond","costs_of"] ["found","rules"] (b9 Fp):=⟨rfl,rfl,rfl,by trivial,rfl,by trivial,by trivial⟩
theorem abR(B:gh mg)(F:c4 K "costs_along" "costs_along" Fp f fd):cN P w K mg base cG 1 f fd ["found","rules"] (aX K D6):=by
 refine dO (k:=0) F r1 (λ ds G az h=>?_) (λ bF A outer s H E aq ds G az h=>?_)
 ·obtain⟨_,_,_,_,_,rfl,_⟩:=h;rfl
 obtain⟨l,a,u,ps,kvs,rfl,aH,aB,ed,ax,hz,q⟩:=h
 refine⟨_,(a6 (bP (k:=2) r1.aS rfl (Or.inl rfl) (Aa (cA aq) (qk (cb aJ) aN z_)))
  (a6 (ih PassesOwn.never rfl (ig (ll lp (aj 0) (lj aN) li)) (e5 (k:=3) r1.aS rfl (Or.inl rfl)) (bo (rU (cA aq) (aj 2) (aj 3) (cO e0 (wU (cA aq) (aj 2) (ll lp (aj 3) li (lj (oj oo aN))) (λ _ _=>rfl)) (rT (cA aq) (aj 1) (ll lp (aj 3) li (lj (oj oo aN))) aN ⟨rfl,rfl,rfl,rfl⟩)))))
  (a6 (bP (k:=4) r1.aS rfl (Or.inl rfl) wT)
  (a6 (ih PassesOwn.never rfl (YR rfl B.reversed (aj 0)) (e5 (k:=3) r1.aS rfl (Or.inl rfl)) (a6 (rU (cA aq) (aj 4) (aj 3) (cO e0 (rT (cA aq) (aj 4) (aj 3) aN ⟨rfl,rfl,rfl,rfl⟩) (rT (cA aq) (aj 1) (aj 3) aN ⟨rfl,rfl,rfl,rfl⟩)))
  (bo (dr (cP (v_ (cA aq)) (aj 3) (cb aJ) (cp _)) (bo (rU (cA aq) (aj 4) (ll lp (aj 3) li (lj (oj oo aN))) (cO e0 (rT (cA aq) (aj 4) (ll lp (aj 3) li (lj (oj oo aN))) aN ⟨rfl,rfl,rfl,rfl⟩) (wU (cA aq) (aj 4) (aj 3) (λ _ _=>rfl))))) dN))))
  (a6 (bP (k:=5) r1.aS rfl (Or.inl rfl) wT)
  (a6 (ih PassesOwn.never rfl (ig (aj 0)) (e5 (k:=3) r1.aS rfl (Or.inl rfl)) (bo (rU (cA aq) (aj 5) (aj 3) (cO e0 (wU (cA aq) (aj 2) (aj 3) (λ _ _=>rfl)) (wU (cA aq) (aj 4) (aj 3) (λ _ _=>rfl))))))
  (bo (b5 (aj 5))))))))),?_⟩
 intro p nF;refine⟨bh,[([],.int 0)],rfl,by decide,?_⟩;rw[fE]
 have abS:l≠p:=by rintro rfl;rw[aH]at nF;cases nF
 have Al:a≠p:=by rintro rfl;rw[aB]at nF;cases nF
 have hlen:u.bA.length=u.aL:=by unfold aR.bA;rw[bL,u.p4]
 have ck:=hk;refine dc (by rw[bH abS];exact aH) ?_;intro bI fz;obtain⟨-,t_,Au⟩:=iM (o:=.lst []) fz
 have aha:l≠bI:=by rintro rfl;rw[aH]at t_;cases t_
 have abT:a≠bI:=by rintro rfl;rw[aB]at t_;cases t_
 refine lq bh ?_;refine⟨λ i ρ am=>∃(bq:List (List Key×D))(dZ:Option D),ρ=[some (.ref l),some (.ref a),some (.ref p),dZ,none,none]/\am=up (up G p (.bz bq)) bI (.lst (cut (u.bA.map cB) (some 1) none))/\wX u ps (i+1) bq/\bq.length<=i+1,⟨[([],.int 0)],_,rfl,rfl,λ r aq=>?_,ZB _⟩,λ i ρ am _ h=>?_,?_,?_⟩
 ·have e:=Mt u;rw[jl,e]at aq
  have jD:r=[]:=by simpa using aq
  subst jD;rw[aaf];rfl
 ·obtain⟨bq,dZ,rfl,rfl,_⟩:=h;exact bh
 ·rintro i d ρ am hd ⟨bq,dZ,rfl,rfl,q3,aI⟩;have hd2:(cut (u.bA.map cB) (some 1) none)[i]?=some d:=hd;rw[MD,List.getElem?_drop,dF,Nat.add_comm 1 i]at hd2
  cases aC:u.bA[i+1]? with
  |none=>rw[aC]at hd2;cases hd2
  | some r=>
   rw[aC]at hd2;cases hd2;have hm:=gj aC;have r2:=ip u r hm;have nA:=(f5.mp aC).1
   have Av:r≠[]:=by
    rintro rfl;have a1:=f5.mp aC;have a2:=f5.mp (Mt u);have:=(List.getElem_inj (h₀:=a1.1) (h₁:=a2.1) (tO u)).mp (a1.2.trans a2.2.symm);omega
   obtain⟨ev,xi⟩:=q3.step aC Av;have abU:=ip u _ (o_ ((rW u _ r aC).resolve_left Av))
   have NQ:up (up G p (.bz bq)) bI (.lst (cut (u.bA.map cB) (some 1) none)) p=some (.bz bq):=by rw[bH (Ne.symm Au)];exact bh
   have xj:up (up G p (.bz bq)) bI (.lst (cut (u.bA.map cB) (some 1) none)) a=some (.bz kvs):=by rw[bH abT,bH Al];exact aB
   have xk:nC (.tup (cut (r.map λ k=>D.str (fl k)) none (some (-1))))=some (dh r.dropLast):=by rw[MF,h3]
   refine gZ (.inl NQ) ⟨_,_,xk,ev,gZ (.inl xj) trivial,gZ (.inl xj) ⟨_,xk,?_⟩⟩;rw[ed _ abU];refine mr NQ ⟨_,h3 r,by omega,?_⟩;refine d8.of ⟨_,_,rfl,?_,xi,eG (tL ..) (by omega)⟩;rw[y3 (Ne.symm Au),fE];exact y3 Au
 ·rintro ρ am ⟨bq,dZ,rfl,rfl,q3,aI⟩;have xi:wX u ps ((cut (u.bA.map cB) (some 1) none).length+1) bq:=q3;rw[MD,mJ,bL,Nat.sub_add_cancel (by have:=u.mc;omega)]at xi;have eS:∀ r∈u.bA,d2 bq (dh r)=some (.int (mu ps r)):=λ r aq=>xi r (by rw[k3];exact aq);clear q3 xi fz
  have av:Sub G (up (up G p (.bz bq)) bI (.lst (cut (u.bA.map cB) (some 1) none))):=λ c o e=>by
   rw[bH (by rintro rfl;rw[e]at t_;cases t_),bH (by rintro rfl;rw[e]at nF;cases nF)];exact e
  have g1:up (up G p (.bz bq)) bI (.lst (cut (u.bA.map cB) (some 1) none)) p=some (.bz bq):=by rw[bH (Ne.symm Au)];exact bh
  refine(show JE _ _ _ [some (.ref l),some (.ref a),some (.ref p),dZ,none,none] (up (up G p (.bz bq)) bI (.lst (cut (u.bA.map cB) (some 1) none))) from ?_);generalize up (up G p (.bz bq)) bI (.lst (cut (u.bA.map cB) (some 1) none))=aw at av g1 ⊢;have g2:=av _ _ aH;have g3:=av _ _ aB;intro b af
  have r3:l≠b:=by rintro rfl;rw[g2]at af;cases af
  have nH:a≠b:=by rintro rfl;rw[g3]at af;cases af
  have abV:p≠b:=by rintro rfl;rw[g1]at af;cases af
  refine YO (by rw[bH r3];exact g2) ?_;refine⟨λ i ρ am=>∃(kw:List (List Key×D))(dZ:Option D),ρ=[some (.ref l),some (.ref a),some (.ref p),dZ,some (.ref b),none]/\am=up aw b (.bz kw)/\ly u ps (u.bA.length - i) kw/\kw.length<=2 * i,⟨[],_,rfl,rfl,.nil,ZB _⟩,λ i ρ am _ h=>?_,?_,?_⟩
  ·obtain⟨kw,dZ,rfl,rfl,_⟩:=h;exact(bH r3).trans g2
  ·rintro i d ρ am hd ⟨kw,dZ,rfl,rfl,fk,aI⟩;have hd2:(u.bA.map cB).reverse[i]?=some d:=hd
   have ar:i<u.bA.length:=by have:=(f5.mp hd2).1;simpa using this
   rw[<- iw,dF,List.getElem?_reverse ar]at hd2
   cases aC:u.bA[u.bA.length - 1 - i]? with
   |none=>rw[aC]at hd2;cases hd2
   | some r=>
    rw[aC]at hd2;cases hd2;have r2:=ip u r (gj aC)
    have em:u.bA.length - i=(u.bA.length - 1 - i)+1:=by omega
    have NR:u.bA.length - (i+1)=u.bA.length - 1 - i:=by omega
    rw[em]at fk
    have xj:∀ kw,up aw b (.bz kw) a=some (.bz kvs):=λ kw=>by rw[bH nH];exact g3
    refine⟨gZ (.inl bh) trivial,gZ (.inl bh) ⟨_,h3 r,?_⟩⟩;rw[fk.at aC ax];refine⟨gZ (.inl (xj _)) trivial,gZ (.inl (xj _)) ⟨_,h3 r,?_⟩⟩;rw[ed r r2];refine mr bh ⟨_,h3 r,by omega,?_⟩;rw[fE,show (gR ps r - (ps.count r:Int)+(ps.count r:Int))=gR ps r by omega];have iY:gb (cB r) (.tup [])=decide (r=[]):=D0 (y:=[]) r2 l3;refine⟨(oL r).1,rfl,eG (oL r).2 (by decide),⟨λ c=>?_,λ c=>?_⟩⟩
    ·have cu:(!decide (r=[]))=true:=by rw[<- iY];exact c
     have Av:r≠[]:=by simpa using cu
     obtain⟨v,v1,v2⟩:=fk.step aC Av
     have xk:nC (.tup (cut (r.map λ k=>D.str (fl k)) none (some (-1))))=some (dh r.dropLast):=by rw[MF,h3]
     refine⟨gZ (.inl bh) trivial,gZ (.inl bh) ⟨_,xk,?_⟩⟩;rw[v1];refine gZ (.inl bh) ⟨_,_,h3 r,by rw[nE r2 r2,if_pos rfl],?_⟩;have b_:=tL kw (dh r) (.int (gR ps r));refine mr bh ⟨_,xk,by omega,?_⟩;rw[fE];exact d8.of ⟨_,_,rfl,rfl,by rw[NR];exact v2,eG (tL ..) (by omega)⟩
    ·have cu:(!decide (r=[]))=false:=by rw[<- iY];exact c
     have re:r=[]:=by simpa using cu
     subst re;exact d8.of ⟨_,_,rfl,rfl,by rw[NR];exact fk.root aC,eG (tL ..) (by omega)⟩
  ·rintro ρ am ⟨kw,dZ,rfl,rfl,fk,aI⟩;have NS:ly u ps (u.bA.length - (u.bA.map cB).reverse.length) kw:=fk;rw[hG,bL,Nat.sub_self]at NS;have abW:∀ r∈u.bA,d2 kw (dh r)=some (.int (gR ps r)):=λ r aq=>NS.on r aq;intro c aE;obtain⟨-,r4,xl⟩:=iM (o:=.lst []) aE
   have NT:l≠c:=by rintro rfl;rw[g2]at r4;cases r4
   have abX:p≠c:=by rintro rfl;rw[g1]at r4;cases r4
   refine lq (by rw[bH NT,bH r3];exact g2) ?_;refine⟨λ i ρ am=>∃(dZ:Option D),ρ=[some (.ref l),some (.ref a),some (.ref p),dZ,some (.ref b),some (.ref c)]/\am=up (up aw b (.bz kw)) c (.bz ((u.bA.take i).map λ r=>(dh r,.int (cst ps r)))),⟨_,rfl,rfl⟩,λ i ρ am _ h=>?_,?_,?_⟩
   ·obtain⟨dZ,rfl,rfl⟩:=h;exact(bH NT).trans ((bH r3).trans g2)
   ·rintro i d ρ am hd ⟨dZ,rfl,rfl⟩;have hd2:(u.bA.map cB)[i]?=some d:=hd;rw[dF]at hd2
    cases aC:u.bA[i]? with
    |none=>rw[aC]at hd2;cases hd2
    | some r=>
     rw[aC]at hd2;cases hd2;have hm:=gj aC;have nA:=(f5.mp aC).1;refine gZ (.inl (by rw[bH abX,bH abV];exact g1)) ⟨_,_,h3 r,eS r hm,?_⟩;refine gZ (.inl (by rw[bH (Ne.symm xl)];exact bh)) ⟨_,_,h3 r,abW r hm,?_⟩;refine mr bh ⟨_,h3 r,by rw[bL,k2];omega,?_⟩;refine d8.of ⟨_,rfl,?_⟩;rw[fE,<- aae,Mz aC]
   ·rintro ρ am ⟨dZ,rfl,rfl⟩;refine bQ.of (q c _ (λ x o e=>?_) (av.none r4) ?_)
    ·have b0:=av x o e;rw[bH (by rintro rfl;rw[b0]at r4;cases r4),bH (by rintro rfl;rw[b0]at af;cases af)];exact b0
    ·rw[bh];show some (eU.bz ((u.bA.take (u.bA.map cB).length).map _))=_;rw[bL,k3];rfl
noncomputable abbrev Fq:bC:=top 47
theorem NU:df ["program","gone"] ["program"] (b9 Fq):=⟨rfl,rfl,rfl,by trivial,rfl,by trivial,by trivial⟩
theorem abY{T da:Addr}{cj gv:Pos}{abZ:Tok}(Fs:mg "MOST_RULES"=some (.int 400 abZ))(Ft:Got P w K mg base 9 "run_through" ["program","most"] (aX K (Dv T cj da gv)))(Fu:Got P w K mg base 4 "is_data" ["program"] (aX K D4))(Fv:Got P w K mg base 3 "roads" ["data"] (aX K (oz 1000)))(Fw:Got P w K mg base 2 "rules_by_road" ["stood_at"] (aX K D5))(Fx:Got P w K mg base 1 "costs_along" ["found","rules"] (aX K D6))(F:c4 K "data_and_costs" "data_and_costs" Fq f fd):cN P w K mg base cG 10 f fd ["program"] (aX K (tR T cj da gv true)):=by
 refine dO (k:=9) F NU (λ ds G az h=>?_) (λ bF A outer s H E aq ds G az h=>?_)
 ·obtain⟨_,_,rfl,_⟩:=h;rfl
 obtain⟨t,o,rfl,aE,bp,jX,aG⟩:=h
 refine⟨_,(a6 (bP (k:=1) NU.aS rfl (Or.inl rfl) (cf Ft aq (by omega) rfl (ao (aj 0) (ao (ro (d:=.int _) (v:=.int _) rfl Fs ⟨_,rfl⟩ (λ _=>rfl)) aJ))))
  (a6 (dr (hx.at (l9 (cP (v_ (cA aq)) (bT bV (aj 1) aN (λ _ _=>rfl)) bX (cp _)) (ng (pS (hA (cf Fu aq (by omega) rfl (ao (bT bV (aj 1) aN (λ _ _=>rfl)) aJ))))))) (bo (b5 hg)) dN)
  (bo (b5 (cb (ao (bT bV (aj 1) aN (λ _ _=>rfl)) (ao (cf Fx aq (by omega) rfl (ao (cf Fv aq (by omega) rfl (ao (bT bV (aj 1) aN (λ _ _=>rfl)) aJ)) (ao (cf Fw aq (by omega) rfl (ao (bT bV (aj 1) aN (λ _ _=>rfl)) aJ)) aJ))) aJ))))))),?_⟩
 have a3:GoodR 400 t:=by cases aE<;>assumption
 refine⟨t,400,rfl,a3,by decide,bp,λ l aH=>?_⟩
 cases aE with
 | MI _ hm=>
  rw[hm];exact⟨λ _=>⟨λ _=>bQ.of (jX rfl _ (Sub.new (Sub.refl _) aH)),nofun⟩,nofun⟩
 | D1 u ps _ aq ax hz=>
  have bv:=aG u ps rfl;have fz:=LJ 400 t;rw[aq]at fz;have ahb:ps.length<=400:=fz;have hd:=u.wb;rw[aq];simp only[aR.Mj];refine⟨nofun,λ _=>⟨u,rfl,by omega,⟨nofun,λ _=>?_⟩⟩⟩;refine⟨u,rfl,by omega,by omega,λ bI fz=>?_⟩;obtain⟨-,eR,sI⟩:=iM (o:=.lst []) fz;refine⟨l,ps,rfl,(bH (Ne.symm sI)).trans bh,λ p NV=>⟨ip u p (ax p NV),?_⟩,by omega,λ a kvs am av aB e8 ed=>?_⟩
  ·obtain⟨z,kA,rfl⟩:=eF.mp (ax p NV);have:=(aR.rD kA).1;omega
  refine⟨bI,a,u,ps,kvs,rfl,av _ _ ?_,e8,ed,ax,by omega,λ b rZ kM af xm=>?_⟩
  ·rw[bh];unfold aR.bA;rw[gw];rfl
  ·have NW:Sub G am:=λ c o e=>av c o (by
    rw[bH (by rintro rfl;rw[e]at eR;cases eR),bH (by rintro rfl;rw[e]at aH;cases aH)];exact e)
   exact bQ.of (bv b rZ (NW.trans kM) (NW.none af) xm)
noncomputable abbrev Fy:bC:=top 46
theorem NX:df ["program","told"] ["program"] (b9 Fy):=⟨rfl,rfl,rfl,by trivial,rfl,by trivial,by trivial⟩
theorem ab0{T da:Addr}{cj gv:Pos}(Fz:Got P w K mg base 10 "data_and_costs" ["program"] (aX K (tR T cj da gv true)))(F:c4 K "costs" "costs" Fy f fd):cN P w K mg base cG 11 f fd ["program"] (aX K (tR T cj da gv false)):=by
 refine dO (k:=10) F NX (λ ds G az h=>?_) (λ bF A outer s H E aq ds G az h=>?_)
 ·obtain⟨_,_,rfl,_⟩:=h;rfl
 obtain⟨t,o,rfl,aE,bp,jX,aG⟩:=h
 refine⟨_,(a6 (bP (k:=1) NX.aS rfl (Or.inl rfl) (cf Fz aq (by omega) rfl (ao (aj 0) aJ)))
  (bo (b5 (nf (cP pV (aj 1) hg (cp _)) hg (bT bV (aj 1) aN (λ _ _=>rfl)))))),?_⟩
 refine⟨t,o,rfl,aE,bp,λ e am av=>⟨λ _=>bQ.of (jX e am av),nofun⟩,λ u ps e b am av af e8=>⟨nofun,λ _=>bQ.of (aG u ps e b am av af e8)⟩⟩
noncomputable abbrev FA:bC:=top 57
theorem FB:df ["_law_feed_here","_law_program","_law_whole_here","_law_other","_law_form"] ["_law_feed_here","_law_program","_law_whole_here"] (b9 FA):=⟨rfl,rfl,rfl,by trivial,rfl,by trivial,by trivial⟩
theorem ab1(e9:Got P w K mg base 1 "_law_take" ["_law_feed_here","_law_many"] (aX K ls))(F:c4 K "_law_wrapped" "_law_wrapped" FA f fd):cN P w K mg base cG 2 f fd ["_law_feed_here","_law_program","_law_whole_here"] (aX K D7):=by
 refine dO (k:=1) F FB (λ ds G az h=>?_) (λ bF A outer s H E aq ds G az h=>?_)
 ·obtain⟨_,_,_,rfl,_⟩:=h;rfl
 obtain⟨a,p,c,rfl,fm,q⟩:=h
 refine⟨_,(a6 (bP (k:=3) FB.aS rfl (Or.inl rfl) (zy (ao (cb (ao bX (ao aN aJ))) (ao (cb (ao bX (ao aN aJ))) (ao (cb (ao bX (ao (cb (ao bX (ao aN aJ))) aJ))) aJ))) (cf e9 aq (by omega) rfl (ao (aj 0) (ao aN aJ))) (λ _ _=>rfl)))
  (a6 (bP (k:=4) FB.aS rfl (Or.inl rfl) (cf e9 aq (by omega) rfl (ao (aj 0) (ao aN aJ))))
  (a6 (dr (cP rr (aj 4) aN (cp _)) (bo (b5 (cb (ao bX (ao (cb (ao bX (ao (cb (ao bX (ao aN aJ))) aJ))) (ao (aj 1) aJ)))))) dN)
  (a6 (dr (cP (dY (cA aq)) (aj 4) aN (cp _)) (bo (b5 (cb (ao bX (ao (cb (ao bX (ao (aj 1) aJ))) (ao (aj 3) aJ)))))) dN)
  (a6 (dr (cP (dY (cA aq)) (aj 4) aN (cp _)) (bo (b5 (cb (ao bX (ao (cb (ao bX (ao (aj 1) (ao (aj 3) aJ)))) aJ))))) dN)
  (a6 (dr (cP (dY (cA aq)) (aj 4) aN (cp _)) (bo (b5 (cb (ao bX (ao (cb (ao bX (ao (aj 3) (ao (aj 1) aJ)))) aJ))))) dN)
  (a6 (dr (hx.at (l9 (cP (dY (cA aq)) (aj 4) aN (cp _)) (ng (pS (hA (aj 2)))))) (bo (b5 (cb (ao bX (ao (cb (ao bX (ao aN aJ))) (ao (aj 1) (ao (aj 3) aJ))))))) dN)
  (a6 (dr (cP (dY (cA aq)) (aj 4) aN (cp _)) (bo (b5 (cb (ao bX (ao (aj 1) (ao (cb (ao bX (ao aN aJ))) aJ)))))) dN)
  (bo (b5 (cb (ao bX (ao (cb (ao bX (ao (cO e0 aN (cf e9 aq (by omega) rfl (ao (aj 0) (ao aN aJ)))) aJ))) (ao (aj 3) (ao (aj 1) aJ))))))))))))))),?_⟩
 refine⟨fm,by decide,by decide,λ k aw d5 e7 ej=>?_⟩;refine YT e7 ej λ d hd=>?_
 obtain⟨o,aO,rfl⟩:∃ o:Tm,kQ o/\d=o.enc:=by
  simp only[dw,jI,or_false]at hd;rcases hd with rfl|rfl|rfl
  ·exact⟨_,.a,rfl⟩
  ·exact⟨_,.b,rfl⟩
  ·exact⟨_,.c,rfl⟩
 refine⟨d5.fd,by decide,by decide,λ m a_ eA m0 jR=>?_⟩;have u:=d5.trans eA;refine⟨λ _=>bQ.of (q (.give (.way (.name 0)) p) _ u .id),λ _=>?_⟩;refine⟨λ _=>bQ.of (q (.give (.way p) o) _ u (.gI aO)),λ _=>?_⟩;refine⟨λ _=>bQ.of (q (.first (.pair p o)) _ u (.fs aO)),λ _=>?_⟩;refine⟨λ _=>bQ.of (q (.second (.pair o p)) _ u (.sn aO)),λ _=>?_⟩;refine⟨λ _=>⟨λ _=>bQ.of (q (.look (.whole 0) p o) _ u (.qd aO)),nofun⟩,λ _=>?_⟩
 cases c with
 |false=>exact⟨λ _=>bQ.of (q (.look (.whole 0) p o) _ u (.qd aO)),nofun⟩
 | true=>
  refine⟨nofun,λ _=>?_⟩;refine⟨λ _=>bQ.of (q (.plus p (.whole 0)) _ u .cF),λ _=>?_⟩;refine⟨eA.fd,by decide,by decide,λ i dv ke ahc dM=>?_⟩;exact bQ.of (q (.look (.whole (1+i)) o p) _ (u.trans ke) (.b_ (by omega) aO))
noncomputable abbrev FC:bC:=top 58
theorem ua:df ["_law_feed_here","_law_data","_law_road","_law_numbers_here","_law_found","_law_one","_law_k"] ["_law_feed_here","_law_data","_law_road","_law_numbers_here"] (b9 FC):=⟨rfl,rfl,rfl,by trivial,rfl,by trivial,by trivial⟩
theorem ab2:cN P w K mg base cG 3 f fd ["_law_feed_here","_law_data","_law_road","_law_numbers_here"] (aX K (w2 0)):=zA λ ds G az h=>by
 obtain⟨_,_,_,_,_,_,_,_,_,_,_,h,_⟩:=h;omega
theorem ab3{n:Nat}(B:gh mg)(FD:Got P w K mg base 2 "_law_wrapped" ["_law_feed_here","_law_program","_law_whole_here"] (aX K D7))(ub:Got P w K mg base (n+3) "_law_dressed" ["_law_feed_here","_law_data","_law_road","_law_numbers_here"] (aX K (w2 n)))(F:c4 K "_law_dressed" "_law_dressed" FC f fd):cN P w K mg base cG (n+4) f fd ["_law_feed_here","_law_data","_law_road","_law_numbers_here"] (aX K (w2 (n+1))):=by
 refine dO (k:=(n+3)) F ua (λ ds G az h=>?_) (λ bF A outer s H E aq ds G az h=>?_)
 ·obtain⟨_,_,_,_,_,_,rfl,_⟩:=h;rfl
 obtain⟨a,b,u,cv,kvs,fn,rfl,fm,af,ed,h0,z,hd,hz,Aw,Ax,q⟩:=h
 refine⟨_,(a6 (bP (k:=4) ua.aS rfl (Or.inl rfl) (aj 1))
  (a6 (dr (cP (dY (cA aq)) (bT bV (aj 1) aN (λ _ _=>rfl)) bX (cp _)) (a6 (bP (k:=5) ua.aS rfl (Or.inl rfl) (cf ub aq (by omega) rfl (ao (aj 0) (ao (bT bV (aj 1) aN (λ _ _=>rfl)) (ao (cO e0 (aj 2) (cb (ao bX aJ))) (ao (aj 3) aJ))))))
  (bo (bP (k:=4) ua.aS rfl (Or.inl rfl) (cb (ao bX (ao (aj 5) (ao (cf ub aq (by omega) rfl (ao (aj 0) (ao (bT bV (aj 1) aN (λ _ _=>rfl)) (ao (cO e0 (aj 2) (cb (ao bX aJ))) (ao (aj 3) aJ))))) aJ))))))) dN)
  (a6 (ih PassesOwn.never rfl (vY rfl B.range (ao (rT (cA aq) (aj 3) (aj 2) aN ⟨rfl,rfl,rfl,rfl⟩) aJ)) (e5 (k:=6) ua.aS rfl (Or.inl rfl)) (bo (bP (k:=4) ua.aS rfl (Or.inl rfl) (cf FD aq (by omega) rfl (ao (aj 0) (ao (aj 4) (ao (jv (dY (cA aq)) (bT bV (aj 1) aN (λ _ _=>rfl)) bX (cp _)) aJ)))))))
  (bo (b5 (aj 4)))))),?_⟩
 have nH:b≠a:=by rintro rfl;obtain⟨x,y,e⟩:=fm;rw[af]at e;cases e
 have ahd:=h0 cv
 cases u with
 | w v=>
  refine⟨nofun,λ _=>?_⟩;refine⟨gZ (.inl af) trivial,gZ (.inl af) ⟨dh cv,h3 cv,?_⟩⟩;rw[ed cv z]
  have ahe:(fn cv).toNat<=20:=by simpa[kd] using Ax
  refine tj (by omega) ?_;refine⟨λ i ρ am=>∃(t:Tm)(fq:Option D),ρ=[some (.ref a),some (aR.w v).enc,some (cB cv),some (.ref b),some t.enc,none,fq]/\oK i t v/\gu a G am,⟨.whole v,_,rfl,.nil v,.refl fm⟩,λ _ _ _ _ _=>trivial,?_,?_⟩
  ·rintro i d ρ am oM ⟨t,fq,rfl,g8,u⟩;obtain⟨ar,rfl⟩:=vT oM;exact⟨a,t,true,rfl,u.fd,λ t' a_ eA hw=>d8.of ⟨t',_,rfl,g8.DR hw (by omega),u.trans eA⟩⟩
  ·rintro ρ am ⟨t,fq,rfl,g8,u⟩;have xn:oK (j2 0 (fn cv).toNat).length t v:=g8;rw[vU]at xn;exact bQ.of (q t am u xn.to)
 | p x y=>
  refine⟨λ _=>?_,nofun⟩;simp only[kd,dJ,bL,o6]at Ax;simp only[aR.bn]at hd Aw;simp only[aR.aL]at hz
  have zs:∀ k:Int,k=0\/k=1->fL (cv++[k]):=λ k aI j bW=>by
   rcases hF.mp bW with bW|bW
   ·exact z j bW
   ·rw[ft.mp bW];exact aI
  refine⟨small (by simp only[bL,o7];omega),a,b,x,cv++[0],kvs,fn,by rw[Kk];rfl,fm,af,ed,h0,zs 0 (.inl rfl),by omega,by omega,by rw[dJ,o7];omega,by omega,λ t1 aw d5 ab4=>?_⟩;refine⟨small (by simp only[bL,o7];omega),a,b,y,cv++[1],kvs,fn,by rw[Kk];rfl,d5.fd,by rw[d5.other nH];exact af,ed,h0,zs 1 (.inr rfl),by omega,by omega,by rw[dJ,o7];omega,by omega,λ t2 a_ eA ab5=>?_⟩;have u:=d5.trans eA
  have oD:a_ b=some (.bz kvs):=by rw[u.other nH];exact af
  have dE:=ab4.pair ab5;refine⟨gZ (.inl oD) trivial,gZ (.inl oD) ⟨dh cv,h3 cv,?_⟩⟩;rw[ed cv z];refine tj (by omega) ?_;refine⟨λ i ρ am=>∃(t:Tm)(fq:Option D),ρ=[some (.ref a),some (aR.p x y).enc,some (cB cv),some (.ref b),some t.enc,some t1.enc,fq]/\kR (fT i []++((kd fn x (cv++[0])).map (0::·)++(kd fn y (cv++[1])).map (1::·))) t (.p x y)/\gu a G am,⟨.pair t1 t2,_,rfl,dE,u⟩,λ _ _ _ _ _=>trivial,?_,?_⟩
  ·rintro i d ρ am oM ⟨t,fq,rfl,g8,u⟩;obtain⟨ar,rfl⟩:=vT oM;refine⟨a,t,false,rfl,u.fd,λ t' a_ eA hw=>d8.of ⟨t',_,rfl,g8.DR hw ?_ ?_,u.trans eA⟩⟩
   ·simp only[dJ,bL,o6];omega
   ·simp only[aR.aL];omega
  ·rintro ρ am ⟨t,fq,rfl,g8,u⟩;have e:(j2 0 (fn cv).toNat).length=(fn cv).toNat:=vU;have xn:kR (fT (j2 0 (fn cv).toNat).length []++_) t (.p x y):=g8;rw[e]at xn;exact bQ.of (q t am u xn)
noncomputable abbrev FE:bC:=top 59
theorem xo:df ["_law_feed_here","_law_data","_law_most","_law_some","_law_found","_law_k","_law_road"] ["_law_feed_here","_law_data","_law_most"] (b9 FE):=⟨rfl,rfl,rfl,by trivial,rfl,by trivial,by trivial⟩
theorem ab6(B:gh mg)(e9:Got P w K mg base 1 "_law_take" ["_law_feed_here","_law_many"] (aX K ls))(qv:Got P w K mg base 31 "_law_roads" ["_law_data"] (aX K (oz 30)))(F:c4 K "_law_numbers" "_law_numbers" FE f fd):cN P w K mg base cG 32 f fd ["_law_feed_here","_law_data","_law_most"] (aX K D8):=by
 refine dO (k:=31) F xo (λ ds G az h=>?_) (λ bF A outer s H E aq ds G az h=>?_)
 ·obtain⟨_,_,rfl,_⟩:=h;rfl
 obtain⟨a,u,rfl,fm,hd,hz,q⟩:=h
 refine⟨_,(a6 (bP (k:=3) xo.aS rfl (Or.inl rfl) (cf qv aq (by omega) rfl (ao (aj 1) aJ)))
  (a6 (bP (k:=4) xo.aS rfl (Or.inl rfl) wT)
  (a6 (ih PassesOwn.never rfl (vY rfl B.range (ao (cf e9 aq (by omega) rfl (ao (aj 0) (ao (cO e0 (aj 2) aN) aJ))) aJ)) (e5 (k:=5) xo.aS rfl (Or.inl rfl)) (a6 (bP (k:=6) xo.aS rfl (Or.inl rfl) (bT bV (aj 3) (cf e9 aq (by omega) rfl (ao (aj 0) (ao (gX kJ rfl B.len Wp (ao (aj 3) aJ)) aJ))) (λ _ _=>rfl)))
  (bo (rU (cA aq) (aj 4) (aj 6) (cO e0 (rT (cA aq) (aj 4) (aj 6) aN ⟨rfl,rfl,rfl,rfl⟩) aN)))))
  (bo (b5 (aj 4)))))),?_⟩
 refine⟨u,rfl,by omega,by omega,λ l aH b af=>?_⟩;have xh:l≠a:=fm.ne aH;obtain⟨-,hE,r3⟩:=iM (o:=.lst []) af;have nH:b≠a:=fm.ne hE;have ab7:gq (up (up G l (.lst (u.all.map λ z=>cB z.1))) b (.bz [])) a:=(fm.new aH).new af;refine⟨ab7,by decide,by decide,λ k aw d5 e7 ej=>tj (by omega) ?_⟩;refine⟨λ i ρ am=>∃(kvs:List (List Key×D))(L:List (List Int))(ek fq:Option D),ρ=[some (.ref a),some u.enc,some (.int 10),some (.ref l),some (.ref b),ek,fq]/\qr u kvs L/\L.length=i/\kvs.length<=i/\gq am a/\am l=some (.lst (u.all.map λ z=>cB z.1))/\am b=some (.bz kvs)/\∀ c o,c≠a->G c=some o->am c=some o,⟨[],[],_,_,rfl,.nil u,rfl,ZB _,d5.fd,?_,?_,λ c o aE e=>?_⟩,λ _ _ _ _ _=>trivial,?_,?_⟩
 ·rw[d5.other xh,bH (Ne.symm r3)];exact bh
 ·rw[d5.other nH];exact bh
 ·rw[d5.other aE,bH (by rintro rfl;rw[e]at hE;cases hE),bH (by rintro rfl;rw[e]at aH;cases aH)];exact e
 ·rintro i d ρ am oM ⟨kvs,L,ek,fq,rfl,cn,eg,aI,FF,FG,oN,e8⟩;obtain⟨ar,rfl⟩:=vT oM;have al:=u.p4;have sp:=u.mc;refine dc FG ⟨FF,by rw[bL];omega,by rw[bL];omega,λ j a_ eA aaC ht=>?_⟩;rw[bL]at ht
  obtain⟨uc,rfl⟩:∃ uc:Nat,j=uc:=⟨j.toNat,by omega⟩
  have bW:uc<u.all.length:=by omega
  have hm:u.all[uc].1∈u.bA:=iy (sl bW);have z:=ip u _ hm
  have NY:a_ l=some (.lst (u.all.map λ z=>cB z.1)):=by rw[eA.other xh];exact FG
  have FH:a_ b=some (.bz kvs):=by rw[eA.other nH];exact oN
  refine dc NY (tf (d:=cB u.all[uc].1) (mZ (by rw[dF,f6 bW];rfl)) ?_);refine⟨gZ (.inl FH) trivial,gZ (.inl FH) ⟨_,h3 _,?_⟩⟩;rw[cn.hW _ z];refine mr FH ⟨_,h3 _,by rw[hk];omega,?_⟩
  exact d8.of ⟨_,L++[u.all[uc].1],_,_,rfl,cn.put hm,by simp[eg],eG (tL ..) (by omega),eA.fd.set nH,by rw[bH (Ne.symm r3)];exact NY,bh,λ c o aE e=>by
   rw[bH (by rintro rfl;rw[e]at hE;cases hE),eA.other aE];exact e8 c o aE e⟩
 ·rintro ρ am ⟨kvs,L,ek,fq,rfl,cn,eg,aI,FF,FG,oN,e8⟩;have ab8:L.length=(j2 0 k.toNat).length:=eg;rw[vU]at ab8;exact bQ.of (q b kvs L am ⟨FF,e8⟩ nH hE oN (by omega) cn)
noncomputable abbrev FI:bC:=top 60
theorem Ay:df ["_law_numbers_here","_law_road","_law_many","_law_one"] ["_law_numbers_here","_law_road"] (b9 FI):=⟨rfl,rfl,rfl,by trivial,rfl,by trivial,by trivial⟩
theorem ab9(B:gh mg)(F:c4 K "_law_cost" "_law_cost" FI f fd):cN P w K mg base cG 1 f fd ["_law_numbers_here","_law_road"] (aX K D9):=by
 refine dO (k:=0) F Ay (λ ds G az h=>?_) (λ bF A outer s H E aq ds G az h=>?_)
 ·obtain⟨_,_,_,_,_,rfl,_⟩:=h;rfl
 obtain⟨b,cv,u,kvs,L,rfl,af,cn,z,Aw,hd,eg,q⟩:=h
 refine⟨_,(a6 (bP (k:=2) Ay.aS rfl (Or.inl rfl) aN)
  (a6 (ih PassesOwn.never rfl (ZM (aj 0)) (e5 (k:=3) Ay.aS rfl (Or.inl rfl)) (bo (dr (hx.at (l9 (cP (dY (cA aq)) (ll lp (aj 3) li (lj (gX kJ rfl B.len Wp (ao (aj 1) aJ)))) (aj 1) (cp _)) (ng (cP (dY (cA aq)) (ll lp (aj 1) li (lj (gX kJ rfl B.len Wp (ao (aj 3) aJ)))) (aj 3) (cp _))))) (bo (J9 (k:=2) Ay.aS rfl (Or.inl rfl) (wU (cA aq) (aj 0) (aj 3) (λ _ _=>rfl)) J8)) dN)))
  (bo (b5 (aj 2))))),?_⟩
 obtain⟨a7,rfl,NZ,aca,acb⟩:=cn.a7;refine aao af λ o gs aw ag ai=>?_;refine⟨λ i ρ am=>∃(dZ:Option D),ρ=[some (.ref b),some (cB cv),some (.int ((a7.take i).map λ q=>if decide (cv <+: q.1\/q.1 <+: cv) then q.2 else 0).sum),dZ]/\am=aw,⟨_,rfl,rfl⟩,λ i ρ am _ h=>?_,?_,?_⟩
 ·obtain⟨dZ,rfl,rfl⟩:=h;exact ai
 ·rintro i d ρ am eI ⟨dZ,rfl,rfl⟩;have hd2:((a7.map qq).map λ bq=>hD bq.1)[i]?=some d:=eI;rw[gw,dF]at hd2
  cases aC:a7[i]? with
  |none=>rw[aC]at hd2;cases hd2
  | some p=>
   rw[aC]at hd2
   have r5:d=cB p.1:=by rw[DV];exact(eW.inj hd2).symm
   subst r5;have hm:=gj aC;have qc:=NZ p hm;have ev:=DZ NZ aca p hm
   have es:∀ P:List Int->Bool,((a7.take (i+1)).map λ q=>if P q.1 then q.2 else 0).sum=((a7.take i).map λ q=>if P q.1 then q.2 else 0).sum+(if P p.1 then p.2 else 0):=λ P=>by
    rw[jl,aC,fN,List.sum_append];simp
   have yes:∀(h:cv <+: p.1\/p.1 <+: cv),d8 (λ ρ a_=>∃ dZ:Option D,ρ=[some (.ref b),some (cB cv),some (.int ((a7.take (i+1)).map λ q=>if decide (cv <+: q.1\/q.1 <+: cv) then q.2 else 0).sum),dZ]/\a_=am) [some (.ref b),some (cB cv),some (.int (((a7.take i).map λ q=>if decide (cv <+: q.1\/q.1 <+: cv) then q.2 else 0).sum+p.2)),some (cB p.1)] am:=λ h=>
    d8.of ⟨_,by rw[es λ r=>decide (cv <+: r\/r <+: cv),if_pos (decide_eq_true h)],rfl⟩
   have t1:D.tup (cut (p.1.map λ k=>D.str (fl k)) none (some (((cv.map λ k=>D.str (fl k)).length:Nat):Int)))=cB (p.1.take cv.length):=by rw[ME,bL]
   have t2:D.tup (cut (cv.map λ k=>D.str (fl k)) none (some (((p.1.map λ k=>D.str (fl k)).length:Nat):Int)))=cB (cv.take p.1.length):=by rw[ME,bL]
   have iY:gb (D.tup (cut (p.1.map λ k=>D.str (fl k)) none (some (((cv.map λ k=>D.str (fl k)).length:Nat):Int)))) (cB cv)=decide (p.1.take cv.length=cv):=by rw[t1,D0 (qc.take _) z]
   have w7:gb (D.tup (cut (cv.map λ k=>D.str (fl k)) none (some (((p.1.map λ k=>D.str (fl k)).length:Nat):Int)))) (cB p.1)=decide (cv.take p.1.length=p.1):=by rw[t2,D0 (z.take _) qc]
   refine⟨by rw[t1];exact(oL _).1,(oL cv).1,by rw[t1];exact eG (oL _).2 (by decide),⟨λ c=>⟨λ _=>gZ (.inr ⟨o,gs,ai⟩) ⟨dh p.1,.int p.2,h3 p.1,ev,yes (.inl (x2.mpr (of_decide_eq_true (iY.symm.trans c)).symm))⟩,nofun⟩,λ c=>?_⟩⟩;refine⟨by rw[t2];exact(oL _).1,(oL p.1).1,by rw[t2];exact eG (oL _).2 (by decide),⟨λ dS=>gZ (.inr ⟨o,gs,ai⟩) ⟨dh p.1,.int p.2,h3 p.1,ev,yes (.inr (x2.mpr (of_decide_eq_true (w7.symm.trans dS)).symm))⟩,λ dS=>d8.of ⟨some (cB p.1),?_,rfl⟩⟩⟩;rw[es λ r=>decide (cv <+: r\/r <+: cv),if_neg,Int.add_zero]
   ·rfl
   rw[decide_eq_true_eq];rintro(h|h)
   ·exact absurd (x2.mp h).symm (of_decide_eq_false (iY.symm.trans c))
   ·exact absurd (x2.mp h).symm (of_decide_eq_false (w7.symm.trans dS))
 ·rintro ρ am ⟨dZ,rfl,rfl⟩
  have e:((a7.map qq).map λ bq=>hD bq.1).length=a7.length:=by rw[bL,bL]
  refine(show bQ az (.int ((a7.take ((a7.map qq).map λ bq=>hD bq.1).length).map λ q=>if decide (cv <+: q.1\/q.1 <+: cv) then q.2 else 0).sum) am from ?_);rw[e,k3,acb λ r=>decide (cv <+: r\/r <+: cv)];exact bQ.of (q am ag ⟨o,gs,ai⟩)
noncomputable abbrev FJ:bC:=top 61
theorem Az:df ["_law_feed_here","_law_many","_law_program","_law_found","_law_k"] ["_law_feed_here","_law_many","_law_program"] (b9 FJ):=⟨rfl,rfl,rfl,by trivial,rfl,by trivial,by trivial⟩
theorem acd(B:gh mg)(e9:Got P w K mg base 1 "_law_take" ["_law_feed_here","_law_many"] (aX K ls))(F:c4 K "_law_often" "_law_often" FJ f fd):cN P w K mg base cG 2 f fd ["_law_feed_here","_law_many","_law_program"] (aX K D_):=by
 refine dO (k:=1) F Az (λ ds G az h=>?_) (λ bF A outer s H E aq ds G az h=>?_)
 ·obtain⟨_,_,_,rfl,_⟩:=h;rfl
 obtain⟨a,m,t,rfl,fm,ag,ai,q⟩:=h
 refine⟨_,(a6 (bP (k:=3) Az.aS rfl (Or.inl rfl) (cb (ao bX (ao aN aJ))))
  (a6 (ih PassesOwn.never rfl (vY rfl B.range (ao (cO kH (aj 1) aN) aJ)) (e5 (k:=4) Az.aS rfl (Or.inl rfl)) (bo (bP (k:=3) Az.aS rfl (Or.inl rfl) (zy (ao (cb (ao bX (ao (aj 3) (ao (cb (ao bX (ao aN aJ))) aJ)))) (ao (cb (ao bX (ao (cb (ao bX (ao aN aJ))) (ao (aj 3) aJ)))) aJ)) (cf e9 aq (by omega) rfl (ao (aj 0) (ao aN aJ))) (λ _ _=>rfl)))))
  (bo (b5 (cb (ao bX (ao (cb (ao bX (ao (aj 3) aJ))) (ao (aj 2) aJ)))))))),?_⟩
 refine tj (by omega) ?_;refine⟨λ i ρ am=>∃(bs:List Bool)(fC:Option D),ρ=[some (.ref a),some (.int m),some t.enc,some (jb (.name 0) bs).enc,fC]/\bs.length=i/\gu a G am,⟨[],_,rfl,rfl,.refl fm⟩,λ _ _ _ _ _=>trivial,?_,?_⟩
 ·rintro i d ρ am hd ⟨bs,fC,rfl,af,u⟩;refine⟨u.fd,by decide,by decide,λ k aw d5 e7 ej=>?_⟩;refine at2 (i:=k) e7 ej (λ e=>d8.of ⟨true::bs,_,rfl,by simp[af],u.trans d5⟩) (λ e=>d8.of ⟨false::bs,_,rfl,by simp[af],u.trans d5⟩)
 ·rintro ρ am ⟨bs,fC,rfl,af,u⟩;have q6:bs.length=(j2 0 ((m:Int) - 1).toNat).length:=af;rw[vU]at q6;exact bQ.of (q bs am u (by omega))
noncomputable abbrev FK:bC:=top 62
theorem AA:df ["_law_feed_here","_law_more","_law_whole_here","_law_found"] ["_law_feed_here","_law_more"] (b9 FK):=⟨rfl,rfl,rfl,by trivial,rfl,by trivial,by trivial⟩
theorem ace(e9:Got P w K mg base 1 "_law_take" ["_law_feed_here","_law_many"] (aX K ls))(xp:Got P w K mg base 2 "_law_often" ["_law_feed_here","_law_many","_law_program"] (aX K D_))(F:c4 K "_law_long" "_law_long" FK f fd):cN P w K mg base cG 3 f fd ["_law_feed_here","_law_more"] (aX K Ea):=by
 refine dO (k:=2) F AA (λ ds G az h=>?_) (λ bF A outer s H E aq ds G az h=>?_)
 ·obtain⟨_,_,rfl,_⟩:=h;rfl
 obtain⟨a,c,rfl,fm,aE,q⟩:=h
 refine⟨_,(a6 (bP (k:=2) AA.aS rfl (Or.inl rfl) (cb (ao bX (ao (cO kH (cf e9 aq (by omega) rfl (ao (aj 0) (ao aN aJ))) aN) aJ))))
  (a6 (bP (k:=3) AA.aS rfl (Or.inl rfl) (cf xp aq (by omega) rfl (ao (aj 0) (ao aN (ao (cf xp aq (by omega) rfl (ao (aj 0) (ao aN (ao (cf xp aq (by omega) rfl (ao (aj 0) (ao aN (ao (aj 2) aJ)))) aJ)))) aJ)))))
  (a6 (dr (cP (dY (cA aq)) (aj 1) aN (cp _)) (bo (bP (k:=3) AA.aS rfl (Or.inl rfl) (cb (ao bX (ao (cb (ao bX (ao (cb (ao bX (ao aN aJ))) aJ))) (ao (aj 3) aJ)))))) dN)
  (bo (b5 (aj 3)))))),?_⟩
 refine⟨fm,by decide,by decide,λ k aw d5 e7 ej=>?_⟩;refine⟨a,10,.whole (k - 1000000),rfl,d5.fd,by decide,by decide,λ b1 a_ eA b_=>?_⟩;refine⟨a,9,_,rfl,eA.fd,by decide,by decide,λ b2 dv ke bI=>?_⟩;refine⟨a,4,_,rfl,ke.fd,by decide,by decide,λ b3 iL Ez jB=>?_⟩;have L:=Z8 (v:=k - 1000000) (b1:=b1) (b2:=b2) (b3:=b3) (by omega) (by omega) (by omega);have u:=((d5.trans eA).trans ke).trans Ez;rcases aE with rfl|rfl
 ·exact⟨nofun,λ _=>bQ.of (q _ _ _ u (.a (L.d7.mono (by decide) (by decide))))⟩
 ·exact⟨λ _=>bQ.of (q (.give (.way (.name 0)) _) _ _ u (.b (Z9 L))),nofun⟩
noncomputable abbrev FL:bC:=top 63
theorem FM:df ["_law_program","_law_right","_law_many","_law_k","_law_found"] ["_law_program","_law_right","_law_many"] (b9 FL):=⟨rfl,rfl,rfl,by trivial,rfl,by trivial,by trivial⟩
theorem acf{T da:Addr}{cj gv:Pos}(B:gh mg)(FN:Got P w K mg base 11 "costs" ["program"] (aX K (tR T cj da gv false)))(g_same:Got P w K mg base 41 "_law_same" ["_law_found","_law_due"] (aX K (we 40)))(F:c4 K "_law_told" "_law_told" FL f fd):cN P w K mg base cG 42 f fd ["_law_program","_law_right","_law_many"] (aX K (Af T cj da gv)):=by
 refine dO (k:=41) F FM (λ ds G az h=>?_) (λ bF A outer s H E aq ds G az h=>?_)
 ·obtain⟨_,_,_,_,rfl,_⟩:=h;rfl
 obtain⟨t,o,r,n,rfl,aE,bp,ag,ai,jX,aG,q⟩:=h
 refine⟨_,(a6 (ih PassesOwn.never rfl (vY rfl B.range (ao (aj 2) aJ)) (e5 (k:=3) FM.aS rfl (Or.inl rfl)) (a6 (bP (k:=4) FM.aS rfl (Or.inl rfl) (cf FN aq (by omega) rfl (ao (aj 0) aJ)))
  (a6 (dr (hx.at (l9 (cP pV (aj 1) hg (cp _)) (ng (cP pV (aj 4) hg (cp _))))) (bo (b5 (pQ (jv pV (aj 1) hg (cp _)) (rp (jv pV (aj 4) hg (cp _)))))) dN)
  (a6 (dr (pS (hA (gX ZH rfl B.isinstance qS (ao (aj 4) (ao (rn rfl B.dict PyProof.Rows.boot_dict) aJ))))) (bo (b5 l8)) dN)
  (a6 (dr (pS (hA (cf g_same aq (by omega) rfl (ao (wa (vP vR rfl B.tuple pe (ao (Mh rfl B.list (aj 4)) aJ))) (ao (wa (vP vR rfl B.tuple pe (ao (Mh rfl B.list (aj 1)) aJ))) aJ))))) (bo (b5 l8)) dN)
  (bo (hB (ZF (aj 4)))))))))
  (bo (b5 l8))),?_⟩
 refine tj (by omega) ?_
 cases o with
 | none=>
  obtain rfl:=jX rfl;refine⟨λ i ρ am=>∃ dZ fC,ρ=[some t.enc,some .bE,some (.int n),dZ,fC]/\Sub G am,⟨_,_,rfl,.refl _⟩,λ _ _ _ _ _=>trivial,?_,?_⟩
  ·rintro i d ρ am oM ⟨dZ,fC,rfl,av⟩;exact⟨t,none,rfl,aE,⟨av _ _ bp.1,av _ _ bp.2⟩,λ _ a_ kM=>⟨λ _=>⟨λ _=>⟨λ _=>bQ.of (q _),nofun⟩,nofun⟩,nofun⟩,nofun⟩
  ·rintro ρ am ⟨dZ,fC,rfl,av⟩;exact bQ.of (q _)
 | some z=>
  obtain⟨u,ps⟩:=z;obtain⟨b,rfl,af,hd⟩:=aG u ps rfl;refine⟨λ i ρ am=>∃ dZ fC,ρ=[some t.enc,some (.ref b),some (.int n),dZ,fC]/\Sub G am,⟨_,_,rfl,.refl _⟩,λ _ _ _ _ _=>trivial,?_,?_⟩
  ·rintro i d ρ am oM ⟨dZ,fC,rfl,av⟩;refine⟨t,some (u,ps),rfl,aE,⟨av _ _ bp.1,av _ _ bp.2⟩,nofun,λ mQ zE e a a_ kM aB xm=>?_⟩;cases e;have oN:=(av.trans kM) _ _ af
   have br:u.aL<=900:=by cases aE;assumption
   obtain⟨gU,c_⟩:=aas (ps:=ps) br;refine⟨nofun,λ _=>⟨nofun,λ _=>?_⟩⟩;refine mr xm ⟨rfl,⟨nofun,λ _=>?_⟩⟩;refine mr xm λ b_ og=>dc bh ⟨a_,Sub.new (Sub.refl _) og,?_⟩;refine mr oN λ bI fz=>dc bh ⟨a_,Sub.new (Sub.refl _) fz,?_⟩;refine⟨_,rfl,gU,c_,⟨nofun,λ _=>?_⟩⟩;exact mr xm (d8.of ⟨_,_,rfl,Sub.new (av.trans kM) (av.none aB)⟩)
  ·rintro ρ am ⟨dZ,fC,rfl,av⟩;exact bQ.of (q _)
noncomputable abbrev FO:bC:=top 64
theorem nI:df ["_law_feed_here","_law_more","_law_side","_law_program","_law_right"] ["_law_feed_here"] (b9 FO):=⟨rfl,rfl,rfl,by trivial,rfl,by trivial,by trivial⟩
theorem acg{T da:Addr}{cj gv:Pos}(e9:Got P w K mg base 1 "_law_take" ["_law_feed_here","_law_many"] (aX K ls))(FP:Got P w K mg base 3 "_law_long" ["_law_feed_here","_law_more"] (aX K Ea))(ud:Got P w K mg base 42 "_law_told" ["_law_program","_law_right","_law_many"] (aX K (Af T cj da gv)))(F:c4 K "_law_told_long" "_law_told_long" FO f fd):cN P w K mg base cG 43 f fd ["_law_feed_here"] (aX K (Eb T cj da gv)):=by
 refine dO (k:=42) F nI (λ ds G az h=>?_) (λ bF A outer s H E aq ds G az h=>?_)
 ·obtain⟨_,rfl,_⟩:=h;rfl
 obtain⟨a,rfl,fm,bp,qy,uf,q⟩:=h
 refine⟨_,(a6 (bP (k:=1) nI.aS rfl (Or.inl rfl) (cf e9 aq (by omega) rfl (ao (aj 0) (ao aN aJ))))
  (a6 (bP (k:=2) nI.aS rfl (Or.inl rfl) (cf e9 aq (by omega) rfl (ao (aj 0) (ao aN aJ))))
  (a6 (bP (k:=3) nI.aS rfl (Or.inl rfl) (cf FP aq (by omega) rfl (ao (aj 0) (ao (aj 1) aJ))))
  (a6 (bP (k:=4) nI.aS rfl (Or.inl rfl) (Aa (cA aq) (qk (cb aJ) aN z_)))
  (a6 (dr (cP (dY (cA aq)) (aj 2) aN (cp _)) (a6 (bP (k:=3) nI.aS rfl (Or.inl rfl) (cb (ao bX (ao (aj 3) (ao (cb (ao bX (ao aN aJ))) aJ)))))
  (bo (bP (k:=4) nI.aS rfl (Or.inl rfl) (Aa (cA aq) (qk (cb aJ) aN (qk (cb (ao bX aJ)) aN (qk (cb (ao bX aJ)) aN z_))))))) dN)
  (a6 (dr (cP (dY (cA aq)) (aj 2) aN (cp _)) (a6 (bP (k:=3) nI.aS rfl (Or.inl rfl) (cb (ao bX (ao (cb (ao bX (ao aN aJ))) (ao (aj 3) aJ)))))
  (bo (bP (k:=4) nI.aS rfl (Or.inl rfl) (Aa (cA aq) (qk (cb aJ) aN (qk (cb (ao bX aJ)) aN (qk (cb (ao bX aJ)) aN z_))))))) dN)
  (a6 (dr (cP (dY (cA aq)) (aj 1) aN (cp _)) (bo (bP (k:=4) nI.aS rfl (Or.inl rfl) hg)) dN)
  (bo (b5 (cf ud aq (by omega) rfl (ao (aj 3) (ao (aj 4) (ao aN aJ))))))))))))),?_⟩
 refine⟨fm,by decide,by decide,λ c aw d5 Ae ew=>?_⟩;refine⟨d5.fd,by decide,by decide,λ d a_ eA Ag iY=>?_⟩
 have aE:c=0\/c=1:=by omega
 refine⟨a,c,rfl,eA.fd,aE,λ t v dv ke eg=>?_⟩;have u:=(d5.trans eA).trans ke
 have ach:h2 T cj da gv dv:=⟨u.b8 qy bp.1,u.b8 uf bp.2⟩
 intro b af;refine⟨bh,[([],.int 400)],rfl,by decide,?_⟩;rw[fE];have ug:∀ o,h2 T cj da gv (up dv b o):=λ o=>ach.new af;rcases(by omega:d=0\/d=1\/d=2) with rfl|rfl|rfl
 ·refine⟨nofun,λ _=>⟨nofun,λ _=>?_⟩⟩;rcases aE with rfl|rfl
  ·refine⟨nofun,λ _=>⟨t,_,_,1,rfl,(D2 eg).1,ug _,by decide,by decide,(λ h=>by cases h),λ u ps e=>?_,λ am=>bQ.of (q _)⟩⟩;cases e;exact⟨b,rfl,by rw[aat];exact bh,by simp[aR.bn]⟩
  ·exact⟨λ _=>⟨t,none,.bE,1,rfl,(D3 eg).1,ug _,by decide,by decide,λ _=>rfl,(λ u ps h=>by cases h),λ am=>bQ.of (q _)⟩,nofun⟩
 ·refine⟨λ _=>?_,nofun⟩;intro b2 oD;refine⟨bh,[([],.int 400),([.inr "first"],.int 400),([.inr "second"],.int 0)],rfl,by decide,?_⟩;rw[fE];have xq:∀ o,h2 T cj da gv (up (up dv b (.bz (List.foldl (λ acc fK=>fJ acc fK.1 fK.2) [] [([],.int 400)]))) b2 o):=λ o=>(ug _).new oD;refine⟨nofun,λ _=>?_⟩;rcases aE with rfl|rfl
  ·refine⟨nofun,λ _=>⟨Tm.pair t (.whole 7),_,_,1,rfl,(D2 eg).2.1,xq _,by decide,by decide,(λ h=>by cases h),λ u ps e=>?_,λ am=>bQ.of (q _)⟩⟩;cases e;exact⟨b2,rfl,by rw[aau];exact bh,by simp[aR.bn]⟩
  ·exact⟨λ _=>⟨Tm.pair t (.whole 7),none,.bE,1,rfl,(D3 eg).2.1,xq _,by decide,by decide,λ _=>rfl,(λ u ps h=>by cases h),λ am=>bQ.of (q _)⟩,nofun⟩
 ·refine⟨nofun,λ _=>⟨λ _=>?_,nofun⟩⟩;intro b2 oD;refine⟨bh,[([],.int 400),([.inr "first"],.int 0),([.inr "second"],.int 400)],rfl,by decide,?_⟩;rw[fE];have xq:∀ o,h2 T cj da gv (up (up dv b (.bz (List.foldl (λ acc fK=>fJ acc fK.1 fK.2) [] [([],.int 400)]))) b2 o):=λ o=>(ug _).new oD;rcases aE with rfl|rfl
  ·refine⟨nofun,λ _=>⟨Tm.pair (.whole 7) t,_,_,1,rfl,(D2 eg).2.2,xq _,by decide,by decide,(λ h=>by cases h),λ u ps e=>?_,λ am=>bQ.of (q _)⟩⟩;cases e;exact⟨b2,rfl,by rw[aav];exact bh,by simp[aR.bn]⟩
  ·exact⟨λ _=>⟨Tm.pair (.whole 7) t,none,.bE,1,rfl,(D3 eg).2.2,xq _,by decide,by decide,λ _=>rfl,(λ u ps h=>by cases h),λ am=>bQ.of (q _)⟩,nofun⟩
noncomputable abbrev uh:bC:=top 65
theorem r6:df ["_law_script","_law_feed_here","_law_data","_law_numbers_here","_law_program","_law_right","_law_road"] ["_law_script"] (b9 uh):=⟨rfl,rfl,rfl,by trivial,rfl,by trivial,by trivial⟩
theorem aci{T da:Addr}{cj gv:Pos}(B:gh mg)(xr:Got P w K mg base 1 "_law_feed" ["_law_script","_law_k"] (aX K wc))(e9:Got P w K mg base 1 "_law_take" ["_law_feed_here","_law_many"] (aX K ls))(t5:Got P w K mg base 22 "_law_tree" ["_law_feed_here","_law_room","_law_deep"] (aX K (wf 20)))(FQ:Got P w K mg base 32 "_law_numbers" ["_law_feed_here","_law_data","_law_most"] (aX K D8))(ub:Got P w K mg base 33 "_law_dressed" ["_law_feed_here","_law_data","_law_road","_law_numbers_here"] (aX K (w2 30)))(qv:Got P w K mg base 31 "_law_roads" ["_law_data"] (aX K (oz 30)))(FR:Got P w K mg base 1 "_law_cost" ["_law_numbers_here","_law_road"] (aX K D9))(ud:Got P w K mg base 42 "_law_told" ["_law_program","_law_right","_law_many"] (aX K (Af T cj da gv)))(FS:Got P w K mg base 43 "_law_told_long" ["_law_feed_here"] (aX K (Eb T cj da gv)))(F:c4 K "law" "law" uh f fd):cN P w K mg base cG 130 f fd ["_law_script"] (aX K (wp [(T,cj,"lifted.<locals>.moved"),(da,gv,"put_in.<locals>.taken")])):=by
 refine dO (k:=129) F r6 (λ ds G az h=>?_) (λ bF A outer s H E aq ds G az h=>?_)
 ·obtain⟨_,rfl,_⟩:=h;rfl
 obtain⟨ns,rfl,aH,sR,q⟩:=h;have bp:G T=some (.tab cj "lifted.<locals>.moved"):=sR _ (dP ..);have r0:G da=some (.tab gv "put_in.<locals>.taken"):=sR _ (eE _ (dP ..))
 refine⟨_,(a6 (bP (k:=1) r6.aS rfl (Or.inl rfl) (cf xr aq (by omega) rfl (ao (aj 0) (ao aN aJ))))
  (a6 (dr (cP (dY (cA aq)) (cf e9 aq (by omega) rfl (ao (cf xr aq (by omega) rfl (ao (aj 0) (ao aN aJ))) (ao aN aJ))) aN (cp _)) (bo (b5 (cf FS aq (by omega) rfl (ao (aj 1) aJ)))) dN)
  (a6 (bP (k:=2) r6.aS rfl (Or.inl rfl) (cf t5 aq (by omega) rfl (ao (aj 1) (ao (cO e0 aN (cO nh aN (cf e9 aq (by omega) rfl (ao (aj 1) (ao aN aJ))))) (ao aN aJ)))))
  (a6 (bP (k:=3) r6.aS rfl (Or.inl rfl) (cf FQ aq (by omega) rfl (ao (aj 1) (ao (aj 2) (ao aN aJ)))))
  (a6 (bP (k:=4) r6.aS rfl (Or.inl rfl) (cf ub aq (by omega) rfl (ao (cf xr aq (by omega) rfl (ao (aj 0) (ao aN aJ))) (ao (aj 2) (ao (cb aJ) (ao (aj 3) aJ))))))
  (a6 (bP (k:=5) r6.aS rfl (Or.inl rfl) wT)
  (a6 (ih PassesOwn.never rfl (ig (cf qv aq (by omega) rfl (ao (aj 2) aJ))) (e5 (k:=6) r6.aS rfl (Or.inl rfl)) (bo (rU (cA aq) (aj 5) (aj 6) (cf FR aq (by omega) rfl (ao (aj 3) (ao (aj 6) aJ))))))
  (bo (b5 (cf ud aq (by omega) rfl (ao (aj 4) (ao (aj 5) (ao aN aJ))))))))))))),?_⟩
 refine⟨ns,rfl,aH,by omega,by omega,λ a ahf ahg aB=>?_⟩
 have qy:T≠a:=by rintro rfl;rw[aB]at bp;cases bp
 have uf:da≠a:=by rintro rfl;rw[aB]at r0;cases r0
 refine⟨ns,rfl,aH,by omega,by omega,λ kO ahh ahi acj=>?_⟩;obtain⟨-,N0,N1⟩:=iM (o:=.lst []) acj
 have N2:T≠kO:=by rintro rfl;rw[N0]at bp;cases bp
 have N3:da≠kO:=by rintro rfl;rw[N0]at r0;cases r0
 refine⟨.up,by decide,by decide,λ k aw d5 e7 ej=>?_⟩
 have t1:h2 T cj da gv aw:=⟨d5.b8 N2 (by rw[bH N2,bH qy];exact bp),d5.b8 N3 (by rw[bH N3,bH uf];exact r0)⟩
 have f1:gq aw a:=⟨_,_,d5.b8 (Ne.symm N1) (by rw[bH (Ne.symm N1)];exact bh)⟩
 refine⟨λ _=>⟨a,rfl,f1,t1,qy,uf,λ am=>bQ.of (q _)⟩,λ _=>?_⟩;refine⟨f1,by decide,by decide,λ m a_ eA m0 jR=>?_⟩;refine⟨by unfold u1;omega,a,_,_,rfl,eA.fd,by omega,by decide,by decide,λ u dv ke hz hd=>?_⟩
 have kA:u.aL<=100:=by omega
 have eI:u.bn<=20:=by omega
 have N4:=eA.trans ke
 have t3:h2 T cj da gv dv:=⟨N4.b8 qy t1.1,N4.b8 uf t1.2⟩
 refine⟨a,u,rfl,ke.fd,eI,kA,λ b kvs L iL rV nH af oN eg cn=>?_⟩
 have ug:T≠b:=by rintro rfl;rw[t3.1]at af;cases af
 have ack:da≠b:=by rintro rfl;rw[t3.2]at af;cases af
 have rK:h2 T cj da gv iL:=⟨rV.2 T _ qy t3.1,rV.2 da _ uf t3.2⟩
 refine⟨ns,rfl,aH,by omega,by omega,λ kE ahj A6 r7=>?_⟩;have ahk:kE≠a:=rV.1.ne r7
 have FT:b≠kE:=by rintro rfl;rw[oN]at r7;cases r7
 have h0:(kd (λ ns=>(L.count ns:Int)) u []).Perm L:=aaj cn.mem
 have Ax:(kd (λ ns=>(L.count ns:Int)) u []).length<=10:=by rw[h0.length_eq];exact eg
 refine⟨kE,b,u,[],kvs,_,rfl,.up,by rw[bH FT];exact oN,cn.hW,λ ns=>Int.natCast_nonneg _,l3,by omega,kA,by simp;omega,by omega,λ t lr FU g8=>?_⟩;have sQ:=g8.cs (λ q aV=>cn.mem q (h0.mem_iff.mp aV)) kA (by omega) eI
 have FV:lr b=some (.bz kvs):=by rw[FU.other FT,bH FT];exact oN
 have N5:T≠kE:=by rintro rfl;rw[rK.1]at r7;cases r7
 have N6:da≠kE:=by rintro rfl;rw[rK.2]at r7;cases r7
 have tB:h2 T cj da gv lr:=⟨FU.b8 N5 (by rw[bH N5];exact rK.1),FU.b8 N6 (by rw[bH N6];exact rK.2)⟩
 clear g8 Ax;intro c aE;refine⟨u,rfl,by omega,by omega,λ l im=>lq bh ?_⟩;obtain⟨-,AB,N7⟩:=iM (o:=.lst []) im
 have xl:b≠c:=by rintro rfl;rw[FV]at aE;cases aE
 have N8:b≠l:=by rintro rfl;rw[FV]at AB;cases AB
 have bg:∀ x o,lr x=some o->x≠c/\x≠l:=λ x o e=>⟨(by rintro rfl;rw[e]at aE;cases aE),(by rintro rfl;rw[e]at AB;cases AB)⟩
 have N9:(u.all.map λ z=>cB z.1)=u.bA.map cB:=by unfold aR.bA;rw[gw];rfl
 have hlen:u.bA.length=u.aL:=by unfold aR.bA;rw[bL,u.p4]
 refine⟨λ i ρ am=>∃ fq,ρ=[some (.d6 (ns.map D.int)),some (.ref a),some u.enc,some (.ref b),some t.enc,some (.ref c),fq]/\am l=some (.lst (u.all.map λ z=>cB z.1))/\am c=some (.bz ((u.bA.take i).map λ r=>(dh r,.int (cst L r))))/\(am b=some (.bz kvs)\/∃ o gs,am b=some (.hv o gs kvs))/\h2 T cj da gv am,⟨_,rfl,bh,by rw[bH (Ne.symm N7)];exact bh,.inl (by rw[bH N8,bH xl];exact FV),⟨?_,?_⟩⟩,λ i ρ am _ h=>?_,?_,?_⟩
 ·have:=bg _ _ tB.1;rw[bH this.2,bH this.1];exact tB.1
 ·have:=bg _ _ tB.2;rw[bH this.2,bH this.1];exact tB.2
 ·obtain⟨fq,rfl,e,_⟩:=h;exact e
 ·rintro i d ρ am hd2 ⟨fq,rfl,aC,aF,c6,g_⟩;have r5:(u.all.map λ z=>cB z.1)[i]?=some d:=hd2;rw[N9,dF]at r5
  cases c1:u.bA[i]? with
  |none=>rw[c1]at r5;cases r5
  | some r=>
   rw[c1]at r5;cases r5;have hm:=gj c1;have nA:=(f5.mp c1).1;have r2:=ip u r hm
   have Aw:r.length<=100:=by
    obtain⟨z,m3,rfl⟩:=eF.mp hm;have:=(aR.rD m3).1;omega
   refine⟨b,r,u,kvs,L,rfl,c6,cn,r2,Aw,eI,eg,λ JT rd AC=>?_⟩;have kB:=rd c _ (Ne.symm xl) aF;refine mr kB ⟨_,h3 r,by rw[bL,k2,hk];omega,?_⟩
   have BX:T≠c:=by rintro rfl;rw[g_.1]at aF;cases aF
   have acl:da≠c:=by rintro rfl;rw[g_.2]at aF;cases aF
   have acm:T≠b:=ug;have acn:da≠b:=ack;refine d8.of ⟨_,rfl,by rw[bH N7];exact rd l _ (Ne.symm N8) aC,by rw[bh,Mz c1],.inr ?_,⟨by rw[bH BX];exact rd T _ acm g_.1,by rw[bH acl];exact rd da _ acn g_.2⟩⟩;obtain⟨o,gs,AC⟩:=AC;exact⟨o,gs,by rw[bH xl];exact AC⟩
 ·rintro ρ am ⟨fq,rfl,aC,aF,c6,g_⟩;have oa:am c=some (.bz ((u.bA.take (u.all.map λ z=>cB z.1).length).map λ r=>(dh r,.int (cst L r)))):=aF;rw[N9,bL,k3]at oa;refine⟨t,_,_,2,rfl,sQ,g_,by decide,by decide,(λ h=>by cases h),λ mQ zE e=>?_,λ rZ=>bQ.of (q _)⟩;cases e;exact⟨c,rfl,by rw[aal h0];exact oa,eI⟩
end
noncomputable abbrev FW:List (Addr×Addr):=[(119,115),(124,122)]
noncomputable abbrev FX:List (Addr×Pos×Str):=[(115,gY jC,"lifted.<locals>.moved"),(122,gY kV,"put_in.<locals>.taken")]
theorem aR8q{l:PySem.W.OpenLaw}{w:bM}{K:a8}{h:bx}{mg:Str->Option Value}{fa  : Addr}(X:K.In h)(G:h.Ns et mg)(aco:mg "law"=some (.ref fa))
 (Ag:DT K "walked" E9) (iY:DT K "is_over" E3) (w7:DT K "path_of" EL) (acp:DT K "is_answer" Fb) (BM:DT K "pairs_and_leaves" E_) (BN:DT K "inner_of_pair" As) (acq:DT K "inner" Ei) (acr:DT K "open_names" EA) (acs:DT K "names_in" Eo) (act:DT K "ways_below" Ek) (acu:DTc K "lifted" Ai 119) (acv:DTc K "put_in" An 124) (acw:DT K "copies_for" EB) (acx:DT K "with_names" Em) (acy:DT K "at_place" EM) (acz:DT K "replaced" EU) (acA:DT K "with_inner" ET) (acB:DT K "can_go" EN) (acC:DT K "has_rule" Ej) (acD:DT K "behind" EZ) (acE:DT K "comes_of" EW) (acF:DT K "next_use" Fg) (acG:DT K "first_unanswered" ER) (acH:DT K "place_in_use" EP) (acI:DT K "inner_in_use" EO) (acJ:DT K "run_through" Fc) (acK:DT K "is_great" E4) (acL:DT K "with_paths" Eh) (acM:DT K "is_data" Fn) (acN:DT K "roads" Ep) (acO:DT K "road_of" Fk) (acP:DT K "costs" Fy) (acQ:DT K "data_and_costs" Fq) (acR:DT K "rules_by_road" Fo) (acS:DT K "costs_along" Fp) (acT:DT K "_law_feed" Ef) (acU:DT K "_law_take" Ed) (acV:DT K "_law_whole" Eg) (acW:DT K "_law_same" Es) (acX:DT K "_law_roads" Eu) (acY:DT K "_law_tree" Ew) (acZ:DT K "_law_wrapped" FA) (ac0:DT K "_law_dressed" FC) (ac1:DT K "_law_numbers" FE) (ac2:DT K "_law_cost" FI) (ac3:DT K "_law_often" FJ) (ac4:DT K "_law_long" FK) (ac5:DT K "_law_told" FL) (ac6:DT K "_law_told_long" FO) (ac7:DT K "law" uh) (l3:gk K et "len"=some none) (cW:gk K et "isinstance"=some none) (c7:gk K et "range"=some none) (eZ:gk K et "int"=some none) (gD:gk K et "bool"=some none) (zJ:gk K et "str"=some none) (ac8:gk K et "tuple"=some none) (ac9:gk K et "list"=some none) (ada:gk K et "zip"=some none) (adb:gk K et "sorted"=some none) (adc:gk K et "set"=some none) (ade:gk K et "all"=some none) (adf:gk K et "reversed"=some none) (adg:gk K et "min"=some none) (adh:gk K et "dict"=some none)
 {cj:Tok} (tp0:gk K et "MOST_PARTS"=some (some (.int 3000 cj)))
 {cD:Tok} (td0:gk K et "MOST_DEEP"=some (some (.int 100 cD)))
 {eJ:Tok} (tr0:gk K et "MOST_RULES"=some (some (.int 400 eJ)))
 {ad:Addr} {aP:Array Value} {nn:Nat} (t0:gk K et "ROAD_WORDS"=some (some (.ref ad)))
 (t1:K.lookup ad=some ⟨.type "tuple",none,.seq aP nn,#[]⟩)
 (t2:uD aP.size 1000=true)
 (t3:Vals [V.str "first",V.str "second"] aP.toList)
 : ∃ fd:gM,(∀(s:ay)(v:Value),sg s fd ⟨[v],[]⟩ [("_law_script",v)])/\∀ base:bx,K.In base->base.Ns et mg->(∀ q∈FW,PySem.W.CodeHd base q.1 q.2)->l4 mg base->cN l.prog w K mg base cG 130 fa fd ["_law_script"] ((λ K=>aX K (wp FX)) K):=by
 obtain⟨f0,_,adi,FY⟩:=Ag.ok;have adj:=FY.binds (ps:=ML) λ _ _ _ _ _ _=>jd λ _ _=>rfl;have adk:=dj X G adi;have adl:=FY.b8;obtain⟨f1,_,adn,FZ⟩:=iY.ok;have ado:=FZ.binds (ps:=MN) λ _ _ _ _ _ _=>MK λ _ _ _ _=>rfl;have adp:=dj X G adn;have adq:=FZ.b8;obtain⟨f2,_,adr,F0⟩:=w7.ok;have ads:=F0.binds (ps:=MO) λ _ _ _ _ _ _=>gJ λ _=>rfl;have adt:=dj X G adr;have adu:=F0.b8;obtain⟨dD,_,adv,F1⟩:=acp.ok;have adw:=F1.binds (ps:=MP) λ _ _ _ _ _ _=>gJ λ _=>rfl;have adx:=dj X G adv;have ady:=F1.b8;obtain⟨f4,_,adz,F2⟩:=BM.ok;have adA:=F2.binds (ps:=MR) λ _ _ _ _ _ _=>gJ λ _=>rfl;have adB:=dj X G adz;have adC:=F2.b8;obtain⟨eD,_,adD,AD⟩:=BN.ok;have N_:=AD.binds (ps:=Ec) λ _ _ _ _ _ _=>gJ λ _=>rfl;have t4:=dj X G adD;have Oa:=AD.b8;obtain⟨Ma,_,adE,F3⟩:=acq.ok;have adF:=F3.binds (ps:=MS) λ _ _ _ _ _ _=>gJ λ _=>rfl;have E8:=dj X G adE;have adG:=F3.b8;obtain⟨AC,_,adH,F4⟩:=acr.ok;have adI:=F4.binds (ps:=MT) λ _ _ _ _ _ _=>gJ λ _=>rfl;have adJ:=dj X G adH;have adK:=F4.b8;obtain⟨f8,_,adL,F5⟩:=acs.ok;have adM:=F5.binds (ps:=MU) λ _ _ _ _ _ _=>gJ λ _=>rfl;have adN:=dj X G adL;have adO:=F5.b8;obtain⟨ahl,_,adP,F6⟩:=act.ok;have adQ:=F6.binds (ps:=MV) λ _ _ _ _ _ _=>jd λ _ _=>rfl;have adR:=dj X G adP;have adS:=F6.b8;obtain⟨ahm,_,adT,Ob,Oc⟩:=acu.ok;have adU:=(Ob.fun Oc).binds (ps:=MW) λ _ _ _ _ _ _=>qs λ _ _ _=>rfl;have adV:=dj X G adT;obtain⟨ahn,_,adW,Od,Oe⟩:=acv.ok;have adX:=(Od.fun Oe).binds (ps:=MX) λ _ _ _ _ _ _=>jd λ _ _=>rfl;have adY:=dj X G adW;obtain⟨aho,_,adZ,F7⟩:=acw.ok;have ad0:=F7.binds (ps:=MY) λ _ _ _ _ _ _=>jd λ _ _=>rfl;have ad1:=dj X G adZ;have ad2:=F7.b8;obtain⟨ahp,_,ad3,F8⟩:=acx.ok;have ad4:=F8.binds (ps:=MZ) λ _ _ _ _ _ _=>jd λ _ _=>rfl;have ad5:=dj X G ad3;have ad6:=F8.b8;obtain⟨ahq,_,ad7,F9⟩:=acy.ok;have ad8:=F9.binds (ps:=M0) λ _ _ _ _ _ _=>jd λ _ _=>rfl;have ad9:=dj X G ad7;have aea:=F9.b8;obtain⟨ahr,_,aeb,F_⟩:=acz.ok;have aec:=F_.binds (ps:=M1) λ _ _ _ _ _ _=>qs λ _ _ _=>rfl;have aed:=dj X G aeb;have aee:=F_.b8;obtain⟨ahs,_,aef,Ga⟩:=acA.ok;have aeg:=Ga.binds (ps:=M3) λ _ _ _ _ _ _=>qs λ _ _ _=>rfl;have aeh:=dj X G aef;have aei:=Ga.b8;obtain⟨aht,_,aej,Gb⟩:=acB.ok;have aek:=Gb.binds (ps:=M4) λ _ _ _ _ _ _=>jd λ _ _=>rfl;have ael:=dj X G aej;have aem:=Gb.b8;obtain⟨ahu,_,aen,Gc⟩:=acC.ok;have aeo:=Gc.binds (ps:=M5) λ _ _ _ _ _ _=>gJ λ _=>rfl;have aep:=dj X G aen;have aeq:=Gc.b8
 obtain⟨ahv,_,aer,Gd⟩:=acD.ok;have aes:=Gd.binds (ps:=M6) λ _ _ _ _ _ _=>jd λ _ _=>rfl;have aet:=dj X G aer;have aeu:=Gd.b8;obtain⟨ahw,_,aev,Ge⟩:=acE.ok;have aew:=Ge.binds (ps:=M7) λ _ _ _ _ _ _=>gJ λ _=>rfl;have aex:=dj X G aev;have aey:=Ge.b8;obtain⟨ahx,_,aez,Gf⟩:=acF.ok;have aeA:=Gf.binds (ps:=M8) λ _ _ _ _ _ _=>gJ λ _=>rfl;have aeB:=dj X G aez;have aeC:=Gf.b8;obtain⟨ahy,_,aeD,Gg⟩:=acG.ok;have aeE:=Gg.binds (ps:=M9) λ _ _ _ _ _ _=>gJ λ _=>rfl;have aeF:=dj X G aeD;have aeG:=Gg.b8;obtain⟨ahz,_,aeH,Gh⟩:=acH.ok;have aeI:=Gh.binds (ps:=M_) λ _ _ _ _ _ _=>gJ λ _=>rfl;have aeJ:=dj X G aeH;have aeK:=Gh.b8;obtain⟨ahA,_,aeL,Gi⟩:=acI.ok;have aeM:=Gi.binds (ps:=Na) λ _ _ _ _ _ _=>gJ λ _=>rfl;have aeN:=dj X G aeL;have aeO:=Gi.b8;obtain⟨ahB,_,aeP,Gj⟩:=acJ.ok;have aeQ:=Gj.binds (ps:=Nb) λ _ _ _ _ _ _=>jd λ _ _=>rfl;have aeR:=dj X G aeP;have aeS:=Gj.b8;obtain⟨ahC,_,aeT,Gk⟩:=acK.ok;have aeU:=Gk.binds (ps:=Nc) λ _ _ _ _ _ _=>gJ λ _=>rfl;have aeV:=dj X G aeT;have aeW:=Gk.b8;obtain⟨ahD,_,aeX,Gl⟩:=acL.ok;have aeY:=Gl.binds (ps:=MM) λ _ _ _ _ _ _=>jd λ _ _=>rfl;have aeZ:=dj X G aeX;have ae0:=Gl.b8;obtain⟨ahE,_,ae1,Gm⟩:=acM.ok;have ae2:=Gm.binds (ps:=MQ) λ _ _ _ _ _ _=>gJ λ _=>rfl;have ae3:=dj X G ae1;have ae4:=Gm.b8;obtain⟨ahF,_,ae5,Gn⟩:=acN.ok;have ae6:=Gn.binds (ps:=Nd) λ _ _ _ _ _ _=>gJ λ _=>rfl;have ae7:=dj X G ae5;have ae8:=Gn.b8;obtain⟨ahG,_,ae9,Gp⟩:=acO.ok;have afa:=Gp.binds (ps:=Nf) λ _ _ _ _ _ _=>gJ λ _=>rfl;have afb:=dj X G ae9;have afc:=Gp.b8;obtain⟨ahH,_,afd,Gq⟩:=acP.ok;have afe:=Gq.binds (ps:=Ng) λ _ _ _ _ _ _=>gJ λ _=>rfl;have aff:=dj X G afd;have afg:=Gq.b8;obtain⟨ahI,_,afh,Gr⟩:=acQ.ok;have afi:=Gr.binds (ps:=Nh) λ _ _ _ _ _ _=>gJ λ _=>rfl;have afj:=dj X G afh;have afk:=Gr.b8;obtain⟨ahJ,_,afl,Gs⟩:=acR.ok;have afm:=Gs.binds (ps:=Ni) λ _ _ _ _ _ _=>gJ λ _=>rfl;have afn:=dj X G afl;have afo:=Gs.b8;obtain⟨ahK,_,afp,Gu⟩:=acS.ok;have afq:=Gu.binds (ps:=Nj) λ _ _ _ _ _ _=>jd λ _ _=>rfl;have afr:=dj X G afp;have afs:=Gu.b8;obtain⟨ahL,_,aft,Gv⟩:=acT.ok;have afu:=Gv.binds (ps:=Nk) λ _ _ _ _ _ _=>jd λ _ _=>rfl;have afv:=dj X G aft;have afw:=Gv.b8;obtain⟨ahM,_,afx,Gw⟩:=acU.ok;have afy:=Gw.binds (ps:=Nl) λ _ _ _ _ _ _=>jd λ _ _=>rfl;have afz:=dj X G afx;have afA:=Gw.b8;obtain⟨ahN,_,afB,Gx⟩:=acV.ok;have afC:=Gx.binds (ps:=Nm) λ _ _ _ _ _ _=>gJ λ _=>rfl;have afD:=dj X G afB;have afE:=Gx.b8;obtain⟨Og,_,afF,Gy⟩:=acW.ok;have Oh:=Gy.binds (ps:=Nn) λ _ _ _ _ _ _=>jd λ _ _=>rfl;have Oi:=dj X G afF
 have Oj:=Gy.b8;obtain⟨Ol,_,afG,Gz⟩:=acX.ok;have Om:=Gz.binds (ps:=No) λ _ _ _ _ _ _=>gJ λ _=>rfl;have On:=dj X G afG;have Oo:=Gz.b8;obtain⟨Op,_,afH,GA⟩:=acY.ok;have Oq:=GA.binds (ps:=Np) λ _ _ _ _ _ _=>qs λ _ _ _=>rfl;have Os:=dj X G afH;have Ot:=GA.b8;obtain⟨ahO,_,afI,GB⟩:=acZ.ok;have afJ:=GB.binds (ps:=Nq) λ _ _ _ _ _ _=>qs λ _ _ _=>rfl;have afK:=dj X G afI;have afL:=GB.b8;obtain⟨Ou,_,afM,GC⟩:=ac0.ok;have Ov:=GC.binds (ps:=Nr) λ _ _ _ _ _ _=>MK λ _ _ _ _=>rfl;have Ow:=dj X G afM;have Ox:=GC.b8;obtain⟨ahP,_,afN,GD⟩:=ac1.ok;have afO:=GD.binds (ps:=Nt) λ _ _ _ _ _ _=>qs λ _ _ _=>rfl;have afP:=dj X G afN;have afQ:=GD.b8;obtain⟨ahQ,_,afR,GF⟩:=ac2.ok;have afS:=GF.binds (ps:=Nu) λ _ _ _ _ _ _=>jd λ _ _=>rfl;have afT:=dj X G afR;have afU:=GF.b8;obtain⟨ahR,_,afV,GG⟩:=ac3.ok;have afW:=GG.binds (ps:=Nv) λ _ _ _ _ _ _=>qs λ _ _ _=>rfl;have afX:=dj X G afV;have afY:=GG.b8;obtain⟨ahS,_,afZ,GH⟩:=ac4.ok;have af0:=GH.binds (ps:=Nw) λ _ _ _ _ _ _=>jd λ _ _=>rfl;have af1:=dj X G afZ;have af2:=GH.b8;obtain⟨ahT,_,af3,GI⟩:=ac5.ok;have af4:=GI.binds (ps:=Nx) λ _ _ _ _ _ _=>qs λ _ _ _=>rfl;have af5:=dj X G af3;have af6:=GI.b8;obtain⟨ahU,_,af7,GJ⟩:=ac6.ok;have af8:=GJ.binds (ps:=Ny) λ _ _ _ _ _ _=>gJ λ _=>rfl;have af9:=dj X G af7;have aga:=GJ.b8
 have B:gh mg:=⟨jm X G l3,jm X G cW,jm X G c7,jm X G eZ,jm X G gD,jm X G zJ,jm X G ac8,jm X G ac9,jm X G ada,jm X G adb,jm X G adc,jm X G ade,jm X G adf,jm X G adg,jm X G adh⟩
 obtain⟨ahV,_,agb,Oy⟩:=ac7.ok;cases aco.symm.trans (dj X G agb);obtain⟨_,_,dd,agc,pm,an,cd,ct,_,rfl,ahW,ahX⟩:=Oy.ex;refine⟨lH "law" "law" (kx uh) (g9 uh) (b9 uh) .none dd agc pm an cd ct,λ s v=>.of_eq rfl,λ base _ _ Oz fk=>?_⟩;have E6:=dj X G tp0;have E7:=dj X G td0
 have g0:Got l.prog w K mg base 1 "inner" MS (aX K (ik Tm.enc Tm.bb)):=⟨_,_,aaG F3,E8,adG,adF⟩
 have tV:Got l.prog w K mg base 1 "ways_below" MV (aX K zM):=⟨_,_,aaJ F6,adR,adS,adQ⟩
 have t6:Got l.prog w K mg base 2 "names_in" MU (aX K zN):=⟨_,_,aaT B g0 tV F5,adN,adO,adM⟩
 have tU:Got l.prog w K mg base 3 "with_names" MZ (aX K (zO l.prog w K mg base 1)):=⟨_,_,aaN B g0 tV F8,ad5,ad6,ad4⟩
 have ED:Got l.prog w K mg base 4 "lifted" MW (aX K (CT 115 (gY jC))):=⟨_,_,aaM (Oz (119,115) (dP ..)) fk tU Ob,adV,Oc,adU⟩
 have EC:Got l.prog w K mg base 3 "open_names" MT (aX K C0):=⟨_,_,aa4 B t6 F4,adJ,adK,adI⟩
 have EK:Got l.prog w K mg base 5 "copies_for" MY (aX K (Dj 115 (gY jC))):=⟨_,_,aa5 B EC ED F7,ad1,ad2,ad0⟩
 have EY:Got l.prog w K mg base 6 "put_in" MX (aX K (Dk 115 (gY jC) 122 (gY kV))):=⟨_,_,abe (Oz (124,122) (eE _ (dP ..))) fk B t6 EK tU Od,adY,Oe,adX⟩
 have t7:Got l.prog w K mg base 2 "at_place" M0 (aX K zC):=⟨_,_,abi B g0 F9,ad9,aea,ad8⟩
 have t8:Got l.prog w K mg base 1 "has_rule" M5 (aX K (zB Tm.e2)):=⟨_,_,aaH Gc,aep,aeq,aeo⟩
 have E0:Got l.prog w K mg base 3 "can_go" M4 (aX K CK):=⟨_,_,abj t7 t8 Gb,ael,aem,aek⟩
 have EV:Got l.prog w K mg base 2 "with_inner" M3 (aX K Dn):=⟨_,_,abo g0 Ga,aeh,aei,aeg⟩
 have E2:Got l.prog w K mg base 3 "replaced" M1 (aX K Do):=⟨_,_,abp B g0 EV F_,aed,aee,aec⟩
 have E1:Got l.prog w K mg base 7 "comes_of" M7 (aX K (Dm 115 (gY jC) 122 (gY kV))):=⟨_,_,abq EY Ge,aex,aey,aew⟩
 have Fd:Got l.prog w K mg base 8 "behind" M6 (aX K (Dp 115 (gY jC) 122 (gY kV))):=⟨_,_,abt E0 t7 E1 E2 Gd,aet,aeu,aes⟩
 have E5:Got l.prog w K mg base 2 "is_over" MN (aX K (Dq l.prog w K mg base 1)):=⟨_,_,abu FZ,adp,adq,ado⟩
 have Fe:Got l.prog w K mg base 3 "is_great" Nc (aX K Dr):=⟨_,_,abw g0 E5 E6 E7 Gk,aeV,aeW,aeU⟩
 have Fa:Got l.prog w K mg base 2 "walked" ML (aX K (Ds l.prog w K mg base 1)):=⟨_,_,abx B FY,adk,adl,adj⟩
 have w4:Got l.prog w K mg base 1 "inner_of_pair" Ec (aX K (ik Tm.enc Tm.tJ)):=⟨_,_,abJ AD,t4,Oa,N_⟩
 have t9:Got l.prog w K mg base 3 "pairs_and_leaves" MR (aX K z2):=⟨_,_,abz w4 Fa F2,adB,adC,adA⟩
 have Ff:Got l.prog w K mg base 4 "is_answer" MP (aX K Du):=⟨_,_,abB B t9 F1,adx,ady,adw⟩
 have ES:Got l.prog w K mg base 1 "path_of" MO (aX K zG):=⟨_,_,abh B F0,adt,adu,ads⟩
 have Fi:Got l.prog w K mg base 2 "first_unanswered" M9 (aX K CN):=⟨_,_,abn ES Gg,aeF,aeG,aeE⟩
 have EQ:Got l.prog w K mg base 1 "inner_in_use" Na (aX K CL):=⟨_,_,abl Gi,aeN,aeO,aeM⟩
 have Fj:Got l.prog w K mg base 2 "place_in_use" M_ (aX K CM):=⟨_,_,abm B t8 EQ g0 Gh,aeJ,aeK,aeI⟩
 have Ar:Got l.prog w K mg base 3 "next_use" M8 (aX K Dl):=⟨_,_,abI Fi Fj Gf,aeB,aeC,aeA⟩
 have Ft:Got l.prog w K mg base 9 "run_through" Nb (aX K (Dv 115 (gY jC) 122 (gY kV))):=⟨_,_,abC B Ar Fd Fe Ff Gj,aeR,aeS,aeQ⟩
 have Fs:=dj X G tr0;have Fl:=dj X G t0
 have Fm:zz K ad ["first","second"]:=⟨⟨_,aP,nn,t1,rfl,rfl,rfl,y8 t2,t3⟩⟩
 have agd:Got l.prog w K mg base 1 "inner_of_pair" Ec (aX K (ik aR.enc aR.bb)):=⟨_,_,abK AD,t4,Oa,N_⟩
 have Er:Got l.prog w K mg base 2 "with_paths" MM (aX K (CE l.prog w K mg base 1)):=⟨_,_,aaE B Gl,aeZ,ae0,aeY⟩
 have Fu:Got l.prog w K mg base 4 "is_data" MQ (aX K D4):=⟨_,_,abP B t9 Gm,ae3,ae4,ae2⟩
 have tZ:Got l.prog w K mg base 1 "road_of" Nf (aX K zD):=⟨_,_,abM B Fl Fm Gp,afb,afc,afa⟩
 have Fv:Got l.prog w K mg base 3 "roads" Nd (aX K (oz 1000)):=⟨_,_,aaV Er agd tZ Gn,ae7,ae8,ae6⟩
 have Fw:Got l.prog w K mg base 2 "rules_by_road" Ni (aX K D5):=⟨_,_,abQ tZ Gs,afn,afo,afm⟩
 have Fx:Got l.prog w K mg base 1 "costs_along" Nj (aX K D6):=⟨_,_,abR B Gu,afr,afs,afq⟩
 have Fz:Got l.prog w K mg base 10 "data_and_costs" Nh (aX K (tR 115 (gY jC) 122 (gY kV) true)):=⟨_,_,abY Fs Ft Fu Fv Fw Fx Gr,afj,afk,afi⟩
 have FN:Got l.prog w K mg base 11 "costs" Ng (aX K (tR 115 (gY jC) 122 (gY kV) false)):=⟨_,_,ab0 Fz Gq,aff,afg,afe⟩
 have xr:Got l.prog w K mg base 1 "_law_feed" Nk (aX K wc):=⟨_,_,aaB B Gv,afv,afw,afu⟩
 have e9:Got l.prog w K mg base 1 "_law_take" Nl (aX K ls):=⟨_,_,aaA Gw,afz,afA,afy⟩
 have Ey:Got l.prog w K mg base 2 "_law_whole" Nm (aX K tx):=⟨_,_,aaD e9 Gx,afD,afE,afC⟩
 have g_same:∀ n:Nat,Got l.prog w K mg base (n+1) "_law_same" Nn (aX K (we n)):=λ n=>by
  induction n with
  |zero=>exact⟨Og,_,aaW,Oi,Oj,Oh⟩
  |succ n bG=>exact⟨Og,_,aaX B bG Gy,Oi,Oj,Oh⟩
 have qv:∀ n:Nat,Got l.prog w K mg base (n+1) "_law_roads" No (aX K (oz n)):=λ n=>by
  induction n with
  |zero=>exact⟨Ol,_,aaY,On,Oo,Om⟩
  |succ n bG=>exact⟨Ol,_,aaZ B bG Gz,On,Oo,Om⟩
 have t5:∀ n:Nat,Got l.prog w K mg base (n+2) "_law_tree" Np (aX K (wf n)):=λ n=>by
  induction n with
  |zero=>exact⟨Op,_,aa1,Os,Ot,Oq⟩
  |succ n bG=>exact⟨Op,_,aa2 e9 Ey bG GA,Os,Ot,Oq⟩
 have FD:Got l.prog w K mg base 2 "_law_wrapped" Nq (aX K D7):=⟨_,_,ab1 e9 GB,afK,afL,afJ⟩
 have ub:∀ n:Nat,Got l.prog w K mg base (n+3) "_law_dressed" Nr (aX K (w2 n)):=λ n=>by
  induction n with
  |zero=>exact⟨Ou,_,ab2,Ow,Ox,Ov⟩
  |succ n bG=>exact⟨Ou,_,ab3 B FD bG GC,Ow,Ox,Ov⟩
 have FQ:Got l.prog w K mg base 32 "_law_numbers" Nt (aX K D8):=⟨_,_,ab6 B e9 (qv 30) GD,afP,afQ,afO⟩
 have FR:Got l.prog w K mg base 1 "_law_cost" Nu (aX K D9):=⟨_,_,ab9 B GF,afT,afU,afS⟩
 have xp:Got l.prog w K mg base 2 "_law_often" Nv (aX K D_):=⟨_,_,acd B e9 GG,afX,afY,afW⟩
 have FP:Got l.prog w K mg base 3 "_law_long" Nw (aX K Ea):=⟨_,_,ace e9 xp GH,af1,af2,af0⟩
 have ud:Got l.prog w K mg base 42 "_law_told" Nx (aX K (Af 115 (gY jC) 122 (gY kV))):=⟨_,_,acf B FN (g_same 40) GI,af5,af6,af4⟩
 have FS:Got l.prog w K mg base 43 "_law_told_long" Ny (aX K (Eb 115 (gY jC) 122 (gY kV))):=⟨_,_,acg e9 FP ud GJ,af9,aga,af8⟩
 exact aci B xr e9 (t5 20) FQ (ub 30) (qv 30) FR ud FS Oy
theorem walk{l:PySem.W.OpenLaw}{q:bZ}{loose:List Str}{sU:(Str->Option Value)->bx->Prop}{m2:bM->bx->Prop}{d:DefRec}{K:Params->a8}(bc:l.most=some 63)(u8:d.params.defaults=[])
 (mi:∀(w:bM)(h:bx),m2 w h->(K w.params).In h) (eu:∀ w:bM,PySem.W.noTabs (K w.params)=true) (CV:∀(w:bM)(h:bx),m2 w h->PySem.W.TabsAt FW h)
 (F:∀(w:bM)(mg:Str->Option Value)(fa:Addr)(h:bx),(K w.params).In h->h.Ns et mg->mg d.name=some (.ref fa) →
  ∃ fd:gM,(∀(s:ay)(u:Value),sg s fd ⟨[u],[]⟩ [("_law_script",u)])/\∀ base:bx,(K w.params).In base->base.Ns et mg->(∀ q∈FW,PySem.W.CodeHd base q.1 q.2)->l4 mg base->cN l.prog w (K w.params) mg base cG 130 fa fd ["_law_script"] ((λ K=>aX K (wp FX)) (K w.params))) :
 PySem.W.WalkO q loose sU m2 l.row.toRowW d [] (λ f ae=>PySem.call f ae):=
 L2.Wx (n:=63) (k:=130) (x:="_law_script") (sp:=λ K=>(λ K=>aX K (wp FX)) K) bc (by decide) u8 ⟨rfl,by decide,by decide,rfl⟩ mi eu CV F λ _ _ _ _ aH vx c3=>Wz rfl (by decide) aH vx c3
end KB
def PySem.W.Fast.tw3457355852026043049:=0
def PySem.W.Fast.tw14748098263118326311:=0
def PySem.W.Fast.tw12990359174309424514:=0
def PySem.W.Fast.tw15608652963671801634:=0
def PySem.W.Fast.tw8930160164233999882:=0
def PySem.W.Fast.tw6496644049487925611:=0
def PySem.W.Fast.tw16055155517048205226:=0
def PySem.W.Fast.tw5343860280759447396:=0
def PySem.W.Fast.tw8297556005202350769:=0
def PySem.W.Fast.tw7434986666215469167:=0
def PySem.W.Fast.tw5875113865245234354:=0
def PySem.W.Fast.tw15196157212652520525:=0
def PySem.W.Fast.tw16038601619070767662:=0
def PySem.W.Fast.tw9847952247287644423:=0
def PySem.W.Fast.tw18224448503891039718:=0
def PySem.W.Fast.tw7022802935976145698:=0
def PySem.W.Fast.tw15135769631325437024:=0
def PySem.W.Fast.tw7969213981913525655:=0
def PySem.W.Fast.tw9601794833838161132:=0
def PySem.W.Fast.tw12518616880590033175:=0
def PySem.W.Fast.tw9205853803889605424:=0
def PySem.W.Fast.tw1023729227201428171:=0
def PySem.W.Fast.tw7934681744566396594:=0
def PySem.W.Fast.tw14507234448962867079:=0
def PySem.W.Fast.tw1884932130529640989:=0
def PySem.W.Fast.tw3320039682841856978:=0
def PySem.W.Fast.tw889211560673190066:=0
def PySem.W.Fast.tw17792197737135219746:=0
def PySem.W.Fast.tw17760226210172990495:=0
def PySem.W.Fast.tw636542623942800058:=0
def PySem.W.Fast.tw3572411840265719257:=0
def PySem.W.Fast.tw16660988111173798823:=0
def PySem.W.Fast.tw3992192237404952273:=0
def PySem.W.Fast.tw4966724167592466800:=0
def PySem.W.Fast.tw12511025031169898613:=0
def PySem.W.Fast.tw13288197705795674414:=0
def PySem.W.Fast.tw15361896302140692434:=0
def PySem.W.Fast.tw16169656694266309561:=0
def PySem.W.Fast.tw4531528504836645101:=0
def PySem.W.Fast.tw8407037131158583057:=0
def PySem.W.Fast.tw10734401927090571896:=0
def PySem.W.Fast.tw14275049244452004347:=0
def PySem.W.Fast.tw5373231479278523361:=0
def PySem.W.Fast.tw12250483515406724699:=0
def PySem.W.Fast.tw16412030855729972816:=0
def PySem.W.Fast.tw16961475979582787660:=0
def PySem.W.Fast.tw10941809186342728370:=0
def PySem.W.Fast.tw8541295212774125532:=0
def PySem.W.Fast.tw9862688655072084370:=0
def PySem.W.Fast.tw15826012398191470296:=0
def PySem.W.Fast.tw6718278030585481548:=0
def PySem.W.Fast.tw4075591985258610601:=0
def PySem.W.Fast.tw2992205400725040707:=0
def PySem.W.Fast.tw5539303776372320581:=0
def PySem.W.Fast.tw3107209304641705909:=0
def PySem.W.Fast.tw6604625813808413708:=0
def PySem.W.Fast.tw6590722385905773838:=0
def PySem.W.Fast.tw9836395009220942800:=0
def PySem.W.Fast.tw13502511651033073227:=0
def PySem.W.Fast.tw6821211583644169036:=0
def PySem.W.Fast.tw12655108126610794172:=0
def PySem.W.Fast.tw14196744370638629003:=0
def PySem.W.Fast.tw7011813257589613637:=0
def PySem.W.Fast.tw16791350591082132721:=0
def PySem.W.Fast.tw432407761236583754:=0
def PySem.W.Fast.tw15925454862932461701:=0
def PySem.W.Fast.tw127984053202680486:=0
def PySem.W.Fast.tw13255029107338120230:=0
def PySem.W.Fast.tw1403761121217758586:=0
def PySem.W.Fast.tw12625897904220013357:=0
def PySem.W.Fast.tw2285122609752027148:=0
def PySem.W.Fast.tw16662428916195418996:=0
def PySem.W.Fast.tw7797007982909478376:=0
def PySem.W.Fast.tw15826655066316057503:=0
def PySem.W.Fast.tw10417962239377840959:=0
def PySem.W.Fast.tw11560107449197809285:=0
def PySem.W.Fast.tw679681559277314894:=0
def PySem.W.Fast.tw16606035888300576392:=0
def PySem.W.Fast.tw5055534376969951160:=0
def PySem.W.Fast.tw17684170349895688481:=0
def PySem.W.Fast.tw5880461397305863782:=0
def PySem.W.Fast.tw8756741142702908607:=0
def PySem.W.Fast.tw8399774421630395328:=0
def PySem.W.Fast.tw9408354830713067885:=0
def PySem.W.Fast.tw15505467205434871483:=0
def PySem.W.Fast.tw2416841076226329036:=0
def PySem.W.Fast.tw697603207647184160:=0
def PySem.W.Fast.tw14033888061225883573:=0
def PySem.W.Fast.tw879940704488517942:=0
def PySem.W.Fast.tw15600210541478696037:=0
def PySem.W.Fast.tw14252625732801781228:=0
def PySem.W.Fast.tw17097393287440448713:=0
def PySem.W.Fast.tw13491172505246896319:=0
def PySem.W.Fast.tw17298022122319266283:=0
def PySem.W.Fast.tw10627054523632292964:=0
def PySem.W.Fast.tw6585406969884071484:=0
def PySem.W.Fast.tw16997605887068585624:=0
def PySem.W.Fast.tw11035486848301962064:=0
def PySem.W.Fast.tw10159783147839580471:=0
def PySem.W.Fast.tw2578117575147047976:=0
def PySem.W.Fast.tw6405639869626952223:=0
def PySem.W.Fast.tw4448842597532560727:=0
def PySem.W.Fast.tw6777725491562151322:=0
def PySem.W.Fast.tw3682732680811021559:=0
def PySem.W.Fast.tw4290245234171372636:=0
def PySem.W.Fast.tw13510949552579925496:=0
def PySem.W.Fast.tw4276853070599961521:=0
def PySem.W.Fast.tw7128351150123063963:=0
def PySem.W.Fast.tw10071086981767172972:=0
def PySem.W.Fast.tw4623056922905033160:=0
def PySem.W.Fast.tw12776598513748819779:=0
def PySem.W.Fast.tw8370193416452017275:=0
def PySem.W.Fast.tw4871854134840414157:=0
def PySem.W.Fast.tw9613309890767908138:=0
def PySem.W.Fast.tw4899856857400696795:=0
def PySem.W.Fast.tw4061285842907630476:=0
def PySem.W.Fast.tw1654454844513467078:=0
def PySem.W.Fast.tw9846753131178115008:=0
def PySem.W.Fast.tw11914671420619805058:=0
def PySem.W.Fast.tw10802370919641316922:=0
def PySem.W.Fast.tw3880182466121284927:=0
def PySem.W.Fast.tw17420337340491326548:=0
def PySem.W.Fast.tw12832966457805359599:=0
def PySem.W.Fast.tw6236276891862347430:=0
def PySem.W.Fast.tw7484969457550835291:=0
def PySem.W.Fast.tw4383926881276876307:=0
def PySem.W.Fast.tw169957886704809092:=0
def PySem.W.Fast.tw3669142652788305788:=0
def PySem.W.Fast.tw3616327393567272667:=0
def PySem.W.Fast.tw12121191815591941173:=0
def PySem.W.Fast.tw44507440031566624:=0
def PySem.W.Fast.tw12445628342613966967:=0
def PySem.W.Fast.tw11083403316108391818:=0
def PySem.W.Fast.tw14093085048886732686:=0
def PySem.W.Fast.tw10828598776680789827:=0
def PySem.W.Fast.tw11376624436995735318:=0
def PySem.W.Fast.tw10855795528511042439:=0
def PySem.W.Fast.tw14231008983344594663:=0
def PySem.W.Fast.tw15375448628237929346:=0
def PySem.W.Fast.tw7421054304447316491:=0
def PySem.W.Fast.tw16452389852696317691:=0
def PySem.W.Fast.tw11023670287998641285:=0
def PySem.W.Fast.tw15516157413200816291:=0
def PySem.W.Fast.tw2732941118867435003:=0
def PySem.W.Fast.tw17210981622051199789:=0
def PySem.W.Fast.tw14789307572565556547:=0
def PySem.W.Fast.tw17474754075832792369:=0
def PySem.W.Fast.tw4921785231474157930:=0
def PySem.W.Fast.tw725782860277977074:=0
def PySem.W.Fast.tw15534004829696418214:=0
def PySem.W.Fast.tw8217984212389921997:=0
def PySem.W.Fast.tw5677774050466454694:=0
def PySem.W.Fast.tw1639401434881848279:=0
def PySem.W.Fast.tw15177651367781404604:=0
def PySem.W.Fast.tw10859813254519493508:=0
def PySem.W.Fast.tw16116614523767930969:=0
def PySem.W.Fast.tw15390381652257943626:=0
def PySem.W.Fast.tw18016869738925133116:=0
def PySem.W.Fast.tw5811557006291876051:=0
def PySem.W.Fast.tw18342581356359449906:=0
def PySem.W.Fast.tw7739390231556396016:=0
def PySem.W.Fast.tw8480790536159219346:=0
def PySem.W.Fast.tw9020575734302066703:=0
def PySem.W.Fast.tw8275372897989333670:=0
def PySem.W.Fast.tw14837068112553767988:=0
def PySem.W.Fast.tw683380813391952487:=0
def PySem.W.Fast.tw3478299000817893841:=0
def PySem.W.Fast.tw14763367081481258831:=0
def PySem.W.Fast.tw15171948463649262009:=0
def PySem.W.Fast.tw11570435091735322377:=0
def PySem.W.Fast.tw2568157069071099533:=0
def PySem.W.Fast.tw11892455049598539975:=0
def PySem.W.Fast.tw7043878955557574755:=0
def PySem.W.Fast.tw16236299368294822904:=0
def PySem.W.Fast.tw4980220883065926119:=0
def PySem.W.Fast.tw1753486917674871948:=0
def PySem.W.Fast.tw5803202835728213796:=0
def PySem.W.Fast.tw4197332021175738258:=0
def PySem.W.Fast.tw12354312520638524368:=0
def PySem.W.Fast.tw12032189345739286518:=0
def PySem.W.Fast.tw1743159325530466579:=0
def PySem.W.Fast.tw13614282451359411916:=0
def PySem.W.Fast.tw3995044047440242880:=0
def PySem.W.Fast.tw14489580152570001370:=0
def PySem.W.Fast.tw2435678506535381193:=0
def PySem.W.Fast.tw4326948459774288048:=0
def PySem.W.Fast.tw5816032983737661642:=0
def PySem.W.Fast.tw17229443417579797033:=0
def PySem.W.Fast.tw17162784317259186390:=0
def PySem.W.Fast.tw18288082262105401874:=0
def PySem.W.Fast.tw9919326203369949741:=0
def PySem.W.Fast.tw12481870739040926291:=0
def PySem.W.Fast.tw12930417132326678519:=0
def PySem.W.Fast.tw2683682225031668272:=0
def PySem.W.Fast.tw10737673175329404264:=0
def PySem.W.Fast.tw14217173178254346695:=0
def PySem.W.Fast.tw12334966553555814295:=0
def PySem.W.Fast.tw10734125502817508838:=0
def PySem.W.Fast.tw1892719043603787546:=0
def PySem.W.Fast.tw12281483885468361459:=0
open PySem PySem.W PyProof.Rows
set_option maxRecDepth 100000 in
set_option maxHeartbeats 0 in
theorem PySem.Challenge.cw_kindbags_k65_costs_laid_in_holds : PySem.Challenge.rw_kindbags_k65_costs_laid_in.Holds := by
  w_on; o_law; k_head; (case hw => w_witness2)
  k_fill
  refine KB.walk (l := PySem.Challenge.rw_kindbags_k65_costs_laid_in) rfl rfl (fun w h Y => PySem.W.km_in_of Y) (fun w => by kernel_rfl) (fun w h Y => List.forall_mem_cons.mpr ⟨⟨PySem.W.codeHd_of_K (c := 119) (P := 115) (PySem.W.km_in_of Y) (by kernel_rfl), PySem.W.km_tabs_of Y 115 (by k_mem)⟩, List.forall_mem_cons.mpr ⟨⟨PySem.W.codeHd_of_K (c := 124) (P := 122) (PySem.W.km_in_of Y) (by kernel_rfl), PySem.W.km_tabs_of Y 122 (by k_mem)⟩, fun _ h => nomatch h⟩⟩) ?F
  case F =>
    intro w mg fa h KX G hmg
    refine' KB.aR8q KX G hmg ?_ ?_ ?_ ?_ ?_ ?_ ?_ ?_ ?_ ?_ ?_ ?_ ?_ ?_ ?_ ?_ ?_ ?_ ?_ ?_ ?_ ?_ ?_ ?_ ?_ ?_ ?_ ?_ ?_ ?_ ?_ ?_ ?_ ?_ ?_ ?_ ?_ ?_ ?_ ?_ ?_ ?_ ?_ ?_ ?_ ?_ ?_ ?_ ?_ ?_ ?_ ?_ ?_ ?_ ?_ ?_ ?_ ?_ ?_ ?_ ?_ ?_ ?_ ?_ ?_ ?tp0 ?td0 ?tr0 ?t0 ?t1 ?t2 ?t3
    (case tp0 => k_is)
    (case td0 => k_is)
    (case tr0 => k_is)
    (case t0 => k_is)
    (case t1 => k_is)
    (case t2 => rfl)
    (case t3 => exact .cons ⟨_, rfl⟩ (.cons ⟨_, rfl⟩ .nil))
    all_goals first | k_is | (refine' L3.DT.mk ?_ ?_ ?_ ?_ <;> try k_is) | (refine' L3.DM.mk ?_ ?_ ?_ ?_ ?_ <;> try k_is) | (refine' L3.DTc.mk ?_ ?_ ?_ ?_ <;> try k_is) | (refine' L3.DMc.mk ?_ ?_ ?_ ?_ ?_ <;> try k_is) | skip
