import PyProof.Rows.All
import Wide.All
import OpenK.AllK
import Wide.FinOn
import Lean
import PyProof.EqAt
import PyProof.EqKinds
import PyProof.TupleCall
import PySem.Challenge.RW_kindbags_k32_bags_and_books
set_option compiler.extract_closed false
set_option maxHeartbeats 4000000
local macro_rules | `(tactic| omega) => `(tactic| first | decide | lia)
local macro_rules | `(tactic| trivial) => `(tactic| decide +kernel)
open PySem renaming wpAny_bind->ay,Shared->aw,wpAny_pure->bq,wpAny->aT,model->a5,Expr->aY,Program->bX,World->bJ,cLine->bO,mainGlobals->dL,Around->cg,Heap->bF,sizeLine_eq->d_,compareOp->dE,wpAny_newObj_type->gY,Stmt->b_,starEach->ek,foldedSetIterable->iQ,wpAny_call_entry->iR,wpAny_mono->gw,FuncData->fA,wpAny_loadPart'->iS,sysModules->hh,assignEach->hi,binaryOp->gc,wpAny_holding->iT,bootBuiltins->iU,attributeBase->jk,Scope->eE,DictEntry->hy,wpAny_field->iV,rawInt->gd,wpAny_typeNameOfWhole_itemiter->sr,wpAny_typeNameOfWhole_keyiter->su,assign->gI,pyNext->gJ,wpAny_passesOwn->XL,letOwnedTupleGo->mP,behindInMarks->lD,wpAny_attempt->lE,wpAny_dictEntries->oi,swapsWith->jl,NameKind->iW,again->gK,wpAny_Call_Name_kw->pV,wpAny_dictEpoch->XV,wpAny_setField_rec->pW,holding->iX,builtinLookup_eq_fast->sv,firstArgMember->oj,wpAny_setField->om,PlainAttrs->lF,IsItemIter->lG,backTo->iu,wpAny_newList->on,sliceBounds->mQ,wpAny_comprehension_free->vu,standAt->jX,isSubtype_type->pX,wpAny_truthy_bool->sw,wpAny_isOneOf_itemiter->vv,wpAny_standAt->pY,swapsWithSole->pZ,swappedStores->p0,wpAny_isInstance->sx,valueAt->kM,isTrue->jY,wpAny_execs_nil->sy,call_meets->oo,wpAny_specialOf->sz,typeLookup_type->sA,codeAny_builtin->sB,getItem->lH,relabel->lI,wpAny_fieldsOf->sC,tupleKind->oq,PassesOwn->ot,tupleKind_room_in1->vw,wpAny_pyIter_slot->vx,wpAny_rule->p1,codeAny->mR,callerA->Wp,Paired->lJ,pyIter->lK,codeAny_mono->sD,noFill_tuple_add->vy,typeOf->lL,call_meetsIn->sE,setField->ou,wpAny_typeOf->sF,wpAny_Call_method0_late->zn,atKey->kN,subscripted->sG,Slot->jm,wpAny_of_eq->sH,richCompare_meets_room->zo,BindsTo->ov,isSubtype_stop->WF,wpAny_newTuple->vz,wpAny_notOrdered_dict->zp,wpAny_isOneOf_keyiter->zq,CmpOp->lM,bindL->lN,bindC->lO,compTurn->p2,compPost->p3,checkCount->sI,assignInOrder->WP,seq_tuple_add->vA,wpAny_handled->vB,concat_meets->vC,setItem->p4,unaryOp->p5
open PyProof.Rows renaming seqObj->bG,listUpdate_at->lP,size_push'->mS,AllBare->kO,envOfC->jZ,listItems_at->p6,entry_list_sort->W1,IntsAre->lQ,slot_list_sort->sJ,seqEpoch_at->p7,assignInOrder_cons->vD,SortKind->ow,plain_sorted->sK,entry_sorted->sL,IsTup->kP,subscriptTail_builtinR->zr,kind_sorted->sM,call_function_entry_kw->zt,subscriptTail->vE,bubble->ox
open PySem.W renaming kas_rev->mT,kas_ask->oy
open List renaming size_toArray->bN,getElem?_eq_getElem->cN,mem_append_right->dc,mem_cons_self->dk,length_map->dm,mem_cons_of_mem->dM,length_append->dN,mem_map->ea,map_cons->eF,length_cons->eG,mem_cons->fq,getElem?_map->fs,mem_append->fL,range->gf,getElem?_eq_some_iff->gg,getD_eq_getElem?_getD->gL,append_nil->hj,mem_of_getElem?->hA,length->hX,map->iv,flatMap_append->iY,map_append->jn,find?_cons->j0,length_nil->j1,append_assoc->j2,cons_append->j3,take_succ->j4,all_cons->kQ,map_map->kR,mem_range->lR,length_singleton->lS,length_reverse->lT,length_take->mU,getElem?_append_left->mV,any_eq_true->mW,getElem_mem->mX,mem_map_of_mem->mY,take_of_length_le->mZ,nodup_cons->oz,getElem?_append_right->oA,reverse_cons->oB,pairwise_cons->oC,mem_singleton->oD,mem_filter->p8,lookup_cons->p9,any_cons->p_,toArray->qa,length_range->qb,flatMap_cons->qc,not_mem_nil->qd,nodup_nil->qe,take_append_drop->qf,mem_append_left->sN,getElem?_set_ne->sO,replicate->sP,getElem?_replicate->sQ,length_replicate->sR,getElem?_eq_none->sS,drop_eq_getElem_cons->sT,ext_getElem->sU,length_eq_zero_iff->sV,nodup_append->sW,filter_cons_of_pos->sX,take_length->sY
open Nat renaming le_refl->b6,ne_of_lt->dJ,zero_le->fB,lt_of_lt_of_le->fS,le_trans->gZ,lt_succ_of_lt->lU,le_succ->lV,lt_irrefl->m1,lt_or_ge->oE,one_le_pow->oF,ne_of_gt->qg,lt_trans->sZ,ble->s0,le_add_right->s6
open Array renaming length_toList->m2,getElem?_eq_getElem->oG,getElem?_eq_some_iff->qh,getD->s7
open Option renaming some->eH,map_eq_some_iff->hY,isSome_iff_exists->iZ,none->m3,map_some->s8,map_map->s9
open Bool renaming and_eq_true->ZB,false_ne_true->i0,false_eq_true->kT,beq_comm->qi
open PySem.W renaming Frag->a4,nsIn->fC,mg_none_of->gM,kia_one->hZ,fnOf->j5,keepIn->m4,codeIn->qj,kitOne->s_,mg_of->ta
open PyProof.Rows renaming boot_tuple->lW,boot_isinstance->oH,callWith_type1->tb,listItems_at->tc,boot_list->td
open PySem renaming boot_len->j6,mem_of_lookup->m5
open PySem.Heap renaming lt_size->c7,get?_push_of_some->dA,get?_push_size->fc,get?_update_ne->hk,get?_push_ne->oI,size_update->oJ,get?_update_self->te
open Int renaming toNat_natCast->qk
set_option Elab.async false
set_option linter.all false
set_option maxRecDepth 100000
namespace L2
open PySem PySem.Spec PyProof.Rows
noncomputable abbrev Key:=Sum Int Str
noncomputable def oK:Key->Value->Bool
 |.inl k,v=>Value.isInt k v
 |.inr x,v=>Value.isStrOf x v
noncomputable def EC(w:bJ):Key->Int
 |.inl k=>hashInt k
 |.inr x=>hashStr w x
theorem j7:∀{k:Key}{v:Value},oK k v=true->(∃ i t,k=Sum.inl i/\v=Value.int i t)\/(∃ x t,k=Sum.inr x/\v=Value.str x t)
 | .inl i,v,h=>by
  obtain⟨t,e⟩:=Value.isInt_shape (k:=i) (v:=v) h;exact .inl ⟨i,t,rfl,e⟩
 | .inr x,v,h=>by
  obtain⟨t,e⟩:=Value.isStrOf_shape (x:=x) (v:=v) h;exact .inr ⟨x,t,rfl,e⟩
theorem lEq(i:Int)(t:Tok):oK (.inl i) (.int i t)=true:=by simp[oK,Value.isInt]
theorem ED(x:Str)(t:Tok):oK (.inr x) (.str x t)=true:=by simp[oK,Value.isStrOf]
theorem EE(a b:Int):decide ((Sum.inl a:Key)=Sum.inl b)=(a==b):=by
 by_cases e:a=b
 ·subst e;simp
 ·have h:¬ (Sum.inl a:Key)=Sum.inl b:=λ q=>e (Sum.inl.inj q);rw[decide_eq_false h];exact(beq_eq_false_iff_ne.mpr e).symm
theorem EF(a b:Str):decide ((Sum.inr a:Key)=Sum.inr b)=decide (a=b):=by
 by_cases e:a=b
 ·subst e;simp
 ·have h:¬ (Sum.inr a:Key)=Sum.inr b:=λ q=>e (Sum.inr.inj q);rw[decide_eq_false h,decide_eq_false e]
theorem EG(a:Int)(b:Str):decide ((Sum.inl a:Key)=Sum.inr b)=false:=decide_eq_false (λ q=>nomatch q)
theorem EH(a:Str)(b:Int):decide ((Sum.inr a:Key)=Sum.inl b)=false:=decide_eq_false (λ q=>nomatch q)
noncomputable def el(prog:bX)(w:bJ):PySem.KeyKind prog w Key where
 is:=oK
 hash:=EC w
 inj:=λ v a b az af=>by
  rcases j7 az with⟨i,t,rfl,rfl⟩|⟨x,t,rfl,rfl⟩
  ·rcases j7 af with⟨j,u,rfl,e⟩|⟨y,u,rfl,e⟩
   ·injection e with e1 _;rw[e1]
   ·exact nomatch e
  ·rcases j7 af with⟨j,u,rfl,e⟩|⟨y,u,rfl,e⟩
   ·exact nomatch e
   ·injection e with e1 _;rw[e1]
 byValue:=λ k v h=>by
  rcases j7 h with⟨i,t,rfl,rfl⟩|⟨x,t,rfl,rfl⟩<;>rfl
 pyHash:=λ bh h=>by
  rcases j7 bh with⟨i,t,rfl,rfl⟩|⟨x,t,rfl,rfl⟩
  ·exact wpAny_pyHash_int h
  ·exact wpAny_pyHash_str h
 eqBool:=λ bg bh h=>by
  rcases j7 bg with⟨i,t,rfl,rfl⟩|⟨x,t,rfl,rfl⟩
  ·rcases j7 bh with⟨j,u,rfl,rfl⟩|⟨y,u,rfl,rfl⟩
   ·rw[EE]at h;exact wpAny_eqBool_int h
   ·rw[EG]at h;exact SeqAt.EqAt.int_str i t y u _ _ _ _ h
  ·rcases j7 bh with⟨j,u,rfl,rfl⟩|⟨y,u,rfl,rfl⟩
   ·rw[EH]at h;exact SeqAt.EqAt.str_int x t j u _ _ _ _ h
   ·rw[EF]at h;exact wpAny_eqBool_str h
 «strs»:=λ k x t v h=>by
  rcases j7 h with⟨i,u,rfl,e⟩|⟨y,u,rfl,e⟩
  ·exact nomatch e
  ·injection e with e1 _;subst e1;cases v<;>rfl
theorem EI(prog:bX)(w:bJ)(i:Int)(t:Tok):(el prog w).is (.inl i) (.int i t)=true:=lEq i t
theorem EJ(prog:bX)(w:bJ)(x:Str)(t:Tok):(el prog w).is (.inr x) (.str x t)=true:=ED x t
inductive V where
 |bo|aW (b:Bool)|int (i:Int)|str (x:Str)|ql (b:Array UInt8)|oL (b:UInt64)|ref (a:Addr)|ty (n:String)
 deriving DecidableEq
noncomputable def RelV:V->Value->Prop
 |.bo,u=>u=Value.none
 |.aW b,u=>u=Value.bool b
 |.int i,u=>∃ t,u=Value.int i t
 |.str x,u=>∃ t,u=Value.str x t
 |.ql b,u=>∃ t,u=Value.bytes b t
 |.oL b,u=>∃ t,u=Value.float b t
 |.ref a,u=>u=Value.ref a
 |.ty n,u=>u=Value.type n
noncomputable abbrev Vals:List V->List Value->Prop:=lJ RelV
theorem Vals.length{xs:List V}{us:List Value}(r:Vals xs us):xs.length=us.length:=Paired.length r
theorem Vals.get:∀{xs:List V}{us:List Value}{i:Nat}{x:V},Vals xs us->xs[i]?=some x->∃ u,us[i]?=some u/\RelV x u
 |_,_,_,_,.nil,e=>by simp at e
 |_,_,0,_,.cons r _,e=>by simp at e;subst e;exact⟨_,rfl,r⟩
 | _,_,i+1,x,.cons _ t,e=>by
  obtain⟨u,ae,ag⟩:=Vals.get (i:=i) (x:=x) t (by simpa using e);exact⟨u,by simpa using ae,ag⟩
theorem Vals.set{x:V}{u:Value}(r:RelV x u):∀{xs:List V}{us:List Value}(i:Nat),Vals xs us->Vals (xs.set i x) (us.set i u)
 |_,_,_,.nil=>.nil
 |_,_,0,.cons _ t=>.cons r t
 |_,_,i+1,.cons q t=>.cons q (Vals.set r i t)
theorem Vals.append:∀{xs ys:List V}{us ws:List Value},Vals xs us->Vals ys ws->Vals (xs++ys) (us++ws)
 |_,_,_,_,.nil,s=>s
 |_,_,_,_,.cons r t,s=>.cons r (Vals.append t s)
theorem Vals.take:∀{xs:List V}{us:List Value}(n:Nat),Vals xs us->Vals (xs.take n) (us.take n)
 |_,_,0,_=>.nil
 |_,_,_+1,.nil=>.nil
 |_,_,n+1,.cons r t=>.cons r (Vals.take n t)
theorem Vals.drop:∀{xs:List V}{us:List Value}(n:Nat),Vals xs us->Vals (xs.drop n) (us.drop n)
 |_,_,0,r=>r
 |_,_,_+1,.nil=>.nil
 |_,_,n+1,.cons _ t=>Vals.drop n t
noncomputable def iw:Option V->Option Value->Prop
 |some v,some u=>RelV v u
 |none,none=>True
 |_,_=>False
noncomputable def eQ{κ:Type}:List (κ×V)->List (κ×Value)->Prop:=lJ λ(p:κ×V) (q:κ×Value)=>p.1=q.1/\RelV p.2 q.2
noncomputable def cO:Key->V
 |.inl i=>.int i
 |.inr x=>.str x
inductive eR where
 |lst (xs:List V)
 |tup (xs:List V)
 |bf (kvs:List (Key×V))|fM (kvs:List (List Key×V))
 |set (S:Int->Bool) (n:Nat)
 |ins (C eu:Addr) (bl:List (Str×V))
 |own (x:Addr)
 |vF (bl:List (Str×V))
 |met (f x:Addr)
 |vG (lo au:Int)
 |dU (o:Obj) (u:eR)
 |lX (aZ:Array Value)
 |ext (φ:bF->Prop)
noncomputable abbrev am:=Addr->Option eR
noncomputable def upd(H:am)(a:Addr)(o:eR):am:=λ b=>if b=a then some o else H b
theorem fN{H:am}{a:Addr}{o:eR}:upd H a o a=some o:=by unfold upd;rw[if_pos rfl]
theorem cu{H:am}{a b:Addr}{o:eR}(h:b≠a):upd H a o b=H b:=by unfold upd;rw[if_neg h]
theorem EK{H:am}{a b:Addr}{o u:eR}(h:H a=some o)(h':H b=some u)(d:o≠u):a≠b:=by
 intro e;subst e;rw[h]at h';exact d (eH.inj h')
theorem gN{H:am}{a b:Addr}{o:eR}(h:H a=some o)(h':H b=none):a≠b:=by
 intro e;subst e;rw[h]at h';cases h'
section
variable(P:bX)(w:bJ)
noncomputable def dP(H:am)(h:bF)(a:Addr):eR->Prop
 |.lst xs=>xs.length<=sizeLine/\∃(ao:List Value)(n:Nat),Vals xs ao/\h.get? a=some {cls:=.type "list",data:=.seq ao.toArray n}
 |.tup xs=>xs.length<=sizeLine/\∃ ao:List Value,Vals xs ao/\kP h a ao.toArray
 |.bf kvs=>kvs.length<=sizeLine/\(a==hh)=false/\∃ vs,eQ kvs vs/\h.DictOf (el P w) a vs
 | .fM kvs=>kvs.length<=sizeLine/\(a==hh)=false/\∃ xs:List (List Key×Addr×Value),
  lJ (λ(p:List Key×V) (q:List Key×Addr×Value)=>p.1=q.1/\H q.2.1=some (.tup (p.1.map cO))/\RelV p.2 q.2.2) kvs xs ∧
  ∃ o es ep,h.get? a=some o/\o.ExactDict/\o.data=.dict es ep/\es.toList=xs.map (entryOfKey (oq (el P w)))/\(xs.map (·.1)).Nodup
 |.set S n=>h.SetOf (intKind P w) a S n
 | .ins C eu bl=>H eu=some (.own a)/\bl.length<=1000/\eu≠a/\h.get? a=some (PySem.W.instObj C eu) ∧
  ∃ fe,h.Ns1 eu fe/\(∀ f,iw (bl.lookup f) (fe f))/\PySem.Within fe (bl.map (·.1))
 |.own _=>∃ o,h.get? a=some o
 |.vF bl=>∃ fe,h.Ns1 a fe/\∀ f,iw (bl.lookup f) (fe f)
 |.vG lo au=>∃ t u v,h.get? a=some {cls:=.type "range",data:=.fields #[.int lo t,.int au u,.int 1 v]}
 |.dU o u=>h.get? a=some o/\dP H h a u
 |.lX aZ=>h.get? a=some {cls:=.none,data:=.fields aZ}
 |.met f x=>h.get? a=some (PySem.W.methodObj (.ref f) (.ref x))
 |.ext φ=>φ h/\(∃ o,h.get? a=some o)/\∀ ae ag:bF,φ ae->(∀ o,ae.get? a=some o->ag.get? a=some o)->φ ag
noncomputable def d4(H:am)(h:bF):Prop:=∀ a o,H a=some o->dP P w H h a o
end
section
variable{P:bX}{w:bJ}{H ah:am}{h h':bF}{a:Addr}{o:eR}
theorem dP.lt(x:dP P w H h a o):a<h.objs.size:=by
 cases o with
 |lst xs=>obtain⟨_,_,_,_,e⟩:=x;exact c7 e
 |tup xs=>obtain⟨_,_,_,p⟩:=x;exact p.lt
 |bf kvs=>obtain⟨_,_,_,_,o,_,_,e,_⟩:=x;exact c7 e
 |fM kvs=>obtain⟨_,_,_,_,o,_,_,e,_⟩:=x;exact c7 e
 |set S n=>obtain⟨o,_,_,_,e,_⟩:=x;exact c7 e
 |ins C eu bl=>obtain⟨_,_,_,e,_⟩:=x;exact c7 e
 |own y=>obtain⟨_,e⟩:=x;exact c7 e
 |vF bl=>obtain⟨_,⟨_,_,_,e,_⟩,_⟩:=x;exact c7 e
 |vG lo au=>obtain⟨_,_,_,e⟩:=x;exact c7 e
 |dU b5 u=>obtain⟨e,_⟩:=x;exact c7 e
 |lX aZ=>exact c7 (show h.get? a=some _ from x)
 |met f y=>exact c7 (show h.get? a=some _ from x)
 |ext φ=>obtain⟨_,⟨_,e⟩,_⟩:=x;exact c7 e
theorem Paired.vH{α β:Type}{F G:α->β->Prop}:∀{l₁:List α}{l₂:List β},lJ F l₁ l₂->(∀ a b,F a b->G a b)->lJ G l₁ l₂
 |_,_,.nil,_=>.nil
 |_,_,.cons r t,f=>.cons (f _ _ r) (Paired.vH t f)
theorem dP.j8(x:dP P w H h a o)(k:∀ b u,(b=a\/H b=some (.own a))->h.get? b=some u->h'.get? b=some u)
 (aJ:∀ b,H b=some (.own a)->ah b=some (.own a)) (cA:∀ b xs,H b=some (.tup xs)->ah b=some (.tup xs)):dP P w ah h' a o:=by
 induction o with
 |lst xs=>obtain⟨z,ao,n,r,e⟩:=x;exact⟨z,ao,n,r,k _ _ (.inl rfl) e⟩
 |tup xs=>obtain⟨z,ao,r,b5,e,c⟩:=x;exact⟨z,ao,r,b5,k _ _ (.inl rfl) e,c⟩
 |bf kvs=>obtain⟨z,y,vs,r,b5,es,ep,e,c⟩:=x;exact⟨z,y,vs,r,b5,es,ep,k _ _ (.inl rfl) e,c⟩
 | fM kvs=>
  obtain⟨z,y,xs,r,b5,es,ep,e,c⟩:=x;exact⟨z,y,xs,Paired.vH r λ p q z=>⟨z.1,cA _ _ z.2.1,z.2.2⟩,b5,es,ep,k _ _ (.inl rfl) e,c⟩
 |set S n=>obtain⟨b5,es,ep,t,e,c⟩:=x;exact⟨b5,es,ep,t,k _ _ (.inl rfl) e,c⟩
 | ins C eu bl=>
  obtain⟨d,z,ne,e,fe,⟨dF,es,ep,aP,c⟩,r⟩:=x;exact⟨aJ _ d,z,ne,k _ _ (.inl rfl) e,fe,⟨dF,es,ep,k _ _ (.inr d) aP,c⟩,r⟩
 |own y=>obtain⟨b5,e⟩:=x;exact⟨b5,k _ _ (.inl rfl) e⟩
 |vF bl=>obtain⟨fe,⟨dF,es,ep,e,c⟩,r⟩:=x;exact⟨fe,⟨dF,es,ep,k _ _ (.inl rfl) e,c⟩,r⟩
 |vG lo au=>obtain⟨t,u,v,e⟩:=x;exact⟨t,u,v,k _ _ (.inl rfl) e⟩
 |dU b5 u b0=>obtain⟨e,q⟩:=x;exact⟨k _ _ (.inl rfl) e,b0 q⟩
 | lX aZ=>
  have e:h.get? a=some {cls:=.none,data:=.fields aZ}:=x;show h'.get? a=some {cls:=.none,data:=.fields aZ};exact k a _ (.inl rfl) e
 | met f y=>
  have e:h.get? a=some (PySem.W.methodObj (.ref f) (.ref y)):=x;show h'.get? a=some (PySem.W.methodObj (.ref f) (.ref y));exact k a _ (.inl rfl) e
 |ext φ=>obtain⟨p,⟨o,e⟩,st⟩:=x;exact⟨st _ _ p λ o q=>k _ _ (.inl rfl) q,⟨o,k _ _ (.inl rfl) e⟩,st⟩
theorem d4.lt(x:d4 P w H h)(e:H a=some o):a<h.objs.size:=(x a o e).lt
theorem d4.fresh(x:d4 P w H h)(e:h.objs.size<=a):H a=none:=by
 cases q:H a with
 |none=>rfl
 |some u=>exact absurd (fS (x.lt q) e) (m1 _)
theorem d4.kept(x:d4 P w H h)(k:∀ b u,h.get? b=some u->h'.get? b=some u):d4 P w H h':=λ a o e=>
 (x a o e).j8 (λ b u _ q=>k b u q) (λ _ q=>q) λ _ _ q=>q
theorem d4.laid(x:d4 P w H h)(k:∀ b u,h.get? b=some u->h'.get? b=some u)(ai:h.objs.size<=a)(new:dP P w (upd H a o) h' a o):d4 P w (upd H a o) h':=λ b u e=>by
 have aS:=x.fresh ai;by_cases af:b=a
 ·subst af;rw[fN]at e;cases e;exact new
 ·rw[cu af]at e;exact(x b u e).j8 (λ c v _ q=>k c v q) (λ c q=>by rw[cu (gN q aS)];exact q) λ c xs q=>by rw[cu (gN q aS)];exact q
end
noncomputable def eS(H:am)(a:Addr)(u:eR):Prop:=H a=some u\/∃ o,H a=some (.dU o u)
theorem eS.ok{P:bX}{w:bJ}{H:am}{h:bF}{a:Addr}{u:eR}(r:eS H a u)(x:d4 P w H h):dP P w H h a u:=by
 rcases r with r|⟨o,r⟩
 ·exact x a u r
 ·obtain⟨_,q⟩:=x a _ r;exact q
noncomputable def qm:Option eR->Prop
 |some (.lst _)=>True
 |some (.bf _)=>True
 |some (.fM _)=>True
 |some (.set _ _)=>True
 |some (.ins _ _ _)=>True
 |some (.ext _)=>True
 |_=>False
section
variable{P:bX}{w:bJ}{H:am}{h h':bF}{x e:Addr}{df:eR}
theorem d4.write(ok:d4 P w H h)(h1:qm (H x))(he:e=x\/H e=some (.own x))(k:∀ b u,b≠e->h.get? b=some u->h'.get? b=some u)(oM:∃ u,h'.get? e=some u)
 (new:dP P w (upd H x df) h' x df):d4 P w (upd H x df) h':=λ b u q=>by
 have zu:∀ c y,H c=some (.own y)->c≠x:=λ c y r z=>by subst z;rw[r]at h1;exact h1
 have EL:∀ c xs,H c=some (.tup xs)->c≠x:=λ c xs r z=>by subst z;rw[r]at h1;exact h1
 by_cases af:b=x
 ·subst af;rw[fN]at q;cases q;exact new
 ·rw[cu af]at q;by_cases m6:b=e
  ·have fO:H b=some (.own x):=by
    rcases he with z|z
    ·exact absurd (m6.trans z) af
    ·rw[m6];exact z
   rw[q]at fO;cases fO;obtain⟨v,bh⟩:=oM;exact⟨v,by rw[m6];exact bh⟩
  ·refine(ok b u q).j8 (λ c v aA r=>k c v ?_ r) (λ c r=>by rw[cu (zu c b r)];exact r) λ c xs r=>by rw[cu (EL c xs r)];exact r
   rcases aA with rfl|aA
   ·exact m6
   ·rintro rfl;rcases he with z|z
    ·exact zu c b aA z
    ·rw[aA]at z;cases z;exact af rfl
end
structure fD(bl ex:List Addr)(H ah:am)(h h':bF):Prop where
 keep:∀ b o,h.get? b=some o->H b=none->b ∉ bl->b ∉ ex->h'.get? b=some o
 slot:∀ b o,h.get? b=some o->H b=none->b∈bl->b ∉ ex->∃ cp,h'.get? b=some {o with slots:=cp}
 free:∀ b o,h.get? b=some o->H b=none->b ∉ ex->ah b=none
 there:∀ b o,h.get? b=some o->b ∉ ex->∃ df,h'.get? b=some df
 j9:∀ b xs,H b=some (.tup xs)->ah b=some (.tup xs)
 jo:∀ b o u,H b=some (.dU o u)->ah b=some (.dU o u)
 j_:∀ b aZ,H b=some (.lX aZ)->∃ more,ah b=some (.lX (aZ++more))
section
variable{bl oN ex Pm:List Addr}{H H1 aO:am}{h ae ag h':bF}{a x e:Addr}{o:eR}
theorem fD.any(u:fD bl ex H H1 h ae){b:Addr}{b5:Obj}(q:h.get? b=some b5)(n:H b=none)(ak:b ∉ ex):∃ cp,ae.get? b=some {b5 with slots:=cp}:=by
 by_cases af:b∈bl
 ·exact u.slot b b5 q n af ak
 ·exact⟨b5.slots,u.keep b b5 q n af ak⟩
theorem fD.kept(k:∀ b u,h.get? b=some u->h'.get? b=some u):fD bl ex H H h h':=
 ⟨λ b b5 q _ _ _=>k b b5 q,λ b b5 q _ _ _=>⟨b5.slots,k b b5 q⟩,λ _ _ _ n _=>n,λ b b5 q _=>⟨b5,k b b5 q⟩,λ _ _ q=>q,λ _ _ _ q=>q,λ _ aZ q=>⟨#[],by rw[q];simp⟩⟩
theorem fD.refl:fD bl ex H H h h:=fD.kept λ _ _ q=>q
theorem fD.laid(k:∀ b u,h.get? b=some u->h'.get? b=some u)(ai:h.objs.size<=a)(aS:H a=none):fD bl ex H (upd H a o) h h' where
 keep:=λ b u q _ _ _=>k b u q
 slot:=λ b u q _ _ _=>⟨u.slots,k b u q⟩
 free:=λ b u q n _=>by rw[cu (dJ (fS (c7 q) ai))];exact n
 there:=λ b u q _=>⟨u,k b u q⟩
 j9:=λ b xs q=>by rw[cu (gN q aS)];exact q
 jo:=λ b u xs q=>by rw[cu (gN q aS)];exact q
 j_:=λ b aZ q=>⟨#[],by rw[cu (gN q aS),q];simp⟩
theorem fD.write(h1:qm (H x))(he:e=x\/H e=some (.own x))(k:∀ b u,b≠e->h.get? b=some u->h'.get? b=some u)(oM:∃ u,h'.get? e=some u):fD bl ex H (upd H x o) h h':=by
 have ak:∀ b,H b=none->b≠x:=λ b n z=>by subst z;rw[n]at h1;exact h1
 have af:∀ b,H b=none->b≠e:=λ b n z=>by
  subst z;rcases he with r|r
  ·exact ak b n r
  ·rw[n]at r;cases r
 have hm:∀ b u,H b=some u->¬ qm (some u)->b≠x:=λ b u q nm z=>by subst z;rw[q]at h1;exact nm h1
 refine⟨λ b u q n _ _=>k b u (af b n) q,λ b u q n _ _=>⟨u.slots,k b u (af b n) q⟩,λ b u q n _=>by rw[cu (ak b n)];exact n,λ b u q _=>?_,
  λ b xs q=>by rw[cu (hm b _ q λ z=>z)];exact q,λ b u xs q=>by rw[cu (hm b _ q λ z=>z)];exact q,λ b aZ q=>⟨#[],by rw[cu (hm b _ q λ z=>z),q];simp⟩⟩
 by_cases m6:b=e
 ·subst m6;exact oM
 ·exact⟨u,k b u m6 q⟩
end
noncomputable def tf(h:bF)(H:am):List Addr:=(gf h.objs.size).filter λ a=>(H a).isSome
noncomputable def kU(h:bF)(H:am):bF:=PySem.W.hideAll h (tf h H)
theorem EM(h:bF)(H:am):(kU h H).objs.size=h.objs.size:=PySem.W.hideAll_size _ _
theorem EN{h:bF}{H:am}{b:Addr}{o:Obj}(e:h.get? b=some o)(n:H b=none):(kU h H).get? b=some o:=
 PySem.W.hideAll_get _ e λ hm=>by
  have q:(H b).isSome=true:=(p8.mp hm).2;rw[n]at q;simp at q
theorem EO{h:bF}{H:am}{b:Addr}{o:Obj}(e:(kU h H).get? b=some o):h.get? b=some o/\H b=none:=by
 have bz:h.get? b=some o:=PySem.W.of_hideAll (tf h H) e;refine⟨bz,?_⟩
 cases q:H b with
 |none=>rfl
 | some x=>
  have hm:b∈tf h H:=p8.mpr ⟨lR.mpr (c7 bz),by simp[q]⟩;have z:(kU h H).get? b=none:=PySem.W.hideAll_none (tf h H) hm;rw[z]at e;cases e
structure Mod(K:a4)(mg:Str->Option Value)(base:bF):Prop where
 vI:K.In base
 glob:base.Ns dL mg
 blt:∃ i1,base.Ns builtinsNs i1/\∀ x:Str,x≠"__name__"->i1 x=iU x
 nolimit:base.NoLimit
structure aQ where
 prog:bX
 w:bJ
 K:a4
 mg:Str->Option Value
 base:bF
 A:cg
 N:List Str
 s₀:aw
 H₀:am
 env:Env
 outer:List Env
 stack:List Env
 ex:List Addr
 fn:Str->Bool
 calm:Bool
 pn:List (Addr×Obj)
 xe:Value->aw->Prop
noncomputable def jp(l:List Env):List Addr:=l.filterMap (·.frame)
noncomputable abbrev aQ.bl(X:aQ):List Addr:=jp X.outer
noncomputable def tg(sc:eE)(x:Str):Prop:=sc.names.lookup x=some .local\/sc.names.lookup x=some .cell\/sc.names.lookup x=some .free
noncomputable def Loc(sc:eE)(x:Str):Prop:=sc.names.lookup x=some .local\/sc.names.lookup x=some .cell
noncomputable def EP(env:Env)(h:bF)(m:Str->Option Value)(x:Str)(u:Value):Prop:=
 (env.kindOf x=some .local/\m x=some u)\/((env.kindOf x=some .cell\/env.kindOf x=some .free)/\∃ c,env.cells.lookup x=some c/\h.IsCell c (some u))
structure aQ.Ok(X:aQ):Prop where
 mod:Mod X.K X.mg X.base
 kind:X.env.scope.kind=.function
 glob:X.env.globals=dL
 blt:X.env.builtins=builtinsNs
 above:X.s₀.heap.objs.size<=X.env.locals
 inj:∀ x y c,X.env.cells.lookup x=some c->X.env.cells.lookup y=some c->x=y
 has:∀ x,(X.env.kindOf x=some .cell\/X.env.kindOf x=some .free)->∃ c,X.env.cells.lookup x=some c
 qn:∀ x c,X.fn x=true->X.env.cells.lookup x=some c->X.s₀.heap.objs.size<=c
 hd:X.calm=true->X.A.handled=none
 frames:X.A.frames=some X.stack
 th:X.stack=X.outer\/(X.stack=X.env::X.outer/\X.env.frame=some X.env.locals)
 zv:∀ b∈X.ex,b≠X.env.locals/\∀ x c,X.env.cells.lookup x=some c->c≠b
 bs:∀ b o,X.base.get? b=some o->X.s₀.heap.get? b=some o/\X.H₀ b=none
 kV:X.base.objs.size<=X.s₀.heap.objs.size
 qo:∀ b o,X.base.get? b=some o->b ∉ X.ex
 ti:∀ b∈X.ex,b ∉ X.bl
 i2:X.s₀.heap.FunFrames X.base X.outer
 m7:∀ b∈X.bl,X.H₀ b=none
structure Inv(X:aQ)(pins:List (Addr×Obj))(σ:List (Option V))(H:am)(s:aw):Prop where
 ok:X.Ok
 os:s.os=X.s₀.os
 bare:kO s.gens
 base:fD X.bl X.ex X.H₀ H X.s₀.heap s.heap
 loc:∃ m,s.heap.Ns X.env.locals m/\∀(i:Nat)(x:Str)(v:V),X.N[i]?=some x->σ[i]?=some (some v)->tg X.env.scope x->∃ u,RelV v u/\EP X.env s.heap m x u
 cell:∀ x c,X.env.cells.lookup x=some c->∃ v,s.heap.IsCell c v
 free:H X.env.locals=none
 i3:∀ x c,X.env.cells.lookup x=some c->H c=none
 pin:∀ p∈X.pn++pins,s.heap.get? p.1=some p.2/\H p.1=none/\p.1≠X.env.locals/\p.1 ∉ X.bl/\∀ v,p.2.data≠.cell v
 bj:d4 X.prog X.w H s.heap
 len:σ.length=X.N.length
section
variable{X:aQ}{pins:List (Addr×Obj)}{σ:List (Option V)}{H ah:am}{s:aw}{h':bF}
theorem aQ.Ok.EQ(ok:X.Ok){b:Addr}{o:Obj}(e:X.base.get? b=some o):b ∉ X.bl:=λ af=>by
 have:=(ok.i2.mem af).1;rw[e]at this;cases this
theorem Inv.bs(I:Inv X pins σ H s):∀ b o,X.base.get? b=some o->s.heap.get? b=some o/\H b=none:=λ b o e=>
 ⟨I.base.keep b o (I.ok.bs b o e).1 (I.ok.bs b o e).2 (I.ok.EQ e) (I.ok.qo b o e),I.base.free b o (I.ok.bs b o e).1 (I.ok.bs b o e).2 (I.ok.qo b o e)⟩
theorem Inv.bk(I:Inv X pins σ H s):∀ b o,X.base.get? b=some o->s.heap.get? b=some o:=λ b o e=>(I.bs b o e).1
theorem Inv.mod(I:Inv X pins σ H s):Mod X.K X.mg X.base:=I.ok.mod
theorem Inv.fT(I:Inv X pins σ H s):X.K.In s.heap:=I.ok.mod.vI.keeps I.bk
theorem Inv.lt(I:Inv X pins σ H s):X.env.locals<s.heap.objs.size:=let ⟨_,aS,_⟩:=I.loc;aS.lt
theorem Inv.gO(I:Inv X pins σ H s):X.s₀.heap.objs.size<=s.heap.objs.size:=gZ I.ok.above (Nat.le_of_lt I.lt)
theorem Inv.ER(I:Inv X pins σ H s){a:Addr}(h:s.heap.objs.size<=a):a ∉ X.bl:=λ af=>by
 obtain⟨_,o,aJ,_⟩:=I.ok.i2.mem af;exact absurd (fS (c7 aJ) (gZ I.gO h)) (m1 _)
theorem Inv.m8(I:Inv X pins σ H s):∀ x c,X.env.cells.lookup x=some c->c≠X.env.locals:=λ x c e z=>by
 obtain⟨v,o,aJ,hd⟩:=I.cell x c e;obtain⟨m,⟨df,es,ep,i4,h2,_⟩,_⟩:=I.loc;rw[z,i4]at aJ;cases aJ;rw[h2]at hd;cases hd
theorem Inv.i2(I:Inv X pins σ H s):s.heap.FunFrames X.base X.outer:=by
 have all:∀(l:List Env),(∀ b∈jp l,b∈X.bl)->X.s₀.heap.FunFrames X.base l->s.heap.FunFrames X.base l:=by
  intro l
  induction l with
  |nil=>intro _ _;trivial
  | cons env r b0=>
   intro ar aB;obtain⟨aq,⟨L,o,hf,aS,aJ,hd⟩,aH⟩:=aB;have h3:L∈X.bl:=ar L (by unfold jp;rw[List.filterMap_cons,hf];exact dk);obtain⟨cp,e⟩:=I.base.slot L o aJ (I.ok.m7 L h3) h3 λ z=>I.ok.ti L z h3;exact⟨aq,⟨L,_,hf,aS,e,hd⟩,b0 (λ b af=>ar b (by unfold jp;rw[List.filterMap_cons,hf];exact dM _ af)) aH⟩
 exact all X.outer (λ _ af=>af) I.ok.i2
theorem Inv.stack(I:Inv X pins σ H s):s.heap.FunFrames X.base X.stack:=by
 rcases I.ok.th with e|⟨e,hf⟩
 ·rw[e];exact I.i2
 ·rw[e];obtain⟨m,aS,_⟩:=I.loc;refine .cons (by rw[I.ok.kind];decide) hf aS ?_ I.i2;exact Heap.get?_none_of_le (gZ I.ok.kV I.ok.above)
theorem Inv.tj(I:Inv X pins σ H s):∀ b∈jp X.stack,b∈X.env.locals::X.bl:=λ b af=>by
 rcases I.ok.th with e|⟨e,hf⟩
 ·rw[e]at af;exact dM _ af
 ·rw[e]at af;unfold jp at af;rw[List.filterMap_cons,hf]at af;exact af
theorem Inv.zw(I:Inv X pins σ H s):∀ b∈jp X.stack,H b=none:=λ b af=>by
 rcases fq.mp (I.tj b af) with e|af
 ·rw[e];exact I.free
 ·obtain⟨_,o,aJ,_⟩:=I.ok.i2.mem af;exact I.base.free b o aJ (I.ok.m7 b af) λ z=>I.ok.ti b z af
theorem Inv.step{g':Array GenState}{t':Nat}{d':Drawn}{ch:List Addr}(I:Inv X pins σ H s)
 (i5:∀ b∈ch,(b∈X.ex\/X.s₀.heap.objs.size<=b)/\b≠X.env.locals/\(∀ x c,X.env.cells.lookup x=some c->c≠b)/\∀ p∈X.pn++pins,p.1≠b)
 (keep:∀ b o,b≠X.env.locals->b ∉ X.bl->b ∉ ch->s.heap.get? b=some o->H b=none->h'.get? b=some o)
 (slot:∀ b o,b≠X.env.locals->b∈X.bl->b ∉ ch->s.heap.get? b=some o->H b=none->∃ cp,h'.get? b=some {o with slots:=cp}) (free:∀ b o,b ∉ ch->s.heap.get? b=some o->H b=none->ah b=none)
 (there:∀ b o,b ∉ ch->s.heap.get? b=some o->∃ df,h'.get? b=some df)
 (j9:∀ b xs,H b=some (.tup xs)->ah b=some (.tup xs)) (jo:∀ b o u,H b=some (.dU o u)->ah b=some (.dU o u)) (j_:∀ b aZ,H b=some (.lX aZ)->∃ more,ah b=some (.lX (aZ++more)))
 (ns:∀ m,s.heap.Ns X.env.locals m->h'.Ns X.env.locals m) (bj:d4 X.prog X.w ah h') (a8:kO g') :
 Inv X pins σ ah {s with heap:=h',gens:=g',drawn:=d',toks:=t'}:=by
 have zx:∀ b o,X.s₀.heap.get? b=some o->b≠X.env.locals:=λ b o e=>dJ (fS (c7 e) I.ok.above)
 have tk:∀ b o,X.s₀.heap.get? b=some o->b ∉ X.ex->b ∉ ch:=λ b o e ak af=>by
  rcases(i5 b af).1 with z|z
  ·exact ak z
  ·exact absurd (fS (c7 e) z) (m1 _)
 have cellK:∀ x c,X.env.cells.lookup x=some c->∀ v,s.heap.IsCell c v->h'.IsCell c v:=λ x c e v ⟨o,aJ,hd⟩=>by
  have qp:c ∉ ch:=λ z=>(i5 c z).2.2.1 x c e rfl;by_cases aA:c∈X.bl
  ·obtain⟨cp,q⟩:=slot c o (I.m8 x c e) aA qp aJ (I.i3 x c e);exact⟨_,q,hd⟩
  ·exact⟨o,keep c o (I.m8 x c e) aA qp aJ (I.i3 x c e),hd⟩
 refine⟨I.ok,I.os,a8,⟨λ b o e n af ak=>?_,λ b o e n af ak=>?_,λ b o e n ak=>?_,λ b o e ak=>?_,λ b xs e=>j9 b xs (I.base.j9 b xs e),λ b o xs e=>jo b o xs (I.base.jo b o xs e),λ b aZ e=>?_⟩,?_,λ x c e=>?_,?_,λ x c e=>?_,λ p ai=>?_,bj,I.len⟩
 ·exact keep b o (zx b o e) af (tk b o e ak) (I.base.keep b o e n af ak) (I.base.free b o e n ak)
 ·obtain⟨cp,e1⟩:=I.base.slot b o e n af ak;obtain⟨ES,aP⟩:=slot b _ (zx b o e) af (tk b o e ak) e1 (I.base.free b o e n ak);exact⟨ES,aP⟩
 ·obtain⟨df,e1⟩:=I.base.there b o e ak;exact free b df (tk b o e ak) e1 (I.base.free b o e n ak)
 ·obtain⟨df,e1⟩:=I.base.there b o e ak;exact there b df (tk b o e ak) e1
 ·obtain⟨hB,e1⟩:=I.base.j_ b aZ e;obtain⟨lY,aP⟩:=j_ b _ e1;exact⟨hB++lY,by rw[aP,Array.append_assoc]⟩
 ·obtain⟨m,aS,aB⟩:=I.loc;refine⟨m,ns m aS,λ i x v e1 aP gx=>?_⟩;obtain⟨u,r,l⟩:=aB i x v e1 aP gx;refine⟨u,r,?_⟩;rcases l with l|⟨k,c,e,z⟩
  ·exact .inl l
  ·exact .inr ⟨k,c,e,cellK x c e _ z⟩
 ·obtain⟨v,z⟩:=I.cell x c e;exact⟨v,cellK x c e v z⟩
 ·obtain⟨m,⟨o,_,_,aJ,_⟩,_⟩:=I.loc;exact free _ o (λ z=>(i5 _ z).2.1 rfl) aJ I.free
 ·obtain⟨v,o,aJ,hd⟩:=I.cell x c e;exact free c o (λ z=>(i5 c z).2.2.1 x c e rfl) aJ (I.i3 x c e)
 ·obtain⟨e,n,ne,oO,d⟩:=I.pin p ai;have qp:p.1 ∉ ch:=λ z=>(i5 p.1 z).2.2.2 p ai rfl;exact⟨keep p.1 p.2 ne oO qp e n,free p.1 p.2 qp e n,ne,oO,d⟩
theorem Inv.un{t':Nat}(I:Inv X pins σ H s)(u:fD X.bl [] H ah s.heap h')(bj:d4 X.prog X.w ah h'):Inv X pins σ ah {s with heap:=h',toks:=t'}:=by
 obtain⟨m,⟨o,es,ep,aJ,r⟩,_⟩:=id I.loc;obtain⟨cp,h3⟩:=u.any aJ I.free (by simp)
 exact I.step (g':=s.gens) (d':=s.drawn) (ch:=[]) (λ _ z=>nomatch z) (λ b o _ af _ e n=>u.keep b o e n af (by simp)) (λ b o _ af _ e n=>u.slot b o e n af (by simp)) (λ b o _ e n=>u.free b o e n (by simp)) (λ b o _ e=>u.there b o e (by simp)) u.j9 u.jo u.j_ (λ cP hm=>by
  obtain⟨df,cB,tl,i4,bK⟩:=hm;rw[aJ]at i4;cases i4
  exact⟨_,cB,tl,h3,bK⟩) bj I.bare
theorem Inv.call{g':Array GenState}{t':Nat}{d':Drawn}{ch:List Addr}(I:Inv X pins σ H s)(u:fD (jp X.stack) ch H ah s.heap h')(bj:d4 X.prog X.w ah h')(a8:kO g')
 (i5:∀ b∈ch,(b∈X.ex\/X.s₀.heap.objs.size<=b)/\b≠X.env.locals/\(∀ x c,X.env.cells.lookup x=some c->c≠b)/\∀ p∈X.pn++pins,p.1≠b) :
 Inv X pins σ ah {s with heap:=h',gens:=g',drawn:=d',toks:=t'}:=by
 obtain⟨m,⟨o,es,ep,aJ,r⟩,_⟩:=id I.loc;obtain⟨cp,h3⟩:=u.any aJ I.free λ z=>(i5 _ z).2.1 rfl
 exact I.step (ch:=ch) i5 (λ b o h3 af aA e n=>u.keep b o e n (λ z=>(fq.mp (I.tj b z)).elim h3 af) aA) (λ b o _ _ aA e n=>u.any e n aA) (λ b o aA e n=>u.free b o e n aA) (λ b o aA e=>u.there b o e aA) u.j9 u.jo u.j_ (λ cP hm=>by
  obtain⟨df,cB,tl,i4,bK⟩:=hm;rw[aJ]at i4;cases i4
  exact⟨_,cB,tl,h3,bK⟩) bj a8
theorem Inv.turned{t':Nat}{it:Addr}(I:Inv X pins σ H s)(k:∀ b o,b≠it->s.heap.get? b=some o->h'.get? b=some o)(aS:H it=none)(h3:it≠X.env.locals)
 (ae:it∈X.ex\/X.s₀.heap.objs.size<=it) (ag:∀ x c,X.env.cells.lookup x=some c->c≠it) (bc:∀ p∈X.pn++pins,p.1≠it):Inv X pins σ H {s with heap:=h',toks:=t'}:=by
 have qq:∀ b u,H b=some u->b≠it:=λ b u e z=>by rw[z,aS]at e;cases e
 refine I.step (g':=s.gens) (d':=s.drawn) (ch:=[it]) (λ b af=>?_) (λ b o _ _ aA e _=>k b o (λ z=>aA (by simp[z])) e) (λ b o _ _ aA e _=>⟨o.slots,k b o (λ z=>aA (by simp[z])) e⟩) (λ _ _ _ _ n=>n)
  (λ b o aA e=>⟨o,k b o (λ z=>aA (by simp[z])) e⟩) (λ _ _ e=>e) (λ _ _ _ e=>e) (λ b aZ e=>⟨#[],by rw[e];simp⟩) (λ m hm=>?_) (λ b u e=>?_) I.bare
 ·have e:b=it:=by simpa using af
  subst e;exact⟨ae,h3,ag,bc⟩
 ·obtain⟨o,es,ep,aJ,r⟩:=hm;exact⟨o,es,ep,k _ o (Ne.symm h3) aJ,r⟩
 ·refine(I.bj b u e).j8 (λ c v aA q=>k c v ?_ q) (λ _ q=>q) λ _ _ q=>q;rcases aA with z|z
  ·rw[z];exact qq b u e
  ·exact qq c _ z
theorem Inv.tok(I:Inv X pins σ H s)(t:Nat):Inv X pins σ H {s with toks:=t}:=I.un (h':=s.heap) (t':=t) fD.refl I.bj
theorem Inv.kept{t':Nat}(I:Inv X pins σ H s)(k:∀ b u,s.heap.get? b=some u->h'.get? b=some u):Inv X pins σ H {s with heap:=h',toks:=t'}:=I.un (fD.kept k) (I.bj.kept k)
theorem Inv.laid{a:Addr}{o:eR}{t':Nat}(I:Inv X pins σ H s)(k:∀ b u,s.heap.get? b=some u->h'.get? b=some u)(ai:s.heap.objs.size<=a)(new:dP X.prog X.w (upd H a o) h' a o) :
 Inv X pins σ (upd H a o) {s with heap:=h',toks:=t'}:=I.un (fD.laid k ai (I.bj.fresh ai)) (I.bj.laid k ai new)
theorem Inv.write{x e:Addr}{o:eR}{t':Nat}(I:Inv X pins σ H s)(h1:qm (H x))(he:e=x\/H e=some (.own x))(k:∀ b u,b≠e->s.heap.get? b=some u->h'.get? b=some u)(oM:∃ u,h'.get? e=some u)
 (new:dP X.prog X.w (upd H x o) h' x o):Inv X pins σ (upd H x o) {s with heap:=h',toks:=t'}:=I.un (fD.write h1 he k oM) (I.bj.write h1 he k oM new)
theorem Inv.oP{zy:List (Addr×Obj)}(I:Inv X pins σ H s)(h:∀ p∈zy,s.heap.get? p.1=some p.2/\H p.1=none/\p.1≠X.env.locals/\p.1 ∉ X.bl/\∀ v,p.2.data≠.cell v):Inv X zy σ H s:=
 ⟨I.ok,I.os,I.bare,I.base,I.loc,I.cell,I.free,I.i3,λ p ai=>(fL.mp ai).elim (λ z=>I.pin p (sN _ z)) (h p),I.bj,I.len⟩
theorem zz{N:List Str}(dg:N.Nodup){i j:Nat}{x:Str}(a:N[i]?=some x)(b:N[j]?=some x):i=j:=by
 obtain⟨ae,e1⟩:=gg.mp a;obtain⟨ag,aP⟩:=gg.mp b;exact(List.getElem_inj dg).mp (e1.trans aP.symm)
theorem zA{M:Model}{A:cg}{E:Value->aw->Prop}{i:Nat}{x:Str}{v:V}{u:Value}{Q:Unit->aw->Prop}(I:Inv X pins σ H s)(dg:X.N.Nodup)(au:X.N[i]?=some x)(ak:Loc X.env.scope x)(r:RelV v u)
 (h:∀ av,Inv X pins (σ.set i (some v)) H av->(∃ a,Heap.SameBut a s.heap av.heap/\(a=X.env.locals\/X.env.cells.lookup x=some a))->Q () av) (hf:X.fn x=true\/X.env.scope.names.lookup x=some .local:=by first|exact .inl rfl|exact .inr rfl|assumption):aT M A (storeName X.env x u) Q E s:=by
 obtain⟨m,aS,aB⟩:=id I.loc
 have ET:(X.env.scope.kind==.class||(X.env.scope.kind==.module&&X.env.locals !=X.env.globals))=false:=by rw[I.ok.kind];rfl
 have auσ:i<σ.length:=by rw[I.len];exact(gg.mp au).1
 have m8:=I.m8
 have tracked:∀{a:Addr}{h':bF},(∃ o,s.heap.get? a=some o/\H a=none)->Heap.SameBut a s.heap h'->d4 X.prog X.w H h':=λ{a h'} az ar b b5 e=>by
  obtain⟨_,_,zB⟩:=az;refine(I.bj b b5 e).j8 (λ c d5 aA q=>(ar.2 c ?_).trans q) (λ _ q=>q) λ _ _ q=>q;rintro rfl;rcases aA with rfl|aA
  ·rw[zB]at e;cases e
  ·rw[zB]at aA;cases aA
 rcases ak with aq|aq
 ·refine wpAny_storeName_local aq aS (λ h' vJ ar=>?_) ET;obtain⟨EU,_,_,ka,_⟩:=id aS;refine h _ ⟨I.ok,I.os,I.bare,⟨λ b o e n af ak=>?_,λ b o e n af ak=>?_,I.base.free,λ b o e ak=>?_,I.base.j9,I.base.jo,I.base.j_⟩,⟨_,vJ,λ j y h4 e1 aP gx=>?_⟩,λ y c e=>?_,I.free,I.i3,λ p ai=>?_,tracked ⟨EU,ka,I.free⟩ ar,by simpa using I.len⟩ ⟨_,ar,.inl rfl⟩
  ·exact(ar.2 b (dJ (fS (c7 e) I.ok.above))).trans (I.base.keep b o e n af ak)
  ·obtain⟨cp,e1⟩:=I.base.slot b o e n af ak;exact⟨cp,(ar.2 b (dJ (fS (c7 e) I.ok.above))).trans e1⟩
  ·obtain⟨df,e1⟩:=I.base.there b o e ak;exact⟨df,(ar.2 b (dJ (fS (c7 e) I.ok.above))).trans e1⟩
  ·by_cases bm:j=i
   ·subst bm;rw[au]at e1;cases e1;rw[List.getElem?_set_self auσ]at aP;cases aP;exact⟨u,r,.inl ⟨aq,by simp⟩⟩
   ·rw[sO (Ne.symm bm)]at aP;obtain⟨i6,bK,q⟩:=aB j y h4 e1 aP gx;refine⟨i6,bK,?_⟩;rcases q with⟨k,e⟩|⟨k,c,e,z⟩
    ·refine .inl ⟨k,?_⟩;have:y≠x:=λ e=>bm (zz dg e1 (e ▸ au));simp[this,e]
    ·exact .inr ⟨k,c,e,z.sameBut ar (m8 y c e)⟩
  ·obtain⟨d5,z⟩:=I.cell y c e;exact⟨d5,z.sameBut ar (m8 y c e)⟩
  ·obtain⟨e,n,ne,oO,d⟩:=I.pin p ai;exact⟨(ar.2 p.1 ne).trans e,n,ne,oO,d⟩
 ·have vK:X.fn x=true:=by
   rcases hf with z|z
   ·exact z
   ·rw[z]at aq;cases aq
  obtain⟨c,aA⟩:=I.ok.has x (.inl aq);obtain⟨d5,z⟩:=I.cell x c aA;refine wpAny_storeName_cell I.ok.kind aq aA z (λ h' vL ar=>?_);obtain⟨fE,zC,EV⟩:=id z;refine h {s with heap:=h'} ⟨I.ok,I.os,I.bare,⟨λ b o e n af ak=>?_,λ b o e n af ak=>?_,I.base.free,λ b o e ak=>?_,I.base.j9,I.base.jo,I.base.j_⟩,⟨m,aS.sameBut ar (Ne.symm (m8 x c aA)),λ j y h4 e1 aP gx=>?_⟩,λ y eT e=>?_,I.free,I.i3,λ p ai=>?_,tracked ⟨fE,zC,I.i3 x c aA⟩ ar,by simpa using I.len⟩ ⟨c,ar,.inr aA⟩
  ·exact(ar.2 b (dJ (fS (c7 e) (I.ok.qn x c vK aA)))).trans (I.base.keep b o e n af ak)
  ·obtain⟨cp,e1⟩:=I.base.slot b o e n af ak;exact⟨cp,(ar.2 b (dJ (fS (c7 e) (I.ok.qn x c vK aA)))).trans e1⟩
  ·obtain⟨df,e1⟩:=I.base.there b o e ak;exact⟨df,(ar.2 b (dJ (fS (c7 e) (I.ok.qn x c vK aA)))).trans e1⟩
  ·by_cases bm:j=i
   ·subst bm;rw[au]at e1;cases e1;rw[List.getElem?_set_self auσ]at aP;cases aP;exact⟨u,r,.inr ⟨.inl aq,c,aA,vL⟩⟩
   ·rw[sO (Ne.symm bm)]at aP;obtain⟨i6,bK,q⟩:=aB j y h4 e1 aP gx;refine⟨i6,bK,?_⟩;rcases q with q|⟨k,eT,e,h5⟩
    ·exact .inl q
    ·refine .inr ⟨k,eT,e,h5.sameBut ar ?_⟩;rintro rfl;exact bm (zz dg e1 (I.ok.inj _ _ _ e aA ▸ au))
  ·by_cases oQ:eT=c
   ·subst oQ;exact⟨_,vL⟩
   ·obtain⟨kb,cU⟩:=I.cell y eT e;exact⟨kb,cU.sameBut ar oQ⟩
  ·obtain⟨e,n,ne,oO,d⟩:=I.pin p ai;refine⟨(ar.2 p.1 ?_).trans e,n,ne,oO,d⟩;intro q;rw[q,zC]at e;have fO:fE=p.2:=eH.inj e;exact d d5 (by rw[<- fO];exact EV)
theorem tm{M:Model}{A:cg}{E:Value->aw->Prop}{i:Nat}{x:Str}{v:V}{u:Value}{Q:Unit->aw->Prop}(I:Inv X pins σ H s)(dg:X.N.Nodup)(au:X.N[i]?=some x)(ak:Loc X.env.scope x)(r:RelV v u)
 (h:∀ av,Inv X pins (σ.set i (some v)) H av->Q () av) (hf:X.fn x=true\/X.env.scope.names.lookup x=some .local:=by first|exact .inl rfl|exact .inr rfl|assumption):aT M A (storeName X.env x u) Q E s:=
 zA I dg au ak r (λ av i7 _=>h av i7) hf
theorem Inv.EW{av:aw}{ch:List Addr}(I:Inv X pins σ H s)(aJ:av.os=s.os)(u:fD (jp X.stack) ch H ah s.heap av.heap)(bj:d4 X.prog X.w ah av.heap)(a8:kO av.gens)
 (i5:∀ b∈ch,(b∈X.ex\/X.s₀.heap.objs.size<=b)/\b≠X.env.locals/\(∀ x c,X.env.cells.lookup x=some c->c≠b)/\∀ p∈X.pn++pins,p.1≠b):Inv X pins σ ah av:=by
 obtain⟨h',g',d',t',df⟩:=av;have e:df=s.os:=aJ;subst e;exact I.call (g':=g') (t':=t') (d':=d') u bj a8 i5
end
noncomputable abbrev hC:=Value->Option Addr->am->Prop
noncomputable abbrev St:=List (Option V)
noncomputable abbrev b7:=V->am->Prop
noncomputable abbrev TE:=St->am->b7->Prop
noncomputable abbrev TT:=St->am->(Bool->am->Prop)->Prop
noncomputable abbrev e3:=St->am->(List V->am->Prop)->Prop
structure Ends where
 nx:St->am->Prop
 rt:b7
 bk:St->am->Prop:=λ _ _=>False
 ct:St->am->Prop:=λ _ _=>False
noncomputable abbrev ew:=Ends->St->am->Prop
noncomputable def fP(X:aQ)(pins:List (Addr×Obj))(σ:St)(Q:b7)(u:Value)(av:aw):Prop:=∃ v ah,Inv X pins σ ah av/\RelV v u/\Q v ah
noncomputable def tn(X:aQ)(pins:List (Addr×Obj))(σ:St)(Q:Bool->am->Prop)(b:Bool)(av:aw):Prop:=∃ ah,Inv X pins σ ah av/\Q b ah
noncomputable def EX(X:aQ)(pins:List (Addr×Obj))(σ:St)(Q:List V->am->Prop)(us:List Value)(av:aw):Prop:=∃ vs ah,Inv X pins σ ah av/\Vals vs us/\Q vs ah
noncomputable def m9(X:aQ)(pins:List (Addr×Obj))(D:Ends)(f:Flow)(av:aw):Prop:=
 match f with
 |.next=>∃ σ' ah,Inv X pins σ' ah av/\D.nx σ' ah
 |.brk=>∃ σ' ah,Inv X pins σ' ah av/\D.bk σ' ah
 |.cont=>∃ σ' ah,Inv X pins σ' ah av/\D.ct σ' ah
 |.ret u=>∃ v σ' ah,Inv X pins σ' ah av/\RelV v u/\D.rt v ah
noncomputable def bQ(X:aQ)(e:aY)(t:TE):Prop:=
 ∀(pins:List (Addr×Obj))(s:aw)(σ:St)(H:am)(Q:b7),Inv X pins σ H s->t σ H Q->aT (a5 X.prog X.w) X.A (eval e X.env) (fP X pins σ Q) X.xe s
noncomputable def ix(X:aQ)(e:aY)(t:TT):Prop:=
 ∀(pins:List (Addr×Obj))(s:aw)(σ:St)(H:am)(Q:Bool->am->Prop),Inv X pins σ H s->t σ H Q->aT (a5 X.prog X.w) X.A (jY e X.env (eval e X.env)) (tn X pins σ Q) X.xe s
noncomputable def kc(X:aQ)(e:aY)(t:TT):Prop:=
 ∀(whole:Sem Value)(pins:List (Addr×Obj))(s:aw)(σ:St)(H:am)(Q:Bool->am->Prop),Inv X pins σ H s->t σ H Q->aT (a5 X.prog X.w) X.A (jY e X.env whole) (tn X pins σ Q) X.xe s
theorem kc.pt{X:aQ}{e:aY}{t:TT}(h:kc X e t):ix X e t:=h _
noncomputable def hD(X:aQ)(es:List aY)(t:e3):Prop:=
 ∀(pos:Pos)(pins:List (Addr×Obj))(s:aw)(σ:St)(H:am)(Q:List V->am->Prop),Inv X pins σ H s->t σ H Q->aT (a5 X.prog X.w) X.A (spliced (iu pos (ek es X.env))) (EX X pins σ Q) X.xe s
noncomputable def iy(X:aQ)(st:b_)(t:ew):Prop:=
 ∀(pins:List (Addr×Obj))(s:aw)(σ:St)(H:am)(D:Ends),Inv X pins σ H s->t D σ H->aT (a5 X.prog X.w) X.A (exec st X.env) (m9 X pins D) X.xe s
noncomputable def h6(X:aQ)(st:List b_)(t:ew):Prop:=
 ∀(pins:List (Addr×Obj))(s:aw)(σ:St)(H:am)(D:Ends),Inv X pins σ H s->t D σ H->aT (a5 X.prog X.w) X.A (execs st X.env) (m9 X pins D) X.xe s
theorem bT{α:Type}{t:Sem α}{Q lZ:α->aw->Prop}{M:Model}{A:cg}{E:Value->aw->Prop}{s:aw}(h:aT M A t Q E s)(g0:∀ a s,Q a s->lZ a s):aT M A t lZ E s:=gw h g0 λ _ _ x=>x
section
variable{X:aQ}
theorem bin{a b:aY}{bn bW:TE}(az:bQ X a bn)(af:bQ X b bW){pins:List (Addr×Obj)}{s:aw}{σ:St}{H:am}{R:V->V->am->Prop}(I:Inv X pins σ H s)(h:bn σ H λ x H1=>bW σ H1 λ y aO=>R x y aO)
 {α:Type} {Q:α->aw->Prop} {f:Value->Value->Sem α}
 (hf:∀ v u s2 x y aO,Inv X pins σ aO s2->RelV x v->RelV y u->R x y aO->aT (a5 X.prog X.w) X.A (f v u) Q X.xe s2) :
 aT (a5 X.prog X.w) X.A (eval a X.env) (λ v c3=>aT (a5 X.prog X.w) X.A (eval b X.env) (λ u l0=>aT (a5 X.prog X.w) X.A (f v u) Q X.xe l0) X.xe c3) X.xe s:=by
 refine bT (az pins s σ H _ I h) λ v s1 xz=>?_;obtain⟨x,H1,aV,aG,aD⟩:=xz;refine bT (af pins s1 σ H1 _ aV aD) λ u s2 xz=>?_;obtain⟨y,aO,cG,aR,bw⟩:=xz;exact hf v u s2 x y aO cG aG aR bw
noncomputable def zD(i:Nat):TE:=λ σ H Q=>∃ v,σ[i]?=some (some v)/\Q v H
noncomputable def jq(v:V):TE:=λ _ H Q=>Q v H
theorem EY{i:Nat}{x:Str}{pos:Pos}(dg:X.N[i]?=some x)(bh:tg X.env.scope x)(hd:(x==("__debug__" : Str))=false:=by decide)(g4:(x==("__classdict__" : Str))=false:=by decide):bQ X (.Name x pos) (zD i):=by
 intro pins s σ H Q I h;obtain⟨v,e,h⟩:=h;obtain⟨m,aS,aB⟩:=I.loc;obtain⟨u,r,l⟩:=aB i x v dg e bh
 have fin:fP X pins σ Q u s:=⟨v,H,I,r,h⟩
 rcases l with⟨aq,hm⟩|⟨aq,c,aA,zE⟩
 ·exact wpAny_Name (wpAny_loadName_local I.ok.kind aq aS hm fin) hd
 ·rcases aq with aq|aq
  ·exact wpAny_Name (wpAny_loadName_cell I.ok.kind aq aA zE fin) hd
  ·exact wpAny_Name (wpAny_loadName_free I.ok.kind aq aA zE fin g4) hd
theorem EZ {i j pos}:bQ X (.Constant (.int i) j pos) (jq (.int i)):=λ _ _ _ H _ I h=>wpAny_Constant_int ⟨.int i,H,I.tok _,⟨_,rfl⟩,h⟩
theorem E0 {b j pos}:bQ X (.Constant (.bool b) j pos) (jq (.aW b)):=λ _ _ _ H _ I h=>Constant_bool ⟨.aW b,H,I,rfl,h⟩
theorem E1 {x j pos}:bQ X (.Constant (.str x) j pos) (jq (.str x)):=λ _ _ _ H _ I h=>Calls.Constant_str ⟨.str x,H,I.tok _,⟨_,rfl⟩,h⟩
noncomputable def eb(X:aQ)(x:Str):Prop:=X.env.kindOf x=some .globalImplicit
theorem vM{E:Value->aw->Prop}{pins:List (Addr×Obj)}{s:aw}{σ:St}{H:am}{x:Str}{u:Value}{pos:Pos}{Q:Value->aw->Prop}(I:Inv X pins σ H s)(a8:eb X x)(hm:X.mg x=some u)(h:Q u s)
 (hd:(x==("__debug__" : Str))=false:=by decide):aT (a5 X.prog X.w) X.A (eval (.Name x pos) X.env) Q E s:=
 Calls.Name_function_global I.ok.kind a8 (Calls.loadGlobal_global (by rw[I.ok.glob];exact I.mod.glob.keeps I.bk) hm h) hd
theorem m_{E:Value->aw->Prop}{pins:List (Addr×Obj)}{s:aw}{σ:St}{H:am}{x:Str}{u:Value}{pos:Pos}{Q:Value->aw->Prop}(I:Inv X pins σ H s)(a8:eb X x)(hm:X.mg x=none)(bh:iU x=some u)(h:Q u s)
 (aS:x≠"__name__":=by decide) (hd:(x==("__debug__" : Str))=false:=by decide):aT (a5 X.prog X.w) X.A (eval (.Name x pos) X.env) Q E s:=by
 obtain⟨i1,ae,ag⟩:=I.mod.blt;exact Calls.Name_function_global I.ok.kind a8 (Calls.loadGlobal_builtin (by rw[I.ok.glob];exact I.mod.glob.keeps I.bk) hm (by rw[I.ok.blt];exact ae.keeps I.bk) ((ag x aS).trans bh) h) hd
theorem E2{x:Str}{v:V}{u:Value}{pos:Pos}(a8:eb X x)(hm:X.mg x=some u)(r:RelV v u)(hd:(x==("__debug__" : Str))=false:=by decide):bQ X (.Name x pos) (jq v):=
 λ _ _ _ H _ I h=>vM I a8 hm ⟨v,H,I,r,h⟩ hd
theorem E3{x:Str}{v:V}{u:Value}{pos:Pos}(a8:eb X x)(hm:X.mg x=none)(bh:iU x=some u)(r:RelV v u)(aS:x≠"__name__":=by decide)(hd:(x==("__debug__" : Str))=false:=by decide):bQ X (.Name x pos) (jq v):=
 λ _ _ _ H _ I h=>m_ I a8 hm bh ⟨v,H,I,r,h⟩ aS hd
variable{a b:aY}{bn bW:TE}{pos:Pos}
variable{ff kd:TT}{rest:List aY}
noncomputable def zF(t u:TT):TT:=λ σ H Q=>t σ H λ c H1=>if c=true then u σ H1 Q else Q false H1
noncomputable def zG(t u:TT):TT:=λ σ H Q=>t σ H λ c H1=>if c=true then Q true H1 else u σ H1 Q
noncomputable def zH(t:TT):TT:=λ σ H Q=>t σ H λ c H1=>Q (!c) H1
theorem E4(az:ix X a ff):kc X (.BoolOp .And [a] pos) ff:=by
 intro qr pins s σ H Q I h;refine isTrue_and (bT (az pins s σ H Q I h) λ c s1 e=>?_)
 cases c with
 |true=>exact isTrue_and_nil e
 |false=>exact e
theorem E5(az:ix X a ff):kc X (.BoolOp .Or [a] pos) ff:=by
 intro qr pins s σ H Q I h;refine isTrue_or (bT (az pins s σ H Q I h) λ c s1 e=>?_)
 cases c with
 |false=>exact isTrue_or_nil e
 |true=>exact e
theorem E6(az:ix X a ff)(af:kc X (.BoolOp .And (b::rest) pos) kd):kc X (.BoolOp .And (a::b::rest) pos) (zF ff kd):=by
 intro qr pins s σ H Q I h;refine isTrue_and (bT (az pins s σ H _ I h) λ c s1 xz=>?_);obtain⟨H1,aV,aD⟩:=xz
 cases c with
 |true=>exact af qr pins s1 σ H1 Q aV aD
 |false=>exact⟨H1,aV,aD⟩
theorem E7(az:ix X a ff)(af:kc X (.BoolOp .Or (b::rest) pos) kd):kc X (.BoolOp .Or (a::b::rest) pos) (zG ff kd):=by
 intro qr pins s σ H Q I h;refine isTrue_or (bT (az pins s σ H _ I h) λ c s1 xz=>?_);obtain⟨H1,aV,aD⟩:=xz
 cases c with
 |true=>exact⟨H1,aV,aD⟩
 |false=>exact af qr pins s1 σ H1 Q aV aD
theorem E8(az:ix X a ff):ix X (.UnaryOp .Not a pos) (zH ff):=by
 intro pins s σ H Q I h;exact isTrue_not (az pins s σ H (λ c H1=>Q (!c) H1) I h)
noncomputable def zI(bn bW:TE):TE:=λ σ H Q=>bn σ H λ x H1=>∃ c,x=.aW c/\if c=true then bW σ H1 Q else Q (.aW false) H1
theorem E9 {op} {t:TE} (h:bQ X a t):bQ X (.BoolOp op [a] pos) t:=λ pins s σ H Q I hw=>BoolOp_one (h pins s σ H Q I hw)
theorem E_(az:bQ X a bn)(af:bQ X (.BoolOp .And (b::rest) pos) bW):bQ X (.BoolOp .And (a::b::rest) pos) (zI bn bW):=by
 intro pins s σ H Q I h;refine BoolOp_and (bT (az pins s σ H _ I h) λ v s1 xz=>?_);obtain⟨x,H1,aV,aG,aD⟩:=xz;obtain⟨c,rfl,aD⟩:=aD;cases aG;refine sw ?_
 cases c with
 |true=>exact af pins s1 σ H1 Q aV aD
 |false=>exact⟨.aW false,H1,aV,rfl,aD⟩
end
noncomputable def dO(K:a4)(H:am)(a:Addr)(xs:List V):Prop:=
 eS H a (.lst xs) ∨
  ∃(o:Obj)(ao:Array Value)(n:Nat),K.lookup a=some o/\o.cls=.type "list"/\o.dict=none/\o.data=.seq ao n/\ao.size<=sizeLine/\Vals xs ao.toList
noncomputable def dt(K:a4)(H:am)(a:Addr)(xs:List V):Prop:=
 eS H a (.tup xs) ∨
  ∃(o:Obj)(ao:Array Value)(n:Nat),K.lookup a=some o/\o.cls=.type "tuple"/\o.data=.seq ao n/\ao.size<=sizeLine/\Vals xs ao.toList
noncomputable def Fa:Value->Option V
 |.none=>some .bo
 |.bool b=>some (.aW b)
 |.int i _=>some (.int i)
 |.str x _=>some (.str x)
 |.bytes b _=>some (.ql b)
 |.float b _=>some (.oL b)
 |.ref a=>some (.ref a)
 |.type n=>some (.ty n)
 |_=>none
theorem RelV.abs{x:V}{u:Value}(r:RelV x u):Fa u=some x:=by
 cases x with
 |bo=>cases r;rfl
 |aW _=>cases r;rfl
 |int _=>obtain⟨t,rfl⟩:=r;rfl
 |str _=>obtain⟨t,rfl⟩:=r;rfl
 |ql _=>obtain⟨t,rfl⟩:=r;rfl
 |oL _=>obtain⟨t,rfl⟩:=r;rfl
 |ref _=>cases r;rfl
 |ty _=>cases r;rfl
theorem RelV.inj{x y:V}{u:Value}(r:RelV x u)(q:RelV y u):x=y:=eH.inj (r.abs.symm.trans q.abs)
theorem Vals.inj:∀{xs ys:List V}{us:List Value},Vals xs us->Vals ys us->xs=ys
 |_,_,_,.nil,.nil=>rfl
 |_,_,_,.cons r t,.cons bK t'=>by rw[r.inj bK,Vals.inj t t']
section
variable{X:aQ}{pins:List (Addr×Obj)}{σ:St}{H:am}{s:aw}{a:Addr}{xs ys:List V}
theorem dO.of{K:a4}(h:H a=some (.lst xs)):dO K H a xs:=.inl (.inl h)
theorem dt.of{K:a4}(h:H a=some (.tup xs)):dt K H a xs:=.inl (.inl h)
theorem Inv.list(I:Inv X pins σ H s)(h:dO X.K H a xs):∃ ao:List Value,Vals xs ao/\PlainL s.heap a ao.toArray/\xs.length<=sizeLine:=by
 rcases h with h|⟨o,ao,n,aq,aA,hd,ar,hz,r⟩
 ·obtain⟨z,ao,n,r,e⟩:=h.ok I.bj;exact⟨ao,r,⟨_,n,e,rfl,rfl,rfl⟩,z⟩
 ·refine⟨ao.toList,r,⟨o,n,I.fT a o aq,aA,hd,by simpa using ar⟩,?_⟩;have e:=r.length;simp only[m2]at e;omega
theorem Inv.tuple(I:Inv X pins σ H s)(h:dt X.K H a xs):∃ ao:List Value,Vals xs ao/\kP s.heap a ao.toArray/\xs.length<=sizeLine:=by
 rcases h with h|⟨o,ao,n,aq,aA,ar,hz,r⟩
 ·obtain⟨z,ao,r,p⟩:=h.ok I.bj;exact⟨ao,r,p,z⟩
 ·refine⟨ao.toList,r,⟨o,I.fT a o aq,aA,n,by simpa using ar⟩,?_⟩;have e:=r.length;simp only[m2]at e;omega
theorem Inv.Fb(I:Inv X pins σ H s)(h:dO X.K H a xs)(h':dO X.K H a ys):xs=ys:=by
 obtain⟨ao,r,⟨o,n,e,_,_,d⟩,_⟩:=I.list h;obtain⟨its',bK,⟨df,na,bz,_,_,d'⟩,_⟩:=I.list h';rw[e]at bz;cases bz;rw[d]at d';injection d' with ec _
 have:ao=its':=by simpa using congrArg Array.toList ec
 subst this;exact r.inj bK
theorem Inv.tp(I:Inv X pins σ H s)(h:dt X.K H a xs)(h':dt X.K H a ys):xs=ys:=by
 obtain⟨ao,r,⟨o,e,_,n,d⟩,_⟩:=I.tuple h;obtain⟨its',bK,⟨df,bz,_,na,d'⟩,_⟩:=I.tuple h';rw[e]at bz;cases bz;rw[d]at d';injection d' with ec _
 have:ao=its':=by simpa using congrArg Array.toList ec
 subst this;exact r.inj bK
end
noncomputable abbrev aQ.ke(X:aQ)(E:Value->aw->Prop):aQ:={X with xe:=E}
noncomputable abbrev aQ.oR(X:aQ):aQ:=X.ke λ _ _=>False
theorem aQ.Ok.ke{X:aQ}(ok:X.Ok)(E:Value->aw->Prop):(X.ke E).Ok:=
 ⟨ok.mod,ok.kind,ok.glob,ok.blt,ok.above,ok.inj,ok.has,ok.qn,ok.hd,ok.frames,ok.th,ok.zv,ok.bs,ok.kV,ok.qo,ok.ti,ok.i2,ok.m7⟩
theorem aQ.Ok.l1{X:aQ}{E:Value->aw->Prop}(ok:(X.ke E).Ok):X.Ok:=
 ⟨ok.mod,ok.kind,ok.glob,ok.blt,ok.above,ok.inj,ok.has,ok.qn,ok.hd,ok.frames,ok.th,ok.zv,ok.bs,ok.kV,ok.qo,ok.ti,ok.i2,ok.m7⟩
section
variable{X:aQ}{pins:List (Addr×Obj)}{σ:St}{H:am}{s:aw}{E:Value->aw->Prop}
theorem Inv.ke(I:Inv X pins σ H s)(E:Value->aw->Prop):Inv (X.ke E) pins σ H s:=⟨I.ok.ke E,I.os,I.bare,I.base,I.loc,I.cell,I.free,I.i3,I.pin,I.bj,I.len⟩
theorem Inv.l1(I:Inv (X.ke E) pins σ H s):Inv X pins σ H s:=⟨I.ok.l1,I.os,I.bare,I.base,I.loc,I.cell,I.free,I.i3,I.pin,I.bj,I.len⟩
theorem m9.l1{D:Ends}{f:Flow}{av:aw}(h:m9 (X.ke E) pins D f av):m9 X pins D f av:=by
 cases f with
 |next=>obtain⟨σ',ah,I,q⟩:=h;exact⟨σ',ah,I.l1,q⟩
 |brk=>obtain⟨σ',ah,I,q⟩:=h;exact⟨σ',ah,I.l1,q⟩
 |cont=>obtain⟨σ',ah,I,q⟩:=h;exact⟨σ',ah,I.l1,q⟩
 |ret u=>obtain⟨v,σ',ah,I,r,q⟩:=h;exact⟨v,σ',ah,I.l1,r,q⟩
theorem h6.oR{st:List b_}{t:ew}(h:h6 X.oR st t):h6 X st t:=λ pins s σ H D I hw=>
 gw (h pins s σ H D (I.ke _) hw) (λ _ _ q=>q.l1) λ _ _ z=>False.elim z
end
section
variable{X:aQ}{st:b_}{rest:List b_}{t u:ew}{e:aY}{a0:TE}{pos:Pos}
noncomputable def zJ:ew:=λ D σ H=>D.nx σ H
noncomputable def zK(t u:ew):ew:=λ D σ H=>t {D with nx:=u D} σ H
theorem Fc:h6 X [] zJ:=λ _ _ σ H _ I h=>sy ⟨σ,H,I,h⟩
theorem Fd(ae:iy X st t)(ag:h6 X rest u):h6 X (st::rest) (zK t u):=by
 intro pins s σ H D I h;refine wpAny_execs_cons (bT (ae pins s σ H {D with nx:=u D} I h) λ f s1 q=>?_)
 cases f with
 | next=>
  obtain⟨σ',ah,i7,q⟩:=q;exact ag pins s1 σ' ah D i7 q
 |ret v=>exact q
 |brk=>exact q
 |cont=>exact q
theorem Fe(ae:iy X st t):h6 X [st] t:=by
 intro pins s σ H D I h;refine wpAny_execs_cons (bT (ae pins s σ H D I h) λ f s1 q=>?_)
 cases f with
 |next=>exact sy q
 |ret v=>exact q
 |brk=>exact q
 |cont=>exact q
theorem Inv.quiet{pins:List (Addr×Obj)}{σ:St}{H:am}{s:aw}(I:Inv X pins σ H s):interactive X.env=false:=by simp[interactive,I.ok.kind]
noncomputable def zL(a0:TE):ew:=λ D σ H=>a0 σ H λ _ H1=>D.nx σ H1
theorem Ff(he:bQ X e a0)(ar:jl e none pos.line X.env=pure false:=by rfl):iy X (.Expr e pos) (zL a0):=by
 intro pins s σ H D I h;refine wpAny_Expr_any (bT (he pins s σ H _ I h) λ v s1 xz=>?_) I.quiet ar;obtain⟨x,H1,aV,aG,aD⟩:=xz;exact⟨σ,H1,aV,aD⟩
noncomputable def zM(a0:TE):ew:=λ D σ H=>a0 σ H D.rt
theorem Fg(he:bQ X e a0):iy X (.Return (some e) pos) (zM a0):=by
 intro pins s σ H D I h;refine wpAny_Return_some (bT (he pins s σ H _ I h) λ v s1 xz=>?_);obtain⟨x,H1,aV,aG,aD⟩:=xz;exact⟨x,σ,H1,aV,aG,aD⟩
noncomputable def zN(c:TT)(t u:ew):ew:=λ D σ H=>c σ H λ b H1=>if b=true then t D σ H1 else u D σ H1
theorem Fh{c:aY}{a b:List b_}{bb:TT}(aA:ix X c bb)(az:h6 X a t)(af:h6 X b u):iy X (.If c a b pos) (zN bb t u):=by
 intro pins s σ H D I h;refine wpAny_If (bT (aA pins s σ H _ I h) λ d s1 xz=>?_);obtain⟨H1,aV,aD⟩:=xz
 cases d with
 |true=>exact az pins s1 σ H1 D aV aD
 |false=>exact af pins s1 σ H1 D aV aD
end
noncomputable abbrev eU:=V->St->am->(St->am->Prop)->Prop
noncomputable abbrev jr:=List V->St->am->(St->am->Prop)->Prop
noncomputable def js(X:aQ)(target:aY)(t:eU):Prop:=
 ∀(pins:List (Addr×Obj))(s:aw)(σ:St)(H:am)(v:V)(u:Value)(Q:St->am->Prop),Inv X pins σ H s->RelV v u->t v σ H Q →
  aT (a5 X.prog X.w) X.A (gI target X.env u) (λ _ av=>∃ σ' ah,Inv X pins σ' ah av/\Q σ' ah) X.xe s
noncomputable def qs(X:aQ)(eV:List aY)(t:jr):Prop:=
 ∀(pins:List (Addr×Obj))(s:aw)(σ:St)(H:am)(vs:List V)(us:List Value)(Q:St->am->Prop),Inv X pins σ H s->Vals vs us->t vs σ H Q →
  aT (a5 X.prog X.w) X.A (WP ((hi eV X.env).map (·.2)) us) (λ _ av=>∃ σ' ah,Inv X pins σ' ah av/\Q σ' ah) X.xe s
noncomputable abbrev qt:=V->V->V->am->(am->Prop)->Prop
noncomputable def vN(X:aQ)(t:qt):Prop:=
 ∀(pins:List (Addr×Obj))(s:aw)(σ:St)(H:am)(o i v:V)(dn fg u:Value)(Q:am->Prop),Inv X pins σ H s->RelV o dn->RelV i fg->RelV v u->t o i v H Q →
  aT (a5 X.prog X.w) X.A (p4 dn fg u) (λ _ av=>∃ ah,Inv X pins σ ah av/\Q ah) X.xe s
section
variable{X:aQ}{pos:Pos}
noncomputable def oS(i:Nat):eU:=λ v σ H Q=>Q (σ.set i (some v)) H
theorem Fi{i:Nat}{x:Str}(dg:X.N.Nodup)(au:X.N[i]?=some x)(ak:Loc X.env.scope x)(hf:X.fn x=true\/X.env.scope.names.lookup x=some .local:=by first|exact .inl rfl|exact .inr rfl|assumption):js X (.Name x pos) (oS i):=by
 intro pins s σ H v u Q I r h;exact wpAny_assign_Name (tm I dg au ak r (λ av i7=>⟨_,H,i7,h⟩) hf)
noncomputable def zO:jr:=λ vs σ H Q=>vs=[]/\Q σ H
noncomputable def zP(t:eU)(u:jr):jr:=λ vs σ H Q=>∃ v r,vs=v::r/\t v σ H λ σ' ah=>u r σ' ah Q
theorem Fj:qs X [] zO:=by
 intro pins s σ H vs us Q I r h;obtain⟨e,h⟩:=h;subst e;cases r;exact assignInOrder_nil ⟨σ,H,I,h⟩
theorem Fk{e:aY}{es:List aY}{t:eU}{u:jr}(ae:js X e t)(ag:qs X es u)
 (ar:(hi (e::es) X.env).map (·.2)=gI e X.env::(hi es X.env).map (·.2):=by rfl):qs X (e::es) (zP t u):=by
 intro pins s σ H vs us Q I r h;obtain⟨v,Pn,e1,h⟩:=h;subst e1
 cases r with
 | cons r bC=>
  rw[ar];refine vD (bT (ae pins s σ H _ _ _ I r h) λ _ s1 xz=>?_);obtain⟨σ1,H1,aV,aD⟩:=xz;exact ag pins s1 σ1 H1 _ _ Q aV bC aD
noncomputable def zQ(K:a4)(n:Nat)(t:jr):eU:=λ v σ H Q=>∃ a xs,v=.ref a/\dt K H a xs/\xs.length=n/\t xs σ H Q
theorem Fl{es:List aY}{k:Nat}{t:jr}{n:Nat}(aA:X.calm=true)(h:qs X es t)
 (aS:(hi es X.env).length=n:=by rfl) (qu:(hi es X.env).findIdx? (·.1)=none:=by rfl):js X (.Tuple es k pos) (zQ X.K n t):=by
 intro pins s σ H v u Q I r hw;obtain⟨a,xs,e1,aU,aB,hw⟩:=hw;subst e1;cases r;obtain⟨ao,aM,cA,hz⟩:=I.tuple aU;refine assign_Tuple_tuple (I.ok.hd aA) cA (by simp[aS,<- aB,aM.length]) qu λ h' ak=>?_;have aV:Inv X pins σ H {s with heap:=h'}:=I.kept (t':=s.toks) λ b o e=>ak b o (dJ (c7 e)) e;exact h pins _ σ H xs _ Q aV (by simpa using aM) hw
noncomputable def zR(to cV:TE)(t:qt):eU:=λ v σ H Q=>to σ H λ o H1=>cV σ H1 λ i aO=>t o i v aO λ b1=>Q σ b1
theorem Fm{o i:aY}{to cV:TE}{t:qt}(aJ:bQ X o to)(au:bQ X i cV)(ar:vN X t)
 (az:∀ v,gI (.Subscript o i pos) X.env v=(do
  let dn ← iX [v] (eval o X.env)
  let fg ← iX [v,dn] (eval i X.env)
  jX pos
  iX [v,dn,fg] (p4 dn fg v)
  release [v,dn,fg] []):=by intro _;rfl):js X (.Subscript o i pos) (zR to cV t):=by
 intro pins s σ H v u Q I r h;rw[az];refine ay (iT (bT (aJ pins s σ H _ I h) λ dn s1 xz=>?_));obtain⟨x,H1,aV,aG,aD⟩:=xz;refine ay (iT (bT (au pins s1 σ H1 _ aV aD) λ fg s2 xz=>?_));obtain⟨y,aO,cG,aR,bw⟩:=xz;refine ay (pY (ay (iT (bT (ar pins s2 σ aO x y v dn fg u _ cG aG aR r bw) λ _ s3 xz=>?_))));obtain⟨b1,c0,dd⟩:=xz;exact wpAny_release ⟨σ,b1,c0,dd⟩
noncomputable def oT(a0:TE)(g:eU):ew:=λ D σ H=>a0 σ H λ x H1=>g x σ H1 D.nx
theorem Fn{aX e:aY}{a0:TE}{g:eU}(he:bQ X e a0)(a8:js X aX g)(ar:pZ [aX] e pos.line X.env=pure false:=by rfl)(hw:p0 [aX] e X.env=pure none:=by rfl)
 (ae:(hi [aX] X.env).map (·.2)=[gI aX X.env]:=by rfl):iy X (.Assign [aX] e pos) (oT a0 g):=by
 intro pins s σ H D I h;refine wpAny_Assign_stores (bT (he pins s σ H _ I h) λ v s1 xz=>?_) ar hw;obtain⟨x,H1,aV,aG,aD⟩:=xz;rw[ae];exact bT (a8 pins s1 σ H1 x v _ aV aG aD) λ _ s2 q=>q
theorem Fo{i:Nat}{x:Str}{e:aY}{a0:TE}{pos':Pos}(dg:X.N.Nodup)(au:X.N[i]?=some x)(ak:Loc X.env.scope x)(he:bQ X e a0)(ar:jl e (some (.Name x pos')) pos.line X.env=pure false:=by rfl)(hf:X.fn x=true\/X.env.scope.names.lookup x=some .local:=by first|exact .inl rfl|exact .inr rfl|assumption) :
 iy X (.Assign [.Name x pos'] e pos) (oT a0 (oS i)):=by
 intro pins s σ H D I h;refine wpAny_Assign_Name (bT (he pins s σ H _ I h) λ v s1 xz=>?_) ar;obtain⟨y,H1,aV,aG,aD⟩:=xz;exact tm aV dg au ak aG (λ s2 cG=>⟨_,H1,cG,aD⟩) hf
noncomputable def Fp(i j:Nat)(bn:e3):ew:=λ D σ H=>bn σ H λ vs H1=>∃ v w,vs=[v,w]/\D.nx ((σ.set i (some v)).set j (some w)) H1
theorem Fq{i j:Nat}{x y:Str}{a b:aY}{bn:e3}{nc py pt:Pos} {kt b2 nd} (aA:X.calm=true) (dg:X.N.Nodup) (au:X.N[i]?=some x) (bm:X.N[j]?=some y) (gh:i≠j)
 (ak:X.env.scope.names.lookup x=some .local) (a9:X.env.scope.names.lookup y=some .local) (az:hD X [a,b] bn)
 (hw:p0 [.Tuple [.Name x nc,.Name y py] kt pt] (.Tuple [a,b] b2 nd) X.env=pure (some [x,y]))
 (ar:pZ [.Tuple [.Name x nc,.Name y py] kt pt] (.Tuple [a,b] b2 nd) pos.line X.env=pure false:=by rfl) :
 iy X (.Assign [.Tuple [.Name x nc,.Name y py] kt pt] (.Tuple [a,b] b2 nd) pos) (Fp i j bn):=by
 intro pins s σ H D I h;rw[exec_Assign_arm];refine ay (pY ?_);rw[ar];refine ay (bq ?_);rw[if_neg (by decide)];refine ay (Tuple_ (bT (az _ pins s σ H _ I h) λ us s1 xz=>?_));obtain⟨vs,H1,aV,aG,aD⟩:=xz;obtain⟨v,w,e1,aD⟩:=aD;subst e1
 obtain⟨cW,d6,rfl,aM,hE⟩:∃ cW d6,us=[cW,d6]/\RelV v cW/\RelV w d6:=by
  cases aG with
  | cons p q=>
   cases q with
   | cons nf fO=>
    cases fO;exact⟨_,_,rfl,p,nf⟩
 refine gY ?_ (by show 2<=sizeLine;decide);have cG:Inv X pins σ H1 {s1 with heap:=s1.heap.push {cls:=.type "tuple",data:=.seq [cW,d6].toArray}}:=aV.kept (t':=s1.toks) λ b o e=>dA _ e;rw[hw];refine ay (bq ?_);show aT (a5 X.prog X.w) X.A (do rule "assign.swapped-stores"; let items ← unpackItems (.ref s1.heap.objs.size) 2 none;WP [λ v=>bindName X.env y v,λ v=>bindName X.env x v] items.reverse;pure Flow.next) _ _ _;refine ay (p1 (ay (unpackItems_tuple (items:=#[cW,d6]) (I.ok.hd aA) (IsTup.new s1.heap _) λ h' dV=>?_)));have c0:=cG.kept (h':=h') (t':=s1.toks) λ b o e=>dV b o (dJ (c7 e)) e;show aT _ _ (WP [λ v=>bindName X.env y v,λ v=>bindName X.env x v] [d6,cW] >>= λ _=>pure Flow.next) _ _ _;refine ay (vD (wpAny_bindName (tm c0 dg bm (.inl a9) hE (λ s2 eI=>?_) (.inr a9))));refine vD (wpAny_bindName (tm eI dg au (.inl ak) aM (λ s3 jt=>assignInOrder_nil (bq ?_)) (.inr ak)));rw[List.set_comm _ _ (Ne.symm gh)]at jt;exact⟨_,H1,jt,aD⟩
end
section
variable{X:aQ}{pos:Pos}
noncomputable def zS(c:TT)(bW:ew):ew:=λ D σ H=>∃ W:Nat->St->am->Prop,(∃ m,W m σ H)/\∀ m σ H,W m σ H →
 c σ H λ b H1=>if b=true then ∃ N:St->am->Prop,(∀ σ' ah,N σ' ah->∃ cP,cP<m/\W cP σ' ah)/\bW {D with nx:=N,ct:=N,bk:=D.nx} σ H1 else D.nx σ H1
theorem Fs{c:aY}{body:List b_}{bb:TT}{bW:ew}(ai:ot (a5 X.prog X.w) X.A X.env X.xe)(aA:ix X c bb)(af:h6 X body bW):iy X (.While c body [] pos) (zS bb bW):=by
 intro pins s σ H D I h;obtain⟨W,⟨m0,l2⟩,turn⟩:=h;refine wpAny_While (codeAny_whileLoop (λ n av=>∃ σ' ah,Inv X pins σ' ah av/\W n σ' ah) ?_ m0 ⟨σ,H,I,l2⟩);rintro n s1 ⟨σ1,H1,aV,l3⟩;refine XL ai (bT (aA pins s1 σ1 H1 _ aV (turn n σ1 H1 l3)) λ b s2 xz=>?_);obtain⟨aO,cG,bw⟩:=xz
 cases b with
 | true=>
  obtain⟨N,dg,bw⟩:=bw;rw[if_pos rfl];refine XL ai (bT (af pins s2 σ1 aO _ cG bw) λ f s3 dd=>?_)
  cases f with
  | next=>
   obtain⟨σ3,b1,c0,vO⟩:=dd;obtain⟨cP,hm,qv⟩:=dg σ3 b1 vO;exact⟨cP,hm,σ3,b1,c0,qv⟩
  | cont=>
   obtain⟨σ3,b1,c0,vO⟩:=dd;obtain⟨cP,hm,qv⟩:=dg σ3 b1 vO;exact⟨cP,hm,σ3,b1,c0,qv⟩
  |brk=>exact dd
  |ret v=>exact dd
 | false=>
  rw[if_neg i0];exact sy ⟨σ1,aO,cG,bw⟩
end
structure hF where
 go:Nat->am->Prop
 kf:Nat->am->V->am->Prop
 stop:Nat->am->Prop
noncomputable def hG(X:aQ)(pins:List (Addr×Obj))(H:am)(b:Addr):Prop:=
 H b=none/\b≠X.env.locals/\b ∉ X.bl/\(b∈X.ex\/X.s₀.heap.objs.size<=b)/\(∀ x c,X.env.cells.lookup x=some c->c≠b)/\∀ p∈X.pn++pins,p.1≠b
theorem Inv.kg{X:aQ}{pins:List (Addr×Obj)}{σ:St}{H ah:am}{s:aw}{b:Addr}(I:Inv X pins σ H s)(af:s.heap.objs.size<=b)(aS:ah b=none):hG X pins ah b:=by
 refine⟨aS,qg (fS I.lt af),I.ER af,.inr (gZ I.gO af),λ x c e z=>?_,λ p ai z=>?_⟩
 ·obtain⟨v,q⟩:=I.cell x c e;exact absurd (fS q.lt (by rw[z];exact af)) (m1 _)
 ·exact absurd (fS (c7 (I.pin p ai).1) (by rw[z];exact af)) (m1 _)
structure Turn(P:bX)(w:bJ)(K:a4)(aX:aY)(J:hF)(fp:List Addr)(it:Addr)(g5:Nat->bF->Prop):Prop where
 mem:it∈fp
 obj:∀ i h,g5 i h->∀ b∈fp,∃ o,h.get? b=some o/\∀ v,o.data≠.cell v
 keep:∀ i h h',g5 i h->(∀ b∈fp,∀ o,h.get? b=some o->h'.get? b=some o)->g5 i h'
 item:∀(X:aQ),X.prog=P->X.w=w->X.K=K->X.calm=true->∀(i:Nat)(pins:List (Addr×Obj))(s:aw)(σ:St)(H:am)(E:Value->aw->Prop),Inv X pins σ H s->(∀ b∈fp,hG X pins H b)->g5 i s.heap->J.go i H →
  aT (a5 P w) X.A (gJ (.ref it)) (λ r s1=>∃ u,r=some u ∧
   aT (a5 P w) X.A (mP aX (.ref it) u) (λ _ s2=>∃ x ah,Inv X pins σ ah s2/\RelV x u/\J.kf i H x ah/\g5 (i+1) s2.heap/\∀ b∈fp,ah b=none) E s1) E s
 done:∀(X:aQ),X.prog=P->X.w=w->X.K=K->X.calm=true->∀(i:Nat)(pins:List (Addr×Obj))(s:aw)(σ:St)(H:am)(E:Value->aw->Prop),Inv X pins σ H s->(∀ b∈fp,hG X pins H b)->g5 i s.heap->J.stop i H →
  aT (a5 P w) X.A (gJ (.ref it)) (λ r s1=>r=none/\Inv X pins σ H s1) E s
 self:∀(A:cg)(i:Nat)(s:aw)(Q:Value->aw->Prop)(E:Value->aw->Prop),g5 i s.heap->Q (.ref it) s->aT (a5 P w) A (lK (.ref it)) Q E s
noncomputable abbrev TI:=St->am->(hF->am->Prop)->Prop
noncomputable def qw(X:aQ)(pins:List (Addr×Obj))(σ:St)(aX:aY)(R:hF->am->Prop)(l4:Value)(s2:aw):Prop:=
 ∃(it:Addr)(fp:List Addr)(g5:Nat->bF->Prop)(J:hF)(ah:am),l4=.ref it/\Inv X pins σ ah s2/\Turn X.prog X.w X.K aX J fp it g5/\g5 0 s2.heap/\(∀ b∈fp,hG X pins ah b)/\R J ah
noncomputable def i8(X:aQ)(aX iter:aY)(cy:TI):Prop:=
 ∀(pins:List (Addr×Obj))(s:aw)(σ:St)(H:am)(R:hF->am->Prop),Inv X pins σ H s->cy σ H R →
  aT (a5 X.prog X.w) X.A (eval iter X.env) (λ v s1=>aT (a5 X.prog X.w) X.A (lK v) (qw X pins σ aX R) X.xe s1) X.xe s
theorem qx{M:Model}{A:cg}{E:Value->aw->Prop}{s:aw}{aX:aY}{it:Addr}{u:Value}{o:Obj}{n:String}{vs:Array Value}{Q:Unit->aw->Prop}(aJ:s.heap.get? it=some o)(aA:o.cls=.type n)(hd:o.data=.fields vs)
 (aS:["enumerate","zip","dict_itemiterator","dict_reverseitemiterator","odict_iterator","itertools.zip_longest","itertools.pairwise"].contains n=false) (g0:Q () s):aT M A (mP aX (.ref it) u) Q E s:=by
 unfold mP
 cases aX<;>first
  |exact bq g0
  | (cases u<;>first
      |exact bq g0
      | (refine ay (wpAny_load aJ ?_)
         rw[aA,hd];show aT M A (if (["enumerate","zip","dict_itemiterator","dict_reverseitemiterator","odict_iterator","itertools.zip_longest","itertools.pairwise"].contains n&&vs[0]?==some (gd _))=true then _ else _) Q E s;rw[if_neg (by intro h;rw[aS,Bool.false_and]at h;cases h)]
         exact bq g0))
noncomputable def qy(K:a4)(a:Addr):hF:=
 ⟨λ i H=>∃ xs x,dO K H a xs/\xs[i]?=some x,λ i H x ah=>ah=H/\∀ xs,dO K H a xs->xs[i]?=some x,λ i H=>∃ xs,dO K H a xs/\xs.length<=i⟩
noncomputable def qz(K:a4)(a:Addr):hF:=
 ⟨λ i H=>∃ xs x,dt K H a xs/\xs[i]?=some x,λ i H x ah=>ah=H/\∀ xs,dt K H a xs->xs[i]?=some x,λ i H=>∃ xs,dt K H a xs/\xs.length<=i⟩
noncomputable def ng(lo:Int)(n:Nat):hF:=⟨λ i _=>i<n,λ i H x ah=>ah=H/\x=.int (lo+i),λ i _=>n<=i⟩
theorem Ft{P:bX}{w:bJ}{K:a4}{aX:aY}(a it:Addr):Turn P w K aX (qy K a) [it] it (λ i h=>h.IsListIter it a i) where
 mem:=by simp
 obj:=λ i h st b af=>by
  have e:b=it:=by simpa using af
  subst e;obtain⟨o,e,c,d⟩:=st;exact⟨o,e,λ v z=>by rw[d]at z;cases z⟩
 keep:=λ i h h' st k=>st.at λ o e=>k it (by simp) o e
 item:=by
  intro X cH hw ed aA i pins s σ H E I hf st a8;subst cH hw ed;obtain⟨xs,x,aU,ak⟩:=a8;obtain⟨ao,aM,p,hz⟩:=I.list aU;obtain⟨u,bg,cD⟩:=aM.get ak;obtain⟨f0,f1,f2,dp,f4,e4⟩:=hf it (by simp);refine wpAny_pyNext_list_item st p.isList (x:=u) (by simpa using bg) λ h' fU h7=>?_;have aV:Inv X pins σ H {s with heap:=h'}:=I.turned (t':=s.toks) (λ b o af e=>(h7.2 b af).trans e) f0 f1 dp f4 e4;obtain⟨o,e,c,d⟩:=id fU;exact⟨u,rfl,qx (s:={s with heap:=h'}) e c d (by decide) ⟨x,H,aV,cD,⟨rfl,λ ys a9=>by rw[I.Fb a9 aU];exact ak⟩,fU,λ b af=>(hf b af).1⟩⟩
 done:=by
  intro X cH hw ed aA i pins s σ H E I hf st a8;subst cH hw ed;obtain⟨xs,aU,ak⟩:=a8;obtain⟨ao,aM,p,hz⟩:=I.list aU;obtain⟨f0,f1,f2,dp,f4,e4⟩:=hf it (by simp);have aB:=aM.length
  exact wpAny_pyNext_list_end (I.ok.hd aA) st p.isList (by simp;omega) λ h' dG=>⟨rfl,I.turned (t':=s.toks) (λ b o af e=>dG b o af e) f0 f1 dp f4 e4⟩
 self:=λ _ _ _ _ _ st h=>wpAny_pyIter_listiter st h
theorem Fu{P:bX}{w:bJ}{K:a4}{aX:aY}(a it:Addr):Turn P w K aX (qz K a) [it] it (λ i h=>h.IsTupleIter it a i) where
 mem:=by simp
 obj:=λ i h st b af=>by
  have e:b=it:=by simpa using af
  subst e;obtain⟨o,e,c,d⟩:=st;exact⟨o,e,λ v z=>by rw[d]at z;cases z⟩
 keep:=λ i h h' st k=>st.at λ o e=>k it (by simp) o e
 item:=by
  intro X cH hw ed aA i pins s σ H E I hf st a8;subst cH hw ed;obtain⟨xs,x,aU,ak⟩:=a8;obtain⟨ao,aM,p,hz⟩:=I.tuple aU;obtain⟨u,bg,cD⟩:=aM.get ak;obtain⟨f0,f1,f2,dp,f4,e4⟩:=hf it (by simp);refine wpAny_pyNext_tuple_item st (show s.heap.IsTuple a ao.toArray from p) (x:=u) (by simpa using bg) λ h' fU h7=>?_;have aV:Inv X pins σ H {s with heap:=h'}:=I.turned (t':=s.toks) (λ b o af e=>(h7.2 b af).trans e) f0 f1 dp f4 e4;obtain⟨o,e,c,d⟩:=id fU;exact⟨u,rfl,qx (s:={s with heap:=h'}) e c d (by decide) ⟨x,H,aV,cD,⟨rfl,λ ys a9=>by rw[I.tp a9 aU];exact ak⟩,fU,λ b af=>(hf b af).1⟩⟩
 done:=by
  intro X cH hw ed aA i pins s σ H E I hf st a8;subst cH hw ed;obtain⟨xs,aU,ak⟩:=a8;obtain⟨ao,aM,p,hz⟩:=I.tuple aU;obtain⟨f0,f1,f2,dp,f4,e4⟩:=hf it (by simp);have aB:=aM.length
  exact wpAny_pyNext_tuple_end (I.ok.hd aA) st (show s.heap.IsTuple a ao.toArray from p) (by simp;omega) λ h' dG=>⟨rfl,I.turned (t':=s.toks) (λ b o af e=>dG b o af e) f0 f1 dp f4 e4⟩
 self:=λ _ _ _ _ _ st h=>wpAny_pyIter_tupleiter st h
theorem Fv{P:bX}{w:bJ}{K:a4}{aX:aY}(it:Addr)(lo:Int)(n:Nat):Turn P w K aX (ng lo n) [it] it (λ i h=>IsRangeIter h it (lo+(i:Nat) * 1) ((n:Int) - (i:Nat)) 1) where
 mem:=by simp
 obj:=λ i h st b af=>by
  have e:b=it:=by simpa using af
  subst e
  exact⟨_,st,λ v z=>by
   have h5:Data.fields _=Data.cell v:=z
   cases h5⟩
 keep:=λ i h h' st k=>k it (by simp) _ st
 item:=by
  intro X cH hw ed aA i pins s σ H E I hf st a8;subst cH hw ed;obtain⟨f0,f1,f2,dp,f4,e4⟩:=hf it (by simp);have W:=Walks.range (prog:=X.prog) (w:=X.w) (I.ok.hd aA) it lo 1 n;refine W.item i s _ _ a8 st λ v h' bM bh fU e5=>?_;obtain⟨t,rfl⟩:=bh;have aV:Inv X pins σ H {s with heap:=h',toks:=bM}:=I.turned (λ b o af e=>e5 b o (by simpa using af) e) f0 f1 dp f4 e4;refine⟨_,rfl,qx (s:={s with heap:=h',toks:=bM}) (n:="range_iterator") fU rfl rfl (by decide) ⟨.int (lo+i),H,aV,⟨t,?_⟩,⟨rfl,rfl⟩,fU,λ b af=>(hf b af).1⟩⟩;rw[Int.mul_one]
 done:=by
  intro X cH hw ed aA i pins s σ H E I hf st a8;subst cH hw ed;obtain⟨f0,f1,f2,dp,f4,e4⟩:=hf it (by simp)
  exact wpAny_pyNext_range_end (I.ok.hd aA) st (by have:n<=i:=a8;omega) λ h' dG=>⟨rfl,I.turned (t':=s.toks) (λ b o af e=>dG b o af e) f0 f1 dp f4 e4⟩
 self:=λ _ _ _ _ _ st h=>wpAny_pyIter_rangeiter st h
section
variable{X:aQ}{aX:aY}
theorem zT{pins:List (Addr×Obj)}{σ:St}{H:am}{s:aw}{R:hF->am->Prop}{E:Value->aw->Prop}{lo au:Int}{t u v:Tok}{bM:Nat}(I:Inv X pins σ H s)(ae:-(2 ^ 62)<=lo)(ag:lo<2 ^ 62)(bc:-(2 ^ 62)<=au)(cj:au<2 ^ 62)
 (q:R (ng lo (au - lo).toNat) H):aT (a5 X.prog X.w) X.A (lK (.ref s.heap.objs.size)) (qw X pins σ aX R) E {s with heap:=s.heap.push {cls:=.type "range",data:=.fields #[.int lo t,.int au u,.int 1 v]},toks:=bM}:=by
 refine wpAny_pyIter_range (IsRange.new ..) (small_one ae ag bc cj) ?_;have aV:Inv X pins σ H {s with heap:=s.heap.push {cls:=.type "range",data:=.fields #[.int lo t,.int au u,.int 1 v]},toks:=bM}:=I.kept λ b o e=>dA _ e
 refine⟨(s.heap.push {cls:=.type "range",data:=.fields #[.int lo t,.int au u,.int 1 v]}).objs.size,[(s.heap.push {cls:=.type "range",data:=.fields #[.int lo t,.int au u,.int 1 v]}).objs.size],_,_,H,rfl,
  aV.kept (t':=bM) λ b o e=>dA _ e,Fv _ lo (au - lo).toNat,?_,λ b af=>?_,q⟩
 ·have e1:lo+((0:Nat):Int) * 1=lo:=by simp
  have aP:(((au - lo).toNat:Nat):Int) - ((0:Nat):Int)=Builtin.Range.rangeSize lo au 1:=by rw[rangeSize_one];split<;>omega
  show IsRangeIter _ _ (lo+((0:Nat):Int) * 1) ((((au - lo).toNat:Nat):Int) - ((0:Nat):Int)) 1;rw[e1,aP];exact fc _ rfl
 ·have e:b=(s.heap.push {cls:=.type "range",data:=.fields #[.int lo t,.int au u,.int 1 v]}).objs.size:=by simpa using af
  subst e;exact aV.kg (b6 _) (aV.bj.fresh (b6 _))
noncomputable def zU(bn:e3):TI:=λ σ H R=>bn σ H λ vs H1=>∃ j:Int,vs=[.int j]/\-(2 ^ 62)<=j/\j<2 ^ 62/\R (ng 0 j.toNat) H1
noncomputable def zV(bn:e3):TI:=λ σ H R=>bn σ H λ vs H1=>∃ i j:Int,vs=[.int i,.int j]/\(-(2 ^ 62)<=i/\i<2 ^ 62/\-(2 ^ 62)<=j/\j<2 ^ 62)/\R (ng i (j - i).toNat) H1
theorem Fw{a:aY}{bn:e3}{p pos:Pos}(a8:eb X "range")(hm:X.mg "range"=none)(az:hD X [a] bn)(ar:ek [a] X.env=[(false,eval a X.env)]:=by rfl):i8 X aX (.Call (.Name "range" p) [a] [] pos) (zU bn):=by
 intro pins s σ H R I h;refine Call_ (m_ I a8 hm boot_range (tb (bT (az pos pins s σ H _ I h) λ us s1 xz=>?_) ar rfl));obtain⟨vs,H1,aV,aG,aD⟩:=xz;obtain⟨j,e,aD,bw,q⟩:=aD;subst e
 cases aG with
 | cons r bC=>
  cases bC;obtain⟨t,rfl⟩:=r;exact call_range_1 (zT aV (by omega) (by omega) aD bw (by simpa using q))
theorem Fx{a b:aY}{bn:e3}{p pos:Pos}(a8:eb X "range")(hm:X.mg "range"=none)(az:hD X [a,b] bn)(ar:ek [a,b] X.env=[(false,eval a X.env),(false,eval b X.env)]:=by rfl)(hl:ek [b] X.env=[(false,eval b X.env)]:=by rfl) :
 i8 X aX (.Call (.Name "range" p) [a,b] [] pos) (zV bn):=by
 intro pins s σ H R I h;refine Call_ (m_ I a8 hm boot_range (tb (bT (az pos pins s σ H _ I h) λ us s1 ⟨vs,H1,aV,aG,aD⟩=>?_) (by rw[ar,hl]) (by rw[hl];rfl)));obtain⟨i,j,e,⟨aD,bw,dd,ey⟩,q⟩:=aD;subst e
 cases aG with
 | cons r bC=>
  cases bC with
  | cons bK bC=>
   cases bC;obtain⟨t,rfl⟩:=r;obtain⟨t',rfl⟩:=bK;exact call_range_2 (zT aV aD bw dd ey q)
noncomputable def zW(cy:TI)(g:eU)(bW:ew):ew:=λ D σ H=>cy σ H λ J H1=>∃ W:Nat->Nat->St->am->Prop,(∃ m,W 0 m σ H1)/\∀ i m σ H,W i m σ H →
 (J.stop i H/\D.nx σ H)\/(J.go i H/\∃ N:St->am->Prop,(∀ σ' ah,N σ' ah->∃ cP,cP<m/\W (i+1) cP σ' ah)/\∀ x ah,J.kf i H x ah->g x σ ah λ σ2 aO=>bW {D with nx:=N,ct:=N,bk:=D.nx} σ2 aO)
noncomputable def tq(fp:List Addr)(h:bF):List (Addr×Obj):=fp.filterMap λ b=>(h.get? b).map λ o=>(b,o)
theorem oU{fp:List Addr}{h:bF}{b:Addr}{o:Obj}(af:b∈fp)(e:h.get? b=some o):(b,o)∈tq fp h:=List.mem_filterMap.mpr ⟨b,af,by rw[e];rfl⟩
theorem Fy{fp:List Addr}{h:bF}{p:Addr×Obj}(ai:p∈tq fp h):p.1∈fp/\h.get? p.1=some p.2:=by
 obtain⟨b,af,e⟩:=List.mem_filterMap.mp ai
 cases q:h.get? b with
 |none=>rw[q]at e;cases e
 | some o=>
  rw[q]at e;have bz:(b,o)=p:=eH.inj e;subst bz;exact⟨af,q⟩
theorem Inv.pinned{pins:List (Addr×Obj)}{σ:St}{H:am}{s:aw}{fp:List Addr}(I:Inv X pins σ H s)(hf:∀ b∈fp,hG X pins H b)(aJ:∀ b∈fp,∃ o,s.heap.get? b=some o/\∀ v,o.data≠.cell v):Inv X (pins++tq fp s.heap) σ H s:=
 I.oP λ p ai=>(fL.mp ai).elim (λ z=>I.pin p (dc _ z)) λ z=>by
  obtain⟨af,e⟩:=Fy z;obtain⟨f0,f1,f2,_⟩:=hf p.1 af;obtain⟨o,bz,d⟩:=aJ p.1 af;rw[e]at bz;cases bz;exact⟨e,f0,f1,f2,d⟩
theorem Inv.kW{pins cS:List (Addr×Obj)}{σ:St}{H:am}{s:aw}(I:Inv X (pins++cS) σ H s):Inv X pins σ H s:=I.oP λ p ai=>I.pin p (dc _ (sN _ ai))
theorem Fz{iter:aY}{body:List b_}{cy:TI}{g:eU}{bW:ew}{pos:Pos}(ai:ot (a5 X.prog X.w) X.A X.env X.xe)(aA:X.calm=true)(au:i8 X aX iter cy)(a8:js X aX g)(af:h6 X body bW)
 (ar:∀ x,iQ iter X.env x=pure x:=by intro _;rfl):iy X (.For aX iter body [] pos) (zW cy g bW):=by
 intro pins s σ H D I h;refine wpAny_For (bT (au pins s σ H _ I h) λ v s1 ae=>bT ae λ l4 s2 ag=>?_) ar;obtain⟨it,fp,g5,J,aO,e,cG,T,tr,f2,W,⟨m0,l2⟩,turn⟩:=ag;subst e
 have nh:∀{ah:am},(∀ b∈fp,ah b=none)->∀ b∈fp,hG X pins ah b:=λ aS b af=>⟨aS b af,(f2 b af).2⟩
 refine codeAny_forLoop_any (λ n av=>∃ i σ' ah,Inv X pins σ' ah av/\g5 i av.heap/\(∀ b∈fp,ah b=none)/\W i n σ' ah) ?_ m0 ⟨0,σ,aO,cG,tr,λ b af=>(f2 b af).1,l2⟩;rintro n s3 ⟨i,σ3,b1,c0,qA,zX,qv⟩;rcases turn i n σ3 b1 qv with⟨stop,vP⟩|⟨go,N,dg,step⟩
 ·refine XL ai (bT (T.done X rfl rfl rfl aA i pins s3 σ3 b1 X.xe c0 (nh zX) qA stop) λ r s4 xz=>?_);obtain⟨aH,eI⟩:=xz;subst aH;exact sy ⟨σ3,b1,eI,vP⟩
 ·refine XL ai (bT (T.item X rfl rfl rfl aA i pins s3 σ3 b1 X.xe c0 (nh zX) qA go) λ r s4 xz=>?_);obtain⟨u,aH,cj⟩:=xz;subst aH;refine XL ai (bT cj λ _ s5 xz=>?_);obtain⟨x,hn,jt,qB,FA,oV,ts⟩:=xz;have FB:=jt.pinned (nh ts) (T.obj _ _ oV);refine XL ai (bT (a8 _ s5 σ3 hn x u _ FB qB (step x hn FA)) λ _ fh xz=>?_);obtain⟨σ6,FC,kh,FD⟩:=xz;refine XL ai (bT (af _ fh σ6 FC _ kh FD) λ f h8 ju=>?_)
  have gK:∀{σ7:St}{g6:am},Inv X (pins++tq fp s5.heap) σ7 g6 h8->N σ7 g6->∃ m,m<n/\∃ i σ' ah,Inv X pins σ' ah h8/\g5 i h8.heap/\(∀ b∈fp,ah b=none)/\W i m σ' ah:=λ{σ7 g6} iz qC=>by
   obtain⟨cP,hm,FE⟩:=dg σ7 g6 qC;refine⟨cP,hm,i+1,σ7,g6,iz.kW,T.keep _ _ _ oV λ b af o e=>(iz.pin (b,o) (dc _ (dc _ (oU af e)))).1,λ b af=>?_,FE⟩;obtain⟨o,e,d⟩:=T.obj _ _ oV b af;exact(iz.pin (b,o) (dc _ (dc _ (oU af e)))).2.1
  cases f with
  |next=>obtain⟨σ7,g6,iz,qC⟩:=ju;exact gK iz qC
  |cont=>obtain⟨σ7,g6,iz,qC⟩:=ju;exact gK iz qC
  |brk=>obtain⟨σ7,g6,iz,ju⟩:=ju;exact⟨σ7,g6,iz.kW,ju⟩
  |ret v=>obtain⟨FF,σ7,g6,iz,ni,ju⟩:=ju;exact⟨FF,σ7,g6,iz.kW,ni,ju⟩
end
noncomputable abbrev dQ:=V->V->am->b7->Prop
noncomputable def c4(X:aQ)(f:Value->Value->Sem Value)(r:dQ):Prop:=
 ∀(pins:List (Addr×Obj))(s:aw)(σ:St)(H:am)(x y:V)(v u:Value)(Q:b7),Inv X pins σ H s->RelV x v->RelV y u->r x y H Q →
  aT (a5 X.prog X.w) X.A (f v u) (fP X pins σ Q) X.xe s
noncomputable def tt(X:aQ)(f:Value->Sem Value)(r:V->am->b7->Prop):Prop:=
 ∀(pins:List (Addr×Obj))(s:aw)(σ:St)(H:am)(x:V)(v:Value)(Q:b7),Inv X pins σ H s->RelV x v->r x H Q →
  aT (a5 X.prog X.w) X.A (f v) (fP X pins σ Q) X.xe s
noncomputable def gP(X:aQ)(f:Value)(r:List V->am->b7->Prop):Prop:=
 ∀(pins:List (Addr×Obj))(s:aw)(σ:St)(H:am)(xs:List V)(us:List Value)(Q:b7),Inv X pins σ H s->Vals xs us->r xs H Q →
  aT (a5 X.prog X.w) X.A (call f us) (fP X pins σ Q) X.xe s
noncomputable def FG(X:aQ)(r:V->am->(Bool->am->Prop)->Prop):Prop:=
 ∀(pins:List (Addr×Obj))(s:aw)(σ:St)(H:am)(x:V)(v:Value)(Q:Bool->am->Prop),Inv X pins σ H s->RelV x v->r x H Q →
  aT (a5 X.prog X.w) X.A (truthy v) (tn X pins σ Q) X.xe s
noncomputable def l5(r:dQ)(bn bW:TE):TE:=λ σ H Q=>bn σ H λ x H1=>bW σ H1 λ y aO=>r x y aO Q
noncomputable def zY(r:V->am->b7->Prop)(bn:TE):TE:=λ σ H Q=>bn σ H λ x H1=>r x H1 Q
noncomputable def oW(C:Int->Int->Prop)(g:Int->Int->V):dQ:=λ x y H Q=>∃ i j,x=.int i/\y=.int j/\C i j/\Q (g i j) H
noncomputable def kX(g:Int->Int->V):dQ:=λ x y H Q=>∃ i j,x=.int i/\y=.int j/\Q (g i j) H
noncomputable def zZ(g:Int->V):V->am->b7->Prop:=λ x H Q=>∃ i,x=.int i/\Q (g i) H
section
variable{X:aQ}{a b c:aY}{bn bW bb:TE}{pos:Pos}
theorem vQ(az:bQ X a bn)(af:bQ X b bW){pins:List (Addr×Obj)}{s:aw}{σ:St}{H:am}{R:V->V->am->Prop}(I:Inv X pins σ H s)
 (h:bn σ H λ x H1=>bW σ H1 λ y aO=>R x y aO) {Q:Value->aw->Prop} {f:Value->Value->Sem Value}
 (hf:∀ v u s2 x y aO,Inv X pins σ aO s2->RelV x v->RelV y u->R x y aO->aT (a5 X.prog X.w) X.A (f v u) Q X.xe s2) :
 aT (a5 X.prog X.w) X.A (eval a X.env) (λ v c3=>aT (a5 X.prog X.w) X.A (eval b X.env) (λ u l0=>aT (a5 X.prog X.w) X.A (f v u) Q X.xe l0) X.xe c3) X.xe s:=by
 refine bT (az pins s σ H _ I h) λ v s1 xz=>?_;obtain⟨x,H1,aV,aG,aD⟩:=xz;refine bT (af pins s1 σ H1 _ aV aD) λ u s2 xz=>?_;obtain⟨y,aO,cG,aR,bw⟩:=xz;exact hf v u s2 x y aO cG aG aR bw
theorem FH{op:Operator}{r:dQ}(aJ:c4 X (gc op) r)(az:bQ X a bn)(af:bQ X b bW):bQ X (.BinOp a op b pos) (l5 r bn bW):=by
 intro pins s σ H Q I h;exact wpAny_BinOp (vQ az af I h λ v u s2 x y aO cG a6 bA q=>aJ pins s2 σ aO x y v u Q cG a6 bA q)
theorem FI{op:UnaryOp}{r:V->am->b7->Prop}(aJ:tt X (p5 op) r)(az:bQ X a bn):bQ X (.UnaryOp op a pos) (zY r bn):=by
 intro pins s σ H Q I h;refine UnaryOp_ (bT (az pins s σ H _ I h) λ v s1 xz=>?_);obtain⟨x,H1,aV,aG,aD⟩:=xz;exact aJ pins s1 σ H1 x v Q aV aG aD
theorem tu{f:Value->Value->Sem Value}{C:Int->Int->Prop}{g:Int->Int->Int}
 (rule:∀(i j:Int)(t u:Tok)(s:aw)(Q:Value->aw->Prop)(E:Value->aw->Prop),C i j->Q (.int (g i j) s.toks) {s with toks:=s.toks+1}->aT (a5 X.prog X.w) X.A (f (.int i t) (.int j u)) Q E s) :
 c4 X f (oW C λ i j=>.int (g i j)):=by
 intro pins s σ H x y v u Q I a6 bA h;obtain⟨i,j,rfl,rfl,aA,q⟩:=h;obtain⟨t,rfl⟩:=a6;obtain⟨t',rfl⟩:=bA;exact rule i j t t' s _ _ aA ⟨.int (g i j),H,I.tok _,⟨_,rfl⟩,q⟩
theorem z0{f:Value->Value->Sem Value}{g:Int->Int->Int}
 (rule:∀(i j:Int)(t u:Tok)(s:aw)(Q:Value->aw->Prop)(E:Value->aw->Prop),Q (.int (g i j) s.toks) {s with toks:=s.toks+1}->aT (a5 X.prog X.w) X.A (f (.int i t) (.int j u)) Q E s) :
 c4 X f (kX λ i j=>.int (g i j)):=by
 intro pins s σ H x y v u Q I a6 bA h;obtain⟨i,j,rfl,rfl,q⟩:=h;obtain⟨t,rfl⟩:=a6;obtain⟨t',rfl⟩:=bA;exact rule i j t t' s _ _ ⟨.int (g i j),H,I.tok _,⟨_,rfl⟩,q⟩
theorem vR{f:Value->Value->Sem Value}{g:Int->Int->Bool}
 (rule:∀(i j:Int)(t u:Tok)(s:aw)(Q:Value->aw->Prop)(E:Value->aw->Prop),Q (.bool (g i j)) s->aT (a5 X.prog X.w) X.A (f (.int i t) (.int j u)) Q E s) :
 c4 X f (kX λ i j=>.aW (g i j)):=by
 intro pins s σ H x y v u Q I a6 bA h;obtain⟨i,j,rfl,rfl,q⟩:=h;obtain⟨t,rfl⟩:=a6;obtain⟨t',rfl⟩:=bA;exact rule i j t t' s _ _ ⟨.aW (g i j),H,I,rfl,q⟩
noncomputable def z1(i j:Int):Prop:=0<=j/\j<=1000000/\i.natAbs<2 ^ 64
noncomputable def tv(i j:Int):Prop:=(-(2 ^ 64)<i/\i<2 ^ 64)\/(-(2 ^ 64)<j/\j<2 ^ 64)
theorem tv.ok{i j:Int}(h:tv i j):IntMulOk i j:=by
 rcases h with⟨ae,ag⟩|⟨ae,ag⟩
 ·exact .of_left (intBits_le_64 ae ag)
 ·exact .of_right (intBits_le_64 ae ag)
theorem FJ:c4 X (gc .Add) (kX λ i j=>.int (i+j)):=z0 λ _ _ _ _ _ _ _ q=>add_int q
theorem FK:c4 X (gc .Sub) (kX λ i j=>.int (i - j)):=z0 λ _ _ _ _ _ _ _ q=>sub_int q
theorem FL:c4 X (gc .Mult) (oW tv λ i j=>.int (i * j)):=tu λ _ _ _ _ _ _ _ aA q=>mul_int q aA.ok
theorem FM:c4 X (gc .Mod) (oW (λ _ j=>0<j) λ i j=>.int (i % j)):=tu λ i j _ _ _ _ _ aA q=>by
 have ae:(0:Int)<j:=aA;exact mod_int' (by omega) (by rw[Int.fmod_eq_emod_of_nonneg i (by omega)];exact q)
theorem FN:c4 X (gc .Pow) (oW z1 λ i j=>.int (i ^ j.toNat)):=tu λ _ _ _ _ _ _ _ aA q=>pow_int_small aA.1 aA.2.1 aA.2.2 q
theorem FO{f:Value->Sem Value}{g:Int->Int}
 (rule:∀(i:Int)(t:Tok)(s:aw)(Q:Value->aw->Prop)(E:Value->aw->Prop),Q (.int (g i) s.toks) {s with toks:=s.toks+1}->aT (a5 X.prog X.w) X.A (f (.int i t)) Q E s) :
 tt X f (zZ λ i=>.int (g i)):=by
 intro pins s σ H x v Q I a6 h;obtain⟨i,rfl,q⟩:=h;obtain⟨t,rfl⟩:=a6;exact rule i t s _ _ ⟨.int (g i),H,I.tok _,⟨_,rfl⟩,q⟩
theorem FP:tt X (p5 .USub) (zZ λ i=>.int (-i)):=FO λ _ _ _ _ _ q=>neg_int q
end
section
variable{X:aQ}{a b c:aY}{bn bW bb:TE}{pos:Pos}
theorem FQ:c4 X (dE .Lt) (kX λ i j=>.aW (decide (i<j))):=vR λ _ _ _ _ _ _ _ q=>lt_int q
theorem FR:c4 X (dE .Gt) (kX λ i j=>.aW (decide (j<i))):=vR λ _ _ _ _ _ _ _ q=>gt_int q
theorem FS:c4 X (dE .GtE) (kX λ i j=>.aW (decide (j<=i))):=vR λ _ _ _ _ _ _ _ q=>ge_int q
theorem c4.or{f:Value->Value->Sem Value}{r bK:dQ}(h:c4 X f r)(h':c4 X f bK):c4 X f (λ x y H Q=>r x y H Q\/bK x y H Q):=by
 intro pins s σ H x y v u Q I a6 bA q;rcases q with q|q
 ·exact h pins s σ H x y v u Q I a6 bA q
 ·exact h' pins s σ H x y v u Q I a6 bA q
theorem dW(b:aY){op:lM}(h:op≠.In:=by decide)(ag:op≠.NotIn:=by decide):lD op b=false:=by
 have e1:(op==CmpOp.In)=false:=by cases op<;>first|rfl|exact absurd rfl h
 have aP:(op==CmpOp.NotIn)=false:=by cases op<;>first|rfl|exact absurd rfl ag
 cases b<;>simp[lD,e1,aP]
theorem FT{op:lM}{r:dQ}(aJ:c4 X (dE op) r)(az:bQ X a bn)(af:bQ X b bW)(hm:lD op b=false):bQ X (.Compare a [op] [b] pos) (l5 r bn bW):=by
 intro pins s σ H Q I h;exact wpAny_Compare1 (vQ az af I h λ v u s2 x y aO cG a6 bA q=>aJ pins s2 σ aO x y v u Q cG a6 bA q) hm
noncomputable def z2(t:TE):TT:=λ σ H Q=>t σ H λ x ah=>∃ k,x=.aW k/\Q k ah
theorem FU{op:lM}{r:dQ}(aJ:c4 X (dE op) r)(az:bQ X a bn)(af:bQ X b bW)(hm:lD op b=false):ix X (.Compare a [op] [b] pos) (z2 (l5 r bn bW)):=by
 intro pins s σ H Q I h
 refine wpAny_isTrue_Compare1 (bT (az pins s σ H _ I h) λ v s1 ⟨x,H1,aV,aG,aD⟩=>bT (af pins s1 σ H1 _ aV aD) λ u s2 ⟨y,aO,cG,aR,bw⟩=>
  bT (aJ pins s2 σ aO x y v u _ cG aG aR bw) λ c s3 ⟨z,b1,c0,oX,k,e,dd⟩=>?_) hm
 subst e;cases oX;exact sw ⟨b1,c0,dd⟩
noncomputable def vS(K:a4)(x:V)(H:am)(k:Bool):Prop:=
 match x with
 |.bo=>k=false
 |.aW b=>k=b
 |.int i=>k=(i !=0)
 |.str y=>y.length<=sizeLine/\k=((y.length:Int) !=0)
 |.ql y=>y.size<=sizeLine/\k=((y.size:Int) !=0)
 |.ref p=>(∃ xs,dO K H p xs/\k=!xs.isEmpty)\/(∃ xs,dt K H p xs/\k=!xs.isEmpty)\/∃ kvs,H p=some (.bf kvs)/\k=!kvs.isEmpty
 |_=>False
theorem FV{κ:Type}{kvs:List (κ×V)}{vs:List (κ×Value)}(r:eQ kvs vs):(!vs.isEmpty)=!kvs.isEmpty:=by
 cases r<;>rfl
theorem z3{xs:List V}{ao:List Value}(r:Vals xs ao):(!ao.toArray.isEmpty)=!xs.isEmpty:=by
 cases r<;>simp
theorem kY:(sizeLine:Nat)<2 ^ 63:=by rw[d_];decide
theorem FW:FG X (λ x H Q=>∃ k,vS X.K x H k/\Q k H):=by
 intro pins s σ H x v Q I a6 h;obtain⟨k,e,q⟩:=h;have aB:=kY;have ar:sizeLine=16777216:=d_
 cases x with
 | bo=>
  cases a6;have bz:k=false:=e;subst bz;exact truthy_none ⟨H,I,q⟩
 | aW b=>
  cases a6;have bz:k=b:=e;subst bz;exact sw ⟨H,I,q⟩
 | int i=>
  obtain⟨t,rfl⟩:=a6;have bz:k=(i !=0):=e;subst bz;exact PySem.P.truthy_int ⟨H,I,q⟩
 | str y=>
  obtain⟨t,rfl⟩:=a6;obtain⟨a9,bz⟩:y.length<=sizeLine/\k=((y.length:Int) !=0):=e;subst bz;exact PySem.P.truthy_str (by omega) ⟨H,I.tok _,q⟩
 | ql y=>
  obtain⟨t,rfl⟩:=a6;obtain⟨a9,bz⟩:y.size<=sizeLine/\k=((y.size:Int) !=0):=e;subst bz;exact PySem.W.truthy_bytes (by omega) ⟨H,I.tok _,q⟩
 | ref p=>
  cases a6;have bz:(∃ xs,dO X.K H p xs/\k=!xs.isEmpty)\/(∃ xs,dt X.K H p xs/\k=!xs.isEmpty)\/∃ kvs,H p=some (.bf kvs)/\k=!kvs.isEmpty:=e;rcases bz with⟨xs,ak,bz⟩|⟨xs,ak,bz⟩|⟨kvs,ak,bz⟩
  ·subst bz;obtain⟨ao,r,cS,hz⟩:=I.list ak;have hlen:=r.length;exact wpAny_truthy_list cS.isList (by simp only[bN];omega) ⟨H,I.tok _,by rw[z3 r];exact q⟩
  ·subst bz;obtain⟨ao,r,cS,hz⟩:=I.tuple ak;have hlen:=r.length;exact truthy_tuple cS (by simp only[bN];omega) ⟨H,I.tok _,by rw[z3 r];exact q⟩
  ·subst bz;obtain⟨hz,eW,vs,r,m⟩:kvs.length<=sizeLine/\(p==hh)=false/\∃ vs,eQ kvs vs/\s.heap.DictOf (el X.prog X.w) p vs:=I.bj p _ ak;have hlen:kvs.length=vs.length:=Paired.length r;exact wpAny_truthy_dict eW m (by omega) ⟨H,I.tok _,by rw[FV r];exact q⟩
 |_=>exact(show False from e).elim
theorem FX(az:bQ X a bn)(he:∀ whole,jY a X.env whole=(do let v ← whole;jX a.pos;iX [v] (truthy v))) :
 ix X a (λ σ H Q=>bn σ H λ x ah=>∃ k,vS X.K x ah k/\Q k ah):=by
 intro pins s σ H Q I h;refine isTrue_plain (bT (az pins s σ H _ I h) λ v s1 xz=>?_) (he _);obtain⟨x,H1,aV,aG,aD⟩:=xz;exact FW pins s1 σ H1 x v Q aV aG aD
theorem FY:c4 X (gc .Add) (λ x y H Q=>∃ i j,x=.str i/\y=.str j/\i.length+j.length<=sizeLine/\Q (.str (i++j)) H):=by
 intro pins s σ H x y v u Q I a6 bA h;obtain⟨i,j,rfl,rfl,hz,q⟩:=h;obtain⟨t,rfl⟩:=a6;obtain⟨t',rfl⟩:=bA;exact add_str (λ t' bM=>⟨.str (i++j),H,I.tok _,⟨_,rfl⟩,q⟩) hz
theorem l6{x:V}{us:List Value}(r:Vals [x] us):∃ u,us=[u]/\RelV x u:=by
 cases r with
 |cons aG aR=>cases aR;exact⟨_,rfl,aG⟩
theorem z4{x y:V}{us:List Value}(r:Vals [x,y] us):∃ u d5,us=[u,d5]/\RelV x u/\RelV y d5:=by
 cases r with
 | cons aG aR=>
  cases aR with
  |cons oX vT=>cases vT;exact⟨_,_,rfl,aG,oX⟩
theorem FZ(aA:X.calm=true):gP X (.builtin "max") (λ xs H Q=>∃ i j,xs=[.int i,.int j]/\Q (.int (if j > i then j else i)) H):=by
 intro pins s σ H xs us Q I r h;obtain⟨i,j,rfl,q⟩:=h;obtain⟨u,d5,rfl,⟨t,rfl⟩,⟨t',rfl⟩⟩:=z4 r
 refine max_two_ints (I.ok.hd aA) λ h' bM k=>⟨_,H,I.kept k,?_,q⟩
 by_cases bm:j > i
 ·rw[if_pos bm,if_pos bm];exact⟨_,rfl⟩
 ·rw[if_neg bm,if_neg bm];exact⟨_,rfl⟩
theorem F0(aA:X.calm=true):gP X (.builtin "min") (λ xs H Q=>∃ i j,xs=[.int i,.int j]/\Q (.int (if j<i then j else i)) H):=by
 intro pins s σ H xs us Q I r h;obtain⟨i,j,rfl,q⟩:=h;obtain⟨u,d5,rfl,⟨t,rfl⟩,⟨t',rfl⟩⟩:=z4 r
 refine min_two_ints (I.ok.hd aA) λ h' bM k=>⟨_,H,I.kept k,?_,q⟩
 by_cases bm:j<i
 ·rw[if_pos bm,if_pos bm];exact⟨_,rfl⟩
 ·rw[if_neg bm,if_neg bm];exact⟨_,rfl⟩
end
structure vU(h:bF)(x eu C:Addr)(fe:Str->Option Value):Prop where
 obj:h.get? x=some (PySem.W.instObj C eu)
 ns:h.Ns1 eu fe
 ne:eu≠x
theorem F1{h:bF}{eu:Addr}{fe:Str->Option Value}(n:h.Ns1 eu fe):∃ dF,h.get? eu=some dF/\∀ name,PySem.W.lookIn name dF=some (fe name):=by
 obtain⟨o,es,ep,aJ,hd,aq,_,hm⟩:=n;refine⟨o,aJ,λ name=>?_⟩;have e:=hm name;unfold nsFind findBy at e;rw[<- Array.find?_toList]at e;unfold PySem.W.lookIn;rw[hd]
 dsimp only
 split
 ·rename_i y q
  rw[q]at e;exact congrArg some e
 ·rename_i q
  rw[q]at e
  have a:es.toList.any (·.refKey)=false:=by
   rw[List.any_eq_false];intro y a9;obtain⟨z,t,F2⟩:=aq y (Array.mem_toList_iff.mp a9);simp[DictEntry.refKey,F2]
  have z5:¬ es.toList.any (·.refKey)=true:=by rw[a];exact i0
  rw[if_neg z5];exact congrArg some e
theorem vU.look{h:bF}{x eu C:Addr}{fe:Str->Option Value}(I:vU h x eu C fe):∃ dF,PySem.W.InstAt h x (PySem.W.instObj C eu) C (some dF)/\∀ name,PySem.W.lookIn name dF=some (fe name):=
 let ⟨dF,aJ,aB⟩:=F1 I.ns
 ⟨dF,⟨I.obj,rfl,rfl,aJ⟩,aB⟩
theorem iw.some_of{v:V}{o:Option Value}(r:iw (some v) o):∃ u,o=some u/\RelV v u:=by
 cases o with
 |none=>exact(show False from r).elim
 |some u=>exact⟨u,rfl,r⟩
section
variable{P:bX}{w:bJ}{H ah:am}{h h':bF}{a C eu:Addr}{bl oN:List (Str×V)}
theorem F3(bj:d4 P w H h)(e:H a=some (.ins C eu bl)):∃ fe,vU h a eu C fe/\(∀ f,iw (bl.lookup f) (fe f))/\PySem.Within fe (bl.map (·.1))/\bl.length<=1000/\H eu=some (.own a):=by
 obtain⟨d,z,ne,b5,fe,n,r,q⟩:=(show dP P w H h a (.ins C eu bl) from bj a _ e)
 exact⟨fe,⟨b5,n,ne⟩,r,q,z,d⟩
end
structure vV(K:a4)(C:Addr):Prop where
 F4:PySem.W.plainGet K C Str.empty=true
 hd:PySem.W.hasDictIn K C=true
 po:PySem.W.plainOver K C=true
 tw:PySem.W.findIn K (.ref C) "__setattr__"=some (some (.builtin "object.__setattr__"))
theorem vV.get{K:a4}{C:Addr}(c:vV K C)(f:Str):PySem.W.plainGet K C f=true:=c.F4
section
variable{X:aQ}{pins:List (Addr×Obj)}{σ:St}{H:am}{s:aw}{A:cg}{E:Value->aw->Prop}{Q:Value->aw->Prop}{c:Value}{b:Bool}
inductive iA(K:a4)(H:am):V->Value->Prop where
 |bo:iA K H .bo (.type "NoneType")
 |aW (x:Bool):iA K H (.aW x) (.type "bool")
 |int (i:Int):iA K H (.int i) (.type "int")
 |str (x:Str):iA K H (.str x) (.type "str")
 |oL (x:UInt64):iA K H (.oL x) (.type "float")
 |lst {a:Addr} {xs:List V} (e:H a=some (.lst xs)):iA K H (.ref a) (.type "list")
 |dU {a:Addr} {o:Obj} {xs:List V} (e:H a=some (.dU o (.lst xs))):iA K H (.ref a) (.type "list")
 |tup {a:Addr} {xs:List V} (e:H a=some (.tup xs)):iA K H (.ref a) (.type "tuple")
 |bf {a:Addr} {kvs:List (Key×V)} (e:H a=some (.bf kvs)):iA K H (.ref a) (.type "dict")
 |fM {a:Addr} {kvs:List (List Key×V)} (e:H a=some (.fM kvs)):iA K H (.ref a) (.type "dict")
 | ins {a C eu:Addr} {bl:List (Str×V)} (e:H a=some (.ins C eu bl)) (cl:vV K C) (az:PySem.W.findIn K (.ref C) "__class__"=some (some (.builtin "object.__class__")))
  (aS:PySem.W.specialIn K (.builtin "object.__class__") "__get__"=some (some (.builtin "getset_descriptor.__get__"))) (z6:PySem.W.takesIn K (.builtin "object.__class__")=some true)
  (hm:PySem.W.mroIn K C (.type "object")=some true):iA K H (.ref a) (.ref C)
theorem F5{x:V}{u t:Value}(I:Inv X pins σ H s)(a6:RelV x u)(ty:iA X.K H x t)(e:s_ X.K t c=some b)(h:∀ bM,Q (.bool b) {s with toks:=bM}) :
 aT (a5 X.prog X.w) A (call (.builtin "isinstance") [u,c]) Q E s:=by
 cases ty with
 |bo=>cases (show u=Value.none from a6);exact hZ PySem.W.kitx_none I.fT True.intro e (λ z=>nomatch z) h
 |aW y=>cases (show u=Value.bool y from a6);exact hZ PySem.W.kitx_bool I.fT True.intro e (λ z=>nomatch z) h
 |int i=>obtain⟨t,q⟩:=(show ∃ t,u=Value.int i t from a6);cases q;exact hZ PySem.W.kitx_int I.fT True.intro e (λ z=>nomatch z) h
 |str y=>obtain⟨t,q⟩:=(show ∃ t,u=Value.str y t from a6);cases q;exact hZ PySem.W.kitx_str I.fT True.intro e (λ z=>nomatch z) h
 |oL y=>obtain⟨t,q⟩:=(show ∃ t,u=Value.float y t from a6);cases q;exact hZ PySem.W.kitx_float I.fT True.intro e (λ z=>nomatch z) h
 | @lst a xs e6=>
  cases (show u=Value.ref a from a6)
  obtain⟨_,_,n,_,ae⟩:=(show dP X.prog X.w H s.heap a (.lst xs) from I.bj a _ e6)
  exact hZ PySem.W.kitx_list I.fT ⟨_,ae,rfl⟩ e (λ z=>nomatch z) h
 | @dU a b5 xs e6=>
  cases (show u=Value.ref a from a6)
  obtain⟨_,_,_,n,_,ae⟩:=(show dP X.prog X.w H s.heap a (.dU b5 (.lst xs)) from I.bj a _ e6)
  exact hZ PySem.W.kitx_list I.fT ⟨_,ae,rfl⟩ e (λ z=>nomatch z) h
 | @tup a xs e6=>
  cases (show u=Value.ref a from a6)
  obtain⟨_,_,_,p⟩:=(show dP X.prog X.w H s.heap a (.tup xs) from I.bj a _ e6)
  obtain⟨o,ae,ag,_⟩:=p;exact hZ PySem.W.kitx_tuple I.fT ⟨o,ae,ag⟩ e (λ z=>nomatch z) h
 | @bf a kvs e6=>
  cases (show u=Value.ref a from a6)
  obtain⟨_,_,vs,_,p⟩:=(show dP X.prog X.w H s.heap a (.bf kvs) from I.bj a _ e6)
  obtain⟨o,es,ep,ae,ag,_⟩:=p;exact hZ PySem.W.kitx_dict I.fT ⟨o,ae,ag.1⟩ e (λ z=>nomatch z) h
 | @fM a kvs e6=>
  cases (show u=Value.ref a from a6)
  obtain⟨_,_,xs,_,o,es,ep,ae,ag,_⟩:=(show dP X.prog X.w H s.heap a (.fM kvs) from I.bj a _ e6)
  exact hZ PySem.W.kitx_dict I.fT ⟨o,ae,ag.1⟩ e (λ z=>nomatch z) h
 | @ins a C eu bl e6 cl az aS z6 hm=>
  cases (show u=Value.ref a from a6);obtain⟨fe,O,_⟩:=F3 I.bj e6;obtain⟨dF,J,_⟩:=O.look;exact hZ (PySem.W.kitx_own (cl.get _) cl.hd az aS z6 hm) I.fT J e (λ z=>nomatch z) h
end
structure ef(k:Nat)(A:cg):Prop where
 hd:A.handled=none
 bU:A.depth+3 * k+5<recursionLimit
 un:A.units+16 * k+200<bO
 vW:A.guards=some []
theorem ef.mono{j k:Nat}{A:cg}(r:ef k A)(h:j<=k):ef j A:=⟨r.hd,by have:=r.bU;omega,by have:=r.un;omega,r.vW⟩
theorem ef.deeper{k:Nat}{A:cg}(r:ef (k+1) A)(env:Env):ef k (A.deeper env):=
 ⟨r.hd,by have:=r.bU;show A.depth+1+3 * k+5<_;omega,by have:=r.un;show A.units+3+16 * k+200<_;omega,r.vW⟩
theorem ef.depth{k:Nat}{A:cg}(r:ef k A):A.depth<recursionLimit:=by have:=r.bU;omega
noncomputable def z7:e3:=λ _ H Q=>Q [] H
noncomputable def z8(bn:TE)(tx:e3):e3:=λ σ H Q=>bn σ H λ x H1=>tx σ H1 λ xs aO=>Q (x::xs) aO
section
variable{X:aQ}{e:aY}{es:List aY}{a0:TE}{t:e3}{pos:Pos}
theorem F6:hD X [] z7:=λ _ _ _ _ H Q I h=>Calls.spliced_nil ⟨[],H,I,.nil,h⟩
theorem F7(az:bQ X e a0)(aH:hD X es t)(ar:ek (e::es) X.env=(false,eval e X.env)::ek es X.env:=by rfl):hD X (e::es) (z8 a0 t):=by
 intro pos pins s σ H Q I h;rw[ar];show aT _ _ (spliced ((false,eval e X.env)::iu pos (ek es X.env))) _ _ s;refine Calls.spliced_cons (bT (az pins s σ H _ I h) λ u s1 xz=>?_);obtain⟨x,H1,aV,aG,aD⟩:=xz
 refine bT (aH pos pins s1 σ H1 _ aV aD) λ us s2 xz=>?_;obtain⟨xs,aO,cG,aR,bw⟩:=xz;exact⟨x::xs,aO,cG,.cons aG aR,bw⟩
noncomputable def z9(t:e3):TE:=λ σ H Q=>t σ H λ xs H1=>xs.length<=sizeLine/\∀ p,H1 p=none->Q (.ref p) (upd H1 p (.tup xs))
noncomputable def z_(t:e3):TE:=λ σ H Q=>t σ H λ xs H1=>xs.length<=sizeLine/\∀ p,H1 p=none->Q (.ref p) (upd H1 p (.lst xs))
theorem F8 {eJ} (h:hD X es t):bQ X (.Tuple es eJ pos) (z9 t):=by
 intro pins s σ H Q I aU;refine wpAny_Tuple_spliced (bT (h pos pins s σ H _ I aU) λ us s1 ⟨xs,H1,aV,r,z,q⟩=>⟨by rw[<- r.length];exact z,?_⟩);have hf:H1 s1.heap.objs.size=none:=aV.bj.fresh (b6 _);refine⟨.ref s1.heap.objs.size,upd H1 s1.heap.objs.size (.tup xs),aV.laid (t':=s1.toks) (λ b u e=>dA _ e) (b6 _) ?_,rfl,q _ hf⟩;exact⟨z,us,r,⟨_,fc _ rfl,rfl,_,rfl⟩⟩
theorem F9(h:hD X es t):bQ X (.List es pos) (z_ t):=by
 intro pins s σ H Q I aU;refine wpAny_List_spliced (bT (h pos pins s σ H _ I aU) λ us s1 ⟨xs,H1,aV,r,z,q⟩=>⟨by rw[<- r.length];exact z,?_⟩);have hf:H1 s1.heap.objs.size=none:=aV.bj.fresh (b6 _);refine⟨.ref s1.heap.objs.size,upd H1 s1.heap.objs.size (.lst xs),aV.laid (t':=s1.toks) (λ b u e=>dA _ e) (b6 _) ?_,rfl,q _ hf⟩;exact⟨z,us,0,r,fc _ rfl⟩
end
noncomputable abbrev ft:=List V->am->b7->hC->Prop
noncomputable abbrev jv:=List Env->am->aw->hC->Value->aw->Prop
structure nj(P:bX)(w:bJ)(K:a4)(mg:Str->Option Value)(base:bF)(A:cg)(outer:List Env)(s:aw)(H:am):Prop where
 frames:A.frames=some outer
 mod:Mod K mg base
 bs:∀ b o,base.get? b=some o->s.heap.get? b=some o/\H b=none
 kV:base.objs.size<=s.heap.objs.size
 i2:s.heap.FunFrames base outer
 m7:∀ b∈jp outer,H b=none
 bj:d4 P w H s.heap
 bare:kO s.gens
noncomputable def vX(outer:List Env)(P:bX)(w:bJ)(H:am)(s:aw)(Q:b7)(u:Value)(av:aw):Prop:=
 ∃ v ah,av.os=s.os/\kO av.gens/\fD (jp outer) [] H ah s.heap av.heap/\d4 P w ah av.heap/\RelV v u/\Q v ah
noncomputable def F_(CX:jv)(outer:List Env)(P:bX)(w:bJ)(H:am)(s:aw)(Q:b7)(E:hC)(r:Result)(av:aw):Prop:=
 match r with
 |.ok (.ret u)=>vX outer P w H s Q u av
 |.ok _=>False
 |.error e=>CX outer H s E e av
structure dh(P:bX)(w:bJ)(K:a4)(mg:Str->Option Value)(base:bF)(CX:jv)(k:Nat)(f:Addr)(fd:fA)(aZ:List Str)(sp:ft):Prop where
 len:∀ vs H Q E,sp vs H Q E->vs.length=aZ.length
 run:∀(A:cg)(outer:List Env)(s:aw)(H:am)(args:Args)(us:List Value)(vs:List V)(Q:b7)(E:hC),ef k A->nj P w K mg base A outer s H->ov s fd args (aZ.zip us)->Vals vs us->sp vs H Q E →
  mR (a5 P w) A (.call (.ref f) args) (F_ CX outer P w H s Q E) s
theorem dh.imp{P:bX}{w:bJ}{K:a4}{mg:Str->Option Value}{base:bF}{CX:jv}{k:Nat}{f:Addr}{fd:fA}{aZ:List Str}{sp qD:ft}(F:dh P w K mg base CX k f fd aZ sp)
 (h:∀ vs H Q E,qD vs H Q E->sp vs H Q E):dh P w K mg base CX k f fd aZ qD:=
 ⟨λ vs H Q E q=>F.len vs H Q E (h _ _ _ _ q),λ A outer s H args us vs Q E aH he af bh ar=>F.run A outer s H args us vs Q E aH he af bh (h _ _ _ _ ar)⟩
theorem nj.in1{P:bX}{w:bJ}{K:a4}{mg:Str->Option Value}{base:bF}{A:cg}{outer:List Env}{s:aw}{H:am}(e:nj P w K mg base A outer s H) :
 nj P w K mg base A.in1 outer s H:=⟨e.frames,e.mod,e.bs,e.kV,e.i2,e.m7,e.bj,e.bare⟩
section
variable{X:aQ}{pins:List (Addr×Obj)}{σ:St}{H:am}{s av:aw}
theorem Inv.Aa(I:Inv X pins σ H s):nj X.prog X.w X.K X.mg X.base X.A X.stack s H:=
 ⟨I.ok.frames,I.ok.mod,I.bs,gZ I.ok.kV I.gO,I.stack,I.zw,I.bj,I.bare⟩
theorem Inv.after{Q:b7}{u:Value}(I:Inv X pins σ H s)(h:vX X.stack X.prog X.w H s Q u av):fP X pins σ Q u av:=by
 obtain⟨v,ah,os,bare,un,bj,r,q⟩:=h;obtain⟨fu,g,d,t,Ga⟩:=av;obtain rfl:Ga=s.os:=os;exact⟨v,ah,I.call (h':=fu) (g':=g) (d':=d) (t':=t) (ch:=[]) un bj bare (λ b z=>absurd z (by simp)),r,q⟩
end
noncomputable def vY(sp:ft)(l7:List V)(E:hC)(t:e3):TE:=λ σ H Q=>t σ H λ vs H1=>sp (vs++l7) H1 Q E
noncomputable def Binds(K:a4)(fd:fA)(aZ:List Str)(ds:List Value):Prop:=
 ∀(s:aw)(us:List Value),K.In s.heap->(us++ds).length=aZ.length->ov s fd ⟨us,[]⟩ (aZ.zip (us++ds))
theorem Binds.all{K:a4}{fd:fA}{aZ:List Str}(h:∀ us:List Value,us.length=aZ.length->bindArgs fd ⟨us,[]⟩=pure (aZ.zip us)):Binds K fd aZ []:=λ s us _ aB=>by
 rw[hj]at aB ⊢;exact .of_eq (h us aB)
noncomputable def vZ(CX:jv)(X:aQ)(E:hC):Prop:=∀(pins:List (Addr×Obj))(σ:St)(H:am)(s:aw)(e:Value)(av:aw),Inv X pins σ H s->CX X.stack H s E e av->X.xe e av
section
variable{X:aQ}{CX:jv}{k:Nat}{f C:Addr}{fd:fA}{aZ:List Str}{sp:ft}{l7:List V}{ds:List Value}{E:hC}{x m:Str}{p pos apos:Pos}{e o:aY}{es:List aY}{bn:TE}{t:e3}
theorem Gb{pins:List (Addr×Obj)}{σ:St}{H:am}{s:aw}{Q:b7}{us:List Value}{vs:List V}(F:dh X.prog X.w X.K X.mg X.base CX k f fd aZ sp)(aH:ef k X.A)(af:Binds X.K fd aZ ds)(hd:Vals l7 ds)(ak:vZ CX X E)
 (I:Inv X pins σ H s) (r:Vals vs us) (h:sp (vs++l7) H Q E):aT (a5 X.prog X.w) X.A (call (.ref f) us) (fP X pins σ Q) X.xe s:=by
 have aR:Vals (vs++l7) (us++ds):=r.append hd
 have aB:(us++ds).length=aZ.length:=by rw[<- aR.length];exact F.len _ _ _ _ h
 refine wpAny_call (sD (F.run X.A X.stack s H ⟨us,[]⟩ (us++ds) (vs++l7) Q E aH I.Aa (af s us I.fT aB) aR h) λ r av aU=>?_)
 cases r with
 |error e=>exact ak pins σ H s e av I aU
 | ok kZ=>
  cases kZ with
  |ret u=>exact I.after aU
  |next=>exact False.elim aU
  |brk=>exact False.elim aU
  |cont=>exact False.elim aU
theorem Gc(F:dh X.prog X.w X.K X.mg X.base CX k f fd aZ sp)(aH:ef k X.A)(a8:eb X x)(hm:X.mg x=some (.ref f))(aq:m4 X.K (.ref f)=true)(af:Binds X.K fd aZ ds)(hd:Vals l7 ds)(ak:vZ CX X E)
 (az:hD X (e::es) t) (gy:(x==("__debug__" : Str))=false:=by decide) (he:ek (e::es) X.env=(false,eval e X.env)::ek es X.env:=by rfl) (l8:(iu pos (ek es X.env)).any (·.1)=false:=by rfl) :
 bQ X (.Call (.Name x p) (e::es) [] pos) (vY sp l7 E t):=by
 intro pins s σ H Q I h;refine pV (vM I a8 hm ?_ gy);refine PySem.W.callWith_K (h₀:=X.base) I.ok.mod.vI aq (bT (az pos pins s σ H _ I h) λ us s1 xz=>?_) he l8;obtain⟨vs,H1,aV,r,q⟩:=xz;refine⟨aV.fT,?_⟩;exact Gb F aH af hd ak aV r q
end
structure fi(N P:List Str)(sc:eE):Prop where
 kind:sc.kind=.function
 co:sc.isCoroutine=false
 gen:sc.isGenerator=false
 a3:N.Nodup
 pre:N.take P.length=P
 par:∀ x∈P,sc.names.lookup x=some .local\/sc.names.lookup x=some .cell
 Gd:∀ y∈sc.names,y.2≠.free
theorem Ab{kindOf:Str->Option iW}{x:Str}:∀{binds:List (Str×Value)}{m:Str->Option Value},(∀ v,(x,v) ∉ binds)->lN kindOf binds m x=m x
 |[],_,_=>rfl
 | (n,v)::r,m,h=>by
  unfold lN;rw[Ab λ w hw=>h w (dM _ hw)];split
  ·have:x≠n:=by rintro rfl;exact h v dk
   simp[this]
  ·rfl
theorem Ac{kindOf:Str->Option iW}{x:Str}:∀{binds:List (Str×Value)}{m:Str->Option Value},(∀ v,(x,v) ∉ binds)->lO kindOf binds m x=m x
 |[],_,_=>rfl
 | (n,v)::r,m,h=>by
  unfold lO;rw[Ac λ w hw=>h w (dM _ hw)];split
  ·rfl
  ·have:x≠n:=by rintro rfl;exact h v dk
   simp[this]
theorem Ad{kindOf:Str->Option iW}{x:Str}{v:Value}:∀{P:List Str}{vs:List Value}{i:Nat}{m:Str->Option Value},P.Nodup->P[i]?=some x->vs[i]?=some v->kindOf x=some .local →
 lN kindOf (P.zip vs) m x=some v
 |[],_,_,_,_,h,_,_=>by simp at h
 |_::_,[],_,_,_,_,h,_=>by simp at h
 | p::P,w::vs,0,m,a3,ae,ag,aq=>by
  simp at ae ag;subst ae;subst ag;show lN kindOf ((p,w)::P.zip vs) m p=_;unfold lN;rw[Ab λ v bh=>(oz.mp a3).1 (List.of_mem_zip bh).1,if_pos aq];simp
 | p::P,w::vs,i+1,m,a3,ae,ag,aq=>by
  show lN kindOf ((p,w)::P.zip vs) m x=_;unfold lN;exact Ad (i:=i) (oz.mp a3).2 (by simpa using ae) (by simpa using ag) aq
theorem Ae{kindOf:Str->Option iW}{x:Str}{v:Value}:∀{P:List Str}{vs:List Value}{i:Nat}{m:Str->Option Value},P.Nodup->P[i]?=some x->vs[i]?=some v->kindOf x≠some .local →
 lO kindOf (P.zip vs) m x=some v
 |[],_,_,_,_,h,_,_=>by simp at h
 |_::_,[],_,_,_,_,h,_=>by simp at h
 | p::P,w::vs,0,m,a3,ae,ag,aq=>by
  simp at ae ag;subst ae;subst ag;show lO kindOf ((p,w)::P.zip vs) m p=_;unfold lO;rw[Ac λ v bh=>(oz.mp a3).1 (List.of_mem_zip bh).1,if_neg aq];simp
 | p::P,w::vs,i+1,m,a3,ae,ag,aq=>by
  show lO kindOf ((p,w)::P.zip vs) m x=_;unfold lO;exact Ae (i:=i) (oz.mp a3).2 (by simpa using ae) (by simpa using ag) aq
noncomputable def start(N:List Str)(vs:List V):St:=vs.map some++sP (N.length - vs.length) none
noncomputable def l9(CX:jv)(P:bX)(w:bJ)(K:a4)(mg:Str->Option Value)(base:bF)(N:List Str)(qual:Str)(scope:eE)(f:Addr)(cd:Value)(A:cg)(outer:List Env)(s:aw)(H:am)(E:hC):aQ where
 prog:=P
 w:=w
 K:=K
 mg:=mg
 base:=base
 A:=A.deeper (jZ qual scope s.heap.objs.size f cd)
 N:=N
 s₀:=s
 H₀:=H
 env:=jZ qual scope s.heap.objs.size f cd
 outer:=outer
 stack:=jZ qual scope s.heap.objs.size f cd::outer
 ex:=[]
 calm:=true
 fn:=λ _=>true
 pn:=[]
 xe:=λ e av=>aT (a5 P w) (A.deeper (jZ qual scope s.heap.objs.size f cd)) (leaving (jZ qual scope s.heap.objs.size f cd) e) (λ _ dB=>CX outer H s E e dB) (λ bz dB=>CX outer H s E bz dB) av
theorem Af{sc:eE}{n:Nat}{x:Str}(h:sc.names.lookup x=some .cell):∃ c,(cellsFrom n sc.names []).lookup x=some c:=by
 have q:=PySem.W.cellsFrom_some sc.names n [] (.inl h);exact iZ.mp q
theorem Ge{CX:jv}{P:bX}{w:bJ}{K:a4}{mg:Str->Option Value}{base:bF}{N aZ:List Str}{qual:Str}{scope:eE}{f:Addr}{cd:Value}{A:cg}{outer:List Env}{s s1:aw}{H:am}{E:hC}{us:List Value}{vs:List V}
 (S:fi N aZ scope) (hd:A.handled=none) (cQ:nj P w K mg base A outer s H) (aB:vs.length=aZ.length) (r:Vals vs us)
 (x:InCallC s s.heap.objs.size (lN (jZ qual scope s.heap.objs.size f cd).kindOf (aZ.zip us) λ _=>none) (cellsFrom (s.heap.objs.size+1) scope.names []) (lO (jZ qual scope s.heap.objs.size f cd).kindOf (aZ.zip us) λ _=>none) s1) :
 Inv (l9 CX P w K mg base N qual scope f cd A outer s H E) [] (start N vs) H s1:=by
 have l8:aZ.length<=N.length:=by have:=congrArg hX S.pre;rw[mU]at this;omega
 obtain⟨ae,bM,rfl,aq⟩:=x.done;have qE:∀ b:Addr,b ∉ (l9 CX P w K mg base N qual scope f cd A outer s H E).ex:=λ b z=>absurd (show b∈([]:List Addr) from z) (by simp)
 refine⟨⟨cQ.mod,S.kind,rfl,rfl,b6 _,λ y z c ae ag=>?_,λ y a9=>?_,λ y c _ h=>?_,λ _=>hd,Around.frames_deeper cQ.frames,.inr ⟨rfl,rfl⟩,λ b z=>absurd z (qE b),cQ.bs,cQ.kV,λ b _ _=>qE b,λ b z=>absurd z (qE b),cQ.i2,cQ.m7⟩,
  rfl,cQ.bare,fD.kept aq,⟨_,x.toInCall.ns,λ i y v ae ag bc=>?_⟩,λ y c h=>⟨_,x.cell y c h⟩,cQ.bj.fresh (b6 _),λ y c h=>?_,λ p ai=>absurd (show p∈([]:List (Addr×Obj)) from ai) (by simp),cQ.bj.kept aq,?_⟩
 ·exact name_of_addr x.apart (m5 ae) (m5 ag)
 ·have a9:scope.names.lookup y=some .cell\/scope.names.lookup y=some .free:=a9;rcases a9 with a9|a9
  ·exact Af a9
  ·exact absurd rfl (S.Gd _ (m5 a9))
 ·exact Nat.le_of_lt (x.above y c (m5 h))
 ·have au:i<vs.length:=by
   unfold start at ag;by_cases au:i<vs.length
   ·exact au
   ·rw[oA (by simpa using au)]at ag;rw[sQ]at ag;split at ag<;>cases ag
  have az:vs[i]?=some v:=by
   unfold start at ag;rw[mV (by simpa using au),fs]at ag
   cases e:vs[i]? with
   |none=>rw[e]at ag;cases ag
   |some a=>rw[e]at ag;cases ag;rfl
  obtain⟨u,bg,aM⟩:=r.get az
  have ai:aZ[i]?=some y:=by
   rw[<- S.pre,List.getElem?_take_of_lt (by omega)];exact ae
  have Ag:aZ.Nodup:=by rw[<- S.pre];exact S.a3.sublist (List.take_sublist _ _)
  refine⟨u,aM,?_⟩;rcases S.par y (hA ai) with k|k
  ·exact .inl ⟨k,Ad Ag ai bg k⟩
  ·obtain⟨c,e⟩:=Af (n:=s.heap.objs.size+1) k;refine .inr ⟨.inl k,c,e,?_⟩;have q:=x.cell y c e;rw[Ae Ag ai bg (by show scope.names.lookup y≠_;rw[k];decide)]at q;exact q
 ·exact cQ.bj.fresh (Nat.le_of_lt (x.above y c (m5 h)))
 ·unfold start;show _=N.length;rw[dN,dm,sR];omega
theorem Gf{CX:jv}{P:bX}{w:bJ}{K:a4}{mg:Str->Option Value}{base:bF}{k:Nat}{f:Addr}{name qual:Str}{params:Arguments}{body:List b_}{scope:eE}{tz cO doc pm b9 ct fE:Value}{an dF:Option Addr}
 {i9:Array (Option Value)} {N aZ:List Str} {sp:ft} (lk:K.lookup f=some ⟨fE,dF,.func (j5 name qual params body scope tz cO doc pm an b9 ct),i9⟩) (g4:qj K b9 qual=true) (S:fi N aZ scope)
 (len:∀ vs H Q E,sp vs H Q E->vs.length=aZ.length)
 (nk:∀(A:cg)(outer:List Env)(s:aw)(H:am)(vs:List V)(Q:b7)(E:hC),ef k (A.deeper (jZ qual scope s.heap.objs.size f b9))->sp vs H Q E →
  ∃ t,h6 (l9 CX P w K mg base N qual scope f b9 A outer s H E) body t/\t {nx:=λ _ ah=>Q .bo ah,rt:=Q} (start N vs) H) :
 dh P w K mg base CX (k+1) f (j5 name qual params body scope tz cO doc pm an b9 ct) aZ sp:=by
 refine⟨len,λ A outer s H args us vs Q E aH cQ af r l_=>?_⟩;have aB:=len _ _ _ _ l_;have KX:K.In s.heap:=cQ.mod.vI.keeps λ b o e=>(cQ.bs b o e).1;have lim:s.heap.NoLimit:=cQ.mod.nolimit.keeps λ b o e=>(cQ.bs b o e).1
 have tA:∀ y∈aZ.zip us,scope.names.lookup y.1=some .local\/(scope.names.lookup y.1=some .cell/\((cellsFrom (s.heap.objs.size+1) scope.names []).lookup y.1).isSome=true):=λ⟨n,v⟩ a9=>by
  rcases S.par n (List.of_mem_zip a9).1 with q|q
  ·exact .inl q
  ·exact .inr ⟨q,PySem.W.cellsFrom_some _ _ _ (.inl q)⟩
 refine codeAny_call_function aH.depth (KX _ _ lk) rfl S.co S.gen rfl (PySem.W.codeRec_of KX g4) (af _ _ _ _ ?_);refine wpAny_newFunctionEnv_cells S.kind tA λ env he s1 x=>?_;subst he;refine⟨lim.keeps x.toInCall.keep,codeAny_func ?_⟩;obtain⟨t,cA,aU⟩:=nk A outer s H vs Q E (aH.deeper _) l_;have I:Inv (l9 CX P w K mg base N qual scope f b9 A outer s H E) [] (start N vs) H s1:=Ge S aH.hd cQ aB r x;refine gw (cA [] s1 (start N vs) H _ I aU) (λ kZ av ar=>?_) λ e av ar=>ar
 have fin:∀{σ':St}{ah:am}{v:V}{u:Value},Inv (l9 CX P w K mg base N qual scope f b9 A outer s H E) [] σ' ah av->RelV v u->Q v ah->vX outer P w H s Q u av:=
  λ{σ' ah v u} J aM q=>⟨v,ah,J.os,J.bare,J.base,J.bj,aM,q⟩
 cases kZ with
 | ret u=>
  obtain⟨v,σ',ah,J,aM,q⟩:=ar;exact fin J aM q
 | next=>
  obtain⟨σ',ah,J,q⟩:=ar;exact fin (v:=V.bo) (u:=Value.none) J rfl q
 | brk=>
  obtain⟨_,_,_,q⟩:=ar;exact False.elim q
 | cont=>
  obtain⟨_,_,_,q⟩:=ar;exact False.elim q
section
variable{X:aQ}{x:Str}{p pos:Pos}{e:aY}{es:List aY}{t:e3}{id T:String}{r:List V->am->b7->Prop}
noncomputable def tB(r:List V->am->b7->Prop)(t:e3):TE:=λ σ H Q=>t σ H λ vs H1=>r vs H1 Q
theorem Gg(aA:gP X (.builtin id) r)(a8:eb X x)(hm:X.mg x=none)(bh:iU x=some (.builtin id))(az:hD X (e::es) t)(aS:x≠"__name__":=by decide)(gy:(x==("__debug__" : Str))=false:=by decide)
 (he:ek (e::es) X.env=(false,eval e X.env)::ek es X.env:=by rfl) (l8:(iu pos (ek es X.env)).any (·.1)=false:=by rfl):bQ X (.Call (.Name x p) (e::es) [] pos) (tB r t):=by
 intro pins s σ H Q I h;refine pV (m_ I a8 hm bh ?_ aS gy);refine PyProof.Rows.callWith_builtin1 (bT (az pos pins s σ H _ I h) λ us s1 xz=>?_) he l8;obtain⟨vs,H1,aV,aG,aD⟩:=xz;exact aA pins s1 σ H1 vs us Q aV aG aD
theorem Gh(aA:gP X (.type T) r)(a8:eb X x)(hm:X.mg x=none)(bh:iU x=some (.type T))(az:hD X (e::es) t)(aS:x≠"__name__":=by decide)(gy:(x==("__debug__" : Str))=false:=by decide)
 (he:ek (e::es) X.env=(false,eval e X.env)::ek es X.env:=by rfl) (l8:(iu pos (ek es X.env)).any (·.1)=false:=by rfl):bQ X (.Call (.Name x p) (e::es) [] pos) (tB r t):=by
 intro pins s σ H Q I h;refine pV (m_ I a8 hm bh ?_ aS gy);refine tb (bT (az pos pins s σ H _ I h) λ us s1 xz=>?_) he l8;obtain⟨vs,H1,aV,aG,aD⟩:=xz;exact aA pins s1 σ H1 vs us Q aV aG aD
end
end L2
namespace gi
open PySem PyProof.Rows
section
variable{prog:bX}{w:bJ}{A:cg}{E:Value->aw->Prop}{s:aw}
theorem Gi{t b:Addr}{vs ws:List Value}{Q:Value->aw->Prop}(cA:kP s.heap t vs.toArray)(af:kP s.heap b ws.toArray)(bh:vs≠[])
 (ae:ws=[]->Q (.ref t) s) (ag:ws≠[]->Q (.ref s.heap.objs.size) {s with heap:=s.heap.push {cls:=.type "tuple",data:=.seq (vs++ws).toArray}})
 (hsz:vs.length+ws.length<=sizeLine):aT (a5 prog w) A (gc .Add (.ref t) (.ref b)) Q E s:=by
 obtain⟨⟨cls,cC,data,cp⟩,aJ,aA,n,hd⟩:=id cA;obtain⟨⟨tC,ez,data2,fF⟩,e7,e8,de,hd2⟩:=id af;simp only at aA hd e8 hd2;subst aA hd e8 hd2
 have e:vs.toArray++ws.toArray=(vs++ws).toArray:=by simp
 by_cases hw:ws=[]
 ·exact vC ⟨_,aJ,rfl⟩ ⟨_,e7,rfl⟩ vy vA PySem.F.slot_tuple_add PySem.F.entry_tuple_add (PySem.F.args_tuple_add_2 _ _)
   (tuple_addW1 t b vs.toArray ws.toArray n de cC ez cp fF (by simpa using bh) (by simp[hw])) ⟨aJ,e7,ae hw⟩
 ·refine vC ⟨_,aJ,rfl⟩ ⟨_,e7,rfl⟩ vy vA PySem.F.slot_tuple_add PySem.F.entry_tuple_add (PySem.F.args_tuple_add_2 _ _)
   (tuple_addW2 t b vs.toArray ws.toArray n de cC ez cp fF (by simpa using bh) (by simpa using hw) (by rw[bN,bN];exact hsz)) ⟨aJ,e7,?_⟩
  rw[e];exact ag hw
noncomputable def hH(n d:Nat):Option Int->Nat
 |none=>d
 |some v=>if v<0 then (v+(n:Int)).toNat else min v.toNat n
theorem v3{v:Value}{o:Option Int}{Q:Option Int->aw->Prop}(p:IsPart v o)(h:Q o s):aT (a5 prog w) A (Builtin.Slice.slicePartIndex v) Q E s:=by
 cases p with
 |none=>exact slicePart_none h
 |int i t=>exact slicePart_int h
end
end gi
namespace L2
open PySem PySem.Spec PyProof.Rows
noncomputable abbrev ma:=St->am->(Option Int->am->Prop)->Prop
noncomputable def v4(X:aQ)(e:Option aY)(t:ma):Prop:=
 ∀(pins:List (Addr×Obj))(s:aw)(σ:St)(H:am)(Q:Option Int->am->Prop),Inv X pins σ H s->t σ H Q →
  aT (a5 X.prog X.w) X.A (evalPart e X.env) (λ u av=>∃ o ah,Inv X pins σ ah av/\IsPart u o/\Q o ah) X.xe s
noncomputable def Ah(t:TE):ma:=λ σ H Q=>t σ H λ x H1=>∃ i,x=.int i/\Q (some i) H1
section
variable{X:aQ}{e:aY}{a0:TE}{lo au:Option aY}{ho Po:ma}{pos c8:Pos}
theorem Gj(h:bQ X e a0):v4 X (some e) (Ah a0):=by
 intro pins s σ H Q I hw;rw[evalPart_some];refine bT (h pins s σ H _ I hw) λ u s1 xz=>?_;obtain⟨x,H1,aV,aG,aD⟩:=xz;obtain⟨i,rfl,q⟩:=aD;obtain⟨t,rfl⟩:=aG;exact⟨some i,H1,aV,.int i t,q⟩
noncomputable def Gk(X:aQ)(r:V->Option Int->Option Int->am->b7->Prop):Prop:=
 ∀(pins:List (Addr×Obj))(s:aw)(σ:St)(H:am)(x:V)(v v5 v6:Value)(lo au:Option Int)(cp:Addr)(Q:b7),Inv X pins σ H s->RelV x v->s.heap.IsSliceOf cp v5 v6 .none->IsPart v5 lo->IsPart v6 au->r x lo au H Q →
  ∃ T id,typeLookup (.type T) "__getitem__"=pure (some (.builtin id))/\s.TypeIs v T/\aT (a5 X.prog X.w) X.A (lH v (.ref cp)) (fP X pins σ Q) X.xe s
noncomputable def tD(xs:List V)(lo au:Option Int):List V:=(xs.drop (gi.hH xs.length 0 lo)).take (gi.hH xs.length xs.length au - gi.hH xs.length 0 lo)
theorem Gl(xs:List V)(lo au:Option Int):(tD xs lo au).length<=xs.length:=by
 unfold tD;rw[mU,List.length_drop];exact gZ (Nat.min_le_right ..) (Nat.sub_le ..)
noncomputable def Gm(K:a4):dQ:=λ x y H Q=>∃ a b xs ys,x=.ref a/\y=.ref b/\dt K H a xs/\dt K H b ys/\xs≠[]/\xs.length+ys.length<=sizeLine ∧
 (ys=[]->Q (.ref a) H)/\(ys≠[]->∀ p,H p=none->Q (.ref p) (upd H p (.tup (xs++ys))))
theorem Vals.v7{xs:List V}{us:List Value}(r:Vals xs us):us=[] ↔ xs=[]:=by
 cases r with
 |nil=>simp
 |cons _ _=>simp
theorem Gn:c4 X (gc .Add) (Gm X.K):=by
 intro pins s σ H x y v u Q I a6 bA h;obtain⟨a,b,xs,ys,rfl,rfl,az,af,ak,hz,aD,bw⟩:=h;cases a6;cases bA;obtain⟨ao,aG,gj,_⟩:=I.tuple az;obtain⟨bx,aR,c8,_⟩:=I.tuple af;refine gi.Gi gj c8 (λ z=>ak (aG.v7.mp z)) (λ z=>⟨.ref a,H,I,rfl,aD (aR.v7.mp z)⟩) (λ z=>?_) (by rw[<- aG.length,<- aR.length];exact hz);refine⟨.ref s.heap.objs.size,_,I.laid (t':=s.toks) (o:=.tup (xs++ys)) (λ b b5 q=>dA _ q) (b6 _) ?_,rfl,bw (λ w=>z (aR.v7.mpr w)) _ (I.bj.fresh (b6 _))⟩;exact⟨by rw[dN];exact hz,_,aG.append aR,IsTup.new _ _⟩
end
noncomputable def jw(n:Nat)(i:Int):Option Nat:=if 0<=i then (if i<n then some i.toNat else none) else if -(n:Int)<=i then some (i+n).toNat else none
noncomputable def fV{α:Type}(xs:List α)(i:Int):Option α:=(jw xs.length i).bind λ j=>xs[j]?
theorem Ai{n:Nat}{i:Int}{j:Nat}(h:jw n i=some j):seqIndex? i n=some j/\j<n/\-(n:Int)<=i/\i<n:=by
 unfold jw at h;by_cases h0:0<=i
 ·rw[if_pos h0]at h;by_cases ae:i<n
  ·rw[if_pos ae]at h;have e:i.toNat=j:=eH.inj h;exact⟨by rw[seqIndex_of h0 ae,e],by omega,by omega,ae⟩
  ·rw[if_neg ae]at h;cases h
 ·rw[if_neg h0]at h;by_cases ae:-(n:Int)<=i
  ·rw[if_pos ae]at h;have e:(i+n).toNat=j:=eH.inj h;exact⟨by rw[seqIndex_neg (by omega) ae,e],by omega,ae,by omega⟩
  ·rw[if_neg ae]at h;cases h
theorem v8{α:Type}{xs:List α}{i:Int}{v:α}(h:fV xs i=some v):∃ j,seqIndex? i xs.length=some j/\xs[j]?=some v/\j<xs.length/\-(xs.length:Int)<=i/\i<xs.length:=by
 unfold fV at h
 cases e:jw xs.length i with
 |none=>rw[e]at h;cases h
 | some j=>
  rw[e]at h;obtain⟨ae,ag,bc,cj⟩:=Ai e;exact⟨j,ae,h,ag,bc,cj⟩
theorem mb{α:Type}{xs:List α}{j:Nat}{v:α}(h:xs[j]?=some v):fV xs (j:Int)=some v:=by
 have bm:j<xs.length:=(gg.mp h).1
 have e:jw xs.length (j:Int)=some j:=by
  unfold jw;rw[if_pos (by omega),if_pos (by omega)];simp
 unfold fV;rw[e];exact h
noncomputable def tE(b:aY):Prop:=∀ o i,sG b false o i=operate [o,i] (lH o i)
noncomputable def ki(X:aQ)(r:dQ):Prop:=
 ∀(value slice:aY)(pins:List (Addr×Obj))(s:aw)(σ:St)(H:am)(x y:V)(v u:Value)(Q:b7),Inv X pins σ H s->RelV x v->RelV y u->r x y H Q →
  sG slice false v u=operate [v,u] (lH v u)->aT (a5 X.prog X.w) X.A (vE value slice v u) (fP X pins σ Q) X.xe s
noncomputable def nq(X:aQ)(id:String)(r:V->List V->am->b7->Prop):Prop:=
 ∀(pins:List (Addr×Obj))(s:aw)(σ:St)(H:am)(x:V)(xs:List V)(v:Value)(us:List Value)(Q:b7),Inv X pins σ H s->RelV x v->Vals xs us->r x xs H Q →
  aT (a5 X.prog X.w) X.A (call (.builtin id) (v::us)) (fP X pins σ Q) X.xe s
section
variable{X:aQ}{a b:aY}{bn bW:TE}{pos:Pos}
theorem ki.or{r bK:dQ}(h:ki X r)(h':ki X bK):ki X (λ x y H Q=>r x y H Q\/bK x y H Q):=by
 intro value slice pins s σ H x y v u Q I a6 bA q ar;rcases q with q|q
 ·exact h value slice pins s σ H x y v u Q I a6 bA q ar
 ·exact h' value slice pins s σ H x y v u Q I a6 bA q ar
theorem nq.or{id:String}{r bK:V->List V->am->b7->Prop}(h:nq X id r)(h':nq X id bK):nq X id (λ x xs H Q=>r x xs H Q\/bK x xs H Q):=by
 intro pins s σ H x xs v us Q I a6 rs q;rcases q with q|q
 ·exact h pins s σ H x xs v us Q I a6 rs q
 ·exact h' pins s σ H x xs v us Q I a6 rs q
theorem Gp{r:dQ}(aH:ki X r)(az:bQ X a bn)(af:bQ X b bW)(ar:tE b):bQ X (.Subscript a b pos) (l5 r bn bW):=by
 intro pins s σ H Q I h;exact Subscript_ (vQ az af I h λ v u s2 x y aO cG a6 bA q=>aH a b pins s2 σ aO x y v u Q cG a6 bA q (ar _ _))
noncomputable def Aj(K:a4):dQ:=λ x y H Q=>∃ p xs i v,x=.ref p/\y=.int i/\dO K H p xs/\fV xs i=some v/\Q v H
noncomputable def Ak(K:a4):dQ:=λ x y H Q=>∃ p xs i v,x=.ref p/\y=.int i/\dt K H p xs/\fV xs i=some v/\Q v H
noncomputable def Al:dQ:=λ x y H Q=>∃ z i c,x=.str z/\y=.int i/\z.length<=sizeLine/\fV z.cps.toList i=some c/\Q (.str ⟨#[c]⟩) H
theorem Gq:ki X (Aj X.K):=by
 intro value slice pins s σ H x y v u Q I a6 bA h ar;obtain⟨p,xs,i,z,rfl,rfl,aU,he,q⟩:=h;cases a6;obtain⟨t,rfl⟩:=bA;obtain⟨ao,r,cS,hz⟩:=I.list aU;obtain⟨j,ae,ag,bc,cj,di⟩:=v8 he;obtain⟨w,tF,hE⟩:=r.get ag;have aB:=r.length;have aS:=kY
 have fin:fP X pins σ Q w s:=⟨z,H,I,hE,q⟩
 by_cases h0:0<=i
 ·have bm:i.toNat=j:=by
   rw[seqIndex_of h0 di]at ae;exact eH.inj ae
  exact item_listR cS.isList h0 (by omega) (by rw[bm];simpa using tF) fin ar
 ·have bm:(i+(ao.toArray.size:Int)).toNat=j:=by
   rw[seqIndex_neg (by omega) cj]at ae;rw[bN,<- aB];exact eH.inj ae
  exact zr (x:=w) cS.isList.typeIs slot_list_getitem.lookup
   (wpAny_getItem_list_neg (Q:=λ r av=>r=w/\fP X pins σ Q r av) cS.isList (by omega) (by rw[bN]<;>omega) (by omega) (by rw[bm];simpa using tF) ⟨rfl,fin⟩) ar
theorem Gr:ki X (Ak X.K):=by
 intro value slice pins s σ H x y v u Q I a6 bA h ar;obtain⟨p,xs,i,z,rfl,rfl,aU,he,q⟩:=h;cases a6;obtain⟨t,rfl⟩:=bA;obtain⟨ao,r,cS,hz⟩:=I.tuple aU;obtain⟨j,ae,ag,bc,cj,di⟩:=v8 he;obtain⟨w,tF,hE⟩:=r.get ag;have aB:=r.length;have aS:=kY
 have fin:fP X pins σ Q w s:=⟨z,H,I,hE,q⟩
 exact zr (x:=w) cS.typeIs slot_tuple_getitem.lookup
  (getItem_tuple (j:=j) (Q:=λ r av=>r=w/\fP X pins σ Q r av) cS (by omega) (by omega) (by rw[bN,<- aB];exact ae) (by simpa using tF) ⟨rfl,fin⟩) ar
theorem Gs:ki X Al:=by
 intro value slice pins s σ H x y v u Q I a6 bA h ar;obtain⟨z,i,c,rfl,rfl,hz,he,q⟩:=h;obtain⟨t,rfl⟩:=a6;obtain⟨t',rfl⟩:=bA;obtain⟨j,ae,ag,bc,cj,di⟩:=v8 he
 have aB:z.cps.toList.length=z.length:=by simp[Str.length]
 rw[aB]at ae cj di;have aS:=kY
 exact tail_any (typeIs_str s z t) slot_str_getitem.lookup (getItem_str (c:=c) (by
  have e1:decide (i < -(2 ^ 63:Int))=false:=decide_eq_false (by omega);have aP:decide (i ≥ 2 ^ 63)=false:=decide_eq_false (by omega)
  rw[e1,aP,Bool.or_false]) (by rw[ae];simpa using ag) ⟨.str ⟨#[c]⟩,H,I.tok _,⟨_,rfl⟩,q⟩) ar
noncomputable def Gu(K:a4):dQ:=λ x y H Q=>Aj K x y H Q\/Ak K x y H Q\/Al x y H Q
theorem Am:ki X (Gu X.K):=Gq.or (Gr.or Gs)
theorem Gv(ao:List Value)(n j:Nat)(u:Value):Obj.mapSeq (·.setIfInBounds j u) {cls:=.type "list",data:=.seq ao.toArray n}={cls:=.type "list",data:=.seq (ao.set j u).toArray n}:=by
 simp[Obj.mapSeq]
theorem Inv.lst{pins:List (Addr×Obj)}{σ:St}{H:am}{s:aw}{p:Addr}{xs:List V}(I:Inv X pins σ H s)(h:H p=some (.lst xs)) :
 ∃(ao:List Value)(n:Nat),Vals xs ao/\s.heap.get? p=some {cls:=.type "list",data:=.seq ao.toArray n}/\xs.length<=sizeLine:=by
 obtain⟨z,ao,n,r,e⟩:=I.bj p _ h;exact⟨ao,n,r,e,z⟩
theorem Inv.Gw{pins:List (Addr×Obj)}{σ:St}{H:am}{s:aw}{p:Addr}{xs ys:List V}{ao its':List Value}{n na:Nat}{f:Obj->Obj}(I:Inv X pins σ H s)(h:H p=some (.lst xs))
 (aJ:s.heap.get? p=some {cls:=.type "list",data:=.seq ao.toArray n}) (hf:f {cls:=.type "list",data:=.seq ao.toArray n}={cls:=.type "list",data:=.seq its'.toArray na}) (r:Vals ys its') (hz:ys.length<=sizeLine) (t:Nat) :
 Inv X pins σ (upd H p (.lst ys)) {s with heap:=s.heap.update p f,toks:=t}:=by
 have e:(s.heap.update p f).get? p=some {cls:=.type "list",data:=.seq its'.toArray na}:=by
  rw[te f aJ (by rw[hf]<;>rfl),hf]
 refine I.write (x:=p) (e:=p) (by rw[h];trivial) (.inl rfl) (λ b u af q=>(Heap.get?_update_other _ _ (Ne.symm af)).trans q) ⟨_,e⟩ ?_;exact⟨hz,its',na,r,e⟩
noncomputable def Gx:V->V->V->am->(am->Prop)->Prop:=λ o i v H Q=>∃ p xs k j,o=.ref p/\i=.int k/\H p=some (.lst xs)/\jw xs.length k=some j/\Q (upd H p (.lst (xs.set j v)))
theorem Gy:vN X Gx:=by
 intro pins s σ H o i v dn fg u Q I bH eX aM h;obtain⟨p,xs,k,j,rfl,rfl,ai,bm,q⟩:=h;cases bH;obtain⟨t,rfl⟩:=eX;obtain⟨ao,n,r,aJ,hz⟩:=I.lst ai;obtain⟨ae,ag,bc,cj⟩:=Ai bm;have aB:=r.length;have aS:=kY
 have i7:Inv X pins σ (upd H p (.lst (xs.set j v))) {s with heap:=s.heap.update p (Obj.mapSeq (·.setIfInBounds j u))}:=
  I.Gw ai aJ (Gv ao n j u) (r.set aM j) (by rw[List.length_set];exact hz) s.toks
 by_cases h0:0<=k
 ·have aq:k.toNat=j:=by
   rw[seqIndex_of h0 cj]at ae;exact eH.inj ae
  exact PySem.W.ki_setAt aJ h0 (by omega) (by rw[bN,<- aB];exact cj) (by rw[aq];exact⟨_,i7,q⟩)
 ·have aq:(k+(ao.toArray.size:Int)).toNat=j:=by
   rw[seqIndex_neg (by omega) bc]at ae;rw[bN,<- aB];exact eH.inj ae
  exact PySem.W.ki_setBack aJ (by omega) (by rw[bN,<- aB];exact bc) (by omega) (by rw[aq];exact⟨_,i7,q⟩)
theorem An{i:Int}{n:Nat}(h:i<0):max 0 (min (i+(n:Int)) (n:Int))=(((i+(n:Int)).toNat:Nat):Int):=by omega
theorem Ao{i:Int}{n:Nat}(h:¬i<0):max 0 (min i (n:Int))=((min i.toNat n:Nat):Int):=by omega
theorem Gz(lo au:Option Int)(n:Nat):(mQ lo au none n).1=((gi.hH n 0 lo:Nat):Int)/\(mQ lo au none n).2.1=((gi.hH n n au:Nat):Int)/\(mQ lo au none n).2.2=1:=by
 refine⟨?_,?_,rfl⟩
 ·cases lo with
  |none=>simp[mQ,gi.hH]
  | some i=>
   simp only[mQ,gi.hH,Option.getD_none,show (1:Int) > 0 by decide,if_true];by_cases h:i<0
   ·simp only[h,if_true];exact An h
   ·simp only[h,if_false];exact Ao h
 ·cases au with
  |none=>simp[mQ,gi.hH]
  | some i=>
   simp only[mQ,gi.hH,Option.getD_none,show (1:Int) > 0 by decide,if_true];by_cases h:i<0
   ·simp only[h,if_true];exact An h
   ·simp only[h,if_false];exact Ao h
theorem GA(ao:List Value)(lo au:Option Int):slicePick ao.toArray lo au none=((ao.drop (gi.hH ao.length 0 lo)).take (gi.hH ao.length ao.length au - gi.hH ao.length 0 lo)).toArray:=by
 obtain⟨ae,ag,bc⟩:=Gz lo au ao.toArray.size;unfold slicePick;rw[ae,ag,bc];simp only[sliceRange_one,pick_run,bN]<;>rfl
noncomputable def GB(K:a4):V->Option Int->Option Int->am->b7->Prop:=λ x lo au H Q=>∃ a xs,x=.ref a/\dO K H a xs/\∀ p,H p=none->Q (.ref p) (upd H p (.lst (tD xs lo au)))
theorem Pp:Gk X (GB X.K):=by
 intro pins s σ H x v v5 v6 lo au cp Q I a6 ar cS pu h;obtain⟨a,xs,rfl,ak,q⟩:=h;cases a6;obtain⟨ao,r,cA,hz⟩:=I.list ak;have hlen:=r.length;refine⟨"list",_,slot_list_getitem.lookup,cA.isList.typeIs,?_⟩;refine wpAny_getItem_list_slice cA.isList ar cS pu .none (by simp) ?_ (by rw[bN]<;>omega);rw[GA,<- hlen];refine⟨.ref s.heap.objs.size,_,I.laid (t':=s.toks) (o:=.lst (tD xs lo au)) (λ b b5 q=>dA _ q) (b6 _) ?_,rfl,q _ (I.bj.fresh (b6 _))⟩;exact⟨gZ (Gl xs lo au) hz,_,0,(r.drop (gi.hH xs.length 0 lo)).take (gi.hH xs.length xs.length au - gi.hH xs.length 0 lo),fc _ rfl⟩
theorem GC:gP X (.builtin "len") (λ xs H Q=>∃ p ys,xs=[.ref p]/\(dO X.K H p ys\/dt X.K H p ys)/\Q (.int ys.length) H):=by
 intro pins s σ H xs us Q I r h;obtain⟨p,ys,rfl,aU,q⟩:=h;obtain⟨u,rfl,a6⟩:=l6 r;cases a6;have aS:=kY;rcases aU with aU|aU
 ·obtain⟨ao,bK,cS,hz⟩:=I.list aU;have hlen:=bK.length;exact Calls.call_len_list cS.isList (by simp only[bN]<;>omega) ⟨.int ys.length,H,I.tok _,⟨s.toks+1,by rw[bN,hlen]⟩,q⟩
 ·obtain⟨ao,bK,cS,hz⟩:=I.tuple aU;have hlen:=bK.length;exact len_tuple cS (by simp only[bN]<;>omega) ⟨.int ys.length,H,I.tok _,⟨s.toks+1,by rw[bN,hlen]⟩,q⟩
theorem GD:gP X (.builtin "len") (λ xs H Q=>∃ z,xs=[.str z]/\z.length<=sizeLine/\Q (.int z.length) H):=by
 intro pins s σ H xs us Q I r h;obtain⟨z,rfl,hz,q⟩:=h;obtain⟨u,rfl,t,rfl⟩:=l6 r;have aS:=kY;exact len_str (by omega) ⟨.int z.length,H,I.tok _,⟨_,rfl⟩,q⟩
theorem gP.or{f:Value}{r bK:List V->am->b7->Prop}(h:gP X f r)(h':gP X f bK):gP X f (λ xs H Q=>r xs H Q\/bK xs H Q):=by
 intro pins s σ H xs us Q I rs q;rcases q with q|q
 ·exact h pins s σ H xs us Q I rs q
 ·exact h' pins s σ H xs us Q I rs q
theorem GF:gP X (.type "list") (λ xs H Q=>∃ p ys,xs=[.ref p]/\(dO X.K H p ys\/dt X.K H p ys)/\∀ l,H l=none->Q (.ref l) (upd H l (.lst ys))):=by
 intro pins s σ H xs us Q I r h;obtain⟨p,ys,rfl,aU,q⟩:=h;obtain⟨u,rfl,a6⟩:=l6 r;cases a6
 have fin:∀(ao:List Value),Vals ys ao->ys.length<=sizeLine->∀(h':bF)(eT:Nat),(∀ b df,s.heap.get? b=some df->h'.get? b=some df) →
  h'.get? s.heap.objs.size=some {cls:=.type "list",dict:=none,data:=.seq ao.toArray eT,slots:=#[]}->fP X pins σ Q (.ref s.heap.objs.size) {s with heap:=h'}:=λ ao bK hz h' eT c9 e=>
  ⟨.ref s.heap.objs.size,_,I.laid (t':=s.toks) c9 (b6 _) (show dP X.prog X.w _ h' _ (.lst ys) from⟨hz,ao,eT,bK,e⟩),rfl,q _ (I.bj.fresh (b6 _))⟩
 rcases aU with aU|aU
 ·obtain⟨ao,bK,cS,hz⟩:=I.list aU;have hlen:=bK.length;obtain⟨o,aJ,aA,n,hd⟩:=cS.isList;exact call_list_seq p (.inl rfl) aJ aA hd (λ h' eT c9 e=>fin ao bK hz h' eT c9 e) (by simp only[bN]<;>omega)
 ·obtain⟨ao,bK,cS,hz⟩:=I.tuple aU;have hlen:=bK.length;obtain⟨o,aJ,aA,n,hd⟩:=cS;exact call_list_seq p (.inr rfl) aJ aA hd (λ h' eT c9 e=>fin ao bK hz h' eT c9 e) (by simp only[bN]<;>omega)
theorem GG:gP X (.type "tuple") (λ xs H Q=>∃ p ys,xs=[.ref p]/\((dO X.K H p ys/\∀ l,H l=none->Q (.ref l) (upd H l (.tup ys)))\/(dt X.K H p ys/\Q (.ref p) H))):=by
 intro pins s σ H xs us Q I r h;obtain⟨p,ys,rfl,h⟩:=h;obtain⟨u,rfl,a6⟩:=l6 r;cases a6;rcases h with⟨aU,q⟩|⟨aU,q⟩
 ·obtain⟨ao,bK,cS,hz⟩:=I.list aU;have hlen:=bK.length;refine call_tuple_list cS.isList (λ h' c9=>?_) (by simp only[bN]<;>omega);have aV:Inv X pins σ H {s with heap:=h'}:=I.kept (t':=s.toks) c9
  have cG:Inv X pins σ (upd H h'.objs.size (.tup ys)) {s with heap:=h'.push {cls:=.type "tuple",data:=.seq ao.toArray}}:=
   aV.laid (t':=s.toks) (λ b o e=>dA _ e) (b6 _) (show dP X.prog X.w _ _ _ (.tup ys) from⟨hz,ao,bK,IsTup.new _ _⟩)
  exact⟨.ref h'.objs.size,_,cG,rfl,q _ (aV.bj.fresh (b6 _))⟩
 ·obtain⟨ao,bK,cS,hz⟩:=I.tuple aU;exact call_tuple_same cS ⟨.ref p,H,I,rfl,q⟩
noncomputable def qF(K:a4)(T:String)(x:V)(H:am):Prop:=match x with
 |.str _=>T = "str"
 |.int _=>T = "int"
 | .ref p=>(T = "list"/\∃ xs,dO K H p xs)\/(T = "tuple"/\∃ o,K.lookup p=some o/\o.cls=.type "tuple"/\o.dict=none) ∨
  (T = "dict"/\((∃ kvs,H p=some (.bf kvs))\/∃ kvs,H p=some (.fM kvs)))\/(T = "set"/\∃ S n,H p=some (.set S n))
 |_=>False
theorem Ap{pins:List (Addr×Obj)}{σ:St}{H:am}{s:aw}{T:String}{x:V}{v:Value}(I:Inv X pins σ H s)(r:RelV x v)(ty:qF X.K T x H) :
 s.TypeIs v T/\∀ a,v=.ref a->∃ b5,s.heap.get? a=some b5/\b5.dict=none:=by
 cases x with
 | str z=>
  obtain⟨t,rfl⟩:=r;cases (show T = "str" from ty);exact⟨typeIs_str s z t,λ _ e=>nomatch e⟩
 | int i=>
  obtain⟨t,rfl⟩:=r;cases (show T = "int" from ty);exact⟨typeIs_int s i t,λ _ e=>nomatch e⟩
 | ref p=>
  cases r;rcases ty with⟨rfl,xs,aU⟩|⟨rfl,o,aq,aA,hd⟩|⟨rfl,aq⟩|⟨rfl,S,n,aq⟩
  ·obtain⟨ao,_,cS,_⟩:=I.list aU;refine⟨cS.isList.typeIs,λ a e=>?_⟩;cases e;obtain⟨o,n,e,c,hd,_⟩:=cS;exact⟨o,e,hd⟩
  ·refine⟨⟨o,I.fT p o aq,aA⟩,λ a e=>?_⟩;cases e;exact⟨o,I.fT _ o aq,hd⟩
  ·have z:∃ o,s.heap.get? p=some o/\o.ExactDict:=by
    rcases aq with⟨kvs,aq⟩|⟨kvs,aq⟩
    ·obtain⟨_,_,_,_,o,_,_,e,ex,_⟩:=I.bj p _ aq;exact⟨o,e,ex⟩
    ·obtain⟨_,_,_,_,o,_,_,e,ex,_⟩:=I.bj p _ aq;exact⟨o,e,ex⟩
   obtain⟨o,e,ex⟩:=z;refine⟨⟨o,e,ex.1⟩,λ a aP=>?_⟩;cases aP;exact⟨o,e,ex.2.1⟩
  ·obtain⟨o,_,_,_,e,ex,_⟩:=I.bj p _ aq;refine⟨⟨o,e,ex.1⟩,λ a aP=>?_⟩;cases aP;exact⟨o,e,ex.2.1⟩
 |_=>exact False.elim ty
noncomputable def Aq(K:a4)(T:String)(r:V->List V->am->b7->Prop)(to:TE):TE:=λ σ H Q=>to σ H λ x H1=>qF K T x H1/\r x [] H1 Q
noncomputable def v9(K:a4)(T:String)(r:V->List V->am->b7->Prop)(to:TE)(t:e3):TE:=λ σ H Q=>to σ H λ x H1=>qF K T x H1/\t σ H1 λ xs aO=>r x xs aO Q
variable{o e:aY}{es:List aY}{to:TE}{t:e3}{name:Str}{apos cJ:Pos}{T id:String}{r:V->List V->am->b7->Prop}
theorem GH(fj:lF T)(slot:jm T name id)(hI:lL (.builtin id)=pure (.type "method_descriptor"))(hm:nq X id r)(aJ:bQ X o to)
 (gA:jk o name X.env (eval o X.env)=eval o X.env:=by rfl) (gB:(apos.endLine==cJ.line)=true:=by rfl):bQ X (.Call (.Attribute o name apos) [] [] cJ) (Aq X.K T r to):=by
 intro pins s σ H Q I h;refine zn gA gB (bT (aJ pins s σ H _ I h) λ v s1 xz=>?_);obtain⟨x,H1,aV,aG,ty,aD⟩:=xz;obtain⟨ae,ag⟩:=Ap aV aG ty;exact⟨T,id,fj,slot,hI,ae,ag,Calls.callWith_builtin rfl (PySem.evalArgs_none (hm pins s1 σ H1 x [] v [] Q aV aG .nil aD))⟩
theorem Ar(fj:lF T)(slot:jm T name id)(hI:lL (.builtin id)=pure (.type "method_descriptor"))(hm:nq X id r)(aJ:bQ X o to)(az:hD X (e::es) t)
 (gA:jk o name X.env (eval o X.env)=eval o X.env:=by rfl)
 (GI:((iu cJ (ek (e::es) X.env)).all (λ x=>!x.1)&&(backToKw cJ (keywordEach [] X.env)).all (λ x=>x.1.isSome)
  &&decide ((e::es).length+([]:List Keyword).length+(if ([]:List Keyword).isEmpty then 0 else 1)<30))=true:=by rfl)
 (gB:(apos.endLine==cJ.line)=true:=by rfl) (ar:ek (e::es) X.env=(false,eval e X.env)::ek es X.env:=by rfl) (GJ:(iu cJ (ek es X.env)).any (·.1)=false:=by rfl) :
 bQ X (.Call (.Attribute o name apos) (e::es) [] cJ) (v9 X.K T r to t):=by
 intro pins s σ H Q I h;refine wpAny_Call_method_late gA GI gB rfl (bT (aJ pins s σ H _ I h) λ v s1 xz=>?_);obtain⟨x,H1,aV,aG,ty,aD⟩:=xz;obtain⟨ae,ag⟩:=Ap aV aG ty;refine⟨T,id,fj,slot,hI,ae,ag,?_⟩;have nr:=az cJ pins s1 σ H1 _ aV aD;rw[ar]at nr ⊢;refine Calls.callWith_builtin (by show (false||(iu cJ (ek es X.env)).any (·.1))=false;rw[GJ]<;>rfl) (Calls.evalArgs_plain ?_);refine bT nr λ us s2 xz=>?_;obtain⟨vs,aO,cG,aR,bw⟩:=xz;exact hm pins s2 σ aO x vs v us Q cG aG aR bw
end
noncomputable def qG(X:aQ)(id:String)(r:V->List V->am->b7->Prop):Prop:=
 ∀(pins:List (Addr×Obj))(s:aw)(σ:St)(H:am)(x:V)(xs:List V)(v:Value)(us:List Value)(Q:b7),Inv X pins σ H s->RelV x v->Vals xs us->r x xs H Q →
  aT (a5 X.prog X.w) X.A (call (.builtin id) (v::us)) (fP X pins σ Q) X.xe s
theorem Vals.one{x:V}{us:List Value}(h:Vals [x] us):∃ u,us=[u]/\RelV x u:=by
 cases h with
 |cons r h=>cases h;exact⟨_,rfl,r⟩
theorem Vals.two{x y:V}{us:List Value}(h:Vals [x,y] us):∃ u v,us=[u,v]/\RelV x u/\RelV y v:=by
 cases h with
 | cons r h=>
  obtain⟨v,rfl,q⟩:=Vals.one h;exact⟨_,_,rfl,r,q⟩
theorem Vals.zero:∀{us:List Value},Vals [] us->us=[]
 |_,.nil=>rfl
theorem Vals.dropLast{xs:List V}{us:List Value}(h:Vals xs us):Vals xs.dropLast us.dropLast:=by
 induction h with
 |nil=>exact .nil
 | cons r t b0=>
  cases t with
  |nil=>exact .nil
  |cons q t'=>exact .cons r b0
theorem GK{α:Type}(l:List α):l.eraseIdx (l.length - 1)=l.dropLast:=by
 induction l with
 |nil=>rfl
 | cons a r b0=>
  cases r with
  |nil=>rfl
  | cons b r=>
   have e:(a::b::r).length - 1=((b::r).length - 1)+1:=by
    have ae:(a::b::r).length=r.length+2:=rfl;have ag:(b::r).length=r.length+1:=rfl;omega
   rw[e,List.eraseIdx_cons_succ,b0]
   all_goals rfl
section
variable{X:aQ}{pins:List (Addr×Obj)}{σ:St}{H:am}{s:aw}{l b:Addr}{xs ys zs:List V}
theorem Inv.qH{ao its':List Value}{n:Nat}{f:Array Value->Array Value}{t':Nat}(I:Inv X pins σ H s)(gk:H l=some (.lst xs))
 (e:s.heap.get? l=some {cls:=.type "list",data:=.seq ao.toArray n}) (hf:f ao.toArray=its'.toArray) (bh:Vals ys its') (hz:ys.length<=sizeLine) :
 Inv X pins σ (upd H l (.lst ys)) {s with heap:=s.heap.update l (Obj.mapSeq f),toks:=t'}:=by
 have q:=PySem.IsL.update e f;rw[hf]at q;refine I.write (x:=l) (e:=l) (by rw[gk];exact trivial) (.inl rfl) (λ hp u af bg=>(Heap.get?_update_other s.heap (Obj.mapSeq f) (Ne.symm af)).trans bg) ⟨_,q⟩ ?_;exact⟨hz,its',_,bh,q⟩
theorem Inv.GL{ao:List Value}{t':Nat}(I:Inv X pins σ H s)(bh:Vals ys ao)(hz:ys.length<=sizeLine) :
 Inv X pins σ (upd H s.heap.objs.size (.lst ys)) {s with heap:=s.heap.push {cls:=.type "list",data:=.seq ao.toArray},toks:=t'}:=
 I.laid (λ _ _ q=>dA _ q) (b6 _) ⟨hz,ao,0,bh,fc _ rfl⟩
theorem Inv.fresh(I:Inv X pins σ H s):H s.heap.objs.size=none:=I.bj.fresh (b6 _)
theorem Inv.mc(I:Inv X pins σ H s)(gk:H l=some (.lst xs)):xs.length<=sizeLine/\∃(ao:List Value)(n:Nat),Vals xs ao/\xs.length=ao.length/\s.heap.get? l=some {cls:=.type "list",data:=.seq ao.toArray n}:=by
 obtain⟨z,ao,n,r,e⟩:=I.bj l _ gk;exact⟨z,ao,n,r,r.length,e⟩
theorem As{n:Nat}(h:n<=sizeLine):Builtin.List.listTooLong n=false:=by
 unfold Builtin.List.listTooLong;exact decide_eq_false (by omega)
end
section
variable{X:aQ}
noncomputable def GM:V->List V->am->b7->Prop:=λ x vs H Q=>∃ l xs y,x=.ref l/\vs=[y]/\H l=some (.lst xs)/\xs.length<sizeLine/\Q .bo (upd H l (.lst (xs++[y])))
theorem At:qG X "list.append" GM:=by
 intro pins s σ H x vs v us Q I a6 aM h;obtain⟨l,xs,y,rfl,rfl,gk,hz,q⟩:=h;cases a6;obtain⟨u,rfl,cD⟩:=aM.one;obtain⟨z,ao,n,r,aB,e⟩:=I.mc gk;refine oo F.slot_list_append ⟨_,e,rfl⟩ F.entry_list_append (F.args_list_append_2 _ _) (PySem.list_append l ao.toArray n u (by rw[bN];omega)) ⟨e,?_⟩;refine⟨.bo,_,I.qH (its':=ao++[u]) gk e (by simp) (r.append (.cons cD .nil)) ?_,rfl,q⟩;rw[dN,lS];omega
noncomputable def GN:V->List V->am->b7->Prop:=λ x vs H Q=>∃ l b xs zs,x=.ref l/\vs=[.ref b]/\H l=some (.lst xs)/\H b=some (.lst zs)/\xs.length+zs.length<=sizeLine/\Q .bo (upd H l (.lst (xs++zs)))
theorem GO:qG X "list.extend" GN:=by
 intro pins s σ H x vs v us Q I a6 aM h;obtain⟨l,b,xs,zs,rfl,rfl,gk,qI,hz,q⟩:=h;cases a6;obtain⟨u,rfl,cD⟩:=aM.one;cases cD;obtain⟨z,ao,n,r,aB,e⟩:=I.mc gk;obtain⟨cU,bx,de,aR,k0,aP⟩:=I.mc qI
 have hsz:ao.toArray.size+bx.toArray.size<=sizeLine:=by rw[bN,bN];omega
 have v_:¬ (!ao.toArray.isEmpty&&Builtin.List.listTooLong (ao.toArray.size+bx.toArray.size))=true:=by
  rw[As hsz,Bool.and_false];exact i0
 refine oo F.slot_list_extend ⟨_,e,rfl⟩ F.entry_list_extend (F.args_list_extend_2 _ _)
  (AutoSeq1.list_extend_list_list_0 l ao.toArray n b bx.toArray de v_ (by rw[bN];omega) (by omega)) ⟨e,aP,?_⟩
 refine⟨.bo,_,I.qH (its':=ao++bx) gk e (by simp) (r.append aR) ?_,rfl,q⟩;rw[dN];omega
noncomputable def GP:V->List V->am->b7->Prop:=λ x vs H Q=>∃ l xs y,x=.ref l/\vs=[]/\H l=some (.lst xs)/\xs[xs.length - 1]?=some y/\Q y (upd H l (.lst xs.dropLast))
theorem GQ:qG X "list.pop" GP:=by
 intro pins s σ H x vs v us Q I a6 aM h;obtain⟨l,xs,y,rfl,rfl,gk,a9,q⟩:=h;cases a6;have GR:=aM.zero;subst GR;obtain⟨z,ao,n,r,aB,e⟩:=I.mc gk;obtain⟨u,bg,cD⟩:=r.get a9
 have nu:ao.toArray[ao.toArray.size - 1]?=some u:=by
  show ao.toArray[ao.length - 1]?=some u;rw[<- Array.getElem?_toList,<- aB];exact bg
 refine oo F.slot_list_pop ⟨_,e,rfl⟩ F.entry_list_pop (F.args_list_pop_1 _) (MeetsSeq.list_pop_last l ao.toArray n u nu (by rw[bN];omega)) ⟨e,?_⟩;refine⟨y,_,I.qH (its':=ao.dropLast) gk e ?_ r.dropLast ?_,cD,q⟩
 ·show ao.toArray.eraseIdxIfInBounds (ao.toArray.size - 1)=ao.dropLast.toArray;rw[bN,List.eraseIdxIfInBounds_toArray,GK]
 ·rw[List.length_dropLast];omega
noncomputable def GS:dQ:=λ x y H Q=>∃ l b xs zs,x=.ref l/\y=.ref b/\H l=some (.lst xs)/\H b=some (.lst zs)/\xs.length+zs.length<=sizeLine/\∀ p,H p=none->Q (.ref p) (upd H p (.lst (xs++zs)))
theorem GU:c4 X (gc .Add) GS:=by
 intro pins s σ H x y v u Q I a6 bA h;obtain⟨l,b,xs,zs,rfl,rfl,gk,qI,hz,q⟩:=h;cases a6;cases bA;obtain⟨z,ao,n,r,aB,e⟩:=I.mc gk;obtain⟨cU,bx,de,aR,k0,aP⟩:=I.mc qI;refine PySem.P.add_list e aP ?_ (by rw[bN,bN];omega)
 have e6:ao.toArray++bx.toArray=(ao++bx).toArray:=by simp
 rw[e6];exact⟨.ref _,_,I.GL (t':=s.toks) (r.append aR) (by rw[dN];omega),rfl,q _ I.fresh⟩
end
end L2
namespace Au
open PySem PySem.W PySem.Calls PyProof.Rows
theorem GV{P:Params}{h:bF}:∀(ns:List Int)(vs:List Value),WellAll P h vs (ns.map WData.int)->lQ vs ns:=by
 intro ns
 induction ns with
 | nil=>
  intro vs w;rw[List.map_nil]at w;cases w;exact .nil
 | cons n ns b0=>
  intro vs w;rw[eF]at w
  cases w with
  | cons a b=>
   cases a;exact .cons _ _ (b0 _ b)
theorem GW{l:OpenLaw}{n:Nat}(aS:l.most=some n){P:Params}{h:bF}{args:List WData}{vals:List Value}
 (tG:l.row.toRowW.claim.pre args=true) (wa:WellAll P h vals args) :
 ∃ a vs ns,vals=[Value.ref a]/\args=[WData.list (ns.map WData.int)]/\h.get? a=some {cls:=.type "list",data:=.seq vs.toArray}/\lQ vs ns/\ns.length<=n:=by
 have GX:WShape.hasAll [] args [.list .int]=true:=(pre_splitW tG).1;have aA:l.pre.holds [] {args:=args}=true:=(pre_splitW tG).2;obtain⟨d,r,rfl,ae,ag⟩:=hasAllW_cons GX;obtain rfl:=hasAllW_nil ag;obtain⟨xs,rfl,bc⟩:=hasW_list ae;obtain⟨ns,rfl⟩:=items_int bc
 have hlen:ns.length<=n:=by
  unfold OpenLaw.pre at aA
  have cj:(WTm.not (.lt (.lit (.int (n:Int))) (.len (.arg 0)))).holds [] {args:=[.list (ns.map .int)]}=true:=by
   have cj:=(holds_andW aA).1;rw[aS]at cj;exact cj
  have di:=condW_of cj (w_not (w_lt w_lit (w_len_list (w_arg rfl))));rw[dm]at di;refine Nat.le_of_not_lt λ q=>?_
  have fO:(n:Int)<((ns.length:Nat):Int):=by omega
  first
   |(rw[decide_eq_true fO]at di;exact absurd di (by decide))
   |(simp at di;omega)
 cases wa with
 | cons l3 kb=>
  cases kb
  cases l3 with
  |list aJ GY=>exact⟨_,_,ns,rfl,rfl,aJ,GV ns _ GY,hlen⟩
theorem GZ(l:OpenLaw)(args:List WData):l.row.toRowW.claim.post args (.bool true) args=true:=
 postW_of (r:=l.row.toRowW) (X:=(true==true))
  (show WShape.has [] (.bool true) .bool=true by first|rfl|decide|simp[WShape.has,WShape.arms,WShape.armsAll])
  (show (WTm.eq .res (.lit (.bool true))).value [] {args:=args,res:=some (.bool true),after:=args}=some (.bool (true==true)) from w_eq_bool (w_res rfl) w_lit) rfl
theorem G0{l:OpenLaw}{n:Nat}{q:bX}{loose:List Str}{oY:(Str->Option Value)->bF->Prop}{md:bJ->bF->Prop}{d:DefRec}
 (aS:l.most=some n) (qJ:d.params.defaults=[])
 (call:∀(w:bJ)(s₀ c3:aw)(mg i1:Str->Option Value)(fa:Addr)(o:Obj)(pm cd doc:Value)(a:Addr)(vs:List Value)(ns:List Int),
  Ground q loose [] oY w s₀ mg i1 c3.heap->md w c3.heap →
  c3.heap.get? fa=some o->o.data=.func (docDef d.name d.params d.body d.scope pm cd doc)->c3.heap.CodeRec cd d.name->mg d.name=some (.ref fa) →
  c3.heap.get? a=some {cls:=.type "list",data:=.seq vs.toArray}->lQ vs ns->ns.length<=n->c3.gens=#[] →
  mR (a5 l.prog w) Wp (.call (.ref fa) ⟨[.ref a],[]⟩) (λ r av=>r=.ok (.ret (.bool true))/\OldK c3.heap av.heap/\av.os=c3.os/\kO av.gens) c3) :
 WalkO q loose oY md l.row.toRowW d [] (λ f vs=>PySem.call f vs):=by
 intro w s₀ c3 mg i1 G Y fa o pm cd doc tz cO aJ hd g4 iB hmg a8 args vals as tG Pq Pr wa Ps;obtain rfl:tz=.none:=Dflts.none iB qJ;obtain rfl:cO=.none:=Dflts.noKw iB;obtain⟨a,vs,ns,rfl,rfl,wb,hints,hlen⟩:=GW aS tG wa;refine enter_call (sD (call w s₀ c3 mg i1 fa o pm cd doc a vs ns G Y aJ (fd_plain hd) g4 hmg wb hints hlen a8) λ r av aU=>?_);obtain⟨rfl,ag,bc,cj⟩:=aU;exact⟨.inl ⟨.bool true,.bool true,[],rfl,λ _=>rfl,.bool true,GZ l _,λ _=>⟨List.Pairwise.nil,λ _ hm=>(nomatch hm)⟩⟩,ag,bc,cj⟩
end Au
namespace L2
open PySem PySem.Spec PyProof.Rows
theorem wc:∀{vs:List Value}{ns:List Int},lQ vs ns->Vals (ns.map V.int) vs
 |_,_,.nil=>.nil
 |_,_,.cons n t h=>.cons ⟨t,rfl⟩ (wc h)
noncomputable def tH(H:am):Prop:=∀ b,H b=none\/∃ o xs,H b=some (.dU o (.lst xs))
theorem G2{P:bX}{w:bJ}{K:a4}{mg i1:Str->Option Value}{CX:jv}{k:Nat}{fa a:Addr}{fd:fA}{x:Str}{sp:ft}{c3:aw}{vs:List Value}{ns:List Int}
 (KX:K.In c3.heap) (nv:c3.heap.Ns dL mg) (af:c3.heap.Ns builtinsNs i1) (G3:∀ x:Str,x≠"__name__"->i1 x=iU x) (G4:c3.heap.NoLimit) (a8:c3.gens=#[])
 (az:c3.heap.get? a=some {cls:=.type "list",data:=.seq vs.toArray}) (au:lQ vs ns) (aB:ns.length<=sizeLine) (aH:ef k Wp)
 (F:∀ base:bF,K.In base->base.Ns dL mg->dh P w K mg base CX k fa fd [x] sp) (G5:∀(s:aw)(u:Value),ov s fd ⟨[u],[]⟩ [(x,u)])
 (l_:∀ H:am,tH H->dO K H a (ns.map V.int)->sp [.ref a] H (λ v _=>v=.aW true) λ _ _ _=>False)
 (wd:∀ H e av,CX [] H c3 (λ _ _ _=>False) e av->False) :
 mR (a5 P w) Wp (.call (.ref fa) ⟨[.ref a],[]⟩) (λ r av=>r=.ok (.ret (.bool true))/\OldK c3.heap av.heap/\av.os=c3.os/\kO av.gens) c3:=by
 have aM:=wc au;have G6:=au.length
 have core:∀ H:am,tH H->dO K H a (ns.map V.int)->d4 P w H c3.heap->(∀ b,H b≠none->b=a)->(H a≠none->K.lookup a=none) →
  mR (a5 P w) Wp (.call (.ref fa) ⟨[.ref a],[]⟩) (λ r av=>r=.ok (.ret (.bool true))/\OldK c3.heap av.heap/\av.os=c3.os/\kO av.gens) c3:=by
  intro H me eW bj nr ed;have Av:∀{b:Addr}{o:Obj},c3.heap.get? b=some o->H b=none->(kU c3.heap H).get? b=some o:=λ e n=>EN e n
  have qE:∀{b:Addr}{o:Obj}{es:Array hy}{ep:Nat},c3.heap.get? b=some o->o.data=.dict es ep->H b=none:=λ{b o es ep} e d=>by
   cases q:H b with
   |none=>rfl
   | some u=>
    have bz:b=a:=nr b (by rw[q];simp);subst bz;rw[az]at e;cases e;have d':Data.seq vs.toArray _=Data.dict es ep:=d;cases d'
  have tI:∀{b:Addr}{m:Str->Option Value},c3.heap.Ns b m->(kU c3.heap H).Ns b m:=λ{b m} ⟨o,es,ep,e,d,r⟩=>⟨o,es,ep,Av e (qE e d),d,r⟩
  have Aw:K.In (kU c3.heap H):=λ b o e=>Av (KX b o e) (by
   cases q:H b with
   |none=>rfl
   | some u=>
    have bz:b=a:=nr b (by rw[q];simp);subst bz
    rw[ed (by rw[q];simp)]at e;cases e)
  have G7:Mod K mg (kU c3.heap H):=⟨Aw,tI nv,⟨i1,tI af,G3⟩,let ⟨G8,ae,ag⟩:=G4;⟨G8,tI ae,ag⟩⟩
  have cQ:nj P w K mg (kU c3.heap H) Wp [] c3 H:=⟨rfl,G7,λ b o e=>EO e,Nat.le_of_eq (EM _ _),trivial,λ b af=>absurd (show b∈([]:List Addr) from af) (by simp),bj,.of_eq a8⟩
  refine sD ((F _ Aw (tI nv)).run Wp [] c3 H ⟨[.ref a],[]⟩ [.ref a] [.ref a] _ _ aH cQ (G5 c3 (.ref a)) (.cons rfl .nil) (l_ H me eW)) λ r av h=>?_
  cases r with
  |error e=>exact(wd H e av h).elim
  | ok kZ=>
   cases kZ with
   |next=>exact False.elim h
   |brk=>exact False.elim h
   |cont=>exact False.elim h
   | ret u=>
    obtain⟨v,ah,os,bare,un,G9,bK,q⟩:=h;have fO:v=.aW true:=q;subst fO;obtain rfl:u=Value.bool true:=bK;refine⟨rfl,OldK.of_keep λ b o e=>?_,os,bare⟩
    cases q:H b with
    |none=>exact un.keep b o e q (by intro z;exact absurd (show b∈([]:List Addr) from z) (by simp)) (by simp)
    | some u=>
     rcases me b with z|⟨b5,xs,z⟩
     ·rw[q]at z;cases z
     ·have cU:=un.jo b b5 _ z;obtain⟨e1,_⟩:=bj b _ z;obtain⟨aP,_⟩:=G9 b _ cU;rw[e]at e1;cases e1;exact aP
 cases aq:K.lookup a with
 | some o=>
  have e:=KX a o aq;rw[az]at e;cases e;refine core (λ _=>none) (λ _=>.inl rfl) (.inr ⟨_,vs.toArray,_,aq,rfl,rfl,rfl,by rw[bN,G6];exact aB,by simpa using aM⟩) (λ b u z=>by have h5:(none:Option eR)=some u:=z;cases h5) (λ b z=>absurd rfl z) λ z=>absurd rfl z
 | none=>
  refine core (λ b=>if b=a then some (.dU {cls:=.type "list",data:=.seq vs.toArray} (.lst (ns.map V.int))) else none) (λ b=>?_) (.inl (.inr ⟨{cls:=.type "list",data:=.seq vs.toArray},if_pos rfl⟩)) (λ b u z=>?_) (λ b z=>?_) λ _=>aq
  ·by_cases af:b=a
   ·exact .inr ⟨_,_,if_pos af⟩
   ·exact .inl (if_neg af)
  ·by_cases af:b=a
   ·have h5:=(if_pos af).symm.trans z;cases h5;subst af;exact⟨az,by rw[dm];exact aB,vs,_,aM,az⟩
   ·have h5:=(if_neg af).symm.trans z;cases h5
  ·by_cases af:b=a
   ·exact af
   ·exact absurd (if_neg af) z
theorem G_{l:PySem.W.OpenLaw}{n k:Nat}{q:bX}{loose:List Str}{oY:(Str->Option Value)->bF->Prop}{md:bJ->bF->Prop}{d:DefRec}{K:Params->a4}{CX:bJ->jv}{sp:bJ->ft}{x:Str}
 (aS:l.most=some n) (tJ:n<=sizeLine) (qJ:d.params.defaults=[]) (aH:ef k Wp)
 (we:∀(w:bJ)(h:bF),md w h->(K w.params).In h)
 (F:∀(w:bJ)(mg:Str->Option Value)(fa:Addr)(h:bF),(K w.params).In h->h.Ns dL mg->mg d.name=some (.ref fa) →
  ∃ fd:fA,(∀(s:aw)(u:Value),ov s fd ⟨[u],[]⟩ [(x,u)]) ∧
   ∀ base:bF,(K w.params).In base->base.Ns dL mg->dh l.prog w (K w.params) mg base (CX w) k fa fd [x] (sp w))
 (l_:∀(w:bJ)(H:am)(a:Addr)(ns:List Int),ns.length<=n->tH H->dO (K w.params) H a (ns.map V.int)->sp w [.ref a] H (λ v _=>v=.aW true) λ _ _ _=>False)
 (wd:∀(w:bJ)(H:am)(s:aw)(e:Value)(av:aw),CX w [] H s (λ _ _ _=>False) e av->False) :
 PySem.W.WalkO q loose oY md l.row.toRowW d [] (λ f vs=>PySem.call f vs):=by
 refine Au.G0 aS qJ λ w s₀ c3 mg i1 fa o pm cd doc a vs ns G Y aJ hd g4 hmg wb hints hlen a8=>?_;have KX:=we w _ Y;obtain⟨fd,af,fG⟩:=F w mg fa _ KX G.T.g hmg;exact G2 KX G.T.g G.T.b G.T.builtins G.T.nolimit a8 wb hints (gZ hlen tJ) aH fG af (λ H me eW=>l_ w H a ns hlen me eW) λ H e av=>wd w H c3 e av
noncomputable def kj(s:b_):Arguments:=match s with
 |.FunctionDef _ a _ _ _ _ _ _ _ _=>a
 |_=>{posonlyargs:=[],args:=[],vararg:=none,kwonlyargs:=[],kw_defaults:=[],kwarg:=none,defaults:=[]}
noncomputable def iC(s:b_):List b_:=match s with
 |.FunctionDef _ _ b _ _ _ _ _ _ _=>b
 |_=>[]
noncomputable def dw(s:b_):eE:=match s with
 |.FunctionDef _ _ _ _ _ _ sc _ _ _=>sc
 |_=>{kind:=.function,names:=[],isGenerator:=false,isCoroutine:=false}
noncomputable abbrev dx:jv:=λ _ _ _ _ _ _=>False
noncomputable abbrev ny:hC:=λ _ _ _=>False
theorem Ha{X:aQ}:vZ dx X ny:=λ _ _ _ _ _ _ _ h=>h.elim
structure eg(K:a4)(x qual:Str)(st:b_)(f:Addr)(fd:fA):Prop where
 ex:∃(fE:Value)(dF:Option Addr)(cO doc pm:Value)(an:Option Addr)(b9 ct:Value)(i9:Array (Option Value)),
  fd=j5 x qual (kj st) (iC st) (dw st) .none cO doc pm an b9 ct/\K.lookup f=some ⟨fE,dF,.func fd,i9⟩/\qj K b9 qual=true
 c9:m4 K (.ref f)=true
section
variable{P:bX}{w:bJ}{K:a4}{mg:Str->Option Value}{base:bF}
theorem eg.ok{x qual:Str}{st:b_}{f:Addr}{fd:fA}{N aZ:List Str}{k:Nat}{sp:ft}(F:eg K x qual st f fd)(S:fi N aZ (dw st))(len:∀ vs H Q E,sp vs H Q E->vs.length=aZ.length)
 (nk:∀(b9:Value)(A:cg)(outer:List Env)(s:aw)(H:am)(vs:List V)(Q:b7)(E:hC),ef k (A.deeper (jZ qual (dw st) s.heap.objs.size f b9))->sp vs H Q E →
  ∃ t,h6 (l9 dx P w K mg base N qual (dw st) f b9 A outer s H E).oR (iC st) t/\t {nx:=λ _ ah=>Q .bo ah,rt:=Q} (start N vs) H):dh P w K mg base dx (k+1) f fd aZ sp:=by
 obtain⟨fE,dF,cO,doc,pm,an,b9,ct,i9,rfl,lk,g4⟩:=F.ex;refine Gf lk g4 S len λ A outer s H vs Q E aH l_=>?_;obtain⟨t,h,q⟩:=nk b9 A outer s H vs Q E aH l_;exact⟨t,h.oR,q⟩
theorem eg.binds{x qual:Str}{st:b_}{f:Addr}{fd:fA}{aZ:List Str}(F:eg K x qual st f fd)
 (h:∀(cO doc pm:Value)(an:Option Addr)(b9 ct:Value)(us:List Value),us.length=aZ.length->bindArgs (j5 x qual (kj st) (iC st) (dw st) .none cO doc pm an b9 ct) ⟨us,[]⟩=pure (aZ.zip us)):Binds K fd aZ []:=by
 obtain⟨fE,dF,cO,doc,pm,an,b9,ct,i9,rfl,lk,g4⟩:=F.ex;exact .all (h cO doc pm an b9 ct)
theorem Hb{x qual:Str}{st:b_}{f:Addr}{fE:Value}{dF an:Option Addr}{i9:Array (Option Value)}{cO doc pm b9 ct:Value}(l:K.lookup f=some ⟨fE,dF,.func (j5 x qual (kj st) (iC st) (dw st) .none cO doc pm an b9 ct),i9⟩)
 (c:qj K b9 qual=true) (k:m4 K (.ref f)=true):eg K x qual st f (j5 x qual (kj st) (iC st) (dw st) .none cO doc pm an b9 ct):=⟨⟨fE,dF,cO,doc,pm,an,b9,ct,i9,rfl,l,c⟩,k⟩
end
noncomputable def g7(cells:List (Str×Addr)):List (Str×iW)->List (Str×Addr)->List (Str×Addr)
 |[],acc=>acc
 |(n,k)::r,acc=>g7 cells r (if k=.free then (n,(cells.lookup n).getD 0)::acc else acc)
theorem Ax{α β:Type}{f:α->β->Sem (ForInStep β)}(g:β->α->β):∀(l:List α)(c:β),(∀ x∈l,∀ c,f x c=pure (.yield (g c x)))->forIn l c f=pure (l.foldl g c)
 |[],_,_=>rfl
 | x::l,c,h=>by
  rw[List.forIn_cons,h x dk,pure_bind];exact Ax g l _ λ y a9=>h y (dM _ a9)
theorem Ay(cells:List (Str×Addr)):∀(names:List (Str×iW))(acc:List (Str×Addr)),
 names.foldl (λ c y=>if y.2=.free then (y.1,(cells.lookup y.1).getD 0)::c else c) acc=g7 cells names acc
 |[],_=>rfl
 | (n,k)::r,acc=>by
  rw[List.foldl_cons,g7];exact Ay cells r _
theorem wf{scope:eE}{env:Env}(h:∀ y∈scope.names,y.2=.free->∃ c,env.cells.lookup y.1=some c):closureFor scope env=pure (g7 env.cells scope.names []):=by
 rw[<- Ay];simp only[closureFor];rw[Ax (λ c y=>if y.2=.free then (y.1,(env.cells.lookup y.1).getD 0)::c else c) scope.names [] λ x ak c=>?_]
 ·rfl
 ·obtain⟨n,k⟩:=x;by_cases aq:k=.free
  ·subst aq;obtain⟨a,e⟩:=h _ ak rfl;have bz:env.cells.lookup n=some a:=e;simp[cellOf,bz]
  ·have af:(k==NameKind.free)=false:=by simpa using aq
   simp[af,aq]
theorem Az{cells:List (Str×Addr)}:∀(names:List (Str×iW))(acc:List (Str×Addr)),(∀ y∈names,y.2=.free->∃ c,cells.lookup y.1=some c)->(∀ x c,acc.lookup x=some c->cells.lookup x=some c) →
 ∀ x c,(g7 cells names acc).lookup x=some c->cells.lookup x=some c
 |[],_,_,az=>az
 | (n,k)::r,acc,h,az=>by
  rw[g7];refine Az r _ (λ y a9=>h y (dM _ a9)) λ x c e=>?_;by_cases aq:k=.free
  ·rw[if_pos aq]at e;obtain⟨a,e6⟩:=h (n,k) dk aq;have AA:cells.lookup n=some a:=e6;rw[p9]at e
   cases ak:x==n with
   | true=>
    rw[ak]at e;have aP:some ((cells.lookup n).getD 0)=some c:=e;rw[AA]at aP;have gx:a=c:=eH.inj aP;rw[eq_of_beq ak,AA,gx]
   | false=>
    rw[ak]at e;exact az x c e
  ·rw[if_neg aq]at e;exact az x c e
theorem AB{cells:List (Str×Addr)}{x:Str}:∀(names:List (Str×iW))(acc:List (Str×Addr)),(acc.lookup x).isSome=true->((g7 cells names acc).lookup x).isSome=true
 |[],_,h=>h
 | (n,k)::r,acc,h=>by
  rw[g7];refine AB r _ ?_;by_cases aq:k=.free
  ·rw[if_pos aq,p9]
   cases ak:x==n with
   |true=>rfl
   |false=>exact h
  ·rw[if_neg aq];exact h
theorem wg{cells:List (Str×Addr)}{x:Str}:∀(names:List (Str×iW))(acc:List (Str×Addr)),(x,NameKind.free)∈names->((g7 cells names acc).lookup x).isSome=true
 |[],_,h=>nomatch h
 | (n,k)::r,acc,h=>by
  rw[g7];rcases fq.mp h with e|h
  ·cases e;refine AB r _ ?_;rw[if_pos rfl,p9,beq_self_eq_true];rfl
  ·exact wg r _ h
theorem AC{g:Str->iW->iW}{x:Str}:∀ names:List (Str×iW),(names.map λ y=>(y.1,g y.1 y.2)).lookup x=(names.lookup x).map (g x)
 |[]=>rfl
 | (n,k)::r=>by
  rw[eF,p9,p9]
  cases ak:x==n with
  | true=>
   have e:=eq_of_beq ak;subst e;rfl
  |false=>exact AC r
theorem Hc(scope:eE)(env:Env):(lI scope env).names=scope.names.map λ y=>(y.1,if (y.2==.free&&env.scope.kind==.function&&env.kindOf y.1==some .cell)=true then NameKind.cell else y.2):=by
 unfold lI;refine List.map_congr_left λ y _=>?_;obtain⟨n,k⟩:=y;show (if (k==.free&&env.scope.kind==.function&&env.kindOf n==some .cell)=true then (n,NameKind.cell) else (n,k))=_;split<;>simp_all
theorem AD(scope:eE)(env:Env)(x:Str):(lI scope env).names.lookup x=(scope.names.lookup x).map λ k=>if (k==.free&&env.scope.kind==.function&&env.kindOf x==some .cell)=true then NameKind.cell else k:=by
 rw[Hc];exact AC (g:=λ n k=>if (k==.free&&env.scope.kind==.function&&env.kindOf n==some .cell)=true then NameKind.cell else k) scope.names
noncomputable def c_(X:aQ)(scope:eE)(N':List Str)(C:Addr)(ex:List Addr)(s:aw)(H:am):aQ:=
 {X with N:=N',s₀:=s,H₀:=H,env:=compEnvC scope (g7 X.env.cells scope.names []) C X.env,outer:=X.stack,stack:=X.stack,ex:=ex,fn:=λ _=>false,pn:=[],xe:=λ _ _=>False}
noncomputable def jx(nt:Nat)(cap:List Nat)(σ:St):St:=sP nt none++cap.map λ i=>(σ[i]?).join
structure fv(X:aQ)(scope:eE)(N':List Str)(nt:Nat)(cap:List Nat):Prop where
 kind:scope.kind=.function
 AE:∀ y∈scope.names,y.2≠.cell
 locs:∀ y∈scope.names,y.2=.local->scope.names.lookup y.1=some .local
 frees:∀ y∈scope.names,y.2=.free->X.env.scope.names.lookup y.1=some .cell\/X.env.scope.names.lookup y.1=some .free
 len:N'.length=nt+cap.length
 Hd:∀(j i:Nat)(x:Str),cap[j]?=some i->N'[nt+j]?=some x->X.N[i]?=some x/\scope.names.lookup x=some .free
section
variable{X:aQ}{scope:eE}{N':List Str}{nt:Nat}{cap:List Nat}{pins:List (Addr×Obj)}{σ:St}{H:am}{s:aw}
theorem fv.has(c:fv X scope N' nt cap)(ok:X.Ok):∀ y∈scope.names,y.2=.free->∃ a,X.env.cells.lookup y.1=some a:=λ y a9 aq=>ok.has y.1 (c.frees y a9 aq)
theorem fv.cells(c:fv X scope N' nt cap)(ok:X.Ok){x:Str}{a:Addr}(e:(g7 X.env.cells scope.names []).lookup x=some a):X.env.cells.lookup x=some a:=
 Az scope.names [] (c.has ok) (λ _ _ z=>by simp at z) x a e
theorem fv.He(c:fv X scope N' nt cap){x:Str}(h:(lI scope X.env).names.lookup x=some .cell\/(lI scope X.env).names.lookup x=some .free):(x,NameKind.free)∈scope.names:=by
 rw[AD]at h
 cases q:scope.names.lookup x with
 |none=>rw[q]at h;simp at h
 | some k=>
  have hm:=m5 q;have Hf:k≠.cell:=c.AE _ hm;rw[q]at h;by_cases aq:k=.free
  ·subst aq;exact hm
  ·have af:(k==NameKind.free)=false:=by simpa using aq
   simp only[s8,af,Bool.false_and,kT,if_false,eH.injEq]at h;rcases h with h|h
   ·exact absurd h Hf
   ·exact absurd h aq
theorem Inv.comp(I:Inv X pins σ H s)(c:fv X scope N' nt cap){fp:List Addr}(hf:∀ b∈fp,hG X pins H b)(k1:∀ b∈fp,b<s.heap.objs.size){h':bF}{m:Str->Option Value}{t':Nat}
 (aq:∀ b o,s.heap.get? b=some o->h'.get? b=some o) (aS:h'.Ns s.heap.objs.size m) :
 Inv (c_ X scope N' s.heap.objs.size fp s H) [] (jx nt cap σ) H {s with heap:=h',toks:=t'}:=by
 have cl:=λ{x:Str} {a:Addr} (e:(g7 X.env.cells scope.names []).lookup x=some a)=>c.cells I.ok e
 have Pt:∀ x a,X.env.cells.lookup x=some a->a<s.heap.objs.size:=λ x a e=>by
  obtain⟨v,q⟩:=I.cell x a e;exact q.lt
 refine⟨⟨I.ok.mod,c.kind,I.ok.glob,I.ok.blt,b6 _,λ x y a e1 aP=>I.ok.inj x y a (cl e1) (cl aP),λ x ak=>?_,λ x a ak=>absurd ak i0,I.ok.hd,I.ok.frames,.inl rfl,λ b af=>⟨?_,λ x a e=>?_⟩,
  λ b o e=>I.bs b o e,gZ I.ok.kV I.gO,λ b o e af=>?_,λ b af Hg=>?_,I.stack,λ b af=>I.zw b af⟩,
  rfl,I.bare,fD.kept aq,⟨m,aS,λ i x v e1 aP gx=>?_⟩,λ x a e=>?_,I.bj.fresh (b6 _),λ x a e=>I.i3 x a (cl e),λ p ai=>absurd (show p∈([]:List (Addr×Obj)) from ai) (by simp),I.bj.kept aq,?_⟩
 ·exact iZ.mp (wg scope.names [] (c.He ak))
 ·exact dJ (k1 b af)
 ·exact(hf b af).2.2.2.2.1 x a (cl e)
 ·obtain⟨f0,f1,f2,dp,_⟩:=hf b af;rcases dp with z|z
  ·exact I.ok.qo b o e z
  ·exact absurd (fS (c7 e) (gZ I.ok.kV z)) (m1 _)
 ·obtain⟨f0,f1,f2,_⟩:=hf b af;rcases fq.mp (I.tj b Hg) with z|z
  ·exact f1 z
  ·exact f2 z
 .
  have qK:N'[i]?=some x:=e1
  have au:nt<=i:=by
   refine Nat.le_of_not_lt λ q=>?_;unfold jx at aP;rw[mV (by simpa using q),sQ,if_pos q]at aP;cases aP
  obtain⟨j,rfl⟩:=Nat.exists_eq_add_of_le au;unfold jx at aP;rw[oA (by simp),sR,Nat.add_sub_cancel_left,fs]at aP
  cases q:cap[j]? with
  |none=>rw[q]at aP;cases aP
  | some k=>
   rw[q]at aP;have tK:(σ[k]?).join=some v:=eH.inj aP
   have kk:σ[k]?=some (some v):=by
    cases z:σ[k]? with
    |none=>rw[z]at tK;cases tK
    |some d5=>rw[z]at tK;exact congrArg some tK
   obtain⟨iD,de⟩:=c.Hd j k x q qK;have AF:=m5 de;have tA:=c.frees _ AF rfl;obtain⟨m0,_,aB⟩:=I.loc;obtain⟨u,r,lk⟩:=aB k x v iD kk (.inr tA);refine⟨u,r,.inr ⟨?_,?_⟩⟩
   ·show (lI scope X.env).names.lookup x=some .cell\/(lI scope X.env).names.lookup x=some .free;rw[AD,de]
    by_cases z:((NameKind.free==.free&&X.env.scope.kind==.function&&X.env.kindOf x==some .cell)=true)
    ·exact .inl (by rw[s8,if_pos z])
    ·exact .inr (by rw[s8,if_neg z])
   ·rcases lk with⟨cz,_⟩|⟨_,a,e,z⟩
    ·have Hh:X.env.scope.names.lookup x=some .local:=cz;rcases tA with y|y<;>(rw[Hh]at y;cases y)
    ·obtain⟨z5,e6⟩:=iZ.mp (wg (cells:=X.env.cells) scope.names [] AF);have bz:=cl e6;rw[e]at bz;cases bz;obtain⟨o,aJ,hd⟩:=z;exact⟨a,e6,o,aq _ _ aJ,hd⟩
 ·obtain⟨v,o,aJ,hd⟩:=I.cell x a (cl e);exact⟨v,o,aq _ _ aJ,hd⟩
 ·show (jx nt cap σ).length=N'.length;unfold jx;rw[dN,sR,dm,c.len]
theorem Inv.AG{C:Addr}{fp:List Addr}{σ':St}{ah:am}{av:aw}(I:Inv X pins σ H s)(iE:C=s.heap.objs.size)(hf:∀ b∈fp,hG X pins H b){N':List Str}(J:Inv (c_ X scope N' C fp s H) [] σ' ah av) :
 ∃ m,av.heap.Ns C m/\∀ h',Heap.SameBut C av.heap h'->Inv X pins σ ah {av with heap:=h'}:=by
 subst iE;obtain⟨m,aS,_⟩:=J.loc;refine⟨m,aS,λ h' ar=>?_⟩;have ne:∀ b o,s.heap.get? b=some o->b≠s.heap.objs.size:=λ b o e=>dJ (c7 e);have B:=J.base;refine I.EW (ch:=fp) J.os ⟨λ b o e n af ak=>?_,λ b o e n af ak=>?_,B.free,λ b o e ak=>?_,B.j9,B.jo,B.j_⟩ (λ b u e=>?_) J.bare λ b af=>?_
 ·exact(ar.2 b (ne b o e)).trans (B.keep b o e n af ak)
 ·obtain⟨cp,q⟩:=B.slot b o e n af ak;exact⟨cp,(ar.2 b (ne b o e)).trans q⟩
 ·obtain⟨df,q⟩:=B.there b o e ak;exact⟨df,(ar.2 b (ne b o e)).trans q⟩
 ·have AH:ah s.heap.objs.size=none:=J.free;refine(J.bj b u e).j8 (λ d d5 hd q=>(ar.2 d ?_).trans q) (λ _ q=>q) λ _ _ q=>q;intro z;subst z;rcases hd with z|z
  ·rw[<- z,AH]at e;cases e
  ·rw[AH]at z;cases z
 ·obtain⟨f0,f1,f2,dp,f4,e4⟩:=hf b af;exact⟨dp,f1,f4,e4⟩
end
noncomputable def qL(cy:TI)(g:eU)(a0:TE)(nt:Nat)(cap:List Nat):TE:=λ σ H Q=>cy σ H λ J H1=>∀ acc,H1 acc=none →
 ∃ W:Nat->Nat->List V->St->am->Prop,(∃ m,W 0 m [] (jx nt cap σ) (upd H1 acc (.lst [])))/\∀ i m ys σ' ah,W i m ys σ' ah →
  (J.stop i ah/\Q (.ref acc) ah)\/(J.go i ah/\∀ x aO,J.kf i ah x aO->g x σ' aO λ σ3 b1=>a0 σ3 b1 λ y gl=>
   gl acc=some (.lst ys)/\ys.length<sizeLine/\∃ cP,cP<m/\W (i+1) cP (ys++[y]) σ3 (upd gl acc (.lst (ys++[y]))))
noncomputable def qM(cy:TI)(g:eU)(bb:TT)(a0:TE)(nt:Nat)(cap:List Nat):TE:=λ σ H Q=>cy σ H λ J H1=>∀ acc,H1 acc=none →
 ∃ W:Nat->Nat->List V->St->am->Prop,(∃ m,W 0 m [] (jx nt cap σ) (upd H1 acc (.lst [])))/\∀ i m ys σ' ah,W i m ys σ' ah →
  (J.stop i ah/\Q (.ref acc) ah)\/(J.go i ah/\∀ x aO,J.kf i ah x aO->g x σ' aO λ σ3 b1=>bb σ3 b1 λ b hn=>if b=true then a0 σ3 hn λ y gl=>
   gl acc=some (.lst ys)/\ys.length<sizeLine/\∃ cP,cP<m/\W (i+1) cP (ys++[y]) σ3 (upd gl acc (.lst (ys++[y])))
   else ∃ cP,cP<m/\W (i+1) cP ys σ3 hn)
theorem Hi(elt target iter c:aY)(scope:eE)(pos:Pos)(it acc:Value)(env:Env) :
 p2 (.ListComp elt [⟨target,iter,[c],0⟩] scope pos) 0 it acc env=(jX iter.pos >>= λ _=>gJ it >>= λ r=>match r with
  |none=>pure (.done .next)
  | some v=>mP target it v >>= λ _=>gI target env v >>= λ _=>(forIn [c] true λ c r=>if r=true then do let ok ← jY c env (eval c env);pure (ForInStep.yield ok) else pure (ForInStep.yield r)) >>= λ ok=>
   if ok=true then (eval elt env >>= λ x=>call (.builtin "list.append") [acc,x] >>= λ _=>pure ()) >>= λ _=>gK (.compLoop (.ListComp elt [⟨target,iter,[c],0⟩] scope pos) 0 it acc env)
   else gK (.compLoop (.ListComp elt [⟨target,iter,[c],0⟩] scope pos) 0 it acc env)):=by
 rfl
theorem Hj(c:aY)(env:Env):(forIn [c] true λ c r=>if r=true then do let ok ← jY c env (eval c env);pure (ForInStep.yield ok) else pure (ForInStep.yield r))=jY c env (eval c env):=by
 rw[List.forIn_cons,if_pos rfl];simp only[bind_assoc,pure_bind,List.forIn_nil,bind_pure]
theorem Hk(elt target iter c:aY)(scope:eE)(pos:Pos)(it acc:Value)(env:Env) :
 p2 (.ListComp elt [⟨target,iter,[c],0⟩] scope pos) 0 it acc env=(jX iter.pos >>= λ _=>gJ it >>= λ r=>match r with
  |none=>pure (.done .next)
  | some v=>mP target it v >>= λ _=>gI target env v >>= λ _=>jY c env (eval c env) >>= λ ok=>
   if ok=true then (eval elt env >>= λ x=>call (.builtin "list.append") [acc,x] >>= λ _=>pure ()) >>= λ _=>gK (.compLoop (.ListComp elt [⟨target,iter,[c],0⟩] scope pos) 0 it acc env)
   else gK (.compLoop (.ListComp elt [⟨target,iter,[c],0⟩] scope pos) 0 it acc env)):=by
 rw[Hi,Hj]
section
variable{X:aQ}{scope:eE}{N':List Str}{nt:Nat}{cap:List Nat}{elt iter aX:aY}{pos:Pos}{cy:TI}{g:eU}{a0:TE}
theorem wh{cs:List aY}{B:Env->Sem Bool}{bb:TT}{use:Option (Value->Sem Unit)}{wi:Value->aw->Prop}{R0:V->am->Prop}{pins:List (Addr×Obj)}{s s2:aw}{σ:St}{H:am}{l4:Value}
 (aA:X.calm=true) (c:fv X scope N' nt cap) (a8:∀ C ex s H,js (c_ X scope N' C ex s H) aX g) (he:∀ C ex s H,bQ (c_ X scope N' C ex s H) elt a0)
 (cA:∀ C ex s H pins kl σ tL Q,Inv (c_ X scope N' C ex s H) pins σ tL kl->bb σ tL Q->aT (a5 X.prog X.w) X.A (B (c_ X scope N' C ex s H).env) (tn (c_ X scope N' C ex s H) pins σ Q) (c_ X scope N' C ex s H).xe kl)
 (Hl:∀ it acc env,p2 (.ListComp elt [⟨aX,iter,cs,0⟩] scope pos) 0 it acc env=(jX iter.pos >>= λ _=>gJ it >>= λ r=>match r with
  |none=>pure (.done .next)
  | some v=>mP aX it v >>= λ _=>gI aX env v >>= λ _=>B env >>= λ ok=>
   if ok=true then (eval elt env >>= λ x=>call (.builtin "list.append") [acc,x] >>= λ _=>pure ()) >>= λ _=>gK (.compLoop (.ListComp elt [⟨aX,iter,cs,0⟩] scope pos) 0 it acc env)
   else gK (.compLoop (.ListComp elt [⟨aX,iter,cs,0⟩] scope pos) 0 it acc env)))
 (I:Inv X pins σ H s)
 (fin:∀{bc:bF}{s2:aw}{aO:am}{D:Addr}{fp:List Addr}{σ':St}{ah:am}{av:aw},Inv X pins σ (upd aO D (.lst [])) {s2 with heap:=bc}->(∀ b∈fp,hG X pins (upd aO D (.lst [])) b) →
  Inv (c_ X scope N' bc.objs.size fp {s2 with heap:=bc} (upd aO D (.lst []))) [] σ' ah av->R0 (.ref D) ah->p3 (a5 X.prog X.w) X.A X.xe use wi (.ref D) bc.objs.size (.ok .next) av)
 (ag:qw X pins σ aX (λ J H1=>∀ acc,H1 acc=none->∃ W:Nat->Nat->List V->St->am->Prop,(∃ m,W 0 m [] (jx nt cap σ) (upd H1 acc (.lst [])))/\∀ i m ys σ' ah,W i m ys σ' ah →
  (J.stop i ah/\R0 (.ref acc) ah)\/(J.go i ah/\∀ x aO,J.kf i ah x aO->g x σ' aO λ σ3 b1=>bb σ3 b1 λ b hn=>if b=true then a0 σ3 hn λ y gl=>
  gl acc=some (.lst ys)/\ys.length<sizeLine/\∃ cP,cP<m/\W (i+1) cP (ys++[y]) σ3 (upd gl acc (.lst (ys++[y])))
  else ∃ cP,cP<m/\W (i+1) cP ys σ3 hn)) l4 s2) :
 aT (a5 X.prog X.w) X.A (newList [])
  (λ acc s3=>aT (a5 X.prog X.w) X.A (newFunctionEnv scope X.env.globals (g7 X.env.cells scope.names []) [] X.env.qual none Value.none (some X.env))
   (λ AI s4=>mR (a5 X.prog X.w) X.A (Code.compStart (.ListComp elt [⟨aX,iter,cs,0⟩] scope pos) 0 l4 acc {AI with scope:=lI scope X.env}) (p3 (a5 X.prog X.w) X.A X.xe use wi acc AI.locals) s4) X.xe s3) X.xe s2:=by
 obtain⟨it,fp,g5,J,aO,rfl,cG,T,tr,f2,R⟩:=ag;have iB:aO s2.heap.objs.size=none:=cG.bj.fresh (b6 _);obtain⟨W,⟨m0,l2⟩,turn⟩:=R _ iB
 have c0:Inv X pins σ (upd aO s2.heap.objs.size (.lst [])) {s2 with heap:=s2.heap.push {cls:=.type "list",dict:=none,data:=.seq ([]:List Value).toArray}}:=
  cG.laid (t':=s2.toks) (λ b u e=>dA _ e) (b6 _) ⟨fB _,[],0,.nil,fc _ rfl⟩
 have tM:∀ b∈fp,b<s2.heap.objs.size:=λ b af=>by
  obtain⟨o,e,_⟩:=T.obj _ _ tr b af;exact c7 e
 have dp:∀ b∈fp,hG X pins (upd aO s2.heap.objs.size (.lst [])) b:=λ b af=>⟨by rw[cu (dJ (tM b af))];exact(f2 b af).1,(f2 b af).2⟩
 have qA:g5 0 (s2.heap.push {cls:=.type "list",dict:=none,data:=.seq ([]:List Value).toArray}):=T.keep _ _ _ tr λ b _ o e=>dA _ e;generalize AJ:s2.heap.push {cls:=.type "list",dict:=none,data:=.seq ([]:List Value).toArray}=bc at c0 qA
 have wj:s2.heap.objs.size<bc.objs.size:=by rw[<- AJ,Heap.size_push];exact Nat.lt_succ_self _
 generalize Hm:s2.heap.objs.size=D at c0 dp iB l2 turn wj tM;refine gY ?_;rw[Hm,AJ];refine wpAny_newFunctionEnv c.AE (by intro y a9;simp at a9) (λ cj AK AL=>?_) c.kind
 dsimp only at AK AL ⊢
 have AM:∀ b o,bc.get? b=some o->cj.get? b=some o:=λ b o e=>(AL.2 b (dJ (c7 e))).trans (dA _ e);have eI:=c0.comp (t':=s2.toks+([]:List (Str×Value)).length) c dp (λ b af=>sZ (tM b af) wj) AM AK;have AN:g5 0 cj:=T.keep _ _ _ qA λ b _ o e=>AM b o e
 dsimp only at eI
 have nh:∀{ah:am},(∀ b∈fp,ah b=none)->∀ b∈fp,hG (c_ X scope N' bc.objs.size fp {s2 with heap:=bc} (upd aO D (.lst []))) [] ah b:=λ{ah} aS b af=>by
  refine⟨aS b af,dJ (sZ (tM b af) wj),λ z=>?_,.inl af,λ x a e=>(dp b af).2.2.2.2.1 x a (c.cells I.ok e),λ p ai=>absurd (show p∈([]:List (Addr×Obj)) from ai) (by simp)⟩;rcases fq.mp (I.tj b z) with y|y
  ·exact(dp b af).2.1 y
  ·exact(dp b af).2.2.1 y
 have loop:mR (a5 X.prog X.w) X.A (.compLoop (.ListComp elt [⟨aX,iter,cs,0⟩] scope pos) 0 (.ref it) (.ref D) (compEnvC scope (g7 X.env.cells scope.names []) bc.objs.size X.env))
  (p3 (a5 X.prog X.w) X.A X.xe use wi (.ref D) bc.objs.size) {s2 with heap:=cj,toks:=s2.toks+([]:List (Str×Value)).length}:=by
  refine codeAny_loop rfl (λ n av=>∃ i ys σ' ah,Inv (c_ X scope N' bc.objs.size fp {s2 with heap:=bc} (upd aO D (.lst []))) [] σ' ah av/\g5 i av.heap/\(∀ b∈fp,ah b=none)/\W i n ys σ' ah) (λ n s5 Hn=>?_) m0 ⟨0,[],_,_,eI,AN,λ b af=>(dp b af).1,l2⟩;obtain⟨i,ys,σ5,hn,jt,oV,ts,Ho⟩:=Hn;show aT _ X.A ((p2 (.ListComp elt [⟨aX,iter,cs,0⟩] scope pos) 0 (.ref it) (.ref D) (compEnvC scope (g7 X.env.cells scope.names []) bc.objs.size X.env)).onRaise (λ x=>do noteFrame x (compEnvC scope (g7 X.env.cells scope.names []) bc.objs.size X.env);theTreesLotGoes x)) _ _ s5;refine wpAny_noted ?_;rw[Hl];rcases turn i n ys σ5 hn Ho with⟨stop,vP⟩|⟨go,step⟩
  ·refine ay (pY (ay (gw (T.done (c_ X scope N' bc.objs.size fp {s2 with heap:=bc} (upd aO D (.lst []))) rfl rfl rfl aA i [] s5 σ5 hn (λ _ _=>False) jt (nh ts) oV stop) (λ r fh xz=>?_) λ _ _ z=>z.elim)));obtain⟨aH,kh⟩:=xz;subst aH;exact bq (fin c0 dp kh vP)
  ·refine ay (pY (ay (gw (T.item (c_ X scope N' bc.objs.size fp {s2 with heap:=bc} (upd aO D (.lst []))) rfl rfl rfl aA i [] s5 σ5 hn (λ _ _=>False) jt (nh ts) oV go) (λ r fh xz=>?_) λ _ _ z=>z.elim)));obtain⟨u,aH,tN⟩:=xz;subst aH;refine ay (gw tN (λ _ h8 xz=>?_) λ _ _ z=>z.elim);obtain⟨x,g6,iz,ni,Hp,qN,Hq⟩:=xz;have Hr:=iz.pinned (nh Hq) (T.obj _ _ qN);refine ay (gw (a8 _ _ _ _ _ h8 σ5 g6 x u _ Hr ni (step x g6 Hp)) (λ _ kl xz=>?_) λ _ _ z=>z.elim);obtain⟨σ8,tL,Hs,Ht⟩:=xz;refine ay (gw (cA _ _ _ _ _ kl σ8 tL _ Hs Ht) (λ wk qO xz=>?_) λ _ _ z=>z.elim);obtain⟨Hu,tO,tP⟩:=xz
   cases wk with
   | true=>
    rw[if_pos rfl];rw[if_pos rfl]at tP;refine ay (ay (gw (he _ _ _ _ _ qO σ8 Hu _ tO tP) (λ Hv Hw xz=>?_) λ _ _ z=>z.elim));obtain⟨y,AO,Hx,Hy,Hz,HA,cP,wl,HB⟩:=xz
    refine ay (gw (At (X:=c_ X scope N' bc.objs.size fp {s2 with heap:=bc} (upd aO D (.lst []))) _ Hw σ8 AO (.ref D) [y] (.ref D) [Hv] (λ v AP=>v=.bo/\AP=upd AO D (.lst (ys++[y]))) Hx rfl (.cons Hy .nil) ⟨D,ys,y,rfl,rfl,Hz,HA,rfl,rfl⟩)
     (λ _ Pu ⟨v10,AP,wm,_,_,wn⟩=>?_) λ _ _ z=>z.elim)
    subst wn;refine bq (bq ⟨rfl,cP,wl,i+1,ys++[y],σ8,_,wm.kW,?_,λ b af=>?_,HB⟩)
    ·exact T.keep _ _ _ qN λ b af o e=>(wm.pin (b,o) (dc _ (dc _ (oU af e)))).1
    ·obtain⟨o,e,d⟩:=T.obj _ _ qN b af;exact(wm.pin (b,o) (dc _ (dc _ (oU af e)))).2.1
   | false=>
    rw[if_neg i0];rw[if_neg i0]at tP;obtain⟨cP,wl,HC⟩:=tP;refine bq ⟨rfl,cP,wl,i+1,ys,σ8,_,tO.kW,?_,λ b af=>?_,HC⟩
    ·exact T.keep _ _ _ qN λ b af o e=>(tO.pin (b,o) (dc _ (dc _ (oU af e)))).1
    ·obtain⟨o,e,d⟩:=T.obj _ _ qN b af;exact(tO.pin (b,o) (dc _ (dc _ (oU af e)))).2.1
 exact codeAny_compStart_list loop (T.self _ 0 _ _ _ AN loop)
theorem AQ(elt aX iter:aY)(scope:eE)(pos:Pos)(it acc:Value)(env:Env):p2 (.ListComp elt [⟨aX,iter,[],0⟩] scope pos) 0 it acc env=(jX iter.pos >>= λ _=>gJ it >>= λ r=>match r with
 |none=>pure (.done .next)
 | some v=>mP aX it v >>= λ _=>gI aX env v >>= λ _=>(pure true:Sem Bool) >>= λ ok=>
  if ok=true then (eval elt env >>= λ x=>call (.builtin "list.append") [acc,x] >>= λ _=>pure ()) >>= λ _=>gK (.compLoop (.ListComp elt [⟨aX,iter,[],0⟩] scope pos) 0 it acc env)
  else gK (.compLoop (.ListComp elt [⟨aX,iter,[],0⟩] scope pos) 0 it acc env)):=by
 rw[compTurn_list1];simp only[pure_bind,if_true];rfl
theorem AR{pins:List (Addr×Obj)}{σ:St}{Q:b7}{bc:bF}{s2:aw}{aO:am}{D:Addr}{fp:List Addr}{σ':St}{ah:am}{av:aw}(c0:Inv X pins σ (upd aO D (.lst [])) {s2 with heap:=bc})(dp:∀ b∈fp,hG X pins (upd aO D (.lst [])) b)
 (km:Inv (c_ X scope N' bc.objs.size fp {s2 with heap:=bc} (upd aO D (.lst []))) [] σ' ah av) (q:Q (.ref D) ah):p3 (a5 X.prog X.w) X.A X.xe none (fP X pins σ Q) (.ref D) bc.objs.size (.ok .next) av:=by
 obtain⟨m,aS,fu⟩:=c0.AG rfl dp km;exact⟨m,aS,λ h' wo=>⟨.ref D,ah,fu h' wo,rfl,q⟩⟩
theorem HD(aA:X.calm=true)(c:fv X scope N' nt cap)(au:i8 X aX iter cy)(a8:∀ C ex s H,js (c_ X scope N' C ex s H) aX g)(he:∀ C ex s H,bQ (c_ X scope N' C ex s H) elt a0)
 (ar:∀ x,iQ iter X.env x=pure x:=by intro _;rfl):bQ X (.ListComp elt [⟨aX,iter,[],0⟩] scope pos) (qL cy g a0 nt cap):=by
 intro pins s σ H Q I h;rw[eval_ListComp]
 exact vu (use:=none) rfl ar (wf (c.has I.ok)) c.kind c.locs (bT (au pins s σ H _ I (show qM cy g (λ _ H k=>k true H) a0 nt cap σ H Q from h)) λ v s1 ae=>bT ae λ l4 s2 ag=>
  wh aA c a8 he (B:=λ _=>pure true) (λ _ _ _ _ _ _ _ _ _ i7 q=>bq ⟨_,i7,q⟩) (AQ _ _ _ _ _) I AR ag)
theorem HE{ct:aY}{bb:TT}(aA:X.calm=true)(c:fv X scope N' nt cap)(au:i8 X aX iter cy)(a8:∀ C ex s H,js (c_ X scope N' C ex s H) aX g)(cA:∀ C ex s H,ix (c_ X scope N' C ex s H) ct bb)(he:∀ C ex s H,bQ (c_ X scope N' C ex s H) elt a0)
 (ar:∀ x,iQ iter X.env x=pure x:=by intro _;rfl):bQ X (.ListComp elt [⟨aX,iter,[ct],0⟩] scope pos) (qM cy g bb a0 nt cap):=by
 intro pins s σ H Q I h;rw[eval_ListComp]
 exact vu (use:=none) rfl ar (wf (c.has I.ok)) c.kind c.locs (bT (au pins s σ H _ I h) λ v s1 ae=>bT ae λ l4 s2 ag=>
  wh aA c a8 he (B:=λ env=>jY ct env (eval ct env)) (λ C ex s H=>cA C ex s H) (Hk _ _ _ _ _ _) I AR ag)
end
structure Got(P:bX)(w:bJ)(K:a4)(mg:Str->Option Value)(base:bF)(k:Nat)(x:Str)(aZ:List Str)(sp:ft):Prop where
 ex:∃(f:Addr)(fd:fA),dh P w K mg base dx k f fd aZ sp/\mg x=some (.ref f)/\m4 K (.ref f)=true/\Binds K fd aZ []
section
variable{X:aQ}{k j:Nat}{x:Str}{aZ:List Str}{sp:ft}{p pos:Pos}{e:aY}{es:List aY}{t:e3}
theorem HF(G:Got X.prog X.w X.K X.mg X.base k x aZ sp)(aH:ef j X.A)(aq:k<=j)(a8:eb X x)(az:hD X (e::es) t)(gy:(x==("__debug__" : Str))=false:=by decide)
 (he:ek (e::es) X.env=(false,eval e X.env)::ek es X.env:=by rfl) (l8:(iu pos (ek es X.env)).any (·.1)=false:=by rfl) :
 bQ X (.Call (.Name x p) (e::es) [] pos) (vY sp [] ny t):=by
 obtain⟨f,fd,F,hm,c9,b⟩:=G.ex;exact Gc F (aH.mono aq) a8 hm c9 b .nil Ha az gy he l8
end
section
variable{X:aQ}
theorem HG:c4 X (gc .FloorDiv) (oW (λ _ j=>0<j/\j<2 ^ 64) λ i j=>.int (i / j)):=tu λ i j t u s E Q aA q=>by
 have h0:j≠0:=by omega
 have ae:j.natAbs.log2<9000:=by
  have e1:j.natAbs<2 ^ 64:=by omega
  exact sZ ((Nat.log2_lt (by omega)).mpr e1) (by decide)
 have e:i.fdiv j=i / j:=Int.fdiv_eq_ediv_of_nonneg i (by omega);exact floordiv_int h0 (by rw[e];exact q) (.inl (PyProof.noPylong_of_log2 ae))
theorem HH(l b:Addr)(items bu:Array Value)(n de:Nat)(ez:Option Addr)(fF:Array (Option Value))(h0:¬(!items.isEmpty&&Builtin.List.listTooLong (items.size+bu.size))=true)(ae:items.size<=sizeLine)(ag:items.size+bu.size<=sizeLine+1) :
 Meets (Builtin.«list.extend» ⟨[.ref l,.ref b],[]⟩) (λ _ R s=>s.heap.get? l=some {cls:=.type "list",dict:=none,data:=.seq items n,slots:=#[]} ∧
  s.heap.get? b=some {cls:=.type "tuple",dict:=ez,data:=.seq bu de,slots:=fF}/\R (.ok (.ret Value.none)) {s with heap:=s.heap.update l (Obj.mapSeq λ x=>x++bu),toks:=s.toks}):=
 .of_wp λ prog w A R s h=>by
  obtain⟨ai,g,d,bM,os⟩:=s;obtain⟨aB,af,h⟩:=h;have f1:=AutoSeq1.idx_int;have f2:=AutoSeq1.sub_tuple_tuple;have dp:=AutoSeq1.sub_list_list;have f4:=AutoSeq1.sub_tuple_list;have e4:=AutoSeq1.sub_list_tuple
  have HI:(items++bu).size<=sizeLine+1:=by rw[Array.size_append];exact ag
  wp_walk using(wpAny_updateSeq aB rfl (hz:=ae) (_hz':=HI)),iS aB,iS af
  exact⟨_,rfl,h⟩
noncomputable def HJ(K:a4):V->List V->am->b7->Prop:=λ x vs H Q=>∃ l b xs zs,x=.ref l/\vs=[.ref b]/\H l=some (.lst xs)/\dt K H b zs/\xs.length+zs.length<=sizeLine/\Q .bo (upd H l (.lst (xs++zs)))
theorem HK:qG X "list.extend" (HJ X.K):=by
 intro pins s σ H x vs v us Q I a6 aM h;obtain⟨l,b,xs,zs,rfl,rfl,gk,qI,hz,q⟩:=h;cases a6;obtain⟨u,rfl,cD⟩:=aM.one;cases cD;obtain⟨z,ao,n,r,aB,e⟩:=I.mc gk;obtain⟨bx,aR,⟨⟨cR,ez,Pv,fF⟩,aP,e8,de,hd2⟩,Pw⟩:=I.tuple qI;simp only at e8 hd2;subst e8 hd2;have k0:=aR.length
 have hsz:ao.toArray.size+bx.toArray.size<=sizeLine:=by rw[bN,bN];omega
 have v_:¬ (!ao.toArray.isEmpty&&Builtin.List.listTooLong (ao.toArray.size+bx.toArray.size))=true:=by
  rw[As hsz,Bool.and_false];exact i0
 refine oo F.slot_list_extend ⟨_,e,rfl⟩ F.entry_list_extend (F.args_list_extend_2 _ _) (HH l b ao.toArray bx.toArray n de ez fF v_ (by rw[bN];omega) (by omega)) ⟨e,aP,?_⟩;refine⟨.bo,_,I.qH (its':=ao++bx) gk e (by simp) (r.append aR) ?_,rfl,q⟩;rw[dN];omega
end
noncomputable def eY:aY->Bool
 |.Starred ..=>false
 |_=>true
theorem gQ{e:aY}{es:List aY}{env:Env}(h:eY e=true):ek (e::es) env=(false,eval e env)::ek es env:=by
 cases e<;>first|rfl|cases h
section
variable{κ:Type} [DecidableEq κ]
noncomputable def fH(kvs:List (κ×V))(k:κ):Option V:=(kvs.find? λ a7=>decide (a7.1=k)).map (·.2)
noncomputable def hq(kvs:List (κ×V))(k:κ)(v:V):List (κ×V):=
 if (kvs.any λ a7=>decide (a7.1=k))=true then kvs.map (λ a7=>if a7.1=k then (a7.1,v) else a7) else kvs++[(k,v)]
theorem tQ{p:κ×V}{r:List (κ×V)}{k:κ}(e:p.1=k):fH (p::r) k=some p.2:=by simp[fH,j0,e]
theorem tR{p:κ×V}{r:List (κ×V)}{k:κ}(e:¬ p.1=k):fH (p::r) k=fH r k:=by simp[fH,j0,e]
theorem AS(k:κ):∀ kvs:List (κ×V),(kvs.any λ a7=>decide (a7.1=k))=(fH kvs k).isSome
 |[]=>rfl
 | p::r=>by
  rw[p_];by_cases e:p.1=k
  ·simp only[tQ e,decide_eq_true e,Bool.true_or,Option.isSome_some]
  ·rw[tR e,decide_eq_false e,Bool.false_or];exact AS k r
theorem wq(kvs:List (κ×V))(k:κ)(v:V):(hq kvs k v).length<=kvs.length+1:=by
 unfold hq;split
 ·rw[dm];omega
 ·rw[dN,eG,j1];omega
theorem iw.HL{o:Option V}{u:Option Value}(r:iw o u):o.isSome=u.isSome:=by
 cases o with
 | none=>cases u with
  |none=>rfl
  |some _=>exact(show False from r).elim
 | some _=>cases u with
  |none=>exact(show False from r).elim
  |some _=>rfl
theorem iw.getD{o:Option V}{u:Option Value}{d:V}{d':Value}(r:iw o u)(dq:RelV d d'):RelV (o.getD d) (u.getD d'):=by
 cases o with
 | none=>cases u with
  |none=>exact dq
  |some _=>exact(show False from r).elim
 | some _=>cases u with
  |none=>exact(show False from r).elim
  |some _=>exact r
theorem eQ.val{kvs:List (κ×V)}{vs:List (κ×Value)}(r:eQ kvs vs)(k:κ):iw (fH kvs k) (kM vs k):=by
 unfold eQ at r
 induction r with
 |nil=>exact True.intro
 | @cons p q aZ ax h t b0=>
  obtain⟨ae,ag⟩:=h;by_cases e:p.1=k
  ·have bz:q.1=k:=ae.symm.trans e
   have b:kM (q::ax) k=some q.2:=by simp[kM,j0,bz]
   rw[tQ e,b];exact ag
  ·have bz:¬ q.1=k:=λ z=>e (ae.trans z)
   have b:kM (q::ax) k=kM ax k:=by simp[kM,j0,bz]
   rw[tR e,b];exact b0
theorem eQ.any{kvs:List (κ×V)}{vs:List (κ×Value)}(r:eQ kvs vs)(k:κ):(kvs.any λ a7=>decide (a7.1=k))=vs.any λ a7=>decide (a7.1=k):=by
 unfold eQ at r
 induction r with
 |nil=>rfl
 |cons h t b0=>rw[p_,p_,b0,h.1]
theorem eQ.wt{kvs:List (κ×V)}{vs:List (κ×Value)}(r:eQ kvs vs)(k:κ){y:V}{u:Value}(bA:RelV y u) :
 eQ (kvs.map λ a7=>if a7.1=k then (a7.1,y) else a7) (vs.map λ a7=>if a7.1=k then (a7.1,u) else a7):=by
 unfold eQ at r ⊢
 induction r with
 |nil=>exact .nil
 | @cons p q aZ ax h t b0=>
  rw[eF,eF];refine .cons ?_ b0;obtain⟨ae,ag⟩:=h;by_cases e:p.1=k
  ·rw[if_pos e,if_pos (ae.symm.trans e)];exact⟨ae,bA⟩
  ·rw[if_neg e,if_neg (λ z=>e (ae.trans z))];exact⟨ae,ag⟩
theorem eQ.put{kvs:List (κ×V)}{vs:List (κ×Value)}(r:eQ kvs vs)(k:κ){y:V}{u:Value}(bA:RelV y u):eQ (hq kvs k y) (stored vs k u):=by
 unfold hq stored;rw[r.any k];by_cases e:(vs.any λ a7=>decide (a7.1=k))=true
 ·rw[if_pos e,if_pos e];exact r.wt k bA
 ·rw[if_neg e,if_neg e];exact Paired.snoc r ⟨rfl,bA⟩
theorem eQ.keys{kvs:List (κ×V)}{vs:List (κ×Value)}(r:eQ kvs vs):kvs.map (·.1)=vs.map (·.1):=by
 unfold eQ at r
 induction r with
 |nil=>rfl
 |cons h t b0=>rw[eF,eF,b0,h.1]
theorem eQ.length{kvs:List (κ×V)}{vs:List (κ×Value)}(r:eQ kvs vs):kvs.length=vs.length:=Paired.length r
end
theorem qP{P:bX}{w:bJ}{k:Key}{u:Value}(r:RelV (cO k) u):(el P w).is k u=true:=by
 cases k with
 |inl i=>obtain⟨t,e⟩:=(show ∃ t,u=Value.int i t from r);subst e;exact EI P w i t
 |inr x=>obtain⟨t,e⟩:=(show ∃ t,u=Value.str x t from r);subst e;exact EJ P w x t
theorem AU{P:bX}{w:bJ}:∀{ks:List Key}{us:List Value},Vals (ks.map cO) us->ItemsAre (el P w) ks us
 |[],_,r=>by rw[List.map_nil]at r;cases r;exact .nil
 | k::ks,_,r=>by
  rw[eF]at r
  cases r with
  |cons h t=>exact .cons (qP h) (AU t)
noncomputable abbrev KT(H:am):List (List Key×V)->List (List Key×Addr×Value)->Prop:=lJ λ p q=>p.1=q.1/\H q.2.1=some (.tup (p.1.map cO))/\RelV p.2 q.2.2
theorem KT.val{H:am}{kvs:List (List Key×V)}{xs:List (List Key×Addr×Value)}(r:KT H kvs xs)(k:List Key):iw (fH kvs k) ((kN xs k).map (·.2)):=by
 induction r with
 |nil=>exact True.intro
 | @cons p q aZ ax h t b0=>
  obtain⟨ae,_,ag⟩:=h;by_cases e:p.1=k
  ·have bz:q.1=k:=ae.symm.trans e
   have b:kN (q::ax) k=some q.2:=by simp[kN,j0,bz]
   rw[tQ e,b];exact ag
  ·have bz:¬ q.1=k:=λ z=>e (ae.trans z)
   have b:kN (q::ax) k=kN ax k:=by simp[kN,j0,bz]
   rw[tR e,b];exact b0
theorem KT.wt{H:am}{kvs:List (List Key×V)}{xs:List (List Key×Addr×Value)}(r:KT H kvs xs)(k:List Key){y:V}{u:Value}(bA:RelV y u) :
 KT H (kvs.map λ a7=>if a7.1=k then (a7.1,y) else a7) (xs.map (putAt k u)):=by
 induction r with
 |nil=>exact .nil
 | @cons p q aZ ax h t b0=>
  rw[eF,eF];refine .cons ?_ b0;obtain⟨ae,ag,bc⟩:=h;unfold putAt;by_cases e:p.1=k
  ·rw[if_pos e,if_pos (ae.symm.trans e)];exact⟨ae,ag,bA⟩
  ·rw[if_neg e,if_neg (λ z=>e (ae.trans z))];exact⟨ae,ag,bc⟩
theorem KT.put{H:am}{kvs:List (List Key×V)}{xs:List (List Key×Addr×Value)}(r:KT H kvs xs)(k:List Key){b:Addr}{y:V}{u:Value}(af:H b=some (.tup (k.map cO)))(bA:RelV y u) :
 KT H (hq kvs k y) (storedH xs k b u):=by
 have e:(kvs.any λ a7=>decide (a7.1=k))=(kN xs k).isSome:=by
  rw[AS,(r.val k).HL,Option.isSome_map]
 unfold hq storedH;rw[e];by_cases q:(kN xs k).isSome=true
 ·rw[if_pos q,if_pos q];exact r.wt k bA
 ·rw[if_neg q,if_neg q];exact Paired.snoc r ⟨rfl,af,bA⟩
theorem KT.keeps{H ah:am}{kvs:List (List Key×V)}{xs:List (List Key×Addr×Value)}(r:KT H kvs xs)(cA:∀ b ys,H b=some (.tup ys)->ah b=some (.tup ys)):KT ah kvs xs:=
 Paired.vH r λ _ _ z=>⟨z.1,cA _ _ z.2.1,z.2.2⟩
section
variable{P:bX}{w:bJ}{H:am}{h:bF}{a:Addr}
theorem qQ{u:eR}(ok:d4 P w H h)(e:eS H a u):dP P w H h a u:=e.ok ok
theorem jy{kvs:List (Key×V)}(ok:d4 P w H h)(e:eS H a (.bf kvs)):kvs.length<=sizeLine/\(a==hh)=false/\∃ vs,eQ kvs vs/\h.DictOf (el P w) a vs:=
 show dP P w H h a (.bf kvs) from qQ ok e
theorem oZ{kvs:List (Key×V)}(ok:d4 P w H h)(e:H a=some (.bf kvs)):kvs.length<=sizeLine/\(a==hh)=false/\∃ vs,eQ kvs vs/\h.DictOf (el P w) a vs:=jy ok (.inl e)
theorem tS{ks:List Key}(ok:d4 P w H h)(e:H a=some (.tup (ks.map cO))):(oq (el P w)).is h ks a:=by
 obtain⟨_,ao,r,o,ae,ag,n,bc⟩:=(show dP P w H h a (.tup (ks.map cO)) from ok a _ e)
 exact⟨o,ao.toArray,n,ae,ag,bc,by simpa using AU r⟩
theorem qR{kvs:List (List Key×V)}(ok:d4 P w H h)(e:eS H a (.fM kvs)):kvs.length<=sizeLine/\(a==hh)=false ∧
 ∃ xs,KT H kvs xs/\h.DictOfH (oq (el P w)) a xs:=by
 obtain⟨z,y,xs,r,o,es,ep,ae,ag,bc,cj,di⟩:=(show dP P w H h a (.fM kvs) from qQ ok e)
 refine⟨z,y,xs,r,o,es,ep,ae,ag,bc,cj,λ x ak=>?_,di⟩
 have all:∀{l:List (List Key×V)}{m:List (List Key×Addr×Value)},KT H l m->∀ x∈m,(oq (el P w)).is h x.1 x.2.1:=by
  intro l m q
  induction q with
  |nil=>intro x ak;exact nomatch ak
  | @cons p q aZ ax aU t b0=>
   intro x ak;rcases fq.mp ak with e|ak
   ·subst e;exact tS ok (by rw[<- aU.1];exact aU.2.1)
   ·exact b0 x ak
 exact all r x ak
theorem HM{kvs:List (List Key×V)}(ok:d4 P w H h)(e:H a=some (.fM kvs)):kvs.length<=sizeLine/\(a==hh)=false ∧
 ∃ xs,KT H kvs xs/\h.DictOfH (oq (el P w)) a xs:=qR ok (.inl e)
end
noncomputable def iF(H:am)(a:Addr)(y:V)(r:Option V):Prop:=
 (∃ kvs k,eS H a (.bf kvs)/\y=cO k/\r=fH kvs k)\/∃ kvs k b,eS H a (.fM kvs)/\y=.ref b/\H b=some (.tup (k.map cO))/\r=fH kvs k
noncomputable def qS(H:am)(a:Addr)(y v:V)(ah:am):Prop:=
 (∃ kvs k,H a=some (.bf kvs)/\y=cO k/\kvs.length<sizeLine/\ah=upd H a (.bf (hq kvs k v))) ∨
 ∃ kvs k b,H a=some (.fM kvs)/\y=.ref b/\H b=some (.tup (k.map cO))/\kvs.length<sizeLine/\ah=upd H a (.fM (hq kvs k v))
theorem iF.k{H:am}{a:Addr}{kvs:List (Key×V)}{k:Key}(e:H a=some (.bf kvs)):iF H a (cO k) (fH kvs k):=.inl ⟨kvs,k,.inl e,rfl,rfl⟩
theorem qS.k{H:am}{a:Addr}{kvs:List (Key×V)}{k:Key}{v:V}(e:H a=some (.bf kvs))(aB:kvs.length<sizeLine):qS H a (cO k) v (upd H a (.bf (hq kvs k v))):=.inl ⟨kvs,k,e,rfl,aB,rfl⟩
section
variable{X:aQ}{pins:List (Addr×Obj)}{σ:St}{H:am}{s:aw}{a:Addr}{y v:V}{u r:Value}{o:Option V}{A:cg}{E:Value->aw->Prop}
theorem Inv.big(I:Inv X pins σ H s):hh<s.heap.objs.size:=by
 have h:dL<s.heap.objs.size:=(I.mod.glob.keeps I.bk).lt;exact sZ (by decide) h
theorem HN{Q:Value->aw->Prop}(bg:A.units+1<bO)(I:Inv X pins σ H s)(g:iF H a y (some v))(bA:RelV y u)(h:∀ d5 av,Inv X pins σ H av->RelV v d5->Q d5 av) :
 aT (a5 X.prog X.w) A (lH (.ref a) u) Q E s:=by
 rcases g with⟨kvs,k,e,iG,l⟩|⟨kvs,k,b,e,iG,dG,l⟩
 ·subst iG;obtain⟨z,hd,vs,rel,cC⟩:=jy I.bj e;obtain⟨d5,hw,hE⟩:=iw.some_of (v:=v) (o:=kM vs k) (by rw[l];exact rel.val k);exact wpAny_getItem_of (qP bA) cC.mapOf hw (h d5 _ (I.tok _) hE)
 ·subst iG;cases (show u=Value.ref b from bA);obtain⟨z,hd,xs,rel,cC⟩:=qR I.bj e;obtain⟨d5,hw,hE⟩:=iw.some_of (v:=v) (o:=(kN xs k).map (·.2)) (by rw[l];exact rel.val k);obtain⟨p,ai,h9⟩:=hY.mp hw;refine wpAny_getItem_heap (vw bg) (tS I.bj dG) cC ai ?_;rw[h9];exact h d5 _ (I.tok _) hE
theorem wu{h':bF}{t':Nat}{b5:eR}(I:Inv X pins σ H s)(h1:qm (H a))(ar:Heap.SameBut a s.heap h')(he:∃ q,h'.get? a=some q)(new:dP X.prog X.w (upd H a b5) h' a b5) :
 Inv X pins σ (upd H a b5) {s with heap:=h',toks:=t'}:=
 I.write (x:=a) (e:=a) h1 (.inl rfl) (λ b q af z=>(ar.2 b af).trans z) he new
theorem wv{P:bX}{w:bJ}{ah:am}{h':bF}{kvs:List (Key×V)}{vs:List (Key×Value)}(z:kvs.length<=sizeLine)(hd:(a==hh)=false)(rel:eQ kvs vs)(cC:h'.DictOf (el P w) a vs) :
 dP P w ah h' a (.bf kvs):=⟨z,hd,vs,rel,cC⟩
theorem HO{ah:am}{Q:Unit->aw->Prop}(bg:A.units+1<bO)(I:Inv X pins σ H s)(g:qS H a y v ah)(bA:RelV y u)(aM:RelV v r)(h:∀ av,Inv X pins σ ah av->Q () av) :
 aT (a5 X.prog X.w) A (p4 (.ref a) u r) Q E s:=by
 rcases g with⟨kvs,k,e,iG,l,ww⟩|⟨kvs,k,b,e,iG,dG,l,ww⟩
 ·subst iG ww;obtain⟨z,hd,vs,rel,cC⟩:=oZ I.bj e
  have hz:vs.length<=sizeLine:=by rw[<- rel.length];exact z
  have aB:(hq kvs k v).length<=sizeLine:=by have:=wq kvs k v;omega
  refine wpAny_setItem_pairs (hsz:=hz) (qP bA) cC λ h' k2 ar=>h _ ?_
  have he:∃ q,h'.get? a=some q:=let ⟨q,_,_,aU,_⟩:=k2;⟨q,aU⟩
  exact wu I (by rw[e];exact True.intro) ar he (wv aB hd (rel.put k aM) k2)
 ·subst iG ww;cases (show u=Value.ref b from bA);obtain⟨z,hd,xs,rel,cC⟩:=HM I.bj e
  have hz:xs.length<=sizeLine:=by rw[<- Paired.length rel];exact z
  have aB:(hq kvs k v).length<=sizeLine:=by have:=wq kvs k v;omega
  refine wpAny_setItem_heap (hsz:=hz) (vw bg) (tS I.bj dG) cC λ h' k2 ar=>h _ ?_;obtain⟨q,es,ep,aU,ag,bc,cj,_,di⟩:=k2;refine wu I (by rw[e];exact True.intro) ar ⟨q,aU⟩ ⟨aB,hd,_,(rel.put k dG aM).keeps λ c ys AV=>?_,q,es,ep,aU,ag,bc,cj,di⟩;rw[cu (EK AV e (λ z=>nomatch z))];exact AV
end
noncomputable def tT(i:aY):Prop:=∀ dn fg,sG i false dn fg=operate [dn,fg] (lH dn fg)
theorem HP{prog:bX}{w:bJ}{A:cg}{E:Value->aw->Prop}{s:aw}{env:Env}{value slice:aY}{pos:Pos}{T id:String}{Q:Value->aw->Prop}
 (aB:typeLookup (.type T) "__getitem__"=pure (some (.builtin id))) (ar:tT slice)
 (h:aT (a5 prog w) A (eval value env) (λ o c3=>aT (a5 prog w) A (eval slice env) (λ i l0=>l0.TypeIs o T/\aT (a5 prog w) A (lH o i) Q E l0) E c3) E s) :
 aT (a5 prog w) A (eval (.Subscript value slice pos) env) Q E s:=by
 refine Subscript_ (gw h (λ o c3 jz=>gw jz (λ i l0 nz=>?_) λ _ _ x=>x) λ _ _ x=>x);obtain⟨eZ,nz⟩:=nz;unfold vE;refine ay ?_;rw[getitemInPython_of_ne eZ.not_modules];refine ay (sz eZ aB ?_)
 have fin:aT (a5 prog w) A (sG slice false o i) (λ r AW=>aT (a5 prog w) A (letTemporaryGo value o r >>= λ _=>pure r) Q E AW) E l0:=by
  rw[ar o i];exact wpAny_operating (gw nz (λ r AW qT=>ay (wpAny_letTemporaryGo (bq qT))) λ _ _ x=>x)
 first
  |exact bq (ay fin)
  |exact ay (bq (ay fin))
  |exact ay fin
theorem HQ{X:aQ}{pins:List (Addr×Obj)}{σ:St}{H:am}{s:aw}{a:Addr}{y:V}{o:Option V}(I:Inv X pins σ H s)(g:iF H a y o):s.TypeIs (.ref a) "dict":=by
 rcases g with⟨kvs,k,e,_,_⟩|⟨kvs,k,b,e,_,_,_⟩
 ·obtain⟨_,_,vs,_,cC⟩:=jy I.bj e;exact cC.typeIs
 ·obtain⟨_,_,xs,_,cC⟩:=qR I.bj e;exact cC.typeIs
noncomputable def HR(b4 ty:TE):TE:=λ σ H Q=>b4 σ H λ x H1=>ty σ H1 λ y aO=>∃ a v,x=.ref a/\iF aO a y (some v)/\Q v aO
noncomputable def HS(b4 ty k3:TE):ew:=λ D σ H=>k3 σ H λ v H1=>b4 σ H1 λ x aO=>ty σ aO λ y b1=>∃ a gl,x=.ref a/\qS b1 a y v gl/\D.nx σ gl
section
variable{X:aQ}{o i e value:aY}{pos pos' wx:Pos}{b4 ty k3:TE}
theorem AX(bg:X.A.units+1<bO)(aJ:bQ X o b4)(au:bQ X i ty)(ar:tT i):bQ X (.Subscript o i pos) (HR b4 ty):=by
 intro pins s σ H Q I h;refine HP PySem.F.slot_dict_getitem.lookup ar (bT (aJ pins s σ H _ I h) λ u s1 xz=>?_);obtain⟨x,H1,aV,a6,aD⟩:=xz;refine bT (au pins s1 σ H1 _ aV aD) λ fg s2 xz=>?_;obtain⟨y,aO,cG,bA,a,v,ex,g,bw⟩:=xz;subst ex;obtain rfl:u=Value.ref a:=a6;exact⟨HQ cG g,HN bg cG g bA λ d5 s3 c0 hE=>⟨v,aO,c0,hE,bw⟩⟩
theorem HT(bg:X.A.units+1<bO)(aJ:bQ X o b4)(au:bQ X i ty)(bh:bQ X value k3)(ar:jl value (some (.Subscript o i pos')) pos.line X.env=pure false) :
 iy X (.Assign [.Subscript o i pos'] value pos) (HS b4 ty k3):=by
 intro pins s σ H D I h;refine wpAny_Assign_Subscript (bT (bh pins s σ H _ I h) λ r s1 xz=>?_) ar;obtain⟨v,H1,aV,aM,aD⟩:=xz;refine bT (aJ pins s1 σ H1 _ aV aD) λ u s2 xz=>?_;obtain⟨x,aO,cG,a6,bw⟩:=xz;refine bT (au pins s2 σ aO _ cG bw) λ fg s3 xz=>?_;obtain⟨y,b1,c0,bA,a,gl,ex,g,dd⟩:=xz;subst ex;obtain rfl:u=Value.ref a:=a6
 exact HO bg c0 g bA aM λ s4 eI=>⟨σ,gl,eI,dd⟩
end
theorem HU{P:bX}{w:bJ}{H:am}(h:bF)(af:hh<h.objs.size):dP P w H (h.push {cls:=.type "dict",data:=.dict #[]}) h.objs.size (.bf []):=
 ⟨fB _,beq_eq_false_iff_ne.mpr (Ne.symm (dJ af)),[],.nil,Heap.DictOf.new h⟩
noncomputable def HV:TE:=λ _ H Q=>∀ p,H p=none->Q (.ref p) (upd H p (.bf []))
section
variable{X:aQ}{pos:Pos}
theorem HW:bQ X (.Dict [] [] pos) HV:=λ pins s σ H Q I h=>
 wpAny_Dict_empty ⟨.ref s.heap.objs.size,_,I.laid (a:=s.heap.objs.size) (o:=.bf []) (t':=s.toks) (λ _ _ q=>dA _ q) (b6 _) (HU s.heap I.big),rfl,h _ (I.bj.fresh (b6 _))⟩
end
structure M2(X:aQ)(o:aY)(m:Str)(apos:Pos)(e f:aY)(cJ:Pos):Prop where
 base:jk o m X.env (eval o X.env)=eval o X.env
 AY:((iu cJ (ek [e,f] X.env)).all (λ x=>!x.1)&&(backToKw cJ (keywordEach [] X.env)).all (λ x=>x.1.isSome)
  &&decide (([e,f]:List aY).length+([]:List Keyword).length+(if ([]:List Keyword).isEmpty then 0 else 1)<30))=true
 line:(apos.endLine==cJ.line)=true
 trees:iu cJ (ek [e,f] X.env)=[(false,eval e X.env),(false,eval f X.env)]
noncomputable def wy(H:am)(a:Addr):Prop:=(∃ kvs,eS H a (.bf kvs))\/∃ kvs,eS H a (.fM kvs)
theorem AZ{X:aQ}{pins:List (Addr×Obj)}{σ:St}{H:am}{s:aw}{a:Addr}(I:Inv X pins σ H s)(d:wy H a) :
 s.TypeIs (.ref a) "dict"/\(∀ b,Value.ref a=.ref b->∃ b5,s.heap.get? b=some b5/\b5.dict=none)/\(a==hh)=false:=by
 rcases d with⟨kvs,e⟩|⟨kvs,e⟩
 ·obtain⟨_,hd,vs,_,cC⟩:=jy I.bj e;refine⟨cC.typeIs,λ b q=>?_,hd⟩;cases q;obtain⟨b5,_,_,ae,ag,_⟩:=cC;exact⟨b5,ae,ag.2.1⟩
 ·obtain⟨_,hd,xs,_,cC⟩:=qR I.bj e;refine⟨cC.typeIs,λ b q=>?_,hd⟩;cases q;obtain⟨b5,_,_,ae,ag,_⟩:=cC;exact⟨b5,ae,ag.2.1⟩
section
variable{X:aQ}{pins:List (Addr×Obj)}{σ:St}{H:am}{s:aw}{a:Addr}{y d:V}{u r:Value}{o:Option V}{A:cg}{E:Value->aw->Prop}
theorem HX{Q:Value->aw->Prop}(bg:A.units+1<bO)(I:Inv X pins σ H s)(g:iF H a y o)(bA:RelV y u)(dq:RelV d r)(h:∀ d5 av,Inv X pins σ H av->RelV (o.getD d) d5->Q d5 av) :
 aT (a5 X.prog X.w) A (call (.builtin "dict.get") [.ref a,u,r]) Q E s:=by
 rcases g with⟨kvs,k,e,iG,l⟩|⟨kvs,k,b,e,iG,dG,l⟩
 ·subst iG;obtain⟨z,hd,vs,rel,cC⟩:=jy I.bj e;refine sE PySem.F.slot_dict_get cC.typeIs PySem.F.entry_dict_get (PySem.F.args_dict_get_3 _ _ _) (meets_dict_get_default (el X.prog X.w) a (qP bA) hd r) ⟨_,cC.mapOf,h _ _ (I.tok _) ?_⟩;rw[l];exact(rel.val k).getD dq
 ·subst iG;cases (show u=Value.ref b from bA);obtain⟨z,hd,xs,rel,cC⟩:=qR I.bj e;refine sE PySem.F.slot_dict_get cC.typeIs PySem.F.entry_dict_get (PySem.F.args_dict_get_3 _ _ _) (meetsH_dict_get_default (oq (el X.prog X.w)) a b hd r) ⟨vw bg,k,xs,tS I.bj dG,cC,h _ _ (I.tok _) ?_⟩;rw[l];exact(rel.val k).getD dq
end
noncomputable def HY(b4 ty fI:TE):TE:=λ σ H Q=>b4 σ H λ x H1=>∃ a,x=.ref a/\wy H1 a/\ty σ H1 λ y aO=>fI σ aO λ z b1=>∃ o,iF b1 a y o/\Q (o.getD z) b1
section
variable{X:aQ}{o e f:aY}{apos cJ:Pos}{b4 ty fI:TE}
theorem A0(bg:X.A.units+1<bO)(aJ:bQ X o b4)(he:bQ X e ty)(hf:bQ X f fI)(m:M2 X o "get" apos e f cJ):bQ X (.Call (.Attribute o "get" apos) [e,f] [] cJ) (HY b4 ty fI):=by
 intro pins s σ H Q I h;refine wpAny_Call_method m.base m.AY m.line PySem.F.plainAttrs_dict PySem.F.slot_dict_get PySem.F.type_dict_get (bT (aJ pins s σ H _ I h) λ u s1 xz=>?_);obtain⟨x,H1,aV,a6,a,ex,d,aD⟩:=xz;subst ex;obtain rfl:u=Value.ref a:=a6;obtain⟨t1,b8,_⟩:=AZ aV d;refine⟨t1,b8,?_⟩;rw[m.trees]
 refine Calls.callWith_builtin rfl (Calls.evalArgs_plain (Calls.spliced_cons (bT (he pins s1 σ H1 _ aV aD) λ fg s2 ⟨y,aO,cG,bA,bw⟩=>
  Calls.spliced_cons (bT (hf pins s2 σ aO _ cG bw) λ HZ s3 ⟨z,b1,c0,nA,dn,g,dd⟩=>Calls.spliced_nil ?_))))
 exact HX bg c0 g bA nA λ d5 s4 eI hE=>⟨_,b1,eI,hE,dd⟩
end
section
variable{X:aQ}
noncomputable def H0(K:a4):dQ:=λ x y H Q=>∃ a b xs ys,x=.ref a/\y=.ref b/\dt K H a xs/\dt K H b ys/\xs.length+ys.length<=sizeLine ∧
 (xs=[]->Q (.ref b) H)/\(xs≠[]->ys=[]->Q (.ref a) H)/\(xs≠[]->ys≠[]->∀ p,H p=none->Q (.ref p) (upd H p (.tup (xs++ys))))
theorem H2:c4 X (gc .Add) (H0 X.K):=by
 intro pins s σ H x y v u Q I a6 bA h;obtain⟨a,b,xs,ys,rfl,rfl,az,af,hz,hr,aD,bw⟩:=h
 by_cases ak:xs=[]
 ·cases a6;cases bA;obtain⟨ao,r,cA,_⟩:=I.tuple az;obtain⟨bx,aR,H3,_⟩:=I.tuple af;subst ak;cases r;obtain⟨⟨cls,cC,data,cp⟩,aJ,aA,n,hd⟩:=id cA;obtain⟨⟨tC,ez,data2,fF⟩,e7,e8,de,hd2⟩:=id H3;simp only at aA hd e8 hd2;subst aA hd e8 hd2;refine vC ⟨_,aJ,rfl⟩ ⟨_,e7,rfl⟩ vy vA PySem.F.slot_tuple_add PySem.F.entry_tuple_add (PySem.F.args_tuple_add_2 _ _) (tuple_addW0 a b _ bx.toArray n de cC ez cp fF (by simp)) ⟨aJ,e7,?_⟩;exact⟨.ref b,H,I,rfl,hr rfl⟩
 ·exact Gn pins s σ H _ _ v u Q I a6 bA ⟨a,b,xs,ys,rfl,rfl,az,af,ak,hz,aD ak,bw ak⟩
end
structure cE(X:aQ)(e:aY)(t:TE):Prop where
 run:bQ X e t
structure gR(X:aQ)(e:aY)(t:TT):Prop where
 run:ix X e t
structure k4(X:aQ)(e:aY)(t:TT):Prop where
 run:kc X e t
structure iH(X:aQ)(es:List aY)(t:e3):Prop where
 run:hD X es t
structure jA(X:aQ)(st:b_)(t:ew):Prop where
 run:iy X st t
structure kn(X:aQ)(st:List b_)(t:ew):Prop where
 run:h6 X st t
structure hJ(X:aQ)(e:aY)(t:eU):Prop where
 run:js X e t
structure qU(X:aQ)(es:List aY)(t:jr):Prop where
 run:qs X es t
structure mf(X:aQ)(aX iter:aY)(cy:TI):Prop where
 run:i8 X aX iter cy
structure A1(X:aQ)(e:Option aY)(t:ma):Prop where
 run:v4 X e t
structure tU(X:aQ)(f:Value->Value->Sem Value)(r:dQ):Prop where
 run:c4 X f r
structure A2(X:aQ)(f:Value->Sem Value)(r:V->am->b7->Prop):Prop where
 run:tt X f r
structure wz(X:aQ)(f:Value)(r:List V->am->b7->Prop):Prop where
 run:gP X f r
structure A3(X:aQ)(r:dQ):Prop where
 run:ki X r
structure k5(X:aQ)(id:String)(r:V->List V->am->b7->Prop):Prop where
 run:nq X id r
structure H4(X:aQ)(t:qt):Prop where
 run:vN X t
section
variable{X:aQ}{a b c e o i:aY}{es:List aY}{bn bW a0 to cV:TE}{t tx:e3}{pos p apos cJ:Pos}
theorem H5{n:Int} {j}:cE X (.Constant (.int n) j pos) (jq (.int n)):=⟨EZ⟩
theorem H6{n:Bool} {j}:cE X (.Constant (.bool n) j pos) (jq (.aW n)):=⟨E0⟩
theorem H7{x:Str} {j}:cE X (.Constant (.str x) j pos) (jq (.str x)):=⟨E1⟩
theorem wA(k:Nat){x:Str}(dg:X.N[k]?=some x:=by rfl)(bh:tg X.env.scope x:=by first|exact Or.inl rfl|exact Or.inr (Or.inl rfl)|exact Or.inr (Or.inr rfl))(hd:(x==("__debug__" : Str))=false:=by decide)
 (g4:(x==("__classdict__" : Str))=false:=by decide):cE X (.Name x pos) (zD k):=⟨EY dg bh hd g4⟩
theorem H8{x:Str}{v:V}{u:Value}(a8:eb X x)(hm:X.mg x=none)(bh:iU x=some u)(r:RelV v u)(aS:x≠"__name__":=by decide)(hd:(x==("__debug__" : Str))=false:=by decide):cE X (.Name x pos) (jq v):=⟨E3 a8 hm bh r aS hd⟩
theorem H9{x:Str}{v:V}{u:Value}(a8:eb X x)(hm:X.mg x=some u)(r:RelV v u)(hd:(x==("__debug__" : Str))=false:=by decide):cE X (.Name x pos) (jq v):=⟨E2 a8 hm r hd⟩
theorem H_:iH X [] z7:=⟨F6⟩
theorem Ia(az:cE X e a0)(aH:iH X es t)(ar:eY e=true:=by rfl):iH X (e::es) (z8 a0 t):=⟨F7 az.run aH.run (gQ ar)⟩
theorem Ib {eJ} (h:iH X es t):cE X (.Tuple es eJ pos) (z9 t):=⟨F8 h.run⟩
theorem A4(h:iH X es t):cE X (.List es pos) (z_ t):=⟨F9 h.run⟩
theorem Ic{op:Operator}{r:dQ}(aJ:tU X (gc op) r)(az:cE X a bn)(af:cE X b bW):cE X (.BinOp a op b pos) (l5 r bn bW):=⟨FH aJ.run az.run af.run⟩
theorem Ie{op:UnaryOp}{r:V->am->b7->Prop}(aJ:A2 X (p5 op) r)(az:cE X a bn):cE X (.UnaryOp op a pos) (zY r bn):=⟨FI aJ.run az.run⟩
theorem Ig{op:lM}{r:dQ}(aJ:tU X (dE op) r)(az:cE X a bn)(af:cE X b bW)(hm:lD op b=false):cE X (.Compare a [op] [b] pos) (l5 r bn bW):=⟨FT aJ.run az.run af.run hm⟩
theorem Ih {op} (h:cE X a bn):cE X (.BoolOp op [a] pos) bn:=⟨E9 h.run⟩
theorem Ii{rest:List aY}(az:cE X a bn)(af:cE X (.BoolOp .And (b::rest) pos) bW):cE X (.BoolOp .And (a::b::rest) pos) (zI bn bW):=⟨E_ az.run af.run⟩
theorem Ij(h:cE X e a0):A1 X (some e) (Ah a0):=⟨Gj h.run⟩
theorem A5{r:dQ}(aH:A3 X r)(az:cE X a bn)(af:cE X b bW)(ar:tE b):cE X (.Subscript a b pos) (l5 r bn bW):=⟨Gp aH.run az.run af.run ar⟩
theorem tV{es:List aY}{env:Env}(h:es.all eY=true):(iu pos (ek es env)).any (·.1)=false:=by
 induction es with
 |nil=>rfl
 | cons x r b0=>
  rw[kQ,ZB]at h;rw[gQ h.1];exact b0 h.2
theorem Ik{k j:Nat}{x:Str}{aZ:List Str}{sp:ft}(G:Got X.prog X.w X.K X.mg X.base k x aZ sp)(aH:ef j X.A)(aq:k<=j)(a8:eb X x)(az:iH X (e::es) t)(gy:(x==("__debug__" : Str))=false:=by decide)
 (ar:(e::es).all eY=true:=by rfl):cE X (.Call (.Name x p) (e::es) [] pos) (vY sp [] ny t):=by
 have h:=ar;rw[kQ,ZB]at h;exact⟨HF G aH aq a8 az.run gy (gQ h.1) (tV h.2)⟩
theorem Il{x:Str}{id:String}{r:List V->am->b7->Prop}(aA:wz X (.builtin id) r)(a8:eb X x)(hm:X.mg x=none)(bh:iU x=some (.builtin id))(az:iH X (e::es) t)(aS:x≠"__name__":=by decide)(gy:(x==("__debug__" : Str))=false:=by decide)
 (ar:(e::es).all eY=true:=by rfl):cE X (.Call (.Name x p) (e::es) [] pos) (tB r t):=by
 have h:=ar;rw[kQ,ZB]at h;exact⟨Gg aA.run a8 hm bh az.run aS gy (gQ h.1) (tV h.2)⟩
theorem Im{x:Str}{T:String}{r:List V->am->b7->Prop}(aA:wz X (.type T) r)(a8:eb X x)(hm:X.mg x=none)(bh:iU x=some (.type T))(az:iH X (e::es) t)(aS:x≠"__name__":=by decide)(gy:(x==("__debug__" : Str))=false:=by decide)
 (ar:(e::es).all eY=true:=by rfl):cE X (.Call (.Name x p) (e::es) [] pos) (tB r t):=by
 have h:=ar;rw[kQ,ZB]at h;exact⟨Gh aA.run a8 hm bh az.run aS gy (gQ h.1) (tV h.2)⟩
theorem Io{name:Str}{T id:String}{r:V->List V->am->b7->Prop}(fj:lF T)(slot:jm T name id)(hI:lL (.builtin id)=pure (.type "method_descriptor"))(hm:k5 X id r)(aJ:cE X o to)(az:iH X [e] t)
 (gA:jk o name X.env (eval o X.env)=eval o X.env:=by rfl) (gB:(apos.endLine==cJ.line)=true:=by rfl) (ar:eY e=true:=by rfl):cE X (.Call (.Attribute o name apos) [e] [] cJ) (v9 X.K T r to t):=
 ⟨Ar fj slot hI hm.run aJ.run az.run gA (by rw[gQ ar];rfl) gB (gQ ar) rfl⟩
theorem Ip{name:Str}{T id:String}{r:V->List V->am->b7->Prop}(fj:lF T)(slot:jm T name id)(hI:lL (.builtin id)=pure (.type "method_descriptor"))(hm:k5 X id r)(aJ:cE X o to)
 (gA:jk o name X.env (eval o X.env)=eval o X.env:=by rfl) (gB:(apos.endLine==cJ.line)=true:=by rfl):cE X (.Call (.Attribute o name apos) [] [] cJ) (Aq X.K T r to):=⟨GH fj slot hI hm.run aJ.run gA gB⟩
theorem Iq{op:lM}{r:dQ}(aJ:tU X (dE op) r)(az:cE X a bn)(af:cE X b bW)(hm:lD op b=false):gR X (.Compare a [op] [b] pos) (z2 (l5 r bn bW)):=⟨FU aJ.run az.run af.run hm⟩
theorem Ir{bb:TT}(az:gR X a bb):gR X (.UnaryOp .Not a pos) (zH bb):=⟨E8 az.run⟩
theorem It(az:cE X a bn)(he:∀ whole,jY a X.env whole=(do let v ← whole;jX a.pos;iX [v] (truthy v))):gR X a (λ σ H Q=>bn σ H λ x ah=>∃ k,vS X.K x ah k/\Q k ah):=⟨FX az.run he⟩
theorem Iu{ff:TT}(az:gR X a ff):k4 X (.BoolOp .And [a] pos) ff:=⟨E4 az.run⟩
theorem Iv{ff:TT}(az:gR X a ff):k4 X (.BoolOp .Or [a] pos) ff:=⟨E5 az.run⟩
theorem Iw{ff kd:TT}{rest:List aY}(az:gR X a ff)(af:k4 X (.BoolOp .And (b::rest) pos) kd):k4 X (.BoolOp .And (a::b::rest) pos) (zF ff kd):=⟨E6 az.run af.run⟩
theorem Ix{ff kd:TT}{rest:List aY}(az:gR X a ff)(af:k4 X (.BoolOp .Or (b::rest) pos) kd):k4 X (.BoolOp .Or (a::b::rest) pos) (zG ff kd):=⟨E7 az.run af.run⟩
theorem k4.pt{ff:TT}(h:k4 X e ff):gR X e ff:=⟨kc.pt h.run⟩
theorem Iy{k:Nat}{x:Str}(dg:X.N.Nodup)(au:X.N[k]?=some x)(ak:Loc X.env.scope x)(hf:X.fn x=true\/X.env.scope.names.lookup x=some .local:=by first|exact .inl rfl|exact .inr rfl|assumption):hJ X (.Name x pos) (oS k):=⟨Fi dg au ak hf⟩
theorem Iz:qU X [] zO:=⟨Fj⟩
theorem IA{aX:eU}{u:jr}(ae:hJ X e aX)(ag:qU X es u)(ar:(hi (e::es) X.env).map (·.2)=gI e X.env::(hi es X.env).map (·.2):=by rfl):qU X (e::es) (zP aX u):=⟨Fk ae.run ag.run ar⟩
theorem IB{k n:Nat}{aX:jr}(aA:X.calm=true)(h:qU X es aX)(aS:(hi es X.env).length=n:=by rfl)(qu:(hi es X.env).findIdx? (·.1)=none:=by rfl):hJ X (.Tuple es k pos) (zQ X.K n aX):=⟨Fl aA h.run aS qu⟩
theorem IC{A6:qt}(aJ:cE X o to)(au:cE X i cV)(ar:H4 X A6) (az:∀ v,gI (.Subscript o i pos) X.env v=(do
 let dn ← iX [v] (eval o X.env)
 let fg ← iX [v,dn] (eval i X.env)
 jX pos
 iX [v,dn,fg] (p4 dn fg v)
 release [v,dn,fg] []):=by intro _;rfl):hJ X (.Subscript o i pos) (zR to cV A6):=⟨Fm aJ.run au.run ar.run az⟩
theorem ID{aX:aY}(a8:eb X "range")(hm:X.mg "range"=none)(az:iH X [a] t)(ar:eY a=true:=by rfl):mf X aX (.Call (.Name "range" p) [a] [] pos) (zU t):=⟨Fw a8 hm az.run (gQ ar)⟩
theorem IE:kn X [] zJ:=⟨Fc⟩
theorem IF{st:b_}{rest:List b_}{eV us:ew}(ae:jA X st eV)(ag:kn X rest us):kn X (st::rest) (zK eV us):=⟨Fd ae.run ag.run⟩
theorem IG{st:b_}{eV:ew}(ae:jA X st eV):kn X [st] eV:=⟨Fe ae.run⟩
theorem IH(he:cE X e a0)(ar:jl e none pos.line X.env=pure false:=by rfl):jA X (.Expr e pos) (zL a0):=⟨Ff he.run ar⟩
theorem II(he:cE X e a0):jA X (.Return (some e) pos) (zM a0):=⟨Fg he.run⟩
theorem IJ{ss us:List b_}{bb:TT}{eV qV:ew}(aA:gR X c bb)(az:kn X ss eV)(af:kn X us qV):jA X (.If c ss us pos) (zN bb eV qV):=⟨Fh aA.run az.run af.run⟩
theorem IK{k:Nat}{x:Str}{pos':Pos}(dg:X.N.Nodup)(au:X.N[k]?=some x)(ak:Loc X.env.scope x)(he:cE X e a0)(ar:jl e (some (.Name x pos')) pos.line X.env=pure false:=by rfl)(hf:X.fn x=true\/X.env.scope.names.lookup x=some .local:=by first|exact .inl rfl|exact .inr rfl|assumption) :
 jA X (.Assign [.Name x pos'] e pos) (oT a0 (oS k)):=⟨Fo dg au ak he.run ar hf⟩
theorem IL{aX:aY}{g:eU}(he:cE X e a0)(a8:hJ X aX g)(ar:pZ [aX] e pos.line X.env=pure false:=by rfl)(hw:p0 [aX] e X.env=pure none:=by rfl)(ae:(hi [aX] X.env).map (·.2)=[gI aX X.env]:=by rfl):jA X (.Assign [aX] e pos) (oT a0 g):=⟨Fn he.run a8.run ar hw ae⟩
theorem IM{body:List b_}{bb:TT}{qW:ew}(ai:ot (a5 X.prog X.w) X.A X.env X.xe)(aA:gR X c bb)(af:kn X body qW):jA X (.While c body [] pos) (zS bb qW):=⟨Fs ai aA.run af.run⟩
theorem IN{aX iter:aY}{body:List b_}{cy:TI}{g:eU}{qW:ew}(ai:ot (a5 X.prog X.w) X.A X.env X.xe)(aA:X.calm=true)(au:mf X aX iter cy)(a8:hJ X aX g)(af:kn X body qW)(ar:∀ x,iQ iter X.env x=pure x:=by intro _;rfl) :
 jA X (.For aX iter body [] pos) (zW cy g qW):=⟨Fz ai aA au.run a8.run af.run ar⟩
theorem IP{scope:eE}{N':List Str}{nt:Nat}{cap:List Nat}{elt iter aX:aY}{cy:TI}{g:eU}(aA:X.calm=true)(ok:fv X scope N' nt cap)(au:mf X aX iter cy)(a8:∀ C ex s H,hJ (c_ X scope N' C ex s H) aX g)(he:∀ C ex s H,cE (c_ X scope N' C ex s H) elt a0)
 (ar:∀ x,iQ iter X.env x=pure x:=by intro _;rfl):cE X (.ListComp elt [⟨aX,iter,[],0⟩] scope pos) (qL cy g a0 nt cap):=⟨HD aA ok au.run (λ C ex s H=>(a8 C ex s H).run) (λ C ex s H=>(he C ex s H).run) ar⟩
theorem IQ{ct:aY}{bb:TT}{scope:eE}{N':List Str}{nt:Nat}{cap:List Nat}{elt iter aX:aY}{cy:TI}{g:eU}(aA:X.calm=true)(ok:fv X scope N' nt cap)(au:mf X aX iter cy)(a8:∀ C ex s H,hJ (c_ X scope N' C ex s H) aX g)
 (cA:∀ C ex s H,gR (c_ X scope N' C ex s H) ct bb) (he:∀ C ex s H,cE (c_ X scope N' C ex s H) elt a0) (ar:∀ x,iQ iter X.env x=pure x:=by intro _;rfl):cE X (.ListComp elt [⟨aX,iter,[ct],0⟩] scope pos) (qM cy g bb a0 nt cap):=
 ⟨HE aA ok au.run (λ C ex s H=>(a8 C ex s H).run) (λ C ex s H=>(cA C ex s H).run) (λ C ex s H=>(he C ex s H).run) ar⟩
end
theorem eg.IR{P:bX}{w:bJ}{K:a4}{mg:Str->Option Value}{base:bF}{x qual:Str}{st:b_}{f:Addr}{fd:fA}{N aZ:List Str}{k:Nat}{sp:ft}(F:eg K x qual st f fd)(S:fi N aZ (dw st))(len:∀ vs H Q E,sp vs H Q E->vs.length=aZ.length)
 (nk:∀(b9:Value)(A:cg)(outer:List Env)(s:aw)(H:am)(vs:List V)(Q:b7)(E:hC),ef k (A.deeper (jZ qual (dw st) s.heap.objs.size f b9))->sp vs H Q E →
  ∃ t,kn (l9 dx P w K mg base N qual (dw st) f b9 A outer s H E).oR (iC st) t/\t {nx:=λ _ ah=>Q .bo ah,rt:=Q} (start N vs) H):dh P w K mg base dx (k+1) f fd aZ sp:=
 F.ok S len λ b9 A outer s H vs Q E aH h=>let ⟨t,j,q⟩:=nk b9 A outer s H vs Q E aH h;⟨t,j.run,q⟩
section
variable{X:aQ}{scope:eE}{N':List Str}{nt:Nat}{cap:List Nat}{elt iter aX:aY}{pos:Pos}{cy:TI}{g:eU}{a0:TE}
theorem IS{y:Str}{py:Pos}{k:Nat}(dg:X.N.Nodup)(aq:X.N[k]?=some y)(a9:Loc X.env.scope y)(hf:X.fn y=true\/X.env.scope.names.lookup y=some .local){pins:List (Addr×Obj)}{σ:St}{o0:Ends}{bc:bF}{s2:aw}{aO:am}{D:Addr}{fp:List Addr}{σ':St}{ah:am}{av:aw}(c0:Inv X pins σ (upd aO D (.lst [])) {s2 with heap:=bc})(dp:∀ b∈fp,hG X pins (upd aO D (.lst [])) b)
 (km:Inv (c_ X scope N' bc.objs.size fp {s2 with heap:=bc} (upd aO D (.lst []))) [] σ' ah av) (q:o0.nx (σ.set k (some (.ref D))) ah):p3 (a5 X.prog X.w) X.A X.xe (some (gI (.Name y py) X.env)) (λ _ av=>m9 X pins o0 .next av) (.ref D) bc.objs.size (.ok .next) av:=by
 obtain⟨m,aS,fu⟩:=c0.AG rfl dp km;have IT:Inv X pins σ ah av:=fu av.heap (Heap.SameBut.refl ..);have A7:bc.objs.size≠X.env.locals:=qg c0.lt
 have A8:∀ x a,X.env.cells.lookup x=some a->a≠bc.objs.size:=λ x a e=>by
  obtain⟨v,z⟩:=c0.cell x a e;exact dJ z.lt
 show aT _ X.A (gI (.Name y py) X.env (.ref D)) _ _ av;refine wpAny_assign_Name (zA IT dg aq a9 (v:=.ref D) rfl (λ dB IU i5=>?_) hf);obtain⟨a,h7,az⟩:=i5
 have IV:bc.objs.size≠a:=by
  rcases az with z|z
  ·rw[z];exact A7
  ·exact(A8 _ _ z).symm
 refine⟨m,aS.sameBut h7 IV,λ h' wo=>⟨_,ah,?_,q⟩⟩
 exact IU.turned (t':=dB.toks) (λ b o af e=>(wo.2 b af).trans e) km.free A7 (.inr c0.gO) A8 λ p ai z=>by
  have e:=(c0.pin p ai).1;rw[z]at e;exact absurd (c7 e) (m1 _)
theorem IW{y:Str}{py mh:Pos}{k:Nat}(aA:X.calm=true)(dg:X.N.Nodup)(aq:X.N[k]?=some y)(a9:Loc X.env.scope y)(c:fv X scope N' nt cap)(au:i8 X aX iter cy)(a8:∀ C ex s H,js (c_ X scope N' C ex s H) aX g)(he:∀ C ex s H,bQ (c_ X scope N' C ex s H) elt a0)
 (ar:∀ x,iQ iter X.env x=pure x:=by intro _;rfl) (qX:jl (.ListComp elt [⟨aX,iter,[],0⟩] scope pos) (some (.Name y py)) mh.line X.env=pure true:=by rfl) (hf:X.fn y=true\/X.env.scope.names.lookup y=some .local:=by first|exact .inl rfl|exact .inr rfl|assumption) :
 iy X (.Assign [.Name y py] (.ListComp elt [⟨aX,iter,[],0⟩] scope pos) mh) (oT (qL cy g a0 nt cap) (oS k)):=by
 intro pins s σ H o0 I h;rw[exec_Assign_Name_used _ _ _ _ qX];refine ay (pY (ay ?_));show aT _ X.A (do let _ ← comprehension (.ListComp elt [⟨aX,iter,[],0⟩] scope pos) scope X.env _ (newList []) false (eval iter X.env) (some (gI (.Name y py) X.env))) _ _ s
 exact ay (gw (vu (use:=some (gI (.Name y py) X.env)) (Q:=λ _ av=>m9 X pins o0 .next av) rfl ar (wf (c.has I.ok)) c.kind c.locs (bT (au pins s σ H _ I (show qM cy g (λ _ H k=>k true H) a0 nt cap σ H (λ v ah=>o0.nx (σ.set k (some v)) ah) from h)) λ v s1 ae=>bT ae λ l4 s2 ag=>
  wh (R0:=λ v ah=>o0.nx (σ.set k (some v)) ah) aA c a8 he (B:=λ _=>pure true) (λ _ _ _ _ _ _ _ _ _ i7 q=>bq ⟨_,i7,q⟩) (AQ _ _ _ _ _) I (IS dg aq a9 hf) ag)) (λ _ av aU=>bq (bq aU)) λ _ _ e=>e)
end
section
variable{X:aQ}{a b c e:aY}{t:e3}{a0:TE}{pos p:Pos}
theorem IX{aX:aY}(a8:eb X "range")(hm:X.mg "range"=none)(az:iH X [a,b] t)(ae:eY a=true:=by rfl)(ag:eY b=true:=by rfl):mf X aX (.Call (.Name "range" p) [a,b] [] pos) (zV t):=
 ⟨Fx a8 hm az.run (by rw[gQ ae,gQ ag];rfl) (by rw[gQ ag];rfl)⟩
variable{scope:eE}{N':List Str}{nt:Nat}{cap:List Nat}{elt iter aX:aY}{cy:TI}{g:eU}
theorem IY{y:Str}{py mh:Pos}{k:Nat}(aA:X.calm=true)(dg:X.N.Nodup)(aq:X.N[k]?=some y)(a9:Loc X.env.scope y)(ok:fv X scope N' nt cap)(au:mf X aX iter cy)(a8:∀ C ex s H,hJ (c_ X scope N' C ex s H) aX g)(he:∀ C ex s H,cE (c_ X scope N' C ex s H) elt a0)
 (ar:∀ x,iQ iter X.env x=pure x:=by intro _;rfl) (qX:jl (.ListComp elt [⟨aX,iter,[],0⟩] scope pos) (some (.Name y py)) mh.line X.env=pure true:=by rfl) (hf:X.fn y=true\/X.env.scope.names.lookup y=some .local:=by first|exact .inl rfl|exact .inr rfl|assumption) :
 jA X (.Assign [.Name y py] (.ListComp elt [⟨aX,iter,[],0⟩] scope pos) mh) (oT (qL cy g a0 nt cap) (oS k)):=⟨IW aA dg aq a9 ok au.run (λ C ex s H=>(a8 C ex s H).run) (λ C ex s H=>(he C ex s H).run) ar qX hf⟩
end
structure o1(P:bX)(w:bJ)(K:a4)(mg:Str->Option Value)(base:bF)(k:Nat)(f:Addr)(sp:ft):Prop where
 ex:∃(fd:fA)(aZ:List Str),dh P w K mg base dx k f fd aZ sp/\m4 K (.ref f)=true/\Binds K fd aZ []
theorem Got.IZ{P:bX}{w:bJ}{K:a4}{mg:Str->Option Value}{base:bF}{k:Nat}{x:Str}{aZ:List Str}{sp:ft}(G:Got P w K mg base k x aZ sp):∃ f,mg x=some (.ref f)/\o1 P w K mg base k f sp:=by
 obtain⟨f,fd,F,hm,c9,b⟩:=G.ex;exact⟨f,hm,fd,aZ,F,c9,b⟩
end L2
namespace jB
open PySem PyProof.Rows
theorem own:Manifest.owners.lookup (String.ofList ['d','e','s','r','e','v','e','r'].reverse)=some Manifest.sig_reversed:=by kernel_rfl
theorem qY:jm "reversed" "__next__" "reversed.__next__":=.of (owner:="reversed") (n:="__next__") (by rw[sA,sv];kernel_rfl) (by trivial) (by trivial) (by trivial) (by first|exact .inl (by trivial)|exact .inr (by trivial)) (by rw[pX];kernel_rfl)
theorem A9:jm "reversed" "__iter__" "reversed.__iter__":=.of (owner:="reversed") (n:="__iter__") (by rw[sA,sv];kernel_rfl) (by trivial) (by trivial) (by trivial) (by first|exact .inl (by trivial)|exact .inr (by trivial)) (by rw[pX];kernel_rfl)
theorem I0:jm "reversed" "__init__" "object.__init__":=.of (owner:="object") (n:="__init__") (by rw[sA,sv];kernel_rfl) (by trivial) (by trivial) (by trivial) (by first|exact .inl (by trivial)|exact .inr (by trivial)) (by rw[pX];kernel_rfl)
theorem vEq:entryFor table "reversed.__next__"=some Builtin.«reversed.__next__»:=entryFor_of_tree (by kernel_rfl)
theorem I1:entryFor table "reversed.__iter__"=some Builtin.«dict_keyiterator.__iter__»:=entryFor_alias (id':="dict_keyiterator.__iter__") (by kernel_rfl) (by first|rfl|decide +kernel|(unfold String.splitOn;simp +decide [String.splitOnAux])) (by trivial) (by kernel_rfl)
theorem A_(a:Value):argsOk "reversed.__next__" ⟨[a],[]⟩:=by unfold argsOk;rw[signature?_of (id:="reversed.__next__") (n:=['_','_','t','x','e','n','_','_']) (o:=['d','e','s','r','e','v','e','r']) (by kernel_rfl) own];kernel_rfl
theorem I2(a:Value):argsOk "reversed.__iter__" ⟨[a],[]⟩:=by unfold argsOk;rw[signature?_of (id:="reversed.__iter__") (n:=['_','_','r','e','t','i','_','_']) (o:=['d','e','s','r','e','v','e','r']) (by kernel_rfl) own];kernel_rfl
theorem I3:TypeCalled "reversed" "reversed.__new__" "object.__init__":=⟨by trivial,by trivial,⟨_,_,F.mro_reversed⟩,F.made_reversed,by trivial,by rw[pX];kernel_rfl,I0⟩
theorem I4:typeLookup (.type "tuple") "__reversed__"=pure none:=by rw[sA,sv];kernel_rfl
theorem I5:isSubtype (.type "tuple") (.type "dict")=pure false:=by rw[pX];kernel_rfl
noncomputable abbrev o2(h:bF)(it t:Addr)(k:Int):Prop:=h.get? it=some {cls:=.type "reversed",dict:=none,data:=.fields #[.ref t,gd k],slots:=#[]}
section
variable{prog:bX}{w:bJ}{A:cg}{E:Value->aw->Prop}{s:aw}{it t:Addr}
theorem I6{α:Type}{Q:α->aw->Prop}(fu:A.handled=none)(h:∀ h' e,(∀ b o,s.heap.get? b=some o->h'.get? b=some o)->Shared.TypeIs {s with heap:=h'} (.ref e) "StopIteration"->E (.ref e) {s with heap:=h'}):aT (a5 prog w) A (Builtin.SmallTypes.stopIteration:Sem α) Q E s:=by
 unfold Builtin.SmallTypes.stopIteration;refine ay ?_;unfold newExc newTuple;refine ay (gY ?_ (by size_fits));rw[show oj (.type "StopIteration") []=pure Value.none from by unfold oj;rfl,pure_bind];refine gY ?_ (by size_fits);unfold raiseNew;refine ay (vB ?_);rw[fu];exact wpAny_throw (h _ _ (λ b o e=>dA _ (dA _ e)) ⟨_,fc _ rfl,rfl⟩)
theorem Ba{k:Int}{Q:Value->aw->Prop}(hit:o2 s.heap it t k)(h:Q (.ref it) s):aT (a5 prog w) A (lK (.ref it)) Q E s:=
 have eZ:s.TypeIs (.ref it) "reversed":=⟨_,hit,rfl⟩
 vx eZ A9 (iR A9 eZ I1 (bq ⟨_,rfl,"reversed",_,eZ,qY.lookup,h⟩) (I2 _))
theorem nextT{k:Nat}{items:Array Value}{x:Value}{Q:Option Value->aw->Prop}(hit:o2 s.heap it t k)(cA:kP s.heap t items)(ak:items[k]?=some x)(aq:(k:Int)<2 ^ 63)
 (g0:∀ h' bM,o2 h' it t ((k:Int) - 1)->Heap.SameBut it s.heap h'->Q (some x) {s with heap:=h',toks:=bM}):aT (a5 prog w) A (gJ (.ref it)) Q E s:=by
 have eZ:s.TypeIs (.ref it) "reversed":=⟨_,hit,rfl⟩
 have dr:k<items.size:=(qh.mp ak).1;unfold gJ;refine ay (lE (wpAny_callSpecial?_slot eZ qY (iR qY eZ vEq ?_ (A_ _))));refine(show aT (a5 prog w) A.in1 (field (.ref it) 0 >>= _) _ _ s from ay (iV hit rfl (x:=.ref t) rfl ?_));refine(show aT (a5 prog w) A.in1 (field (.ref it) 1 >>= _) _ _ s from ay (iV hit rfl (x:=gd k) rfl ?_));refine(show aT (a5 prog w) A.in1 (if (k:Int)<0 then _ else _) _ _ s from ?_);rw[if_neg (by omega)];refine ay (sz cA.typeIs slot_tuple_getitem.lookup ?_);rw[if_neg (by simp)];refine(show aT (a5 prog w) A.in1 (mkInt k >>= _) _ _ s from ay (wpAny_mkInt ?_));refine ay (lE (getItem_tuple (j:=k) (x:=x) (s:={s with toks:=s.toks+1}) cA (by omega) aq (by simp[seqIndex?];omega) ak ?_));refine(show aT (a5 prog w) A.in1 (field (.ref it) 1 >>= _) _ _ _ from ay (iV hit rfl (x:=gd k) rfl ?_));exact ay (om hit rfl (by simp) (bq ⟨x,rfl,bq (g0 _ _ (te _ hit rfl) (Heap.SameBut.update ..))⟩))
theorem I7{k:Int}{Q:Option Value->aw->Prop}(fu:A.handled=none)(hit:o2 s.heap it t k)(aq:k<0)(g0:∀ h',Heap.ExtBut it s.heap h'->Q none {s with heap:=h'}):aT (a5 prog w) A (gJ (.ref it)) Q E s:=by
 have eZ:s.TypeIs (.ref it) "reversed":=⟨_,hit,rfl⟩
 unfold gJ;refine ay (lE (wpAny_callSpecial?_slot eZ qY (iR qY eZ vEq ?_ (A_ _))));refine(show aT (a5 prog w) A.in1 (field (.ref it) 0 >>= _) _ _ s from ay (iV hit rfl (x:=.ref t) rfl ?_));refine(show aT (a5 prog w) A.in1 (field (.ref it) 1 >>= _) _ _ s from ay (iV hit rfl (x:=gd k) rfl ?_));refine(show aT (a5 prog w) A.in1 (if k<0 then _ else _) _ _ s from ?_);rw[if_pos aq];refine ay (p1 (ay ?_));refine(show aT (a5 prog w) A.in1 (ou (.ref it) 1 (gd (-1)) >>= λ _=>ou (.ref it) 0 .none) _ _ s from ay (om hit rfl (by simp) ?_));refine om (te (Obj.mapFields (·.setIfInBounds 1 (gd (-1)))) hit rfl) rfl (by simp) ?_;refine ay (I6 (A:=A.in1) fu λ h' e e5 ar=>?_);refine ay (sx (T:="StopIteration") (b:=true) ar WF (bq (g0 _ λ b o af e=>e5 b o ?_)));exact((Heap.SameBut.update ..).trans (Heap.SameBut.update ..)).extBut b o af e
end
theorem ko(t:Addr)(items:Array Value)(hz:(items.size:Int)<2 ^ 63) :
 Meets (Builtin.«reversed.__new__» ⟨[.type "reversed",.ref t],[]⟩) (λ _ R s=>kP s.heap t items ∧
  ∀ bM,R (.ok (.ret (.ref s.heap.objs.size))) {s with heap:=s.heap.push {cls:=.type "reversed",data:=.fields #[.ref t,gd ((items.size:Int) - 1)]},toks:=bM}):=
 .of_wp λ prog w A R s ⟨cA,h⟩=>by
  unfold Builtin.«reversed.__new__»;refine ay (sH (newClass_reversed _) (ay (m:=Builtin.SmallTypes.refuseKeywords _ _ _) (bq ?_)));refine ay (sH (a:=()) (by rfl) (ay (sz cA.typeIs I4 (ay ?_))));refine(show aT (a5 prog w) A.in1 (isInstance (Value.ref t) (.type "dict") >>= _) _ _ s from ay (sx (T:="tuple") (b:=false) cA.typeIs I5 ?_));rw[if_neg (by decide)];refine ay (sz cA.typeIs slot_tuple_getitem.lookup ?_);refine(show aT (a5 prog w) A.in1 (if (["tuple.__getitem__","str.__getitem__","bytes.__getitem__","bytearray.__getitem__","memoryview.__getitem__","numpy.ndarray.__getitem__","sqlite3.Row.__getitem__"].contains "tuple.__getitem__")=true then _ else _) _ _ s from ?_);rw[if_pos (by decide)];refine bq ?_;rw[if_neg (by decide)];refine(show aT (a5 prog w) A.in1 (call (.builtin "len") [.ref t] >>= _) _ _ s from ay (len_tuple cA hz ?_));refine ay (m:=asInt? (.int (items.size:Int) _)) (bq ?_);refine(show aT (a5 prog w) A.in1 (newObj (.type "reversed") (.fields #[.ref t,gd ((items.size:Int) - 1)]) >>= _) _ _ _ from ay (gY ?_ (by size_fits)));exact bq ⟨_,rfl,h _⟩
theorem I8{prog:bX}{w:bJ}{A:cg}{E:Value->aw->Prop}{s:aw}{t:Addr}{items:Array Value}{Q:Value->aw->Prop}(cA:kP s.heap t items)(hz:(items.size:Int)<2 ^ 63)
 (h:∀ bM,Q (.ref s.heap.objs.size) {s with heap:=s.heap.push {cls:=.type "reversed",data:=.fields #[.ref t,gd ((items.size:Int) - 1)]},toks:=bM}):aT (a5 prog w) A (call (.type "reversed") [.ref t]) Q E s:=
 callType_new I3 (by decide) (F.typeCall_reversed_1 _) (F.newCall_reversed_1 _) (λ obj=>F.args_object_init_2 obj _) F.entry_reversed_new (ko t items hz) ⟨cA,λ bM=>⟨⟨_,fc _ rfl,rfl⟩,h bM⟩⟩
section
variable{prog:bX}{w:bJ}{A:cg}{E:Value->aw->Prop}{s:aw}{R:Result->aw->Prop}{I S:Addr}{fp wr:List Addr}{n:Nat}{P:Nat->Value->Prop}{St:Nat->aw->Prop}
noncomputable abbrev listAt(acc:Array Value)(c:Nat):Obj:={cls:=.type "list",dict:=none,data:=.seq acc c,slots:=#[]}
end
end jB
namespace L2
open PySem PySem.Spec PyProof.Rows
section
variable{X:aQ}{e:aY}{a0:TE}{p c8 pos Bb:Pos}
noncomputable def I9(X:aQ)(pins:List (Addr×Obj))(σ:St)(R:Addr->List V->am->Prop)(v:Value)(s:aw):Prop:=
 ∃(a it:Addr)(xs:List V)(ao:List Value)(H:am),v=.ref it/\Inv X pins σ H s/\jB.o2 s.heap it a ((ao.toArray.size:Int) - 1)/\kP s.heap a ao.toArray/\a≠it/\Vals xs ao/\ao.toArray.size<=sizeLine/\dt X.K H a xs/\hG X pins H it/\R a xs H
theorem I_{pins:List (Addr×Obj)}{s:aw}{σ:St}{H:am}{R:Addr->List V->am->Prop}(a8:eb X "reversed")(hm:X.mg "reversed"=none)(he:bQ X e a0)(ar:eY e=true)(I:Inv X pins σ H s)
 (h:a0 σ H λ x H1=>∃ a xs,x=.ref a/\dt X.K H1 a xs/\R a xs H1):aT (a5 X.prog X.w) X.A (eval (.Call (.Name "reversed" c8) [e] [] Bb) X.env) (I9 X pins σ R) X.xe s:=by
 refine pV (m_ I a8 hm PyProof.Rows.boot_reversed ?_);refine tb ?_ (gQ ar) rfl;rw[gQ ar];show aT _ _ (spliced ((false,eval e X.env)::iu Bb (ek [] X.env))) _ _ s;refine Calls.spliced_cons (bT (he pins s σ H _ I h) λ u s1 xz=>?_);obtain⟨x,H1,aV,aG,a,xs,ex,aU,q⟩:=xz;refine Calls.spliced_nil ?_;subst ex;cases aG;obtain⟨ao,aM,cS,hz⟩:=aV.tuple aU;have aB:=aM.length;have Px:=kY;refine jB.I8 cS (by rw[bN];omega) λ bM=>?_;exact⟨a,s1.heap.objs.size,xs,ao,H1,rfl,aV.kept λ b o e=>dA _ e,fc _ rfl,cS.push _,dJ cS.lt,aM,by rw[bN];omega,aU,aV.kg (b6 _) (aV.bj.fresh (b6 _)),q⟩
end
theorem Inv.Ja{X:aQ}{pins:List (Addr×Obj)}{σ:St}{H:am}{s:aw}{h':bF}{t':Nat}{fp:List Addr}(I:Inv X pins σ H s)(hf:∀ b∈fp,hG X pins H b)(k:∀ b o,b ∉ fp->s.heap.get? b=some o->h'.get? b=some o):Inv X pins σ H {s with heap:=h',toks:=t'}:=by
 have qq:∀ b u,H b=some u->b ∉ fp:=λ b u e z=>by rw[(hf b z).1]at e;cases e
 refine I.step (g':=s.gens) (d':=s.drawn) (ch:=fp) (λ b af=>?_) (λ b o _ _ aA e _=>k b o aA e) (λ b o _ _ aA e _=>⟨o.slots,k b o aA e⟩) (λ _ _ _ _ n=>n)
  (λ b o aA e=>⟨o,k b o aA e⟩) (λ _ _ e=>e) (λ _ _ _ e=>e) (λ b aZ e=>⟨#[],by rw[e];simp⟩) (λ m hm=>?_) (λ b u e=>?_) I.bare
 ·obtain⟨f0,f1,f2,dp,f4,e4⟩:=hf b af;exact⟨dp,f1,f4,e4⟩
 ·obtain⟨o,es,ep,aJ,r⟩:=hm;exact⟨o,es,ep,k _ o (λ z=>(hf _ z).2.1 rfl) aJ,r⟩
 ·refine(I.bj b u e).j8 (λ c v aA q=>k c v ?_ q) (λ _ q=>q) λ _ _ q=>q;rcases aA with z|z
  ·rw[z];exact qq b u e
  ·exact qq c _ z
noncomputable def mi(o:Obj):eR:=.dU o (.ext λ _=>True)
structure Jb(H:am)(f:Addr)(name qual:Str)(st:b_)(cl:List (Str×Addr))(nB:List V):Prop where
 fn:∃(fE:Value)(dF:Option Addr)(doc pm b9 ct:Value)(cp:Array (Option Value)),H f=some (mi ⟨fE,dF,.func (PySem.W.fnX name qual (kj st) (iC st) (dw st) cl .none .none doc pm none b9 ct),cp⟩) ∧
  ∃ c o vs t,b9=.ref c/\H c=some (mi o)/\o.data=.fields vs/\vs[1]?=some (.str qual t)
 cells:∀(i:Nat)(x:Str)(c:Addr),cl[i]?=some (x,c)->∃ v u o,nB[i]?=some v/\RelV v u/\H c=some (mi o)/\o.data=.cell (some u)
 len:cl.length=nB.length
 Jc:(cl.map (·.2)).Nodup
noncomputable def Jd(env:Env)(fr:List Str):List (Str×Addr):=fr.map λ x=>(x,(env.cells.lookup x).getD 0)
structure Je(env:Env)(H:am)(f:Addr)(name qual:Str)(st:b_)(fr:List Str):Prop where
 fn:∃(fE:Value)(dF:Option Addr)(doc pm b9 ct:Value)(cp:Array (Option Value)),H f=some (mi ⟨fE,dF,.func (PySem.W.fnX name qual (kj st) (iC st) (dw st) (Jd env fr) .none .none doc pm none b9 ct),cp⟩) ∧
  ∃ c o vs t,b9=.ref c/\H c=some (mi o)/\o.data=.fields vs/\vs[1]?=some (.str qual t)
noncomputable def Tab(H:am)(T:Addr)(pos:Pos)(qual:Str):Prop:=∃ aZ,H T=some (.lX aZ)/\TriplesOk aZ.toList/\(codeAmong pos aZ.toList=none\/∃ c o vs t,codeAmong pos aZ.toList=some (.ref c)/\H c=some (mi o)/\o.data=.fields vs/\vs[1]?=some (.str qual t))
end L2
namespace L3
open PySem PySem.Spec L2
inductive D where
 |bo|aW (b:Bool)|int (i:Int)|str (x:Str)|ref (a:Addr)|ty (n:String)|tup (ds:List D)|c1 (ds:List D)
noncomputable def o3(K:a4)(H:am)(a:Addr)(xs:List V):Prop:=
 (∃ o,H a=some (.dU o (.lst xs)))\/∃(o:Obj)(ao:Array Value)(n:Nat),K.lookup a=some o/\o.cls=.type "list"/\o.dict=none/\o.data=.seq ao n/\ao.size<=sizeLine/\Vals xs ao.toList
theorem o3.e0{K:a4}{H:am}{a:Addr}{xs:List V}(h:o3 K H a xs):dO K H a xs:=by
 rcases h with h|h
 ·exact .inl (.inr h)
 ·exact .inr h
mutual
noncomputable def ck(K:a4)(H:am):D->V->Prop
 |.bo,v=>v=.bo
 |.aW b,v=>v=.aW b
 |.int i,v=>v=.int i
 |.str x,v=>v=.str x
 |.ref a,v=>v=.ref a
 |.ty n,v=>v=.ty n
 |.tup ds,v=>∃ a vs,v=.ref a/\dt K H a vs/\br K H ds vs
 |.c1 ds,v=>∃ a vs,v=.ref a/\o3 K H a vs/\br K H ds vs
noncomputable def br(K:a4)(H:am):List D->List V->Prop
 |[],vs=>vs=[]
 |d::ds,vs=>∃ v r,vs=v::r/\ck K H d v/\br K H ds r
end
structure mj(K:a4)(H ah:am):Prop where
 iI:∀ a xs,dt K H a xs->dt K ah a xs
 fr:∀ a xs,o3 K H a xs->o3 K ah a xs
 jC:∀ a o,H a=some (mi o)->ah a=some (mi o)
section
variable{K:a4}{H ah:am}
mutual
theorem ck.mono(h:mj K H ah):∀{d:D}{v:V},ck K H d v->ck K ah d v
 |.bo,_,r=>r
 |.aW _,_,r=>r
 |.int _,_,r=>r
 |.str _,_,r=>r
 |.ref _,_,r=>r
 |.ty _,_,r=>r
 |.tup _,_,⟨a,vs,e,q,l⟩=>⟨a,vs,e,h.iI a vs q,br.mono h l⟩
 |.c1 _,_,⟨a,vs,e,q,l⟩=>⟨a,vs,e,h.fr a vs q,br.mono h l⟩
theorem br.mono(h:mj K H ah):∀{ds:List D}{vs:List V},br K H ds vs->br K ah ds vs
 |[],_,r=>r
 |_::_,_,⟨v,r,e,q,l⟩=>⟨v,r,e,ck.mono h q,br.mono h l⟩
end
theorem br.len:∀{ds:List D}{vs:List V},br K H ds vs->vs.length=ds.length
 |[],_,r=>by cases r;rfl
 |_::_,_,⟨v,r,e,_,l⟩=>by subst e;simp[l.len]
theorem br.append:∀{ds es:List D}{vs us:List V},br K H ds vs->br K H es us->br K H (ds++es) (vs++us)
 |[],_,_,_,r,s=>by cases r;exact s
 |_::_,_,_,_,⟨v,r,e,q,l⟩,s=>by subst e;exact⟨v,_,rfl,q,l.append s⟩
theorem br.one{d:D}{v:V}(h:ck K H d v):br K H [d] [v]:=⟨v,[],rfl,h,rfl⟩
theorem br.get:∀{ds:List D}{vs:List V}{i:Nat}{d:D},br K H ds vs->ds[i]?=some d->∃ v,vs[i]?=some v/\ck K H d v
 |[],_,_,_,_,e=>by simp at e
 |_::_,_,0,_,⟨v,r,bz,q,l⟩,e=>by simp at e;subst e bz;exact⟨v,rfl,q⟩
 | _::_,_,i+1,d,⟨v,r,bz,q,l⟩,e=>by
  subst bz;obtain⟨u,ae,ag⟩:=br.get (i:=i) (d:=d) l (by simpa using e);exact⟨u,by simpa using ae,ag⟩
theorem br.take:∀{ds:List D}{vs:List V}(n:Nat),br K H ds vs->br K H (ds.take n) (vs.take n)
 |_,_,0,_=>by simp[br]
 |[],_,n+1,r=>by cases r;simp[br]
 |_::_,_,n+1,⟨v,r,e,q,l⟩=>by subst e;exact⟨v,_,rfl,q,l.take n⟩
theorem br.reverse:∀{ds:List D}{vs:List V},br K H ds vs->br K H ds.reverse vs.reverse
 |[],_,r=>by cases r;simp[br]
 |_::_,_,⟨v,r,e,q,l⟩=>by subst e;rw[oB,oB];exact l.reverse.append (.one q)
theorem br.set{d:D}{v:V}(h:ck K H d v):∀{ds:List D}{vs:List V}(i:Nat),br K H ds vs->br K H (ds.set i d) (vs.set i v)
 |[],_,_,r=>by cases r;simp[br]
 |_::_,_,0,⟨u,r,e,q,l⟩=>by subst e;exact⟨v,r,rfl,h,l⟩
 |_::_,_,i+1,⟨u,r,e,q,l⟩=>by subst e;exact⟨u,_,rfl,q,l.set h i⟩
theorem br.wB:∀(ns:List Int),br K H (ns.map D.int) (ns.map V.int)
 |[]=>rfl
 |n::ns=>⟨_,_,rfl,rfl,br.wB ns⟩
end
inductive fw where
 |lst (ds:List D)
 |ins (C:Addr) (bl:List (Str×D))
 |bf (kvs:List (Key×D))
 |fM (kvs:List (List Key×D))
 |wC (kvs:List (List Key×D))
 |gC (o:Obj) (gs:List (Key×V)) (kvs:List (Key×D))
 |tab (pos:Pos) (qual:Str)|made (env:Env) (name qual:Str) (st:b_) (fr:List Str)|wD (name qual:Str) (st:b_) (fr:List Str) (vals:List D)
noncomputable abbrev aC:=Addr->Option fw
noncomputable abbrev dy:=List (Option D)
noncomputable def up(G:aC)(a:Addr)(o:fw):aC:=λ b=>if b=a then some o else G b
theorem bI{G:aC}{a:Addr}{o:fw}:up G a o a=some o:=by unfold up;rw[if_pos rfl]
theorem cv{G:aC}{a b:Addr}{o:fw}(h:b≠a):up G a o b=G b:=by unfold up;rw[if_neg h]
theorem nC{G:aC}{a:Addr}{o u:fw}:up (up G a o) a u=up G a u:=by funext b;unfold up;split<;>rfl
theorem Bc{G:aC}{a b:Addr}{o u:fw}(h:a≠b):up (up G a o) b u=up (up G b u) a o:=by
 funext c;unfold up;split<;>split<;>simp_all
theorem Jf{G:aC}{a:Addr}{o:fw}(h:G a=some o):up G a o=G:=by
 funext b;unfold up;split
 ·next e=>rw[e,h]
 ·rfl
noncomputable def cL{κ:Type}(K:a4)(H:am)(bl:List (κ×D))(gs:List (κ×V)):Prop:=bl.map (·.1)=gs.map (·.1)/\br K H (bl.map (·.2)) (gs.map (·.2))
noncomputable def o4(K:a4)(H:am)(a:Addr):fw->Prop
 |.lst ds=>∃ vs,H a=some (.lst vs)/\br K H ds vs
 |.ins C bl=>∃ eu gs,H a=some (.ins C eu gs)/\cL K H bl gs
 |.bf kvs=>∃ gs,H a=some (.bf gs)/\cL K H kvs gs
 |.fM kvs=>∃ gs,H a=some (.fM gs)/\cL K H kvs gs
 |.wC kvs=>∃ o gs,H a=some (.dU o (.fM gs))/\cL K H kvs gs
 |.gC o gs kvs=>H a=some (.dU o (.bf gs))/\cL K H kvs gs
 |.tab pos qual=>Tab H a pos qual
 |.made env name qual st fr=>Je env H a name qual st fr
 |.wD name qual st fr vals=>∃ cl nB,Jb H a name qual st cl nB/\cl.map (·.1)=fr/\br K H vals nB
noncomputable def dz(K:a4)(G:aC)(H:am):Prop:=∀ a o,G a=some o->o4 K H a o
theorem o4.some{K:a4}{H:am}{a:Addr}{o:fw}(h:o4 K H a o):∃ u,H a=.some u:=by
 cases o with
 |lst ds=>obtain⟨_,e,_⟩:=h;exact⟨_,e⟩
 |ins C bl=>obtain⟨_,_,e,_⟩:=h;exact⟨_,e⟩
 |bf kvs=>obtain⟨_,e,_⟩:=h;exact⟨_,e⟩
 |fM kvs=>obtain⟨_,e,_⟩:=h;exact⟨_,e⟩
 |wC kvs=>obtain⟨_,_,e,_⟩:=h;exact⟨_,e⟩
 |gC o gs kvs=>exact⟨_,h.1⟩
 |tab pos qual=>obtain⟨_,e,_⟩:=h;exact⟨_,e⟩
 |made env name qual st fr=>obtain⟨_,_,_,_,_,_,_,e,_⟩:=h.fn;exact⟨_,e⟩
 |wD name qual st fr vals=>obtain⟨_,_,h,_⟩:=h;obtain⟨_,_,_,_,_,_,_,e,_⟩:=h.fn;exact⟨_,e⟩
theorem dz.none{K:a4}{G:aC}{H:am}(h:dz K G H){a:Addr}(e:H a=.none):G a=.none:=by
 cases q:G a with
 |none=>rfl
 |some o=>obtain⟨u,z⟩:=(h a o q).some;rw[e]at z;cases z
theorem o4.mono{K:a4}{H ah:am}{a:Addr}{o:fw}(cA:mj K H ah)(e:ah a=H a)(h:o4 K H a o):o4 K ah a o:=by
 cases o with
 |lst ds=>obtain⟨vs,q,l⟩:=h;exact⟨vs,by rw[e];exact q,l.mono cA⟩
 |ins C bl=>obtain⟨eu,gs,q,l⟩:=h;exact⟨eu,gs,by rw[e];exact q,l.1,l.2.mono cA⟩
 |bf kvs=>obtain⟨gs,q,l⟩:=h;exact⟨gs,by rw[e];exact q,l.1,l.2.mono cA⟩
 |fM kvs=>obtain⟨gs,q,l⟩:=h;exact⟨gs,by rw[e];exact q,l.1,l.2.mono cA⟩
 |wC kvs=>obtain⟨o,gs,q,l⟩:=h;exact⟨o,gs,by rw[e];exact q,l.1,l.2.mono cA⟩
 |gC o gs kvs=>obtain⟨q,l⟩:=h;exact⟨by rw[e];exact q,l.1,l.2.mono cA⟩
 | tab pos qual=>
  obtain⟨aZ,ae,ag,bc⟩:=h;refine⟨aZ,by rw[e];exact ae,ag,?_⟩;rcases bc with bc|⟨c,o,vs,t,bc,cj,di⟩
  ·exact .inl bc
  ·exact .inr ⟨c,o,vs,t,bc,cA.jC _ _ cj,di⟩
 | made env name qual st fr=>
  obtain⟨fE,dF,doc,pm,b9,ct,cp,ae,c,o,vs,t,ag,bc,cj⟩:=h.fn;exact⟨fE,dF,doc,pm,b9,ct,cp,cA.jC _ _ ae,c,o,vs,t,ag,cA.jC _ _ bc,cj⟩
 | wD name qual st fr vals=>
  obtain⟨cl,nB,C,ae,ag⟩:=h;obtain⟨fE,dF,doc,pm,b9,ct,cp,bc,c,o,vs,t,cj,di,tN⟩:=C.fn;exact⟨cl,nB,⟨⟨fE,dF,doc,pm,b9,ct,cp,cA.jC _ _ bc,c,o,vs,t,cj,cA.jC _ _ di,tN⟩,λ i x c au=>let ⟨v,u,o,eK,cU,hK,ml⟩:=C.cells i x c au;⟨v,u,o,eK,cU,cA.jC _ _ hK,ml⟩,C.len,C.Jc⟩,ae,ag.mono cA⟩
structure Go(K:a4)(G:aC)(H:am)(aj:aC)(ah:am):Prop where
 tup:mj K H ah
 hL:∀ a o,H a=some o->∃ df,ah a=some df
 same:∀ a o,H a=some o->G a=none->ah a=some o
 new:∀ a o,H a=some o->G a=none->aj a=none
 bv:dz K aj ah
section
variable{K:a4}{G G1 aL aj:aC}{H H1 aO ah:am}
theorem Go.refl(v:dz K G H):Go K G H G H:=⟨⟨λ _ _ h=>h,λ _ _ h=>h,λ _ _ h=>h⟩,λ _ o e=>⟨o,e⟩,λ _ _ e _=>e,λ _ _ _ e=>e,v⟩
theorem Go.trans(a:Go K G H G1 H1)(b:Go K G1 H1 aL aO):Go K G H aL aO:=
 ⟨⟨λ x xs h=>b.tup.iI x xs (a.tup.iI x xs h),λ x xs h=>b.tup.fr x xs (a.tup.fr x xs h),λ x o h=>b.tup.jC x o (a.tup.jC x o h)⟩,λ x o e=>let ⟨df,bz⟩:=a.hL x o e;b.hL x df bz,λ x o e n=>b.same x o (a.same x o e n) (a.new x o e n),
  λ x o e n=>b.new x o (a.same x o e n) (a.new x o e n),b.bv⟩
noncomputable def Sub(G aj:aC):Prop:=∀ a o,G a=some o->aj a=some o
theorem Sub.refl(G:aC):Sub G G:=λ _ _ e=>e
theorem Sub.trans{G G1 aL:aC}(a:Sub G G1)(b:Sub G1 aL):Sub G aL:=λ x o e=>b x o (a x o e)
theorem Sub.none{G aj:aC}(h:Sub G aj){a:Addr}(e:aj a=.none):G a=.none:=by
 cases q:G a with
 |none=>rfl
 |some o=>rw[h a o q]at e;cases e
theorem dz.sub(v:dz K aj H)(h:Sub G aj):dz K G H:=λ a o e=>v a o (h a o e)
theorem Go.sub(g:Go K G H G1 H1)(h:Sub aL G1):Go K G H aL H1:=⟨g.tup,g.hL,g.same,λ x o e n=>h.none (g.new x o e n),g.bv.sub h⟩
theorem Jg{a p:Addr}{o:eR}{xs:List V}(ai:∀ ys,¬ eS H p (.tup ys))(h:dt K H a xs):dt K (upd H p o) a xs:=by
 rcases h with h|h
 ·have ne:a≠p:=by rintro rfl;exact ai _ h
  refine .inl ?_;unfold eS at h ⊢;rw[cu ne];exact h
 ·exact .inr h
theorem Jh{p:Addr}{ys:List V}(h:H p=none):¬ eS H p (.tup ys):=by
 rintro(e|⟨o,e⟩)<;>rw[h]at e<;>cases e
theorem Ji{p:Addr}{xs ys:List V}(h:H p=some (.lst xs)):¬ eS H p (.tup ys):=by
 rintro(e|⟨o,e⟩)<;>rw[h]at e<;>cases e
theorem wE{p:Addr}{o:eR}(ai:∀ ys,¬ eS H p (.tup ys))(aB:∀ o ys,H p≠some (.dU o ys)):mj K H (upd H p o) where
 iI:=λ _ _ q=>Jg ai q
 fr:=λ a xs q=>by
  rcases q with⟨z,q⟩|q
  ·exact .inl ⟨z,by rw[cu (by rintro rfl;exact aB _ _ q)];exact q⟩
  ·exact .inr q
 jC:=λ a u q=>by rw[cu (by rintro rfl;exact aB _ _ q)];exact q
theorem mm{p:Addr}{o:eR}(h:H p=none):mj K H (upd H p o):=wE (λ _=>Jh h) λ _ _ e=>by rw[h]at e;cases e
theorem kp{p:Addr}{o:eR}{xs:List V}(h:H p=some (.lst xs)):mj K H (upd H p o):=wE (λ _=>Ji h) λ _ _ e=>by rw[h]at e;cases e
theorem Go.ko(v:dz K G H){p:Addr}{o:eR}(h:H p=none):Go K G H G (upd H p o) where
 tup:=mm h
 hL:=λ a u e=>⟨u,by rw[cu (gN e h)];exact e⟩
 same:=λ a u e _=>by rw[cu (gN e h)];exact e
 new:=λ _ _ _ e=>e
 bv:=λ a u e=>(v a u e).mono (mm h) (cu (by rintro rfl;obtain⟨z,q⟩:=(v _ _ e).some;rw[h]at q;cases q))
theorem Go.k6(v:dz K G H){p:Addr}{ds:List D}{vs:List V}(h:H p=none)(r:br K H ds vs):Go K G H (up G p (.lst ds)) (upd H p (.lst vs)) where
 tup:=mm h
 hL:=λ a u e=>⟨u,by rw[cu (gN e h)];exact e⟩
 same:=λ a u e _=>by rw[cu (gN e h)];exact e
 new:=λ a u e n=>by rw[cv (gN e h)];exact n
 bv:=λ a u e=>by
  by_cases c:a=p
  ·subst c;rw[bI]at e;cases e;exact⟨vs,fN,r.mono (mm h)⟩
  ·rw[cv c]at e;exact(v a u e).mono (mm h) (cu c)
theorem Go.o5(v:dz K G H){p:Addr}{Bd ds:List D}{vs:List V}(h:G p=some (.lst Bd))(r:br K H ds vs):Go K G H (up G p (.lst ds)) (upd H p (.lst vs)):=by
 obtain⟨us,ai,_⟩:=v p _ h
 exact {
  tup:=kp ai
  hL:=λ a u e=>by
   by_cases c:a=p
   ·subst c;exact⟨_,fN⟩
   ·exact⟨u,by rw[cu c];exact e⟩
  same:=λ a u e n=>by
   have c:a≠p:=by rintro rfl;rw[h]at n;cases n
   rw[cu c];exact e
  new:=λ a u e n=>by
   have c:a≠p:=by rintro rfl;rw[h]at n;cases n
   rw[cv c];exact n
  bv:=λ a u e=>by
   by_cases c:a=p
   ·subst c;rw[bI]at e;cases e;exact⟨vs,fN,r.mono (kp ai)⟩
   ·rw[cv c]at e
    exact(v a u e).mono (kp ai) (cu c)}
end
structure cX(K:a4)(ρ:dy)(G:aC)(σ:St)(H:am):Prop where
 len:ρ.length=σ.length
 st:∀(i:Nat)(d:D),ρ[i]?=some (some d)->∃ v,σ[i]?=some (some v)/\ck K H d v
 bv:dz K G H
theorem cX.go{K:a4}{ρ:dy}{G aj:aC}{σ:St}{H ah:am}(b:cX K ρ G σ H)(g:Go K G H aj ah):cX K ρ aj σ ah:=
 ⟨b.len,λ i d e=>let ⟨v,ae,ag⟩:=b.st i d e;⟨v,ae,ag.mono g.tup⟩,g.bv⟩
theorem cX.set{K:a4}{ρ:dy}{G:aC}{σ:St}{H:am}{d:D}{v:V}(b:cX K ρ G σ H)(h:ck K H d v)(i:Nat):cX K (ρ.set i (some d)) G (σ.set i (some v)) H where
 len:=by simp[b.len]
 bv:=b.bv
 st:=λ j e he=>by
  by_cases c:j=i
  ·subst c;rw[List.getElem?_set]at he ⊢;have l:=b.len;simp only[if_true]at he ⊢;split at he
   ·next q=>rw[if_pos (by omega)];simp at he;subst he;exact⟨v,rfl,h⟩
   ·cases he
  ·rw[sO (by omega)]at he ⊢;exact b.st j e he
noncomputable def tW(ρ ρ':dy):Prop:=ρ.length=ρ'.length/\∀(i:Nat)(d:D),ρ[i]?=some (some d)->ρ'[i]?=some (some d)
theorem tW.refl(ρ:dy):tW ρ ρ:=⟨rfl,λ _ _ e=>e⟩
theorem cX.weak{K:a4}{ρ ρ':dy}{G aj:aC}{σ:St}{H:am}(b:cX K ρ' aj σ H)(s:tW ρ ρ')(g:Sub G aj):cX K ρ G σ H:=
 ⟨s.1.trans b.len,λ i d e=>b.st i d (s.2 i d e),b.bv.sub g⟩
noncomputable abbrev bS:=D->aC->Prop
noncomputable abbrev bV:=dy->aC->bS->Prop
noncomputable abbrev e2:=dy->aC->(Bool->aC->Prop)->Prop
noncomputable abbrev fW:=dy->aC->(List D->aC->Prop)->Prop
noncomputable abbrev tX:=dy->aC->(Option Int->aC->Prop)->Prop
structure wF where
 nx:dy->aC->Prop
 rt:bS
 bk:dy->aC->Prop:=λ _ _=>False
 ct:dy->aC->Prop:=λ _ _=>False
noncomputable abbrev fX:=wF->dy->aC->Prop
noncomputable abbrev Fin(K:a4)(G:aC)(H:am)(aE:bS)(Q:b7):Prop:=∀ d aj v ah,Go K G H aj ah->ck K ah d v->aE d aj->Q v ah
noncomputable abbrev wG(K:a4)(G:aC)(H:am)(aE:Bool->aC->Prop)(Q:Bool->am->Prop):Prop:=∀ b aj ah,Go K G H aj ah->aE b aj->Q b ah
noncomputable abbrev Jj(K:a4)(G:aC)(H:am)(aE:Option Int->aC->Prop)(Q:Option Int->am->Prop):Prop:=∀ b aj ah,Go K G H aj ah->aE b aj->Q b ah
noncomputable abbrev Jk(K:a4)(n:Nat)(G:aC)(H:am)(aE:List D->aC->Prop)(Q:List V->am->Prop):Prop:=∀ ds aj vs ah,Go K G H aj ah->br K ah ds vs->ds.length=n->aE ds aj->Q vs ah
structure bD(X:aQ)(e:aY)(t:bV):Prop where
 run:∃ bb:TE,cE X e bb/\∀ ρ G aE σ H Q,cX X.K ρ G σ H->t ρ G aE->Fin X.K G H aE Q->bb σ H Q
structure AT(X:aQ)(e:aY)(t:e2):Prop where
 run:∃ bb:TT,gR X e bb/\∀ ρ G aE σ H Q,cX X.K ρ G σ H->t ρ G aE->wG X.K G H aE Q->bb σ H Q
structure g8(X:aQ)(e:aY)(t:e2):Prop where
 run:∃ bb:TT,k4 X e bb/\∀ ρ G aE σ H Q,cX X.K ρ G σ H->t ρ G aE->wG X.K G H aE Q->bb σ H Q
structure hM(X:aQ)(es:List aY)(t:fW):Prop where
 run:∃ bb:e3,iH X es bb/\∀ ρ G aE σ H Q,cX X.K ρ G σ H->t ρ G aE->Jk X.K es.length G H aE Q->bb σ H Q
structure Be(X:aQ)(e:Option aY)(t:tX):Prop where
 run:∃ bb:ma,A1 X e bb/\∀ ρ G aE σ H Q,cX X.K ρ G σ H->t ρ G aE->Jj X.K G H aE Q->bb σ H Q
structure qZ(K:a4)(G:aC)(H:am)(dC:wF)(eL:Ends):Prop where
 nx:∀ ρ aj σ ah,Go K G H aj ah->cX K ρ aj σ ah->dC.nx ρ aj->eL.nx σ ah
 rt:Fin K G H dC.rt eL.rt
 bk:∀ ρ aj σ ah,Go K G H aj ah->cX K ρ aj σ ah->dC.bk ρ aj->eL.bk σ ah
 ct:∀ ρ aj σ ah,Go K G H aj ah->cX K ρ aj σ ah->dC.ct ρ aj->eL.ct σ ah
structure i_(X:aQ)(st:b_)(t:fX):Prop where
 run:∃ bb:ew,jA X st bb/\∀ dC eL ρ G σ H,cX X.K ρ G σ H->t dC ρ G->qZ X.K G H dC eL->bb eL σ H
structure k7(X:aQ)(st:List b_)(t:fX):Prop where
 run:∃ bb:ew,kn X st bb/\∀ dC eL ρ G σ H,cX X.K ρ G σ H->t dC ρ G->qZ X.K G H dC eL->bb eL σ H
noncomputable abbrev fk:=D->dy->aC->(dy->aC->Prop)->Prop
noncomputable abbrev nD:=List D->dy->aC->(dy->aC->Prop)->Prop
noncomputable abbrev wH(K:a4)(G:aC)(H:am)(aE:dy->aC->Prop)(Q:St->am->Prop):Prop:=∀ ρ aj σ ah,Go K G H aj ah->cX K ρ aj σ ah->aE ρ aj->Q σ ah
structure h_(X:aQ)(aX:aY)(t:fk):Prop where
 run:∃ bb:eU,hJ X aX bb/\∀ d v ρ G aE σ H Q,cX X.K ρ G σ H->ck X.K H d v->t d ρ G aE->wH X.K G H aE Q->bb v σ H Q
structure tY(X:aQ)(Jl:List aY)(t:nD):Prop where
 run:∃ bb:jr,qU X Jl bb/\∀ ds vs ρ G aE σ H Q,cX X.K ρ G σ H->br X.K H ds vs->t ds ρ G aE->wH X.K G H aE Q->bb vs σ H Q
noncomputable abbrev tZ:=D->aC->bS->Prop
noncomputable abbrev hs:=D->D->aC->bS->Prop
noncomputable abbrev o6:=List D->aC->bS->Prop
structure fl(X:aQ)(f:Value->Value->Sem Value)(r:hs):Prop where
 run:∃ rc:dQ,tU X f rc/\∀ x y dX fQ G H aE Q,dz X.K G H->ck X.K H x dX->ck X.K H y fQ->r x y G aE->Fin X.K G H aE Q->rc dX fQ H Q
structure Bf(X:aQ)(f:Value->Sem Value)(r:tZ):Prop where
 run:∃ rc:V->am->b7->Prop,A2 X f rc/\∀ x dX G H aE Q,dz X.K G H->ck X.K H x dX->r x G aE->Fin X.K G H aE Q->rc dX H Q
structure ja(X:aQ)(f:Value)(r:o6):Prop where
 run:∃ rc:List V->am->b7->Prop,wz X f rc/\∀ xs vs G H aE Q,dz X.K G H->br X.K H xs vs->r xs G aE->Fin X.K G H aE Q->rc vs H Q
structure Bg(X:aQ)(r:hs):Prop where
 run:∃ rc:dQ,A3 X rc/\∀ x y dX fQ G H aE Q,dz X.K G H->ck X.K H x dX->ck X.K H y fQ->r x y G aE->Fin X.K G H aE Q->rc dX fQ H Q
theorem Fin.after{K:a4}{G G1:aC}{H H1:am}{aE:bS}{Q:b7}(F:Fin K G H aE Q)(g:Go K G H G1 H1):Fin K G1 H1 aE Q:=λ d aj v ah g' a q=>F d aj v ah (g.trans g') a q
theorem qZ.after{K:a4}{G G1:aC}{H H1:am}{dC:wF}{eL:Ends}(F:qZ K G H dC eL)(g:Go K G H G1 H1):qZ K G1 H1 dC eL:=
 ⟨λ ρ aj σ ah g' b q=>F.nx ρ aj σ ah (g.trans g') b q,λ d aj v ah g' a q=>F.rt d aj v ah (g.trans g') a q,λ ρ aj σ ah g' b q=>F.bk ρ aj σ ah (g.trans g') b q,λ ρ aj σ ah g' b q=>F.ct ρ aj σ ah (g.trans g') b q⟩
section
variable{X:aQ}{a b c e o i:aY}{es:List aY}{bn bW a0 to cV:bV}{t:fW}{pos p apos cJ:Pos}
noncomputable abbrev nE(d:D):bV:=λ _ G Q=>Q d G
noncomputable abbrev wI(k:Nat):bV:=λ ρ G Q=>match ρ[k]? with
 |some (some d)=>Q d G
 |_=>False
theorem q0{v:V}{d:D}(h:cE X e (jq v))(r:∀ H,ck X.K H d v):bD X e (nE d):=⟨_,h,λ ρ G aE σ H Q B q F=>F d G v H (.refl B.bv) (r H) q⟩
theorem bp{n:Int} {j}:bD X (.Constant (.int n) j pos) (nE (.int n)):=q0 H5 λ _=>rfl
theorem q1{n:Bool} {j}:bD X (.Constant (.bool n) j pos) (nE (.aW n)):=q0 H6 λ _=>rfl
theorem nF{x:Str} {j}:bD X (.Constant (.str x) j pos) (nE (.str x)):=q0 H7 λ _=>rfl
theorem aF(k:Nat){x:Str}(dg:X.N[k]?=some x:=by rfl)(bh:tg X.env.scope x:=by first|exact Or.inl rfl|exact Or.inr (Or.inl rfl)|exact Or.inr (Or.inr rfl))(hd:(x==("__debug__" : Str))=false:=by decide)
 (g4:(x==("__classdict__" : Str))=false:=by decide):bD X (.Name x pos) (wI k):=⟨_,wA k dg bh hd g4,λ ρ G aE σ H Q B q F=>by
 unfold wI at q;split at q
 ·next d h=>
  obtain⟨v,ae,ag⟩:=B.st k d h;exact⟨v,ae,F d G v H (.refl B.bv) ag q⟩
 ·exact q.elim⟩
theorem o7{x:Str}{n:String}(a8:eb X x)(hm:X.mg x=none)(bh:iU x=some (.type n))(aS:x≠"__name__":=by decide)(hd:(x==("__debug__" : Str))=false:=by decide):bD X (.Name x pos) (nE (.ty n)):=
 q0 (H8 (v:=.ty n) a8 hm bh rfl aS hd) λ _=>rfl
theorem Bh{x:Str}{v:V}{u:Value}{d:D}(a8:eb X x)(hm:X.mg x=some u)(r:RelV v u)(az:∀ H,ck X.K H d v)(hd:(x==("__debug__" : Str))=false:=by decide):bD X (.Name x pos) (nE d):=q0 (H9 a8 hm r hd) az
noncomputable abbrev Bi:fW:=λ _ G Q=>Q [] G
noncomputable abbrev Jm(bn:bV)(tx:fW):fW:=λ ρ G Q=>bn ρ G λ x G1=>tx ρ G1 λ xs aL=>Q (x::xs) aL
theorem a_:hM X [] Bi:=⟨_,H_,λ ρ G aE σ H Q B q F=>F [] G [] H (.refl B.bv) rfl rfl q⟩
theorem aK(az:bD X e a0)(aH:hM X es t)(ar:eY e=true:=by rfl):hM X (e::es) (Jm a0 t):=by
 obtain⟨ca,cm,cn⟩:=az.run;obtain⟨cr,Jn,bC⟩:=aH.run;refine⟨_,Ia cm Jn ar,λ ρ G aE σ H Q B q F=>?_⟩;refine cn ρ G _ σ H _ B q λ x G1 v H1 g1 aI aD=>bC ρ G1 _ σ H1 _ (B.go g1) aD λ xs aL vs aO g2 Jo aB bw=>?_;exact F (x::xs) aL (v::vs) aO (g1.trans g2) ⟨v,vs,rfl,aI.mono g2.tup,Jo⟩ (by simp[aB]) bw
noncomputable abbrev Bj(t:fW):bV:=λ ρ G Q=>t ρ G λ ds G1=>Q (.tup ds) G1
noncomputable abbrev Jp(t:fW):bV:=λ ρ G Q=>t ρ G λ ds G1=>∀ p,G1 p=none->Q (.ref p) (up G1 p (.lst ds))
theorem wJ{n:Nat}(h:s0 n 1000=true):n<=sizeLine:=by
 have:=Nat.le_of_ble_eq_true h;rw[d_];omega
theorem g9 {eJ} (h:hM X es t) (aB:s0 es.length 1000=true:=by rfl):bD X (.Tuple es eJ pos) (Bj t):=by
 obtain⟨ca,cm,cn⟩:=h.run;refine⟨_,Ib cm,λ ρ G aE σ H Q B q F=>cn ρ G _ σ H _ B q λ ds G1 vs H1 g1 al aS aD=>⟨by rw[al.len,aS];exact wJ aB,λ p ai=>?_⟩⟩;have g2:=Go.ko (o:=.tup vs) g1.bv ai;exact F (.tup ds) G1 _ _ (g1.trans g2) ⟨p,vs,rfl,.of fN,al.mono g2.tup⟩ aD
theorem mn(h:hM X es t)(aB:s0 es.length 1000=true:=by rfl):bD X (.List es pos) (Jp t):=by
 obtain⟨ca,cm,cn⟩:=h.run;refine⟨_,A4 cm,λ ρ G aE σ H Q B q F=>cn ρ G _ σ H _ B q λ ds G1 vs H1 g1 al aS aD=>⟨by rw[al.len,aS];exact wJ aB,λ p ai=>?_⟩⟩;exact F (.ref p) _ _ _ (g1.trans (Go.k6 g1.bv ai al)) rfl (aD p (g1.bv.none ai))
noncomputable def Bk(ds:List D):Int->Option D
 |.ofNat k=>ds[k]?
 |.negSucc k=>fV ds (.negSucc k)
theorem Bl(ds:List D)(i:Int):Bk ds i=fV ds i:=by
 cases i with
 |negSucc k=>rfl
 | ofNat k=>
  show ds[k]?=fV ds (k:Int);by_cases h:k<ds.length
  ·rw[cN h];exact(mb (cN h)).symm
  ·rw[sS (by omega)];unfold fV jw;rw[if_pos (by omega),if_neg (by omega)];rfl
noncomputable def k8(ds:List D)(i:Int)(G:aC)(Q:bS):Prop:=match Bk ds i with
 |some d=>Q d G
 |none=>False
theorem t2{ds:List D}{i:Int}{G:aC}{Q:bS}{d:D}(h:fV ds i=some d)(q:Q d G):k8 ds i G Q:=by unfold k8;rw[Bl,h];exact q
@[irreducible] noncomputable def g_(G:aC)(l:Addr)(k:List D->Prop):Prop:=match G l with
 |some (.lst ds)=>k ds
 |_=>False
@[irreducible] noncomputable def iJ(G:aC)(l:Addr)(k:List D->Prop):Prop:=match G l with
 |some (.lst ds)=>k ds
 |_=>False
theorem c6{G:aC}{l:Addr}{k:List D->Prop}{ds:List D}(h:G l=some (.lst ds))(q:k ds):g_ G l k:=by unfold g_;rw[h];exact q
theorem gS{G:aC}{l:Addr}{k:List D->Prop}{ds:List D}(h:G l=some (.lst ds))(q:k ds):iJ G l k:=by unfold iJ;rw[h];exact q
theorem iK{K:a4}{G:aC}{H:am}{l:Addr}{k:List D->Prop}(v:dz K G H)(h:g_ G l k):∃ ds vs,k ds/\dO K H l vs/\br K H ds vs:=by
 unfold g_ at h;split at h
 ·next ds e=>obtain⟨vs,z,r⟩:=v _ _ e;exact⟨ds,vs,h,.of z,r⟩
 ·exact h.elim
theorem k9{K:a4}{G:aC}{H:am}{l:Addr}{k:List D->Prop}(v:dz K G H)(h:iJ G l k):∃ ds vs,k ds/\G l=some (.lst ds)/\H l=some (.lst vs)/\br K H ds vs:=by
 unfold iJ at h;split at h
 ·next ds e=>obtain⟨vs,z,r⟩:=v _ _ e;exact⟨ds,vs,h,e,z,r⟩
 ·exact h.elim
noncomputable abbrev q2(r:hs)(bn bW:bV):bV:=λ ρ G Q=>bn ρ G λ x G1=>bW ρ G1 λ y aL=>r x y aL Q
noncomputable abbrev Jq(r:tZ)(bn:bV):bV:=λ ρ G Q=>bn ρ G λ x G1=>r x G1 Q
theorem du{op:Operator}{r:hs}(aJ:fl X (gc op) r)(az:bD X a bn)(af:bD X b bW):bD X (.BinOp a op b pos) (q2 r bn bW):=by
 obtain⟨ca,cm,cn⟩:=az.run;obtain⟨kq,fY,fm⟩:=af.run;obtain⟨co,eA,bH⟩:=aJ.run;refine⟨_,Ic eA cm fY,λ ρ G aE σ H Q B q F=>?_⟩;exact cn ρ G _ σ H _ B q λ x G1 v H1 g1 aI aD=>fm ρ G1 _ σ H1 _ (B.go g1) aD λ y aL u aO g2 aN bw=>bH x y v u aL aO aE Q g2.bv (aI.mono g2.tup) aN bw (F.after (g1.trans g2))
theorem q3{op:lM}{r:hs}(aJ:fl X (dE op) r)(az:bD X a bn)(af:bD X b bW)(hm:lD op b=false):bD X (.Compare a [op] [b] pos) (q2 r bn bW):=by
 obtain⟨ca,cm,cn⟩:=az.run;obtain⟨kq,fY,fm⟩:=af.run;obtain⟨co,eA,bH⟩:=aJ.run;refine⟨_,Ig eA cm fY hm,λ ρ G aE σ H Q B q F=>?_⟩;exact cn ρ G _ σ H _ B q λ x G1 v H1 g1 aI aD=>fm ρ G1 _ σ H1 _ (B.go g1) aD λ y aL u aO g2 aN bw=>bH x y v u aL aO aE Q g2.bv (aI.mono g2.tup) aN bw (F.after (g1.trans g2))
theorem t4{op:UnaryOp}{r:tZ}(aJ:Bf X (p5 op) r)(az:bD X a bn):bD X (.UnaryOp op a pos) (Jq r bn):=by
 obtain⟨ca,cm,cn⟩:=az.run;obtain⟨co,eA,bH⟩:=aJ.run;refine⟨_,Ie eA cm,λ ρ G aE σ H Q B q F=>?_⟩;exact cn ρ G _ σ H _ B q λ x G1 v H1 g1 aI aD=>bH x v G1 H1 aE Q g1.bv aI aD (F.after g1)
theorem jb{r:hs}(aH:Bg X r)(az:bD X a bn)(af:bD X b bW)(ar:tE b):bD X (.Subscript a b pos) (q2 r bn bW):=by
 obtain⟨ca,cm,cn⟩:=az.run;obtain⟨kq,fY,fm⟩:=af.run;obtain⟨co,eA,bH⟩:=aH.run;refine⟨_,A5 eA cm fY ar,λ ρ G aE σ H Q B q F=>?_⟩;exact cn ρ G _ σ H _ B q λ x G1 v H1 g1 aI aD=>fm ρ G1 _ σ H1 _ (B.go g1) aD λ y aL u aO g2 aN bw=>bH x y v u aL aO aE Q g2.bv (aI.mono g2.tup) aN bw (F.after (g1.trans g2))
noncomputable def nG(c:Bool)(A B:Prop):Prop:=(c=true->A)/\(c=false->B)
noncomputable abbrev t5(x:D)(k:Bool->Prop):Prop:=match x with
 |.aW c=>k c
 |_=>False
theorem Bm{K:a4}{H:am}{x:D}{v:V}{k:Bool->Prop}(h:t5 x k)(r:ck K H x v):∃ c,v=.aW c/\x=.aW c/\k c:=by
 unfold t5 at h;split at h
 ·exact⟨_,r,rfl,h⟩
 ·exact h.elim
noncomputable abbrev Jr(bn bW:bV):bV:=λ ρ G Q=>bn ρ G λ x G1=>t5 x λ c=>nG c (bW ρ G1 Q) (Q (.aW false) G1)
theorem Bn {op} (h:bD X a bn):bD X (.BoolOp op [a] pos) bn:=by
 obtain⟨ca,cm,cn⟩:=h.run;exact⟨_,Ih cm,cn⟩
theorem wK{rest:List aY}(az:bD X a bn)(af:bD X (.BoolOp .And (b::rest) pos) bW):bD X (.BoolOp .And (a::b::rest) pos) (Jr bn bW):=by
 obtain⟨ca,cm,cn⟩:=az.run;obtain⟨kq,fY,fm⟩:=af.run;refine⟨_,Ii cm fY,λ ρ G aE σ H Q B q F=>cn ρ G _ σ H _ B q λ x G1 v H1 g1 aI aD=>?_⟩;obtain⟨c,e1,aP,bw⟩:=Bm aD aI;refine⟨c,e1,?_⟩
 cases c with
 |true=>exact fm ρ G1 _ σ H1 _ (B.go g1) (bw.1 rfl) (F.after g1)
 |false=>exact F (.aW false) _ _ _ g1 rfl (bw.2 rfl)
noncomputable abbrev Js(t:bV):e2:=λ ρ G Q=>t ρ G λ x G1=>t5 x λ c=>Q c G1
theorem eM{op:lM}{r:hs}(aJ:fl X (dE op) r)(az:bD X a bn)(af:bD X b bW)(hm:lD op b=false):AT X (.Compare a [op] [b] pos) (Js (q2 r bn bW)):=by
 obtain⟨ca,cm,cn⟩:=az.run;obtain⟨kq,fY,fm⟩:=af.run;obtain⟨co,eA,bH⟩:=aJ.run;refine⟨_,Iq eA cm fY hm,λ ρ G aE σ H Q B q F=>?_⟩;refine cn ρ G _ σ H _ B q λ x G1 v H1 g1 aI aD=>fm ρ G1 _ σ H1 _ (B.go g1) aD λ y aL u aO g2 aN bw=>bH x y v u aL aO _ _ g2.bv (aI.mono g2.tup) aN bw λ z bP w b1 g3 ia dd=>?_;obtain⟨c,e1,aP,ey⟩:=Bm dd ia;exact⟨c,e1,F c bP b1 ((g1.trans g2).trans g3) ey⟩
noncomputable abbrev Jt(bb:e2):e2:=λ ρ G Q=>bb ρ G λ c G1=>Q (!c) G1
noncomputable abbrev Ju(bb b4:e2):e2:=λ ρ G Q=>bb ρ G λ c G1=>nG c (b4 ρ G1 Q) (Q false G1)
noncomputable abbrev Jv(bb b4:e2):e2:=λ ρ G Q=>bb ρ G λ c G1=>nG c (Q true G1) (b4 ρ G1 Q)
theorem mo{bb:e2}(az:AT X a bb):AT X (.UnaryOp .Not a pos) (Jt bb):=by
 obtain⟨ca,cm,cn⟩:=az.run;exact⟨_,Ir cm,λ ρ G aE σ H Q B q F=>cn ρ G _ σ H _ B q λ c G1 H1 g1 aD=>F _ _ _ g1 aD⟩
theorem t6{bb:e2}(az:AT X a bb):g8 X (.BoolOp .And [a] pos) bb:=by
 obtain⟨ca,cm,cn⟩:=az.run;exact⟨_,Iu cm,cn⟩
theorem q4{bb:e2}(az:AT X a bb):g8 X (.BoolOp .Or [a] pos) bb:=by
 obtain⟨ca,cm,cn⟩:=az.run;exact⟨_,Iv cm,cn⟩
theorem t7{bb b4:e2}{rest:List aY}(az:AT X a bb)(af:g8 X (.BoolOp .And (b::rest) pos) b4):g8 X (.BoolOp .And (a::b::rest) pos) (Ju bb b4):=by
 obtain⟨ca,cm,cn⟩:=az.run;obtain⟨kq,fY,fm⟩:=af.run;refine⟨_,Iw cm fY,λ ρ G aE σ H Q B q F=>cn ρ G _ σ H _ B q λ c G1 H1 g1 aD=>?_⟩
 cases c with
 |true=>exact fm ρ G1 _ σ H1 _ (B.go g1) (aD.1 rfl) λ c aj ah g'=>F c aj ah (g1.trans g')
 |false=>exact F _ _ _ g1 (aD.2 rfl)
theorem mq{bb b4:e2}{rest:List aY}(az:AT X a bb)(af:g8 X (.BoolOp .Or (b::rest) pos) b4):g8 X (.BoolOp .Or (a::b::rest) pos) (Jv bb b4):=by
 obtain⟨ca,cm,cn⟩:=az.run;obtain⟨kq,fY,fm⟩:=af.run;refine⟨_,Ix cm fY,λ ρ G aE σ H Q B q F=>cn ρ G _ σ H _ B q λ c G1 H1 g1 aD=>?_⟩
 cases c with
 |false=>exact fm ρ G1 _ σ H1 _ (B.go g1) (aD.2 rfl) λ c aj ah g'=>F c aj ah (g1.trans g')
 |true=>exact F _ _ _ g1 (aD.1 rfl)
theorem g8.at{bb:e2}(h:g8 X e bb):AT X e bb:=by
 obtain⟨ca,cm,cn⟩:=h.run;exact⟨_,cm.pt,cn⟩
noncomputable def Jw(x:D)(G:aC)(k:Bool->Prop):Prop:=match x with
 |.bo=>k false
 |.aW b=>k b
 |.int i=>k (i !=0)
 |.str y=>y.length<=sizeLine/\k ((y.length:Int) !=0)
 |.tup ds=>k (!ds.isEmpty)
 |.ref p=>g_ G p λ ds=>k (!ds.isEmpty)
 |_=>False
theorem br.isEmpty{K:a4}{H:am}{ds:List D}{vs:List V}(h:br K H ds vs):vs.isEmpty=ds.isEmpty:=by
 have:=h.len;cases ds<;>cases vs<;>simp_all
noncomputable abbrev Jx(t:bV):e2:=λ ρ G Q=>t ρ G λ x G1=>Jw x G1 λ c=>Q c G1
theorem kr(az:bD X a bn)(he:∀ whole,jY a X.env whole=(do let v ← whole;jX a.pos;iX [v] (truthy v)):=by intro _;rfl):AT X a (Jx bn):=by
 obtain⟨ca,cm,cn⟩:=az.run;refine⟨_,It cm he,λ ρ G aE σ H Q B q F=>cn ρ G _ σ H _ B q λ x G1 v H1 g1 aI aD=>?_⟩
 cases x with
 |bo=>cases aI;exact⟨_,rfl,F _ _ _ g1 aD⟩
 |aW b=>cases aI;exact⟨_,rfl,F _ _ _ g1 aD⟩
 |int i=>cases aI;exact⟨_,rfl,F _ _ _ g1 aD⟩
 |str y=>cases aI;exact⟨_,⟨aD.1,rfl⟩,F _ _ _ g1 aD.2⟩
 | ref l=>
  cases aI;obtain⟨ds,vs,k,s,r⟩:=iK g1.bv aD;exact⟨_,.inl ⟨vs,s,rfl⟩,by rw[r.isEmpty];exact F _ _ _ g1 k⟩
 | tup ds=>
  obtain⟨l,vs,rfl,s,r⟩:=aI;exact⟨_,.inr (.inl ⟨vs,s,rfl⟩),by rw[r.isEmpty];exact F _ _ _ g1 aD⟩
 |ty n=>exact(show False from aD).elim
 |c1 ds=>exact(show False from aD).elim
noncomputable abbrev Jy(t:bV):tX:=λ ρ G Q=>t ρ G λ x G1=>match x with
 |.int i=>Q (some i) G1
 |_=>False
theorem Jz(h:bD X e a0):Be X (some e) (Jy a0):=by
 obtain⟨ca,cm,cn⟩:=h.run;refine⟨_,Ij cm,λ ρ G aE σ H Q B q F=>cn ρ G _ σ H _ B q λ x G1 v H1 g1 aI aD=>?_⟩;split at aD
 ·next i=>exact⟨i,aI,F _ _ _ g1 aD⟩
 ·exact aD.elim
noncomputable abbrev Bo:fX:=λ D ρ G=>D.nx ρ G
noncomputable abbrev JA(t u:fX):fX:=λ D ρ G=>t {D with nx:=u D} ρ G
noncomputable abbrev JB(a0:bV):fX:=λ D ρ G=>a0 ρ G λ _ G1=>D.nx ρ G1
noncomputable abbrev JC(a0:bV):fX:=λ D ρ G=>a0 ρ G D.rt
noncomputable abbrev JD(c:e2)(t u:fX):fX:=λ D ρ G=>c ρ G λ b G1=>nG b (t D ρ G1) (u D ρ G1)
theorem fZ:k7 X [] Bo:=⟨_,IE,λ dC eL ρ G σ H B q F=>F.nx ρ G σ H (.refl B.bv) B q⟩
theorem cb{st:b_}{rest:List b_}{eV us:fX}(ae:i_ X st eV)(ag:k7 X rest us):k7 X (st::rest) (JA eV us):=by
 obtain⟨d7,fx,aG⟩:=ae.run;obtain⟨cR,jD,aR⟩:=ag.run;refine⟨_,IF fx jD,λ dC eL ρ G σ H B q F=>aG _ _ ρ G σ H B q ⟨λ ρ' aj σ' ah g b q=>aR dC eL ρ' aj σ' ah b q (F.after g),F.rt,F.bk,F.ct⟩⟩
theorem cq{st:b_}{eV:fX}(ae:i_ X st eV):k7 X [st] eV:=by
 obtain⟨d7,fx,aG⟩:=ae.run;exact⟨_,IG fx,aG⟩
theorem mr(he:bD X e a0)(ar:jl e none pos.line X.env=pure false:=by rfl):i_ X (.Expr e pos) (JB a0):=by
 obtain⟨d7,fx,aG⟩:=he.run;exact⟨_,IH fx ar,λ dC eL ρ G σ H B q F=>aG ρ G _ σ H _ B q λ d aj v ah g _ q=>F.nx ρ aj σ ah g (B.go g) q⟩
theorem dR(he:bD X e a0):i_ X (.Return (some e) pos) (JC a0):=by
 obtain⟨d7,fx,aG⟩:=he.run;exact⟨_,II fx,λ dC eL ρ G σ H B q F=>aG ρ G _ σ H _ B q F.rt⟩
theorem fy{ss us:List b_}{bb:e2}{eV qV:fX}(aA:AT X c bb)(az:k7 X ss eV)(af:k7 X us qV):i_ X (.If c ss us pos) (JD bb eV qV):=by
 obtain⟨nH,nI,rc⟩:=aA.run;obtain⟨ca,cm,cn⟩:=az.run;obtain⟨kq,fY,fm⟩:=af.run;refine⟨_,IJ nI cm fY,λ dC eL ρ G σ H B q F=>rc ρ G _ σ H _ B q λ c G1 H1 g1 aD=>?_⟩
 cases c with
 |true=>exact cn dC eL ρ G1 σ H1 (B.go g1) (aD.1 rfl) (F.after g1)
 |false=>exact fm dC eL ρ G1 σ H1 (B.go g1) (aD.2 rfl) (F.after g1)
noncomputable abbrev t8(k:Nat):fk:=λ d ρ G Q=>Q (ρ.set k (some d)) G
noncomputable abbrev JE:nD:=λ ds ρ G Q=>match ds with
 |[]=>Q ρ G
 |_=>False
noncomputable abbrev JF(t:fk)(u:nD):nD:=λ ds ρ G Q=>match ds with
 |d::r=>t d ρ G λ ρ' aj=>u r ρ' aj Q
 |[]=>False
noncomputable abbrev JG(t:nD):fk:=λ d ρ G Q=>match d with
 |.tup ds=>t ds ρ G Q
 |_=>False
theorem f3{k:Nat}{x:Str}(dg:X.N.Nodup)(au:X.N[k]?=some x)(ak:Loc X.env.scope x)(hf:X.fn x=true\/X.env.scope.names.lookup x=some .local:=by first|exact .inl rfl|exact .inr rfl|assumption):h_ X (.Name x pos) (t8 k):=
 ⟨_,Iy dg au ak hf,λ d v ρ G aE σ H Q B a q F=>F _ G _ H (.refl B.bv) (B.set a k) q⟩
noncomputable abbrev wL(a0:bV)(g:fk):fX:=λ D ρ G=>a0 ρ G λ x G1=>g x ρ G1 D.nx
theorem wM{aX:aY}{g:fk}(he:bD X e a0)(a8:h_ X aX g)(ar:pZ [aX] e pos.line X.env=pure false:=by rfl)(hw:p0 [aX] e X.env=pure none:=by rfl)(ae:(hi [aX] X.env).map (·.2)=[gI aX X.env]:=by rfl):i_ X (.Assign [aX] e pos) (wL a0 g):=by
 obtain⟨d7,fx,aG⟩:=he.run;obtain⟨cR,jD,aR⟩:=a8.run;exact⟨_,IL fx jD ar hw ae,λ dC eL ρ G σ H B q F=>aG ρ G _ σ H _ B q λ d G1 v H1 g1 a aD=>aR d v ρ G1 _ σ H1 _ (B.go g1) a aD λ ρ' aj σ' ah g' b fO=>F.nx ρ' aj σ' ah (g1.trans g') b fO⟩
theorem eh{k:Nat}{x:Str}{pos':Pos}(dg:X.N.Nodup)(au:X.N[k]?=some x)(ak:Loc X.env.scope x)(he:bD X e a0)(ar:jl e (some (.Name x pos')) pos.line X.env=pure false:=by rfl)(hf:X.fn x=true\/X.env.scope.names.lookup x=some .local:=by first|exact .inl rfl|exact .inr rfl|assumption) :
 i_ X (.Assign [.Name x pos'] e pos) (wL a0 (t8 k)):=by
 obtain⟨d7,fx,aG⟩:=he.run;exact⟨_,IK dg au ak fx ar hf,λ dC eL ρ G σ H B q F=>aG ρ G _ σ H _ B q λ d G1 v H1 g1 a aD=>F.nx _ G1 _ H1 g1 ((B.go g1).set a k) aD⟩
theorem Bp:tY X [] JE:=⟨_,Iz,λ ds vs ρ G aE σ H Q B a q F=>by
 cases ds with
 |nil=>cases a;exact⟨rfl,F ρ G σ H (.refl B.bv) B q⟩
 |cons d r=>exact(show False from q).elim⟩
theorem t9{aX:fk}{u:nD}(ae:h_ X e aX)(ag:tY X es u)(ar:(hi (e::es) X.env).map (·.2)=gI e X.env::(hi es X.env).map (·.2):=by rfl):tY X (e::es) (JF aX u):=by
 obtain⟨d7,fx,aG⟩:=ae.run;obtain⟨cR,jD,aR⟩:=ag.run;refine⟨_,IA fx jD ar,λ ds vs ρ G aE σ H Q B a q F=>?_⟩
 cases ds with
 |nil=>exact(show False from q).elim
 | cons d r=>
  obtain⟨v,us,rfl,ad,JH⟩:=a;exact⟨v,us,rfl,aG d v ρ G _ σ H _ B ad q λ ρ' aj σ' ah g b fO=>aR r us ρ' aj _ σ' ah _ b (JH.mono g.tup) fO λ ρ2 aL σ2 aO g2 gT bw=>F ρ2 aL σ2 aO (g.trans g2) gT bw⟩
theorem Bq{k n:Nat}{aX:nD}(aA:X.calm=true)(h:tY X es aX)(aB:es.length=n:=by rfl)(aS:(hi es X.env).length=n:=by rfl)(qu:(hi es X.env).findIdx? (·.1)=none:=by rfl)
 (hlen:∀ ds ρ G Q,aX ds ρ G Q->ds.length=n:=by intro ds ρ G Q h;match ds,h with|[],h=>(first|rfl|exact(show False from h).elim)|[_],h=>(first|rfl|exact(show False from h).elim)|[_,_],h=>(first|rfl|exact(show False from h).elim)|[_,_,_],h=>(first|rfl|exact(show False from h).elim)|_::_::_::_::_,h=>exact(show False from h).elim):h_ X (.Tuple es k pos) (JG aX):=by
 obtain⟨d7,fx,aG⟩:=h.run;refine⟨_,IB (n:=n) aA fx aS qu,λ d v ρ G aE σ H Q B a q F=>?_⟩
 cases d with
 | tup ds=>
  obtain⟨l,vs,rfl,s,r⟩:=a;exact⟨l,vs,rfl,s,by rw[r.len];exact hlen _ _ _ _ q,aG ds vs ρ G aE σ H Q B r q F⟩
 |_=>exact(show False from q).elim
end
section
variable{X:aQ}
noncomputable def JI:hs:=λ x y G Q=>match x,y with
 |.int i,.int j=>Q (.int (i+j)) G
 |.str i,.str j=>i.length+j.length<=sizeLine/\Q (.str (i++j)) G
 |.tup xs,.tup ys=>xs.length+ys.length<=sizeLine/\Q (.tup (xs++ys)) G
 |.ref l,.ref m=>iJ G l λ xs=>iJ G m λ ys=>xs.length+ys.length<=sizeLine/\∀ p,G p=none->Q (.ref p) (up G p (.lst (xs++ys)))
 |_,_=>False
theorem jE:fl X (gc .Add) JI:=by
 refine⟨_,⟨FJ.or (FY.or (H2.or GU))⟩,λ x y dX fQ G H aE Q v aI aN r F=>?_⟩
 cases x with
 | int i=>
  cases y with
  |int j=>cases aI;cases aN;exact .inl ⟨i,j,rfl,rfl,F (.int (i+j)) G _ H (.refl v) rfl r⟩
  |_=>exact(show False from r).elim
 | str i=>
  cases y with
  |str j=>cases aI;cases aN;exact .inr (.inl ⟨i,j,rfl,rfl,r.1,F (.str (i++j)) G _ H (.refl v) rfl r.2⟩)
  |_=>exact(show False from r).elim
 | tup xs=>
  cases y with
  | tup ys=>
   obtain⟨l,vs,rfl,s1,aG⟩:=aI;obtain⟨m,us,rfl,s2,aR⟩:=aN;have dY:=aG.len;have dS:=aR.len;refine .inr (.inr (.inl ⟨l,m,vs,us,rfl,rfl,s1,s2,by rw[dY,dS];exact r.1,λ e=>?_,λ e aP=>?_,λ e aP p ai=>?_⟩))
   ·subst e
    have bz:xs=[]:=by cases xs<;>simp_all
    subst bz;exact F (.tup ys) G _ H (.refl v) ⟨m,us,rfl,s2,aR⟩ (by simpa using r.2)
   ·subst aP
    have bz:ys=[]:=by cases ys<;>simp_all
    subst bz;exact F (.tup xs) G _ H (.refl v) ⟨l,vs,rfl,s1,aG⟩ (by simpa using r.2)
   ·have g:=Go.ko (o:=.tup (vs++us)) v ai;exact F (.tup (xs++ys)) G _ _ g ⟨p,_,rfl,.of fN,(aG.append aR).mono g.tup⟩ r.2
  |_=>exact(show False from r).elim
 | ref l=>
  cases y with
  | ref m=>
   cases aI;cases aN;obtain⟨xs,vs,cz,e1,ae,aG⟩:=k9 v r;obtain⟨ys,us,b2,aP,ag,aR⟩:=k9 v cz;have dY:=aG.len;have dS:=aR.len;exact .inr (.inr (.inr ⟨l,m,vs,us,rfl,rfl,ae,ag,by rw[dY,dS];exact b2.1,λ p ai=>F (.ref p) _ _ _ (Go.k6 v ai (aG.append aR)) rfl (b2.2 p (v.none ai))⟩))
  |_=>exact(show False from r).elim
 |_=>exact(show False from r).elim
noncomputable def q5(C:Int->Int->Prop)(g:Int->Int->D):hs:=λ x y G Q=>match x,y with
 |.int i,.int j=>C i j/\Q (g i j) G
 |_,_=>False
noncomputable def o8(g:Int->Int->D):hs:=λ x y G Q=>match x,y with
 |.int i,.int j=>Q (g i j) G
 |_,_=>False
theorem t_{f:Value->Value->Sem Value}{C:Int->Int->Prop}{g:Int->Int->Int}(h:c4 X f (oW C λ i j=>.int (g i j))):fl X f (q5 C λ i j=>.int (g i j)):=by
 refine⟨_,⟨h⟩,λ x y dX fQ G H aE Q v aI aN r F=>?_⟩
 cases x with
 | int i=>
  cases y with
  |int j=>cases aI;cases aN;exact⟨i,j,rfl,rfl,r.1,F (.int (g i j)) G _ H (.refl v) rfl r.2⟩
  |_=>exact(show False from r).elim
 |_=>exact(show False from r).elim
theorem JJ{f:Value->Value->Sem Value}{g:Int->Int->Int}(h:c4 X f (kX λ i j=>.int (g i j))):fl X f (o8 λ i j=>.int (g i j)):=by
 refine⟨_,⟨h⟩,λ x y dX fQ G H aE Q v aI aN r F=>?_⟩
 cases x with
 | int i=>
  cases y with
  |int j=>cases aI;cases aN;exact⟨i,j,rfl,rfl,F (.int (g i j)) G _ H (.refl v) rfl r⟩
  |_=>exact(show False from r).elim
 |_=>exact(show False from r).elim
theorem wN{f:Value->Value->Sem Value}{g:Int->Int->Bool}(h:c4 X f (kX λ i j=>.aW (g i j))):fl X f (o8 λ i j=>.aW (g i j)):=by
 refine⟨_,⟨h⟩,λ x y dX fQ G H aE Q v aI aN r F=>?_⟩
 cases x with
 | int i=>
  cases y with
  |int j=>cases aI;cases aN;exact⟨i,j,rfl,rfl,F (.aW (g i j)) G _ H (.refl v) rfl r⟩
  |_=>exact(show False from r).elim
 |_=>exact(show False from r).elim
theorem ku:fl X (gc .Sub) (o8 λ i j=>.int (i - j)):=JJ FK
theorem mu:fl X (gc .Mult) (q5 tv λ i j=>.int (i * j)):=t_ FL
theorem Br:fl X (gc .FloorDiv) (q5 (λ _ j=>0<j/\j<2 ^ 64) λ i j=>.int (i / j)):=t_ HG
theorem mv:fl X (gc .Mod) (q5 (λ _ j=>0<j) λ i j=>.int (i % j)):=t_ FM
theorem JK:fl X (gc .Pow) (q5 z1 λ i j=>.int (i ^ j.toNat)):=t_ FN
theorem o9:fl X (dE .Lt) (o8 λ i j=>.aW (decide (i<j))):=wN FQ
theorem mw:fl X (dE .Gt) (o8 λ i j=>.aW (decide (j<i))):=wN FR
theorem JL:fl X (dE .GtE) (o8 λ i j=>.aW (decide (j<=i))):=wN FS
noncomputable def JM:tZ:=λ x G Q=>match x with
 |.int i=>Q (.int (-i)) G
 |_=>False
theorem ua:Bf X (p5 .USub) JM:=by
 refine⟨_,⟨FP⟩,λ x dX G H aE Q v aI r F=>?_⟩
 cases x with
 |int i=>cases aI;exact⟨i,rfl,F (.int (-i)) G _ H (.refl v) rfl r⟩
 |_=>exact(show False from r).elim
theorem ub{K:a4}{H:am}{ds:List D}{vs:List V}{i:Int}{d:D}(r:br K H ds vs)(h:fV ds i=some d):∃ v,fV vs i=some v/\ck K H d v:=by
 unfold fV at h ⊢;rw[r.len]
 cases e:jw ds.length i with
 |none=>rw[e]at h;cases h
 | some j=>
  rw[e]at h;exact r.get h
theorem uc{ds:List D}{i:Int}{G:aC}{Q:bS}(h:k8 ds i G Q):∃ d,fV ds i=some d/\Q d G:=by
 unfold k8 at h;rw[Bl]at h;split at h
 ·next d e=>exact⟨d,e,h⟩
 ·exact h.elim
noncomputable def ud:hs:=λ x y G Q=>match x,y with
 |.tup ds,.int i=>k8 ds i G Q
 |.ref l,.int i=>g_ G l λ ds=>k8 ds i G Q
 |.c1 ds,.int i=>k8 ds i G Q
 |.str z,.int i=>z.length<=sizeLine/\∃ c,fV z.cps.toList i=some c/\Q (.str ⟨#[c]⟩) G
 |_,_=>False
theorem wO{ds:List D}{i:Int}{G:aC}{Q:bS}{d:D}(h:fV ds i=some d)(q:Q d G):ud (.tup ds) (.int i) G Q:=t2 h q
theorem Bs{ds:List D}{i:Int}{G:aC}{Q:bS}{d:D}(h:fV ds i=some d)(q:Q d G):ud (.c1 ds) (.int i) G Q:=t2 h q
theorem Bt{l:Addr}{ds:List D}{i:Int}{G:aC}{Q:bS}{d:D}(aB:G l=some (.lst ds))(h:fV ds i=some d)(q:Q d G):ud (.ref l) (.int i) G Q:=c6 aB (t2 h q)
theorem jc:Bg X ud:=by
 refine⟨_,⟨Am⟩,λ x y dX fQ G H aE Q v aI aN r F=>?_⟩
 cases x with
 | tup ds=>
  cases y with
  | int i=>
   cases aN;obtain⟨l,vs,rfl,s,dj⟩:=aI;obtain⟨d,hd,q⟩:=uc r;obtain⟨u,bg,ad⟩:=ub dj hd;exact .inr (.inl ⟨l,vs,i,u,rfl,rfl,s,bg,F d G u H (.refl v) ad q⟩)
  |_=>exact(show False from r).elim
 | ref l=>
  cases y with
  | int i=>
   cases aI;cases aN;obtain⟨ds,vs,k,s,dj⟩:=iK v r;obtain⟨d,hd,q⟩:=uc k;obtain⟨u,bg,ad⟩:=ub dj hd;exact .inl ⟨l,vs,i,u,rfl,rfl,s,bg,F d G u H (.refl v) ad q⟩
  |_=>exact(show False from r).elim
 | c1 ds=>
  cases y with
  | int i=>
   cases aN;obtain⟨l,vs,rfl,s,dj⟩:=aI;obtain⟨d,hd,q⟩:=uc r;obtain⟨u,bg,ad⟩:=ub dj hd;exact .inl ⟨l,vs,i,u,rfl,rfl,s.e0,bg,F d G u H (.refl v) ad q⟩
  |_=>exact(show False from r).elim
 | str z=>
  cases y with
  | int i=>
   cases aI;cases aN;obtain⟨hz,c,aA,q⟩:=r;exact .inr (.inr ⟨z,i,c,rfl,rfl,hz,aA,F (.str ⟨#[c]⟩) G _ H (.refl v) rfl q⟩)
  |_=>exact(show False from r).elim
 |_=>exact(show False from r).elim
variable{e o:aY}{es:List aY}{a0 to:bV}{t:fW}{pos p apos cJ:Pos}
noncomputable abbrev Bu(r:o6)(t:fW):bV:=λ ρ G Q=>t ρ G λ ds G1=>r ds G1 Q
theorem f5{x:Str}{id:String}{r:o6}(aA:ja X (.builtin id) r)(a8:eb X x)(hm:X.mg x=none)(bh:iU x=some (.builtin id))(az:hM X (e::es) t)(aS:x≠"__name__":=by decide)(gy:(x==("__debug__" : Str))=false:=by decide)
 (ar:(e::es).all eY=true:=by rfl):bD X (.Call (.Name x p) (e::es) [] pos) (Bu r t):=by
 obtain⟨ca,cm,cn⟩:=az.run;obtain⟨nH,nI,rc⟩:=aA.run;exact⟨_,Il nI a8 hm bh cm aS gy ar,λ ρ G aE σ H Q B q F=>cn ρ G _ σ H _ B q λ ds G1 vs H1 g1 al _ aD=>rc ds vs G1 H1 aE Q g1.bv al aD (F.after g1)⟩
theorem kv{x:Str}{T:String}{r:o6}(aA:ja X (.type T) r)(a8:eb X x)(hm:X.mg x=none)(bh:iU x=some (.type T))(az:hM X (e::es) t)(aS:x≠"__name__":=by decide)(gy:(x==("__debug__" : Str))=false:=by decide)
 (ar:(e::es).all eY=true:=by rfl):bD X (.Call (.Name x p) (e::es) [] pos) (Bu r t):=by
 obtain⟨ca,cm,cn⟩:=az.run;obtain⟨nH,nI,rc⟩:=aA.run;exact⟨_,Im nI a8 hm bh cm aS gy ar,λ ρ G aE σ H Q B q F=>cn ρ G _ σ H _ B q λ ds G1 vs H1 g1 al _ aD=>rc ds vs G1 H1 aE Q g1.bv al aD (F.after g1)⟩
noncomputable abbrev mx(r:D->aC->bS->Prop):o6:=λ xs G Q=>match xs with
 |[x]=>r x G Q
 |_=>False
noncomputable abbrev o_(r:D->D->aC->bS->Prop):o6:=λ xs G Q=>match xs with
 |[x,y]=>r x y G Q
 |_=>False
theorem pa{K:a4}{H:am}{r:D->aC->bS->Prop}{xs:List D}{vs:List V}{G:aC}{Q:bS}(h:mx r xs G Q)(a:br K H xs vs):∃ x v,xs=[x]/\vs=[v]/\ck K H x v/\r x G Q:=by
 unfold mx at h;split at h
 ·obtain⟨v,r,rfl,q,l⟩:=a;cases l;exact⟨_,v,rfl,rfl,q,h⟩
 ·exact h.elim
theorem uf{K:a4}{H:am}{r:D->D->aC->bS->Prop}{xs:List D}{vs:List V}{G:aC}{Q:bS}(h:o_ r xs G Q)(a:br K H xs vs):∃ x y v u,xs=[x,y]/\vs=[v,u]/\ck K H x v/\ck K H y u/\r x y G Q:=by
 unfold o_ at h;split at h
 ·obtain⟨v,r,rfl,q,u,aR,rfl,bw,l⟩:=a;cases l;exact⟨_,_,v,u,rfl,rfl,q,bw,h⟩
 ·exact h.elim
noncomputable def JN:D->aC->bS->Prop:=λ x G Q=>match x with
 |.tup ds=>Q (.int ds.length) G
 |.ref l=>g_ G l λ ds=>Q (.int ds.length) G
 |.c1 ds=>Q (.int ds.length) G
 |.str z=>z.length<=sizeLine/\Q (.int z.length) G
 |_=>False
theorem kx:ja X (.builtin "len") (mx JN):=by
 refine⟨_,⟨GC.or GD⟩,λ xs vs G H aE Q v a r F=>?_⟩;obtain⟨x,u,rfl,rfl,aI,r⟩:=pa r a
 cases x with
 | tup ds=>
  obtain⟨l,ws,rfl,s,dj⟩:=aI;exact .inl ⟨l,ws,rfl,.inr s,by rw[dj.len];exact F (.int ds.length) G _ H (.refl v) rfl r⟩
 | ref l=>
  cases aI;obtain⟨ds,ws,k,s,dj⟩:=iK v r;exact .inl ⟨l,ws,rfl,.inl s,by rw[dj.len];exact F (.int ds.length) G _ H (.refl v) rfl k⟩
 | c1 ds=>
  obtain⟨l,ws,rfl,s,dj⟩:=aI;exact .inl ⟨l,ws,rfl,.inl s.e0,by rw[dj.len];exact F (.int ds.length) G _ H (.refl v) rfl r⟩
 |str z=>cases aI;exact .inr ⟨z,rfl,r.1,F (.int z.length) G _ H (.refl v) rfl r.2⟩
 |_=>exact(show False from r).elim
noncomputable def Bv(g:Int->Int->Int):D->D->aC->bS->Prop:=λ x y G Q=>match x,y with
 |.int i,.int j=>Q (.int (g i j)) G
 |_,_=>False
theorem JO(aA:X.calm=true):ja X (.builtin "max") (o_ (Bv λ i j=>if j > i then j else i)):=by
 refine⟨_,⟨FZ aA⟩,λ xs vs G H aE Q v a r F=>?_⟩;obtain⟨x,y,u,w,rfl,rfl,aI,aN,r⟩:=uf r a
 cases x with
 | int i=>
  cases y with
  |int j=>cases aI;cases aN;exact⟨i,j,rfl,F (.int (if j > i then j else i)) G _ H (.refl v) rfl r⟩
  |_=>exact(show False from r).elim
 |_=>exact(show False from r).elim
theorem Bw(aA:X.calm=true):ja X (.builtin "min") (o_ (Bv λ i j=>if j<i then j else i)):=by
 refine⟨_,⟨F0 aA⟩,λ xs vs G H aE Q v a r F=>?_⟩;obtain⟨x,y,u,w,rfl,rfl,aI,aN,r⟩:=uf r a
 cases x with
 | int i=>
  cases y with
  |int j=>cases aI;cases aN;exact⟨i,j,rfl,F (.int (if j<i then j else i)) G _ H (.refl v) rfl r⟩
  |_=>exact(show False from r).elim
 |_=>exact(show False from r).elim
noncomputable def JP:D->aC->bS->Prop:=λ x G Q=>match x with
 |.tup ds=>Q (.tup ds) G
 |.ref l=>g_ G l λ ds=>Q (.tup ds) G
 |_=>False
theorem q6:ja X (.type "tuple") (mx JP):=by
 refine⟨_,⟨GG⟩,λ xs vs G H aE Q v a r F=>?_⟩;obtain⟨x,u,rfl,rfl,aI,r⟩:=pa r a
 cases x with
 | tup ds=>
  obtain⟨l,ws,rfl,s,dj⟩:=aI;exact⟨l,ws,rfl,.inr ⟨s,F (.tup ds) G _ H (.refl v) ⟨l,ws,rfl,s,dj⟩ r⟩⟩
 | ref l=>
  cases aI;obtain⟨ds,ws,k,s,dj⟩:=iK v r;refine⟨l,ws,rfl,.inl ⟨s,λ p ai=>?_⟩⟩;have g:=Go.ko (o:=.tup ws) v ai;exact F (.tup ds) G _ _ g ⟨p,ws,rfl,.of fN,dj.mono g.tup⟩ k
 |_=>exact(show False from r).elim
noncomputable def Bx:D->aC->bS->Prop:=λ x G Q=>match x with
 |.tup ds=>∀ p,G p=none->Q (.ref p) (up G p (.lst ds))
 |.ref l=>g_ G l λ ds=>∀ p,G p=none->Q (.ref p) (up G p (.lst ds))
 |_=>False
theorem ug:ja X (.type "list") (mx Bx):=by
 refine⟨_,⟨GF⟩,λ xs vs G H aE Q v a r F=>?_⟩;obtain⟨x,u,rfl,rfl,aI,r⟩:=pa r a
 cases x with
 | tup ds=>
  obtain⟨l,ws,rfl,s,dj⟩:=aI;exact⟨l,ws,rfl,.inr s,λ p ai=>F (.ref p) _ _ _ (Go.k6 v ai dj) rfl (r p (v.none ai))⟩
 | ref l=>
  cases aI;obtain⟨ds,ws,k,s,dj⟩:=iK v r;exact⟨l,ws,rfl,.inl s,λ p ai=>F (.ref p) _ _ _ (Go.k6 v ai dj) rfl (k p (v.none ai))⟩
 |_=>exact(show False from r).elim
end
end L3
namespace L2
open PySem PySem.Spec PyProof.Rows
noncomputable def By(K:a4)(ho:TE):TI:=λ σ H R=>ho σ H λ x H1=>∃ a,x=.ref a/\(((∃ xs,dO K H1 a xs)/\R (qy K a) H1)\/((∃ xs,dt K H1 a xs)/\R (qz K a) H1))
theorem JQ{X:aQ}{aX l:aY}{ho:TE}(aB:bQ X l ho):i8 X aX l (By X.K ho):=by
 intro pins s σ H R I h;refine bT (aB pins s σ H _ I h) λ v s1 xz=>?_;obtain⟨x,H1,aV,aG,aD⟩:=xz;obtain⟨a,e,aD⟩:=aD;subst e;cases aG;rcases aD with⟨⟨xs,aU⟩,q⟩|⟨⟨xs,aU⟩,q⟩
 ·obtain⟨ao,aM,p,hz⟩:=aV.list aU;refine wpAny_pyIter_list p.isList ?_;refine⟨s1.heap.objs.size,[s1.heap.objs.size],_,_,H1,rfl,aV.kept (t':=s1.toks) λ b o e=>dA _ e,Ft a _,⟨_,fc _ rfl,rfl,rfl⟩,λ b af=>?_,q⟩
  have e:b=s1.heap.objs.size:=by simpa using af
  subst e;exact aV.kg (b6 _) (aV.bj.fresh (b6 _))
 ·obtain⟨ao,aM,p,hz⟩:=aV.tuple aU;refine wpAny_pyIter_tuple (show s1.heap.IsTuple a ao.toArray from p) ?_;refine⟨s1.heap.objs.size,[s1.heap.objs.size],_,_,H1,rfl,aV.kept (t':=s1.toks) λ b o e=>dA _ e,Fu a _,⟨_,fc _ rfl,rfl,rfl⟩,λ b af=>?_,q⟩
  have e:b=s1.heap.objs.size:=by simpa using af
  subst e;exact aV.kg (b6 _) (aV.bj.fresh (b6 _))
end L2
namespace L3
open PySem PySem.Spec L2
section
variable{X:aQ}{a b c e o i aX iter:aY}{es:List aY}{bn bW a0 to cV:bV}{t:fW}{pos p apos cJ:Pos}
structure jF where
 items:List D
 held:aC->Prop
noncomputable abbrev ib:=dy->aC->(jF->aC->Prop)->Prop
noncomputable def uh(K:a4)(J:jF)(hN:hF)(G:aC)(H:am):Prop:=∀ G1 H1,Go K G H G1 H1->J.held G1 →
 (∀(i:Nat)(d:D),J.items[i]?=some d->hN.go i H1/\∀ x ah,hN.kf i H1 x ah->Go K G1 H1 G1 ah/\ck K ah d x)/\∀ i,J.items.length<=i->hN.stop i H1
structure jG(X:aQ)(aX iter:aY)(cy:ib):Prop where
 run:∃ Bz:TI,mf X aX iter Bz/\∀ ρ G ic σ H R,cX X.K ρ G σ H->cy ρ G ic->(∀ J hN aj ah,Go X.K G H aj ah->uh X.K J hN aj ah->ic J aj->R hN ah)->Bz σ H R
@[irreducible] noncomputable def q7(G:aC)(l:Addr)(k:jF->Prop):Prop:=match G l with
 |some (.lst ds)=>k ⟨ds,λ G=>G l=some (.lst ds)⟩
 |_=>False
noncomputable abbrev JR(bn:bV):ib:=λ ρ G R=>bn ρ G λ x G1=>match x with
 |.tup ds=>R ⟨ds,λ _=>True⟩ G1
 |.ref l=>q7 G1 l λ J=>R J G1
 |.c1 ds=>R ⟨ds,λ _=>True⟩ G1
 |_=>False
theorem nJ{G:aC}{l:Addr}{k:jF->Prop}{ds:List D}(h:G l=some (.lst ds))(q:k ⟨ds,λ G=>G l=some (.lst ds)⟩):q7 G l k:=by unfold q7;rw[h];exact q
theorem JS{K:a4}{ds:List D}{vs:List V}{l:Addr}{G1:aC}{H1:am}(v:dz K G1 H1)(s:dt K H1 l vs)(r:br K H1 ds vs) :
 (∀(i:Nat)(d:D),ds[i]?=some d->(qz K l).go i H1/\∀ x ah,(qz K l).kf i H1 x ah->Go K G1 H1 G1 ah/\ck K ah d x)/\∀ i,ds.length<=i->(qz K l).stop i H1:=by
 refine⟨λ i d hd=>?_,λ i au=>⟨vs,s,by rw[r.len];exact au⟩⟩;obtain⟨w,hw,gm⟩:=r.get hd;refine⟨⟨vs,w,s,hw⟩,λ x ah y=>?_⟩;obtain⟨rfl,y⟩:=y;have z:=y vs s;rw[hw]at z;cases z;exact⟨.refl v,gm⟩
theorem BA{K:a4}{ds:List D}{vs:List V}{l:Addr}{G1:aC}{H1:am}(v:dz K G1 H1)(s:dO K H1 l vs)(r:br K H1 ds vs) :
 (∀(i:Nat)(d:D),ds[i]?=some d->(qy K l).go i H1/\∀ x ah,(qy K l).kf i H1 x ah->Go K G1 H1 G1 ah/\ck K ah d x)/\∀ i,ds.length<=i->(qy K l).stop i H1:=by
 refine⟨λ i d hd=>?_,λ i au=>⟨vs,s,by rw[r.len];exact au⟩⟩;obtain⟨w,hw,gm⟩:=r.get hd;refine⟨⟨vs,w,s,hw⟩,λ x ah y=>?_⟩;obtain⟨rfl,y⟩:=y;have z:=y vs s;rw[hw]at z;cases z;exact⟨.refl v,gm⟩
theorem JT{bb:TE}(aB:cE X a bb):mf X aX a (By X.K bb):=⟨JQ aB.run⟩
theorem nK(az:bD X a bn):jG X aX a (JR bn):=by
 obtain⟨ca,cm,cn⟩:=az.run;refine⟨_,JT cm,λ ρ G ic σ H R B q F=>cn ρ G _ σ H _ B q λ x G1 v H1 g1 aI aD=>?_⟩
 cases x with
 | tup ds=>
  obtain⟨l,vs,rfl,s,r⟩:=aI;exact⟨l,rfl,.inr ⟨⟨vs,s⟩,F ⟨ds,λ _=>True⟩ _ G1 H1 g1 (λ aL aO g2 _=>JS g2.bv (g2.tup.iI _ _ s) (r.mono g2.tup)) aD⟩⟩
 | ref l=>
  cases aI;refine⟨l,rfl,.inl ?_⟩
  replace aD:q7 G1 l λ J=>ic J G1:=aD
  unfold q7 at aD;split at aD
  ·next ds hd=>
   obtain⟨vs,z,r⟩:=g1.bv _ _ hd;refine⟨⟨vs,.of z⟩,F ⟨ds,λ G=>G l=some (.lst ds)⟩ _ G1 H1 g1 (λ aL aO g2 ag=>?_) aD⟩;obtain⟨us,cU,aR⟩:=g2.bv _ _ ag;exact BA g2.bv (.of cU) aR
  ·exact aD.elim
 | c1 ds=>
  obtain⟨l,vs,rfl,s,r⟩:=aI;exact⟨l,rfl,.inl ⟨⟨vs,s.e0⟩,F ⟨ds,λ _=>True⟩ _ G1 H1 g1 (λ aL aO g2 _=>BA g2.bv (g2.tup.fr _ _ s).e0 (r.mono g2.tup)) aD⟩⟩
 |_=>exact(show False from aD).elim
noncomputable def ha(lo:Int)(n:Nat):List D:=(gf n).map λ(i:Nat)=>D.int (lo+(i:Int))
theorem BB{lo:Int}{n i:Nat}{d:D}(h:(ha lo n)[i]?=some d):i<n/\d=.int (lo+i):=by
 unfold ha at h;rw[fs]at h;by_cases c:i<n
 ·rw[List.getElem?_range c]at h;simp at h;exact⟨c,h.symm⟩
 ·rw[sS (by simpa using c)]at h;cases h
theorem my{lo:Int}{n:Nat}:(ha lo n).length=n:=by simp[ha]
@[irreducible] noncomputable def nL(r:List D->Option (Int×Nat))(ds:List D)(k:Int->Nat->Prop):Prop:=match r ds with
 |some (lo,n)=>k lo n
 |none=>False
noncomputable abbrev BC(r:List D->Option (Int×Nat))(t:fW):ib:=λ ρ G R=>t ρ G λ ds G1=>nL r ds λ lo n=>R ⟨ha lo n,λ _=>True⟩ G1
noncomputable def q8(i:Int):Bool:=decide (-(2 ^ 62)<=i)&&decide (i<2 ^ 62)
noncomputable def q9:List D->Option (Int×Nat)
 |[.int j]=>if q8 j=true then some (0,j.toNat) else none
 |_=>none
noncomputable def q_:List D->Option (Int×Nat)
 |[.int i,.int j]=>if q8 i=true/\q8 j=true then some (i,(j - i).toNat) else none
 |_=>none
theorem pb{i:Int}:q8 i=true ↔ -(2 ^ 62)<=i/\i<2 ^ 62:=by unfold q8;simp
theorem BD{K:a4}{lo:Int}{n:Nat}{G1:aC}{H1:am}(v:dz K G1 H1) :
 (∀(i:Nat)(d:D),(ha lo n)[i]?=some d->(ng lo n).go i H1/\∀ x ah,(ng lo n).kf i H1 x ah->Go K G1 H1 G1 ah/\ck K ah d x)/\∀ i,(ha lo n).length<=i->(ng lo n).stop i H1:=by
 refine⟨λ i d hd=>?_,λ i au=>by rw[my]at au;exact au⟩;obtain⟨ae,rfl⟩:=BB hd;refine⟨ae,λ x ah y=>?_⟩;obtain⟨rfl,rfl⟩:=y;exact⟨.refl v,rfl⟩
theorem JU{ds:List D}{lo:Int}{n:Nat}(h:q9 ds=some (lo,n)):∃ j,ds=[.int j]/\(-(2 ^ 62)<=j/\j<2 ^ 62)/\lo=0/\n=j.toNat:=by
 unfold q9 at h;split at h
 ·next j=>
  split at h
  ·next c=>cases h;exact⟨j,rfl,pb.mp c,rfl,rfl⟩
  ·cases h
 ·cases h
theorem JV{ds:List D}{lo:Int}{n:Nat}(h:q_ ds=some (lo,n)):∃ j,ds=[.int lo,.int j]/\(-(2 ^ 62)<=lo/\lo<2 ^ 62/\-(2 ^ 62)<=j/\j<2 ^ 62)/\n=(j - lo).toNat:=by
 unfold q_ at h;split at h
 ·next i j=>
  split at h
  ·next c=>
   cases h;have d7:=pb.mp c.1;have cR:=pb.mp c.2;exact⟨j,rfl,⟨d7.1,d7.2,cR.1,cR.2⟩,rfl⟩
  ·cases h
 ·cases h
theorem pc{j:Int}{k:Int->Nat->Prop}(h:-(2 ^ 62)<=j/\j<2 ^ 62)(q:k 0 j.toNat):nL q9 [.int j] k:=by
 have e:q9 [.int j]=some (0,j.toNat):=if_pos (pb.mpr h);unfold nL;rw[e];exact q
theorem JW{i j:Int}{k:Int->Nat->Prop}(ae:-(2 ^ 62)<=i/\i<2 ^ 62)(ag:-(2 ^ 62)<=j/\j<2 ^ 62)(q:k i (j - i).toNat):nL q_ [.int i,.int j] k:=by
 have e:q_ [.int i,.int j]=some (i,(j - i).toNat):=if_pos ⟨pb.mpr ae,pb.mpr ag⟩;unfold nL;rw[e];exact q
theorem BE{r:List D->Option (Int×Nat)}{ds:List D}{R:jF->aC->Prop}{G:aC}(h:nL r ds λ lo n=>R ⟨ha lo n,λ _=>True⟩ G):∃ lo n,r ds=some (lo,n)/\R ⟨ha lo n,λ _=>True⟩ G:=by
 unfold nL at h;split at h
 ·next lo n e=>exact⟨lo,n,e,h⟩
 ·exact h.elim
theorem pd(a8:eb X "range")(hm:X.mg "range"=none)(az:hM X [a] t)(ar:eY a=true:=by rfl):jG X aX (.Call (.Name "range" p) [a] [] pos) (BC q9 t):=by
 obtain⟨ca,cm,cn⟩:=az.run;refine⟨_,ID a8 hm cm ar,λ ρ G ic σ H R B q F=>cn ρ G _ σ H _ B q λ ds G1 vs H1 g1 al aB aD=>?_⟩;obtain⟨lo,n,e,bw⟩:=BE aD;obtain⟨j,rfl,c,rfl,rfl⟩:=JU e;obtain⟨v,r,rfl,k_,l⟩:=al;cases l;cases k_;exact⟨j,rfl,c.1,c.2,F _ _ G1 H1 g1 (λ aL aO g2 _=>BD g2.bv) bw⟩
theorem JX(a8:eb X "range")(hm:X.mg "range"=none)(az:hM X [a,b] t)(ae:eY a=true:=by rfl)(ag:eY b=true:=by rfl):jG X aX (.Call (.Name "range" p) [a,b] [] pos) (BC q_ t):=by
 obtain⟨ca,cm,cn⟩:=az.run;refine⟨_,IX a8 hm cm ae ag,λ ρ G ic σ H R B q F=>cn ρ G _ σ H _ B q λ ds G1 vs H1 g1 al aB aD=>?_⟩;obtain⟨lo,n,e,bw⟩:=BE aD;obtain⟨j,rfl,c,rfl⟩:=JV e;obtain⟨v,r,rfl,k_,u,aR,rfl,jd,l⟩:=al;cases l;cases k_;cases jd;exact⟨lo,j,rfl,c,F _ _ G1 H1 g1 (λ aL aO g2 _=>BD g2.bv) bw⟩
noncomputable def eN(P:dy->aC->Prop):dy->aC->Prop:=λ ρ G=>∃ ρ' aj,tW ρ' ρ/\Sub aj G/\P ρ' aj
theorem eN.of{P:dy->aC->Prop}{ρ:dy}{G:aC}(h:P ρ G):eN P ρ G:=⟨ρ,G,.refl _,.refl _,h⟩
noncomputable abbrev JY(cy:ib)(g:fk)(bW:fX):fX:=λ dC ρ G=>cy ρ G λ J G1=>∃ P:Nat->dy->aC->Prop,P 0 ρ G1/\(∀ i ρ G,i<=J.items.length->P i ρ G->J.held G) ∧
 (∀(i:Nat)(d:D)(ρ:dy)(G:aC),J.items[i]?=some d->P i ρ G->g d ρ G λ ρ' aj=>bW {dC with nx:=eN (P (i+1)),ct:=eN (P (i+1)),bk:=dC.nx} ρ' aj)/\∀ ρ G,P J.items.length ρ G->dC.nx ρ G
theorem ie{body:List b_}{cy:ib}{g:fk}{bW:fX}(ai:ot (a5 X.prog X.w) X.A X.env X.xe)(aA:X.calm=true)(au:jG X aX iter cy)(a8:h_ X aX g)(af:k7 X body bW)(ar:∀ x,iQ iter X.env x=pure x:=by intro _;rfl) :
 i_ X (.For aX iter body [] pos) (JY cy g bW):=by
 obtain⟨ci,f6,eX⟩:=au.run;obtain⟨la,nM,jH⟩:=a8.run;obtain⟨kq,fY,fm⟩:=af.run;refine⟨_,IN ai aA f6 nM fY ar,λ dC eL ρ G σ H B q F=>eX ρ G _ σ H _ B q λ J hN G1 H1 g1 ok aD=>?_⟩;obtain⟨P,lb,held,turn,done⟩:=aD;refine⟨λ i m σ' ah=>m=J.items.length - i/\i<=J.items.length/\∃ ρ' aj,P i ρ' aj/\cX X.K ρ' aj σ' ah/\Go X.K G1 H1 aj ah,⟨_,rfl,fB _,ρ,G1,lb,B.go g1,.refl g1.bv⟩,?_⟩;rintro i m σ2 aO ⟨rfl,au,ρ2,aL,c8,gT,g2⟩;have b2:=ok aL aO g2 (held i ρ2 aL au c8);by_cases dr:i<J.items.length
 ·have hd:J.items[i]?=some J.items[i]:=by simp[dr]
  obtain⟨go,ra⟩:=b2.1 i _ hd;refine .inr ⟨go,λ σ' ah=>∃ ρ' aj,P (i+1) ρ' aj/\cX X.K ρ' aj σ' ah/\Go X.K G1 H1 aj ah,λ σ' ah ⟨ρ',aj,eK,cU,hK⟩=>⟨J.items.length - (i+1),by omega,rfl,dr,ρ',aj,eK,cU,hK⟩,λ x ah y=>?_⟩;obtain⟨g3,aI⟩:=ra x ah y;refine jH _ x ρ2 aL _ σ2 ah _ (gT.go g3) aI (turn i _ ρ2 aL hd c8) λ ρ4 eO σ4 gl ig lc ey=>?_;have fo:=(g2.trans g3).trans ig
  have gK:∀ ρ' aj σ' ah,Go X.K eO gl aj ah->cX X.K ρ' aj σ' ah->eN (P (i+1)) ρ' aj->∃ ρ' aj,P (i+1) ρ' aj/\cX X.K ρ' aj σ' ah/\Go X.K G1 H1 aj ah:=λ ρ' aj σ' ah g' hp ⟨ρ5,en,s1,s2,w⟩=>
   ⟨ρ5,en,w,hp.weak s1 s2,(fo.trans g').sub s2⟩
  exact fm _ _ ρ4 eO σ4 gl lc ey ⟨λ ρ' aj σ' ah g' hp w=>gK ρ' aj σ' ah g' hp w,(F.after ((g1.trans fo))).rt,λ ρ' aj σ' ah g' hp w=>F.nx ρ' aj σ' ah ((g1.trans fo).trans g') hp w,λ ρ' aj σ' ah g' hp w=>gK ρ' aj σ' ah g' hp w⟩
 ·have e:i=J.items.length:=by omega
  subst e;exact .inl ⟨b2.2 _ (b6 _),F.nx ρ2 aL σ2 aO (g1.trans g2) gT (done ρ2 aL c8)⟩
noncomputable abbrev JZ(bb:e2)(bW:fX):fX:=λ dC ρ G=>∃ W:Nat->dy->aC->Prop,(∃ m,W m ρ G)/\∀ m ρ G,W m ρ G →
 bb ρ G λ b G1=>nG b (bW {dC with nx:=eN λ ρ' aj=>∃ cP,cP<m/\W cP ρ' aj,ct:=eN λ ρ' aj=>∃ cP,cP<m/\W cP ρ' aj,bk:=dC.nx} ρ G1) (dC.nx ρ G1)
theorem J0{body:List b_}{bb:e2}{bW:fX}(ai:ot (a5 X.prog X.w) X.A X.env X.xe)(aA:AT X c bb)(af:k7 X body bW):i_ X (.While c body [] pos) (JZ bb bW):=by
 obtain⟨nH,nI,rc⟩:=aA.run;obtain⟨kq,fY,fm⟩:=af.run;refine⟨_,IM ai nI fY,λ dC eL ρ G σ H B q F=>?_⟩;obtain⟨W,⟨m0,l2⟩,turn⟩:=q;refine⟨λ m σ' ah=>∃ ρ' aj,W m ρ' aj/\cX X.K ρ' aj σ' ah/\Go X.K G H aj ah,⟨m0,ρ,G,l2,B,.refl B.bv⟩,?_⟩;rintro m σ2 aO ⟨ρ2,aL,kb,gT,g2⟩;refine rc ρ2 aL _ σ2 aO _ gT (turn m ρ2 aL kb) λ k bP b1 g3 dd=>?_
 cases k with
 | true=>
  refine⟨λ σ' ah=>∃ cP,cP<m/\∃ ρ' aj,W cP ρ' aj/\cX X.K ρ' aj σ' ah/\Go X.K G H aj ah,λ σ' ah ⟨cP,z,ρ',aj,eK,cU,hK⟩=>⟨cP,z,ρ',aj,eK,cU,hK⟩,?_⟩;have fo:=g2.trans g3
  have gK:∀ ρ' aj σ' ah,Go X.K bP b1 aj ah->cX X.K ρ' aj σ' ah->eN (λ ρ' aj=>∃ cP,cP<m/\W cP ρ' aj) ρ' aj->∃ cP,cP<m/\∃ ρ' aj,W cP ρ' aj/\cX X.K ρ' aj σ' ah/\Go X.K G H aj ah:=λ ρ' aj σ' ah g' hp ⟨ρ5,en,s1,s2,cP,hm,w⟩=>
   ⟨cP,hm,ρ5,en,w,hp.weak s1 s2,(fo.trans g').sub s2⟩
  exact fm _ _ ρ2 bP σ2 b1 (gT.go g3) (dd.1 rfl) ⟨λ ρ' aj σ' ah g' hp w=>gK ρ' aj σ' ah g' hp w,(F.after fo).rt,λ ρ' aj σ' ah g' hp w=>F.nx ρ' aj σ' ah (fo.trans g') hp w,λ ρ' aj σ' ah g' hp w=>gK ρ' aj σ' ah g' hp w⟩
 |false=>exact F.nx ρ2 bP σ2 b1 (g2.trans g3) (gT.go g3) (dd.2 rfl)
end
end L3
namespace L2
open PySem PySem.Spec PyProof.Rows
theorem cE.imp{X:aQ}{e:aY}{t t':TE}(h:cE X e t)(i:∀ σ H Q,t' σ H Q->t σ H Q):cE X e t':=⟨λ pins s σ H Q I q=>h.run pins s σ H Q I (i σ H Q q)⟩
theorem gR.imp{X:aQ}{e:aY}{t t':TT}(h:gR X e t)(i:∀ σ H Q,t' σ H Q->t σ H Q):gR X e t':=⟨λ pins s σ H Q I q=>h.run pins s σ H Q I (i σ H Q q)⟩
theorem hJ.imp{X:aQ}{e:aY}{t t':eU}(h:hJ X e t)(i:∀ v σ H Q,t' v σ H Q->t v σ H Q):hJ X e t':=⟨λ pins s σ H x v Q I r q=>h.run pins s σ H x v Q I r (i _ _ _ _ q)⟩
end L2
namespace L3
open PySem PySem.Spec L2
section
variable{X:aQ}{a b c e o i aX iter elt ct:aY}{es:List aY}{bn bW a0 to cV:bV}{t:fW}{pos p apos cJ:Pos}
noncomputable abbrev pe(K:a4)(bb:TE)(t:bV):Prop:=∀ ρ G aE σ H Q,cX K ρ G σ H->t ρ G aE->Fin K G H aE Q->bb σ H Q
noncomputable abbrev wP(K:a4)(bb:TT)(t:e2):Prop:=∀ ρ G aE σ H Q,cX K ρ G σ H->t ρ G aE->wG K G H aE Q->bb σ H Q
noncomputable abbrev ui(K:a4)(bb:eU)(t:fk):Prop:=∀ d v ρ G aE σ H Q,cX K ρ G σ H->ck K H d v->t d ρ G aE->wH K G H aE Q->bb v σ H Q
theorem bD.lf{ι:Type}{cx:ι->aQ}{K:a4}(ed:∀ z,(cx z).K=K)(h:∀ z,bD (cx z) e a0):∃ bb:TE,(∀ z,cE (cx z) e bb)/\pe K bb a0:=by
 have h':∀ z,∃ bb,cE (cx z) e bb/\pe K bb a0:=λ z=>by
  have q:=(h z).run;rw[ed z]at q;exact q
 exact⟨λ σ H Q=>∀ z,Classical.choose (h' z) σ H Q,λ z=>(Classical.choose_spec (h' z)).1.imp λ σ H Q q=>q z,λ ρ G aE σ H Q B q F z=>(Classical.choose_spec (h' z)).2 ρ G aE σ H Q B q F⟩
theorem AT.lf{ι:Type}{cx:ι->aQ}{K:a4}{a0:e2}(ed:∀ z,(cx z).K=K)(h:∀ z,AT (cx z) e a0):∃ bb:TT,(∀ z,gR (cx z) e bb)/\wP K bb a0:=by
 have h':∀ z,∃ bb,gR (cx z) e bb/\wP K bb a0:=λ z=>by
  have q:=(h z).run;rw[ed z]at q;exact q
 exact⟨λ σ H Q=>∀ z,Classical.choose (h' z) σ H Q,λ z=>(Classical.choose_spec (h' z)).1.imp λ σ H Q q=>q z,λ ρ G aE σ H Q B q F z=>(Classical.choose_spec (h' z)).2 ρ G aE σ H Q B q F⟩
theorem h_.lf{ι:Type}{cx:ι->aQ}{K:a4}{a0:fk}(ed:∀ z,(cx z).K=K)(h:∀ z,h_ (cx z) e a0):∃ bb:eU,(∀ z,hJ (cx z) e bb)/\ui K bb a0:=by
 have h':∀ z,∃ bb,hJ (cx z) e bb/\ui K bb a0:=λ z=>by
  have q:=(h z).run;rw[ed z]at q;exact q
 exact⟨λ v σ H Q=>∀ z,Classical.choose (h' z) v σ H Q,λ z=>(Classical.choose_spec (h' z)).1.imp λ v σ H Q q=>q z,λ d v ρ G aE σ H Q B ad q F z=>(Classical.choose_spec (h' z)).2 d v ρ G aE σ H Q B ad q F⟩
noncomputable def hO(nt:Nat)(cap:List Nat)(ρ:dy):dy:=sP nt none++cap.map λ i=>(ρ[i]?).join
theorem uj{nt:Nat}{cap:List Nat}{ρ:dy}{i:Nat}{d:D}(h:(hO nt cap ρ)[i]?=some (some d)):nt<=i:=by
 by_cases c:nt<=i
 ·exact c
 ·unfold hO at h;rw[mV (by simpa using c),sQ]at h;rw[if_pos (by omega)]at h;cases h
theorem cX.comp{K:a4}{ρ:dy}{G:aC}{σ:St}{H:am}(B:cX K ρ G σ H)(nt:Nat)(cap:List Nat):cX K (hO nt cap ρ) G (jx nt cap σ) H:=by
 refine⟨by simp[hO,jx],λ i d h=>?_,B.bv⟩;have au:=uj h;unfold hO at h;unfold jx;rw[oA (by simpa using au)]at h ⊢;rw[sR,fs]at h ⊢
 cases e:cap[i - nt]? with
 |none=>rw[e]at h;cases h
 | some k=>
  rw[e]at h
  have h':(ρ[k]?).join=some d:=by simpa using h
  have ag:ρ[k]?=some (some d):=by
   cases q:ρ[k]? with
   |none=>rw[q]at h';cases h'
   | some z=>rw[q]at h';cases z with
    |none=>cases h'
    |some y=>simp at h';rw[h']
  obtain⟨v,bc,cj⟩:=B.st k d ag;exact⟨v,by simp[bc],cj⟩
noncomputable def pf(nt:Nat)(g:fk):Prop:=∀ d ρ G Q,g d ρ G Q->g d ρ G λ ρ' aj=>Q ρ' aj/\ρ'.length=ρ.length/\∀ i,nt<=i->ρ'[i]?=ρ[i]?
theorem rb{nt k:Nat}(h:k<nt):pf nt (t8 k):=λ d ρ G Q q=>⟨q,by simp,λ i au=>sO (by omega)⟩
noncomputable def je(P:aC->Prop):aC->Prop:=λ G=>∃ aj,Sub aj G/\P aj
theorem je.of{P:aC->Prop}{G:aC}(h:P G):je P G:=⟨G,.refl _,h⟩
@[irreducible] noncomputable def rd(g:fk)(a0:bV)(nt:Nat)(cap:List Nat)(ρ:dy)(Q:bS)(J:jF)(G1:aC):Prop:=J.items.length<sizeLine/\∃ P:Nat->List D->aC->Prop,P 0 [] G1/\(∀ i ds G,i<=J.items.length->P i ds G->J.held G) ∧
 (∀(i:Nat)(d:D)(ds:List D)(G:aC),J.items[i]?=some d->P i ds G->g d (hO nt cap ρ) G λ ρ3 bP=>a0 ρ3 bP λ y eO=>je (P (i+1) (ds++[y])) eO)/\∀ ds G,P J.items.length ds G->∀ p,G p=none->Q (.ref p) (up G p (.lst ds))
@[irreducible] noncomputable def uk(g:fk)(bb:e2)(a0:bV)(nt:Nat)(cap:List Nat)(ρ:dy)(Q:bS)(J:jF)(G1:aC):Prop:=J.items.length<sizeLine/\∃ P:Nat->List D->aC->Prop,P 0 [] G1/\(∀ i ds G,i<=J.items.length->P i ds G->J.held G) ∧
 (∀(i:Nat)(d:D)(ds:List D)(G:aC),J.items[i]?=some d->P i ds G->g d (hO nt cap ρ) G λ ρ3 bP=>bb ρ3 bP λ b en=>nG b (a0 ρ3 en λ y eO=>je (P (i+1) (ds++[y])) eO) (je (P (i+1) ds) en))/\∀ ds G,P J.items.length ds G->∀ p,G p=none->Q (.ref p) (up G p (.lst ds))
noncomputable abbrev wQ(cy:ib)(g:fk)(a0:bV)(nt:Nat)(cap:List Nat):bV:=λ ρ G Q=>cy ρ G (rd g a0 nt cap ρ Q)
noncomputable abbrev BF(cy:ib)(g:fk)(bb:e2)(a0:bV)(nt:Nat)(cap:List Nat):bV:=λ ρ G Q=>cy ρ G (uk g bb a0 nt cap ρ Q)
theorem wR{g:fk}{a0:bV}{nt:Nat}{cap:List Nat}{ρ:dy}{Q:bS}{J:jF}{G1:aC}(P:Nat->List D->aC->Prop)(hz:J.items.length<sizeLine)(h0:P 0 [] G1)(held:∀ i ds G,i<=J.items.length->P i ds G->J.held G)
 (turn:∀(i:Nat)(d:D)(ds:List D)(G:aC),J.items[i]?=some d->P i ds G->g d (hO nt cap ρ) G λ ρ3 bP=>a0 ρ3 bP λ y eO=>je (P (i+1) (ds++[y])) eO) (done:∀ ds G,P J.items.length ds G->∀ p,G p=none->Q (.ref p) (up G p (.lst ds))):rd g a0 nt cap ρ Q J G1:=by
 unfold rd;exact⟨hz,P,h0,held,turn,done⟩
theorem J1{g:fk}{bb:e2}{a0:bV}{nt:Nat}{cap:List Nat}{ρ:dy}{Q:bS}{J:jF}{G1:aC}(P:Nat->List D->aC->Prop)(hz:J.items.length<sizeLine)(h0:P 0 [] G1)(held:∀ i ds G,i<=J.items.length->P i ds G->J.held G)
 (turn:∀(i:Nat)(d:D)(ds:List D)(G:aC),J.items[i]?=some d->P i ds G->g d (hO nt cap ρ) G λ ρ3 bP=>bb ρ3 bP λ b en=>nG b (a0 ρ3 en λ y eO=>je (P (i+1) (ds++[y])) eO) (je (P (i+1) ds) en)) (done:∀ ds G,P J.items.length ds G->∀ p,G p=none->Q (.ref p) (up G p (.lst ds))):uk g bb a0 nt cap ρ Q J G1:=by
 unfold uk;exact⟨hz,P,h0,held,turn,done⟩
theorem dz.mz{K:a4}{G:aC}{H:am}{acc:Addr}{ys zs:List V}(v:dz K G H)(h:H acc=some (.lst ys))(n:G acc=m3):dz K G (upd H acc (.lst zs)):=λ a o e=>
 (v a o e).mono (kp h) (cu (by rintro rfl;rw[n]at e;cases e))
theorem Go.mz{K:a4}{G aj:aC}{H ah:am}{acc:Addr}{ys zs:List V}(g:Go K G H aj ah)(h0:H acc=none)(h:ah acc=some (.lst ys))(n:aj acc=none):Go K G H aj (upd ah acc (.lst zs)) where
 tup:=⟨λ a xs q=>(kp h).iI a xs (g.tup.iI a xs q),λ a xs q=>(kp h).fr a xs (g.tup.fr a xs q),λ a o q=>(kp (K:=K) h).jC a o (g.tup.jC a o q)⟩
 hL:=λ a o e=>by
  obtain⟨df,bz⟩:=g.hL a o e;exact⟨df,by rw[cu (gN e h0)];exact bz⟩
 same:=λ a o e z=>by rw[cu (gN e h0)];exact g.same a o e z
 new:=g.new
 bv:=g.bv.mz h n
theorem cX.mz{K:a4}{ρ:dy}{G:aC}{σ:St}{H:am}{acc:Addr}{ys zs:List V}(B:cX K ρ G σ H)(h:H acc=some (.lst ys))(n:G acc=none):cX K ρ G σ (upd H acc (.lst zs)):=
 ⟨B.len,λ i d e=>let ⟨v,ae,ag⟩:=B.st i d e;⟨v,ae,ag.mono (kp h)⟩,B.bv.mz h n⟩
theorem Go.held{K:a4}{G aj:aC}{H ah:am}{acc:Addr}{ds:List D}{ys:List V}(g:Go K G H aj ah)(h0:H acc=none)(h:ah acc=some (.lst ys))(r:br K ah ds ys):Go K G H (up aj acc (.lst ds)) ah where
 tup:=g.tup
 hL:=g.hL
 same:=g.same
 new:=λ a o e z=>by rw[cv (gN e h0)];exact g.new a o e z
 bv:=λ a o e=>by
  by_cases c:a=acc
  ·subst c;rw[bI]at e;cases e;exact⟨ys,h,r⟩
  ·rw[cv c]at e;exact g.bv a o e
theorem BG{K:a4}{ci:TI}{la:eU}{ce:TE}{cy:ib}{g:fk}{a0:bV}{nt:Nat}{cap:List Nat}(aq:pf nt g)
 (eX:∀ ρ G ic σ H R,cX K ρ G σ H->cy ρ G ic->(∀ J hN aj ah,Go K G H aj ah->uh K J hN aj ah->ic J aj->R hN ah)->ci σ H R) (jH:ui K la g) (re:pe K ce a0):pe K (qL ci la ce nt cap) (wQ cy g a0 nt cap):=by
 intro ρ G aE σ H Q B q F;refine eX ρ G _ σ H _ B q λ J hN G1 H1 g1 ok aD=>?_;unfold rd at aD;obtain⟨hsz,P,lb,held,turn,done⟩:=aD;intro acc iL;have iD:=g1.bv.none iL;have rf:=Go.ko (o:=.lst []) g1.bv iL
 refine⟨λ i m ys σ' ah=>m=J.items.length - i/\i<=J.items.length/\∃ ds aj,P i ds aj/\br K ah ds ys/\ds.length<=i/\cX K (hO nt cap ρ) aj σ' ah/\Go K G1 H1 aj ah/\aj acc=none/\ah acc=some (.lst ys),
  ⟨_,rfl,fB _,[],G1,lb,rfl,b6 _,((B.go g1).comp nt cap).go rf,rf,iD,fN⟩,?_⟩
 rintro i m ys σ2 aO ⟨rfl,au,ds,aL,c8,aR,dS,gT,g2,de,ag⟩;have b2:=ok aL aO g2 (held i ds aL au c8);by_cases dr:i<J.items.length
 ·have hd:J.items[i]?=some J.items[i]:=by simp[dr]
  obtain⟨go,ra⟩:=b2.1 i _ hd;refine .inr ⟨go,λ x ah y=>?_⟩;obtain⟨g3,aI⟩:=ra x ah y;refine jH _ x _ aL _ σ2 ah _ (gT.go g3) aI (aq _ _ _ _ (turn i _ ds aL hd c8)) λ ρ4 eO σ4 gl ig lc xz=>?_;obtain⟨ey,um,uo⟩:=xz;refine re ρ4 eO _ σ4 gl _ lc ey λ z en u hn mA ia rg=>?_;obtain⟨gD,fh,jI⟩:=rg;have fo:=(g3.trans ig).trans mA;have di:=fo.same acc _ ag de;have rh:=fo.new acc _ ag de;have lg:=fh.none rh;have ri:cX K (hO nt cap ρ) gD σ4 hn:=(lc.go mA).weak ⟨um.symm,λ j d e=>by rw[uo j (uj e)];exact e⟩ fh;refine⟨di,by rw[aR.len];omega,J.items.length - (i+1),by omega,rfl,dr,ds++[z],gD,jI,((aR.mono fo.tup).append (.one ia)).mono (kp di),by simp;omega,ri.mz di lg,(((g2.trans fo).sub fh)).mz iL di lg,lg,fN⟩
 ·have e:i=J.items.length:=by omega
  subst e;refine .inl ⟨b2.2 _ (b6 _),F (.ref acc) (up aL acc (.lst ds)) _ _ ((g1.trans g2).held ?_ ag aR) rfl (done ds aL c8 acc de)⟩
  cases z:H acc with
  |none=>rfl
  |some o=>obtain⟨df,bz⟩:=g1.hL acc o z;rw[iL]at bz;cases bz
theorem J2{K:a4}{ci:TI}{la:eU}{nH:TT}{ce:TE}{cy:ib}{g:fk}{bb:e2}{a0:bV}{nt:Nat}{cap:List Nat}(aq:pf nt g)
 (eX:∀ ρ G ic σ H R,cX K ρ G σ H->cy ρ G ic->(∀ J hN aj ah,Go K G H aj ah->uh K J hN aj ah->ic J aj->R hN ah)->ci σ H R) (jH:ui K la g) (rt:wP K nH bb) (re:pe K ce a0):pe K (qM ci la nH ce nt cap) (BF cy g bb a0 nt cap):=by
 intro ρ G aE σ H Q B q F;refine eX ρ G _ σ H _ B q λ J hN G1 H1 g1 ok aD=>?_;unfold uk at aD;obtain⟨hsz,P,lb,held,turn,done⟩:=aD;intro acc iL;have iD:=g1.bv.none iL;have rf:=Go.ko (o:=.lst []) g1.bv iL
 refine⟨λ i m ys σ' ah=>m=J.items.length - i/\i<=J.items.length/\∃ ds aj,P i ds aj/\br K ah ds ys/\ds.length<=i/\cX K (hO nt cap ρ) aj σ' ah/\Go K G1 H1 aj ah/\aj acc=none/\ah acc=some (.lst ys),
  ⟨_,rfl,fB _,[],G1,lb,rfl,b6 _,((B.go g1).comp nt cap).go rf,rf,iD,fN⟩,?_⟩
 rintro i m ys σ2 aO ⟨rfl,au,ds,aL,c8,aR,dS,gT,g2,de,ag⟩;have b2:=ok aL aO g2 (held i ds aL au c8);by_cases dr:i<J.items.length
 ·have hd:J.items[i]?=some J.items[i]:=by simp[dr]
  obtain⟨go,ra⟩:=b2.1 i _ hd;refine .inr ⟨go,λ x ah y=>?_⟩;obtain⟨g3,aI⟩:=ra x ah y;refine jH _ x _ aL _ σ2 ah _ (gT.go g3) aI (aq _ _ _ _ (turn i _ ds aL hd c8)) λ ρ4 eO σ4 gl ig lc xz=>?_;obtain⟨ey,um,uo⟩:=xz;refine rt ρ4 eO _ σ4 gl _ lc ey λ wk uq g6 mB ju=>?_
  cases wk with
  | true=>
   refine re ρ4 uq _ σ4 g6 _ (lc.go mB) (ju.1 rfl) λ z en u hn mA ia rg=>?_;obtain⟨gD,fh,jI⟩:=rg;have fo:=((g3.trans ig).trans mB).trans mA;have di:=fo.same acc _ ag de;have rh:=fo.new acc _ ag de;have lg:=fh.none rh;have ri:cX K (hO nt cap ρ) gD σ4 hn:=((lc.go mB).go mA).weak ⟨um.symm,λ j d e=>by rw[uo j (uj e)];exact e⟩ fh;exact⟨di,by rw[aR.len];omega,J.items.length - (i+1),by omega,rfl,dr,ds++[z],gD,jI,((aR.mono fo.tup).append (.one ia)).mono (kp di),by simp;omega,ri.mz di lg,(((g2.trans fo).sub fh)).mz iL di lg,lg,fN⟩
  | false=>
   obtain⟨gD,fh,jI⟩:=ju.2 rfl;have fo:=(g3.trans ig).trans mB;have di:=fo.same acc _ ag de;have rh:=fo.new acc _ ag de;have lg:=fh.none rh;have ri:cX K (hO nt cap ρ) gD σ4 g6:=(lc.go mB).weak ⟨um.symm,λ j d e=>by rw[uo j (uj e)];exact e⟩ fh;exact⟨J.items.length - (i+1),by omega,rfl,dr,ds,gD,jI,aR.mono fo.tup,by omega,ri,(g2.trans fo).sub fh,lg,di⟩
 ·have e:i=J.items.length:=by omega
  subst e;refine .inl ⟨b2.2 _ (b6 _),F (.ref acc) (up aL acc (.lst ds)) _ _ ((g1.trans g2).held ?_ ag aR) rfl (done ds aL c8 acc de)⟩
  cases z:H acc with
  |none=>rfl
  |some o=>obtain⟨df,bz⟩:=g1.hL acc o z;rw[iL]at bz;cases bz
theorem J3{scope:eE}{N':List Str}{nt:Nat}{cap:List Nat}{cy:ib}{g:fk}(aA:X.calm=true)(ok:fv X scope N' nt cap)(aq:pf nt g)(au:jG X aX iter cy)(a8:∀ C ex s H,h_ (c_ X scope N' C ex s H) aX g)(he:∀ C ex s H,bD (c_ X scope N' C ex s H) elt a0)
 (ar:∀ x,iQ iter X.env x=pure x:=by intro _;rfl):bD X (.ListComp elt [⟨aX,iter,[],0⟩] scope pos) (wQ cy g a0 nt cap):=by
 obtain⟨ci,f6,eX⟩:=au.run;obtain⟨la,nM,jH⟩:=h_.lf (ι:=Addr×List Addr×aw×am) (cx:=λ z=>c_ X scope N' z.1 z.2.1 z.2.2.1 z.2.2.2) (K:=X.K) (λ _=>rfl) λ z=>a8 _ _ _ _;obtain⟨ce,nN,re⟩:=bD.lf (ι:=Addr×List Addr×aw×am) (cx:=λ z=>c_ X scope N' z.1 z.2.1 z.2.2.1 z.2.2.2) (K:=X.K) (λ _=>rfl) λ z=>he _ _ _ _;exact⟨_,IP aA ok f6 (λ C ex s H=>nM (C,ex,s,H)) (λ C ex s H=>nN (C,ex,s,H)) ar,BG aq eX jH re⟩
theorem J4{scope:eE}{N':List Str}{nt:Nat}{cap:List Nat}{cy:ib}{g:fk}{bb:e2}(aA:X.calm=true)(ok:fv X scope N' nt cap)(aq:pf nt g)(au:jG X aX iter cy)(a8:∀ C ex s H,h_ (c_ X scope N' C ex s H) aX g)(cA:∀ C ex s H,AT (c_ X scope N' C ex s H) ct bb)(he:∀ C ex s H,bD (c_ X scope N' C ex s H) elt a0)
 (ar:∀ x,iQ iter X.env x=pure x:=by intro _;rfl):bD X (.ListComp elt [⟨aX,iter,[ct],0⟩] scope pos) (BF cy g bb a0 nt cap):=by
 obtain⟨ci,f6,eX⟩:=au.run;obtain⟨la,nM,jH⟩:=h_.lf (ι:=Addr×List Addr×aw×am) (cx:=λ z=>c_ X scope N' z.1 z.2.1 z.2.2.1 z.2.2.2) (K:=X.K) (λ _=>rfl) λ z=>a8 _ _ _ _;obtain⟨nH,J5,rt⟩:=AT.lf (ι:=Addr×List Addr×aw×am) (cx:=λ z=>c_ X scope N' z.1 z.2.1 z.2.2.1 z.2.2.2) (K:=X.K) (λ _=>rfl) λ z=>cA _ _ _ _;obtain⟨ce,nN,re⟩:=bD.lf (ι:=Addr×List Addr×aw×am) (cx:=λ z=>c_ X scope N' z.1 z.2.1 z.2.2.1 z.2.2.2) (K:=X.K) (λ _=>rfl) λ z=>he _ _ _ _;exact⟨_,IQ aA ok f6 (λ C ex s H=>nM (C,ex,s,H)) (λ C ex s H=>J5 (C,ex,s,H)) (λ C ex s H=>nN (C,ex,s,H)) ar,J2 aq eX jH rt re⟩
theorem wS{scope:eE}{N':List Str}{nt:Nat}{cap:List Nat}{cy:ib}{g:fk}{y:Str}{py mh:Pos}{k:Nat}(aA:X.calm=true)(dg:X.N.Nodup)(a9:X.N[k]?=some y)(aB:Loc X.env.scope y)(ok:fv X scope N' nt cap)(aq:pf nt g)(au:jG X aX iter cy)(a8:∀ C ex s H,h_ (c_ X scope N' C ex s H) aX g)(he:∀ C ex s H,bD (c_ X scope N' C ex s H) elt a0)
 (ar:∀ x,iQ iter X.env x=pure x:=by intro _;rfl) (qX:jl (.ListComp elt [⟨aX,iter,[],0⟩] scope pos) (some (.Name y py)) mh.line X.env=pure true:=by rfl) (hf:X.fn y=true\/X.env.scope.names.lookup y=some .local:=by first|exact .inl rfl|exact .inr rfl|assumption) :
 i_ X (.Assign [.Name y py] (.ListComp elt [⟨aX,iter,[],0⟩] scope pos) mh) (wL (wQ cy g a0 nt cap) (t8 k)):=by
 obtain⟨ci,f6,eX⟩:=au.run;obtain⟨la,nM,jH⟩:=h_.lf (ι:=Addr×List Addr×aw×am) (cx:=λ z=>c_ X scope N' z.1 z.2.1 z.2.2.1 z.2.2.2) (K:=X.K) (λ _=>rfl) λ z=>a8 _ _ _ _;obtain⟨ce,nN,re⟩:=bD.lf (ι:=Addr×List Addr×aw×am) (cx:=λ z=>c_ X scope N' z.1 z.2.1 z.2.2.1 z.2.2.2) (K:=X.K) (λ _=>rfl) λ z=>he _ _ _ _;exact⟨_,IY aA dg a9 aB ok f6 (λ C ex s H=>nM (C,ex,s,H)) (λ C ex s H=>nN (C,ex,s,H)) ar qX hf,λ dC eL ρ G σ H B q F=>BG aq eX jH re ρ G _ σ H _ B q λ d G1 v H1 g1 a aD=>F.nx _ G1 _ H1 g1 ((B.go g1).set a k) aD⟩
structure nO(X:aQ)(T id:String)(ty:D->aC->Prop)(r:D->List D->aC->bS->Prop):Prop where
 run:∃ rc:V->List V->am->b7->Prop,k5 X id rc/\(∀ x v G H,dz X.K G H->ck X.K H x v->ty x G->qF X.K T v H) ∧
  ∀ x xs dX vs G H aE Q,dz X.K G H->ck X.K H x dX->br X.K H xs vs->r x xs G aE->Fin X.K G H aE Q->rc dX vs H Q
noncomputable abbrev BH(ty:D->aC->Prop)(r:D->List D->aC->bS->Prop)(to:bV)(t:fW):bV:=λ ρ G Q=>to ρ G λ x G1=>ty x G1/\t ρ G1 λ xs aL=>r x xs aL Q
noncomputable abbrev J6(ty:D->aC->Prop)(r:D->List D->aC->bS->Prop)(to:bV):bV:=λ ρ G Q=>to ρ G λ x G1=>ty x G1/\r x [] G1 Q
theorem nP{name:Str}{T id:String}{ty:D->aC->Prop}{r:D->List D->aC->bS->Prop}(fj:lF T)(slot:jm T name id)(hI:lL (.builtin id)=pure (.type "method_descriptor"))(hm:nO X T id ty r)(aJ:bD X o to)(az:hM X [e] t)
 (gA:jk o name X.env (eval o X.env)=eval o X.env:=by rfl) (gB:(apos.endLine==cJ.line)=true:=by rfl) (ar:eY e=true:=by rfl):bD X (.Call (.Attribute o name apos) [e] [] cJ) (BH ty r to t):=by
 obtain⟨co,eA,bH⟩:=aJ.run;obtain⟨ca,cm,cn⟩:=az.run;obtain⟨BI,rj,a9,rk⟩:=hm.run;refine⟨_,Io fj slot hI rj eA cm gA gB ar,λ ρ G aE σ H Q B q F=>bH ρ G _ σ H _ B q λ x G1 v H1 g1 aI ⟨ae,aD⟩=>⟨a9 x v G1 H1 g1.bv aI ae,?_⟩⟩;exact cn ρ G1 _ σ H1 _ (B.go g1) aD λ xs aL vs aO g2 al _ bw=>rk x xs v vs aL aO aE Q g2.bv (aI.mono g2.tup) al bw (F.after (g1.trans g2))
theorem J7{name:Str}{T id:String}{ty:D->aC->Prop}{r:D->List D->aC->bS->Prop}(fj:lF T)(slot:jm T name id)(hI:lL (.builtin id)=pure (.type "method_descriptor"))(hm:nO X T id ty r)(aJ:bD X o to)
 (gA:jk o name X.env (eval o X.env)=eval o X.env:=by rfl) (gB:(apos.endLine==cJ.line)=true:=by rfl):bD X (.Call (.Attribute o name apos) [] [] cJ) (J6 ty r to):=by
 obtain⟨co,eA,bH⟩:=aJ.run;obtain⟨BI,rj,a9,rk⟩:=hm.run;exact⟨_,Ip fj slot hI rj eA gA gB,λ ρ G aE σ H Q B q F=>bH ρ G _ σ H _ B q λ x G1 v H1 g1 aI ⟨ae,aD⟩=>⟨a9 x v G1 H1 g1.bv aI ae,rk x [] v [] G1 H1 aE Q g1.bv aI rfl aD (F.after g1)⟩⟩
noncomputable def rl:D->aC->Prop:=λ x G=>match x with
 |.ref l=>g_ G l λ _=>True
 |_=>False
theorem ur{K:a4}{x:D}{v:V}{G:aC}{H:am}(w:dz K G H)(aI:ck K H x v)(h:rl x G):qF K "list" v H:=by
 cases x with
 |ref l=>cases aI;obtain⟨ds,vs,_,s,_⟩:=iK w h;exact .inl ⟨rfl,vs,s⟩
 |_=>exact(show False from h).elim
noncomputable def BJ:D->List D->aC->bS->Prop:=λ x xs G Q=>match x,xs with
 |.ref l,[y]=>iJ G l λ ds=>ds.length<sizeLine/\Q .bo (up G l (.lst (ds++[y])))
 |_,_=>False
theorem rm:nO X "list" "list.append" rl BJ:=by
 refine⟨_,⟨At⟩,λ x v G H w aI h=>ur w aI h,λ x xs dX vs G H aE Q v aI al r F=>?_⟩;unfold BJ at r;split at r
 ·next l y=>
  cases aI;obtain⟨u,us,rfl,jd,z⟩:=al;cases z;obtain⟨ds,ws,k,e1,ae,aG⟩:=k9 v r;exact⟨l,ws,u,rfl,rfl,ae,by rw[aG.len];exact k.1,F .bo _ _ _ (Go.o5 v e1 (aG.append (.one jd))) rfl k.2⟩
 ·exact r.elim
noncomputable def BK:D->List D->aC->bS->Prop:=λ x xs G Q=>match x,xs with
 |.ref l,[.tup es]=>iJ G l λ ds=>ds.length+es.length<=sizeLine/\Q .bo (up G l (.lst (ds++es)))
 |.ref l,[.ref m]=>iJ G l λ ds=>iJ G m λ es=>ds.length+es.length<=sizeLine/\Q .bo (up G l (.lst (ds++es)))
 |_,_=>False
theorem k5.or{id:String}{r bK:V->List V->am->b7->Prop}(h:k5 X id r)(h':k5 X id bK):k5 X id (λ x xs H Q=>r x xs H Q\/bK x xs H Q):=⟨h.run.or h'.run⟩
theorem BL:nO X "list" "list.extend" rl BK:=by
 refine⟨_,k5.or ⟨HK⟩ ⟨GO⟩,λ x v G H w aI h=>ur w aI h,λ x xs dX vs G H aE Q v aI al r F=>?_⟩;unfold BK at r;split at r
 ·next l cB=>
  cases aI;obtain⟨u,us,rfl,⟨m,zs,rfl,s,nA⟩,z⟩:=al;cases z;obtain⟨ds,ws,k,e1,ae,aG⟩:=k9 v r;exact .inl ⟨l,m,ws,zs,rfl,rfl,ae,s,by rw[aG.len,nA.len];exact k.1,F .bo _ _ _ (Go.o5 v e1 (aG.append nA)) rfl k.2⟩
 ·next l m=>
  cases aI;obtain⟨u,us,rfl,jd,z⟩:=al;cases z;cases jd;obtain⟨ds,ws,k,e1,ae,aG⟩:=k9 v r;obtain⟨cB,zs,b2,aP,ag,aR⟩:=k9 v k;exact .inr ⟨l,m,ws,zs,rfl,rfl,ae,ag,by rw[aG.len,aR.len];exact b2.1,F .bo _ _ _ (Go.o5 v e1 (aG.append aR)) rfl b2.2⟩
 ·exact r.elim
noncomputable def BM:D->List D->aC->bS->Prop:=λ x xs G Q=>match x,xs with
 |.ref l,[]=>iJ G l λ ds=>∃ es d,ds=es++[d]/\Q d (up G l (.lst es))
 |_,_=>False
theorem J8:nO X "list" "list.pop" rl BM:=by
 refine⟨_,⟨GQ⟩,λ x v G H w aI h=>ur w aI h,λ x xs dX vs G H aE Q v aI al r F=>?_⟩;unfold BM at r;split at r
 ·next l=>
  cases aI;cases al;obtain⟨ds,ws,⟨cB,d,rfl,k⟩,e1,ae,aG⟩:=k9 v r;have aB:=aG.len
  have hd:(cB++[d])[cB.length]?=some d:=by simp
  obtain⟨u,bg,jd⟩:=aG.get hd
  have e:ws.length - 1=cB.length:=by rw[aB];simp
  have aR:br X.K H cB ws.dropLast:=by
   have z:=aG.take cB.length;rw[List.take_left]at z;rw[List.dropLast_eq_take,e];exact z
  have g:=Go.o5 v e1 aR;exact⟨l,ws,u,rfl,rfl,ae,by rw[e];exact bg,F d _ _ _ g (jd.mono g.tup) k⟩
 ·exact r.elim
noncomputable abbrev ih:=List D->aC->bS->Prop
noncomputable def cc(K:a4)(iM:ih):ft:=λ vs H Q _=>∃ ds G aE,br K H ds vs/\dz K G H/\iM ds G aE/\Fin K G H aE Q
noncomputable abbrev J9(iM:ih)(t:fW):bV:=λ ρ G Q=>t ρ G λ ds G1=>iM ds G1 Q
theorem cI{k j:Nat}{x:Str}{aZ:List Str}{iM:ih}(Gt:Got X.prog X.w X.K X.mg X.base k x aZ (cc X.K iM))(aH:ef j X.A)(aq:k<=j)(a8:eb X x)(az:hM X (e::es) t)(gy:(x==("__debug__" : Str))=false:=by decide)
 (ar:(e::es).all eY=true:=by rfl):bD X (.Call (.Name x p) (e::es) [] pos) (J9 iM t):=by
 obtain⟨ca,cm,cn⟩:=az.run;exact⟨_,Ik Gt aH aq a8 cm gy ar,λ ρ G aE σ H Q B q F=>cn ρ G _ σ H _ B q λ ds G1 vs H1 g1 al _ aD=>⟨ds,G1,aE,by rw[hj];exact al,g1.bv,aD,F.after g1⟩⟩
noncomputable def c2(aE:bS):bS:=λ d G=>∃ aj,Sub aj G/\aE d aj
theorem c2.of{aE:bS}{d:D}{G:aC}(h:aE d G):c2 aE d G:=⟨G,.refl _,h⟩
noncomputable def rn(N:List Str)(ds:List D):dy:=ds.map some++sP (N.length - ds.length) none
theorem J_{K:a4}{N:List Str}{ds:List D}{vs:List V}{G:aC}{H:am}(r:br K H ds vs)(v:dz K G H):cX K (rn N ds) G (L2.start N vs) H:=by
 have aB:=r.len;refine⟨by simp[rn,L2.start,aB],λ i d h=>?_,v⟩;unfold rn at h;unfold L2.start;by_cases c:i<ds.length
 ·rw[mV (by simpa using c),fs]at h;rw[mV (by simpa[aB] using c),fs]
  cases e:ds[i]? with
  |none=>rw[e]at h;cases h
  | some z=>
   rw[e]at h;simp at h;subst h;obtain⟨u,ae,ag⟩:=r.get e;exact⟨u,by rw[ae];rfl,ag⟩
 ·rw[oA (by simpa using c),sQ]at h;split at h<;>cases h
theorem gn{P:bX}{w:bJ}{K:a4}{mg:Str->Option Value}{base:bF}{x qual:Str}{st:b_}{f:Addr}{fd:fA}{N aZ:List Str}{k:Nat}{iM:ih}(F:eg K x qual st f fd)(S:fi N aZ (dw st))(len:∀ ds G aE,iM ds G aE->ds.length=aZ.length)
 (nk:∀(b9:Value)(A:cg)(outer:List Env)(s:aw)(H:am)(E:hC),ef k (A.deeper (PyProof.Rows.envOfC qual (dw st) s.heap.objs.size f b9))->∀(ds:List D)(G:aC)(aE:bS),iM ds G aE →
  ∃ t,k7 (l9 dx P w K mg base N qual (dw st) f b9 A outer s H E).oR (iC st) t/\t {nx:=λ _ aj=>c2 aE .bo aj,rt:=c2 aE} (rn N ds) G):dh P w K mg base dx (k+1) f fd aZ (cc K iM):=by
 refine F.IR S (λ vs H Q E h=>?_) (λ b9 A outer s H vs Q E aH h=>?_)
 ·obtain⟨ds,G,aE,r,_,h,_⟩:=h;rw[r.len];exact len ds G aE h
 ·obtain⟨ds,G,aE,r,v,h,BN⟩:=h;obtain⟨t,⟨bb,j,imp⟩,q⟩:=nk b9 A outer s H E aH ds G aE h;refine⟨bb,j,imp _ _ (rn N ds) G (L2.start N vs) H (J_ r v) q ⟨λ ρ' aj σ' ah g b ⟨aL,s2,bw⟩=>BN .bo aL .bo ah (g.sub s2) rfl bw,λ d aj v ah g a ⟨aL,s2,bw⟩=>BN d aL v ah (g.sub s2) a bw,λ _ _ _ _ _ _ z=>z.elim,λ _ _ _ _ _ _ z=>z.elim⟩⟩
end
mutual
noncomputable def bL:D->D->Bool
 |.bo,.bo=>true
 |.aW a,.aW b=>a==b
 |.aW a,.int b=>(if a then 1 else 0)==b
 |.int a,.aW b=>a==(if b then 1 else 0)
 |.int a,.int b=>a==b
 |.str a,.str b=>a==b
 |.tup xs,.tup ys=>dZ xs ys
 |_,_=>false
noncomputable def dZ:List D->List D->Bool
 |[],[]=>true
 |x::xs,y::ys=>bL x y&&dZ xs ys
 |_,_=>false
end
mutual
noncomputable def D.data:D->Bool
 |.ref _=>false
 |.ty _=>false
 |.c1 _=>false
 |.tup ds=>cw ds
 |_=>true
noncomputable def cw:List D->Bool
 |[]=>true
 |d::ds=>d.data&&cw ds
end
mutual
noncomputable def D.bU:D->Nat
 |.tup ds=>1+da ds
 |_=>0
noncomputable def da:List D->Nat
 |[]=>0
 |d::ds=>max d.bU (da ds)
end
noncomputable def d0(ds es:List D)(j:Nat):Bool:=match ds[j]?,es[j]? with
 |some d,some e=>bL d e
 |_,_=>false
theorem ro:∀(ds es:List D),((gf (min ds.length es.length)).all (d0 ds es)&&ds.length==es.length)=dZ ds es
 |[],[]=>by simp[dZ]
 |[],e::es=>by simp[dZ]
 |d::ds,[]=>by simp[dZ]
 | d::ds,e::es=>by
  rw[dZ,<- ro ds es,eG,eG,Nat.succ_min_succ,List.range_succ_eq_map,kQ,List.all_map];have ae:d0 (d::ds) (e::es) 0=bL d e:=rfl
  have ag:(d0 (d::ds) (e::es) ∘ Nat.succ)=d0 ds es:=by funext j;simp[d0]
  rw[ae,ag,Bool.and_assoc];congr 2;rw[Bool.eq_iff_iff];simp
section
variable{X:aQ}{pins:List (Addr×Obj)}{σ:L2.St}{H:am}{s:aw}
mutual
theorem Ka(I:Inv X pins σ H s):∀{d e:D}{v:V},d.data=true->e.data=true->ck X.K H d v->ck X.K H e v->d=e
 | .bo,e,v,_,h,a,b=>by
  cases a;cases e<;>first|rfl|(cases b;done)|(obtain⟨_,_,z,_⟩:=b;cases z)
 | .aW _,e,v,_,h,a,b=>by
  cases a;cases e<;>first|(cases b;rfl)|(cases b;done)|(obtain⟨_,_,z,_⟩:=b;cases z)
 | .int _,e,v,_,h,a,b=>by
  cases a;cases e<;>first|(cases b;rfl)|(cases b;done)|(obtain⟨_,_,z,_⟩:=b;cases z)
 | .str _,e,v,_,h,a,b=>by
  cases a;cases e<;>first|(cases b;rfl)|(cases b;done)|(obtain⟨_,_,z,_⟩:=b;cases z)
 |.ref _,_,_,h,_,_,_=>by simp[D.data]at h
 |.ty _,_,_,h,_,_,_=>by simp[D.data]at h
 |.c1 _,_,_,h,_,_,_=>by simp[D.data]at h
 | .tup ds,e,v,h0,h,a,b=>by
  obtain⟨l,vs,rfl,s1,aG⟩:=a
  cases e with
  | tup es=>
   obtain⟨m,us,z,s2,aR⟩:=b;cases z;have e:=I.tp s1 s2;subst e;rw[wT I (by simpa[D.data] using h0) (by simpa[D.data] using h) aG aR]
  |ref m=>simp[D.data]at h
  |c1 m=>simp[D.data]at h
  |_=>cases b
theorem wT(I:Inv X pins σ H s):∀{ds es:List D}{vs:List V},cw ds=true->cw es=true->br X.K H ds vs->br X.K H es vs->ds=es
 |[],[],_,_,_,_,_=>rfl
 |[],e::es,_,_,_,a,b=>by cases a;obtain⟨_,_,z,_⟩:=b;cases z
 |d::ds,[],_,_,_,a,b=>by cases b;obtain⟨_,_,z,_⟩:=a;cases z
 | d::ds,e::es,vs,ae,ag,⟨v,r,e1,a1,dY⟩,⟨u,q,aP,a2,dS⟩=>by
  subst e1;cases aP;simp only[cw,ZB]at ae ag;rw[Ka I ae.1 ag.1 a1 a2,wT I ae.2 ag.2 dY dS]
end
mutual
theorem ky:∀{d:D},d.data=true->bL d d=true
 |.bo,_=>rfl
 |.aW _,_=>by simp[bL]
 |.int _,_=>by simp[bL]
 |.str _,_=>by simp[bL]
 |.ref _,h=>by simp[D.data]at h
 |.ty _,h=>by simp[D.data]at h
 |.c1 _,h=>by simp[D.data]at h
 |.tup ds,h=>by rw[bL];exact wU (by simpa[D.data] using h)
theorem wU:∀{ds:List D},cw ds=true->dZ ds ds=true
 |[],_=>rfl
 | d::ds,h=>by
  simp only[cw,ZB]at h;rw[dZ,ky h.1,wU h.2];rfl
end
mutual
theorem rp(I:Inv X pins σ H s):∀(d e:D)(A:cg)(x y:V)(u v:Value),d.data=true->e.data=true->ck X.K H d x->ck X.K H e y->RelV x u->RelV y v->A.units+d.bU<bO->SeqAt.EqAt A s u v (bL d e)
 | .tup ds,e,A,x,y,u,v,hd,he,aI,aN,cD,aM,bg=>by
  obtain⟨a,vs,rfl,s1,aG⟩:=aI;cases cD;obtain⟨ao,bC,t1,_⟩:=I.tuple s1
  have d1:A.units<bO:=by omega
  cases e with
  |bo=>cases aN;cases aM;exact SeqAt.EqAt.tuple_none t1 d1
  |aW b=>cases aN;cases aM;exact SeqAt.EqAt.tuple_bool b t1 d1
  |int b=>cases aN;obtain⟨t,rfl⟩:=aM;exact SeqAt.EqAt.tuple_int b t t1 d1
  |str b=>cases aN;obtain⟨t,rfl⟩:=aM;exact SeqAt.EqAt.tuple_str b t t1 d1
  |ref b=>simp[D.data]at he
  |ty b=>simp[D.data]at he
  |c1 b=>simp[D.data]at he
  | tup es=>
   obtain⟨b,us,rfl,s2,aR⟩:=aN;cases aM;by_cases ut:a=b
   ·subst ut;have e1:=I.tp s1 s2;subst e1;have aP:=wT I (by simpa[D.data] using hd) (by simpa[D.data] using he) aG aR;subst aP;rw[ky hd];exact SeqAt.EqAt.same _
   ·obtain⟨bx,b3,b8,_⟩:=I.tuple s2;have dY:=bC.length;have dS:=b3.length;have f7:=aG.len;have fR:=aR.len;simp only[D.bU]at bg
    have z:=SeqAt.RcAt.tuples (A:=A) (e:=d0 ds es) t1 b8 d1 (λ j ae ag=>by
     have q:=lh I ds es A.in1 vs us ao bx (by simpa[D.data] using hd) (by simpa[D.data] using he) aG aR bC b3 (by show A.units+1+da ds<bO;omega) j (by simpa using ae) (by simpa using ag)
     simpa using q)
    have jJ:((gf (min ao.toArray.size bx.toArray.size)).all (d0 ds es)&&ao.toArray.size==bx.toArray.size)=bL (.tup ds) (.tup es):=by
     rw[bN,bN,<- dY,<- dS,f7,fR,ro];rfl
    rw[jJ]at z;exact SeqAt.EqAt.of_refs ut z
 |.ref _,_,_,_,_,_,_,hd,_,_,_,_,_,_=>by simp[D.data]at hd
 |.ty _,_,_,_,_,_,_,hd,_,_,_,_,_,_=>by simp[D.data]at hd
 |.c1 _,_,_,_,_,_,_,hd,_,_,_,_,_,_=>by simp[D.data]at hd
 | .bo,e,A,x,y,u,v,hd,he,aI,aN,cD,aM,bg=>by
  cases aI;cases cD
  have d1:A.units<bO:=by omega
  cases e with
  |bo=>cases aN;cases aM;exact SeqAt.EqAt.same _
  |aW b=>cases aN;cases aM;exact SeqAt.EqAt.none_bool b
  |int b=>cases aN;obtain⟨t,rfl⟩:=aM;exact SeqAt.EqAt.none_int b t
  |str b=>cases aN;obtain⟨t,rfl⟩:=aM;exact SeqAt.EqAt.none_str b t
  |ref b=>simp[D.data]at he
  |ty b=>simp[D.data]at he
  |c1 b=>simp[D.data]at he
  |tup es=>obtain⟨b,us,rfl,s2,aR⟩:=aN;cases aM;obtain⟨bx,b3,b8,_⟩:=I.tuple s2;exact SeqAt.EqAt.none_tuple b8 d1
 | .aW a,e,A,x,y,u,v,hd,he,aI,aN,cD,aM,bg=>by
  cases aI;cases cD
  have d1:A.units<bO:=by omega
  cases e with
  |bo=>cases aN;cases aM;exact SeqAt.EqAt.bool_none a
  |aW b=>cases aN;cases aM;exact SeqAt.EqAt.bool_bool a b
  |int b=>cases aN;obtain⟨t,rfl⟩:=aM;exact SeqAt.EqAt.bool_int a b t
  |str b=>cases aN;obtain⟨t,rfl⟩:=aM;exact SeqAt.EqAt.bool_str a b t
  |ref b=>simp[D.data]at he
  |ty b=>simp[D.data]at he
  |c1 b=>simp[D.data]at he
  |tup es=>obtain⟨b,us,rfl,s2,aR⟩:=aN;cases aM;obtain⟨bx,b3,b8,_⟩:=I.tuple s2;exact SeqAt.EqAt.bool_tuple a b8 d1
 | .int a,e,A,x,y,u,v,hd,he,aI,aN,cD,aM,bg=>by
  cases aI;obtain⟨t',rfl⟩:=cD
  have d1:A.units<bO:=by omega
  cases e with
  |bo=>cases aN;cases aM;exact SeqAt.EqAt.int_none a t'
  |aW b=>cases aN;cases aM;exact SeqAt.EqAt.int_bool a t' b
  |int b=>cases aN;obtain⟨t,rfl⟩:=aM;exact SeqAt.EqAt.int_int a t' b t
  |str b=>cases aN;obtain⟨t,rfl⟩:=aM;exact SeqAt.EqAt.int_str a t' b t
  |ref b=>simp[D.data]at he
  |ty b=>simp[D.data]at he
  |c1 b=>simp[D.data]at he
  |tup es=>obtain⟨b,us,rfl,s2,aR⟩:=aN;cases aM;obtain⟨bx,b3,b8,_⟩:=I.tuple s2;exact SeqAt.EqAt.int_tuple a t' b8 d1
 | .str a,e,A,x,y,u,v,hd,he,aI,aN,cD,aM,bg=>by
  cases aI;obtain⟨t',rfl⟩:=cD
  have d1:A.units<bO:=by omega
  cases e with
  |bo=>cases aN;cases aM;exact SeqAt.EqAt.str_none a t'
  |aW b=>cases aN;cases aM;exact SeqAt.EqAt.str_bool a t' b
  |int b=>cases aN;obtain⟨t,rfl⟩:=aM;exact SeqAt.EqAt.str_int a t' b t
  |str b=>cases aN;obtain⟨t,rfl⟩:=aM;exact SeqAt.EqAt.str_str a t' b t
  |ref b=>simp[D.data]at he
  |ty b=>simp[D.data]at he
  |c1 b=>simp[D.data]at he
  |tup es=>obtain⟨b,us,rfl,s2,aR⟩:=aN;cases aM;obtain⟨bx,b3,b8,_⟩:=I.tuple s2;exact SeqAt.EqAt.str_tuple a t' b8 d1
theorem lh(I:Inv X pins σ H s):∀(ds es:List D)(A:cg)(vs us:List V)(ao bx:List Value),cw ds=true->cw es=true->br X.K H ds vs->br X.K H es us->Vals vs ao->Vals us bx->A.units+da ds<bO →
 ∀ j (ae:j<ao.length) (ag:j<bx.length),SeqAt.EqAt A s ao[j] bx[j] (d0 ds es j)
 | [],es,A,vs,us,ao,bx,_,_,e,bz,bC,b3,_,j,ae,ag=>by
  rw[show vs=[] from e]at bC;cases bC;exact absurd ae (by simp)
 | d::ds,[],A,vs,us,ao,bx,_,_,e,bz,bC,b3,_,j,ae,ag=>by
  rw[show us=[] from bz]at b3;cases b3;exact absurd ag (by simp)
 | d::ds,cQ::es,A,vs,us,ao,bx,hd,he,⟨v,r,e,q,t⟩,⟨h4,bK,bz,fO,t'⟩,bC,b3,bg,j,ae,ag=>by
  subst e bz
  cases bC with
  | cons aG rt=>
   cases b3 with
   | cons aR jK=>
    simp only[da]at bg;simp only[cw,ZB]at hd he
    cases j with
    |zero=>exact rp I d cQ A _ _ _ _ hd.1 he.1 q fO aG aR (by omega)
    | succ j=>
     have z:=lh I ds es A _ _ _ _ hd.2 he.2 t t' rt jK (by omega) j (by simpa using ae) (by simpa using ag);simpa[d0] using z
end
theorem Kb(I:Inv X pins σ H s)(d e:D)(A:cg)(x y:V)(u v:Value)(hd:d.data=true)(he:e.data=true)(aI:ck X.K H d x)(aN:ck X.K H e y)(cD:RelV x u)(aM:RelV y v)(bg:A.units+d.bU<bO):SeqAt.RcAt A s u v (bL d e):=by
 have d1:A.units<bO:=by omega
 cases d with
 | tup ds=>
  obtain⟨a,vs,rfl,s1,aG⟩:=aI;cases cD;obtain⟨ao,bC,t1,_⟩:=I.tuple s1
  cases e with
  |bo=>cases aN;cases aM;exact SeqAt.RcAt.tuple_none t1 d1
  |aW b=>cases aN;cases aM;exact SeqAt.RcAt.tuple_bool b t1 d1
  |int b=>cases aN;obtain⟨t,rfl⟩:=aM;exact SeqAt.RcAt.tuple_int b t t1 d1
  |str b=>cases aN;obtain⟨t,rfl⟩:=aM;exact SeqAt.RcAt.tuple_str b t t1 d1
  |ref b=>simp[D.data]at he
  |ty b=>simp[D.data]at he
  |c1 b=>simp[D.data]at he
  | tup es=>
   obtain⟨b,us,rfl,s2,aR⟩:=aN;cases aM;obtain⟨bx,b3,b8,_⟩:=I.tuple s2;have dY:=bC.length;have dS:=b3.length;have f7:=aG.len;have fR:=aR.len;simp only[D.bU]at bg
   have z:=SeqAt.RcAt.tuples (A:=A) (e:=d0 ds es) t1 b8 d1 (λ j ae ag=>by
    have q:=lh I ds es A.in1 vs us ao bx (by simpa[D.data] using hd) (by simpa[D.data] using he) aG aR bC b3 (by show A.units+1+da ds<bO;omega) j (by simpa using ae) (by simpa using ag)
    simpa using q)
   have jJ:((gf (min ao.toArray.size bx.toArray.size)).all (d0 ds es)&&ao.toArray.size==bx.toArray.size)=bL (.tup ds) (.tup es):=by
    rw[bN,bN,<- dY,<- dS,f7,fR,ro];rfl
   rw[jJ]at z;exact z
 |ref a=>simp[D.data]at hd
 |ty a=>simp[D.data]at hd
 |c1 a=>simp[D.data]at hd
 | bo=>
  cases aI;cases cD
  cases e with
  |bo=>cases aN;cases aM;exact SeqAt.RcAt.none_none
  |aW b=>cases aN;cases aM;exact SeqAt.RcAt.none_bool b
  |int b=>cases aN;obtain⟨t,rfl⟩:=aM;exact SeqAt.RcAt.none_int b t
  |str b=>cases aN;obtain⟨t,rfl⟩:=aM;exact SeqAt.RcAt.none_str b t
  |ref b=>simp[D.data]at he
  |ty b=>simp[D.data]at he
  |c1 b=>simp[D.data]at he
  |tup es=>obtain⟨b,us,rfl,s2,aR⟩:=aN;cases aM;obtain⟨bx,b3,b8,_⟩:=I.tuple s2;exact SeqAt.RcAt.none_tuple b8 d1
 | aW a=>
  cases aI;cases cD
  cases e with
  |bo=>cases aN;cases aM;exact SeqAt.RcAt.bool_none a
  |aW b=>cases aN;cases aM;exact SeqAt.RcAt.bool_bool a b
  |int b=>cases aN;obtain⟨t,rfl⟩:=aM;exact SeqAt.RcAt.bool_int a b t
  |str b=>cases aN;obtain⟨t,rfl⟩:=aM;exact SeqAt.RcAt.bool_str a b t
  |ref b=>simp[D.data]at he
  |ty b=>simp[D.data]at he
  |c1 b=>simp[D.data]at he
  |tup es=>obtain⟨b,us,rfl,s2,aR⟩:=aN;cases aM;obtain⟨bx,b3,b8,_⟩:=I.tuple s2;exact SeqAt.RcAt.bool_tuple a b8 d1
 | int a=>
  cases aI;obtain⟨t',rfl⟩:=cD
  cases e with
  |bo=>cases aN;cases aM;exact SeqAt.RcAt.int_none a t'
  |aW b=>cases aN;cases aM;exact SeqAt.RcAt.int_bool a t' b
  |int b=>cases aN;obtain⟨t,rfl⟩:=aM;exact SeqAt.RcAt.int_int a t' b t
  |str b=>cases aN;obtain⟨t,rfl⟩:=aM;exact SeqAt.RcAt.int_str a t' b t
  |ref b=>simp[D.data]at he
  |ty b=>simp[D.data]at he
  |c1 b=>simp[D.data]at he
  |tup es=>obtain⟨b,us,rfl,s2,aR⟩:=aN;cases aM;obtain⟨bx,b3,b8,_⟩:=I.tuple s2;exact SeqAt.RcAt.int_tuple a t' b8 d1
 | str a=>
  cases aI;obtain⟨t',rfl⟩:=cD
  cases e with
  |bo=>cases aN;cases aM;exact SeqAt.RcAt.str_none a t'
  |aW b=>cases aN;cases aM;exact SeqAt.RcAt.str_bool a t' b
  |int b=>cases aN;obtain⟨t,rfl⟩:=aM;exact SeqAt.RcAt.str_int a t' b t
  |str b=>cases aN;obtain⟨t,rfl⟩:=aM;exact SeqAt.RcAt.str_str a t' b t
  |ref b=>simp[D.data]at he
  |ty b=>simp[D.data]at he
  |c1 b=>simp[D.data]at he
  |tup es=>obtain⟨b,us,rfl,s2,aR⟩:=aN;cases aM;obtain⟨bx,b3,b8,_⟩:=I.tuple s2;exact SeqAt.RcAt.str_tuple a t' b8 d1
end
section
variable{X:aQ}{pins:List (Addr×Obj)}{σ:L2.St}{H:am}{s:aw}
theorem Kc(I:Inv X pins σ H s)(d e:D)(A:cg)(x y:V)(u v:Value)(hd:d.data=true)(he:e.data=true)(aI:ck X.K H d x)(aN:ck X.K H e y)(cD:RelV x u)(aM:RelV y v)(bg:A.units+d.bU<bO):SeqAt.RcNeAt A s u v (!bL d e):=by
 have d1:A.units<bO:=by omega
 cases d with
 | tup ds=>
  obtain⟨a,vs,rfl,s1,aG⟩:=aI;cases cD;obtain⟨ao,bC,t1,_⟩:=I.tuple s1
  cases e with
  |bo=>cases aN;cases aM;exact SeqAt.RcNeAt.tuple_none t1 d1
  |aW b=>cases aN;cases aM;exact SeqAt.RcNeAt.tuple_bool b t1 d1
  |int b=>cases aN;obtain⟨t,rfl⟩:=aM;exact SeqAt.RcNeAt.tuple_int b t t1 d1
  |str b=>cases aN;obtain⟨t,rfl⟩:=aM;exact SeqAt.RcNeAt.tuple_str b t t1 d1
  |ref b=>simp[D.data]at he
  |ty b=>simp[D.data]at he
  |c1 b=>simp[D.data]at he
  | tup es=>
   obtain⟨b,us,rfl,s2,aR⟩:=aN;cases aM;obtain⟨bx,b3,b8,_⟩:=I.tuple s2;have dY:=bC.length;have dS:=b3.length;have f7:=aG.len;have fR:=aR.len;simp only[D.bU]at bg
   have z:=SeqAt.RcNeAt.tuples (A:=A) (e:=d0 ds es) t1 b8 d1 (λ j ae ag=>by
    have q:=lh I ds es A.in1 vs us ao bx (by simpa[D.data] using hd) (by simpa[D.data] using he) aG aR bC b3 (by show A.units+1+da ds<bO;omega) j (by simpa using ae) (by simpa using ag)
    simpa using q)
   have jJ:((gf (min ao.toArray.size bx.toArray.size)).all (d0 ds es)&&ao.toArray.size==bx.toArray.size)=bL (.tup ds) (.tup es):=by
    rw[bN,bN,<- dY,<- dS,f7,fR,ro];rfl
   rw[jJ]at z;exact z
 |ref a=>simp[D.data]at hd
 |ty a=>simp[D.data]at hd
 |c1 a=>simp[D.data]at hd
 | bo=>
  cases aI;cases cD
  cases e with
  |bo=>cases aN;cases aM;exact SeqAt.RcNeAt.none_none
  |aW b=>cases aN;cases aM;exact SeqAt.RcNeAt.none_bool b
  |int b=>cases aN;obtain⟨t,rfl⟩:=aM;exact SeqAt.RcNeAt.none_int b t
  |str b=>cases aN;obtain⟨t,rfl⟩:=aM;exact SeqAt.RcNeAt.none_str b t
  |ref b=>simp[D.data]at he
  |ty b=>simp[D.data]at he
  |c1 b=>simp[D.data]at he
  |tup es=>obtain⟨b,us,rfl,s2,aR⟩:=aN;cases aM;obtain⟨bx,b3,b8,_⟩:=I.tuple s2;exact SeqAt.RcNeAt.none_tuple b8 d1
 | aW a=>
  cases aI;cases cD
  cases e with
  |bo=>cases aN;cases aM;exact SeqAt.RcNeAt.bool_none a
  |aW b=>cases aN;cases aM;exact SeqAt.RcNeAt.bool_bool a b
  |int b=>cases aN;obtain⟨t,rfl⟩:=aM;exact SeqAt.RcNeAt.bool_int a b t
  |str b=>cases aN;obtain⟨t,rfl⟩:=aM;exact SeqAt.RcNeAt.bool_str a b t
  |ref b=>simp[D.data]at he
  |ty b=>simp[D.data]at he
  |c1 b=>simp[D.data]at he
  |tup es=>obtain⟨b,us,rfl,s2,aR⟩:=aN;cases aM;obtain⟨bx,b3,b8,_⟩:=I.tuple s2;exact SeqAt.RcNeAt.bool_tuple a b8 d1
 | int a=>
  cases aI;obtain⟨t',rfl⟩:=cD
  cases e with
  |bo=>cases aN;cases aM;exact SeqAt.RcNeAt.int_none a t'
  |aW b=>cases aN;cases aM;exact SeqAt.RcNeAt.int_bool a t' b
  |int b=>cases aN;obtain⟨t,rfl⟩:=aM;exact SeqAt.RcNeAt.int_int a t' b t
  |str b=>cases aN;obtain⟨t,rfl⟩:=aM;exact SeqAt.RcNeAt.int_str a t' b t
  |ref b=>simp[D.data]at he
  |ty b=>simp[D.data]at he
  |c1 b=>simp[D.data]at he
  |tup es=>obtain⟨b,us,rfl,s2,aR⟩:=aN;cases aM;obtain⟨bx,b3,b8,_⟩:=I.tuple s2;exact SeqAt.RcNeAt.int_tuple a t' b8 d1
 | str a=>
  cases aI;obtain⟨t',rfl⟩:=cD
  cases e with
  |bo=>cases aN;cases aM;exact SeqAt.RcNeAt.str_none a t'
  |aW b=>cases aN;cases aM;exact SeqAt.RcNeAt.str_bool a t' b
  |int b=>cases aN;obtain⟨t,rfl⟩:=aM;exact SeqAt.RcNeAt.str_int a t' b t
  |str b=>cases aN;obtain⟨t,rfl⟩:=aM;exact SeqAt.RcNeAt.str_str a t' b t
  |ref b=>simp[D.data]at he
  |ty b=>simp[D.data]at he
  |c1 b=>simp[D.data]at he
  |tup es=>obtain⟨b,us,rfl,s2,aR⟩:=aN;cases aM;obtain⟨bx,b3,b8,_⟩:=I.tuple s2;exact SeqAt.RcNeAt.str_tuple a t' b8 d1
end
section
variable{X:aQ}{a b c e o i aX iter:aY}{es:List aY}{bn bW a0 to cV bb:bV}{t:fW}{pos p apos cJ:Pos}
theorem d2{A:cg}{k:Nat}(aH:ef k A):A.units+200<bO:=by have:=aH.un;omega
noncomputable def uu(K:a4)(f:Bool->Bool):dQ:=λ x y H Q=>∃ d e,ck K H d x/\ck K H e y/\d.data=true/\e.data=true/\d.bU<=150/\Q (.aW (f (bL d e))) H
noncomputable def wV(K:a4)(f:Bool->Bool):dQ:=λ x y H Q=>∃ l m vs us ds es,x=.ref l/\y=.ref m/\dO K H l vs/\dO K H m us/\br K H ds vs/\br K H es us/\cw ds=true/\cw es=true/\da ds<=150/\Q (.aW (f (dZ ds es))) H
theorem Kd(bg:X.A.units+200<bO):c4 X (dE .Eq) (uu X.K id):=by
 intro pins s σ H x y v u Q I a6 bA h;obtain⟨d,e,aI,aN,hd,he,hz,q⟩:=h;exact Kb I d e X.A x y v u hd he aI aN a6 bA (by omega) X.prog X.w X.xe _ ⟨.aW _,H,I,rfl,q⟩
theorem Ke(bg:X.A.units+200<bO):c4 X (dE .NotEq) (uu X.K (!·)):=by
 intro pins s σ H x y v u Q I a6 bA h;obtain⟨d,e,aI,aN,hd,he,hz,q⟩:=h;exact Kc I d e X.A x y v u hd he aI aN a6 bA (by omega) X.prog X.w X.xe _ ⟨.aW _,H,I,rfl,q⟩
theorem wW:∀{ds es:List D},ds.length≠es.length->dZ ds es=false
 |[],[],h=>absurd rfl h
 |[],_::_,_=>rfl
 |_::_,[],_=>rfl
 |d::ds,e::es,h=>by rw[dZ,wW (by simpa using h),Bool.and_false]
theorem BO{ds es:List D}(h:ds.length=es.length):(gf ds.length).all (d0 ds es)=dZ ds es:=by
 rw[<- ro,<- h,Nat.min_self];simp
theorem Kf(bg:X.A.units+200<bO):c4 X (dE .Eq) (wV X.K id):=by
 intro pins s σ H x y v u Q I a6 bA h;obtain⟨l,m,vs,us,ds,es,rfl,rfl,s1,s2,aG,aR,hd,he,hz,q⟩:=h;cases a6;cases bA;obtain⟨ao,bC,t1,_⟩:=I.list s1;obtain⟨bx,b3,b8,_⟩:=I.list s2;have dY:=bC.length;have dS:=b3.length;have f7:=aG.len;have fR:=aR.len;by_cases aB:ds.length=es.length
 ·refine SeqAt.RcAt.lists (e:=d0 ds es) t1.isList b8.isList (by rw[bN,bN];omega) (by omega) (λ j ae ag=>?_) X.prog X.w X.xe _ ⟨.aW _,H,I,?_,q⟩
  ·have q:=lh I ds es X.A.in1 vs us ao bx hd he aG aR bC b3 (by show X.A.units+1+da ds<bO;omega) j (by simpa using ae) (by simpa using ag);simpa using q
  ·show Value.bool _=Value.bool _;rw[bN,<- dY,f7,BO aB];rfl
 ·refine SeqAt.RcAt.lists_lengths t1.isList b8.isList (by rw[bN,bN];simp;omega) (by omega) X.prog X.w X.xe _ ⟨.aW _,H,I,?_,q⟩;rw[wW aB];rfl
theorem Kg(bg:X.A.units+200<bO):c4 X (dE .NotEq) (wV X.K (!·)):=by
 intro pins s σ H x y v u Q I a6 bA h;obtain⟨l,m,vs,us,ds,es,rfl,rfl,s1,s2,aG,aR,hd,he,hz,q⟩:=h;cases a6;cases bA;obtain⟨ao,bC,t1,_⟩:=I.list s1;obtain⟨bx,b3,b8,_⟩:=I.list s2;have dY:=bC.length;have dS:=b3.length;have f7:=aG.len;have fR:=aR.len;by_cases aB:ds.length=es.length
 ·refine SeqAt.RcNeAt.lists (e:=d0 ds es) t1.isList b8.isList (by rw[bN,bN];omega) (by omega) (λ j ae ag=>?_) X.prog X.w X.xe _ ⟨.aW _,H,I,?_,q⟩
  ·have q:=lh I ds es X.A.in1 vs us ao bx hd he aG aR bC b3 (by show X.A.units+1+da ds<bO;omega) j (by simpa using ae) (by simpa using ag);simpa using q
  ·show Value.bool _=Value.bool _;rw[bN,<- dY,f7,BO aB]
 ·refine SeqAt.RcNeAt.lists_lengths t1.isList b8.isList (by rw[bN,bN];simp;omega) (by omega) X.prog X.w X.xe _ ⟨.aW _,H,I,?_,q⟩;rw[wW aB];rfl
noncomputable def rq(f:Bool->Bool):hs:=λ x y G Q=>match x,y with
 |.int i,.int j=>Q (.aW (f (i==j))) G
 |.str i,.str j=>Q (.aW (f (i==j))) G
 |.tup _,.str _=>Q (.aW (f false)) G
 |.str _,.tup _=>Q (.aW (f false)) G
 |.ref l,.ref m=>g_ G l λ ds=>g_ G m λ es=>cw ds=true/\cw es=true/\da ds<=150/\Q (.aW (f (dZ ds es))) G
 |x,y=>x.data=true/\y.data=true/\x.bU<=150/\Q (.aW (f (bL x y))) G
theorem wX{f:Bool->Bool}{x y:D}{G:aC}{Q:bS}(ak:x.data=true)(a9:y.data=true)(hd:x.bU<=150)(q:Q (.aW (f (bL x y))) G):rq f x y G Q:=by
 cases x<;>cases y<;>first|exact q|exact⟨ak,a9,hd,q⟩|(simp[D.data]at ak;done)|(simp[D.data]at a9;done)
noncomputable def wY(K:a4)(f:Bool->Bool):dQ:=λ x y H Q=>(∃ a vs z,x=.ref a/\dt K H a vs/\y=.str z/\Q (.aW (f false)) H)\/∃ a vs z,y=.ref a/\dt K H a vs/\x=.str z/\Q (.aW (f false)) H
theorem Kh(bg:X.A.units+200<bO):c4 X (dE .Eq) (wY X.K id):=by
 intro pins s σ H x y v u Q I a6 bA h;rcases h with⟨a,vs,z,rfl,e0,rfl,q⟩|⟨a,vs,z,rfl,e0,rfl,q⟩
 ·cases a6;obtain⟨t,rfl⟩:=bA;obtain⟨ao,bC,t1,_⟩:=I.tuple e0;exact SeqAt.RcAt.tuple_str z t t1 (by omega) X.prog X.w X.xe _ ⟨.aW false,H,I,rfl,q⟩
 ·cases bA;obtain⟨t,rfl⟩:=a6;obtain⟨ao,bC,t1,_⟩:=I.tuple e0;exact SeqAt.RcAt.str_tuple z t t1 (by omega) X.prog X.w X.xe _ ⟨.aW false,H,I,rfl,q⟩
theorem Ki(bg:X.A.units+200<bO):c4 X (dE .NotEq) (wY X.K (!·)):=by
 intro pins s σ H x y v u Q I a6 bA h;rcases h with⟨a,vs,z,rfl,e0,rfl,q⟩|⟨a,vs,z,rfl,e0,rfl,q⟩
 ·cases a6;obtain⟨t,rfl⟩:=bA;obtain⟨ao,bC,t1,_⟩:=I.tuple e0;exact SeqAt.RcNeAt.tuple_str z t t1 (by omega) X.prog X.w X.xe _ ⟨.aW true,H,I,rfl,q⟩
 ·cases bA;obtain⟨t,rfl⟩:=a6;obtain⟨ao,bC,t1,_⟩:=I.tuple e0;exact SeqAt.RcNeAt.str_tuple z t t1 (by omega) X.prog X.w X.xe _ ⟨.aW true,H,I,rfl,q⟩
theorem BP{f:Bool->Bool}{op:lM}(ae:c4 X (dE op) (uu X.K f))(ag:c4 X (dE op) (wV X.K f))(bc:c4 X (dE op) (wY X.K f)):fl X (dE op) (rq f):=by
 refine⟨_,⟨ae.or (ag.or bc)⟩,λ x y dX fQ G H aE Q v aI aN r F=>?_⟩;have fin:∀ b:Bool,aE (.aW b) G->Q (.aW b) H:=λ b q=>F (.aW b) G _ H (.refl v) rfl q
 have gen:x.data=true/\y.data=true/\x.bU<=150/\aE (.aW (f (bL x y))) G->uu X.K f dX fQ H Q:=λ⟨eK,cU,hK,ml⟩=>⟨x,y,aI,aN,eK,cU,hK,fin _ ml⟩
 unfold rq at r;split at r
 ·exact .inl (gen ⟨rfl,rfl,fB _,r⟩)
 ·exact .inl (gen ⟨rfl,rfl,fB _,r⟩)
 ·obtain⟨l,vs,rfl,s1,_⟩:=aI;cases aN;exact .inr (.inr (.inl ⟨l,vs,_,rfl,s1,rfl,fin _ r⟩))
 ·obtain⟨l,vs,rfl,s1,_⟩:=aN;cases aI;exact .inr (.inr (.inr ⟨l,vs,_,rfl,s1,rfl,fin _ r⟩))
 ·cases aI;cases aN;obtain⟨ds,vs,cz,s1,aG⟩:=iK v r;obtain⟨es,us,⟨eK,cU,hK,b2⟩,s2,aR⟩:=iK v cz;exact .inr (.inl ⟨_,_,vs,us,ds,es,rfl,rfl,s1,s2,aG,aR,eK,cU,hK,fin _ b2⟩)
 ·exact .inl (gen r)
theorem nQ(bg:X.A.units+200<bO):fl X (dE .Eq) (rq id):=BP (Kd bg) (Kf bg) (Kh bg)
theorem uv(bg:X.A.units+200<bO):fl X (dE .NotEq) (rq (!·)):=BP (Ke bg) (Kg bg) (Ki bg)
noncomputable abbrev Kj(t:bV):bV:=λ ρ G Q=>t ρ G λ d aj=>∃ aL,Sub aL aj/\Q d aL
theorem uw(h:bD X e a0):bD X e (Kj a0):=by
 obtain⟨ca,cm,cn⟩:=h.run;exact⟨_,cm,λ ρ G aE σ H Q B q F=>cn ρ G _ σ H _ B q λ d aj v ah g a ⟨aL,s2,bw⟩=>F d aL v ah (g.sub s2) a bw⟩
@[irreducible] noncomputable def atS(ds:List D)(i:Int)(G:aC)(Q:bS):Prop:=k8 ds i G Q
theorem ux{ds:List D}{i:Int}{G:aC}{Q:bS}(h:k8 ds i G Q):atS ds i G Q:=by unfold atS;exact h
noncomputable abbrev Kk(t:fW)(bW:bV):bV:=λ ρ G Q=>t ρ G λ ds G1=>bW ρ G1 λ y aL=>match y with
 |.int i=>atS ds i aL Q
 |_=>False
theorem rr{Kl:Pos}(h:hM X es t)(af:bD X b bW)(ar:tE b)(aB:s0 es.length 1000=true:=by rfl):bD X (.Subscript (.List es Kl) b pos) (Kk t bW):=by
 obtain⟨ca,cm,cn⟩:=h.run;obtain⟨kq,fY,fm⟩:=af.run;refine⟨_,A5 ⟨Am⟩ (A4 cm) fY ar,λ ρ G aE σ H Q B q F=>cn ρ G _ σ H _ B q λ ds G1 vs H1 g1 al aS aD=>⟨by rw[al.len,aS];exact wJ aB,λ p ai=>?_⟩⟩;have g2:=Go.ko (o:=.lst vs) g1.bv ai;have iD:=g1.bv.none ai;refine fm ρ G1 _ σ _ _ ((B.go g1).go g2) aD λ y bP u b1 g3 aN dd=>?_;have bc:=g3.same p _ fN iD;split at dd
 ·next i=>
  cases aN;unfold atS at dd;obtain⟨d,hd,ey⟩:=uc dd;obtain⟨w,hw,gm⟩:=ub ((al.mono g2.tup).mono g3.tup) hd;exact .inl ⟨p,vs,i,w,rfl,rfl,.of bc,hw,F d bP w b1 ((g1.trans g2).trans g3) gm ey⟩
 ·exact dd.elim
noncomputable def BQ(sc:eE)(N:List Str)(scope:eE)(N':List Str)(nt:Nat)(cap:List Nat):Bool:=
 scope.names.all (λ y=>y.2 !=.cell)&&scope.names.all (λ y=>y.2 !=.local||scope.names.lookup y.1==some .local) &&
 scope.names.all (λ y=>y.2 !=.free||(sc.names.lookup y.1==some .cell||sc.names.lookup y.1==some .free))&&N'.length==nt+cap.length &&
 (gf cap.length).all λ j=>match cap[j]?,N'[nt+j]? with
  |some i,some x=>N[i]?==some x&&scope.names.lookup x==some .free
  |_,_=>true
theorem fv.of{scope:eE}{N':List Str}{nt:Nat}{cap:List Nat}(aq:scope.kind=.function)(h:BQ X.env.scope X.N scope N' nt cap=true):fv X scope N' nt cap:=by
 unfold BQ at h;simp only[ZB,List.all_eq_true]at h;obtain⟨⟨⟨⟨ae,ag⟩,bc⟩,cj⟩,di⟩:=h;refine⟨aq,λ y a9=>by simpa using ae y a9,λ y a9 e=>?_,λ y a9 e=>?_,by simpa using cj,λ j i x bm ak=>?_⟩
 ·have z:=ag y a9;rw[e]at z;simpa using z
 ·have z:=bc y a9;rw[e]at z;simpa using z
 ·have lt:j<cap.length:=by
   rcases oE j cap.length with z|z
   ·exact z
   ·rw[sS z]at bm;cases bm
  have z:=di j (lR.mpr lt);rw[bm,ak]at z;simpa using z
noncomputable abbrev Km(to cV:bV):fk:=λ d ρ G Q=>to ρ G λ x G1=>cV ρ G1 λ y aL=>match x,y with
 |.ref l,.int k=>iJ aL l λ ds=>∃ j,jw ds.length k=some j/\Q ρ (up aL l (.lst (ds.set j d)))
 |_,_=>False
theorem wZ(aJ:bD X o to)(au:bD X i cV) (az:∀ v,gI (.Subscript o i pos) X.env v=(do
 let dn ← iX [v] (eval o X.env)
 let fg ← iX [v,dn] (eval i X.env)
 jX pos
 iX [v,dn,fg] (p4 dn fg v)
 release [v,dn,fg] []):=by intro _;rfl):h_ X (.Subscript o i pos) (Km to cV):=by
 obtain⟨co,eA,bH⟩:=aJ.run;obtain⟨ci,f6,eX⟩:=au.run;refine⟨_,IC eA f6 ⟨Gy⟩ az,λ d v ρ G aE σ H Q B ad q F=>bH ρ G _ σ H _ B q λ x G1 dX H1 g1 aI aD=>eX ρ G1 _ σ H1 _ (B.go g1) aD λ y aL fQ aO g2 aN bw=>?_⟩;split at bw
 ·next l k=>
  cases aI;cases aN;obtain⟨ds,vs,⟨j,bm,dd⟩,e1,ae,aG⟩:=k9 g2.bv bw;have Kn:=(ad.mono g1.tup).mono g2.tup;have g3:=Go.o5 g2.bv e1 (aG.set Kn j);have fo:=(g1.trans g2).trans g3;exact⟨l,vs,k,j,rfl,rfl,ae,by rw[aG.len];exact bm,F ρ _ σ _ fo (B.go fo) dd⟩
 ·exact bw.elim
noncomputable def Ko(x:D)(G:aC)(k:String->Prop):Prop:=match x with
 |.bo=>k "NoneType"
 |.aW _=>k "bool"
 |.int _=>k "int"
 |.str _=>k "str"
 |.tup _=>k "tuple"
 |.ref l=>g_ G l λ _=>k "list"
 |_=>False
noncomputable def w0(t T:String):Option Bool:=
 if (t = "NoneType"\/t = "bool"\/t = "int"\/t = "str"\/t = "tuple"\/t = "list")/\(T = "bool"\/T = "int"\/T = "str"\/T = "tuple"\/T = "list") then some (decide (t=T)||(decide (t = "bool")&&decide (T = "int"))) else none
theorem pg{K:a4}{t T:String}{b:Bool}(h:w0 t T=some b):s_ K (.type t) (.type T)=some b:=by
 unfold w0 at h;split at h
 ·next c=>
  obtain⟨d7,cR⟩:=c;rcases d7 with rfl|rfl|rfl|rfl|rfl|rfl<;>rcases cR with rfl|rfl|rfl|rfl|rfl<;>(simp at h;subst h;first|rfl|exact Py rfl (by decide))
 ·cases h
noncomputable def Kp(K:a4):List V->am->b7->Prop:=λ xs H Q=>∃ x T t b,xs=[x,.ty T]/\((iA K H x (.type t))\/(t = "tuple"/\∃ a vs,x=.ref a/\dt K H a vs)\/(t = "list"/\∃ a vs,x=.ref a/\dO K H a vs))/\s_ K (.type t) (.type T)=some b/\Q (.aW b) H
theorem Kq:gP X (.builtin "isinstance") (Kp X.K):=by
 intro pins s σ H xs us Q I r h;obtain⟨x,T,t,b,rfl,ty,aq,g0⟩:=h;obtain⟨u,v,rfl,cD,aM⟩:=Vals.two r;cases aM;rcases ty with ty|⟨rfl,a,vs,rfl,e0⟩|⟨rfl,a,vs,rfl,e0⟩
 ·exact F5 I cD ty aq λ bM=>⟨.aW b,H,I.tok bM,rfl,g0⟩
 ·cases cD;obtain⟨ao,_,⟨o,ae,ag,_⟩,_⟩:=I.tuple e0
  exact hZ PySem.W.kitx_tuple I.fT ⟨o,ae,ag⟩ aq (λ z=>nomatch z) λ bM=>⟨.aW b,H,I.tok bM,rfl,g0⟩
 ·cases cD;obtain⟨ao,_,⟨o,n,ae,ag,_⟩,_⟩:=I.list e0
  exact hZ PySem.W.kitx_list I.fT ⟨o,ae,ag⟩ aq (λ z=>nomatch z) λ bM=>⟨.aW b,H,I.tok bM,rfl,g0⟩
noncomputable def Kr:D->D->aC->bS->Prop:=λ x y G Q=>match y with
 |.ty T=>Ko x G λ t=>∃ b,w0 t T=some b/\Q (.aW b) G
 |_=>False
theorem uy:ja X (.builtin "isinstance") (o_ Kr):=by
 refine⟨_,⟨Kq⟩,λ xs vs G H aE Q v a r F=>?_⟩;obtain⟨x,y,u,w,rfl,rfl,aI,aN,r⟩:=uf r a
 cases y with
 | ty T=>
  cases aN
  cases x with
  |bo=>cases aI;obtain⟨b,af,q⟩:=r;exact⟨_,T,_,b,rfl,.inl .bo,pg af,F (.aW b) G _ H (.refl v) rfl q⟩
  |aW z=>cases aI;obtain⟨b,af,q⟩:=r;exact⟨_,T,_,b,rfl,.inl (.aW z),pg af,F (.aW b) G _ H (.refl v) rfl q⟩
  |int z=>cases aI;obtain⟨b,af,q⟩:=r;exact⟨_,T,_,b,rfl,.inl (.int z),pg af,F (.aW b) G _ H (.refl v) rfl q⟩
  |str z=>cases aI;obtain⟨b,af,q⟩:=r;exact⟨_,T,_,b,rfl,.inl (.str z),pg af,F (.aW b) G _ H (.refl v) rfl q⟩
  |tup ds=>obtain⟨l,ws,rfl,s,_⟩:=aI;obtain⟨b,af,q⟩:=r;exact⟨_,T,"tuple",b,rfl,.inr (.inl ⟨rfl,l,ws,rfl,s⟩),pg af,F (.aW b) G _ H (.refl v) rfl q⟩
  | ref l=>
   cases aI;obtain⟨ds,ws,⟨b,af,q⟩,s,_⟩:=iK v r;exact⟨_,T,"list",b,rfl,.inr (.inr ⟨rfl,l,ws,rfl,s⟩),pg af,F (.aW b) G _ H (.refl v) rfl q⟩
  |ty z=>exact(show False from r).elim
  |c1 z=>exact(show False from r).elim
 |_=>exact(show False from r).elim
end
inductive Tm where
 |name (k:Nat)|whole (n:Int)|way (t:Tm)|give (t u:Tm)|pair (t u:Tm)|first (t:Tm)|second (t:Tm)|plus (t u:Tm)|look (t u v:Tm)
noncomputable abbrev nR(x y:Int):fw:=.lst [.int x,.int y]
noncomputable def e9(G:aC)(a:Addr):Prop:=∃ x y,G a=some (nR x y)
theorem e9.up{G:aC}{a:Addr}{x y:Int}:e9 (up G a (nR x y)) a:=⟨x,y,bI⟩
theorem e9.new{G:aC}{a l:Addr}{o:fw}(h:e9 G a)(n:G l=none):e9 (L3.up G l o) a:=by
 obtain⟨x,y,e⟩:=h;exact⟨x,y,by rw[cv (by rintro rfl;rw[n]at e;cases e)];exact e⟩
theorem e9.ne{G:aC}{a l:Addr}(h:e9 G a)(n:G l=none):l≠a:=by
 obtain⟨x,y,e⟩:=h;rintro rfl;rw[n]at e;cases e
theorem uz{G:aC}{a l:Addr}{f o:fw}(n:up G a f l=none):up (up G a f) l o=up (up G l o) a f/\G l=none/\l≠a:=by
 have ne:l≠a:=by rintro rfl;rw[bI]at n;cases n
 exact⟨Bc (Ne.symm ne),by rw[cv ne]at n;exact n,ne⟩
theorem Sub.new{G G1:aC}{p:Addr}{o:fw}(h:Sub G G1)(n:G p=m3):Sub G (up G1 p o):=λ b u e=>by
 rw[cv (by rintro rfl;rw[n]at e;cases e)];exact h b u e
theorem Sub.put{G G1:aC}{a:Addr}{o:fw}(h:Sub G G1):Sub (up G a o) (up G1 a o):=λ b u e=>by
 by_cases c:b=a
 ·subst c;rw[bI]at e ⊢;exact e
 ·rw[cv c]at e ⊢;exact h b u e
noncomputable def d8(a:Addr)(G aj:aC):Prop:=∃ x y,aj=up G a (nR x y)
theorem d8.mk{a:Addr}{G:aC}{x y:Int}:d8 a G (up G a (nR x y)):=⟨x,y,rfl⟩
theorem d8.trans{a:Addr}{G G1 aL:aC}(h:d8 a G G1)(k:d8 a G1 aL):d8 a G aL:=by
 obtain⟨x,y,rfl⟩:=h;obtain⟨z,u,rfl⟩:=k;exact⟨z,u,nC⟩
theorem d8.fd{a:Addr}{G aj:aC}(h:d8 a G aj):e9 aj a:=by obtain⟨x,y,rfl⟩:=h;exact .up
theorem d8.refl{a:Addr}{G:aC}(h:e9 G a):d8 a G G:=by obtain⟨x,y,e⟩:=h;exact⟨x,y,(Jf e).symm⟩
theorem d8.other{a l:Addr}{G aj:aC}(h:d8 a G aj)(n:l≠a):aj l=G l:=by obtain⟨x,y,rfl⟩:=h;exact cv n
theorem d8.none{a l:Addr}{G aj:aC}(h:d8 a G aj)(n:aj l=m3):G l=m3:=by
 obtain⟨x,y,rfl⟩:=h;exact(uz (o:=nR 0 0) n).2.1
noncomputable def lj:ih:=λ ds G Q=>match ds with
 |[.ref a,.int m]=>e9 G a/\0<m/\m<2 ^ 62/\∀ d aj,d8 a G aj->0<=d->d<m->Q (.int d) aj
 |_=>False
noncomputable def uA:ih:=λ ds G Q=>match ds with
 |[.c1 ss,.int k]=>∃ ns:List Int,ss=ns.map D.int/\ns.length<=63/\0<=k/\k<2 ^ 32/\∀ r x y,G r=none->Q (.ref r) (up G r (nR x y))
 |_=>False
noncomputable def BR:ih:=λ ds _ Q=>∃ ns:List Int,ds=[.c1 (ns.map D.int)]/\ns.length<=63/\∀ aj,Q (.aW true) aj
noncomputable abbrev uB(K:a4):ft:=cc K BR
theorem Ks{K:a4}{H:am}{a:Addr}{ns:List Int}(aB:ns.length<=63)(o:tH H)(h:dO K H a (ns.map V.int)):uB K [.ref a] H (λ v _=>v=.aW true) λ _ _ _=>False:=by
 have f:o3 K H a (ns.map V.int):=by
  rcases h with(h|h)|h
  ·rcases o a with z|⟨_,_,z⟩<;>(rw[h]at z;cases z)
  ·exact .inl h
  ·exact .inr h
 refine⟨[.c1 (ns.map D.int)],λ _=>none,λ d _=>d=.aW true,⟨.ref a,[],rfl,⟨a,_,rfl,f,br.wB ns⟩,rfl⟩,(λ _ _ e=>by cases e),⟨ns,rfl,aB,λ _=>rfl⟩,λ d aj v ah g ad e=>?_⟩;subst e;exact ad
theorem BS{P:bX}{w:bJ}{K:a4}{mg:Str->Option Value}{base:bF}{f:Addr}{fd:fA}{aZ:List Str}{k:Nat}{iM:ih}(no:∀ ds G aE,¬ iM ds G aE):dh P w K mg base dx k f fd aZ (cc K iM):=
 ⟨λ vs H Q E ⟨ds,G,aE,_,_,h,_⟩=>absurd h (no ds G aE),λ A outer s H args us vs Q E _ _ _ _ ⟨ds,G,aE,_,_,h,_⟩=>absurd h (no ds G aE)⟩
theorem at2{x y:D}{G:aC}{Q:bS}{i:Int}(h0:0<=i)(ae:i<2)(ak:i=0->Q x G)(a9:i=1->Q y G):atS [x,y] i G Q:=by
 refine ux ?_;rcases(by omega:i=0\/i=1) with rfl|rfl
 ·exact ak rfl
 ·exact a9 rfl
theorem Kt{x y z:D}{G:aC}{Q:bS}{i:Int}(h0:0<=i)(ae:i<3)(ak:i=0->Q x G)(a9:i=1->Q y G)(hz:i=2->Q z G):atS [x,y,z] i G Q:=by
 refine ux ?_;rcases(by omega:i=0\/i=1\/i=2) with rfl|rfl|rfl
 ·exact ak rfl
 ·exact a9 rfl
 ·exact hz rfl
theorem Ku{x y z u:D}{G:aC}{Q:bS}{i:Int}(h0:0<=i)(ae:i<4)(ak:i=0->Q x G)(a9:i=1->Q y G)(hz:i=2->Q z G)(bg:i=3->Q u G):atS [x,y,z,u] i G Q:=by
 refine ux ?_;rcases(by omega:i=0\/i=1\/i=2\/i=3) with rfl|rfl|rfl|rfl
 ·exact ak rfl
 ·exact a9 rfl
 ·exact hz rfl
 ·exact bg rfl
section
variable{α:Type}{all:α->List (List Int×α)}{Kv:α->List α}
theorem Kw{n:Nat}(h:n<=200000):n<=sizeLine:=by rw[d_];omega
theorem gp{n:Nat}(h:n<=200000):n<sizeLine:=by rw[d_];omega
theorem BU{G:aC}{p q:Addr}{x y z:fw}(h:p≠q):up (up (up G q x) p y) q z=up (up G q z) p y:=by
 rw[Bc h,nC]
end
end L3
namespace L3
open PySem PyProof L2
section
variable{K:a4}{H:am}{G:aC}
noncomputable def jL:Key->D
 |.inl i=>.int i
 |.inr x=>.str x
theorem ph{k:Key}{v:V}(h:ck K H (jL k) v):v=cO k:=by cases k<;>exact h
noncomputable def cT(kvs:List (Key×D))(k:Key):Option D:=(kvs.find? λ a7=>decide (a7.1=k)).map (·.2)
noncomputable def f8(kvs:List (Key×D))(k:Key)(v:D):List (Key×D):=
 if (kvs.any λ a7=>decide (a7.1=k))=true then kvs.map (λ a7=>if a7.1=k then (a7.1,v) else a7) else kvs++[(k,v)]
theorem cL.cons_inv{κ:Type}{x:κ}{y:D}{r:List (κ×D)}{gs:List (κ×V)}(h:cL K H ((x,y)::r) gs):∃ v s,gs=(x,v)::s/\ck K H y v/\cL K H r s:=by
 obtain⟨ae,ag⟩:=h
 cases gs with
 |nil=>cases ae
 | cons g s=>
  obtain⟨g1,g2⟩:=g;simp only[eF,List.cons.injEq]at ae;obtain⟨v,us,e1,a1,a2⟩:=ag;simp only[eF,List.cons.injEq]at e1;obtain⟨rfl,ae⟩:=ae;obtain⟨rfl,rfl⟩:=e1;exact⟨g2,s,rfl,a1,ae,a2⟩
theorem cL.nil_inv{κ:Type}{gs:List (κ×V)}(h:cL K H ([]:List (κ×D)) gs):gs=[]:=by
 cases gs with
 |nil=>rfl
 |cons g s=>cases h.1
theorem cL.uC{κ:Type}{x:κ}{y:D}{v:V}{r:List (κ×D)}{s:List (κ×V)}(h:ck K H y v)(aH:cL K H r s):cL K H ((x,y)::r) ((x,v)::s):=⟨by simp[aH.1],v,_,rfl,h,aH.2⟩
theorem cL.append{κ:Type}:∀{bl es:List (κ×D)}{gs ar:List (κ×V)},cL K H bl gs->cL K H es ar->cL K H (bl++es) (gs++ar)
 |[],_,_,_,r,s=>by rw[r.nil_inv];exact s
 | (x,y)::r,_,_,_,h,s=>by
  obtain⟨v,t,rfl,a,aH⟩:=h.cons_inv;exact cL.uC a (aH.append s)
theorem cL.val{k:Key}:∀{bl:List (Key×D)}{gs:List (Key×V)},cL K H bl gs->(∀ d,cT bl k=some d->∃ v,fH gs k=some v/\ck K H d v)/\(cT bl k=m3->fH gs k=m3)
 |[],_,h=>by rw[h.nil_inv];exact⟨λ d e=>(by cases e),λ _=>rfl⟩
 | (x,y)::r,_,h=>by
  obtain⟨v,t,rfl,a,aH⟩:=h.cons_inv;obtain⟨nS,nT⟩:=cL.val (k:=k) aH;by_cases c:x=k
  ·have e1:cT ((x,y)::r) k=some y:=by simp[cT,j0,c]
   have aP:fH ((x,v)::t) k=some v:=tQ c;rw[e1,aP];exact⟨λ d e=>⟨v,rfl,by cases e;exact a⟩,λ e=>by cases e⟩
  ·have e1:cT ((x,y)::r) k=cT r k:=by simp[cT,j0,c]
   have aP:fH ((x,v)::t) k=fH t k:=tR c;rw[e1,aP];exact⟨nS,nT⟩
theorem cL.BV{k:Key}:∀{bl:List (Key×D)}{gs:List (Key×V)},cL K H bl gs->(bl.any λ a7=>decide (a7.1=k))=gs.any λ a7=>decide (a7.1=k)
 |[],_,h=>by rw[h.nil_inv];rfl
 | (x,y)::r,_,h=>by
  obtain⟨v,t,rfl,a,aH⟩:=h.cons_inv;rw[p_,p_,cL.BV aH]
theorem cL.w1{k:Key}{d:D}{u:V}(hd:ck K H d u):∀{bl:List (Key×D)}{gs:List (Key×V)},cL K H bl gs->cL K H (bl.map λ a7=>if a7.1=k then (a7.1,d) else a7) (gs.map λ a7=>if a7.1=k then (a7.1,u) else a7)
 |[],_,h=>by rw[h.nil_inv];exact⟨rfl,rfl⟩
 | (x,y)::r,_,h=>by
  obtain⟨v,t,rfl,a,aH⟩:=h.cons_inv;rw[eF,eF];by_cases c:x=k
  ·simp only[c,if_true];exact cL.uC hd (cL.w1 hd aH)
  ·simp only[if_neg c];exact cL.uC a (cL.w1 hd aH)
theorem cL.f8{k:Key}{d:D}{u:V}(hd:ck K H d u){bl:List (Key×D)}{gs:List (Key×V)}(h:cL K H bl gs):cL K H (L3.f8 bl k d) (hq gs k u):=by
 unfold L3.f8 hq;rw[h.BV];split
 ·exact cL.w1 hd h
 ·exact h.append (cL.uC hd ⟨rfl,rfl⟩)
theorem BW(kvs:List (Key×D))(k j:Key)(y:D):cT (f8 kvs k y) j=if j=k then some y else cT kvs j:=by
 have key:∀ l:List (Key×D),cT (l.map λ a7=>if a7.1=k then (a7.1,y) else a7) j=(cT l j).map λ x=>if j=k then y else x:=λ l=>by
  induction l with
  |nil=>rfl
  | cons p r b0=>
   obtain⟨gj,c8⟩:=p;simp only[cT,eF,j0]at b0 ⊢;by_cases c:gj=k
   ·subst c;by_cases d:gj=j
    ·subst d;simp
    ·simp only[if_true,d,decide_false];exact b0
   ·by_cases d:gj=j
    ·subst d;simp[c]
    ·simp only[if_neg c,d,decide_false];exact b0
 unfold f8;by_cases c:(kvs.any λ a7=>decide (a7.1=k))=true
 ·rw[if_pos c,key];by_cases d:j=k
  ·subst d
   have:(cT kvs j).isSome=true:=by
    unfold cT;rw[Option.isSome_map,List.find?_isSome];obtain⟨x,ak,e⟩:=mW.mp c;exact⟨x,ak,e⟩
   obtain⟨z,e⟩:=iZ.mp this;rw[e];simp
  ·simp[d]
 ·rw[if_neg c];have no:∀ x∈kvs,x.1≠k:=λ x ak e=>c (mW.mpr ⟨x,ak,by simpa using e⟩);unfold cT;rw[List.find?_append];by_cases d:j=k
  ·subst d
   have:kvs.find? (λ a7=>decide (a7.1=j))=none:=List.find?_eq_none.mpr λ x ak=>by simpa using no x ak
   rw[this];simp
  ·rw[if_neg d]
   have e:([(k,y)]:List (Key×D)).find? (λ a7=>decide (a7.1=j))=none:=by simp[Ne.symm d]
   rw[e];simp
theorem BX(kvs:List (Key×D))(k:Key)(v:D):(f8 kvs k v).length<=kvs.length+1:=by
 unfold f8;split<;>simp
@[irreducible] noncomputable def iN(G:aC)(a:Addr)(k:List (Key×D)->Prop):Prop:=match G a with
 |some (.bf kvs)=>k kvs
 |_=>False
theorem gU{a:Addr}{k:List (Key×D)->Prop}{kvs:List (Key×D)}(h:G a=some (.bf kvs))(q:k kvs):iN G a k:=by unfold iN;rw[h];exact q
theorem kz{a:Addr}{k:List (Key×D)->Prop}(v:dz K G H)(h:iN G a k):∃ kvs gs,k kvs/\G a=some (.bf kvs)/\H a=some (.bf gs)/\cL K H kvs gs:=by
 unfold iN at h;split at h
 ·next kvs e=>obtain⟨gs,z,r⟩:=v _ _ e;exact⟨kvs,gs,h,e,z,r⟩
 ·exact h.elim
theorem pi{p:Addr}{gs:List (Key×V)}{o:eR}(h:H p=some (.bf gs)):mj K H (upd H p o):=wE (λ ys=>by rintro(e|⟨o,e⟩)<;>rw[h]at e<;>cases e) λ _ _ e=>by rw[h]at e;cases e
theorem Go.newD(v:dz K G H){p:Addr}{kvs:List (Key×D)}{gs:List (Key×V)}(h:H p=none)(r:cL K H kvs gs):Go K G H (up G p (.bf kvs)) (upd H p (.bf gs)) where
 tup:=mm h
 hL:=λ a u e=>⟨u,by rw[cu (gN e h)];exact e⟩
 same:=λ a u e _=>by rw[cu (gN e h)];exact e
 new:=λ a u e n=>by rw[cv (gN e h)];exact n
 bv:=λ a u e=>by
  by_cases c:a=p
  ·subst c;rw[bI]at e;cases e;exact⟨gs,fN,r.1,r.2.mono (mm h)⟩
  ·rw[cv c]at e;exact(v a u e).mono (mm h) (cu c)
theorem Go.BY(v:dz K G H){p:Addr}{Kx kvs:List (Key×D)}{gs:List (Key×V)}(h:G p=some (.bf Kx))(r:cL K H kvs gs):Go K G H (up G p (.bf kvs)) (upd H p (.bf gs)):=by
 obtain⟨us,ai,_⟩:=v p _ h
 exact {
  tup:=pi ai
  hL:=λ a u e=>by
   by_cases c:a=p
   ·subst c;exact⟨_,fN⟩
   ·exact⟨u,by rw[cu c];exact e⟩
  same:=λ a u e n=>by
   have c:a≠p:=by rintro rfl;rw[h]at n;cases n
   rw[cu c];exact e
  new:=λ a u e n=>by
   have c:a≠p:=by rintro rfl;rw[h]at n;cases n
   rw[cv c];exact n
  bv:=λ a u e=>by
   by_cases c:a=p
   ·subst c;rw[bI]at e;cases e;exact⟨gs,fN,r.1,r.2.mono (pi ai)⟩
   ·rw[cv c]at e
    exact(v a u e).mono (pi ai) (cu c)}
noncomputable def mC:D->Option Key
 |.int i=>some (.inl i)
 |.str x=>some (.inr x)
 |_=>none
theorem pj{d:D}{k:Key}(h:mC d=some k):d=jL k:=by cases d<;>simp[mC]at h<;>subst h<;>rfl
end
section
variable{X:aQ}{o i e value:aY}{pos pos' wx:Pos}{b4 cV k3:bV}
noncomputable abbrev Ky(b4 cV:bV):bV:=λ ρ G Q=>b4 ρ G λ x G1=>cV ρ G1 λ y aL=>match x with
 |.ref a=>iN aL a λ kvs=>∃ k d,mC y=some k/\cT kvs k=some d/\Q d aL
 |_=>False
theorem Kz(bg:X.A.units+200<bO)(aJ:bD X o b4)(au:bD X i cV)(ar:tT i):bD X (.Subscript o i pos) (Ky b4 cV):=by
 obtain⟨co,eA,bH⟩:=aJ.run;obtain⟨ci,f6,eX⟩:=au.run;refine⟨_,⟨AX (by omega) eA.run f6.run ar⟩,λ ρ G aE σ H Q B q F=>bH ρ G _ σ H _ B q λ x G1 v H1 g1 aI aD=>eX ρ G1 _ σ H1 _ (B.go g1) aD λ y aL u aO g2 aN bw=>?_⟩
 cases x with
 | ref a=>
  cases aI;obtain⟨kvs,gs,⟨k,d,iO,uD,dd⟩,e1,aP,r⟩:=kz g2.bv bw;obtain⟨w,hw,gm⟩:=(r.val (k:=k)).1 d uD;rw[pj iO]at aN;have:=ph aN;subst this;exact⟨a,w,rfl,by rw[<- hw];exact iF.k aP,F d aL w aO (g1.trans g2) gm dd⟩
 |_=>exact(show False from bw).elim
noncomputable abbrev BZ(b4 cV k3:bV):fX:=λ dC ρ G=>k3 ρ G λ v G1=>b4 ρ G1 λ x aL=>cV ρ aL λ y bP=>match x with
 |.ref a=>iN bP a λ kvs=>∃ k,mC y=some k/\kvs.length<sizeLine/\dC.nx ρ (up bP a (.bf (f8 kvs k v)))
 |_=>False
theorem mD(bg:X.A.units+200<bO)(aJ:bD X o b4)(au:bD X i cV)(bh:bD X value k3)(ar:jl value (some (.Subscript o i pos')) pos.line X.env=pure false:=by rfl):i_ X (.Assign [.Subscript o i pos'] value pos) (BZ b4 cV k3):=by
 obtain⟨co,eA,bH⟩:=aJ.run;obtain⟨ci,f6,eX⟩:=au.run;obtain⟨Pz,wA,aM⟩:=bh.run;refine⟨_,⟨HT (by omega) eA.run f6.run wA.run ar⟩,λ dC eL ρ G σ H B q F=>aM ρ G _ σ H _ B q λ PA G1 v0 H1 g1 k_ aD=>bH ρ G1 _ σ H1 _ (B.go g1) aD λ x aL v aO g2 aI bw=>eX ρ aL _ σ aO _ ((B.go g1).go g2) bw λ y bP u b1 g3 aN dd=>?_⟩
 cases x with
 | ref a=>
  cases aI;obtain⟨kvs,gs,⟨k,iO,aB,ey⟩,e1,aP,r⟩:=kz g3.bv dd;rw[pj iO]at aN;have:=ph aN;subst this
  have len:gs.length=kvs.length:=by have:=congrArg hX r.1;simpa using this.symm
  have ig:=Go.BY g3.bv e1 (r.f8 (k:=k) ((k_.mono g2.tup).mono g3.tup));exact⟨a,_,rfl,qS.k aP (by omega),F.nx _ _ _ _ (((g1.trans g2).trans g3).trans ig) ((((B.go g1).go g2).go g3).go ig) ey⟩
 |_=>exact(show False from dd).elim
end
end L3
namespace L3
open PySem PySem.Spec L2
section
variable{X:aQ}{pos wx:Pos}{o i value:aY}{to cV a0:bV}
noncomputable abbrev KA(i j:Nat)(bn:fW):fX:=λ D ρ G=>bn ρ G λ ds G1=>match ds with
 |[x,y]=>D.nx ((ρ.set i (some x)).set j (some y)) G1
 |_=>False
theorem KC{i j:Nat}{x y:Str}{a b:aY}{bn:fW}{nc py pt:Pos} {kt b2 nd} (aA:X.calm=true) (dg:X.N.Nodup) (au:X.N[i]?=some x) (bm:X.N[j]?=some y) (gh:i≠j) (ak:X.env.scope.names.lookup x=some .local) (a9:X.env.scope.names.lookup y=some .local) (az:hM X [a,b] bn)
 (hw:p0 [.Tuple [.Name x nc,.Name y py] kt pt] (.Tuple [a,b] b2 nd) X.env=pure (some [x,y]):=by rfl) (ar:pZ [.Tuple [.Name x nc,.Name y py] kt pt] (.Tuple [a,b] b2 nd) pos.line X.env=pure false:=by rfl) :
 i_ X (.Assign [.Tuple [.Name x nc,.Name y py] kt pt] (.Tuple [a,b] b2 nd) pos) (KA i j bn):=by
 obtain⟨ca,cm,cn⟩:=az.run;refine⟨_,⟨Fq aA dg au bm gh ak a9 cm.run hw ar⟩,λ dC eL ρ G σ H B q F=>cn ρ G _ σ H _ B q λ ds G1 vs H1 g1 al _ aD=>?_⟩;split at aD
 ·obtain⟨v,r,rfl,aI,al⟩:=al;obtain⟨w,r,rfl,aN,al⟩:=al;cases (show r=[] from al);exact⟨v,w,rfl,F.nx _ G1 _ H1 g1 (((B.go g1).set aI i).set aN j) aD⟩
 ·exact aD.elim
end
theorem B0:∀{xs ys:List Int},xs.Nodup->(∀ j∈xs,j∈ys)->xs.length<=ys.length
 |[],_,_,_=>fB _
 | x::xs,ys,h,ar=>by
  rw[oz]at h;have ak:=ar x (dk ..);have b0:=B0 (ys:=ys.erase x) h.2 λ j bm=>(List.mem_erase_of_ne (by rintro rfl;exact h.1 bm)).mpr (ar j (dM _ bm));rw[List.length_erase_of_mem ak]at b0;have:0<ys.length:=List.length_pos_of_mem ak;rw[eG];omega
theorem d8.c9{a b:Addr}{G aj:aC}{u:fw}(h:d8 a G aj)(n:b≠a)(e:G b=some u):aj b=some u:=by rw[h.other n];exact e
end L3
namespace L3
open PySem PySem.Spec L2 PySem.SeqAt
noncomputable def eB(e c:Nat->Bool)(fin:Bool):Nat->Nat->Bool
 |0,_=>fin
 |k+1,i=>if e i then eB e c fin k (i+1) else c i
noncomputable def kA(A:cg)(s:aw)(y x:Value)(b:Bool):Prop:=
 ∀(prog:bX)(w:bJ)(E:Value->aw->Prop)(Q:Value->aw->Prop),Q (.bool b) s->aT (a5 prog w) A (richCompare .Lt y x) Q E s
open AutoSeq1 (wpAny_loadPart') in
theorem KD(l b:Addr)(items bu:Array Value)(n de:Nat)(cC ez:Option Addr)(cp fF:Array (Option Value))(e c:Nat->Bool) :
 Meets (Builtin.«tuple.__lt__» ⟨[.ref l,.ref b],[]⟩)
  (λ A R s=>s.heap.get? l=some {cls:=.type "tuple",dict:=cC,data:=.seq items n,slots:=cp}/\s.heap.get? b=some {cls:=.type "tuple",dict:=ez,data:=.seq bu de,slots:=fF} ∧
   (∀ j (ae:j<items.size) (ag:j<bu.size),EqAt A.in1 s items[j] bu[j] (e j)) ∧
   (∀ j (ae:j<items.size) (ag:j<bu.size),(∀ i,i<j->e i=true)->e j=false->kA A.in1 s items[j] bu[j] (c j)) ∧
   R (.ok (.ret (.bool (eB e c (decide (items.size<bu.size)) (min items.size bu.size) 0)))) s):=
 .of_wp λ prog w A R s h=>by
  obtain⟨ai,g,d,bM,os⟩:=s;obtain⟨aB,af,he,aA,h⟩:=h;have f2:=AutoSeq1.sub_tuple_tuple
  have ru:(items.toList.zip bu.toList).length=min items.size bu.size:=by simp
  wp_walk using iS aB,iS af,wpAny_forIn_list _ (λ rest b av=>b.1=none/\av=⟨ai,g,d,bM,os⟩/\∃ i,rest=(items.toList.zip bu.toList).drop i/\(∀ k,k<i->e k=true) ∧
   R (.ok (.ret (.bool (eB e c (decide (items.size<bu.size)) (min items.size bu.size - i) i)))) ⟨ai,g,d,bM,os⟩) _
  case turn=>
   rintro⟨y,x⟩ rest b av ⟨cf,rfl,i,hz,aq,ei⟩
   have dr:i<(items.toList.zip bu.toList).length:=by
    rcases oE i (items.toList.zip bu.toList).length with h'|h'
    ·exact h'
    ·rw[List.drop_of_length_le h']at hz;cases hz
   have hm:i<min items.size bu.size:=ru ▸ dr;have ae:i<items.size:=fS hm (Nat.min_le_left _ _);have ag:i<bu.size:=fS hm (Nat.min_le_right _ _);rw[sT dr]at hz;injection hz with rv w2
   have a9:y=items[i]:=by have:=congrArg Prod.fst rv;simpa using this
   have ak:x=bu[i]:=by have:=congrArg Prod.snd rv;simpa using this
   subst a9 ak;rw[show min items.size bu.size - i=(min items.size bu.size - (i+1))+1 by omega,eB]at ei;refine ay (he i ae ag prog w _ _ ?_)
   cases a9:e i with
   | true=>
    rw[a9]at ei
    wp_walk
    exact⟨rfl,rfl,i+1,w2,λ k pk=>by rcases Nat.lt_succ_iff_lt_or_eq.mp pk with z|rfl;exact aq k z;exact a9,by simpa using ei⟩
   | false=>
    rw[a9,if_neg (by decide)]at ei;simp only[Bool.not_false,if_true];refine ay (p1 (ay (aA i ae ag aq a9 prog w _ _ ?_)))
    wp_walk
    exact⟨_,rfl,ei⟩
  case fin=>
   rintro⟨pl,gT⟩ av ⟨cf,rfl,i,hz,aq,ei⟩;simp only at cf;subst cf
   have KE:min items.size bu.size<=i:=by
    rcases oE i (items.toList.zip bu.toList).length with h'|h'
    ·rw[sT h']at hz;cases hz
    ·exact ru ▸ h'
   rw[show min items.size bu.size - i=0 by omega,eB]at ei
   wp_walk
   exact⟨_,rfl,by simpa[Builtin.Tuple.tupleCompareSizes] using ei⟩
  case h=>
   exact⟨rfl,rfl,0,rfl,by simp,by simpa using h⟩
theorem kA.tuples{A:cg}{s:aw}{l b:Addr}{items bu:Array Value}{e c:Nat->Bool}(aB:s.heap.IsTuple l items)(af:s.heap.IsTuple b bu)(bg:A.units<bO)
 (he:∀ j (ae:j<items.size) (ag:j<bu.size),EqAt A.in1 s items[j] bu[j] (e j))
 (aA:∀ j (ae:j<items.size) (ag:j<bu.size),(∀ i,i<j->e i=true)->e j=false->kA A.in1 s items[j] bu[j] (c j)) :
 kA A s (.ref l) (.ref b) (eB e c (decide (items.size<bu.size)) (min items.size bu.size) 0):=λ prog w E Q h=>by
 obtain⟨⟨cls,cC,data,cp⟩,aJ,mE,n,hd⟩:=id aB;obtain⟨⟨tC,ez,data2,fF⟩,e7,e8,de,hd2⟩:=id af;simp only at mE hd e8 hd2;subst mE hd e8 hd2
 exact zo (op:=.Lt) ⟨_,aJ,rfl⟩ ⟨_,e7,rfl⟩ F.slot_tuple_lt F.entry_tuple_lt (F.args_tuple_lt_2 _ _) (KD l b items bu n de cC ez cp fF e c)
  ⟨aJ,e7,he,aA,show Value.bool _≠Value.notImplemented/\Q _ s from⟨(λ x=>nomatch x),h⟩⟩ bg
mutual
noncomputable def bt:D->D->Option Bool
 |.int i,.int j=>some (decide (i<j))
 |.str a,.str b=>some (decide (a.cps.toList<b.cps.toList))
 |.tup ds,.tup es=>bR ds es
 |_,_=>none
noncomputable def bR:List D->List D->Option Bool
 |[],es=>some (decide (0<es.length))
 |_::_,[]=>some false
 |d::ds,e::es=>if bL d e then bR ds es else bt d e
end
theorem w3(e c:Nat->Bool)(fin:Bool):∀ n i,eB e c fin n (i+1)=eB (λ k=>e (k+1)) (λ k=>c (k+1)) fin n i
 |0,_=>rfl
 |n+1,i=>by rw[eB,eB,w3 e c fin n (i+1)]
theorem w4(d e:D)(ds es:List D):(λ k=>d0 (d::ds) (e::es) (k+1))=d0 ds es:=by funext j;simp[d0]
theorem w5{b:Bool}:∀{ds es:List D},bR ds es=some b->eB (d0 ds es) (λ _=>b) (decide (ds.length<es.length)) (min ds.length es.length) 0=b
 | [],es,h=>by
  rw[bR]at h;simp only[j1,Nat.zero_min,eB];exact eH.inj h
 | _::_,[],h=>by
  rw[bR]at h;simp only[j1,Nat.min_zero,eB];cases h;simp
 | d::ds,e::es,h=>by
  rw[bR]at h;rw[eG,eG,Nat.succ_min_succ,eB,w3,w4,show d0 (d::ds) (e::es) 0=bL d e from rfl];by_cases c:bL d e=true
  ·rw[if_pos c]at h ⊢;have z:=w5 h;simpa using z
  ·rw[if_neg c]
theorem uE{b:Bool}:∀{ds es:List D}{j:Nat},bR ds es=some b->j<ds.length->j<es.length->(∀ i,i<j->d0 ds es i=true)->d0 ds es j=false->∃ d e,ds[j]?=some d/\es[j]?=some e/\bt d e=some b
 |[],_,_,_,h,_,_,_=>by simp at h
 |_::_,[],_,_,_,h,_,_=>by simp at h
 | d::ds,e::es,0,h,_,_,_,bm=>by
  rw[bR,if_neg (by rw[show bL d e=false from bm];decide)]at h;exact⟨d,e,rfl,rfl,h⟩
 | d::ds,e::es,j+1,h,ae,ag,au,bm=>by
  rw[bR,if_pos (show bL d e=true from au 0 (by omega))]at h;have e1:=w4 d e ds es;obtain⟨d',bz,g1,g2,g3⟩:=uE (ds:=ds) (es:=es) (j:=j) h (by simpa using ae) (by simpa using ag) (λ i dr=>by rw[<- e1];exact au (i+1) (by omega)) (by rw[<- e1];exact bm);exact⟨d',bz,g1,g2,g3⟩
section
variable{X:aQ}{pins:List (Addr×Obj)}{σ:L2.St}{H:am}{s:aw}
mutual
theorem B1(I:Inv X pins σ H s):∀(d e:D)(b:Bool)(A:cg)(x y:V)(u v:Value),d.data=true->e.data=true->ck X.K H d x->ck X.K H e y->RelV x u->RelV y v->A.units+d.bU<bO->bt d e=some b->kA A s u v b
 | .tup ds,e,b,A,x,y,u,v,hd,he,aI,aN,cD,aM,bg,af=>by
  obtain⟨es,rfl⟩:∃ es,e=.tup es:=by cases e<;>first|exact⟨_,rfl⟩|(simp[bt]at af)
  obtain⟨a,vs,rfl,s1,aG⟩:=aI;cases cD;obtain⟨ao,bC,t1,_⟩:=I.tuple s1;obtain⟨a2,us,rfl,s2,aR⟩:=aN;cases aM;obtain⟨bx,b3,b8,_⟩:=I.tuple s2;have dY:=bC.length;have dS:=b3.length;have f7:=aG.len;have fR:=aR.len;rw[bt]at af;simp only[D.bU]at bg;simp only[D.data]at hd he
  have z:=kA.tuples (A:=A) (e:=d0 ds es) (c:=λ _=>b) t1 b8 (by omega) (λ j ae ag=>by
   have q:=lh I ds es A.in1 vs us ao bx hd he aG aR bC b3 (by show A.units+1+da ds<bO;omega) j (by simpa using ae) (by simpa using ag)
   simpa using q) (λ j ae ag au bm=>by
   have fx:j<ao.length:=by simpa using ae
   have jD:j<bx.length:=by simpa using ag
   obtain⟨d,e,g1,g2,g3⟩:=uE af (by omega) (by omega) au bm;have q:=w6 I ds es A.in1 vs us ao bx hd he aG aR bC b3 (by show A.units+1+da ds<bO;omega) j fx jD d e b g1 g2 g3
   simpa using q)
  have jJ:eB (d0 ds es) (λ _=>b) (decide (ao.toArray.size<bx.toArray.size)) (min ao.toArray.size bx.toArray.size) 0=b:=by
   rw[bN,bN,<- dY,<- dS,f7,fR];exact w5 af
  rw[jJ]at z;exact z
 | .int i,e,b,A,x,y,u,v,_,_,aI,aN,cD,aM,_,af=>by
  obtain⟨j,rfl⟩:∃ j,e=.int j:=by cases e<;>first|exact⟨_,rfl⟩|(simp[bt]at af)
  cases aI;cases aN;obtain⟨t,rfl⟩:=cD;obtain⟨t',rfl⟩:=aM;rw[bt]at af;cases af;exact λ prog w E Q h=>PyProof.Rows.lt_int h
 | .str i,e,b,A,x,y,u,v,_,_,aI,aN,cD,aM,_,af=>by
  obtain⟨j,rfl⟩:∃ j,e=.str j:=by cases e<;>first|exact⟨_,rfl⟩|(simp[bt]at af)
  cases aI;cases aN;obtain⟨t,rfl⟩:=cD;obtain⟨t',rfl⟩:=aM;rw[bt]at af;cases af;exact λ prog w E Q h=>PyProof.Rows.lt_str h
 |.bo,e,b,A,x,y,u,v,_,_,_,_,_,_,_,af=>by simp[bt]at af
 |.aW _,e,b,A,x,y,u,v,_,_,_,_,_,_,_,af=>by simp[bt]at af
 |.ref _,e,b,A,x,y,u,v,h,_,_,_,_,_,_,_=>by simp[D.data]at h
 |.ty _,e,b,A,x,y,u,v,h,_,_,_,_,_,_,_=>by simp[D.data]at h
 |.c1 _,e,b,A,x,y,u,v,h,_,_,_,_,_,_,_=>by simp[D.data]at h
theorem w6(I:Inv X pins σ H s):∀(ds es:List D)(A:cg)(vs us:List V)(ao bx:List Value),cw ds=true->cw es=true->br X.K H ds vs->br X.K H es us->Vals vs ao->Vals us bx->A.units+da ds<bO →
 ∀ j (ae:j<ao.length) (ag:j<bx.length) d e b,ds[j]?=some d->es[j]?=some e->bt d e=some b->kA A s ao[j] bx[j] b
 |[],es,A,vs,us,ao,bx,_,_,_,_,_,_,_,j,ae,ag,d,e,b,g1,_,_=>by cases g1
 |_::_,[],A,vs,us,ao,bx,_,_,_,_,_,_,_,j,ae,ag,d,e,b,_,g2,_=>by cases g2
 | jf::ds,cQ::es,A,vs,us,ao,bx,hd,he,⟨v,r,e,q,t⟩,⟨h4,bK,bz,fO,t'⟩,bC,b3,bg,j,ae,ag,ec,e1,b,g1,g2,g3=>by
  subst e bz
  cases bC with
  | cons aG rt=>
   cases b3 with
   | cons aR jK=>
    simp only[da]at bg;simp only[cw,ZB]at hd he
    cases j with
    | zero=>
     cases g1;cases g2;exact B1 I jf cQ b A _ _ _ _ hd.1 he.1 q fO aG aR (by omega) g3
    | succ j=>
     have z:=w6 I ds es A _ _ _ _ hd.2 he.2 t t' rt jK (by omega) j (by simpa using ae) (by simpa using ag) ec e1 b g1 g2 g3;simpa using z
end
end
end L3
namespace L2
open PySem PySem.W PyProof.Rows
noncomputable abbrev dH(n:Nat)(p:Array Nat):Prop:=p.toList.Perm (gf n)
theorem ii{n:Nat}{p:Array Nat}(h:dH n p)(aS:0<n)(k:Nat):p.getD k 0<n:=by
 by_cases c:k<p.size
 ·have e:p.getD k 0=p[k]:=by simp[s7,c]
  rw[e];exact lR.mp (h.mem_iff.mp (Array.mem_toList_iff.mpr (Array.getElem_mem c)))
 ·rw[show p.getD k 0=0 by simp[s7,c]];exact aS
theorem rx{n:Nat}{p:Array Nat}(h:dH n p)(i j:Nat):dH n (mT p i j):=(Array.perm_iff_toList_perm.mp (mirror_perm p i j _)).trans h
theorem KF{n:Nat}{p:Array Nat}(h:dH n p)(i j:Nat):dH n (ox p i j):=(Array.perm_iff_toList_perm.mp (bubble_perm p i j)).trans h
noncomputable abbrev ll(h:bF)(a:Addr)(vs:List Value):bF:=((h.update a (Obj.mapSeq λ _=>#[])).push (bG "tuple" vs.toArray 0)).push (bG "list" #[] 0)
noncomputable abbrev pp(h:bF)(vs:List Value):bF:=ll (((h.push (bG "list" #[] 0)).update h.objs.size (Obj.mapSeq (·++vs.toArray))).push (bG "list" vs.toArray 0)) (h.objs.size+1) vs
end L2
namespace L3
open PySem PySem.Spec PySem.W PyProof.Rows L2
section
variable{X:aQ}{pins:List (Addr×Obj)}{σ:L2.St}{H:am}{s:aw}
theorem B2(I:Inv X pins σ H s){prog:bX}{w:bJ}{A:cg}{b fin r:Bool}{Q:Bool->aw->Prop}(q:Q r s):∀(ds es:List D)(vs us:List V)(ao bx:List Value)(i:Nat),0<i->cw ds=true->cw es=true->br X.K H ds vs->br X.K H es us->Vals vs ao->Vals us bx->A.units+da ds<bO->bR ds es=some r->fin=decide (ds.length<es.length)->KatLex prog w A b fin Q (ao.zip bx) i s
 | [],es,vs,us,ao,bx,i,_,_,_,e,_,bC,_,_,h,hf=>by
  rw[show vs=[] from e]at bC;cases bC;rw[bR]at h
  have e1:fin=r:=by rw[hf];exact eH.inj h
  exact kat_nil (by rw[e1];exact q)
 | _::_,[],vs,us,ao,bx,i,_,_,_,_,e,_,b3,_,h,hf=>by
  rw[show us=[] from e]at b3;cases b3;rw[bR]at h
  have e1:fin=r:=by rw[hf];cases h;simp
  rw[List.zip_nil_right];exact kat_nil (by rw[e1];exact q)
 | d::ds,e::es,vs,us,ao,bx,i,au,hd,he,⟨v,aG,e1,aD,t1⟩,⟨h4,PB,qK,B3,pq⟩,bC,b3,bg,h,hf=>by
  subst e1 qK
  cases bC with
  | cons a1 rt=>
   cases b3 with
   | cons a2 jK=>
    simp only[da]at bg;simp only[cw,ZB]at hd he;rw[bR]at h;refine kat_cons (rp I d e A _ _ _ _ hd.1 he.1 aD B3 a1 a2 (by omega) prog w _ _ ?_)
    cases c:bL d e with
    | true=>
     rw[if_pos c]at h;exact kat_yes (B2 I q ds es _ _ _ _ (i+1) (by omega) hd.2 he.2 t1 pq rt jK (by omega) h (by rw[hf];simp))
    | false=>
     rw[if_neg (by rw[c];decide)]at h;refine kat_no ?_;rw[show (b&&i==0)=false by rw[show (i==0)=false from by simp;omega];simp];exact kat_one _ _ (B1 I d e r A _ _ _ _ hd.1 he.1 aD B3 a1 a2 (by omega) h prog w _ _ q)
theorem KG(I:Inv X pins σ H s){prog:bX}{w:bJ}{A:cg}{E:Value->aw->Prop}{r:Bool}{Q:Bool->aw->Prop}(q:Q r s){z cU:Str}{ds es:List D}{x y:V}{u v:Value}(hd:cw ds=true)(he:cw es=true)(aI:ck X.K H (.tup (.str z::ds)) x)(aN:ck X.K H (.tup (.str cU::es)) y)(cD:RelV x u)(aM:RelV y v)
 (bg:A.units+da ds<bO) (h:bt (.tup (.str z::ds)) (.tup (.str cU::es))=some r):aT (a5 prog w) A (keyLt' (tuples' true) u v) Q E s:=by
 obtain⟨a,vs,rfl,s1,aG⟩:=aI;cases cD;obtain⟨ao,bC,t1,_⟩:=I.tuple s1;obtain⟨a2,us,rfl,s2,aR⟩:=aN;cases aM;obtain⟨bx,b3,b8,_⟩:=I.tuple s2;obtain⟨o,aJ,aA,n,w7⟩:=id t1;obtain⟨dT,e7,e8,de,KH⟩:=id b8;rw[bt,bR]at h;obtain⟨v,bK,e1,aD,pq⟩:=aG;obtain⟨v2,PC,aP,bw,B4⟩:=aR;subst e1 aP;cases aD;cases bw
 cases bC with
 | cons a1 rt=>
  cases b3 with
  | cons lm jK=>
   obtain⟨t,rfl⟩:=a1;obtain⟨t',rfl⟩:=lm;have dY:=rt.length;have dS:=jK.length;have f7:=pq.len;have fR:=B4.len;refine kat_lt aJ w7 e7 KH ?_;refine kat_cons (rp I (.str z) (.str cU) A _ _ _ _ rfl rfl rfl rfl ⟨t,rfl⟩ ⟨t',rfl⟩ (by simp only[D.bU];omega) prog w _ _ ?_)
   cases c:bL (.str z) (.str cU) with
   | true=>
    rw[if_pos c]at h;exact kat_yes (B2 I q ds es _ _ _ _ 1 (by omega) hd he pq B4 rt jK bg h (by simp;omega))
   | false=>
    rw[if_neg (by rw[c];decide),bt]at h;cases h;exact kat_no (oneLt_str q)
end
noncomputable def w8(d:D):Prop:=∃ z r,d=.tup (.str z::r)/\cw r=true/\da r<=150
section
variable{X:aQ}{pins:List (Addr×Obj)}{σ:L2.St}{H:am}{s:aw}
theorem B5(I:Inv X pins σ H s):∀(ds:List D)(vs:List V)(ao:List Value),(∀ d∈ds,w8 d)->br X.K H ds vs->Vals vs ao->∃ bl,KatTups s.heap ao bl/\bl.length=ao.length/\∀ v∈bl,∃ z t,v=Value.str z t
 | [],vs,ao,_,e,bC=>by
  rw[show vs=[] from e]at bC;cases bC;exact⟨[],.nil,rfl,by simp⟩
 | d::ds,vs,ao,ar,⟨v,aG,e1,aD,t1⟩,bC=>by
  subst e1
  cases bC with
  | cons a1 rt=>
   obtain⟨bl,cz,b2,ij⟩:=B5 I ds _ _ (λ d h=>ar d (dM _ h)) t1 rt;obtain⟨z,r,rfl,-,-⟩:=ar d (dk ..);obtain⟨a,ry,rfl,s1,aR⟩:=aD;cases a1;obtain⟨its',KI,pq,_⟩:=I.tuple s1;obtain⟨v2,oX,aP,bw,-⟩:=aR;subst aP;cases bw;obtain⟨o,aJ,aA,n,w7⟩:=id pq
   cases KI with
   | cons a2 jK=>
    obtain⟨t,rfl⟩:=a2
    exact⟨_::bl,.cons aJ aA w7 rfl cz,by simp[b2],λ v bh=>by
     rcases fq.mp bh with rfl|bh
     ·exact⟨z,t,rfl⟩
     ·exact ij v bh⟩
theorem KJ(I:Inv X pins σ H s){M:Model}{A:cg}{E:Value->aw->Prop}{ds:List D}{vs:List V}{ao:List Value}{R:ow->aw->Prop}(ar:∀ d∈ds,w8 d)(az:br X.K H ds vs)(bC:Vals vs ao)(aS:0<ao.length)(h:R (tuples' true) s):aT M A (keyKind' ao.toArray) R E s:=by
 obtain⟨bl,cz,b2,ij⟩:=B5 I ds vs ao ar az bC;refine kat_kind (T:=.type "str") cz (by omega) (λ v bh=>?_) rfl h;obtain⟨z,t,rfl⟩:=ij v bh;exact Looks.of_pure rfl
end
theorem KL{h:bF}{vs:List Value}{b:Addr}{o:Obj}(af:h.get? b=some o):(pp h vs).get? b=some o:=by
 have mF:b<h.objs.size:=c7 af;have ae:(h.push (bG "list" #[] 0)).get? b=some o:=dA _ af
 have ag:((h.push (bG "list" #[] 0)).update h.objs.size (Obj.mapSeq (·++vs.toArray))).get? b=some o:=by
  rw[hk _ _ _ _ (dJ mF)];exact ae
 have bc:=dA (bG "list" vs.toArray 0) ag;refine dA _ (dA _ ?_);rw[hk _ _ _ _ (show b≠h.objs.size+1 from dJ (lU mF))];exact bc
inductive uF where
 |is (n:Int)
 |some
 |both (a b:uF)
noncomputable def Tm.B6:Tm->uF
 |.whole n=>.is n
 |.pair a b=>.both a.B6 b.B6
 |_=>.some
noncomputable def Tm.PD:Tm->List uF->uF
 |.whole n,_=>.is n
 |.pair _ _,[x,y]=>.both x y
 |_,_=>.some
inductive bE:D->Prop
 |is (n:Int):bE (.tup [.str "is",.int n])
 |some:bE (.tup [.str "some"])
 |both {a b:D}:bE a->bE b->bE (.tup [.str "both",a,b])
 |left {a:D}:bE a->bE (.tup [.str "left",a])
 |right {a:D}:bE a->bE (.tup [.str "right",a])
 |way {ds:List D} {k:D}:(∀ d∈ds,bE d)->bE k->bE (.tup [.str "way",.tup ds,k])
theorem pr:∀{ds:List D},(∀ d∈ds,d.data=true)->cw ds=true
 |[],_=>rfl
 |d::ds,h=>by rw[cw,h d (dk ..),pr λ e he=>h e (dM _ he)];rfl
theorem bE.data{d:D}(h:bE d):d.data=true:=by
 induction h with
 |is n=>rfl
 |some=>rfl
 |both _ _ ae ag=>simp only[D.data,cw,ae,ag];rfl
 |left _ ae=>simp only[D.data,cw,ae];rfl
 |right _ ae=>simp only[D.data,cw,ae];rfl
 |way _ _ ae ag=>simp only[D.data,cw,pr ae,ag];rfl
theorem B7:∀{ds es:List D},(∀ d∈ds,∀ e∈es,(bt d e).isSome=true)->(bR ds es).isSome=true
 |[],_,_=>by rw[bR];rfl
 |_::_,[],_=>by rw[bR];rfl
 | d::ds,e::es,h=>by
  rw[bR];split
  ·exact B7 λ d hd e he=>h d (dM _ hd) e (dM _ he)
  ·exact h d (dk ..) e (dk ..)
theorem nU{z cU:Str}{ds es:List D}(h:z=cU->(bR ds es).isSome=true):(bt (.tup (.str z::ds)) (.tup (.str cU::es))).isSome=true:=by
 rw[bt,bR];split
 ·next c=>exact h (by simpa[bL] using c)
 ·rw[bt];rfl
theorem nV{a b:D}{ds es:List D}(h:(bt a b).isSome=true)(ag:(bR ds es).isSome=true):(bR (a::ds) (b::es)).isSome=true:=by
 rw[bR];split
 ·exact ag
 ·exact h
theorem bE.lt{d:D}(h:bE d):∀{e:D},bE e->(bt d e).isSome=true:=by
 induction h with
 |is n=>intro e he;cases he<;>refine nU λ c=>?_<;>first|(exact absurd c (by decide))|(exact nV rfl rfl)
 |some=>intro e he;cases he<;>refine nU λ c=>?_<;>first|(exact absurd c (by decide))|rfl
 |both _ _ ae ag=>intro e he;cases he<;>refine nU λ c=>?_<;>first|(exact absurd c (by decide))|exact nV (ae ‹_›) (nV (ag ‹_›) rfl)
 |left _ ae=>intro e he;cases he<;>refine nU λ c=>?_<;>first|(exact absurd c (by decide))|exact nV (ae ‹_›) rfl
 |right _ ae=>intro e he;cases he<;>refine nU λ c=>?_<;>first|(exact absurd c (by decide))|exact nV (ae ‹_›) rfl
 | way _ _ ae ag=>
  intro e he
  cases he with
  |way g1 g2=>exact nU λ _=>nV (by rw[bt];exact B7 λ d hd e he=>ae d hd (g1 e he)) (nV (ag g2) rfl)
  |_=>exact nU λ c=>absurd c (by decide)
theorem bE.w9{d:D}(h:bE d)(hd:d.bU<=150):w8 d:=by
 have ak:=h.data;cases h<;>exact⟨_,_,rfl,by simpa[D.data,cw] using ak,by simp only[D.bU,da]at hd ⊢;omega⟩
noncomputable def uG(d:D):Bool:=match d with
 |.tup (.str z::_)=>z=="is"||z=="some"||z=="both"
 |_=>false
noncomputable def B8:ih:=λ ds G Q=>∃ a,ds=[.ref a]/\e9 G a/\∀ n aj,d8 a G aj->Q (.int n) aj
theorem bE.head{d:D}(h:bE d):∃ z r,d=.tup (.str z::r)/\r.length<=2:=by
 cases h<;>exact⟨_,_,rfl,by simp⟩
theorem KM{ds:List D}{i:Int}{G:aC}{Q:bS}(h0:0<=i)(ae:i<ds.length)(h:∀ d∈ds,Q d G):atS ds i G Q:=by
 obtain⟨n,rfl⟩:∃ n:Nat,i=n:=⟨i.toNat,by omega⟩
 have aB:n<ds.length:=by omega
 exact ux (t2 (d:=ds[n]) (mb (cN aB)) (h _ (mX aB)))
theorem B9{α:Type}(a:Addr)(w_:α->D)(P:α->Prop){J:jF}{G1:aC}{g:fk}{a0:bV}{nt:Nat}{cap:List Nat}{ρ:dy}{Q:bS}(hz:J.items.length<=1000)(held:∀ G,J.held G)(fG:e9 G1 a)
 (turn:∀ d G (R:bS),e9 G a->(∀ x aj,(∃ bZ,d8 a G bZ/\Sub bZ aj)->P x->R (w_ x) aj)->g d (hO nt cap ρ) G λ ρ3 bP=>a0 ρ3 bP R)
 (q:∀(xs:List α) aj,xs.length=J.items.length->(∀ x∈xs,P x)->d8 a G1 aj->∀ p,aj p=none->Q (.ref p) (up aj p (.lst (xs.map w_)))):rd g a0 nt cap ρ Q J G1:=by
 refine wR (λ i ds aj=>∃ xs:List α,ds=xs.map w_/\xs.length=i/\(∀ x∈xs,P x)/\d8 a G1 aj) (gp (by omega)) ⟨[],rfl,rfl,by simp,.refl fG⟩ (λ _ _ _ _ _=>held _) ?_ ?_
 ·rintro i d ds aj hd ⟨xs,rfl,xa,ak,u⟩
  refine turn d aj _ u.fd λ x aL ⟨bZ,d6,s2⟩ ai=>⟨bZ,s2,xs++[x],by simp,by simp[xa],λ y a9=>?_,u.trans d6⟩
  rcases fL.mp a9 with a9|a9
  ·exact ak y a9
  ·simp at a9;subst a9;exact ai
 ·rintro ds aj ⟨xs,rfl,xa,ak,u⟩ p ai;exact q xs aj xa ak u p ai
theorem ps{n:Nat}:∀{ds:List D},(∀ d∈ds,d.bU<=n)->da ds<=n
 |[],_=>fB _
 | d::ds,h=>by
  have ae:=h d (dk ..);have ag:=ps λ e he=>h e (dM _ he);rw[da];omega
theorem KN{ds:List D}{x:D}{i:Nat}{P:D->Prop}(h:∀ d∈ds,P d)(ak:P x):∀ d∈ds.set i x,P d:=λ d hd=>by
 rcases List.mem_or_eq_of_mem_set hd with ae|rfl
 ·exact h d ae
 ·exact ak
theorem pv{a:Addr}{G G1 bZ dD:aC}(h:∀ b o,b≠a->G b=some o->G1 b=some o)(u:d8 a G1 bZ)(s:Sub bZ dD):∃ bZ,d8 a G bZ/\Sub bZ dD:=by
 obtain⟨x,y,rfl⟩:=u;refine⟨_,.mk (x:=x) (y:=y),λ b o e=>?_⟩;by_cases c:b=a
 ·subst c;rw[bI]at e;exact s _ _ (by rw[bI];exact e)
 ·rw[cv c]at e;exact s _ _ (by rw[cv c];exact h b o c e)
end L3
namespace L2
open PySem PySem.W PyProof.Rows
noncomputable def ej(n:Nat)(lt:Nat->Nat->Bool){α:Type}(P:α->Prop):KasT α->Prop
 |.ret a=>P a
 |.ask i j k=>i<n/\j<n/\ej n lt P (k (lt i j))
theorem ej.bind{n:Nat}{lt:Nat->Nat->Bool}{α β:Type}{P:α->Prop}{R:β->Prop}{f:α->KasT β}(h:∀ a,P a->ej n lt R (f a)):∀{t:KasT α},ej n lt P t->ej n lt R (t.bind f)
 |.ret a,g=>h a g
 |.ask _ _ k,g=>⟨g.1,g.2.1,ej.bind h g.2.2⟩
theorem ej.mono{n:Nat}{lt:Nat->Nat->Bool}{α:Type}{P R:α->Prop}(h:∀ a,P a->R a):∀{t:KasT α},ej n lt P t->ej n lt R t
 |.ret a,g=>h a g
 |.ask _ _ k,g=>⟨g.1,g.2.1,ej.mono h g.2.2⟩
theorem ej.wp{n:Nat}{α:Type}{P:α->Prop}{cmp:Nat->Nat->(Bool->aw->Prop)->aw->Prop}{G:α->aw->Prop}{s:aw}{lt:Nat->Nat->Bool}(aA:∀ i j C,i<n->j<n->C (lt i j) s->cmp i j C s)(B_:∀ a,P a->G a s):∀{t:KasT α},ej n lt P t->t.kasWp cmp G s
 |.ret a,g=>B_ a g
 |.ask i j k,g=>aA i j _ g.1 g.2.1 (ej.wp aA B_ g.2.2)
structure mG(lt:Nat->Nat->Bool):Prop where
 ht:∀ a,lt a a=false
 neg:∀ a b c,lt a b=false->lt b c=false->lt a c=false
 pw:∀ a b,lt a b=true->lt b a=false
noncomputable abbrev gt(p:Array Nat)(i:Nat):Nat:=p.getD i 0
noncomputable def d3(lt:Nat->Nat->Bool)(p:Array Nat)(k:Nat):Prop:=∀ i j,i<j->j<k->lt (gt p j) (gt p i)=false
noncomputable def lp(lt:Nat->Nat->Bool)(p:Array Nat)(k:Nat):Prop:=∀ i j,i<j->j<k->lt (gt p i) (gt p j)=false
theorem rz{p q:Array Nat}{i j:Nat}(h:p[i]?=q[j]?):gt p i=gt q j:=by
 unfold gt;rw[Array.getD_eq_getD_getElem?,Array.getD_eq_getD_getElem?,h]
section
variable{n:Nat}(aS:0<n){lt:Nat->Nat->Bool}(O:mG lt)
include aS O
theorem Ca{p:Array Nat}{m:Nat}(hm:1<=m)(h:d3 lt p m)(c:lt (gt p m) (gt p (m - 1))=false):d3 lt p (m+1):=λ i j gh bm=>by
 by_cases e:j=m
 ·subst e;by_cases aP:i=j - 1
  ·subst aP;exact c
  ·exact O.neg _ _ _ c (h i (j - 1) (by omega) (by omega))
 ·exact h i j gh (by omega)
theorem Cb{p:Array Nat}(ai:dH n p):∀ f m,1<=m->d3 lt p m->ej n lt (λ r=>d3 lt p r/\m<=r/\r<=m+f) (kas_asc p f m)
 |0,m,_,h=>⟨h,b6 _,by omega⟩
 | f+1,m,hm,h=>by
  refine⟨ii ai aS _,ii ai aS _,?_⟩
  cases c:lt (p.getD m 0) (p.getD (m - 1) 0) with
  |true=>exact⟨h,b6 _,by omega⟩
  |false=>exact ej.mono (λ r ⟨ae,ag,bc⟩=>⟨ae,by omega,by omega⟩) (Cb ai f (m+1) (by omega) (Ca aS O hm h c))
theorem xb{p:Array Nat}(ai:dH n p){k:Nat}(aq:d3 lt p k):∀ f l r,l<=r->r<=k->r - l<=f->(∀ i,i<l->lt (gt p k) (gt p i)=false)->(∀ i,r<=i->i<k->lt (gt p k) (gt p i)=true) →
 ej n lt (λ m=>m<=k/\(∀ i,i<m->lt (gt p k) (gt p i)=false)/\∀ i,m<=i->i<k->lt (gt p k) (gt p i)=true) (kas_place p k f l r)
 | 0,l,r,ae,ag,bc,cj,di=>by
  have e:l=r:=by omega
  subst e;exact⟨ag,cj,di⟩
 | f+1,l,r,ae,ag,bc,cj,di=>by
  rw[kas_place];split
  ·next c=>
   have e:l=r:=by omega
   subst e;exact⟨ag,cj,di⟩
  ·next c=>
   refine⟨ii ai aS _,ii ai aS _,?_⟩
   cases d:lt (p.getD k 0) (p.getD ((l+r) / 2) 0) with
   | true=>
    refine xb ai aq f l ((l+r) / 2) (by omega) (by omega) (by omega) cj λ i au Cc=>?_;by_cases e:i=(l+r) / 2
    ·subst e;exact d
    ·have z:=aq ((l+r) / 2) i (by omega) Cc
     cases w:lt (gt p k) (gt p i) with
     |true=>rfl
     |false=>exact absurd d (by rw[O.neg _ _ _ w z];decide)
   | false=>
    refine xb ai aq f ((l+r) / 2+1) r (by omega) (by omega) (by omega) (λ i au=>?_) di;by_cases e:i=(l+r) / 2
    ·subst e;exact d
    ·exact O.neg _ _ _ d (aq i ((l+r) / 2) (by omega) (by omega))
theorem KO{p:Array Nat}{k m:Nat}(ar:k<p.size)(hm:m<=k)(h:d3 lt p k)(cj:∀ i,i<m->lt (gt p k) (gt p i)=false)(di:∀ i,m<=i->i<k->lt (gt p k) (gt p i)=true):d3 lt (ox p k (k - m)) (k+1):=by
 have e:∀ i,gt (ox p k (k - m)) i=if i=m then gt p k else if m<i/\i<=k then gt p (i - 1) else gt p i:=λ i=>by
  have z:=getElem?_bubble ar (k - m) (by omega) i;rw[show k - (k - m)=m by omega]at z;by_cases c:i=m
  ·rw[if_pos c]at z ⊢;exact rz z
  ·rw[if_neg c]at z ⊢;by_cases d:m<i/\i<=k
   ·rw[if_pos d]at z ⊢;exact rz z
   ·rw[if_neg d]at z ⊢;exact rz z
 intro i j gh bm
 have low:∀ i,i<m->gt (ox p k (k - m)) i=gt p i:=λ i au=>by rw[e i,if_neg (by omega),if_neg (by omega)]
 have mid:gt (ox p k (k - m)) m=gt p k:=by rw[e m,if_pos rfl]
 have high:∀ i,m<i->i<=k->gt (ox p k (k - m)) i=gt p (i - 1):=λ i au aq=>by rw[e i,if_neg (by omega),if_pos ⟨au,aq⟩]
 rcases Nat.lt_trichotomy i m with d7|d7|d7
 ·rw[low i d7];rcases Nat.lt_trichotomy j m with cR|cR|cR
  ·rw[low j cR];exact h i j gh (by omega)
  ·rw[cR,mid];exact cj i d7
  ·rw[high j cR (by omega)];exact h i (j - 1) (by omega) (by omega)
 ·subst d7;rw[mid,high j gh (by omega)];exact O.pw _ _ (di (j - 1) (by omega) (by omega))
 ·rw[high i d7 (by omega),high j (by omega) (by omega)];exact h (i - 1) (j - 1) (by omega) (by omega)
theorem Cd:∀ f (p:Array Nat) k,dH n p->k+f=n->d3 lt p k->ej n lt (λ q=>dH n q/\d3 lt q n) (kas_bin f p k)
 |0,p,k,ai,he,h=>⟨ai,by rw[<- he];exact h⟩
 | f+1,p,k,ai,he,h=>by
  refine ej.bind (λ m ⟨ae,ag,bc⟩=>?_) (xb aS O ai h k 0 k (by omega) (by omega) (by omega) (λ i au=>by omega) (λ i au Cc=>by omega))
  have hsz:p.size=n:=by
   have:=ai.length_eq;simpa using this
  exact Cd f _ (k+1) (KF ai _ _) (by omega) (KO aS O (by omega) ae h ag bc)
omit aS O in
theorem rA{p:Array Nat}(h:dH n p):p.size=n:=by
 have:=h.length_eq;simpa using this
omit aS O in
theorem lq{p:Array Nat}{i j k:Nat}(bm:j<=p.size):gt (mT p i j) k=if i<=k/\k<j then gt p (i+j - 1 - k) else gt p k:=by
 have z:=getElem?_mirror_all (i:=i) bm k;by_cases c:i<=k/\k<j
 ·rw[if_pos c]at z ⊢;exact rz z
 ·rw[if_neg c]at z ⊢;exact rz z
structure xc(n:Nat)(lt:Nat->Nat->Bool)(p:Array Nat)(m q:Nat):Prop where
 pm:dH n p
 mH:lp lt p m
 le:m<=n
 aD:q+1<=m
 al:∀ i,m - (q+1)<=i->i<m->lt (gt p (m - 1)) (gt p i)=false
omit aS in
theorem xd{p:Array Nat}{m i:Nat}(h:lp lt p m)(au:i<m):lt (gt p i) (gt p (m - 1))=false:=by
 by_cases c:i=m - 1
 ·subst c;exact O.ht _
 ·exact h i (m - 1) (by omega) (by omega)
omit aS in
theorem Ce{p:Array Nat}{m q:Nat}(F:xc n lt p m q):lp lt (mT p (m - (q+1)) m) m:=λ i j gh bm=>by
 have ar:m<=p.size:=by rw[rA F.pm];exact F.le
 have aU:=F.aD;rw[lq ar,lq ar];by_cases cR:m - (q+1)<=j/\j<m
 ·rw[if_pos cR];by_cases d7:m - (q+1)<=i/\i<m
  ·rw[if_pos d7];exact O.neg _ _ _ (xd O F.mH (by omega)) (F.al _ (by omega) (by omega))
  ·rw[if_neg d7];exact F.mH _ _ (by omega) (by omega)
 ·rw[if_neg cR,if_neg (by omega)];exact F.mH i j gh bm
omit aS in
theorem uH{p:Array Nat}{m:Nat}(h:lp lt p m){x:Nat}(ak:∀ i,i<m->lt (gt p i) x=false)(e:gt p m=x):lp lt p (m+1):=λ i j gh bm=>by
 by_cases c:j=m
 ·subst c;rw[e];exact ak i gh
 ·exact h i j gh (by omega)
theorem uI:∀ f p m q,m+f<=n->xc n lt p m q->ej n lt (λ r:Array Nat×Nat×Nat=>xc n lt r.1 r.2.1 r.2.2) (kas_desc f p m q)
 |0,p,m,q,_,F=>F
 | f+1,p,m,q,hf,F=>by
  have aU:=F.aD
  have ar:m<=p.size:=by rw[rA F.pm];exact F.le
  refine⟨ii F.pm aS _,ii F.pm aS _,?_⟩
  cases c:lt (p.getD m 0) (p.getD (m - 1) 0) with
  | true=>
   have below:∀ i,i<m->lt (gt p i) (gt p m)=false:=λ i au=>O.neg _ _ _ (xd O F.mH au) (O.pw _ _ c);by_cases d:q > 0
   ·simp only[if_true,if_pos d]
    have uJ:∀ i,gt (mT p (m - (q+1)) m) i=if m - (q+1)<=i/\i<m then gt p (m - (q+1)+m - 1 - i) else gt p i:=λ i=>lq ar
    refine uI f _ (m+1) 0 (by omega) ⟨rx F.pm _ _,uH O (Ce O F) (x:=gt p m) (λ i au=>?_) (by rw[uJ,if_neg (by omega)]),by omega,by omega,λ i ae ag=>?_⟩
    ·rw[uJ];split
     ·exact below _ (by omega)
     ·exact below _ au
    ·rw[show i=m+1 - 1 by omega];exact O.ht _
   ·simp only[if_true,if_neg d];refine uI f _ (m+1) 0 (by omega) ⟨F.pm,uH O F.mH below rfl,by omega,by omega,λ i ae ag=>?_⟩;rw[show i=m+1 - 1 by omega];exact O.ht _
  | false=>
   refine⟨ii F.pm aS _,ii F.pm aS _,?_⟩
   cases d:lt (p.getD (m - 1) 0) (p.getD m 0) with
   |true=>exact F
   | false=>
    refine uI f _ (m+1) (q+1) (by omega) ⟨F.pm,uH O F.mH (x:=gt p m) (λ i au=>O.neg _ _ _ (xd O F.mH au) d) rfl,by omega,by omega,λ i ae ag=>?_⟩;rw[show m+1 - 1=m by omega];by_cases e:i=m
    ·subst e;exact O.ht _
    ·exact O.neg _ _ _ c (F.al i (by omega) (by omega))
omit aS in
theorem KP{p:Array Nat}{m:Nat}(ar:m<=p.size)(h:lp lt p m):d3 lt (mT p 0 m) m:=λ i j gh bm=>by
 rw[lq ar,lq ar,if_pos (by omega),if_pos (by omega)];exact h _ _ (by omega) (by omega)
theorem Cf{p:Array Nat}{m:Nat}(ai:dH n p)(hm:m<=n)(ae:1<=m)(h:lp lt p m):ej n lt (λ r:Nat×Array Nat=>dH n r.2/\d3 lt r.2 r.1/\1<=r.1/\r.1<=n) (kas_tail3 m n p):=by
 unfold kas_tail3;refine ej.bind (P:=λ r=>d3 lt (mT p 0 m) r/\m<=r/\r<=m+(n - m)) (R:=λ r:Nat×Array Nat=>dH n r.2/\d3 lt r.2 r.1/\1<=r.1/\r.1<=n) (λ r ⟨a,b,c⟩=>?_) (Cb aS O (rx ai 0 m) (n - m) m ae (KP O (by rw[rA ai];exact hm) h));exact⟨rx ai 0 m,a,by omega,by omega⟩
theorem Cg{p:Array Nat}{m:Nat}(ai:dH n p)(hm:m+1<=n)(h:lp lt p (m+1)):ej n lt (λ r:Nat×Array Nat=>dH n r.2/\d3 lt r.2 r.1/\1<=r.1/\r.1<=n) (kas_descPart m n p):=by
 refine ej.bind (λ r F=>?_) (uI aS O (n - (m+1)) p (m+1) 0 (by omega) ⟨ai,h,hm,by omega,λ i ae ag=>by rw[show i=m+1 - 1 by omega];exact O.ht _⟩);have aU:=F.aD;split
 ·exact Cf aS O (rx F.pm _ _) F.le (by omega) (Ce O F)
 ·exact Cf aS O F.pm F.le (by omega) F.mH
theorem Ch{p:Array Nat}(ai:dH n p):∀ f m,1<=m->d3 lt p m->ej n lt (λ r=>(d3 lt p r/\m<=r/\r<=m+f)/\(r<m+f->lt (gt p r) (gt p (r - 1))=true)) (kas_asc p f m)
 |0,m,_,h=>⟨⟨h,b6 _,by omega⟩,λ z=>by omega⟩
 | f+1,m,hm,h=>by
  refine⟨ii ai aS _,ii ai aS _,?_⟩
  cases c:lt (p.getD m 0) (p.getD (m - 1) 0) with
  |true=>exact⟨⟨h,b6 _,by omega⟩,λ _=>c⟩
  |false=>exact ej.mono (λ r ⟨⟨ae,ag,bc⟩,cj⟩=>⟨⟨ae,by omega,by omega⟩,λ z=>cj (by omega)⟩) (Ch ai f (m+1) (by omega) (Ca aS O hm h c))
theorem KQ{p:Array Nat}(ai:dH n p):ej n lt (λ r:Nat×Array Nat=>dH n r.2/\d3 lt r.2 r.1/\1<=r.1/\r.1<=n) (kas_count n p):=by
 refine ej.bind (λ m ⟨⟨ae,ag,bc⟩,cj⟩=>?_) (Ch aS O ai (n - 1) 1 (by omega) (λ i j gh bm=>by omega));split
 ·exact⟨ai,ae,by omega,by omega⟩
 ·next c=>
  have eT:m≠n:=λ e=>c (by simp[e]);have Ci:=cj (by omega);split
  ·next d=>
   refine⟨ii ai aS _,ii ai aS _,?_⟩
   cases w:lt (p.getD 0 0) (p.getD (m - 1) 0) with
   |true=>exact⟨ai,ae,by omega,by omega⟩
   | false=>
    have ar:m<=p.size:=by rw[rA ai];omega
    have PE:∀ i,i<m->lt (gt p (m - 1)) (gt p i)=false:=λ i au=>by
     by_cases e:i=m - 1
     ·subst e;exact O.ht _
     ·exact ae i (m - 1) (by omega) (by omega)
    have KR:∀ i,i<m->lt (gt p i) (gt p 0)=false:=λ i au=>by
     by_cases e:i=0
     ·subst e;exact O.ht _
     ·exact ae 0 i (by omega) au
    have KS:lp lt (mT p 0 m) m:=λ i j gh bm=>by
     rw[lq ar,lq ar,if_pos (by omega),if_pos (by omega)];exact ae _ _ (by omega) (by omega)
    refine Cg aS O (rx ai 0 m) (by omega) (uH O KS (x:=gt p m) (λ i au=>?_) (by rw[lq ar,if_neg (by omega)]));rw[lq ar,if_pos (by omega)];exact O.neg _ _ _ (O.neg _ _ _ (KR _ (by omega)) w) (O.pw _ _ Ci)
  ·next d=>
   have e:m=1:=by omega
   subst e;refine Cg aS O ai (by omega) λ i j gh bm=>?_;rw[show i=0 by omega,show j=1 by omega];exact O.pw _ _ Ci
theorem Cj:ej n lt (λ q=>dH n q/\d3 lt q n) (kas_sort n):=by
 refine ej.bind (λ r ⟨ae,ag,bc,cj⟩=>?_) (KQ aS O (p:=qa (gf n)) (by exact .refl _));split
 ·next c=>
  rw[show max r.1 1=r.1 by omega];exact Cd aS O (n - r.1) r.2 r.1 ae (by omega) ag
 ·next c=>
  have e:r.1=n:=by omega
  rw[e]at ag;exact⟨ae,ag⟩
end
theorem KU(vs:List Value):(gf vs.length).map (λ i=>vs.getD i Value.none)=vs:=by
 apply sU
 ·simp
 ·intro i ae ag;simp[gL,cN ag]
section
variable{prog:bX}{w:bJ}{A:cg}{E:Value->aw->Prop}{s:aw}
theorem KV{a:Addr}{vs:List Value}{n:Nat}{κ:ow}{lt:Nat->Nat->Bool}{P:PySem.Fin->aw->Prop}(aJ:s.heap.get? a=some (bG "list" vs.toArray n))(gq:vs.length<64)
 (aq:2<=vs.length->∀ Q:ow->aw->Prop,Q κ {s with heap:=ll s.heap a vs}->aT (a5 prog w) A (keyKind' vs.toArray) Q E {s with heap:=ll s.heap a vs})
 (aA:∀ i j C,i<vs.length->j<vs.length->C (lt i j) {s with heap:=ll s.heap a vs}->oy prog w A κ vs i j C {s with heap:=ll s.heap a vs})
 (O:mG lt) (h:∀ p:Array Nat,dH vs.length p->d3 lt p vs.length->P (.done (.ret .none)) {s with heap:=sortedHeap s.heap a vs (p.toList.map λ i=>vs.getD i Value.none).toArray}) :
 aT (a5 prog w) A (Builtin.«list.sort» ⟨[.ref a],[]⟩) P E s:=by
 rw[list_sort_plain];have az:a<s.heap.objs.size:=c7 aJ;refine ay (p6 aJ rfl ?_);refine ay (lP aJ rfl ?_ (hsz:=by rw[bN,d_];omega))
 obtain⟨e1,rB⟩:∃ e1,(s.heap.update a (Obj.mapSeq λ _=>#[])).get? a=some (bG "list" #[] e1):=⟨_,get?_update_seq aJ (λ _=>#[])⟩
 refine ay (p7 rB rfl ?_);refine ay (vz ?_);refine ay (on ?_);refine iT ?_
 have uK:(ll s.heap a vs).get? a=some (bG "list" #[] e1):=by
  rw[oI _ _ _ (by rw[mS,oJ];exact dJ (lU az)),oI _ _ _ (by rw[oJ];exact dJ az)];exact rB
 show aT (a5 prog w) A _ P E {s with heap:=ll s.heap a vs}
 dsimp only
 have hsz:vs.toArray.size=vs.length:=by simp
 by_cases ag:vs.toArray.size<2
 ·rw[if_pos ag,if_pos ag];refine ay (bq ?_);rw[StateT.run_pure];refine ay (bq ?_)
  dsimp only
  refine ay (p7 uK rfl ?_)
  have jM:(arrOf (SortSt.mk' general' (vs.toArray.zip vs.toArray) #[] 7 none)).map (·.2)=vs.toArray:=by
   show (vs.toArray.zip vs.toArray).map (·.2)=vs.toArray;apply Array.toList_inj.mp;rw[Array.toList_map,Array.toList_zip,List.map_snd_zip (b6 _)]
  rw[jM];refine ay (lP uK rfl ?_ (hsz2:=by show vs.toArray.size<=_;rw[hsz,d_];omega));simp only[bne_self_eq_false,kT,if_false];have z:=h (qa (gf vs.length)) (.refl _) (λ i j gh bm=>by omega);rw[show ((qa (gf vs.length)).toList.map λ i=>vs.getD i Value.none)=vs from KU vs]at z;exact bq z
 ·rw[if_neg ag,if_neg ag]
  have k0:2<=vs.length:=by omega
  refine ay (aq k0 _ ?_)
  refine ay (gw (kat_run (ks:=vs) (vs:=vs) (Q:=λ fU av=>av={s with heap:=ll s.heap a vs}/\failedOf fU=none/\∃ p:Array Nat,dH vs.length p/\d3 lt p vs.length/\(arrOf fU).map (·.2)=(p.toList.map λ i=>vs.getD i Value.none).toArray) (G:=λ p av=>av={s with heap:=ll s.heap a vs}/\dH vs.length p/\d3 lt p vs.length) rfl k0 gq (λ p fU av _ xf hf g=>⟨g.1,hf,p,g.2.1,g.2.2,kat_snds rfl xf⟩)
   (ej.wp aA (λ p ai=>⟨rfl,ai⟩) (Cj (by omega) O))) ?_ λ _ _ e=>e)
  rintro⟨⟨⟩,fU⟩ av ⟨rfl,hf,p,ai,fJ,jM⟩
  dsimp only at jM ⊢
  rw[jM];refine ay (p7 uK rfl ?_);refine ay (lP uK rfl ?_ (hsz2:=by show (p.toList.map λ i=>vs.getD i Value.none).toArray.size<=_;rw[bN,dm,ai.length_eq,qb,d_];omega));rw[hf];simp only[bne_self_eq_false,kT,if_false];exact bq (h p ai fJ)
theorem Ck{l:Addr}{vs:List Value}{Q:List Value->aw->Prop}(aB:s.heap.IsTuple l vs.toArray)
 (h:Q vs {s with heap:=(s.heap.push (bG "list" #[] 0)).update s.heap.objs.size (Obj.mapSeq (·++vs.toArray))}) (hz:vs.length<=sizeLine):aT (a5 prog w) A (collect (.ref l)) Q E s:=by
 obtain⟨o,aJ,aA,n,hd⟩:=id aB;unfold collect;refine ay (wpAny_runValue (sB entry_proto_collect' ?_));refine(show aT _ _ (do gK (.builtin "list.__iadd__" ⟨[<- newList [],.ref l],[]⟩)) _ _ s from ay (on (bq ⟨Code.quiet_builtin _ (by trivial),sB entry_list_iadd' ?_⟩)));have i4:(s.heap.push (bG "list" #[] 0)).get? l=some o:=dA _ aJ;have aS:(s.heap.push (bG "list" #[] 0)).get? s.heap.objs.size=some (bG "list" #[] 0):=fc _ rfl;refine(show aT _ _ (Builtin.List.listExtendWith (.ref s.heap.objs.size) (.ref l) (.ref s.heap.objs.size)) _ _ {s with heap:=s.heap.push (bG "list" #[] 0)} from ?_);unfold Builtin.List.listExtendWith;refine ay (sF (T:="tuple") ⟨o,i4,aA⟩ ?_);rw[if_pos (by rw[show (Value.type "tuple"==Value.type "tuple")=true from rfl];simp)];refine ay (p6 i4 hd (ay (p6 (xs:=#[]) (n:=0) aS rfl ?_)));rw[if_neg (by simp)];refine ay (lP (xs:=#[]) (n:=0) aS rfl (bq ?_) (fB _) (by show (#[]++vs.toArray).size<=sizeLine+1;simp only[Array.size_append,bN,j1];omega))
 refine(show aT (a5 prog w) A (do
  let o ← load s.heap.objs.size
  match o.data with
  |.seq xs _=>pure xs.toList
  |_=>unsupported "internal:collect") Q E {s with heap:=(s.heap.push (bG "list" #[] 0)).update s.heap.objs.size (Obj.mapSeq (·++vs.toArray))} from ay (wpAny_load (get?_update_seq aS _) ?_))
 refine(show aT _ _ (pure ((#[]:Array Value)++vs.toArray).toList) Q E _ from ?_);rw[show ((#[]:Array Value)++vs.toArray).toList=vs by simp];exact bq h
theorem Cm{l:Addr}{vs:List Value}{κ:ow}{lt:Nat->Nat->Bool}{Q:Value->aw->Prop}(aB:s.heap.IsList l vs.toArray\/s.heap.IsTuple l vs.toArray)(gq:vs.length<64)
 (aq:2<=vs.length->∀(A:cg)(E:Value->aw->Prop)(R:ow->aw->Prop),R κ {s with heap:=pp s.heap vs}->aT (a5 prog w) A (keyKind' vs.toArray) R E {s with heap:=pp s.heap vs})
 (aA:∀(nW:cg) i j C,nW.units<=A.units+5->i<vs.length->j<vs.length->C (lt i j) {s with heap:=pp s.heap vs}->oy prog w nW κ vs i j C {s with heap:=pp s.heap vs})
 (O:mG lt) (h:∀ p:Array Nat,dH vs.length p->d3 lt p vs.length->Q (.ref (s.heap.objs.size+1)) {s with heap:=sortedAll s.heap vs (p.toList.map λ i=>vs.getD i Value.none).toArray}) :
 aT (a5 prog w) A (call (.builtin "sorted") [.ref l]) Q E s:=by
 refine Calls.call_function_entry sM sK sL (args_sorted1 _) ?_;unfold Builtin.«sorted»;refine ay (m:=sI "sorted" 1 1 _) (bq ?_);refine ay (aB.elim (λ z=>collect_list z ?_ (hsz:=by rw[d_];omega)) λ z=>Ck z ?_ (by rw[d_];omega))
 all_goals
  refine ay (on ?_)
  have hsz:((s.heap.push (bG "list" #[] 0)).update s.heap.objs.size (Obj.mapSeq (·++vs.toArray))).objs.size=s.heap.objs.size+1:=by
   rw[oJ,mS]
  have ka:(((s.heap.push (bG "list" #[] 0)).update s.heap.objs.size (Obj.mapSeq (·++vs.toArray))).push (bG "list" vs.toArray 0)).get? (s.heap.objs.size+1)=some (bG "list" vs.toArray 0):=by
   rw[<- hsz];exact fc _ rfl
  show aT _ _ _ _ _ {s with heap:=((s.heap.push (bG "list" #[] 0)).update s.heap.objs.size (Obj.mapSeq (·++vs.toArray))).push (bG "list" vs.toArray 0)};rw[hsz];refine ay (iT (iR sJ ⟨_,ka,rfl⟩ W1 (KV (κ:=κ) (lt:=lt) ka gq (λ ag R ei=>aq ag _ _ R ei) (λ i j C au bm iE=>aA _ i j C ?_ au bm iE) O λ p ai fJ=>⟨_,rfl,?_⟩) (args_list_sort _)))
  ·show A.units+1+1<=A.units+5;omega
  exact bq ⟨_,rfl,h p ai fJ⟩
end
end L2
namespace L3
open PySem L2
structure Std(x y:D):Prop where
 e1:bL x y=true->x=y
 aP:bL y x=true->x=y
 aG:bL x x=true
 rC:x=y\/bt x y=some true\/bt y x=some true
theorem hP{x y:D}{r bK:List D}(h:Std x y)(t:x=y->r=bK\/bR r bK=some true\/bR bK r=some true):x::r=y::bK\/bR (x::r) (y::bK)=some true\/bR (y::bK) (x::r)=some true:=by
 by_cases c:x=y
 ·subst c;rcases t rfl with ae|ae|ae
  ·exact .inl (by rw[ae])
  ·exact .inr (.inl (by rw[bR,if_pos h.aG];exact ae))
  ·exact .inr (.inr (by rw[bR,if_pos h.aG];exact ae))
 ·rcases h.rC with ae|ae|ae
  ·exact absurd ae c
  ·exact .inr (.inl (by rw[bR,if_neg λ z=>c (h.e1 z)];exact ae))
  ·exact .inr (.inr (by rw[bR,if_neg λ z=>c (h.aP z)];exact ae))
theorem KW{x y z:D}{r bK uL:List D}(e1:bL x y=true->x=y)(aP:bL y z=true->y=z)(gx:bL x z=true->x=z)(ht:bt x x≠some true)(t:bt x y=some true->bt y z=some true->bt x z=some true)
 (b8:x=y->y=z->bR r bK=some true->bR bK uL=some true->bR r uL=some true) (a1:bR (x::r) (y::bK)=some true) (a2:bR (y::bK) (z::uL)=some true):bR (x::r) (z::uL)=some true:=by
 rw[bR]at a1 a2 ⊢;by_cases c:bL x y=true
 ·have q:=e1 c;subst q;rw[if_pos c]at a1;by_cases cR:bL x z=true
  ·rw[if_pos cR]at a2 ⊢;exact b8 rfl (aP cR) a1 a2
  ·rw[if_neg cR]at a2 ⊢;exact a2
 ·rw[if_neg c]at a1;by_cases cR:bL y z=true
  ·have q:=aP cR;subst q;rw[if_neg c];exact a1
  ·rw[if_neg cR]at a2;have w:=t a1 a2;rw[if_neg λ q=>by have fO:=gx q;subst fO;exact ht w];exact w
theorem mI(z cU:Str):Std (.str z) (.str cU):=by
 have e:∀ a b:Str,bL (.str a) (.str b)=true->(D.str a)=.str b:=λ a b h=>by
  rw[bL,beq_iff_eq]at h;rw[h]
 refine⟨e z cU,λ h=>(e cU z h).symm,by simp[bL],?_⟩;rw[bt,bt];rcases Nat.lt_trichotomy 0 0 with h|h|h
 ·omega
 ·by_cases c:z.cps.toList<cU.cps.toList
  ·exact .inr (.inl (by simp[c]))
  ·by_cases d:cU.cps.toList<z.cps.toList
   ·exact .inr (.inr (by simp[d]))
   ·have q:z.cps.toList=cU.cps.toList:=List.le_antisymm (List.not_lt.mp d) (List.not_lt.mp c);obtain⟨⟨a⟩⟩:=z;obtain⟨⟨b⟩⟩:=cU;simp at q;subst q;exact .inl rfl
 ·omega
theorem KY{a b c:Str}(ae:bt (.str a) (.str b)=some true)(ag:bt (.str b) (.str c)=some true):bt (.str a) (.str c)=some true:=by
 rw[bt]at ae ag ⊢;have eK:=of_decide_eq_true (eH.inj ae);have cU:=of_decide_eq_true (eH.inj ag);rw[decide_eq_true (List.lt_trans eK cU)]
theorem KZ(a:Str):bt (.str a) (.str a)≠some true:=by
 rw[bt];simp
theorem Cn(m n:Int):Std (.int m) (.int n):=by
 have e:∀ a b:Int,bL (.int a) (.int b)=true->(D.int a)=.int b:=λ a b h=>by
  rw[bL,beq_iff_eq]at h;rw[h]
 refine⟨e m n,λ h=>(e n m h).symm,by simp[bL],?_⟩;rw[bt,bt];rcases Int.lt_trichotomy m n with h|h|h
 ·exact .inr (.inl (by simp[h]))
 ·exact .inl (by rw[h])
 ·exact .inr (.inr (by simp[h]))
theorem xg:∀{ds:List D},cw ds=true->bR ds ds=some false
 |[],_=>rfl
 | d::ds,h=>by
  rw[cw,ZB]at h;rw[bR,if_pos (ky h.1)];exact xg h.2
theorem K0{d:D}{ds:List D}(e:d=.tup ds)(h:d.data=true):bt d d=some false:=by
 subst e;rw[bt];exact xg (by simpa[D.data] using h)
theorem bE.ht{d:D}(h:bE d):bt d d=eH false:=by
 have z:=h.data;cases h<;>exact K0 rfl z
theorem uM{S:D->Prop}:∀{ds es:List D},(∀ d∈ds,∀ e,S e->bL d e=true->d=e)->(∀ e∈es,S e)->dZ ds es=true->ds=es
 |[],[],_,_,_=>rfl
 |[],_::_,_,_,h=>by rw[dZ]at h;cases h;all_goals simp
 |_::_,[],_,_,h=>by rw[dZ]at h;cases h;all_goals simp
 | d::ds,e::es,ae,ag,h=>by
  rw[dZ,ZB]at h;rw[ae d (dk ..) e (ag e (dk ..)) h.1,uM (λ x ak=>ae x (dM _ ak)) (λ x ak=>ag x (dM _ ak)) h.2]
inductive fz:D->Prop
 |int (n:Int):fz (.int n)
 |str (z:Str):fz (.str z)
 |tup {ds:List D}:(∀ d∈ds,fz d)->fz (.tup ds)
theorem iP{a:D}{r:List D}(h:fz a)(g:∀ d∈r,fz d):∀ d∈a::r,fz d:=λ d hd=>by
 rcases fq.mp hd with rfl|hd
 ·exact h
 ·exact g d hd
theorem bE.cS{d:D}(h:bE d):fz d:=by
 induction h with
 |is n=>exact .tup (iP (.str _) (iP (.int n) nofun))
 |some=>exact .tup (iP (.str _) nofun)
 |both _ _ ae ag=>exact .tup (iP (.str _) (iP ae (iP ag nofun)))
 |left _ h=>exact .tup (iP (.str _) (iP h nofun))
 |right _ h=>exact .tup (iP (.str _) (iP h nofun))
 |way _ _ ae ag=>exact .tup (iP (.str _) (iP (.tup ae) (iP ag nofun)))
theorem fz.data{d:D}(h:fz d):d.data=true:=by
 induction h with
 |int|str=>rfl
 |tup _ b0=>rw[D.data];exact pr b0
theorem fz.ht{d:D}(h:fz d):bt d d≠some true:=by
 cases h with
 |int n=>rw[bt];simp
 |str z=>exact KZ z
 |tup g=>rw[bt,xg (pr λ d hd=>(g d hd).data)];simp
theorem fz.eq1{a:D}(h:fz a):∀ b,fz b->bL a b=true->a=b:=by
 induction h with
 | int n=>
  intro b af e
  cases af with
  |int m=>exact(Cn _ _).e1 e
  |_=>cases e
 | str n=>
  intro b af e
  cases af with
  |str m=>exact(mI _ _).e1 e
  |_=>cases e
 | tup _ b0=>
  intro b af e
  cases af with
  |tup g=>rw[bL]at e;rw[uM b0 g e]
  |_=>cases e
theorem bE.eq1{a:D}(h:bE a):∀ b,bE b->bL a b=true->a=b:=λ b af e=>h.cS.eq1 b af.cS e
theorem bE.px{a b:D}(h:bE a)(af:bE b)(t:a=b\/bt a b=eH true\/bt b a=eH true):Std a b:=⟨h.eq1 b af,λ e=>(af.eq1 a h e).symm,ky h.data,t⟩
theorem mJ{xs ys:List D}(h:xs=ys\/bR xs ys=some true\/bR ys xs=some true):D.tup xs=D.tup ys\/bt (.tup xs) (.tup ys)=some true\/bt (.tup ys) (.tup xs)=some true:=by
 rw[bt,bt];rcases h with h|h|h
 ·exact .inl (by rw[h])
 ·exact .inr (.inl h)
 ·exact .inr (.inr h)
theorem Co:∀{ds es:List D},(∀ d∈ds,bE d/\∀ b,bE b->d=b\/bt d b=some true\/bt b d=some true)->(∀ e∈es,bE e)->ds=es\/bR ds es=some true\/bR es ds=some true
 |[],[],_,_=>.inl rfl
 |[],e::es,_,_=>.inr (.inl (by rw[bR];simp))
 |d::ds,[],_,_=>.inr (.inr (by rw[bR];simp))
 | d::ds,e::es,ae,ag=>by
  obtain⟨k,t⟩:=ae d (dk ..);have b2:=ag e (dk ..);exact hP (k.px b2 (t e b2)) λ _=>Co (λ x ak=>ae x (dM _ ak)) (λ x ak=>ag x (dM _ ak))
theorem bE.rC{a:D}(h:bE a):∀ b,bE b->a=b\/bt a b=eH true\/bt b a=eH true:=by
 induction h with
 |is n=>intro b af;cases af<;>refine mJ (hP (mI _ _) λ e=>?_)<;>first|(exact absurd (D.str.inj e) (by decide))|exact hP (Cn _ _) λ _=>.inl rfl
 |some=>intro b af;cases af<;>refine mJ (hP (mI _ _) λ e=>?_)<;>first|(exact absurd (D.str.inj e) (by decide))|exact .inl rfl
 |both cz b2 ae ag=>intro b af;cases af<;>refine mJ (hP (mI _ _) λ e=>?_)<;>first|(exact absurd (D.str.inj e) (by decide))|exact hP (cz.px ‹_› (ae _ ‹_›)) λ _=>hP (b2.px ‹_› (ag _ ‹_›)) λ _=>.inl rfl
 |left cz ae=>intro b af;cases af<;>refine mJ (hP (mI _ _) λ e=>?_)<;>first|(exact absurd (D.str.inj e) (by decide))|exact hP (cz.px ‹_› (ae _ ‹_›)) λ _=>.inl rfl
 |right cz ae=>intro b af;cases af<;>refine mJ (hP (mI _ _) λ e=>?_)<;>first|(exact absurd (D.str.inj e) (by decide))|exact hP (cz.px ‹_› (ae _ ‹_›)) λ _=>.inl rfl
 | way cz b2 ae ag=>
  intro b af
  cases af with
  | way g1 g2=>
   refine mJ (hP (mI _ _) λ _=>hP ⟨λ e=>?_,λ e=>?_,?_,mJ (Co (λ d hd=>⟨cz d hd,ae d hd⟩) g1)⟩ λ _=>hP (b2.px g2 (ag _ g2)) λ _=>.inl rfl)
   ·rw[bL]at e;rw[uM (λ d hd=>(cz d hd).eq1) g1 e]
   ·rw[bL]at e;rw[uM (λ d hd=>(g1 d hd).eq1) cz e]
   ·exact ky (by rw[D.data];exact pr λ d hd=>(cz d hd).data)
  | _=>
   refine mJ (hP (mI _ _) λ e=>?_);exact absurd (D.str.inj e) (by decide)
theorem Cp:∀{ds es bl:List D},(∀ d∈ds,fz d/\∀ b c,fz b->fz c->bt d b=some true->bt b c=some true->bt d c=some true)->(∀ e∈es,fz e)->(∀ f∈bl,fz f)->bR ds es=some true->bR es bl=some true->bR ds bl=some true
 | [],es,bl,_,_,_,_,h=>by
  rw[bR]
  cases bl with
  | nil=>cases es with
   |nil=>rw[bR]at h;exact h
   |cons _ _=>rw[bR]at h;cases h
  |cons _ _=>simp
 |d::ds,[],bl,_,_,_,h,_=>by rw[bR]at h;cases h
 |d::ds,e::es,[],_,_,_,_,h=>by rw[bR]at h;cases h
 | d::ds,e::es,f::bl,ae,ag,bc,a1,a2=>by
  obtain⟨k,t⟩:=ae d (dk ..);have b2:=ag e (dk ..);have ij:=bc f (dk ..);exact KW (k.eq1 e b2) (b2.eq1 f ij) (k.eq1 f ij) k.ht (t e f b2 ij) (λ _ _=>Cp (λ x ak=>ae x (dM _ ak)) (λ x ak=>ag x (dM _ ak)) λ x ak=>bc x (dM _ ak)) a1 a2
theorem fz.K1{a:D}(h:fz a):∀ b c,fz b->fz c->bt a b=some true->bt b c=some true->bt a c=some true:=by
 induction h with
 | int n=>
  intro b c af aA a1 a2
  cases af with
  | int m=>
   cases aA with
   | int k=>
    rw[bt]at a1 a2 ⊢;have x:=of_decide_eq_true (eH.inj a1);have y:=of_decide_eq_true (eH.inj a2);rw[decide_eq_true (Int.lt_trans x y)]
   |_=>cases a2
  |_=>cases a1
 | str n=>
  intro b c af aA a1 a2
  cases af with
  | str m=>
   cases aA with
   |str k=>exact KY a1 a2
   |_=>cases a2
  |_=>cases a1
 | tup ae b0=>
  intro b c af aA a1 a2
  cases af with
  | tup ag=>
   cases aA with
   |tup bc=>rw[bt]at a1 a2 ⊢;exact Cp (λ d hd=>⟨ae d hd,b0 d hd⟩) ag bc a1 a2
   |_=>cases a2
  |_=>cases a1
theorem uN{a:D}(h:bE a):∀ b c,bE b->bE c->bt a b=some true->bt b c=some true->bt a c=some true:=λ b c af aA=>h.cS.K1 b c af.cS aA.cS
theorem Cq{ds:List D}(h:∀ d∈ds,bE d)(aS:0<ds.length):mG λ i j=>(bt (ds.getD (min i (ds.length - 1)) .bo) (ds.getD (min j (ds.length - 1)) .bo)).getD false:=by
 have k:∀ i,bE (ds.getD (min i (ds.length - 1)) .bo):=λ i=>by
  have au:min i (ds.length - 1)<ds.length:=by omega
  rw[gL,cN au];exact h _ (mX au)
 have pw:∀{a b:D},bE a->bE b->bt a b=some true->bt b a≠some true:=λ cM cK ae ag=>by
  have:=uN cM _ _ cK cM ae ag;rw[cM.ht]at this;cases this
 have val:∀{a b:D},bE a->bE b->((bt a b).getD false=false ↔ a=b\/bt b a=some true):=λ{a b} cM cK=>by
  obtain⟨v,bh⟩:=iZ.mp (cM.lt cK);rw[bh];constructor
  ·intro e;have bz:v=false:=e;subst bz;rcases cM.rC b cK with ae|ae|ae
   ·exact .inl ae
   ·rw[bh]at ae;cases ae
   ·exact .inr ae
  ·rintro(rfl|ae)
   ·rw[cM.ht]at bh;cases bh;rfl
   ·cases v with
    |false=>rfl
    |true=>exact absurd ae (pw cM cK bh)
 refine⟨λ i=>?_,λ i j l ae ag=>?_,λ i j ae=>?_⟩
 ·exact(val (k i) (k i)).mpr (.inl rfl)
 ·rw[val (k _) (k _)]at ae ag ⊢;rcases ae with ae|ae
  ·rw[ae];exact ag
  ·rcases ag with ag|ag
   ·rw[<- ag];exact .inr ae
   ·exact .inr (uN (k l) _ _ (k j) (k i) ag ae)
 ·rw[val (k _) (k _)];obtain⟨v,bh⟩:=iZ.mp ((k i).lt (k j));rw[bh]at ae;have e:v=true:=ae;subst e;exact .inr bh
end L3
namespace L3
open PySem PySem.Spec PySem.W PyProof.Rows L2
theorem uO{vs:List V}{ao:List Value}(h:Vals vs ao):∀ l:List Nat,(∀ i∈l,i<vs.length)->Vals (l.map λ i=>vs.getD i .bo) (l.map λ i=>ao.getD i Value.none)
 |[],_=>.nil
 | i::l,aB=>by
  have au:=aB i (dk ..);obtain⟨u,ae,ag⟩:=h.get (cN au);rw[eF,eF];refine .cons ?_ (uO h l λ j bm=>aB j (dM _ bm));rw[gL,gL,cN au,ae];exact ag
theorem Cr{K:a4}{H:am}{ds:List D}{vs:List V}(h:br K H ds vs):∀ l:List Nat,(∀ i∈l,i<ds.length)->br K H (l.map λ i=>ds.getD i .bo) (l.map λ i=>vs.getD i .bo)
 |[],_=>rfl
 | i::l,aB=>by
  have au:=aB i (dk ..);obtain⟨v,ae,ag⟩:=h.get (cN au);refine⟨_,_,rfl,?_,Cr h l λ j bm=>aB j (dM _ bm)⟩
  dsimp only
  rw[gL,gL,cN au,ae];exact ag
noncomputable def eC(ds:List D):Prop:=ds.Pairwise λ a b=>bt b a=some false
theorem K2{ds:List D}{p:Array Nat}(h:dH ds.length p):ds.Perm (p.toList.map λ i=>ds.getD i .bo):=by
 have e:(gf ds.length).map (λ i=>ds.getD i .bo)=ds:=by
  apply sU
  ·simp
  ·intro i ae ag;simp[gL,cN ag]
 have:=h.map (λ i=>ds.getD i .bo);rw[e]at this;exact this.symm
noncomputable abbrev ltI(ds:List D):Nat->Nat->Bool:=λ i j=>(bt (ds.getD (min i (ds.length - 1)) .bo) (ds.getD (min j (ds.length - 1)) .bo)).getD false
theorem xh{ds:List D}(aq:∀ d∈ds,bE d){p:Array Nat}(h:dH ds.length p)(up:d3 (ltI ds) p ds.length):eC (p.toList.map λ i=>ds.getD i .bo):=by
 have hsz:=rA h
 have e5:∀ i,i<ds.length->bE (ds.getD i .bo):=λ i au=>by
  rw[gL,cN au];exact aq _ (mX au)
 unfold eC;rw[List.pairwise_iff_getElem];intro i j au bm gh;rw[dm,m2]at au bm;have z:=up i j gh (by omega)
 have K3:gt p i=p.toList[i]'(by simpa using au):=by simp[gt,s7,au]
 have K4:gt p j=p.toList[j]'(by simpa using bm):=by simp[gt,s7,bm]
 have aS:0<ds.length:=by omega
 have li:gt p i<ds.length:=ii h aS i;have Cs:gt p j<ds.length:=ii h aS j;simp only[ltI]at z;rw[show min (gt p j) (ds.length - 1)=gt p j from Nat.min_eq_left (Nat.le_sub_one_of_lt Cs),show min (gt p i) (ds.length - 1)=gt p i from Nat.min_eq_left (Nat.le_sub_one_of_lt li)]at z;rw[List.getElem_map,List.getElem_map,<- K3,<- K4];obtain⟨v,bh⟩:=iZ.mp ((e5 _ Cs).lt (e5 _ li));rw[bh]at z ⊢;have e:v=false:=z;rw[e]
noncomputable def K5(K:a4):List V->am->b7->Prop:=λ xs H Q=>∃(l:Addr)(vs:List V)(ds:List D),xs=[.ref l]/\(dO K H l vs\/dt K H l vs)/\br K H ds vs/\ds.length<64/\(∀ d∈ds,bE d/\d.bU<=150) ∧
 ∀(eD:List D)(ry:List V),ds.Perm eD->eC eD->br K H eD ry->∀ p,H p=none->Q (.ref p) (upd H p (.lst ry))
section
variable{X:aQ}
theorem K6(bg:X.A.units+200<bO):gP X (.builtin "sorted") (K5 X.K):=by
 intro pins s σ H xs us Q I r h;obtain⟨l,vs,ds,rfl,aU,az,aB,ar,q⟩:=h;obtain⟨u,rfl,a6⟩:=l6 r;cases a6
 obtain⟨ao,aM,cS⟩:∃ ao,Vals vs ao/\(s.heap.IsList l ao.toArray\/s.heap.IsTuple l ao.toArray):=aU.elim (λ aU=>let ⟨ao,aM,cS,_⟩:=I.list aU;⟨ao,aM,.inl cS.isList⟩) λ aU=>let ⟨ao,aM,cS,_⟩:=I.tuple aU;⟨ao,aM,.inr cS⟩
 have hlen:=aM.length;have PF:=az.len;have aq:∀ d∈ds,bE d:=λ d hd=>(ar d hd).1;have kh:Inv X pins σ H {s with heap:=pp s.heap ao}:=I.kept (t':=s.toks) λ b o e=>KL e
 have fin:∀ p:Array Nat,dH ao.length p->eC (p.toList.map λ i=>ds.getD i .bo)->fP X pins σ Q (.ref (s.heap.objs.size+1)) {s with heap:=sortedAll s.heap ao (p.toList.map λ i=>ao.getD i Value.none).toArray}:=λ p ai nX=>by
  have hm:∀ i∈p.toList,i<ao.length:=λ i au=>lR.mp (ai.mem_iff.mp au);obtain⟨c,oQ⟩:=sortedAll_at s.heap ao (p.toList.map λ i=>ao.getD i Value.none).toArray;have z:=ai.length_eq;rw[qb]at z;have cp:=d_;have aG:=uO aM p.toList (λ i au=>by have:=hm i au;omega);have aR:=Cr az p.toList (λ i au=>by have:=hm i au;omega);exact⟨.ref _,_,I.laid (t':=s.toks) (λ b o e=>sortedAll_old e) (lV _) (show dP X.prog X.w _ _ _ (.lst (p.toList.map λ i=>vs.getD i .bo)) from⟨by rw[dm];omega,_,c,aG,by simpa using oQ⟩),rfl,q _ _ (K2 (by rw[show ds.length=ao.length by omega];exact ai)) nX aR _ (I.bj.fresh (lV _))⟩
 by_cases h0:0<ds.length
 ·refine Cm (κ:=tuples' true) (lt:=ltI ds) cS (by omega) (λ ag A E R ei=>KJ kh (λ d hd=>(aq d hd).w9 (ar d hd).2) az aM (by omega) ei) (λ nW i j C nr au bm iE=>?_) (Cq aq h0) λ p ai fJ=>fin p ai (xh aq (by rw[show ds.length=ao.length by omega];exact ai) (by rw[show ds.length=ao.length by omega];exact fJ))
  have ge:∀ k,k<ao.length->∃ d v u,ds.getD (min k (ds.length - 1)) .bo=d/\d∈ds/\ck X.K H d v/\RelV v u/\ao.getD k Value.none=u:=λ k pk=>by
   have xi:k<ds.length:=by omega
   obtain⟨v,g1,g2⟩:=az.get (cN xi);obtain⟨u,g3,ig⟩:=aM.get g1;exact⟨ds[k],v,u,by rw[show min k (ds.length - 1)=k by omega,gL,cN xi];rfl,mX xi,g2,ig,by rw[gL,g3];rfl⟩
  obtain⟨d,v,u,e1,hB,a1,pl,f1⟩:=ge i au;obtain⟨e,h4,i6,aP,lY,a2,gT,f2⟩:=ge j bm;unfold oy;rw[f1,f2];simp only[ltI,e1,aP]at iE;obtain⟨b,af⟩:=iZ.mp ((aq _ hB).lt (aq _ lY));obtain⟨z,r,rfl,cz,b2⟩:=(aq d hB).w9 (ar d hB).2;obtain⟨cU,aR,rfl,ij,rD⟩:=(aq e lY).w9 (ar e lY).2;rw[af]at iE;exact KG kh iE cz ij a1 a2 pl gT (by omega) af
 ·have cQ:ao=[]:=sV.mp (by omega);subst cQ;refine Cm (κ:=tuples' true) (lt:=λ _ _=>false) cS (by simp) (λ ag=>by simp at ag) (λ nW i j C nr au=>by simp at au) ⟨λ _=>rfl,λ _ _ _ _ _=>rfl,λ _ _ h=>nomatch h⟩ λ p ai _=>fin p ai ?_;have uD:ds=[]:=sV.mp (by omega);have ep:p.toList=[]:=sV.mp (by have:=ai.length_eq;simpa using this);rw[ep];simp[eC]
noncomputable def K7:D->aC->bS->Prop:=λ x G Q=>match x with
 |.ref l=>g_ G l λ ds=>ds.length<64/\(∀ d∈ds,bE d/\d.bU<=150)/\∀ eD:List D,ds.Perm eD->eC eD->∀ p,G p=none->Q (.ref p) (up G p (.lst eD))
 |.tup ds=>ds.length<64/\(∀ d∈ds,bE d/\d.bU<=150)/\∀ eD:List D,ds.Perm eD->eC eD->∀ p,G p=none->Q (.ref p) (up G p (.lst eD))
 |_=>False
theorem K8(bg:X.A.units+200<bO):ja X (.builtin "sorted") (mx K7):=by
 refine⟨_,⟨K6 bg⟩,λ xs vs G H aE Q v a r F=>?_⟩;obtain⟨x,u,rfl,rfl,aI,r⟩:=pa r a
 cases x with
 | ref l=>
  cases aI;obtain⟨ds,ws,⟨aB,ar,k⟩,s,dj⟩:=iK v r;exact⟨l,ws,ds,rfl,.inl s,dj,aB,ar,λ eD ry ai nY az p ik=>F (.ref p) _ _ _ (Go.k6 v ik az) rfl (k eD ai nY p (v.none ik))⟩
 | tup ds=>
  obtain⟨l,ws,rfl,s,dj⟩:=aI;obtain⟨aB,ar,k⟩:=r;exact⟨l,ws,ds,rfl,.inr s,dj,aB,ar,λ eD ry ai nY az p ik=>F (.ref p) _ _ _ (Go.k6 v ik az) rfl (k eD ai nY p (v.none ik))⟩
 |_=>exact(show False from r).elim
end
end L3
namespace L3
open PySem PySem.Spec L2 PySem.SeqAt
open AutoSeq1 (wpAny_loadPart')
open MeetsSeq MeetsSeq2 MeetsSeq3 SeqRoads2
theorem K9(l b:Addr)(items bu:Array Value)(n de:Nat)(cC ez:Option Addr)(cp fF:Array (Option Value))(e c:Nat->Bool)(k:Nat) :
 ∀ i:Nat,min items.size bu.size - i=k->i<=min items.size bu.size->Meets (Builtin.«list.__eq__.loop» ⟨[.ref l,.ref b,gd i,gd 0],[]⟩)
  (λ A R s=>s.heap.get? l=some {cls:=.type "list",dict:=cC,data:=.seq items n,slots:=cp}/\s.heap.get? b=some {cls:=.type "list",dict:=ez,data:=.seq bu de,slots:=fF} ∧
   (∀ j (ae:j<items.size) (ag:j<bu.size),EqAt A.in1 s items[j] bu[j] (e j)) ∧
   (∀ j (ae:j<items.size) (ag:j<bu.size),(∀ i,i<j->e i=true)->e j=false->kA A.in1 s items[j] bu[j] (c j))/\(∀ j,j<i->e j=true) ∧
   R (.ok (.ret (.bool (eB e c (decide (items.size<bu.size)) k i)))) s):=by
 induction k with
 | zero=>
  intro i aq hle prog w A R s h;obtain⟨ai,g,d,bM,os⟩:=s;obtain⟨aB,af,he,aA,au,h⟩:=h
  wp_walk using iS aB,iS af
  have fin:aT (a5 prog w) A.in1 (do
   let x ← Builtin.List.listItems (Value.ref l)
   let y ← Builtin.List.listItems (Value.ref b)
   ret (Value.bool (decide (x.size<y.size)))) (λ fin av=>match fin with
    |.done f=>R (.ok f) av
    |.again eT=>eT.quiet=true/\mR (a5 prog w) A eT R av) (λ e av=>R (Except.error e) av) {heap:=ai,gens:=g,drawn:=d,toks:=bM,os:=os}:=by
   refine ay (tc aB rfl (ay (tc af rfl ?_)))
   wp_walk
   exact h
  rcases(by omega:items.size<=i\/bu.size<=i) with q|q
  ·have kB:items[((i:Nat):Int).toNat]?=none:=by simp;omega
   rw[kB];exact fin
  ·have hu:bu[((i:Nat):Int).toNat]?=none:=by simp;omega
   rw[hu];cases items[((i:Nat):Int).toNat]?<;>exact fin
 | succ k b0=>
  intro i aq hle prog w A R s h;obtain⟨ai,g,d,bM,os⟩:=s;obtain⟨aB,af,he,aA,au,h⟩:=h
  wp_walk using iS aB,iS af
  have dr:i<items.size:=by omega
  have xj:i<bu.size:=by omega
  have kB:items[((i:Nat):Int).toNat]?=some items[i]:=by simp[dr]
  have hu:bu[((i:Nat):Int).toNat]?=some bu[i]:=by simp[xj]
  have oQ:((i:Int)+1)=((i+1:Nat):Int):=by push_cast;rfl
  rw[eB]at h;rw[kB,hu];refine ay (he i dr xj prog w _ _ ?_)
  cases cf:e i with
  | true=>
   rw[cf,if_pos rfl]at h
   wp_walk
   rw[oQ]
   exact⟨plainId_quiet plain_eq_loop _,sB entry_eq_loop (by
    rw[Around.under_plainId plain_eq_loop _]
    exact b0 (i+1) (by omega) (by omega) prog w A R _ ⟨aB,af,he,aA,λ j bm=>by rcases Nat.lt_succ_iff_lt_or_eq.mp bm with z|rfl;exact au j z;exact cf,h⟩)⟩
  | false=>
   rw[cf,if_neg (by decide)]at h;simp only[kT,if_false];refine ay (tc aB rfl (ay (tc af rfl ?_)));rw[kB,hu];refine ay (aA i dr xj au cf prog w _ _ ?_)
   wp_walk
   exact h
theorem K_(l b:Addr)(items bu:Array Value)(n de:Nat)(cC ez:Option Addr)(cp fF:Array (Option Value))(e c:Nat->Bool) :
 Meets (Builtin.«list.__lt__» ⟨[.ref l,.ref b],[]⟩)
  (λ A R s=>s.heap.get? l=some {cls:=.type "list",dict:=cC,data:=.seq items n,slots:=cp}/\s.heap.get? b=some {cls:=.type "list",dict:=ez,data:=.seq bu de,slots:=fF} ∧
   (∀ j (ae:j<items.size) (ag:j<bu.size),EqAt A.in1 s items[j] bu[j] (e j)) ∧
   (∀ j (ae:j<items.size) (ag:j<bu.size),(∀ i,i<j->e i=true)->e j=false->kA A.in1 s items[j] bu[j] (c j)) ∧
   R (.ok (.ret (.bool (eB e c (decide (items.size<bu.size)) (min items.size bu.size) 0)))) s):=by
 intro prog w A R s h;obtain⟨ai,g,d,bM,os⟩:=s;obtain⟨aB,af,he,aA,h⟩:=h;have dp:=AutoSeq1.sub_list_list
 wp_walk using iS aB,iS af
 exact⟨plainId_quiet plain_eq_loop _,sB entry_eq_loop (by
  rw[Around.under_plainId plain_eq_loop _]
  exact K9 l b items bu n de cC ez cp fF e c _ 0 rfl (fB _) prog w A R _ ⟨aB,af,he,aA,λ j bm=>by omega,by simpa using h⟩)⟩
open PyProof.Rows in
theorem La{prog:bX}{w:bJ}{E:Value->aw->Prop}{A:cg}{s:aw}{l b:Addr}{items bu:Array Value}{e c:Nat->Bool}{Q:Bool->aw->Prop}(aB:s.heap.IsList l items)(af:s.heap.IsList b bu)(bg:A.units<bO)
 (he:∀ j (ae:j<items.size) (ag:j<bu.size),EqAt A.in1 s items[j] bu[j] (e j))
 (aA:∀ j (ae:j<items.size) (ag:j<bu.size),(∀ i,i<j->e i=true)->e j=false->kA A.in1 s items[j] bu[j] (c j))
 (h:Q (eB e c (decide (items.size<bu.size)) (min items.size bu.size) 0) s):aT (a5 prog w) A (oneLt' true (.ref l) (.ref b)) Q E s:=by
 obtain⟨⟨cls,cC,data,cp⟩,aJ,mE,n,hd⟩:=id aB;obtain⟨⟨tC,ez,data2,fF⟩,e7,e8,de,hd2⟩:=id af;simp only at mE hd e8 hd2;subst mE hd e8 hd2;rw[oneLt'_eq];simp only[if_true];refine ay (wpAny_cRoomFor bg ?_);refine ay (wpAny_callSpecialIfBound?_slot ⟨_,aJ,rfl⟩ F.slot_list_lt (oo F.slot_list_lt ⟨_,aJ,rfl⟩ F.entry_list_lt (F.args_list_lt_2 _ _) (K_ l b items bu n de cC ez cp fF e c) ⟨aJ,e7,he,aA,?_⟩));exact sw h
noncomputable def D.uP:D->Bool
 |.str _=>true
 |_=>false
mutual
noncomputable def cY:D->List D
 |.tup ds=>il ds
 |d=>[d]
noncomputable def il:List D->List D
 |[]=>[.int 0]
 |d::ds=>if d.uP then d::d9 ds else .int 1::(cY d++e_ ds)
noncomputable def d9:List D->List D
 |[]=>[]
 |d::ds=>cY d++d9 ds
noncomputable def e_:List D->List D
 |[]=>[.int 0]
 |d::ds=>.int 1::(cY d++e_ ds)
end
noncomputable def Cl(a b:D):Prop:=∀ r bK:List D,bR (cY a++r) (cY b++bK)=if bL a b then bR r bK else bt a b
noncomputable def pz(xs ys:List D):Prop:=∀ r bK:List D,bR (d9 xs++r) (d9 ys++bK)=if dZ xs ys then bR r bK else bR xs ys
theorem pz.nil:pz [] []:=λ r bK=>by simp[d9,dZ]
theorem pz.cons{x y:D}{xs ys:List D}(h:Cl x y)(t:pz xs ys):pz (x::xs) (y::ys):=λ r bK=>by
 rw[d9,d9,j2,j2,h,t,dZ,bR];cases bL x y<;>simp
theorem Cl.one{x y:D}(ak:cY x=[x])(a9:cY y=[y]):Cl x y:=λ r bK=>by
 rw[ak,a9,List.singleton_append,List.singleton_append,bR]
theorem Cl.tup{z h5:Str}{xs ys:List D}(h:z=h5->pz xs ys):Cl (.tup (.str z::xs)) (.tup (.str h5::ys)):=λ r bK=>by
 rw[cY,cY,il,il,if_pos (show (D.str z).uP=true from rfl),if_pos (show (D.str h5).uP=true from rfl),j3,j3,bt,bL,dZ];simp only[bR]
 cases c:bL (.str z) (.str h5) with
 |false=>simp
 |true=>rw[if_pos rfl,h (by simpa[bL] using c) r bK];simp
theorem Ct:∀{xs ys:List D},(∀ x∈xs,∀ y∈ys,Cl x y)->∀ r bK,bR (e_ xs++r) (e_ ys++bK)=if dZ xs ys then bR r bK else bR xs ys
 |[],[],_,r,bK=>by simp[e_,dZ,bR,bL]
 |[],y::ys,_,r,bK=>by simp[e_,dZ,bR,bL,bt]
 |x::xs,[],_,r,bK=>by simp[e_,dZ,bR,bL,bt]
 | x::xs,y::ys,h,r,bK=>by
  rw[e_,e_,j3,j3,bR,if_pos (by simp[bL]),j2,j2,h x (dk ..) y (dk ..),Ct (λ a az b af=>h a (dM _ az) b (dM _ af)),dZ,bR];cases bL x y<;>simp
theorem xk{ds:List D}(h:∀ d∈ds,bE d):cY (.tup ds)=e_ ds:=by
 rw[cY]
 cases ds with
 |nil=>rw[il,e_]
 | cons d ds=>
  rw[il,e_];obtain⟨z,r,e,_⟩:=(h d (dk ..)).head;rw[e];rfl
theorem bE.cl{a:D}(h:bE a):∀{b:D},bE b->Cl a b:=by
 induction h with
 |is n=>intro b af;cases af<;>refine Cl.tup λ e=>?_<;>first|(exact absurd e (by decide))|exact .cons (.one rfl rfl) .nil
 |some=>intro b af;cases af<;>refine Cl.tup λ e=>?_<;>first|(exact absurd e (by decide))|exact .nil
 |both _ _ ae ag=>intro b af;cases af<;>refine Cl.tup λ e=>?_<;>first|(exact absurd e (by decide))|exact .cons (ae ‹_›) (.cons (ag ‹_›) .nil)
 |left _ ae=>intro b af;cases af<;>refine Cl.tup λ e=>?_<;>first|(exact absurd e (by decide))|exact .cons (ae ‹_›) .nil
 |right _ ae=>intro b af;cases af<;>refine Cl.tup λ e=>?_<;>first|(exact absurd e (by decide))|exact .cons (ae ‹_›) .nil
 | way cz _ ae ag=>
  intro b af
  cases af with
  | way g1 g2=>
   refine Cl.tup λ _=>.cons (λ r bK=>?_) (.cons (ag g2) .nil);rw[xk cz,xk g1,Ct λ x ak y a9=>ae x ak (g1 y a9),bL,bt]
  |_=>refine Cl.tup λ e=>?_;exact absurd e (by decide)
theorem bE.Lb{a b:D}(h:bE a)(af:bE b):bR (cY a) (cY b)=bt a b:=by
 have z:=h.cl af [] [];rw[hj,hj]at z;rw[z]
 cases c:bL a b with
 |false=>rfl
 |true=>rw[h.eq1 b af c,af.ht];rfl
mutual
theorem uQ:∀{d:D},d.data=true->cw (cY d)=true
 |.tup ds,h=>by rw[cY];exact Lc (by simpa[D.data] using h)
 |.int _,_=>rfl
 |.str _,_=>rfl
 |.bo,_=>rfl
 |.aW _,_=>rfl
theorem Lc:∀{ds:List D},cw ds=true->cw (il ds)=true
 |[],_=>rfl
 | d::ds,h=>by
  rw[cw,ZB]at h;rw[il];split
  ·rw[cw,h.1,Cu h.2];rfl
  ·rw[cw,uR (uQ h.1) (Cv h.2)];rfl
theorem Cu:∀{ds:List D},cw ds=true->cw (d9 ds)=true
 |[],_=>rfl
 | d::ds,h=>by
  rw[cw,ZB]at h;rw[d9];exact uR (uQ h.1) (Cu h.2)
theorem Cv:∀{ds:List D},cw ds=true->cw (e_ ds)=true
 |[],_=>rfl
 | d::ds,h=>by
  rw[cw,ZB]at h;rw[e_,cw,uR (uQ h.1) (Cv h.2)];rfl
theorem uR:∀{ds es:List D},cw ds=true->cw es=true->cw (ds++es)=true
 |[],_,_,h=>h
 | d::ds,es,ae,ag=>by
  rw[cw,ZB]at ae;rw[j3,cw,ae.1,uR ae.2 ag];rfl
end
noncomputable def jN(d:D):Prop:=(∃ n,d=.int n)\/∃ z,d=.str z
theorem Cw:∀{ds:List D},(∀ d∈ds,∀ x∈cY d,jN x)->∀ x∈e_ ds,jN x
 |[],_,x,ak=>by simp[e_]at ak;exact .inl ⟨_,ak⟩
 | d::ds,h,x,ak=>by
  rw[e_,fq,fL]at ak;rcases ak with rfl|ak|ak
  ·exact .inl ⟨_,rfl⟩
  ·exact h d (dk ..) x ak
  ·exact Cw (λ e he=>h e (dM _ he)) x ak
theorem Cx:∀{ds:List D},(∀ d∈ds,∀ x∈cY d,jN x)->∀ x∈d9 ds,jN x
 |[],_,x,ak=>by simp[d9]at ak
 | d::ds,h,x,ak=>by
  rw[d9,fL]at ak;rcases ak with ak|ak
  ·exact h d (dk ..) x ak
  ·exact Cx (λ e he=>h e (dM _ he)) x ak
theorem pA{z:Str}{ds:List D}(h:∀ d∈ds,∀ x∈cY d,jN x):∀ x∈cY (.tup (.str z::ds)),jN x:=λ x ak=>by
 rw[cY,il,if_pos (show (D.str z).uP=true from rfl),fq]at ak;rcases ak with rfl|ak
 ·exact .inr ⟨_,rfl⟩
 ·exact Cx h x ak
theorem bE.Ld{a:D}(h:bE a):∀ x∈cY a,jN x:=by
 induction h with
 |is n=>exact pA λ d hd x ak=>by simp at hd;subst hd;simp[cY]at ak;exact .inl ⟨_,ak⟩
 |some=>exact pA λ d hd=>by simp at hd
 |both _ _ ae ag=>exact pA λ d hd x ak=>by simp at hd;rcases hd with rfl|rfl;exact ae x ak;exact ag x ak
 |left _ ae=>exact pA λ d hd x ak=>by simp at hd;subst hd;exact ae x ak
 |right _ ae=>exact pA λ d hd x ak=>by simp at hd;subst hd;exact ae x ak
 | way cz _ ae ag=>
  refine pA λ d hd x ak=>?_;simp at hd;rcases hd with rfl|rfl
  ·rw[xk cz]at ak;exact Cw ae x ak
  ·exact ag x ak
theorem jN.bU:∀{ds:List D},(∀ d∈ds,jN d)->da ds=0
 |[],_=>rfl
 | d::ds,h=>by
  rw[da,jN.bU λ e he=>h e (dM _ he)];rcases h d (dk ..) with⟨n,rfl⟩|⟨z,rfl⟩<;>rfl
end L3
namespace L3
open PySem PySem.Spec PySem.W PyProof.Rows L2 PySem.SeqAt
section
variable{X:aQ}{pins:List (Addr×Obj)}{σ:L2.St}{H:am}{s:aw}
theorem Cy(I:Inv X pins σ H s){prog:bX}{w:bJ}{A:cg}{E:Value->aw->Prop}{ds es:List D}{l m:Addr}{vs us:List V}{b:Bool}{Q:Bool->aw->Prop}(s1:dO X.K H l vs)(s2:dO X.K H m us)(aG:br X.K H ds vs)(aR:br X.K H es us)(hd:cw ds=true)(he:cw es=true)(bg:A.units+1+da ds<bO)(h:bR ds es=some b)(q:Q b s):aT (a5 prog w) A (keyLt' oneType' (.ref l) (.ref m)) Q E s:=by
 rw[keyLt'_oneType];obtain⟨ao,bC,t1,_⟩:=I.list s1;obtain⟨bx,b3,b8,_⟩:=I.list s2;have dY:=bC.length;have dS:=b3.length;have f7:=aG.len;have fR:=aR.len;refine La (e:=d0 ds es) (c:=λ _=>b) t1.isList b8.isList (by omega) (λ j ae ag=>?_) (λ j ae ag au bm=>?_) ?_
 ·have q:=lh I ds es A.in1 vs us ao bx hd he aG aR bC b3 (by show A.units+1+da ds<bO;omega) j (by simpa using ae) (by simpa using ag);simpa using q
 ·have fx:j<ao.length:=by simpa using ae
  have jD:j<bx.length:=by simpa using ag
  obtain⟨d,e,g1,g2,g3⟩:=uE h (by omega) (by omega) au bm;have q:=w6 I ds es A.in1 vs us ao bx hd he aG aR bC b3 (by show A.units+1+da ds<bO;omega) j fx jD d e b g1 g2 g3;simpa using q
 ·rw[bN,bN,<- dY,<- dS,f7,fR,w5 h];exact q
theorem uS{α β:Type}{f:α->β}{xs:List α}{i:Nat}{d:β}{x:α}(h:xs[i]?=some x):(xs.map f).getD i d=f x:=by
 rw[gL,fs,h];rfl
end
end L3
namespace L2
open PySem PySem.Spec PyProof.Rows
section
variable{X:aQ}{e st:aY}{a0:TE}{bM:ma}{pos c8:Pos}
theorem Cz:∀{xs:List V}{us:List Value},Vals xs us->Vals xs.reverse us.reverse
 |_,_,.nil=>.nil
 | _,_,.cons r t=>by
  rw[oB,oB];exact(Cz t).append (.cons r .nil)
end
section
variable{prog:bX}{w:bJ}{A:cg}{E:Value->aw->Prop}{s:aw}
theorem Le(n:Nat):Builtin.Slice.sliceAdjust none none (-1) (n:Int)=((n:Int) - 1,-1):=by
 unfold Builtin.Slice.sliceAdjust;simp
theorem Lf(n:Nat):Builtin.Slice.slicePlaces ((n:Int) - 1) (-1) (-1)=n:=by
 unfold Builtin.Slice.slicePlaces;simp
 try omega
theorem Lg(xs:Array Value):((gf xs.size).filterMap λ(m:Nat)=>xs[((xs.size:Int) - 1+(m:Int) * -1).toNat]?).toArray=xs.toList.reverse.toArray:=by
 congr 1
 have e:(λ(m:Nat)=>xs[((xs.size:Int) - 1+(m:Int) * -1).toNat]?)=λ m=>xs[xs.size - 1 - m]?:=by
  funext m
  have:((xs.size:Int) - 1+(m:Int) * -1).toNat=xs.size - 1 - m:=by omega
  rw[this]
 rw[e];have h:=PySem.W.krv_range xs.size;have ag:=PySem.W.krv_all xs
 have:(gf xs.size).filterMap (λ m=>xs[xs.size - 1 - m]?)=((gf xs.size).map λ k=>xs.size - 1 - k).filterMap (xs[·]?):=by rw[List.filterMap_map];rfl
 rw[this,h,List.filterMap_reverse,ag]
theorem Lh{t cp:Addr}{items:Array Value}{pB:Value}{Q:Value->aw->Prop}(cA:kP s.heap t items)(ar:s.heap.IsSliceOf cp .none .none pB)(hb:IsPart pB (some (-1)))
 (h:Q (.ref s.heap.objs.size) {s with heap:=s.heap.push {cls:=.type "tuple",data:=.seq items.toList.reverse.toArray}})
 (hsz:items.size<=sizeLine):aT (a5 prog w) A (lH (.ref t) (.ref cp)) Q E s:=by
 have uT:sizeOk (.seq items.toList.reverse.toArray):=by
  show items.toList.reverse.toArray.size<=sizeLine;rw[bN,lT,m2];omega
 obtain⟨os,uU,Li,f9⟩:=id ar
 have Lj:s.TypeIs (.ref cp) "slice":=⟨os,uU,Li⟩
 unfold lH
 try with_reducible refine iT ?_
 first|refine ay (bq ?_)|skip
 refine ay (wpAny_sequenceKey cA.typeIs (by decide) ?_);refine ay (wpAny_callSpecial?_slot (name:=Str.ofString "__getitem__") cA.typeIs slot_tuple_getitem (iR slot_tuple_getitem cA.typeIs entry_tuple_getitem ?_ (args_tuple_getitem _ _)));refine(show aT _ _ (Builtin.Tuple.tupleItemsOf (.ref t) >>= _) _ _ s from ay (tupleItemsOf_ cA (ay (sF Lj ?_))));rw[if_pos (by decide)]
 have Lk:∀(lZ:Int×Int×Nat->aw->Prop)(uV:Value->aw->Prop)(nW:cg),lZ ((items.size:Int) - 1,-1,items.size) s->aT (a5 prog w) nW (Builtin.Slice.sliceApplied (.ref cp) (pure (items.size:Int))) lZ uV s:=λ lZ uV nW q=>by
  unfold Builtin.Slice.sliceApplied Builtin.Slice.sliceFields;refine ay (ay (iV uU f9 (x:=.none) rfl (ay (iV uU f9 (x:=.none) rfl (ay (iV uU f9 (x:=pB) rfl (bq ?_)))))));refine ay (gi.v3 hb ?_);refine(show aT _ _ (if ((-1:Int)==0)=true then _ else _) _ _ s from ?_);rw[if_neg (by decide)];refine ay (gi.v3 .none (ay (gi.v3 .none (ay (bq ?_)))));show aT _ _ (match Builtin.Slice.sliceAdjust none none (-1) (items.size:Int) with|(lo,au)=>pure (lo,(-1:Int),Builtin.Slice.slicePlaces lo au (-1))) _ _ s;rw[Le];show aT _ _ (pure ((items.size:Int) - 1,(-1:Int),Builtin.Slice.slicePlaces ((items.size:Int) - 1) (-1) (-1))) _ _ s;rw[Lf];exact bq q
 refine ay (Lk _ _ _ ?_);refine(show aT _ _ (if ((((items.size:Int) - 1)==0&&(-1:Int)==1&&items.size==items.size)=true) then _ else _) _ _ s from ?_);rw[if_neg (by simp),Lg]
 first
  |exact ay (m:=Builtin.Tuple.tupleExact _) (gY (bq ⟨_,rfl,bq h⟩) uT)
  |exact ay (m:=Builtin.Tuple.tupleExact _) (gY (ay (bq (bq ⟨_,rfl,bq h⟩))) uT)
  |exact ay (ay (m:=Builtin.Tuple.tupleExact _) (gY (bq (bq ⟨_,rfl,bq h⟩)) uT))
  |exact ay (ay (m:=Builtin.Tuple.tupleExact _) (gY (bq ⟨_,rfl,bq h⟩) uT))
end
section
variable{X:aQ}{e st:aY}{a0:TE}{bM:ma}{pos c8:Pos}
noncomputable def Ll(K:a4)(a0:TE)(bM:ma):TE:=λ σ H Q=>a0 σ H λ x H1=>bM σ H1 λ k aO=>k=some (-1)/\∃(a:Addr)(xs:List V),x=.ref a/\dt K aO a xs/\∀ p,aO p=none->Q (.ref p) (upd aO p (.tup xs.reverse))
theorem Lm(he:bQ X e a0)(aq:v4 X (some st) bM):bQ X (.Subscript e (.Slice none none (some st) c8) pos) (Ll X.K a0 bM):=by
 intro pins s σ H Q I h;refine Subscript_ (bT (he pins s σ H _ I h) λ v s1 xz=>?_);obtain⟨x,H1,aV,aG,aD⟩:=xz;refine wpAny_Slice ?_;rw[evalPart_none];refine bq (bq ?_);refine bT (aq pins s1 σ H1 _ aV aD) λ pB s3 xz=>?_;obtain⟨k,b1,c0,hb,e1,a,xs,aP,ak,dd⟩:=xz;subst e1 aP;cases aG;have eI:Inv X pins σ b1 {s3 with heap:=s3.heap.push {cls:=.type "slice",data:=.fields #[.none,.none,pB]}}:=c0.kept (t':=s3.toks) λ b b5 q=>dA _ q;obtain⟨ao,r,cA,hz⟩:=eI.tuple ak;have hlen:=r.length;show aT (a5 X.prog X.w) X.A (vE e (.Slice none none (some st) c8) (.ref a) (.ref s3.heap.objs.size)) (fP X pins σ Q) X.xe {s3 with heap:=s3.heap.push {cls:=.type "slice",data:=.fields #[.none,.none,pB]}};refine tail_any (ops:=[.ref a,.ref s3.heap.objs.size]) cA.typeIs slot_tuple_getitem.lookup ?_ (by with_unfolding_all rfl);refine Lh cA (Heap.IsSliceOf.new ..) hb ?_ (by rw[bN];omega);refine⟨.ref _,_,eI.laid (t':=s3.toks) (o:=.tup xs.reverse) (λ b b5 q=>dA _ q) (b6 _) ?_,rfl,dd _ (eI.bj.fresh (b6 _))⟩;exact⟨by rw[lT];exact hz,ao.reverse,Cz r,IsTup.new _ _⟩
end
end L2
namespace L3
open PySem PySem.Spec L2
section
variable{X:aQ}{e st:aY}{a0:bV}{bM:tX}{pos c8:Pos}
noncomputable abbrev Ln(a0:bV)(bM:tX):bV:=λ ρ G Q=>a0 ρ G λ x G1=>bM ρ G1 λ k aL=>k=some (-1)/\match x with
 |.tup ds=>Q (.tup ds.reverse) aL
 |_=>False
theorem Lo(he:bD X e a0)(aq:Be X (some st) bM):bD X (.Subscript e (.Slice none none (some st) c8) pos) (Ln a0 bM):=by
 obtain⟨ce,nN,re⟩:=he.run;obtain⟨PG,Lp,Lq⟩:=aq.run;refine⟨_,⟨Lm nN.run Lp.run⟩,λ ρ G aE σ H Q B q F=>re ρ G _ σ H _ B q λ x G1 v H1 g1 aI aD=>Lq ρ G1 _ σ H1 _ (B.go g1) aD λ k aL aO g2 xz=>?_⟩;obtain⟨e1,bw⟩:=xz
 cases x with
 | tup ds=>
  obtain⟨a,vs,rfl,s,dj⟩:=aI.mono g2.tup;refine⟨e1,a,vs,rfl,s,λ p ai=>?_⟩;have g3:=Go.ko (G:=aL) (o:=.tup vs.reverse) g2.bv ai;exact F (.tup ds.reverse) _ _ _ ((g1.trans g2).trans g3) ⟨p,vs.reverse,rfl,.inl (.inl fN),dj.reverse.mono g3.tup⟩ bw
 |_=>exact(show False from bw).elim
end
end L3
namespace L2
open PySem PySem.Spec PyProof.Rows
noncomputable def xl(K:a4)(a:Addr)(n:Nat):hF:=
 ⟨λ i H=>i<n/\∃ xs,dt K H a xs/\xs.length=n,λ i H x ah=>ah=H/\∀ xs,dt K H a xs->xs[n - 1 - i]?=some x,λ i _=>n<=i⟩
theorem Lr{P:bX}{w:bJ}{K:a4}{aX:aY}(a it:Addr)(n:Nat):Turn P w K aX (xl K a n) [it] it (λ i h=>i<=n/\jB.o2 h it a ((n:Int) - 1 - (i:Int))) where
 mem:=by simp
 obj:=λ i h st b af=>by
  have e:b=it:=by simpa using af
  subst e;exact⟨_,st.2,λ v z=>by cases (show Data.fields _=Data.cell v from z)⟩
 keep:=λ i h h' st k=>⟨st.1,k it (by simp) _ st.2⟩
 item:=by
  intro X cH hw ed aA i pins s σ H E I hf st a8;subst cH hw ed;obtain⟨au,xs,aU,ak⟩:=a8;obtain⟨_,st⟩:=st;obtain⟨ao,aM,p,hz⟩:=I.tuple aU
  have dr:n - 1 - i<xs.length:=by omega
  have dV:xs[n - 1 - i]?=some xs[n - 1 - i]:=cN dr;obtain⟨u,bg,cD⟩:=aM.get dV;obtain⟨f0,f1,f2,dp,f4,e4⟩:=hf it (by simp);have aS:=kY;rw[show (n:Int) - 1 - (i:Int)=((n - 1 - i:Nat):Int) by omega]at st;refine jB.nextT st p (x:=u) (by simpa using bg) (by omega) λ h' bM fU h7=>?_;have aV:Inv X pins σ H {s with heap:=h',toks:=bM}:=I.turned (λ b o af e=>(h7.2 b af).trans e) f0 f1 dp f4 e4;refine⟨u,rfl,qx (s:={s with heap:=h',toks:=bM}) fU rfl rfl (by decide) ⟨_,H,aV,cD,⟨rfl,λ ys a9=>by rw[I.tp a9 aU];exact dV⟩,⟨au,?_⟩,λ b af=>(hf b af).1⟩⟩;rw[show (n:Int) - 1 - ((i+1:Nat):Int)=((n - 1 - i:Nat):Int) - 1 by omega];exact fU
 done:=by
  intro X cH hw ed aA i pins s σ H E I hf st a8;subst cH hw ed;have PH:n<=i:=a8;obtain⟨au,st⟩:=st;obtain⟨f0,f1,f2,dp,f4,e4⟩:=hf it (by simp)
  exact jB.I7 (I.ok.hd aA) st (by omega) λ h' dG=>⟨rfl,I.turned (t':=s.toks) (λ b o af e=>dG b o af e) f0 f1 dp f4 e4⟩
 self:=λ _ _ _ _ _ st h=>jB.Ba st.2 h
section
variable{X:aQ}
noncomputable def Ls(K:a4)(ho:TE):TI:=λ σ H R=>ho σ H λ x H1=>∃ a xs,x=.ref a/\dt K H1 a xs/\R (xl K a xs.length) H1
theorem Lu{aX e:aY}{ho:TE}{p pos:Pos}(a8:eb X "reversed")(hm:X.mg "reversed"=none)(aB:bQ X e ho)(ar:eY e=true):i8 X aX (.Call (.Name "reversed" p) [e] [] pos) (Ls X.K ho):=by
 intro pins s σ H R I h;refine bT (I_ (R:=λ a xs H1=>R (xl X.K a xs.length) H1) a8 hm aB ar I h) λ v s1 ae=>?_;obtain⟨a,it,xs,ao,H1,rfl,aV,hit,cA,kC,aM,hz,_,fp,q⟩:=ae;have xm:=aM.length;refine jB.Ba hit ⟨it,[it],_,_,H1,rfl,aV,Lr a it xs.length,?_,λ b af=>?_,q⟩
 ·rw[bN,<- xm]at hit;exact⟨fB _,by simpa using hit⟩
 ·have e:b=it:=by simpa using af
  subst e;exact fp
end
end L2
namespace L3
open PySem PySem.Spec L2
section
variable{X:aQ}{aX a:aY}{bn:bV}{p pos:Pos}
noncomputable abbrev Lv(bn:bV):ib:=λ ρ G R=>bn ρ G λ x G1=>match x with
 |.tup ds=>R ⟨ds.reverse,λ _=>True⟩ G1
 |_=>False
theorem Lw(a8:eb X "reversed")(hm:X.mg "reversed"=none)(az:bD X a bn)(ar:eY a=true:=by rfl):jG X aX (.Call (.Name "reversed" p) [a] [] pos) (Lv bn):=by
 obtain⟨ca,cm,cn⟩:=az.run;refine⟨_,⟨Lu a8 hm cm.run ar⟩,λ ρ G ic σ H R B q F=>cn ρ G _ σ H _ B q λ x G1 v H1 g1 aI aD=>?_⟩
 cases x with
 | tup ds=>
  obtain⟨l,vs,rfl,e0,r⟩:=aI;refine⟨l,vs,rfl,e0,F ⟨ds.reverse,λ _=>True⟩ _ G1 H1 g1 (λ aL aO g2 _=>?_) aD⟩;have pC:=g2.tup.iI _ _ e0;have aR:=r.mono g2.tup;have iD:=r.len;refine⟨λ i d h2=>?_,λ i au=>?_⟩
  ·replace h2:ds.reverse[i]?=some d:=h2
   have au:i<ds.length:=by
    rcases oE i ds.length with c|c
    ·exact c
    ·rw[sS (by rw[lT];exact c)]at h2;cases h2
   rw[List.getElem?_reverse au]at h2;obtain⟨w,hw,gm⟩:=aR.get h2;refine⟨⟨by omega,vs,pC,rfl⟩,λ x ah y=>?_⟩;obtain⟨rfl,y⟩:=y;have z:=y vs pC;rw[iD,hw]at z;cases z;exact⟨.refl g2.bv,gm⟩
  ·have CA:ds.reverse.length<=i:=au;rw[lT]at CA;show vs.length<=i;omega
 |_=>exact(show False from aD).elim
end
noncomputable def uW:List D->Bool
 |a::b::r=>(bt b a==some false)&&uW (b::r)
 |_=>true
inductive gE:D->Prop
 |is (n:Int):gE (.tup [.str "is",.int n])
 |some:gE (.tup [.str "some"])
 |both {a b:D}:gE a->gE b->uG a=true->uG b=true->gE (.tup [.str "both",a,b])
 |left {a:D}:gE a->gE (.tup [.str "left",a])
 |right {a:D}:gE a->gE (.tup [.str "right",a])
 |way {ds:List D} {k:D}:(∀ d∈ds,gE d)->uW ds=true->gE k->gE (.tup [.str "way",.tup ds,k])
theorem gE.jO{d:D}(h:gE d):bE d:=by
 induction h with
 |is n=>exact .is n
 |some=>exact .some
 |both _ _ _ _ ae ag=>exact .both ae ag
 |left _ h=>exact .left h
 |right _ h=>exact .right h
 |way _ _ _ ae ag=>exact .way ae ag
mutual
noncomputable def eP:D->Nat
 |.tup ds=>1+f_ ds
 |_=>1
noncomputable def f_:List D->Nat
 |[]=>0
 |d::ds=>eP d+f_ ds
end
mutual
noncomputable def mK:D->Nat
 |.tup ds=>max ds.length (lr ds)
 |_=>0
noncomputable def lr:List D->Nat
 |[]=>0
 |d::ds=>max (mK d) (lr ds)
end
theorem Lx:∀ xs ys:List D,f_ (xs++ys)=f_ xs+f_ ys
 |[],ys=>by simp[f_]
 |x::xs,ys=>by rw[j3,f_,f_,Lx xs ys,Nat.add_assoc]
theorem Ly:∀ d:D,1<=eP d
 |.tup ds=>by rw[eP];omega
 |.int _=>b6 _
 |.str _=>b6 _
 |.bo=>b6 _
 |.aW _=>b6 _
 |.ref _=>b6 _
 |.ty _=>b6 _
 |.c1 _=>b6 _
theorem Lz:∀ ds:List D,ds.length<=f_ ds
 |[]=>fB _
 |d::ds=>by have:=Lz ds;have:=Ly d;rw[f_,eG];omega
theorem CB{n:Nat}:∀{ds:List D},(∀ d∈ds,eP d<=n)->f_ ds<=ds.length * n
 |[],_=>by simp[f_]
 | d::ds,h=>by
  have ae:=h d (dk ..);have ag:=CB λ e he=>h e (dM _ he);rw[f_,eG,Nat.succ_mul];omega
theorem CC{n:Nat}:∀{ds:List D},(∀ d∈ds,mK d<=n)->lr ds<=n
 |[],_=>fB _
 | d::ds,h=>by
  have ae:=h d (dk ..);have ag:=CC λ e he=>h e (dM _ he);rw[lr];omega
structure gF(s p w:Nat)(d:D):Prop where
 gO:eP d<=s
 bU:d.bU<=p
 pD:mK d<=w
theorem gF.mono{s p w av nf d5:Nat}{d:D}(h:gF s p w d)(ae:s<=av)(ag:p<=nf)(bc:w<=d5):gF av nf d5 d:=⟨gZ h.gO ae,gZ h.bU ag,gZ h.pD bc⟩
theorem xn{ds:List D}(h:eC ds):uW ds=true:=by
 induction ds with
 |nil=>rfl
 | cons a r b0=>
  cases r with
  |nil=>rfl
  | cons b r=>
   rw[uW,b0 (List.Pairwise.of_cons h),(oC.mp h).1 b (dk ..)];rfl
theorem LA{a b:D}(az:bE a)(af:bE b)(ae:bt a b=some false)(ag:bt b a=some false):a=b:=by
 rcases az.rC b af with h|h|h
 ·exact h
 ·rw[ae]at h;cases h
 ·rw[ag]at h;cases h
theorem xo:∀{xs ys:List D},(∀ d∈xs,bE d)->xs.Perm ys->eC xs->eC ys->xs=ys
 |[],ys,_,ai,_,_=>(List.perm_nil.mp ai.symm).symm
 |x::xs,[],_,ai,_,_=>absurd (List.perm_nil.mp ai) (by simp)
 | x::xs,y::ys,aq,ai,ae,ag=>by
  have im:=aq x (dk ..);have gG:bE y:=aq y (ai.mem_iff.mpr (dk ..))
  have e:x=y:=by
   have hB:x∈y::ys:=ai.mem_iff.mp (dk ..);have lY:y∈x::xs:=ai.mem_iff.mpr (dk ..);rcases fq.mp hB with h|h
   ·exact h
   ·rcases fq.mp lY with g|g
    ·exact g.symm
    ·exact LA im gG ((oC.mp ag).1 x h) ((oC.mp ae).1 y g)
  subst e;rw[xo (λ d hd=>aq d (dM _ hd)) (List.Perm.cons_inv ai) (List.Pairwise.of_cons ae) (List.Pairwise.of_cons ag)]
noncomputable def gV(a:Addr)(G aj:aC):Prop:=∃ bZ,d8 a G bZ/\Sub bZ aj
noncomputable def rE(n:Nat):ih:=λ ds G Q=>∃(a:Addr)(k:Int),ds=[.ref a,.int k]/\e9 G a/\0<=k/\k<n/\∀ d aj,d8 a G aj->gE d->uG d=true->gF (4 * 3 ^ k.toNat) (k.toNat+1) 3 d->Q d aj
noncomputable def rF(n:Nat):ih:=λ ds G Q=>∃(a:Addr)(k:Int),ds=[.ref a,.int k]/\e9 G a/\0<=k/\k<n/\k<=4/\∀ d aj,gV a G aj->gE d->(k=0->uG d=true)->gF (40 * 5 ^ k.toNat) (2 * k.toNat+3) 3 d->Q d aj
mutual
noncomputable def ws:D->Nat
 |.tup ds=>2+dI ds+ds.length
 |_=>1
noncomputable def dI:List D->Nat
 |[]=>0
 |d::ds=>ws d+dI ds
end
theorem CD:∀ xs ys:List D,dI (xs++ys)=dI xs+dI ys
 |[],ys=>by simp[dI]
 |x::xs,ys=>by rw[j3,dI,dI,CD xs ys,Nat.add_assoc]
mutual
theorem CE:∀ d:D,ws d+1<=4 * eP d
 |.tup ds=>by rw[ws,eP];have:=CF ds;omega
 |.int _=>by simp[ws,eP]
 |.str _=>by simp[ws,eP]
 |.bo=>by simp[ws,eP]
 |.aW _=>by simp[ws,eP]
 |.ref _=>by simp[ws,eP]
 |.ty _=>by simp[ws,eP]
 |.c1 _=>by simp[ws,eP]
theorem CF:∀ ds:List D,dI ds+ds.length<=4 * f_ ds
 |[]=>by simp[dI,f_]
 |d::ds=>by rw[dI,f_,eG];have:=CE d;have:=CF ds;omega
end
theorem CG(d:D):1<=ws d:=by cases d<;>simp[ws]<;>omega
theorem uX:∀ ds:List D,ds.length<=dI ds
 |[]=>fB _
 |d::ds=>by have:=uX ds;have:=CG d;rw[dI,eG];omega
mutual
theorem uY:∀ d:D,(cY d).length<=ws d
 |.tup ds=>by rw[cY,ws];have:=LB ds;omega
 |.int _=>by simp[ws,cY]
 |.str _=>by simp[ws,cY]
 |.bo=>by simp[ws,cY]
 |.aW _=>by simp[ws,cY]
 |.ref _=>by simp[ws,cY]
 |.ty _=>by simp[ws,cY]
 |.c1 _=>by simp[ws,cY]
theorem LB:∀ ds:List D,(il ds).length<=1+dI ds+ds.length
 |[]=>by simp[il,dI]
 | d::ds=>by
  have ae:=uY d;have ag:=CH ds;have bc:=CI ds;have cj:=CG d;rw[il,dI,eG];split<;>simp only[eG,dN]<;>omega
theorem CH:∀ ds:List D,(d9 ds).length<=dI ds
 |[]=>by simp[d9]
 |d::ds=>by rw[d9,dI,dN];have:=uY d;have:=CH ds;omega
theorem CI:∀ ds:List D,(e_ ds).length<=1+dI ds+ds.length
 |[]=>by simp[e_,dI]
 |d::ds=>by rw[e_,dI,eG,dN,eG];have:=uY d;have:=CI ds;omega
end
theorem CJ:∀ xs ys:List D,d9 (xs++ys)=d9 xs++d9 ys
 |[],ys=>by simp[d9]
 |x::xs,ys=>by rw[j3,d9,d9,CJ xs ys,j2]
noncomputable abbrev kD(ds:List D):List D:=ds.flatMap λ d=>[.int 1,d]
theorem CK(aZ:List D):∀ ds:List D,d9 (kD ds++.int 0::aZ)=e_ ds++d9 aZ
 |[]=>by simp[kD,d9,cY,e_]
 | d::ds=>by
  have:=CK aZ ds;simp only[kD,qc,j3,List.nil_append,d9,cY,e_,j2]at this ⊢;rw[this]
theorem CL(aZ:List D):∀ ds:List D,dI (kD ds++.int 0::aZ)=1+dI ds+ds.length+dI aZ
 |[]=>by simp[kD,dI,ws]
 | d::ds=>by
  have:=CL aZ ds;simp only[kD,qc,j3,List.nil_append,dI,ws,eG]at this ⊢;omega
theorem LC(ds:List D):(kD ds).reverse=ds.reverse.flatMap λ d=>[d,.int 1]:=by
 induction ds with
 |nil=>rfl
 | cons d ds b0=>
  have e:kD (d::ds)=[.int 1,d]++kD ds:=rfl;rw[e,List.reverse_append,b0,show (d::ds).reverse=ds.reverse++[d] from oB,iY];rfl
theorem CM:∀ xs:List D,(xs.flatMap λ x=>[x,D.int 1]).length=2 * xs.length
 |[]=>rfl
 |x::xs=>by rw[qc,dN,CM xs];simp;omega
theorem CN(k:Nat):gF (4 * 3 ^ k) (k+1) 3 (.tup [.str "some"]):=by
 have:=oF k 3 (by decide);exact⟨by simp only[eP,f_];omega,by simp only[D.bU,da];omega,by simp[mK,lr]⟩
theorem CO(k:Nat)(n:Int):gF (4 * 3 ^ k) (k+1) 3 (.tup [.str "is",.int n]):=by
 have:=oF k 3 (by decide);exact⟨by simp only[eP,f_];omega,by simp only[D.bU,da];omega,by simp[mK,lr]⟩
theorem LD{k:Int}{a b:D}(aq:0<k)(ae:gF (4 * 3 ^ (k - 1).toNat) ((k - 1).toNat+1) 3 a)(ag:gF (4 * 3 ^ (k - 1).toNat) ((k - 1).toNat+1) 3 b):gF (4 * 3 ^ k.toNat) (k.toNat+1) 3 (.tup [.str "both",a,b]):=by
 have e:k.toNat=(k - 1).toNat+1:=by omega
 have:=oF (k - 1).toNat 3 (by decide);have:=ae.gO;have:=ag.gO;have:=ae.bU;have:=ag.bU;have:=ae.pD;have:=ag.pD;rw[e,Nat.pow_succ];exact⟨by simp only[eP,f_];omega,by simp only[D.bU,da];omega,by simp only[mK,lr,eG,j1];omega⟩
theorem CP{k:Nat}{j:Int}{d:D}(bm:j<=2)(h:gF (4 * 3 ^ j.toNat) (j.toNat+1) 3 d):gF (40 * 5 ^ k) (2 * k+3) 3 d:=by
 have ae:=oF k 5 (by decide);have ag:3 ^ j.toNat<=3 ^ 2:=Nat.pow_le_pow_right (by decide) (by omega);have bc:(3:Nat) ^ 2=9:=rfl;exact h.mono (by omega) (by omega) (b6 _)
theorem CQ{k:Int}{z:Str}{a:D}(aq:0<k)(ae:gF (40 * 5 ^ (k - 1).toNat) (2 * (k - 1).toNat+3) 3 a):gF (40 * 5 ^ k.toNat) (2 * k.toNat+3) 3 (.tup [.str z,a]):=by
 have e:k.toNat=(k - 1).toNat+1:=by omega
 have:=oF (k - 1).toNat 5 (by decide);have:=ae.gO;have:=ae.bU;have:=ae.pD;rw[e,Nat.pow_succ];exact⟨by simp only[eP,f_];omega,by simp only[D.bU,da];omega,by simp only[mK,lr,eG,j1];omega⟩
theorem xp{k:Int}{ds:List D}{a:D}(aq:0<k)(h:∀ d∈ds,gF (40 * 5 ^ (k - 1).toNat) (2 * (k - 1).toNat+3) 3 d)(aB:ds.length<=3)(ae:gF (40 * 5 ^ (k - 1).toNat) (2 * (k - 1).toNat+3) 3 a):gF (40 * 5 ^ k.toNat) (2 * k.toNat+3) 3 (.tup [.str "way",.tup ds,a]):=by
 have e:k.toNat=(k - 1).toNat+1:=by omega
 have:=oF (k - 1).toNat 5 (by decide);have:=ae.gO;have:=ae.bU;have:=ae.pD;have s1:=CB λ d hd=>(h d hd).gO;have s2:ds.length * (40 * 5 ^ (k - 1).toNat)<=3 * (40 * 5 ^ (k - 1).toNat):=Nat.mul_le_mul_right _ aB;have s3:=ps λ d hd=>(h d hd).bU;have s4:=CC λ d hd=>(h d hd).pD;rw[e,Nat.pow_succ];exact⟨by simp only[eP,f_];omega,by simp only[D.bU,da];omega,by simp only[mK,lr,eG,j1];omega⟩
theorem gV.of{a:Addr}{G aj:aC}(h:d8 a G aj):gV a G aj:=⟨aj,h,.refl _⟩
theorem gV.c9{a:Addr}{G aj:aC}(h:gV a G aj){b:Addr}{o:fw}(af:b≠a)(e:G b=some o):aj b=some o:=by
 obtain⟨bZ,u,s⟩:=h;exact s _ _ (u.c9 af e)
theorem gV.fd{a:Addr}{G aj:aC}(h:gV a G aj):e9 aj a:=by
 obtain⟨bZ,u,s⟩:=h;obtain⟨x,y,e⟩:=u.fd;exact⟨x,y,s _ _ e⟩
theorem gV.trans{a:Addr}{G G1 aL:aC}(h:gV a G G1)(g:gV a G1 aL):gV a G aL:=by
 obtain⟨bZ,u,s⟩:=g;exact pv (λ b o nb e=>h.c9 nb e) u s
theorem gV.new{a p:Addr}{G aj:aC}{o:fw}(h:gV a G aj)(ai:aj p=none):gV a G (up aj p o):=by
 obtain⟨bZ,u,s⟩:=h;exact⟨bZ,u,Sub.trans s (Sub.new (Sub.refl _) ai)⟩
theorem Sub.ext'{G G1:aC}{p:Addr}{o:fw}(h:Sub G G1)(n:G1 p=m3):Sub G (up G1 p o):=λ b u e=>Sub.new (Sub.refl _) n b u (h b u e)
end L3
namespace L2
open PySem PySem.W PyProof.Rows
section
variable{prog:bX}{w:bJ}{A:cg}{E:Value->aw->Prop}{s:aw}{vs:List Value}{f:Value}{kS a:Addr}{e1:Nat}{J:List Value->aw->Prop}
theorem CR{body:Value->PUnit->Sem (ForInStep PUnit)}(af:∀ x ks s,vs[ks.length]?=some x->J ks s->aT (a5 prog w) A (body x ⟨⟩) (λ r av=>r=.yield ⟨⟩/\∃ k,J (ks++[k]) av) E s) :
 ∀(r ks:List Value)(s:aw),vs.drop ks.length=r->ks.length<=vs.length->J ks s->aT (a5 prog w) A (forIn r PUnit.unit body) (λ _ av=>∃ ks,ks.length=vs.length/\J ks av) E s
 | [],ks,s,aH,aB,h=>by
  rw[List.forIn_nil];exact bq ⟨ks,by have:=congrArg hX aH;rw[List.length_drop,j1]at this;omega,h⟩
 | x::r,ks,s,aH,aB,h=>by
  rw[List.forIn_cons]
  have ak:vs[ks.length]?=some x:=by have:=congrArg (·[0]?) aH;simpa using this
  have dr:=(gg.mp ak).1;refine ay (gw (af x ks s ak h) (λ q av aU=>?_) λ _ _ x=>x);obtain⟨rfl,k,ag⟩:=aU;show aT (a5 prog w) A (forIn r PUnit.unit body) _ E av;refine CR af r (ks++[k]) av ?_ (by rw[dN,lS];omega) ag;rw[dN,lS,<- List.drop_drop,aH];rfl
noncomputable abbrev kE(h:bF)(kS a:Addr)(out:List Value):bF:=(h.update kS (Obj.mapSeq λ _=>(#[]:Array Value))).update a (Obj.mapSeq λ _=>qa out)
structure KeyOrd(prog:bX)(w:bJ)(A:cg)(ks:List Value)(s:aw)(lt:Nat->Nat->Bool):Prop where
 ex:∃ κ,(∀(E:Value->aw->Prop)(Q:ow->aw->Prop),Q κ s->aT (a5 prog w) A (keyKind' ks.toArray) Q E s)/\∀ i j C,i<ks.length->j<ks.length->C (lt i j) s->oy prog w A κ ks i j C s
 uZ:mG lt
theorem LF{P:PySem.Fin->aw->Prop}(ag:2<=vs.length)(gq:vs.length<64)(kC:kS≠a)
 (nZ:∀ ks s,J ks s->(∃ e,s.heap.get? kS=some (bG "list" ks.toArray e))/\s.heap.get? a=some (bG "list" #[] e1))
 (n0:∀ ks x s,vs[ks.length]?=some x->J ks s->aT (a5 prog w) A (call f [x]) (λ k av=>(∃ e,av.heap.get? kS=some (bG "list" ks.toArray e))/\J (ks++[k]) {av with heap:=av.heap.update kS (Obj.mapSeq (·.push k))}) (λ _ _=>False) s)
 (jP:∀ ks s,ks.length=vs.length->J ks s->∃ lt,KeyOrd prog w A ks s lt/\∀ p:Array Nat,dH vs.length p->d3 lt p vs.length->P (.done (.ret .none)) {s with heap:=kE s.heap kS a (p.toList.map λ i=>vs.getD i Value.none)})
 (h0:J [] s):aT (a5 prog w) A (ksk_rest a f false vs.toArray e1 (.ref kS)) P E s:=by
 unfold ksk_rest;refine ay (p1 ?_)
 first
  |rw[List.forIn_toArray]
  |(rw[<- Array.forIn_toList];simp only[List.toList_toArray])
  |rw[<- Array.forIn_toList]
 refine ay (gw (CR (J:=J) (vs:=vs) (λ x ks av ak bm=>?_) vs [] s rfl (fB _) h0) (λ _ av hd=>?_) λ _ _ x=>x)
 ·have dr:=(gg.mp ak).1;refine ay (lE (gw (n0 ks x av ak bm) (λ k dB aq=>?_) λ _ _ fG=>fG.elim));obtain⟨⟨e,aq⟩,CS⟩:=aq
  try dsimp only
  refine ay (lP aq rfl ?_ (by rw[bN,d_];omega) (gZ (Nat.le_of_eq (Array.size_push ..)) (by rw[bN,d_];omega)));exact bq ⟨rfl,k,CS⟩
 ·obtain⟨ks,aB,bm⟩:=hd;obtain⟨⟨e,aq⟩,az⟩:=nZ ks av bm;obtain⟨lt,⟨⟨κ,LG,LH⟩,O⟩,fin⟩:=jP ks av aB bm
  try dsimp only
  refine ay (p6 aq rfl ?_)
  have tJ:¬ vs.toArray.size<2:=by rw[bN];omega
  unfold ksk_end;simp only[kT,if_false];rw[if_neg tJ,if_neg tJ];refine ay (LG _ _ ?_)
  refine ay (gw (kat_run (ks:=ks) (vs:=vs) (Q:=λ fU dB=>dB=av/\failedOf fU=none/\∃ p:Array Nat,dH vs.length p/\d3 lt p vs.length/\(arrOf fU).map (·.2)=(p.toList.map λ i=>vs.getD i Value.none).toArray) (G:=λ p dB=>dB=av/\dH vs.length p/\d3 lt p vs.length) aB ag gq (λ p fU av _ xf hf g=>⟨g.1,hf,p,g.2.1,g.2.2,kat_snds aB xf⟩)
   (ej.wp (λ i j C au bm iE=>LH i j C (by omega) (by omega) iE) (λ p ai=>⟨rfl,ai⟩) (Cj (by omega) O))) ?_ λ _ _ e=>e)
  rintro⟨⟨⟩,fU⟩ dB ⟨rfl,hf,p,ai,fJ,jM⟩
  have LI:(p.toList.map λ i=>vs.getD i Value.none).length=vs.length:=by rw[dm,ai.length_eq,qb]
  dsimp only at jM ⊢
  unfold ksk_tail
  try dsimp only
  rw[jM];refine ay (lP aq rfl ?_ (by rw[bN,d_];omega) (fB _));refine ay (wpAny_letGo ?_)
  have CT:(dB.heap.update kS (Obj.mapSeq λ _=>(#[]:Array Value))).get? a=some (bG "list" #[] e1):=by rw[hk _ _ _ _ kC.symm];exact az
  refine ay (p7 CT rfl ?_);simp only[kT,if_false];refine ay (lP CT rfl ?_ (fB _) (by show (qa _).size<=_;rw[bN,LI,d_];omega));rw[hf];simp only[bne_self_eq_false,kT,if_false];exact bq (fin p ai fJ)
theorem CU{n:Nat}{P:PySem.Fin->aw->Prop}{J:Nat->List Value->aw->Prop}(aJ:s.heap.get? a=some (bG "list" vs.toArray n))(ag:2<=vs.length)(gq:vs.length<64)
 (h0:∀ e1 h',(∀ b o,b≠a->s.heap.get? b=some o->h'.get? b=some o)->h'.get? a=some (bG "list" #[] e1)->h'.get? (s.heap.objs.size+1)=some (bG "list" #[] 0)->J e1 [] {s with heap:=h'})
 (nZ:∀ e1 ks av,J e1 ks av->(∃ e,av.heap.get? (s.heap.objs.size+1)=some (bG "list" ks.toArray e))/\av.heap.get? a=some (bG "list" #[] e1))
 (n0:∀ e1 ks x av,vs[ks.length]?=some x->J e1 ks av->aT (a5 prog w) A (call f [x]) (λ k dB=>(∃ e,dB.heap.get? (s.heap.objs.size+1)=some (bG "list" ks.toArray e))/\J e1 (ks++[k]) {dB with heap:=dB.heap.update (s.heap.objs.size+1) (Obj.mapSeq (·.push k))}) (λ _ _=>False) av)
 (jP:∀ e1 ks av,ks.length=vs.length->J e1 ks av->∃ lt,KeyOrd prog w A ks av lt/\∀ p:Array Nat,dH vs.length p->d3 lt p vs.length->P (.done (.ret .none)) {av with heap:=kE av.heap (s.heap.objs.size+1) a (p.toList.map λ i=>vs.getD i Value.none)}) :
 aT (a5 prog w) A (ksk_tree a f false) P E s:=by
 have az:a<s.heap.objs.size:=c7 aJ
 obtain⟨e1,rB⟩:∃ e1,(s.heap.update a (Obj.mapSeq λ _=>(#[]:Array Value))).get? a=some (bG "list" #[] e1):=⟨_,get?_update_seq aJ λ _=>#[]⟩
 have CV:((s.heap.update a (Obj.mapSeq λ _=>(#[]:Array Value))).push (bG "tuple" vs.toArray 0)).objs.size=s.heap.objs.size+1:=by rw[mS,oJ]
 unfold ksk_tree;refine ay (p6 aJ rfl ?_);refine ay (lP aJ rfl ?_ (by rw[bN,d_];omega) (fB _));refine ay (p7 rB rfl ?_);refine ay (vz ?_ (by show vs.length<=_;rw[d_];omega));refine ay (on ?_ (fB _));refine iT ?_
 have LJ:(((s.heap.update a (Obj.mapSeq λ _=>(#[]:Array Value))).push (bG "tuple" vs.toArray 0)).push (bG "list" #[] 0)).get? (s.heap.objs.size+1)=some (bG "list" #[] 0):=by
  rw[<- CV];exact fc _ rfl
 have main:=LF (prog:=prog) (w:=w) (A:=A) (E:=E) (s:={s with heap:=((s.heap.update a (Obj.mapSeq λ _=>(#[]:Array Value))).push (bG "tuple" vs.toArray 0)).push (bG "list" #[] 0)}) (kS:=s.heap.objs.size+1) (a:=a) (f:=f) (e1:=e1) (P:=P) (J:=J e1) ag gq (qg (lU az)) (nZ e1) (n0 e1) (jP e1)
  (h0 e1 _ (λ b o nb e=>dA _ (dA _ (by rw[hk _ _ _ _ nb];exact e))) (dA _ (dA _ rB)) LJ)
 dsimp only at main ⊢
 rw[CV];exact main
theorem LK{l q:Addr}{Q:Value->aw->Prop}{J:Nat->List Value->aw->Prop}(aB:s.heap.IsList l vs.toArray)(ag:2<=vs.length)(gq:vs.length<64)
 (h0:∀ e1 h',(∀ b o,s.heap.get? b=some o->h'.get? b=some o)->h'.get? (s.heap.objs.size+1)=some (bG "list" #[] e1)->h'.get? (s.heap.objs.size+3)=some (bG "list" #[] 0)->J e1 [] {s with heap:=h'})
 (nZ:∀ e1 ks av,J e1 ks av->(∃ e,av.heap.get? (s.heap.objs.size+3)=some (bG "list" ks.toArray e))/\av.heap.get? (s.heap.objs.size+1)=some (bG "list" #[] e1))
 (n0:∀ e1 ks x av,vs[ks.length]?=some x->J e1 ks av->aT (a5 prog w) A.in1.in1 (call (.ref q) [x]) (λ k dB=>(∃ e,dB.heap.get? (s.heap.objs.size+3)=some (bG "list" ks.toArray e))/\J e1 (ks++[k]) {dB with heap:=dB.heap.update (s.heap.objs.size+3) (Obj.mapSeq (·.push k))}) (λ _ _=>False) av)
 (jP:∀ e1 ks av,ks.length=vs.length->J e1 ks av->∃ lt,KeyOrd prog w A.in1.in1 ks av lt/\∀ p:Array Nat,dH vs.length p->d3 lt p vs.length->Q (.ref (s.heap.objs.size+1)) {av with heap:=kE av.heap (s.heap.objs.size+3) (s.heap.objs.size+1) (p.toList.map λ i=>vs.getD i Value.none)}) :
 aT (a5 prog w) A (call (.builtin "sorted") [.ref l] [(Str.ofString "key",.ref q)]) Q E s:=by
 refine zt sM sK sL (ksk_s1 _ _) ?_;unfold Builtin.«sorted»;refine ay (m:=sI "sorted" 1 1 _) (bq ?_);refine ay (collect_list aB ?_ (by rw[d_];omega));refine ay (on ?_ (by rw[d_];omega))
 have hsz:((s.heap.push (bG "list" #[] 0)).update s.heap.objs.size (Obj.mapSeq (·++vs.toArray))).objs.size=s.heap.objs.size+1:=by
  rw[oJ,mS]
 have ka:(((s.heap.push (bG "list" #[] 0)).update s.heap.objs.size (Obj.mapSeq (·++vs.toArray))).push (bG "list" vs.toArray 0)).get? (s.heap.objs.size+1)=some (bG "list" vs.toArray 0):=by
  rw[<- hsz];exact fc _ rfl
 have hsz2:(((s.heap.push (bG "list" #[] 0)).update s.heap.objs.size (Obj.mapSeq (·++vs.toArray))).push (bG "list" vs.toArray 0)).objs.size+1=s.heap.objs.size+3:=by rw[mS,hsz]
 have keep:∀ b o,s.heap.get? b=some o->(((s.heap.push (bG "list" #[] 0)).update s.heap.objs.size (Obj.mapSeq (·++vs.toArray))).push (bG "list" vs.toArray 0)).get? b=some o:=λ b o q=>by
  have dr:b<s.heap.objs.size:=c7 q;rw[oI _ _ _ (by rw[hsz];exact dJ (lU dr)),hk _ _ _ _ (dJ dr),oI _ _ _ (dJ dr)];exact q
 show aT _ _ _ _ _ {s with heap:=((s.heap.push (bG "list" #[] 0)).update s.heap.objs.size (Obj.mapSeq (·++vs.toArray))).push (bG "list" vs.toArray 0)};rw[hsz];refine ay (iT (wpAny_call_entry_kw sJ ⟨_,ka,rfl⟩ W1 ?body (ksk_l1 _ _)))
 case body=>
  show aT (a5 prog w) A.in1.in1 (Builtin.«list.sort» ⟨[.ref (s.heap.objs.size+1)],[(Str.ofString "key",.ref q)]⟩) _ _ _;rw[ksk_t1];refine CU (J:=J) (s:={s with heap:=((s.heap.push (bG "list" #[] 0)).update s.heap.objs.size (Obj.mapSeq (·++vs.toArray))).push (bG "list" vs.toArray 0)}) ka ag gq ?_ ?_ ?_ ?_
  ·intro e1 h' aq iB eW;rw[hsz2]at eW;exact h0 e1 h' (λ b o e=>aq b o (dJ (lU (c7 e))) (keep b o e)) iB eW
  ·intro e1 ks av bm;rw[hsz2];exact nZ e1 ks av bm
  ·intro e1 ks x av ak bm;rw[hsz2];exact n0 e1 ks x av ak bm
  ·intro e1 ks av xq bm;obtain⟨lt,o,fin⟩:=jP e1 ks av xq bm;rw[hsz2];exact⟨lt,o,λ p ai fJ=>⟨_,rfl,bq ⟨_,rfl,fin p ai fJ⟩⟩⟩
end
end L2
namespace L2
open PySem PySem.Spec PySem.W PyProof.Rows
section
variable{X:aQ}{pins:List (Addr×Obj)}{σ:St}{H:am}{s:aw}
theorem Inv.adopt{a:Addr}{o:eR}(I:Inv X pins σ H s)(aS:H a=none)(h3:a≠X.env.locals)(h0:X.s₀.heap.objs.size<=a)(aA:∀ x c,X.env.cells.lookup x=some c->c≠a)(ai:∀ p∈X.pn++pins,p.1≠a)
 (new:dP X.prog X.w (upd H a o) s.heap a o):Inv X pins σ (upd H a o) s where
 ok:=I.ok
 os:=I.os
 bare:=I.bare
 base:=by
  have u:=I.base
  have nn:∀ b v,H b=some v->b≠a:=λ b v e z=>by rw[z,aS]at e;cases e
  refine⟨u.keep,u.slot,λ b b5 q n ak=>?_,u.there,λ b xs q=>?_,λ b b5 v q=>?_,λ b aZ q=>?_⟩
  ·rw[cu (dJ (fS (c7 q) h0))];exact u.free b b5 q n ak
  ·have e:=u.j9 b xs q;rw[cu (nn b _ e)];exact e
  ·have e:=u.jo b b5 v q;rw[cu (nn b _ e)];exact e
  ·obtain⟨m,e⟩:=u.j_ b aZ q;exact⟨m,by rw[cu (nn b _ e)];exact e⟩
 loc:=I.loc
 cell:=I.cell
 free:=by rw[cu h3.symm];exact I.free
 i3:=λ x c e=>by rw[cu (aA x c e)];exact I.i3 x c e
 pin:=λ p ik=>by
  obtain⟨gj,c8,io⟩:=I.pin p ik;exact⟨gj,by rw[cu (ai p ik)];exact c8,io⟩
 bj:=λ b u e=>by
  by_cases af:b=a
  ·subst af;rw[fN]at e;cases e;exact new
  ·rw[cu af]at e;exact(I.bj b u e).j8 (λ _ _ _ q=>q) (λ c q=>by rw[cu (gN q aS)];exact q) λ c xs q=>by rw[cu (gN q aS)];exact q
 len:=I.len
theorem ef.CW{k j:Nat}{A:cg}(r:ef j A)(h:k+1<=j):ef k A.in1.in1:=⟨r.hd,by have:=r.bU;show A.depth+3 * k+5<_;omega,by have:=r.un;show A.units+1+1+16 * k+200<_;omega,r.vW⟩
theorem CY{k:Nat}{f:Addr}{fd:fA}{aZ:List Str}{sp:ft}{Q:b7}{us:List Value}{vs:List V}(F:dh X.prog X.w X.K X.mg X.base dx k f fd aZ sp)(aH:ef k X.A.in1.in1)(af:Binds X.K fd aZ [])
 (I:Inv X pins σ H s) (r:Vals vs us) (h:sp vs H Q ny):aT (a5 X.prog X.w) X.A.in1.in1 (call (.ref f) us) (fP X pins σ Q) (λ _ _=>False) s:=by
 have aB:us.length=aZ.length:=by rw[<- r.length];exact F.len _ _ _ _ h
 have cf:=af s us I.fT (by rw[hj];exact aB);rw[hj]at cf;refine wpAny_call (sD (F.run X.A.in1.in1 X.stack s H ⟨us,[]⟩ us vs Q ny aH I.Aa.in1.in1 cf r h) λ r av aU=>?_)
 cases r with
 |error e=>exact(show False from aU).elim
 | ok kZ=>
  cases kZ with
  |ret u=>exact I.after aU
  |next=>exact False.elim aU
  |brk=>exact False.elim aU
  |cont=>exact False.elim aU
end
end L2
namespace L3
open PySem PySem.Spec PySem.W PyProof.Rows L2 PySem.SeqAt
section
variable{X:aQ}
noncomputable def CZ(K:a4)(H:am)(zs:List Addr)(lt:Nat->Nat->Bool)(i j:Nat):Prop:=
 ∃(a b:Addr)(ds es:List D)(us ws:List V),zs[i]?=some a/\zs[j]?=some b/\dO K H a us/\dO K H b ws/\br K H ds us/\br K H es ws/\cw ds=true/\cw es=true/\da ds<=150/\bR ds es=some (lt i j)
noncomputable def C0(K:a4)(sp:ft):V->am->b7->Prop:=λ x H Q=>∃(l:Addr)(xs:List V)(R:List Addr->am->Prop)(lt:Nat->Nat->Bool),x=.ref l/\dO K H l xs/\2<=xs.length/\xs.length<64/\mG lt/\R [] H ∧
 (∀ zs v H1,xs[zs.length]?=some v->R zs H1->sp [v] H1 (λ r aO=>∃ z,r=.ref z/\R (zs++[z]) aO) ny) ∧
 (∀ zs H1,zs.length=xs.length->R zs H1->(∀ i j,i<xs.length->j<xs.length->CZ K H1 zs lt i j)/\∀ p:Array Nat,dH xs.length p->d3 lt p xs.length->∀ a,H1 a=none->Q (.ref a) (upd H1 a (.lst (p.toList.map λ i=>xs.getD i .bo))))
theorem LL{k j:Nat}{q:Addr}{sp:ft}(G:o1 X.prog X.w X.K X.mg X.base k q sp)(aH:ef j X.A)(aq:k+1<=j){pins:List (Addr×Obj)}{s:aw}{σ:L2.St}{H:am}{x:V}{u:Value}{Q:b7}(I:Inv X pins σ H s)(a6:RelV x u)(h:C0 X.K sp x H Q) :
 aT (a5 X.prog X.w) X.A (call (.builtin "sorted") [u] [(Str.ofString "key",.ref q)]) (fP X pins σ Q) X.xe s:=by
 obtain⟨l,xs,R,lt,rfl,aU,ag,gq,O,xr,xt,jP⟩:=h;cases a6;obtain⟨fd,aZ,F,c9,bd⟩:=G.ex;obtain⟨ao,aM,cS,_⟩:=I.list aU;have hlen:=aM.length;have rG:H (s.heap.objs.size+1)=none:=I.bj.fresh (lV _);have rH:H (s.heap.objs.size+3)=none:=I.bj.fresh (s6 _ _);obtain⟨_,n1,xu,xv,rI,rJ⟩:=I.kg (b:=s.heap.objs.size+1) (lV _) rG;obtain⟨_,ls,rK,rL,rM,rN⟩:=I.kg (b:=s.heap.objs.size+3) (s6 _ _) rH;have xw:X.s₀.heap.objs.size<=s.heap.objs.size+1:=gZ I.gO (lV _);have rO:s.heap.objs.size+1≠s.heap.objs.size+3:=λ e=>absurd (Nat.add_left_cancel e) (by decide)
 have n2:∀(is:Array Value)(n:Nat)(v:Option Value),(bG "list" is n).data≠.cell v:=λ is n v z=>by cases z
 refine LK (J:=λ e1 ks av=>∃(e:Nat)(ah:am)(zs:List Addr),Inv X (pins++[(s.heap.objs.size+1,bG "list" #[] e1),(s.heap.objs.size+3,bG "list" ks.toArray e)]) σ ah av/\ks=zs.map Value.ref/\R zs ah) cS.isList (by omega) (by omega) ?_ ?_ ?_ ?_
 ·intro e1 h' keep iB eW;have aV:Inv X pins σ H {s with heap:=h'}:=I.kept (t':=s.toks) keep;refine⟨0,H,[],aV.oP λ p ai=>?_,rfl,xr⟩;rcases fL.mp ai with ai|ai
  ·exact aV.pin p (dc _ ai)
  ·simp only[fq,qd,or_false]at ai;rcases ai with rfl|rfl
   ·exact⟨iB,rG,n1,xu,n2 _ _⟩
   ·exact⟨eW,rH,ls,rK,n2 _ _⟩
 ·rintro e1 ks av ⟨e,ah,zs,aV,rfl,ei⟩;exact⟨⟨e,(aV.pin _ (dc _ (dc _ (.tail _ (.head _))))).1⟩,(aV.pin _ (dc _ (dc _ (.head _)))).1⟩
 ·rintro e1 ks y av a9 ⟨e,ah,zs,aV,rfl,ei⟩;rw[dm]at a9
  have n3:zs.length<xs.length:=by rw[hlen];exact(gg.mp a9).1
  obtain⟨i6,xx,xy⟩:=aM.get (cN n3);rw[xx]at a9;cases a9;refine bT (CY F (ef.CW aH aq) bd aV (.cons xy .nil) (xt zs _ ah (cN n3) ei)) ?_;rintro a7 dB ⟨h4,aO,cG,xA,z,rfl,xB⟩;cases xA;have hb:=cG.pin _ (dc _ (dc _ (.tail _ (.head _))));have hQ:=cG.pin _ (dc _ (dc _ (.head _)));refine⟨⟨e,hb.1⟩,?_⟩
  have e6:((zs.map Value.ref).toArray).push (.ref z)=((zs++[z]).map Value.ref).toArray:=by simp
  obtain⟨cR,e8⟩:∃ cR,(dB.heap.update (s.heap.objs.size+3) (Obj.mapSeq (·.push (.ref z)))).get? (s.heap.objs.size+3)=some (bG "list" (((zs++[z]).map Value.ref).toArray) cR):=⟨_,by rw[<- e6];exact get?_update_seq hb.1 (·.push (.ref z))⟩
  have c0:Inv X pins σ aO dB:=cG.kW;have eI:Inv X pins σ aO {dB with heap:=dB.heap.update (s.heap.objs.size+3) (Obj.mapSeq (·.push (.ref z)))}:=c0.turned (t':=dB.toks) (it:=s.heap.objs.size+3) (λ b o nb dG=>by rw[hk _ _ _ _ nb];exact dG) hb.2.1 ls rL rM rN;refine⟨cR,aO,zs++[z],eI.oP λ p ai=>?_,by simp,xB⟩;rcases fL.mp ai with ai|ai
  ·exact eI.pin p (dc _ ai)
  ·simp only[fq,qd,or_false]at ai;rcases ai with rfl|rfl
   ·exact⟨by show (dB.heap.update _ _).get? _=_;rw[hk _ _ _ _ rO];exact hQ.1,hQ.2⟩
   ·exact⟨by simpa using e8,hb.2.1,ls,rK,n2 _ _⟩
 ·rintro e1 ks av aB ⟨e,ah,zs,aV,rfl,ei⟩;rw[dm]at aB;obtain⟨cmp,fin⟩:=jP zs ah (by omega) ei;have hb:=aV.pin _ (dc _ (dc _ (.tail _ (.head _))));have hQ:=aV.pin _ (dc _ (dc _ (.head _)));refine⟨lt,⟨⟨oneType',λ uV lZ g0=>?_,λ i j C au bm iE=>?_⟩,O⟩,λ p ai fJ=>?_⟩
  ·refine kas_kind (T:=.type "list") (by rw[dm];omega) (λ v bh=>?_) (by decide) (by decide) g0;obtain⟨z,hz,rfl⟩:=ea.mp bh;obtain⟨i,au,rfl⟩:=List.getElem_of_mem hz;obtain⟨a,b,ds,es,us,ws,g1,g2,e0,_⟩:=cmp i i (by omega) (by omega);rw[cN au]at g1;cases g1;obtain⟨its',_,xC,_⟩:=aV.list e0;obtain⟨o,aJ,aA,_⟩:=xC.isList;exact λ A Q E av k q=>sF (T:="list") ⟨o,k _ _ aJ,aA⟩ q
  ·rw[dm]at au bm;obtain⟨a,b,ds,es,us,ws,g1,g2,xD,pC,a1,a2,ec,gu,cC,dr⟩:=cmp i j (by omega) (by omega);unfold oy;rw[uS g1,uS g2];exact Cy aV xD pC a1 a2 ec gu (by have:=aH.un;show X.A.units+1+1+1+da ds<bO;omega) dr iE
  ·have hm:∀ i∈p.toList,i<ao.length:=λ i au=>lR.mp (ai.mem_iff.mp au);have xE:=ai.length_eq;rw[qb]at xE;have aG:=uO aM p.toList (λ i au=>by have:=hm i au;omega);have c0:Inv X pins σ ah av:=aV.kW;have eI:Inv X pins σ ah {av with heap:=av.heap.update (s.heap.objs.size+3) (Obj.mapSeq λ _=>(#[]:Array Value))}:=c0.turned (t':=av.toks) (it:=s.heap.objs.size+3) (λ b o nb dG=>by rw[hk _ _ _ _ nb];exact dG) hb.2.1 ls rL rM rN
   have xF:(av.heap.update (s.heap.objs.size+3) (Obj.mapSeq λ _=>(#[]:Array Value))).get? (s.heap.objs.size+1)=some (bG "list" #[] e1):=by rw[hk _ _ _ _ rO];exact hQ.1
   have jt:Inv X pins σ ah {av with heap:=kE av.heap (s.heap.objs.size+3) (s.heap.objs.size+1) (p.toList.map λ i=>ao.getD i Value.none)}:=by
    have z:=eI.turned (h':=kE av.heap (s.heap.objs.size+3) (s.heap.objs.size+1) (p.toList.map λ i=>ao.getD i Value.none)) (t':=av.toks) (it:=s.heap.objs.size+1) (λ b o nb dG=>by show ((av.heap.update _ _).update _ _).get? b=_;rw[hk _ _ _ _ nb];exact dG) hQ.2.1 n1 xv rI rJ;exact z
   obtain⟨cR,e8⟩:∃ cR,(kE av.heap (s.heap.objs.size+3) (s.heap.objs.size+1) (p.toList.map λ i=>ao.getD i Value.none)).get? (s.heap.objs.size+1)=some (bG "list" (p.toList.map λ i=>ao.getD i Value.none).toArray cR):=⟨_,get?_update_seq xF λ _=>(p.toList.map λ i=>ao.getD i Value.none).toArray⟩
   have cp:=d_;have kh:=jt.adopt (a:=s.heap.objs.size+1) (o:=.lst (p.toList.map λ i=>xs.getD i .bo)) hQ.2.1 n1 xw rI rJ ⟨by rw[dm];omega,_,cR,aG,e8⟩;exact⟨.ref _,_,kh,rfl,fin p (by rw[hlen];exact ai) (by rw[hlen];exact fJ) _ hQ.2.1⟩
end
end L3
namespace L3
open PySem PySem.Spec PyProof.Rows L2
theorem br.picks{K:a4}{H:am}{ds:List D}{vs:List V}(h:br K H ds vs):∀(p:List Nat),(∀ i∈p,i<ds.length)->br K H (p.map λ i=>ds.getD i .bo) (p.map λ i=>vs.getD i .bo)
 |[],_=>rfl
 | i::p,ai=>by
  have au:=ai i (dk ..);obtain⟨v,bh,a⟩:=h.get (cN au);refine⟨v,_,?_,?_,br.picks h p λ j bm=>ai j (dM _ bm)⟩
  ·rw[eF,gL,bh];rfl
  ·show ck K H (ds.getD i .bo) v;rw[gL,cN au];exact a
noncomputable def C1(P:D->Prop)(key:D->List D):ih:=λ ds G Q=>∃ d:D,ds=[d]/\P d/\∀ l,G l=none->Q (.ref l) (up G l (.lst (key d)))
structure xG(key:D->List D)(ds:List D)(lt:Nat->Nat->Bool):Prop where
 uZ:mG lt
 cmp:∀ i j d e,ds[i]?=some d->ds[j]?=some e->cw (key d)=true/\da (key d)<=150/\bR (key d) (key e)=some (lt i j)
section
variable{X:aQ}
theorem C2{ds:List D}(aq:∀ d∈ds,bE d)(h0:0<ds.length):xG cY ds (ltI ds) where
 uZ:=Cq aq h0
 cmp:=λ i j d e au bm=>by
  have hv:=aq d (hA au);have n4:=aq e (hA bm);have CA:=(gg.mp au).1;have CS:=(gg.mp bm).1;obtain⟨b,af⟩:=iZ.mp (hv.lt n4);refine⟨uQ hv.data,by rw[jN.bU hv.Ld];exact fB _,?_⟩;rw[hv.Lb n4,af];show some b=some ((bt (ds.getD (min i (ds.length - 1)) .bo) (ds.getD (min j (ds.length - 1)) .bo)).getD false);rw[show min i (ds.length - 1)=i by omega,show min j (ds.length - 1)=j by omega,gL,gL,au,bm];show some b=some ((bt d e).getD false);rw[af];rfl
end
noncomputable def xH(x:D):Prop:=∃ z r,x=.tup (.str z::r)
theorem LM{ds:List D}(h:∀ d∈ds,xH d):cY (.tup ds)=e_ ds:=by
 rw[cY]
 cases ds with
 |nil=>rw[il,e_]
 | cons d ds=>
  rw[il,e_];obtain⟨z,r,e⟩:=h d (dk ..);rw[e];rfl
theorem LN{a:D}(h:bE a):xH a:=by obtain⟨z,r,e,_⟩:=h.head;exact⟨z,r,e⟩
inductive hR:D->Prop
 |int (n:Int):hR (.int n)
 |str (z:Str):hR (.str z)
 |node {z:Str} {r:List D}:(∀ x∈r,hR x)->hR (.tup (.str z::r))
 |bB {ds:List D}:(∀ d∈ds,hR d)->(∀ d∈ds,xH d)->hR (.tup ds)
noncomputable def LO:ih:=λ ds G Q=>∃ d:D,ds=[d]/\(hR d/\eP d<=49000)/\∀ l,G l=none->Q (.ref l) (up G l (.lst (cY d)))
theorem C3{d:D}(h:bE d):hR d:=by
 induction h with
 |is n=>exact .node λ x ak=>by simp at ak;subst ak;exact .int _
 |some=>exact .node (by simp)
 |both _ _ ae ag=>exact .node λ x ak=>by simp at ak;rcases ak with rfl|rfl;exact ae;exact ag
 |left _ ae=>exact .node λ x ak=>by simp at ak;subst ak;exact ae
 |right _ ae=>exact .node λ x ak=>by simp at ak;subst ak;exact ae
 |way cz _ ae ag=>exact .node λ x ak=>by simp at ak;rcases ak with rfl|rfl;exact .bB ae λ d hd=>LN (cz d hd);exact ag
end L3
namespace L3
open PySem L2
theorem LP{G:aC}{a l:Addr}{f:fw}(n:up G a f l=none):G l=none:=(uz (o:=f) n).2.1
theorem LQ{G:aC}{a l:Addr}{f:fw}(n:up G a f l=none):l≠a:=(uz (o:=f) n).2.2
end L3
namespace L3
open PySem L2
noncomputable def eo(i:Nat)(ms:List (Nat×D)):List D:=(ms.filter λ m=>m.1==i).map (·.2)
theorem lu(i:Nat)(a b:List (Nat×D)):eo i (a++b)=eo i a++eo i b:=by simp[eo]
end L3
namespace L3
open PySem L2
theorem xI(i:Nat)(ms:List (Nat×D)):(eo i ms).length<=ms.length:=by unfold eo;rw[dm];exact List.length_filter_le ..
end L3
namespace L2
open PySem PySem.Spec PyProof.Rows
noncomputable def jg(h:bF)(d:Addr)(es:Array hy)(ep:Nat):Prop:=∃ o,h.get? d=some o/\o.ExactDict/\o.data=.dict es ep
theorem jg.typeIs{s:aw}{d:Addr}{es:Array hy}{ep:Nat}(x:jg s.heap d es ep):s.TypeIs (.ref d) "dict":=let ⟨o,aJ,aA,_⟩:=x;⟨o,aJ,aA.1⟩
section
variable{prog:bX}{w:bJ}{A:cg}{E:Value->aw->Prop}{s:aw}{d it:Addr}{es:Array hy}{ep i:Nat}
theorem LR{Q:Value->aw->Prop}(hd:(d==hh)=false)(R:jg s.heap d es ep)
 (h:Q (.ref s.heap.objs.size) {s with heap:=s.heap.push {cls:=.type "dict_keyiterator",data:=.fields #[.ref d,.int 0 0,.int es.size 0,.int ep 0]}}):aT (a5 prog w) A (lK (.ref d)) Q E s:=by
 obtain⟨o,aJ,aA,e⟩:=id R;refine vx R.typeIs PySem.F.slot_dict_iter (iR PySem.F.slot_dict_iter R.typeIs PySem.F.entry_dict_iter ?_ (PySem.F.args_dict_iter_1 _));unfold Builtin.«dict.__iter__» Builtin.Dict.dictSlotNone;refine ay (ay (zp R.typeIs ?_));refine(show aT _ _ (pure (Value.ref d)) _ _ s from bq ?_);show aT _ _ (Builtin.Dict.showsAll d >>= _) _ _ s;unfold Builtin.Dict.showsAll;rw[if_neg (by rw[hd];decide)];refine ay (bq (ay (oi aJ e (ay (XV aJ e ?_)))));refine ay (gY (bq ⟨_,rfl,"dict_keyiterator",_,⟨_,fc _ rfl,rfl⟩,PySem.F.slot_dict_keyiterator_next.lookup,?_⟩));simpa[gd] using h
theorem LS{x:hy}{Q:Option Value->aw->Prop}(J:s.heap.IsKeyIter it d i es.size ep)(R:jg s.heap d es ep)(ak:es[i]?=some x)
 (h:∀ h',h'.IsKeyIter it d (i+1) es.size ep->Heap.SameBut it s.heap h'->Q (some x.key) {s with heap:=h'}):aT (a5 prog w) A (gJ (.ref it)) Q E s:=by
 obtain⟨o,aJ,aA,hd⟩:=id J;obtain⟨dF,jQ,g4,ip⟩:=id R;have dr:i<es.size:=(qh.mp ak).1;obtain rfl:es[i]=x:=(qh.mp ak).2;unfold gJ;refine ay (lE (wpAny_callSpecial?_slot (name:=Str.ofString "__next__") J.typeIs PySem.F.slot_dict_keyiterator_next (iR PySem.F.slot_dict_keyiterator_next J.typeIs PySem.F.entry_dict_keyiterator_next ?_ (PySem.F.args_dict_keyiterator_next_1 _))));refine ay (bq (ay (ay ?_)));refine ay (su J.typeIs (bq (ay (sC aJ hd ?_))));simp only[show Builtin.Dict_items.ownsTuple "dict_keyiterator"=false by decide,kT,if_false];refine(show aT _ _ (if (Value.ref d==Value.none)=true then _ else _) _ _ s from ?_);rw[if_neg (show ¬ (Value.ref d==Value.none)=true from i0)];refine ay (bq (ay (oi jQ ip ?_)));rw[if_neg (by simp)];refine ay (bq (ay (XV jQ ip ?_)));rw[if_neg (by simp)];refine bq ?_;simp only[show ¬ (i:Int)<0 by omega,if_false,qk,oG dr];refine ay (ay (su J.typeIs (bq (ay (zq J.typeIs ?_)))));refine(show aT _ _ (ou (.ref it) 1 (gd ((i:Int)+1)) >>= _) _ _ s from ay (om aJ hd (by simp) ?_))
 have km:(s.heap.update it (Obj.mapFields (·.setIfInBounds 1 (gd ((i:Int)+1))))).IsKeyIter it d (i+1) es.size ep:=
  ⟨_,te _ aJ (Obj.isFreed_of_fields (Obj.data_mapFields hd _)),(Obj.cls_mapFields ..).trans aA,by rw[Obj.data_mapFields hd];simp[gd]⟩
 refine ay (iT (ay (zq (s:={s with heap:=s.heap.update it (Obj.mapFields (·.setIfInBounds 1 (gd ((i:Int)+1))))}) km.typeIs ?_)));exact(show aT _ _ (pure es[i].key) _ _ _ from bq (bq ⟨_,rfl,bq (h _ km (Heap.SameBut.update ..))⟩))
theorem LU{Q:Option Value->aw->Prop}(fu:A.handled=none)(J:s.heap.IsKeyIter it d i es.size ep)(R:jg s.heap d es ep)(ak:es.size<=i)(h:∀ h',Heap.ExtBut it s.heap h'->Q none {s with heap:=h'}):aT (a5 prog w) A (gJ (.ref it)) Q E s:=by
 obtain⟨o,aJ,aA,hd⟩:=id J;obtain⟨dF,jQ,g4,ip⟩:=id R;unfold gJ;refine ay (lE (wpAny_callSpecial?_slot (name:=Str.ofString "__next__") J.typeIs PySem.F.slot_dict_keyiterator_next (iR PySem.F.slot_dict_keyiterator_next J.typeIs PySem.F.entry_dict_keyiterator_next ?_ (PySem.F.args_dict_keyiterator_next_1 _))));refine ay (bq (ay (ay ?_)));refine ay (su J.typeIs (bq (ay (sC aJ hd ?_))));simp only[show Builtin.Dict_items.ownsTuple "dict_keyiterator"=false by decide,kT,if_false];refine(show aT _ _ (if (Value.ref d==Value.none)=true then _ else _) _ _ s from ?_);rw[if_neg (show ¬ (Value.ref d==Value.none)=true from i0)];refine ay (bq (ay (oi jQ ip ?_)));rw[if_neg (by simp)];refine ay (bq (ay (XV jQ ip ?_)));rw[if_neg (by simp)];refine bq ?_;simp only[show ¬ (i:Int)<0 by omega,if_false,qk,Array.getElem?_eq_none ak];refine ay (ay (su J.typeIs (bq ?_)));refine(show aT _ _ (ou (.ref it) 0 .none >>= _) _ _ s from ay (om aJ hd (by simp) ?_));refine(show aT _ _ (newExc (.type "StopIteration") [] >>= _) _ _ _ from ay ?_);simp only[newExc,newTuple];refine ay (gY (ay (m:=oj _ _) (sH (a:=Value.none) (by first|rfl|(simp only[oj];rfl)) (gY ?_ (by size_fits)))) (by size_fits));simp only[raiseNew];refine ay (vB ?_);rw[show A.in1.handled=none from fu];refine ay (bq (wpAny_throw ?_));refine ay (sx (T:="StopIteration") (b:=true) ⟨_,fc _ rfl,rfl⟩ WF ?_);exact bq (h _ (((Heap.SameBut.update ..).extBut.push _).push _))
end
theorem C4{α β:Type}{R:α->β->Prop}:∀{xs:List α}{ys:List β},lJ R xs ys->∀{i:Nat}{y:β},ys[i]?=some y->∃ x,xs[i]?=some x/\R x y
 |_,_,.nil,i,y,e=>by simp at e
 |_,_,.cons h t,0,y,e=>by simp at e;subst e;exact⟨_,rfl,h⟩
 |_,_,.cons h t,i+1,y,e=>by simp at e;obtain⟨x,e1,r⟩:=C4 t e;exact⟨x,by simpa using e1,r⟩
section
variable{prog:bX}{w:bJ}{A:cg}{E:Value->aw->Prop}{s:aw}{d it:Addr}{es:Array hy}{ep i:Nat}
theorem LV{Q:Value->aw->Prop}(hd:(d==hh)=false)(R:jg s.heap d es ep)(h:Q (.ref s.heap.objs.size) {s with heap:=s.heap.push {cls:=.type "dict_items",data:=.fields #[.ref d]}}):aT (a5 prog w) A (call (.builtin "dict.items") [.ref d]) Q E s:=by
 refine sE PySem.F.slot_dict_items R.typeIs PySem.F.entry_dict_items (PySem.F.args_dict_items_1 _) (S:=λ _ C5 s=>jg s.heap d es ep/\C5 (.ok (.ret (.ref s.heap.objs.size))) {s with heap:=s.heap.push {cls:=.type "dict_items",data:=.fields #[.ref d]}}) (.of_wp λ A C5 s xz=>?_) ⟨R,h⟩;obtain⟨hm,h⟩:=xz;unfold Builtin.«dict.items» Builtin.Dict.noArgs;refine ay (ay (zp hm.typeIs ?_));refine(show aT _ _ (pure d) _ _ s from bq ?_);show aT _ _ (Builtin.Dict.showsAll d >>= _) _ _ s;unfold Builtin.Dict.showsAll;rw[if_neg (by rw[hd];decide)];exact ay (bq (ay (gY (bq ⟨_,rfl,h⟩))))
theorem LW{v:Addr}{Q:Value->aw->Prop}(bh:s.heap.IsItemsView v d)(R:jg s.heap d es ep)
 (h:Q (.ref s.heap.objs.size) {s with heap:=s.heap.push {cls:=.type "dict_itemiterator",data:=.fields #[.none,.bool false,.ref d,.int 0 0,.int es.size 0,.int ep 0,.none,.none]}}):aT (a5 prog w) A (lK (.ref v)) Q E s:=by
 obtain⟨dn,LX,PI,rP⟩:=id bh;obtain⟨o,aJ,aA,C6⟩:=id R;refine vx bh.typeIs PySem.F.slot_dict_items_iter (iR PySem.F.slot_dict_items_iter bh.typeIs PySem.F.entry_dict_items_iter ?_ (PySem.F.args_dict_items_iter_1 _));unfold Builtin.«dict_items.__iter__» Builtin.Dict_items.dictOf;refine ay (bq (ay (ay (iV LX rP (x:=.ref d) rfl (bq (ay ?_))))));unfold Builtin.Dict_items.newIterator;refine ay (oi aJ C6 (ay (XV aJ C6 ?_)));simp only[show Builtin.Dict_items.ownsTuple "dict_itemiterator"=true by decide,if_true];refine gY (bq ⟨_,rfl,"dict_itemiterator",_,⟨_,fc _ rfl,rfl⟩,PySem.F.slot_dict_itemiterator_next.lookup,?_⟩) (by simp only[sizeOk,Builtin.Dict_items.ownedTupleFields,bN,dN,eG,j1,d_];omega);simpa[gd,Builtin.Dict_items.ownedTupleFields] using h
theorem LY{x:hy}{ok dn:Value}{Q:Option Value->aw->Prop}(J:lG s.heap it d i es.size ep ok dn)(R:jg s.heap d es ep)(ak:es[i]?=some x)
 (h:∀ h',IsItemIterOut h' it d (i+1) es.size ep x.key x.val s.heap.objs.size->h'.get? s.heap.objs.size=some {cls:=.type "tuple",data:=.seq #[x.key,x.val]} →
  (∀ b o,b≠it->s.heap.get? b=some o->h'.get? b=some o)->Q (some (.ref s.heap.objs.size)) {s with heap:=h'}):aT (a5 prog w) A (gJ (.ref it)) Q E s:=by
 obtain⟨ai,g,hx,bM,os⟩:=s;obtain⟨dF,jQ,g4,ip⟩:=id R;have dr:i<es.size:=(qh.mp ak).1;obtain rfl:es[i]=x:=(qh.mp ak).2
 have eZ:Shared.TypeIs ⟨ai,g,hx,bM,os⟩ (.ref it) "dict_itemiterator":=⟨_,J,rfl⟩
 unfold gJ;refine ay (lE (wpAny_callSpecial?_slot (name:=Str.ofString "__next__") eZ PySem.F.slot_dict_itemiterator_next (iR PySem.F.slot_dict_itemiterator_next eZ PySem.F.entry_dict_itemiterator_next ?_ (PySem.F.args_dict_itemiterator_next_1 _))));refine ay (bq (ay (ay ?_)));refine ay (sr eZ (bq (ay (sC J rfl ?_))));simp only[show Builtin.Dict_items.ownsTuple "dict_itemiterator"=true by decide,if_true];refine(show aT _ _ (if (Value.ref d==Value.none)=true then _ else _) _ _ _ from ?_);rw[if_neg (show ¬ (Value.ref d==Value.none)=true from i0)];refine ay (bq (ay (oi jQ ip ?_)));rw[if_neg (by simp)];refine ay (bq (ay (XV jQ ip ?_)));rw[if_neg (by simp)];refine bq ?_;simp only[show ¬ (i:Int)<0 by omega,if_false,qk,oG dr];refine ay (ay (sr eZ (bq (ay (vv eZ ?_)))));refine(show aT _ _ (ou (.ref it) 3 (gd ((i:Int)+1)) >>= _) _ _ ⟨ai,g,hx,bM,os⟩ from ay (pW J (by simp) λ jz e1 s1=>?_))
 replace s1:Heap.SameBut it ai jz:=s1
 replace e1:lG jz it d (i+1) es.size ep ok dn:=by
  unfold lG;rw[show ((i+1:Nat):Int)=(i:Int)+1 by omega];simpa[gd] using e1
 have C7:Shared.TypeIs ⟨jz,g,hx,bM,os⟩ (.ref it) "dict_itemiterator":=⟨_,e1,rfl⟩
 refine ay (iT (ay (vv C7 (ay (vv C7 ?_)))));show aT _ _ (Builtin.Dict_items.pairFromOwner (.ref it) 6 es[i].key es[i].val) _ _ ⟨jz,g,hx,bM,os⟩;unfold Builtin.Dict_items.pairFromOwner;refine ay (vz ?_);have aP:lG (jz.push {cls:=.type "tuple",data:=.seq #[es[i].key,es[i].val]}) it d (i+1) es.size ep ok dn:=dA _ e1;have eK:jz.objs.size=ai.objs.size:=s1.1;have LZ:it<ai.objs.size:=c7 J
 have b8:(jz.push {cls:=.type "tuple",data:=.seq #[es[i].key,es[i].val]}).get? ai.objs.size=some {cls:=.type "tuple",data:=.seq #[es[i].key,es[i].val]}:=by rw[<- eK];exact fc _ rfl
 have b2:∀ b o,b≠it->ai.get? b=some o->(jz.push {cls:=.type "tuple",data:=.seq #[es[i].key,es[i].val]}).get? b=some o:=λ b o af e=>dA _ (s1.extBut b o af e);rw[eK];generalize jz.push {cls:=.type "tuple",data:=.seq #[es[i].key,es[i].val]}=nz at aP b8 b2 ⊢;show aT _ _ (Builtin.Dict_items.ownedTupleIsFree (.ref it) >>= _) _ _ ⟨nz,g,hx,bM,os⟩;refine ay ?_;unfold Builtin.Dict_items.ownedTupleIsFree;refine ay (iV aP rfl (x:=.none) rfl (bq ?_));simp only[if_true];refine ay (iV aP rfl (x:=ok) rfl (ay (iV aP rfl (x:=dn) rfl (ay (pW aP (by simp) λ qT gx s3=>?_)))))
 replace s3:Heap.SameBut it nz qT:=s3
 replace gx:lG qT it d (i+1) es.size ep es[i].key dn:=gx
 refine ay (pW gx (by simp) λ xJ kk s4=>?_)
 replace s4:Heap.SameBut it qT xJ:=s4
 replace kk:lG xJ it d (i+1) es.size ep es[i].key es[i].val:=kk
 refine ay (pW kk (by simp) λ xK kF s5=>?_)
 replace s5:Heap.SameBut it xJ xK:=s5
 replace kF:IsItemIterOut xK it d (i+1) es.size ep es[i].key es[i].val ai.objs.size:=kF
 refine ay (pW kF (by simp) λ xL u0 fh=>?_)
 replace fh:Heap.SameBut it xK xL:=fh
 have e5:∀ b o,b≠it->nz.get? b=some o->xL.get? b=some o:=λ b o af e=>fh.extBut b o af (s5.extBut b o af (s4.extBut b o af (s3.extBut b o af e)));exact ay (wpAny_letGo (bq (bq ⟨_,rfl,bq (h xL u0 (e5 _ _ (qg LZ) b8) λ b o af e=>e5 b o af (b2 b o af e))⟩)))
theorem L0{ok dn:Value}{Q:Option Value->aw->Prop}(fu:A.handled=none)(J:lG s.heap it d i es.size ep ok dn)(R:jg s.heap d es ep)(ak:es.size<=i)(h:∀ h',Heap.ExtBut it s.heap h'->Q none {s with heap:=h'}):aT (a5 prog w) A (gJ (.ref it)) Q E s:=by
 obtain⟨dF,jQ,g4,ip⟩:=id R
 have eZ:s.TypeIs (.ref it) "dict_itemiterator":=⟨_,J,rfl⟩
 unfold gJ;refine ay (lE (wpAny_callSpecial?_slot (name:=Str.ofString "__next__") eZ PySem.F.slot_dict_itemiterator_next (iR PySem.F.slot_dict_itemiterator_next eZ PySem.F.entry_dict_itemiterator_next ?_ (PySem.F.args_dict_itemiterator_next_1 _))));refine ay (bq (ay (ay ?_)));refine ay (sr eZ (bq (ay (sC J rfl ?_))));simp only[show Builtin.Dict_items.ownsTuple "dict_itemiterator"=true by decide,if_true];refine(show aT _ _ (if (Value.ref d==Value.none)=true then _ else _) _ _ s from ?_);rw[if_neg (show ¬ (Value.ref d==Value.none)=true from i0)];refine ay (bq (ay (oi jQ ip ?_)));rw[if_neg (by simp)];refine ay (bq (ay (XV jQ ip ?_)));rw[if_neg (by simp)];refine bq ?_;simp only[show ¬ (i:Int)<0 by omega,if_false,qk,Array.getElem?_eq_none ak];refine ay (ay (sr eZ (bq ?_)));refine(show aT _ _ (ou (.ref it) 2 .none >>= _) _ _ s from ay (om J rfl (by simp) ?_));refine(show aT _ _ (newExc (.type "StopIteration") [] >>= _) _ _ _ from ay ?_);simp only[newExc,newTuple];refine ay (gY (ay (m:=oj _ _) (sH (a:=Value.none) (by first|rfl|(simp only[oj];rfl)) (gY ?_ (by size_fits)))) (by size_fits));simp only[raiseNew];refine ay (vB ?_);rw[show A.in1.handled=none from fu];refine ay (bq (wpAny_throw ?_));refine ay (sx (T:="StopIteration") (b:=true) ⟨_,fc _ rfl,rfl⟩ WF ?_);exact bq (h _ (((Heap.SameBut.update ..).extBut.push _).push _))
end
end L2
namespace L2
open PySem PySem.Spec PyProof.Rows
section
variable{X:aQ}{pins:List (Addr×Obj)}{σ:St}{H:am}{s:aw}{a:Addr}{v:V}{u r:Value}{kvs:List (Key×V)}{k:Key}{A:cg}{E:Value->aw->Prop}
theorem L1{Q:Value->aw->Prop}(I:Inv X pins σ H s)(e:H a=some (.bf kvs))(aB:kvs.length<sizeLine)(bA:RelV (cO k) u)(aM:RelV v r)(ae:∀ w d av,fH kvs k=some d->Inv X pins σ H av->RelV d w->Q w av)
 (ag:fH kvs k=none->∀ av,Inv X pins σ (upd H a (.bf (hq kvs k v))) av->Q r av):aT (a5 X.prog X.w) A (call (.builtin "dict.setdefault") [.ref a,u,r]) Q E s:=by
 obtain⟨z,hd,vs,rel,cC⟩:=oZ I.bj e;refine sE PySem.F.slot_dict_setdefault cC.typeIs PySem.F.entry_dict_setdefault (PySem.F.args_dict_setdefault_3 _ _ _) (kt_meets_setdefault (el X.prog X.w) a (qP bA) hd r) ⟨vs,cC,by rw[<- rel.length];exact z,λ h4 n5=>?_,λ aS h' k2 ar=>?_⟩
 ·have bC:=rel.val k;rw[n5]at bC
  cases aq:fH kvs k with
  |none=>rw[aq]at bC;exact(show False from bC).elim
  |some d=>rw[aq]at bC;exact ae h4 d _ aq (I.tok _) bC
 ·have bC:=rel.val k;rw[aS]at bC
  cases aq:fH kvs k with
  |some d=>rw[aq]at bC;exact(show False from bC).elim
  | none=>
   have he:∃ q,h'.get? a=some q:=let ⟨q,_,_,aU,_⟩:=k2;⟨q,aU⟩
   have xm:(hq kvs k v).length<=sizeLine:=by have:=wq kvs k v;omega
   exact ag aq _ (wu I (by rw[e];exact True.intro) ar he (wv xm hd (rel.put k aM) k2))
end
noncomputable def L4(b4 ty fI:TE):TE:=λ σ H Q=>b4 σ H λ x H1=>∃ a,x=.ref a/\wy H1 a/\ty σ H1 λ y aO=>fI σ aO λ z b1=>∃ kvs k,b1 a=some (.bf kvs)/\y=cO k/\kvs.length<sizeLine/\(∀ d,fH kvs k=some d->Q d b1)/\(fH kvs k=none->Q z (upd b1 a (.bf (hq kvs k z))))
section
variable{X:aQ}{o e f:aY}{apos cJ:Pos}{b4 ty fI:TE}
theorem L5(aJ:bQ X o b4)(he:bQ X e ty)(hf:bQ X f fI)(m:M2 X o "setdefault" apos e f cJ):bQ X (.Call (.Attribute o "setdefault" apos) [e,f] [] cJ) (L4 b4 ty fI):=by
 intro pins s σ H Q I h;refine wpAny_Call_method m.base m.AY m.line PySem.F.plainAttrs_dict PySem.F.slot_dict_setdefault PySem.F.type_dict_setdefault (bT (aJ pins s σ H _ I h) λ u s1 xz=>?_);obtain⟨x,H1,aV,a6,a,ex,d,aD⟩:=xz;subst ex;obtain rfl:u=Value.ref a:=a6;obtain⟨t1,b8,_⟩:=AZ aV d;refine⟨t1,b8,?_⟩;rw[m.trees]
 refine Calls.callWith_builtin rfl (Calls.evalArgs_plain (Calls.spliced_cons (bT (he pins s1 σ H1 _ aV aD) λ fg s2 ⟨y,aO,cG,bA,bw⟩=>
  Calls.spliced_cons (bT (hf pins s2 σ aO _ cG bw) λ HZ s3 ⟨z,b1,c0,nA,kvs,k,e6,iG,aB,dd,ey⟩=>Calls.spliced_nil ?_))))
 subst iG
 exact L1 c0 e6 aB bA nA (λ w d av aq eI hE=>⟨d,b1,eI,hE,dd d aq⟩) λ aq av eI=>⟨z,_,eI,nA,ey aq⟩
end
end L2
namespace L3
open PySem PySem.Spec L2
section
variable{X:aQ}{o e f:aY}{apos cJ:Pos}{b4 cV fI:bV}
noncomputable def C8:D->aC->Prop:=λ x G=>match x with
 |.ref a=>iN G a λ _=>True
 |_=>False
noncomputable abbrev L6(b4 cV fI:bV):bV:=λ ρ G Q=>b4 ρ G λ x G1=>C8 x G1/\cV ρ G1 λ y aL=>fI ρ aL λ z bP=>match x with
 |.ref a=>iN bP a λ kvs=>∃ k,mC y=some k/\kvs.length<sizeLine/\(∀ d,cT kvs k=some d->Q d bP)/\(cT kvs k=none->Q z (up bP a (.bf (f8 kvs k z))))
 |_=>False
noncomputable abbrev L7(b4 cV fI:bV):bV:=λ ρ G Q=>b4 ρ G λ x G1=>C8 x G1/\cV ρ G1 λ y aL=>fI ρ aL λ z bP=>match x with
 |.ref a=>iN bP a λ kvs=>∃ k,mC y=some k/\Q ((cT kvs k).getD z) bP
 |_=>False
theorem L8(bg:X.A.units+200<bO)(aJ:bD X o b4)(he:bD X e cV)(hf:bD X f fI)(m:M2 X o "get" apos e f cJ):bD X (.Call (.Attribute o "get" apos) [e,f] [] cJ) (L7 b4 cV fI):=by
 obtain⟨co,eA,bH⟩:=aJ.run;obtain⟨ci,f6,eX⟩:=he.run;obtain⟨cx,rQ,a6⟩:=hf.run;refine⟨_,⟨A0 (by omega) eA.run f6.run rQ.run m⟩,λ ρ G aE σ H Q B q F=>bH ρ G _ σ H _ B q λ x G1 v H1 g1 aI ⟨hr,aD⟩=>?_⟩
 cases x with
 | ref a=>
  cases aI;obtain⟨_,rR,_,_,cQ,_⟩:=kz g1.bv hr;refine⟨a,rfl,.inl ⟨rR,.inl cQ⟩,eX ρ G1 _ σ H1 _ (B.go g1) aD λ y aL u aO g2 aN bw=>a6 ρ aL _ σ aO _ ((B.go g1).go g2) bw λ z bP u1 b1 g3 ia dd=>?_⟩;obtain⟨kvs,gs,⟨k,iO,ey⟩,e1,aP,r⟩:=kz g3.bv dd;have mL:=aN.mono g3.tup;rw[pj iO]at mL;have:=ph mL;subst this;refine⟨_,iF.k aP,?_⟩
  cases hd:cT kvs k with
  | none=>
   rw[hd]at ey;rw[(r.val (k:=k)).2 hd];exact F z bP u1 b1 ((g1.trans g2).trans g3) ia ey
  | some d=>
   rw[hd]at ey;obtain⟨w,hw,gm⟩:=(r.val (k:=k)).1 d hd;rw[hw];exact F d bP w b1 ((g1.trans g2).trans g3) gm ey
 |_=>exact(show False from hr).elim
theorem L9(aJ:bD X o b4)(he:bD X e cV)(hf:bD X f fI)(m:M2 X o "setdefault" apos e f cJ):bD X (.Call (.Attribute o "setdefault" apos) [e,f] [] cJ) (L6 b4 cV fI):=by
 obtain⟨co,eA,bH⟩:=aJ.run;obtain⟨ci,f6,eX⟩:=he.run;obtain⟨cx,rQ,a6⟩:=hf.run;refine⟨_,⟨L5 eA.run f6.run rQ.run m⟩,λ ρ G aE σ H Q B q F=>bH ρ G _ σ H _ B q λ x G1 v H1 g1 aI xz=>?_⟩;obtain⟨hr,aD⟩:=xz
 cases x with
 | ref a=>
  cases aI;obtain⟨_,rR,_,_,cQ,_⟩:=kz g1.bv hr;refine⟨a,rfl,.inl ⟨rR,.inl cQ⟩,eX ρ G1 _ σ H1 _ (B.go g1) aD λ y aL u aO g2 aN bw=>a6 ρ aL _ σ aO _ ((B.go g1).go g2) bw λ z bP u1 b1 g3 ia dd=>?_⟩;obtain⟨kvs,gs,⟨k,iO,aB,ey,rg⟩,e1,aP,r⟩:=kz g3.bv dd;have mL:=aN.mono g3.tup;rw[pj iO]at mL;have:=ph mL;subst this
  have len:gs.length=kvs.length:=by have:=congrArg hX r.1;simpa using this.symm
  refine⟨gs,k,aP,rfl,by omega,λ d hd=>?_,λ aS=>?_⟩
  ·cases aq:cT kvs k with
   |none=>rw[(r.val (k:=k)).2 aq]at hd;cases hd
   | some d'=>
    obtain⟨w,hw,gm⟩:=(r.val (k:=k)).1 d' aq;rw[hw]at hd;cases hd;exact F d' bP _ b1 ((g1.trans g2).trans g3) gm (ey d' aq)
  ·cases aq:cT kvs k with
   | some d'=>
    obtain⟨w,hw,gm⟩:=(r.val (k:=k)).1 d' aq;rw[hw]at aS;cases aS
   | none=>
    have ig:=Go.BY g3.bv e1 (r.f8 (k:=k) ia);exact F z _ _ _ (((g1.trans g2).trans g3).trans ig) (ia.mono ig.tup) (rg aq)
 |_=>exact(show False from hr).elim
end
section
variable{X:aQ}{C:Addr}{o value:aY}{pos wx:Pos}{bn a0:bV}
noncomputable abbrev L_:bV:=λ _ G Q=>∀ p,G p=none->Q (.ref p) (up G p (.bf []))
theorem lv:bD X (.Dict [] [] pos) L_:=⟨_,⟨HW⟩,λ ρ G aE σ H Q B q F p ai=>by
 have a8:G p=none:=by
  cases z:G p with
  |none=>rfl
  |some o=>obtain⟨u,bg⟩:=(B.bv p o z).some;rw[ai]at bg;cases bg
 exact F (.ref p) _ _ _ (Go.newD B.bv ai (kvs:=[]) (gs:=[]) ⟨rfl,rfl⟩) rfl (q p a8)⟩
end
end L3
namespace L3
open PySem L2
inductive iq where
 |PJ|pend|found|PK|C9|PL|line|Kv (l:Addr)|sc (i:Nat)|rS (n:Nat)
structure lw(G:aC)(bH:Addr->Option iq)(a3:List (Nat×D))(kvs:List (Key×D)):Prop where
 hit:∀(n:Nat) d,cT kvs (.inl (n:Int))=some d->∃ c,d=.ref c/\bH c=some (.rS n)/\G c=some (.lst (eo n a3))
 n6:∀ n:Nat,cT kvs (.inl (n:Int))=none->eo n a3=[]
 len:kvs.length<=a3.length
 gG:∀ a7∈kvs,∃ n:Nat,a7.1=.inl (n:Int)/\eo n a3≠[]
 er:(kvs.map (·.1)).Nodup
section
variable{PM PN:Addr}{bZ G:aC}{A:PO}{s:PP}{bH:Addr->Option iq}
theorem lw.keep{aj:aC}{a3:List (Nat×D)}{kvs:List (Key×D)}(h:lw G bH a3 kvs)(k:∀ b n,bH b=some (.rS n)->aj b=G b):lw aj bH a3 kvs:=
 ⟨λ n d e=>let ⟨c,ae,ag,bc⟩:=h.hit n d e;⟨c,ae,ag,by rw[k c n ag];exact bc⟩,h.n6,h.len,h.gG,h.er⟩
noncomputable def n7(bH:Addr->Option iq)(a:Addr)(x:iq):Addr->Option iq:=λ b=>if b=a then some x else bH b
theorem C_{a:Addr}{x:iq}:n7 bH a x a=some x:=by unfold n7;rw[if_pos rfl]
theorem xM{a b:Addr}{x:iq}(h:b≠a):n7 bH a x b=bH b:=by unfold n7;rw[if_neg h]
theorem Da{a b:Addr}{x y:iq}(az:bH a=none)(h:bH b=some y):n7 bH a x b=some y:=by rw[xM (by rintro rfl;rw[az]at h;cases h)];exact h
theorem Db{i:Nat}{a3 ms:List (Nat×D)}(h:eo i a3≠[]):eo i (a3++ms)≠[]:=by
 rw[lu];simp[h]
theorem Ma{kvs:List (Key×D)}{k:Key}{v:D}(h:(kvs.map (·.1)).Nodup):((f8 kvs k v).map (·.1)).Nodup:=by
 unfold f8;split
 ·rw[kR]
  have e:((·.1) ∘ λ a7:Key×D=>if a7.1=k then (a7.1,v) else a7)=(·.1):=by funext a7;simp only[Function.comp];split<;>rfl
  rw[e];exact h
 ·next c=>
  rw[jn,sW];refine⟨h,by simp,λ a az b af=>?_⟩;rintro rfl;obtain⟨z,hz,rfl⟩:=ea.mp az
  have cf:z.1=k:=by simpa using af
  exact c (mW.mpr ⟨z,hz,by simpa using cf⟩)
end
theorem Mb{K:a4}{sp qD:ih}(h:∀ ds G Q,qD ds G Q->sp ds G Q)(vs:List V)(H:am)(Q:b7)(E:hC):cc K qD vs H Q E->cc K sp vs H Q E:=λ⟨ds,G,aE,ae,ag,bc,cj⟩=>⟨ds,G,aE,ae,ag,h _ _ _ bc,cj⟩
end L3
namespace L3
open PySem L2
inductive xN(ds:List D)(G:aC)(Q:bS):Prop
 |mk (l:Addr) (es:List D):ds=[.ref l]->G l=some (.lst es)->es.length<64->(∀ d∈es,bE d/\eP d<=49000)->(∀ cB,es.Perm cB->eC cB->Q (.tup cB) G)->xN ds G Q
end L3
namespace L2
open PySem PySem.W PyProof.Rows
section
variable{prog:bX}{w:bJ}{A:cg}{E:Value->aw->Prop}{s:aw}{vs:List Value}{f:Value}{kS a:Addr}{e1:Nat}{J:List Value->aw->Prop}
theorem Mc{l q:Addr}{Q:Value->aw->Prop}{J:Nat->List Value->aw->Prop}(aB:s.heap.IsTuple l vs.toArray)(ag:2<=vs.length)(gq:vs.length<64)
 (h0:∀ e1 h',(∀ b o,s.heap.get? b=some o->h'.get? b=some o)->h'.get? (s.heap.objs.size+1)=some (bG "list" #[] e1)->h'.get? (s.heap.objs.size+3)=some (bG "list" #[] 0)->J e1 [] {s with heap:=h'})
 (nZ:∀ e1 ks av,J e1 ks av->(∃ e,av.heap.get? (s.heap.objs.size+3)=some (bG "list" ks.toArray e))/\av.heap.get? (s.heap.objs.size+1)=some (bG "list" #[] e1))
 (n0:∀ e1 ks x av,vs[ks.length]?=some x->J e1 ks av->aT (a5 prog w) A.in1.in1 (call (.ref q) [x]) (λ k dB=>(∃ e,dB.heap.get? (s.heap.objs.size+3)=some (bG "list" ks.toArray e))/\J e1 (ks++[k]) {dB with heap:=dB.heap.update (s.heap.objs.size+3) (Obj.mapSeq (·.push k))}) (λ _ _=>False) av)
 (jP:∀ e1 ks av,ks.length=vs.length->J e1 ks av->∃ lt,KeyOrd prog w A.in1.in1 ks av lt/\∀ p:Array Nat,dH vs.length p->d3 lt p vs.length->Q (.ref (s.heap.objs.size+1)) {av with heap:=kE av.heap (s.heap.objs.size+3) (s.heap.objs.size+1) (p.toList.map λ i=>vs.getD i Value.none)}) :
 aT (a5 prog w) A (call (.builtin "sorted") [.ref l] [(Str.ofString "key",.ref q)]) Q E s:=by
 refine zt sM sK sL (ksk_s1 _ _) ?_;unfold Builtin.«sorted»;refine ay (m:=sI "sorted" 1 1 _) (bq ?_);refine ay (Ck aB ?_ (by rw[d_];omega));refine ay (on ?_ (by rw[d_];omega))
 have hsz:((s.heap.push (bG "list" #[] 0)).update s.heap.objs.size (Obj.mapSeq (·++vs.toArray))).objs.size=s.heap.objs.size+1:=by
  rw[oJ,mS]
 have ka:(((s.heap.push (bG "list" #[] 0)).update s.heap.objs.size (Obj.mapSeq (·++vs.toArray))).push (bG "list" vs.toArray 0)).get? (s.heap.objs.size+1)=some (bG "list" vs.toArray 0):=by
  rw[<- hsz];exact fc _ rfl
 have hsz2:(((s.heap.push (bG "list" #[] 0)).update s.heap.objs.size (Obj.mapSeq (·++vs.toArray))).push (bG "list" vs.toArray 0)).objs.size+1=s.heap.objs.size+3:=by rw[mS,hsz]
 have keep:∀ b o,s.heap.get? b=some o->(((s.heap.push (bG "list" #[] 0)).update s.heap.objs.size (Obj.mapSeq (·++vs.toArray))).push (bG "list" vs.toArray 0)).get? b=some o:=λ b o q=>by
  have dr:b<s.heap.objs.size:=c7 q;rw[oI _ _ _ (by rw[hsz];exact dJ (lU dr)),hk _ _ _ _ (dJ dr),oI _ _ _ (dJ dr)];exact q
 show aT _ _ _ _ _ {s with heap:=((s.heap.push (bG "list" #[] 0)).update s.heap.objs.size (Obj.mapSeq (·++vs.toArray))).push (bG "list" vs.toArray 0)};rw[hsz];refine ay (iT (wpAny_call_entry_kw sJ ⟨_,ka,rfl⟩ W1 ?body (ksk_l1 _ _)))
 case body=>
  show aT (a5 prog w) A.in1.in1 (Builtin.«list.sort» ⟨[.ref (s.heap.objs.size+1)],[(Str.ofString "key",.ref q)]⟩) _ _ _;rw[ksk_t1];refine CU (J:=J) (s:={s with heap:=((s.heap.push (bG "list" #[] 0)).update s.heap.objs.size (Obj.mapSeq (·++vs.toArray))).push (bG "list" vs.toArray 0)}) ka ag gq ?_ ?_ ?_ ?_
  ·intro e1 h' aq iB eW;rw[hsz2]at eW;exact h0 e1 h' (λ b o e=>aq b o (dJ (lU (c7 e))) (keep b o e)) iB eW
  ·intro e1 ks av bm;rw[hsz2];exact nZ e1 ks av bm
  ·intro e1 ks x av ak bm;rw[hsz2];exact n0 e1 ks x av ak bm
  ·intro e1 ks av xq bm;obtain⟨lt,o,fin⟩:=jP e1 ks av xq bm;rw[hsz2];exact⟨lt,o,λ p ai fJ=>⟨_,rfl,bq ⟨_,rfl,fin p ai fJ⟩⟩⟩
end
end L2
namespace L3
open PySem PySem.Spec PySem.W PyProof.Rows L2 PySem.SeqAt
section
variable{X:aQ}
noncomputable def Dc(K:a4)(sp:ft):V->am->b7->Prop:=λ x H Q=>∃(l:Addr)(xs:List V)(R:List Addr->am->Prop)(lt:Nat->Nat->Bool),x=.ref l/\dt K H l xs/\2<=xs.length/\xs.length<64/\mG lt/\R [] H ∧
 (∀ zs v H1,xs[zs.length]?=some v->R zs H1->sp [v] H1 (λ r aO=>∃ z,r=.ref z/\R (zs++[z]) aO) ny) ∧
 (∀ zs H1,zs.length=xs.length->R zs H1->(∀ i j,i<xs.length->j<xs.length->CZ K H1 zs lt i j)/\∀ p:Array Nat,dH xs.length p->d3 lt p xs.length->∀ a,H1 a=none->Q (.ref a) (upd H1 a (.lst (p.toList.map λ i=>xs.getD i .bo))))
theorem Md{k j:Nat}{q:Addr}{sp:ft}(G:o1 X.prog X.w X.K X.mg X.base k q sp)(aH:ef j X.A)(aq:k+1<=j){pins:List (Addr×Obj)}{s:aw}{σ:L2.St}{H:am}{x:V}{u:Value}{Q:b7}(I:Inv X pins σ H s)(a6:RelV x u)(h:Dc X.K sp x H Q) :
 aT (a5 X.prog X.w) X.A (call (.builtin "sorted") [u] [(Str.ofString "key",.ref q)]) (fP X pins σ Q) X.xe s:=by
 obtain⟨l,xs,R,lt,rfl,aU,ag,gq,O,xr,xt,jP⟩:=h;cases a6;obtain⟨fd,aZ,F,c9,bd⟩:=G.ex;obtain⟨ao,aM,cS,_⟩:=I.tuple aU;have hlen:=aM.length;have rG:H (s.heap.objs.size+1)=none:=I.bj.fresh (lV _);have rH:H (s.heap.objs.size+3)=none:=I.bj.fresh (s6 _ _);obtain⟨_,n1,xu,xv,rI,rJ⟩:=I.kg (b:=s.heap.objs.size+1) (lV _) rG;obtain⟨_,ls,rK,rL,rM,rN⟩:=I.kg (b:=s.heap.objs.size+3) (s6 _ _) rH;have xw:X.s₀.heap.objs.size<=s.heap.objs.size+1:=gZ I.gO (lV _);have rO:s.heap.objs.size+1≠s.heap.objs.size+3:=λ e=>absurd (Nat.add_left_cancel e) (by decide)
 have n2:∀(is:Array Value)(n:Nat)(v:Option Value),(bG "list" is n).data≠.cell v:=λ is n v z=>by cases z
 refine Mc (J:=λ e1 ks av=>∃(e:Nat)(ah:am)(zs:List Addr),Inv X (pins++[(s.heap.objs.size+1,bG "list" #[] e1),(s.heap.objs.size+3,bG "list" ks.toArray e)]) σ ah av/\ks=zs.map Value.ref/\R zs ah) cS (by omega) (by omega) ?_ ?_ ?_ ?_
 ·intro e1 h' keep iB eW;have aV:Inv X pins σ H {s with heap:=h'}:=I.kept (t':=s.toks) keep;refine⟨0,H,[],aV.oP λ p ai=>?_,rfl,xr⟩;rcases fL.mp ai with ai|ai
  ·exact aV.pin p (dc _ ai)
  ·simp only[fq,qd,or_false]at ai;rcases ai with rfl|rfl
   ·exact⟨iB,rG,n1,xu,n2 _ _⟩
   ·exact⟨eW,rH,ls,rK,n2 _ _⟩
 ·rintro e1 ks av ⟨e,ah,zs,aV,rfl,ei⟩;exact⟨⟨e,(aV.pin _ (dc _ (dc _ (.tail _ (.head _))))).1⟩,(aV.pin _ (dc _ (dc _ (.head _)))).1⟩
 ·rintro e1 ks y av a9 ⟨e,ah,zs,aV,rfl,ei⟩;rw[dm]at a9
  have n3:zs.length<xs.length:=by rw[hlen];exact(gg.mp a9).1
  obtain⟨i6,xx,xy⟩:=aM.get (cN n3);rw[xx]at a9;cases a9;refine bT (CY F (ef.CW aH aq) bd aV (.cons xy .nil) (xt zs _ ah (cN n3) ei)) ?_;rintro a7 dB ⟨h4,aO,cG,xA,z,rfl,xB⟩;cases xA;have hb:=cG.pin _ (dc _ (dc _ (.tail _ (.head _))));have hQ:=cG.pin _ (dc _ (dc _ (.head _)));refine⟨⟨e,hb.1⟩,?_⟩
  have e6:((zs.map Value.ref).toArray).push (.ref z)=((zs++[z]).map Value.ref).toArray:=by simp
  obtain⟨cR,e8⟩:∃ cR,(dB.heap.update (s.heap.objs.size+3) (Obj.mapSeq (·.push (.ref z)))).get? (s.heap.objs.size+3)=some (bG "list" (((zs++[z]).map Value.ref).toArray) cR):=⟨_,by rw[<- e6];exact get?_update_seq hb.1 (·.push (.ref z))⟩
  have c0:Inv X pins σ aO dB:=cG.kW;have eI:Inv X pins σ aO {dB with heap:=dB.heap.update (s.heap.objs.size+3) (Obj.mapSeq (·.push (.ref z)))}:=c0.turned (t':=dB.toks) (it:=s.heap.objs.size+3) (λ b o nb dG=>by rw[hk _ _ _ _ nb];exact dG) hb.2.1 ls rL rM rN;refine⟨cR,aO,zs++[z],eI.oP λ p ai=>?_,by simp,xB⟩;rcases fL.mp ai with ai|ai
  ·exact eI.pin p (dc _ ai)
  ·simp only[fq,qd,or_false]at ai;rcases ai with rfl|rfl
   ·exact⟨by show (dB.heap.update _ _).get? _=_;rw[hk _ _ _ _ rO];exact hQ.1,hQ.2⟩
   ·exact⟨by simpa using e8,hb.2.1,ls,rK,n2 _ _⟩
 ·rintro e1 ks av aB ⟨e,ah,zs,aV,rfl,ei⟩;rw[dm]at aB;obtain⟨cmp,fin⟩:=jP zs ah (by omega) ei;have hb:=aV.pin _ (dc _ (dc _ (.tail _ (.head _))));have hQ:=aV.pin _ (dc _ (dc _ (.head _)));refine⟨lt,⟨⟨oneType',λ uV lZ g0=>?_,λ i j C au bm iE=>?_⟩,O⟩,λ p ai fJ=>?_⟩
  ·refine kas_kind (T:=.type "list") (by rw[dm];omega) (λ v bh=>?_) (by decide) (by decide) g0;obtain⟨z,hz,rfl⟩:=ea.mp bh;obtain⟨i,au,rfl⟩:=List.getElem_of_mem hz;obtain⟨a,b,ds,es,us,ws,g1,g2,e0,_⟩:=cmp i i (by omega) (by omega);rw[cN au]at g1;cases g1;obtain⟨its',_,xC,_⟩:=aV.list e0;obtain⟨o,aJ,aA,_⟩:=xC.isList;exact λ A Q E av k q=>sF (T:="list") ⟨o,k _ _ aJ,aA⟩ q
  ·rw[dm]at au bm;obtain⟨a,b,ds,es,us,ws,g1,g2,xD,pC,a1,a2,ec,gu,cC,dr⟩:=cmp i j (by omega) (by omega);unfold oy;rw[uS g1,uS g2];exact Cy aV xD pC a1 a2 ec gu (by have:=aH.un;show X.A.units+1+1+1+da ds<bO;omega) dr iE
  ·have hm:∀ i∈p.toList,i<ao.length:=λ i au=>lR.mp (ai.mem_iff.mp au);have xE:=ai.length_eq;rw[qb]at xE;have aG:=uO aM p.toList (λ i au=>by have:=hm i au;omega);have c0:Inv X pins σ ah av:=aV.kW;have eI:Inv X pins σ ah {av with heap:=av.heap.update (s.heap.objs.size+3) (Obj.mapSeq λ _=>(#[]:Array Value))}:=c0.turned (t':=av.toks) (it:=s.heap.objs.size+3) (λ b o nb dG=>by rw[hk _ _ _ _ nb];exact dG) hb.2.1 ls rL rM rN
   have xF:(av.heap.update (s.heap.objs.size+3) (Obj.mapSeq λ _=>(#[]:Array Value))).get? (s.heap.objs.size+1)=some (bG "list" #[] e1):=by rw[hk _ _ _ _ rO];exact hQ.1
   have jt:Inv X pins σ ah {av with heap:=kE av.heap (s.heap.objs.size+3) (s.heap.objs.size+1) (p.toList.map λ i=>ao.getD i Value.none)}:=by
    have z:=eI.turned (h':=kE av.heap (s.heap.objs.size+3) (s.heap.objs.size+1) (p.toList.map λ i=>ao.getD i Value.none)) (t':=av.toks) (it:=s.heap.objs.size+1) (λ b o nb dG=>by show ((av.heap.update _ _).update _ _).get? b=_;rw[hk _ _ _ _ nb];exact dG) hQ.2.1 n1 xv rI rJ;exact z
   obtain⟨cR,e8⟩:∃ cR,(kE av.heap (s.heap.objs.size+3) (s.heap.objs.size+1) (p.toList.map λ i=>ao.getD i Value.none)).get? (s.heap.objs.size+1)=some (bG "list" (p.toList.map λ i=>ao.getD i Value.none).toArray cR):=⟨_,get?_update_seq xF λ _=>(p.toList.map λ i=>ao.getD i Value.none).toArray⟩
   have cp:=d_;have kh:=jt.adopt (a:=s.heap.objs.size+1) (o:=.lst (p.toList.map λ i=>xs.getD i .bo)) hQ.2.1 n1 xw rI rJ ⟨by rw[dm];omega,_,cR,aG,e8⟩;exact⟨.ref _,_,kh,rfl,fin p (by rw[hlen];exact ai) (by rw[hlen];exact fJ) _ hQ.2.1⟩
@[irreducible] noncomputable def pE(P:D->Prop)(key:D->List D):D->aC->bS->Prop:=λ x G Q=>match x with
 |.ref l=>g_ G l λ ds=>2<=ds.length/\ds.length<64/\(∀ d∈ds,P d)/\∃ lt,xG key ds lt/\∀ p:Array Nat,dH ds.length p->d3 lt p ds.length->∀ a,G a=none->Q (.ref a) (up G a (.lst (p.toList.map λ i=>ds.getD i .bo)))
 |.tup ds=>2<=ds.length/\ds.length<64/\(∀ d∈ds,P d)/\∃ lt,xG key ds lt/\∀ p:Array Nat,dH ds.length p->d3 lt p ds.length->∀ a,G a=none->Q (.ref a) (up G a (.lst (p.toList.map λ i=>ds.getD i .bo)))
 |_=>False
theorem Me{k j:Nat}{q:Addr}{sp:ft}{lx:Str}{e:aY}{t:e3}{p c8 io pos:Pos}(G:o1 X.prog X.w X.K X.mg X.base k q sp)(aH:ef j X.A)(aq:k+1<=j)(a8:eb X "sorted")(hm:X.mg "sorted"=none)(xO:eb X lx)(xP:X.mg lx=some (.ref q))(az:hD X [e] t)(ar:eY e=true)(hd:(lx==("__debug__" : Str))=false) :
 bQ X (.Call (.Name "sorted" p) [e] [⟨some "key",.Name lx c8,io⟩] pos) (λ σ H Q=>t σ H λ vs H1=>∃ x,vs=[x]/\(C0 X.K sp x H1 Q\/Dc X.K sp x H1 Q)):=by
 intro pins s σ H Q I h;refine pV (m_ I a8 hm PyProof.Rows.boot_sorted ?_);refine callWith_kw (bT (az pos pins s σ H _ I h) λ us s1 ⟨vs,H1,aV,aG,x,ev,aD⟩=>kws_cons (vM aV xO xP (kws_nil ?_) hd)) ?_ (tV (by rw[kQ,ar];rfl)) rfl rfl
 ·subst ev;obtain⟨u,rfl,a6⟩:=l6 aG;rcases aD with aD|aD
  ·exact LL G aH aq aV a6 aD
  ·exact Md G aH aq aV a6 aD
 ·rw[gQ ar];rfl
noncomputable abbrev Mf(P:D->Prop)(key:D->List D)(t:fW):bV:=λ ρ G Q=>t ρ G λ ds G1=>match ds with
 |[x]=>pE P key x G1 Q
 |_=>False
theorem Mg{k j:Nat}{q:Addr}{P:D->Prop}{key:D->List D}{lx:Str}{e:aY}{t:fW}{p c8 io pos:Pos}(Mh:o1 X.prog X.w X.K X.mg X.base k q (cc X.K (C1 P key)))(aH:ef j X.A)(aq:k+1<=j)(a8:eb X "sorted")(hm:X.mg "sorted"=none)(xO:eb X lx)(xP:X.mg lx=some (.ref q))(az:hM X [e] t)
 (ar:eY e=true:=by rfl) (hd:(lx==("__debug__" : Str))=false:=by decide):bD X (.Call (.Name "sorted" p) [e] [⟨some "key",.Name lx c8,io⟩] pos) (Mf P key t):=by
 obtain⟨ca,cm,cn⟩:=az.run;refine⟨_,⟨Me Mh aH aq a8 hm xO xP cm.run ar hd⟩,λ ρ G aE σ H Q B hr F=>cn ρ G _ σ H _ B hr λ Bd G1 PQ Dd g1 al _ aD=>?_⟩;split at aD
 ·next x=>
  obtain⟨v,r,rfl,aI,cQ⟩:=al;cases (show r=[] from cQ);refine⟨v,rfl,?_⟩;unfold pE at aD;split at aD
  ·next l=>
   cases aI;obtain⟨ds,xs,⟨ag,gq,cH,lt,n8,fin⟩,e0,dj⟩:=iK g1.bv aD;have aB:=dj.len;refine .inl ⟨l,xs,λ zs H1=>∃ aL,Go X.K G1 Dd aL H1/\Sub G1 aL/\∀ i a d,zs[i]?=some a->ds[i]?=some d->aL a=some (.lst (key d)),lt,rfl,e0,by omega,by omega,n8.uZ,⟨G1,.refl g1.bv,.refl _,λ i a d hS _=>absurd hS (by rw[List.getElem?_nil];exact nofun)⟩,?_,?_⟩
   ·rintro zs v H1 ak ⟨aL,g,eW,hz⟩
    have au:zs.length<ds.length:=by have:=(gg.mp ak).1;omega
    have rT:=cN au;obtain⟨h4,n5,k_⟩:=dj.get rT;rw[ak]at n5;cases n5;refine⟨[ds[zs.length]],aL,λ d' bP=>∃ z,d'=.ref z/\aL z=none/\bP=up aL z (.lst (key ds[zs.length])),⟨v,[],rfl,k_.mono g.tup,rfl⟩,g.bv,⟨_,rfl,cH _ (mX au),λ l aB=>⟨l,rfl,aB,rfl⟩⟩,?_⟩;rintro d' bP Mi b1 g3 lm ⟨z,rfl,rU,rfl⟩;cases lm;refine⟨z,rfl,_,g.trans g3,Sub.ext' eW rU,λ i a d hS n9=>?_⟩;by_cases xQ:i<zs.length
    ·rw[mV xQ]at hS;have e:=hz i a d hS n9;rw[cv (by rintro rfl;rw[rU]at e;cases e)];exact e
    ·have hu:i=zs.length:=by
      have:=(gg.mp hS).1;rw[dN,lS]at this;omega
     subst hu;rw[oA (b6 _),Nat.sub_self]at hS;cases hS;rw[rT]at n9;cases n9;exact bI
   ·rintro zs H1 n3 ⟨aL,g,eW,hz⟩;refine⟨λ i j au bm=>?_,λ p ai fJ a az=>?_⟩
    ·have kB:i<zs.length:=by omega
     have rV:j<zs.length:=by omega
     have hu:i<ds.length:=by omega
     have n_:j<ds.length:=by omega
     obtain⟨cz,b2,ij⟩:=n8.cmp i j _ _ (cN hu) (cN n_);obtain⟨rD,_,_⟩:=n8.cmp j i _ _ (cN n_) (cN hu);obtain⟨us,e1,aG⟩:=g.bv _ _ (hz i _ _ (cN kB) (cN hu));obtain⟨ws,aP,aR⟩:=g.bv _ _ (hz j _ _ (cN rV) (cN n_));exact⟨_,_,_,_,us,ws,cN kB,cN rV,.inl (.inl e1),.inl (.inl aP),aG,aR,cz,rD,b2,ij⟩
    ·have hm:∀ i∈p.toList,i<ds.length:=λ i au=>by have:=lR.mp (ai.mem_iff.mp au);omega
     have nw:=Go.k6 (p:=a) g.bv az ((dj.mono g.tup).picks p.toList hm);have iD:G1 a=none:=eW.none (g.bv.none az);exact F (.ref a) _ _ _ (((g1.trans g).trans nw).sub (Sub.put eW)) rfl (fin p (by rw[<- aB];exact ai) (by rw[<- aB];exact fJ) a iD)
  ·next ds=>
   obtain⟨l,xs,rfl,e0,dj⟩:=aI;obtain⟨ag,gq,cH,lt,n8,fin⟩:=aD;have aB:=dj.len;refine .inr ⟨l,xs,λ zs H1=>∃ aL,Go X.K G1 Dd aL H1/\Sub G1 aL/\∀ i a d,zs[i]?=some a->ds[i]?=some d->aL a=some (.lst (key d)),lt,rfl,e0,by omega,by omega,n8.uZ,⟨G1,.refl g1.bv,.refl _,λ i a d hS _=>absurd hS (by rw[List.getElem?_nil];exact nofun)⟩,?_,?_⟩
   ·rintro zs v H1 ak ⟨aL,g,eW,hz⟩
    have au:zs.length<ds.length:=by have:=(gg.mp ak).1;omega
    have rT:=cN au;obtain⟨h4,n5,k_⟩:=dj.get rT;rw[ak]at n5;cases n5;refine⟨[ds[zs.length]],aL,λ d' bP=>∃ z,d'=.ref z/\aL z=none/\bP=up aL z (.lst (key ds[zs.length])),⟨v,[],rfl,k_.mono g.tup,rfl⟩,g.bv,⟨_,rfl,cH _ (mX au),λ l aB=>⟨l,rfl,aB,rfl⟩⟩,?_⟩;rintro d' bP Mi b1 g3 lm ⟨z,rfl,rU,rfl⟩;cases lm;refine⟨z,rfl,_,g.trans g3,Sub.ext' eW rU,λ i a d hS n9=>?_⟩;by_cases xQ:i<zs.length
    ·rw[mV xQ]at hS;have e:=hz i a d hS n9;rw[cv (by rintro rfl;rw[rU]at e;cases e)];exact e
    ·have hu:i=zs.length:=by
      have:=(gg.mp hS).1;rw[dN,lS]at this;omega
     subst hu;rw[oA (b6 _),Nat.sub_self]at hS;cases hS;rw[rT]at n9;cases n9;exact bI
   ·rintro zs H1 n3 ⟨aL,g,eW,hz⟩;refine⟨λ i j au bm=>?_,λ p ai fJ a az=>?_⟩
    ·have kB:i<zs.length:=by omega
     have rV:j<zs.length:=by omega
     have hu:i<ds.length:=by omega
     have n_:j<ds.length:=by omega
     obtain⟨cz,b2,ij⟩:=n8.cmp i j _ _ (cN hu) (cN n_);obtain⟨rD,_,_⟩:=n8.cmp j i _ _ (cN n_) (cN hu);obtain⟨us,e1,aG⟩:=g.bv _ _ (hz i _ _ (cN kB) (cN hu));obtain⟨ws,aP,aR⟩:=g.bv _ _ (hz j _ _ (cN rV) (cN n_));exact⟨_,_,_,_,us,ws,cN kB,cN rV,.inl (.inl e1),.inl (.inl aP),aG,aR,cz,rD,b2,ij⟩
    ·have hm:∀ i∈p.toList,i<ds.length:=λ i au=>by have:=lR.mp (ai.mem_iff.mp au);omega
     have nw:=Go.k6 (p:=a) g.bv az ((dj.mono g.tup).picks p.toList hm);have iD:G1 a=none:=eW.none (g.bv.none az);exact F (.ref a) _ _ _ (((g1.trans g).trans nw).sub (Sub.put eW)) rfl (fin p (by rw[<- aB];exact ai) (by rw[<- aB];exact fJ) a iD)
  ·exact aD.elim
 ·exact aD.elim
theorem Mj{P:D->Prop}{G:aC}{Q:bS}{l:Addr}{ds:List D}(aB:G l=some (.lst ds))(ag:2<=ds.length)(gq:ds.length<64)(aq:∀ d∈ds,bE d/\P d)(q:∀ eD,ds.Perm eD->eC eD->∀ a,G a=none->Q (.ref a) (up G a (.lst eD))):pE P cY (.ref l) G Q:=by
 unfold pE;refine c6 aB ⟨ag,gq,λ d hd=>(aq d hd).2,ltI ds,C2 (λ d hd=>(aq d hd).1) (by omega),λ p ai fJ a az=>q _ ?_ (xh (λ d hd=>(aq d hd).1) ai fJ) a az⟩
 have e:(gf ds.length).map (λ i=>ds.getD i D.bo)=ds:=by
  apply sU
  ·simp
  ·intro i ae ag;simp[gL,cN ag]
 have:=ai.map (λ i=>ds.getD i D.bo);rw[e]at this;exact this.symm
theorem Mk{P:D->Prop}{G:aC}{Q:bS}{ds:List D}(ag:2<=ds.length)(gq:ds.length<64)(aq:∀ d∈ds,bE d/\P d)(q:∀ eD,ds.Perm eD->eC eD->∀ a,G a=none->Q (.ref a) (up G a (.lst eD))):pE P cY (.tup ds) G Q:=by
 unfold pE;refine⟨ag,gq,λ d hd=>(aq d hd).2,ltI ds,C2 (λ d hd=>(aq d hd).1) (by omega),λ p ai fJ a az=>q _ ?_ (xh (λ d hd=>(aq d hd).1) ai fJ) a az⟩
 have e:(gf ds.length).map (λ i=>ds.getD i D.bo)=ds:=by
  apply sU
  ·simp
  ·intro i ae ag;simp[gL,cN ag]
 have:=ai.map (λ i=>ds.getD i D.bo);rw[e]at this;exact this.symm
end
end L3
namespace L2
open PySem PySem.Spec PySem.W PyProof.Rows
section
variable{prog:bX}{w:bJ}{A:cg}{E:Value->aw->Prop}{s:aw}
theorem De:∀{ns:List Int}{vs:List (Key×Value)}{us:List Value},vs.map (·.1)=ns.map Sum.inl->us.length=vs.length->(∀(j:Nat)(v:Value),us[j]?=some v->∃ k x,vs[j]?=some (k,x)/\(el prog w).is k v=true)->lQ us ns
 | [],vs,us,aq,aB,_=>by
  have e:vs=[]:=by simpa using aq
  subst e
  have aP:us=[]:=by simpa using aB
  subst aP;exact .nil
 |n::ns,[],us,aq,_,_=>by cases aq
 |n::ns,p::vs,[],_,aB,_=>by simp at aB
 | n::ns,p::vs,u::us,aq,aB,h=>by
  simp only[eF,List.cons.injEq]at aq;obtain⟨k,x,e,i⟩:=h 0 u rfl;simp only[List.getElem?_cons_zero,eH.injEq]at e;subst e;have e1:k=Sum.inl n:=aq.1;subst e1;obtain⟨t,rfl⟩:=Value.isInt_shape (k:=n) (v:=u) i;exact .cons _ _ (De aq.2 (by simpa using aB) λ j v e=>by simpa using h (j+1) v (by simpa using e))
theorem Ml{d:Addr}{vs:List (Key×Value)}{ns:List Int}{Q:Value->aw->Prop}(fu:A.handled=none)(hd:(d==hh)=false)(cC:s.heap.DictOf (el prog w) d vs)(aq:vs.map (·.1)=ns.map Sum.inl)(gq:ns.length<64)
 (h:∀(ae h':bF)(bM:Nat)(out:Array Value)(c:Nat)(rW:List Int),lQ out.toList rW->rW.Perm ns->rW.Pairwise (·<=·)->(∀ b o,s.heap.get? b=some o->ae.get? b=some o)->(∀ b o,ae.get? b=some o->h'.get? b=some o)->h'.get? ae.objs.size=some (jB.listAt out c)->Q (.ref ae.objs.size) {s with heap:=h',toks:=bM}) :
 aT (a5 prog w) A (call (.builtin "sorted") [.ref d]) Q E s:=by
 obtain⟨ep,Mm⟩:=cC.dictAt;have aB:=d_
 have Mn:vs.length=ns.length:=by have:=congrArg hX aq;simpa using this
 refine Calls.call_function_entry sM sK sL (args_sorted1 _) ?_;unfold Builtin.«sorted»;refine ay (m:=sI "sorted" 1 1 _) (bq (ay (kdu_collect (A:=A.in1) (kdl_dict (knd:=el prog w) (kvs:=vs) (ep:=ep) hd) (show A.in1.handled=none from fu) Mm (by omega) λ h' bM acc k iL=>?_)));have au:lQ acc.toList ns:=De (prog:=prog) (w:=w) aq (by rw[m2];exact iL.1) λ j v e=>iL.2 j v (by rw[<- Array.getElem?_toList];exact e)
 have hsz:acc.toList.length=ns.length:=by rw[m2,iL.1,Mn]
 have me:(h'.push (jB.listAt acc.toList.toArray 0)).get? h'.objs.size=some (jB.listAt acc.toList.toArray 0):=fc _ rfl;refine ay (gY ?_ (by show acc.toList.toArray.size<=sizeLine;rw[bN];omega));refine ay (iT (iR sJ ⟨_,me,rfl⟩ W1 (list_sort_tree me au (by omega) λ out rW a1 a2 lm=>⟨_,rfl,?_⟩) (args_list_sort _)));obtain⟨c,aA⟩:=sortedHeap_at (out:=out) me;refine bq ⟨_,rfl,h h' _ _ out c rW a1 a2 lm k (λ b o z=>?_) aA⟩;rw[sortedHeap_old (dJ (c7 z)) (by rw[Heap.size_push];exact lU (c7 z))];exact dA _ z
end
section
variable{X:aQ}
noncomputable def Mo:List V->am->b7->Prop:=λ xs H Q=>∃(l:Addr)(kvs:List (Key×V))(ns:List Int),xs=[.ref l]/\H l=some (.bf kvs)/\kvs.map (·.1)=ns.map Sum.inl/\ns.length<64/\∀ ms:List Int,ms.Perm ns->ms.Pairwise (·<=·)->∀ p,H p=none->Q (.ref p) (upd H p (.lst (ms.map V.int)))
theorem Mp(aA:X.calm=true):gP X (.builtin "sorted") Mo:=by
 intro pins s σ H xs us Q I r h;obtain⟨l,kvs,ns,rfl,e,aq,aB,q⟩:=h;obtain⟨u,rfl,a6⟩:=l6 r;cases a6;obtain⟨z,hd,vs,rel,cC⟩:=oZ I.bj e;have cp:=d_;refine Ml (I.ok.hd aA) hd cC (by rw[<- aq];exact rel.keys.symm) aB λ ae h' bM out c ms a1 a2 lm cz b2 jM=>?_;have aV:Inv X pins σ H {s with heap:=ae}:=I.kept (t':=s.toks) cz;have len:=a2.length_eq;exact⟨.ref ae.objs.size,_,aV.laid (t':=bM) b2 (b6 _) (show dP X.prog X.w _ h' _ (.lst (ms.map V.int)) from⟨by rw[dm];omega,out.toList,c,wc a1,by simpa using jM⟩),rfl,q ms a2 lm _ (aV.bj.fresh (b6 _))⟩
end
end L2
namespace L3
open PySem PySem.Spec PySem.W L2
section
variable{X:aQ}{o:aY}{apos cJ:Pos}{b4:bV}
noncomputable def Mq:D->aC->bS->Prop:=λ x G Q=>match x with
 |.ref l=>iN G l λ kvs=>∃ ns:List Int,kvs.map (·.1)=ns.map Sum.inl/\ns.length<64/\∀ ms:List Int,ms.Perm ns->ms.Pairwise (·<=·)->∀ p,G p=none->Q (.ref p) (up G p (.lst (ms.map D.int)))
 |_=>False
theorem Mr(aA:X.calm=true):ja X (.builtin "sorted") (mx Mq):=by
 refine⟨_,⟨Mp aA⟩,λ xs vs G H aE Q v a r F=>?_⟩;obtain⟨x,u,rfl,rfl,aI,r⟩:=pa r a
 cases x with
 | ref l=>
  cases aI;obtain⟨kvs,gs,⟨ns,e,aB,k⟩,e1,aP,dj⟩:=kz v r;exact⟨l,gs,ns,rfl,aP,by rw[<- dj.1];exact e,aB,λ ms ae ag p ai=>F (.ref p) _ _ _ (Go.k6 v ai (br.wB ms)) rfl (k ms ae ag p (v.none ai))⟩
 |_=>exact(show False from r).elim
theorem Ms:gP X (.builtin "isinstance") (λ xs H Q=>∃ a kvs,xs=[.ref a,.ty "dict"]/\H a=some (.bf kvs)/\Q (.aW true) H):=by
 intro pins s σ H xs us Q I r h;obtain⟨a,kvs,rfl,e,q⟩:=h;obtain⟨u,v,rfl,cD,aM⟩:=Vals.two r;cases cD;cases aM;obtain⟨z,hd,vs,rel,cC⟩:=oZ I.bj e;obtain⟨o,es,ep,ae,ag,_⟩:=id cC
 exact hZ PySem.W.kitx_dict I.fT ⟨o,ae,ag.1⟩ (show s_ X.K (.type "dict") (.type "dict")=some true from rfl) (λ z=>nomatch z) λ bM=>⟨.aW true,H,I.tok bM,rfl,q⟩
noncomputable def Mt:D->D->aC->bS->Prop:=λ x y G Q=>match x with
 |.ref a=>iN G a λ _=>(match y with|.ty T=>T = "dict"|_=>False)/\Q (.aW true) G
 |_=>False
theorem Df:ja X (.builtin "isinstance") (o_ Mt):=by
 refine⟨_,⟨Ms⟩,λ xs vs G H aE Q v a r F=>?_⟩;obtain⟨x,y,u,w,rfl,rfl,aI,aN,r⟩:=uf r a
 cases x with
 | ref l=>
  cases aI;obtain⟨kvs,gs,⟨a9,q⟩,e1,aP,dj⟩:=kz v r
  cases y with
  | ty T=>
   cases aN;have nu:T = "dict":=a9;subst nu;exact⟨l,gs,rfl,aP,F (.aW true) G _ H (.refl v) rfl q⟩
  |_=>exact(show False from a9).elim
 |_=>exact(show False from r).elim
noncomputable def kG(cK:List (Key×D)):List (Key×D)->Bool
 |[]=>true
 | (k,v)::r=>match cT cK k with
  |none=>false
  |some y=>bL v y&&kG cK r
noncomputable def jR(cM cK:List (Key×D)):Bool:=cM.length==cK.length&&kG cK cM
noncomputable def hc(kvs:List (Key×D)):Prop:=∀ p∈kvs,p.2.data=true/\p.2.bU<=150
section
variable{pins:List (Addr×Obj)}{σ:L2.St}{H:am}{s:aw}
theorem u2(I:Inv X pins σ H s){A:cg}(bg:A.units+160<bO){cK:List (Key×D)}{gW:List (Key×V)}{kH:List (Key×Value)}(fm:cL X.K H cK gW)(Dg:eQ gW kH)(af:hc cK) :
 ∀{cM:List (Key×D)}{ga:List (Key×V)}{kI:List (Key×Value)},cL X.K H cM ga->eQ ga kI->hc cM->KeqHits A s kH kI (kG cK cM)
 | [],ga,kI,r,aM,_=>by
  rw[r.nil_inv]at aM;cases aM;exact .nil
 | (k,y)::cM,ga,kI,r,aM,az=>by
  obtain⟨v,t,rfl,a,rt⟩:=r.cons_inv
  cases aM with
  | @cons _ q _ PR aU rest=>
   obtain⟨Mu,Mv⟩:=q;obtain⟨e1,aP⟩:=aU;have qK:k=Mu:=e1;subst qK;have b0:=u2 I bg fm Dg af rt rest λ p ai=>az p (dM _ ai);have bh:=Dg.val k;rw[kG]
   cases aq:cT cK k with
   | none=>
    rw[(fm.val (k:=k)).2 aq]at bh
    cases ak:kM kH k with
    |none=>exact .miss ak
    |some x=>rw[ak]at bh;exact(show False from bh).elim
   | some z=>
    obtain⟨Mw,hz,ia⟩:=(fm.val (k:=k)).1 z aq;rw[hz]at bh
    cases ak:kM kH k with
    |none=>rw[ak]at bh;exact(show False from bh).elim
    | some x=>
     rw[ak]at bh;have ec:=az (k,y) (dk ..)
     have gu:z.data=true:=by
      unfold cT at aq;obtain⟨p,ai,e⟩:=hY.mp aq;rw[<- e];exact(af p (List.mem_of_find?_eq_some ai)).1
     exact .hit ak (rp I y z A v Mw Mv x ec.1 gu a ia aP bh (by have:=ec.2;simp only at this;omega)) b0
end
noncomputable def Dh(K:a4)(f:Bool->Bool):dQ:=λ x y H Q=>∃(a b:Addr)(cM cK:List (Key×D))(ga gW:List (Key×V)),x=.ref a/\y=.ref b/\H a=some (.bf ga)/\H b=some (.bf gW)/\cL K H cM ga/\cL K H cK gW/\hc cM/\hc cK/\Q (.aW (f (jR cM cK))) H
theorem Mx(bg:X.A.units+200<bO):c4 X (dE .Eq) (Dh X.K id):=by
 intro pins s σ H x y v u Q I a6 bA h;obtain⟨a,b,cM,cK,ga,gW,rfl,rfl,e1,aP,aG,aR,ec,gu,q⟩:=h;cases a6;cases bA;obtain⟨eK,ae,kI,ly,rX⟩:=oZ I.bj e1;obtain⟨cU,ag,kH,lz,ez⟩:=oZ I.bj aP
 have dY:kI.length=cM.length:=by have:=congrArg hX aG.1;have:=ly.length;simp at *;omega
 have dS:kH.length=cK.length:=by have:=congrArg hX aR.1;have:=lz.length;simp at *;omega
 refine keq_eq ae ag rX ez (by omega) (λ _=>u2 I (A:=X.A.in1) (by show X.A.units+1+160<bO;omega) aR lz gu aG ly ec) ?_;exact⟨.aW _,H,I,by rw[dY,dS];rfl,q⟩
noncomputable def xR(f:Bool->Bool):hs:=λ x y G Q=>match x,y with
 |.ref a,.ref b=>iN G a λ cM=>iN G b λ cK=>hc cM/\hc cK/\Q (.aW (f (jR cM cK))) G
 |_,_=>False
theorem sEq{f:Bool->Bool}{op:Value->Value->Sem Value}(h:c4 X op (Dh X.K f)):fl X op (xR f):=by
 refine⟨_,⟨h⟩,λ x y dX fQ G H aE Q v aI aN r F=>?_⟩;unfold xR at r;split at r
 ·cases aI;cases aN;obtain⟨cM,ga,r,_,e1,aG⟩:=kz v r;obtain⟨cK,gW,⟨ec,gu,q⟩,_,aP,aR⟩:=kz v r;exact⟨_,_,cM,cK,ga,gW,rfl,rfl,e1,aP,aG,aR,ec,gu,F (.aW _) G _ H (.refl v) rfl q⟩
 ·exact r.elim
theorem oEq(bg:X.A.units+200<bO):fl X (dE .Eq) (xR id):=sEq (Mx bg)
end
end L3
namespace L2
open PySem PySem.Spec PyProof.Rows
theorem My{P:bX}{w:bJ}{k:Key}{u:Value}(h:(el P w).is k u=true):RelV (cO k) u:=by
 rcases j7 (k:=k) (v:=u) h with⟨i,t,rfl,rfl⟩|⟨x,t,rfl,rfl⟩
 ·exact⟨t,rfl⟩
 ·exact⟨t,rfl⟩
theorem Di{P:bX}{w:bJ}:∀{es:List hy}{vs:List (Key×Value)},Pairs (el P w) es vs->∀{i:Nat}{e:hy},es[i]?=some e->∃ k v,vs[i]?=some (k,v)/\(el P w).is k e.key=true/\e.val=v
 |_,_,.nil,i,e,h=>by simp at h
 |_,_,.cons ae ag t,0,e,h=>by simp at h;subst h;exact⟨_,_,rfl,ae,ag⟩
 |_,_,.cons ae ag t,i+1,e,h=>by simp at h;obtain⟨k,v,g1,g2⟩:=Di t h;exact⟨k,v,by simpa using g1,g2⟩
noncomputable def Dj(kvs:List (Key×V))(i:Nat)(e:hy):Prop:=∃ k v,kvs[i]?=some (k,v)/\RelV (cO k) e.key/\RelV v e.val
theorem xS{P:bX}{w:bJ}{H:am}{h:bF}{a:Addr}{kvs:List (Key×V)}(ok:d4 P w H h)(e:eS H a (.bf kvs)) :
 (a==hh)=false/\∃ o es ep,h.get? a=some o/\o.ExactDict/\o.data=.dict es ep/\es.size=kvs.length/\∀ i x,es[i]?=some x->Dj kvs i x:=by
 obtain⟨z,hd,vs,rel,o,es,ep,ae,ag,bc,cj,di,tN⟩:=jy ok e
 have aB:es.size=vs.length:=by rw[<- m2];exact di.length
 refine⟨hd,o,es,ep,ae,ag,bc,by rw[aB];exact rel.length.symm,λ i x ak=>?_⟩;rw[<- Array.getElem?_toList]at ak;obtain⟨k,v,g1,g2,g3⟩:=Di di ak;obtain⟨p,ai,d7,cR⟩:=C4 rel g1;have Mz:p.1=k:=d7;exact⟨p.1,p.2,ai,by rw[Mz];exact My g2,by rw[g3];exact cR⟩
theorem u3{P:bX}{w:bJ}{H:am}{h:bF}{a:Addr}{o:Obj}{kvs:List (Key×V)}{es:Array hy}{ep:Nat}(ok:d4 P w H h)(e:H a=some (.dU o (.bf kvs)))(aA:o.ExactDict)(hd:o.data=.dict es ep) :
 jg h a es ep/\es.size=kvs.length/\∀ i x,es[i]?=some x->Dj kvs i x:=by
 obtain⟨_,df,cB,tl,aJ,vL,h2,ar,aq⟩:=xS ok (.inr ⟨o,e⟩);have e7:h.get? a=some o:=(show dP P w H h a (.dU o (.bf kvs)) from ok a _ e).1;rw[e7]at aJ;cases aJ;rw[hd]at h2;cases h2;exact⟨⟨o,e7,aA,hd⟩,ar,aq⟩
noncomputable def xT(a:Addr)(o:Obj)(kvs:List (Key×V)):hF:=⟨λ i H=>H a=some (.dU o (.bf kvs))/\i<kvs.length,λ i H x ah=>ah=H/\∃ k v,kvs[i]?=some (k,v)/\x=cO k,λ i H=>H a=some (.dU o (.bf kvs))/\kvs.length<=i⟩
theorem MA{P:bX}{w:bJ}{K:a4}{aX:aY}{a:Addr}(it:Addr){o:Obj}{kvs:List (Key×V)}{es:Array hy}{ep:Nat}(aA:o.ExactDict)(hd:o.data=.dict es ep) :
 Turn P w K aX (xT a o kvs) [it] it (λ i h=>i<=es.size/\h.IsKeyIter it a i es.size ep) where
 mem:=by simp
 obj:=λ i h st b af=>by
  have e:b=it:=by simpa using af
  subst e;obtain⟨_,o,e,c,d⟩:=st;exact⟨o,e,λ v z=>by rw[d]at z;cases z⟩
 keep:=λ i h h' st k=>⟨st.1,st.2.at λ o e=>k it (by simp) o e⟩
 item:=by
  intro X cH hw ed rY i pins s σ H E I hf st a8;subst cH hw ed;obtain⟨f0,f1,f2,dp,f4,e4⟩:=hf it (by simp);obtain⟨R,ar,aq⟩:=u3 I.bj a8.1 aA hd
  have au:i<es.size:=by rw[ar];exact a8.2
  refine LS st.2 R (oG au) λ h' km h7=>?_;obtain⟨k,v,e1,aP,_⟩:=aq i _ (oG au);have aV:Inv X pins σ H {s with heap:=h'}:=I.turned (t':=s.toks) (λ b o af e=>h7.extBut b o af e) f0 f1 dp f4 e4;obtain⟨PS,jM,d7,ec⟩:=id km;refine⟨_,rfl,qx (s:={s with heap:=h'}) jM d7 ec (by decide) ⟨cO k,H,aV,aP,⟨rfl,k,v,e1,rfl⟩,⟨au,km⟩,λ b af=>(hf b af).1⟩⟩
 done:=by
  intro X cH hw ed rY i pins s σ H E I hf st a8;subst cH hw ed;obtain⟨f0,f1,f2,dp,f4,e4⟩:=hf it (by simp);obtain⟨R,ar,aq⟩:=u3 I.bj a8.1 aA hd
  exact LU (I.ok.hd rY) st.2 R (by rw[ar];exact a8.2) λ h' e5=>⟨rfl,I.turned (t':=s.toks) (λ b o af e=>e5 b o af e) f0 f1 dp f4 e4⟩
 self:=λ _ _ _ _ _ st h=>wpAny_pyIter_keyiter st.2 h
noncomputable def xU(a:Addr)(o:Obj)(kvs:List (Key×V)):hF:=⟨λ i H=>H a=some (.dU o (.bf kvs))/\i<kvs.length,λ i H x ah=>∃ T k v,kvs[i]?=some (k,v)/\x=.ref T/\H T=none/\ah=upd H T (.tup [cO k,v]),λ i H=>H a=some (.dU o (.bf kvs))/\kvs.length<=i⟩
theorem MB{P:bX}{w:bJ}{K:a4}{xs:List aY}{k:Nat}{pos:Pos}{a:Addr}(it:Addr){o:Obj}{kvs:List (Key×V)}{es:Array hy}{ep:Nat}(aA:o.ExactDict)(hd:o.data=.dict es ep) :
 Turn P w K (.Tuple xs k pos) (xU a o kvs) [it] it (λ i h=>i<=es.size/\∃ ok dn,lG h it a i es.size ep ok dn) where
 mem:=by simp
 obj:=λ i h st b af=>by
  have e:b=it:=by simpa using af
  subst e;obtain⟨_,ok,dn,e⟩:=st;exact⟨_,e,λ v z=>by cases (show Data.fields _=Data.cell v from z)⟩
 keep:=λ i h h' st k=>⟨st.1,let ⟨ok,dn,e⟩:=st.2;⟨ok,dn,k it (by simp) _ e⟩⟩
 item:=by
  intro X cH hw ed rY i pins s σ H E I hf st a8;subst cH hw ed;obtain⟨ok,dn,J⟩:=st.2;obtain⟨R,ar,aq⟩:=u3 I.bj a8.1 aA hd
  have au:i<es.size:=by rw[ar];exact a8.2
  refine LY J R (oG au) λ h' Out eZ e5=>?_;obtain⟨k,v,e1,aP,kk⟩:=aq i _ (oG au);refine⟨_,rfl,wpAny_letOwnedTupleGo_items (s:={s with heap:=h'}) Out λ ag MC h7=>?_⟩;have xV:it<s.heap.objs.size:=c7 J
  have aV:Inv X pins σ (upd H s.heap.objs.size (.tup [cO k,v])) {s with heap:=s.heap.push {cls:=.type "tuple",data:=.seq #[es[i].key,es[i].val]}}:=
   I.laid (t':=s.toks) (λ b o e=>dA _ e) (b6 _) (show dP X.prog X.w _ _ _ (.tup [cO k,v]) from⟨by show 2<=sizeLine;decide,[es[i].key,es[i].val],.cons aP (.cons kk .nil),IsTup.new _ _⟩)
  have cG:Inv X pins σ (upd H s.heap.objs.size (.tup [cO k,v])) {s with heap:=ag}:=
   Inv.Ja (s:={s with heap:=s.heap.push {cls:=.type "tuple",data:=.seq #[es[i].key,es[i].val]}}) (h':=ag) (t':=s.toks) (fp:=[it]) aV (λ c af=>by
    obtain rfl:c=it:=by simpa using af
    obtain⟨f0,fr⟩:=hf c (by simp)
    exact⟨by rw[cu (dJ xV)];exact f0,fr⟩) (λ c o af e=>by
    have cf:c≠it:=by simpa using af
    rcases Heap.get?_push_cases e with⟨eK,cU⟩|e
    ·rw[eK,cU];exact h7.extBut _ _ (qg xV) eZ
    ·exact h7.extBut _ _ cf (e5 c o cf e))
  exact⟨.ref s.heap.objs.size,_,cG,rfl,⟨_,k,v,e1,rfl,I.bj.fresh (b6 _),rfl⟩,⟨au,_,_,MC⟩,λ c af=>by
   obtain rfl:c=it:=by simpa using af
   rw[cu (dJ xV)];exact(hf c (by simp)).1⟩
 done:=by
  intro X cH hw ed rY i pins s σ H E I hf st a8;subst cH hw ed;obtain⟨ok,dn,J⟩:=st.2;obtain⟨f0,f1,f2,dp,f4,e4⟩:=hf it (by simp);obtain⟨R,ar,aq⟩:=u3 I.bj a8.1 aA hd
  exact L0 (I.ok.hd rY) J R (by rw[ar];exact a8.2) λ h' e5=>⟨rfl,I.turned (t':=s.toks) (λ b o af e=>e5 b o af e) f0 f1 dp f4 e4⟩
 self:=λ _ _ _ _ _ st h=>let ⟨_,_,J⟩:=st.2;PySem.W.kcp_self J h
section
variable{X:aQ}{pins:List (Addr×Obj)}{σ:St}{H:am}{s:aw}{a:Addr}{kvs:List (Key×V)}{o:Obj}
theorem Inv.Dk(I:Inv X pins σ H s)(e:H a=some (.bf kvs))(aJ:s.heap.get? a=some o):Inv X pins σ (upd H a (.dU o (.bf kvs))) s:=by
 have ne:∀ b u,H b=some u->(∀ kvs,u≠.bf kvs)->b≠a:=λ b u z n c=>by subst c;rw[e]at z;cases z;exact n _ rfl
 have U:fD X.bl [] H (upd H a (.dU o (.bf kvs))) s.heap s.heap:=
  ⟨λ _ _ q _ _ _=>q,λ b b5 q _ _ _=>⟨b5.slots,q⟩,λ b b5 q n _=>by rw[cu (by rintro rfl;rw[e]at n;cases n)];exact n,λ _ b5 q _=>⟨b5,q⟩,
   λ b xs z=>by rw[cu (ne b _ z λ _ c=>nomatch c)];exact z,λ b b5 u z=>by rw[cu (ne b _ z λ _ c=>nomatch c)];exact z,λ b aZ z=>⟨#[],by rw[cu (ne b _ z λ _ c=>nomatch c),z];simp⟩⟩
 refine I.un (h':=s.heap) (t':=s.toks) U λ b u z=>?_;by_cases c:b=a
 ·subst c;rw[fN]at z;cases z;exact⟨aJ,(I.bj b _ e).j8 (λ _ _ _ q=>q) (λ b z=>by rw[cu (ne b _ z λ _ c=>nomatch c)];exact z) λ b y z=>by rw[cu (ne b _ z λ _ c=>nomatch c)];exact z⟩
 ·rw[cu c]at z;exact(I.bj b u z).j8 (λ _ _ _ q=>q) (λ b z=>by rw[cu (ne b _ z λ _ c=>nomatch c)];exact z) λ b y z=>by rw[cu (ne b _ z λ _ c=>nomatch c)];exact z
noncomputable abbrev xW(J:Addr->Obj->List (Key×V)->hF)(b4:TE):TI:=λ σ H R=>b4 σ H λ x H1=>∃ a kvs,x=.ref a/\((H1 a=some (.bf kvs)/\∀ o,R (J a o kvs) (upd H1 a (.dU o (.bf kvs))))\/∃ o,H1 a=some (.dU o (.bf kvs))/\R (J a o kvs) H1)
theorem MD{aX l:aY}{ho:TE}(aB:bQ X l ho):i8 X aX l (xW xT ho):=by
 intro pins s σ H R I h;refine bT (aB pins s σ H _ I h) λ u s1 xz=>?_;obtain⟨x,H1,aV,a6,a,kvs,ex,aU⟩:=xz;subst ex;obtain rfl:u=Value.ref a:=a6;have dq:eS H1 a (.bf kvs):=aU.elim (λ z=>.inl z.1) λ⟨o,z,_⟩=>.inr ⟨o,z⟩;obtain⟨hm,o,es,ep,aJ,aA,hd,ar,aq⟩:=xS aV.bj dq
 have fin:∀ aO:am,Inv X pins σ aO s1->R (xT a o kvs) aO->aT (a5 X.prog X.w) X.A (lK (.ref a)) (qw X pins σ aX R) X.xe s1:=λ aO cG r=>by
  refine LR hm ⟨o,aJ,aA,hd⟩ ?_;refine⟨s1.heap.objs.size,[s1.heap.objs.size],_,_,aO,rfl,cG.kept (t':=s1.toks) λ b o e=>dA _ e,MA _ aA hd,⟨fB _,_,fc _ rfl,rfl,rfl⟩,λ b af=>?_,r⟩
  have e:b=s1.heap.objs.size:=by simpa using af
  subst e;exact cG.kg (b6 _) (cG.bj.fresh (b6 _))
 rcases aU with⟨e,r⟩|⟨df,e,r⟩
 ·exact fin _ (aV.Dk e aJ) (r o)
 ·have e7:s1.heap.get? a=some df:=(show dP X.prog X.w H1 s1.heap a (.dU df (.bf kvs)) from aV.bj a _ e).1;rw[aJ]at e7;cases e7;exact fin _ aV r
theorem ME{xs:List aY}{k:Nat}{iI:Pos}{l:aY}{ho:TE}{apos cJ:Pos}(aB:bQ X l ho)(gA:jk l "items" X.env (eval l X.env)=eval l X.env)(gB:(apos.endLine==cJ.line)=true):i8 X (.Tuple xs k iI) (.Call (.Attribute l "items" apos) [] [] cJ) (xW xU ho):=by
 intro pins s σ H R I h;refine zn gA gB (bT (aB pins s σ H _ I h) λ u s1 xz=>?_);obtain⟨x,H1,aV,a6,a,kvs,ex,aU⟩:=xz;subst ex;obtain rfl:u=Value.ref a:=a6;have dq:eS H1 a (.bf kvs):=aU.elim (λ z=>.inl z.1) λ⟨o,z,_⟩=>.inr ⟨o,z⟩;obtain⟨hm,o,es,ep,aJ,aA,hd,ar,aq⟩:=xS aV.bj dq
 have R0:jg s1.heap a es ep:=⟨o,aJ,aA,hd⟩
 refine⟨"dict","dict.items",PySem.F.plainAttrs_dict,PySem.F.slot_dict_items,PySem.F.type_dict_items,R0.typeIs,λ b q=>?_,Calls.callWith_builtin rfl (PySem.evalArgs_none (LV hm R0 ?_))⟩
 ·cases q;exact⟨o,aJ,aA.2.1⟩
 have i4:(s1.heap.push {cls:=.type "dict_items",data:=.fields #[.ref a]}).get? a=some o:=dA _ aJ
 have fin:∀ aO:am,Inv X pins σ aO s1->R (xU a o kvs) aO->aT (a5 X.prog X.w) X.A (lK (.ref s1.heap.objs.size)) (qw X pins σ (.Tuple xs k iI) R) X.xe {s1 with heap:=s1.heap.push {cls:=.type "dict_items",data:=.fields #[.ref a]}}:=λ aO cG r=>by
  have c0:=cG.kept (t':=s1.toks) (h':=s1.heap.push {cls:=.type "dict_items",data:=.fields #[.ref a]}) λ b o e=>dA _ e;refine LW (s:={s1 with heap:=s1.heap.push {cls:=.type "dict_items",data:=.fields #[.ref a]}}) (d:=a) (es:=es) (ep:=ep) ⟨_,fc _ rfl,rfl,rfl⟩ ⟨o,i4,aA,hd⟩ ?_;refine⟨_,[_],_,_,aO,rfl,c0.kept (t':=s1.toks) λ b o e=>dA _ e,MB _ aA hd,⟨fB _,_,_,fc _ rfl⟩,λ b af=>?_,r⟩;rw[oD]at af;subst af;exact c0.kg (b6 _) (c0.bj.fresh (b6 _))
 rcases aU with⟨e,r⟩|⟨df,e,r⟩
 ·exact fin _ (aV.Dk e aJ) (r o)
 ·have e7:s1.heap.get? a=some df:=(show dP X.prog X.w H1 s1.heap a (.dU df (.bf kvs)) from aV.bj a _ e).1;rw[aJ]at e7;cases e7;exact fin _ aV r
end
end L2
namespace L3
open PySem PySem.Spec L2
section
variable{K:a4}{H:am}{G:aC}
@[irreducible] noncomputable def kJ(G:aC)(a:Addr)(k:List (Key×D)->Prop):Prop:=match G a with
 |some (.bf kvs)=>k kvs
 |some (.gC _ _ kvs)=>k kvs
 |_=>False
noncomputable def gv(G:aC)(a:Addr)(kvs:List (Key×D)):Prop:=G a=some (.bf kvs)\/∃ o gs,G a=some (.gC o gs kvs)
theorem lA{a:Addr}{k:List (Key×D)->Prop}{kvs:List (Key×D)}(h:gv G a kvs)(q:k kvs):kJ G a k:=by unfold kJ;rcases h with h|⟨o,gs,h⟩<;>(rw[h];exact q)
theorem pF{a:Addr}{k:List (Key×D)->Prop}(v:dz K G H)(h:kJ G a k):∃ kvs gs,k kvs/\eS H a (.bf gs)/\cL K H kvs gs:=by
 unfold kJ at h;split at h
 ·next kvs e=>obtain⟨gs,z,r⟩:=v _ _ e;exact⟨kvs,gs,h,.inl z,r⟩
 ·next o gs kvs e=>obtain⟨z,r⟩:=v _ _ e;exact⟨kvs,gs,h,.inr ⟨o,z⟩,r⟩
 ·exact h.elim
@[irreducible] noncomputable def mM(G:aC)(a:Addr)(k:Obj->List (Key×V)->List (Key×D)->aC->Prop):Prop:=match G a with
 |some (.bf kvs)=>∀ o gs,k o gs kvs (up G a (.gC o gs kvs))
 |some (.gC o gs kvs)=>k o gs kvs G
 |_=>False
theorem MF{a:Addr}{k:Obj->List (Key×V)->List (Key×D)->aC->Prop}{kvs:List (Key×D)}(h:G a=some (.bf kvs))(q:∀ o gs,k o gs kvs (up G a (.gC o gs kvs))):mM G a k:=by unfold mM;rw[h];exact q
theorem MG{a:Addr}{k:Obj->List (Key×V)->List (Key×D)->aC->Prop}{o:Obj}{gs:List (Key×V)}{kvs:List (Key×D)}(h:G a=some (.gC o gs kvs))(q:k o gs kvs G):mM G a k:=by unfold mM;rw[h];exact q
theorem Go.MH(v:dz K G H){p:Addr}{kvs:List (Key×D)}{gs:List (Key×V)}{o:Obj}(h:G p=some (.bf kvs))(ai:H p=some (.bf gs))(r:cL K H kvs gs):Go K G H (up G p (.gC o gs kvs)) (upd H p (.dU o (.bf gs))) where
 tup:=pi ai
 hL:=λ a u e=>by
  by_cases c:a=p
  ·subst c;exact⟨_,fN⟩
  ·exact⟨u,by rw[cu c];exact e⟩
 same:=λ a u e n=>by
  have c:a≠p:=by rintro rfl;rw[h]at n;cases n
  rw[cu c];exact e
 new:=λ a u e n=>by
  have c:a≠p:=by rintro rfl;rw[h]at n;cases n
  rw[cv c];exact n
 bv:=λ a u e=>by
  by_cases c:a=p
  ·subst c;rw[bI]at e;cases e;exact⟨fN,r.1,r.2.mono (pi ai)⟩
  ·rw[cv c]at e;exact(v a u e).mono (pi ai) (cu c)
theorem cL.get{kvs:List (Key×D)}{gs:List (Key×V)}(r:cL K H kvs gs){i:Nat}{a7:Key×D}(h:kvs[i]?=some a7):∃ v,gs[i]?=some (a7.1,v)/\ck K H a7.2 v:=by
 obtain⟨v,e,a⟩:=r.2.get (i:=i) (d:=a7.2) (by rw[fs,h];rfl);rw[fs]at e;obtain⟨g,e1,aP⟩:=hY.mp e;have k:=congrArg (λ l:List Key=>l[i]?) r.1;simp only[fs,h,e1,s8,eH.injEq]at k;exact⟨v,by rw[e1,k,<- aP],a⟩
end
section
variable{X:aQ}
noncomputable abbrev xX(f:Key×D->D)(b4:bV):ib:=λ ρ G R=>b4 ρ G λ x G1=>match x with
 |.ref a=>mM G1 a λ o gs kvs aL=>R ⟨kvs.map f,λ G=>G a=some (.gC o gs kvs)⟩ aL
 |_=>False
theorem Dl{K:a4}{H:am}(k:Key):ck K H (jL k) (cO k):=by cases k<;>rfl
theorem Dm{aX it:aY}{l:aY}{b4:bV}{f:Key×D->D}{J:Addr->Obj->List (Key×V)->hF}(aB:bD X l b4)(bm:∀{cl:TE},bQ X l cl->i8 X aX it (xW J cl))
 (ok:∀{a:Addr}{o:Obj}{gs:List (Key×V)}{kvs:List (Key×D)}{bP:aC}{b1:am},dz X.K bP b1->bP a=some (.gC o gs kvs)->b1 a=some (.dU o (.bf gs))->cL X.K b1 kvs gs->gs.length=kvs.length->(∀(i:Nat)(a7:Key×D),kvs[i]?=some a7->(J a o gs).go i b1/\∀ x ah,(J a o gs).kf i b1 x ah->Go X.K bP b1 bP ah/\ck X.K ah (f a7) x)/\∀ i,kvs.length<=i->(J a o gs).stop i b1):jG X aX it (xX f b4):=by
 obtain⟨cl,MI,dj⟩:=aB.run;refine⟨_,⟨bm MI.run⟩,λ ρ G ic σ H R B q F=>dj ρ G _ σ H _ B q λ x G1 v H1 g1 aI aD=>?_⟩
 cases x with
 | ref a=>
  cases aI
  have Dn:∀{o:Obj}{gs:List (Key×V)}{kvs:List (Key×D)}{aL:aC}{aO:am},uh X.K ⟨kvs.map f,λ G=>G a=some (.gC o gs kvs)⟩ (J a o gs) aL aO:=λ{o gs kvs aL aO} bP b1 g3 hd=>by
   obtain⟨z,r⟩:=g3.bv _ _ hd
   have len:gs.length=kvs.length:=by have:=congrArg hX r.1;simpa using this.symm
   obtain⟨cz,b2⟩:=ok g3.bv hd z r len;refine⟨λ i d e=>?_,λ i au=>b2 i (by simpa using au)⟩;have bz:(kvs.map f)[i]?=some d:=e;rw[fs]at bz;obtain⟨a7,e1,rfl⟩:=hY.mp bz;exact cz i a7 e1
  have bw:mM G1 a _:=aD;unfold mM at bw;split at bw
  ·next kvs e=>
   obtain⟨gs,z,r⟩:=g1.bv _ _ e;exact⟨a,gs,rfl,.inl ⟨z,λ o=>F _ _ _ _ (g1.trans (Go.MH (o:=o) g1.bv e z r)) Dn (bw o gs)⟩⟩
  ·next o gs kvs e=>
   obtain⟨z,r⟩:=g1.bv _ _ e;exact⟨a,gs,rfl,.inr ⟨o,z,F _ _ _ _ g1 Dn bw⟩⟩
  ·exact bw.elim
 |_=>exact(show False from aD).elim
theorem Do{aX l:aY}{b4:bV}(aB:bD X l b4):jG X aX l (xX (λ a7=>jL a7.1) b4):=
 Dm aB (λ h=>MD h) λ v e z r len=>⟨λ i a7 aq=>by
  obtain⟨w,g1,_⟩:=r.get aq;refine⟨⟨z,by have:=(gg.mp g1).1;omega⟩,?_⟩;rintro x ah ⟨rfl,k,d5,e1,rfl⟩;rw[g1]at e1;cases e1
  exact⟨.refl v,Dl _⟩,λ i au=>⟨z,by omega⟩⟩
theorem Dp{xs:List aY}{k:Nat}{iI:Pos}{l:aY}{b4:bV}{apos cJ:Pos}(aB:bD X l b4)(gA:jk l "items" X.env (eval l X.env)=eval l X.env:=by rfl)(gB:(apos.endLine==cJ.line)=true:=by rfl):jG X (.Tuple xs k iI) (.Call (.Attribute l "items" apos) [] [] cJ) (xX (λ a7=>.tup [jL a7.1,a7.2]) b4):=
 Dm aB (λ h=>ME h gA gB) λ v e z r len=>⟨λ i a7 aq=>by
  obtain⟨w,g1,gm⟩:=r.get aq;refine⟨⟨z,by have:=(gg.mp g1).1;omega⟩,?_⟩;rintro x ah ⟨T,k,d5,e1,rfl,eZ,rfl⟩;rw[g1]at e1;cases e1;have g3:=Go.ko (K:=X.K) (o:=.tup [cO a7.1,w]) v eZ
  exact⟨g3,T,_,rfl,.of fN,⟨_,_,rfl,Dl _,.one (gm.mono g3.tup)⟩⟩,λ i au=>⟨z,by omega⟩⟩
end
end L3
namespace L3
open PySem PySem.Spec L2 PySem.SeqAt
noncomputable def oa(A:cg)(s:aw)(y x:Value)(b:Bool):Prop:=
 ∀(prog:bX)(w:bJ)(E:Value->aw->Prop)(Q:Value->aw->Prop),Q (.bool b) s->aT (a5 prog w) A (richCompare .LtE y x) Q E s
open AutoSeq1 (wpAny_loadPart') in
theorem MJ(l b:Addr)(items bu:Array Value)(n de:Nat)(cC ez:Option Addr)(cp fF:Array (Option Value))(e c:Nat->Bool) :
 Meets (Builtin.«tuple.__le__» ⟨[.ref l,.ref b],[]⟩)
  (λ A R s=>s.heap.get? l=some {cls:=.type "tuple",dict:=cC,data:=.seq items n,slots:=cp}/\s.heap.get? b=some {cls:=.type "tuple",dict:=ez,data:=.seq bu de,slots:=fF} ∧
   (∀ j (ae:j<items.size) (ag:j<bu.size),EqAt A.in1 s items[j] bu[j] (e j)) ∧
   (∀ j (ae:j<items.size) (ag:j<bu.size),(∀ i,i<j->e i=true)->e j=false->oa A.in1 s items[j] bu[j] (c j)) ∧
   R (.ok (.ret (.bool (eB e c (decide (items.size<=bu.size)) (min items.size bu.size) 0)))) s):=
 .of_wp λ prog w A R s h=>by
  obtain⟨ai,g,d,bM,os⟩:=s;obtain⟨aB,af,he,aA,h⟩:=h;have f2:=AutoSeq1.sub_tuple_tuple
  have ru:(items.toList.zip bu.toList).length=min items.size bu.size:=by simp
  wp_walk using iS aB,iS af,wpAny_forIn_list _ (λ rest b av=>b.1=none/\av=⟨ai,g,d,bM,os⟩/\∃ i,rest=(items.toList.zip bu.toList).drop i/\(∀ k,k<i->e k=true) ∧
   R (.ok (.ret (.bool (eB e c (decide (items.size<=bu.size)) (min items.size bu.size - i) i)))) ⟨ai,g,d,bM,os⟩) _
  case turn=>
   rintro⟨y,x⟩ rest b av ⟨cf,rfl,i,hz,aq,ei⟩
   have dr:i<(items.toList.zip bu.toList).length:=by
    rcases oE i (items.toList.zip bu.toList).length with h'|h'
    ·exact h'
    ·rw[List.drop_of_length_le h']at hz;cases hz
   have hm:i<min items.size bu.size:=ru ▸ dr;have ae:i<items.size:=fS hm (Nat.min_le_left _ _);have ag:i<bu.size:=fS hm (Nat.min_le_right _ _);rw[sT dr]at hz;injection hz with rv w2
   have a9:y=items[i]:=by have:=congrArg Prod.fst rv;simpa using this
   have ak:x=bu[i]:=by have:=congrArg Prod.snd rv;simpa using this
   subst a9 ak;rw[show min items.size bu.size - i=(min items.size bu.size - (i+1))+1 by omega,eB]at ei;refine ay (he i ae ag prog w _ _ ?_)
   cases a9:e i with
   | true=>
    rw[a9]at ei
    wp_walk
    exact⟨rfl,rfl,i+1,w2,λ k pk=>by rcases Nat.lt_succ_iff_lt_or_eq.mp pk with z|rfl;exact aq k z;exact a9,by simpa using ei⟩
   | false=>
    rw[a9,if_neg (by decide)]at ei;simp only[Bool.not_false,if_true];refine ay (p1 (ay (aA i ae ag aq a9 prog w _ _ ?_)))
    wp_walk
    exact⟨_,rfl,ei⟩
  case fin=>
   rintro⟨pl,gT⟩ av ⟨cf,rfl,i,hz,aq,ei⟩;simp only at cf;subst cf
   have KE:min items.size bu.size<=i:=by
    rcases oE i (items.toList.zip bu.toList).length with h'|h'
    ·rw[sT h']at hz;cases hz
    ·exact ru ▸ h'
   rw[show min items.size bu.size - i=0 by omega,eB]at ei
   wp_walk
   exact⟨_,rfl,by simpa[Builtin.Tuple.tupleCompareSizes] using ei⟩
  case h=>
   exact⟨rfl,rfl,0,rfl,by simp,by simpa using h⟩
theorem oa.tuples{A:cg}{s:aw}{l b:Addr}{items bu:Array Value}{e c:Nat->Bool}(aB:s.heap.IsTuple l items)(af:s.heap.IsTuple b bu)(bg:A.units<bO)
 (he:∀ j (ae:j<items.size) (ag:j<bu.size),EqAt A.in1 s items[j] bu[j] (e j))
 (aA:∀ j (ae:j<items.size) (ag:j<bu.size),(∀ i,i<j->e i=true)->e j=false->oa A.in1 s items[j] bu[j] (c j)) :
 oa A s (.ref l) (.ref b) (eB e c (decide (items.size<=bu.size)) (min items.size bu.size) 0):=λ prog w E Q h=>by
 obtain⟨⟨cls,cC,data,cp⟩,aJ,mE,n,hd⟩:=id aB;obtain⟨⟨tC,ez,data2,fF⟩,e7,e8,de,hd2⟩:=id af;simp only at mE hd e8 hd2;subst mE hd e8 hd2
 exact zo (op:=.LtE) ⟨_,aJ,rfl⟩ ⟨_,e7,rfl⟩ F.slot_tuple_le F.entry_tuple_le (F.args_tuple_le_2 _ _) (MJ l b items bu n de cC ez cp fF e c)
  ⟨aJ,e7,he,aA,show Value.bool _≠Value.notImplemented/\Q _ s from⟨(λ x=>nomatch x),h⟩⟩ bg
mutual
theorem xY:∀ d e:D,bL d e=bL e d
 |.tup ds,.tup es=>by rw[bL,bL];exact Dq ds es
 |.int a,.int b=>by simp only[bL];exact qi
 |.str a,.str b=>by simp only[bL];exact qi
 |.aW a,.aW b=>by simp only[bL];exact qi
 |.aW a,.int b=>by simp only[bL];exact qi
 |.int a,.aW b=>by simp only[bL];exact qi
 |.bo,e=>by cases e<;>simp[bL]
 |.ref _,e=>by cases e<;>simp[bL]
 |.ty _,e=>by cases e<;>simp[bL]
 |.c1 _,e=>by cases e<;>simp[bL]
 |.tup _,.bo|.tup _,.int _|.tup _,.str _|.tup _,.aW _|.tup _,.ref _|.tup _,.ty _|.tup _,.c1 _=>by simp[bL]
 |.int _,.bo|.int _,.tup _|.int _,.str _|.int _,.ref _|.int _,.ty _|.int _,.c1 _=>by simp[bL]
 |.str _,.bo|.str _,.tup _|.str _,.int _|.str _,.aW _|.str _,.ref _|.str _,.ty _|.str _,.c1 _=>by simp[bL]
 |.aW _,.bo|.aW _,.tup _|.aW _,.str _|.aW _,.ref _|.aW _,.ty _|.aW _,.c1 _=>by simp[bL]
theorem Dq:∀ ds es:List D,dZ ds es=dZ es ds
 |[],[]=>rfl
 |[],_::_=>by simp[dZ]
 |_::_,[]=>by simp[dZ]
 |d::ds,e::es=>by rw[dZ,dZ,xY d e,Dq ds es]
end
theorem Dr(ds es:List D):d0 ds es=d0 es ds:=by
 funext j;unfold d0;cases ds[j]?<;>cases es[j]?<;>simp[xY]
theorem Ds{b:Bool}:∀{ds es:List D},bR es ds=some b->eB (d0 ds es) (λ _=>!b) (decide (ds.length<=es.length)) (min ds.length es.length) 0=!b
 | ds,[],h=>by
  rw[bR]at h;cases h;simp only[j1,Nat.min_zero,eB];cases ds<;>simp
 | [],e::es,h=>by
  rw[bR]at h;cases h;simp[eB]
 | d::ds,e::es,h=>by
  rw[bR]at h;rw[eG,eG,Nat.succ_min_succ,eB,w3,w4,show d0 (d::ds) (e::es) 0=bL d e from rfl];by_cases c:bL d e=true
  ·rw[if_pos (by rw[xY];exact c)]at h;rw[if_pos c];have z:=Ds h;simpa using z
  ·rw[if_neg c]
section
variable{X:aQ}{pins:List (Addr×Obj)}{σ:L2.St}{H:am}{s:aw}
mutual
theorem Dt(I:Inv X pins σ H s):∀(d e:D)(b:Bool)(A:cg)(x y:V)(u v:Value),d.data=true->e.data=true->ck X.K H d x->ck X.K H e y->RelV x u->RelV y v->A.units+d.bU<bO->bt e d=some b->oa A s u v (!b)
 | .tup ds,e,b,A,x,y,u,v,hd,he,aI,aN,cD,aM,bg,af=>by
  obtain⟨es,rfl⟩:∃ es,e=.tup es:=by cases e<;>first|exact⟨_,rfl⟩|(simp[bt]at af)
  obtain⟨a,vs,rfl,s1,aG⟩:=aI;cases cD;obtain⟨ao,bC,t1,_⟩:=I.tuple s1;obtain⟨a2,us,rfl,s2,aR⟩:=aN;cases aM;obtain⟨bx,b3,b8,_⟩:=I.tuple s2;have dY:=bC.length;have dS:=b3.length;have f7:=aG.len;have fR:=aR.len;rw[bt]at af;simp only[D.bU]at bg;simp only[D.data]at hd he
  have z:=oa.tuples (A:=A) (e:=d0 ds es) (c:=λ _=>!b) t1 b8 (by omega) (λ j ae ag=>by
   have q:=lh I ds es A.in1 vs us ao bx hd he aG aR bC b3 (by show A.units+1+da ds<bO;omega) j (by simpa using ae) (by simpa using ag)
   simpa using q) (λ j ae ag au bm=>by
   have fx:j<ao.length:=by simpa using ae
   have jD:j<bx.length:=by simpa using ag
   obtain⟨e,d,g2,g1,g3⟩:=uE (ds:=es) (es:=ds) (j:=j) af (by omega) (by omega) (λ i h=>by rw[Dr];exact au i h) (by rw[Dr];exact bm);have q:=Du I ds es A.in1 vs us ao bx hd he aG aR bC b3 (by show A.units+1+da ds<bO;omega) j fx jD d e b g1 g2 g3
   simpa using q)
  have jJ:eB (d0 ds es) (λ _=>!b) (decide (ao.toArray.size<=bx.toArray.size)) (min ao.toArray.size bx.toArray.size) 0=!b:=by
   rw[bN,bN,<- dY,<- dS,f7,fR];exact Ds af
  rw[jJ]at z;exact z
 | .int i,e,b,A,x,y,u,v,_,_,aI,aN,cD,aM,_,af=>by
  obtain⟨j,rfl⟩:∃ j,e=.int j:=by cases e<;>first|exact⟨_,rfl⟩|(simp[bt]at af)
  cases aI;cases aN;obtain⟨t,rfl⟩:=cD;obtain⟨t',rfl⟩:=aM;rw[bt]at af;cases af;exact λ prog w E Q h=>PyProof.Rows.le_int (by rw[show decide (i<=j)=!decide (j<i) by by_cases c:j<i<;>simp[c]<;>omega];exact h)
 | .str i,e,b,A,x,y,u,v,_,_,aI,aN,cD,aM,_,af=>by
  obtain⟨j,rfl⟩:∃ j,e=.str j:=by cases e<;>first|exact⟨_,rfl⟩|(simp[bt]at af)
  cases aI;cases aN;obtain⟨t,rfl⟩:=cD;obtain⟨t',rfl⟩:=aM;rw[bt]at af;cases af;exact λ prog w E Q h=>PySem.P.le_str h
 |.bo,e,b,A,x,y,u,v,_,_,_,_,_,_,_,af=>by cases e<;>simp[bt]at af
 |.aW _,e,b,A,x,y,u,v,_,_,_,_,_,_,_,af=>by cases e<;>simp[bt]at af
 |.ref _,e,b,A,x,y,u,v,h,_,_,_,_,_,_,_=>by simp[D.data]at h
 |.ty _,e,b,A,x,y,u,v,h,_,_,_,_,_,_,_=>by simp[D.data]at h
 |.c1 _,e,b,A,x,y,u,v,h,_,_,_,_,_,_,_=>by simp[D.data]at h
theorem Du(I:Inv X pins σ H s):∀(ds es:List D)(A:cg)(vs us:List V)(ao bx:List Value),cw ds=true->cw es=true->br X.K H ds vs->br X.K H es us->Vals vs ao->Vals us bx->A.units+da ds<bO →
 ∀ j (ae:j<ao.length) (ag:j<bx.length) d e b,ds[j]?=some d->es[j]?=some e->bt e d=some b->oa A s ao[j] bx[j] (!b)
 |[],es,A,vs,us,ao,bx,_,_,_,_,_,_,_,j,ae,ag,d,e,b,g1,_,_=>by cases g1
 |_::_,[],A,vs,us,ao,bx,_,_,_,_,_,_,_,j,ae,ag,d,e,b,_,g2,_=>by cases g2
 | jf::ds,cQ::es,A,vs,us,ao,bx,hd,he,⟨v,r,e,q,t⟩,⟨h4,bK,bz,fO,t'⟩,bC,b3,bg,j,ae,ag,ec,e1,b,g1,g2,g3=>by
  subst e bz
  cases bC with
  | cons aG rt=>
   cases b3 with
   | cons aR jK=>
    simp only[da]at bg;simp only[cw,ZB]at hd he
    cases j with
    | zero=>
     cases g1;cases g2;exact Dt I jf cQ b A _ _ _ _ hd.1 he.1 q fO aG aR (by omega) g3
    | succ j=>
     have z:=Du I ds es A _ _ _ _ hd.2 he.2 t t' rt jK (by omega) j (by simpa using ae) (by simpa using ag) ec e1 b g1 g2 g3;simpa using z
end
end
section
variable{X:aQ}
noncomputable def MK(K:a4):dQ:=λ x y H Q=>∃(d e:D)(b:Bool),ck K H d x/\ck K H e y/\d.data=true/\e.data=true/\d.bU<=150/\bt e d=some b/\Q (.aW (!b)) H
theorem ML(bg:X.A.units+200<bO):c4 X (dE .LtE) (MK X.K):=by
 intro pins s σ H x y v u Q I a6 bA h;obtain⟨d,e,b,aI,aN,hd,he,ai,af,q⟩:=h;exact Dt I d e b X.A x y v u hd he aI aN a6 bA (by omega) af X.prog X.w X.xe _ ⟨.aW _,H,I,rfl,q⟩
noncomputable def MM:hs:=λ d e G Q=>d.data=true/\e.data=true/\d.bU<=150/\∃ b,bt e d=some b/\Q (.aW (!b)) G
theorem MN(bg:X.A.units+200<bO):fl X (dE .LtE) MM:=by
 refine⟨_,⟨ML bg⟩,λ x y dX fQ G H aE Q v aI aN r F=>?_⟩;obtain⟨ae,ag,bc,b,af,q⟩:=r;exact⟨x,y,b,aI,aN,ae,ag,bc,af,F (.aW (!b)) G _ H (.refl v) rfl q⟩
end
end L3
namespace L2
open PySem PySem.Spec PySem.W PyProof.Rows
theorem iF.Dv{H:am}{a:Addr}{kvs:List (Key×V)}{k:Key}(e:eS H a (.bf kvs)):iF H a (cO k) (fH kvs k):=.inl ⟨kvs,k,e,rfl,rfl⟩
section
variable{X:aQ}
theorem MO:gP X (.type "dict") (λ xs H Q=>∃ a kvs,xs=[.ref a]/\eS H a (.bf kvs)/\∀ p,H p=none->Q (.ref p) (upd H p (.bf kvs))):=by
 intro pins s σ H xs us Q I r h;obtain⟨a,kvs,rfl,e,q⟩:=h;obtain⟨u,rfl,a6⟩:=l6 r;cases a6;obtain⟨z,hd,vs,rel,cC⟩:=jy I.bj e;refine kt_call_dict hd cC (by rw[<- rel.length];exact z) λ h' k2 h7=>?_;have aS:(s.heap.objs.size==hh)=false:=beq_eq_false_iff_ne.mpr (Ne.symm (dJ I.big));refine⟨.ref s.heap.objs.size,_,I.laid (t':=s.toks) (λ b o dG=>?_) (b6 _) (wv z aS rel k2),rfl,q _ (I.bj.fresh (b6 _))⟩;exact(h7.2 b (dJ (c7 dG))).trans (dA _ dG)
end
end L2
namespace L3
open PySem PySem.Spec L2
section
variable{X:aQ}{o i e f:aY}{pos apos cJ:Pos}{b4 cV fI:bV}
noncomputable abbrev MP(b4 cV:bV):bV:=λ ρ G Q=>b4 ρ G λ x G1=>cV ρ G1 λ y aL=>match x with
 |.ref a=>kJ aL a λ kvs=>∃ k d,mC y=some k/\cT kvs k=some d/\Q d aL
 |_=>False
theorem Dw(bg:X.A.units+200<bO)(aJ:bD X o b4)(au:bD X i cV)(ar:tT i):bD X (.Subscript o i pos) (MP b4 cV):=by
 obtain⟨co,eA,bH⟩:=aJ.run;obtain⟨ci,f6,eX⟩:=au.run;refine⟨_,⟨AX (by omega) eA.run f6.run ar⟩,λ ρ G aE σ H Q B q F=>bH ρ G _ σ H _ B q λ x G1 v H1 g1 aI aD=>eX ρ G1 _ σ H1 _ (B.go g1) aD λ y aL u aO g2 aN bw=>?_⟩
 cases x with
 | ref a=>
  cases aI;obtain⟨kvs,gs,⟨k,d,iO,uD,dd⟩,aP,r⟩:=pF g2.bv bw;obtain⟨w,hw,gm⟩:=(r.val (k:=k)).1 d uD;rw[pj iO]at aN;have:=ph aN;subst this;exact⟨a,w,rfl,by rw[<- hw];exact iF.Dv aP,F d aL w aO (g1.trans g2) gm dd⟩
 |_=>exact(show False from bw).elim
noncomputable abbrev MQ(b4 cV fI:bV):bV:=λ ρ G Q=>b4 ρ G λ x G1=>(match x with|.ref a=>kJ G1 a λ _=>True|_=>False)/\cV ρ G1 λ y aL=>fI ρ aL λ z bP=>match x with
 |.ref a=>kJ bP a λ kvs=>∃ k,mC y=some k/\Q ((cT kvs k).getD z) bP
 |_=>False
theorem Dx(bg:X.A.units+200<bO)(aJ:bD X o b4)(he:bD X e cV)(hf:bD X f fI)(m:M2 X o "get" apos e f cJ):bD X (.Call (.Attribute o "get" apos) [e,f] [] cJ) (MQ b4 cV fI):=by
 obtain⟨co,eA,bH⟩:=aJ.run;obtain⟨ci,f6,eX⟩:=he.run;obtain⟨cx,rQ,a6⟩:=hf.run;refine⟨_,⟨A0 (by omega) eA.run f6.run rQ.run m⟩,λ ρ G aE σ H Q B q F=>bH ρ G _ σ H _ B q λ x G1 v H1 g1 aI ⟨hr,aD⟩=>?_⟩
 cases x with
 | ref a=>
  cases aI;obtain⟨_,rR,_,cQ,_⟩:=pF g1.bv hr;refine⟨a,rfl,.inl ⟨rR,cQ⟩,eX ρ G1 _ σ H1 _ (B.go g1) aD λ y aL u aO g2 aN bw=>a6 ρ aL _ σ aO _ ((B.go g1).go g2) bw λ z bP u1 b1 g3 ia dd=>?_⟩;obtain⟨kvs,gs,⟨k,iO,ey⟩,aP,r⟩:=pF g3.bv dd;have mL:=aN.mono g3.tup;rw[pj iO]at mL;have:=ph mL;subst this;refine⟨_,iF.Dv aP,?_⟩
  cases hd:cT kvs k with
  | none=>
   rw[hd]at ey;rw[(r.val (k:=k)).2 hd];exact F z bP u1 b1 ((g1.trans g2).trans g3) ia ey
  | some d=>
   rw[hd]at ey;obtain⟨w,hw,gm⟩:=(r.val (k:=k)).1 d hd;rw[hw];exact F d bP w b1 ((g1.trans g2).trans g3) gm ey
 |_=>exact(show False from hr).elim
noncomputable def MR:D->aC->bS->Prop:=λ x G Q=>match x with
 |.ref a=>kJ G a λ kvs=>∀ p,G p=none->Q (.ref p) (up G p (.bf kvs))
 |_=>False
theorem MS:ja X (.type "dict") (mx MR):=by
 refine⟨_,⟨MO⟩,λ xs vs G H aE Q v a r F=>?_⟩;obtain⟨x,u,rfl,rfl,aI,r⟩:=pa r a
 cases x with
 | ref l=>
  cases aI;obtain⟨kvs,gs,k,e,dj⟩:=pF v r;exact⟨l,gs,rfl,e,λ p ai=>F (.ref p) _ _ _ (Go.newD v ai dj) rfl (k p (v.none ai))⟩
 |_=>exact(show False from r).elim
end
end L3
namespace L2
open PySem PySem.Spec PySem.W PyProof.Rows
theorem MT{P xZ:bX}{w d5:bJ}{es:List hy}{vs:List (Key×Value)}(h:Pairs (el P w) es vs):Pairs (el xZ d5) es vs:=by
 induction h with
 |nil=>exact .nil
 |cons ae ag _ b0=>exact .cons ae ag b0
theorem MU{P:bX}{w:bJ}{es:List hy}{vs:List (Key×Value)}(h:Pairs (el P w) es vs):∀ e∈es,∃ a7∈vs,(el P w).is a7.1 e.key=true:=by
 induction h with
 |nil=>intro e he;cases he
 | cons ae _ _ b0=>
  intro e he;rcases fq.mp he with rfl|he
  ·exact⟨_,.head _,ae⟩
  ·obtain⟨a7,m,q⟩:=b0 e he;exact⟨a7,.tail _ m,q⟩
theorem Dy{P:bX}{w:bJ}{h:bF}{a:Addr}{vs:List (Key×Value)}(xZ:bX)(d5:bJ)(d:h.DictOf (el P w) a vs)(au:∀ p∈vs,∃ n:Int,p.1=Sum.inl n):h.DictOf (el xZ d5) a vs:=by
 obtain⟨o,es,ep,ae,ag,bc,ks,aZ,a3⟩:=d;refine⟨o,es,ep,ae,ag,bc,λ e he=>?_,MT aZ,a3⟩;obtain⟨k,cz,b2⟩:=ks e he;obtain⟨a7,m,q⟩:=MU aZ e (by simpa using he);obtain⟨n,aS⟩:=au a7 m;have e1:=(el P w).inj _ _ _ cz q;rw[e1,aS]at b2;rw[aS]at q;exact⟨.inl n,q,b2⟩
end L2
namespace L3
open PySem PySem.Spec L2 PySem.W
noncomputable def pG(kvs:List (Key×D)):Prop:=∀ p∈kvs,∃ n:Int,p.1=Sum.inl n
inductive pH(G:aC):D->D->Bool->Prop
 |dat {x y:D}:x.data=true->y.data=true->x.bU<=120->pH G x y (bL x y)
 |jS {a b:Addr} {cM cK:List (Key×D)}:gv G a cM->gv G b cK->hc cM->hc cK->pG cM->pG cK->a≠b->pH G (.ref a) (.ref b) (jR cM cK)
inductive gX(G:aC):List D->List D->List Bool->Prop
 |nil:gX G [] [] []
 |cons {d e:D} {b:Bool} {ds es:List D} {bs:List Bool}:pH G d e b->gX G ds es bs->gX G (d::ds) (e::es) (b::bs)
theorem gX.len{G:aC}{ds es:List D}{bs:List Bool}(h:gX G ds es bs):ds.length=bs.length/\es.length=bs.length:=by
 induction h with
 |nil=>exact⟨rfl,rfl⟩
 |cons _ _ b0=>exact⟨congrArg (·+1) b0.1,congrArg (·+1) b0.2⟩
theorem gX.at{G:aC}{ds es:List D}{bs:List Bool}(h:gX G ds es bs):∀{j:Nat}{d e:D},ds[j]?=some d->es[j]?=some e->∃ b,bs[j]?=some b/\pH G d e b:=by
 induction h with
 |nil=>intro j d e h;cases h
 | cons h _ b0=>
  intro j d e ae ag
  cases j with
  |zero=>cases ae;cases ag;exact⟨_,rfl,h⟩
  |succ j=>exact b0 ae ag
section
variable{X:aQ}{pins:List (Addr×Obj)}{σ:L2.St}{H:am}{s:aw}{G:aC}
theorem qQ{K:a4}{a:Addr}{kvs:List (Key×D)}(v:dz K G H)(h:gv G a kvs):∃ gs,eS H a (.bf gs)/\cL K H kvs gs:=by
 rcases h with e|⟨o,gs,e⟩
 ·obtain⟨gs,z,r⟩:=v _ _ e;exact⟨gs,.inl z,r⟩
 ·obtain⟨z,r⟩:=v _ _ e;exact⟨gs,.inr ⟨o,z⟩,r⟩
theorem Dz{K:a4}{kvs:List (Key×D)}{gs:List (Key×V)}{vs:List (Key×Value)}(r:cL K H kvs gs)(k:eQ gs vs)(h:pG kvs):∀ p∈vs,∃ n:Int,p.1=Sum.inl n:=by
 have e1:gs.map (·.1)=vs.map (·.1):=by
  have MV:lJ (λ(p:Key×V) (q:Key×Value)=>p.1=q.1/\RelV p.2 q.2) gs vs:=k;clear r h k
  induction MV with
  |nil=>rfl
  |cons q _ b0=>rw[eF,eF,q.1,b0]
 intro p ai
 have m:p.1∈kvs.map (·.1):=by rw[r.1,e1];exact mY ai
 obtain⟨q,aU,e⟩:=ea.mp m;obtain⟨n,aS⟩:=h q aU;exact⟨n,by rw[<- e,aS]⟩
theorem MW(I:Inv X pins σ H s){A:cg}(bg:A.units+170<bO){a b:Addr}{cM cK:List (Key×D)}{ga gW:List (Key×V)}(e1:eS H a (.bf ga))(aP:eS H b (.bf gW))(aG:cL X.K H cM ga)(aR:cL X.K H cK gW)(ec:hc cM)(gu:hc cK)(nS:pG cM)(nT:pG cK):SeqAt.RcAt A s (.ref a) (.ref b) (jR cM cK):=by
 obtain⟨_,ae,kI,ly,rX⟩:=jy I.bj e1;obtain⟨_,ag,kH,lz,ez⟩:=jy I.bj aP
 have dY:kI.length=cM.length:=by have:=congrArg hX aG.1;have:=ly.length;simp at *;omega
 have dS:kH.length=cK.length:=by have:=congrArg hX aR.1;have:=lz.length;simp at *;omega
 intro prog w E Q h;refine(show aT _ _ (dE .Eq (.ref a) (.ref b)) Q E s from keq_eq ae ag (Dy prog w rX (Dz aG ly nS)) (Dy prog w ez (Dz aR lz nT)) (by omega) (λ _=>u2 I (A:=A.in1) (by show A.units+1+160<bO;omega) aR lz gu aG ly ec) ?_);rw[dY,dS];exact h
theorem pH.at{x y:D}{b:Bool}(h:pH G x y b)(v:dz X.K G H)(I:Inv X pins σ H s){A:cg}(bg:A.units+180<bO){dX fQ:V}{u i6:Value}(aI:ck X.K H x dX)(aN:ck X.K H y fQ)(a6:RelV dX u)(bA:RelV fQ i6):SeqAt.EqAt A s u i6 b:=by
 cases h with
 |dat ae ag bc=>exact rp I x y A dX fQ u i6 ae ag aI aN a6 bA (by omega)
 | jS ae ag ec gu nS nT ne=>
  cases aI;cases aN;cases a6;cases bA;obtain⟨ga,e1,aG⟩:=qQ v ae;obtain⟨gW,aP,aR⟩:=qQ v ag;exact SeqAt.EqAt.of_refs ne (MW I (by omega) e1 aP aG aR ec gu nS nT)
theorem gX.vals{ds es:List D}{bs:List Bool}(h:gX G ds es bs)(v:dz X.K G H)(I:Inv X pins σ H s){A:cg}(bg:A.units+180<bO){vs us:List V}{ao bx:List Value}(aG:br X.K H ds vs)(aR:br X.K H es us)(bC:Vals vs ao)(b3:Vals us bx)(j:Nat)(ae:j<ao.length)(ag:j<bx.length) :
 SeqAt.EqAt A s ao[j] bx[j] (bs.getD j false):=by
 have cz:=bC.length;have b2:=b3.length;have ij:=aG.len;have rD:=aR.len;have g1:ds[j]?=some ds[j]:=cN (by omega);have g2:es[j]?=some es[j]:=cN (by omega);obtain⟨b,af,e⟩:=h.at g1 g2;obtain⟨dX,l3,aI⟩:=aG.get g1;obtain⟨fQ,kb,aN⟩:=aR.get g2;obtain⟨u,eK,a6⟩:=bC.get l3;obtain⟨i6,cU,bA⟩:=b3.get kb
 have MX:ao[j]=u:=by have:=cN ae;rw[eK]at this;exact(eH.inj this).symm
 have MY:bx[j]=i6:=by have:=cN ag;rw[cU]at this;exact(eH.inj this).symm
 rw[MX,MY,gL,af];exact e.at v I bg aI aN a6 bA
end
theorem rZ:∀(bs:List Bool),(gf bs.length).all (λ j=>bs.getD j false)=bs.all id
 |[]=>rfl
 | b::bs=>by
  rw[eG,List.range_succ_eq_map,kQ,List.all_map,kQ,<- rZ bs];rfl
noncomputable def x0(K:a4)(f:Bool->Bool):dQ:=λ x y H Q=>∃(l m:Addr)(vs us:List V)(G:aC)(ds es:List D)(bs:List Bool),x=.ref l/\y=.ref m/\dO K H l vs/\dO K H m us/\dz K G H/\br K H ds vs/\br K H es us/\gX G ds es bs/\Q (.aW (f (bs.all id))) H
noncomputable def x1(K:a4)(f:Bool->Bool):dQ:=λ x y H Q=>∃(l m:Addr)(vs us:List V)(G:aC)(ds es:List D)(bs:List Bool),x=.ref l/\y=.ref m/\dt K H l vs/\dt K H m us/\dz K G H/\br K H ds vs/\br K H es us/\gX G ds es bs/\Q (.aW (f (bs.all id))) H
section
variable{X:aQ}
theorem MZ(bg:X.A.units+200<bO):c4 X (dE .Eq) (x0 X.K id):=by
 intro pins s σ H x y v u Q I a6 bA h;obtain⟨l,m,vs,us,G,ds,es,bs,rfl,rfl,s1,s2,bv,aG,aR,e,q⟩:=h;cases a6;cases bA;obtain⟨ao,bC,t1,_⟩:=I.list s1;obtain⟨bx,b3,b8,_⟩:=I.list s2;have dY:=bC.length;have dS:=b3.length;have f7:=aG.len;have fR:=aR.len;obtain⟨x2,x3⟩:=e.len;refine SeqAt.RcAt.lists (e:=λ j=>bs.getD j false) t1.isList b8.isList (by rw[bN,bN];omega) (by omega) (λ j ae ag=>?_) X.prog X.w X.xe _ ⟨.aW _,H,I,?_,q⟩
 ·have q:=e.vals bv I (A:=X.A.in1) (by show X.A.units+1+180<bO;omega) aG aR bC b3 j (by simpa using ae) (by simpa using ag);simpa using q
 ·show Value.bool _=Value.bool _;rw[bN,show ao.length=bs.length by omega,rZ];rfl
theorem M0(bg:X.A.units+200<bO):c4 X (dE .NotEq) (x0 X.K (!·)):=by
 intro pins s σ H x y v u Q I a6 bA h;obtain⟨l,m,vs,us,G,ds,es,bs,rfl,rfl,s1,s2,bv,aG,aR,e,q⟩:=h;cases a6;cases bA;obtain⟨ao,bC,t1,_⟩:=I.list s1;obtain⟨bx,b3,b8,_⟩:=I.list s2;have dY:=bC.length;have dS:=b3.length;have f7:=aG.len;have fR:=aR.len;obtain⟨x2,x3⟩:=e.len;refine SeqAt.RcNeAt.lists (e:=λ j=>bs.getD j false) t1.isList b8.isList (by rw[bN,bN];omega) (by omega) (λ j ae ag=>?_) X.prog X.w X.xe _ ⟨.aW _,H,I,?_,q⟩
 ·have q:=e.vals bv I (A:=X.A.in1) (by show X.A.units+1+180<bO;omega) aG aR bC b3 j (by simpa using ae) (by simpa using ag);simpa using q
 ·show Value.bool _=Value.bool _;rw[bN,show ao.length=bs.length by omega,rZ]
theorem M1(bg:X.A.units+200<bO):c4 X (dE .Eq) (x1 X.K id):=by
 intro pins s σ H x y v u Q I a6 bA h;obtain⟨l,m,vs,us,G,ds,es,bs,rfl,rfl,s1,s2,bv,aG,aR,e,q⟩:=h;cases a6;cases bA;obtain⟨ao,bC,t1,_⟩:=I.tuple s1;obtain⟨bx,b3,b8,_⟩:=I.tuple s2;have dY:=bC.length;have dS:=b3.length;have f7:=aG.len;have fR:=aR.len;obtain⟨x2,x3⟩:=e.len;refine SeqAt.RcAt.tuples (e:=λ j=>bs.getD j false) t1 b8 (by omega) (λ j ae ag=>?_) X.prog X.w X.xe _ ⟨.aW _,H,I,?_,q⟩
 ·have q:=e.vals bv I (A:=X.A.in1) (by show X.A.units+1+180<bO;omega) aG aR bC b3 j (by simpa using ae) (by simpa using ag);simpa using q
 ·show Value.bool _=Value.bool _;rw[bN,bN,show bx.length=ao.length by omega,Nat.min_self,show ao.length=bs.length by omega,rZ,beq_self_eq_true,Bool.and_true];rfl
theorem M3(bg:X.A.units+200<bO):c4 X (dE .NotEq) (x1 X.K (!·)):=by
 intro pins s σ H x y v u Q I a6 bA h;obtain⟨l,m,vs,us,G,ds,es,bs,rfl,rfl,s1,s2,bv,aG,aR,e,q⟩:=h;cases a6;cases bA;obtain⟨ao,bC,t1,_⟩:=I.tuple s1;obtain⟨bx,b3,b8,_⟩:=I.tuple s2;have dY:=bC.length;have dS:=b3.length;have f7:=aG.len;have fR:=aR.len;obtain⟨x2,x3⟩:=e.len;refine SeqAt.RcNeAt.tuples (e:=λ j=>bs.getD j false) t1 b8 (by omega) (λ j ae ag=>?_) X.prog X.w X.xe _ ⟨.aW _,H,I,?_,q⟩
 ·have q:=e.vals bv I (A:=X.A.in1) (by show X.A.units+1+180<bO;omega) aG aR bC b3 j (by simpa using ae) (by simpa using ag);simpa using q
 ·show Value.bool _=Value.bool _;rw[bN,bN,show bx.length=ao.length by omega,Nat.min_self,show ao.length=bs.length by omega,rZ,beq_self_eq_true,Bool.and_true]
noncomputable def u4(f:Bool->Bool):hs:=λ x y G Q=>match x,y with
 |.ref l,.ref m=>g_ G l λ ds=>g_ G m λ es=>∃ bs,gX G ds es bs/\Q (.aW (f (bs.all id))) G
 |.tup ds,.tup es=>∃ bs,gX G ds es bs/\Q (.aW (f (bs.all id))) G
 |_,_=>False
theorem DA{f:Bool->Bool}{op:Value->Value->Sem Value}(ae:c4 X op (x0 X.K f))(ag:c4 X op (x1 X.K f)):fl X op (u4 f):=by
 refine⟨_,⟨ae.or ag⟩,λ x y dX fQ G H aE Q v aI aN r F=>?_⟩;unfold u4 at r;split at r
 ·cases aI;cases aN;obtain⟨ds,vs,r,s1,aG⟩:=iK v r;obtain⟨es,us,⟨bs,e,q⟩,s2,aR⟩:=iK v r;exact .inl ⟨_,_,vs,us,G,ds,es,bs,rfl,rfl,s1,s2,v,aG,aR,e,F (.aW _) G _ H (.refl v) rfl q⟩
 ·obtain⟨l,vs,rfl,s1,aG⟩:=aI;obtain⟨m,us,rfl,s2,aR⟩:=aN;obtain⟨bs,e,q⟩:=r;exact .inr ⟨_,_,vs,us,G,_,_,bs,rfl,rfl,s1,s2,v,aG,aR,e,F (.aW _) G _ H (.refl v) rfl q⟩
 ·exact r.elim
theorem DB(bg:X.A.units+200<bO):fl X (dE .Eq) (u4 id):=DA (MZ bg) (M1 bg)
theorem DC(bg:X.A.units+200<bO):fl X (dE .NotEq) (u4 (!·)):=DA (M0 bg) (M3 bg)
noncomputable def M4(K:a4):dQ:=λ x y H Q=>∃(a b:Addr)(cM cK:List (Key×D))(ga gW:List (Key×V)),x=.ref a/\y=.ref b/\eS H a (.bf ga)/\eS H b (.bf gW)/\cL K H cM ga/\cL K H cK gW/\hc cM/\hc cK/\Q (.aW (!(jR cM cK))) H
theorem M5(bg:X.A.units+200<bO):c4 X (dE .NotEq) (M4 X.K):=by
 intro pins s σ H x y v u Q I a6 bA h;obtain⟨a,b,cM,cK,ga,gW,rfl,rfl,e1,aP,aG,aR,ec,gu,q⟩:=h;cases a6;cases bA;obtain⟨eK,ae,kI,ly,rX⟩:=jy I.bj e1;obtain⟨cU,ag,kH,lz,ez⟩:=jy I.bj aP
 have dY:kI.length=cM.length:=by have:=congrArg hX aG.1;have:=ly.length;simp at *;omega
 have dS:kH.length=cK.length:=by have:=congrArg hX aR.1;have:=lz.length;simp at *;omega
 refine keq_ne ae ag rX ez (by omega) (λ _=>u2 I (A:=X.A.in1) (by show X.A.units+1+160<bO;omega) aR lz gu aG ly ec) ?_;exact⟨.aW _,H,I,by rw[dY,dS];rfl,q⟩
noncomputable def DD:hs:=λ x y G Q=>match x,y with
 |.ref a,.ref b=>kJ G a λ cM=>kJ G b λ cK=>hc cM/\hc cK/\Q (.aW (!(jR cM cK))) G
 |_,_=>False
theorem M6(bg:X.A.units+200<bO):fl X (dE .NotEq) DD:=by
 refine⟨_,⟨M5 bg⟩,λ x y dX fQ G H aE Q v aI aN r F=>?_⟩;unfold DD at r;split at r
 ·cases aI;cases aN;obtain⟨cM,ga,r,e1,aG⟩:=pF v r;obtain⟨cK,gW,⟨ec,gu,q⟩,aP,aR⟩:=pF v r;exact⟨_,_,cM,cK,ga,gW,rfl,rfl,e1,aP,aG,aR,ec,gu,F (.aW _) G _ H (.refl v) rfl q⟩
 ·exact r.elim
end
end L3
namespace L2
open PySem PySem.Spec PySem.W PyProof.Rows
section
variable{X:aQ}{o e f:aY}{to:TE}{t:e3}{apos cJ:Pos}
noncomputable def M7:V->List V->am->b7->Prop:=λ x vs H Q=>∃ l xs i y,x=.ref l/\vs=[.int ((i:Nat):Int),y]/\H l=some (.lst xs)/\i<=xs.length/\xs.length<sizeLine/\Q .bo (upd H l (.lst (xs.take i++y::xs.drop i)))
theorem Vals.r0:∀{xs:List V}{us:List Value}(i:Nat),Vals xs us->Vals (xs.take i) (us.take i)
 |_,_,0,_=>.nil
 |_,_,_+1,.nil=>.nil
 |_,_,i+1,.cons a r=>.cons a (Vals.r0 i r)
theorem Vals.r1:∀{xs:List V}{us:List Value}(i:Nat),Vals xs us->Vals (xs.drop i) (us.drop i)
 |_,_,0,r=>r
 |_,_,_+1,.nil=>.nil
 |_,_,i+1,.cons _ r=>Vals.r1 i r
theorem M8{prog:bX}{w:bJ}{A:cg}{E:Value->aw->Prop}{s:aw}{Q:Value->aw->Prop}{l:Addr}{ao:Array Value}{n:Nat}{x:Int}{t:Tok}{y:Value}(e:s.heap.get? l=some {cls:=.type "list",data:=.seq ao n})
 (a8:¬(!Builtin.List.listFitsIndex x)=true) (ar:ao.size<=sizeLine) (h:Q .none {s with heap:=s.heap.update l (Obj.mapSeq λ xs=>(xs.extract 0 (if x<0 then (x+(xs.size:Int)).toNat else min x.toNat xs.size)).push y++xs.extract (if x<0 then (x+(xs.size:Int)).toNat else min x.toNat xs.size)),toks:=s.toks}) :
 aT (a5 prog w) A (call (.builtin "list.insert") [.ref l,.int x t,y]) Q E s:=
 oo F.slot_list_insert ⟨_,e,rfl⟩ F.entry_list_insert (F.args_list_insert_3 _ _ _) (PySem.AutoSeq1.list_insert_list_int_val_1 l ao n x t y a8 ar) ⟨e,h⟩
theorem M9:qG X "list.insert" M7:=by
 intro pins s σ H x vs v us Q I a6 aM h;obtain⟨l,xs,i,y,rfl,rfl,gk,au,hz,q⟩:=h;cases a6;obtain⟨cW,u,rfl,aG,cD⟩:=aM.two;obtain⟨cV,rfl⟩:=aG;obtain⟨z,ao,n,r,aB,e⟩:=I.mc gk;have hf:Builtin.List.listFitsIndex (i:Int)=true:=PySem.fitsIndex_of (by omega) (by have:=d_;omega)
 have a8:¬(!Builtin.List.listFitsIndex (i:Int))=true:=by rw[hf];exact i0
 have ar:ao.toArray.size<=sizeLine:=by rw[bN];omega
 refine M8 e a8 ar ?_;refine⟨.bo,_,I.qH (its':=ao.take i++u::ao.drop i) gk e ?_ ((r.r0 i).append (.cons cD (r.r1 i))) ?_,rfl,q⟩
 ·have:min (Int.toNat (i:Int)) ao.toArray.size=i:=by rw[bN,qk];omega
  show (ao.toArray.extract 0 (if (i:Int)<0 then ((i:Int)+(ao.toArray.size:Int)).toNat else min (Int.toNat (i:Int)) ao.toArray.size)).push u++ao.toArray.extract (if (i:Int)<0 then ((i:Int)+(ao.toArray.size:Int)).toNat else min (Int.toNat (i:Int)) ao.toArray.size)=_;rw[if_neg (by omega),this];exact kl_ins_eq _ _ _
 ·rw[dN,eG,mU,List.length_drop];omega
theorem M_{name:Str}{T id:String}{r:V->List V->am->b7->Prop}(fj:lF T)(slot:jm T name id)(hI:lL (.builtin id)=pure (.type "method_descriptor"))(hm:k5 X id r)(aJ:cE X o to)(az:iH X [e,f] t)
 (gA:jk o name X.env (eval o X.env)=eval o X.env:=by rfl) (gB:(apos.endLine==cJ.line)=true:=by rfl) (ar:eY e=true:=by rfl) (hl:eY f=true:=by rfl):cE X (.Call (.Attribute o name apos) [e,f] [] cJ) (v9 X.K T r to t):=
 ⟨Ar fj slot hI hm.run aJ.run az.run gA (by rw[gQ ar,gQ hl];rfl) gB (gQ ar) (by rw[gQ hl];rfl)⟩
end
end L2
namespace L3
open PySem PySem.Spec L2 PyProof.Rows
section
variable{X:aQ}{o e f:aY}{to:bV}{t:fW}{apos cJ:Pos}
theorem Na{name:Str}{T id:String}{ty:D->aC->Prop}{r:D->List D->aC->bS->Prop}(fj:lF T)(slot:jm T name id)(hI:lL (.builtin id)=pure (.type "method_descriptor"))(hm:nO X T id ty r)(aJ:bD X o to)(az:hM X [e,f] t)
 (gA:jk o name X.env (eval o X.env)=eval o X.env:=by rfl) (gB:(apos.endLine==cJ.line)=true:=by rfl) (ar:eY e=true:=by rfl) (hl:eY f=true:=by rfl):bD X (.Call (.Attribute o name apos) [e,f] [] cJ) (BH ty r to t):=by
 obtain⟨co,eA,bH⟩:=aJ.run;obtain⟨ca,cm,cn⟩:=az.run;obtain⟨BI,rj,a9,rk⟩:=hm.run;refine⟨_,M_ fj slot hI rj eA cm gA gB ar hl,λ ρ G aE σ H Q B q F=>bH ρ G _ σ H _ B q λ x G1 v H1 g1 aI ⟨ae,aD⟩=>⟨a9 x v G1 H1 g1.bv aI ae,?_⟩⟩;exact cn ρ G1 _ σ H1 _ (B.go g1) aD λ xs aL vs aO g2 al _ bw=>rk x xs v vs aL aO aE Q g2.bv (aI.mono g2.tup) al bw (F.after (g1.trans g2))
theorem br.r0{K:a4}{H:am}:∀{ds:List D}{vs:List V}(i:Nat),br K H ds vs->br K H (ds.take i) (vs.take i)
 |[],_,i,h=>by cases h;simp;rfl
 |_::_,_,0,_=>rfl
 | _::_,_,i+1,h=>by
  obtain⟨u,us,rfl,jd,z⟩:=h;exact⟨u,us.take i,rfl,jd,br.r0 i z⟩
theorem br.r1{K:a4}{H:am}:∀{ds:List D}{vs:List V}(i:Nat),br K H ds vs->br K H (ds.drop i) (vs.drop i)
 |[],_,i,h=>by cases h;simp;rfl
 |_::_,_,0,h=>h
 | _::_,_,i+1,h=>by
  obtain⟨u,us,rfl,jd,z⟩:=h;exact br.r1 i z
noncomputable def DE:D->List D->aC->bS->Prop:=λ x xs G Q=>match x,xs with
 |.ref l,[.int j,y]=>iJ G l λ ds=>∃ i:Nat,j=i/\i<=ds.length/\ds.length<sizeLine/\Q .bo (up G l (.lst (ds.take i++y::ds.drop i)))
 |_,_=>False
theorem Nb:nO X "list" "list.insert" rl DE:=by
 refine⟨_,⟨M9⟩,λ x v G H w aI h=>ur w aI h,λ x xs dX vs G H aE Q v aI al r F=>?_⟩;unfold DE at r;split at r
 ·next l j y=>
  cases aI;obtain⟨cW,us,rfl,a1,u,us,rfl,jd,z⟩:=al;cases z;cases a1;obtain⟨ds,ws,⟨i,rfl,au,hz,k⟩,e1,ae,aG⟩:=k9 v r;exact⟨l,ws,i,u,rfl,rfl,ae,by rw[aG.len];exact au,by rw[aG.len];exact hz,F .bo _ _ _ (Go.o5 v e1 ((aG.r0 i).append (show br X.K H (y::ds.drop i) _ from⟨u,_,rfl,jd,aG.r1 i⟩))) rfl k⟩
 ·exact r.elim
end
end L3
namespace L3
open PySem L2
structure fK(a3:List (Nat×D))(ax:List (Int×D)):Prop where
 er:(ax.map (·.1)).Nodup
 gG:∀ q∈ax,∃(n:Nat)(bB:List D),q=((n:Int),.tup bB)/\bB.Perm (eo n a3)/\eC bB
 al:∀ n:Nat,eo n a3≠[] ↔ (n:Int)∈ax.map (·.1)
theorem pI{n:Nat}{a3:List (Nat×D)}{d:D}(h:d∈eo n a3):(n,d)∈a3:=by
 unfold eo at h;obtain⟨z,hz,rfl⟩:=ea.mp h;obtain⟨ae,ag⟩:=p8.mp hz
 have:z.1=n:=by simpa using ag
 subst this;exact ae
theorem fK.mem{a3:List (Nat×D)}{ax rs:List (Int×D)}(aq:∀ z∈a3,bE z.2)(h:fK a3 ax)(g:fK a3 rs):∀ q∈ax,q∈rs:=λ q aU=>by
 obtain⟨n,bB,e,ai,ar⟩:=h.gG q aU;subst e;have ae:(n:Int)∈ax.map (·.1):=ea.mpr ⟨_,aU,rfl⟩;obtain⟨r,aH,uJ⟩:=ea.mp ((g.al n).mp ((h.al n).mpr ae));obtain⟨m,Nc,aP,h9,hl⟩:=g.gG r aH;subst aP
 have em:m=n:=by have:(m:Int)=n:=uJ;omega
 subst em;have:bB=Nc:=xo (λ d hd=>aq _ (pI (ai.mem_iff.mp hd))) (ai.trans h9.symm) ar hl;subst this;exact aH
theorem x4{α β:Type}{f:α->β}{l:List α}(h:(l.map f).Nodup):l.Nodup:=(List.pairwise_map.mp h).imp λ h c=>h (by rw[c])
theorem fK.pm{a3:List (Nat×D)}{ax rs:List (Int×D)}(aq:∀ z∈a3,bE z.2)(h:fK a3 ax)(g:fK a3 rs):ax.Perm rs:=
 (List.perm_ext_iff_of_nodup (x4 h.er) (x4 g.er)).mpr λ q=>⟨h.mem aq g q,g.mem aq h q⟩
noncomputable abbrev bY(q:Int×D):Key×D:=(Sum.inl q.1,q.2)
theorem r2{ax:List (Int×D)}(er:(ax.map (·.1)).Nodup):∀ q∈ax,cT (ax.map bY) (.inl q.1)=some q.2:=λ q aU=>by
 induction ax with
 |nil=>cases aU
 | cons r rs b0=>
  rw[eF,oz]at er;unfold cT;rw[eF,j0];rcases fq.mp aU with rfl|aU
  ·simp
  ·have ne:¬ r.1=q.1:=λ c=>er.1 (by rw[c];exact mY aU);have:=b0 er.2 aU;unfold cT at this;simpa[ne] using this
theorem DF:∀{ds:List D},(∀ d∈ds,d.data=true)->cw ds=true
 |[],_=>rfl
 |d::ds,h=>by rw[cw,h d (dk ..),DF λ x ak=>h x (dM _ ak)];rfl
theorem Nd{a3:List (Nat×D)}{ax rs:List (Int×D)}(aq:∀ z∈a3,bE z.2)(h:fK a3 ax)(g:fK a3 rs):jR (ax.map bY) (rs.map bY)=true:=by
 have ai:=h.pm aq g
 have data:∀ q∈ax,q.2.data=true:=λ q aU=>by
  obtain⟨n,bB,e,ai,ar⟩:=h.gG q aU;subst e;have:∀ d∈bB,d.data=true:=λ d hd=>(aq _ (pI (ai.mem_iff.mp hd))).data;show (D.tup bB).data=true;rw[D.data];exact DF this
 unfold jR;rw[dm,dm,ai.length_eq,beq_self_eq_true,Bool.true_and]
 have key:∀ l:List (Int×D),(∀ q∈l,q∈rs/\q.2.data=true)->kG (rs.map bY) (l.map bY)=true:=λ l aB=>by
  induction l with
  |nil=>rfl
  | cons q r b0=>
   obtain⟨ae,ag⟩:=aB q (by simp);rw[eF,kG,r2 g.er q ae];show (bL q.2 q.2&&_)=true;rw[ky ag,b0 λ x ak=>aB x (dM _ ak)];rfl
 exact key ax λ q aU=>⟨h.mem aq g q aU,data q aU⟩
inductive x5(ds:List D)(G:aC)(Q:bS):Prop
 |mk (l:Addr) (kvs:List (Key×D)) (a3:List (Nat×D)) (bH:Addr->Option iq):ds=[.ref l]->G l=some (.bf kvs)->lw G bH a3 kvs->a3.length<64->(∀ z∈a3,bE z.2/\eP z.2<=49000)->(∀ p ax aj,Sub G aj->G p=none->aj p=some (.bf (ax.map bY))->fK a3 ax->Q (.ref p) aj)->x5 ds G Q
noncomputable def hT(ax:List (Int×D))(n:Int)(v:D):List (Int×D):=if (ax.any λ q=>decide (q.1=n))=true then ax.map (λ q=>if q.1=n then (q.1,v) else q) else ax++[(n,v)]
theorem x6(ax:List (Int×D))(n:Int)(v:D):f8 (ax.map bY) (.inl n) v=(hT ax n v).map bY:=by
 unfold f8 hT
 have e:((ax.map bY).any λ a7=>decide (a7.1=Sum.inl n))=ax.any λ q=>decide (q.1=n):=by rw[List.any_map];congr 1;funext q;simp[bY]
 rw[e];split
 ·rw[kR,kR];refine List.map_congr_left λ q _=>?_;simp only[Function.comp,bY];by_cases c:q.1=n
  ·simp[c]
  ·simp[c]
 ·simp[bY]
theorem u5{ax:List (Int×D)}{n:Int}{v:D}{q:Int×D}(h:q∈hT ax n v):q=(n,v)\/q∈ax/\q.1≠n:=by
 unfold hT at h;split at h
 ·obtain⟨z,hz,e⟩:=ea.mp h;by_cases c:z.1=n
  ·rw[if_pos c,c]at e;exact .inl e.symm
  ·rw[if_neg c]at e;subst e;exact .inr ⟨hz,c⟩
 ·next c=>
  rcases fL.mp h with h|h
  ·exact .inr ⟨h,λ e=>c (mW.mpr ⟨q,h,by simpa using e⟩)⟩
  ·exact .inl (oD.mp h)
theorem DG{ax:List (Int×D)}{n m:Int}{v:D}:m∈(hT ax n v).map (·.1) ↔ m=n\/m∈ax.map (·.1):=by
 unfold hT;split
 ·next c=>
  rw[kR]
  have e:((·.1) ∘ λ q:Int×D=>if q.1=n then (q.1,v) else q)=(·.1):=by funext q;simp only[Function.comp];split<;>rfl
  rw[e];refine⟨.inr,λ h=>?_⟩;rcases h with rfl|h
  ·obtain⟨q,aU,e⟩:=mW.mp c;exact ea.mpr ⟨q,aU,by simpa using e⟩
  ·exact h
 ·rw[jn,fL];simp[or_comm]
theorem x7{ax:List (Int×D)}{n:Int}{v:D}(h:(ax.map (·.1)).Nodup):((hT ax n v).map (·.1)).Nodup:=by
 unfold hT;split
 ·rw[kR]
  have e:((·.1) ∘ λ q:Int×D=>if q.1=n then (q.1,v) else q)=(·.1):=by funext q;simp only[Function.comp];split<;>rfl
  rw[e];exact h
 ·next c=>
  rw[jn,sW];refine⟨h,by simp,λ a az b af=>?_⟩;rintro rfl;obtain⟨z,hz,rfl⟩:=ea.mp az
  have cf:z.1=n:=by simpa using af
  exact c (mW.mpr ⟨z,hz,by simpa using cf⟩)
theorem Nf{kvs:List (Key×D)}{a7:Key×D}(h:a7∈kvs):∃ d,cT kvs a7.1=some d:=by
 unfold cT
 cases e:kvs.find? λ z=>decide (z.1=a7.1) with
 |none=>rw[List.find?_eq_none]at e;exact absurd (decide_eq_true rfl) (e a7 h)
 |some z=>exact⟨z.2,rfl⟩
theorem DH{kvs:List (Key×D)}{k:Key}{d:D}(h:cT kvs k=some d):∃ a7∈kvs,a7.1=k:=by
 unfold cT at h;obtain⟨a7,ae,ag⟩:=hY.mp h;exact⟨a7,List.mem_of_find?_eq_some ae,by simpa using List.find?_some ae⟩
theorem x8(ax:List (Int×D))(n:Int)(v:D):(hT ax n v).length<=ax.length+1:=by
 unfold hT;split<;>simp
theorem Ng{G:aC}{bH:Addr->Option iq}{a3:List (Nat×D)}{kvs:List (Key×D)}(O:lw G bH a3 kvs):∃ ns:List Int,kvs.map (·.1)=ns.map Sum.inl/\ns.Nodup/\∀ m∈ns,∃ n:Nat,m=n/\eo n a3≠[]:=by
 have key:∀ l:List (Key×D),(∀ a7∈l,∃ n:Nat,a7.1=.inl (n:Int)/\eo n a3≠[])->∃ ns:List Int,l.map (·.1)=ns.map Sum.inl/\∀ m∈ns,∃ n:Nat,m=n/\eo n a3≠[]:=λ l aB=>by
  induction l with
  |nil=>exact⟨[],rfl,by simp⟩
  | cons a7 r b0=>
   obtain⟨ns,ae,ag⟩:=b0 λ x ak=>aB x (dM _ ak);obtain⟨n,e,ne⟩:=aB a7 (dk ..);refine⟨(n:Int)::ns,by rw[eF,eF,ae,e],λ m hm=>?_⟩;rcases fq.mp hm with rfl|hm
   ·exact⟨n,rfl,ne⟩
   ·exact ag m hm
 obtain⟨ns,ae,ag⟩:=key kvs O.gG;exact⟨ns,ae,x4 (f:=(Sum.inl:Int->Key)) (by rw[<- ae];exact O.er),ag⟩
theorem Nh{a3:List (Nat×D)}{ax:List (Int×D)}(h:fK a3 ax):∀ q∈ax,∃ bB:List D,q.2=.tup bB/\∀ d∈bB,∃ n:Nat,(n,d)∈a3:=λ q aU=>by
 obtain⟨n,bB,e,ai,_⟩:=h.gG q aU;subst e;exact⟨bB,rfl,λ d hd=>⟨n,pI (ai.mem_iff.mp hd)⟩⟩
theorem x9{a3:List (Nat×D)}{ax:List (Int×D)}(h:fK a3 ax):ax.length<=a3.length:=by
 have key:∀(l:List Int)(ms:List (Nat×D)),l.Nodup->(∀ m∈l,∃ n:Nat,m=n/\eo n ms≠[])->l.length<=ms.length:=λ l ms er hm=>by
  have e:l ⊆ ms.map λ z=>(z.1:Int):=λ m ae=>by
   obtain⟨n,rfl,ne⟩:=hm m ae;obtain⟨d,hd⟩:=List.exists_mem_of_ne_nil _ ne;exact ea.mpr ⟨(n,d),pI hd,rfl⟩
  have:=B0 er e
  rwa[dm]at this
 have:=key (ax.map (·.1)) a3 h.er λ m hm=>by
  obtain⟨q,aU,rfl⟩:=ea.mp hm;obtain⟨n,bB,e,_,_⟩:=h.gG q aU;subst e;exact⟨n,rfl,(h.al n).mpr hm⟩
 rwa[dm]at this
noncomputable def u6(es:List D):Prop:=es.length<64/\∀ d∈es,bE d/\eP d<=49000
inductive lB(ds:List D)(G:aC)(Q:bS):Prop
 |lst (l:Addr) (es:List D):ds=[.ref l]->G l=some (.lst es)->u6 es->(∀ cB,es.Perm cB->eC cB->Q (.tup cB) G)->lB ds G Q
 |tup (es:List D):ds=[.tup es]->u6 es->(∀ cB,es.Perm cB->eC cB->Q (.tup cB) G)->lB ds G Q
inductive x_(ds:List D)(G:aC)(Q:bS):Prop
 |mk (a b:List D):ds=[.tup a,.tup b]->u6 (a++b)->(∀ cB,(a++b).Perm cB->eC cB->Q (.tup cB) G)->x_ ds G Q
noncomputable def db(G aj:aC):Prop:=∀ a o,G a=some o->aj a=some o\/∃ kvs b5 gs,o=.bf kvs/\aj a=some (.gC b5 gs kvs)
theorem db.of{G aj:aC}(h:Sub G aj):db G aj:=λ a o e=>.inl (h a o e)
theorem db.refl(G:aC):db G G:=λ _ _ e=>.inl e
theorem db.trans{G G1 aL:aC}(h:db G G1)(g:db G1 aL):db G aL:=λ a o e=>by
 rcases h a o e with h|⟨kvs,b5,gs,rfl,h⟩
 ·exact g a o h
 ·rcases g a _ h with g|⟨_,_,_,e,_⟩
  ·exact .inr ⟨kvs,b5,gs,rfl,g⟩
  ·cases e
theorem db.dq{G aj:aC}{a:Addr}{kvs:List (Key×D)}(h:db G aj)(r:gv G a kvs):gv aj a kvs:=by
 rcases r with r|⟨o,gs,r⟩
 ·rcases h a _ r with h|⟨_,b5,gs,e,h⟩
  ·exact .inl h
  ·cases e;exact .inr ⟨b5,gs,h⟩
 ·rcases h a _ r with h|⟨_,b5,gs,e,h⟩
  ·exact .inr ⟨o,gs,h⟩
  ·cases e
theorem db.new{G G1:aC}{p:Addr}{o:fw}(h:db G G1)(n:G p=none):db G (up G1 p o):=λ b u e=>by
 have c:b≠p:=by rintro rfl;rw[n]at e;cases e
 rw[cv c];exact h b u e
theorem u7{G:aC}{a:Addr}{k:Obj->List (Key×V)->List (Key×D)->aC->Prop}{kvs:List (Key×D)}(h:gv G a kvs)(q:∀ o gs aL,aL a=some (.gC o gs kvs)->db G aL->(∀ b,b≠a->aL b=G b)->k o gs kvs aL):mM G a k:=by
 rcases h with h|⟨o,gs,h⟩
 ·refine MF h λ o gs=>q o gs _ bI (λ b u e=>?_) λ b af=>cv af;by_cases c:b=a
  ·subst c;rw[h]at e;cases e;exact .inr ⟨kvs,o,gs,rfl,bI⟩
  ·rw[cv c];exact .inl e
 ·exact MG h (q o gs G h (.refl G) λ _ _=>rfl)
noncomputable def fb(ax:List (Int×D)):List (Int×D):=(ax.filter λ q=>decide (q.1≠0)).map λ q=>(q.1 - 1,q.2)
theorem u9(ax rs:List (Int×D)):fb (ax++rs)=fb ax++fb rs:=by unfold fb;rw[List.filter_append,jn]
theorem DI{ax:List (Int×D)}{n:Int}{v:D}(h:n ∉ ax.map (·.1)):f8 (ax.map bY) (.inl n) v=(ax++[(n,v)]).map bY:=by
 unfold f8;rw[if_neg,jn];rfl;intro c;obtain⟨a7,hm,e⟩:=mW.mp c;obtain⟨q,aU,rfl⟩:=ea.mp hm;have bz:(Sum.inl q.1:Key)=.inl n:=of_decide_eq_true e;cases bz;exact h (mY aU)
theorem DJ{ax:List (Int×D)}{m:Int}(h:m∈(fb ax).map (·.1)):m+1∈ax.map (·.1):=by
 unfold fb at h;rw[kR]at h;obtain⟨q,aU,e⟩:=ea.mp h;have bz:q.1 - 1=m:=e;exact ea.mpr ⟨q,(p8.mp aU).1,by omega⟩
theorem ya(ax:List (Int×D)):(fb ax).length<=ax.length:=by unfold fb;rw[dm];exact List.length_filter_le ..
inductive u_(ds:List D)(G:aC)(Q:bS):Prop
 |mk (a:Addr) (ax:List (Int×D)):ds=[.ref a]->gv G a (ax.map bY)->(ax.map (·.1)).Nodup->ax.length<=1000->(∀ p aj,db G aj->(∀ b o,b≠a->G b=some o->aj b=some o)->G p=none->aj p=some (.bf ((fb ax).map bY))->Q (.tup [(cT (ax.map bY) (.inl 0)).getD (.tup []),.ref p]) aj)->u_ ds G Q
theorem Ni(ds:List D)(G:aC)(Q:bS):xN ds G Q->lB ds G Q:=λ⟨l,es,ae,ag,bc,cj,q⟩=>.lst l es ae ag ⟨bc,cj⟩ q
theorem mN(m n:Nat)(ks:List D):eo m (ks.map λ k=>(n,k))=if m=n then ks else []:=by
 unfold eo;by_cases c:m=n
 ·subst c;rw[if_pos rfl,List.filter_eq_self.mpr (by intro x ak;obtain⟨k,_,rfl⟩:=ea.mp ak;simp),kR];exact List.map_id _
 ·rw[if_neg c,List.filter_eq_nil_iff.mpr (by intro x ak;obtain⟨k,_,rfl⟩:=ea.mp ak;simp[Ne.symm c])];rfl
structure gH(bZ G:aC)(d:Addr)(bH:Addr->Option iq)(a3:List (Nat×D)):Prop where
 sub:db bZ G
 jS:∃ kvs,G d=some (.bf kvs)/\lw G bH a3 kvs
 hx:bH d=some .C9
 ol:∀ b x,bH b=some x->bZ b=none/\G b≠none
section
variable{bZ G aL:aC}{d:Addr}{bH:Addr->Option iq}{a3:List (Nat×D)}
theorem db.no{p:Addr}(h:db bZ G)(n:G p=none):bZ p=none:=by
 cases e:bZ p with
 |none=>rfl
 |some o=>rcases h p o e with h|⟨_,_,_,_,h⟩<;>(rw[n]at h;cases h)
theorem gH.start(n:bZ d=none):gH bZ (up bZ d (.bf [])) d (n7 (λ _=>none) d .C9) [] where
 sub:=(db.refl _).new n
 jS:=⟨[],bI,⟨λ n d h=>(by cases h),λ _ _=>rfl,b6 _,λ _ h=>(by cases h),qe⟩⟩
 hx:=C_
 ol:=λ b x e=>by
  by_cases c:b=d
  ·subst c;exact⟨n,by rw[bI];exact nofun⟩
  ·rw[xM c]at e;cases e
theorem gH.walk(h:gH bZ G d bH a3){a:Addr}(az:bZ a≠none)(s:db G aL)(same:∀ b,b≠a->aL b=G b):gH bZ aL d bH a3:=by
 have k:∀ b x,bH b=some x->aL b=G b:=λ b x e=>same b (by rintro rfl;exact az (h.ol _ _ e).1);obtain⟨kvs,e,O⟩:=h.jS;exact⟨h.sub.trans s,⟨kvs,by rw[k d _ h.hx];exact e,O.keep λ b n e=>k b _ e⟩,h.hx,λ b x e=>⟨(h.ol b x e).1,by rw[k b x e];exact(h.ol b x e).2⟩⟩
theorem gH.any(h:gH bZ G d bH a3){p:Addr}{o:fw}(ai:G p=none):gH bZ (up G p o) d bH a3:=by
 have k:∀ b x,bH b=some x->up G p o b=G b:=λ b x e=>cv (by rintro rfl;exact(h.ol _ _ e).2 ai);obtain⟨kvs,e,O⟩:=h.jS;exact⟨h.sub.new (h.sub.no ai),⟨kvs,by rw[k d _ h.hx];exact e,O.keep λ b n e=>k b _ e⟩,h.hx,λ b x e=>⟨(h.ol b x e).1,by rw[k b x e];exact(h.ol b x e).2⟩⟩
theorem gH.hit(h:gH bZ G d bH a3){n:Nat}{c:Addr}{kvs:List (Key×D)}(e:G d=some (.bf kvs))(O:lw G bH a3 kvs)(bh:cT kvs (.inl (n:Int))=some (.ref c))(aH:bH c=some (.rS n))(ks:List D):gH bZ (up G c (.lst (eo n a3++ks))) d bH (a3++ks.map λ k=>(n,k)):=by
 have k:∀ b x,bH b=some x->x≠.rS n->up G c (.lst (eo n a3++ks)) b=G b:=λ b x e ne=>cv (by rintro rfl;rw[aH]at e;cases e;exact ne rfl);refine⟨h.sub.new (h.ol _ _ aH).1,⟨kvs,by rw[k d _ h.hx nofun];exact e,λ m x ak=>?_,λ m hm=>?_,by have:=O.len;rw[dN];omega,λ a7 hm=>by obtain⟨m,e,ne⟩:=O.gG a7 hm;exact⟨m,e,Db ne⟩,O.er⟩,h.hx,λ b x e=>⟨(h.ol b x e).1,?_⟩⟩
 ·obtain⟨z,ae,ag,bc⟩:=O.hit m x ak;refine⟨z,ae,ag,?_⟩;rw[lu,mN];by_cases q:m=n
  ·subst q;rw[bh]at ak;cases ak;cases ae;rw[if_pos rfl];exact bI
  ·rw[if_neg q,hj,k z _ ag (by rintro c;cases c;exact q rfl)];exact bc
 ·rw[lu,mN,if_neg (by rintro rfl;rw[bh]at hm;cases hm),hj];exact O.n6 m hm
 ·by_cases q:b=c
  ·subst q;rw[bI];exact nofun
  ·rw[cv q];exact(h.ol b x e).2
theorem gH.n6(h:gH bZ G d bH a3){n:Nat}{p:Addr}{kvs:List (Key×D)}(ai:G p=none)(e:G d=some (.bf kvs))(O:lw G bH a3 kvs)(bh:cT kvs (.inl (n:Int))=none){ks:List D}(aq:ks≠[]) :
 gH bZ (up (up (up G p (.lst [])) d (.bf (f8 kvs (.inl (n:Int)) (.ref p)))) p (.lst ([]++ks))) d (n7 bH p (.rS n)) (a3++ks.map λ k=>(n,k)):=by
 have np:d≠p:=by rintro rfl;rw[e]at ai;cases ai
 have yb:bH p=none:=by cases q:bH p with|none=>rfl|some x=>exact absurd ai (h.ol p x q).2
 have jf:=(h.ol _ _ h.hx).1
 have k:∀ b x,bH b=some x->b≠d->up (up (up G p (.lst [])) d (.bf (f8 kvs (.inl (n:Int)) (.ref p)))) p (.lst ([]++ks)) b=G b:=λ b x e nb=>by
  have c:b≠p:=by rintro rfl;rw[yb]at e;cases e
  rw[cv c,cv nb,cv c]
 have aS:eo n a3=[]:=O.n6 n bh;refine⟨((h.sub.new (h.sub.no ai)).new jf).new (h.sub.no ai),⟨_,by rw[cv np];exact bI,λ m x ak=>?_,λ m hm=>?_,?_,λ a7 hm=>?_,Ma O.er⟩,Da yb h.hx,λ b x e=>?_⟩
 ·rw[BW]at ak;rw[lu,mN];by_cases q:m=n
  ·subst q;rw[if_pos rfl]at ak;cases ak;exact⟨p,rfl,C_,by rw[if_pos rfl,aS];exact bI⟩
  ·rw[if_neg (by intro z;injection z with z;exact q (by omega))]at ak;obtain⟨z,ae,ag,bc⟩:=O.hit m x ak;refine⟨z,ae,Da yb ag,?_⟩;rw[if_neg q,hj,k z _ ag (by rintro rfl;rw[h.hx]at ag;cases ag)];exact bc
 ·rw[BW]at hm;by_cases q:m=n
  ·subst q;rw[if_pos rfl]at hm;cases hm
  ·rw[if_neg (by intro z;injection z with z;exact q (by omega))]at hm;rw[lu,mN,if_neg q,hj];exact O.n6 m hm
 ·have ae:=BX kvs (.inl (n:Int)) (.ref p);have ag:=O.len;have bc:0<ks.length:=List.length_pos_iff.mpr aq;rw[dN,dm];omega
 ·have key:a7.1=.inl (n:Int)\/∃ z∈kvs,z.1=a7.1:=by
   unfold f8 at hm;split at hm
   ·obtain⟨z,hz,rfl⟩:=ea.mp hm;refine .inr ⟨z,hz,?_⟩;split<;>rfl
   ·rcases fL.mp hm with hm|hm
    ·exact .inr ⟨a7,hm,rfl⟩
    ·rw[oD.mp hm];exact .inl rfl
  rcases key with key|⟨z,hz,jJ⟩
  ·refine⟨n,key,?_⟩;rw[lu,mN,if_pos rfl];intro c;exact aq (List.append_eq_nil_iff.mp c).2
  ·obtain⟨m,e,ne⟩:=O.gG z hz;exact⟨m,by rw[<- jJ,e],Db ne⟩
 ·by_cases q:b=p
  ·subst q;exact⟨h.sub.no ai,by rw[bI];exact nofun⟩
  ·rw[xM q]at e;refine⟨(h.ol b x e).1,?_⟩;by_cases bw:b=d
   ·subst bw;rw[cv q,bI];exact nofun
   ·rw[k b x e bw];exact(h.ol b x e).2
end
noncomputable def r3(q:Int×D):List (Nat×D):=match q.2 with
 |.tup bB=>bB.map λ k=>(q.1.toNat,k)
 |_=>[]
noncomputable def dK(ax:List (Int×D)):List (Nat×D):=ax.flatMap r3
noncomputable def cF(bs:List (Addr×List (Int×D))):List (Nat×D):=bs.flatMap λ b=>dK b.2
noncomputable def yc(ax:List (Int×D)):Prop:=(ax.map (·.1)).Nodup/\∀ q∈ax,∃(n:Nat)(bB:List D),q=((n:Int),.tup bB)/\bB≠[]
inductive va(ds:List D)(G:aC)(Q:bS):Prop
 |mk (l:Addr) (bs:List (Addr×List (Int×D))):ds=[.ref l]->G l=some (.lst (bs.map λ b=>.ref b.1))->(∀ b∈bs,gv G b.1 (b.2.map bY)/\yc b.2)->(cF bs).length<64->(∀ z∈cF bs,bE z.2/\eP z.2<=49000)->(∀ p rs aj,db G aj->G p=none->aj p=some (.bf (rs.map bY))->fK (cF bs) rs->Q (.ref p) aj)->va ds G Q
theorem db.lst{G aj:aC}{l:Addr}{es:List D}(h:db G aj)(e:G l=some (.lst es)):aj l=some (.lst es):=by
 rcases h l _ e with h|⟨_,_,_,c,_⟩
 ·exact h
 ·cases c
structure c5(d:D):Prop where
 hv:gE d
 gO:eP d<=1000
 bU:d.bU<=7
inductive vb(ds:List D)(G:aC)(Q:bS):Prop
 |mk (a:Addr) (m:Int):ds=[.ref a,.int m]->e9 G a->0<=m->m<=8->(∀(es:List D) s aj,gV a G aj->aj s=some (.lst es)->G s=none->(es.length:Int)<=m+1->(∀ d∈es,c5 d)->Q (.ref s) aj)->vb ds G Q
inductive yd(ds:List D)(G:aC)(Q:bS):Prop
 |mk (a:Addr) (ax:List (Int×D)):ds=[.ref a]->gv G a (ax.map bY)->(ax.map (·.1)).Nodup->ax.length<=1000->(∀ q∈ax,0<=q.1)->(∀ p aj,db G aj->(∀ b o,b≠a->G b=some o->aj b=some o)->G p=none->aj p=some (.bf ((fb ax).map bY))->Q (.tup [(cT (ax.map bY) (.inl 0)).getD (.tup []),.ref p]) aj)->yd ds G Q
noncomputable def leB(k x:D):Bool:=!((bt k x).getD false)
theorem DK{a b:D}(cM:bE a)(cK:bE b)(h:bt a b=some true):bt b a=some false:=by
 obtain⟨v,bh⟩:=iZ.mp (cK.lt cM)
 cases v with
 |false=>exact bh
 |true=>have:=uN cM _ _ cK cM h bh;rw[cM.ht]at this;cases this
theorem Nj{k x y:D}(aq:bE k)(ak:bE x)(a9:bE y)(h:bt k x=some true)(g:bt y x=some false):bt k y=some true:=by
 rcases ak.rC y a9 with rfl|ae|ae
 ·exact h
 ·exact uN aq _ _ ak a9 h ae
 ·rw[ae]at g;cases g
theorem DL{k:D}(aq:bE k):∀{xs:List D},(∀ d∈xs,bE d)->eC xs->eC (xs.take (xs.filter (leB k)).length++k::xs.drop (xs.filter (leB k)).length)
 |[],_,_=>List.pairwise_singleton ..
 | x::xs,ak,ar=>by
  obtain⟨ae,ag⟩:=oC.mp ar;have im:=ak x (.head _);obtain⟨v,bh⟩:=iZ.mp (aq.lt im)
  cases v with
  | false=>
   have e:leB k x=true:=by unfold leB;rw[bh];rfl
   rw[sX e,eG,List.take_succ_cons,List.drop_succ_cons];refine oC.mpr ⟨λ y a9=>?_,DL aq (λ d hd=>ak d (.tail _ hd)) ag⟩;rcases fL.mp a9 with a9|a9
   ·exact ae y (List.mem_of_mem_take a9)
   ·rcases fq.mp a9 with rfl|a9
    ·exact bh
    ·exact ae y (List.mem_of_mem_drop a9)
  | true=>
   have e:leB k x=false:=by unfold leB;rw[bh];rfl
   have lt:∀ y∈xs,bt k y=some true:=λ y a9=>Nj aq im (ak y (.tail _ a9)) bh (ae y a9)
   have aP:xs.filter (leB k)=[]:=List.filter_eq_nil_iff.mpr λ y a9=>by unfold leB;rw[lt y a9];decide
   rw[List.filter_cons_of_neg (by rw[e];decide),aP];refine oC.mpr ⟨λ y a9=>?_,ar⟩;rcases fq.mp a9 with rfl|a9
   ·exact DK aq im bh
   ·exact DK aq (ak y (.tail _ a9)) (lt y a9)
theorem Nk{k:D}{xs:List D}(c:Nat):(xs.take c++k::xs.drop c).Perm (k::xs):=by
 have:=List.perm_middle (l₁:=xs.take c) (l₂:=xs.drop c) (a:=k)
 rwa[qf]at this
inductive r4(ds:List D)(G:aC)(Q:bS):Prop
 |mk (l:Addr) (es:List D):ds=[.ref l]->G l=some (.lst es)->es.length<=60->(∀ d∈es,bE d/\d.bU<=100)->(∀ cB aj,Sub G aj->es.Perm cB->eC cB->Q (.tup cB) aj)->r4 ds G Q
inductive ye(ds:List D)(G:aC)(Q:bS):Prop
 |mk (es:List D):ds=[.tup es,.tup es]->(D.tup es).data=true->(D.tup es).bU<=100->Q (.aW true) G->ye ds G Q
structure hU(ax:List (Int×D)):Prop where
 bk:yc ax
 len:ax.length<=4
 bB:∀ q∈ax,∃ bB:List D,q.2=.tup bB/\bB.length<=3/\eC bB/\∀ d∈bB,c5 d
theorem Nl{x y z i:Int}{G:aC}{Q:bS}(h0:0<=i)(ae:i<3)(ak:0<=x)(a9:0<=y)(hz:0<=z)(q:∀ n:Int,0<=n->Q (.int n) G):atS [.int x,.int y,.int z] i G Q:=Kt h0 ae (λ _=>q _ ak) (λ _=>q _ a9) λ _=>q _ hz
theorem hU.put{ax:List (Int×D)}{n:Int}{bB:List D}(h:hU ax)(aB:ax.length<4)(pJ:0<=n)(jh:bB≠[])(Nm:bB.length<=3)(ji:eC bB)(aq:∀ d∈bB,c5 d):hU (hT ax n (.tup bB)) where
 bk:=⟨x7 h.bk.1,λ q aU=>by
  rcases u5 aU with rfl|⟨aU,_⟩
  ·exact⟨n.toNat,bB,by rw[show ((n.toNat:Nat):Int)=n by omega],jh⟩
  ·exact h.bk.2 q aU⟩
 len:=by have:=x8 ax n (.tup bB);omega
 bB:=λ q aU=>by
  rcases u5 aU with rfl|⟨aU,_⟩
  ·exact⟨bB,rfl,Nm,ji,aq⟩
  ·exact h.bB q aU
theorem c5.r5{es:List D}(h:∀ d∈es,c5 d):cw es=true/\da es<=150:=by
 refine⟨pr λ d hd=>(h d hd).hv.jO.data,ps λ d hd=>?_⟩;have:=(h d hd).bU;omega
inductive yf(ds:List D)(G:aC)(Q:bS):Prop
 |mk (a:Addr):ds=[.ref a]->e9 G a->(∀ p ax aj,gV a G aj->G p=none->aj p=some (.bf (ax.map bY))->hU ax->Q (.ref p) aj)->yf ds G Q
theorem fK.add{a3:List (Nat×D)}{rs:List (Int×D)}{n:Nat}{bB es:List D}(h:fK a3 rs)(pm:es.Perm (eo n a3++bB))(ji:eC es)(af:bB≠[]):fK (a3++bB.map λ k=>(n,k)) (hT rs n (.tup es)) where
 er:=x7 h.er
 gG:=λ q aU=>by
  rcases u5 aU with rfl|⟨aU,ne⟩
  ·exact⟨n,es,rfl,by rw[lu,mN,if_pos rfl];exact pm,ji⟩
  ·obtain⟨m,b,rfl,p,s⟩:=h.gG q aU;have c:m≠n:=λ c=>ne (by rw[c]);exact⟨m,b,rfl,by rw[lu,mN,if_neg c,hj];exact p,s⟩
 al:=λ m=>by
  rw[DG,lu,mN];by_cases c:m=n
  ·subst c;rw[if_pos rfl];exact⟨λ _=>.inl rfl,λ _ z=>af (List.append_eq_nil_iff.mp z).2⟩
  ·rw[if_neg c,hj,h.al m];exact⟨.inr,λ z=>z.resolve_left λ e=>c (by omega)⟩
theorem fK.bB{a3:List (Nat×D)}{rs:List (Int×D)}(h:fK a3 rs)(n:Nat):∃ bB:List D,(cT (rs.map bY) (.inl (n:Int))).getD (.tup [])=.tup bB/\bB.Perm (eo n a3):=by
 by_cases c:(n:Int)∈rs.map (·.1)
 ·obtain⟨q,aU,e⟩:=ea.mp c;have v:=r2 h.er q aU;obtain⟨m,b,rfl,p,_⟩:=h.gG q aU
  have bz:m=n:=by have aP:((m:Nat):Int)=n:=e;omega
  subst bz;exact⟨b,by rw[v];rfl,p⟩
 ·have z:eo n a3=[]:=by
   by_cases y:eo n a3=[]
   ·exact y
   ·exact absurd ((h.al n).mp y) c
  refine⟨[],?_,by rw[z]⟩
  cases e:cT (rs.map bY) (.inl (n:Int)) with
  |none=>rfl
  | some d=>
   obtain⟨a7,ae,ag⟩:=DH e;obtain⟨q,aU,rfl⟩:=ea.mp ae;have:(Sum.inl q.1:Key)=.inl (n:Int):=ag;injection this with this;exact absurd (ea.mpr ⟨q,aU,this⟩) c
inductive yg(ds:List D)(G:aC)(Q:bS):Prop
 |mk (l:Addr) (bs:List (Addr×List (Int×D))):ds=[.ref l]->G l=some (.lst (bs.map λ b=>.ref b.1))->(∀ b∈bs,gv G b.1 (b.2.map bY)/\yc b.2)->(cF bs).length<=60->(∀ z∈cF bs,bE z.2/\z.2.bU<=100)->(∀ p rs aj,db G aj->G p=none->aj p=some (.bf (rs.map bY))->fK (cF bs) rs->Q (.ref p) aj)->yg ds G Q
theorem DN{rs:List (Int×D)}(er:(rs.map (·.1)).Nodup)(hd:∀ q∈rs,q.2.data=true):∀{l:List (Int×D)},(∀ q∈l,q∈rs)->kG (rs.map bY) (l.map bY)=true
 |[],_=>rfl
 | q::l,h=>by
  rw[eF];show kG _ ((Sum.inl q.1,q.2)::_)=true;rw[kG,r2 er q (h q (.head _))];show (bL q.2 q.2&&kG _ _)=true;rw[ky (hd q (h q (.head _))),DN er hd λ z hz=>h z (.tail _ hz)];rfl
theorem DO{rs:List (Int×D)}(er:(rs.map (·.1)).Nodup)(hd:∀ q∈rs,q.2.data=true):jR (rs.map bY) (rs.map bY)=true:=by
 unfold jR;rw[DN er hd λ _ h=>h,beq_self_eq_true];rfl
theorem vd(rs:List (Int×D)):pG (rs.map bY):=λ p ai=>by
 obtain⟨q,_,rfl⟩:=ea.mp ai;exact⟨q.1,rfl⟩
theorem hU.val{ax:List (Int×D)}(h:hU ax):∀ q∈ax,q.2.data=true/\q.2.bU<=8:=λ q aU=>by
 obtain⟨bB,e,_,_,aq⟩:=h.bB q aU;rw[e,D.data,D.bU];exact⟨(c5.r5 aq).1,by have:da bB<=7:=ps λ d hd=>(aq d hd).bU;omega⟩
theorem hU.dat{ax:List (Int×D)}(h:hU ax):hc (ax.map bY):=λ p ai=>by
 obtain⟨q,aU,rfl⟩:=ea.mp ai;obtain⟨ae,ag⟩:=h.val q aU;exact⟨ae,by show q.2.bU<=150;omega⟩
theorem Nn{ax:List (Int×D)}{q:Int×D}(h:q∈fb ax):∃ z∈ax,z.2=q.2:=by
 unfold fb at h;obtain⟨z,hz,rfl⟩:=ea.mp h;exact⟨z,(p8.mp hz).1,rfl⟩
theorem No{ax:List (Int×D)}(h:(ax.map (·.1)).Nodup):((fb ax).map (·.1)).Nodup:=by
 unfold fb;rw[kR];have:((ax.filter λ q=>decide (q.1≠0)).map (·.1)).Nodup:=h.sublist ((List.filter_sublist ..).map _)
 have e:(iv ((·.1) ∘ λ q:Int×D=>(q.1 - 1,q.2)) (ax.filter λ q=>decide (q.1≠0)))=((ax.filter λ q=>decide (q.1≠0)).map (·.1)).map (· - 1):=by rw[kR];rfl
 rw[e];exact List.Pairwise.map _ (λ a b ut c=>ut (by omega)) this
theorem gX.same{G:aC}:∀{af bs:List (Addr×List (Int×D))},af.map (·.2)=bs.map (·.2)->(∀ b∈af,gv G b.1 (b.2.map bY))->(∀ b∈bs,gv G b.1 (b.2.map bY)/\hU b.2)->(∀ x∈af,∀ y∈bs,x.1≠y.1)->∃ eV,gX G (af.map λ b=>.ref b.1) (bs.map λ b=>.ref b.1) eV/\eV.all id=true
 |[],[],_,_,_,_=>⟨[],.nil,rfl⟩
 |[],_::_,h,_,_,_=>by cases h
 |_::_,[],h,_,_,_=>by cases h
 | x::af,y::bs,h,ae,ag,ne=>by
  rw[eF,eF]at h;injection h with e1 aP;obtain⟨eV,t1,b8⟩:=gX.same aP (λ b af=>ae b (.tail _ af)) (λ b af=>ag b (.tail _ af)) λ x ak y a9=>ne x (.tail _ ak) y (.tail _ a9);obtain⟨aR,b2⟩:=ag y (.head _);have aG:=ae x (.head _);rw[e1]at aG;refine⟨_,.cons (.jS aG aR b2.dat b2.dat (vd _) (vd _) (ne x (.head _) y (.head _))) t1,?_⟩;rw[kQ,DO b2.bk.1 λ q aU=>(b2.val q aU).1,b8];rfl
theorem Np{af bs:List (Addr×List (Int×D))}(h:af.map (·.2)=bs.map (·.2)):cF af=cF bs:=by
 have e:∀ l:List (Addr×List (Int×D)),cF l=(l.map (·.2)).flatMap dK:=λ l=>by unfold cF;rw[List.flatMap_map]
 rw[e,e,h]
theorem Nq{bs:List (Addr×List (Int×D))}(h:∀ b∈bs,hU b.2):∀ z∈cF bs,c5 z.2:=λ z hz=>by
 unfold cF at hz;obtain⟨b,af,hz⟩:=List.mem_flatMap.mp hz;unfold dK at hz;obtain⟨q,aU,hz⟩:=List.mem_flatMap.mp hz;obtain⟨bB,e,_,_,aq⟩:=(h b af).bB q aU;unfold r3 at hz;rw[e]at hz;obtain⟨k,pk,rfl⟩:=ea.mp hz;exact aq k pk
inductive yh(ds:List D)(G:aC)(Q:bS):Prop
 |mk (l:Addr) (bs:List (Addr×List (Int×D))):ds=[.ref l]->G l=some (.lst (bs.map λ b=>.ref b.1))->bs.length<=5->(∀ b∈bs,gv G b.1 (b.2.map bY)/\hU b.2)->(cF bs).length<=60->(∀ aj,db G aj->Q (.aW true) aj)->yh ds G Q
theorem Nr{x y:D}{i:Int}{G:aC}{Q:bS}(h0:0<=i)(ae:i<2)(q:∀ h,h=x\/h=y->Q h G):atS [x,y] i G Q:=at2 h0 ae (λ _=>q _ (.inl rfl)) λ _=>q _ (.inr rfl)
theorem c5.pK{es:List D}(h:∀ d∈es,c5 d)(l:es.length<64):u6 es:=⟨l,λ d hd=>⟨(h d hd).hv.jO,by have:=(h d hd).gO;omega⟩⟩
theorem c5.tup{es:List D}(h:∀ d∈es,c5 d):(D.tup es).data=true/\(D.tup es).bU<=100:=by
 rw[D.data,D.bU];exact⟨(c5.r5 h).1,by have:da es<=7:=ps λ d hd=>(h d hd).bU;omega⟩
theorem c5.eq{xs ys:List D}(h:∀ d∈xs,c5 d)(p:xs.Perm ys)(s:eC xs)(r:eC ys):xs=ys:=xo (λ d hd=>(h d hd).hv.jO) p s r
theorem DP:∀{ax:List (Int×D)},(∀ q∈ax,∃ bB:List D,q.2=.tup bB/\bB.length<=3)->(dK ax).length<=3 * ax.length
 |[],_=>b6 _
 | q::ax,h=>by
  have b0:=DP λ z hz=>h z (.tail _ hz);obtain⟨bB,e,af⟩:=h q (.head _)
  have aP:dK (q::ax)=bB.map (λ k=>(q.1.toNat,k))++dK ax:=by
   unfold dK;rw[qc];unfold r3;rw[e]
  rw[aP,dN,dm,eG];omega
theorem DQ:∀{bs:List (Addr×List (Int×D))},(∀ b∈bs,hU b.2)->(cF bs).length<=12 * bs.length
 |[],_=>b6 _
 | b::bs,h=>by
  have b0:=DQ λ z hz=>h z (.tail _ hz);have k:=h b (.head _)
  have l:=DP λ q aU=>by obtain⟨bB,e,af,_⟩:=k.bB q aU;exact⟨bB,e,af⟩
  have dS:=k.len
  have aP:cF (b::bs)=dK b.2++cF bs:=by unfold cF;rw[qc]
  rw[aP,dN,eG];omega
end L3
namespace L3
open PySem L2
noncomputable def Nt(K:a4)(x q:Str)(st:b_)(f:Addr)(cd:Value):Prop:=∃(fE:Value)(dF:Option Addr)(cO doc pm:Value)(an:Option Addr)(ct:Value)(i9:Array (Option Value)),
 K.lookup f=some ⟨fE,dF,.func (j5 x q (kj st) (iC st) (dw st) .none cO doc pm an cd ct),i9⟩/\qj K cd q=true/\m4 K (.ref f)=true
noncomputable def DT(K:a4)(x:Str)(st:b_):Prop:=∃(f:Addr)(cd:Value),fC K dL x=some (some (.ref f))/\Nt K x x st f cd
section
variable{K:a4}{x m q:Str}{st:b_}{C c:Addr}
theorem DT.mk{f:Addr}{cd fE cO doc pm ct:Value}{dF an:Option Addr}{i9:Array (Option Value)}(a:fC K dL x=some (some (.ref f)))(l:K.lookup f=some ⟨fE,dF,.func (j5 x x (kj st) (iC st) (dw st) .none cO doc pm an cd ct),i9⟩)(k:qj K cd x=true)(p:m4 K (.ref f)=true):DT K x st:=⟨f,cd,a,_,_,_,_,_,_,_,_,l,k,p⟩
theorem DT.ok(h:DT K x st):∃(f:Addr)(fd:fA),fC K dL x=some (some (.ref f))/\eg K x x st f fd:=by
 obtain⟨f,_,a,_,_,_,_,_,_,_,_,l,k,p⟩:=h;exact⟨f,_,a,Hb l k p⟩
end
theorem DR{α:Type}{P:List α->Prop}(h:∀ a,P [a]):∀ us:List α,us.length=1->P us
 |[a],_=>h a
theorem DS{α:Type}{P:List α->Prop}(h:∀ a b,P [a,b]):∀ us:List α,us.length=2->P us
 |[a,b],_=>h a b
structure r6(P:bX)(w:bJ)(K:a4)(mg:Str->Option Value)(base:bF):Prop where
 ex:∃ h:bF,K.In h/\h.Ns dL mg
noncomputable def DU(x q:Str)(st:b_)(aZ:List Str):Prop:=∀(cO doc pm:Value)(an:Option Addr)(b9 ct:Value)(us:List Value),us.length=aZ.length->bindArgs (j5 x q (kj st) (iC st) (dw st) .none cO doc pm an b9 ct) ⟨us,[]⟩=pure (aZ.zip us)
section
variable{P:bX}{w:bJ}{K:a4}{mg:Str->Option Value}{base:bF}{k:Nat}{x q:Str}{st:b_}{aZ:List Str}{sp:ft}{C:Addr}
theorem r6.g(E:r6 P w K mg base)(d:DT K x st)(ok:∀{f:Addr}{fd:fA},eg K x x st f fd->dh P w K mg base dx k f fd aZ sp)
 (b:DU x x st aZ:=by intro _ _ _ _ _ _;first|exact DR λ _=>rfl|exact DS λ _ _=>rfl|exact Nu λ _ _ _=>rfl|exact Nv λ _ _ _ _=>rfl|exact Nw λ _ _ _ _ _=>rfl):Got P w K mg base k x aZ sp:=by
 obtain⟨h,X,G⟩:=E.ex;obtain⟨f,fd,a,F⟩:=d.ok;exact⟨f,fd,ok F,ta X G a,F.c9,F.binds b⟩
theorem r6.r(E:r6 P w K mg base)(ve:Nat->Nat)(vf:Nat->ft)(d:DT K x st)(z:∀{f:Addr}{fd:fA},dh P w K mg base dx (ve 0) f fd aZ (vf 0))(s:∀ n,Got P w K mg base (ve n) x aZ (vf n)->∀{f:Addr}{fd:fA},eg K x x st f fd->dh P w K mg base dx (ve (n+1)) f fd aZ (vf (n+1)))
 (b:DU x x st aZ:=by intro _ _ _ _ _ _;first|exact DR λ _=>rfl|exact DS λ _ _=>rfl|exact Nu λ _ _ _=>rfl|exact Nv λ _ _ _ _=>rfl|exact Nw λ _ _ _ _ _=>rfl) (n:Nat):Got P w K mg base (ve n) x aZ (vf n):=by
 induction n with
 |zero=>exact E.g d (λ _=>z) b
 |succ n b0=>exact E.g d (s n b0) b
end
end L3
namespace KB
open PySem L2
noncomputable def top(i:Nat):b_:=PySem.Challenge.pw_kindbags_k32_bags_and_books.main.body.getD i (.Pass ⟨0,0,0,0⟩)
structure hV(mg:Str->Option Value):Prop where
 len:mg "len"=none
 isinstance:mg "isinstance"=none
 range:mg "range"=none
 int:mg "int"=none
 bool:mg "bool"=none
 str:mg "str"=none
 tuple:mg "tuple"=none
 list:mg "list"=none
 sorted:mg "sorted"=none
 all:mg "all"=none
 reversed:mg "reversed"=none
 min:mg "min"=none
 max:mg "max"=none
 enumerate:mg "enumerate"=none
 zip:mg "zip"=none
 abs:mg "abs"=none
 sum:mg "sum"=none
 dict:mg "dict"=none
end KB
namespace KB
open PySem L2 L3
section
variable{P:bX}{w:bJ}{K:a4}{mg:Str->Option Value}{base:bF}{f:Addr}{fd:fA}
noncomputable abbrev yi:b_:=top 13
theorem yj:fi ["_law_feed_here","_law_many","_law_digit","_law_one"] ["_law_feed_here","_law_many"] (dw yi):=⟨rfl,rfl,rfl,by trivial,rfl,by trivial,by trivial⟩
theorem Nx(F:eg K "_law_take" "_law_take" yi f fd):dh P w K mg base dx 1 f fd ["_law_feed_here","_law_many"] (cc K lj):=by
 refine gn (k:=0) F yj (λ ds G aE h=>?_) (λ b9 A outer s H E aH ds G aE h=>?_)
 ·unfold lj at h;split at h
  ·rfl
  ·exact h.elim
 unfold lj at h;split at h
 case h_2=>exact h.elim
 next a m=>
 obtain⟨⟨x,y,fG⟩,h0,ae,q⟩:=h
 refine⟨_,(cb (fy (eM mw (jb jc (aF 0) bp (λ _ _=>rfl)) bp (dW _)) (cb (eh (k:=2) yj.a3 rfl (Or.inl rfl) (du mv (jb jc (aF 0) bp (λ _ _=>rfl)) (aF 1)))
  (cb (wM (du Br (jb jc (aF 0) bp (λ _ _=>rfl)) (aF 1)) (wZ (aF 0) bp))
  (cq (dR (aF 2))))) fZ)
  (cb (eh (k:=3) yj.a3 rfl (Or.inl rfl) (du mv (du mu (jb jc (aF 0) bp (λ _ _=>rfl)) bp) bp))
  (cb (wM (du jE (du mv (du jE (du mu (aF 3) bp) bp) bp) bp) (wZ (aF 0) bp))
  (cq (dR (du mv (du Br (du jE (du mu (aF 3) bp) (jb jc (aF 0) bp (λ _ _=>rfl))) bp) (aF 1))))))),?_⟩
 refine c6 fG ⟨λ c=>?_,λ c=>?_⟩
 ·refine c6 fG ⟨h0,c6 fG ⟨⟨h0,by omega⟩,gS fG ⟨0,rfl,c2.of (q _ _ .mk (Int.emod_nonneg _ (by omega)) (Int.emod_lt_of_pos _ h0))⟩⟩⟩
 ·refine c6 fG ⟨.inr ⟨by decide,by decide⟩,by simp,.inr ⟨by decide,by decide⟩,by simp,gS fG ⟨1,rfl,.inr ⟨by decide,by decide⟩,c6 bI ⟨⟨by decide,by decide⟩,h0,c2.of (q _ _ .mk (Int.emod_nonneg _ (by omega)) (Int.emod_lt_of_pos _ h0))⟩⟩⟩
noncomputable abbrev yk:b_:=top 12
theorem pL:fi ["_law_script","_law_k","_law_cell","_law_own"] ["_law_script","_law_k"] (dw yk):=⟨rfl,rfl,rfl,by trivial,rfl,by trivial,by trivial⟩
theorem Ny(B:hV mg)(F:eg K "_law_feed" "_law_feed" yk f fd):dh P w K mg base dx 1 f fd ["_law_script","_law_k"] (cc K uA):=by
 refine gn (k:=0) F pL (λ ds G aE h=>?_) (λ b9 A outer s H E aH ds G aE h=>?_)
 ·unfold uA at h;split at h
  ·rfl
  ·exact h.elim
 unfold uA at h;split at h
 case h_2=>exact h.elim
 next ss k=>
 obtain⟨ns,rfl,aB,h0,ae,q⟩:=h;have fin:∀ x y:Int,∀ p,G p=none->c2 aE (.ref p) (up G p (nR x y)):=λ x y p ai=>c2.of (q p x y ai)
 have DV:∀ j:Int,0<=j->j<ns.length->∃ v,fV (ns.map D.int) j=some (.int v):=λ j DW fx=>by
  refine⟨ns[j.toNat],?_⟩;have e:=mb (xs:=ns.map D.int) (j:=j.toNat) (v:=D.int ns[j.toNat]) (by simp[show j.toNat<ns.length by omega])
  rwa[show ((j.toNat:Nat):Int)=j by omega]at e
 refine⟨_,(cb (eh (k:=2) pL.a3 rfl (Or.inl rfl) (du jE (du mu bp (aF 1)) bp))
  (cb (fy (eM o9 (aF 1) (f5 kx rfl B.len j6 (aK (aF 0) a_)) (dW _)) (cq (eh (k:=2) pL.a3 rfl (Or.inl rfl) (jb jc (aF 0) (aF 1) (λ _ _=>rfl)))) (cq (fy (eM mw (f5 kx rfl B.len j6 (aK (aF 0) a_)) bp (dW _)) (cq (eh (k:=2) pL.a3 rfl (Or.inl rfl) (du jE (du mu (du mv (jb jc (aF 0) (du mv (aF 1) (f5 kx rfl B.len j6 (aK (aF 0) a_))) (λ _ _=>rfl)) bp) bp) (du mu bp (aF 1))))) fZ)))
  (cb (eh (k:=3) pL.a3 rfl (Or.inl rfl) bp)
  (cb (fy (eM JL (aF 2) (du JK bp bp) (dW _)) (cq (eh (k:=3) pL.a3 rfl (Or.inl rfl) (aF 2))) fZ)
  (cq (dR (mn (aK (aF 3) (aK (du jE (du mv (du jE (du mu (du mv (aF 2) bp) bp) (du mu bp (aF 1))) bp) bp) a_))))))))),?_⟩
 refine⟨.inl ⟨by decide,by decide⟩,⟨λ c=>?_,λ c=>?_⟩⟩
 ·have eT:k<ns.length:=by simpa using c
  obtain⟨v,bh⟩:=DV k h0 eT;refine(Bs bh ⟨⟨by decide,by decide,by decide⟩,λ c=>?_,λ c=>?_⟩)
  ·exact⟨by simp,.inr ⟨by decide,by decide⟩,.inl ⟨by decide,by decide⟩,by simp,λ p ai=>fin _ _ p ai⟩
  ·exact⟨by simp,.inr ⟨by decide,by decide⟩,.inl ⟨by decide,by decide⟩,by simp,λ p ai=>fin _ _ p ai⟩
 ·refine⟨λ c=>?_,λ c=>?_⟩
  ·have eT:0<ns.length:=by
    have:(0:Int)<(ns.map D.int).length:=by simpa using c
    simpa using this
   obtain⟨v,bh⟩:=DV (k % (ns.map D.int).length) (Int.emod_nonneg _ (show ((ns.map D.int).length:Int)≠0 by rw[dm];omega)) (by have:=Int.emod_lt_of_pos k (show (0:Int)<(ns.map D.int).length by simpa using eT);simpa using this);refine⟨by simpa using eT,?_⟩;refine(Bs bh ⟨by simp,.inr ⟨by decide,by decide⟩,.inl ⟨by decide,by decide⟩,⟨by decide,by decide,by decide⟩,λ c=>?_,λ c=>?_⟩)
   ·exact⟨by simp,.inr ⟨by decide,by decide⟩,.inl ⟨by decide,by decide⟩,by simp,λ p ai=>fin _ _ p ai⟩
   ·exact⟨by simp,.inr ⟨by decide,by decide⟩,.inl ⟨by decide,by decide⟩,by simp,λ p ai=>fin _ _ p ai⟩
  ·refine⟨⟨by decide,by decide,by decide⟩,λ c=>?_,λ c=>?_⟩
   ·exact⟨by simp,.inr ⟨by decide,by decide⟩,.inl ⟨by decide,by decide⟩,by simp,λ p ai=>fin _ _ p ai⟩
   ·exact⟨by simp,.inr ⟨by decide,by decide⟩,.inl ⟨by decide,by decide⟩,by simp,λ p ai=>fin _ _ p ai⟩
noncomputable abbrev yl:b_:=top 14
theorem DX:fi ["_law_feed_here","_law_form"] ["_law_feed_here"] (dw yl):=⟨rfl,rfl,rfl,by trivial,rfl,by trivial,by trivial⟩
theorem Nz(B:hV mg)(et:Got P w K mg base 1 "_law_take" ["_law_feed_here","_law_many"] (cc K lj))(F:eg K "_law_number" "_law_number" yl f fd):dh P w K mg base dx 2 f fd ["_law_feed_here"] (cc K B8):=by
 refine gn (k:=1) F DX (λ ds G aE h=>?_) (λ b9 A outer s H E aH ds G aE h=>?_)
 ·obtain⟨_,rfl,_⟩:=h;rfl
 obtain⟨a,rfl,fG,q⟩:=h
 refine⟨_,(cb (eh (k:=1) DX.a3 rfl (Or.inl rfl) (cI et aH (by omega) rfl (aK (aF 0) (aK bp a_))))
  (cb (fy (eM o9 (aF 1) bp (dW _)) (cq (dR (rr (aK bp (aK bp (aK (t4 ua bp) (aK bp a_)))) (aF 1) (λ _ _=>rfl)))) fZ)
  (cb (fy (eM o9 (aF 1) bp (dW _)) (cq (dR (du ku (cI et aH (by omega) rfl (aK (aF 0) (aK bp a_))) bp))) fZ)
  (cb (fy (eM (nQ (d2 aH)) (aF 1) bp (dW _)) (cq (dR (rr (aK bp (aK (t4 ua bp) (aK bp (aK (t4 ua bp) (aK bp a_))))) (cI et aH (by omega) rfl (aK (aF 0) (aK bp a_))) (λ _ _=>rfl)))) fZ)
  (cq (dR (du ku (cI et aH (by omega) rfl (aK (aF 0) (aK bp a_))) bp))))))),?_⟩
 refine⟨fG,by decide,by decide,λ ym G1 cW f0 f1=>⟨λ c=>?_,λ c=>⟨λ c=>?_,λ c=>?_⟩⟩⟩
 ·have eT:=of_decide_eq_true c;exact Ku (by omega) (by omega) (λ _=>c2.of (q _ _ cW)) (λ _=>c2.of (q _ _ cW)) (λ _=>c2.of (q _ _ cW)) (λ _=>c2.of (q _ _ cW))
 ·exact⟨cW.fd,by decide,by decide,λ k aL d6 _ _=>c2.of (q _ _ (cW.trans d6))⟩
 ·refine⟨λ _=>⟨cW.fd,by decide,by decide,λ k aL d6 r7 cz=>?_⟩,λ _=>⟨cW.fd,by decide,by decide,λ k aL d6 _ _=>c2.of (q _ _ (cW.trans d6))⟩⟩
  exact KM r7 cz λ d hd=>by
   simp only[fq,qd,or_false]at hd;rcases hd with rfl|rfl|rfl|rfl|rfl<;>exact c2.of (q _ _ (cW.trans d6))
noncomputable abbrev yn:b_:=top 15
theorem yo:fi ["_law_feed_here","_law_deep","_law_form","_law_one"] ["_law_feed_here","_law_deep"] (dw yn):=⟨rfl,rfl,rfl,by trivial,rfl,by trivial,by trivial⟩
theorem NA:dh P w K mg base dx 2 f fd ["_law_feed_here","_law_deep"] (cc K (rE 0)):=BS λ ds G aE h=>by obtain⟨_,_,_,_,_,_,_⟩:=h;omega
theorem NB{n:Nat}(B:hV mg)(et:Got P w K mg base 1 "_law_take" ["_law_feed_here","_law_many"] (cc K lj))(yp:Got P w K mg base 2 "_law_number" ["_law_feed_here"] (cc K B8))(pM:Got P w K mg base (n+2) "_law_answer_kind" ["_law_feed_here","_law_deep"] (cc K (rE n)))(F:eg K "_law_answer_kind" "_law_answer_kind" yn f fd):dh P w K mg base dx (n+3) f fd ["_law_feed_here","_law_deep"] (cc K (rE (n+1))):=by
 refine gn (k:=n+2) F yo (λ ds G aE h=>?_) (λ b9 A outer s H E aH ds G aE h=>?_)
 ·obtain⟨_,_,rfl,_⟩:=h;rfl
 obtain⟨a,k,rfl,fG,r7,cz,q⟩:=h
 refine⟨_,(cb (eh (k:=2) yo.a3 rfl (Or.inl rfl) (cI et aH (by omega) rfl (aK (aF 0) (aK bp a_))))
  (cb (fy (g8.at (t7 (eM mw (aF 1) bp (dW _)) (t6 (eM mw (aF 2) bp (dW _))))) (cb (eh (k:=3) yo.a3 rfl (Or.inl rfl) (cI pM aH (by omega) rfl (aK (aF 0) (aK (du ku (aF 1) bp) a_))))
  (cq (dR (g9 (aK nF (aK (aF 3) (aK (cI pM aH (by omega) rfl (aK (aF 0) (aK (du ku (aF 1) bp) a_))) a_))))))) fZ)
  (cb (fy (eM (nQ (d2 aH)) (aF 2) bp (dW _)) (cq (dR (g9 (aK nF a_)))) fZ)
  (cq (dR (g9 (aK nF (aK (cI yp aH (by omega) rfl (aK (aF 0) a_)) a_)))))))),?_⟩
 refine⟨fG,by decide,by decide,λ ym G1 cW f0 f1=>⟨λ c=>⟨λ cR=>?_,λ cR=>?_⟩,λ c=>⟨λ c=>absurd c (by decide),λ _=>?_⟩⟩⟩
 ·have eT:=of_decide_eq_true c;refine⟨a,k - 1,rfl,cW.fd,by omega,by omega,λ ec aL d6 nS r8 e1=>⟨a,k - 1,rfl,d6.fd,by omega,by omega,λ gu bP hg nT dT aP=>c2.of (q _ _ (cW.trans (d6.trans hg)) (.both nS nT r8 dT) rfl (LD (by omega) e1 aP))⟩⟩
 ·exact⟨λ _=>c2.of (q _ _ cW .some rfl (CN _)),λ _=>⟨a,rfl,cW.fd,λ n aL d6=>c2.of (q _ _ (cW.trans d6) (.is n) rfl (CO _ _))⟩⟩
 ·exact⟨λ _=>c2.of (q _ _ cW .some rfl (CN _)),λ _=>⟨a,rfl,cW.fd,λ n aL d6=>c2.of (q _ _ (cW.trans d6) (.is n) rfl (CO _ _))⟩⟩
noncomputable abbrev yq:b_:=top 16
theorem yr:fi ["_law_feed_here","_law_deep","_law_form","_law_bag"] ["_law_feed_here","_law_deep"] (dw yq):=⟨rfl,rfl,rfl,by trivial,rfl,by trivial,by trivial⟩
theorem NC:dh P w K mg base dx 7 f fd ["_law_feed_here","_law_deep"] (cc K (rF 0)):=BS λ ds G aE h=>by obtain⟨_,_,_,_,_,_,_,_⟩:=h;omega
theorem ND{n:Nat}(B:hV mg)(et:Got P w K mg base 1 "_law_take" ["_law_feed_here","_law_many"] (cc K lj))(pM:Got P w K mg base 5 "_law_answer_kind" ["_law_feed_here","_law_deep"] (cc K (rE 3)))(ob:Got P w K mg base (n+7) "_law_kind" ["_law_feed_here","_law_deep"] (cc K (rF n)))(F:eg K "_law_kind" "_law_kind" yq f fd):dh P w K mg base dx (n+8) f fd ["_law_feed_here","_law_deep"] (cc K (rF (n+1))):=by
 refine gn (k:=n+7) F yr (λ ds G aE h=>?_) (λ b9 A outer s H E aH ds G aE h=>?_)
 ·obtain⟨_,_,rfl,_⟩:=h;rfl
 obtain⟨a,k,rfl,fG,r7,cz,PT,q⟩:=h
 refine⟨_,(cb (eh (k:=2) yr.a3 rfl (Or.inl rfl) (cI et aH (by omega) rfl (aK (aF 0) (aK bp a_))))
  (cb (fy (g8.at (mq (eM (nQ (d2 aH)) (aF 1) bp (dW _)) (q4 (eM o9 (aF 2) bp (dW _))))) (cq (dR (cI pM aH (by omega) rfl (aK (aF 0) (aK (f5 (Bw rfl) rfl B.min PyProof.Rows.boot_min (aK (aF 1) (aK bp a_))) a_))))) fZ)
  (cb (fy (eM o9 (aF 2) bp (dW _)) (cq (dR (g9 (aK (rr (aK nF (aK nF a_)) (du ku (aF 2) bp) (λ _ _=>rfl)) (aK (cI ob aH (by omega) rfl (aK (aF 0) (aK (du ku (aF 1) bp) a_))) a_))))) fZ)
  (cb (wS (k:=3) rfl yr.a3 rfl (Or.inl rfl) (fv.of (N':=["_law_k","_law_feed_here","_law_deep"]) (nt:=1) (cap:=[0,1]) rfl (by kernel_rfl)) (rb (k:=0) (by decide)) (pd rfl B.range (aK (cI et aH (by omega) rfl (aK (aF 0) (aK bp a_))) a_)) (λ _ _ _ _=>(f3 (k:=0) (show List.Nodup (["_law_k","_law_feed_here","_law_deep"]:List Str) by trivial) rfl (Or.inl rfl)))  (λ _ _ _ _=>(cI ob aH (by omega) rfl (aK (aF 1) (aK (du ku (aF 2) bp) a_)))))
  (cb (fy (g8.at (t7 (eM mw (f5 kx rfl B.len j6 (aK (aF 3) a_)) bp (dW _)) (t6 (eM (nQ (d2 aH)) (cI et aH (by omega) rfl (aK (aF 0) (aK bp a_))) bp (dW _))))) (cq (wM (jb jc (aF 3) bp (λ _ _=>rfl)) (wZ (aF 3) bp))) fZ)
  (cq (dR (g9 (aK nF (aK (uw (kv q6 rfl B.tuple lW (aK (f5 (K8 (d2 aH)) rfl B.sorted PyProof.Rows.boot_sorted (aK (aF 3) a_)) a_))) (aK (cI ob aH (by omega) rfl (aK (aF 0) (aK (du ku (aF 1) bp) a_))) a_))))))))))),?_⟩
 refine⟨fG,by decide,by decide,λ ym G1 cW f0 f1=>⟨λ c=>⟨λ _=>?_,λ c=>absurd c (by decide)⟩,λ c=>⟨λ cR=>?_,λ cR=>⟨λ DY=>?_,λ DY=>?_⟩⟩⟩⟩
 ·refine⟨a,if 2<k then 2 else k,rfl,cW.fd,by split<;>omega,by split<;>omega,λ d aL d6 i o e=>c2.of (q d aL ⟨aL,cW.trans d6,.refl _⟩ i (λ _=>o) (CP (by split<;>omega) e))⟩
 ·refine⟨a,if 2<k then 2 else k,rfl,cW.fd,by split<;>omega,by split<;>omega,λ d aL d6 i o e=>c2.of (q d aL ⟨aL,cW.trans d6,.refl _⟩ i (λ _=>o) (CP (by split<;>omega) e))⟩
 ·have PU:=of_decide_eq_true DY;have PV:=of_decide_eq_false cR
  have pN:k≠0:=by rintro rfl;cases c
  refine at2 (i:=ym - 3) (by omega) (by omega) (λ _=>⟨a,k - 1,rfl,cW.fd,by omega,by omega,by omega,λ d aL ⟨bZ,eJ,gb⟩ i _ e=>c2.of (q _ aL ⟨bZ,cW.trans eJ,gb⟩ (.left i) (λ z=>absurd z pN) (CQ (by omega) e))⟩) λ _=>⟨a,k - 1,rfl,cW.fd,by omega,by omega,by omega,λ d aL ⟨bZ,eJ,gb⟩ i _ e=>c2.of (q _ aL ⟨bZ,cW.trans eJ,gb⟩ (.right i) (λ z=>absurd z pN) (CQ (by omega) e))⟩
 ·have pN:k≠0:=by rintro rfl;cases c
  refine⟨cW.fd,by decide,by decide,λ m aL d6 m0 hB=>pc (by omega) ?_⟩;refine B9 a id (λ d=>gE d/\gF (40 * 5 ^ (k - 1).toNat) (2 * (k - 1).toNat+3) 3 d) ?_ (λ _=>trivial) d6.fd (λ d G R hf h=>⟨a,k - 1,rfl,hf,by omega,by omega,by omega,λ d aj x i _ e=>h d aj x ⟨i,e⟩⟩) λ ds bP yt f9 hg p ai=>?_
  ·show (ha 0 (m:Int).toNat).length<=1000;rw[my];omega
  have r9:ds.length<=3:=by
   have e:ds.length=(ha 0 (m:Int).toNat).length:=yt;rw[my]at e;omega
  rw[List.map_id]
  have yu:∀ b o,b≠a->G b=some o->up bP p (.lst ds) b=some o:=λ b o nb e=>by
   have ae:bP b=some o:=(cW.trans (d6.trans hg)).c9 nb e;rw[cv (by rintro rfl;rw[ai]at ae;cases ae)];exact ae
  refine c6 bI ⟨λ r_=>⟨hg.fd.new ai,by decide,by decide,λ j eO hW DW fx=>⟨λ yv=>?_,λ yv=>?_⟩⟩,λ r_=>⟨λ c=>absurd c (by decide),λ _=>?_⟩⟩
  ·have lC:=hW.c9 (hg.fd.ne ai) bI
   obtain⟨x,y,zs,rfl⟩:∃ x y zs,ds=x::y::zs:=by
    have yw:=of_decide_eq_true r_;rcases ds with _|⟨x,_|⟨y,zs⟩⟩
    ·simp at yw
    ·simp at yw
    ·exact⟨x,y,zs,rfl⟩
   refine Bt lC (d:=x) (mb (j:=0) rfl) (gS lC ⟨1,by unfold jw;rw[if_pos (by decide),if_pos (by simp only[eG];omega)];rfl,?_⟩);have cj:∀ d∈(x::y::zs).set 1 x,gE d/\gF (40 * 5 ^ (k - 1).toNat) (2 * (k - 1).toNat+3) 3 d:=KN f9 (f9 x (dk ..))
   have fR:((x::y::zs).set 1 x).length<=3:=by rw[List.length_set];exact r9
   have X:∀ dD bZ,d8 a (up eO p (.lst ((x::y::zs).set 1 x))) bZ->Sub bZ dD->∃ bZ,d8 a G bZ/\Sub bZ dD:=λ dD bZ eJ gb=>pv (λ b o nb e=>by
    have ae:=yu b o nb e;have ag:=hW.c9 nb ae
    have NE:b≠p:=by rintro rfl;rw[(cW.trans (d6.trans hg)).none ai]at e;cases e
    rw[cv NE];exact ag) eJ gb
   refine c6 (bI) ⟨by have:=fR;omega,λ d hd=>⟨(cj d hd).1.jO,by have:=(cj d hd).2.bU;omega⟩,λ eD jT nX nf ik=>c6 bI ⟨_,Sub.new (Sub.refl _) ik,⟨a,k - 1,rfl,(by obtain⟨NF,NG,bz⟩:=hW.fd;exact⟨NF,NG,by rw[cv (Ne.symm (hg.fd.ne ai))];exact bz⟩),by omega,by omega,by omega,λ d dD ⟨bZ,eJ,gb⟩ sa _ sb=>c2.of (q _ dD (X dD bZ eJ gb) (.way (λ d hd=>(cj d (jT.mem_iff.mpr hd)).1) (xn nX) sa) (λ z=>absurd z pN) (xp (by omega) (λ d hd=>(cj d (jT.mem_iff.mpr hd)).2) (by rw[<- jT.length_eq];exact fR) sb))⟩⟩⟩
  ·have lC:=hW.c9 (hg.fd.ne ai) bI;have X:∀ dD bZ,d8 a eO bZ->Sub bZ dD->∃ bZ,d8 a G bZ/\Sub bZ dD:=λ dD bZ eJ gb=>pv (λ b o nb e=>hW.c9 nb (yu b o nb e)) eJ gb;refine c6 (lC) ⟨by have:=r9;omega,λ d hd=>⟨(f9 d hd).1.jO,by have:=(f9 d hd).2.bU;omega⟩,λ eD jT nX nf ik=>c6 bI ⟨_,Sub.new (Sub.refl _) ik,⟨a,k - 1,rfl,hW.fd,by omega,by omega,by omega,λ d dD ⟨bZ,eJ,gb⟩ sa _ sb=>c2.of (q _ dD (X dD bZ eJ gb) (.way (λ d hd=>(f9 d (jT.mem_iff.mpr hd)).1) (xn nX) sa) (λ z=>absurd z pN) (xp (by omega) (λ d hd=>(f9 d (jT.mem_iff.mpr hd)).2) (by rw[<- jT.length_eq];exact r9) sb))⟩⟩⟩
  ·have X:∀ dD bZ,d8 a (up bP p (.lst ds)) bZ->Sub bZ dD->∃ bZ,d8 a G bZ/\Sub bZ dD:=λ dD bZ eJ gb=>pv yu eJ gb;refine c6 (bI) ⟨by have:=r9;omega,λ d hd=>⟨(f9 d hd).1.jO,by have:=(f9 d hd).2.bU;omega⟩,λ eD jT nX nf ik=>c6 bI ⟨_,Sub.new (Sub.refl _) ik,⟨a,k - 1,rfl,(hg.fd.new ai),by omega,by omega,by omega,λ d dD ⟨bZ,eJ,gb⟩ sa _ sb=>c2.of (q _ dD (X dD bZ eJ gb) (.way (λ d hd=>(f9 d (jT.mem_iff.mpr hd)).1) (xn nX) sa) (λ z=>absurd z pN) (xp (by omega) (λ d hd=>(f9 d (jT.mem_iff.mpr hd)).2) (by rw[<- jT.length_eq];exact r9) sb))⟩⟩⟩
noncomputable abbrev yx:b_:=top 3
theorem sd:fi ["thing","told","pending","one","item"] ["thing"] (dw yx):=⟨rfl,rfl,rfl,by trivial,rfl,by trivial,by trivial⟩
theorem NH{cV a0:Tok}(B:hV mg)(yy:mg "ITEM"=some (.int 1 cV))(yz:mg "END"=some (.int 0 a0))(F:eg K "flat" "flat" yx f fd):dh P w K mg base dx 1 f fd ["thing"] (cc K LO):=by
 refine gn (k:=0) F sd (λ ds G aE h=>?_) (λ b9 A outer s H E aH ds G aE h=>?_)
 ·obtain⟨_,rfl,_⟩:=h;rfl
 obtain⟨d,rfl,⟨aq,hz⟩,q⟩:=h
 refine⟨_,(cb (eh (k:=1) sd.a3 rfl (Or.inl rfl) (mn a_))
  (cb (eh (k:=2) sd.a3 rfl (Or.inl rfl) (mn (aK (aF 0) a_)))
  (cb (J0 PassesOwn.never (kr (aF 2)) (cb (eh (k:=3) sd.a3 rfl (Or.inl rfl) (J7 PySem.F.plainAttrs_list PySem.F.slot_list_pop PySem.F.type_list_pop J8 (aF 2)))
  (cq (fy (mo (kr (f5 uy rfl B.isinstance oH (aK (aF 3) (aK (o7 rfl B.tuple lW) a_))))) (cq (mr (nP PySem.F.plainAttrs_list PySem.F.slot_list_append PySem.F.type_list_append rm (aF 1) (aK (aF 3) a_)))) (cq (fy (g8.at (t7 (eM mw (f5 kx rfl B.len j6 (aK (aF 3) a_)) bp (dW _)) (t6 (kr (f5 uy rfl B.isinstance oH (aK (jb jc (aF 3) bp (λ _ _=>rfl)) (aK (o7 rfl B.str PyProof.Rows.boot_str) a_))))))) (cq (mr (nP PySem.F.plainAttrs_list PySem.F.slot_list_extend PySem.F.type_list_extend BL (aF 2) (aK (Lo (aF 3) (Jz (t4 ua bp))) a_)))) (cb (mr (nP PySem.F.plainAttrs_list PySem.F.slot_list_append PySem.F.type_list_append rm (aF 2) (aK (Bh (d:=.int _) (v:=.int _) rfl yz ⟨_,rfl⟩ (λ _=>rfl)) a_)))
  (cq (ie PassesOwn.never rfl (Lw rfl B.reversed (aF 3)) (f3 (k:=4) sd.a3 rfl (Or.inl rfl)) (cb (mr (nP PySem.F.plainAttrs_list PySem.F.slot_list_append PySem.F.type_list_append rm (aF 2) (aK (aF 4) a_)))
  (cq (mr (nP PySem.F.plainAttrs_list PySem.F.slot_list_append PySem.F.type_list_append rm (aF 2) (aK (Bh (d:=.int _) (v:=.int _) rfl yy ⟨_,rfl⟩ (λ _=>rfl)) a_))))))))))))))
  (cq (dR (aF 1)))))),?_⟩
 intro a az b af;obtain⟨-,NI,kC⟩:=uz (o:=.lst []) af;have hw:=CE d;refine⟨λ μ ρ aj=>∃(aZ bl:List D)(cZ dv:Option D),ρ=[some d,some (.ref a),some (.ref b),cZ,dv]/\up (up G a (.lst bl)) b (.lst aZ.reverse)=aj/\bl++d9 aZ=cY d/\(∀ p∈aZ,hR p)/\dI aZ<=196000/\dI aZ=μ,⟨_,[d],[],_,_,rfl,rfl,by simp[d9],by simpa using aq,by simp only[dI];omega,rfl⟩,?_⟩;rintro μ ρ aj ⟨aZ,bl,cZ,dv,rfl,rfl,k1,DZ,yA,rfl⟩
 have PW:bl.length<=196000:=by have:=congrArg hX k1;have:=uY d;simp only[dN]at *;omega
 refine c6 bI ⟨λ c=>?_,λ c=>?_⟩
 ·obtain⟨y,ax,rfl⟩:∃ y ax,aZ=y::ax:=by
   cases aZ with
   |nil=>simp at c
   |cons z ax=>exact⟨z,ax,rfl⟩
  rw[dI]at yA;have PX:=uX ax;refine⟨c6 bI trivial,gS bI ⟨ax.reverse,y,by simp,?_⟩⟩;rw[nC]
  have vg:∀ o,up (up G a (.lst bl)) b o a=some (.lst bl):=λ o=>by rw[cv (Ne.symm kC)];exact bI
  have vh:∀ p∈ax,hR p:=λ p ai=>DZ p (dM _ ai);have fin:∀(oN oc:List D),oN++d9 oc=cY d->(∀ p∈oc,hR p)->dI oc+1<=ws y+dI ax->∀(dD:aC)(ρ:dy),(∃ dv,ρ=[some d,some (.ref a),some (.ref b),some y,dv])->up (up G a (.lst oN)) b (.lst oc.reverse)=dD->eN (λ ρ aj=>∃ μ',μ'<dI (y::ax)/\∃(aZ bl:List D)(cZ dv:Option D),ρ=[some d,some (.ref a),some (.ref b),cZ,dv]/\up (up G a (.lst bl)) b (.lst aZ.reverse)=aj/\bl++d9 aZ=cY d/\(∀ p∈aZ,hR p)/\dI aZ<=196000/\dI aZ=μ') ρ dD:=λ oN oc ae ag bc dD ρ ⟨dv,e1⟩ aP=>eN.of ⟨dI oc,by rw[dI];omega,oc,oN,_,dv,e1,aP,ae,ag,by omega,rfl⟩;rw[d9]at k1
  cases DZ y (dk ..) with
  | int n=>
   refine⟨false,rfl,⟨λ _=>⟨c6 (vg _) trivial,gS (vg _) ⟨gp (by omega),?_⟩⟩,nofun⟩⟩;rw[BU kC];exact fin (bl++[.int n]) ax (by rw[<- k1];simp[cY]) vh (by simp only[ws];omega) _ _ ⟨_,rfl⟩ rfl
  | str z=>
   refine⟨false,rfl,⟨λ _=>⟨c6 (vg _) trivial,gS (vg _) ⟨gp (by omega),?_⟩⟩,nofun⟩⟩;rw[BU kC];exact fin (bl++[.str z]) ax (by rw[<- k1];simp[cY]) vh (by simp only[ws];omega) _ _ ⟨_,rfl⟩ rfl
  | @node z r aH=>
   have NJ:=uX (.str z::r);rw[ws]at yA;refine⟨true,rfl,⟨nofun,λ _=>⟨λ _=>⟨true,rfl,⟨λ _=>?_,nofun⟩⟩,λ c=>absurd (of_decide_eq_false c) (by simp only[eG];omega)⟩⟩⟩;refine⟨c6 bI trivial,rfl,gS bI ⟨Kw (by simp only[lT];omega),?_⟩⟩;rw[nC];refine fin bl ((.str z::r)++ax) ?_ (λ p ai=>?_) ?_ _ _ ⟨_,rfl⟩ ?_
   ·rw[<- k1,CJ];simp only[cY,il,d9];rfl
   ·rcases fL.mp ai with ai|ai
    ·rcases fq.mp ai with rfl|ai
     ·exact .str _
     ·exact aH p ai
    ·exact vh p ai
   ·rw[CD,ws];omega
   ·rw[List.reverse_append]
  | @bB ds f9 ip=>
   have NJ:=uX ds
   have PY:ax.length+2 * ds.length+2<=196000:=by rw[ws]at yA;omega
   refine⟨true,rfl,⟨nofun,λ _=>⟨λ c=>?D0,λ c=>?D1⟩⟩⟩
   case' D0=>
    obtain⟨jf,eD,e⟩:∃ jf eD,ds=jf::eD:=by
     cases ds with
     |nil=>exact absurd c (by decide)
     |cons x xs=>exact⟨x,xs,rfl⟩
    refine wO (d:=jf) (by rw[e];exact mb (j:=0) rfl) ?_;obtain⟨z,r,rfl⟩:=ip jf (by rw[e];exact dk ..);refine⟨false,rfl,⟨nofun,λ _=>?_⟩⟩
   case' D1=>
    refine⟨nofun,λ _=>?_⟩
   case D0|D1=>
    refine⟨c6 bI trivial,gS bI ⟨gp (by simp only[lT];omega),?_⟩⟩;rw[nC];refine⟨λ i ρ aj=>∃ dv,ρ=[some d,some (.ref a),some (.ref b),some (.tup ds),dv]/\up (up G a (.lst bl)) b (.lst (ax.reverse++[.int 0]++(ds.reverse.take i).flatMap λ x=>[x,.int 1]))=aj,⟨_,rfl,by simp⟩,λ _ _ _ _ _=>trivial,?_,?_⟩
    ·rintro i x ρ aj he ⟨dv,rfl,rfl⟩;have D2:ds.reverse[i]?=some x:=he
     have PZ:(ax.reverse++[D.int 0]++(ds.reverse.take i).flatMap λ x=>[x,.int 1]).length+1<=196000:=by
      have ag:=(gg.mp D2).1;rw[lT]at ag;simp only[dN,lT,lS,CM,mU];omega
     refine⟨c6 bI trivial,gS bI ⟨gp (by omega),?_⟩⟩;rw[nC];refine⟨c6 bI trivial,gS bI ⟨gp (by rw[dN,lS];omega),?_⟩⟩;rw[nC];refine eN.of ⟨_,rfl,?_⟩;rw[List.take_add_one,D2,Option.toList_some,iY];simp
    ·rintro ρ aj ⟨dv,rfl,rfl⟩;refine fin bl (kD ds++.int 0::ax) ?_ (λ p ai=>?_) ?_ _ _ ⟨_,rfl⟩ ?_
     ·rw[<- k1,CK,LM ip]
     ·rcases fL.mp ai with ai|ai
      ·obtain⟨x,ak,ai⟩:=List.mem_flatMap.mp ai;simp at ai;rcases ai with rfl|rfl
       ·exact .int _
       ·exact f9 _ ak
      ·rcases fq.mp ai with rfl|ai
       ·exact .int _
       ·exact vh p ai
     ·rw[CL,ws];omega
     ·rw[List.reverse_append,LC,oB,show ds.reverse.take (⟨ds.reverse,λ _=>True⟩:jF).items.length=ds.reverse from sY]
 ·have e:aZ=[]:=by
   cases aZ with
   |nil=>rfl
   |cons _ _=>simp at c
  subst e
  have aP:bl=cY d:=by simpa[d9] using k1
  subst aP;exact⟨up G a (.lst (cY d)),Sub.new (Sub.refl _) (by rw[cv kC];exact NI),q a az⟩
noncomputable abbrev yB:b_:=top 9
theorem yC:fi ["kinds_of","book","number"] ["kinds_of"] (dw yB):=⟨rfl,rfl,rfl,by trivial,rfl,by trivial,by trivial⟩
theorem NK(B:hV mg)(kK:Got P w K mg base 4 "bag_of" ["kinds"] (cc K xN))(F:eg K "book_of" "book_of" yB f fd):dh P w K mg base dx 5 f fd ["kinds_of"] (cc K x5):=by
 refine gn (k:=4) F yC (λ ds G aE h=>?_) (λ b9 A outer s H E aH ds G aE h=>?_)
 ·obtain⟨_,_,_,_,rfl,_⟩:=h;rfl
 obtain⟨l,kvs,a3,bH,rfl,e,O,aS,aq,q⟩:=h
 refine⟨_,(cb (eh (k:=1) yC.a3 rfl (Or.inl rfl) lv)
  (cb (ie PassesOwn.never rfl (nK (f5 (Mr rfl) rfl B.sorted PyProof.Rows.boot_sorted (aK (aF 0) a_))) (f3 (k:=2) yC.a3 rfl (Or.inl rfl)) (cq (mD (d2 aH) (aF 1) (aF 2) (cI kK aH (by omega) rfl (aK (Kz (d2 aH) (aF 0) (aF 2) (λ _ _=>rfl)) a_)))))
  (cq (dR (aF 1))))),?_⟩
 intro p ai
 have np:l≠p:=by rintro rfl;rw[e]at ai;cases ai
 have e1:up G p (.bf []) l=some (.bf kvs):=by rw[cv np];exact e
 obtain⟨ns,nv,P0,D3⟩:=Ng O
 have P1:ns.length<=a3.length:=by
  have:=congrArg hX nv;have:=O.len;simp at *;omega
 refine gU e1 ⟨ns,nv,by omega,λ ms hB lY c8 h9=>?_⟩;have de:=LQ h9;have NL:=LP h9;refine nJ bI ⟨λ i ρ aj=>∃(dT:Option D)(ax:List (Int×D)),ρ=[some (.ref l),some (.ref p),dT]/\Sub G aj/\aj c8=some (.lst (ms.map D.int))/\aj p=some (.bf (ax.map bY))/\(ax.map (·.1)).Nodup/\(∀ q∈ax,∃(n:Nat)(bB:List D),q=((n:Int),.tup bB)/\bB.Perm (eo n a3)/\eC bB)/\(∀ m:Int,m∈ax.map (·.1) ↔ m∈ms.take i)/\ax.length<=i,⟨_,[],rfl,Sub.new (Sub.new (Sub.refl _) ai) NL,bI,by rw[cv de.symm];exact bI,qe,by simp,by simp,b6 _⟩,λ i ρ aj _ ⟨_,_,_,_,h,_⟩=>h,?_,?_⟩
 ·rintro i x ρ aj ak ⟨dT,ax,rfl,sub,ag,cH,er,gG,al,yD⟩;have dV:(ms.map D.int)[i]?=some x:=ak;rw[fs]at dV
  cases se:ms[i]? with
  |none=>rw[se]at dV;cases dV
  | some m=>
   rw[se]at dV;cases dV;have D4:=hA se;obtain⟨n,rfl,ne⟩:=D3 m (hB.mem_iff.mp D4);have P2:i<ms.length:=(gg.mp se).1;have P3:=hB.length_eq
   obtain⟨a7,NM,iO⟩:∃ a7∈kvs,a7.1=.inl (n:Int):=by
    have:(Sum.inl (n:Int):Key)∈kvs.map (·.1):=by rw[nv];exact mY (hB.mem_iff.mp D4)
    obtain⟨a7,ae,ag⟩:=ea.mp this;exact⟨a7,ae,ag⟩
   obtain⟨NN,rP⟩:=Nf NM;rw[iO]at rP;obtain⟨c,rfl,_,aA⟩:=O.hit n NN rP;have nl:=xI n a3;refine gU (sub _ _ e) ⟨_,_,rfl,rP,c,eo n a3,rfl,sub _ _ aA,by omega,λ d hd=>aq _ (pI hd),λ cB NO NP=>gU cH ⟨_,rfl,gp (by rw[dm];omega),?_⟩⟩;rw[x6];have NQ:c8≠p:=de;refine eN.of ⟨_,hT ax n (.tup cB),rfl,λ b o dG=>by rw[cv (by rintro rfl;rw[ai]at dG;cases dG)];exact sub b o dG,by rw[cv NQ];exact ag,bI,x7 er,λ q aU=>?_,λ m=>?_,by have:=x8 ax n (.tup cB);omega⟩
   ·rcases u5 aU with rfl|⟨aU,_⟩
    ·exact⟨n,cB,rfl,NO.symm,NP⟩
    ·exact gG q aU
   ·rw[DG,al m,j4,se];simp[or_comm]
 ·rintro ρ aj ⟨dT,ax,rfl,sub,ag,cH,er,gG,al,yD⟩;refine c2.of (q p ax aj sub ai cH ⟨er,gG,λ n=>?_⟩);have D5:=al n;rw[show ((ms.map D.int).length)=ms.length from dm ..,sY]at D5;rw[D5,hB.mem_iff];refine⟨λ c=>?_,λ c=>?_⟩
  ·cases bh:cT kvs (.inl (n:Int)) with
   |none=>exact absurd (O.n6 n bh) c
   | some d=>
    obtain⟨a7,ae,ag⟩:=DH bh
    have:(Sum.inl (n:Int):Key)∈ns.map Sum.inl:=by rw[<- nv,<- ag];exact mY ae
    obtain⟨m,bc,cj⟩:=ea.mp this;cases cj;exact bc
  ·obtain⟨na,bz,ne⟩:=D3 n c
   have:n=na:=by omega
   rw[this];exact ne
noncomputable abbrev yE:b_:=top 4
theorem NR:fi ["things"] ["things"] (dw yE):=⟨rfl,rfl,rfl,by trivial,rfl,by trivial,by trivial⟩
theorem NS(B:hV mg){yF:Addr}(NT:mg "flat"=some (.ref yF))(yG:o1 P w K mg base 1 yF (cc K (C1 (λ d=>hR d/\eP d<=49000) cY)))(F:eg K "flat_sorted" "flat_sorted" yE f fd):dh P w K mg base dx 3 f fd ["things"] (cc K lB):=by
 refine gn (k:=2) F NR (λ ds G aE h=>?_) (λ b9 A outer s H E aH ds G aE h=>?_)
 ·cases h with
  |lst l es e=>rw[e];rfl
  |tup es e=>rw[e];rfl
 have D6:∀ es:List D,decide ((es.length:Int)<2)=true->eC es:=λ es c=>by
  have eT:=of_decide_eq_true c;rcases es with _|⟨x,_|⟨y,r⟩⟩
  ·exact List.Pairwise.nil
  ·exact List.pairwise_singleton ..
  ·simp at eT;omega
 refine⟨_,(cb (fy (eM o9 (f5 kx rfl B.len j6 (aK (aF 0) a_)) bp (dW _)) (cq (dR (kv q6 rfl B.tuple lW (aK (aF 0) a_)))) fZ)
  (cq (dR (uw (kv q6 rfl B.tuple lW (aK (Mg yG aH (by omega) rfl B.sorted rfl NT (aK (aF 0) a_)) a_)))))),?_⟩
 cases h with
 | lst l es e aB aq q=>
  subst e;refine c6 aB ⟨λ c=>?_,λ c=>?_⟩
  ·exact c6 aB (c2.of (q es (.refl _) (D6 es c)))
  ·have eT:=of_decide_eq_false c;refine Mj (P:=λ d=>hR d/\eP d<=49000) aB (by omega) aq.1 (λ d hd=>⟨(aq.2 d hd).1,C3 (aq.2 d hd).1,(aq.2 d hd).2⟩) λ cB ai nY a az=>?_;exact c6 bI ⟨G,Sub.new (Sub.refl _) az,c2.of (q cB ai nY)⟩
 | tup es e aq q=>
  subst e;refine⟨λ c=>?_,λ c=>?_⟩
  ·exact(c2.of (q es (.refl _) (D6 es c)))
  ·have eT:=of_decide_eq_false c;refine Mk (P:=λ d=>hR d/\eP d<=49000) (by omega) aq.1 (λ d hd=>⟨(aq.2 d hd).1,C3 (aq.2 d hd).1,(aq.2 d hd).2⟩) λ cB ai nY a az=>?_;exact c6 bI ⟨G,Sub.new (Sub.refl _) az,c2.of (q cB ai nY)⟩
noncomputable abbrev yH:b_:=top 6
theorem NU:fi ["kinds"] ["kinds"] (dw yH):=⟨rfl,rfl,rfl,by trivial,rfl,by trivial,by trivial⟩
theorem D7(vi:Got P w K mg base 3 "flat_sorted" ["things"] (cc K lB))(F:eg K "bag_of" "bag_of" yH f fd):dh P w K mg base dx 4 f fd ["kinds"] (cc K lB):=by
 refine gn (k:=3) F NU (λ ds G aE h=>?_) (λ b9 A outer s H E aH ds G aE h=>?_)
 ·cases h with
  |lst l es e=>rw[e];rfl
  |tup es e=>rw[e];rfl
 refine⟨_,(cq (dR (cI vi aH (by omega) rfl (aK (aF 0) a_)))),?_⟩
 cases h with
 |lst l es e aB aq q=>subst e;exact .lst l es rfl aB aq λ cB ae ag=>c2.of (q cB ae ag)
 |tup es e aq q=>subst e;exact .tup es rfl aq λ cB ae ag=>c2.of (q cB ae ag)
noncomputable abbrev yI:b_:=top 7
theorem NV:fi ["one","other"] ["one","other"] (dw yI):=⟨rfl,rfl,rfl,by trivial,rfl,by trivial,by trivial⟩
theorem NW(kK:Got P w K mg base 4 "bag_of" ["kinds"] (cc K lB))(F:eg K "added" "added" yI f fd):dh P w K mg base dx 5 f fd ["one","other"] (cc K x_):=by
 refine gn (k:=4) F NV (λ ds G aE h=>?_) (λ b9 A outer s H E aH ds G aE h=>?_)
 ·obtain⟨_,_,rfl,_⟩:=h;rfl
 obtain⟨a,b,rfl,aq,q⟩:=h;refine⟨_,(cq (dR (cI kK aH (by omega) rfl (aK (du jE (aF 0) (aF 1)) a_)))),?_⟩
 have hz:a.length+b.length<=sizeLine:=by have:=aq.1;rw[dN]at this;rw[d_];omega
 show _;exact⟨hz,.tup (a++b) rfl aq λ cB ae ag=>c2.of (q cB ae ag)⟩
noncomputable abbrev yJ:b_:=top 10
theorem vj:fi ["book","below","number","bag"] ["book"] (dw yJ):=⟨rfl,rfl,rfl,by trivial,rfl,by trivial,by trivial⟩
theorem NX(F:eg K "beneath" "beneath" yJ f fd):dh P w K mg base dx 1 f fd ["book"] (cc K u_):=by
 refine gn (k:=0) F vj (λ ds G aE h=>?_) (λ b9 A outer s H E aH ds G aE h=>?_)
 ·obtain⟨_,_,rfl,_⟩:=h;rfl
 obtain⟨a,ax,rfl,dq,a3,aB,q⟩:=h
 refine⟨_,(cb (eh (k:=1) vj.a3 rfl (Or.inl rfl) lv)
  (cb (ie PassesOwn.never rfl (Dp (aF 0)) (Bq (n:=2) rfl (t9 (f3 (k:=2) vj.a3 rfl (Or.inl rfl)) (t9 (f3 (k:=3) vj.a3 rfl (Or.inl rfl)) Bp))) (cq (fy (eM (uv (d2 aH)) (aF 2) bp (dW _)) (cq (mD (d2 aH) (aF 1) (du ku (aF 2) bp) (aF 3))) fZ)))
  (cq (dR (g9 (aK (Dx (d2 aH) (aF 0) bp (g9 a_) ⟨rfl,rfl,rfl,rfl⟩) (aK (aF 1) a_))))))),?_⟩
 intro p ai;have yK:gv (up G p (.bf [])) a (ax.map bY):=(db.of (Sub.new (Sub.refl _) ai)).dq dq;refine u7 yK λ o gs aL aP s2 same=>?_
 have np:a≠p:=by rintro rfl;rcases dq with e|⟨_,_,e⟩<;>(rw[ai]at e;cases e)
 refine⟨λ i ρ aj=>∃(dT cZ:Option D),ρ=[some (.ref a),some (.ref p),dT,cZ]/\(db G aj/\∀ b o,b≠a->G b=some o->aj b=some o)/\aj a=some (.gC o gs (ax.map bY))/\aj p=some (.bf ((fb (ax.take i)).map bY)),⟨_,_,rfl,⟨(db.of (Sub.new (Sub.refl _) ai)).trans s2,λ b o nb e=>by rw[same b nb];exact Sub.new (Sub.refl _) ai _ _ e⟩,aP,by rw[same p np.symm];exact bI⟩,λ i ρ aj _ ⟨_,_,_,_,h,_⟩=>h,?_,?_⟩
 ·rintro i d ρ aj ak ⟨dT,cZ,rfl,sub,az,cH⟩
  have dV:(ax[i]?).map (λ q=>D.tup [.int q.1,q.2])=some d:=by
   have z:(iv (λ a7:Key×D=>D.tup [jL a7.1,a7.2]) (iv bY ax))[i]?=some d:=ak;rw[fs,fs,s9]at z;exact z
  obtain⟨⟨n,bB⟩,cQ,rfl⟩:=hY.mp dV
  have bM:ax.take (i+1)=ax.take i++[(n,bB)]:=by rw[j4,cQ];rfl
  refine⟨λ c=>?_,λ c=>?_⟩
  ·have aS:n≠0:=by rintro rfl;cases c
   refine gU cH ⟨_,rfl,gp (by rw[dm];have ae:=ya (ax.take i);have ag:(ax.take i).length<=ax.length:=(by rw[mU];omega);omega),?_⟩
   have nw:n - 1 ∉ (fb (ax.take i)).map (·.1):=λ c=>by
    have m:=DJ c;rw[show n - 1+1=n by omega]at m;have sf:((ax.take (i+1)).map (·.1)).Nodup:=a3.sublist ((List.take_sublist _ _).map _);rw[bM,jn,sW]at sf;exact sf.2.2 _ m _ (.head _) rfl
   rw[DI nw];refine eN.of ⟨_,_,rfl,⟨sub.1.new ai,λ b o nb e=>by rw[cv (by rintro rfl;rw[ai]at e;cases e)];exact sub.2 b o nb e⟩,by rw[cv np];exact az,?_⟩;rw[bM,u9,bI];congr 3;show _=_++((List.filter (λ q:Int×D=>decide (q.1≠0)) [(n,bB)]).map λ q=>(q.1 - 1,q.2));rw[sX (by simpa using aS)];rfl
  ·have aS:n=0:=by by_cases z:n=0;exact z;exact absurd c (by simp[z])
   subst aS;refine eN.of ⟨_,_,rfl,sub,az,?_⟩;rw[bM,u9,cH,show fb [((0:Int),bB)]=[] from rfl,hj]
 ·rintro ρ aj ⟨dT,cZ,rfl,sub,az,cH⟩
  have yL:aj p=some (.bf ((fb ax).map bY)):=by rw[cH];congr 3;rw[mZ (by simp)]
  exact⟨lA (.inr ⟨_,_,az⟩) trivial,lA (.inr ⟨_,_,az⟩) ⟨_,rfl,c2.of (q p aj sub.1 sub.2 ai yL)⟩⟩
noncomputable abbrev yM:b_:=top 8
theorem sg:fi ["books","kinds_of","book","number","bag"] ["books"] (dw yM):=⟨rfl,rfl,rfl,by trivial,rfl,by trivial,by trivial⟩
theorem NY(yN:Got P w K mg base 5 "book_of" ["kinds_of"] (cc K x5))(F:eg K "books_added" "books_added" yM f fd):dh P w K mg base dx 6 f fd ["books"] (cc K va):=by
 refine gn (k:=5) F sg (λ ds G aE h=>?_) (λ b9 A outer s H E aH ds G aE h=>?_)
 ·obtain⟨_,_,rfl,_⟩:=h;rfl
 obtain⟨l,bs,rfl,aB,af,aS,aq,q⟩:=h
 refine⟨_,(cb (eh (k:=1) sg.a3 rfl (Or.inl rfl) lv)
  (cb (ie PassesOwn.never rfl (nK (aF 0)) (f3 (k:=2) sg.a3 rfl (Or.inl rfl)) (cq (ie PassesOwn.never rfl (Dp (aF 2)) (Bq (n:=2) rfl (t9 (f3 (k:=3) sg.a3 rfl (Or.inl rfl)) (t9 (f3 (k:=4) sg.a3 rfl (Or.inl rfl)) Bp))) (cq (mr (nP PySem.F.plainAttrs_list PySem.F.slot_list_extend PySem.F.type_list_extend BL (L9 (aF 1) (aF 3) (mn a_) ⟨rfl,rfl,rfl,rfl⟩) (aK (aF 4) a_)))))))
  (cq (dR (cI yN aH (by omega) rfl (aK (aF 1) a_)))))),?_⟩
 intro d hd
 have nl:l≠d:=by rintro rfl;rw[aB]at hd;cases hd
 refine nJ (show up G d (.bf []) l=_ by rw[cv nl];exact aB) ⟨λ i ρ aj=>∃(dT cZ dv:Option D)(bH:Addr->Option iq),ρ=[some (.ref l),some (.ref d),dT,cZ,dv]/\gH G aj d bH (cF (bs.take i)),⟨_,_,_,_,rfl,gH.start hd⟩,λ i ρ aj _ ⟨_,_,_,_,_,h⟩=>h.sub.lst aB,?_,?_⟩
 ·rintro i x ρ aj ak ⟨dT,cZ,dv,bH,rfl,T⟩;have dV:(bs.map λ b=>D.ref b.1)[i]?=some x:=ak;rw[fs]at dV;obtain⟨⟨a,ax⟩,cQ,rfl⟩:=hY.mp dV;obtain⟨dq,er,bk⟩:=af _ (hA cQ)
  have bM:bs.take (i+1)=bs.take i++[(a,ax)]:=by rw[j4,cQ];rfl
  have az:G a≠none:=by rcases dq with e|⟨_,_,e⟩<;>(rw[e];exact nofun)
  refine u7 (T.sub.dq dq) λ o gs aL aP s2 same=>?_;have NZ:=T.walk az s2 same;refine⟨λ j ρ aj=>∃(cZ dv:Option D)(bH:Addr->Option iq),ρ=[some (.ref l),some (.ref d),some (.ref a),cZ,dv]/\gH G aj d bH (cF (bs.take i)++dK (ax.take j))/\aj a=some (.gC o gs (ax.map bY)),⟨_,_,_,rfl,by rw[List.take_zero];show gH _ _ _ _ (_++[]);rw[hj];exact NZ,aP⟩,λ i ρ aj _ ⟨_,_,_,_,_,h⟩=>h,?_,?_⟩
  ·rintro j y ρ bP a9 ⟨cZ,dv,bH,rfl,jj,sh⟩
   have nu:(ax[j]?).map (λ q=>D.tup [.int q.1,q.2])=some y:=by
    have z:(iv (λ a7:Key×D=>D.tup [jL a7.1,a7.2]) (iv bY ax))[j]?=some y:=a9;rw[fs,fs,s9]at z;exact z
   obtain⟨hr,e1,rfl⟩:=hY.mp nu;obtain⟨n,bB,rfl,yO⟩:=bk hr (hA e1)
   have pO:dK (ax.take (j+1))=dK (ax.take j)++bB.map λ k=>(n,k):=by
    rw[j4,e1];unfold dK;rw[iY];simp[r3]
   obtain⟨kvs,cz,O⟩:=jj.jS
   have pre:(cF (bs.take i)++dK (ax.take j)).length+bB.length<=(cF bs).length:=by
    have eK:cF bs=cF (bs.take (i+1))++cF (bs.drop (i+1)):=by unfold cF;rw[<- iY,qf]
    have cU:cF (bs.take (i+1))=cF (bs.take i)++dK ax:=by rw[bM];unfold cF;rw[iY];simp
    have hK:dK ax=dK (ax.take (j+1))++dK (ax.drop (j+1)):=by unfold dK;rw[<- iY,qf]
    rw[eK,cU,hK,pO];simp only[dN,dm];omega
   have an:∀{b:Addr},G b=none->a≠b:=λ h=>by rintro rfl;exact az h
   have cp:=d_;refine⟨gU cz trivial,λ p ai=>?_⟩
   have np:d≠p:=by rintro rfl;rw[cz]at ai;cases ai
   have yP:=jj.any (o:=.lst []) ai
   have b2:up bP p (.lst []) d=some (.bf kvs):=by rw[cv np];exact cz
   have D8:lw (up bP p (.lst [])) bH (cF (bs.take i)++dK (ax.take j)) kvs:=by
    obtain⟨P4,bz,N0⟩:=yP.jS;rw[b2]at bz;cases bz;exact N0
   have ap:a≠p:=an (jj.sub.no ai);refine gU b2 ⟨_,rfl,gp (by have:=O.len;omega),λ x dV=>?_,λ hm=>?_⟩
   ·obtain⟨c,rfl,aG,aR⟩:=D8.hit n x dV;have ln:=xI n (cF (bs.take i)++dK (ax.take j));refine⟨c6 aR trivial,gS aR ⟨by omega,eN.of ⟨_,_,_,rfl,by rw[pO,<- j2];exact yP.hit b2 D8 dV aG bB,?_⟩⟩⟩;rw[cv (an (yP.ol _ _ aG).1),cv ap];exact sh
   ·have kF:up (up bP p (.lst [])) d (.bf (f8 kvs (.inl (n:Int)) (.ref p))) p=some (.lst []):=by rw[cv np.symm];exact bI
    refine⟨c6 kF trivial,gS kF ⟨by simp;omega,eN.of ⟨_,_,_,rfl,by rw[pO,<- j2];exact jj.n6 ai cz O hm yO,?_⟩⟩⟩;rw[cv ap,cv (an hd),cv ap];exact sh
  ·rintro ρ bP ⟨cZ,dv,bH,rfl,jj,_⟩;refine eN.of ⟨_,_,_,bH,rfl,?_⟩
   have e:cF (bs.take (i+1))=cF (bs.take i)++dK (ax.take (iv (λ a7:Key×D=>D.tup [jL a7.1,a7.2]) (iv bY ax)).length):=by
    rw[bM,mZ (l:=ax) (by simp)];unfold cF;rw[iY];simp
   rw[e];exact jj
 ·rintro ρ aj ⟨dT,cZ,dv,bH,rfl,T⟩;have e:bs.take (bs.map λ b=>D.ref b.1).length=bs:=mZ (by simp);have vk:gH G aj d bH (cF (bs.take (bs.map λ b=>D.ref b.1).length)):=T;rw[e]at vk;obtain⟨kvs,cz,O⟩:=vk.jS;exact⟨d,kvs,cF bs,bH,rfl,cz,O,aS,aq,λ p rs aL s2 ae ag bc=>c2.of (q p rs aL (vk.sub.trans (.of s2)) (vk.sub.no ae) ag bc)⟩
noncomputable abbrev yQ:b_:=top 17
theorem D9:fi ["_law_feed_here","_law_most","_law_some"] ["_law_feed_here","_law_most"] (dw yQ):=⟨rfl,rfl,rfl,by trivial,rfl,by trivial,by trivial⟩
theorem N1(B:hV mg)(et:Got P w K mg base 1 "_law_take" ["_law_feed_here","_law_many"] (cc K lj))(ob:Got P w K mg base 10 "_law_kind" ["_law_feed_here","_law_deep"] (cc K (rF 3)))(F:eg K "_law_kinds" "_law_kinds" yQ f fd):dh P w K mg base dx 11 f fd ["_law_feed_here","_law_most"] (cc K vb):=by
 refine gn (k:=10) F D9 (λ ds G aE h=>?_) (λ b9 A outer s H E aH ds G aE h=>?_)
 ·obtain⟨_,_,rfl,_⟩:=h;rfl
 obtain⟨a,m,rfl,fG,m0,hB,q⟩:=h
 refine⟨_,(cb (wS (k:=2) rfl D9.a3 rfl (Or.inl rfl) (fv.of (N':=["_law_k","_law_feed_here"]) (nt:=1) (cap:=[0]) rfl (by kernel_rfl)) (rb (k:=0) (by decide)) (pd rfl B.range (aK (cI et aH (by omega) rfl (aK (aF 0) (aK (du jE (aF 1) bp) a_))) a_)) (λ _ _ _ _=>(f3 (k:=0) (show List.Nodup (["_law_k","_law_feed_here"]:List Str) by trivial) rfl (Or.inl rfl)))  (λ _ _ _ _=>(cI ob aH (by omega) rfl (aK (aF 1) (aK (cI et aH (by omega) rfl (aK (aF 1) (aK bp a_))) a_)))))
  (cb (fy (g8.at (t7 (eM mw (f5 kx rfl B.len j6 (aK (aF 2) a_)) bp (dW _)) (t6 (eM (nQ (d2 aH)) (cI et aH (by omega) rfl (aK (aF 0) (aK bp a_))) bp (dW _))))) (cq (mr (nP PySem.F.plainAttrs_list PySem.F.slot_list_append PySem.F.type_list_append rm (aF 2) (aK (jb jc (aF 2) (cI et aH (by omega) rfl (aK (aF 0) (aK (f5 kx rfl B.len j6 (aK (aF 2) a_)) a_))) (λ _ _=>rfl)) a_)))) fZ)
  (cq (dR (aF 2))))),?_⟩
 refine⟨fG,by omega,by omega,λ z G1 cW yR eK=>pc (by omega) ?_⟩;refine B9 a id c5 ?_ (λ _=>trivial) cW.fd (λ d G R hf h=>⟨hf,by decide,by decide,λ k aL d6 r7 cz=>⟨a,k,rfl,d6.fd,r7,by omega,by omega,λ d aj x i _ e=>h d aj ?_ ⟨i,?_,?_⟩⟩⟩) λ es bP yt f9 hg p ai=>?_
 ·show (ha 0 (z:Int).toNat).length<=1000;rw[my];omega
 ·obtain⟨bZ,eJ,gb⟩:=x;exact⟨bZ,d6.trans eJ,gb⟩
 ·have e1:=e.gO;have:5 ^ k.toNat<=5 ^ 2:=Nat.pow_le_pow_right (by decide) (by omega);omega
 ·have e1:=e.bU;omega
 have aB:es.length=z.toNat:=by
  have e:es.length=(ha 0 z.toNat).length:=yt;rw[my]at e;exact e
 rw[List.map_id];have W:gV a G (up bP p (.lst es)):=(gV.of (cW.trans hg)).new ai;have vl:G p=none:=(cW.trans hg).none ai;have fj:p≠a:=hg.fd.ne ai;refine c6 bI ⟨λ r_=>⟨hg.fd.new ai,by decide,by decide,λ j eO hW DW fx=>⟨λ yv=>?_,λ yv=>?_⟩⟩,λ r_=>⟨λ c=>absurd c (by decide),λ _=>?_⟩⟩
 ·have yw:=of_decide_eq_true r_;have lC:eO p=some (.lst es):=hW.c9 fj bI;refine⟨c6 lC trivial,c6 lC ⟨hW.fd,by omega,by omega,λ t en jU t0 t1=>?_⟩⟩;have D_:=jU.c9 fj lC
  have cA:t.toNat<es.length:=by omega
  refine Bt D_ (d:=es[t.toNat]) ?_ (gS D_ ⟨gp (by omega),c2.of (q (es++[es[t.toNat]]) p _ ?_ bI vl ?_ ?_)⟩)
  ·have z:=mb (xs:=es) (j:=t.toNat) (cN cA)
   rwa[show ((t.toNat:Nat):Int)=t by omega]at z
  ·refine pv (G1:=up en p (.lst (es++[es[t.toNat]]))) (λ b o nb e=>?_) (.refl ?_) (.refl _)
   ·rw[cv (by rintro rfl;rw[vl]at e;cases e)];exact(hW.trans jU).c9 nb (W.c9 nb e)
   ·obtain⟨x,y,e⟩:=jU.fd;exact⟨x,y,by rw[cv fj.symm];exact e⟩
  ·rw[dN,lS];omega
  ·intro d hd;rcases fL.mp hd with hd|hd
   ·exact f9 d hd
   ·rw[oD.mp hd];exact f9 _ (mX cA)
 ·exact c2.of (q es p eO (W.trans (.of hW)) (hW.c9 fj bI) vl (by omega) f9)
 ·exact c2.of (q es p _ W bI vl (by omega) f9)
noncomputable abbrev yS:b_:=top 21
theorem yT:fi ["_law_book_here","_law_found","_law_name"] ["_law_book_here"] (dw yS):=⟨rfl,rfl,rfl,by trivial,rfl,by trivial,by trivial⟩
theorem N2(F:eg K "_law_under" "_law_under" yS f fd):dh P w K mg base dx 1 f fd ["_law_book_here"] (cc K yd):=by
 refine gn (k:=0) F yT (λ ds G aE h=>?_) (λ b9 A outer s H E aH ds G aE h=>?_)
 ·obtain⟨_,_,rfl,_⟩:=h;rfl
 obtain⟨a,ax,rfl,dq,a3,aB,h0,q⟩:=h
 refine⟨_,(cb (eh (k:=1) yT.a3 rfl (Or.inl rfl) lv)
  (cb (ie PassesOwn.never rfl (Do (aF 0)) (f3 (k:=2) yT.a3 rfl (Or.inl rfl)) (cq (fy (eM mw (aF 2) bp (dW _)) (cq (mD (d2 aH) (aF 1) (du ku (aF 2) bp) (Dw (d2 aH) (aF 0) (aF 2) (λ _ _=>rfl)))) fZ)))
  (cq (dR (g9 (aK (Dx (d2 aH) (aF 0) bp (g9 a_) ⟨rfl,rfl,rfl,rfl⟩) (aK (aF 1) a_))))))),?_⟩
 intro p ai;have yK:gv (up G p (.bf [])) a (ax.map bY):=(db.of (Sub.new (Sub.refl _) ai)).dq dq;refine u7 yK λ o gs aL aP s2 same=>?_
 have np:a≠p:=by rintro rfl;rcases dq with e|⟨_,_,e⟩<;>(rw[ai]at e;cases e)
 refine⟨λ i ρ aj=>∃(dT:Option D),ρ=[some (.ref a),some (.ref p),dT]/\(db G aj/\∀ b o,b≠a->G b=some o->aj b=some o)/\aj a=some (.gC o gs (ax.map bY))/\aj p=some (.bf ((fb (ax.take i)).map bY)),⟨_,rfl,⟨(db.of (Sub.new (Sub.refl _) ai)).trans s2,λ b o nb e=>by rw[same b nb];exact Sub.new (Sub.refl _) ai _ _ e⟩,aP,by rw[same p np.symm];exact bI⟩,λ i ρ aj _ ⟨_,_,_,h,_⟩=>h,?_,?_⟩
 ·rintro i d ρ aj ak ⟨dT,rfl,sub,az,cH⟩
  have dV:(ax[i]?).map (λ q=>D.int q.1)=some d:=by
   have z:(iv (λ a7:Key×D=>jL a7.1) (iv bY ax))[i]?=some d:=ak;rw[fs,fs,s9]at z;exact z
  obtain⟨⟨n,bB⟩,cQ,rfl⟩:=hY.mp dV
  have bM:ax.take (i+1)=ax.take i++[(n,bB)]:=by rw[j4,cQ];rfl
  have pJ:=h0 _ (hA cQ);have bh:=r2 a3 _ (hA cQ);refine⟨λ c=>?_,λ c=>?_⟩
  ·have aS:n≠0:=by rintro rfl;cases c
   refine lA (.inr ⟨_,_,az⟩) ⟨_,_,rfl,bh,gU cH ⟨_,rfl,gp (by rw[dm];have ae:=ya (ax.take i);have ag:(ax.take i).length<=ax.length:=(by rw[mU];omega);omega),?_⟩⟩
   have nw:n - 1 ∉ (fb (ax.take i)).map (·.1):=λ c=>by
    have m:=DJ c;rw[show n - 1+1=n by omega]at m;have sf:((ax.take (i+1)).map (·.1)).Nodup:=a3.sublist ((List.take_sublist _ _).map _);rw[bM,jn,sW]at sf;exact sf.2.2 _ m _ (.head _) rfl
   rw[DI nw];refine eN.of ⟨_,rfl,⟨sub.1.new ai,λ b o nb e=>by rw[cv (by rintro rfl;rw[ai]at e;cases e)];exact sub.2 b o nb e⟩,by rw[cv np];exact az,?_⟩;rw[bM,u9,bI];congr 3;show _=_++((List.filter (λ q:Int×D=>decide (q.1≠0)) [(n,bB)]).map λ q=>(q.1 - 1,q.2));rw[sX (by simpa using aS)];rfl
  ·have aS:n=0:=by have:=of_decide_eq_false c;have P5:0<=n:=pJ;omega
   subst aS;refine eN.of ⟨_,rfl,sub,az,?_⟩;rw[bM,u9,cH,show fb [((0:Int),bB)]=[] from rfl,hj]
 ·rintro ρ aj ⟨dT,rfl,sub,az,cH⟩
  have yL:aj p=some (.bf ((fb ax).map bY)):=by rw[cH];congr 3;rw[mZ (by simp)]
  exact⟨lA (.inr ⟨_,_,az⟩) trivial,lA (.inr ⟨_,_,az⟩) ⟨_,rfl,c2.of (q p aj sub.1 sub.2 ai yL)⟩⟩
noncomputable abbrev yU:b_:=top 18
theorem vm:fi ["_law_some","_law_found","_law_kind_here","_law_at"] ["_law_some"] (dw yU):=⟨rfl,rfl,rfl,by trivial,rfl,by trivial,by trivial⟩
theorem N3(B:hV mg)(F:eg K "_law_sorted" "_law_sorted" yU f fd):dh P w K mg base dx 1 f fd ["_law_some"] (cc K r4):=by
 refine gn (k:=0) F vm (λ ds G aE h=>?_) (λ b9 A outer s H E aH ds G aE h=>?_)
 ·obtain⟨_,_,rfl,_⟩:=h;rfl
 obtain⟨l,es,rfl,aB,P6,aq,q⟩:=h
 refine⟨_,(cb (eh (k:=1) vm.a3 rfl (Or.inl rfl) (mn a_))
  (cb (ie PassesOwn.never rfl (nK (aF 0)) (f3 (k:=2) vm.a3 rfl (Or.inr rfl)) (cb (eh (k:=3) vm.a3 rfl (Or.inl rfl) (uw (f5 kx rfl B.len j6 (aK (J4 rfl (fv.of (N':=["_law_one","_law_kind_here"]) (nt:=1) (cap:=[2]) rfl (by kernel_rfl)) (rb (k:=0) (by decide)) (nK (aF 1)) (λ _ _ _ _=>(f3 (k:=0) (show List.Nodup (["_law_one","_law_kind_here"]:List Str) by trivial) rfl (Or.inl rfl))) (λ _ _ _ _=>(eM (MN (d2 aH)) (aF 0) (aF 1) (dW _))) (λ _ _ _ _=>(aF 0))) a_))))
  (cq (mr (Na PySem.F.plainAttrs_list PySem.F.slot_list_insert PySem.F.type_list_insert Nb (aF 1) (aK (aF 3) (aK (aF 2) a_)))))))
  (cq (dR (kv q6 rfl B.tuple lW (aK (aF 1) a_)))))),?_⟩
 intro p ai
 have np:l≠p:=by rintro rfl;rw[aB]at ai;cases ai
 refine nJ (show up G p (.lst []) l=_ by rw[cv np];exact aB) ⟨λ i ρ aj=>∃(dT cZ:Option D)(xs:List D),ρ=[some (.ref l),some (.ref p),dT,cZ]/\Sub G aj/\aj p=some (.lst xs)/\(es.take i).Perm xs/\eC xs,⟨_,_,[],rfl,Sub.new (Sub.refl _) ai,bI,.nil,List.Pairwise.nil⟩,λ i ρ aj _ ⟨_,_,_,_,h,_⟩=>h _ _ aB,?_,?_⟩
 ·rintro i k ρ aj ak ⟨dT,cZ,xs,rfl,sub,cH,pm,ji⟩;have dV:es[i]?=some k:=ak;have au:=(gg.mp dV).1;obtain⟨e5,P7⟩:=aq k (hA dV);have im:∀ d∈xs,bE d/\d.bU<=100:=λ d hd=>aq d (List.mem_of_mem_take (pm.mem_iff.mpr hd))
  have P8:xs.length<=60:=by have:=pm.length_eq;rw[mU]at this;omega
  refine nJ cH (J1 (λ j ds dD=>dD=aj/\ds=(xs.take j).filter (leB k)) (gp (by show xs.length<=200000;omega)) ⟨rfl,rfl⟩ (λ j ds dD _ h=>by rw[h.1];exact cH) ?_ ?_)
  ·rintro j d ds dD hd ⟨rfl,rfl⟩;have h2:xs[j]?=some d:=hd;obtain⟨hv,P9⟩:=im d (hA h2);obtain⟨b,af⟩:=iZ.mp (e5.lt hv)
   have bM:xs.take (j+1)=xs.take j++[d]:=by rw[j4,h2];rfl
   have mF:leB k d=!b:=by unfold leB;rw[af];rfl
   refine⟨hv.data,e5.data,by omega,b,af,λ c=>?_,λ c=>?_⟩
   ·exact je.of ⟨rfl,by rw[bM,List.filter_append,sX (by rw[mF];exact c)];rfl⟩
   ·exact je.of ⟨rfl,by rw[bM,List.filter_append,List.filter_cons_of_neg (by rw[mF,c];decide)];simp⟩
  ·rintro ds dD ⟨rfl,rfl⟩ c8 h9
   have e:(xs.take xs.length).filter (leB k)=xs.filter (leB k):=by rw[sY]
   refine c6 bI ⟨dD,Sub.new (Sub.refl _) h9,?_⟩;have kZ:(xs.filter (leB k)).length<=xs.length:=List.length_filter_le ..;refine⟨c6 cH trivial,gS cH ⟨(xs.filter (leB k)).length,congrArg (λ ds:List D=>((ds.length:Nat):Int)) e,kZ,gp (by omega),eN.of ⟨_,_,_,rfl,λ b o dG=>by rw[cv (by rintro rfl;rw[ai]at dG;cases dG)];exact sub b o dG,bI,?_,DL e5 (λ d hd=>(im d hd).1) ji⟩⟩⟩;rw[j4,dV];exact((List.perm_append_comm (l₁:=es.take i) (l₂:=[k])).trans (pm.cons k)).trans (Nk _).symm
 ·rintro ρ aj ⟨dT,cZ,xs,rfl,sub,cH,pm,ji⟩;have Ea:(es.take es.length).Perm xs:=pm;rw[sY]at Ea;exact c6 cH (c2.of (q xs aj sub Ea ji))
noncomputable abbrev yV:b_:=top 22
theorem N4:fi ["_law_found","_law_due"] ["_law_found","_law_due"] (dw yV):=⟨rfl,rfl,rfl,by trivial,rfl,by trivial,by trivial⟩
theorem N5(B:hV mg)(F:eg K "_law_is_bag" "_law_is_bag" yV f fd):dh P w K mg base dx 1 f fd ["_law_found","_law_due"] (cc K ye):=by
 refine gn (k:=0) F N4 (λ ds G aE h=>?_) (λ b9 A outer s H E aH ds G aE h=>?_)
 ·obtain⟨_,rfl,_⟩:=h;rfl
 obtain⟨es,rfl,hd,hz,q⟩:=h;refine⟨_,(cq (dR (wK (f5 uy rfl B.isinstance oH (aK (aF 0) (aK (o7 rfl B.tuple lW) a_))) (Bn (q3 (nQ (d2 aH)) (aF 0) (aF 1) (dW _)))))),?_⟩;exact⟨true,rfl,λ _=>wX hd hd (by omega) (by rw[ky hd];exact c2.of q),nofun⟩
noncomputable abbrev yW:b_:=top 19
theorem si:fi ["_law_feed_here","_law_book_here","_law_k","_law_name","_law_some"] ["_law_feed_here"] (dw yW):=⟨rfl,rfl,rfl,by trivial,rfl,by trivial,by trivial⟩
theorem N6(B:hV mg)(et:Got P w K mg base 1 "_law_take" ["_law_feed_here","_law_many"] (cc K lj))(od:Got P w K mg base 11 "_law_kinds" ["_law_feed_here","_law_most"] (cc K vb))(jV:Got P w K mg base 1 "_law_sorted" ["_law_some"] (cc K r4))(F:eg K "_law_book" "_law_book" yW f fd):dh P w K mg base dx 12 f fd ["_law_feed_here"] (cc K yf):=by
 refine gn (k:=11) F si (λ ds G aE h=>?_) (λ b9 A outer s H E aH ds G aE h=>?_)
 ·obtain⟨_,rfl,_⟩:=h;rfl
 obtain⟨a,rfl,fG,q⟩:=h
 refine⟨_,(cb (eh (k:=1) si.a3 rfl (Or.inl rfl) lv)
  (cb (ie PassesOwn.never rfl (pd rfl B.range (aK (cI et aH (by omega) rfl (aK (aF 0) (aK bp a_))) a_)) (f3 (k:=2) si.a3 rfl (Or.inl rfl)) (cb (eh (k:=3) si.a3 rfl (Or.inl rfl) (rr (aK bp (aK (cI et aH (by omega) rfl (aK (aF 0) (aK bp a_))) (aK (cI et aH (by omega) rfl (aK (aF 0) (aK bp a_))) a_))) (cI et aH (by omega) rfl (aK (aF 0) (aK bp a_))) (λ _ _=>rfl)))
  (cb (eh (k:=4) si.a3 rfl (Or.inl rfl) (cI od aH (by omega) rfl (aK (aF 0) (aK bp a_))))
  (cq (fy (eM (uv (d2 aH)) (aF 4) (mn a_) (dW _)) (cq (mD (d2 aH) (aF 1) (aF 3) (cI jV aH (by omega) rfl (aK (aF 4) a_)))) fZ)))))
  (cq (dR (aF 1))))),?_⟩
 intro p ai;have fj:p≠a:=fG.ne ai;refine⟨fG.new ai,by decide,by decide,λ z G1 cW yR eK=>pc (by omega) ⟨λ i ρ aj=>∃(dT cZ dv:Option D)(ax:List (Int×D)),ρ=[some (.ref a),some (.ref p),dT,cZ,dv]/\(∀ b o,b≠a->G b=some o->aj b=some o)/\e9 aj a/\aj p=some (.bf (ax.map bY))/\hU ax/\ax.length<=i,⟨_,_,_,[],rfl,λ b o nb e=>cW.c9 nb (Sub.new (Sub.refl _) ai _ _ e),cW.fd,cW.c9 fj bI,⟨⟨qe,nofun⟩,by decide,nofun⟩,b6 _⟩,λ _ _ _ _ _=>trivial,?_,?_⟩⟩
 ·rintro i x ρ aL ak ⟨dT,cZ,dv,ax,rfl,c9,fd,cH,bk,yD⟩
  have au:i<4:=by
   have:=(gg.mp ak).1;have e:(ha 0 z.toNat).length=z.toNat:=my ..;have h':i<(ha 0 z.toNat).length:=this;omega
  refine⟨fd,by decide,by decide,λ t1 bP hg N7 a1=>⟨hg.fd,by decide,by decide,λ b8 eO hW jh pl=>⟨hW.fd,by decide,by decide,λ t3 en jU N8 d7=>?_⟩⟩⟩;have u:=(hg.trans hW).trans jU;refine Nl N8 d7 (Int.le_refl 0) N7 jh λ n pJ=>?_;refine⟨a,2,rfl,jU.fd,by decide,by decide,λ es cp gD yX u0 P_ len n4=>?_⟩;have N9:gD p=some (.bf (ax.map bY)):=yX.c9 fj (u.c9 fj cH);have Eb:∀ b o,b≠a->G b=some o->gD b=some o:=λ b o nb e=>yX.c9 nb (u.c9 nb (c9 b o nb e));obtain⟨dl,yY⟩:=c5.r5 n4;intro c8 h9;have h8:Sub gD (up gD c8 (.lst [])):=Sub.new (Sub.refl _) h9;have Ec:=h8 _ _ N9;have sj:e9 (up gD c8 (.lst [])) a:=yX.fd.new h9;refine c6 (h8 _ _ u0) (c6 bI ⟨dl,rfl,yY,λ c=>?_,λ c=>?_⟩)
  ·have ne:es≠[]:=by rintro rfl;cases c
   refine⟨cp,es,rfl,h8 _ _ u0,by omega,λ d hd=>⟨(n4 d hd).hv.jO,by have:=(n4 d hd).bU;omega⟩,λ cB yZ kl pm ji=>gU (kl _ _ Ec) ⟨_,rfl,gp (by rw[dm];omega),?_⟩⟩;rw[x6]
   have ne':cB≠[]:=by rintro rfl;exact ne pm.eq_nil
   have N_:e9 yZ a:=by obtain⟨x,y,e⟩:=sj;exact⟨x,y,kl _ _ e⟩
   refine eN.of ⟨_,_,_,hT ax n (.tup cB),rfl,λ b o nb e=>?_,?_,bI,bk.put (by omega) pJ ne' (by have:=pm.length_eq;omega) ji λ d hd=>n4 d (pm.mem_iff.mpr hd),by have:=x8 ax n (.tup cB);omega⟩
   ·rw[cv (by rintro rfl;rw[ai]at e;cases e)];exact kl _ _ (h8 _ _ (Eb b o nb e))
   ·obtain⟨x,y,e⟩:=N_;exact⟨x,y,by rw[cv fj.symm];exact e⟩
  ·exact eN.of ⟨_,_,_,ax,rfl,λ b o nb e=>h8 _ _ (Eb b o nb e),sj,Ec,bk,by omega⟩
 ·rintro ρ aL ⟨dT,cZ,dv,ax,rfl,c9,fd,cH,bk,yD⟩;exact c2.of (q p ax aL (pv c9 (.refl fd) (.refl _)) ai cH bk)
noncomputable abbrev y0:b_:=top 20
theorem vn:fi ["_law_books","_law_found","_law_book_here","_law_name"] ["_law_books"] (dw y0):=⟨rfl,rfl,rfl,by trivial,rfl,by trivial,by trivial⟩
theorem Oa(B:hV mg)(jV:Got P w K mg base 1 "_law_sorted" ["_law_some"] (cc K r4))(F:eg K "_law_gathered" "_law_gathered" y0 f fd):dh P w K mg base dx 2 f fd ["_law_books"] (cc K yg):=by
 refine gn (k:=1) F vn (λ ds G aE h=>?_) (λ b9 A outer s H E aH ds G aE h=>?_)
 ·obtain⟨_,_,rfl,_⟩:=h;rfl
 obtain⟨l,bs,rfl,aB,af,aS,aq,q⟩:=h
 refine⟨_,(cb (eh (k:=1) vn.a3 rfl (Or.inl rfl) lv)
  (cb (ie PassesOwn.never rfl (nK (aF 0)) (f3 (k:=2) vn.a3 rfl (Or.inl rfl)) (cq (ie PassesOwn.never rfl (Do (aF 2)) (f3 (k:=3) vn.a3 rfl (Or.inl rfl)) (cq (mD (d2 aH) (aF 1) (aF 3) (cI jV aH (by omega) rfl (aK (uw (du jE (kv ug rfl B.list td (aK (L8 (d2 aH) (aF 1) (aF 3) (g9 a_) ⟨rfl,rfl,rfl,rfl⟩) a_)) (kv ug rfl B.list td (aK (Dw (d2 aH) (aF 2) (aF 3) (λ _ _=>rfl)) a_)))) a_)))))))
  (cq (dR (aF 1))))),?_⟩
 intro d hd
 have nl:l≠d:=by rintro rfl;rw[aB]at hd;cases hd
 refine nJ (show up G d (.bf []) l=_ by rw[cv nl];exact aB) ⟨λ i ρ aj=>∃(dT cZ:Option D)(rs:List (Int×D)),ρ=[some (.ref l),some (.ref d),dT,cZ]/\db G aj/\aj d=some (.bf (rs.map bY))/\fK (cF (bs.take i)) rs,⟨_,_,[],rfl,(db.refl _).new hd,bI,⟨qe,nofun,λ n=>⟨λ c=>absurd rfl c,nofun⟩⟩⟩,λ i ρ aj _ ⟨_,_,_,_,h,_⟩=>h.lst aB,?_,?_⟩
 ·rintro i x ρ aj ak ⟨dT,cZ,rs,rfl,sub,cH,y1⟩;have dV:(bs.map λ b=>D.ref b.1)[i]?=some x:=ak;rw[fs]at dV;obtain⟨⟨a,ax⟩,cQ,rfl⟩:=hY.mp dV;obtain⟨dq,er,bk⟩:=af _ (hA cQ)
  have bM:bs.take (i+1)=bs.take i++[(a,ax)]:=by rw[j4,cQ];rfl
  have az:G a≠none:=by rcases dq with e|⟨_,_,e⟩<;>(rw[e];exact nofun)
  refine u7 (sub.dq dq) λ o gs aL aP s2 same=>?_
  have ad:a≠d:=by rintro rfl;exact az hd
  have Ob:aL d=some (.bf (rs.map bY)):=by rw[same d ad.symm];exact cH
  refine⟨λ j ρ aj=>∃(cZ:Option D)(rs:List (Int×D)),ρ=[some (.ref l),some (.ref d),some (.ref a),cZ]/\db G aj/\aj d=some (.bf (rs.map bY))/\fK (cF (bs.take i)++dK (ax.take j)) rs/\aj a=some (.gC o gs (ax.map bY)),⟨_,rs,rfl,sub.trans s2,Ob,by rw[List.take_zero];show fK (_++[]) _;rw[hj];exact y1,aP⟩,λ i ρ aj _ ⟨_,_,_,_,_,_,h⟩=>h,?_,?_⟩
  ·rintro j y ρ bP a9 ⟨cZ,rs,rfl,y2,sk,sl,sh⟩
   have nu:(ax[j]?).map (λ q=>D.int q.1)=some y:=by
    have z:(iv (λ a7:Key×D=>jL a7.1) (iv bY ax))[j]?=some y:=a9;rw[fs,fs,s9]at z;exact z
   obtain⟨hr,e1,rfl⟩:=hY.mp nu;obtain⟨n,bB,rfl,yO⟩:=bk hr (hA e1)
   have pO:dK (ax.take (j+1))=dK (ax.take j)++bB.map λ k=>(n,k):=by
    rw[j4,e1];unfold dK;rw[iY];simp[r3]
   have pre:(cF (bs.take i)++dK (ax.take j)).length+bB.length<=(cF bs).length/\∀ z∈(cF (bs.take i)++dK (ax.take j))++bB.map (λ k=>(n,k)),z∈cF bs:=by
    have eK:cF bs=cF (bs.take (i+1))++cF (bs.drop (i+1)):=by unfold cF;rw[<- iY,qf]
    have cU:cF (bs.take (i+1))=cF (bs.take i)++dK ax:=by rw[bM];unfold cF;rw[iY];simp
    have hK:dK ax=dK (ax.take (j+1))++dK (ax.drop (j+1)):=by unfold dK;rw[<- iY,qf]
    have ml:cF bs=(cF (bs.take i)++dK (ax.take j))++bB.map (λ k=>(n,k))++(dK (ax.drop (j+1))++cF (bs.drop (i+1))):=by
     rw[eK,cU,hK,pO];simp only[j2]
    exact⟨by rw[ml];simp only[dN,dm];omega,λ z hz=>by rw[ml];exact sN _ hz⟩
   obtain⟨jh,bh,lb⟩:=sl.bB n;have aU:=r2 er _ (hA e1)
   have Qa:jh.length<=(cF (bs.take i)++dK (ax.take j)).length:=by rw[lb.length_eq];exact xI ..
   have dj:=x9 sl;have cp:=d_;refine⟨gU sk trivial,gU sk ⟨_,rfl,?_⟩⟩;rw[bh];intro gj Ed;have s1:Sub bP (up bP gj (.lst jh)):=Sub.new (Sub.refl _) Ed;refine lA (.inr ⟨_,_,s1 _ _ sh⟩) ⟨_,_,rfl,aU,λ c8 h9=>?_⟩;have Ee:Sub (up bP gj (.lst jh)) (up (up bP gj (.lst jh)) c8 (.lst bB)):=Sub.new (Sub.refl _) h9;refine gS (Ee _ _ bI) (gS bI ⟨by omega,λ io y3=>?_⟩);have s3:Sub (up (up bP gj (.lst jh)) c8 (.lst bB)) (up (up (up bP gj (.lst jh)) c8 (.lst bB)) io (.lst (jh++bB))):=Sub.new (Sub.refl _) y3;have tw:=(s1.trans Ee).trans s3;refine⟨_,Sub.refl _,io,jh++bB,rfl,bI,by rw[dN];omega,λ d hd=>?_,λ cB dD qO pm ji=>gU (qO _ _ (tw _ _ sk)) ⟨_,rfl,gp (by rw[dm];omega),?_⟩⟩
   ·refine aq (n,d) (pre.2 _ ?_);rcases fL.mp hd with hd|hd
    ·exact sN _ (pI (lb.mem_iff.mp hd))
    ·exact dc _ (mY hd)
   rw[x6];refine eN.of ⟨_,hT rs n (.tup cB),rfl,(y2.trans (.of (tw.trans qO))).new hd,bI,?_,by rw[cv ad];exact qO _ _ (tw _ _ sh)⟩;rw[pO,<- j2];exact sl.add (pm.symm.trans (lb.append (.refl _))) ji yO
  ·rintro ρ bP ⟨cZ,rs,rfl,y2,sk,sl,_⟩;refine eN.of ⟨_,_,rs,rfl,y2,sk,?_⟩
   have e:cF (bs.take (i+1))=cF (bs.take i)++dK (ax.take (iv (λ a7:Key×D=>jL a7.1) (iv bY ax)).length):=by
    rw[bM,mZ (l:=ax) (by simp)];unfold cF;rw[iY];simp
   rw[e];exact sl
 ·rintro ρ aj ⟨dT,cZ,rs,rfl,sub,cH,y1⟩;have e:bs.take (bs.map λ b=>D.ref b.1).length=bs:=mZ (by simp);have Ef:fK (cF (bs.take (bs.map λ b=>D.ref b.1).length)) rs:=y1;rw[e]at Ef;exact c2.of (q d rs aj sub hd cH Ef)
noncomputable abbrev y4:b_:=top 23
theorem mO:fi ["_law_books","_law_handed","_law_due","_law_turn","_law_found","_law_book_here"] ["_law_books"] (dw y4):=⟨rfl,rfl,rfl,by trivial,rfl,by trivial,by trivial⟩
theorem Oc(B:hV mg)(y5:Got P w K mg base 2 "_law_gathered" ["_law_books"] (cc K yg))(pP:Got P w K mg base 6 "books_added" ["books"] (cc K va))(pQ:Got P w K mg base 1 "beneath" ["book"] (cc K u_))(y6:Got P w K mg base 1 "_law_under" ["_law_book_here"] (cc K yd))(F:eg K "_law_books_right" "_law_books_right" y4 f fd):dh P w K mg base dx 7 f fd ["_law_books"] (cc K yh):=by
 refine gn (k:=6) F mO (λ ds G aE h=>?_) (λ b9 A outer s H E aH ds G aE h=>?_)
 ·obtain⟨_,_,rfl,_⟩:=h;rfl
 obtain⟨l,bs,rfl,aB,di,af,aS,q⟩:=h
 refine⟨_,(cb (wS (k:=1) rfl mO.a3 rfl (Or.inl rfl) (fv.of (N':=["_law_book_here"]) (nt:=1) (cap:=[]) rfl (by kernel_rfl)) (rb (k:=0) (by decide)) (nK (aF 0)) (λ _ _ _ _=>(f3 (k:=0) (show List.Nodup (["_law_book_here"]:List Str) by trivial) rfl (Or.inl rfl)))  (λ _ _ _ _=>(kv MS rfl B.dict PyProof.Rows.boot_dict (aK (aF 0) a_))))
  (cb (eh (k:=2) mO.a3 rfl (Or.inl rfl) (cI y5 aH (by omega) rfl (aK (aF 0) a_)))
  (cb (ie PassesOwn.never rfl (pd rfl B.range (aK bp a_)) (f3 (k:=3) mO.a3 rfl (Or.inl rfl)) (cb (eh (k:=4) mO.a3 rfl (Or.inl rfl) (cI pP aH (by omega) rfl (aK (aF 1) a_)))
  (cb (fy (g8.at (mq (mo (kr (f5 Df rfl B.isinstance oH (aK (aF 4) (aK (o7 rfl B.dict PyProof.Rows.boot_dict) a_))))) (mq (eM (M6 (d2 aH)) (aF 4) (aF 2) (dW _)) (q4 (eM (DC (d2 aH)) (aF 1) (aF 0) (dW _)))))) (cq (dR q1)) fZ)
  (cb (mD (d2 aH) (aF 4) bp (g9 a_))
  (cq (mD (d2 aH) (aF 4) bp (g9 (aK (g9 (aK nF a_)) a_))))))))
  (cb (ie PassesOwn.never rfl (nK (aF 0)) (f3 (k:=5) mO.a3 rfl (Or.inl rfl)) (cq (ie PassesOwn.never rfl (pd rfl B.range (aK bp a_)) (f3 (k:=3) mO.a3 rfl (Or.inl rfl)) (cb (eh (k:=4) mO.a3 rfl (Or.inl rfl) (cI pQ aH (by omega) rfl (aK (aF 5) a_)))
  (cb (fy (g8.at (mq (mo (kr (f5 uy rfl B.isinstance oH (aK (aF 4) (aK (o7 rfl B.tuple lW) a_))))) (mq (eM (DC (d2 aH)) (aF 4) (cI y6 aH (by omega) rfl (aK (aF 5) a_)) (dW _)) (q4 (mo (kr (f5 Df rfl B.isinstance oH (aK (jb jc (aF 4) bp (λ _ _=>rfl)) (aK (o7 rfl B.dict PyProof.Rows.boot_dict) a_))))))))) (cq (dR q1)) fZ)
  (cq (mD (d2 aH) (jb jc (aF 4) bp (λ _ _=>rfl)) bp (g9 a_))))))))
  (cq (dR (q3 (DB (d2 aH)) (aF 1) (aF 0) (dW _)))))))),?_⟩
 have e5:=Nq λ b cf=>(af b cf).2;refine nJ aB (wR (λ i ds aj=>∃ ar:List (Addr×List (Int×D)),ds=ar.map (λ b=>D.ref b.1)/\ar.map (·.2)=(bs.take i).map (·.2)/\Sub G aj/\∀ b∈ar,gv aj b.1 (b.2.map bY)/\G b.1=none) (gp (by rw[dm];omega)) ⟨[],rfl,rfl,Sub.refl _,nofun⟩ (λ i ds aj _ ⟨_,_,_,h,_⟩=>h _ _ aB) ?_ ?_)
 ·rintro i x ds aj ak ⟨ar,rfl,aP,sub,fu⟩;have dV:(bs.map λ b=>D.ref b.1)[i]?=some x:=ak;rw[fs]at dV;obtain⟨⟨a,ax⟩,cQ,rfl⟩:=hY.mp dV;obtain⟨dq,_⟩:=af _ (hA cQ);refine lA ((db.of sub).dq dq) λ p ai=>je.of ⟨ar++[(p,ax)],by rw[jn];rfl,by rw[jn,aP,j4,cQ,jn];rfl,λ b o e=>Sub.new (Sub.refl _) ai _ _ (sub b o e),λ b cf=>?_⟩;rcases fL.mp cf with cf|cf
  ·exact⟨(db.of (Sub.new (Sub.refl _) ai)).dq (fu b cf).1,(fu b cf).2⟩
  ·rw[oD.mp cf];exact⟨.inl bI,sub.none ai⟩
 ·rintro ds G1 ⟨ar,rfl,aP,sub,fu⟩ kL Od
  have gx:ar.map (·.2)=bs.map (·.2):=by
   have e:(bs.take (bs.map λ b=>D.ref b.1).length)=bs:=mZ (by simp);have kk:ar.map (·.2)=(bs.take (bs.map λ b=>D.ref b.1).length).map (·.2):=aP;rw[e]at kk;exact kk
  have s2:Sub G1 (up G1 kL (.lst (ar.map λ b=>.ref b.1))):=Sub.new (Sub.refl _) Od;have vo:db G (up G1 kL (.lst (ar.map λ b=>.ref b.1))):=.of (sub.trans s2);have L2:up G1 kL (.lst (ar.map λ b=>D.ref b.1)) kL=some (.lst (ar.map λ b=>.ref b.1)):=bI;have aO:∀ b∈ar,gv (up G1 kL (.lst (ar.map λ b=>.ref b.1))) b.1 (b.2.map bY):=λ b cf=>(db.of s2).dq (fu b cf).1;generalize up G1 kL (.lst (ar.map λ b=>D.ref b.1))=aL at vo L2 aO ⊢
  have kC:∀ x∈ar,∀ y∈bs,x.1≠y.1:=λ x ak y a9 c=>by
   have n:=(fu x ak).2;rw[c]at n;rcases(af y a9).1 with e|⟨_,_,e⟩<;>(rw[n]at e;cases e)
  refine⟨l,bs,rfl,vo.lst aB,λ b cf=>⟨vo.dq (af b cf).1,(af b cf).2.bk⟩,aS,λ z hz=>⟨(e5 z hz).hv.jO,by have:=(e5 z hz).bU;omega⟩,λ y7 dq bP s3 Qb bc Eg=>?_⟩
  have Oe:∀ b∈ar,hU b.2:=λ b cf=>by
   have m:b.2∈bs.map (·.2):=by rw[<- gx];exact mY cf
   obtain⟨y,a9,e⟩:=ea.mp m;rw[<- e];exact(af y a9).2
  have aU:=Np gx;have jj:db G bP:=vo.trans s3;have y8:=s3.lst L2;have b1:∀ b∈ar,gv bP b.1 (b.2.map bY):=λ b cf=>s3.dq (aO b cf)
  have Eh:∀{rs:List (Int×D)},fK (cF bs) rs->hc (rs.map bY):=λ{rs} h p ai=>by
   obtain⟨z,hz,rfl⟩:=ea.mp ai;obtain⟨bB,e,hm⟩:=Nh h z hz
   have cK:∀ d∈bB,c5 d:=λ d hd=>by obtain⟨n,vJ⟩:=hm d hd;exact e5 _ vJ
   show z.2.data=true/\z.2.bU<=150;rw[e,D.data,D.bU];exact⟨(c5.r5 cK).1,by have:da bB<=7:=ps λ d hd=>(cK d hd).bU;omega⟩
  refine pc (by decide) ⟨λ i ρ aj=>∃(cZ dv jW:Option D),ρ=[some (.ref l),some (.ref kL),some (.ref y7),cZ,dv,jW]/\db bP aj,⟨_,_,_,rfl,.refl _⟩,λ _ _ _ _ _=>trivial,?_,?_⟩
  ·rintro i x ρ eO _ ⟨cZ,dv,jW,rfl,s4⟩;refine⟨kL,ar,rfl,s4.lst y8,λ b cf=>⟨s4.dq (b1 b cf),(Oe b cf).bk⟩,by rw[aU];omega,λ z hz=>by rw[aU]at hz;exact⟨(e5 z hz).hv.jO,by have:=(e5 z hz).gO;omega⟩,λ p rs en s5 mA kF vp=>?_⟩;rw[aU]at vp;have sm:=s4.trans s5;have pR:db G en:=jj.trans sm;obtain⟨eV,t1,b8⟩:=gX.same gx (λ b cf=>sm.dq (b1 b cf)) (λ b cf=>⟨pR.dq (af b cf).1,(af b cf).2⟩) kC;have be:=Nd (λ z hz=>(e5 z hz).hv.jO) vp Eg;have Og:=Eh vp;have qB:gv en p (rs.map bY):=.inl kF;have dj:=x9 vp;refine gU kF ⟨rfl,⟨nofun,λ _=>?_⟩⟩;refine lA qB (lA (sm.dq (.inl bc)) ⟨Og,Eh Eg,?_⟩);rw[be];refine⟨nofun,λ _=>?_⟩;refine c6 (sm.lst y8) (c6 (pR.lst aB) ⟨eV,t1,?_⟩);rw[b8];refine⟨nofun,λ _=>?_⟩;refine gU kF ⟨_,rfl,gp (by rw[dm];omega),gU bI ⟨_,rfl,gp (gZ (BX ..) (by rw[dm];omega)),eN.of ⟨_,_,_,rfl,(sm.new (s4.no mA)).new (s4.no mA)⟩⟩⟩
  ·rintro ρ eO ⟨cZ,dv,jW,rfl,s4⟩;refine nJ ((jj.trans s4).lst aB) ⟨λ i ρ aj=>∃(cZ dv jW:Option D),ρ=[some (.ref l),some (.ref kL),some (.ref y7),cZ,dv,jW]/\db bP aj,⟨_,_,_,rfl,s4⟩,λ i ρ aj _ ⟨_,_,_,_,h⟩=>(jj.trans h).lst aB,?_,?_⟩
   ·rintro i x ρ en ak ⟨cZ,dv,jW,rfl,s5⟩;have dV:(bs.map λ b=>D.ref b.1)[i]?=some x:=ak;rw[fs]at dV;obtain⟨⟨a,ax⟩,cQ,rfl⟩:=hY.mp dV;obtain⟨Oh,bd⟩:=af _ (hA cQ)
    have pJ:∀ z∈ax,0<=z.1:=λ z hz=>by obtain⟨n,_,rfl,_⟩:=bd.bk.2 z hz;exact Int.natCast_nonneg n
    have ey:=bd.len;refine pc (by decide) ⟨λ i ρ aj=>∃(cZ dv:Option D),ρ=[some (.ref l),some (.ref kL),some (.ref y7),cZ,dv,some (.ref a)]/\db bP aj,⟨_,_,rfl,s5⟩,λ _ _ _ _ _=>trivial,?_,?_⟩
    ·rintro j y ρ gD _ ⟨cZ,dv,rfl,fh⟩;have y9:=(jj.trans fh).dq Oh;have Qc:ax.length<=4:=ey;refine⟨a,ax,rfl,y9,bd.bk.1,by omega,λ gj uq h8 Qd mB Ei=>?_⟩;have ni:=h8.dq y9;refine⟨true,rfl,⟨nofun,λ _=>?_⟩⟩;refine⟨a,ax,rfl,ni,bd.bk.1,by omega,pJ,λ c8 yZ kl Oi Ej Oj=>?_⟩
     have Ol:gj≠a:=by rintro rfl;rcases y9 with e|⟨_,_,e⟩<;>(rw[mB]at e;cases e)
     have y_:=Oi _ _ Ol Ei
     have Om:gj≠c8:=by rintro rfl;rw[Ei]at Ej;cases Ej
     have za:∀ z∈fb ax,z.2.data=true/\z.2.bU<=8:=λ z hz=>by obtain⟨w,hw,e⟩:=Nn hz;rw[<- e];exact bd.val w hw
     have Ek:hc ((fb ax).map bY):=λ z hz=>by
      obtain⟨w,hw,rfl⟩:=ea.mp hz;exact⟨(za w hw).1,by have:=(za w hw).2;show w.2.bU<=150;omega⟩
     have v0:((cT (ax.map bY) (.inl 0)).getD (.tup [])).data=true/\((cT (ax.map bY) (.inl 0)).getD (.tup [])).bU<=8:=by
      cases e:cT (ax.map bY) (.inl 0) with
      |none=>exact⟨rfl,by decide⟩
      | some d=>
       unfold cT at e;obtain⟨a7,ae,ag⟩:=hY.mp e;obtain⟨w,hw,rfl⟩:=ea.mp (List.mem_of_find?_eq_some ae);have aP:w.2=d:=ag;show d.data=true/\d.bU<=8;rw[<- aP];exact bd.val w hw
     have e6:([bL ((cT (ax.map bY) (.inl 0)).getD (.tup [])) ((cT (ax.map bY) (.inl 0)).getD (.tup [])),jR ((fb ax).map bY) ((fb ax).map bY)].all id)=true:=by
      rw[ky v0.1,DO (No bd.bk.1) λ z hz=>(za z hz).1];rfl
     have ul:=ya ax;refine⟨_,.cons (.dat v0.1 v0.1 (by omega)) (.cons (.jS (.inl y_) (.inl Oj) Ek Ek (vd _) (vd _) Om) .nil),?_⟩;rw[e6];refine⟨nofun,λ _=>?_⟩;refine wO (d:=.ref gj) (mb (j:=1) rfl) ?_;refine gU y_ ⟨rfl,⟨nofun,λ _=>?_⟩⟩
     dsimp only[Bo,BZ,Bj,Bi,q2,wI,nE]
     refine wO (d:=.ref gj) (mb (j:=1) rfl) ?_;exact gU y_ ⟨_,rfl,gp (by rw[dm];omega),eN.of ⟨_,_,rfl,((fh.trans h8).trans kl).new (fh.no mB)⟩⟩
    ·rintro ρ gD ⟨cZ,dv,rfl,fh⟩;exact eN.of ⟨_,_,_,rfl,fh⟩
   ·rintro ρ en ⟨cZ,dv,jW,rfl,s5⟩;have pR:=jj.trans s5;obtain⟨eV,t1,b8⟩:=gX.same gx (λ b cf=>s5.dq (b1 b cf)) (λ b cf=>⟨pR.dq (af b cf).1,(af b cf).2⟩) kC;refine c6 (s5.lst y8) (c6 (pR.lst aB) ⟨eV,t1,?_⟩);rw[b8];exact c2.of (q en pR)
noncomputable abbrev pS:b_:=top 24
theorem oe:fi ["_law_script","_law_k","_law_feed_here","_law_some","_law_other","_law_one","_law_two","_law_handed"] ["_law_script"] (dw pS):=⟨rfl,rfl,rfl,by trivial,rfl,by trivial,by trivial⟩
theorem On(B:hV mg)(zb:Got P w K mg base 1 "_law_feed" ["_law_script","_law_k"] (cc K uA))(et:Got P w K mg base 1 "_law_take" ["_law_feed_here","_law_many"] (cc K lj))(od:Got P w K mg base 11 "_law_kinds" ["_law_feed_here","_law_most"] (cc K vb))(jV:Got P w K mg base 1 "_law_sorted" ["_law_some"] (cc K r4))(kK:Got P w K mg base 4 "bag_of" ["kinds"] (cc K lB))(sn:Got P w K mg base 1 "_law_is_bag" ["_law_found","_law_due"] (cc K ye))(so:Got P w K mg base 5 "added" ["one","other"] (cc K x_))(zc:Got P w K mg base 7 "_law_books_right" ["_law_books"] (cc K yh))(zd:Got P w K mg base 12 "_law_book" ["_law_feed_here"] (cc K yf))(pP:Got P w K mg base 6 "books_added" ["books"] (cc K va))(pQ:Got P w K mg base 1 "beneath" ["book"] (cc K u_))(F:eg K "law" "law" pS f fd):dh P w K mg base dx 13 f fd ["_law_script"] (cc K BR):=by
 refine gn (k:=12) F oe (λ ds G aE h=>?_) (λ b9 A outer s H E aH ds G aE h=>?_)
 ·obtain⟨_,rfl,_⟩:=h;rfl
 obtain⟨ns,rfl,aB,q⟩:=h
 refine⟨_,(cb (ie PassesOwn.never rfl (JX rfl B.range (aK bp (aK (f5 (JO rfl) rfl B.max PyProof.Rows.boot_max (aK bp (aK (f5 (Bw rfl) rfl B.min PyProof.Rows.boot_min (aK bp (aK (f5 kx rfl B.len j6 (aK (aF 0) a_)) a_))) a_))) a_))) (f3 (k:=1) oe.a3 rfl (Or.inl rfl)) (cb (eh (k:=2) oe.a3 rfl (Or.inr rfl) (cI zb aH (by omega) rfl (aK (aF 0) (aK (aF 1) a_))))
  (cb (eh (k:=3) oe.a3 rfl (Or.inl rfl) (cI od aH (by omega) rfl (aK (aF 2) (aK bp a_))))
  (cb (eh (k:=4) oe.a3 rfl (Or.inl rfl) (cI od aH (by omega) rfl (aK (aF 2) (aK bp a_))))
  (cb (KC (i:=5) (j:=6) rfl oe.a3 rfl rfl (by decide) rfl rfl (aK (cI jV aH (by omega) rfl (aK (aF 3) a_)) (aK (cI jV aH (by omega) rfl (aK (aF 4) a_)) a_)))
  (cb (eh (k:=7) oe.a3 rfl (Or.inl rfl) (rr (aK (kv ug rfl B.list td (aK (aF 3) a_)) (aK (kv q6 rfl B.tuple lW (aK (aF 3) a_)) a_)) (cI et aH (by omega) rfl (aK (aF 2) (aK bp a_))) (λ _ _=>rfl)))
  (cb (fy (g8.at (mq (mo (kr (cI sn aH (by omega) rfl (aK (cI kK aH (by omega) rfl (aK (aF 7) a_)) (aK (aF 5) a_))))) (mq (eM (uv (d2 aH)) (kv ug rfl B.list td (aK (aF 7) a_)) (aF 3) (dW _)) (q4 (mo (kr (cI sn aH (by omega) rfl (aK (cI kK aH (by omega) rfl (aK (aF 4) a_)) (aK (aF 6) a_))))))))) (cq (dR q1)) fZ)
  (cb (fy (g8.at (mq (mo (kr (cI sn aH (by omega) rfl (aK (cI so aH (by omega) rfl (aK (aF 5) (aK (aF 6) a_))) (aK (cI jV aH (by omega) rfl (aK (du jE (aF 3) (aF 4)) a_)) a_))))) (q4 (eM (uv (d2 aH)) (cI so aH (by omega) rfl (aK (aF 6) (aK (aF 5) a_))) (cI so aH (by omega) rfl (aK (aF 5) (aK (aF 6) a_))) (dW _))))) (cq (dR q1)) fZ)
  (cq (fy (mo (kr (cI zc aH (by omega) rfl (aK (J3 rfl (fv.of (N':=["_law_j","_law_feed_here"]) (nt:=1) (cap:=[2]) rfl (by kernel_rfl)) (rb (k:=0) (by decide)) (pd rfl B.range (aK (cI et aH (by omega) rfl (aK (aF 2) (aK bp a_))) a_)) (λ _ _ _ _=>(f3 (k:=0) (show List.Nodup (["_law_j","_law_feed_here"]:List Str) by trivial) rfl (Or.inl rfl))) (λ _ _ _ _=>(cI zd aH (by omega) rfl (aK (aF 1) a_)))) a_)))) (cq (dR q1)) fZ))))))))))
  (cq (dR (wK (q3 (nQ (d2 aH)) (cI kK aH (by omega) rfl (aK (mn a_) a_)) (g9 a_) (dW _)) (wK (q3 (oEq (d2 aH)) (cI pP aH (by omega) rfl (aK (mn a_) a_)) lv (dW _)) (Bn (q3 (DB (d2 aH)) (cI pQ aH (by omega) rfl (aK lv a_)) (g9 (aK (g9 a_) (aK lv a_))) (dW _)))))))),?_⟩
 refine JW (by decide) (by dsimp only;split<;>split<;>omega) ?_;refine⟨λ i ρ aj=>∃(r8 dT cZ dv jW ze zf:Option D),ρ=[some (.c1 (ns.map D.int)),r8,dT,cZ,dv,jW,ze,zf],⟨_,_,_,_,_,_,_,rfl⟩,λ _ _ _ _ _=>trivial,?_,?_⟩
 ·rintro i d ρ aj Oo ⟨r8,dT,cZ,dv,jW,ze,zf,rfl⟩;obtain⟨au,rfl⟩:=BB Oo
  have Qe:i<100:=by
   refine fS au ?_
   dsimp only;split<;>split<;>omega
  refine⟨ns,rfl,aB,by omega,by omega,λ a Qf Qg az=>?_⟩;refine⟨a,8,rfl,.up,by decide,by decide,λ es s1 G1 l3 e1 g1 dY cz=>?_⟩;refine⟨a,4,rfl,l3.fd,by decide,by decide,λ bl s2 aL kb aP g2 dS b2=>?_⟩
  have zg:∀{xs:List D},(∀ d∈xs,c5 d)->∀ d∈xs,bE d/\d.bU<=100:=λ h d hd=>⟨(h d hd).hv.jO,by have:=(h d hd).bU;omega⟩
  have El:s1≠a:=by rintro rfl;rw[bI]at g1;cases g1
  have Em:=kb.c9 El e1;refine⟨s1,es,rfl,Em,by omega,zg cz,λ En bP t3 io oX=>⟨s2,bl,rfl,t3 _ _ aP,by omega,zg b2,λ Eo eO Op pT vT=>?_⟩⟩;have vq:∀ d∈En,c5 d:=λ d hd=>cz d (io.mem_iff.mpr hd);have vr:∀ d∈Eo,c5 d:=λ d hd=>b2 d (pT.mem_iff.mpr hd);have zh:=t3.trans Op;have a1:=zh _ _ Em;have a2:=zh _ _ aP
  have Ep:e9 eO a:=by obtain⟨x,y,e⟩:=kb.fd;exact⟨x,y,zh _ _ e⟩
  refine c6 a1 λ sq zi=>?_;have zj:Sub eO (up eO sq (.lst es)):=Sub.new (Sub.refl _) zi;have Oq:e9 (up eO sq (.lst es)) a:=Ep.new zi
  have Os:sq≠a:=by rintro rfl;obtain⟨x,y,e⟩:=Ep;rw[zi]at e;cases e
  have Ot:s2≠a:=by rintro rfl;obtain⟨x,y,e⟩:=l3.fd;rw[g2]at e;cases e
  refine c6 (zj _ _ a1) ⟨Oq,by decide,by decide,λ t en jU t0 t1=>Nr t0 t1 λ fu Er=>?_⟩;have pl:=jU.c9 El (zj _ _ a1);have gT:=jU.c9 Ot (zj _ _ a2);have Es:en sq=some (.lst es):=jU.c9 Os bI;have Ou:=jU.fd;have f7:=io.length_eq;have fR:=pT.length_eq
  have Ov:∀{G:aC}{Q:bS},G=en->(∀ cB,es.Perm cB->eC cB->Q (.tup cB) G)->lB [fu] G Q:=λ{G Q} Ow h=>by
   subst Ow;rcases Er with rfl|rfl
   ·exact .lst sq es rfl Es (c5.pK cz (by omega)) h
   ·exact .tup es rfl (c5.pK cz (by omega)) h
  refine Ov rfl λ og vt qB=>?_;have eq5:og=En:=c5.eq (λ d hd=>cz d (vt.mem_iff.mpr hd)) (vt.symm.trans io) qB oX;subst eq5;refine⟨og,rfl,(c5.tup vq).1,(c5.tup vq).2,⟨nofun,λ _=>?_⟩⟩
  have Ox:∀{Q:bS},(∀ p,en p=none->Q (.ref p) (up en p (.lst es)))->Bx fu en Q:=λ{Q} h=>by
   rcases Er with rfl|rfl
   ·exact c6 Es h
   ·exact h
  refine Ox λ jI pU=>?_;have Et:Sub en (up en jI (.lst es)):=Sub.new (Sub.refl _) pU;have d7:=Et _ _ pl;have cR:=Et _ _ gT;have sj:e9 (up en jI (.lst es)) a:=Ou.new pU;obtain⟨dl,yY⟩:=c5.r5 cz;refine c6 bI (c6 d7 ⟨dl,dl,yY,?_⟩);rw[wU dl];refine⟨nofun,λ _=>?_⟩;generalize up en jI (.lst es)=gD at d7 cR sj ⊢;refine .lst s2 bl rfl cR (c5.pK b2 (by omega)) λ oh Eu ni=>?_;have Oy:oh=Eo:=c5.eq (λ d hd=>b2 d (Eu.mem_iff.mpr hd)) (Eu.symm.trans pT) ni vT;subst Oy;refine⟨oh,rfl,(c5.tup vr).1,(c5.tup vr).2,⟨nofun,λ _=>?_⟩⟩
  have zk:∀ d∈og++oh,c5 d:=λ d hd=>by rcases fL.mp hd with hd|hd;exact vq d hd;exact vr d hd
  have Ev:∀ d∈oh++og,c5 d:=λ d hd=>by rcases fL.mp hd with hd|hd;exact vr d hd;exact vq d hd
  have cp:=d_;refine⟨og,oh,rfl,c5.pK zk (by rw[dN];omega),λ gs Ew Oz=>gS d7 (gS cR ⟨by omega,λ Ex OA=>?_⟩)⟩;have OB:Sub gD (up gD Ex (.lst (es++bl))):=Sub.new (Sub.refl _) OA;refine⟨Ex,es++bl,rfl,bI,by rw[dN];omega,zg λ d hd=>by rcases fL.mp hd with hd|hd;exact cz d hd;exact b2 d hd,λ ar uq OC OD OE=>?_⟩;have zl:∀ d∈gs,c5 d:=λ d hd=>zk d (Ew.mem_iff.mpr hd);have OF:gs=ar:=c5.eq zl (Ew.symm.trans ((io.append pT).symm.trans OD)) Oz OE;subst OF;refine⟨gs,rfl,(c5.tup zl).1,(c5.tup zl).2,⟨nofun,λ _=>?_⟩⟩;refine⟨oh,og,rfl,c5.pK Ev (by rw[dN];omega),λ eJ aD v1=>⟨og,oh,rfl,c5.pK zk (by rw[dN];omega),λ gb bw v2=>?_⟩⟩;have im:∀ d∈eJ,c5 d:=λ d hd=>Ev d (aD.mem_iff.mpr hd);have OG:eJ=gb:=c5.eq im (aD.symm.trans (List.perm_append_comm.trans bw)) v1 v2;subst OG;refine wX (c5.tup im).1 (c5.tup im).1 (by have:=(c5.tup im).2;omega) ?_;rw[ky (c5.tup im).1];refine⟨nofun,λ _=>?_⟩
  have OH:e9 uq a:=by obtain⟨x,y,e⟩:=sj;exact⟨x,y,OC _ _ (OB _ _ e)⟩
  refine⟨OH,by decide,by decide,λ m yZ u8 m0 hB=>pc (by omega) (wR (λ i ds aj=>∃ ar:List (Addr×List (Int×D)),ds=ar.map (λ b=>D.ref b.1)/\ar.length=i/\e9 aj a/\∀ b∈ar,aj b.1=some (.bf (b.2.map bY))/\hU b.2/\b.1≠a) (gp (by show (ha 0 m.toNat).length<=200000;rw[my];omega)) ⟨[],rfl,rfl,u8.fd,nofun⟩ (λ _ _ _ _ _=>trivial) ?_ ?_)⟩
  ·rintro j x ds dD _ ⟨hl,rfl,k0,zm,af⟩;refine⟨a,rfl,zm,λ p ax Qh Ey OI wn bd=>je.of ⟨hl++[(p,ax)],by rw[jn];rfl,by rw[dN,k0];rfl,Ey.fd,λ b cf=>?_⟩⟩;rcases fL.mp cf with cf|cf
   ·obtain⟨eJ,gb,Ez⟩:=af b cf;exact⟨Ey.c9 Ez eJ,gb,Ez⟩
   ·rw[oD.mp cf];exact⟨wn,bd,by rintro rfl;obtain⟨x,y,e⟩:=zm;rw[OI]at e;cases e⟩
  ·rintro ds dD ⟨hl,rfl,k0,zm,af⟩ mF OJ;have OL:Sub dD (up dD mF (.lst (hl.map λ b=>D.ref b.1))):=Sub.new (Sub.refl _) OJ
   have OM:hl.length<=5:=by
    have e:hl.length=(ha 0 m.toNat).length:=k0;rw[my]at e;omega
   have al:=DQ λ b cf=>(af b cf).2.1;refine⟨mF,hl,rfl,bI,OM,λ b cf=>⟨.inl (OL _ _ (af b cf).1),(af b cf).2.1⟩,by omega,λ Qi Qj=>⟨nofun,λ _=>?_⟩⟩;exact eN.of ⟨_,_,_,_,_,_,_,rfl⟩
 ·rintro ρ aj ⟨r8,dT,cZ,dv,jW,ze,zf,rfl⟩;intro gj Ed;refine .lst gj [] rfl bI ⟨by decide,nofun⟩ λ cB pm ji=>?_;have ee:cB=[]:=pm.symm.eq_nil;subst ee;refine wX rfl rfl (by decide) ⟨λ _=>?_,nofun⟩;intro c8 h9;refine⟨c8,[],rfl,bI,nofun,by decide,nofun,λ p rs G1 s1 g1 e1 bk=>?_⟩;have re:rs=[]:=sV.mp (Nat.le_zero.mp (x9 bk));subst re;intro io y3;refine gU (Sub.new (Sub.refl _) y3 _ _ e1) (gU bI ⟨nofun,nofun,⟨λ _=>?_,nofun⟩⟩);intro pT lC;refine⟨pT,[],rfl,.inl bI,qe,by decide,λ vt aL s2 b2 g2 aP=>?_⟩;intro jI pU
  have ON:vt≠jI:=by rintro rfl;rw[aP]at pU;cases pU
  exact⟨_,.cons (.dat rfl rfl (by decide)) (.cons (.jS (.inl (Sub.new (Sub.refl _) pU _ _ aP)) (.inl bI) nofun nofun nofun nofun ON) .nil),c2.of (q _)⟩
end
theorem uNq{l:PySem.W.OpenLaw}{w:bJ}{K:a4}{h:bF}{mg:Str->Option Value}{fa  : Addr}(X:K.In h)(G:h.Ns dL mg)(OO:mg "law"=some (.ref fa))
 (jf:DT K "_law_feed" yk) (ec:DT K "_law_take" yi) (gu:DT K "_law_number" yl) (OP:DT K "_law_answer_kind" yn) (OQ:DT K "_law_kind" yq) (OR:DT K "_law_kinds" yQ) (OS:DT K "_law_under" yS) (OT:DT K "_law_sorted" yU) (OU:DT K "_law_is_bag" yV) (OV:DT K "_law_book" yW) (OW:DT K "_law_gathered" y0) (OX:DT K "_law_books_right" y4) (OY:DT K "flat" yx) (OZ:DT K "flat_sorted" yE) (EA:DT K "bag_of" yH) (O0:DT K "added" yI) (O1:DT K "beneath" yJ) (O2:DT K "book_of" yB) (O3:DT K "books_added" yM) (O4:DT K "law" pS) (yR:fC K dL "len"=some none) (eK:fC K dL "isinstance"=some none) (cU:fC K dL "range"=some none) (hK:fC K dL "int"=some none) (ml:fC K dL "bool"=some none) (O5:fC K dL "str"=some none) (O6:fC K dL "tuple"=some none) (O7:fC K dL "list"=some none) (O8:fC K dL "sorted"=some none) (O9:fC K dL "all"=some none) (O_:fC K dL "reversed"=some none) (Pa:fC K dL "min"=some none) (Pb:fC K dL "max"=some none) (Pc:fC K dL "enumerate"=some none) (Pd:fC K dL "zip"=some none) (Pe:fC K dL "abs"=some none) (Pf:fC K dL "sum"=some none) (Pg:fC K dL "dict"=some none)
 {cV:Tok} (ti0:fC K dL "ITEM"=some (some (.int 1 cV)))
 {a0:Tok} (te0:fC K dL "END"=some (some (.int 0 a0)))
 : ∃ fd:fA,(∀(s:aw)(v:Value),ov s fd ⟨[v],[]⟩ [("_law_script",v)])/\∀ base:bF,K.In base->base.Ns dL mg->dh l.prog w K mg base dx 13 fa fd ["_law_script"] (uB K):=by
 have B:hV mg:=⟨gM X G yR,gM X G eK,gM X G cU,gM X G hK,gM X G ml,gM X G O5,gM X G O6,gM X G O7,gM X G O8,gM X G O9,gM X G O_,gM X G Pa,gM X G Pb,gM X G Pc,gM X G Pd,gM X G Pe,gM X G Pf,gM X G Pg⟩
 obtain⟨Qk,_,Ph,EB⟩:=O4.ok;cases OO.symm.trans (ta X G Ph);obtain⟨_,_,cO,Pi,pm,an,cd,ct,_,rfl,Ql,Qm⟩:=EB.ex;refine⟨j5 "law" "law" (kj pS) (iC pS) (dw pS) .none cO Pi pm an cd ct,λ s v=>.of_eq rfl,λ base _ _ =>?_⟩
 have E:r6 l.prog w K mg base:=⟨h,X,G⟩
 have yy:=ta X G ti0;have yz:=ta X G te0;have Pj:=E.g OY (NH B yy yz);obtain⟨yF,Pk,yG⟩:=Pj.IZ;have vi:=E.g OZ (NS B Pk yG);have kK:=E.g EA (D7 vi);have Pl:=E.g EA (λ F=>(D7 vi F).imp (Mb Ni));have so:=E.g O0 (NW kK);have yN:=E.g O2 (NK B Pl);have pP:=E.g O3 (NY yN);have pQ:=E.g O1 NX;have zb:=E.g jf (Ny B);have et:=E.g ec Nx;have yp:=E.g gu (Nz B et);have pM:=E.r (λ n=>n+2) (λ n=>cc K (rE n)) OP NA λ n b0=>NB B et yp b0;have ob:=E.r (λ n=>n+7) (λ n=>cc K (rF n)) OQ NC λ n b0=>ND B et (pM 3) b0;have od:=E.g OR (N1 B et (ob 3));have jV:=E.g OT (N3 B);have sn:=E.g OU (N5 B);have zd:=E.g OV (N6 B et od jV);have y5:=E.g OW (Oa B jV);have y6:=E.g OS N2;have zc:=E.g OX (Oc B y5 pP pQ y6);exact On B zb et od jV kK sn so zc zd pP pQ EB
theorem walk{l:PySem.W.OpenLaw}{q:bX}{loose:List Str}{oY:(Str->Option Value)->bF->Prop}{md:bJ->bF->Prop}{d:DefRec}{K:Params->a4}(aS:l.most=some 63)(qJ:d.params.defaults=[])
 (we:∀(w:bJ)(h:bF),md w h->(K w.params).In h)
 (F:∀(w:bJ)(mg:Str->Option Value)(fa:Addr)(h:bF),(K w.params).In h->h.Ns dL mg->mg d.name=some (.ref fa) →
  ∃ fd:fA,(∀(s:aw)(u:Value),ov s fd ⟨[u],[]⟩ [("_law_script",u)])/\∀ base:bF,(K w.params).In base->base.Ns dL mg->dh l.prog w (K w.params) mg base dx 13 fa fd ["_law_script"] (uB (K w.params))) :
 PySem.W.WalkO q loose oY md l.row.toRowW d [] (λ f vs=>PySem.call f vs):=
 L2.G_ (n:=63) (k:=13) (x:="_law_script") (CX:=λ _=>dx) (sp:=λ w=>uB (K w.params)) aS (by decide) qJ ⟨rfl,by decide,by decide,rfl⟩ we F (λ _ _ a ns aB o eW=>Ks aB o eW) λ _ _ _ _ _ z=>z
end KB
def PySem.W.Fast.tw3348065438254393738:=0
def PySem.W.Fast.tw12051795954813428939:=0
def PySem.W.Fast.tw13152591849389163727:=0
def PySem.W.Fast.tw719649955929195913:=0
def PySem.W.Fast.tw5416948571074328550:=0
def PySem.W.Fast.tw12480194744567151903:=0
def PySem.W.Fast.tw4371811247736791667:=0
def PySem.W.Fast.tw9433835523354995992:=0
def PySem.W.Fast.tw3749785552264538104:=0
def PySem.W.Fast.tw14888319330135344117:=0
def PySem.W.Fast.tw6068640635188762554:=0
def PySem.W.Fast.tw9935153790047693864:=0
def PySem.W.Fast.tw984717956868143687:=0
def PySem.W.Fast.tw6739455145600738361:=0
def PySem.W.Fast.tw10033927287988533722:=0
def PySem.W.Fast.tw14874343600045572439:=0
def PySem.W.Fast.tw15042166396834082290:=0
def PySem.W.Fast.tw14746081861379010478:=0
def PySem.W.Fast.tw10689481981917416232:=0
def PySem.W.Fast.tw17230473241143352180:=0
def PySem.W.Fast.tw5885906767467533191:=0
def PySem.W.Fast.tw12880238957528459471:=0
def PySem.W.Fast.tw6725639948202209293:=0
def PySem.W.Fast.tw17897794906099964250:=0
def PySem.W.Fast.tw14765895802446112610:=0
def PySem.W.Fast.tw2416186851719333058:=0
def PySem.W.Fast.tw17374925125717488946:=0
def PySem.W.Fast.tw11147252225677817016:=0
def PySem.W.Fast.tw10710313233518660228:=0
def PySem.W.Fast.tw16244155821521572035:=0
def PySem.W.Fast.tw6595734217446297054:=0
def PySem.W.Fast.tw13909769057869480612:=0
def PySem.W.Fast.tw9808914569686726854:=0
def PySem.W.Fast.tw9523899623942311543:=0
def PySem.W.Fast.tw15980220177058777082:=0
def PySem.W.Fast.tw7544903730925584788:=0
def PySem.W.Fast.tw2223583848177851609:=0
def PySem.W.Fast.tw16096805621147142928:=0
def PySem.W.Fast.tw15855850475686379506:=0
def PySem.W.Fast.tw10777524911585062359:=0
def PySem.W.Fast.tw922506883186604372:=0
def PySem.W.Fast.tw7710867150761593640:=0
def PySem.W.Fast.tw18421545766025334084:=0
def PySem.W.Fast.tw15863741677272961628:=0
def PySem.W.Fast.tw1418227283316819974:=0
def PySem.W.Fast.tw16723907128250902456:=0
def PySem.W.Fast.tw11645807232025762058:=0
def PySem.W.Fast.tw16381573647355434015:=0
def PySem.W.Fast.tw10536408707782094275:=0
def PySem.W.Fast.tw16535271253577674348:=0
def PySem.W.Fast.tw16044209489998376034:=0
def PySem.W.Fast.tw9708736424912320811:=0
def PySem.W.Fast.tw16739457223909038280:=0
def PySem.W.Fast.tw16996305391387887710:=0
def PySem.W.Fast.tw6565216426998067437:=0
def PySem.W.Fast.tw119039606393224793:=0
def PySem.W.Fast.tw4355489115060236649:=0
def PySem.W.Fast.tw14183638861685601411:=0
def PySem.W.Fast.tw5493731678791737190:=0
def PySem.W.Fast.tw12433074319804273435:=0
def PySem.W.Fast.tw9323857194206782960:=0
def PySem.W.Fast.tw6573216064779543410:=0
def PySem.W.Fast.tw8313274670324168231:=0
def PySem.W.Fast.tw14542452541555471451:=0
def PySem.W.Fast.tw11931467172004261833:=0
def PySem.W.Fast.tw15239594342563069669:=0
def PySem.W.Fast.tw14710911974761011225:=0
def PySem.W.Fast.tw3965961624923834929:=0
def PySem.W.Fast.tw12508935766615359174:=0
def PySem.W.Fast.tw2739847583629066559:=0
def PySem.W.Fast.tw13777899663384662:=0
def PySem.W.Fast.tw18323499733552010808:=0
def PySem.W.Fast.tw16136750114190029566:=0
def PySem.W.Fast.tw9948388958571179100:=0
def PySem.W.Fast.tw8078800845321661860:=0
def PySem.W.Fast.tw16320617906710302617:=0
def PySem.W.Fast.tw1118223043064506573:=0
def PySem.W.Fast.tw15941591837216013517:=0
def PySem.W.Fast.tw6269164128324038940:=0
def PySem.W.Fast.tw12989715196825286086:=0
def PySem.W.Fast.tw1225730366606523615:=0
def PySem.W.Fast.tw15533592392802314306:=0
def PySem.W.Fast.tw1005903168127170189:=0
def PySem.W.Fast.tw7939490229304763243:=0
def PySem.W.Fast.tw13836580023762028434:=0
def PySem.W.Fast.tw12991692899027172919:=0
def PySem.W.Fast.tw17108577759274518410:=0
def PySem.W.Fast.tw7662065656056467456:=0
def PySem.W.Fast.tw6964558237604228105:=0
def PySem.W.Fast.tw2588169433620329086:=0
def PySem.W.Fast.tw13742198889685792188:=0
def PySem.W.Fast.tw13614436512522964839:=0
def PySem.W.Fast.tw1969274084113575835:=0
def PySem.W.Fast.tw4520509868364706486:=0
def PySem.W.Fast.tw15278017582680672766:=0
def PySem.W.Fast.tw8842041008520731671:=0
def PySem.W.Fast.tw8481036422363066295:=0
def PySem.W.Fast.tw2931406048410565337:=0
def PySem.W.Fast.tw7069000283299897871:=0
def PySem.W.Fast.tw113302122504060306:=0
def PySem.W.Fast.tw11838123004360482612:=0
def PySem.W.Fast.tw7758991651145206441:=0
def PySem.W.Fast.tw9233608321667066969:=0
def PySem.W.Fast.tw16147165800583808577:=0
def PySem.W.Fast.tw7507520645201257663:=0
def PySem.W.Fast.tw13734713637044576321:=0
def PySem.W.Fast.tw3744424256098496573:=0
def PySem.W.Fast.tw6085950546750893729:=0
def PySem.W.Fast.tw17896984795801493946:=0
def PySem.W.Fast.tw4105356922067978879:=0
def PySem.W.Fast.tw15161554490916183582:=0
def PySem.W.Fast.tw15833771384344020110:=0
def PySem.W.Fast.tw16414751173775724909:=0
def PySem.W.Fast.tw10398747327082064729:=0
def PySem.W.Fast.tw1086076715906224138:=0
def PySem.W.Fast.tw761967360655807403:=0
def PySem.W.Fast.tw11023071573021565948:=0
def PySem.W.Fast.tw11313665322106555082:=0
def PySem.W.Fast.tw4567487404085637401:=0
def PySem.W.Fast.tw5628829157963490012:=0
def PySem.W.Fast.tw6739312764490647209:=0
def PySem.W.Fast.tw3610564333618875074:=0
def PySem.W.Fast.tw11879068654928735521:=0
def PySem.W.Fast.tw782299107379036118:=0
def PySem.W.Fast.tw3128718156949951802:=0
def PySem.W.Fast.tw402594584267287446:=0
def PySem.W.Fast.tw5470451821521146387:=0
open PySem PySem.W PyProof.Rows
set_option maxRecDepth 100000 in
set_option maxHeartbeats 0 in
theorem PySem.Challenge.cw_kindbags_k32_bags_and_books_holds : PySem.Challenge.rw_kindbags_k32_bags_and_books.Holds := by
  w_on; o_law; k_head; (case hw => w_witness2)
  k_fill
  refine KB.walk (l := PySem.Challenge.rw_kindbags_k32_bags_and_books) rfl rfl (fun w h Y => PySem.W.kIn_of Y) ?F
  case F =>
    intro w mg fa h KX G hmg
    refine' KB.uNq KX G hmg ?_ ?_ ?_ ?_ ?_ ?_ ?_ ?_ ?_ ?_ ?_ ?_ ?_ ?_ ?_ ?_ ?_ ?_ ?_ ?_ ?_ ?_ ?_ ?_ ?_ ?_ ?_ ?_ ?_ ?_ ?_ ?_ ?_ ?_ ?_ ?_ ?_ ?_ ?ti0 ?te0
    (case ti0 => k_is)
    (case te0 => k_is)
    all_goals first | k_is | (refine' L3.DT.mk ?_ ?_ ?_ ?_ <;> try k_is) | (refine' L3.DM.mk ?_ ?_ ?_ ?_ ?_ <;> try k_is) | (refine' L3.DTc.mk ?_ ?_ ?_ ?_ <;> try k_is) | (refine' L3.DMc.mk ?_ ?_ ?_ ?_ ?_ <;> try k_is) | skip
