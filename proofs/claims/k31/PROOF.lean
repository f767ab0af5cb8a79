import PyProof.Rows.All
import Wide.All
import OpenK.AllK
import Wide.FinOn
import Lean
import PyProof.EqAt
import PyProof.EqKinds
import PyProof.TupleCall
import PySem.Challenge.RW_kindbags_k31_kind_texts_refused
local macro_rules | `(tactic| omega) => `(tactic| first | decide | lia)
open PySem renaming wpAny_bind->aA,Shared->aE,wpAny_pure->br,wpAny->aU,model->aY,Expr->a8,Program->cL,mainGlobals->eh,Around->cz,Heap->bE,starEach->dB,World->b8,compareOp->d3,Stmt->bP,wpAny_field->fi,wpAny_mono->gC,cLine->dC,sizeLine_eq->hC,wpAny_newObj_type->kf,wpAny_call_entry->kg,wpAny_holding->jn,FuncData->gD,assignEach->iE,wpAny_setField_rec->m4,binaryOp->hD,foldedSetIterable->m5,bootBuiltins->kO,rawInt->gE,wpAny_truthy_bool->nX,wpAny_loadPart'->m6,attributeBase->l8,Scope->gg,swapsWith->jH,wpAny_attempt->m7,backTo->hO,wpAny_Call_Name_kw->XL,ClassData->kh,ExceptHandler->nY,wpAny_setField->pf,holding->jI,wpAny_passesOwn->qt,wpAny_standAt->pg,behindInMarks->ph,assign->XV,wpAny_rule->m8,codeAny_call_builtin->ux,wpAny_seqItems->qu,NameKind->lw,wpAny_getItem_str_slice->xH,wpAny_execs_nil->r_,sliceBounds->pi,field->iZ,wpAny_loadPart_at->uy,pyNext->ki,wpAny_typeOf->qv,builtinLookup_eq_fast->xI,wpAny_execs_cons->uz,wpAny_call->pj,DictEntry->pk,PlainAttrs->qw,call_meets->qx,isSubtype_type->uA,IsPart->l9,excClassObj->sa,swapsWithSole->W1,swappedStores->uB,bindL->kP,wpAny_isInstance->xJ,PassesOwn->qy,cellsFrom->qz,getItem->nZ,noteFrame->qA,Model->lx,again->ly,codeAny_mono->uC,wpAny_newFunctionEnv->Be,typeLookup_type->xK,post_val_or_str->xL,standAt->pp,codeAny->pq,compEnvC->qB,wpAny_newTuple->xM,typeOf->n0,wpAny_pyIter_tuple->Bf,evalPart_none->xN,wpAny_newList->xO,wpAny_sequenceKey->Bg,CmpOp->m9,isInstance->uD,leaving->qC,callerA->qD,relabel->qE,noFill_tuple_add->Bh,wpAny_getItem_list_slice->G3,wpAny_comprehension_free->G4,IsPair->pr,IsEnum->pv,letOwnedTupleGo->Bi,bindC->n1,wpAny_specialOf->Bj,codeAny_builtin->Bk,wpAny_Call_method_late->G5,codeAny_compStart_list->G6,BindsTo->sb,codeAny_call_function->G7,isSubtype_stop->Bl,intText_digits->Bm,typeIs_str->xP,setField->uE,IsZip->pw,ZipApart->uF,seq_tuple_add->Bn,wpAny_onRaise->Bo,wpAny_toks_of->Bp,Paired->sd,nsFind->se,concat_meets->Bq,slicePick->xQ,onTheHeap->xR,unaryOp->uG
open PyProof.Rows renaming seqObj->gS,listUpdate_at->sf,AllBare->l_,SortKind->n2,seqEpoch_at->sg,entry_tuple_getitem->Br,IsTup->ma,args_tuple_getitem->Bs,subscriptTail->xS,subscriptTail_builtinR->G8,Subscript_->xT,keyKind'->uH,size_push'->xU,tupleItemsOf_->Bt,bubble->sh,sortedAll->xV,IntsAre->uI
open PySem.W renaming looks_findIn->uJ,kas_rev->Uf,kas_ask->si,kas_tail3->xW,kas_place->xX
open PySem.NumText renaming AllDigits->uK,digitsVal->xY
open List renaming length_cons->bR,mem_cons_self->bT,mem_cons_of_mem->bY,mem_cons->cC,size_toArray->cM,append_assoc->db,append_nil->dD,length_append->dE,map_cons->dF,length_map->er,cons_append->eF,length_nil->eL,not_mem_nil->eV,mem_append->fc,getElem?_eq_getElem->fv,replicate->gh,range->hE,length_drop->hF,drop_zero->ie,length_reverse->ig,mem_append_right->iF,getElem?_map->iG,getD_eq_getElem?_getD->i0,nil_append->jo,getElem_mem->jJ,mem_map->jK,cons_ne_nil->jL,suffix_refl->jM,mem_append_left->kj,length_take->kk,lookup->kl,map_append->kQ,mem_singleton->kR,all_eq_true->lz,tail_cons->lA,getElem?_eq_some_iff->mb,length->mc,takeWhile_cons->md,all_cons->m_,singleton_append->nc,drop_eq_nil_of_le->nd,drop_drop->nf,dropLast_cons_of_ne_nil->ng,mem_range->n3,lookup_cons->px,replicate_succ->pz,flatten_cons->pA,drop_eq_getElem_cons->pB,take_append_drop->pC,mem_of_mem_drop->pD,suffix_cons_iff->pE,getElem?_set_ne->qF,nodup_cons->qG,take_of_length_le->qH,drop_append->qI,getElem?_append_right->sj,any_cons->sk,length_singleton->sl,map_nil->sm,map_congr_left->so,take_length->sq,reverse_cons->sr,take_add_one->su,map_map->sv,mem_map_of_mem->sw,getElem?_append_left->uL,mem_of_getElem?->uM,ext_getElem->uN,getElem_map->uO,length_eq_zero_iff->uP,drop_succ_cons->uQ,drop_append_of_le_length->uR,count_cons->uS,map_id->uT,count_append->uU,filterMap_cons->xZ,getElem?_replicate->x0,length_replicate->x1,forIn_cons->x2,getElem?_eq_none->x3,toArray->x8,pairwise_cons->x9,length_pos_iff->x_,mem_of_mem_take->ya,drop_left->yb,tail_drop->yc,eq_nil_of_length_eq_zero->yd,mem_reverse->ye
open Nat renaming le_refl->ZB,zero_le->ef,ne_of_lt->eO,le_trans->gF,lt_of_lt_of_le->hX,lt_irrefl->me,ne_of_gt->n4,toDigits->qJ,lt_succ_self->sx,lt_trans->sy,le_succ->sz,one_le_pow->sA,sub_zero->yf,ble->yg,lt_or_ge->yh,pow_succ->yi,mul_le_mul_right->yj,pow_le_pow_right->yk
open Array renaming length_toList->fO,getElem?_eq_some_iff->sB,toList_extract->uV,toList->yl,mem_toList_iff->ym,size_append->yn,getD->yo,toList_inj->yp
open Option renaming some->hn,isSome_iff_exists->n5,map_some->uW,getD_some->uX,none->uY
open Bool renaming and_eq_true->fe,false_ne_true->kS,false_xor->lB,eq_iff_iff->pF,and_false->sC,false_eq_true->sD,eq_false_iff->yq
open PySem.W renaming Frag->aX,mg_of->dX,nsIn->fj,subIn->i1,mg_none_of->jp,kia_one->jN,keepIn->lC,clsIn->lD,findIn->nh,fnOf->ni,typeIn->nj,kitOne->Wp,codeIn->sE,lookIn->yr,specialIn->ys
open PyProof.Rows renaming boot_isinstance->i2,boot_tuple->mf,callWith_type1->qK,slot_tuple_getitem->sF,boot_int->sG,boot_str->uZ,boot_sorted->u0,listItems_at->yt,slice_closes->yu
open PySem renaming boot_len->fw,intText?->n6,mem_of_lookup->WF
open PySem.Heap renaming get?_push_of_some->cP,lt_size->dc,get?_push_size->f7,get?_update_self->n7,size_push->sH,size_update->sI,get?_update_other->u1,get?_update_ne->u2,get?_none_of_le->yv,get?_push_ne->WP
open Int renaming negSucc->n8,eq_ofNat_of_zero_le->sJ,toNat_natCast->u3,emod_nonneg->yw,emod_lt_of_pos->yx
set_option Elab.async false
set_option linter.all false
set_option maxRecDepth 100000
namespace L2
open PySem PySem.Spec PyProof.Rows
abbrev Key:=Sum Int Str
def G9:Key->Value->Bool
 | .inl k,v=>Value.isInt k v
 | .inr x,v=>Value.isStrOf x v
def Pk(w:b8):Key->Int
 | .inl k=>hashInt k
 | .inr x=>hashStr w x
theorem n9:∀{k:Key}{v:Value},G9 k v=true->(∃ i t,k=Sum.inl i/\v=Value.int i t)\/(∃ x t,k=Sum.inr x/\v=Value.str x t)
 | .inl i,v,h=>by
  obtain ⟨t,e⟩:=Value.isInt_shape (k:=i) (v:=v) h;exact .inl ⟨i,t,rfl,e⟩
 | .inr x,v,h=>by
  obtain ⟨t,e⟩:=Value.isStrOf_shape (x:=x) (v:=v) h;exact .inr ⟨x,t,rfl,e⟩
theorem Pl(a b:Int):decide ((Sum.inl a:Key)=Sum.inl b)=(a==b):=by
 by_cases e:a=b
 ·subst e;simp
 ·have h:¬ (Sum.inl a:Key)=Sum.inl b:=λ q=>e (Sum.inl.inj q);rw [decide_eq_false h];exact (beq_eq_false_iff_ne.mpr e).symm
theorem Pm(a b:Str):decide ((Sum.inr a:Key)=Sum.inr b)=decide (a=b):=by
 by_cases e:a=b
 ·subst e;simp
 ·have h:¬ (Sum.inr a:Key)=Sum.inr b:=λ q=>e (Sum.inr.inj q);rw [decide_eq_false h,decide_eq_false e]
theorem Pn(a:Int)(b:Str):decide ((Sum.inl a:Key)=Sum.inr b)=false:=decide_eq_false (λ q=>nomatch q)
theorem Po(a:Str)(b:Int):decide ((Sum.inr a:Key)=Sum.inl b)=false:=decide_eq_false (λ q=>nomatch q)
def Bu(prog:cL)(w:b8):PySem.KeyKind prog w Key where
 is:=G9
 hash:=Pk w
 inj:=λ v a b ax af=>by
  rcases n9 ax with ⟨i,t,rfl,rfl⟩ | ⟨x,t,rfl,rfl⟩
  ·rcases n9 af with ⟨j,u,rfl,e⟩ | ⟨y,u,rfl,e⟩
   ·injection e with aC _;rw [aC]
   ·exact nomatch e
  ·rcases n9 af with ⟨j,u,rfl,e⟩ | ⟨y,u,rfl,e⟩
   ·exact nomatch e
   ·injection e with aC _;rw [aC]
 byValue:=λ k v h=>by
  rcases n9 h with ⟨i,t,rfl,rfl⟩ | ⟨x,t,rfl,rfl⟩<;>rfl
 pyHash:=λ bO h=>by
  rcases n9 bO with ⟨i,t,rfl,rfl⟩ | ⟨x,t,rfl,rfl⟩
  ·exact wpAny_pyHash_int h
  ·exact wpAny_pyHash_str h
 eqBool:=λ a_ bO h=>by
  rcases n9 a_ with ⟨i,t,rfl,rfl⟩ | ⟨x,t,rfl,rfl⟩
  ·rcases n9 bO with ⟨j,u,rfl,rfl⟩ | ⟨y,u,rfl,rfl⟩
   ·rw [Pl] at h;exact wpAny_eqBool_int h
   ·rw [Pn] at h;exact SeqAt.EqAt.int_str i t y u _ _ _ _ h
  ·rcases n9 bO with ⟨j,u,rfl,rfl⟩ | ⟨y,u,rfl,rfl⟩
   ·rw [Po] at h;exact SeqAt.EqAt.str_int x t j u _ _ _ _ h
   ·rw [Pm] at h;exact wpAny_eqBool_str h
 «strs»:=λ k x t v h=>by
  rcases n9 h with ⟨i,u,rfl,e⟩ | ⟨y,u,rfl,e⟩
  ·exact nomatch e
  ·injection e with aC _;subst aC;cases v<;>rfl
inductive V where
 | a9 | aI (b:Bool) | int (i:Int) | str (x:Str) | sK (b:Array UInt8) | qL (b:UInt64) | ref (a:Addr) | ty (n:String)
 deriving DecidableEq
def RelV:V->Value->Prop
 | .a9,u=>u=Value.none
 | .aI b,u=>u=Value.bool b
 | .int i,u=>∃ t,u=Value.int i t
 | .str x,u=>∃ t,u=Value.str x t
 | .sK b,u=>∃ t,u=Value.bytes b t
 | .qL b,u=>∃ t,u=Value.float b t
 | .ref a,u=>u=Value.ref a
 | .ty n,u=>u=Value.type n
abbrev Vals:List V->List Value->Prop:=sd RelV
theorem Vals.length{xs:List V}{us:List Value}(r:Vals xs us):xs.length=us.length:=Paired.length r
theorem Vals.get:∀{xs:List V}{us:List Value}{i:Nat}{x:V},Vals xs us->xs[i]?=some x->∃ u,us[i]?=some u/\RelV x u
 | _,_,_,_,.nil,e=>by simp at e
 | _,_,0,_,.cons r _,e=>by simp at e;subst e;exact ⟨_,rfl,r⟩
 | _,_,i+1,x,.cons _ t,e=>by
  obtain ⟨u,ae,ag⟩:=Vals.get (i:=i) (x:=x) t (by simpa using e);exact ⟨u,by simpa using ae,ag⟩
theorem Vals.set{x:V}{u:Value}(r:RelV x u):∀{xs:List V}{us:List Value}(i:Nat),Vals xs us->Vals (xs.set i x) (us.set i u)
 | _,_,_,.nil=>.nil
 | _,_,0,.cons _ t=>.cons r t
 | _,_,i+1,.cons q t=>.cons q (Vals.set r i t)
theorem Vals.append:∀{xs aD:List V}{us ws:List Value},Vals xs us->Vals aD ws->Vals (xs++aD) (us++ws)
 | _,_,_,_,.nil,s=>s
 | _,_,_,_,.cons r t,s=>.cons r (Vals.append t s)
theorem Vals.take:∀{xs:List V}{us:List Value}(n:Nat),Vals xs us->Vals (xs.take n) (us.take n)
 | _,_,0,_=>.nil
 | _,_,_+1,.nil=>.nil
 | _,_,n+1,.cons r t=>.cons r (Vals.take n t)
theorem Vals.drop:∀{xs:List V}{us:List Value}(n:Nat),Vals xs us->Vals (xs.drop n) (us.drop n)
 | _,_,0,r=>r
 | _,_,_+1,.nil=>.nil
 | _,_,n+1,.cons _ t=>Vals.drop n t
def u4:Option V->Option Value->Prop
 | some v,some u=>RelV v u
 | none,none=>True
 | _,_=>False
def Bv{κ:Type}:List (κ × V)->List (κ × Value)->Prop:=sd λ(p:κ × V) (q:κ × Value)=>p.1=q.1/\RelV p.2 q.2
def gG:Key->V
 | .inl i=>.int i
 | .inr x=>.str x
inductive gi where
 | lst (xs:List V)
 | tup (xs:List V)
 | i3 (dn:List (Key × V)) | iH (dn:List (List Key × V))
 | set (S:Int->Bool) (n:Nat)
 | ins (C aV:Addr) (aK:List (Str × V))
 | own (x:Addr)
 | iI (aK:List (Str × V))
 | met (f x:Addr)
 | yy (lo av:Int)
 | ih (o:Obj) (u:gi)
 | n_ (ps:Array Value)
 | ext (φ:bE->Prop)
abbrev aw:=Addr->Option gi
def upd(H:aw)(a:Addr)(o:gi):aw:=λ b=>if b=a then some o else H b
theorem eG{H:aw}{a:Addr}{o:gi}:upd H a o a=some o:=by unfold upd;rw [if_pos rfl]
theorem cN{H:aw}{a b:Addr}{o:gi}(h:b≠a):upd H a o b=H b:=by unfold upd;rw [if_neg h]
theorem hY{H:aw}{a b:Addr}{o:gi}(h:H a=some o)(h':H b=none):a≠b:=by
 intro e;subst e;rw [h] at h';cases h'
section
variable(P:cL)(w:b8)
def f9(H:aw)(h:bE)(a:Addr):gi->Prop
 | .lst xs=>xs.length<=sizeLine/\∃(az:List Value)(n:Nat),Vals xs az/\h.get? a=some { cls:=.type "list", data:=.seq az.toArray n }
 | .tup xs=>xs.length<=sizeLine/\∃ az:List Value,Vals xs az/\ma h a az.toArray
 | .i3 dn=>dn.length<=sizeLine/\(a==sysModules)=false/\∃ vs,Bv dn vs/\h.DictOf (Bu P w) a vs
 | .iH dn=>dn.length<=sizeLine/\(a==sysModules)=false/\∃ xs:List (List Key × Addr × Value),
  sd (λ(p:List Key × V) (q:List Key × Addr × Value)=>p.1=q.1/\H q.2.1=some (.tup (p.1.map gG))/\RelV p.2 q.2.2) dn xs ∧
  ∃ o es dY,h.get? a=some o/\o.ExactDict/\o.data=.dict es dY/\es.toList=xs.map (entryOfKey (tupleKind (Bu P w)))/\(xs.map (·.1)).Nodup
 | .set S n=>h.SetOf (intKind P w) a S n
 | .ins C aV aK=>H aV=some (.own a)/\aK.length<=1000/\aV≠a/\h.get? a=some (PySem.W.instObj C aV) ∧
  ∃ mA,h.Ns1 aV mA/\(∀ f,u4 (aK.lookup f) (mA f))/\PySem.Within mA (aK.map (·.1))
 | .own _=>∃ o,h.get? a=some o
 | .iI aK=>∃ mA,h.Ns1 a mA/\∀ f,u4 (aK.lookup f) (mA f)
 | .yy lo av=>∃ t u v,h.get? a=some { cls:=.type "range", data:=.fields #[.int lo t,.int av u,.int 1 v] }
 | .ih o u=>h.get? a=some o/\f9 H h a u
 | .n_ ps=>h.get? a=some { cls:=.none,data:=.fields ps }
 | .met f x=>h.get? a=some (PySem.W.methodObj (.ref f) (.ref x))
 | .ext φ=>φ h/\(∃ o,h.get? a=some o)/\∀ ae ag:bE,φ ae->(∀ o,ae.get? a=some o->ag.get? a=some o)->φ ag
def fx(H:aw)(h:bE):Prop:=∀ a o,H a=some o->f9 P w H h a o
end
section
variable{P:cL}{w:b8}{H aj:aw}{h h':bE}{a:Addr}{o:gi}
theorem f9.lt(x:f9 P w H h a o):a < h.objs.size:=by
 cases o with
 | lst xs=>obtain ⟨_,_,_,_,e⟩:=x;exact dc e
 | tup xs=>obtain ⟨_,_,_,p⟩:=x;exact p.lt
 | i3 dn=>obtain ⟨_,_,_,_,o,_,_,e,_⟩:=x;exact dc e
 | iH dn=>obtain ⟨_,_,_,_,o,_,_,e,_⟩:=x;exact dc e
 | set S n=>obtain ⟨o,_,_,_,e,_⟩:=x;exact dc e
 | ins C aV aK=>obtain ⟨_,_,_,e,_⟩:=x;exact dc e
 | own y=>obtain ⟨_,e⟩:=x;exact dc e
 | iI aK=>obtain ⟨_,⟨_,_,_,e,_⟩,_⟩:=x;exact dc e
 | yy lo av=>obtain ⟨_,_,_,e⟩:=x;exact dc e
 | ih c_ u=>obtain ⟨e,_⟩:=x;exact dc e
 | n_ ps=>exact dc (show h.get? a=some _ from x)
 | met f y=>exact dc (show h.get? a=some _ from x)
 | ext φ=>obtain ⟨_,⟨_,e⟩,_⟩:=x;exact dc e
theorem Paired.G_{α β:Type}{F G:α->β->Prop}:∀{Ha:List α}{Hb:List β},sd F Ha Hb->(∀ a b,F a b->G a b)->sd G Ha Hb
 | _,_,.nil,_=>.nil
 | _,_,.cons r t,f=>.cons (f _ _ r) (Paired.G_ t f)
theorem f9.nk(x:f9 P w H h a o)(k:∀ b u,(b=a\/H b=some (.own a))->h.get? b=some u->h'.get? b=some u)
 (aS:∀ b,H b=some (.own a)->aj b=some (.own a)) (bh:∀ b xs,H b=some (.tup xs)->aj b=some (.tup xs)):f9 P w aj h' a o:=by
 induction o with
 | lst xs=>obtain ⟨z,az,n,r,e⟩:=x;exact ⟨z,az,n,r,k _ _ (.inl rfl) e⟩
 | tup xs=>obtain ⟨z,az,r,c_,e,c⟩:=x;exact ⟨z,az,r,c_,k _ _ (.inl rfl) e,c⟩
 | i3 dn=>obtain ⟨z,y,vs,r,c_,es,dY,e,c⟩:=x;exact ⟨z,y,vs,r,c_,es,dY,k _ _ (.inl rfl) e,c⟩
 | iH dn=>
  obtain ⟨z,y,xs,r,c_,es,dY,e,c⟩:=x;exact ⟨z,y,xs,Paired.G_ r λ p q z=>⟨z.1,bh _ _ z.2.1,z.2.2⟩,c_,es,dY,k _ _ (.inl rfl) e,c⟩
 | set S n=>obtain ⟨c_,es,dY,t,e,c⟩:=x;exact ⟨c_,es,dY,t,k _ _ (.inl rfl) e,c⟩
 | ins C aV aK=>
  obtain ⟨d,z,ne,e,mA,⟨eM,es,dY,aG,c⟩,r⟩:=x;exact ⟨aS _ d,z,ne,k _ _ (.inl rfl) e,mA,⟨eM,es,dY,k _ _ (.inr d) aG,c⟩,r⟩
 | own y=>obtain ⟨c_,e⟩:=x;exact ⟨c_,k _ _ (.inl rfl) e⟩
 | iI aK=>obtain ⟨mA,⟨eM,es,dY,e,c⟩,r⟩:=x;exact ⟨mA,⟨eM,es,dY,k _ _ (.inl rfl) e,c⟩,r⟩
 | yy lo av=>obtain ⟨t,u,v,e⟩:=x;exact ⟨t,u,v,k _ _ (.inl rfl) e⟩
 | ih c_ u aO=>obtain ⟨e,q⟩:=x;exact ⟨k _ _ (.inl rfl) e,aO q⟩
 | n_ ps=>
  have e:h.get? a=some { cls:=.none,data:=.fields ps }:=x;show h'.get? a=some { cls:=.none,data:=.fields ps };exact k a _ (.inl rfl) e
 | met f y=>
  have e:h.get? a=some (PySem.W.methodObj (.ref f) (.ref y)):=x;show h'.get? a=some (PySem.W.methodObj (.ref f) (.ref y));exact k a _ (.inl rfl) e
 | ext φ=>obtain ⟨p,⟨o,e⟩,st⟩:=x;exact ⟨st _ _ p λ o q=>k _ _ (.inl rfl) q,⟨o,k _ _ (.inl rfl) e⟩,st⟩
theorem fx.lt(x:fx P w H h)(e:H a=some o):a < h.objs.size:=(x a o e).lt
theorem fx.fresh(x:fx P w H h)(e:h.objs.size<=a):H a=none:=by
 cases q:H a with
 | none=>rfl
 | some u=>exact absurd (hX (x.lt q) e) (me _)
theorem fx.kept(x:fx P w H h)(k:∀ b u,h.get? b=some u->h'.get? b=some u):fx P w H h':=λ a o e=>
 (x a o e).nk (λ b u _ q=>k b u q) (λ _ q=>q) λ _ _ q=>q
theorem fx.laid(x:fx P w H h)(k:∀ b u,h.get? b=some u->h'.get? b=some u)(ah:h.objs.size<=a)(new:f9 P w (upd H a o) h' a o):fx P w (upd H a o) h':=λ b u e=>by
 have aH:=x.fresh ah;by_cases af:b=a
 ·subst af;rw [eG] at e;cases e;exact new
 ·rw [cN af] at e;exact (x b u e).nk (λ c v _ q=>k c v q) (λ c q=>by rw [cN (hY q aH)];exact q) λ c xs q=>by rw [cN (hY q aH)];exact q
end
def oa(H:aw)(a:Addr)(u:gi):Prop:=H a=some u\/∃ o,H a=some (.ih o u)
theorem oa.ok{P:cL}{w:b8}{H:aw}{h:bE}{a:Addr}{u:gi}(r:oa H a u)(x:fx P w H h):f9 P w H h a u:=by
 rcases r with r | ⟨o,r⟩
 ·exact x a u r
 ·obtain ⟨_,q⟩:=x a _ r;exact q
def u5:Option gi->Prop
 | some (.lst _)=>True
 | some (.i3 _)=>True
 | some (.iH _)=>True
 | some (.set _ _)=>True
 | some (.ins _ _ _)=>True
 | some (.ext _)=>True
 | _=>False
section
variable{P:cL}{w:b8}{H:aw}{h h':bE}{x e:Addr}{dM:gi}
theorem fx.write(ok:fx P w H h)(jO:u5 (H x))(he:e=x\/H e=some (.own x))(k:∀ b u,b≠e->h.get? b=some u->h'.get? b=some u)(ob:∃ u,h'.get? e=some u)
 (new:f9 P w (upd H x dM) h' x dM):fx P w (upd H x dM) h':=λ b u q=>by
 have Hc:∀ c y,H c=some (.own y)->c≠x:=λ c y r z=>by subst z;rw [r] at jO;exact jO
 have Pp:∀ c xs,H c=some (.tup xs)->c≠x:=λ c xs r z=>by subst z;rw [r] at jO;exact jO
 by_cases af:b=x
 ·subst af;rw [eG] at q;cases q;exact new
 ·rw [cN af] at q;by_cases nq:b=e
  ·have gT:H b=some (.own x):=by
    rcases he with z | z
    ·exact absurd (nq.trans z) af
    ·rw [nq];exact z
   rw [q] at gT;cases gT;obtain ⟨v,bO⟩:=ob;exact ⟨v,by rw [nq];exact bO⟩
  ·refine (ok b u q).nk (λ c v ai r=>k c v ?_ r) (λ c r=>by rw [cN (Hc c b r)];exact r) λ c xs r=>by rw [cN (Pp c xs r)];exact r
   rcases ai with rfl | ai
   ·exact nq
   ·rintro rfl;rcases he with z | z
    ·exact Hc c b ai z
    ·rw [ai] at z;cases z;exact af rfl
end
structure fP(aK ex:List Addr)(H aj:aw)(h h':bE):Prop where
 keep:∀ b o,h.get? b=some o->H b=none->b ∉ aK->b ∉ ex->h'.get? b=some o
 slot:∀ b o,h.get? b=some o->H b=none->b∈aK->b ∉ ex->∃ bz,h'.get? b=some { o with slots:=bz }
 free:∀ b o,h.get? b=some o->H b=none->b ∉ ex->aj b=none
 there:∀ b o,h.get? b=some o->b ∉ ex->∃ dM,h'.get? b=some dM
 km:∀ b xs,H b=some (.tup xs)->aj b=some (.tup xs)
 jP:∀ b o u,H b=some (.ih o u)->aj b=some (.ih o u)
 kn:∀ b ps,H b=some (.n_ ps)->∃ more,aj b=some (.n_ (ps++more))
section
variable{aK dN ex aeU:List Addr}{H H1 bg:aw}{h ae ag h':bE}{a x e:Addr}{o:gi}
theorem fP.any(u:fP aK ex H H1 h ae){b:Addr}{c_:Obj}(q:h.get? b=some c_)(n:H b=none)(ak:b ∉ ex):∃ bz,ae.get? b=some { c_ with slots:=bz }:=by
 by_cases af:b∈aK
 ·exact u.slot b c_ q n af ak
 ·exact ⟨c_.slots,u.keep b c_ q n af ak⟩
theorem fP.kept(k:∀ b u,h.get? b=some u->h'.get? b=some u):fP aK ex H H h h':=
 ⟨λ b c_ q _ _ _=>k b c_ q,λ b c_ q _ _ _=>⟨c_.slots,k b c_ q⟩,λ _ _ _ n _=>n,λ b c_ q _=>⟨c_,k b c_ q⟩,λ _ _ q=>q,λ _ _ _ q=>q,λ _ ps q=>⟨#[],by rw [q];simp⟩⟩
theorem fP.refl:fP aK ex H H h h:=fP.kept λ _ _ q=>q
theorem fP.laid(k:∀ b u,h.get? b=some u->h'.get? b=some u)(ah:h.objs.size<=a)(aH:H a=none):fP aK ex H (upd H a o) h h' where
 keep:=λ b u q _ _ _=>k b u q
 slot:=λ b u q _ _ _=>⟨u.slots,k b u q⟩
 free:=λ b u q n _=>by rw [cN (eO (hX (dc q) ah))];exact n
 there:=λ b u q _=>⟨u,k b u q⟩
 km:=λ b xs q=>by rw [cN (hY q aH)];exact q
 jP:=λ b u xs q=>by rw [cN (hY q aH)];exact q
 kn:=λ b ps q=>⟨#[],by rw [cN (hY q aH),q];simp⟩
theorem fP.write(jO:u5 (H x))(he:e=x\/H e=some (.own x))(k:∀ b u,b≠e->h.get? b=some u->h'.get? b=some u)(ob:∃ u,h'.get? e=some u):fP aK ex H (upd H x o) h h':=by
 have ak:∀ b,H b=none->b≠x:=λ b n z=>by subst z;rw [n] at jO;exact jO
 have af:∀ b,H b=none->b≠e:=λ b n z=>by
  subst z;rcases he with r | r
  ·exact ak b n r
  ·rw [n] at r;cases r
 have hm:∀ b u,H b=some u->¬ u5 (some u)->b≠x:=λ b u q nm z=>by subst z;rw [q] at jO;exact nm jO
 refine ⟨λ b u q n _ _=>k b u (af b n) q,λ b u q n _ _=>⟨u.slots,k b u (af b n) q⟩,λ b u q n _=>by rw [cN (ak b n)];exact n,λ b u q _=>?_,
  λ b xs q=>by rw [cN (hm b _ q λ z=>z)];exact q,λ b u xs q=>by rw [cN (hm b _ q λ z=>z)];exact q,λ b ps q=>⟨#[],by rw [cN (hm b _ q λ z=>z),q];simp⟩⟩
 by_cases nq:b=e
 ·subst nq;exact ob
 ·exact ⟨u,k b u nq q⟩
end
def yz(h:bE)(H:aw):List Addr:=(hE h.objs.size).filter λ a=>(H a).isSome
def oc(h:bE)(H:aw):bE:=PySem.W.hideAll h (yz h H)
theorem Pq(h:bE)(H:aw):(oc h H).objs.size=h.objs.size:=PySem.W.hideAll_size _ _
theorem Pr{h:bE}{H:aw}{b:Addr}{o:Obj}(e:h.get? b=some o)(n:H b=none):(oc h H).get? b=some o:=
 PySem.W.hideAll_get _ e λ hm=>by
  have q:(H b).isSome=true:=(List.mem_filter.mp hm).2;rw [n] at q;simp at q
theorem Ps{h:bE}{H:aw}{b:Addr}{o:Obj}(e:(oc h H).get? b=some o):h.get? b=some o/\H b=none:=by
 have bV:h.get? b=some o:=PySem.W.of_hideAll (yz h H) e;refine ⟨bV,?_⟩
 cases q:H b with
 | none=>rfl
 | some x=>
  have hm:b∈yz h H:=List.mem_filter.mpr ⟨n3.mpr (dc bV),by simp [q]⟩;have z:(oc h H).get? b=none:=PySem.W.hideAll_none (yz h H) hm;rw [z] at e;cases e
structure Mod(K:aX)(mg:Str->Option Value)(base:bE):Prop where
 sL:K.In base
 glob:base.Ns eh mg
 blt:∃ jQ,base.Ns builtinsNs jQ/\∀ x:Str,x≠"__name__"->jQ x=kO x
 nolimit:base.NoLimit
structure aW where
 prog:cL
 w:b8
 K:aX
 mg:Str->Option Value
 base:bE
 A:cz
 N:List Str
 eP:aE
 u6:aw
 env:Env
 outer:List Env
 stack:List Env
 ex:List Addr
 fn:Str->Bool
 calm:Bool
 pn:List (Addr × Obj)
 xe:Value->aE->Prop
def eQ(l:List Env):List Addr:=l.filterMap (·.frame)
abbrev aW.aK(X:aW):List Addr:=eQ X.outer
def qM(sc:gg)(x:Str):Prop:=sc.names.lookup x=some .local\/sc.names.lookup x=some .cell\/sc.names.lookup x=some .free
def Loc(sc:gg)(x:Str):Prop:=sc.names.lookup x=some .local\/sc.names.lookup x=some .cell
def Look(env:Env)(h:bE)(m:Str->Option Value)(x:Str)(u:Value):Prop:=
 (env.kindOf x=some .local/\m x=some u)\/((env.kindOf x=some .cell\/env.kindOf x=some .free)/\∃ c,env.cells.lookup x=some c/\h.IsCell c (some u))
structure aW.Ok(X:aW):Prop where
 mod:Mod X.K X.mg X.base
 kind:X.env.scope.kind=.function
 glob:X.env.globals=eh
 blt:X.env.builtins=builtinsNs
 above:X.eP.heap.objs.size<=X.env.locals
 inj:∀ x y c,X.env.cells.lookup x=some c->X.env.cells.lookup y=some c->x=y
 has:∀ x,(X.env.kindOf x=some .cell\/X.env.kindOf x=some .free)->∃ c,X.env.cells.lookup x=some c
 sM:∀ x c,X.fn x=true->X.env.cells.lookup x=some c->X.eP.heap.objs.size<=c
 hd:X.calm=true->X.A.handled=none
 frames:X.A.frames=some X.stack
 sN:X.stack=X.outer\/(X.stack=X.env::X.outer/\X.env.frame=some X.env.locals)
 Bw:∀ b∈X.ex,b≠X.env.locals/\∀ x c,X.env.cells.lookup x=some c->c≠b
 bs:∀ b o,X.base.get? b=some o->X.eP.heap.get? b=some o/\X.u6 b=none
 nr:X.base.objs.size<=X.eP.heap.objs.size
 sO:∀ b o,X.base.get? b=some o->b ∉ X.ex
 u7:∀ b∈X.ex,b ∉ X.aK
 ko:X.eP.heap.FunFrames X.base X.outer
 pG:∀ b∈X.aK,X.u6 b=none
structure Inv(X:aW)(pins:List (Addr × Obj))(σ:List (Option V))(H:aw)(s:aE):Prop where
 ok:X.Ok
 os:s.os=X.eP.os
 bare:l_ s.gens
 base:fP X.aK X.ex X.u6 H X.eP.heap s.heap
 loc:∃ m,s.heap.Ns X.env.locals m/\∀(i:Nat)(x:Str)(v:V),X.N[i]?=some x->σ[i]?=some (some v)->qM X.env.scope x->∃ u,RelV v u/\Look X.env s.heap m x u
 cell:∀ x c,X.env.cells.lookup x=some c->∃ v,s.heap.IsCell c v
 free:H X.env.locals=none
 kp:∀ x c,X.env.cells.lookup x=some c->H c=none
 pin:∀ p∈X.pn++pins,s.heap.get? p.1=some p.2/\H p.1=none/\p.1≠X.env.locals/\p.1 ∉ X.aK/\∀ v,p.2.data≠.cell v
 bJ:fx X.prog X.w H s.heap
 len:σ.length=X.N.length
section
variable{X:aW}{pins:List (Addr × Obj)}{σ:List (Option V)}{H aj:aw}{s:aE}{h':bE}
theorem aW.Ok.Pt(ok:X.Ok){b:Addr}{o:Obj}(e:X.base.get? b=some o):b ∉ X.aK:=λ af=>by
 have:=(ok.ko.mem af).1;rw [e] at this;cases this
theorem Inv.bs(I:Inv X pins σ H s):∀ b o,X.base.get? b=some o->s.heap.get? b=some o/\H b=none:=λ b o e=>
 ⟨I.base.keep b o (I.ok.bs b o e).1 (I.ok.bs b o e).2 (I.ok.Pt e) (I.ok.sO b o e),I.base.free b o (I.ok.bs b o e).1 (I.ok.bs b o e).2 (I.ok.sO b o e)⟩
theorem Inv.bk(I:Inv X pins σ H s):∀ b o,X.base.get? b=some o->s.heap.get? b=some o:=λ b o e=>(I.bs b o e).1
theorem Inv.mod(I:Inv X pins σ H s):Mod X.K X.mg X.base:=I.ok.mod
theorem Inv.ff(I:Inv X pins σ H s):X.K.In s.heap:=I.ok.mod.sL.keeps I.bk
theorem Inv.lt(I:Inv X pins σ H s):X.env.locals < s.heap.objs.size:=let ⟨_,aH,_⟩:=I.loc;aH.lt
theorem Inv.eW(I:Inv X pins σ H s):X.eP.heap.objs.size<=s.heap.objs.size:=gF I.ok.above (Nat.le_of_lt I.lt)
theorem Inv.Pu(I:Inv X pins σ H s){a:Addr}(h:s.heap.objs.size<=a):a ∉ X.aK:=λ af=>by
 obtain ⟨_,o,aS,_⟩:=I.ok.ko.mem af;exact absurd (hX (dc aS) (gF I.eW h)) (me _)
theorem Inv.qN(I:Inv X pins σ H s):∀ x c,X.env.cells.lookup x=some c->c≠X.env.locals:=λ x c e z=>by
 obtain ⟨v,o,aS,hd⟩:=I.cell x c e;obtain ⟨m,⟨dM,es,dY,mh,kT,_⟩,_⟩:=I.loc;rw [z,mh] at aS;cases aS;rw [kT] at hd;cases hd
theorem Inv.ko(I:Inv X pins σ H s):s.heap.FunFrames X.base X.outer:=by
 have all:∀(l:List Env),(∀ b∈eQ l,b∈X.aK)->X.eP.heap.FunFrames X.base l->s.heap.FunFrames X.base l:=by
  intro l
  induction l with
  | nil=>intro _ _;trivial
  | cons env r aO=>
   intro ap ar;obtain ⟨aN,⟨L,o,hf,aH,aS,hd⟩,ao⟩:=ar;have i4:L∈X.aK:=ap L (by unfold eQ;rw [xZ,hf];exact bT);obtain ⟨bz,e⟩:=I.base.slot L o aS (I.ok.pG L i4) i4 λ z=>I.ok.u7 L z i4;exact ⟨aN,⟨L,_,hf,aH,e,hd⟩,aO (λ b af=>ap b (by unfold eQ;rw [xZ,hf];exact bY _ af)) ao⟩
 exact all X.outer (λ _ af=>af) I.ok.ko
theorem Inv.stack(I:Inv X pins σ H s):s.heap.FunFrames X.base X.stack:=by
 rcases I.ok.sN with e | ⟨e,hf⟩
 ·rw [e];exact I.ko
 ·rw [e];obtain ⟨m,aH,_⟩:=I.loc;refine .cons (by rw [I.ok.kind];decide) hf aH ?_ I.ko;exact yv (gF I.ok.nr I.ok.above)
theorem Inv.sP(I:Inv X pins σ H s):∀ b∈eQ X.stack,b∈X.env.locals::X.aK:=λ b af=>by
 rcases I.ok.sN with e | ⟨e,hf⟩
 ·rw [e] at af;exact bY _ af
 ·rw [e] at af;unfold eQ at af;rw [xZ,hf] at af;exact af
theorem Inv.u9(I:Inv X pins σ H s):∀ b∈eQ X.stack,H b=none:=λ b af=>by
 rcases cC.mp (I.sP b af) with e | af
 ·rw [e];exact I.free
 ·obtain ⟨_,o,aS,_⟩:=I.ok.ko.mem af;exact I.base.free b o aS (I.ok.pG b af) λ z=>I.ok.u7 b z af
theorem Inv.step{g':Array GenState}{t':Nat}{d':Drawn}{ch:List Addr}(I:Inv X pins σ H s)
 (i5:∀ b∈ch,(b∈X.ex\/X.eP.heap.objs.size<=b)/\b≠X.env.locals/\(∀ x c,X.env.cells.lookup x=some c->c≠b)/\∀ p∈X.pn++pins,p.1≠b)
 (keep:∀ b o,b≠X.env.locals->b ∉ X.aK->b ∉ ch->s.heap.get? b=some o->H b=none->h'.get? b=some o)
 (slot:∀ b o,b≠X.env.locals->b∈X.aK->b ∉ ch->s.heap.get? b=some o->H b=none->∃ bz,h'.get? b=some { o with slots:=bz }) (free:∀ b o,b ∉ ch->s.heap.get? b=some o->H b=none->aj b=none)
 (there:∀ b o,b ∉ ch->s.heap.get? b=some o->∃ dM,h'.get? b=some dM)
 (km:∀ b xs,H b=some (.tup xs)->aj b=some (.tup xs)) (jP:∀ b o u,H b=some (.ih o u)->aj b=some (.ih o u)) (kn:∀ b ps,H b=some (.n_ ps)->∃ more,aj b=some (.n_ (ps++more)))
 (ns:∀ m,s.heap.Ns X.env.locals m->h'.Ns X.env.locals m) (bJ:fx X.prog X.w aj h') (a3:l_ g') :
 Inv X pins σ aj { s with heap:=h',gens:=g',drawn:=d',toks:=t' }:=by
 have Hd:∀ b o,X.eP.heap.get? b=some o->b≠X.env.locals:=λ b o e=>eO (hX (dc e) I.ok.above)
 have yA:∀ b o,X.eP.heap.get? b=some o->b ∉ X.ex->b ∉ ch:=λ b o e ak af=>by
  rcases (i5 b af).1 with z | z
  ·exact ak z
  ·exact absurd (hX (dc e) z) (me _)
 have cellK:∀ x c,X.env.cells.lookup x=some c->∀ v,s.heap.IsCell c v->h'.IsCell c v:=λ x c e v ⟨o,aS,hd⟩=>by
  have u_:c ∉ ch:=λ z=>(i5 c z).2.2.1 x c e rfl;by_cases ai:c∈X.aK
  ·obtain ⟨bz,q⟩:=slot c o (I.qN x c e) ai u_ aS (I.kp x c e);exact ⟨_,q,hd⟩
  ·exact ⟨o,keep c o (I.qN x c e) ai u_ aS (I.kp x c e),hd⟩
 refine ⟨I.ok,I.os,a3,⟨λ b o e n af ak=>?_,λ b o e n af ak=>?_,λ b o e n ak=>?_,λ b o e ak=>?_,λ b xs e=>km b xs (I.base.km b xs e),λ b o xs e=>jP b o xs (I.base.jP b o xs e),λ b ps e=>?_⟩,?_,λ x c e=>?_,?_,λ x c e=>?_,λ p ah=>?_,bJ,I.len⟩
 ·exact keep b o (Hd b o e) af (yA b o e ak) (I.base.keep b o e n af ak) (I.base.free b o e n ak)
 ·obtain ⟨bz,aC⟩:=I.base.slot b o e n af ak;obtain ⟨qO,aG⟩:=slot b _ (Hd b o e) af (yA b o e ak) aC (I.base.free b o e n ak);exact ⟨qO,aG⟩
 ·obtain ⟨dM,aC⟩:=I.base.there b o e ak;exact free b dM (yA b o e ak) aC (I.base.free b o e n ak)
 ·obtain ⟨dM,aC⟩:=I.base.there b o e ak;exact there b dM (yA b o e ak) aC
 ·obtain ⟨ei,aC⟩:=I.base.kn b ps e;obtain ⟨eD,aG⟩:=kn b _ aC;exact ⟨ei++eD,by rw [aG,Array.append_assoc]⟩
 ·obtain ⟨m,aH,ar⟩:=I.loc;refine ⟨m,ns m aH,λ i x v aC aG e3=>?_⟩;obtain ⟨u,r,l⟩:=ar i x v aC aG e3;refine ⟨u,r,?_⟩;rcases l with l | ⟨k,c,e,z⟩
  ·exact .inl l
  ·exact .inr ⟨k,c,e,cellK x c e _ z⟩
 ·obtain ⟨v,z⟩:=I.cell x c e;exact ⟨v,cellK x c e v z⟩
 ·obtain ⟨m,⟨o,_,_,aS,_⟩,_⟩:=I.loc;exact free _ o (λ z=>(i5 _ z).2.1 rfl) aS I.free
 ·obtain ⟨v,o,aS,hd⟩:=I.cell x c e;exact free c o (λ z=>(i5 c z).2.2.1 x c e rfl) aS (I.kp x c e)
 ·obtain ⟨e,n,ne,lE,d⟩:=I.pin p ah;have u_:p.1 ∉ ch:=λ z=>(i5 p.1 z).2.2.2 p ah rfl;exact ⟨keep p.1 p.2 ne lE u_ e n,free p.1 p.2 u_ e n,ne,lE,d⟩
theorem Inv.un{t':Nat}(I:Inv X pins σ H s)(u:fP X.aK [] H aj s.heap h')(bJ:fx X.prog X.w aj h'):Inv X pins σ aj { s with heap:=h',toks:=t' }:=by
 obtain ⟨m,⟨o,es,dY,aS,r⟩,_⟩:=id I.loc;obtain ⟨bz,i4⟩:=u.any aS I.free (by simp)
 exact I.step (g':=s.gens) (d':=s.drawn) (ch:=[]) (λ _ z=>nomatch z) (λ b o _ af _ e n=>u.keep b o e n af (by simp)) (λ b o _ af _ e n=>u.slot b o e n af (by simp)) (λ b o _ e n=>u.free b o e n (by simp)) (λ b o _ e=>u.there b o e (by simp)) u.km u.jP u.kn (λ ej hm=>by
  obtain ⟨dM,lF,Bx,mh,bp⟩:=hm;rw [aS] at mh;cases mh
  exact ⟨_,lF,Bx,i4,bp⟩) bJ I.bare
theorem Inv.call{g':Array GenState}{t':Nat}{d':Drawn}{ch:List Addr}(I:Inv X pins σ H s)(u:fP (eQ X.stack) ch H aj s.heap h')(bJ:fx X.prog X.w aj h')(a3:l_ g')
 (i5:∀ b∈ch,(b∈X.ex\/X.eP.heap.objs.size<=b)/\b≠X.env.locals/\(∀ x c,X.env.cells.lookup x=some c->c≠b)/\∀ p∈X.pn++pins,p.1≠b) :
 Inv X pins σ aj { s with heap:=h',gens:=g',drawn:=d',toks:=t' }:=by
 obtain ⟨m,⟨o,es,dY,aS,r⟩,_⟩:=id I.loc;obtain ⟨bz,i4⟩:=u.any aS I.free λ z=>(i5 _ z).2.1 rfl
 exact I.step (ch:=ch) i5 (λ b o i4 af ai e n=>u.keep b o e n (λ z=>(cC.mp (I.sP b z)).elim i4 af) ai) (λ b o _ _ ai e n=>u.any e n ai) (λ b o ai e n=>u.free b o e n ai) (λ b o ai e=>u.there b o e ai) u.km u.jP u.kn (λ ej hm=>by
  obtain ⟨dM,lF,Bx,mh,bp⟩:=hm;rw [aS] at mh;cases mh
  exact ⟨_,lF,Bx,i4,bp⟩) bJ a3
theorem Inv.turned{t':Nat}{it:Addr}(I:Inv X pins σ H s)(k:∀ b o,b≠it->s.heap.get? b=some o->h'.get? b=some o)(aH:H it=none)(i4:it≠X.env.locals)
 (ae:it∈X.ex\/X.eP.heap.objs.size<=it) (ag:∀ x c,X.env.cells.lookup x=some c->c≠it) (aR:∀ p∈X.pn++pins,p.1≠it):Inv X pins σ H { s with heap:=h',toks:=t' }:=by
 have va:∀ b u,H b=some u->b≠it:=λ b u e z=>by rw [z,aH] at e;cases e
 refine I.step (g':=s.gens) (d':=s.drawn) (ch:=[it]) (λ b af=>?_) (λ b o _ _ ai e _=>k b o (λ z=>ai (by simp [z])) e) (λ b o _ _ ai e _=>⟨o.slots,k b o (λ z=>ai (by simp [z])) e⟩) (λ _ _ _ _ n=>n)
  (λ b o ai e=>⟨o,k b o (λ z=>ai (by simp [z])) e⟩) (λ _ _ e=>e) (λ _ _ _ e=>e) (λ b ps e=>⟨#[],by rw [e];simp⟩) (λ m hm=>?_) (λ b u e=>?_) I.bare
 ·have e:b=it:=by simpa using af
  subst e;exact ⟨ae,i4,ag,aR⟩
 ·obtain ⟨o,es,dY,aS,r⟩:=hm;exact ⟨o,es,dY,k _ o (Ne.symm i4) aS,r⟩
 ·refine (I.bJ b u e).nk (λ c v ai q=>k c v ?_ q) (λ _ q=>q) λ _ _ q=>q;rcases ai with z | z
  ·rw [z];exact va b u e
  ·exact va c _ z
theorem Inv.tok(I:Inv X pins σ H s)(t:Nat):Inv X pins σ H { s with toks:=t }:=I.un (h':=s.heap) (t':=t) fP.refl I.bJ
theorem Inv.kept{t':Nat}(I:Inv X pins σ H s)(k:∀ b u,s.heap.get? b=some u->h'.get? b=some u):Inv X pins σ H { s with heap:=h',toks:=t' }:=I.un (fP.kept k) (I.bJ.kept k)
theorem Inv.laid{a:Addr}{o:gi}{t':Nat}(I:Inv X pins σ H s)(k:∀ b u,s.heap.get? b=some u->h'.get? b=some u)(ah:s.heap.objs.size<=a)(new:f9 X.prog X.w (upd H a o) h' a o) :
 Inv X pins σ (upd H a o) { s with heap:=h',toks:=t' }:=I.un (fP.laid k ah (I.bJ.fresh ah)) (I.bJ.laid k ah new)
theorem Inv.write{x e:Addr}{o:gi}{t':Nat}(I:Inv X pins σ H s)(jO:u5 (H x))(he:e=x\/H e=some (.own x))(k:∀ b u,b≠e->s.heap.get? b=some u->h'.get? b=some u)(ob:∃ u,h'.get? e=some u)
 (new:f9 X.prog X.w (upd H x o) h' x o):Inv X pins σ (upd H x o) { s with heap:=h',toks:=t' }:=I.un (fP.write jO he k ob) (I.bJ.write jO he k ob new)
theorem Inv.He{Hf:List (Addr × Obj)}(I:Inv X pins σ H s)(h:∀ p∈Hf,s.heap.get? p.1=some p.2/\H p.1=none/\p.1≠X.env.locals/\p.1 ∉ X.aK/\∀ v,p.2.data≠.cell v):Inv X Hf σ H s:=
 ⟨I.ok,I.os,I.bare,I.base,I.loc,I.cell,I.free,I.kp,λ p ah=>(fc.mp ah).elim (λ z=>I.pin p (kj _ z)) (h p),I.bJ,I.len⟩
theorem By{N:List Str}(dG:N.Nodup){i j:Nat}{x:Str}(a:N[i]?=some x)(b:N[j]?=some x):i=j:=by
 obtain ⟨ae,aC⟩:=mb.mp a;obtain ⟨ag,aG⟩:=mb.mp b;exact (List.getElem_inj dG).mp (aC.trans aG.symm)
theorem Hg{M:lx}{A:cz}{E:Value->aE->Prop}{i:Nat}{x:Str}{v:V}{u:Value}{Q:Unit->aE->Prop}(I:Inv X pins σ H s)(dG:X.N.Nodup)(av:X.N[i]?=some x)(ak:Loc X.env.scope x)(r:RelV v u)
 (h:∀ aM,Inv X pins (σ.set i (some v)) H aM->(∃ a,Heap.SameBut a s.heap aM.heap/\(a=X.env.locals\/X.env.cells.lookup x=some a))->Q () aM) (hf:X.fn x=true\/X.env.scope.names.lookup x=some .local:=by first | exact .inl rfl | exact .inr rfl | assumption):aU M A (storeName X.env x u) Q E s:=by
 obtain ⟨m,aH,ar⟩:=id I.loc
 have Bz:(X.env.scope.kind==.class||(X.env.scope.kind==.module&&X.env.locals !=X.env.globals))=false:=by rw [I.ok.kind];rfl
 have avσ:i < σ.length:=by rw [I.len];exact (mb.mp av).1
 have qN:=I.qN
 have tracked:∀{a:Addr}{h':bE},(∃ o,s.heap.get? a=some o/\H a=none)->Heap.SameBut a s.heap h'->fx X.prog X.w H h':=λ{a h'} ax ap b c_ e=>by
  obtain ⟨_,_,Hh⟩:=ax;refine (I.bJ b c_ e).nk (λ c iJ ai q=>(ap.2 c ?_).trans q) (λ _ q=>q) λ _ _ q=>q;rintro rfl;rcases ai with rfl | ai
  ·rw [Hh] at e;cases e
  ·rw [Hh] at ai;cases ai
 rcases ak with aN | aN
 ·refine wpAny_storeName_local aN aH (λ h' od ap=>?_) Bz;obtain ⟨Pv,_,_,qP,_⟩:=id aH;refine h _ ⟨I.ok,I.os,I.bare,⟨λ b o e n af ak=>?_,λ b o e n af ak=>?_,I.base.free,λ b o e ak=>?_,I.base.km,I.base.jP,I.base.kn⟩,⟨_,od,λ j y nu aC aG e3=>?_⟩,λ y c e=>?_,I.free,I.kp,λ p ah=>?_,tracked ⟨Pv,qP,I.free⟩ ap,by simpa using I.len⟩ ⟨_,ap,.inl rfl⟩
  ·exact (ap.2 b (eO (hX (dc e) I.ok.above))).trans (I.base.keep b o e n af ak)
  ·obtain ⟨bz,aC⟩:=I.base.slot b o e n af ak;exact ⟨bz,(ap.2 b (eO (hX (dc e) I.ok.above))).trans aC⟩
  ·obtain ⟨dM,aC⟩:=I.base.there b o e ak;exact ⟨dM,(ap.2 b (eO (hX (dc e) I.ok.above))).trans aC⟩
  ·by_cases cD:j=i
   ·subst cD;rw [av] at aC;cases aC;rw [List.getElem?_set_self avσ] at aG;cases aG;exact ⟨u,r,.inl ⟨aN,by simp⟩⟩
   ·rw [qF (Ne.symm cD)] at aG;obtain ⟨kq,bp,q⟩:=ar j y nu aC aG e3;refine ⟨kq,bp,?_⟩;rcases q with ⟨k,e⟩ | ⟨k,c,e,z⟩
    ·refine .inl ⟨k,?_⟩;have:y≠x:=λ e=>cD (By dG aC (e ▸ av));simp [this,e]
    ·exact .inr ⟨k,c,e,z.sameBut ap (qN y c e)⟩
  ·obtain ⟨iJ,z⟩:=I.cell y c e;exact ⟨iJ,z.sameBut ap (qN y c e)⟩
  ·obtain ⟨e,n,ne,lE,d⟩:=I.pin p ah;exact ⟨(ap.2 p.1 ne).trans e,n,ne,lE,d⟩
 ·have BA:X.fn x=true:=by
   rcases hf with z | z
   ·exact z
   ·rw [z] at aN;cases aN
  obtain ⟨c,ai⟩:=I.ok.has x (.inl aN);obtain ⟨iJ,z⟩:=I.cell x c ai;refine wpAny_storeName_cell I.ok.kind aN ai z (λ h' vb ap=>?_);obtain ⟨gH,Hi,Pw⟩:=id z;refine h { s with heap:=h' } ⟨I.ok,I.os,I.bare,⟨λ b o e n af ak=>?_,λ b o e n af ak=>?_,I.base.free,λ b o e ak=>?_,I.base.km,I.base.jP,I.base.kn⟩,⟨m,aH.sameBut ap (Ne.symm (qN x c ai)),λ j y nu aC aG e3=>?_⟩,λ y fE e=>?_,I.free,I.kp,λ p ah=>?_,tracked ⟨gH,Hi,I.kp x c ai⟩ ap,by simpa using I.len⟩ ⟨c,ap,.inr ai⟩
  ·exact (ap.2 b (eO (hX (dc e) (I.ok.sM x c BA ai)))).trans (I.base.keep b o e n af ak)
  ·obtain ⟨bz,aC⟩:=I.base.slot b o e n af ak;exact ⟨bz,(ap.2 b (eO (hX (dc e) (I.ok.sM x c BA ai)))).trans aC⟩
  ·obtain ⟨dM,aC⟩:=I.base.there b o e ak;exact ⟨dM,(ap.2 b (eO (hX (dc e) (I.ok.sM x c BA ai)))).trans aC⟩
  ·by_cases cD:j=i
   ·subst cD;rw [av] at aC;cases aC;rw [List.getElem?_set_self avσ] at aG;cases aG;exact ⟨u,r,.inr ⟨.inl aN,c,ai,vb⟩⟩
   ·rw [qF (Ne.symm cD)] at aG;obtain ⟨kq,bp,q⟩:=ar j y nu aC aG e3;refine ⟨kq,bp,?_⟩;rcases q with q | ⟨k,fE,e,fQ⟩
    ·exact .inl q
    ·refine .inr ⟨k,fE,e,fQ.sameBut ap ?_⟩;rintro rfl;exact cD (By dG aC (I.ok.inj _ _ _ e ai ▸ av))
  ·by_cases hZ:fE=c
   ·subst hZ;exact ⟨_,vb⟩
   ·obtain ⟨gU,b9⟩:=I.cell y fE e;exact ⟨gU,b9.sameBut ap hZ⟩
  ·obtain ⟨e,n,ne,lE,d⟩:=I.pin p ah;refine ⟨(ap.2 p.1 ?_).trans e,n,ne,lE,d⟩;intro q;rw [q,Hi] at e;have gT:gH=p.2:=hn.inj e;exact d iJ (by rw [<- gT];exact Pw)
theorem yB{M:lx}{A:cz}{E:Value->aE->Prop}{i:Nat}{x:Str}{v:V}{u:Value}{Q:Unit->aE->Prop}(I:Inv X pins σ H s)(dG:X.N.Nodup)(av:X.N[i]?=some x)(ak:Loc X.env.scope x)(r:RelV v u)
 (h:∀ aM,Inv X pins (σ.set i (some v)) H aM->Q () aM) (hf:X.fn x=true\/X.env.scope.names.lookup x=some .local:=by first | exact .inl rfl | exact .inr rfl | assumption):aU M A (storeName X.env x u) Q E s:=
 Hg I dG av ak r (λ aM lG _=>h aM lG) hf
theorem Inv.yC{aM:aE}{ch:List Addr}(I:Inv X pins σ H s)(aS:aM.os=s.os)(u:fP (eQ X.stack) ch H aj s.heap aM.heap)(bJ:fx X.prog X.w aj aM.heap)(a3:l_ aM.gens)
 (i5:∀ b∈ch,(b∈X.ex\/X.eP.heap.objs.size<=b)/\b≠X.env.locals/\(∀ x c,X.env.cells.lookup x=some c->c≠b)/\∀ p∈X.pn++pins,p.1≠b):Inv X pins σ aj aM:=by
 obtain ⟨h',g',d',t',dM⟩:=aM;have e:dM=s.os:=aS;subst e;exact I.call (g':=g') (t':=t') (d':=d') u bJ a3 i5
end
abbrev fY:=Value->Option Addr->aw->Prop
abbrev St:=List (Option V)
abbrev cE:=V->aw->Prop
abbrev TE:=St->aw->cE->Prop
abbrev TT:=St->aw->(Bool->aw->Prop)->Prop
abbrev fk:=St->aw->(List V->aw->Prop)->Prop
structure Ends where
 nx:St->aw->Prop
 rt:cE
 bk:St->aw->Prop:=λ _ _=>False
 ct:St->aw->Prop:=λ _ _=>False
abbrev eR:=Ends->St->aw->Prop
def f_(X:aW)(pins:List (Addr × Obj))(σ:St)(Q:cE)(u:Value)(aM:aE):Prop:=∃ v aj,Inv X pins σ aj aM/\RelV v u/\Q v aj
def BB(X:aW)(pins:List (Addr × Obj))(σ:St)(Q:Bool->aw->Prop)(b:Bool)(aM:aE):Prop:=∃ aj,Inv X pins σ aj aM/\Q b aj
def Px(X:aW)(pins:List (Addr × Obj))(σ:St)(Q:List V->aw->Prop)(us:List Value)(aM:aE):Prop:=∃ vs aj,Inv X pins σ aj aM/\Vals vs us/\Q vs aj
def kU(X:aW)(pins:List (Addr × Obj))(D:Ends)(f:Flow)(aM:aE):Prop:=
 match f with
 | .next=>∃ σ' aj,Inv X pins σ' aj aM/\D.nx σ' aj
 | .brk=>∃ σ' aj,Inv X pins σ' aj aM/\D.bk σ' aj
 | .cont=>∃ σ' aj,Inv X pins σ' aj aM/\D.ct σ' aj
 | .ret u=>∃ v σ' aj,Inv X pins σ' aj aM/\RelV v u/\D.rt v aj
def b_(X:aW)(e:a8)(t:TE):Prop:=
 ∀(pins:List (Addr × Obj))(s:aE)(σ:St)(H:aw)(Q:cE),Inv X pins σ H s->t σ H Q->aU (aY X.prog X.w) X.A (eval e X.env) (f_ X pins σ Q) X.xe s
def kr(X:aW)(e:a8)(t:TT):Prop:=
 ∀(pins:List (Addr × Obj))(s:aE)(σ:St)(H:aw)(Q:Bool->aw->Prop),Inv X pins σ H s->t σ H Q->aU (aY X.prog X.w) X.A (isTrue e X.env (eval e X.env)) (BB X pins σ Q) X.xe s
def nv(X:aW)(e:a8)(t:TT):Prop:=
 ∀(whole:Sem Value)(pins:List (Addr × Obj))(s:aE)(σ:St)(H:aw)(Q:Bool->aw->Prop),Inv X pins σ H s->t σ H Q->aU (aY X.prog X.w) X.A (isTrue e X.env whole) (BB X pins σ Q) X.xe s
theorem nv.pt{X:aW}{e:a8}{t:TT}(h:nv X e t):kr X e t:=h _
def ii(X:aW)(es:List a8)(t:fk):Prop:=
 ∀(pos:Pos)(pins:List (Addr × Obj))(s:aE)(σ:St)(H:aw)(Q:List V->aw->Prop),Inv X pins σ H s->t σ H Q->aU (aY X.prog X.w) X.A (spliced (hO pos (dB es X.env))) (Px X pins σ Q) X.xe s
def jR(X:aW)(st:bP)(t:eR):Prop:=
 ∀(pins:List (Addr × Obj))(s:aE)(σ:St)(H:aw)(D:Ends),Inv X pins σ H s->t D σ H->aU (aY X.prog X.w) X.A (exec st X.env) (kU X pins D) X.xe s
def jq(X:aW)(st:List bP)(t:eR):Prop:=
 ∀(pins:List (Addr × Obj))(s:aE)(σ:St)(H:aw)(D:Ends),Inv X pins σ H s->t D σ H->aU (aY X.prog X.w) X.A (execs st X.env) (kU X pins D) X.xe s
theorem b0{α:Type}{t:Sem α}{Q h1:α->aE->Prop}{M:lx}{A:cz}{E:Value->aE->Prop}{s:aE}(h:aU M A t Q E s)(gj:∀ a s,Q a s->h1 a s):aU M A t h1 E s:=gC h gj λ _ _ x=>x
section
variable{X:aW}
theorem bin{a b:a8}{bb bF:TE}(ax:b_ X a bb)(af:b_ X b bF){pins:List (Addr × Obj)}{s:aE}{σ:St}{H:aw}{R:V->V->aw->Prop}(I:Inv X pins σ H s)(h:bb σ H λ x H1=>bF σ H1 λ y bg=>R x y bg)
 {α:Type} {Q:α->aE->Prop} {f:Value->Value->Sem α}
 (hf:∀ v u s2 x y bg,Inv X pins σ bg s2->RelV x v->RelV y u->R x y bg->aU (aY X.prog X.w) X.A (f v u) Q X.xe s2) :
 aU (aY X.prog X.w) X.A (eval a X.env) (λ v dp=>aU (aY X.prog X.w) X.A (eval b X.env) (λ u vd=>aU (aY X.prog X.w) X.A (f v u) Q X.xe vd) X.xe dp) X.xe s:=by
 refine b0 (ax pins s σ H _ I h) λ v s1 ⟨x,H1,a4,aT,aF⟩=>?_;refine b0 (af pins s1 σ H1 _ a4 aF) λ u s2 ⟨y,bg,dg,a0,bo⟩=>?_;exact hf v u s2 x y bg dg aT a0 bo
def yD(i:Nat):TE:=λ σ H Q=>∃ v,σ[i]?=some (some v)/\Q v H
def kV(v:V):TE:=λ _ H Q=>Q v H
theorem yE{i:Nat}{x:Str}{pos:Pos}(dG:X.N[i]?=some x)(bO:qM X.env.scope x)(hd:(x==("__debug__" : Str))=false:=by decide)(ho:(x==("__classdict__" : Str))=false:=by decide):b_ X (.Name x pos) (yD i):=by
 intro pins s σ H Q I h;obtain ⟨v,e,h⟩:=h;obtain ⟨m,aH,ar⟩:=I.loc;obtain ⟨u,r,l⟩:=ar i x v dG e bO
 have fin:f_ X pins σ Q u s:=⟨v,H,I,r,h⟩
 rcases l with ⟨aN,hm⟩ | ⟨aN,c,ai,Hj⟩
 ·exact wpAny_Name (wpAny_loadName_local I.ok.kind aN aH hm fin) hd
 ·rcases aN with aN | aN
  ·exact wpAny_Name (wpAny_loadName_cell I.ok.kind aN ai Hj fin) hd
  ·exact wpAny_Name (wpAny_loadName_free I.ok.kind aN ai Hj fin ho) hd
theorem Py {i j pos}:b_ X (.Constant (.int i) j pos) (kV (.int i)):=λ _ _ _ H _ I h=>wpAny_Constant_int ⟨.int i,H,I.tok _,⟨_,rfl⟩,h⟩
theorem Pz {b j pos}:b_ X (.Constant (.bool b) j pos) (kV (.aI b)):=λ _ _ _ H _ I h=>Constant_bool ⟨.aI b,H,I,rfl,h⟩
theorem PA {j pos}:b_ X (.Constant .none j pos) (kV .a9):=λ _ _ _ H _ I h=>Constant_none ⟨.a9,H,I,rfl,h⟩
theorem PB {x j pos}:b_ X (.Constant (.str x) j pos) (kV (.str x)):=λ _ _ _ H _ I h=>Calls.Constant_str ⟨.str x,H,I.tok _,⟨_,rfl⟩,h⟩
def et(X:aW)(x:Str):Prop:=X.env.kindOf x=some .globalImplicit
theorem sQ{E:Value->aE->Prop}{pins:List (Addr × Obj)}{s:aE}{σ:St}{H:aw}{x:Str}{u:Value}{pos:Pos}{Q:Value->aE->Prop}(I:Inv X pins σ H s)(a3:et X x)(hm:X.mg x=some u)(h:Q u s)
 (hd:(x==("__debug__" : Str))=false:=by decide):aU (aY X.prog X.w) X.A (eval (.Name x pos) X.env) Q E s:=
 Calls.Name_function_global I.ok.kind a3 (Calls.loadGlobal_global (by rw [I.ok.glob];exact I.mod.glob.keeps I.bk) hm h) hd
theorem oe{E:Value->aE->Prop}{pins:List (Addr × Obj)}{s:aE}{σ:St}{H:aw}{x:Str}{u:Value}{pos:Pos}{Q:Value->aE->Prop}(I:Inv X pins σ H s)(a3:et X x)(hm:X.mg x=none)(bO:kO x=some u)(h:Q u s)
 (aH:x≠"__name__":=by decide) (hd:(x==("__debug__" : Str))=false:=by decide):aU (aY X.prog X.w) X.A (eval (.Name x pos) X.env) Q E s:=by
 obtain ⟨jQ,ae,ag⟩:=I.mod.blt;exact Calls.Name_function_global I.ok.kind a3 (Calls.loadGlobal_builtin (by rw [I.ok.glob];exact I.mod.glob.keeps I.bk) hm (by rw [I.ok.blt];exact ae.keeps I.bk) ((ag x aH).trans bO) h) hd
theorem PC{x:Str}{v:V}{u:Value}{pos:Pos}(a3:et X x)(hm:X.mg x=some u)(r:RelV v u)(hd:(x==("__debug__" : Str))=false:=by decide):b_ X (.Name x pos) (kV v):=
 λ _ _ _ H _ I h=>sQ I a3 hm ⟨v,H,I,r,h⟩ hd
theorem PD{x:Str}{v:V}{u:Value}{pos:Pos}(a3:et X x)(hm:X.mg x=none)(bO:kO x=some u)(r:RelV v u)(aH:x≠"__name__":=by decide)(hd:(x==("__debug__" : Str))=false:=by decide):b_ X (.Name x pos) (kV v):=
 λ _ _ _ H _ I h=>oe I a3 hm bO ⟨v,H,I,r,h⟩ aH hd
variable{a b:a8}{bb bF:TE}{pos:Pos}
variable{gk ny:TT}{rest:List a8}
def Hk(t u:TT):TT:=λ σ H Q=>t σ H λ c H1=>if c=true then u σ H1 Q else Q false H1
def Hl(t u:TT):TT:=λ σ H Q=>t σ H λ c H1=>if c=true then Q true H1 else u σ H1 Q
def Hm(t:TT):TT:=λ σ H Q=>t σ H λ c H1=>Q (!c) H1
theorem PE(ax:kr X a gk):nv X (.BoolOp .And [a] pos) gk:=by
 intro ve pins s σ H Q I h;refine isTrue_and (b0 (ax pins s σ H Q I h) λ c s1 e=>?_)
 cases c with
 | true=>exact isTrue_and_nil e
 | false=>exact e
theorem PF(ax:kr X a gk):nv X (.BoolOp .Or [a] pos) gk:=by
 intro ve pins s σ H Q I h;refine isTrue_or (b0 (ax pins s σ H Q I h) λ c s1 e=>?_)
 cases c with
 | false=>exact isTrue_or_nil e
 | true=>exact e
theorem PG(ax:kr X a gk)(af:nv X (.BoolOp .And (b::rest) pos) ny):nv X (.BoolOp .And (a::b::rest) pos) (Hk gk ny):=by
 intro ve pins s σ H Q I h;refine isTrue_and (b0 (ax pins s σ H _ I h) λ c s1 ⟨H1,a4,aF⟩=>?_)
 cases c with
 | true=>exact af ve pins s1 σ H1 Q a4 aF
 | false=>exact ⟨H1,a4,aF⟩
theorem PH(ax:kr X a gk)(af:nv X (.BoolOp .Or (b::rest) pos) ny):nv X (.BoolOp .Or (a::b::rest) pos) (Hl gk ny):=by
 intro ve pins s σ H Q I h;refine isTrue_or (b0 (ax pins s σ H _ I h) λ c s1 ⟨H1,a4,aF⟩=>?_)
 cases c with
 | true=>exact ⟨H1,a4,aF⟩
 | false=>exact af ve pins s1 σ H1 Q a4 aF
theorem PI(ax:kr X a gk):kr X (.UnaryOp .Not a pos) (Hm gk):=by
 intro pins s σ H Q I h;exact isTrue_not (ax pins s σ H (λ c H1=>Q (!c) H1) I h)
def Hn(bb bF:TE):TE:=λ σ H Q=>bb σ H λ x H1=>∃ c,x=.aI c/\if c=true then bF σ H1 Q else Q (.aI false) H1
def Ho(bb bF:TE):TE:=λ σ H Q=>bb σ H λ x H1=>∃ c,x=.aI c/\if c=true then Q (.aI true) H1 else bF σ H1 Q
def Hp(bb:TE):TE:=λ σ H Q=>bb σ H λ x H1=>∃ c,x=.aI c/\Q (.aI (!c)) H1
theorem PJ {op} {t:TE} (h:b_ X a t):b_ X (.BoolOp op [a] pos) t:=λ pins s σ H Q I hw=>BoolOp_one (h pins s σ H Q I hw)
theorem PK(ax:b_ X a bb)(af:b_ X (.BoolOp .And (b::rest) pos) bF):b_ X (.BoolOp .And (a::b::rest) pos) (Hn bb bF):=by
 intro pins s σ H Q I h;refine BoolOp_and (b0 (ax pins s σ H _ I h) λ v s1 ⟨x,H1,a4,aT,aF⟩=>?_);obtain ⟨c,rfl,aF⟩:=aF;cases aT;refine nX ?_
 cases c with
 | true=>exact af pins s1 σ H1 Q a4 aF
 | false=>exact ⟨.aI false,H1,a4,rfl,aF⟩
theorem PL(ax:b_ X a bb)(af:b_ X (.BoolOp .Or (b::rest) pos) bF):b_ X (.BoolOp .Or (a::b::rest) pos) (Ho bb bF):=by
 intro pins s σ H Q I h;refine BoolOp_or (b0 (ax pins s σ H _ I h) λ v s1 ⟨x,H1,a4,aT,aF⟩=>?_);obtain ⟨c,rfl,aF⟩:=aF;cases aT;refine nX ?_
 cases c with
 | false=>exact af pins s1 σ H1 Q a4 aF
 | true=>exact ⟨.aI true,H1,a4,rfl,aF⟩
theorem PM(ax:b_ X a bb):b_ X (.UnaryOp .Not a pos) (Hp bb):=by
 intro pins s σ H Q I h;refine UnaryOp_ (b0 (ax pins s σ H _ I h) λ v s1 ⟨x,H1,a4,aT,aF⟩=>?_);obtain ⟨c,rfl,aF⟩:=aF;cases aT;exact not_of (nX ⟨.aI (!c),H1,a4,rfl,aF⟩)
def Hq(t:TT)(bb bF:TE):TE:=λ σ H Q=>t σ H λ c H1=>if c=true then bb σ H1 Q else bF σ H1 Q
theorem PN{c:a8}(ai:kr X c gk)(ax:b_ X a bb)(af:b_ X b bF):b_ X (.IfExp c a b pos) (Hq gk bb bF):=by
 intro pins s σ H Q I h;refine wpAny_IfExp (b0 (ai pins s σ H _ I h) λ d s1 ⟨H1,a4,aF⟩=>?_)
 cases d with
 | true=>exact ax pins s1 σ H1 Q a4 aF
 | false=>exact af pins s1 σ H1 Q a4 aF
end
def eu(K:aX)(H:aw)(a:Addr)(xs:List V):Prop:=
 oa H a (.lst xs) ∨
  ∃(o:Obj)(az:Array Value)(n:Nat),K.lookup a=some o/\o.cls=.type "list"/\o.dict=none/\o.data=.seq az n/\az.size<=sizeLine/\Vals xs az.toList
def dH(K:aX)(H:aw)(a:Addr)(xs:List V):Prop:=
 oa H a (.tup xs) ∨
  ∃(o:Obj)(az:Array Value)(n:Nat),K.lookup a=some o/\o.cls=.type "tuple"/\o.data=.seq az n/\az.size<=sizeLine/\Vals xs az.toList
def PO:Value->Option V
 | .none=>some .a9
 | .bool b=>some (.aI b)
 | .int i _=>some (.int i)
 | .str x _=>some (.str x)
 | .bytes b _=>some (.sK b)
 | .float b _=>some (.qL b)
 | .ref a=>some (.ref a)
 | .type n=>some (.ty n)
 | _=>none
theorem RelV.abs{x:V}{u:Value}(r:RelV x u):PO u=some x:=by
 cases x with
 | a9=>cases r;rfl
 | aI _=>cases r;rfl
 | int _=>obtain ⟨t,rfl⟩:=r;rfl
 | str _=>obtain ⟨t,rfl⟩:=r;rfl
 | sK _=>obtain ⟨t,rfl⟩:=r;rfl
 | qL _=>obtain ⟨t,rfl⟩:=r;rfl
 | ref _=>cases r;rfl
 | ty _=>cases r;rfl
theorem RelV.inj{x y:V}{u:Value}(r:RelV x u)(q:RelV y u):x=y:=hn.inj (r.abs.symm.trans q.abs)
theorem Vals.inj:∀{xs aD:List V}{us:List Value},Vals xs us->Vals aD us->xs=aD
 | _,_,_,.nil,.nil=>rfl
 | _,_,_,.cons r t,.cons bp t'=>by rw [r.inj bp,Vals.inj t t']
section
variable{X:aW}{pins:List (Addr × Obj)}{σ:St}{H:aw}{s:aE}{a:Addr}{xs aD:List V}
theorem eu.of{K:aX}(h:H a=some (.lst xs)):eu K H a xs:=.inl (.inl h)
theorem dH.of{K:aX}(h:H a=some (.tup xs)):dH K H a xs:=.inl (.inl h)
theorem Inv.list(I:Inv X pins σ H s)(h:eu X.K H a xs):∃ az:List Value,Vals xs az/\PlainL s.heap a az.toArray/\xs.length<=sizeLine:=by
 rcases h with h | ⟨o,az,n,aN,ai,hd,ap,hz,r⟩
 ·obtain ⟨z,az,n,r,e⟩:=h.ok I.bJ;exact ⟨az,r,⟨_,n,e,rfl,rfl,rfl⟩,z⟩
 ·refine ⟨az.toList,r,⟨o,n,I.ff a o aN,ai,hd,by simpa using ap⟩,?_⟩;have e:=r.length;simp only [fO] at e;omega
theorem Inv.tuple(I:Inv X pins σ H s)(h:dH X.K H a xs):∃ az:List Value,Vals xs az/\ma s.heap a az.toArray/\xs.length<=sizeLine:=by
 rcases h with h | ⟨o,az,n,aN,ai,ap,hz,r⟩
 ·obtain ⟨z,az,r,p⟩:=h.ok I.bJ;exact ⟨az,r,p,z⟩
 ·refine ⟨az.toList,r,⟨o,I.ff a o aN,ai,n,by simpa using ap⟩,?_⟩;have e:=r.length;simp only [fO] at e;omega
theorem Inv.PP(I:Inv X pins σ H s)(h:eu X.K H a xs)(h':eu X.K H a aD):xs=aD:=by
 obtain ⟨az,r,⟨o,n,e,_,_,d⟩,_⟩:=I.list h;obtain ⟨its',bp,⟨dM,qQ,bV,_,_,d'⟩,_⟩:=I.list h';rw [e] at bV;cases bV;rw [d] at d';injection d' with eS _
 have:az=its':=by simpa using congrArg yl eS
 subst this;exact r.inj bp
theorem Inv.sR(I:Inv X pins σ H s)(h:dH X.K H a xs)(h':dH X.K H a aD):xs=aD:=by
 obtain ⟨az,r,⟨o,e,_,n,d⟩,_⟩:=I.tuple h;obtain ⟨its',bp,⟨dM,bV,_,qQ,d'⟩,_⟩:=I.tuple h';rw [e] at bV;cases bV;rw [d] at d';injection d' with eS _
 have:az=its':=by simpa using congrArg yl eS
 subst this;exact r.inj bp
end
abbrev aW.jS(X:aW)(E:Value->aE->Prop):aW:={ X with xe:=E }
abbrev aW.mi(X:aW):aW:=X.jS λ _ _=>False
theorem aW.Ok.jS{X:aW}(ok:X.Ok)(E:Value->aE->Prop):(X.jS E).Ok:=
 ⟨ok.mod,ok.kind,ok.glob,ok.blt,ok.above,ok.inj,ok.has,ok.sM,ok.hd,ok.frames,ok.sN,ok.Bw,ok.bs,ok.nr,ok.sO,ok.u7,ok.ko,ok.pG⟩
theorem aW.Ok.nz{X:aW}{E:Value->aE->Prop}(ok:(X.jS E).Ok):X.Ok:=
 ⟨ok.mod,ok.kind,ok.glob,ok.blt,ok.above,ok.inj,ok.has,ok.sM,ok.hd,ok.frames,ok.sN,ok.Bw,ok.bs,ok.nr,ok.sO,ok.u7,ok.ko,ok.pG⟩
section
variable{X:aW}{pins:List (Addr × Obj)}{σ:St}{H:aw}{s:aE}{E:Value->aE->Prop}
theorem Inv.jS(I:Inv X pins σ H s)(E:Value->aE->Prop):Inv (X.jS E) pins σ H s:=⟨I.ok.jS E,I.os,I.bare,I.base,I.loc,I.cell,I.free,I.kp,I.pin,I.bJ,I.len⟩
theorem Inv.nz(I:Inv (X.jS E) pins σ H s):Inv X pins σ H s:=⟨I.ok.nz,I.os,I.bare,I.base,I.loc,I.cell,I.free,I.kp,I.pin,I.bJ,I.len⟩
theorem kU.nz{D:Ends}{f:Flow}{aM:aE}(h:kU (X.jS E) pins D f aM):kU X pins D f aM:=by
 cases f with
 | next=>obtain ⟨σ',aj,I,q⟩:=h;exact ⟨σ',aj,I.nz,q⟩
 | brk=>obtain ⟨σ',aj,I,q⟩:=h;exact ⟨σ',aj,I.nz,q⟩
 | cont=>obtain ⟨σ',aj,I,q⟩:=h;exact ⟨σ',aj,I.nz,q⟩
 | ret u=>obtain ⟨v,σ',aj,I,r,q⟩:=h;exact ⟨v,σ',aj,I.nz,r,q⟩
theorem jq.mi{st:List bP}{t:eR}(h:jq X.mi st t):jq X st t:=λ pins s σ H D I hw=>
 gC (h pins s σ H D (I.jS _) hw) (λ _ _ q=>q.nz) λ _ _ z=>False.elim z
end
section
variable{X:aW}{st:bP}{rest:List bP}{t u:eR}{e:a8}{aZ:TE}{pos:Pos}
def Hr:eR:=λ D σ H=>D.nx σ H
def yF(t u:eR):eR:=λ D σ H=>t { D with nx:=u D } σ H
theorem PQ:jq X [] Hr:=λ _ _ σ H _ I h=>r_ ⟨σ,H,I,h⟩
theorem Hs(ae:jR X st t)(ag:jq X rest u):jq X (st::rest) (yF t u):=by
 intro pins s σ H D I h;refine uz (b0 (ae pins s σ H { D with nx:=u D } I h) λ f s1 q=>?_)
 cases f with
 | next=>
  obtain ⟨σ',aj,lG,q⟩:=q;exact ag pins s1 σ' aj D lG q
 | ret v=>exact q
 | brk=>exact q
 | cont=>exact q
theorem Ht(ae:jR X st t):jq X [st] t:=by
 intro pins s σ H D I h;refine uz (b0 (ae pins s σ H D I h) λ f s1 q=>?_)
 cases f with
 | next=>exact r_ q
 | ret v=>exact q
 | brk=>exact q
 | cont=>exact q
theorem Inv.quiet{pins:List (Addr × Obj)}{σ:St}{H:aw}{s:aE}(I:Inv X pins σ H s):interactive X.env=false:=by simp [interactive,I.ok.kind]
def Hu(aZ:TE):eR:=λ D σ H=>aZ σ H λ _ H1=>D.nx σ H1
theorem Hv(he:b_ X e aZ)(ap:jH e none pos.line X.env=pure false:=by rfl):jR X (.Expr e pos) (Hu aZ):=by
 intro pins s σ H D I h;exact wpAny_Expr_any (b0 (he pins s σ H _ I h) λ v s1 ⟨x,H1,a4,aT,aF⟩=>⟨σ,H1,a4,aF⟩) I.quiet ap
def Hw(aZ:TE):eR:=λ D σ H=>aZ σ H D.rt
theorem PR(he:b_ X e aZ):jR X (.Return (some e) pos) (Hw aZ):=by
 intro pins s σ H D I h;exact wpAny_Return_some (b0 (he pins s σ H _ I h) λ v s1 ⟨x,H1,a4,aT,aF⟩=>⟨x,σ,H1,a4,aT,aF⟩)
def Hx(c:TT)(t u:eR):eR:=λ D σ H=>c σ H λ b H1=>if b=true then t D σ H1 else u D σ H1
theorem PS{c:a8}{a b:List bP}{bj:TT}(ai:kr X c bj)(ax:jq X a t)(af:jq X b u):jR X (.If c a b pos) (Hx bj t u):=by
 intro pins s σ H D I h;refine wpAny_If (b0 (ai pins s σ H _ I h) λ d s1 ⟨H1,a4,aF⟩=>?_)
 cases d with
 | true=>exact ax pins s1 σ H1 D a4 aF
 | false=>exact af pins s1 σ H1 D a4 aF
end
abbrev gV:=V->St->aw->(St->aw->Prop)->Prop
abbrev mj:=List V->St->aw->(St->aw->Prop)->Prop
def nA(X:aW)(target:a8)(t:gV):Prop:=
 ∀(pins:List (Addr × Obj))(s:aE)(σ:St)(H:aw)(v:V)(u:Value)(Q:St->aw->Prop),Inv X pins σ H s->RelV v u->t v σ H Q →
  aU (aY X.prog X.w) X.A (XV target X.env u) (λ _ aM=>∃ σ' aj,Inv X pins σ' aj aM/\Q σ' aj) X.xe s
def vf(X:aW)(d4:List a8)(t:mj):Prop:=
 ∀(pins:List (Addr × Obj))(s:aE)(σ:St)(H:aw)(vs:List V)(us:List Value)(Q:St->aw->Prop),Inv X pins σ H s->Vals vs us->t vs σ H Q →
  aU (aY X.prog X.w) X.A (assignInOrder ((iE d4 X.env).map (·.2)) us) (λ _ aM=>∃ σ' aj,Inv X pins σ' aj aM/\Q σ' aj) X.xe s
abbrev vg:=V->V->V->aw->(aw->Prop)->Prop
def BC(X:aW)(t:vg):Prop:=
 ∀(pins:List (Addr × Obj))(s:aE)(σ:St)(H:aw)(o i v:V)(gb i6 u:Value)(Q:aw->Prop),Inv X pins σ H s->RelV o gb->RelV i i6->RelV v u->t o i v H Q →
  aU (aY X.prog X.w) X.A (setItem gb i6 u) (λ _ aM=>∃ aj,Inv X pins σ aj aM/\Q aj) X.xe s
section
variable{X:aW}{pos:Pos}
def sS(i:Nat):gV:=λ v σ H Q=>Q (σ.set i (some v)) H
theorem PT{i:Nat}{x:Str}(dG:X.N.Nodup)(av:X.N[i]?=some x)(ak:Loc X.env.scope x)(hf:X.fn x=true\/X.env.scope.names.lookup x=some .local:=by first | exact .inl rfl | exact .inr rfl | assumption):nA X (.Name x pos) (sS i):=by
 intro pins s σ H v u Q I r h;exact wpAny_assign_Name (yB I dG av ak r (λ aM lG=>⟨_,H,lG,h⟩) hf)
def Hy:mj:=λ vs σ H Q=>vs=[]/\Q σ H
def Hz(t:gV)(u:mj):mj:=λ vs σ H Q=>∃ v r,vs=v::r/\t v σ H λ σ' aj=>u r σ' aj Q
theorem PU:vf X [] Hy:=by
 intro pins s σ H vs us Q I r h;obtain ⟨e,h⟩:=h;subst e;cases r;exact assignInOrder_nil ⟨σ,H,I,h⟩
theorem PV{e:a8}{es:List a8}{t:gV}{u:mj}(ae:nA X e t)(ag:vf X es u)
 (ap:(iE (e::es) X.env).map (·.2)=XV e X.env::(iE es X.env).map (·.2):=by rfl):vf X (e::es) (Hz t u):=by
 intro pins s σ H vs us Q I r h;obtain ⟨v,aeV,aC,h⟩:=h;subst aC
 cases r with
 | cons r b2=>
  rw [ap];refine assignInOrder_cons (b0 (ae pins s σ H _ _ _ I r h) λ _ s1 ⟨σ1,H1,a4,aF⟩=>?_);exact ag pins s1 σ1 H1 _ _ Q a4 b2 aF
def HA(K:aX)(n:Nat)(t:mj):gV:=λ v σ H Q=>∃ a xs,v=.ref a/\dH K H a xs/\xs.length=n/\t xs σ H Q
theorem PW{es:List a8}{k:Nat}{t:mj}{n:Nat}(ai:X.calm=true)(h:vf X es t)
 (aH:(iE es X.env).length=n:=by rfl) (hG:(iE es X.env).findIdx? (·.1)=none:=by rfl):nA X (.Tuple es k pos) (HA X.K n t):=by
 intro pins s σ H v u Q I r hw;obtain ⟨a,xs,aC,bc,ar,hw⟩:=hw;subst aC;cases r;obtain ⟨az,a6,bh,hz⟩:=I.tuple bc;refine assign_Tuple_tuple (I.ok.hd ai) bh (by simp [aH,<- ar,a6.length]) hG λ h' ak=>?_;have a4:Inv X pins σ H { s with heap:=h' }:=I.kept (t':=s.toks) λ b o e=>ak b o (eO (dc e)) e;exact h pins _ σ H xs _ Q a4 (by simpa using a6) hw
def HB(to h2:TE)(t:vg):gV:=λ v σ H Q=>to σ H λ o H1=>h2 σ H1 λ i bg=>t o i v bg λ dI=>Q σ dI
theorem PX{o i:a8}{to h2:TE}{t:vg}(aS:b_ X o to)(av:b_ X i h2)(ap:BC X t)
 (ax:∀ v,XV (.Subscript o i pos) X.env v=(do
  let gb ← jI [v] (eval o X.env)
  let i6 ← jI [v,gb] (eval i X.env)
  pp pos
  jI [v,gb,i6] (setItem gb i6 v)
  release [v,gb,i6] []):=by intro _;rfl):nA X (.Subscript o i pos) (HB to h2 t):=by
 intro pins s σ H v u Q I r h;rw [ax];refine aA (jn (b0 (aS pins s σ H _ I h) λ gb s1 ⟨x,H1,a4,aT,aF⟩=>?_));refine aA (jn (b0 (av pins s1 σ H1 _ a4 aF) λ i6 s2 ⟨y,bg,dg,a0,bo⟩=>?_));refine aA (pg (aA (jn (b0 (ap pins s2 σ bg x y v gb i6 u _ dg aT a0 r bo) λ _ s3 ⟨dI,eH,dw⟩=>?_))));exact wpAny_release ⟨σ,dI,eH,dw⟩
def qR(aZ:TE)(g:gV):eR:=λ D σ H=>aZ σ H λ x H1=>g x σ H1 D.nx
theorem PY{bl e:a8}{aZ:TE}{g:gV}(he:b_ X e aZ)(a3:nA X bl g)(ap:W1 [bl] e pos.line X.env=pure false:=by rfl)(hw:uB [bl] e X.env=pure none:=by rfl)
 (ae:(iE [bl] X.env).map (·.2)=[XV bl X.env]:=by rfl):jR X (.Assign [bl] e pos) (qR aZ g):=by
 intro pins s σ H D I h;refine wpAny_Assign_stores (b0 (he pins s σ H _ I h) λ v s1 ⟨x,H1,a4,aT,aF⟩=>?_) ap hw;rw [ae];exact b0 (a3 pins s1 σ H1 x v _ a4 aT aF) λ _ s2 q=>q
theorem PZ{i:Nat}{x:Str}{e:a8}{aZ:TE}{pos':Pos}(dG:X.N.Nodup)(av:X.N[i]?=some x)(ak:Loc X.env.scope x)(he:b_ X e aZ)(ap:jH e (some (.Name x pos')) pos.line X.env=pure false:=by rfl)(hf:X.fn x=true\/X.env.scope.names.lookup x=some .local:=by first | exact .inl rfl | exact .inr rfl | assumption) :
 jR X (.Assign [.Name x pos'] e pos) (qR aZ (sS i)):=by
 intro pins s σ H D I h;refine wpAny_Assign_Name (b0 (he pins s σ H _ I h) λ v s1 ⟨y,H1,a4,aT,aF⟩=>?_) ap;exact yB a4 dG av ak aT (λ s2 dg=>⟨_,H1,dg,aF⟩) hf
end
section
variable{X:aW}{pos:Pos}
def HC(c:TT)(bF:eR):eR:=λ D σ H=>∃ W:Nat->St->aw->Prop,(∃ m,W m σ H)/\∀ m σ H,W m σ H →
 c σ H λ b H1=>if b=true then ∃ N:St->aw->Prop,(∀ σ' aj,N σ' aj->∃ ej,ej < m/\W ej σ' aj)/\bF { D with nx:=N,ct:=N,bk:=D.nx } σ H1 else D.nx σ H1
theorem P0{c:a8}{body:List bP}{bj:TT}{bF:eR}(ah:qy (aY X.prog X.w) X.A X.env X.xe)(ai:kr X c bj)(af:jq X body bF):jR X (.While c body [] pos) (HC bj bF):=by
 intro pins s σ H D I h;obtain ⟨W,⟨m0,ml⟩,turn⟩:=h;refine wpAny_While (codeAny_whileLoop (λ n aM=>∃ σ' aj,Inv X pins σ' aj aM/\W n σ' aj) ?_ m0 ⟨σ,H,I,ml⟩);rintro n s1 ⟨σ1,H1,a4,g8⟩;refine qt ah (b0 (ai pins s1 σ1 H1 _ a4 (turn n σ1 H1 g8)) λ b s2 ⟨bg,dg,bo⟩=>?_)
 cases b with
 | true=>
  obtain ⟨N,dG,bo⟩:=bo;rw [if_pos rfl];refine qt ah (b0 (af pins s2 σ1 bg _ dg bo) λ f s3 dw=>?_)
  cases f with
  | next=>
   obtain ⟨σ3,dI,eH,hP⟩:=dw;obtain ⟨ej,hm,og⟩:=dG σ3 dI hP;exact ⟨ej,hm,σ3,dI,eH,og⟩
  | cont=>
   obtain ⟨σ3,dI,eH,hP⟩:=dw;obtain ⟨ej,hm,og⟩:=dG σ3 dI hP;exact ⟨ej,hm,σ3,dI,eH,og⟩
  | brk=>exact dw
  | ret v=>exact dw
 | false=>
  rw [if_neg kS];exact r_ ⟨σ1,bg,dg,bo⟩
end
structure kt where
 go:Nat->aw->Prop
 pH:Nat->aw->V->aw->Prop
 stop:Nat->aw->Prop
def jr(X:aW)(pins:List (Addr × Obj))(H:aw)(b:Addr):Prop:=
 H b=none/\b≠X.env.locals/\b ∉ X.aK/\(b∈X.ex\/X.eP.heap.objs.size<=b)/\(∀ x c,X.env.cells.lookup x=some c->c≠b)/\∀ p∈X.pn++pins,p.1≠b
theorem Inv.pI{X:aW}{pins:List (Addr × Obj)}{σ:St}{H aj:aw}{s:aE}{b:Addr}(I:Inv X pins σ H s)(af:s.heap.objs.size<=b)(aH:aj b=none):jr X pins aj b:=by
 refine ⟨aH,n4 (hX I.lt af),I.Pu af,.inr (gF I.eW af),λ x c e z=>?_,λ p ah z=>?_⟩
 ·obtain ⟨v,q⟩:=I.cell x c e;exact absurd (hX q.lt (by rw [z];exact af)) (me _)
 ·exact absurd (hX (dc (I.pin p ah).1) (by rw [z];exact af)) (me _)
structure Turn(P:cL)(w:b8)(K:aX)(bl:a8)(J:kt)(fp:List Addr)(it:Addr)(gI:Nat->bE->Prop):Prop where
 mem:it∈fp
 obj:∀ i h,gI i h->∀ b∈fp,∃ o,h.get? b=some o/\∀ v,o.data≠.cell v
 keep:∀ i h h',gI i h->(∀ b∈fp,∀ o,h.get? b=some o->h'.get? b=some o)->gI i h'
 item:∀(X:aW),X.prog=P->X.w=w->X.K=K->X.calm=true->∀(i:Nat)(pins:List (Addr × Obj))(s:aE)(σ:St)(H:aw)(E:Value->aE->Prop),Inv X pins σ H s->(∀ b∈fp,jr X pins H b)->gI i s.heap->J.go i H →
  aU (aY P w) X.A (ki (.ref it)) (λ r s1=>∃ u,r=some u ∧
   aU (aY P w) X.A (Bi bl (.ref it) u) (λ _ s2=>∃ x aj,Inv X pins σ aj s2/\RelV x u/\J.pH i H x aj/\gI (i+1) s2.heap/\∀ b∈fp,aj b=none) E s1) E s
 done:∀(X:aW),X.prog=P->X.w=w->X.K=K->X.calm=true->∀(i:Nat)(pins:List (Addr × Obj))(s:aE)(σ:St)(H:aw)(E:Value->aE->Prop),Inv X pins σ H s->(∀ b∈fp,jr X pins H b)->gI i s.heap->J.stop i H →
  aU (aY P w) X.A (ki (.ref it)) (λ r s1=>r=none/\Inv X pins σ H s1) E s
 self:∀(A:cz)(i:Nat)(s:aE)(Q:Value->aE->Prop)(E:Value->aE->Prop),gI i s.heap->Q (.ref it) s->aU (aY P w) A (pyIter (.ref it)) Q E s
abbrev TI:=St->aw->(kt->aw->Prop)->Prop
def BD(X:aW)(pins:List (Addr × Obj))(σ:St)(bl:a8)(R:kt->aw->Prop)(yG:Value)(s2:aE):Prop:=
 ∃(it:Addr)(fp:List Addr)(gI:Nat->bE->Prop)(J:kt)(aj:aw),yG=.ref it/\Inv X pins σ aj s2/\Turn X.prog X.w X.K bl J fp it gI/\gI 0 s2.heap/\(∀ b∈fp,jr X pins aj b)/\R J aj
def mm(X:aW)(bl iter:a8)(d5:TI):Prop:=
 ∀(pins:List (Addr × Obj))(s:aE)(σ:St)(H:aw)(R:kt->aw->Prop),Inv X pins σ H s->d5 σ H R →
  aU (aY X.prog X.w) X.A (eval iter X.env) (λ v s1=>aU (aY X.prog X.w) X.A (pyIter v) (BD X pins σ bl R) X.xe s1) X.xe s
theorem vh{M:lx}{A:cz}{E:Value->aE->Prop}{s:aE}{bl:a8}{it:Addr}{u:Value}{o:Obj}{n:String}{vs:Array Value}{Q:Unit->aE->Prop}(aS:s.heap.get? it=some o)(ai:o.cls=.type n)(hd:o.data=.fields vs)
 (aH:["enumerate", "zip", "dict_itemiterator", "dict_reverseitemiterator", "odict_iterator", "itertools.zip_longest", "itertools.pairwise"].contains n=false) (gj:Q () s):aU M A (Bi bl (.ref it) u) Q E s:=by
 unfold Bi
 cases bl<;>first
  | exact br gj
  | (cases u<;>first
      | exact br gj
      | (refine aA (wpAny_load aS ?_)
         rw [ai,hd];show aU M A (if (["enumerate", "zip", "dict_itemiterator", "dict_reverseitemiterator", "odict_iterator", "itertools.zip_longest", "itertools.pairwise"].contains n&&vs[0]?==some (gE _))=true then _ else _) Q E s;rw [if_neg (by intro h;rw [aH,Bool.false_and] at h;cases h)]
         exact br gj))
def vi(K:aX)(a:Addr):kt:=
 ⟨λ i H=>∃ xs x,eu K H a xs/\xs[i]?=some x,λ i H x aj=>aj=H/\∀ xs,eu K H a xs->xs[i]?=some x,λ i H=>∃ xs,eu K H a xs/\xs.length<=i⟩
def vj(K:aX)(a:Addr):kt:=
 ⟨λ i H=>∃ xs x,dH K H a xs/\xs[i]?=some x,λ i H x aj=>aj=H/\∀ xs,dH K H a xs->xs[i]?=some x,λ i H=>∃ xs,dH K H a xs/\xs.length<=i⟩
def qS(lo:Int)(n:Nat):kt:=⟨λ i _=>i < n,λ i H x aj=>aj=H/\x=.int (lo+i),λ i _=>n<=i⟩
theorem P1{P:cL}{w:b8}{K:aX}{bl:a8}(a it:Addr):Turn P w K bl (vi K a) [it] it (λ i h=>h.IsListIter it a i) where
 mem:=by simp
 obj:=λ i h st b af=>by
  have e:b=it:=by simpa using af
  subst e;obtain ⟨o,e,c,d⟩:=st;exact ⟨o,e,λ v z=>by rw [d] at z;cases z⟩
 keep:=λ i h h' st k=>st.at λ o e=>k it (by simp) o e
 item:=by
  intro X e5 hw eT ai i pins s σ H E I hf st a3;subst e5 hw eT;obtain ⟨xs,x,bc,ak⟩:=a3;obtain ⟨az,a6,p,hz⟩:=I.list bc;obtain ⟨u,a_,c5⟩:=a6.get ak;obtain ⟨f0,f1,f2,cV,f4,eI⟩:=hf it (by simp);refine wpAny_pyNext_list_item st p.isList (x:=u) (by simpa using a_) λ h' dO i7=>?_;have a4:Inv X pins σ H { s with heap:=h' }:=I.turned (t':=s.toks) (λ b o af e=>(i7.2 b af).trans e) f0 f1 cV f4 eI;obtain ⟨o,e,c,d⟩:=id dO;exact ⟨u,rfl,vh (s:={ s with heap:=h' }) e c d (by decide) ⟨x,H,a4,c5,⟨rfl,λ aD bv=>by rw [I.PP bv bc];exact ak⟩,dO,λ b af=>(hf b af).1⟩⟩
 done:=by
  intro X e5 hw eT ai i pins s σ H E I hf st a3;subst e5 hw eT;obtain ⟨xs,bc,ak⟩:=a3;obtain ⟨az,a6,p,hz⟩:=I.list bc;obtain ⟨f0,f1,f2,cV,f4,eI⟩:=hf it (by simp);have ar:=a6.length
  exact wpAny_pyNext_list_end (I.ok.hd ai) st p.isList (by simp;omega) λ h' gl=>⟨rfl,I.turned (t':=s.toks) (λ b o af e=>gl b o af e) f0 f1 cV f4 eI⟩
 self:=λ _ _ _ _ _ st h=>wpAny_pyIter_listiter st h
theorem P2{P:cL}{w:b8}{K:aX}{bl:a8}(a it:Addr):Turn P w K bl (vj K a) [it] it (λ i h=>h.IsTupleIter it a i) where
 mem:=by simp
 obj:=λ i h st b af=>by
  have e:b=it:=by simpa using af
  subst e;obtain ⟨o,e,c,d⟩:=st;exact ⟨o,e,λ v z=>by rw [d] at z;cases z⟩
 keep:=λ i h h' st k=>st.at λ o e=>k it (by simp) o e
 item:=by
  intro X e5 hw eT ai i pins s σ H E I hf st a3;subst e5 hw eT;obtain ⟨xs,x,bc,ak⟩:=a3;obtain ⟨az,a6,p,hz⟩:=I.tuple bc;obtain ⟨u,a_,c5⟩:=a6.get ak;obtain ⟨f0,f1,f2,cV,f4,eI⟩:=hf it (by simp);refine wpAny_pyNext_tuple_item st (show s.heap.IsTuple a az.toArray from p) (x:=u) (by simpa using a_) λ h' dO i7=>?_;have a4:Inv X pins σ H { s with heap:=h' }:=I.turned (t':=s.toks) (λ b o af e=>(i7.2 b af).trans e) f0 f1 cV f4 eI;obtain ⟨o,e,c,d⟩:=id dO;exact ⟨u,rfl,vh (s:={ s with heap:=h' }) e c d (by decide) ⟨x,H,a4,c5,⟨rfl,λ aD bv=>by rw [I.sR bv bc];exact ak⟩,dO,λ b af=>(hf b af).1⟩⟩
 done:=by
  intro X e5 hw eT ai i pins s σ H E I hf st a3;subst e5 hw eT;obtain ⟨xs,bc,ak⟩:=a3;obtain ⟨az,a6,p,hz⟩:=I.tuple bc;obtain ⟨f0,f1,f2,cV,f4,eI⟩:=hf it (by simp);have ar:=a6.length
  exact wpAny_pyNext_tuple_end (I.ok.hd ai) st (show s.heap.IsTuple a az.toArray from p) (by simp;omega) λ h' gl=>⟨rfl,I.turned (t':=s.toks) (λ b o af e=>gl b o af e) f0 f1 cV f4 eI⟩
 self:=λ _ _ _ _ _ st h=>wpAny_pyIter_tupleiter st h
theorem P3{P:cL}{w:b8}{K:aX}{bl:a8}(it:Addr)(lo:Int)(n:Nat):Turn P w K bl (qS lo n) [it] it (λ i h=>IsRangeIter h it (lo+(i:Nat) * 1) ((n:Int) - (i:Nat)) 1) where
 mem:=by simp
 obj:=λ i h st b af=>by
  have e:b=it:=by simpa using af
  subst e
  exact ⟨_,st,λ v z=>by
   have fQ:Data.fields _=Data.cell v:=z
   cases fQ⟩
 keep:=λ i h h' st k=>k it (by simp) _ st
 item:=by
  intro X e5 hw eT ai i pins s σ H E I hf st a3;subst e5 hw eT;obtain ⟨f0,f1,f2,cV,f4,eI⟩:=hf it (by simp);have W:=Walks.range (prog:=X.prog) (w:=X.w) (I.ok.hd ai) it lo 1 n;refine W.item i s _ _ a3 st λ v h' bL bO dO dR=>?_;obtain ⟨t,rfl⟩:=bO;have a4:Inv X pins σ H { s with heap:=h',toks:=bL }:=I.turned (λ b o af e=>dR b o (by simpa using af) e) f0 f1 cV f4 eI;refine ⟨_,rfl,vh (s:={ s with heap:=h',toks:=bL }) (n:="range_iterator") dO rfl rfl (by decide) ⟨.int (lo+i),H,a4,⟨t,?_⟩,⟨rfl,rfl⟩,dO,λ b af=>(hf b af).1⟩⟩;rw [Int.mul_one]
 done:=by
  intro X e5 hw eT ai i pins s σ H E I hf st a3;subst e5 hw eT;obtain ⟨f0,f1,f2,cV,f4,eI⟩:=hf it (by simp)
  exact wpAny_pyNext_range_end (I.ok.hd ai) st (by have:n<=i:=a3;omega) λ h' gl=>⟨rfl,I.turned (t':=s.toks) (λ b o af e=>gl b o af e) f0 f1 cV f4 eI⟩
 self:=λ _ _ _ _ _ st h=>wpAny_pyIter_rangeiter st h
section
variable{X:aW}{bl:a8}
theorem HD{pins:List (Addr × Obj)}{σ:St}{H:aw}{s:aE}{R:kt->aw->Prop}{E:Value->aE->Prop}{lo av:Int}{t u v:Tok}{bL:Nat}(I:Inv X pins σ H s)(ae:-(2 ^ 62)<=lo)(ag:lo < 2 ^ 62)(aR:-(2 ^ 62)<=av)(bB:av < 2 ^ 62)
 (q:R (qS lo (av - lo).toNat) H):aU (aY X.prog X.w) X.A (pyIter (.ref s.heap.objs.size)) (BD X pins σ bl R) E { s with heap:=s.heap.push { cls:=.type "range", data:=.fields #[.int lo t,.int av u,.int 1 v] },toks:=bL }:=by
 refine wpAny_pyIter_range (IsRange.new ..) (small_one ae ag aR bB) ?_;have a4:Inv X pins σ H { s with heap:=s.heap.push { cls:=.type "range", data:=.fields #[.int lo t,.int av u,.int 1 v] },toks:=bL }:=I.kept λ b o e=>cP _ e
 refine ⟨(s.heap.push { cls:=.type "range", data:=.fields #[.int lo t,.int av u,.int 1 v] }).objs.size,[(s.heap.push { cls:=.type "range", data:=.fields #[.int lo t,.int av u,.int 1 v] }).objs.size],_,_,H,rfl,
  a4.kept (t':=bL) λ b o e=>cP _ e,P3 _ lo (av - lo).toNat,?_,λ b af=>?_,q⟩
 ·have aC:lo+((0:Nat):Int) * 1=lo:=by simp
  have aG:(((av - lo).toNat:Nat):Int) - ((0:Nat):Int)=Builtin.Range.rangeSize lo av 1:=by rw [rangeSize_one];split<;>omega
  show IsRangeIter _ _ (lo+((0:Nat):Int) * 1) ((((av - lo).toNat:Nat):Int) - ((0:Nat):Int)) 1;rw [aC,aG];exact f7 _ rfl
 ·have e:b=(s.heap.push { cls:=.type "range", data:=.fields #[.int lo t,.int av u,.int 1 v] }).objs.size:=by simpa using af
  subst e;exact a4.pI (ZB _) (a4.bJ.fresh (ZB _))
def HE(bb:fk):TI:=λ σ H R=>bb σ H λ vs H1=>∃ j:Int,vs=[.int j]/\-(2 ^ 62)<=j/\j < 2 ^ 62/\R (qS 0 j.toNat) H1
def HF(bb:fk):TI:=λ σ H R=>bb σ H λ vs H1=>∃ i j:Int,vs=[.int i,.int j]/\(-(2 ^ 62)<=i/\i < 2 ^ 62/\-(2 ^ 62)<=j/\j < 2 ^ 62)/\R (qS i (j - i).toNat) H1
theorem P4{a:a8}{bb:fk}{p pos:Pos}(a3:et X "range")(hm:X.mg "range" = none)(ax:ii X [a] bb)(ap:dB [a] X.env=[(false,eval a X.env)]:=by rfl):mm X bl (.Call (.Name "range" p) [a] [] pos) (HE bb):=by
 intro pins s σ H R I h;refine Call_ (oe I a3 hm boot_range (qK (b0 (ax pos pins s σ H _ I h) λ us s1 ⟨vs,H1,a4,aT,aF⟩=>?_) ap rfl));obtain ⟨j,e,aF,bo,q⟩:=aF;subst e
 cases aT with
 | cons r b2=>
  cases b2;obtain ⟨t,rfl⟩:=r;exact call_range_1 (HD a4 (by omega) (by omega) aF bo (by simpa using q))
theorem P5{a b:a8}{bb:fk}{p pos:Pos}(a3:et X "range")(hm:X.mg "range" = none)(ax:ii X [a,b] bb)(ap:dB [a,b] X.env=[(false,eval a X.env),(false,eval b X.env)]:=by rfl)(HG:dB [b] X.env=[(false,eval b X.env)]:=by rfl) :
 mm X bl (.Call (.Name "range" p) [a,b] [] pos) (HF bb):=by
 intro pins s σ H R I h;refine Call_ (oe I a3 hm boot_range (qK (b0 (ax pos pins s σ H _ I h) λ us s1 ⟨vs,H1,a4,aT,aF⟩=>?_) (by rw [ap,HG]) (by rw [HG];rfl)));obtain ⟨i,j,e,⟨aF,bo,dw,gm⟩,q⟩:=aF;subst e
 cases aT with
 | cons r b2=>
  cases b2 with
  | cons bp b2=>
   cases b2;obtain ⟨t,rfl⟩:=r;obtain ⟨t',rfl⟩:=bp;exact call_range_2 (HD a4 aF bo dw gm q)
def HH(d5:TI)(g:gV)(bF:eR):eR:=λ D σ H=>d5 σ H λ J H1=>∃ W:Nat->Nat->St->aw->Prop,(∃ m,W 0 m σ H1)/\∀ i m σ H,W i m σ H →
 (J.stop i H/\D.nx σ H)\/(J.go i H/\∃ N:St->aw->Prop,(∀ σ' aj,N σ' aj->∃ ej,ej < m/\W (i+1) ej σ' aj)/\∀ x aj,J.pH i H x aj->g x σ aj λ σ2 bg=>bF { D with nx:=N,ct:=N,bk:=D.nx } σ2 bg)
def yH(fp:List Addr)(h:bE):List (Addr × Obj):=fp.filterMap λ b=>(h.get? b).map λ o=>(b,o)
theorem sT{fp:List Addr}{h:bE}{b:Addr}{o:Obj}(af:b∈fp)(e:h.get? b=some o):(b,o)∈yH fp h:=List.mem_filterMap.mpr ⟨b,af,by rw [e];rfl⟩
theorem P6{fp:List Addr}{h:bE}{p:Addr × Obj}(ah:p∈yH fp h):p.1∈fp/\h.get? p.1=some p.2:=by
 obtain ⟨b,af,e⟩:=List.mem_filterMap.mp ah
 cases q:h.get? b with
 | none=>rw [q] at e;cases e
 | some o=>
  rw [q] at e;have bV:(b,o)=p:=hn.inj e;subst bV;exact ⟨af,q⟩
theorem Inv.pinned{pins:List (Addr × Obj)}{σ:St}{H:aw}{s:aE}{fp:List Addr}(I:Inv X pins σ H s)(hf:∀ b∈fp,jr X pins H b)(aS:∀ b∈fp,∃ o,s.heap.get? b=some o/\∀ v,o.data≠.cell v):Inv X (pins++yH fp s.heap) σ H s:=
 I.He λ p ah=>(fc.mp ah).elim (λ z=>I.pin p (iF _ z)) λ z=>by
  obtain ⟨af,e⟩:=P6 z;obtain ⟨f0,f1,f2,_⟩:=hf p.1 af;obtain ⟨o,bV,d⟩:=aS p.1 af;rw [e] at bV;cases bV;exact ⟨e,f0,f1,f2,d⟩
theorem Inv.vk{pins pl:List (Addr × Obj)}{σ:St}{H:aw}{s:aE}(I:Inv X (pins++pl) σ H s):Inv X pins σ H s:=I.He λ p ah=>I.pin p (iF _ (kj _ ah))
theorem P7{iter:a8}{body:List bP}{d5:TI}{g:gV}{bF:eR}{pos:Pos}(ah:qy (aY X.prog X.w) X.A X.env X.xe)(ai:X.calm=true)(av:mm X bl iter d5)(a3:nA X bl g)(af:jq X body bF)
 (ap:∀ x,m5 iter X.env x=pure x:=by intro _;rfl):jR X (.For bl iter body [] pos) (HH d5 g bF):=by
 intro pins s σ H D I h;refine wpAny_For (b0 (av pins s σ H _ I h) λ v s1 ae=>b0 ae λ yG s2 ag=>?_) ap;obtain ⟨it,fp,gI,J,bg,e,dg,T,qT,f2,W,⟨m0,ml⟩,turn⟩:=ag;subst e
 have mn:∀{aj:aw},(∀ b∈fp,aj b=none)->∀ b∈fp,jr X pins aj b:=λ aH b af=>⟨aH b af,(f2 b af).2⟩
 refine codeAny_forLoop_any (λ n aM=>∃ i σ' aj,Inv X pins σ' aj aM/\gI i aM.heap/\(∀ b∈fp,aj b=none)/\W i n σ' aj) ?_ m0 ⟨0,σ,bg,dg,qT,λ b af=>(f2 b af).1,ml⟩;rintro n s3 ⟨i,σ3,dI,eH,pJ,HI,og⟩;rcases turn i n σ3 dI og with ⟨stop,vl⟩ | ⟨go,N,dG,step⟩
 ·refine qt ah (b0 (T.done X rfl rfl rfl ai i pins s3 σ3 dI X.xe eH (mn HI) pJ stop) λ r s4 ⟨ao,ij⟩=>?_);subst ao;exact r_ ⟨σ3,dI,ij,vl⟩
 ·refine qt ah (b0 (T.item X rfl rfl rfl ai i pins s3 σ3 dI X.xe eH (mn HI) pJ go) λ r s4 ⟨u,ao,bB⟩=>?_);subst ao;refine qt ah (b0 bB λ _ s5 ⟨x,js,oh,qU,P8,oi,qV⟩=>?_);have P9:=oh.pinned (mn qV) (T.obj _ _ oi);refine qt ah (b0 (a3 _ s5 σ3 js x u _ P9 qU (step x js P8)) λ _ ku ⟨σ6,oj,mq,lH⟩=>?_);refine qt ah (b0 (af _ ku σ6 oj _ mq lH) λ f jT mr=>?_)
  have ly:∀{σ7:St}{i8:aw},Inv X (pins++yH fp s5.heap) σ7 i8 jT->N σ7 i8->∃ m,m < n/\∃ i σ' aj,Inv X pins σ' aj jT/\gI i jT.heap/\(∀ b∈fp,aj b=none)/\W i m σ' aj:=λ{σ7 i8} jU vm=>by
   obtain ⟨ej,hm,P_⟩:=dG σ7 i8 vm;refine ⟨ej,hm,i+1,σ7,i8,jU.vk,T.keep _ _ _ oi λ b af o e=>(jU.pin (b,o) (iF _ (iF _ (sT af e)))).1,λ b af=>?_,P_⟩;obtain ⟨o,e,d⟩:=T.obj _ _ oi b af;exact (jU.pin (b,o) (iF _ (iF _ (sT af e)))).2.1
  cases f with
  | next=>obtain ⟨σ7,i8,jU,vm⟩:=mr;exact ly jU vm
  | cont=>obtain ⟨σ7,i8,jU,vm⟩:=mr;exact ly jU vm
  | brk=>obtain ⟨σ7,i8,jU,mr⟩:=mr;exact ⟨σ7,i8,jU.vk,mr⟩
  | ret v=>obtain ⟨x7,σ7,i8,jU,vn,mr⟩:=mr;exact ⟨x7,σ7,i8,jU.vk,vn,mr⟩
end
abbrev eX:=V->V->aw->cE->Prop
def dS(X:aW)(f:Value->Value->Sem Value)(r:eX):Prop:=
 ∀(pins:List (Addr × Obj))(s:aE)(σ:St)(H:aw)(x y:V)(v u:Value)(Q:cE),Inv X pins σ H s->RelV x v->RelV y u->r x y H Q →
  aU (aY X.prog X.w) X.A (f v u) (f_ X pins σ Q) X.xe s
def yI(X:aW)(f:Value->Sem Value)(r:V->aw->cE->Prop):Prop:=
 ∀(pins:List (Addr × Obj))(s:aE)(σ:St)(H:aw)(x:V)(v:Value)(Q:cE),Inv X pins σ H s->RelV x v->r x H Q →
  aU (aY X.prog X.w) X.A (f v) (f_ X pins σ Q) X.xe s
def h3(X:aW)(f:Value)(r:List V->aw->cE->Prop):Prop:=
 ∀(pins:List (Addr × Obj))(s:aE)(σ:St)(H:aw)(xs:List V)(us:List Value)(Q:cE),Inv X pins σ H s->Vals xs us->r xs H Q →
  aU (aY X.prog X.w) X.A (call f us) (f_ X pins σ Q) X.xe s
def Qa(X:aW)(r:V->aw->(Bool->aw->Prop)->Prop):Prop:=
 ∀(pins:List (Addr × Obj))(s:aE)(σ:St)(H:aw)(x:V)(v:Value)(Q:Bool->aw->Prop),Inv X pins σ H s->RelV x v->r x H Q →
  aU (aY X.prog X.w) X.A (truthy v) (BB X pins σ Q) X.xe s
def pK(r:eX)(bb bF:TE):TE:=λ σ H Q=>bb σ H λ x H1=>bF σ H1 λ y bg=>r x y bg Q
def HJ(r:V->aw->cE->Prop)(bb:TE):TE:=λ σ H Q=>bb σ H λ x H1=>r x H1 Q
def sU(C:Int->Int->Prop)(g:Int->Int->V):eX:=λ x y H Q=>∃ i j,x=.int i/\y=.int j/\C i j/\Q (g i j) H
def nB(g:Int->Int->V):eX:=λ x y H Q=>∃ i j,x=.int i/\y=.int j/\Q (g i j) H
def HK(g:Int->V):V->aw->cE->Prop:=λ x H Q=>∃ i,x=.int i/\Q (g i) H
section
variable{X:aW}{a b c:a8}{bb bF bj:TE}{pos:Pos}
theorem BE(ax:b_ X a bb)(af:b_ X b bF){pins:List (Addr × Obj)}{s:aE}{σ:St}{H:aw}{R:V->V->aw->Prop}(I:Inv X pins σ H s)
 (h:bb σ H λ x H1=>bF σ H1 λ y bg=>R x y bg) {Q:Value->aE->Prop} {f:Value->Value->Sem Value}
 (hf:∀ v u s2 x y bg,Inv X pins σ bg s2->RelV x v->RelV y u->R x y bg->aU (aY X.prog X.w) X.A (f v u) Q X.xe s2) :
 aU (aY X.prog X.w) X.A (eval a X.env) (λ v dp=>aU (aY X.prog X.w) X.A (eval b X.env) (λ u vd=>aU (aY X.prog X.w) X.A (f v u) Q X.xe vd) X.xe dp) X.xe s:=by
 refine b0 (ax pins s σ H _ I h) λ v s1 ⟨x,H1,a4,aT,aF⟩=>?_;refine b0 (af pins s1 σ H1 _ a4 aF) λ u s2 ⟨y,bg,dg,a0,bo⟩=>?_;exact hf v u s2 x y bg dg aT a0 bo
theorem Qb{op:Operator}{r:eX}(aS:dS X (hD op) r)(ax:b_ X a bb)(af:b_ X b bF):b_ X (.BinOp a op b pos) (pK r bb bF):=by
 intro pins s σ H Q I h;exact wpAny_BinOp (BE ax af I h λ v u s2 x y bg dg a7 cF q=>aS pins s2 σ bg x y v u Q dg a7 cF q)
theorem Qc{op:UnaryOp}{r:V->aw->cE->Prop}(aS:yI X (uG op) r)(ax:b_ X a bb):b_ X (.UnaryOp op a pos) (HJ r bb):=by
 intro pins s σ H Q I h;exact UnaryOp_ (b0 (ax pins s σ H _ I h) λ v s1 ⟨x,H1,a4,aT,aF⟩=>aS pins s1 σ H1 x v Q a4 aT aF)
theorem yJ{f:Value->Value->Sem Value}{C:Int->Int->Prop}{g:Int->Int->Int}
 (rule:∀(i j:Int)(t u:Tok)(s:aE)(Q:Value->aE->Prop)(E:Value->aE->Prop),C i j->Q (.int (g i j) s.toks) { s with toks:=s.toks+1 }->aU (aY X.prog X.w) X.A (f (.int i t) (.int j u)) Q E s) :
 dS X f (sU C λ i j=>.int (g i j)):=by
 intro pins s σ H x y v u Q I a7 cF h;obtain ⟨i,j,rfl,rfl,ai,q⟩:=h;obtain ⟨t,rfl⟩:=a7;obtain ⟨t',rfl⟩:=cF;exact rule i j t t' s _ _ ai ⟨.int (g i j),H,I.tok _,⟨_,rfl⟩,q⟩
theorem HL{f:Value->Value->Sem Value}{g:Int->Int->Int}
 (rule:∀(i j:Int)(t u:Tok)(s:aE)(Q:Value->aE->Prop)(E:Value->aE->Prop),Q (.int (g i j) s.toks) { s with toks:=s.toks+1 }->aU (aY X.prog X.w) X.A (f (.int i t) (.int j u)) Q E s) :
 dS X f (nB λ i j=>.int (g i j)):=by
 intro pins s σ H x y v u Q I a7 cF h;obtain ⟨i,j,rfl,rfl,q⟩:=h;obtain ⟨t,rfl⟩:=a7;obtain ⟨t',rfl⟩:=cF;exact rule i j t t' s _ _ ⟨.int (g i j),H,I.tok _,⟨_,rfl⟩,q⟩
theorem yK{f:Value->Value->Sem Value}{g:Int->Int->Bool}
 (rule:∀(i j:Int)(t u:Tok)(s:aE)(Q:Value->aE->Prop)(E:Value->aE->Prop),Q (.bool (g i j)) s->aU (aY X.prog X.w) X.A (f (.int i t) (.int j u)) Q E s) :
 dS X f (nB λ i j=>.aI (g i j)):=by
 intro pins s σ H x y v u Q I a7 cF h;obtain ⟨i,j,rfl,rfl,q⟩:=h;obtain ⟨t,rfl⟩:=a7;obtain ⟨t',rfl⟩:=cF;exact rule i j t t' s _ _ ⟨.aI (g i j),H,I,rfl,q⟩
def HM(i j:Int):Prop:=0<=j/\j<=1000000/\i.natAbs < 2 ^ 64
def yL(i j:Int):Prop:=(-(2 ^ 64) < i/\i < 2 ^ 64)\/(-(2 ^ 64) < j/\j < 2 ^ 64)
theorem yL.ok{i j:Int}(h:yL i j):IntMulOk i j:=by
 rcases h with ⟨ae,ag⟩ | ⟨ae,ag⟩
 ·exact .of_left (intBits_le_64 ae ag)
 ·exact .of_right (intBits_le_64 ae ag)
theorem Qd:dS X (hD .Add) (nB λ i j=>.int (i+j)):=HL λ _ _ _ _ _ _ _ q=>add_int q
theorem Qe:dS X (hD .Sub) (nB λ i j=>.int (i - j)):=HL λ _ _ _ _ _ _ _ q=>sub_int q
theorem Qf:dS X (hD .Mult) (sU yL λ i j=>.int (i * j)):=yJ λ _ _ _ _ _ _ _ ai q=>mul_int q ai.ok
theorem Qg:dS X (hD .Mod) (sU (λ _ j=>0 < j) λ i j=>.int (i % j)):=yJ λ i j _ _ _ _ _ ai q=>by
 have ae:(0:Int) < j:=ai;exact mod_int' (by omega) (by rw [Int.fmod_eq_emod_of_nonneg i (by omega)];exact q)
theorem Qh:dS X (hD .Pow) (sU HM λ i j=>.int (i ^ j.toNat)):=yJ λ _ _ _ _ _ _ _ ai q=>pow_int_small ai.1 ai.2.1 ai.2.2 q
theorem Qi{f:Value->Sem Value}{g:Int->Int}
 (rule:∀(i:Int)(t:Tok)(s:aE)(Q:Value->aE->Prop)(E:Value->aE->Prop),Q (.int (g i) s.toks) { s with toks:=s.toks+1 }->aU (aY X.prog X.w) X.A (f (.int i t)) Q E s) :
 yI X f (HK λ i=>.int (g i)):=by
 intro pins s σ H x v Q I a7 h;obtain ⟨i,rfl,q⟩:=h;obtain ⟨t,rfl⟩:=a7;exact rule i t s _ _ ⟨.int (g i),H,I.tok _,⟨_,rfl⟩,q⟩
theorem Qj:yI X (uG .USub) (HK λ i=>.int (-i)):=Qi λ _ _ _ _ _ q=>neg_int q
end
section
variable{X:aW}{a b c:a8}{bb bF bj:TE}{pos:Pos}
theorem sEq{pins:List (Addr × Obj)}{σ:St}{H:aw}{s:aE}{Q:cE}{k sV:Bool}(I:Inv X pins σ H s)(q:Q (.aI k) H)(e:k=sV):f_ X pins σ Q (.bool sV) s:=by
 subst e;exact ⟨.aI k,H,I,rfl,q⟩
theorem Qk:dS X (d3 .Lt) (nB λ i j=>.aI (decide (i < j))):=yK λ _ _ _ _ _ _ _ q=>lt_int q
theorem Ql:dS X (d3 .LtE) (nB λ i j=>.aI (decide (i<=j))):=yK λ _ _ _ _ _ _ _ q=>le_int q
theorem Qm:dS X (d3 .Gt) (nB λ i j=>.aI (decide (j < i))):=yK λ _ _ _ _ _ _ _ q=>gt_int q
theorem Qn:dS X (d3 .GtE) (nB λ i j=>.aI (decide (j<=i))):=yK λ _ _ _ _ _ _ _ q=>ge_int q
theorem Qo:dS X (d3 .In) (λ x y H Q=>∃ i j,x=.str i/\y=.str j/\Q (.aI (!(Builtin.Str.occurrences j i 0 j.length 1).isEmpty)) H):=by
 intro pins s σ H x y v u Q I a7 cF h;obtain ⟨i,j,rfl,rfl,q⟩:=h;obtain ⟨t,rfl⟩:=a7;obtain ⟨t',rfl⟩:=cF;exact in_str (sEq I q rfl)
theorem Qp:dS X (d3 .Is) (λ x y H Q=>y=.a9/\Q (.aI (decide (x=.a9))) H):=by
 intro pins s σ H x y v u Q I a7 cF h;obtain ⟨rfl,q⟩:=h;cases cF;refine is_none_gen (sEq I q ?_)
 cases x<;>first
  | (cases a7;rfl)
  | (obtain ⟨t,rfl⟩:=a7;rfl)
theorem Qq:dS X (d3 .IsNot) (λ x y H Q=>y=.a9/\Q (.aI (!decide (x=.a9))) H):=by
 intro pins s σ H x y v u Q I a7 cF h;obtain ⟨rfl,q⟩:=h;cases cF;refine isnot_none_gen (sEq I q ?_)
 cases x<;>first
  | (cases a7;rfl)
  | (obtain ⟨t,rfl⟩:=a7;rfl)
theorem dS.or{f:Value->Value->Sem Value}{r bp:eX}(h:dS X f r)(h':dS X f bp):dS X f (λ x y H Q=>r x y H Q\/bp x y H Q):=by
 intro pins s σ H x y v u Q I a7 cF q;rcases q with q | q
 ·exact h pins s σ H x y v u Q I a7 cF q
 ·exact h' pins s σ H x y v u Q I a7 cF q
theorem bH(b:a8){op:m9}(h:op≠.In:=by decide)(ag:op≠.NotIn:=by decide):ph op b=false:=by
 have aC:(op==CmpOp.In)=false:=by cases op<;>first | rfl | exact absurd rfl h
 have aG:(op==CmpOp.NotIn)=false:=by cases op<;>first | rfl | exact absurd rfl ag
 cases b<;>simp [ph,aC,aG]
theorem Qr{op:m9}{r:eX}(aS:dS X (d3 op) r)(ax:b_ X a bb)(af:b_ X b bF)(hm:ph op b=false):b_ X (.Compare a [op] [b] pos) (pK r bb bF):=by
 intro pins s σ H Q I h;exact wpAny_Compare1 (BE ax af I h λ v u s2 x y bg dg a7 cF q=>aS pins s2 σ bg x y v u Q dg a7 cF q) hm
def BF(t:TE):TT:=λ σ H Q=>t σ H λ x aj=>∃ k,x=.aI k/\Q k aj
theorem Qs{op:m9}{r:eX}(aS:dS X (d3 op) r)(ax:b_ X a bb)(af:b_ X b bF)(hm:ph op b=false):kr X (.Compare a [op] [b] pos) (BF (pK r bb bF)):=by
 intro pins s σ H Q I h
 refine wpAny_isTrue_Compare1 (b0 (ax pins s σ H _ I h) λ v s1 ⟨x,H1,a4,aT,aF⟩=>b0 (af pins s1 σ H1 _ a4 aF) λ u s2 ⟨y,bg,dg,a0,bo⟩=>
  b0 (aS pins s2 σ bg x y v u _ dg aT a0 bo) λ c s3 ⟨z,dI,eH,hH,k,e,dw⟩=>?_) hm
 subst e;cases hH;exact nX ⟨dI,eH,dw⟩
def Qt(r bp:eX)(bb bF bj:TE):TE:=λ σ H Q=>bb σ H λ x H1=>bF σ H1 λ y bg=>r x y bg λ z dI=>∃ k,z=.aI k ∧
 (if k=true then bj σ dI λ iJ jt=>bp y iJ jt Q else Q (.aI false) dI)
theorem Qu{op qW:m9}{r bp:eX}(aS:dS X (d3 op) r)(mh:dS X (d3 qW) bp)(ax:b_ X a bb)(af:b_ X b bF)(ai:b_ X c bj)
 (hm:lastMarks [op,qW] [b,c]=false:=by with_unfolding_all rfl):kr X (.Compare a [op,qW] [b,c] pos) (BF (Qt r bp bb bF bj)):=by
 intro pins s σ H Q I h
 refine isTrue_chain (b0 (ax pins s σ H _ I h) λ v s1 ⟨x,H1,a4,aT,aF⟩=>test_link (b0 (af pins s1 σ H1 _ a4 aF) λ u s2 ⟨y,bg,dg,a0,bo⟩=>
  b0 (aS pins s2 σ bg x y v u _ dg aT a0 bo) λ d s3 ⟨z,dI,eH,hH,k,e,dw⟩=>?_)) hm
 subst e;cases hH;refine nX ?_
 cases k with
 | false=>
  obtain ⟨sV,bV,gT⟩:=dw;cases bV;exact ite_ff ⟨dI,eH,gT⟩
 | true=>
  refine ite_tt (test_last (b0 (ai pins s3 σ dI _ eH dw) λ iJ s4 ⟨fQ,jt,ij,qX,gm⟩=>b0 (mh pins s4 σ jt y fQ u iJ _ ij a0 qX gm) λ d' s5 ⟨b9,js,oh,qU,k2,aG,kW⟩=>?_));subst aG;cases qU;exact nX ⟨js,oh,kW⟩
def BG(K:aX)(x:V)(H:aw)(k:Bool):Prop:=
 match x with
 | .a9=>k=false
 | .aI b=>k=b
 | .int i=>k=(i !=0)
 | .str y=>y.length<=sizeLine/\k=((y.length:Int) !=0)
 | .sK y=>y.size<=sizeLine/\k=((y.size:Int) !=0)
 | .ref p=>(∃ xs,eu K H p xs/\k=!xs.isEmpty)\/(∃ xs,dH K H p xs/\k=!xs.isEmpty)\/∃ dn,H p=some (.i3 dn)/\k=!dn.isEmpty
 | _=>False
theorem Qv{κ:Type}{dn:List (κ × V)}{vs:List (κ × Value)}(r:Bv dn vs):(!vs.isEmpty)=!dn.isEmpty:=by
 cases r<;>rfl
theorem HN{xs:List V}{az:List Value}(r:Vals xs az):(!az.toArray.isEmpty)=!xs.isEmpty:=by
 cases r<;>simp
theorem om:(sizeLine:Nat) < 2 ^ 63:=by rw [hC];decide
theorem Qw:Qa X (λ x H Q=>∃ k,BG X.K x H k/\Q k H):=by
 intro pins s σ H x v Q I a7 h;obtain ⟨k,e,q⟩:=h;have ar:=om;have ap:sizeLine=16777216:=hC
 cases x with
 | a9=>
  cases a7;have bV:k=false:=e;subst bV;exact truthy_none ⟨H,I,q⟩
 | aI b=>
  cases a7;have bV:k=b:=e;subst bV;exact nX ⟨H,I,q⟩
 | int i=>
  obtain ⟨t,rfl⟩:=a7;have bV:k=(i !=0):=e;subst bV;exact PySem.P.truthy_int ⟨H,I,q⟩
 | str y=>
  obtain ⟨t,rfl⟩:=a7;obtain ⟨bv,bV⟩:y.length<=sizeLine/\k=((y.length:Int) !=0):=e;subst bV;exact PySem.P.truthy_str (by omega) ⟨H,I.tok _,q⟩
 | sK y=>
  obtain ⟨t,rfl⟩:=a7;obtain ⟨bv,bV⟩:y.size<=sizeLine/\k=((y.size:Int) !=0):=e;subst bV;exact PySem.W.truthy_bytes (by omega) ⟨H,I.tok _,q⟩
 | ref p=>
  cases a7;have bV:(∃ xs,eu X.K H p xs/\k=!xs.isEmpty)\/(∃ xs,dH X.K H p xs/\k=!xs.isEmpty)\/∃ dn,H p=some (.i3 dn)/\k=!dn.isEmpty:=e;rcases bV with ⟨xs,ak,bV⟩ | ⟨xs,ak,bV⟩ | ⟨dn,ak,bV⟩
  ·subst bV;obtain ⟨az,r,pl,hz⟩:=I.list ak;have hlen:=r.length;exact wpAny_truthy_list pl.isList (by simp only [cM];omega) ⟨H,I.tok _,by rw [HN r];exact q⟩
  ·subst bV;obtain ⟨az,r,pl,hz⟩:=I.tuple ak;have hlen:=r.length;exact truthy_tuple pl (by simp only [cM];omega) ⟨H,I.tok _,by rw [HN r];exact q⟩
  ·subst bV;obtain ⟨hz,ew,vs,r,m⟩:dn.length<=sizeLine/\(p==sysModules)=false/\∃ vs,Bv dn vs/\s.heap.DictOf (Bu X.prog X.w) p vs:=I.bJ p _ ak;have hlen:dn.length=vs.length:=Paired.length r;exact wpAny_truthy_dict ew m (by omega) ⟨H,I.tok _,by rw [Qv r];exact q⟩
 | _=>exact (show False from e).elim
theorem Qx(ax:b_ X a bb)(he:∀ whole,isTrue a X.env whole=(do let v ← whole;pp a.pos;jI [v] (truthy v))) :
 kr X a (λ σ H Q=>bb σ H λ x aj=>∃ k,BG X.K x aj k/\Q k aj):=by
 intro pins s σ H Q I h;exact isTrue_plain (b0 (ax pins s σ H _ I h) λ v s1 ⟨x,H1,a4,aT,aF⟩=>Qw pins s1 σ H1 x v Q a4 aT aF) (he _)
theorem Qy:dS X (hD .Add) (λ x y H Q=>∃ i j,x=.str i/\y=.str j/\i.length+j.length<=sizeLine/\Q (.str (i++j)) H):=by
 intro pins s σ H x y v u Q I a7 cF h;obtain ⟨i,j,rfl,rfl,hz,q⟩:=h;obtain ⟨t,rfl⟩:=a7;obtain ⟨t',rfl⟩:=cF;exact add_str (λ t' bL=>⟨.str (i++j),H,I.tok _,⟨_,rfl⟩,q⟩) hz
theorem on{x:V}{us:List Value}(r:Vals [x] us):∃ u,us=[u]/\RelV x u:=by
 cases r with
 | cons aT a0=>cases a0;exact ⟨_,rfl,aT⟩
theorem HO{x y:V}{us:List Value}(r:Vals [x,y] us):∃ u iJ,us=[u,iJ]/\RelV x u/\RelV y iJ:=by
 cases r with
 | cons aT a0=>
  cases a0 with
  | cons hH qX=>cases qX;exact ⟨_,_,rfl,aT,hH⟩
theorem Qz(ai:X.calm=true):h3 X (.builtin "max") (λ xs H Q=>∃ i j,xs=[.int i,.int j]/\Q (.int (if j > i then j else i)) H):=by
 intro pins s σ H xs us Q I r h;obtain ⟨i,j,rfl,q⟩:=h;obtain ⟨u,iJ,rfl,⟨t,rfl⟩,⟨t',rfl⟩⟩:=HO r
 refine max_two_ints (I.ok.hd ai) λ h' bL k=>⟨_,H,I.kept k,?_,q⟩
 by_cases cD:j > i
 ·rw [if_pos cD,if_pos cD];exact ⟨_,rfl⟩
 ·rw [if_neg cD,if_neg cD];exact ⟨_,rfl⟩
theorem QA(ai:X.calm=true):h3 X (.builtin "min") (λ xs H Q=>∃ i j,xs=[.int i,.int j]/\Q (.int (if j < i then j else i)) H):=by
 intro pins s σ H xs us Q I r h;obtain ⟨i,j,rfl,q⟩:=h;obtain ⟨u,iJ,rfl,⟨t,rfl⟩,⟨t',rfl⟩⟩:=HO r
 refine min_two_ints (I.ok.hd ai) λ h' bL k=>⟨_,H,I.kept k,?_,q⟩
 by_cases cD:j < i
 ·rw [if_pos cD,if_pos cD];exact ⟨_,rfl⟩
 ·rw [if_neg cD,if_neg cD];exact ⟨_,rfl⟩
theorem QB:h3 X (.type "int") (λ xs H Q=>(∃ i,xs=[.int i]/\Q (.int i) H)\/∃ k,xs=[.aI k]/\Q (.int (if k then 1 else 0)) H):=by
 intro pins s σ H xs us Q I r h;rcases h with ⟨i,rfl,q⟩ | ⟨k,rfl,q⟩
 ·obtain ⟨u,rfl,t,rfl⟩:=on r;exact call_int_int ⟨.int i,H,I,⟨_,rfl⟩,q⟩
 ·obtain ⟨u,rfl,aT⟩:=on r;cases aT;exact call_int_bool ⟨.int (if k then 1 else 0),H,I.tok _,⟨_,rfl⟩,q⟩
theorem QC:h3 X (.type "str") (λ xs H Q=>∃ i,xs=[.int i]/\i.natAbs.log2 < 1920/\Q (.str (toString i)) H):=by
 intro pins s σ H xs us Q I r h;obtain ⟨i,rfl,hz,q⟩:=h;obtain ⟨u,rfl,t,rfl⟩:=on r;exact PySem.P.str_of_int hz ⟨.str _,H,I.tok _,⟨_,rfl⟩,q⟩
end
structure BH(h:bE)(x aV C:Addr)(mA:Str->Option Value):Prop where
 obj:h.get? x=some (PySem.W.instObj C aV)
 ns:h.Ns1 aV mA
 ne:aV≠x
theorem HP{h:bE}{aV:Addr}{mA:Str->Option Value}(n:h.Ns1 aV mA):∃ eM,h.get? aV=some eM/\∀ name,yr name eM=some (mA name):=by
 obtain ⟨o,es,dY,aS,hd,aN,_,hm⟩:=n;refine ⟨o,aS,λ name=>?_⟩;have e:=hm name;unfold se findBy at e;rw [<- Array.find?_toList] at e;unfold yr;rw [hd]
 dsimp only
 split
 ·rename_i y q
  rw [q] at e;exact congrArg some e
 ·rename_i q
  rw [q] at e
  have a:es.toList.any (·.refKey)=false:=by
   rw [List.any_eq_false];intro y bv;obtain ⟨z,t,QD⟩:=aN y (ym.mp bv);simp [DictEntry.refKey,QD]
  have a':¬ es.toList.any (·.refKey)=true:=by rw [a];exact kS
  rw [if_neg a'];exact congrArg some e
theorem BH.look{h:bE}{x aV C:Addr}{mA:Str->Option Value}(I:BH h x aV C mA):∃ eM,PySem.W.InstAt h x (PySem.W.instObj C aV) C (some eM)/\∀ name,yr name eM=some (mA name):=
 let ⟨eM,aS,ar⟩:=HP I.ns
 ⟨eM,⟨I.obj,rfl,rfl,aS⟩,ar⟩
theorem QE{v:V}{u:Value}(r:RelV v u):PySem.W.handedIn u=true:=by
 cases v with
 | a9=>cases (show u=Value.none from r);rfl
 | aI b=>cases (show u=Value.bool b from r);rfl
 | int i=>obtain ⟨t,e⟩:=(show ∃ t,u=Value.int i t from r);cases e;rfl
 | str x=>obtain ⟨t,e⟩:=(show ∃ t,u=Value.str x t from r);cases e;rfl
 | sK b=>obtain ⟨t,e⟩:=(show ∃ t,u=Value.bytes b t from r);cases e;rfl
 | qL b=>obtain ⟨t,e⟩:=(show ∃ t,u=Value.float b t from r);cases e;rfl
 | ref a=>cases (show u=Value.ref a from r);rfl
 | ty n=>cases (show u=Value.type n from r);rfl
section
variable{P:cL}{w:b8}{H aj:aw}{h h':bE}{a C aV:Addr}{aK dN:List (Str × V)}
theorem QF(bJ:fx P w H h)(e:H a=some (.ins C aV aK)):∃ mA,BH h a aV C mA/\(∀ f,u4 (aK.lookup f) (mA f))/\PySem.Within mA (aK.map (·.1))/\aK.length<=1000/\H aV=some (.own a):=by
 obtain ⟨d,z,ne,c_,mA,n,r,q⟩:=(show f9 P w H h a (.ins C aV aK) from bJ a _ e)
 exact ⟨mA,⟨c_,n,ne⟩,r,q,z,d⟩
end
structure BI(K:aX)(C:Addr):Prop where
 QG:PySem.W.plainGet K C Str.empty=true
 hd:PySem.W.hasDictIn K C=true
 po:PySem.W.plainOver K C=true
 HQ:nh K (.ref C) "__setattr__" = some (some (.builtin "object.__setattr__"))
theorem BI.get{K:aX}{C:Addr}(c:BI K C)(f:Str):PySem.W.plainGet K C f=true:=c.QG
section
variable{X:aW}{pins:List (Addr × Obj)}{σ:St}{H:aw}{s:aE}{a C aV:Addr}{aK:List (Str × V)}{f:Str}{v:V}{A:cz}{E:Value->aE->Prop}
theorem QH{prog:cL}{w:b8}{env:Env}{e:a8}{f:Str}{pos:Pos}{s:aE}{Q:Value->aE->Prop}(af:l8 e f env (eval e env)=eval e env)
 (h:aU (aY prog w) A (eval e env) (λ o dp=>aU (aY prog w) A (getAttr o f true) Q E dp) E s):aU (aY prog w) A (eval (.Attribute e f pos) env) Q E s:=
 Attribute_any_ h (by rw [arm_eval_Attribute,af])
end
section
variable{X:aW}{pins:List (Addr × Obj)}{σ:St}{H:aw}{s:aE}{A:cz}{E:Value->aE->Prop}{Q:Value->aE->Prop}{c:Value}{b:Bool}
inductive kX(K:aX)(H:aw):V->Value->Prop where
 | a9:kX K H .a9 (.type "NoneType")
 | aI (x:Bool):kX K H (.aI x) (.type "bool")
 | int (i:Int):kX K H (.int i) (.type "int")
 | str (x:Str):kX K H (.str x) (.type "str")
 | qL (x:UInt64):kX K H (.qL x) (.type "float")
 | lst {a:Addr} {xs:List V} (e:H a=some (.lst xs)):kX K H (.ref a) (.type "list")
 | ih {a:Addr} {o:Obj} {xs:List V} (e:H a=some (.ih o (.lst xs))):kX K H (.ref a) (.type "list")
 | tup {a:Addr} {xs:List V} (e:H a=some (.tup xs)):kX K H (.ref a) (.type "tuple")
 | i3 {a:Addr} {dn:List (Key × V)} (e:H a=some (.i3 dn)):kX K H (.ref a) (.type "dict")
 | iH {a:Addr} {dn:List (List Key × V)} (e:H a=some (.iH dn)):kX K H (.ref a) (.type "dict")
 | ins {a C aV:Addr} {aK:List (Str × V)} (e:H a=some (.ins C aV aK)) (cl:BI K C) (ax:nh K (.ref C) "__class__" = some (some (.builtin "object.__class__")))
  (aH:ys K (.builtin "object.__class__") "__get__" = some (some (.builtin "getset_descriptor.__get__"))) (HR:PySem.W.takesIn K (.builtin "object.__class__")=some true)
  (hm:PySem.W.mroIn K C (.type "object")=some true):kX K H (.ref a) (.ref C)
theorem QI{x:V}{u t:Value}(I:Inv X pins σ H s)(a7:RelV x u)(ty:kX X.K H x t)(e:Wp X.K t c=some b)(h:∀ bL,Q (.bool b) { s with toks:=bL }) :
 aU (aY X.prog X.w) A (call (.builtin "isinstance") [u,c]) Q E s:=by
 cases ty with
 | a9=>cases (show u=Value.none from a7);exact jN PySem.W.kitx_none I.ff True.intro e (λ z=>nomatch z) h
 | aI y=>cases (show u=Value.bool y from a7);exact jN PySem.W.kitx_bool I.ff True.intro e (λ z=>nomatch z) h
 | int i=>obtain ⟨t,q⟩:=(show ∃ t,u=Value.int i t from a7);cases q;exact jN PySem.W.kitx_int I.ff True.intro e (λ z=>nomatch z) h
 | str y=>obtain ⟨t,q⟩:=(show ∃ t,u=Value.str y t from a7);cases q;exact jN PySem.W.kitx_str I.ff True.intro e (λ z=>nomatch z) h
 | qL y=>obtain ⟨t,q⟩:=(show ∃ t,u=Value.float y t from a7);cases q;exact jN PySem.W.kitx_float I.ff True.intro e (λ z=>nomatch z) h
 | @lst a xs fl=>
  cases (show u=Value.ref a from a7)
  obtain ⟨_,_,n,_,ae⟩:=(show f9 X.prog X.w H s.heap a (.lst xs) from I.bJ a _ fl)
  exact jN PySem.W.kitx_list I.ff ⟨_,ae,rfl⟩ e (λ z=>nomatch z) h
 | @ih a c_ xs fl=>
  cases (show u=Value.ref a from a7)
  obtain ⟨_,_,_,n,_,ae⟩:=(show f9 X.prog X.w H s.heap a (.ih c_ (.lst xs)) from I.bJ a _ fl)
  exact jN PySem.W.kitx_list I.ff ⟨_,ae,rfl⟩ e (λ z=>nomatch z) h
 | @tup a xs fl=>
  cases (show u=Value.ref a from a7)
  obtain ⟨_,_,_,p⟩:=(show f9 X.prog X.w H s.heap a (.tup xs) from I.bJ a _ fl)
  obtain ⟨o,ae,ag,_⟩:=p;exact jN PySem.W.kitx_tuple I.ff ⟨o,ae,ag⟩ e (λ z=>nomatch z) h
 | @i3 a dn fl=>
  cases (show u=Value.ref a from a7)
  obtain ⟨_,_,vs,_,p⟩:=(show f9 X.prog X.w H s.heap a (.i3 dn) from I.bJ a _ fl)
  obtain ⟨o,es,dY,ae,ag,_⟩:=p;exact jN PySem.W.kitx_dict I.ff ⟨o,ae,ag.1⟩ e (λ z=>nomatch z) h
 | @iH a dn fl=>
  cases (show u=Value.ref a from a7)
  obtain ⟨_,_,xs,_,o,es,dY,ae,ag,_⟩:=(show f9 X.prog X.w H s.heap a (.iH dn) from I.bJ a _ fl)
  exact jN PySem.W.kitx_dict I.ff ⟨o,ae,ag.1⟩ e (λ z=>nomatch z) h
 | @ins a C aV aK fl cl ax aH HR hm=>
  cases (show u=Value.ref a from a7);obtain ⟨mA,O,_⟩:=QF I.bJ fl;obtain ⟨eM,J,_⟩:=O.look;exact jN (PySem.W.kitx_own (cl.get _) cl.hd ax aH HR hm) I.ff J e (λ z=>nomatch z) h
end
structure fy(k:Nat)(A:cz):Prop where
 hd:A.handled=none
 bC:A.depth+3 * k+5 < recursionLimit
 un:A.units+16 * k+200 < dC
theorem fy.mono{j k:Nat}{A:cz}(r:fy k A)(h:j<=k):fy j A:=⟨r.hd,by have:=r.bC;omega,by have:=r.un;omega⟩
theorem fy.deeper{k:Nat}{A:cz}(r:fy (k+1) A)(env:Env):fy k (A.deeper env):=
 ⟨r.hd,by have:=r.bC;show A.depth+1+3 * k+5 < _;omega,by have:=r.un;show A.units+3+16 * k+200 < _;omega⟩
theorem QJ{A:cz}{C:Addr}{us:List Value}{kw:List (Str × Value)}:(A.under (.builtin "type.__call__" ⟨.ref C::us,kw⟩)).depth=A.depth+1:=by
 first | rfl | simp [Around.under,Code.weight,Code.isCreation,Code.isGuard,Code.isCaller,Code.frames,Code.isFrame,guardIds]
theorem QK{A:cz}{C:Addr}{us:List Value}{kw:List (Str × Value)}:(A.under (.builtin "type.__call__" ⟨.ref C::us,kw⟩)).units=A.units+1:=by
 first | rfl | simp [Around.under,Code.cUnits,Code.frames,Code.isFrame]
theorem fy.make{k:Nat}{A:cz}(r:fy (k+1) A)(C:Addr)(us:List Value)(kw:List (Str × Value)):fy k (A.under (.builtin "type.__call__" ⟨.ref C::us,kw⟩)):=
 ⟨r.hd,by have:=r.bC;rw [QJ];omega,by have:=r.un;rw [QK];omega⟩
theorem fy.depth{k:Nat}{A:cz}(r:fy k A):A.depth < recursionLimit:=by have:=r.bC;omega
def HS:fk:=λ _ H Q=>Q [] H
def BJ(bb:TE)(yM:fk):fk:=λ σ H Q=>bb σ H λ x H1=>yM σ H1 λ xs bg=>Q (x::xs) bg
section
variable{X:aW}{e:a8}{es:List a8}{aZ:TE}{t:fk}{pos:Pos}
theorem BK:ii X [] HS:=λ _ _ _ _ H Q I h=>Calls.spliced_nil ⟨[],H,I,.nil,h⟩
theorem HT(ax:b_ X e aZ)(ao:ii X es t)(ap:dB (e::es) X.env=(false,eval e X.env)::dB es X.env:=by rfl):ii X (e::es) (BJ aZ t):=by
 intro pos pins s σ H Q I h;rw [ap];show aU _ _ (spliced ((false,eval e X.env)::hO pos (dB es X.env))) _ _ s;refine Calls.spliced_cons (b0 (ax pins s σ H _ I h) λ u s1 ⟨x,H1,a4,aT,aF⟩=>?_)
 exact b0 (ao pos pins s1 σ H1 _ a4 aF) λ us s2 ⟨xs,bg,dg,a0,bo⟩=>⟨x::xs,bg,dg,.cons aT a0,bo⟩
def HU(t:fk):TE:=λ σ H Q=>t σ H λ xs H1=>xs.length<=sizeLine/\∀ p,H1 p=none->Q (.ref p) (upd H1 p (.tup xs))
def HV(t:fk):TE:=λ σ H Q=>t σ H λ xs H1=>xs.length<=sizeLine/\∀ p,H1 p=none->Q (.ref p) (upd H1 p (.lst xs))
theorem QL {g9} (h:ii X es t):b_ X (.Tuple es g9 pos) (HU t):=by
 intro pins s σ H Q I bc;refine wpAny_Tuple_spliced (b0 (h pos pins s σ H _ I bc) λ us s1 ⟨xs,H1,a4,r,z,q⟩=>⟨by rw [<- r.length];exact z,?_⟩);have hf:H1 s1.heap.objs.size=none:=a4.bJ.fresh (ZB _);refine ⟨.ref s1.heap.objs.size,upd H1 s1.heap.objs.size (.tup xs),a4.laid (t':=s1.toks) (λ b u e=>cP _ e) (ZB _) ?_,rfl,q _ hf⟩;exact ⟨z,us,r,⟨_,f7 _ rfl,rfl,_,rfl⟩⟩
theorem QM(h:ii X es t):b_ X (.List es pos) (HV t):=by
 intro pins s σ H Q I bc;refine wpAny_List_spliced (b0 (h pos pins s σ H _ I bc) λ us s1 ⟨xs,H1,a4,r,z,q⟩=>⟨by rw [<- r.length];exact z,?_⟩);have hf:H1 s1.heap.objs.size=none:=a4.bJ.fresh (ZB _);refine ⟨.ref s1.heap.objs.size,upd H1 s1.heap.objs.size (.lst xs),a4.laid (t':=s1.toks) (λ b u e=>cP _ e) (ZB _) ?_,rfl,q _ hf⟩;exact ⟨z,us,0,r,f7 _ rfl⟩
end
abbrev iK:=List V->aw->cE->fY->Prop
abbrev mt:=List Env->aw->aE->fY->Value->aE->Prop
structure qY(P:cL)(w:b8)(K:aX)(mg:Str->Option Value)(base:bE)(A:cz)(outer:List Env)(s:aE)(H:aw):Prop where
 frames:A.frames=some outer
 mod:Mod K mg base
 bs:∀ b o,base.get? b=some o->s.heap.get? b=some o/\H b=none
 nr:base.objs.size<=s.heap.objs.size
 ko:s.heap.FunFrames base outer
 pG:∀ b∈eQ outer,H b=none
 bJ:fx P w H s.heap
 bare:l_ s.gens
def yN(outer:List Env)(P:cL)(w:b8)(H:aw)(s:aE)(Q:cE)(u:Value)(aM:aE):Prop:=
 ∃ v aj,aM.os=s.os/\l_ aM.gens/\fP (eQ outer) [] H aj s.heap aM.heap/\fx P w aj aM.heap/\RelV v u/\Q v aj
def QN(CX:mt)(outer:List Env)(P:cL)(w:b8)(H:aw)(s:aE)(Q:cE)(E:fY)(r:Result)(aM:aE):Prop:=
 match r with
 | .ok (.ret u)=>yN outer P w H s Q u aM
 | .ok _=>False
 | .error e=>CX outer H s E e aM
structure da(P:cL)(w:b8)(K:aX)(mg:Str->Option Value)(base:bE)(CX:mt)(k:Nat)(f:Addr)(fd:gD)(ps:List Str)(sp:iK):Prop where
 len:∀ vs H Q E,sp vs H Q E->vs.length=ps.length
 run:∀(A:cz)(outer:List Env)(s:aE)(H:aw)(args:Args)(us:List Value)(vs:List V)(Q:cE)(E:fY),fy k A->qY P w K mg base A outer s H->sb s fd args (ps.zip us)->Vals vs us->sp vs H Q E →
  pq (aY P w) A (.call (.ref f) args) (QN CX outer P w H s Q E) s
theorem qY.make{P:cL}{w:b8}{K:aX}{mg:Str->Option Value}{base:bE}{A:cz}{outer:List Env}{s:aE}{H:aw}(e:qY P w K mg base A outer s H)(C:Addr)(us:List Value)(kw:List (Str × Value)) :
 qY P w K mg base (A.under (.builtin "type.__call__" ⟨.ref C::us,kw⟩)) outer s H:=⟨by first | exact e.frames | (simpa [Around.under,Code.envs,Code.isFrame,pushEnvs] using e.frames),e.mod,e.bs,e.nr,e.ko,e.pG,e.bJ,e.bare⟩
section
variable{X:aW}{pins:List (Addr × Obj)}{σ:St}{H:aw}{s aM:aE}
theorem Inv.BL(I:Inv X pins σ H s):qY X.prog X.w X.K X.mg X.base X.A X.stack s H:=
 ⟨I.ok.frames,I.ok.mod,I.bs,gF I.ok.nr I.eW,I.stack,I.u9,I.bJ,I.bare⟩
theorem Inv.after{Q:cE}{u:Value}(I:Inv X pins σ H s)(h:yN X.stack X.prog X.w H s Q u aM):f_ X pins σ Q u aM:=by
 obtain ⟨v,aj,os,bare,un,bJ,r,q⟩:=h;obtain ⟨d8,g,d,t,vo⟩:=aM;obtain rfl:vo=s.os:=os;exact ⟨v,aj,I.call (h':=d8) (g':=g) (d':=d) (t':=t) (ch:=[]) un bJ bare (λ b z=>absurd z (by simp)),r,q⟩
end
def yO(sp:iK)(dvs:List V)(E:fY)(t:fk):TE:=λ σ H Q=>t σ H λ vs H1=>sp (vs++dvs) H1 Q E
def Binds(K:aX)(fd:gD)(ps:List Str)(ds:List Value):Prop:=
 ∀(s:aE)(us:List Value),K.In s.heap->(us++ds).length=ps.length->sb s fd ⟨us,[]⟩ (ps.zip (us++ds))
theorem Binds.all{K:aX}{fd:gD}{ps:List Str}(h:∀ us:List Value,us.length=ps.length->bindArgs fd ⟨us,[]⟩=pure (ps.zip us)):Binds K fd ps []:=λ s us _ ar=>by
 rw [dD] at ar ⊢;exact .of_eq (h us ar)
def yP(CX:mt)(X:aW)(E:fY):Prop:=∀(pins:List (Addr × Obj))(σ:St)(H:aw)(s:aE)(e:Value)(aM:aE),Inv X pins σ H s->CX X.stack H s E e aM->X.xe e aM
section
variable{X:aW}{CX:mt}{k:Nat}{f C:Addr}{fd:gD}{ps:List Str}{sp:iK}{dvs:List V}{ds:List Value}{E:fY}{x m:Str}{p pos apos:Pos}{e o:a8}{es:List a8}{bb:TE}{t:fk}
theorem QO{pins:List (Addr × Obj)}{σ:St}{H:aw}{s:aE}{Q:cE}{us:List Value}{vs:List V}(F:da X.prog X.w X.K X.mg X.base CX k f fd ps sp)(ao:fy k X.A)(af:Binds X.K fd ps ds)(hd:Vals dvs ds)(ak:yP CX X E)
 (I:Inv X pins σ H s) (r:Vals vs us) (h:sp (vs++dvs) H Q E):aU (aY X.prog X.w) X.A (call (.ref f) us) (f_ X pins σ Q) X.xe s:=by
 have a0:Vals (vs++dvs) (us++ds):=r.append hd
 have ar:(us++ds).length=ps.length:=by rw [<- a0.length];exact F.len _ _ _ _ h
 refine pj (uC (F.run X.A X.stack s H ⟨us,[]⟩ (us++ds) (vs++dvs) Q E ao I.BL (af s us I.ff ar) a0 h) λ r aM bc=>?_)
 cases r with
 | error e=>exact ak pins σ H s e aM I bc
 | ok eY=>
  cases eY with
  | ret u=>exact I.after bc
  | next=>exact False.elim bc
  | brk=>exact False.elim bc
  | cont=>exact False.elim bc
theorem HW(F:da X.prog X.w X.K X.mg X.base CX k f fd ps sp)(ao:fy k X.A)(a3:et X x)(hm:X.mg x=some (.ref f))(aN:lC X.K (.ref f)=true)(af:Binds X.K fd ps ds)(hd:Vals dvs ds)(ak:yP CX X E)
 (ax:ii X (e::es) t) (fF:(x==("__debug__" : Str))=false:=by decide) (he:dB (e::es) X.env=(false,eval e X.env)::dB es X.env:=by rfl) (hp:(hO pos (dB es X.env)).any (·.1)=false:=by rfl) :
 b_ X (.Call (.Name x p) (e::es) [] pos) (yO sp dvs E t):=by
 intro pins s σ H Q I h;refine XL (sQ I a3 hm ?_ fF);refine PySem.W.callWith_K (h₀:=X.base) I.ok.mod.sL aN (b0 (ax pos pins s σ H _ I h) λ us s1 ⟨vs,H1,a4,r,q⟩=>⟨a4.ff,?_⟩) he hp;exact QO F ao af hd ak a4 r q
end
structure ek(N P:List Str)(sc:gg):Prop where
 kind:sc.kind=.function
 co:sc.isCoroutine=false
 gen:sc.isGenerator=false
 bK:N.Nodup
 pre:N.take P.length=P
 par:∀ x∈P,sc.names.lookup x=some .local\/sc.names.lookup x=some .cell
 QP:∀ y∈sc.names,y.2≠.free
theorem HX{kindOf:Str->Option lw}{x:Str}:∀{binds:List (Str × Value)}{m:Str->Option Value},(∀ v,(x,v) ∉ binds)->kP kindOf binds m x=m x
 | [],_,_=>rfl
 | (n,v)::r,m,h=>by
  unfold kP;rw [HX λ w hw=>h w (bY _ hw)];split
  ·have:x≠n:=by rintro rfl;exact h v bT
   simp [this]
  ·rfl
theorem HY{kindOf:Str->Option lw}{x:Str}:∀{binds:List (Str × Value)}{m:Str->Option Value},(∀ v,(x,v) ∉ binds)->n1 kindOf binds m x=m x
 | [],_,_=>rfl
 | (n,v)::r,m,h=>by
  unfold n1;rw [HY λ w hw=>h w (bY _ hw)];split
  ·rfl
  ·have:x≠n:=by rintro rfl;exact h v bT
   simp [this]
theorem HZ{kindOf:Str->Option lw}{x:Str}{v:Value}:∀{P:List Str}{vs:List Value}{i:Nat}{m:Str->Option Value},P.Nodup->P[i]?=some x->vs[i]?=some v->kindOf x=some .local →
 kP kindOf (P.zip vs) m x=some v
 | [],_,_,_,_,h,_,_=>by simp at h
 | _::_,[],_,_,_,_,h,_=>by simp at h
 | p::P,w::vs,0,m,bK,ae,ag,aN=>by
  simp at ae ag;subst ae;subst ag;show kP kindOf ((p,w)::P.zip vs) m p=_;unfold kP;rw [HX λ v bO=>(qG.mp bK).1 (List.of_mem_zip bO).1,if_pos aN];simp
 | p::P,w::vs,i+1,m,bK,ae,ag,aN=>by
  show kP kindOf ((p,w)::P.zip vs) m x=_;unfold kP;exact HZ (i:=i) (qG.mp bK).2 (by simpa using ae) (by simpa using ag) aN
theorem H0{kindOf:Str->Option lw}{x:Str}{v:Value}:∀{P:List Str}{vs:List Value}{i:Nat}{m:Str->Option Value},P.Nodup->P[i]?=some x->vs[i]?=some v->kindOf x≠some .local →
 n1 kindOf (P.zip vs) m x=some v
 | [],_,_,_,_,h,_,_=>by simp at h
 | _::_,[],_,_,_,_,h,_=>by simp at h
 | p::P,w::vs,0,m,bK,ae,ag,aN=>by
  simp at ae ag;subst ae;subst ag;show n1 kindOf ((p,w)::P.zip vs) m p=_;unfold n1;rw [HY λ v bO=>(qG.mp bK).1 (List.of_mem_zip bO).1,if_neg aN];simp
 | p::P,w::vs,i+1,m,bK,ae,ag,aN=>by
  show n1 kindOf ((p,w)::P.zip vs) m x=_;unfold n1;exact H0 (i:=i) (qG.mp bK).2 (by simpa using ae) (by simpa using ag) aN
def iL(N:List Str)(vs:List V):St:=vs.map some++gh (N.length - vs.length) none
def eJ(CX:mt)(P:cL)(w:b8)(K:aX)(mg:Str->Option Value)(base:bE)(N:List Str)(qual:Str)(scope:gg)(f:Addr)(cd:Value)(A:cz)(outer:List Env)(s:aE)(H:aw)(E:fY):aW where
 prog:=P
 w:=w
 K:=K
 mg:=mg
 base:=base
 A:=A.deeper (envOfC qual scope s.heap.objs.size f cd)
 N:=N
 eP:=s
 u6:=H
 env:=envOfC qual scope s.heap.objs.size f cd
 outer:=outer
 stack:=envOfC qual scope s.heap.objs.size f cd::outer
 ex:=[]
 calm:=true
 fn:=λ _=>true
 pn:=[]
 xe:=λ e aM=>aU (aY P w) (A.deeper (envOfC qual scope s.heap.objs.size f cd)) (qC (envOfC qual scope s.heap.objs.size f cd) e) (λ _ vp=>CX outer H s E e vp) (λ bV vp=>CX outer H s E bV vp) aM
theorem H2{sc:gg}{n:Nat}{x:Str}(h:sc.names.lookup x=some .cell):∃ c,(qz n sc.names []).lookup x=some c:=by
 have q:=PySem.W.cellsFrom_some sc.names n [] (.inl h);exact n5.mp q
theorem H3{CX:mt}{P:cL}{w:b8}{K:aX}{mg:Str->Option Value}{base:bE}{N ps:List Str}{qual:Str}{scope:gg}{f:Addr}{cd:Value}{A:cz}{outer:List Env}{s s1:aE}{H:aw}{E:fY}{us:List Value}{vs:List V}
 (S:ek N ps scope) (hd:A.handled=none) (b6:qY P w K mg base A outer s H) (ar:vs.length=ps.length) (r:Vals vs us)
 (x:InCallC s s.heap.objs.size (kP (envOfC qual scope s.heap.objs.size f cd).kindOf (ps.zip us) λ _=>none) (qz (s.heap.objs.size+1) scope.names []) (n1 (envOfC qual scope s.heap.objs.size f cd).kindOf (ps.zip us) λ _=>none) s1) :
 Inv (eJ CX P w K mg base N qual scope f cd A outer s H E) [] (iL N vs) H s1:=by
 have hp:ps.length<=N.length:=by have:=congrArg mc S.pre;rw [kk] at this;omega
 obtain ⟨ae,bL,rfl,aN⟩:=x.done;have vq:∀ b:Addr,b ∉ (eJ CX P w K mg base N qual scope f cd A outer s H E).ex:=λ b z=>absurd (show b∈([]:List Addr) from z) (by simp)
 refine ⟨⟨b6.mod,S.kind,rfl,rfl,ZB _,λ y z c ae ag=>?_,λ y bv=>?_,λ y c _ h=>?_,λ _=>hd,Around.frames_deeper b6.frames,.inr ⟨rfl,rfl⟩,λ b z=>absurd z (vq b),b6.bs,b6.nr,λ b _ _=>vq b,λ b z=>absurd z (vq b),b6.ko,b6.pG⟩,
  rfl,b6.bare,fP.kept aN,⟨_,x.toInCall.ns,λ i y v ae ag aR=>?_⟩,λ y c h=>⟨_,x.cell y c h⟩,b6.bJ.fresh (ZB _),λ y c h=>?_,λ p ah=>absurd (show p∈([]:List (Addr × Obj)) from ah) (by simp),b6.bJ.kept aN,?_⟩
 ·exact name_of_addr x.apart (WF ae) (WF ag)
 ·have bv:scope.names.lookup y=some .cell\/scope.names.lookup y=some .free:=bv;rcases bv with bv | bv
  ·exact H2 bv
  ·exact absurd rfl (S.QP _ (WF bv))
 ·exact Nat.le_of_lt (x.above y c (WF h))
 ·have av:i < vs.length:=by
   unfold iL at ag;by_cases av:i < vs.length
   ·exact av
   ·rw [sj (by simpa using av)] at ag;rw [x0] at ag;split at ag<;>cases ag
  have ax:vs[i]?=some v:=by
   unfold iL at ag;rw [uL (by simpa using av),iG] at ag
   cases e:vs[i]? with
   | none=>rw [e] at ag;cases ag
   | some a=>rw [e] at ag;cases ag;rfl
  obtain ⟨u,a_,a6⟩:=r.get ax
  have ah:ps[i]?=some y:=by
   rw [<- S.pre,List.getElem?_take_of_lt (by omega)];exact ae
  have H4:ps.Nodup:=by rw [<- S.pre];exact S.bK.sublist (List.take_sublist _ _)
  refine ⟨u,a6,?_⟩;rcases S.par y (uM ah) with k | k
  ·exact .inl ⟨k,HZ H4 ah a_ k⟩
  ·obtain ⟨c,e⟩:=H2 (n:=s.heap.objs.size+1) k;refine .inr ⟨.inl k,c,e,?_⟩;have q:=x.cell y c e;rw [H0 H4 ah a_ (by show scope.names.lookup y≠_;rw [k];decide)] at q;exact q
 ·exact b6.bJ.fresh (Nat.le_of_lt (x.above y c (WF h)))
 ·unfold iL;show _=N.length;rw [dE,er,x1];omega
theorem BM{CX:mt}{P:cL}{w:b8}{K:aX}{mg:Str->Option Value}{base:bE}{k:Nat}{f:Addr}{name qual:Str}{params:Arguments}{body:List bP}{scope:gg}{yQ gG doc pm bI ct gH:Value}{an eM:Option Addr}
 {i9:Array (Option Value)} {N ps:List Str} {sp:iK} (lk:K.lookup f=some ⟨gH,eM,.func (ni name qual params body scope yQ gG doc pm an bI ct),i9⟩) (ho:sE K bI qual=true) (S:ek N ps scope)
 (len:∀ vs H Q E,sp vs H Q E->vs.length=ps.length)
 (kY:∀(A:cz)(outer:List Env)(s:aE)(H:aw)(vs:List V)(Q:cE)(E:fY),fy k (A.deeper (envOfC qual scope s.heap.objs.size f bI))->sp vs H Q E →
  ∃ t,jq (eJ CX P w K mg base N qual scope f bI A outer s H E) body t/\t { nx:=λ _ aj=>Q .a9 aj,rt:=Q } (iL N vs) H) :
 da P w K mg base CX (k+1) f (ni name qual params body scope yQ gG doc pm an bI ct) ps sp:=by
 refine ⟨len,λ A outer s H args us vs Q E ao b6 af r jV=>?_⟩;have ar:=len _ _ _ _ jV;have KX:K.In s.heap:=b6.mod.sL.keeps λ b o e=>(b6.bs b o e).1;have lim:s.heap.NoLimit:=b6.mod.nolimit.keeps λ b o e=>(b6.bs b o e).1
 have yR:∀ y∈ps.zip us,scope.names.lookup y.1=some .local\/(scope.names.lookup y.1=some .cell/\((qz (s.heap.objs.size+1) scope.names []).lookup y.1).isSome=true):=λ⟨n,v⟩ bv=>by
  rcases S.par n (List.of_mem_zip bv).1 with q | q
  ·exact .inl q
  ·exact .inr ⟨q,PySem.W.cellsFrom_some _ _ _ (.inl q)⟩
 refine G7 ao.depth (KX _ _ lk) rfl S.co S.gen rfl (PySem.W.codeRec_of KX ho) (af _ _ _ _ ?_);refine wpAny_newFunctionEnv_cells S.kind yR λ env he s1 x=>?_;subst he;refine ⟨lim.keeps x.toInCall.keep,codeAny_func ?_⟩;obtain ⟨t,bh,bc⟩:=kY A outer s H vs Q E (ao.deeper _) jV;have I:Inv (eJ CX P w K mg base N qual scope f bI A outer s H E) [] (iL N vs) H s1:=H3 S ao.hd b6 ar r x;refine gC (bh [] s1 (iL N vs) H _ I bc) (λ eY aM ap=>?_) λ e aM ap=>ap
 have fin:∀{σ':St}{aj:aw}{v:V}{u:Value},Inv (eJ CX P w K mg base N qual scope f bI A outer s H E) [] σ' aj aM->RelV v u->Q v aj->yN outer P w H s Q u aM:=
  λ{σ' aj v u} J a6 q=>⟨v,aj,J.os,J.bare,J.base,J.bJ,a6,q⟩
 cases eY with
 | ret u=>
  obtain ⟨v,σ',aj,J,a6,q⟩:=ap;exact fin J a6 q
 | next=>
  obtain ⟨σ',aj,J,q⟩:=ap;exact fin (v:=V.a9) (u:=Value.none) J rfl q
 | brk=>
  obtain ⟨_,_,_,q⟩:=ap;exact False.elim q
 | cont=>
  obtain ⟨_,_,_,q⟩:=ap;exact False.elim q
section
variable{X:aW}{x:Str}{p pos:Pos}{e:a8}{es:List a8}{t:fk}{id T:String}{r:List V->aw->cE->Prop}
def yS(r:List V->aw->cE->Prop)(t:fk):TE:=λ σ H Q=>t σ H λ vs H1=>r vs H1 Q
theorem QQ(ai:h3 X (.builtin id) r)(a3:et X x)(hm:X.mg x=none)(bO:kO x=some (.builtin id))(ax:ii X (e::es) t)(aH:x≠"__name__":=by decide)(fF:(x==("__debug__" : Str))=false:=by decide)
 (he:dB (e::es) X.env=(false,eval e X.env)::dB es X.env:=by rfl) (hp:(hO pos (dB es X.env)).any (·.1)=false:=by rfl):b_ X (.Call (.Name x p) (e::es) [] pos) (yS r t):=by
 intro pins s σ H Q I h;refine XL (oe I a3 hm bO ?_ aH fF);exact PyProof.Rows.callWith_builtin1 (b0 (ax pos pins s σ H _ I h) λ us s1 ⟨vs,H1,a4,aT,aF⟩=>ai pins s1 σ H1 vs us Q a4 aT aF) he hp
theorem QR(ai:h3 X (.type T) r)(a3:et X x)(hm:X.mg x=none)(bO:kO x=some (.type T))(ax:ii X (e::es) t)(aH:x≠"__name__":=by decide)(fF:(x==("__debug__" : Str))=false:=by decide)
 (he:dB (e::es) X.env=(false,eval e X.env)::dB es X.env:=by rfl) (hp:(hO pos (dB es X.env)).any (·.1)=false:=by rfl):b_ X (.Call (.Name x p) (e::es) [] pos) (yS r t):=by
 intro pins s σ H Q I h;refine XL (oe I a3 hm bO ?_ aH fF);exact qK (b0 (ax pos pins s σ H _ I h) λ us s1 ⟨vs,H1,a4,aT,aF⟩=>ai pins s1 σ H1 vs us Q a4 aT aF) he hp
end
end L2
namespace dq
open PySem PyProof.Rows
section
variable{prog:cL}{w:b8}{A:cz}{E:Value->aE->Prop}{s:aE}
theorem QS{t b:Addr}{vs ws:List Value}{Q:Value->aE->Prop}(bh:ma s.heap t vs.toArray)(af:ma s.heap b ws.toArray)(bO:vs≠[])
 (ae:ws=[]->Q (.ref t) s) (ag:ws≠[]->Q (.ref s.heap.objs.size) { s with heap:=s.heap.push { cls:=.type "tuple", data:=.seq (vs++ws).toArray } })
 (hsz:vs.length+ws.length<=sizeLine):aU (aY prog w) A (hD .Add (.ref t) (.ref b)) Q E s:=by
 obtain ⟨⟨cls,dd,data,bz⟩,aS,ai,n,hd⟩:=id bh;obtain ⟨⟨BN,gc,data2,hq⟩,kv,jW,ck,hd2⟩:=id af;simp only at ai hd jW hd2;subst ai hd jW hd2
 have e:vs.toArray++ws.toArray=(vs++ws).toArray:=by simp
 by_cases hw:ws=[]
 ·exact Bq ⟨_,aS,rfl⟩ ⟨_,kv,rfl⟩ Bh Bn PySem.F.slot_tuple_add PySem.F.entry_tuple_add (PySem.F.args_tuple_add_2 _ _)
   (tuple_addW1 t b vs.toArray ws.toArray n ck dd gc bz hq (by simpa using bO) (by simp [hw])) ⟨aS,kv,ae hw⟩
 ·refine Bq ⟨_,aS,rfl⟩ ⟨_,kv,rfl⟩ Bh Bn PySem.F.slot_tuple_add PySem.F.entry_tuple_add (PySem.F.args_tuple_add_2 _ _)
   (tuple_addW2 t b vs.toArray ws.toArray n ck dd gc bz hq (by simpa using bO) (by simpa using hw) (by rw [cM,cM];exact hsz)) ⟨aS,kv,?_⟩
  rw [e];exact ag hw
def cp(n d:Nat):Option Int->Nat
 | none=>d
 | some v=>if v < 0 then (v+(n:Int)).toNat else min v.toNat n
theorem QT(n d:Nat)(hd:d<=n)(o:Option Int):cp n d o<=n:=by
 cases o with
 | none=>exact hd
 | some v=>
  show (if v < 0 then (v+(n:Int)).toNat else min v.toNat n)<=n;by_cases bO:v < 0
  ·rw [if_pos bO];omega
  ·rw [if_neg bO];exact Nat.min_le_right _ _
theorem H5(v:Int)(n d:Nat):(if v < 0 then max (v+(n:Int)) 0 else min v (n:Int))=((cp n d (some v):Nat):Int):=by
 show (if v < 0 then max (v+(n:Int)) 0 else min v (n:Int))=(((if v < 0 then (v+(n:Int)).toNat else min v.toNat n):Nat):Int)
 by_cases bO:v < 0
 ·simp only [if_pos bO];omega
 ·simp only [if_neg bO];omega
theorem QU(lo av:Option Int)(n:Nat):Builtin.Slice.sliceAdjust lo av 1 (n:Int)=(((cp n 0 lo:Nat):Int),((cp n n av:Nat):Int)):=by
 have ae:¬ ((1:Int) < 0):=by omega
 unfold Builtin.Slice.sliceAdjust;simp only [ae,if_false];refine Prod.ext ?_ ?_
 ·cases lo with
  | none=>rfl
  | some v=>exact H5 v n 0
 ·cases av with
  | none=>rfl
  | some v=>exact H5 v n n
theorem QV(i j:Nat):Builtin.Slice.slicePlaces (i:Int) (j:Int) 1=j - i:=by
 unfold Builtin.Slice.slicePlaces
 have ae:(1:Int) > 0:=by omega
 simp only [ae,if_true,Int.ediv_one];split<;>omega
theorem vr{v:Value}{o:Option Int}{Q:Option Int->aE->Prop}(p:l9 v o)(h:Q o s):aU (aY prog w) A (Builtin.Slice.slicePartIndex v) Q E s:=by
 cases p with
 | none=>exact slicePart_none h
 | int i t=>exact slicePart_int h
theorem H6{bz:Addr}{fR gn:Value}{lo av:Option Int}{n:Nat}{Q:Int × Int × Nat->aE->Prop}(ap:s.heap.IsSliceOf bz fR gn .none)(pl:l9 fR lo)(pu:l9 gn av)
 (h:Q (((cp n 0 lo:Nat):Int),1,cp n n av - cp n 0 lo) s):aU (aY prog w) A (Builtin.Slice.sliceApplied (.ref bz) (pure (n:Int))) Q E s:=by
 obtain ⟨os,lI,sW,fz⟩:=id ap;unfold Builtin.Slice.sliceApplied Builtin.Slice.sliceFields;refine aA (aA (fi lI fz (x:=fR) rfl (aA (fi lI fz (x:=gn) rfl (aA (fi lI fz (x:=.none) rfl (br ?_)))))));refine aA (slicePart_none ?_);show aU _ _ (if ((1:Int)==0)=true then _ else _) _ _ s;rw [if_neg (by decide)];refine aA (vr pl (aA (vr pu (aA (br ?_)))));show aU _ _ (match Builtin.Slice.sliceAdjust lo av 1 (n:Int) with | (lo,av)=>pure (lo,(1:Int),Builtin.Slice.slicePlaces lo av 1)) _ _ s;rw [QU lo av n];show aU _ _ (pure (((cp n 0 lo:Nat):Int),(1:Int),Builtin.Slice.slicePlaces ((cp n 0 lo:Nat):Int) ((cp n n av:Nat):Int) 1)) _ _ s;rw [QV];exact br h
theorem QW(xs:Array Value)(i k:Nat):((hE k).filterMap λ(m:Nat)=>xs[((i:Int)+(m:Int) * 1).toNat]?).toArray=((xs.toList.drop i).take k).toArray:=by
 have e:(λ(m:Nat)=>xs[((i:Int)+(m:Int) * 1).toNat]?)=λ m=>xs[i+m]?:=by
  funext m
  have:((i:Int)+(m:Int) * 1).toNat=i+m:=by omega
  rw [this]
 rw [e];have:=pick_run xs i k;rw [List.filterMap_map] at this;have aG:((λ x=>xs[x]?) ∘ λ x=>i+x)=λ m=>xs[i+m]?:=rfl;rw [aG] at this;rw [this]
theorem QX{t bz:Addr}{items:Array Value}{fR gn:Value}{lo av:Option Int}{Q:Value->aE->Prop}(bh:ma s.heap t items)(ap:s.heap.IsSliceOf bz fR gn .none)(pl:l9 fR lo)(pu:l9 gn av)
 (hw:¬ (cp items.size 0 lo=0/\cp items.size items.size av=items.size))
 (h:Q (.ref s.heap.objs.size) { s with heap:=s.heap.push { cls:=.type "tuple", data:=.seq ((items.toList.drop (cp items.size 0 lo)).take (cp items.size items.size av - cp items.size 0 lo)).toArray } })
 (hsz:items.size<=sizeLine):aU (aY prog w) A (nZ (.ref t) (.ref bz)) Q E s:=by
 have oo:sizeOk (.seq ((items.toList.drop (cp items.size 0 lo)).take (cp items.size items.size av - cp items.size 0 lo)).toArray):=by
  show ((items.toList.drop (cp items.size 0 lo)).take (cp items.size items.size av - cp items.size 0 lo)).toArray.size<=sizeLine;rw [cM,kk,hF,fO];omega
 have cD:cp items.size items.size av<=items.size:=QT _ _ (ZB _) av;obtain ⟨os,lI,sW,fz⟩:=id ap
 have vt:s.TypeIs (.ref bz) "slice":=⟨os,lI,sW⟩
 unfold nZ
 try with_reducible refine jn ?_
 first | refine aA (br ?_) | skip
 refine aA (Bg bh.typeIs (by decide) ?_)
 refine aA (wpAny_callSpecial?_slot (name:=Str.ofString "__getitem__") bh.typeIs sF
  (kg sF bh.typeIs Br ?_ (Bs _ _)))
 show aU _ _ (Builtin.Tuple.tupleItemsOf (.ref t) >>= _) _ _ s;refine aA (Bt bh ?_);refine aA (qv vt ?_);rw [if_pos (by decide)];refine aA (H6 ap pl pu ?_)
 have mu:¬ ((((cp items.size 0 lo:Nat):Int)==0&&(1:Int)==1&&(cp items.size items.size av - cp items.size 0 lo)==items.size)=true):=by
  intro q;rw [fe,fe] at q;have aF:((cp items.size 0 lo:Nat):Int)=0:=eq_of_beq q.1.1;have bo:cp items.size items.size av - cp items.size 0 lo=items.size:=eq_of_beq q.2;exact hw ⟨by omega,by omega⟩
 show aU _ _ (if (((cp items.size 0 lo:Nat):Int)==0&&(1:Int)==1&&(cp items.size items.size av - cp items.size 0 lo)==items.size)=true then _ else _) _ _ s;rw [if_neg mu,QW]
 first
  | exact aA (m:=Builtin.Tuple.tupleExact _) (kf (br ⟨_,rfl,br h⟩) oo)
  | exact aA (m:=Builtin.Tuple.tupleExact _) (kf (aA (br (br ⟨_,rfl,br h⟩))) oo)
  | exact aA (aA (m:=Builtin.Tuple.tupleExact _) (kf (br (br ⟨_,rfl,br h⟩)) oo))
  | exact aA (aA (m:=Builtin.Tuple.tupleExact _) (kf (br ⟨_,rfl,br h⟩) oo))
end
end dq
namespace L2
open PySem PySem.Spec PyProof.Rows
abbrev d6:=St->aw->(Option Int->aw->Prop)->Prop
def pL(X:aW)(e:Option a8)(t:d6):Prop:=
 ∀(pins:List (Addr × Obj))(s:aE)(σ:St)(H:aw)(Q:Option Int->aw->Prop),Inv X pins σ H s->t σ H Q →
  aU (aY X.prog X.w) X.A (evalPart e X.env) (λ u aM=>∃ o aj,Inv X pins σ aj aM/\l9 u o/\Q o aj) X.xe s
def H7:d6:=λ _ H Q=>Q none H
def H8(t:TE):d6:=λ σ H Q=>t σ H λ x H1=>∃ i,x=.int i/\Q (some i) H1
section
variable{X:aW}{e:a8}{aZ:TE}{lo av:Option a8}{e6 lJ:d6}{pos dZ:Pos}
theorem QY:pL X none H7:=by
 intro pins s σ H Q I h;rw [xN];exact br ⟨none,H,I,.none,h⟩
theorem QZ(h:b_ X e aZ):pL X (some e) (H8 aZ):=by
 intro pins s σ H Q I hw;rw [evalPart_some];refine b0 (h pins s σ H _ I hw) λ u s1 ⟨x,H1,a4,aT,aF⟩=>?_;obtain ⟨i,rfl,q⟩:=aF;obtain ⟨t,rfl⟩:=aT;exact ⟨some i,H1,a4,.int i t,q⟩
def mv(X:aW)(r:V->Option Int->Option Int->aw->cE->Prop):Prop:=
 ∀(pins:List (Addr × Obj))(s:aE)(σ:St)(H:aw)(x:V)(v fR gn:Value)(lo av:Option Int)(bz:Addr)(Q:cE),Inv X pins σ H s->RelV x v->s.heap.IsSliceOf bz fR gn .none->l9 fR lo->l9 gn av->r x lo av H Q →
  ∃ T id,typeLookup (.type T) "__getitem__" = pure (some (.builtin id))/\s.TypeIs v T/\aU (aY X.prog X.w) X.A (nZ v (.ref bz)) (f_ X pins σ Q) X.xe s
theorem mv.or{r bp:V->Option Int->Option Int->aw->cE->Prop}(h:mv X r)(h':mv X bp):mv X (λ x lo av H Q=>r x lo av H Q\/bp x lo av H Q):=by
 intro pins s σ H x v fR gn lo av bz Q I a7 ap pl pu q;rcases q with q | q
 ·exact h pins s σ H x v fR gn lo av bz Q I a7 ap pl pu q
 ·exact h' pins s σ H x v fR gn lo av bz Q I a7 ap pl pu q
def H9(r:V->Option Int->Option Int->aw->cE->Prop)(aZ:TE)(e6 lJ:d6):TE:=λ σ H Q=>aZ σ H λ x H1=>e6 σ H1 λ l bg=>lJ σ bg λ u dI=>r x l u dI Q
theorem Q0{r:V->Option Int->Option Int->aw->cE->Prop}(ao:mv X r)(he:b_ X e aZ)(ar:pL X lo e6)(a_:pL X av lJ):b_ X (.Subscript e (.Slice lo av none dZ) pos) (H9 r aZ e6 lJ):=by
 intro pins s σ H Q I h;refine xT (b0 (he pins s σ H _ I h) λ v s1 ⟨x,H1,a4,aT,aF⟩=>?_);refine wpAny_Slice (b0 (ar pins s1 σ H1 _ a4 aF) λ fR s2 ⟨l,bg,dg,pl,bo⟩=>b0 (a_ pins s2 σ bg _ dg bo) λ gn s3 ⟨u,dI,eH,pu,dw⟩=>?_);rw [xN];refine br ?_;have ij:Inv X pins σ dI { s3 with heap:=s3.heap.push { cls:=.type "slice", data:=.fields #[fR,gn,.none] } }:=eH.kept (t':=s3.toks) λ b c_ q=>cP _ q;obtain ⟨T,id,cW,bh,a3⟩:=ao pins { s3 with heap:=s3.heap.push { cls:=.type "slice", data:=.fields #[fR,gn,.none] } } σ dI x v fR gn l u s3.heap.objs.size Q ij aT (Heap.IsSliceOf.new ..) pl pu dw;show aU (aY X.prog X.w) X.A (xS e (.Slice lo av none dZ) v (.ref s3.heap.objs.size)) (f_ X pins σ Q) X.xe { s3 with heap:=s3.heap.push { cls:=.type "slice", data:=.fields #[fR,gn,.none] } };exact tail_any (ops:=[.ref s3.heap.objs.size,v]) bh cW a3 (by with_unfolding_all rfl)
def lK(xs:List V)(lo av:Option Int):List V:=(xs.drop (dq.cp xs.length 0 lo)).take (dq.cp xs.length xs.length av - dq.cp xs.length 0 lo)
theorem H_(xs:List V)(lo av:Option Int):(lK xs lo av).length<=xs.length:=by
 unfold lK;rw [kk,hF];omega
def Q1(K:aX):V->Option Int->Option Int->aw->cE->Prop:=λ x lo av H Q=>∃ a xs,x=.ref a/\dH K H a xs ∧
 ¬ (dq.cp xs.length 0 lo=0/\dq.cp xs.length xs.length av=xs.length)/\∀ p,H p=none->Q (.ref p) (upd H p (.tup (lK xs lo av)))
theorem Q2:mv X (Q1 X.K):=by
 intro pins s σ H x v fR gn lo av bz Q I a7 ap pl pu h;obtain ⟨a,xs,rfl,ak,hw,q⟩:=h;cases a7;obtain ⟨az,r,bh,hz⟩:=I.tuple ak
 have hlen:az.toArray.size=xs.length:=by rw [cM];exact r.length.symm
 refine ⟨"tuple", _,sF.lookup,bh.typeIs,?_⟩;refine dq.QX bh ap pl pu (by rw [hlen];exact hw) ?_ (by rw [hlen];exact hz);rw [hlen];refine ⟨.ref s.heap.objs.size,_,I.laid (t':=s.toks) (o:=.tup (lK xs lo av)) (λ b c_ q=>cP _ q) (ZB _) ?_,rfl,q _ (I.bJ.fresh (ZB _))⟩;exact ⟨gF (H_ xs lo av) hz,_,(r.drop (dq.cp xs.length 0 lo)).take (dq.cp xs.length xs.length av - dq.cp xs.length 0 lo),IsTup.new _ _⟩
def Q3(K:aX):eX:=λ x y H Q=>∃ a b xs aD,x=.ref a/\y=.ref b/\dH K H a xs/\dH K H b aD/\xs≠[]/\xs.length+aD.length<=sizeLine ∧
 (aD=[]->Q (.ref a) H)/\(aD≠[]->∀ p,H p=none->Q (.ref p) (upd H p (.tup (xs++aD))))
theorem Vals.BO{xs:List V}{us:List Value}(r:Vals xs us):us=[] ↔ xs=[]:=by
 cases r with
 | nil=>simp
 | cons _ _=>simp
theorem Q4:dS X (hD .Add) (Q3 X.K):=by
 intro pins s σ H x y v u Q I a7 cF h;obtain ⟨a,b,xs,aD,rfl,rfl,ax,af,ak,hz,aF,bo⟩:=h;cases a7;cases cF;obtain ⟨az,aT,dP,_⟩:=I.tuple ax;obtain ⟨cq,a0,dZ,_⟩:=I.tuple af;refine dq.QS dP dZ (λ z=>ak (aT.BO.mp z)) (λ z=>⟨.ref a,H,I,rfl,aF (a0.BO.mp z)⟩) (λ z=>?_) (by rw [<- aT.length,<- a0.length];exact hz);refine ⟨.ref s.heap.objs.size,_,I.laid (t':=s.toks) (o:=.tup (xs++aD)) (λ b c_ q=>cP _ q) (ZB _) ?_,rfl,bo (λ w=>z (a0.BO.mpr w)) _ (I.bJ.fresh (ZB _))⟩;exact ⟨by rw [dE];exact hz,_,aT.append a0,IsTup.new _ _⟩
end
def kZ(n:Nat)(i:Int):Option Nat:=if 0<=i then (if i < n then some i.toNat else none) else if -(n:Int)<=i then some (i+n).toNat else none
def gJ{α:Type}(xs:List α)(i:Int):Option α:=(kZ xs.length i).bind λ j=>xs[j]?
theorem Ia{n:Nat}{i:Int}{j:Nat}(h:kZ n i=some j):seqIndex? i n=some j/\j < n/\-(n:Int)<=i/\i < n:=by
 unfold kZ at h;by_cases h0:0<=i
 ·rw [if_pos h0] at h;by_cases ae:i < n
  ·rw [if_pos ae] at h;have e:i.toNat=j:=hn.inj h;exact ⟨by rw [seqIndex_of h0 ae,e],by omega,by omega,ae⟩
  ·rw [if_neg ae] at h;cases h
 ·rw [if_neg h0] at h;by_cases ae:-(n:Int)<=i
  ·rw [if_pos ae] at h;have e:(i+n).toNat=j:=hn.inj h;exact ⟨by rw [seqIndex_neg (by omega) ae,e],by omega,ae,by omega⟩
  ·rw [if_neg ae] at h;cases h
theorem BP{α:Type}{xs:List α}{i:Int}{v:α}(h:gJ xs i=some v):∃ j,seqIndex? i xs.length=some j/\xs[j]?=some v/\j < xs.length/\-(xs.length:Int)<=i/\i < xs.length:=by
 unfold gJ at h
 cases e:kZ xs.length i with
 | none=>rw [e] at h;cases h
 | some j=>
  rw [e] at h;obtain ⟨ae,ag,aR,bB⟩:=Ia e;exact ⟨j,ae,h,ag,aR,bB⟩
theorem k4{α:Type}{xs:List α}{j:Nat}{v:α}(h:xs[j]?=some v):gJ xs (j:Int)=some v:=by
 have cD:j < xs.length:=(mb.mp h).1
 have e:kZ xs.length (j:Int)=some j:=by
  unfold kZ;rw [if_pos (by omega),if_pos (by omega)];simp
 unfold gJ;rw [e];exact h
def yT(b:a8):Prop:=∀ o i,subscripted b false o i=operate [o,i] (nZ o i)
def nC(X:aW)(r:eX):Prop:=
 ∀(value slice:a8)(pins:List (Addr × Obj))(s:aE)(σ:St)(H:aw)(x y:V)(v u:Value)(Q:cE),Inv X pins σ H s->RelV x v->RelV y u->r x y H Q →
  subscripted slice false v u=operate [v,u] (nZ v u)->aU (aY X.prog X.w) X.A (xS value slice v u) (f_ X pins σ Q) X.xe s
def oq(X:aW)(id:String)(r:V->List V->aw->cE->Prop):Prop:=
 ∀(pins:List (Addr × Obj))(s:aE)(σ:St)(H:aw)(x:V)(xs:List V)(v:Value)(us:List Value)(Q:cE),Inv X pins σ H s->RelV x v->Vals xs us->r x xs H Q →
  aU (aY X.prog X.w) X.A (call (.builtin id) (v::us)) (f_ X pins σ Q) X.xe s
section
variable{X:aW}{a b:a8}{bb bF:TE}{pos:Pos}
theorem nC.or{r bp:eX}(h:nC X r)(h':nC X bp):nC X (λ x y H Q=>r x y H Q\/bp x y H Q):=by
 intro value slice pins s σ H x y v u Q I a7 cF q ap;rcases q with q | q
 ·exact h value slice pins s σ H x y v u Q I a7 cF q ap
 ·exact h' value slice pins s σ H x y v u Q I a7 cF q ap
theorem oq.or{id:String}{r bp:V->List V->aw->cE->Prop}(h:oq X id r)(h':oq X id bp):oq X id (λ x xs H Q=>r x xs H Q\/bp x xs H Q):=by
 intro pins s σ H x xs v us Q I a7 rs q;rcases q with q | q
 ·exact h pins s σ H x xs v us Q I a7 rs q
 ·exact h' pins s σ H x xs v us Q I a7 rs q
theorem Q5{r:eX}(ao:nC X r)(ax:b_ X a bb)(af:b_ X b bF)(ap:yT b):b_ X (.Subscript a b pos) (pK r bb bF):=by
 intro pins s σ H Q I h;exact xT (BE ax af I h λ v u s2 x y bg dg a7 cF q=>ao a b pins s2 σ bg x y v u Q dg a7 cF q (ap _ _))
def Ib(K:aX):eX:=λ x y H Q=>∃ p xs i v,x=.ref p/\y=.int i/\eu K H p xs/\gJ xs i=some v/\Q v H
def Ic(K:aX):eX:=λ x y H Q=>∃ p xs i v,x=.ref p/\y=.int i/\dH K H p xs/\gJ xs i=some v/\Q v H
def Id:eX:=λ x y H Q=>∃ z i c,x=.str z/\y=.int i/\z.length<=sizeLine/\gJ z.cps.toList i=some c/\Q (.str ⟨#[c]⟩) H
theorem Q6:nC X (Ib X.K):=by
 intro value slice pins s σ H x y v u Q I a7 cF h ap;obtain ⟨p,xs,i,z,rfl,rfl,bc,he,q⟩:=h;cases a7;obtain ⟨t,rfl⟩:=cF;obtain ⟨az,r,pl,hz⟩:=I.list bc;obtain ⟨j,ae,ag,aR,bB,el⟩:=BP he;obtain ⟨w,ot,BQ⟩:=r.get ag;have ar:=r.length;have aH:=om
 have fin:f_ X pins σ Q w s:=⟨z,H,I,BQ,q⟩
 by_cases h0:0<=i
 ·have cD:i.toNat=j:=by
   rw [seqIndex_of h0 el] at ae;exact hn.inj ae
  exact item_listR pl.isList h0 (by omega) (by rw [cD];simpa using ot) fin ap
 ·have cD:(i+(az.toArray.size:Int)).toNat=j:=by
   rw [seqIndex_neg (by omega) bB] at ae;rw [cM,<- ar];exact hn.inj ae
  exact G8 (x:=w) pl.isList.typeIs slot_list_getitem.lookup
   (wpAny_getItem_list_neg (Q:=λ r aM=>r=w/\f_ X pins σ Q r aM) pl.isList (by omega) (by rw [cM]<;>omega) (by omega) (by rw [cD];simpa using ot) ⟨rfl,fin⟩) ap
theorem Q7:nC X (Ic X.K):=by
 intro value slice pins s σ H x y v u Q I a7 cF h ap;obtain ⟨p,xs,i,z,rfl,rfl,bc,he,q⟩:=h;cases a7;obtain ⟨t,rfl⟩:=cF;obtain ⟨az,r,pl,hz⟩:=I.tuple bc;obtain ⟨j,ae,ag,aR,bB,el⟩:=BP he;obtain ⟨w,ot,BQ⟩:=r.get ag;have ar:=r.length;have aH:=om
 have fin:f_ X pins σ Q w s:=⟨z,H,I,BQ,q⟩
 exact G8 (x:=w) pl.typeIs slot_tuple_getitem.lookup
  (getItem_tuple (j:=j) (Q:=λ r aM=>r=w/\f_ X pins σ Q r aM) pl (by omega) (by omega) (by rw [cM,<- ar];exact ae) (by simpa using ot) ⟨rfl,fin⟩) ap
theorem Q8:nC X Id:=by
 intro value slice pins s σ H x y v u Q I a7 cF h ap;obtain ⟨z,i,c,rfl,rfl,hz,he,q⟩:=h;obtain ⟨t,rfl⟩:=a7;obtain ⟨t',rfl⟩:=cF;obtain ⟨j,ae,ag,aR,bB,el⟩:=BP he
 have ar:z.cps.toList.length=z.length:=by simp [Str.length]
 rw [ar] at ae bB el;have aH:=om
 exact tail_any (xP s z t) slot_str_getitem.lookup (getItem_str (c:=c) (by
  have aC:decide (i < -(2 ^ 63:Int))=false:=decide_eq_false (by omega);have aG:decide (i ≥ 2 ^ 63)=false:=decide_eq_false (by omega)
  rw [aC,aG,Bool.or_false]) (by rw [ae];simpa using ag) ⟨.str ⟨#[c]⟩,H,I.tok _,⟨_,rfl⟩,q⟩) ap
def Q9(K:aX):eX:=λ x y H Q=>Ib K x y H Q\/Ic K x y H Q\/Id x y H Q
theorem Ie:nC X (Q9 X.K):=Q6.or (Q7.or Q8)
theorem Q_(az:List Value)(n j:Nat)(u:Value):Obj.mapSeq (·.setIfInBounds j u) { cls:=.type "list", data:=.seq az.toArray n }={ cls:=.type "list", data:=.seq (az.set j u).toArray n }:=by
 simp [Obj.mapSeq]
theorem Inv.lst{pins:List (Addr × Obj)}{σ:St}{H:aw}{s:aE}{p:Addr}{xs:List V}(I:Inv X pins σ H s)(h:H p=some (.lst xs)) :
 ∃(az:List Value)(n:Nat),Vals xs az/\s.heap.get? p=some { cls:=.type "list", data:=.seq az.toArray n }/\xs.length<=sizeLine:=by
 obtain ⟨z,az,n,r,e⟩:=I.bJ p _ h;exact ⟨az,n,r,e,z⟩
theorem Inv.Ra{pins:List (Addr × Obj)}{σ:St}{H:aw}{s:aE}{p:Addr}{xs aD:List V}{az its':List Value}{n qQ:Nat}{f:Obj->Obj}(I:Inv X pins σ H s)(h:H p=some (.lst xs))
 (aS:s.heap.get? p=some { cls:=.type "list", data:=.seq az.toArray n }) (hf:f { cls:=.type "list", data:=.seq az.toArray n }={ cls:=.type "list", data:=.seq its'.toArray qQ }) (r:Vals aD its') (hz:aD.length<=sizeLine) (t:Nat) :
 Inv X pins σ (upd H p (.lst aD)) { s with heap:=s.heap.update p f,toks:=t }:=by
 have e:(s.heap.update p f).get? p=some { cls:=.type "list", data:=.seq its'.toArray qQ }:=by
  rw [n7 f aS (by rw [hf]<;>rfl),hf]
 refine I.write (x:=p) (e:=p) (by rw [h];trivial) (.inl rfl) (λ b u af q=>(u1 _ _ (Ne.symm af)).trans q) ⟨_,e⟩ ?_;exact ⟨hz,its',qQ,r,e⟩
def Rb:V->V->V->aw->(aw->Prop)->Prop:=λ o i v H Q=>∃ p xs k j,o=.ref p/\i=.int k/\H p=some (.lst xs)/\kZ xs.length k=some j/\Q (upd H p (.lst (xs.set j v)))
theorem Rc:BC X Rb:=by
 intro pins s σ H o i v gb i6 u Q I ik k6 a6 h;obtain ⟨p,xs,k,j,rfl,rfl,ah,cD,q⟩:=h;cases ik;obtain ⟨t,rfl⟩:=k6;obtain ⟨az,n,r,aS,hz⟩:=I.lst ah;obtain ⟨ae,ag,aR,bB⟩:=Ia cD;have ar:=r.length;have aH:=om
 have lG:Inv X pins σ (upd H p (.lst (xs.set j v))) { s with heap:=s.heap.update p (Obj.mapSeq (·.setIfInBounds j u)) }:=
  I.Ra ah aS (Q_ az n j u) (r.set a6 j) (by rw [List.length_set];exact hz) s.toks
 by_cases h0:0<=k
 ·have aN:k.toNat=j:=by
   rw [seqIndex_of h0 bB] at ae;exact hn.inj ae
  exact PySem.W.ki_setAt aS h0 (by omega) (by rw [cM,<- ar];exact bB) (by rw [aN];exact ⟨_,lG,q⟩)
 ·have aN:(k+(az.toArray.size:Int)).toNat=j:=by
   rw [seqIndex_neg (by omega) aR] at ae;rw [cM,<- ar];exact hn.inj ae
  exact PySem.W.ki_setBack aS (by omega) (by rw [cM,<- ar];exact aR) (by omega) (by rw [aN];exact ⟨_,lG,q⟩)
theorem Rd(lo av:Option Int)(n:Nat):(pi lo av none n).1=((dq.cp n 0 lo:Nat):Int)/\(pi lo av none n).2.1=((dq.cp n n av:Nat):Int)/\(pi lo av none n).2.2=1:=by
 refine ⟨?_,?_,rfl⟩
 ·cases lo with
  | none=>simp [pi,dq.cp]
  | some i=>
   simp only [pi,dq.cp,Option.getD_none,show (1:Int) > 0 by decide,if_true];by_cases h:i < 0
   ·simp only [h,if_true]<;>omega
   ·simp only [h,if_false]<;>omega
 ·cases av with
  | none=>simp [pi,dq.cp]
  | some i=>
   simp only [pi,dq.cp,Option.getD_none,show (1:Int) > 0 by decide,if_true];by_cases h:i < 0
   ·simp only [h,if_true]<;>omega
   ·simp only [h,if_false]<;>omega
theorem Re(az:List Value)(lo av:Option Int):xQ az.toArray lo av none=((az.drop (dq.cp az.length 0 lo)).take (dq.cp az.length az.length av - dq.cp az.length 0 lo)).toArray:=by
 obtain ⟨ae,ag,aR⟩:=Rd lo av az.toArray.size;unfold xQ;rw [ae,ag,aR];simp only [sliceRange_one,pick_run,cM]<;>rfl
def Rf(K:aX):V->Option Int->Option Int->aw->cE->Prop:=λ x lo av H Q=>∃ a xs,x=.ref a/\eu K H a xs/\∀ p,H p=none->Q (.ref p) (upd H p (.lst (lK xs lo av)))
theorem Rg:mv X (Rf X.K):=by
 intro pins s σ H x v fR gn lo av bz Q I a7 ap pl pu h;obtain ⟨a,xs,rfl,ak,q⟩:=h;cases a7;obtain ⟨az,r,bh,hz⟩:=I.list ak;have hlen:=r.length;refine ⟨"list", _,slot_list_getitem.lookup,bh.isList.typeIs,?_⟩;refine G3 bh.isList ap pl pu .none (by simp) ?_ (by rw [cM]<;>omega);rw [Re,<- hlen];refine ⟨.ref s.heap.objs.size,_,I.laid (t':=s.toks) (o:=.lst (lK xs lo av)) (λ b c_ q=>cP _ q) (ZB _) ?_,rfl,q _ (I.bJ.fresh (ZB _))⟩;exact ⟨gF (H_ xs lo av) hz,_,0,(r.drop (dq.cp xs.length 0 lo)).take (dq.cp xs.length xs.length av - dq.cp xs.length 0 lo),f7 _ rfl⟩
def nD:V->Bool
 | .a9=>true
 | .aI _=>true
 | .int _=>true
 | .str _=>true
 | _=>false
def ou:V->V->Bool
 | .a9,.a9=>true
 | .aI a,.aI b=>a==b
 | .aI a,.int b=>(if a then 1 else 0)==b
 | .int a,.aI b=>a==(if b then 1 else 0)
 | .int a,.int b=>a==b
 | .str a,.str b=>a==b
 | _,_=>false
theorem Rh{A:cz}{s:aE}{y x:V}{u v:Value}(cF:RelV y u)(a7:RelV x v)(Ri:nD y=true)(g_:nD x=true):SeqAt.EqAt A s u v (ou y x):=by
 cases y with
 | a9=>
  cases cF
  cases x with
  | a9=>cases a7;exact SeqAt.EqAt.same _
  | aI b=>cases a7;exact SeqAt.EqAt.none_bool b
  | int b=>obtain ⟨t,rfl⟩:=a7;exact SeqAt.EqAt.none_int b t
  | str b=>obtain ⟨t,rfl⟩:=a7;exact SeqAt.EqAt.none_str b t
  | _=>exact absurd (show false=true from g_) kS
 | aI a=>
  cases cF
  cases x with
  | a9=>cases a7;exact SeqAt.EqAt.bool_none a
  | aI b=>cases a7;exact SeqAt.EqAt.bool_bool a b
  | int b=>obtain ⟨t,rfl⟩:=a7;exact SeqAt.EqAt.bool_int a b t
  | str b=>obtain ⟨t,rfl⟩:=a7;exact SeqAt.EqAt.bool_str a b t
  | _=>exact absurd (show false=true from g_) kS
 | int a=>
  obtain ⟨t',rfl⟩:=cF
  cases x with
  | a9=>cases a7;exact SeqAt.EqAt.int_none a t'
  | aI b=>cases a7;exact SeqAt.EqAt.int_bool a t' b
  | int b=>obtain ⟨t,rfl⟩:=a7;exact SeqAt.EqAt.int_int a t' b t
  | str b=>obtain ⟨t,rfl⟩:=a7;exact SeqAt.EqAt.int_str a t' b t
  | _=>exact absurd (show false=true from g_) kS
 | str a=>
  obtain ⟨t',rfl⟩:=cF
  cases x with
  | a9=>cases a7;exact SeqAt.EqAt.str_none a t'
  | aI b=>cases a7;exact SeqAt.EqAt.str_bool a t' b
  | int b=>obtain ⟨t,rfl⟩:=a7;exact SeqAt.EqAt.str_int a t' b t
  | str b=>obtain ⟨t,rfl⟩:=a7;exact SeqAt.EqAt.str_str a t' b t
  | _=>exact absurd (show false=true from g_) kS
 | _=>exact absurd (show false=true from Ri) kS
def jX(x:V)(u:Value):Bool:=match u with
 | .none=>ou .a9 x
 | .bool b=>ou (.aI b) x
 | .int i _=>ou (.int i) x
 | .str z _=>ou (.str z) x
 | _=>false
theorem Ig{x y:V}{u:Value}(r:RelV y u)(f:nD y=true):jX x u=ou y x:=by
 cases y with
 | a9=>cases r;rfl
 | aI b=>cases r;rfl
 | int i=>obtain ⟨t,rfl⟩:=r;rfl
 | str z=>obtain ⟨t,rfl⟩:=r;rfl
 | _=>exact absurd (show false=true from f) kS
theorem vu{x:V}:∀{xs:List V}{us:List Value},Vals xs us->xs.all nD=true->us.any (jX x)=xs.any λ y=>ou y x
 | _,_,.nil,_=>rfl
 | y::xs,u::us,.cons r t,f=>by
  rw [m_,fe] at f;rw [sk,sk,Ig r f.1,vu t f.2]
theorem vv{A:cz}{s:aE}{x:V}{v:Value}(a7:RelV x v)(g_:nD x=true):∀{xs:List V}{us:List Value},Vals xs us->xs.all nD=true->∀ u∈us,SeqAt.EqAt A s u v (jX x u)
 | _,_,.nil,_=>λ u a_=>by cases a_
 | y::xs,u::us,.cons r t,f=>λ kq a_=>by
  rw [m_,fe] at f;rcases cC.mp a_ with rfl | a_
  ·rw [Ig r f.1];exact Rh r a7 f.1 g_
  ·exact vv a7 g_ t f.2 kq a_
def yU(x:V)(xs:List V):Bool:=xs.any λ y=>ou y x
def Ih(K:aX)(neg:Bool):eX:=λ x y H Q=>∃ p xs,y=.ref p/\(eu K H p xs\/dH K H p xs)/\nD x=true/\xs.all nD=true/\Q (.aI (if neg then !yU x xs else yU x xs)) H
theorem Rj:dS X (d3 .In) (Ih X.K false):=by
 intro pins s σ H x y v u Q I a7 cF h;obtain ⟨p,xs,rfl,bc,g_,aK,q⟩:=h;cases cF;rcases bc with bc | bc
 ·obtain ⟨az,r,pl,hz⟩:=I.list bc;refine SeqAt.in_listAt (jX x) pl.isList (λ w hw=>vv a7 g_ r aK w (by simpa using hw)) ⟨.aI _,H,I,rfl,?_⟩;rw [show az.toArray.any (jX x)=az.any (jX x) by simp,vu r aK];exact q
 ·obtain ⟨az,r,pl,hz⟩:=I.tuple bc;refine SeqAt.in_tupleAt (jX x) pl (λ w hw=>vv a7 g_ r aK w (by simpa using hw)) ⟨.aI _,H,I,rfl,?_⟩;rw [show az.toArray.any (jX x)=az.any (jX x) by simp,vu r aK];exact q
theorem Rk:dS X (d3 .NotIn) (Ih X.K true):=by
 intro pins s σ H x y v u Q I a7 cF h;obtain ⟨p,xs,rfl,bc,g_,aK,q⟩:=h;cases cF;rcases bc with bc | bc
 ·obtain ⟨az,r,pl,hz⟩:=I.list bc;refine SeqAt.notIn_listAt (jX x) pl.isList (λ w hw=>vv a7 g_ r aK w (by simpa using hw)) ⟨.aI _,H,I,rfl,?_⟩;rw [show az.toArray.any (jX x)=az.any (jX x) by simp,vu r aK];exact q
 ·obtain ⟨az,r,pl,hz⟩:=I.tuple bc;refine SeqAt.notIn_tupleAt (jX x) pl (λ w hw=>vv a7 g_ r aK w (by simpa using hw)) ⟨.aI _,H,I,rfl,?_⟩;rw [show az.toArray.any (jX x)=az.any (jX x) by simp,vu r aK];exact q
theorem Rl:dS X (d3 .NotIn) (λ x y H Q=>∃ i j,x=.str i/\y=.str j/\Q (.aI (!(!(Builtin.Str.occurrences j i 0 j.length 1).isEmpty))) H):=by
 intro pins s σ H x y v u Q I a7 cF h;obtain ⟨i,j,rfl,rfl,q⟩:=h;obtain ⟨t,rfl⟩:=a7;obtain ⟨t',rfl⟩:=cF;exact notIn_str ⟨.aI _,H,I,rfl,q⟩
theorem Rm:h3 X (.builtin "len") (λ xs H Q=>∃ p aD,xs=[.ref p]/\(eu X.K H p aD\/dH X.K H p aD)/\Q (.int aD.length) H):=by
 intro pins s σ H xs us Q I r h;obtain ⟨p,aD,rfl,bc,q⟩:=h;obtain ⟨u,rfl,a7⟩:=on r;cases a7;have aH:=om;rcases bc with bc | bc
 ·obtain ⟨az,bp,pl,hz⟩:=I.list bc;have hlen:=bp.length;exact Calls.call_len_list pl.isList (by simp only [cM]<;>omega) ⟨.int aD.length,H,I.tok _,⟨s.toks+1,by rw [cM,hlen]⟩,q⟩
 ·obtain ⟨az,bp,pl,hz⟩:=I.tuple bc;have hlen:=bp.length;exact len_tuple pl (by simp only [cM]<;>omega) ⟨.int aD.length,H,I.tok _,⟨s.toks+1,by rw [cM,hlen]⟩,q⟩
theorem Rn:h3 X (.builtin "len") (λ xs H Q=>∃ z,xs=[.str z]/\z.length<=sizeLine/\Q (.int z.length) H):=by
 intro pins s σ H xs us Q I r h;obtain ⟨z,rfl,hz,q⟩:=h;obtain ⟨u,rfl,t,rfl⟩:=on r;have aH:=om;exact len_str (by omega) ⟨.int z.length,H,I.tok _,⟨_,rfl⟩,q⟩
theorem h3.or{f:Value}{r bp:List V->aw->cE->Prop}(h:h3 X f r)(h':h3 X f bp):h3 X f (λ xs H Q=>r xs H Q\/bp xs H Q):=by
 intro pins s σ H xs us Q I rs q;rcases q with q | q
 ·exact h pins s σ H xs us Q I rs q
 ·exact h' pins s σ H xs us Q I rs q
theorem Ro:h3 X (.type "tuple") (λ xs H Q=>∃ p aD,xs=[.ref p]/\((eu X.K H p aD/\∀ l,H l=none->Q (.ref l) (upd H l (.tup aD)))\/(dH X.K H p aD/\Q (.ref p) H))):=by
 intro pins s σ H xs us Q I r h;obtain ⟨p,aD,rfl,h⟩:=h;obtain ⟨u,rfl,a7⟩:=on r;cases a7;rcases h with ⟨bc,q⟩ | ⟨bc,q⟩
 ·obtain ⟨az,bp,pl,hz⟩:=I.list bc;have hlen:=bp.length;refine call_tuple_list pl.isList (λ h' dr=>?_) (by simp only [cM]<;>omega);have a4:Inv X pins σ H { s with heap:=h' }:=I.kept (t':=s.toks) dr
  have dg:Inv X pins σ (upd H h'.objs.size (.tup aD)) { s with heap:=h'.push { cls:=.type "tuple", data:=.seq az.toArray } }:=
   a4.laid (t':=s.toks) (λ b o e=>cP _ e) (ZB _) (show f9 X.prog X.w _ _ _ (.tup aD) from ⟨hz,az,bp,IsTup.new _ _⟩)
  exact ⟨.ref h'.objs.size,_,dg,rfl,q _ (a4.bJ.fresh (ZB _))⟩
 ·obtain ⟨az,bp,pl,hz⟩:=I.tuple bc;exact call_tuple_same pl ⟨.ref p,H,I,rfl,q⟩
def sX(K:aX)(T:String)(x:V)(H:aw):Prop:=match x with
 | .str _=>T = "str"
 | .int _=>T = "int"
 | .ref p=>(T = "list"/\∃ xs,eu K H p xs)\/(T = "tuple"/\∃ o,K.lookup p=some o/\o.cls=.type "tuple"/\o.dict=none) ∨
  (T = "dict"/\((∃ dn,H p=some (.i3 dn))\/∃ dn,H p=some (.iH dn)))\/(T = "set"/\∃ S n,H p=some (.set S n))
 | _=>False
theorem BR{pins:List (Addr × Obj)}{σ:St}{H:aw}{s:aE}{T:String}{x:V}{v:Value}(I:Inv X pins σ H s)(r:RelV x v)(ty:sX X.K T x H) :
 s.TypeIs v T/\∀ a,v=.ref a->∃ c_,s.heap.get? a=some c_/\c_.dict=none:=by
 cases x with
 | str z=>
  obtain ⟨t,rfl⟩:=r;cases (show T = "str" from ty);exact ⟨xP s z t,λ _ e=>nomatch e⟩
 | int i=>
  obtain ⟨t,rfl⟩:=r;cases (show T = "int" from ty);exact ⟨typeIs_int s i t,λ _ e=>nomatch e⟩
 | ref p=>
  cases r;rcases ty with ⟨rfl,xs,bc⟩ | ⟨rfl,o,aN,ai,hd⟩ | ⟨rfl,aN⟩ | ⟨rfl,S,n,aN⟩
  ·obtain ⟨az,_,pl,_⟩:=I.list bc;refine ⟨pl.isList.typeIs,λ a e=>?_⟩;cases e;obtain ⟨o,n,e,c,hd,_⟩:=pl;exact ⟨o,e,hd⟩
  ·refine ⟨⟨o,I.ff p o aN,ai⟩,λ a e=>?_⟩;cases e;exact ⟨o,I.ff _ o aN,hd⟩
  ·have z:∃ o,s.heap.get? p=some o/\o.ExactDict:=by
    rcases aN with ⟨dn,aN⟩ | ⟨dn,aN⟩
    ·obtain ⟨_,_,_,_,o,_,_,e,ex,_⟩:=I.bJ p _ aN;exact ⟨o,e,ex⟩
    ·obtain ⟨_,_,_,_,o,_,_,e,ex,_⟩:=I.bJ p _ aN;exact ⟨o,e,ex⟩
   obtain ⟨o,e,ex⟩:=z;refine ⟨⟨o,e,ex.1⟩,λ a aG=>?_⟩;cases aG;exact ⟨o,e,ex.2.1⟩
  ·obtain ⟨o,_,_,_,e,ex,_⟩:=I.bJ p _ aN;refine ⟨⟨o,e,ex.1⟩,λ a aG=>?_⟩;cases aG;exact ⟨o,e,ex.2.1⟩
 | _=>exact False.elim ty
def Ii(K:aX)(T:String)(r:V->List V->aw->cE->Prop)(to:TE):TE:=λ σ H Q=>to σ H λ x H1=>sX K T x H1/\r x [] H1 Q
def Ij(K:aX)(T:String)(r:V->List V->aw->cE->Prop)(to:TE)(t:fk):TE:=λ σ H Q=>to σ H λ x H1=>sX K T x H1/\t σ H1 λ xs bg=>r x xs bg Q
variable{o e:a8}{es:List a8}{to:TE}{t:fk}{name:Str}{apos dk:Pos}{T id:String}{r:V->List V->aw->cE->Prop}
theorem Rp(ju:qw T)(slot:Slot T name id)(gK:n0 (.builtin id)=pure (.type "method_descriptor"))(hm:oq X id r)(aS:b_ X o to)
 (i_:l8 o name X.env (eval o X.env)=eval o X.env:=by rfl) (ja:(apos.endLine==dk.line)=true:=by rfl):b_ X (.Call (.Attribute o name apos) [] [] dk) (Ii X.K T r to):=by
 intro pins s σ H Q I h;refine wpAny_Call_method0_late i_ ja (b0 (aS pins s σ H _ I h) λ v s1 ⟨x,H1,a4,aT,ty,aF⟩=>?_);obtain ⟨ae,ag⟩:=BR a4 aT ty;exact ⟨T,id,ju,slot,gK,ae,ag,Calls.callWith_builtin rfl (PySem.evalArgs_none (hm pins s1 σ H1 x [] v [] Q a4 aT .nil aF))⟩
theorem Rq(ju:qw T)(slot:Slot T name id)(gK:n0 (.builtin id)=pure (.type "method_descriptor"))(hm:oq X id r)(aS:b_ X o to)(ax:ii X (e::es) t)
 (i_:l8 o name X.env (eval o X.env)=eval o X.env:=by rfl)
 (Rr:((hO dk (dB (e::es) X.env)).all (λ x=>!x.1)&&(backToKw dk (keywordEach [] X.env)).all (λ x=>x.1.isSome)
  &&decide ((e::es).length+([]:List Keyword).length+(if ([]:List Keyword).isEmpty then 0 else 1) < 30))=true:=by rfl)
 (ja:(apos.endLine==dk.line)=true:=by rfl) (ap:dB (e::es) X.env=(false,eval e X.env)::dB es X.env:=by rfl) (Rs:(hO dk (dB es X.env)).any (·.1)=false:=by rfl) :
 b_ X (.Call (.Attribute o name apos) (e::es) [] dk) (Ij X.K T r to t):=by
 intro pins s σ H Q I h;refine G5 i_ Rr ja rfl (b0 (aS pins s σ H _ I h) λ v s1 ⟨x,H1,a4,aT,ty,aF⟩=>?_);obtain ⟨ae,ag⟩:=BR a4 aT ty;refine ⟨T,id,ju,slot,gK,ae,ag,?_⟩;have ov:=ax dk pins s1 σ H1 _ a4 aF;rw [ap] at ov ⊢;refine Calls.callWith_builtin (by show (false||(hO dk (dB es X.env)).any (·.1))=false;rw [Rs]<;>rfl) (Calls.evalArgs_plain ?_);exact b0 ov λ us s2 ⟨vs,bg,dg,a0,bo⟩=>hm pins s2 σ bg x vs v us Q dg aT a0 bo
end
def yV(X:aW)(id:String)(r:V->List V->aw->cE->Prop):Prop:=
 ∀(pins:List (Addr × Obj))(s:aE)(σ:St)(H:aw)(x:V)(xs:List V)(v:Value)(us:List Value)(Q:cE),Inv X pins σ H s->RelV x v->Vals xs us->r x xs H Q →
  aU (aY X.prog X.w) X.A (call (.builtin id) (v::us)) (f_ X pins σ Q) X.xe s
theorem Vals.one:∀{x:V}{us:List Value},Vals [x] us->∃ u,us=[u]/\RelV x u
 | _,_,.cons r .nil=>⟨_,rfl,r⟩
theorem Vals.two:∀{x y:V}{us:List Value},Vals [x,y] us->∃ u v,us=[u,v]/\RelV x u/\RelV y v
 | _,_,_,.cons r (.cons q .nil)=>⟨_,_,rfl,r,q⟩
theorem Vals.zero:∀{us:List Value},Vals [] us->us=[]
 | _,.nil=>rfl
theorem Vals.dropLast{xs:List V}{us:List Value}(h:Vals xs us):Vals xs.dropLast us.dropLast:=by
 induction h with
 | nil=>exact .nil
 | cons r t aO=>
  cases t with
  | nil=>exact .nil
  | cons q t'=>exact .cons r aO
theorem Rt{α:Type}(l:List α):l.eraseIdx (l.length - 1)=l.dropLast:=by
 induction l with
 | nil=>rfl
 | cons a r aO=>
  cases r with
  | nil=>rfl
  | cons b r=>
   have e:(a::b::r).length - 1=((b::r).length - 1)+1:=by
    have ae:(a::b::r).length=r.length+2:=rfl;have ag:(b::r).length=r.length+1:=rfl;omega
   rw [e,List.eraseIdx_cons_succ,aO]
   all_goals rfl
section
variable{X:aW}{pins:List (Addr × Obj)}{σ:St}{H:aw}{s:aE}{l b:Addr}{xs aD zs:List V}
theorem Inv.yW{az its':List Value}{n:Nat}{f:Array Value->Array Value}{t':Nat}(I:Inv X pins σ H s)(ha:H l=some (.lst xs))
 (e:s.heap.get? l=some { cls:=.type "list", data:=.seq az.toArray n }) (hf:f az.toArray=its'.toArray) (bO:Vals aD its') (hz:aD.length<=sizeLine) :
 Inv X pins σ (upd H l (.lst aD)) { s with heap:=s.heap.update l (Obj.mapSeq f),toks:=t' }:=by
 have q:=PySem.IsL.update e f;rw [hf] at q;refine I.write (x:=l) (e:=l) (by rw [ha];exact trivial) (.inl rfl) (λ gp u af a_=>(u1 s.heap (Obj.mapSeq f) (Ne.symm af)).trans a_) ⟨_,q⟩ ?_;exact ⟨hz,its',_,bO,q⟩
theorem Inv.Ru{az:List Value}{t':Nat}(I:Inv X pins σ H s)(bO:Vals aD az)(hz:aD.length<=sizeLine) :
 Inv X pins σ (upd H s.heap.objs.size (.lst aD)) { s with heap:=s.heap.push { cls:=.type "list", data:=.seq az.toArray },toks:=t' }:=
 I.laid (λ _ _ q=>cP _ q) (ZB _) ⟨hz,az,0,bO,f7 _ rfl⟩
theorem Inv.fresh(I:Inv X pins σ H s):H s.heap.objs.size=none:=I.bJ.fresh (ZB _)
theorem Inv.qZ(I:Inv X pins σ H s)(ha:H l=some (.lst xs)):xs.length<=sizeLine/\∃(az:List Value)(n:Nat),Vals xs az/\xs.length=az.length/\s.heap.get? l=some { cls:=.type "list", data:=.seq az.toArray n }:=by
 obtain ⟨z,az,n,r,e⟩:=I.bJ l _ ha;exact ⟨z,az,n,r,r.length,e⟩
theorem Ik{n:Nat}(h:n<=sizeLine):Builtin.List.listTooLong n=false:=by
 unfold Builtin.List.listTooLong;exact decide_eq_false (by omega)
end
section
variable{X:aW}
def Rv:V->List V->aw->cE->Prop:=λ x vs H Q=>∃ l xs y,x=.ref l/\vs=[y]/\H l=some (.lst xs)/\xs.length < sizeLine/\Q .a9 (upd H l (.lst (xs++[y])))
theorem BS:yV X "list.append" Rv:=by
 intro pins s σ H x vs v us Q I a7 a6 h;obtain ⟨l,xs,y,rfl,rfl,ha,hz,q⟩:=h;cases a7;obtain ⟨u,rfl,c5⟩:=a6.one;obtain ⟨z,az,n,r,ar,e⟩:=I.qZ ha;refine qx F.slot_list_append ⟨_,e,rfl⟩ F.entry_list_append (F.args_list_append_2 _ _) (PySem.list_append l az.toArray n u (by rw [cM];omega)) ⟨e,?_⟩;refine ⟨.a9,_,I.yW (its':=az++[u]) ha e (by simp) (r.append (.cons c5 .nil)) ?_,rfl,q⟩;rw [dE,sl];omega
def Rw:V->List V->aw->cE->Prop:=λ x vs H Q=>∃ l b xs zs,x=.ref l/\vs=[.ref b]/\H l=some (.lst xs)/\H b=some (.lst zs)/\xs.length+zs.length<=sizeLine/\Q .a9 (upd H l (.lst (xs++zs)))
theorem Rx:yV X "list.extend" Rw:=by
 intro pins s σ H x vs v us Q I a7 a6 h;obtain ⟨l,b,xs,zs,rfl,rfl,ha,pM,hz,q⟩:=h;cases a7;obtain ⟨u,rfl,c5⟩:=a6.one;cases c5;obtain ⟨z,az,n,r,ar,e⟩:=I.qZ ha;obtain ⟨b9,cq,ck,a0,hb,aG⟩:=I.qZ pM
 have hsz:az.toArray.size+cq.toArray.size<=sizeLine:=by rw [cM,cM];omega
 have BT:¬ (!az.toArray.isEmpty&&Builtin.List.listTooLong (az.toArray.size+cq.toArray.size))=true:=by
  rw [Ik hsz,sC];exact kS
 refine qx F.slot_list_extend ⟨_,e,rfl⟩ F.entry_list_extend (F.args_list_extend_2 _ _)
  (AutoSeq1.list_extend_list_list_0 l az.toArray n b cq.toArray ck BT (by rw [cM];omega) (by omega)) ⟨e,aG,?_⟩
 refine ⟨.a9,_,I.yW (its':=az++cq) ha e (by simp) (r.append a0) ?_,rfl,q⟩;rw [dE];omega
def Ry:V->List V->aw->cE->Prop:=λ x vs H Q=>∃ l xs y,x=.ref l/\vs=[]/\H l=some (.lst xs)/\xs[xs.length - 1]?=some y/\Q y (upd H l (.lst xs.dropLast))
theorem Rz:yV X "list.pop" Ry:=by
 intro pins s σ H x vs v us Q I a7 a6 h;obtain ⟨l,xs,y,rfl,rfl,ha,bv,q⟩:=h;cases a7;have RA:=a6.zero;subst RA;obtain ⟨z,az,n,r,ar,e⟩:=I.qZ ha;obtain ⟨u,a_,c5⟩:=r.get bv
 have RB:az.toArray[az.toArray.size - 1]?=some u:=by
  show az.toArray[az.length - 1]?=some u;rw [<- Array.getElem?_toList,<- ar];exact a_
 refine qx F.slot_list_pop ⟨_,e,rfl⟩ F.entry_list_pop (F.args_list_pop_1 _) (MeetsSeq.list_pop_last l az.toArray n u RB (by rw [cM];omega)) ⟨e,?_⟩;refine ⟨y,_,I.yW (its':=az.dropLast) ha e ?_ r.dropLast ?_,c5,q⟩
 ·show az.toArray.eraseIdxIfInBounds (az.toArray.size - 1)=az.dropLast.toArray;rw [cM,List.eraseIdxIfInBounds_toArray,Rt]
 ·rw [List.length_dropLast];omega
def RC:eX:=λ x y H Q=>∃ l b xs zs,x=.ref l/\y=.ref b/\H l=some (.lst xs)/\H b=some (.lst zs)/\xs.length+zs.length<=sizeLine/\∀ p,H p=none->Q (.ref p) (upd H p (.lst (xs++zs)))
theorem RD:dS X (hD .Add) RC:=by
 intro pins s σ H x y v u Q I a7 cF h;obtain ⟨l,b,xs,zs,rfl,rfl,ha,pM,hz,q⟩:=h;cases a7;cases cF;obtain ⟨z,az,n,r,ar,e⟩:=I.qZ ha;obtain ⟨b9,cq,ck,a0,hb,aG⟩:=I.qZ pM;refine PySem.P.add_list e aG ?_ (by rw [cM,cM];omega)
 have fl:az.toArray++cq.toArray=(az++cq).toArray:=by simp
 rw [fl];exact ⟨.ref _,_,I.Ru (t':=s.toks) (r.append a0) (by rw [dE];omega),rfl,q _ I.fresh⟩
end
end L2
namespace Il
open PySem PySem.W PySem.Calls PyProof.Rows
theorem RE{P:Params}{h:bE}:∀(ns:List Int)(vs:List Value),WellAll P h vs (ns.map WData.int)->uI vs ns:=by
 intro ns
 induction ns with
 | nil=>
  intro vs w;rw [sm] at w;cases w;exact .nil
 | cons n ns aO=>
  intro vs w;rw [dF] at w
  cases w with
  | cons a b=>
   cases a;exact .cons _ _ (aO _ b)
theorem RF{l:OpenLaw}{n:Nat}(aH:l.most=some n){P:Params}{h:bE}{args:List WData}{vals:List Value}
 (yX:l.row.toRowW.claim.pre args=true) (BU:WellAll P h vals args) :
 ∃ a vs ns,vals=[Value.ref a]/\args=[WData.list (ns.map WData.int)]/\h.get? a=some { cls:=.type "list", data:=.seq vs.toArray }/\uI vs ns/\ns.length<=n:=by
 have RG:WShape.hasAll [] args [.list .int]=true:=(pre_splitW yX).1;have ai:l.pre.holds [] { args:=args }=true:=(pre_splitW yX).2;obtain ⟨d,r,rfl,ae,ag⟩:=hasAllW_cons RG;obtain rfl:=hasAllW_nil ag;obtain ⟨xs,rfl,aR⟩:=hasW_list ae;obtain ⟨ns,rfl⟩:=items_int aR
 have hlen:ns.length<=n:=by
  unfold OpenLaw.pre at ai
  have bB:(WTm.not (.lt (.lit (.int (n:Int))) (.len (.arg 0)))).holds [] { args:=[.list (ns.map .int)] }=true:=by
   have bB:=(holds_andW ai).1;rw [aH] at bB;exact bB
  have el:=condW_of bB (w_not (w_lt w_lit (w_len_list (w_arg rfl))));rw [er] at el;refine Nat.le_of_not_lt λ q=>?_
  have gT:(n:Int) < ((ns.length:Nat):Int):=by omega
  first
   | (rw [decide_eq_true gT] at el;exact absurd el (by decide))
   | (simp at el;omega)
 cases BU with
 | cons g8 gU=>
  cases gU
  cases g8 with
  | list aS q0=>exact ⟨_,_,ns,rfl,rfl,aS,RE ns _ q0,hlen⟩
theorem RH(l:OpenLaw)(args:List WData):l.row.toRowW.claim.post args (.bool true) args=true:=
 postW_of (r:=l.row.toRowW) (X:=(true==true))
  (show WShape.has [] (.bool true) .bool=true by first | rfl | decide | simp [WShape.has,WShape.arms,WShape.armsAll])
  (show (WTm.eq .res (.lit (.bool true))).value [] { args:=args,res:=some (.bool true),after:=args }=some (.bool (true==true)) from w_eq_bool (w_res rfl) w_lit) rfl
theorem RI{l:OpenLaw}{n:Nat}{q:cL}{loose:List Str}{q1:(Str->Option Value)->bE->Prop}{pN:b8->bE->Prop}{d:DefRec}
 (aH:l.most=some n) (vw:d.params.defaults=[])
 (call:∀(w:b8)(eP dp:aE)(mg jQ:Str->Option Value)(fa:Addr)(o:Obj)(pm cd doc:Value)(a:Addr)(vs:List Value)(ns:List Int),
  Ground q loose [] q1 w eP mg jQ dp.heap->pN w dp.heap →
  dp.heap.get? fa=some o->o.data=.func (docDef d.name d.params d.body d.scope pm cd doc)->dp.heap.CodeRec cd d.name->mg d.name=some (.ref fa) →
  dp.heap.get? a=some { cls:=.type "list", data:=.seq vs.toArray }->uI vs ns->ns.length<=n->dp.gens=#[] →
  pq (aY l.prog w) qD (.call (.ref fa) ⟨[.ref a],[]⟩) (λ r aM=>r=.ok (.ret (.bool true))/\OldK dp.heap aM.heap/\aM.os=dp.os/\l_ aM.gens) dp) :
 WalkO q loose q1 pN l.row.toRowW d [] (λ f vs=>PySem.call f vs):=by
 intro w eP dp mg jQ G Y fa o pm cd doc yQ gG aS hd ho mw hmg a3 args vals as yX aeW aeX BU jY;obtain rfl:yQ=.none:=Dflts.none mw vw;obtain rfl:gG=.none:=Dflts.noKw mw;obtain ⟨a,vs,ns,rfl,rfl,BV,hints,hlen⟩:=RF aH yX BU;refine enter_call (uC (call w eP dp mg jQ fa o pm cd doc a vs ns G Y aS (fd_plain hd) ho hmg BV hints hlen a3) λ r aM bc=>?_);obtain ⟨rfl,ag,aR,bB⟩:=bc;exact ⟨.inl ⟨.bool true,.bool true,[],rfl,λ _=>rfl,.bool true,RH l _,λ _=>⟨List.Pairwise.nil,λ _ hm=>(nomatch hm)⟩⟩,ag,aR,bB⟩
end Il
namespace L2
open PySem PySem.Spec PyProof.Rows
theorem Im:∀{vs:List Value}{ns:List Int},uI vs ns->Vals (ns.map V.int) vs
 | _,_,.nil=>.nil
 | _,_,.cons n t h=>.cons ⟨t,rfl⟩ (Im h)
def yY(H:aw):Prop:=∀ b,H b=none\/∃ o xs,H b=some (.ih o (.lst xs))
theorem RJ{P:cL}{w:b8}{K:aX}{mg jQ:Str->Option Value}{CX:mt}{k:Nat}{fa a:Addr}{fd:gD}{x:Str}{sp:iK}{dp:aE}{vs:List Value}{ns:List Int}
 (KX:K.In dp.heap) (Io:dp.heap.Ns eh mg) (af:dp.heap.Ns builtinsNs jQ) (yZ:∀ x:Str,x≠"__name__"->jQ x=kO x) (RK:dp.heap.NoLimit) (a3:dp.gens=#[])
 (ax:dp.heap.get? a=some { cls:=.type "list", data:=.seq vs.toArray }) (av:uI vs ns) (ar:ns.length<=sizeLine) (ao:fy k qD)
 (F:∀ base:bE,K.In base->base.Ns eh mg->da P w K mg base CX k fa fd [x] sp) (RL:∀(s:aE)(u:Value),sb s fd ⟨[u],[]⟩ [(x,u)])
 (jV:∀ H:aw,yY H->eu K H a (ns.map V.int)->sp [.ref a] H (λ v _=>v=.aI true) λ _ _ _=>False)
 (BW:∀ H e aM,CX [] H dp (λ _ _ _=>False) e aM->False) :
 pq (aY P w) qD (.call (.ref fa) ⟨[.ref a],[]⟩) (λ r aM=>r=.ok (.ret (.bool true))/\OldK dp.heap aM.heap/\aM.os=dp.os/\l_ aM.gens) dp:=by
 have a6:=Im av;have RM:=av.length
 have core:∀ H:aw,yY H->eu K H a (ns.map V.int)->fx P w H dp.heap->(∀ b,H b≠none->b=a)->(H a≠none->K.lookup a=none) →
  pq (aY P w) qD (.call (.ref fa) ⟨[.ref a],[]⟩) (λ r aM=>r=.ok (.ret (.bool true))/\OldK dp.heap aM.heap/\aM.os=dp.os/\l_ aM.gens) dp:=by
  intro H y0 ew bJ ov eT;have Ip:∀{b:Addr}{o:Obj},dp.heap.get? b=some o->H b=none->(oc dp.heap H).get? b=some o:=λ e n=>Pr e n
  have vq:∀{b:Addr}{o:Obj}{es:Array pk}{dY:Nat},dp.heap.get? b=some o->o.data=.dict es dY->H b=none:=λ{b o es dY} e d=>by
   cases q:H b with
   | none=>rfl
   | some u=>
    have bV:b=a:=ov b (by rw [q];simp);subst bV;rw [ax] at e;cases e;have d':Data.seq vs.toArray _=Data.dict es dY:=d;cases d'
  have y1:∀{b:Addr}{m:Str->Option Value},dp.heap.Ns b m->(oc dp.heap H).Ns b m:=λ{b m} ⟨o,es,dY,e,d,r⟩=>⟨o,es,dY,Ip e (vq e d),d,r⟩
  have Iq:K.In (oc dp.heap H):=λ b o e=>Ip (KX b o e) (by
   cases q:H b with
   | none=>rfl
   | some u=>
    have bV:b=a:=ov b (by rw [q];simp);subst bV
    rw [eT (by rw [q];simp)] at e;cases e)
  have RN:Mod K mg (oc dp.heap H):=⟨Iq,y1 Io,⟨jQ,y1 af,yZ⟩,let ⟨RO,ae,ag⟩:=RK;⟨RO,y1 ae,ag⟩⟩
  have b6:qY P w K mg (oc dp.heap H) qD [] dp H:=⟨rfl,RN,λ b o e=>Ps e,Nat.le_of_eq (Pq _ _),trivial,λ b af=>absurd (show b∈([]:List Addr) from af) (by simp),bJ,.of_eq a3⟩
  refine uC ((F _ Iq (y1 Io)).run qD [] dp H ⟨[.ref a],[]⟩ [.ref a] [.ref a] _ _ ao b6 (RL dp (.ref a)) (.cons rfl .nil) (jV H y0 ew)) λ r aM h=>?_
  cases r with
  | error e=>exact (BW H e aM h).elim
  | ok eY=>
   cases eY with
   | next=>exact False.elim h
   | brk=>exact False.elim h
   | cont=>exact False.elim h
   | ret u=>
    obtain ⟨v,aj,os,bare,un,BX,bp,q⟩:=h;have gT:v=.aI true:=q;subst gT;obtain rfl:u=Value.bool true:=bp;refine ⟨rfl,OldK.of_keep λ b o e=>?_,os,bare⟩
    cases q:H b with
    | none=>exact un.keep b o e q (by intro z;exact absurd (show b∈([]:List Addr) from z) (by simp)) (by simp)
    | some u=>
     rcases y0 b with z | ⟨c_,xs,z⟩
     ·rw [q] at z;cases z
     ·have b9:=un.jP b c_ _ z;obtain ⟨aC,_⟩:=bJ b _ z;obtain ⟨aG,_⟩:=BX b _ b9;rw [e] at aC;cases aC;exact aG
 cases aN:K.lookup a with
 | some o=>
  have e:=KX a o aN;rw [ax] at e;cases e;refine core (λ _=>none) (λ _=>.inl rfl) (.inr ⟨_,vs.toArray,_,aN,rfl,rfl,rfl,by rw [cM,RM];exact ar,by simpa using a6⟩) (λ b u z=>by have fQ:(none:Option gi)=some u:=z;cases fQ) (λ b z=>absurd rfl z) λ z=>absurd rfl z
 | none=>
  refine core (λ b=>if b=a then some (.ih { cls:=.type "list", data:=.seq vs.toArray } (.lst (ns.map V.int))) else none) (λ b=>?_) (.inl (.inr ⟨{ cls:=.type "list", data:=.seq vs.toArray },if_pos rfl⟩)) (λ b u z=>?_) (λ b z=>?_) λ _=>aN
  ·by_cases af:b=a
   ·exact .inr ⟨_,_,if_pos af⟩
   ·exact .inl (if_neg af)
  ·by_cases af:b=a
   ·have fQ:=(if_pos af).symm.trans z;cases fQ;subst af;exact ⟨ax,by rw [er];exact ar,vs,_,a6,ax⟩
   ·have fQ:=(if_neg af).symm.trans z;cases fQ
  ·by_cases af:b=a
   ·exact af
   ·exact absurd (if_neg af) z
theorem RP{l:PySem.W.OpenLaw}{n k:Nat}{q:cL}{loose:List Str}{q1:(Str->Option Value)->bE->Prop}{pN:b8->bE->Prop}{d:DefRec}{K:Params->aX}{CX:b8->mt}{sp:b8->iK}{x:Str}
 (aH:l.most=some n) (RQ:n<=sizeLine) (vw:d.params.defaults=[]) (ao:fy k qD)
 (BY:∀(w:b8)(h:bE),pN w h->(K w.params).In h)
 (F:∀(w:b8)(mg:Str->Option Value)(fa:Addr)(h:bE),(K w.params).In h->h.Ns eh mg->mg d.name=some (.ref fa) →
  ∃ fd:gD,(∀(s:aE)(u:Value),sb s fd ⟨[u],[]⟩ [(x,u)]) ∧
   ∀ base:bE,(K w.params).In base->base.Ns eh mg->da l.prog w (K w.params) mg base (CX w) k fa fd [x] (sp w))
 (jV:∀(w:b8)(H:aw)(a:Addr)(ns:List Int),ns.length<=n->yY H->eu (K w.params) H a (ns.map V.int)->sp w [.ref a] H (λ v _=>v=.aI true) λ _ _ _=>False)
 (BW:∀(w:b8)(H:aw)(s:aE)(e:Value)(aM:aE),CX w [] H s (λ _ _ _=>False) e aM->False) :
 PySem.W.WalkO q loose q1 pN l.row.toRowW d [] (λ f vs=>PySem.call f vs):=by
 refine Il.RI aH vw λ w eP dp mg jQ fa o pm cd doc a vs ns G Y aS hd ho hmg BV hints hlen a3=>?_;have KX:=BY w _ Y;obtain ⟨fd,af,c2⟩:=F w mg fa _ KX G.T.g hmg;exact RJ KX G.T.g G.T.b G.T.builtins G.T.nolimit a3 BV hints (gF hlen RQ) ao c2 af (λ H y0 ew=>jV w H a ns hlen y0 ew) λ H e aM=>BW w H dp e aM
def nE(s:bP):Arguments:=match s with
 | .FunctionDef _ a _ _ _ _ _ _ _ _=>a
 | _=>{ posonlyargs:=[],args:=[],vararg:=none,kwonlyargs:=[],kw_defaults:=[],kwarg:=none,defaults:=[] }
def jb(s:bP):List bP:=match s with
 | .FunctionDef _ _ b _ _ _ _ _ _ _=>b
 | _=>[]
def cb(s:bP):gg:=match s with
 | .FunctionDef _ _ _ _ _ _ sc _ _ _=>sc
 | _=>{ kind:=.function,names:=[],isGenerator:=false,isCoroutine:=false }
abbrev c6:mt:=λ _ _ _ _ _ _=>False
abbrev vx:fY:=λ _ _ _=>False
theorem RR{X:aW}:yP c6 X vx:=λ _ _ _ _ _ _ _ h=>h.elim
structure dT(K:aX)(x qual:Str)(st:bP)(f:Addr)(fd:gD):Prop where
 ex:∃(gH:Value)(eM:Option Addr)(gG doc pm:Value)(an:Option Addr)(bI ct:Value)(i9:Array (Option Value)),
  fd=ni x qual (nE st) (jb st) (cb st) .none gG doc pm an bI ct/\K.lookup f=some ⟨gH,eM,.func fd,i9⟩/\sE K bI qual=true
 dr:lC K (.ref f)=true
section
variable{P:cL}{w:b8}{K:aX}{mg:Str->Option Value}{base:bE}
theorem dT.ok{x qual:Str}{st:bP}{f:Addr}{fd:gD}{N ps:List Str}{k:Nat}{sp:iK}(F:dT K x qual st f fd)(S:ek N ps (cb st))(len:∀ vs H Q E,sp vs H Q E->vs.length=ps.length)
 (kY:∀(bI:Value)(A:cz)(outer:List Env)(s:aE)(H:aw)(vs:List V)(Q:cE)(E:fY),fy k (A.deeper (envOfC qual (cb st) s.heap.objs.size f bI))->sp vs H Q E →
  ∃ t,jq (eJ c6 P w K mg base N qual (cb st) f bI A outer s H E).mi (jb st) t/\t { nx:=λ _ aj=>Q .a9 aj,rt:=Q } (iL N vs) H):da P w K mg base c6 (k+1) f fd ps sp:=by
 obtain ⟨gH,eM,gG,doc,pm,an,bI,ct,i9,rfl,lk,ho⟩:=F.ex;refine BM lk ho S len λ A outer s H vs Q E ao jV=>?_;obtain ⟨t,h,q⟩:=kY bI A outer s H vs Q E ao jV;exact ⟨t,h.mi,q⟩
theorem dT.binds{x qual:Str}{st:bP}{f:Addr}{fd:gD}{ps:List Str}(F:dT K x qual st f fd)
 (h:∀(gG doc pm:Value)(an:Option Addr)(bI ct:Value)(us:List Value),us.length=ps.length->bindArgs (ni x qual (nE st) (jb st) (cb st) .none gG doc pm an bI ct) ⟨us,[]⟩=pure (ps.zip us)):Binds K fd ps []:=by
 obtain ⟨gH,eM,gG,doc,pm,an,bI,ct,i9,rfl,lk,ho⟩:=F.ex;exact .all (h gG doc pm an bI ct)
theorem Ir{x qual:Str}{st:bP}{f:Addr}{gH:Value}{eM an:Option Addr}{i9:Array (Option Value)}{gG doc pm bI ct:Value}(l:K.lookup f=some ⟨gH,eM,.func (ni x qual (nE st) (jb st) (cb st) .none gG doc pm an bI ct),i9⟩)
 (c:sE K bI qual=true) (k:lC K (.ref f)=true):dT K x qual st f (ni x qual (nE st) (jb st) (cb st) .none gG doc pm an bI ct):=⟨⟨gH,eM,gG,doc,pm,an,bI,ct,i9,rfl,l,c⟩,k⟩
end
def vy(H aj:aw):Prop:=∀ b o,H b=some o->aj b=some o
theorem vy.refl(H:aw):vy H H:=λ _ _ h=>h
def il(cells:List (Str × Addr)):List (Str × lw)->List (Str × Addr)->List (Str × Addr)
 | [],acc=>acc
 | (n,k)::r,acc=>il cells r (if k=.free then (n,(cells.lookup n).getD 0)::acc else acc)
theorem It{α β:Type}{f:α->β->Sem (ForInStep β)}(g:β->α->β):∀(l:List α)(c:β),(∀ x∈l,∀ c,f x c=pure (.yield (g c x)))->forIn l c f=pure (l.foldl g c)
 | [],_,_=>rfl
 | x::l,c,h=>by
  rw [x2,h x bT,pure_bind];exact It g l _ λ y bv=>h y (bY _ bv)
theorem Iu(cells:List (Str × Addr)):∀(names:List (Str × lw))(acc:List (Str × Addr)),
 names.foldl (λ c y=>if y.2=.free then (y.1,(cells.lookup y.1).getD 0)::c else c) acc=il cells names acc
 | [],_=>rfl
 | (n,k)::r,acc=>by
  rw [List.foldl_cons,il];exact Iu cells r _
theorem Iv{scope:gg}{env:Env}(h:∀ y∈scope.names,y.2=.free->∃ c,env.cells.lookup y.1=some c):closureFor scope env=pure (il env.cells scope.names []):=by
 rw [<- Iu];simp only [closureFor];rw [It (λ c y=>if y.2=.free then (y.1,(env.cells.lookup y.1).getD 0)::c else c) scope.names [] λ x ak c=>?_]
 ·rfl
 ·obtain ⟨n,k⟩:=x;by_cases aN:k=.free
  ·subst aN;obtain ⟨a,e⟩:=h _ ak rfl;have bV:env.cells.lookup n=some a:=e;simp [cellOf,bV]
  ·have af:(k==NameKind.free)=false:=by simpa using aN
   simp [af,aN]
theorem Iw{cells:List (Str × Addr)}:∀(names:List (Str × lw))(acc:List (Str × Addr)),(∀ y∈names,y.2=.free->∃ c,cells.lookup y.1=some c)->(∀ x c,acc.lookup x=some c->cells.lookup x=some c) →
 ∀ x c,(il cells names acc).lookup x=some c->cells.lookup x=some c
 | [],_,_,ax=>ax
 | (n,k)::r,acc,h,ax=>by
  rw [il];refine Iw r _ (λ y bv=>h y (bY _ bv)) λ x c e=>?_;by_cases aN:k=.free
  ·rw [if_pos aN] at e;obtain ⟨a,fl⟩:=h (n,k) bT aN;have y2:cells.lookup n=some a:=fl;rw [px] at e
   cases ak:x==n with
   | true=>
    rw [ak] at e;have aG:some ((cells.lookup n).getD 0)=some c:=e;rw [y2] at aG;have e3:a=c:=hn.inj aG;rw [eq_of_beq ak,y2,e3]
   | false=>
    rw [ak] at e;exact ax x c e
  ·rw [if_neg aN] at e;exact ax x c e
theorem Ix{cells:List (Str × Addr)}{x:Str}:∀(names:List (Str × lw))(acc:List (Str × Addr)),(acc.lookup x).isSome=true->((il cells names acc).lookup x).isSome=true
 | [],_,h=>h
 | (n,k)::r,acc,h=>by
  rw [il];refine Ix r _ ?_;by_cases aN:k=.free
  ·rw [if_pos aN,px]
   cases ak:x==n with
   | true=>rfl
   | false=>exact h
  ·rw [if_neg aN];exact h
theorem BZ{cells:List (Str × Addr)}{x:Str}:∀(names:List (Str × lw))(acc:List (Str × Addr)),(x,NameKind.free)∈names->((il cells names acc).lookup x).isSome=true
 | [],_,h=>nomatch h
 | (n,k)::r,acc,h=>by
  rw [il];rcases cC.mp h with e | h
  ·cases e;refine Ix r _ ?_;rw [if_pos rfl,px,beq_self_eq_true];rfl
  ·exact BZ r _ h
theorem Iy{g:Str->lw->lw}{x:Str}:∀ names:List (Str × lw),(names.map λ y=>(y.1,g y.1 y.2)).lookup x=(names.lookup x).map (g x)
 | []=>rfl
 | (n,k)::r=>by
  rw [dF,px,px]
  cases ak:x==n with
  | true=>
   have e:=eq_of_beq ak;subst e;rfl
  | false=>exact Iy r
theorem RS(scope:gg)(env:Env):(qE scope env).names=scope.names.map λ y=>(y.1,if (y.2==.free&&env.scope.kind==.function&&env.kindOf y.1==some .cell)=true then NameKind.cell else y.2):=by
 unfold qE;refine so λ y _=>?_;obtain ⟨n,k⟩:=y;show (if (k==.free&&env.scope.kind==.function&&env.kindOf n==some .cell)=true then (n,NameKind.cell) else (n,k))=_;split<;>simp_all
theorem Iz(scope:gg)(env:Env)(x:Str):(qE scope env).names.lookup x=(scope.names.lookup x).map λ k=>if (k==.free&&env.scope.kind==.function&&env.kindOf x==some .cell)=true then NameKind.cell else k:=by
 rw [RS];exact Iy (g:=λ n k=>if (k==.free&&env.scope.kind==.function&&env.kindOf n==some .cell)=true then NameKind.cell else k) scope.names
def fS(X:aW)(scope:gg)(N':List Str)(C:Addr)(ex:List Addr)(s:aE)(H:aw):aW:=
 { X with N:=N',eP:=s,u6:=H,env:=qB scope (il X.env.cells scope.names []) C X.env,outer:=X.stack,stack:=X.stack,ex:=ex,fn:=λ _=>false,pn:=[],xe:=λ _ _=>False }
def ow(nt:Nat)(cap:List Nat)(σ:St):St:=gh nt none++cap.map λ i=>(σ[i]?).join
structure hI(X:aW)(scope:gg)(N':List Str)(nt:Nat)(cap:List Nat):Prop where
 kind:scope.kind=.function
 B0:∀ y∈scope.names,y.2≠.cell
 locs:∀ y∈scope.names,y.2=.local->scope.names.lookup y.1=some .local
 frees:∀ y∈scope.names,y.2=.free->X.env.scope.names.lookup y.1=some .cell\/X.env.scope.names.lookup y.1=some .free
 len:N'.length=nt+cap.length
 RT:∀(j i:Nat)(x:Str),cap[j]?=some i->N'[nt+j]?=some x->X.N[i]?=some x/\scope.names.lookup x=some .free
section
variable{X:aW}{scope:gg}{N':List Str}{nt:Nat}{cap:List Nat}{pins:List (Addr × Obj)}{σ:St}{H:aw}{s:aE}
theorem hI.has(c:hI X scope N' nt cap)(ok:X.Ok):∀ y∈scope.names,y.2=.free->∃ a,X.env.cells.lookup y.1=some a:=λ y bv aN=>ok.has y.1 (c.frees y bv aN)
theorem hI.cells(c:hI X scope N' nt cap)(ok:X.Ok){x:Str}{a:Addr}(e:(il X.env.cells scope.names []).lookup x=some a):X.env.cells.lookup x=some a:=
 Iw scope.names [] (c.has ok) (λ _ _ z=>by simp at z) x a e
theorem hI.RU(c:hI X scope N' nt cap){x:Str}(h:(qE scope X.env).names.lookup x=some .cell\/(qE scope X.env).names.lookup x=some .free):(x,NameKind.free)∈scope.names:=by
 rw [Iz] at h
 cases q:scope.names.lookup x with
 | none=>rw [q] at h;simp at h
 | some k=>
  have hm:=WF q;have vz:k≠.cell:=c.B0 _ hm;rw [q] at h;by_cases aN:k=.free
  ·subst aN;exact hm
  ·have af:(k==NameKind.free)=false:=by simpa using aN
   simp only [uW,af,Bool.false_and,sD,if_false,hn.injEq] at h;rcases h with h | h
   ·exact absurd h vz
   ·exact absurd h aN
theorem Inv.comp(I:Inv X pins σ H s)(c:hI X scope N' nt cap){fp:List Addr}(hf:∀ b∈fp,jr X pins H b)(hc:∀ b∈fp,b < s.heap.objs.size){h':bE}{m:Str->Option Value}{t':Nat}
 (aN:∀ b o,s.heap.get? b=some o->h'.get? b=some o) (aH:h'.Ns s.heap.objs.size m) :
 Inv (fS X scope N' s.heap.objs.size fp s H) [] (ow nt cap σ) H { s with heap:=h',toks:=t' }:=by
 have cl:=λ{x:Str} {a:Addr} (e:(il X.env.cells scope.names []).lookup x=some a)=>c.cells I.ok e
 have aeY:∀ x a,X.env.cells.lookup x=some a->a < s.heap.objs.size:=λ x a e=>by
  obtain ⟨v,q⟩:=I.cell x a e;exact q.lt
 refine ⟨⟨I.ok.mod,c.kind,I.ok.glob,I.ok.blt,ZB _,λ x y a aC aG=>I.ok.inj x y a (cl aC) (cl aG),λ x ak=>?_,λ x a ak=>absurd ak kS,I.ok.hd,I.ok.frames,.inl rfl,λ b af=>⟨?_,λ x a e=>?_⟩,
  λ b o e=>I.bs b o e,gF I.ok.nr I.eW,λ b o e af=>?_,λ b af RV=>?_,I.stack,λ b af=>I.u9 b af⟩,
  rfl,I.bare,fP.kept aN,⟨m,aH,λ i x v aC aG e3=>?_⟩,λ x a e=>?_,I.bJ.fresh (ZB _),λ x a e=>I.kp x a (cl e),λ p ah=>absurd (show p∈([]:List (Addr × Obj)) from ah) (by simp),I.bJ.kept aN,?_⟩
 ·exact n5.mp (BZ scope.names [] (c.RU ak))
 ·exact eO (hc b af)
 ·exact (hf b af).2.2.2.2.1 x a (cl e)
 ·obtain ⟨f0,f1,f2,cV,_⟩:=hf b af;rcases cV with z | z
  ·exact I.ok.sO b o e z
  ·exact absurd (hX (dc e) (gF I.ok.nr z)) (me _)
 ·obtain ⟨f0,f1,f2,_⟩:=hf b af;rcases cC.mp (I.sP b RV) with z | z
  ·exact f1 z
  ·exact f2 z
 .
  have B1:N'[i]?=some x:=aC
  have av:nt<=i:=by
   refine Nat.le_of_not_lt λ q=>?_;unfold ow at aG;rw [uL (by simpa using q),x0,if_pos q] at aG;cases aG
  obtain ⟨j,rfl⟩:=Nat.exists_eq_add_of_le av;unfold ow at aG;rw [sj (by simp),x1,Nat.add_sub_cancel_left,iG] at aG
  cases q:cap[j]? with
  | none=>rw [q] at aG;cases aG
  | some k=>
   rw [q] at aG;have y3:(σ[k]?).join=some v:=hn.inj aG
   have e4:σ[k]?=some (some v):=by
    cases z:σ[k]? with
    | none=>rw [z] at y3;cases y3
    | some iJ=>rw [z] at y3;exact congrArg some y3
   obtain ⟨dt,ck⟩:=c.RT j k x q B1;have IA:=WF ck;have yR:=c.frees _ IA rfl;obtain ⟨m0,_,ar⟩:=I.loc;obtain ⟨u,r,lk⟩:=ar k x v dt e4 (.inr yR);refine ⟨u,r,.inr ⟨?_,?_⟩⟩
   ·show (qE scope X.env).names.lookup x=some .cell\/(qE scope X.env).names.lookup x=some .free;rw [Iz,ck]
    by_cases z:((NameKind.free==.free&&X.env.scope.kind==.function&&X.env.kindOf x==some .cell)=true)
    ·exact .inl (by rw [uW,if_pos z])
    ·exact .inr (by rw [uW,if_neg z])
   ·rcases lk with ⟨k1,_⟩ | ⟨_,a,e,z⟩
    ·have RW:X.env.scope.names.lookup x=some .local:=k1;rcases yR with y | y<;>(rw [RW] at y;cases y)
    ·obtain ⟨a',fl⟩:=n5.mp (BZ (cells:=X.env.cells) scope.names [] IA);have bV:=cl fl;rw [e] at bV;cases bV;obtain ⟨o,aS,hd⟩:=z;exact ⟨a,fl,o,aN _ _ aS,hd⟩
 ·obtain ⟨v,o,aS,hd⟩:=I.cell x a (cl e);exact ⟨v,o,aN _ _ aS,hd⟩
 ·show (ow nt cap σ).length=N'.length;unfold ow;rw [dE,x1,er,c.len]
theorem Inv.IB{C:Addr}{fp:List Addr}{σ':St}{aj:aw}{aM:aE}(I:Inv X pins σ H s)(gW:C=s.heap.objs.size)(hf:∀ b∈fp,jr X pins H b){N':List Str}(J:Inv (fS X scope N' C fp s H) [] σ' aj aM) :
 ∃ m,aM.heap.Ns C m/\∀ h',Heap.SameBut C aM.heap h'->Inv X pins σ aj { aM with heap:=h' }:=by
 subst gW;obtain ⟨m,aH,_⟩:=J.loc;refine ⟨m,aH,λ h' ap=>?_⟩;have ne:∀ b o,s.heap.get? b=some o->b≠s.heap.objs.size:=λ b o e=>eO (dc e);have B:=J.base;refine I.yC (ch:=fp) J.os ⟨λ b o e n af ak=>?_,λ b o e n af ak=>?_,B.free,λ b o e ak=>?_,B.km,B.jP,B.kn⟩ (λ b u e=>?_) J.bare λ b af=>?_
 ·exact (ap.2 b (ne b o e)).trans (B.keep b o e n af ak)
 ·obtain ⟨bz,q⟩:=B.slot b o e n af ak;exact ⟨bz,(ap.2 b (ne b o e)).trans q⟩
 ·obtain ⟨dM,q⟩:=B.there b o e ak;exact ⟨dM,(ap.2 b (ne b o e)).trans q⟩
 ·have IC:aj s.heap.objs.size=none:=J.free;refine (J.bJ b u e).nk (λ d iJ hd q=>(ap.2 d ?_).trans q) (λ _ q=>q) λ _ _ q=>q;intro z;subst z;rcases hd with z | z
  ·rw [<- z,IC] at e;cases e
  ·rw [IC] at z;cases z
 ·obtain ⟨f0,f1,f2,cV,f4,eI⟩:=hf b af;exact ⟨cV,f1,f4,eI⟩
end
def vA(d5:TI)(g:gV)(aZ:TE)(nt:Nat)(cap:List Nat):TE:=λ σ H Q=>d5 σ H λ J H1=>∀ acc,H1 acc=none →
 ∃ W:Nat->Nat->List V->St->aw->Prop,(∃ m,W 0 m [] (ow nt cap σ) (upd H1 acc (.lst [])))/\∀ i m aD σ' aj,W i m aD σ' aj →
  (J.stop i aj/\Q (.ref acc) aj)\/(J.go i aj/\∀ x bg,J.pH i aj x bg->g x σ' bg λ σ3 dI=>aZ σ3 dI λ y jt=>
   jt acc=some (.lst aD)/\aD.length < sizeLine/\∃ ej,ej < m/\W (i+1) ej (aD++[y]) σ3 (upd jt acc (.lst (aD++[y]))))
section
variable{X:aW}{scope:gg}{N':List Str}{nt:Nat}{cap:List Nat}{elt iter bl:a8}{pos:Pos}{d5:TI}{g:gV}{aZ:TE}
theorem RX(ai:X.calm=true)(c:hI X scope N' nt cap)(av:mm X bl iter d5)(a3:∀ C ex s H,nA (fS X scope N' C ex s H) bl g)(he:∀ C ex s H,b_ (fS X scope N' C ex s H) elt aZ)
 (ap:∀ x,m5 iter X.env x=pure x:=by intro _;rfl):b_ X (.ListComp elt [⟨bl,iter,[],0⟩] scope pos) (vA d5 g aZ nt cap):=by
 intro pins s σ H Q I h;rw [eval_ListComp];refine G4 (use:=none) rfl ap (Iv (c.has I.ok)) c.kind c.locs (b0 (av pins s σ H _ I h) λ v s1 ae=>b0 ae λ yG s2 ag=>?_);obtain ⟨it,fp,gI,J,bg,rfl,dg,T,qT,f2,R⟩:=ag;have mw:bg s2.heap.objs.size=none:=dg.bJ.fresh (ZB _);obtain ⟨W,⟨m0,ml⟩,turn⟩:=R _ mw
 have eH:Inv X pins σ (upd bg s2.heap.objs.size (.lst [])) { s2 with heap:=s2.heap.push { cls:=.type "list", dict:=none,data:=.seq ([]:List Value).toArray } }:=
  dg.laid (t':=s2.toks) (λ b u e=>cP _ e) (ZB _) ⟨ef _,[],0,.nil,f7 _ rfl⟩
 have ox:∀ b∈fp,b < s2.heap.objs.size:=λ b af=>by
  obtain ⟨o,e,_⟩:=T.obj _ _ qT b af;exact dc e
 have cV:∀ b∈fp,jr X pins (upd bg s2.heap.objs.size (.lst [])) b:=λ b af=>⟨by rw [cN (eO (ox b af))];exact (f2 b af).1,(f2 b af).2⟩
 have pJ:gI 0 (s2.heap.push { cls:=.type "list", dict:=none,data:=.seq ([]:List Value).toArray }):=T.keep _ _ _ qT λ b _ o e=>cP _ e;generalize vB:s2.heap.push { cls:=.type "list", dict:=none,data:=.seq ([]:List Value).toArray }=aR at eH pJ
 have q2:s2.heap.objs.size < aR.objs.size:=by rw [<- vB,sH];exact sx _
 generalize B2:s2.heap.objs.size=D at eH cV mw ml turn q2 ox;refine kf ?_;rw [B2,vB];refine Be c.B0 (by intro y bv;simp at bv) (λ bB vC vD=>?_) c.kind
 dsimp only at vC vD ⊢
 have vE:∀ b o,aR.get? b=some o->bB.get? b=some o:=λ b o e=>(vD.2 b (eO (dc e))).trans (cP _ e);have ij:=eH.comp (t':=s2.toks+([]:List (Str × Value)).length) c cV (λ b af=>sy (ox b af) q2) vE vC;have vF:gI 0 bB:=T.keep _ _ _ pJ λ b _ o e=>vE b o e
 dsimp only at ij
 have fin:∀{σ':St}{aj:aw}{aM:aE},Inv (fS X scope N' aR.objs.size fp { s2 with heap:=aR } (upd bg D (.lst []))) [] σ' aj aM->Q (.ref D) aj →
  compPost (aY X.prog X.w) X.A X.xe none (f_ X pins σ Q) (.ref D) aR.objs.size (.ok .next) aM:=λ{σ' aj aM} y4 q=>by
  obtain ⟨m,aH,d8⟩:=eH.IB rfl cV y4;exact ⟨m,aH,λ h' im=>⟨.ref D,aj,d8 h' im,rfl,q⟩⟩
 have mn:∀{aj:aw},(∀ b∈fp,aj b=none)->∀ b∈fp,jr (fS X scope N' aR.objs.size fp { s2 with heap:=aR } (upd bg D (.lst []))) [] aj b:=λ{aj} aH b af=>by
  refine ⟨aH b af,eO (sy (ox b af) q2),λ z=>?_,.inl af,λ x a e=>(cV b af).2.2.2.2.1 x a (c.cells I.ok e),λ p ah=>absurd (show p∈([]:List (Addr × Obj)) from ah) (by simp)⟩;rcases cC.mp (I.sP b z) with y | y
  ·exact (cV b af).2.1 y
  ·exact (cV b af).2.2.1 y
 have loop:pq (aY X.prog X.w) X.A (.compLoop (.ListComp elt [⟨bl,iter,[],0⟩] scope pos) 0 (.ref it) (.ref D) (qB scope (il X.env.cells scope.names []) aR.objs.size X.env))
  (compPost (aY X.prog X.w) X.A X.xe none (f_ X pins σ Q) (.ref D) aR.objs.size) { s2 with heap:=bB,toks:=s2.toks+([]:List (Str × Value)).length }:=by
  refine codeAny_loop rfl (λ n aM=>∃ i aD σ' aj,Inv (fS X scope N' aR.objs.size fp { s2 with heap:=aR } (upd bg D (.lst []))) [] σ' aj aM/\gI i aM.heap/\(∀ b∈fp,aj b=none)/\W i n aD σ' aj) (λ n s5 B3=>?_) m0 ⟨0,[],_,_,ij,vF,λ b af=>(cV b af).1,ml⟩;obtain ⟨i,aD,σ5,js,oh,oi,qV,vG⟩:=B3;show aU _ X.A ((compTurn (.ListComp elt [⟨bl,iter,[],0⟩] scope pos) 0 (.ref it) (.ref D) (qB scope (il X.env.cells scope.names []) aR.objs.size X.env)).onRaise (λ x=>do qA x (qB scope (il X.env.cells scope.names []) aR.objs.size X.env);theTreesLotGoes x)) _ _ s5;refine wpAny_noted ?_;rw [compTurn_list1];rcases turn i n aD σ5 js vG with ⟨stop,vl⟩ | ⟨go,step⟩
  ·refine aA (pg (aA (gC (T.done (fS X scope N' aR.objs.size fp { s2 with heap:=aR } (upd bg D (.lst []))) rfl rfl rfl ai i [] s5 σ5 js (λ _ _=>False) oh (mn qV) oi stop) (λ r ku ⟨ao,mq⟩=>?_) λ _ _ z=>z.elim)));subst ao;exact br (fin mq vl)
  ·refine aA (pg (aA (gC (T.item (fS X scope N' aR.objs.size fp { s2 with heap:=aR } (upd bg D (.lst []))) rfl rfl rfl ai i [] s5 σ5 js (λ _ _=>False) oh (mn qV) oi go) (λ r ku ⟨u,ao,mx⟩=>?_) λ _ _ z=>z.elim)));subst ao;refine aA (gC mx (λ _ jT ⟨x,i8,jU,vn,B4,q3,B5⟩=>?_) λ _ _ z=>z.elim);have B6:=jU.pinned (mn B5) (T.obj _ _ q3);refine aA (gC (a3 _ _ _ _ _ jT σ5 i8 x u _ B6 vn (step x i8 B4)) (λ _ B7 ⟨σ8,B8,B9,sY⟩=>?_) λ _ _ z=>z.elim);refine aA (aA (gC (he _ _ _ _ _ B7 σ8 B8 _ B9 sY) (λ B_ Ca ⟨y,vH,Cb,Cc,oy,vI,ej,Cd,Ce⟩=>?_) λ _ _ z=>z.elim))
   refine aA (gC (BS (X:=fS X scope N' aR.objs.size fp { s2 with heap:=aR } (upd bg D (.lst []))) _ Ca σ8 vH (.ref D) [y] (.ref D) [B_] (λ v vJ=>v=.a9/\vJ=upd vH D (.lst (aD++[y]))) Cb rfl (.cons Cc .nil) ⟨D,aD,y,rfl,rfl,oy,vI,rfl,rfl⟩)
    (λ _ RY ⟨v10,vJ,q4,_,_,Cf⟩=>?_) λ _ _ z=>z.elim)
   subst Cf;refine br (br ⟨rfl,ej,Cd,i+1,aD++[y],σ8,_,q4.vk,?_,λ b af=>?_,Ce⟩)
   ·exact T.keep _ _ _ q3 λ b af o e=>(q4.pin (b,o) (iF _ (iF _ (sT af e)))).1
   ·obtain ⟨o,e,d⟩:=T.obj _ _ q3 b af;exact (q4.pin (b,o) (iF _ (iF _ (sT af e)))).2.1
 exact G6 loop (T.self _ 0 _ _ _ vF loop)
end
structure Got(P:cL)(w:b8)(K:aX)(mg:Str->Option Value)(base:bE)(k:Nat)(x:Str)(ps:List Str)(sp:iK):Prop where
 ex:∃(f:Addr)(fd:gD),da P w K mg base c6 k f fd ps sp/\mg x=some (.ref f)/\lC K (.ref f)=true/\Binds K fd ps []
section
variable{X:aW}{k j:Nat}{x:Str}{ps:List Str}{sp:iK}{p pos:Pos}{e:a8}{es:List a8}{t:fk}
theorem RZ(G:Got X.prog X.w X.K X.mg X.base k x ps sp)(ao:fy j X.A)(aN:k<=j)(a3:et X x)(ax:ii X (e::es) t)(fF:(x==("__debug__" : Str))=false:=by decide)
 (he:dB (e::es) X.env=(false,eval e X.env)::dB es X.env:=by rfl) (hp:(hO pos (dB es X.env)).any (·.1)=false:=by rfl) :
 b_ X (.Call (.Name x p) (e::es) [] pos) (yO sp [] vx t):=by
 obtain ⟨f,fd,F,hm,dr,b⟩:=G.ex;exact HW F (ao.mono aN) a3 hm dr b .nil RR ax fF he hp
end
section
variable{X:aW}
theorem R0:dS X (hD .FloorDiv) (sU (λ _ j=>0 < j/\j < 2 ^ 64) λ i j=>.int (i / j)):=yJ λ i j t u s E Q ai q=>by
 have h0:j≠0:=by omega
 have ae:j.natAbs.log2 < 9000:=by
  have aC:j.natAbs < 2 ^ 64:=by omega
  exact sy ((Nat.log2_lt (by omega)).mpr aC) (by decide)
 have e:i.fdiv j=i / j:=Int.fdiv_eq_ediv_of_nonneg i (by omega);exact floordiv_int h0 (by rw [e];exact q) (.inl (PyProof.noPylong_of_log2 ae))
theorem R1(l b:Addr)(items cS:Array Value)(n ck:Nat)(gc:Option Addr)(hq:Array (Option Value))(h0:¬(!items.isEmpty&&Builtin.List.listTooLong (items.size+cS.size))=true)(ae:items.size<=sizeLine)(ag:items.size+cS.size<=sizeLine+1) :
 Meets (Builtin.«list.extend» ⟨[.ref l,.ref b],[]⟩) (λ _ R s=>s.heap.get? l=some { cls:=.type "list", dict:=none,data:=.seq items n,slots:=#[] } ∧
  s.heap.get? b=some { cls:=.type "tuple", dict:=gc,data:=.seq cS ck,slots:=hq }/\R (.ok (.ret Value.none)) { s with heap:=s.heap.update l (Obj.mapSeq λ x=>x++cS),toks:=s.toks }):=
 .of_wp λ prog w A R s h=>by
  obtain ⟨ah,g,d,bL,os⟩:=s;obtain ⟨ar,af,h⟩:=h;have f1:=AutoSeq1.idx_int;have f2:=AutoSeq1.sub_tuple_tuple;have cV:=AutoSeq1.sub_list_list;have f4:=AutoSeq1.sub_tuple_list;have eI:=AutoSeq1.sub_list_tuple
  have q5:(items++cS).size<=sizeLine+1:=by rw [yn];exact ag
  wp_walk using (wpAny_updateSeq ar rfl (hz:=ae) (_hz':=q5)),m6 ar,m6 af
  exact ⟨_,rfl,h⟩
def R2(K:aX):V->List V->aw->cE->Prop:=λ x vs H Q=>∃ l b xs zs,x=.ref l/\vs=[.ref b]/\H l=some (.lst xs)/\dH K H b zs/\xs.length+zs.length<=sizeLine/\Q .a9 (upd H l (.lst (xs++zs)))
theorem R3:yV X "list.extend" (R2 X.K):=by
 intro pins s σ H x vs v us Q I a7 a6 h;obtain ⟨l,b,xs,zs,rfl,rfl,ha,pM,hz,q⟩:=h;cases a7;obtain ⟨u,rfl,c5⟩:=a6.one;cases c5;obtain ⟨z,az,n,r,ar,e⟩:=I.qZ ha;obtain ⟨cq,a0,⟨⟨bt,gc,Cg,hq⟩,aG,jW,ck,hd2⟩,sZ⟩:=I.tuple pM;simp only at jW hd2;subst jW hd2;have hb:=a0.length
 have hsz:az.toArray.size+cq.toArray.size<=sizeLine:=by rw [cM,cM];omega
 have BT:¬ (!az.toArray.isEmpty&&Builtin.List.listTooLong (az.toArray.size+cq.toArray.size))=true:=by
  rw [Ik hsz,sC];exact kS
 refine qx F.slot_list_extend ⟨_,e,rfl⟩ F.entry_list_extend (F.args_list_extend_2 _ _) (R1 l b az.toArray cq.toArray n ck gc hq BT (by rw [cM];omega) (by omega)) ⟨e,aG,?_⟩;refine ⟨.a9,_,I.yW (its':=az++cq) ha e (by simp) (r.append a0) ?_,rfl,q⟩;rw [dE];omega
end
def e7:a8->Bool
 | .Starred ..=>false
 | _=>true
theorem ip{e:a8}{es:List a8}{env:Env}(h:e7 e=true):dB (e::es) env=(false,eval e env)::dB es env:=by
 cases e<;>first | rfl | cases h
theorem pc{X:aW}{e:a8}{es:List a8}{aZ:TE}{t:fk}(ax:b_ X e aZ)(ao:ii X es t)(ap:e7 e=true:=by rfl):ii X (e::es) (BJ aZ t):=HT ax ao (ip ap)
section
variable{prog:cL}{w:b8}{A:cz}{E:Value->aE->Prop}{s:aE}
theorem R4{t bz:Addr}{items:Array Value}{fR gn:Value}{lo av:Option Int}{Q:Value->aE->Prop}(bh:ma s.heap t items)(ap:s.heap.IsSliceOf bz fR gn .none)(pl:l9 fR lo)(pu:l9 gn av)
 (hw:dq.cp items.size 0 lo=0/\dq.cp items.size items.size av=items.size) (h:Q (.ref t) s):aU (aY prog w) A (nZ (.ref t) (.ref bz)) Q E s:=by
 obtain ⟨os,lI,sW,fz⟩:=id ap
 have vt:s.TypeIs (.ref bz) "slice":=⟨os,lI,sW⟩
 unfold nZ
 try with_reducible refine jn ?_
 first | refine aA (br ?_) | skip
 refine aA (Bg bh.typeIs (by decide) ?_);refine aA (wpAny_callSpecial?_slot (name:=Str.ofString "__getitem__") bh.typeIs sF (kg sF bh.typeIs Br ?_ (Bs _ _)));show aU _ _ (Builtin.Tuple.tupleItemsOf (.ref t) >>= _) _ _ s;refine aA (Bt bh ?_);refine aA (qv vt ?_);rw [if_pos (by decide)];refine aA (dq.H6 ap pl pu ?_)
 have R5:(((dq.cp items.size 0 lo:Nat):Int)==0&&(1:Int)==1&&(dq.cp items.size items.size av - dq.cp items.size 0 lo)==items.size)=true:=by
  rw [hw.1,hw.2];simp
 show aU _ _ (if (((dq.cp items.size 0 lo:Nat):Int)==0&&(1:Int)==1&&(dq.cp items.size items.size av - dq.cp items.size 0 lo)==items.size)=true then _ else _) _ _ s;rw [if_pos R5]
 have ex:∀{h1:Bool->aE->Prop},h1 true s->aU (aY prog w) A.in1 (Builtin.Tuple.tupleIsExact (.ref t)) h1 E s:=λ{h1} q=>by
  unfold Builtin.Tuple.tupleIsExact;refine aA (qv bh.typeIs (br ?_));have e:(Value.type "tuple"==Value.type "tuple")=true:=beq_self_eq_true _;rw [e];exact q
 first
  | exact aA (ex (aA (m8 (br ⟨_,rfl,br h⟩))))
  | (unfold Builtin.Tuple.tupleIsExact
     refine aA (aA (qv bh.typeIs (br ?_)));have e:(Value.type "tuple"==Value.type "tuple")=true:=beq_self_eq_true _;rw [e,if_pos rfl]
     first
      | exact aA (m8 (br ⟨_,rfl,br h⟩))
      | exact aA (m8 (aA (br (br ⟨_,rfl,br h⟩))))
      | exact aA (m8 (aA (aA (br (br ⟨_,rfl,br h⟩))))))
end
section
variable{X:aW}
def R6(K:aX):V->Option Int->Option Int->aw->cE->Prop:=λ x lo av H Q=>∃ a xs,x=.ref a/\dH K H a xs ∧
 ((dq.cp xs.length 0 lo=0/\dq.cp xs.length xs.length av=xs.length)->Q (.ref a) H)/\(¬ (dq.cp xs.length 0 lo=0/\dq.cp xs.length xs.length av=xs.length)->∀ p,H p=none->Q (.ref p) (upd H p (.tup (lK xs lo av))))
theorem R7:mv X (R6 X.K):=by
 intro pins s σ H x v fR gn lo av bz Q I a7 ap pl pu h;obtain ⟨a,xs,rfl,ak,aF,bo⟩:=h;by_cases hw:dq.cp xs.length 0 lo=0/\dq.cp xs.length xs.length av=xs.length
 ·cases a7;obtain ⟨az,r,bh,hz⟩:=I.tuple ak
  have hlen:az.toArray.size=xs.length:=by rw [cM];exact r.length.symm
  refine ⟨"tuple", _,sF.lookup,bh.typeIs,?_⟩;exact R4 bh ap pl pu (by rw [hlen];exact hw) ⟨.ref a,H,I,rfl,aF hw⟩
 ·exact Q2 pins s σ H _ v fR gn lo av bz Q I a7 ap pl pu ⟨a,xs,rfl,ak,hw,bo hw⟩
def R8(K:aX):eX:=λ x y H Q=>∃ a b xs aD,x=.ref a/\y=.ref b/\dH K H a xs/\dH K H b aD/\xs.length+aD.length<=sizeLine ∧
 (xs=[]->Q (.ref b) H)/\(xs≠[]->aD=[]->Q (.ref a) H)/\(xs≠[]->aD≠[]->∀ p,H p=none->Q (.ref p) (upd H p (.tup (xs++aD))))
theorem R9:dS X (hD .Add) (R8 X.K):=by
 intro pins s σ H x y v u Q I a7 cF h;obtain ⟨a,b,xs,aD,rfl,rfl,ax,af,hz,oz,aF,bo⟩:=h
 by_cases ak:xs=[]
 ·cases a7;cases cF;obtain ⟨az,r,bh,_⟩:=I.tuple ax;obtain ⟨cq,a0,Ch,_⟩:=I.tuple af;subst ak;cases r;obtain ⟨⟨cls,dd,data,bz⟩,aS,ai,n,hd⟩:=id bh;obtain ⟨⟨BN,gc,data2,hq⟩,kv,jW,ck,hd2⟩:=id Ch;simp only at ai hd jW hd2;subst ai hd jW hd2;refine Bq ⟨_,aS,rfl⟩ ⟨_,kv,rfl⟩ Bh Bn PySem.F.slot_tuple_add PySem.F.entry_tuple_add (PySem.F.args_tuple_add_2 _ _) (tuple_addW0 a b _ cq.toArray n ck dd gc bz hq (by simp)) ⟨aS,kv,?_⟩;exact ⟨.ref b,H,I,rfl,oz rfl⟩
 ·exact Q4 pins s σ H _ _ v u Q I a7 cF ⟨a,b,xs,aD,rfl,rfl,ax,af,ak,hz,aF ak,bo ak⟩
end
section
variable{X:aW}
def R_(K:aX):V->Option Int->Option Int->aw->cE->Prop:=λ x lo av H Q=>∃ a xs,x=.ref a/\dH K H a xs/\∀ t bg,vy H bg->dH K bg t (lK xs lo av)->Q (.ref t) bg
theorem Sa{xs:List V}{lo av:Option Int}(h:dq.cp xs.length 0 lo=0/\dq.cp xs.length xs.length av=xs.length):lK xs lo av=xs:=by
 unfold lK;rw [h.1,h.2,ie,yf,sq]
theorem Sb:mv X (R_ X.K):=by
 intro pins s σ H x v fR gn lo av bz Q I a7 ap pl pu h;obtain ⟨a,xs,rfl,ak,q⟩:=h;refine R7 pins s σ H _ v fR gn lo av bz Q I a7 ap pl pu ⟨a,xs,rfl,ak,λ w=>q a H (vy.refl _) (by rw [Sa w];exact ak),λ _ p ah=>q p _ (λ b u e=>by rw [cN (hY e ah)];exact e) (dH.of eG)⟩
end
structure c1(X:aW)(e:a8)(t:TE):Prop where
 run:b_ X e t
structure k7(X:aW)(e:a8)(t:TT):Prop where
 run:kr X e t
structure oA(X:aW)(e:a8)(t:TT):Prop where
 run:nv X e t
structure jZ(X:aW)(es:List a8)(t:fk):Prop where
 run:ii X es t
structure lL(X:aW)(st:bP)(t:eR):Prop where
 run:jR X st t
structure my(X:aW)(st:List bP)(t:eR):Prop where
 run:jq X st t
structure kx(X:aW)(e:a8)(t:gV):Prop where
 run:nA X e t
structure vK(X:aW)(es:List a8)(t:mj):Prop where
 run:vf X es t
structure pO(X:aW)(bl iter:a8)(d5:TI):Prop where
 run:mm X bl iter d5
structure vL(X:aW)(e:Option a8)(t:d6):Prop where
 run:pL X e t
structure y5(X:aW)(f:Value->Value->Sem Value)(r:eX):Prop where
 run:dS X f r
structure ID(X:aW)(f:Value->Sem Value)(r:V->aw->cE->Prop):Prop where
 run:yI X f r
structure Ci(X:aW)(f:Value)(r:List V->aw->cE->Prop):Prop where
 run:h3 X f r
structure IE(X:aW)(r:eX):Prop where
 run:nC X r
structure IF(X:aW)(r:V->Option Int->Option Int->aw->cE->Prop):Prop where
 run:mv X r
structure pP(X:aW)(id:String)(r:V->List V->aw->cE->Prop):Prop where
 run:oq X id r
structure Sc(X:aW)(t:vg):Prop where
 run:BC X t
section
variable{X:aW}{a b c e o i:a8}{es:List a8}{bb bF aZ to h2:TE}{t yM:fk}{pos p apos dk:Pos}
theorem Sd{n:Int} {j}:c1 X (.Constant (.int n) j pos) (kV (.int n)):=⟨Py⟩
theorem Se{n:Bool} {j}:c1 X (.Constant (.bool n) j pos) (kV (.aI n)):=⟨Pz⟩
theorem Sf {j}:c1 X (.Constant .none j pos) (kV .a9):=⟨PA⟩
theorem Sg{x:Str} {j}:c1 X (.Constant (.str x) j pos) (kV (.str x)):=⟨PB⟩
theorem Sh(k:Nat){x:Str}(dG:X.N[k]?=some x:=by rfl)(bO:qM X.env.scope x:=by first | exact Or.inl rfl | exact Or.inr (Or.inl rfl) | exact Or.inr (Or.inr rfl))(hd:(x==("__debug__" : Str))=false:=by decide)
 (ho:(x==("__classdict__" : Str))=false:=by decide):c1 X (.Name x pos) (yD k):=⟨yE dG bO hd ho⟩
theorem Si{x:Str}{v:V}{u:Value}(a3:et X x)(hm:X.mg x=none)(bO:kO x=some u)(r:RelV v u)(aH:x≠"__name__":=by decide)(hd:(x==("__debug__" : Str))=false:=by decide):c1 X (.Name x pos) (kV v):=⟨PD a3 hm bO r aH hd⟩
theorem Sj{x:Str}{v:V}{u:Value}(a3:et X x)(hm:X.mg x=some u)(r:RelV v u)(hd:(x==("__debug__" : Str))=false:=by decide):c1 X (.Name x pos) (kV v):=⟨PC a3 hm r hd⟩
theorem Sk:jZ X [] HS:=⟨BK⟩
theorem IG(ax:c1 X e aZ)(ao:jZ X es t)(ap:e7 e=true:=by rfl):jZ X (e::es) (BJ aZ t):=⟨HT ax.run ao.run (ip ap)⟩
theorem Sl {g9} (h:jZ X es t):c1 X (.Tuple es g9 pos) (HU t):=⟨QL h.run⟩
theorem IH(h:jZ X es t):c1 X (.List es pos) (HV t):=⟨QM h.run⟩
theorem Sm{op:Operator}{r:eX}(aS:y5 X (hD op) r)(ax:c1 X a bb)(af:c1 X b bF):c1 X (.BinOp a op b pos) (pK r bb bF):=⟨Qb aS.run ax.run af.run⟩
theorem Sn{op:UnaryOp}{r:V->aw->cE->Prop}(aS:ID X (uG op) r)(ax:c1 X a bb):c1 X (.UnaryOp op a pos) (HJ r bb):=⟨Qc aS.run ax.run⟩
theorem So(ax:c1 X a bb):c1 X (.UnaryOp .Not a pos) (Hp bb):=⟨PM ax.run⟩
theorem Sp{op:m9}{r:eX}(aS:y5 X (d3 op) r)(ax:c1 X a bb)(af:c1 X b bF)(hm:ph op b=false):c1 X (.Compare a [op] [b] pos) (pK r bb bF):=⟨Qr aS.run ax.run af.run hm⟩
theorem Sq {op} (h:c1 X a bb):c1 X (.BoolOp op [a] pos) bb:=⟨PJ h.run⟩
theorem Sr{rest:List a8}(ax:c1 X a bb)(af:c1 X (.BoolOp .And (b::rest) pos) bF):c1 X (.BoolOp .And (a::b::rest) pos) (Hn bb bF):=⟨PK ax.run af.run⟩
theorem Ss{rest:List a8}(ax:c1 X a bb)(af:c1 X (.BoolOp .Or (b::rest) pos) bF):c1 X (.BoolOp .Or (a::b::rest) pos) (Ho bb bF):=⟨PL ax.run af.run⟩
theorem Su{bj:TT}(ai:k7 X c bj)(ax:c1 X a bb)(af:c1 X b bF):c1 X (.IfExp c a b pos) (Hq bj bb bF):=⟨PN ai.run ax.run af.run⟩
theorem Sv:vL X none H7:=⟨QY⟩
theorem Sw(h:c1 X e aZ):vL X (some e) (H8 aZ):=⟨QZ h.run⟩
theorem Sx{r:V->Option Int->Option Int->aw->cE->Prop}{lo av:Option a8}{e6 lJ:d6}{dZ:Pos}(ao:IF X r)(he:c1 X e aZ)(ar:vL X lo e6)(a_:vL X av lJ):c1 X (.Subscript e (.Slice lo av none dZ) pos) (H9 r aZ e6 lJ):=⟨Q0 ao.run he.run ar.run a_.run⟩
theorem II{r:eX}(ao:IE X r)(ax:c1 X a bb)(af:c1 X b bF)(ap:yT b):c1 X (.Subscript a b pos) (pK r bb bF):=⟨Q5 ao.run ax.run af.run ap⟩
theorem Cj{es:List a8}{env:Env}(h:es.all e7=true):(hO pos (dB es env)).any (·.1)=false:=by
 induction es with
 | nil=>rfl
 | cons x r aO=>
  rw [m_,fe] at h;rw [ip h.1];exact aO h.2
theorem Sy{k j:Nat}{x:Str}{ps:List Str}{sp:iK}(G:Got X.prog X.w X.K X.mg X.base k x ps sp)(ao:fy j X.A)(aN:k<=j)(a3:et X x)(ax:jZ X (e::es) t)(fF:(x==("__debug__" : Str))=false:=by decide)
 (ap:(e::es).all e7=true:=by rfl):c1 X (.Call (.Name x p) (e::es) [] pos) (yO sp [] vx t):=by
 have h:=ap;rw [m_,fe] at h;exact ⟨RZ G ao aN a3 ax.run fF (ip h.1) (Cj h.2)⟩
theorem Sz{x:Str}{id:String}{r:List V->aw->cE->Prop}(ai:Ci X (.builtin id) r)(a3:et X x)(hm:X.mg x=none)(bO:kO x=some (.builtin id))(ax:jZ X (e::es) t)(aH:x≠"__name__":=by decide)(fF:(x==("__debug__" : Str))=false:=by decide)
 (ap:(e::es).all e7=true:=by rfl):c1 X (.Call (.Name x p) (e::es) [] pos) (yS r t):=by
 have h:=ap;rw [m_,fe] at h;exact ⟨QQ ai.run a3 hm bO ax.run aH fF (ip h.1) (Cj h.2)⟩
theorem SA{x:Str}{T:String}{r:List V->aw->cE->Prop}(ai:Ci X (.type T) r)(a3:et X x)(hm:X.mg x=none)(bO:kO x=some (.type T))(ax:jZ X (e::es) t)(aH:x≠"__name__":=by decide)(fF:(x==("__debug__" : Str))=false:=by decide)
 (ap:(e::es).all e7=true:=by rfl):c1 X (.Call (.Name x p) (e::es) [] pos) (yS r t):=by
 have h:=ap;rw [m_,fe] at h;exact ⟨QR ai.run a3 hm bO ax.run aH fF (ip h.1) (Cj h.2)⟩
theorem IJ{name:Str}{T id:String}{r:V->List V->aw->cE->Prop}(ju:qw T)(slot:Slot T name id)(gK:n0 (.builtin id)=pure (.type "method_descriptor"))(hm:pP X id r)(aS:c1 X o to)(ax:jZ X [e] t)
 (i_:l8 o name X.env (eval o X.env)=eval o X.env:=by rfl) (ja:(apos.endLine==dk.line)=true:=by rfl) (ap:e7 e=true:=by rfl):c1 X (.Call (.Attribute o name apos) [e] [] dk) (Ij X.K T r to t):=
 ⟨Rq ju slot gK hm.run aS.run ax.run i_ (by rw [ip ap];rfl) ja (ip ap) rfl⟩
theorem SB{name:Str}{T id:String}{r:V->List V->aw->cE->Prop}(ju:qw T)(slot:Slot T name id)(gK:n0 (.builtin id)=pure (.type "method_descriptor"))(hm:pP X id r)(aS:c1 X o to)
 (i_:l8 o name X.env (eval o X.env)=eval o X.env:=by rfl) (ja:(apos.endLine==dk.line)=true:=by rfl):c1 X (.Call (.Attribute o name apos) [] [] dk) (Ii X.K T r to):=⟨Rp ju slot gK hm.run aS.run i_ ja⟩
theorem SD{op:m9}{r:eX}(aS:y5 X (d3 op) r)(ax:c1 X a bb)(af:c1 X b bF)(hm:ph op b=false):k7 X (.Compare a [op] [b] pos) (BF (pK r bb bF)):=⟨Qs aS.run ax.run af.run hm⟩
theorem SE{bj:TT}(ax:k7 X a bj):k7 X (.UnaryOp .Not a pos) (Hm bj):=⟨PI ax.run⟩
theorem SF(ax:c1 X a bb)(he:∀ whole,isTrue a X.env whole=(do let v ← whole;pp a.pos;jI [v] (truthy v))):k7 X a (λ σ H Q=>bb σ H λ x aj=>∃ k,BG X.K x aj k/\Q k aj):=⟨Qx ax.run he⟩
theorem SG{gk:TT}(ax:k7 X a gk):oA X (.BoolOp .And [a] pos) gk:=⟨PE ax.run⟩
theorem SH{gk:TT}(ax:k7 X a gk):oA X (.BoolOp .Or [a] pos) gk:=⟨PF ax.run⟩
theorem SI{gk ny:TT}{rest:List a8}(ax:k7 X a gk)(af:oA X (.BoolOp .And (b::rest) pos) ny):oA X (.BoolOp .And (a::b::rest) pos) (Hk gk ny):=⟨PG ax.run af.run⟩
theorem SJ{gk ny:TT}{rest:List a8}(ax:k7 X a gk)(af:oA X (.BoolOp .Or (b::rest) pos) ny):oA X (.BoolOp .Or (a::b::rest) pos) (Hl gk ny):=⟨PH ax.run af.run⟩
theorem oA.pt{gk:TT}(h:oA X e gk):k7 X e gk:=⟨nv.pt h.run⟩
theorem SK{k:Nat}{x:Str}(dG:X.N.Nodup)(av:X.N[k]?=some x)(ak:Loc X.env.scope x)(hf:X.fn x=true\/X.env.scope.names.lookup x=some .local:=by first | exact .inl rfl | exact .inr rfl | assumption):kx X (.Name x pos) (sS k):=⟨PT dG av ak hf⟩
theorem SL:vK X [] Hy:=⟨PU⟩
theorem SM{bl:gV}{u:mj}(ae:kx X e bl)(ag:vK X es u)(ap:(iE (e::es) X.env).map (·.2)=XV e X.env::(iE es X.env).map (·.2):=by rfl):vK X (e::es) (Hz bl u):=⟨PV ae.run ag.run ap⟩
theorem SN{k n:Nat}{bl:mj}(ai:X.calm=true)(h:vK X es bl)(aH:(iE es X.env).length=n:=by rfl)(hG:(iE es X.env).findIdx? (·.1)=none:=by rfl):kx X (.Tuple es k pos) (HA X.K n bl):=⟨PW ai h.run aH hG⟩
theorem SO{IK:vg}(aS:c1 X o to)(av:c1 X i h2)(ap:Sc X IK) (ax:∀ v,XV (.Subscript o i pos) X.env v=(do
 let gb ← jI [v] (eval o X.env)
 let i6 ← jI [v,gb] (eval i X.env)
 pp pos
 jI [v,gb,i6] (setItem gb i6 v)
 release [v,gb,i6] []):=by intro _;rfl):kx X (.Subscript o i pos) (HB to h2 IK):=⟨PX aS.run av.run ap.run ax⟩
theorem SP{bl:a8}(a3:et X "range")(hm:X.mg "range" = none)(ax:jZ X [a] t)(ap:e7 a=true:=by rfl):pO X bl (.Call (.Name "range" p) [a] [] pos) (HE t):=⟨P4 a3 hm ax.run (ip ap)⟩
theorem IL:my X [] Hr:=⟨PQ⟩
theorem IM{st:bP}{rest:List bP}{d4 us:eR}(ae:lL X st d4)(ag:my X rest us):my X (st::rest) (yF d4 us):=⟨Hs ae.run ag.run⟩
theorem IN{st:bP}{d4:eR}(ae:lL X st d4):my X [st] d4:=⟨Ht ae.run⟩
theorem IO(he:c1 X e aZ)(ap:jH e none pos.line X.env=pure false:=by rfl):lL X (.Expr e pos) (Hu aZ):=⟨Hv he.run ap⟩
theorem IP(he:c1 X e aZ):lL X (.Return (some e) pos) (Hw aZ):=⟨PR he.run⟩
theorem IQ{ss us:List bP}{bj:TT}{d4 lM:eR}(ai:k7 X c bj)(ax:my X ss d4)(af:my X us lM):lL X (.If c ss us pos) (Hx bj d4 lM):=⟨PS ai.run ax.run af.run⟩
theorem SQ{k:Nat}{x:Str}{pos':Pos}(dG:X.N.Nodup)(av:X.N[k]?=some x)(ak:Loc X.env.scope x)(he:c1 X e aZ)(ap:jH e (some (.Name x pos')) pos.line X.env=pure false:=by rfl)(hf:X.fn x=true\/X.env.scope.names.lookup x=some .local:=by first | exact .inl rfl | exact .inr rfl | assumption) :
 lL X (.Assign [.Name x pos'] e pos) (qR aZ (sS k)):=⟨PZ dG av ak he.run ap hf⟩
theorem SR{bl:a8}{g:gV}(he:c1 X e aZ)(a3:kx X bl g)(ap:W1 [bl] e pos.line X.env=pure false:=by rfl)(hw:uB [bl] e X.env=pure none:=by rfl)(ae:(iE [bl] X.env).map (·.2)=[XV bl X.env]:=by rfl):lL X (.Assign [bl] e pos) (qR aZ g):=⟨PY he.run a3.run ap hw ae⟩
theorem SS{body:List bP}{bj:TT}{vM:eR}(ah:qy (aY X.prog X.w) X.A X.env X.xe)(ai:k7 X c bj)(af:my X body vM):lL X (.While c body [] pos) (HC bj vM):=⟨P0 ah ai.run af.run⟩
theorem IR{bl iter:a8}{body:List bP}{d5:TI}{g:gV}{vM:eR}(ah:qy (aY X.prog X.w) X.A X.env X.xe)(ai:X.calm=true)(av:pO X bl iter d5)(a3:kx X bl g)(af:my X body vM)(ap:∀ x,m5 iter X.env x=pure x:=by intro _;rfl) :
 lL X (.For bl iter body [] pos) (HH d5 g vM):=⟨P7 ah ai av.run a3.run af.run ap⟩
theorem ST{scope:gg}{N':List Str}{nt:Nat}{cap:List Nat}{elt iter bl:a8}{d5:TI}{g:gV}(ai:X.calm=true)(ok:hI X scope N' nt cap)(av:pO X bl iter d5)(a3:∀ C ex s H,kx (fS X scope N' C ex s H) bl g)(he:∀ C ex s H,c1 (fS X scope N' C ex s H) elt aZ)
 (ap:∀ x,m5 iter X.env x=pure x:=by intro _;rfl):c1 X (.ListComp elt [⟨bl,iter,[],0⟩] scope pos) (vA d5 g aZ nt cap):=⟨RX ai ok av.run (λ C ex s H=>(a3 C ex s H).run) (λ C ex s H=>(he C ex s H).run) ap⟩
end
theorem dT.SU{P:cL}{w:b8}{K:aX}{mg:Str->Option Value}{base:bE}{x qual:Str}{st:bP}{f:Addr}{fd:gD}{N ps:List Str}{k:Nat}{sp:iK}(F:dT K x qual st f fd)(S:ek N ps (cb st))(len:∀ vs H Q E,sp vs H Q E->vs.length=ps.length)
 (kY:∀(bI:Value)(A:cz)(outer:List Env)(s:aE)(H:aw)(vs:List V)(Q:cE)(E:fY),fy k (A.deeper (envOfC qual (cb st) s.heap.objs.size f bI))->sp vs H Q E →
  ∃ t,my (eJ c6 P w K mg base N qual (cb st) f bI A outer s H E).mi (jb st) t/\t { nx:=λ _ aj=>Q .a9 aj,rt:=Q } (iL N vs) H):da P w K mg base c6 (k+1) f fd ps sp:=
 F.ok S len λ bI A outer s H vs Q E ao h=>let ⟨t,j,q⟩:=kY bI A outer s H vs Q E ao h;⟨t,j.run,q⟩
section
variable{X:aW}{scope:gg}{N':List Str}{nt:Nat}{cap:List Nat}{elt iter bl:a8}{pos:Pos}{d5:TI}{g:gV}{aZ:TE}
theorem SV{y:Str}{py pQ:Pos}{k:Nat}(ai:X.calm=true)(dG:X.N.Nodup)(aN:X.N[k]?=some y)(bv:Loc X.env.scope y)(c:hI X scope N' nt cap)(av:mm X bl iter d5)(a3:∀ C ex s H,nA (fS X scope N' C ex s H) bl g)(he:∀ C ex s H,b_ (fS X scope N' C ex s H) elt aZ)
 (ap:∀ x,m5 iter X.env x=pure x:=by intro _;rfl) (mz:jH (.ListComp elt [⟨bl,iter,[],0⟩] scope pos) (some (.Name y py)) pQ.line X.env=pure true:=by rfl) (hf:X.fn y=true\/X.env.scope.names.lookup y=some .local:=by first | exact .inl rfl | exact .inr rfl | assumption) :
 jR X (.Assign [.Name y py] (.ListComp elt [⟨bl,iter,[],0⟩] scope pos) pQ) (qR (vA d5 g aZ nt cap) (sS k)):=by
 intro pins s σ H nF I h;rw [exec_Assign_Name_used _ _ _ _ mz];refine aA (pg (aA ?_));show aU _ X.A (do let _ ← comprehension (.ListComp elt [⟨bl,iter,[],0⟩] scope pos) scope X.env _ (newList []) false (eval iter X.env) (some (XV (.Name y py) X.env))) _ _ s;refine aA (gC (G4 (use:=some (XV (.Name y py) X.env)) (Q:=λ _ aM=>kU X pins nF .next aM) rfl ap (Iv (c.has I.ok)) c.kind c.locs (b0 (av pins s σ H _ I h) λ v s1 ae=>b0 ae λ yG s2 ag=>?_)) (λ _ aM bc=>br (br bc)) λ _ _ e=>e);obtain ⟨it,fp,gI,J,bg,rfl,dg,T,qT,f2,R⟩:=ag;have mw:bg s2.heap.objs.size=none:=dg.bJ.fresh (ZB _);obtain ⟨W,⟨m0,ml⟩,turn⟩:=R _ mw
 have eH:Inv X pins σ (upd bg s2.heap.objs.size (.lst [])) { s2 with heap:=s2.heap.push { cls:=.type "list", dict:=none,data:=.seq ([]:List Value).toArray } }:=
  dg.laid (t':=s2.toks) (λ b u e=>cP _ e) (ZB _) ⟨ef _,[],0,.nil,f7 _ rfl⟩
 have ox:∀ b∈fp,b < s2.heap.objs.size:=λ b af=>by
  obtain ⟨o,e,_⟩:=T.obj _ _ qT b af;exact dc e
 have cV:∀ b∈fp,jr X pins (upd bg s2.heap.objs.size (.lst [])) b:=λ b af=>⟨by rw [cN (eO (ox b af))];exact (f2 b af).1,(f2 b af).2⟩
 have pJ:gI 0 (s2.heap.push { cls:=.type "list", dict:=none,data:=.seq ([]:List Value).toArray }):=T.keep _ _ _ qT λ b _ o e=>cP _ e;generalize vB:s2.heap.push { cls:=.type "list", dict:=none,data:=.seq ([]:List Value).toArray }=aR at eH pJ
 have q2:s2.heap.objs.size < aR.objs.size:=by rw [<- vB,sH];exact sx _
 generalize B2:s2.heap.objs.size=D at eH cV mw ml turn q2 ox;refine kf ?_;rw [B2,vB];refine Be c.B0 (by intro y bv;simp at bv) (λ bB vC vD=>?_) c.kind
 dsimp only at vC vD ⊢
 have vE:∀ b o,aR.get? b=some o->bB.get? b=some o:=λ b o e=>(vD.2 b (eO (dc e))).trans (cP _ e);have ij:=eH.comp (t':=s2.toks+([]:List (Str × Value)).length) c cV (λ b af=>sy (ox b af) q2) vE vC;have vF:gI 0 bB:=T.keep _ _ _ pJ λ b _ o e=>vE b o e
 dsimp only at ij
 have fin:∀{σ':St}{aj:aw}{aM:aE},Inv (fS X scope N' aR.objs.size fp { s2 with heap:=aR } (upd bg D (.lst []))) [] σ' aj aM->nF.nx (σ.set k (some (.ref D))) aj →
  compPost (aY X.prog X.w) X.A X.xe (some (XV (.Name y py) X.env)) (λ _ aM=>kU X pins nF .next aM) (.ref D) aR.objs.size (.ok .next) aM:=λ{σ' aj aM} y4 q=>by
  obtain ⟨m,aH,d8⟩:=eH.IB rfl cV y4;have SW:Inv X pins σ aj aM:=d8 aM.heap (Heap.SameBut.refl ..);have IS:aR.objs.size≠X.env.locals:=n4 eH.lt
  have IT:∀ x a,X.env.cells.lookup x=some a->a≠aR.objs.size:=λ x a e=>by
   obtain ⟨v,z⟩:=eH.cell x a e;exact eO z.lt
  show aU _ X.A (XV (.Name y py) X.env (.ref D)) _ _ aM;refine wpAny_assign_Name (Hg SW dG aN bv (v:=.ref D) rfl (λ vp SX i5=>?_) hf);obtain ⟨a,i7,ax⟩:=i5
  have SY:aR.objs.size≠a:=by
   rcases ax with z | z
   ·rw [z];exact IS
   ·exact (IT _ _ z).symm
  refine ⟨m,aH.sameBut i7 SY,λ h' im=>⟨_,aj,?_,q⟩⟩
  exact SX.turned (t':=vp.toks) (λ b o af e=>(im.2 b af).trans e) y4.free IS (.inr eH.eW) IT λ p ah z=>by
   have e:=(eH.pin p ah).1;rw [z] at e;exact absurd (dc e) (me _)
 have mn:∀{aj:aw},(∀ b∈fp,aj b=none)->∀ b∈fp,jr (fS X scope N' aR.objs.size fp { s2 with heap:=aR } (upd bg D (.lst []))) [] aj b:=λ{aj} aH b af=>by
  refine ⟨aH b af,eO (sy (ox b af) q2),λ z=>?_,.inl af,λ x a e=>(cV b af).2.2.2.2.1 x a (c.cells I.ok e),λ p ah=>absurd (show p∈([]:List (Addr × Obj)) from ah) (by simp)⟩;rcases cC.mp (I.sP b z) with y | y
  ·exact (cV b af).2.1 y
  ·exact (cV b af).2.2.1 y
 have loop:pq (aY X.prog X.w) X.A (.compLoop (.ListComp elt [⟨bl,iter,[],0⟩] scope pos) 0 (.ref it) (.ref D) (qB scope (il X.env.cells scope.names []) aR.objs.size X.env))
  (compPost (aY X.prog X.w) X.A X.xe (some (XV (.Name y py) X.env)) (λ _ aM=>kU X pins nF .next aM) (.ref D) aR.objs.size) { s2 with heap:=bB,toks:=s2.toks+([]:List (Str × Value)).length }:=by
  refine codeAny_loop rfl (λ n aM=>∃ i aD σ' aj,Inv (fS X scope N' aR.objs.size fp { s2 with heap:=aR } (upd bg D (.lst []))) [] σ' aj aM/\gI i aM.heap/\(∀ b∈fp,aj b=none)/\W i n aD σ' aj) (λ n s5 B3=>?_) m0 ⟨0,[],_,_,ij,vF,λ b af=>(cV b af).1,ml⟩;obtain ⟨i,aD,σ5,js,oh,oi,qV,vG⟩:=B3;show aU _ X.A ((compTurn (.ListComp elt [⟨bl,iter,[],0⟩] scope pos) 0 (.ref it) (.ref D) (qB scope (il X.env.cells scope.names []) aR.objs.size X.env)).onRaise (λ x=>do qA x (qB scope (il X.env.cells scope.names []) aR.objs.size X.env);theTreesLotGoes x)) _ _ s5;refine wpAny_noted ?_;rw [compTurn_list1];rcases turn i n aD σ5 js vG with ⟨stop,vl⟩ | ⟨go,step⟩
  ·refine aA (pg (aA (gC (T.done (fS X scope N' aR.objs.size fp { s2 with heap:=aR } (upd bg D (.lst []))) rfl rfl rfl ai i [] s5 σ5 js (λ _ _=>False) oh (mn qV) oi stop) (λ r ku ⟨ao,mq⟩=>?_) λ _ _ z=>z.elim)));subst ao;exact br (fin mq vl)
  ·refine aA (pg (aA (gC (T.item (fS X scope N' aR.objs.size fp { s2 with heap:=aR } (upd bg D (.lst []))) rfl rfl rfl ai i [] s5 σ5 js (λ _ _=>False) oh (mn qV) oi go) (λ r ku ⟨u,ao,mx⟩=>?_) λ _ _ z=>z.elim)));subst ao;refine aA (gC mx (λ _ jT ⟨x,i8,jU,vn,B4,q3,B5⟩=>?_) λ _ _ z=>z.elim);have B6:=jU.pinned (mn B5) (T.obj _ _ q3);refine aA (gC (a3 _ _ _ _ _ jT σ5 i8 x u _ B6 vn (step x i8 B4)) (λ _ B7 ⟨σ8,B8,B9,sY⟩=>?_) λ _ _ z=>z.elim);refine aA (aA (gC (he _ _ _ _ _ B7 σ8 B8 _ B9 sY) (λ B_ Ca ⟨y,vH,Cb,Cc,oy,vI,ej,Cd,Ce⟩=>?_) λ _ _ z=>z.elim))
   refine aA (gC (BS (X:=fS X scope N' aR.objs.size fp { s2 with heap:=aR } (upd bg D (.lst []))) _ Ca σ8 vH (.ref D) [y] (.ref D) [B_] (λ v vJ=>v=.a9/\vJ=upd vH D (.lst (aD++[y]))) Cb rfl (.cons Cc .nil) ⟨D,aD,y,rfl,rfl,oy,vI,rfl,rfl⟩)
    (λ _ RY ⟨v10,vJ,q4,_,_,Cf⟩=>?_) λ _ _ z=>z.elim)
   subst Cf;refine br (br ⟨rfl,ej,Cd,i+1,aD++[y],σ8,_,q4.vk,?_,λ b af=>?_,Ce⟩)
   ·exact T.keep _ _ _ q3 λ b af o e=>(q4.pin (b,o) (iF _ (iF _ (sT af e)))).1
   ·obtain ⟨o,e,d⟩:=T.obj _ _ q3 b af;exact (q4.pin (b,o) (iF _ (iF _ (sT af e)))).2.1
 exact G6 loop (T.self _ 0 _ _ _ vF loop)
end
end L2
namespace L2
open PySem PySem.Spec PyProof.Rows Builtin
section
variable{X:aW}
theorem IU{us:List Value}{xs:List V}(r:Vals xs us):∀ k:Nat,Vals (gh k xs).flatten (gh k us).flatten
 | 0=>.nil
 | k+1=>by
  rw [pz,pz,pA,pA];exact r.append (IU r k)
end
section
variable{X:aW}{a b c e:a8}{t:fk}{aZ:TE}{pos p:Pos}
theorem SZ{bl:a8}(a3:et X "range")(hm:X.mg "range" = none)(ax:jZ X [a,b] t)(ae:e7 a=true:=by rfl)(ag:e7 b=true:=by rfl):pO X bl (.Call (.Name "range" p) [a,b] [] pos) (HF t):=
 ⟨P5 a3 hm ax.run (by rw [ip ae,ip ag];rfl) (by rw [ip ag];rfl)⟩
variable{scope:gg}{N':List Str}{nt:Nat}{cap:List Nat}{elt iter bl:a8}{d5:TI}{g:gV}
theorem S0{y:Str}{py pQ:Pos}{k:Nat}(ai:X.calm=true)(dG:X.N.Nodup)(aN:X.N[k]?=some y)(bv:Loc X.env.scope y)(ok:hI X scope N' nt cap)(av:pO X bl iter d5)(a3:∀ C ex s H,kx (fS X scope N' C ex s H) bl g)(he:∀ C ex s H,c1 (fS X scope N' C ex s H) elt aZ)
 (ap:∀ x,m5 iter X.env x=pure x:=by intro _;rfl) (mz:jH (.ListComp elt [⟨bl,iter,[],0⟩] scope pos) (some (.Name y py)) pQ.line X.env=pure true:=by rfl) (hf:X.fn y=true\/X.env.scope.names.lookup y=some .local:=by first | exact .inl rfl | exact .inr rfl | assumption) :
 lL X (.Assign [.Name y py] (.ListComp elt [⟨bl,iter,[],0⟩] scope pos) pQ) (qR (vA d5 g aZ nt cap) (sS k)):=⟨SV ai dG aN bv ok av.run (λ C ex s H=>(a3 C ex s H).run) (λ C ex s H=>(he C ex s H).run) ap mz hf⟩
end
end L2
namespace lN
open PySem PyProof.Rows
theorem own:Manifest.owners.lookup (String.ofList ['d', 'e', 's', 'r', 'e', 'v', 'e', 'r'].reverse)=some Manifest.sig_reversed:=by kernel_rfl
theorem vN:Slot "reversed" "__next__" "reversed.__next__":=.of (owner:="reversed") (n:="__next__") (by rw [xK,xI];kernel_rfl) (by decide +kernel) (by decide +kernel) (by decide +kernel) (by first | exact .inl (by decide +kernel) | exact .inr (by decide +kernel)) (by rw [uA];kernel_rfl)
theorem IV:Slot "reversed" "__iter__" "reversed.__iter__":=.of (owner:="reversed") (n:="__iter__") (by rw [xK,xI];kernel_rfl) (by decide +kernel) (by decide +kernel) (by decide +kernel) (by first | exact .inl (by decide +kernel) | exact .inr (by decide +kernel)) (by rw [uA];kernel_rfl)
theorem S1:Slot "reversed" "__init__" "object.__init__":=.of (owner:="object") (n:="__init__") (by rw [xK,xI];kernel_rfl) (by decide +kernel) (by decide +kernel) (by decide +kernel) (by first | exact .inl (by decide +kernel) | exact .inr (by decide +kernel)) (by rw [uA];kernel_rfl)
theorem IW:entryFor table "reversed.__next__" = some Builtin.«reversed.__next__»:=entryFor_of_tree (by kernel_rfl)
theorem S2:entryFor table "reversed.__iter__" = some Builtin.«dict_keyiterator.__iter__»:=entryFor_alias (id':="dict_keyiterator.__iter__") (by kernel_rfl) (by first | rfl | decide +kernel | (unfold String.splitOn;simp +decide [String.splitOnAux])) (by decide +kernel) (by kernel_rfl)
theorem IX(a:Value):argsOk "reversed.__next__" ⟨[a],[]⟩:=by unfold argsOk;rw [signature?_of (id:="reversed.__next__") (n:=['_', '_', 't', 'x', 'e', 'n', '_', '_']) (o:=['d', 'e', 's', 'r', 'e', 'v', 'e', 'r']) (by kernel_rfl) own];kernel_rfl
theorem S3(a:Value):argsOk "reversed.__iter__" ⟨[a],[]⟩:=by unfold argsOk;rw [signature?_of (id:="reversed.__iter__") (n:=['_', '_', 'r', 'e', 't', 'i', '_', '_']) (o:=['d', 'e', 's', 'r', 'e', 'v', 'e', 'r']) (by kernel_rfl) own];kernel_rfl
theorem S4:TypeCalled "reversed" "reversed.__new__" "object.__init__":=⟨by decide +kernel,by decide +kernel,⟨_,_,F.mro_reversed⟩,F.made_reversed,by decide +kernel,by rw [uA];kernel_rfl,S1⟩
theorem S5:typeLookup (.type "tuple") "__reversed__" = pure none:=by rw [xK,xI];kernel_rfl
theorem S6:isSubtype (.type "tuple") (.type "dict")=pure false:=by rw [uA];kernel_rfl
abbrev s6(h:bE)(it t:Addr)(k:Int):Prop:=h.get? it=some { cls:=.type "reversed", dict:=none,data:=.fields #[.ref t,gE k],slots:=#[] }
section
variable{prog:cL}{w:b8}{A:cz}{E:Value->aE->Prop}{s:aE}{it t:Addr}
theorem IY{α:Type}{Q:α->aE->Prop}(d8:A.handled=none)(h:∀ h' e,(∀ b o,s.heap.get? b=some o->h'.get? b=some o)->Shared.TypeIs { s with heap:=h' } (.ref e) "StopIteration"->E (.ref e) { s with heap:=h' }):aU (aY prog w) A (Builtin.SmallTypes.stopIteration:Sem α) Q E s:=by
 unfold Builtin.SmallTypes.stopIteration;refine aA ?_;unfold newExc newTuple;refine aA (kf ?_ (by size_fits));rw [show firstArgMember (.type "StopIteration") []=pure Value.none from by unfold firstArgMember;rfl,pure_bind];refine kf ?_ (by size_fits);unfold raiseNew;refine aA (wpAny_handled ?_);rw [d8];exact wpAny_throw (h _ _ (λ b o e=>cP _ (cP _ e)) ⟨_,f7 _ rfl,rfl⟩)
theorem IZ{k:Int}{Q:Value->aE->Prop}(hit:s6 s.heap it t k)(h:Q (.ref it) s):aU (aY prog w) A (pyIter (.ref it)) Q E s:=
 have cW:s.TypeIs (.ref it) "reversed":=⟨_,hit,rfl⟩
 wpAny_pyIter_slot cW IV (kg IV cW S2 (br ⟨_,rfl,"reversed", _,cW,vN.lookup,h⟩) (S3 _))
theorem nextT{k:Nat}{items:Array Value}{x:Value}{Q:Option Value->aE->Prop}(hit:s6 s.heap it t k)(bh:ma s.heap t items)(ak:items[k]?=some x)(aN:(k:Int) < 2 ^ 63)
 (gj:∀ h' bL,s6 h' it t ((k:Int) - 1)->Heap.SameBut it s.heap h'->Q (some x) { s with heap:=h',toks:=bL }):aU (aY prog w) A (ki (.ref it)) Q E s:=by
 have cW:s.TypeIs (.ref it) "reversed":=⟨_,hit,rfl⟩
 have fm:k < items.size:=(sB.mp ak).1;unfold ki;refine aA (m7 (wpAny_callSpecial?_slot cW vN (kg vN cW IW ?_ (IX _))));refine (show aU (aY prog w) A.in1 (iZ (.ref it) 0 >>= _) _ _ s from aA (fi hit rfl (x:=.ref t) rfl ?_));refine (show aU (aY prog w) A.in1 (iZ (.ref it) 1 >>= _) _ _ s from aA (fi hit rfl (x:=gE k) rfl ?_));refine (show aU (aY prog w) A.in1 (if (k:Int) < 0 then _ else _) _ _ s from ?_);rw [if_neg (by omega)];refine aA (Bj bh.typeIs slot_tuple_getitem.lookup ?_);rw [if_neg (by simp)];refine (show aU (aY prog w) A.in1 (mkInt k >>= _) _ _ s from aA (wpAny_mkInt ?_));refine aA (m7 (getItem_tuple (j:=k) (x:=x) (s:={ s with toks:=s.toks+1 }) bh (by omega) aN (by simp [seqIndex?];omega) ak ?_));refine (show aU (aY prog w) A.in1 (iZ (.ref it) 1 >>= _) _ _ _ from aA (fi hit rfl (x:=gE k) rfl ?_));exact aA (pf hit rfl (by simp) (br ⟨x,rfl,br (gj _ _ (n7 _ hit rfl) (Heap.SameBut.update ..))⟩))
theorem S7{k:Int}{Q:Option Value->aE->Prop}(d8:A.handled=none)(hit:s6 s.heap it t k)(aN:k < 0)(gj:∀ h',Heap.ExtBut it s.heap h'->Q none { s with heap:=h' }):aU (aY prog w) A (ki (.ref it)) Q E s:=by
 have cW:s.TypeIs (.ref it) "reversed":=⟨_,hit,rfl⟩
 unfold ki;refine aA (m7 (wpAny_callSpecial?_slot cW vN (kg vN cW IW ?_ (IX _))));refine (show aU (aY prog w) A.in1 (iZ (.ref it) 0 >>= _) _ _ s from aA (fi hit rfl (x:=.ref t) rfl ?_));refine (show aU (aY prog w) A.in1 (iZ (.ref it) 1 >>= _) _ _ s from aA (fi hit rfl (x:=gE k) rfl ?_));refine (show aU (aY prog w) A.in1 (if k < 0 then _ else _) _ _ s from ?_);rw [if_pos aN];refine aA (m8 (aA ?_));refine (show aU (aY prog w) A.in1 (uE (.ref it) 1 (gE (-1)) >>= λ _=>uE (.ref it) 0 .none) _ _ s from aA (pf hit rfl (by simp) ?_));refine pf (n7 (Obj.mapFields (·.setIfInBounds 1 (gE (-1)))) hit rfl) rfl (by simp) ?_;refine aA (IY (A:=A.in1) d8 λ h' e dR ap=>?_);refine aA (xJ (T:="StopIteration") (b:=true) ap Bl (br (gj _ λ b o af e=>dR b o ?_)));exact ((Heap.SameBut.update ..).trans (Heap.SameBut.update ..)).extBut b o af e
end
theorem nG(t:Addr)(items:Array Value)(hz:(items.size:Int) < 2 ^ 63) :
 Meets (Builtin.«reversed.__new__» ⟨[.type "reversed", .ref t],[]⟩) (λ _ R s=>ma s.heap t items ∧
  ∀ bL,R (.ok (.ret (.ref s.heap.objs.size))) { s with heap:=s.heap.push { cls:=.type "reversed", data:=.fields #[.ref t,gE ((items.size:Int) - 1)] },toks:=bL }):=
 .of_wp λ prog w A R s ⟨bh,h⟩=>by
  unfold Builtin.«reversed.__new__»;refine aA (wpAny_of_eq (newClass_reversed _) (aA (m:=Builtin.SmallTypes.refuseKeywords _ _ _) (br ?_)));refine aA (wpAny_of_eq (a:=()) (by rfl) (aA (Bj bh.typeIs S5 (aA ?_))));refine (show aU (aY prog w) A.in1 (uD (Value.ref t) (.type "dict") >>= _) _ _ s from aA (xJ (T:="tuple") (b:=false) bh.typeIs S6 ?_));rw [if_neg (by decide)];refine aA (Bj bh.typeIs slot_tuple_getitem.lookup ?_);refine (show aU (aY prog w) A.in1 (if (["tuple.__getitem__", "str.__getitem__", "bytes.__getitem__", "bytearray.__getitem__", "memoryview.__getitem__", "numpy.ndarray.__getitem__", "sqlite3.Row.__getitem__"].contains "tuple.__getitem__")=true then _ else _) _ _ s from ?_);rw [if_pos (by decide)];refine br ?_;rw [if_neg (by decide)];refine (show aU (aY prog w) A.in1 (call (.builtin "len") [.ref t] >>= _) _ _ s from aA (len_tuple bh hz ?_));refine aA (m:=asInt? (.int (items.size:Int) _)) (br ?_);refine (show aU (aY prog w) A.in1 (newObj (.type "reversed") (.fields #[.ref t,gE ((items.size:Int) - 1)]) >>= _) _ _ _ from aA (kf ?_ (by size_fits)));exact br ⟨_,rfl,h _⟩
theorem S8{prog:cL}{w:b8}{A:cz}{E:Value->aE->Prop}{s:aE}{t:Addr}{items:Array Value}{Q:Value->aE->Prop}(bh:ma s.heap t items)(hz:(items.size:Int) < 2 ^ 63)
 (h:∀ bL,Q (.ref s.heap.objs.size) { s with heap:=s.heap.push { cls:=.type "reversed", data:=.fields #[.ref t,gE ((items.size:Int) - 1)] },toks:=bL }):aU (aY prog w) A (call (.type "reversed") [.ref t]) Q E s:=
 callType_new S4 (by decide) (F.typeCall_reversed_1 _) (F.newCall_reversed_1 _) (λ obj=>F.args_object_init_2 obj _) F.entry_reversed_new (nG t items hz) ⟨bh,λ bL=>⟨⟨_,f7 _ rfl,rfl⟩,h bL⟩⟩
section
variable{prog:cL}{w:b8}{A:cz}{E:Value->aE->Prop}{s:aE}{R:Result->aE->Prop}{I S:Addr}{fp wr:List Addr}{n:Nat}{P:Nat->Value->Prop}{St:Nat->aE->Prop}
abbrev listAt(acc:Array Value)(c:Nat):Obj:={ cls:=.type "list", dict:=none,data:=.seq acc c,slots:=#[] }
end
theorem S9{wr:List Addr}{s aM:aE}(hm:Moved wr (λ a b=>b=a) s aM):aM={ s with heap:=aM.heap,toks:=aM.toks }:=by
 obtain ⟨h',g',d',I0,vo⟩:=aM;cases (show g'=s.gens from hm.gens);cases (show d'=s.drawn from hm.drawn);cases (show vo=s.os from hm.os);rfl
end lN
namespace L2
open PySem PySem.Spec PyProof.Rows
section
variable{X:aW}{e:a8}{aZ:TE}{p dZ pos y6:Pos}
def S_(X:aW)(pins:List (Addr × Obj))(σ:St)(R:Addr->List V->aw->Prop)(v:Value)(s:aE):Prop:=
 ∃(a it:Addr)(xs:List V)(az:List Value)(H:aw),v=.ref it/\Inv X pins σ H s/\lN.s6 s.heap it a ((az.toArray.size:Int) - 1)/\ma s.heap a az.toArray/\a≠it/\Vals xs az/\az.toArray.size<=sizeLine/\dH X.K H a xs/\jr X pins H it/\R a xs H
def Ta(X:aW)(pins:List (Addr × Obj))(σ:St)(R:Addr->List V->aw->Prop)(v:Value)(s:aE):Prop:=
 ∃(a it:Addr)(xs:List V)(az:List Value)(H:aw),v=.ref it/\Inv X pins σ H s/\s.heap.IsRevIter it a ((az.toArray.size:Int) - 1)/\s.heap.IsList a az.toArray/\a≠it/\Vals xs az/\az.toArray.size<=sizeLine/\eu X.K H a xs/\jr X pins H it/\R a xs H
theorem Tb{pins:List (Addr × Obj)}{s:aE}{σ:St}{H:aw}{R:Addr->List V->aw->Prop}(a3:et X "reversed")(hm:X.mg "reversed" = none)(he:b_ X e aZ)(ap:e7 e=true)(I:Inv X pins σ H s)
 (h:aZ σ H λ x H1=>∃ a xs,x=.ref a/\dH X.K H1 a xs/\R a xs H1):aU (aY X.prog X.w) X.A (eval (.Call (.Name "reversed" dZ) [e] [] y6) X.env) (S_ X pins σ R) X.xe s:=by
 refine XL (oe I a3 hm PyProof.Rows.boot_reversed ?_);refine qK ?_ (ip ap) rfl;rw [ip ap];show aU _ _ (spliced ((false,eval e X.env)::hO y6 (dB [] X.env))) _ _ s;refine Calls.spliced_cons (b0 (he pins s σ H _ I h) λ u s1 ⟨x,H1,a4,aT,a,xs,ex,bc,q⟩=>Calls.spliced_nil ?_);subst ex;cases aT;obtain ⟨az,a6,pl,hz⟩:=a4.tuple bc;have ar:=a6.length;have aeZ:=om;refine lN.S8 pl (by rw [cM];omega) λ bL=>?_;exact ⟨a,s1.heap.objs.size,xs,az,H1,rfl,a4.kept λ b o e=>cP _ e,f7 _ rfl,pl.push _,eO pl.lt,a6,by rw [cM];omega,bc,a4.pI (ZB _) (a4.bJ.fresh (ZB _)),q⟩
theorem ae0{pins:List (Addr × Obj)}{s:aE}{σ:St}{H:aw}{R:Addr->List V->aw->Prop}(a3:et X "reversed")(hm:X.mg "reversed" = none)(he:b_ X e aZ)(ap:e7 e=true)(I:Inv X pins σ H s)
 (h:aZ σ H λ x H1=>∃ a xs,x=.ref a/\eu X.K H1 a xs/\R a xs H1):aU (aY X.prog X.w) X.A (eval (.Call (.Name "reversed" dZ) [e] [] y6) X.env) (Ta X pins σ R) X.xe s:=by
 refine XL (oe I a3 hm PyProof.Rows.boot_reversed ?_);refine qK ?_ (ip ap) rfl;rw [ip ap];show aU _ _ (spliced ((false,eval e X.env)::hO y6 (dB [] X.env))) _ _ s;refine Calls.spliced_cons (b0 (he pins s σ H _ I h) λ u s1 ⟨x,H1,a4,aT,a,xs,ex,bc,q⟩=>Calls.spliced_nil ?_);subst ex;cases aT;obtain ⟨az,a6,pl,hz⟩:=a4.list bc;have ar:=a6.length
 have fm:a < s1.heap.objs.size:=by obtain ⟨o,aS,_⟩:=pl.isList;exact dc aS
 refine call_reversed_list pl.isList ?_;exact ⟨a,s1.heap.objs.size,xs,az,H1,rfl,a4.kept (t':=s1.toks) λ b o e=>cP _ e,⟨_,f7 _ rfl,rfl,rfl⟩,let ⟨o,aS,r⟩:=pl.isList;⟨o,cP _ aS,r⟩,eO fm,a6,by rw [cM];omega,bc,a4.pI (ZB _) (a4.bJ.fresh (ZB _)),q⟩
theorem ae1{pins:List (Addr × Obj)}{σ:St}{H:aw}{s aM:aE}{it:Addr}{acc:Array Value}{c:Nat}{aD:List V}{Q:cE}(I:Inv X pins σ H s)(fp:jr X pins H it)(hit:it < s.heap.objs.size)
 (hm:Moved (s.heap.objs.size::[it]) (λ a b=>b=a) { s with heap:=s.heap.push (lN.listAt #[] 0) } aM) (ew:aM.heap.get? s.heap.objs.size=some (lN.listAt acc c))
 (a6:Vals aD acc.toList) (hz:aD.length<=sizeLine) (q:∀ l,H l=none->Q (.ref l) (upd H l (.lst aD))):f_ X pins σ Q (.ref s.heap.objs.size) aM:=by
 have dg:Inv X pins σ (upd H s.heap.objs.size (.lst aD)) { s with heap:=s.heap.push { cls:=.type "list", dict:=none,data:=.seq acc c,slots:=#[] } }:=
  I.laid (t':=s.toks) (λ b o e=>cP _ e) (ZB _) (show f9 X.prog X.w _ _ _ (.lst aD) from ⟨hz,acc.toList,c,a6,by simpa using f7 s.heap (o:={ cls:=.type "list", dict:=none,data:=.seq acc c,slots:=#[] }) rfl⟩)
 obtain ⟨f0,f1,f2,cV,f4,eI⟩:=fp;have eH:=dg.turned (h':=aM.heap) (t':=aM.toks) (it:=it) (λ b o af e=>?_) (by rw [cN (eO hit)];exact f0) f1 cV f4 eI
 ·rw [lN.S9 hm];exact ⟨.ref s.heap.objs.size,_,eH,rfl,q _ (I.bJ.fresh (ZB _))⟩
 ·rcases Heap.get?_push_cases e with ⟨cI,b9⟩ | e
  ·rw [cI,b9];exact ew
  ·refine hm.heap b o (λ z=>?_) (cP _ e);simp only [cC,eV,or_false] at z;rcases z with z | z
   ·rw [z] at e;exact absurd (dc e) (me _)
   ·exact af z
theorem Tc:∀(bs:List Bool),(hE bs.length).all (λ i=>bs.getD i true)=bs.all id:=by
 intro bs;rw [pF,lz,lz];constructor
 ·intro h x ak;obtain ⟨i,av,e⟩:=List.getElem_of_mem ak;have:=h i (n3.mpr av);rw [i0,fv av,uX,e] at this;exact this
 ·intro h i av;have s7:=n3.mp av;rw [i0,fv s7,uX];exact h _ (jJ s7)
def Td(K:aX):List V->aw->cE->Prop:=λ xs H Q=>∃(p:Addr)(bs:List Bool),xs=[.ref p]/\eu K H p (bs.map V.aI)/\Q (.aI (bs.all id)) H
theorem Te(ai:X.calm=true):h3 X (.builtin "all") (Td X.K):=by
 intro pins s σ H xs us Q I r h;obtain ⟨p,bs,rfl,ah,gj⟩:=h;obtain ⟨u,rfl,c5⟩:=r.one;cases c5;obtain ⟨az,a6,pl,hz⟩:=I.list ah;have hlen:=a6.length;rw [er] at hlen
 have fm:p < s.heap.objs.size:=by obtain ⟨o,aS,_⟩:=pl.isList;exact dc aS
 refine call_all_walk (wpAny_pyIter_list pl.isList ?_);refine ⟨s.heap.objs.size,[s.heap.objs.size,p],[s.heap.objs.size],az.toArray.size,_,_,λ i=>bs.getD i true,rfl,Walks.list (A:=X.A.in1) (I.ok.hd ai) _ p (eO fm) az.toArray,⟨⟨_,f7 _ rfl,rfl,rfl⟩,let ⟨o,aS,r⟩:=pl.isList;⟨o,cP _ aS,r⟩⟩,?_,λ h' bL dR=>?_⟩
 ·intro i v aM h1 gX bO bc
  have av:i < az.length:=by
   have:=(sB.mp bO).1;simpa using this
  obtain ⟨v1,aC,aG⟩:=a6.get (i:=i) (x:=V.aI bs[i]) (by rw [iG,fv (by omega)];rfl)
  have e3:az[i]?=some v:=by simpa using bO
  rw [aC] at e3;cases e3;have e4:v=Value.bool bs[i]:=aG;subst e4;refine nX ?_
  have j0:bs.getD i true=bs[i]:=by rw [i0,fv (by omega)];rfl
  rw [<- j0];exact bc
 ·refine ⟨.aI (bs.all id),H,I.kept λ b o e=>dR b o ?_ (cP _ e),?_,gj⟩
  ·simp only [cC,eV,or_false];exact eO (dc e)
  ·show Value.bool _=Value.bool _;rw [cM,<- hlen,Tc]
end
end L2
namespace vO
open PySem PyProof.Rows
section
variable{prog:cL}{w:b8}{A:cz}{E:Value->aE->Prop}{s:aE}
theorem I1{it t:Addr}{i:Nat}{items:Array Value}{x:Value}{Q:Value->aE->Prop}(hit:s.heap.IsTupleIter it t i)(bh:s.heap.IsTuple t items)(ak:items[i]?=some x)
 (gj:∀ h',h'.IsTupleIter it t (i+1)->Heap.SameBut it s.heap h'->Q x { s with heap:=h' }):aU (aY prog w) A (Builtin.SmallTypes.nextOf (.ref it)) Q E s:=by
 obtain ⟨o,aS,ai,hd⟩:=id hit;obtain ⟨ol,Ck,_,nl,q6⟩:=bh;unfold Builtin.SmallTypes.nextOf;refine aA (wpAny_callSpecial?_slot hit.typeIs F.slot_tuple_iterator_next (kg F.slot_tuple_iterator_next hit.typeIs F.entry_tuple_iterator_next ?_ (F.args_tuple_iterator_next_1 _)));refine (show aU (aY prog w) A.in1 (iZ (.ref it) 0 >>= _) _ _ s from aA (fi aS hd (x:=.ref t) rfl ?_));refine (show aU (aY prog w) A.in1 (if (Value.ref t==Value.none)=true then _ else _) _ _ s from ?_);rw [if_neg (show ¬ ((Value.ref t==Value.none)=true) from kS)];refine (show aU (aY prog w) A.in1 (iZ (.ref it) 1 >>= _) _ _ s from aA (fi aS hd (x:=.int i 0) rfl ?_));refine (show aU (aY prog w) A.in1 (seqItems? (.ref t) >>= _) _ _ s from aA (qu Ck q6 ?_));simp only [u3,ak];refine aA (pf aS hd (by simp) (br ⟨x,rfl,br (gj _ ⟨_,n7 _ aS (Obj.isFreed_of_fields (Obj.data_mapFields hd _)),(Obj.cls_mapFields ..).trans ai,?_⟩ (Heap.SameBut.update ..))⟩));rw [Obj.data_mapFields hd];simp [gE]
theorem Tf{it t:Addr}{i:Nat}{items:Array Value}{Q:Value->aE->Prop}(d8:A.handled=none)(hit:s.heap.IsTupleIter it t i)(bh:s.heap.IsTuple t items)(ak:items[i]?=none)
 (vP:∀ h' e,Heap.ExtBut it s.heap h'->Shared.TypeIs { s with heap:=h' } (.ref e) "StopIteration"->E (.ref e) { s with heap:=h' }):aU (aY prog w) A (Builtin.SmallTypes.nextOf (.ref it)) Q E s:=by
 obtain ⟨o,aS,ai,hd⟩:=id hit;obtain ⟨ol,Ck,_,nl,q6⟩:=bh;unfold Builtin.SmallTypes.nextOf;refine aA (wpAny_callSpecial?_slot hit.typeIs F.slot_tuple_iterator_next (kg F.slot_tuple_iterator_next hit.typeIs F.entry_tuple_iterator_next ?_ (F.args_tuple_iterator_next_1 _)));refine (show aU (aY prog w) A.in1 (iZ (.ref it) 0 >>= _) _ _ s from aA (fi aS hd (x:=.ref t) rfl ?_));refine (show aU (aY prog w) A.in1 (if (Value.ref t==Value.none)=true then _ else _) _ _ s from ?_);rw [if_neg (show ¬ ((Value.ref t==Value.none)=true) from kS)];refine (show aU (aY prog w) A.in1 (iZ (.ref it) 1 >>= _) _ _ s from aA (fi aS hd (x:=.int i 0) rfl ?_));refine (show aU (aY prog w) A.in1 (seqItems? (.ref t) >>= _) _ _ s from aA (qu Ck q6 ?_));simp only [u3,ak];refine aA (m8 (aA (pf aS hd (by simp) ?_)));exact lN.IY (A:=A.in1) d8 λ h' e dR ap=>vP _ e (λ b dM af bV=>dR b dM ((Heap.SameBut.update ..).extBut b dM af bV)) ap
structure St(z TI d6 cG c7 bD b5:Addr)(f0:Value)(i:Nat)(h:bE):Prop where
 zip:pw h z TI d6 f0
 h2:pr h TI (.ref cG) (.ref c7)
 to:∃ a b,pr h d6 a b
 ae2:h.IsTupleIter cG bD i
 ae3:h.IsTupleIter c7 b5 i
variable{z TI d6 cG c7 bD b5:Addr}{i:Nat}{xs aD:Array Value}
theorem Tg{x y:Value}{Q:Option Value->aE->Prop}(D:uF z TI d6 cG c7 bD b5)(st:St z TI d6 cG c7 bD b5 .none i s.heap)(oB:s.heap.IsTuple bD xs)(hb:s.heap.IsTuple b5 aD)(ak:xs[i]?=some x)(bv:aD[i]?=some y)
 (gj:∀ h',St z TI d6 cG c7 bD b5 (gE s.heap.objs.size) (i+1) h'->pr h' s.heap.objs.size x y->(∀ c o,c≠z->c≠d6->c≠cG->c≠c7->s.heap.get? c=some o->h'.get? c=some o)->Q (some (.ref s.heap.objs.size)) { s with heap:=h' }) :
 aU (aY prog w) A (ki (.ref z)) Q E s:=by
 obtain ⟨hz,y7,⟨a,b,I2⟩,ae,ag⟩:=st
 have cW:s.TypeIs (.ref z) "zip":=⟨_,hz,rfl⟩
 unfold ki;refine aA (m7 (wpAny_callSpecial?_slot cW F.slot_zip_next (kg F.slot_zip_next cW F.entry_zip_next ?_ (F.args_zip_next_1 _))));refine (show aU (aY prog w) A.in1 (iZ (.ref z) 2 >>= _) _ _ _ from aA (fi hz rfl (x:=.bool false) rfl ?_));refine (show aU (aY prog w) A.in1 (iZ (.ref z) 3 >>= _) _ _ _ from aA (fi hz rfl (x:=.ref TI) rfl (aA (qu y7 rfl ?_))));refine (show aU (aY prog w) A.in1 (Builtin.SmallTypes.ownedTupleIsFree (.ref z) >>= _) _ _ _ from aA ?_);unfold Builtin.SmallTypes.ownedTupleIsFree;refine aA (fi hz rfl (x:=.none) rfl (br ?_));simp only [if_true];refine aA (m8 (aA (fi hz rfl (x:=.ref d6) rfl (aA (m4 hz (by simp) λ g1 q7 k1=>aA ?_)))))
 replace q7:pw g1 z TI d6 .ellipsis:=q7
 simp only [List.zipIdx_cons,List.zipIdx_nil,x2,List.forIn_nil];refine aA (aA (Bo ?_));refine (show aU (aY prog w) A.in1 (Builtin.SmallTypes.nextOf (.ref cG) >>= _) _ _ _ from aA (I1 (ae.extBut k1.extBut D.i1z) (oB.extBut k1.extBut D.l1z) ak λ g2 ey k2=>br ?_));have I3:pr g2 d6 a b:=k2.extBut _ _ D.TOi1 (k1.extBut _ _ D.TOz I2);refine aA (qu I3 rfl (aA (wpAny_updateSeq_pair I3 λ g3 Cm k3=>aA (wpAny_letGo (br ?_)))))
 replace Cm:pr g3 d6 x b:=Cm
 refine aA (aA (Bo ?_));refine (show aU (aY prog w) A.in1 (Builtin.SmallTypes.nextOf (.ref c7) >>= _) _ _ _ from aA (I1 (((ag.extBut k1.extBut D.i2z).extBut k2.extBut D.i12.symm).extBut k3.extBut D.TOi2.symm) (((hb.extBut k1.extBut D.l2z).extBut k2.extBut D.l2i1).extBut k3.extBut D.l2TO) bv λ fT hQ jc=>br ?_));have I4:pr fT d6 x b:=jc.extBut _ _ D.TOi2 Cm;refine aA (qu I4 rfl (aA (wpAny_updateSeq_pair I4 λ gY y8 k5=>aA (wpAny_letGo (br (br ?_))))))
 replace y8:pr gY d6 x y:=y8
 refine aA (qu y8 rfl (aA (xM ?_)))
 have hsz:gY.objs.size=s.heap.objs.size:=by rw [k5.1,jc.1,k3.1,k2.1,k1.1]
 have I5:pw gY z TI d6 .ellipsis:=k5.extBut _ _ D.TOz.symm (jc.extBut _ _ D.i2z.symm (k3.extBut _ _ D.TOz.symm (k2.extBut _ _ D.i1z.symm q7)));have keep:∀ c o,c≠z->c≠d6->c≠cG->c≠c7->s.heap.get? c=some o->gY.get? c=some o:=λ c o bu bt d0 gq e=>k5.extBut _ _ bt (jc.extBut _ _ gq (k3.extBut _ _ bt (k2.extBut _ _ d0 (k1.extBut _ _ bu e))));have Th:gY.IsTupleIter cG bD (i+1):=((ey.extBut k3.extBut D.TOi1.symm).extBut jc.extBut D.i12).extBut k5.extBut D.TOi1.symm;have Cn:gY.IsTupleIter c7 b5 (i+1):=hQ.extBut k5.extBut D.TOi2.symm;refine (show aU (aY prog w) A.in1 (Builtin.SmallTypes.ownedTupleHandOut (.ref z) (.ref gY.objs.size) >>= _) _ _ _ from aA ?_);unfold Builtin.SmallTypes.ownedTupleHandOut;have Ti:pw (gY.push { cls:=.type "tuple", data:=.seq #[x,y] }) z TI d6 .ellipsis:=cP _ I5;refine aA (m4 Ti (by simp) λ Tj Co I6=>?_)
 replace Co:pw Tj z TI d6 (gE gY.objs.size):=Co
 refine m4 Co (by simp) λ y9 y_ I7=>?_
 replace y_:pw y9 z TI d6 (gE gY.objs.size):=y_
 have up:∀ c o,c≠z->gY.get? c=some o->y9.get? c=some o:=λ c o bu e=>I7.extBut _ _ bu (I6.extBut _ _ bu (cP _ e));have hg:gY.objs.size≠z:=n4 (dc I5);have I8:pr y9 gY.objs.size x y:=I7.extBut _ _ hg (I6.extBut _ _ hg (f7 _ rfl));rw [hsz] at y_ I8;refine br ⟨_,rfl,br ?_⟩;rw [hsz];exact gj y9 ⟨y_,up _ _ D.TIz (keep _ _ D.TIz D.TITO D.TIi1 D.TIi2 y7),⟨x,y,up _ _ D.TOz y8⟩,let ⟨o,aS,r⟩:=Th;⟨o,up _ _ D.i1z aS,r⟩,let ⟨o,aS,r⟩:=Cn;⟨o,up _ _ D.i2z aS,r⟩⟩ I8 λ c o bu bt d0 gq e=>up c o bu (keep c o bu bt d0 gq e)
theorem Tl{Q:Option Value->aE->Prop}(d8:A.handled=none)(D:uF z TI d6 cG c7 bD b5)(st:St z TI d6 cG c7 bD b5 .none i s.heap)(oB:s.heap.IsTuple bD xs)(ak:xs[i]?=none)
 (gj:∀ h',(∀ c o,c≠z->c≠d6->c≠cG->c≠c7->s.heap.get? c=some o->h'.get? c=some o)->Q none { s with heap:=h' }):aU (aY prog w) A (ki (.ref z)) Q E s:=by
 obtain ⟨hz,y7,⟨a,b,I2⟩,ae,ag⟩:=st
 have cW:s.TypeIs (.ref z) "zip":=⟨_,hz,rfl⟩
 unfold ki;refine aA (m7 (wpAny_callSpecial?_slot cW F.slot_zip_next (kg F.slot_zip_next cW F.entry_zip_next ?_ (F.args_zip_next_1 _))));refine (show aU (aY prog w) A.in1 (iZ (.ref z) 2 >>= _) _ _ _ from aA (fi hz rfl (x:=.bool false) rfl ?_));refine (show aU (aY prog w) A.in1 (iZ (.ref z) 3 >>= _) _ _ _ from aA (fi hz rfl (x:=.ref TI) rfl (aA (qu y7 rfl ?_))));refine (show aU (aY prog w) A.in1 (Builtin.SmallTypes.ownedTupleIsFree (.ref z) >>= _) _ _ _ from aA ?_);unfold Builtin.SmallTypes.ownedTupleIsFree;refine aA (fi hz rfl (x:=.none) rfl (br ?_));simp only [if_true];refine aA (m8 (aA (fi hz rfl (x:=.ref d6) rfl (aA (m4 hz (by simp) λ g1 q7 k1=>aA ?_)))))
 replace q7:pw g1 z TI d6 .ellipsis:=q7
 simp only [List.zipIdx_cons,List.zipIdx_nil,x2,List.forIn_nil];refine aA (aA (Bo ?_));refine (show aU (aY prog w) A.in1 (Builtin.SmallTypes.nextOf (.ref cG) >>= _) _ _ _ from aA (Tf (A:=A.in1) d8 (ae.extBut k1.extBut D.i1z) (oB.extBut k1.extBut D.l1z) ak λ g2 e k2 he=>?_));obtain ⟨de,I9,I_⟩:=he;have sZ:pw g2 z TI d6 .ellipsis:=k2 _ _ D.i1z.symm q7
 have Cp:e≠z:=λ q=>by
  subst q;have bo:some _=some de:=Eq.trans (Eq.symm sZ) I9;cases bo;simp at I_
 refine m4 sZ (by simp) λ g3 _ k3=>?_;refine aA (xJ (T:="StopIteration") (b:=true) ⟨de,k3.extBut _ _ Cp I9,I_⟩ Bl (br (gj _ λ c o bu _ d0 _ q=>?_)));exact k3.extBut _ _ bu (k2 _ _ d0 (k1.extBut _ _ bu q))
end
abbrev g1(h:bE)(bD:Addr):bE:=h.push { cls:=.type "tuple_iterator", data:=.fields #[.ref bD,.int 0 0] }
abbrev g2(h:bE)(bD b5:Addr):bE:=(g1 h bD).push { cls:=.type "tuple_iterator", data:=.fields #[.ref b5,.int 0 0] }
abbrev g3(h:bE)(bD b5:Addr):bE:=(g2 h bD b5).push { cls:=.type "tuple", data:=.seq #[.ref h.objs.size,.ref (g1 h bD).objs.size] }
abbrev fT(h:bE)(bD b5:Addr):bE:=(g3 h bD b5).push { cls:=.type "tuple", data:=.seq #[.none,.none] }
abbrev gY(h:bE)(bD b5:Addr):bE:=(fT h bD b5).push { cls:=.type "zip", data:=.fields #[.none,.bool false,.bool false,.ref (g2 h bD b5).objs.size,.ref (g3 h bD b5).objs.size] }
theorem Tn(bD b5:Addr)(xs aD:Array Value) :
 Meets (Builtin.«zip.__new__» ⟨[.type "zip", .ref bD,.ref b5],[]⟩) (λ _ R s=>s.heap.IsTuple bD xs/\s.heap.IsTuple b5 aD/\R (.ok (.ret (.ref (fT s.heap bD b5).objs.size))) { s with heap:=gY s.heap bD b5 }):=
 .of_wp λ prog w A R s h=>by
  obtain ⟨ah,g,d,bL,os⟩:=s;obtain ⟨oB,hb,h⟩:=h;have ae4:=sub_zip;have To:Heap.IsTuple (Shared.heap ⟨ah,g,d,bL,os⟩) bD xs:=oB;have Tp:Heap.IsTuple (Shared.heap ⟨g1 ah bD,g,d,bL,os⟩) b5 aD:=Heap.IsTuple.push hb _
  wp_walk using Bf To,Bf Tp
  exact ⟨_,rfl,h⟩
theorem Tq{prog:cL}{w:b8}{A:cz}{E:Value->aE->Prop}{s:aE}{bD b5:Addr}{xs aD:Array Value}{Q:Value->aE->Prop}(oB:s.heap.IsTuple bD xs)(hb:s.heap.IsTuple b5 aD)
 (h:∀ h',St (s.heap.objs.size+4) (s.heap.objs.size+2) (s.heap.objs.size+3) s.heap.objs.size (s.heap.objs.size+1) bD b5 .none 0 h'->(∀ c o,s.heap.get? c=some o->h'.get? c=some o)->Q (.ref (s.heap.objs.size+4)) { s with heap:=h' }) :
 aU (aY prog w) A (call (.type "zip") [.ref bD,.ref b5]) Q E s:=by
 refine callType_new F.called_zip (by decide) (F.typeCall_zip_2 _ _) (F.newCall_zip_2 _ _) (λ obj=>F.args_object_init_3 obj _ _) F.entry_zip_new (Tn bD b5 xs aD) ⟨oB,hb,?_⟩;have cI:(g1 s.heap bD).objs.size=s.heap.objs.size+1:=sH ..
 have b9:(g2 s.heap bD b5).objs.size=s.heap.objs.size+2:=by rw [sH,cI]
 have gZ:(g3 s.heap bD b5).objs.size=s.heap.objs.size+3:=by rw [sH,b9]
 have pR:(fT s.heap bD b5).objs.size=s.heap.objs.size+4:=by rw [sH,gZ]
 have j0:(gY s.heap bD b5).get? (fT s.heap bD b5).objs.size=some _:=f7 _ rfl;have e4:(gY s.heap bD b5).get? (g3 s.heap bD b5).objs.size=some _:=cP _ (f7 _ rfl);have e3:(gY s.heap bD b5).get? (g2 s.heap bD b5).objs.size=some _:=cP _ (cP _ (f7 _ rfl));have aG:(gY s.heap bD b5).get? (g1 s.heap bD).objs.size=some _:=cP _ (cP _ (cP _ (f7 _ rfl)));have aC:(gY s.heap bD b5).get? s.heap.objs.size=some _:=cP _ (cP _ (cP _ (cP _ (f7 _ rfl))));rw [b9,gZ,pR] at j0;rw [cI,b9] at e3;rw [gZ] at e4;rw [cI] at aG;show _/\_;rw [pR];exact ⟨⟨_,j0,rfl⟩,h _ ⟨j0,e3,⟨_,_,e4⟩,⟨_,aC,rfl,rfl⟩,⟨_,aG,rfl,rfl⟩⟩ λ c o x=>cP _ (cP _ (cP _ (cP _ (cP _ x))))⟩
end vO
namespace L2
open PySem PySem.Spec PyProof.Rows
theorem Inv.za{X:aW}{pins:List (Addr × Obj)}{σ:St}{H:aw}{s:aE}{h':bE}{t':Nat}{fp:List Addr}(I:Inv X pins σ H s)(hf:∀ b∈fp,jr X pins H b)(k:∀ b o,b ∉ fp->s.heap.get? b=some o->h'.get? b=some o):Inv X pins σ H { s with heap:=h',toks:=t' }:=by
 have va:∀ b u,H b=some u->b ∉ fp:=λ b u e z=>by rw [(hf b z).1] at e;cases e
 refine I.step (g':=s.gens) (d':=s.drawn) (ch:=fp) (λ b af=>?_) (λ b o _ _ ai e _=>k b o ai e) (λ b o _ _ ai e _=>⟨o.slots,k b o ai e⟩) (λ _ _ _ _ n=>n)
  (λ b o ai e=>⟨o,k b o ai e⟩) (λ _ _ e=>e) (λ _ _ _ e=>e) (λ b ps e=>⟨#[],by rw [e];simp⟩) (λ m hm=>?_) (λ b u e=>?_) I.bare
 ·obtain ⟨f0,f1,f2,cV,f4,eI⟩:=hf b af;exact ⟨cV,f1,f4,eI⟩
 ·obtain ⟨o,es,dY,aS,r⟩:=hm;exact ⟨o,es,dY,k _ o (λ z=>(hf _ z).2.1 rfl) aS,r⟩
 ·refine (I.bJ b u e).nk (λ c v ai q=>k c v ?_ q) (λ _ q=>q) λ _ _ q=>q;rcases ai with z | z
  ·rw [z];exact va b u e
  ·exact va c _ z
theorem apart(n a b:Nat)(ae:a < n)(ag:b < n):uF (n+4) (n+2) (n+3) n (n+1) a b:=by
 constructor<;>(intro e;have bV:(@Eq Nat _ _):=e;omega)
def Ja(K:aX)(a b:Addr):kt:=
 ⟨λ i H=>∃ xs aD x y,dH K H a xs/\dH K H b aD/\xs[i]?=some x/\aD[i]?=some y,λ i H v aj=>∃ T x y,v=.ref T/\H T=none/\aj=upd H T (.tup [x,y])/\(∀ xs,dH K H a xs->xs[i]?=some x)/\∀ aD,dH K H b aD->aD[i]?=some y,λ i H=>∃ xs,dH K H a xs/\xs.length<=i⟩
theorem Tr{P:cL}{w:b8}{K:aX}{es:List a8}{k:Nat}{pos:Pos}{z TI d6 cG c7 bD b5:Addr}(D:uF z TI d6 cG c7 bD b5) :
 Turn P w K (.Tuple es k pos) (Ja K bD b5) [z,TI,d6,cG,c7] z (λ i h=>vO.St z TI d6 cG c7 bD b5 .none i h) where
 mem:=by simp
 obj:=λ i h st b af=>by
  simp only [cC,eV,or_false] at af;obtain ⟨a1,a2,⟨p,q,oC⟩,⟨d1,q8,_,oD⟩,⟨fZ,oE,_,q9⟩⟩:=st;rcases af with rfl | rfl | rfl | rfl | rfl
  ·exact ⟨_,a1,λ v e=>by cases (show Data.fields _=Data.cell v from e)⟩
  ·exact ⟨_,a2,λ v e=>by cases (show Data.seq _ _=Data.cell v from e)⟩
  ·exact ⟨_,oC,λ v e=>by cases (show Data.seq _ _=Data.cell v from e)⟩
  ·exact ⟨_,q8,λ v e=>by rw [oD] at e;cases e⟩
  ·exact ⟨_,oE,λ v e=>by rw [q9] at e;cases e⟩
 keep:=λ i h h' st dR=>by
  obtain ⟨a1,a2,⟨p,q,oC⟩,⟨d1,q8,qX⟩,⟨fZ,oE,qU⟩⟩:=st;exact ⟨dR _ (by simp) _ a1,dR _ (by simp) _ a2,⟨p,q,dR _ (by simp) _ oC⟩,⟨d1,dR _ (by simp) _ q8,qX⟩,⟨fZ,dR _ (by simp) _ oE,qU⟩⟩
 item:=by
  intro X e5 hw eT ai i pins s σ H E I hf st a3;subst e5 hw eT;obtain ⟨xs,aD,x,y,zb,Jb,ak,bv⟩:=a3;obtain ⟨vQ,zc,dP,_⟩:=I.tuple zb;obtain ⟨cq,Jc,dZ,_⟩:=I.tuple Jb;obtain ⟨cY,Ts,Tt⟩:=zc.get ak;obtain ⟨du,Tu,Tv⟩:=Jc.get bv;refine vO.Tg D st (show s.heap.IsTuple bD vQ.toArray from dP) (show s.heap.IsTuple b5 cq.toArray from dZ) (x:=cY) (y:=du) (by simpa using Ts) (by simpa using Tu) λ h' dO cW dR=>?_;refine ⟨_,rfl,wpAny_letOwnedTupleGo_zip dO.zip λ ag sZ k2=>?_⟩
  have Tw:∀ b o,b ∉ [z,TI,d6,cG,c7]->s.heap.get? b=some o->ag.get? b=some o:=λ b o af e=>by
   simp only [cC,eV,or_false,not_or] at af;exact k2.extBut _ _ af.1 (dR b o af.1 af.2.2.1 af.2.2.2.1 af.2.2.2.2 e)
  have a4:Inv X pins σ (upd H s.heap.objs.size (.tup [x,y])) { s with heap:=s.heap.push { cls:=.type "tuple", data:=.seq #[cY,du] } }:=
   I.laid (t':=s.toks) (λ b o e=>cP _ e) (ZB _) (show f9 X.prog X.w _ _ _ (.tup [x,y]) from ⟨by show 2<=sizeLine;decide,[cY,du],.cons Tt (.cons Tv .nil),IsTup.new _ _⟩)
  have Tx:s.heap.objs.size≠z:=n4 (dc st.zip)
  have vR:∀ b∈[z,TI,d6,cG,c7],b < s.heap.objs.size:=λ b af=>by
   obtain ⟨a1,a2,⟨p,q,oC⟩,⟨d1,q8,_⟩,⟨fZ,oE,_⟩⟩:=st;simp only [cC,eV,or_false] at af;rcases af with rfl | rfl | rfl | rfl | rfl
   ·exact dc a1
   ·exact dc a2
   ·exact dc oC
   ·exact dc q8
   ·exact dc oE
  have dg:Inv X pins σ (upd H s.heap.objs.size (.tup [x,y])) { s with heap:=ag }:=
   Inv.za (s:={ s with heap:=s.heap.push { cls:=.type "tuple", data:=.seq #[cY,du] } }) (h':=ag) (t':=s.toks) (fp:=[z,TI,d6,cG,c7]) a4 (λ b af=>by
    obtain ⟨f0,fr⟩:=hf b af
    exact ⟨by rw [cN (eO (vR b af))];exact f0,fr⟩) (λ b o af e=>by
    rcases Heap.get?_push_cases e with ⟨aC,aG⟩ | e
    ·rw [aC,aG];exact k2.extBut _ _ Tx cW
    ·exact Tw b o af e)
  refine ⟨.ref s.heap.objs.size,_,dg,rfl,⟨_,x,y,rfl,I.bJ.fresh (ZB _),rfl,λ ae5 h=>by rw [I.sR h zb];exact ak,λ ae6 h=>by rw [I.sR h Jb];exact bv⟩,?_,λ b af=>by rw [cN (eO (vR b af))];exact (hf b af).1⟩;obtain ⟨a1,a2,⟨p,q,oC⟩,⟨d1,q8,qX⟩,⟨fZ,oE,qU⟩⟩:=dO;exact ⟨sZ,k2.extBut _ _ D.TIz a2,⟨p,q,k2.extBut _ _ D.TOz oC⟩,⟨d1,k2.extBut _ _ D.i1z q8,qX⟩,⟨fZ,k2.extBut _ _ D.i2z oE,qU⟩⟩
 done:=by
  intro X e5 hw eT ai i pins s σ H E I hf st a3;subst e5 hw eT;obtain ⟨xs,zb,ak⟩:=a3;obtain ⟨vQ,zc,dP,_⟩:=I.tuple zb;have ar:=zc.length
  refine vO.Tl (I.ok.hd ai) D st (show s.heap.IsTuple bD vQ.toArray from dP) (by simp;omega) λ h' dR=>⟨rfl,?_⟩
  exact I.za (t':=s.toks) (fp:=[z,TI,d6,cG,c7]) hf λ b o af e=>by
   simp only [cC,eV,or_false,not_or] at af;exact dR b o af.1 af.2.2.1 af.2.2.2.1 af.2.2.2.2 e
 self:=λ _ _ _ _ _ st h=>wpAny_pyIter_zip st.zip h
section
variable{X:aW}
def Jd(K:aX)(t:fk):TI:=λ σ H R=>t σ H λ vs H1=>∃ a b,vs=[.ref a,.ref b]/\(∃ xs,dH K H1 a xs)/\(∃ aD,dH K H1 b aD)/\R (Ja K a b) H1
theorem Ty{es:List a8}{k:Nat}{gL:Pos}{a b:a8}{t:fk}{p pos:Pos}(a3:et X "zip")(hm:X.mg "zip" = none)(ax:ii X [a,b] t)(ae:e7 a=true)(ag:e7 b=true):mm X (.Tuple es k gL) (.Call (.Name "zip" p) [a,b] [] pos) (Jd X.K t):=by
 intro pins s σ H R I h;have ap:dB [a,b] X.env=(false,eval a X.env)::dB [b] X.env:=ip ae
 have ah:(hO pos (dB [b] X.env)).any (·.1)=false:=by rw [ip ag];rfl
 refine Call_ (oe I a3 hm PyProof.Rows.boot_zip (qK (b0 (ax pos pins s σ H _ I h) λ us s1 ⟨vs,H1,a4,aT,bD,b5,ev,⟨xs,aF⟩,⟨aD,bo⟩,q⟩=>?_) ap ah));subst ev
 cases aT with
 | cons r b2=>
  cases b2 with
  | cons bp b2=>
   cases b2;cases r;cases bp;obtain ⟨vQ,zc,dP,_⟩:=a4.tuple aF;obtain ⟨cq,Jc,dZ,_⟩:=a4.tuple bo;refine vO.Tq (show s1.heap.IsTuple bD vQ.toArray from dP) (show s1.heap.IsTuple b5 cq.toArray from dZ) λ h' st dR=>wpAny_pyIter_zip st.zip ?_;have eK:=dP.lt;have dx:=dZ.lt;have D:uF (s1.heap.objs.size+4) (s1.heap.objs.size+2) (s1.heap.objs.size+3) s1.heap.objs.size (s1.heap.objs.size+1) bD b5:=apart _ _ _ eK dx;refine ⟨s1.heap.objs.size+4,_,_,_,H1,rfl,a4.kept (t':=s1.toks) dR,Tr D,st,λ b af=>?_,q⟩
   have g0:s1.heap.objs.size<=b:=by
    simp only [cC,eV,or_false] at af;rcases af with e | e | e | e | e<;>(rw [e];first | exact ZB _ | exact Nat.le_add_right _ _)
   exact a4.pI g0 (a4.bJ.fresh g0)
theorem Tz{es:List a8}{k:Nat}{gL:Pos}{a b:a8}{t:fk}{p pos:Pos}(a3:et X "zip")(hm:X.mg "zip" = none)(ax:jZ X [a,b] t)(ae:e7 a=true:=by rfl)(ag:e7 b=true:=by rfl):pO X (.Tuple es k gL) (.Call (.Name "zip" p) [a,b] [] pos) (Jd X.K t):=⟨Ty a3 hm ax.run ae ag⟩
end
def pS(o:Obj):gi:=.ih o (.ext λ _=>True)
structure TA(H:aw)(f:Addr)(name qual:Str)(st:bP)(cl:List (Str × Addr))(q_:List V):Prop where
 fn:∃(gH:Value)(eM:Option Addr)(doc pm bI ct:Value)(bz:Array (Option Value)),H f=some (pS ⟨gH,eM,.func (PySem.W.fnX name qual (nE st) (jb st) (cb st) cl .none .none doc pm none bI ct),bz⟩) ∧
  ∃ c o vs t,bI=.ref c/\H c=some (pS o)/\o.data=.fields vs/\vs[1]?=some (.str qual t)
 cells:∀(i:Nat)(x:Str)(c:Addr),cl[i]?=some (x,c)->∃ v u o,q_[i]?=some v/\RelV v u/\H c=some (pS o)/\o.data=.cell (some u)
 len:cl.length=q_.length
 TB:(cl.map (·.2)).Nodup
def TC(env:Env)(fr:List Str):List (Str × Addr):=fr.map λ x=>(x,(env.cells.lookup x).getD 0)
structure TD(env:Env)(H:aw)(f:Addr)(name qual:Str)(st:bP)(fr:List Str):Prop where
 fn:∃(gH:Value)(eM:Option Addr)(doc pm bI ct:Value)(bz:Array (Option Value)),H f=some (pS ⟨gH,eM,.func (PySem.W.fnX name qual (nE st) (jb st) (cb st) (TC env fr) .none .none doc pm none bI ct),bz⟩) ∧
  ∃ c o vs t,bI=.ref c/\H c=some (pS o)/\o.data=.fields vs/\vs[1]?=some (.str qual t)
def Tab(H:aw)(T:Addr)(pos:Pos)(qual:Str):Prop:=∃ ps,H T=some (.n_ ps)/\TriplesOk ps.toList/\(codeAmong pos ps.toList=none\/∃ c o vs t,codeAmong pos ps.toList=some (.ref c)/\H c=some (pS o)/\o.data=.fields vs/\vs[1]?=some (.str qual t))
end L2
namespace L3
open PySem PySem.Spec L2
inductive D where
 | a9 | aI (b:Bool) | int (i:Int) | str (x:Str) | ref (a:Addr) | ty (n:String) | tup (ds:List D) | d7 (ds:List D)
def s8(K:aX)(H:aw)(a:Addr)(xs:List V):Prop:=
 (∃ o,H a=some (.ih o (.lst xs)))\/∃(o:Obj)(az:Array Value)(n:Nat),K.lookup a=some o/\o.cls=.type "list"/\o.dict=none/\o.data=.seq az n/\az.size<=sizeLine/\Vals xs az.toList
theorem s8.fo{K:aX}{H:aw}{a:Addr}{xs:List V}(h:s8 K H a xs):eu K H a xs:=by
 rcases h with h | h
 ·exact .inl (.inr h)
 ·exact .inr h
mutual
def dj(K:aX)(H:aw):D->V->Prop
 | .a9,v=>v=.a9
 | .aI b,v=>v=.aI b
 | .int i,v=>v=.int i
 | .str x,v=>v=.str x
 | .ref a,v=>v=.ref a
 | .ty n,v=>v=.ty n
 | .tup ds,v=>∃ a vs,v=.ref a/\dH K H a vs/\bM K H ds vs
 | .d7 ds,v=>∃ a vs,v=.ref a/\s8 K H a vs/\bM K H ds vs
def bM(K:aX)(H:aw):List D->List V->Prop
 | [],vs=>vs=[]
 | d::ds,vs=>∃ v r,vs=v::r/\dj K H d v/\bM K H ds r
end
structure pT(K:aX)(H aj:aw):Prop where
 gL:∀ a xs,dH K H a xs->dH K aj a xs
 fr:∀ a xs,s8 K H a xs->s8 K aj a xs
 mB:∀ a o,H a=some (pS o)->aj a=some (pS o)
section
variable{K:aX}{H aj:aw}
mutual
theorem dj.mono(h:pT K H aj):∀{d:D}{v:V},dj K H d v->dj K aj d v
 | .a9,_,r=>r
 | .aI _,_,r=>r
 | .int _,_,r=>r
 | .str _,_,r=>r
 | .ref _,_,r=>r
 | .ty _,_,r=>r
 | .tup _,_,⟨a,vs,e,q,l⟩=>⟨a,vs,e,h.gL a vs q,bM.mono h l⟩
 | .d7 _,_,⟨a,vs,e,q,l⟩=>⟨a,vs,e,h.fr a vs q,bM.mono h l⟩
theorem bM.mono(h:pT K H aj):∀{ds:List D}{vs:List V},bM K H ds vs->bM K aj ds vs
 | [],_,r=>r
 | _::_,_,⟨v,r,e,q,l⟩=>⟨v,r,e,dj.mono h q,bM.mono h l⟩
end
theorem bM.len:∀{ds:List D}{vs:List V},bM K H ds vs->vs.length=ds.length
 | [],_,r=>by cases r;rfl
 | _::_,_,⟨v,r,e,_,l⟩=>by subst e;simp [l.len]
theorem bM.append:∀{ds es:List D}{vs us:List V},bM K H ds vs->bM K H es us->bM K H (ds++es) (vs++us)
 | [],_,_,_,r,s=>by cases r;exact s
 | _::_,_,_,_,⟨v,r,e,q,l⟩,s=>by subst e;exact ⟨v,_,rfl,q,l.append s⟩
theorem bM.one{d:D}{v:V}(h:dj K H d v):bM K H [d] [v]:=⟨v,[],rfl,h,rfl⟩
theorem bM.get:∀{ds:List D}{vs:List V}{i:Nat}{d:D},bM K H ds vs->ds[i]?=some d->∃ v,vs[i]?=some v/\dj K H d v
 | [],_,_,_,_,e=>by simp at e
 | _::_,_,0,_,⟨v,r,bV,q,l⟩,e=>by simp at e;subst e bV;exact ⟨v,rfl,q⟩
 | _::_,_,i+1,d,⟨v,r,bV,q,l⟩,e=>by
  subst bV;obtain ⟨u,ae,ag⟩:=bM.get (i:=i) (d:=d) l (by simpa using e);exact ⟨u,by simpa using ae,ag⟩
theorem bM.take:∀{ds:List D}{vs:List V}(n:Nat),bM K H ds vs->bM K H (ds.take n) (vs.take n)
 | _,_,0,_=>by simp [bM]
 | [],_,n+1,r=>by cases r;simp [bM]
 | _::_,_,n+1,⟨v,r,e,q,l⟩=>by subst e;exact ⟨v,_,rfl,q,l.take n⟩
theorem bM.drop:∀{ds:List D}{vs:List V}(n:Nat),bM K H ds vs->bM K H (ds.drop n) (vs.drop n)
 | _,_,0,r=>r
 | [],_,n+1,r=>by cases r;simp [bM]
 | _::_,_,n+1,⟨v,r,e,q,l⟩=>by subst e;exact l.drop n
theorem bM.reverse:∀{ds:List D}{vs:List V},bM K H ds vs->bM K H ds.reverse vs.reverse
 | [],_,r=>by cases r;simp [bM]
 | _::_,_,⟨v,r,e,q,l⟩=>by subst e;rw [sr,sr];exact l.reverse.append (.one q)
theorem bM.set{d:D}{v:V}(h:dj K H d v):∀{ds:List D}{vs:List V}(i:Nat),bM K H ds vs->bM K H (ds.set i d) (vs.set i v)
 | [],_,_,r=>by cases r;simp [bM]
 | _::_,_,0,⟨u,r,e,q,l⟩=>by subst e;exact ⟨v,r,rfl,h,l⟩
 | _::_,_,i+1,⟨u,r,e,q,l⟩=>by subst e;exact ⟨u,_,rfl,q,l.set h i⟩
theorem bM.Je:∀(ns:List Int),bM K H (ns.map D.int) (ns.map V.int)
 | []=>rfl
 | n::ns=>⟨_,_,rfl,rfl,bM.Je ns⟩
end
def cut{α:Type}(xs:List α)(lo av:Option Int):List α:=(xs.drop (dq.cp xs.length 0 lo)).take (dq.cp xs.length xs.length av - dq.cp xs.length 0 lo)
theorem bM.cut{K:aX}{H:aw}{ds:List D}{vs:List V}(h:bM K H ds vs)(lo av:Option Int):bM K H (L3.cut ds lo av) (lK vs lo av):=by
 have e:=h.len;rw [L3.cut,lK,e];exact (h.drop _).take _
inductive hr where
 | lst (ds:List D)
 | ins (C:Addr) (aK:List (Str × D))
 | i3 (dn:List (Key × D))
 | iH (dn:List (List Key × D))
 | Cq (dn:List (List Key × D))
 | tab (pos:Pos) (qual:Str) | made (env:Env) (name qual:Str) (st:bP) (fr:List Str) | Cr (name qual:Str) (st:bP) (fr:List Str) (vals:List D)
abbrev aP:=Addr->Option hr
abbrev eB:=List (Option D)
def up(G:aP)(a:Addr)(o:hr):aP:=λ b=>if b=a then some o else G b
theorem bU{G:aP}{a:Addr}{o:hr}:up G a o a=some o:=by unfold up;rw [if_pos rfl]
theorem dU{G:aP}{a b:Addr}{o:hr}(h:b≠a):up G a o b=G b:=by unfold up;rw [if_neg h]
theorem iM{G:aP}{a:Addr}{o u:hr}:up (up G a o) a u=up G a u:=by funext b;unfold up;split<;>rfl
theorem Jf{G:aP}{a b:Addr}{o u:hr}(h:a≠b):up (up G a o) b u=up (up G b u) a o:=by
 funext c;unfold up;split<;>split<;>simp_all
theorem TF{G:aP}{a:Addr}{o:hr}(h:G a=some o):up G a o=G:=by
 funext b;unfold up;split
 ·next e=>rw [e,h]
 ·rfl
def zd{κ:Type}(K:aX)(H:aw)(aK:List (κ × D))(dV:List (κ × V)):Prop:=aK.map (·.1)=dV.map (·.1)/\bM K H (aK.map (·.2)) (dV.map (·.2))
def s9(K:aX)(H:aw)(a:Addr):hr->Prop
 | .lst ds=>∃ vs,H a=some (.lst vs)/\bM K H ds vs
 | .ins C aK=>∃ aV dV,H a=some (.ins C aV dV)/\zd K H aK dV
 | .i3 dn=>∃ dV,H a=some (.i3 dV)/\zd K H dn dV
 | .iH dn=>∃ dV,H a=some (.iH dV)/\zd K H dn dV
 | .Cq dn=>∃ o dV,H a=some (.ih o (.iH dV))/\zd K H dn dV
 | .tab pos qual=>Tab H a pos qual
 | .made env name qual st fr=>TD env H a name qual st fr
 | .Cr name qual st fr vals=>∃ cl q_,TA H a name qual st cl q_/\cl.map (·.1)=fr/\bM K H vals q_
def fq(K:aX)(G:aP)(H:aw):Prop:=∀ a o,G a=some o->s9 K H a o
theorem s9.some{K:aX}{H:aw}{a:Addr}{o:hr}(h:s9 K H a o):∃ u,H a=.some u:=by
 cases o with
 | lst ds=>obtain ⟨_,e,_⟩:=h;exact ⟨_,e⟩
 | ins C aK=>obtain ⟨_,_,e,_⟩:=h;exact ⟨_,e⟩
 | i3 dn=>obtain ⟨_,e,_⟩:=h;exact ⟨_,e⟩
 | iH dn=>obtain ⟨_,e,_⟩:=h;exact ⟨_,e⟩
 | Cq dn=>obtain ⟨_,_,e,_⟩:=h;exact ⟨_,e⟩
 | tab pos qual=>obtain ⟨_,e,_⟩:=h;exact ⟨_,e⟩
 | made env name qual st fr=>obtain ⟨_,_,_,_,_,_,_,e,_⟩:=h.fn;exact ⟨_,e⟩
 | Cr name qual st fr vals=>obtain ⟨_,_,h,_⟩:=h;obtain ⟨_,_,_,_,_,_,_,e,_⟩:=h.fn;exact ⟨_,e⟩
theorem fq.none{K:aX}{G:aP}{H:aw}(h:fq K G H){a:Addr}(e:H a=.none):G a=.none:=by
 cases q:G a with
 | none=>rfl
 | some o=>obtain ⟨u,z⟩:=(h a o q).some;rw [e] at z;cases z
theorem s9.mono{K:aX}{H aj:aw}{a:Addr}{o:hr}(bh:pT K H aj)(e:aj a=H a)(h:s9 K H a o):s9 K aj a o:=by
 cases o with
 | lst ds=>obtain ⟨vs,q,l⟩:=h;exact ⟨vs,by rw [e];exact q,l.mono bh⟩
 | ins C aK=>obtain ⟨aV,dV,q,l⟩:=h;exact ⟨aV,dV,by rw [e];exact q,l.1,l.2.mono bh⟩
 | i3 dn=>obtain ⟨dV,q,l⟩:=h;exact ⟨dV,by rw [e];exact q,l.1,l.2.mono bh⟩
 | iH dn=>obtain ⟨dV,q,l⟩:=h;exact ⟨dV,by rw [e];exact q,l.1,l.2.mono bh⟩
 | Cq dn=>obtain ⟨o,dV,q,l⟩:=h;exact ⟨o,dV,by rw [e];exact q,l.1,l.2.mono bh⟩
 | tab pos qual=>
  obtain ⟨ps,ae,ag,aR⟩:=h;refine ⟨ps,by rw [e];exact ae,ag,?_⟩;rcases aR with aR | ⟨c,o,vs,t,aR,bB,el⟩
  ·exact .inl aR
  ·exact .inr ⟨c,o,vs,t,aR,bh.mB _ _ bB,el⟩
 | made env name qual st fr=>
  obtain ⟨gH,eM,doc,pm,bI,ct,bz,ae,c,o,vs,t,ag,aR,bB⟩:=h.fn;exact ⟨gH,eM,doc,pm,bI,ct,bz,bh.mB _ _ ae,c,o,vs,t,ag,bh.mB _ _ aR,bB⟩
 | Cr name qual st fr vals=>
  obtain ⟨cl,q_,C,ae,ag⟩:=h;obtain ⟨gH,eM,doc,pm,bI,ct,bz,aR,c,o,vs,t,bB,el,mx⟩:=C.fn;exact ⟨cl,q_,⟨⟨gH,eM,doc,pm,bI,ct,bz,bh.mB _ _ aR,c,o,vs,t,bB,bh.mB _ _ el,mx⟩,λ i x c av=>let ⟨v,u,o,cI,b9,gZ,pR⟩:=C.cells i x c av;⟨v,u,o,cI,b9,bh.mB _ _ gZ,pR⟩,C.len,C.TB⟩,ae,ag.mono bh⟩
structure Go(K:aX)(G:aP)(H:aw)(au:aP)(aj:aw):Prop where
 tup:pT K H aj
 mC:∀ a o,H a=some o->∃ dM,aj a=some dM
 same:∀ a o,H a=some o->G a=none->aj a=some o
 new:∀ a o,H a=some o->G a=none->au a=none
 cA:fq K au aj
section
variable{K:aX}{G aB bf au:aP}{H H1 bg aj:aw}
theorem Go.refl(v:fq K G H):Go K G H G H:=⟨⟨λ _ _ h=>h,λ _ _ h=>h,λ _ _ h=>h⟩,λ _ o e=>⟨o,e⟩,λ _ _ e _=>e,λ _ _ _ e=>e,v⟩
theorem Go.trans(a:Go K G H aB H1)(b:Go K aB H1 bf bg):Go K G H bf bg:=
 ⟨⟨λ x xs h=>b.tup.gL x xs (a.tup.gL x xs h),λ x xs h=>b.tup.fr x xs (a.tup.fr x xs h),λ x o h=>b.tup.mB x o (a.tup.mB x o h)⟩,λ x o e=>let ⟨dM,bV⟩:=a.mC x o e;b.mC x dM bV,λ x o e n=>b.same x o (a.same x o e n) (a.new x o e n),
  λ x o e n=>b.new x o (a.same x o e n) (a.new x o e n),b.cA⟩
def Sub(G au:aP):Prop:=∀ a o,G a=some o->au a=some o
theorem Sub.refl(G:aP):Sub G G:=λ _ _ e=>e
theorem Sub.trans{G aB bf:aP}(a:Sub G aB)(b:Sub aB bf):Sub G bf:=λ x o e=>b x o (a x o e)
theorem Sub.none{G au:aP}(h:Sub G au){a:Addr}(e:au a=.none):G a=.none:=by
 cases q:G a with
 | none=>rfl
 | some o=>rw [h a o q] at e;cases e
theorem fq.sub(v:fq K au H)(h:Sub G au):fq K G H:=λ a o e=>v a o (h a o e)
theorem Go.sub(g:Go K G H aB H1)(h:Sub bf aB):Go K G H bf H1:=⟨g.tup,g.mC,g.same,λ x o e n=>h.none (g.new x o e n),g.cA.sub h⟩
theorem TG{a p:Addr}{o:gi}{xs:List V}(ah:∀ aD,¬ oa H p (.tup aD))(h:dH K H a xs):dH K (upd H p o) a xs:=by
 rcases h with h | h
 ·have ne:a≠p:=by rintro rfl;exact ah _ h
  refine .inl ?_;unfold oa at h ⊢;rw [cN ne];exact h
 ·exact .inr h
theorem TH{p:Addr}{aD:List V}(h:H p=none):¬ oa H p (.tup aD):=by
 rintro (e | ⟨o,e⟩)<;>rw [h] at e<;>cases e
theorem TJ{p:Addr}{xs aD:List V}(h:H p=some (.lst xs)):¬ oa H p (.tup aD):=by
 rintro (e | ⟨o,e⟩)<;>rw [h] at e<;>cases e
theorem Jg{p:Addr}{o:gi}(ah:∀ aD,¬ oa H p (.tup aD))(ar:∀ o aD,H p≠some (.ih o aD)):pT K H (upd H p o) where
 gL:=λ _ _ q=>TG ah q
 fr:=λ a xs q=>by
  rcases q with ⟨z,q⟩ | q
  ·exact .inl ⟨z,by rw [cN (by rintro rfl;exact ar _ _ q)];exact q⟩
  ·exact .inr q
 mB:=λ a u q=>by rw [cN (by rintro rfl;exact ar _ _ q)];exact q
theorem vS{p:Addr}{o:gi}(h:H p=none):pT K H (upd H p o):=Jg (λ _=>TH h) λ _ _ e=>by rw [h] at e;cases e
theorem oF{p:Addr}{o:gi}{xs:List V}(h:H p=some (.lst xs)):pT K H (upd H p o):=Jg (λ _=>TJ h) λ _ _ e=>by rw [h] at e;cases e
theorem Go.nG(v:fq K G H){p:Addr}{o:gi}(h:H p=none):Go K G H G (upd H p o) where
 tup:=vS h
 mC:=λ a u e=>⟨u,by rw [cN (hY e h)];exact e⟩
 same:=λ a u e _=>by rw [cN (hY e h)];exact e
 new:=λ _ _ _ e=>e
 cA:=λ a u e=>(v a u e).mono (vS h) (cN (by rintro rfl;obtain ⟨z,q⟩:=(v _ _ e).some;rw [h] at q;cases q))
theorem Go.pU(v:fq K G H){p:Addr}{ds:List D}{vs:List V}(h:H p=none)(r:bM K H ds vs):Go K G H (up G p (.lst ds)) (upd H p (.lst vs)) where
 tup:=vS h
 mC:=λ a u e=>⟨u,by rw [cN (hY e h)];exact e⟩
 same:=λ a u e _=>by rw [cN (hY e h)];exact e
 new:=λ a u e n=>by rw [dU (hY e h)];exact n
 cA:=λ a u e=>by
  by_cases c:a=p
  ·subst c;rw [bU] at e;cases e;exact ⟨vs,eG,r.mono (vS h)⟩
  ·rw [dU c] at e;exact (v a u e).mono (vS h) (cN c)
theorem Go.vT(v:fq K G H){p:Addr}{TK ds:List D}{vs:List V}(h:G p=some (.lst TK))(r:bM K H ds vs):Go K G H (up G p (.lst ds)) (upd H p (.lst vs)):=by
 obtain ⟨us,ah,_⟩:=v p _ h
 exact {
  tup:=oF ah
  mC:=λ a u e=>by
   by_cases c:a=p
   ·subst c;exact ⟨_,eG⟩
   ·exact ⟨u,by rw [cN c];exact e⟩
  same:=λ a u e n=>by
   have c:a≠p:=by rintro rfl;rw [h] at n;cases n
   rw [cN c];exact e
  new:=λ a u e n=>by
   have c:a≠p:=by rintro rfl;rw [h] at n;cases n
   rw [dU c];exact n
  cA:=λ a u e=>by
   by_cases c:a=p
   ·subst c;rw [bU] at e;cases e;exact ⟨vs,eG,r.mono (oF ah)⟩
   ·rw [dU c] at e
    exact (v a u e).mono (oF ah) (cN c) }
theorem Go.grow(v:fq K G H)(h:vy H aj):Go K G H G aj:=by
 have bh:pT K H aj:=⟨λ b xs q=>by
  rcases q with q | q
  ·rcases q with q | ⟨o,q⟩
   ·exact .inl (.inl (h _ _ q))
   ·exact .inl (.inr ⟨o,h _ _ q⟩)
  ·exact .inr q,λ b xs q=>by
  rcases q with ⟨o,q⟩ | q
  ·exact .inl ⟨o,h _ _ q⟩
  ·exact .inr q,λ b o q=>h _ _ q⟩
 exact ⟨bh,λ a o e=>⟨o,h a o e⟩,λ a o e _=>h a o e,λ _ _ _ e=>e,λ a u e=>by
  obtain ⟨z,q⟩:=(v a u e).some
  exact (v a u e).mono bh (by rw [q];exact h _ _ q)⟩
end
structure dh(K:aX)(ρ:eB)(G:aP)(σ:St)(H:aw):Prop where
 len:ρ.length=σ.length
 st:∀(i:Nat)(d:D),ρ[i]?=some (some d)->∃ v,σ[i]?=some (some v)/\dj K H d v
 cA:fq K G H
theorem dh.go{K:aX}{ρ:eB}{G au:aP}{σ:St}{H aj:aw}(b:dh K ρ G σ H)(g:Go K G H au aj):dh K ρ au σ aj:=
 ⟨b.len,λ i d e=>let ⟨v,ae,ag⟩:=b.st i d e;⟨v,ae,ag.mono g.tup⟩,g.cA⟩
theorem dh.set{K:aX}{ρ:eB}{G:aP}{σ:St}{H:aw}{d:D}{v:V}(b:dh K ρ G σ H)(h:dj K H d v)(i:Nat):dh K (ρ.set i (some d)) G (σ.set i (some v)) H where
 len:=by simp [b.len]
 cA:=b.cA
 st:=λ j e he=>by
  by_cases c:j=i
  ·subst c;rw [List.getElem?_set] at he ⊢;have l:=b.len;simp only [if_true] at he ⊢;split at he
   ·next q=>rw [if_pos (by omega)];simp at he;subst he;exact ⟨v,rfl,h⟩
   ·cases he
  ·rw [qF (by omega)] at he ⊢;exact b.st j e he
def ze(ρ ρ':eB):Prop:=ρ.length=ρ'.length/\∀(i:Nat)(d:D),ρ[i]?=some (some d)->ρ'[i]?=some (some d)
theorem ze.refl(ρ:eB):ze ρ ρ:=⟨rfl,λ _ _ e=>e⟩
theorem dh.weak{K:aX}{ρ ρ':eB}{G au:aP}{σ:St}{H:aw}(b:dh K ρ' au σ H)(s:ze ρ ρ')(g:Sub G au):dh K ρ G σ H:=
 ⟨s.1.trans b.len,λ i d e=>b.st i d (s.2 i d e),b.cA.sub g⟩
abbrev cJ:=D->aP->Prop
abbrev cn:=eB->aP->cJ->Prop
abbrev hs:=eB->aP->(Bool->aP->Prop)->Prop
abbrev g4:=eB->aP->(List D->aP->Prop)->Prop
abbrev oG:=eB->aP->(Option Int->aP->Prop)->Prop
structure s_ where
 nx:eB->aP->Prop
 rt:cJ
 bk:eB->aP->Prop:=λ _ _=>False
 ct:eB->aP->Prop:=λ _ _=>False
abbrev f3:=s_->eB->aP->Prop
abbrev Fin(K:aX)(G:aP)(H:aw)(ay:cJ)(Q:cE):Prop:=∀ d au v aj,Go K G H au aj->dj K aj d v->ay d au->Q v aj
abbrev Jh(K:aX)(G:aP)(H:aw)(ay:Bool->aP->Prop)(Q:Bool->aw->Prop):Prop:=∀ b au aj,Go K G H au aj->ay b au->Q b aj
abbrev TL(K:aX)(G:aP)(H:aw)(ay:Option Int->aP->Prop)(Q:Option Int->aw->Prop):Prop:=∀ b au aj,Go K G H au aj->ay b au->Q b aj
abbrev Cs(K:aX)(n:Nat)(G:aP)(H:aw)(ay:List D->aP->Prop)(Q:List V->aw->Prop):Prop:=∀ ds au vs aj,Go K G H au aj->bM K aj ds vs->ds.length=n->ay ds au->Q vs aj
structure cu(X:aW)(e:a8)(t:cn):Prop where
 run:∃ bj:TE,c1 X e bj/\∀ ρ G ay σ H Q,dh X.K ρ G σ H->t ρ G ay->Fin X.K G H ay Q->bj σ H Q
structure AT(X:aW)(e:a8)(t:hs):Prop where
 run:∃ bj:TT,k7 X e bj/\∀ ρ G ay σ H Q,dh X.K ρ G σ H->t ρ G ay->Jh X.K G H ay Q->bj σ H Q
structure eZ(X:aW)(e:a8)(t:hs):Prop where
 run:∃ bj:TT,oA X e bj/\∀ ρ G ay σ H Q,dh X.K ρ G σ H->t ρ G ay->Jh X.K G H ay Q->bj σ H Q
structure iq(X:aW)(es:List a8)(t:g4):Prop where
 run:∃ bj:fk,jZ X es bj/\∀ ρ G ay σ H Q,dh X.K ρ G σ H->t ρ G ay->Cs X.K es.length G H ay Q->bj σ H Q
structure ra(X:aW)(e:Option a8)(t:oG):Prop where
 run:∃ bj:d6,vL X e bj/\∀ ρ G ay σ H Q,dh X.K ρ G σ H->t ρ G ay->TL X.K G H ay Q->bj σ H Q
structure lO(K:aX)(G:aP)(H:aw)(b3:s_)(c8:Ends):Prop where
 nx:∀ ρ au σ aj,Go K G H au aj->dh K ρ au σ aj->b3.nx ρ au->c8.nx σ aj
 rt:Fin K G H b3.rt c8.rt
 bk:∀ ρ au σ aj,Go K G H au aj->dh K ρ au σ aj->b3.bk ρ au->c8.bk σ aj
 ct:∀ ρ au σ aj,Go K G H au aj->dh K ρ au σ aj->b3.ct ρ au->c8.ct σ aj
structure gs(X:aW)(st:bP)(t:f3):Prop where
 run:∃ bj:eR,lL X st bj/\∀ b3 c8 ρ G σ H,dh X.K ρ G σ H->t b3 ρ G->lO X.K G H b3 c8->bj c8 σ H
structure mD(X:aW)(st:List bP)(t:f3):Prop where
 run:∃ bj:eR,my X st bj/\∀ b3 c8 ρ G σ H,dh X.K ρ G σ H->t b3 ρ G->lO X.K G H b3 c8->bj c8 σ H
abbrev gM:=D->eB->aP->(eB->aP->Prop)->Prop
abbrev lP:=List D->eB->aP->(eB->aP->Prop)->Prop
abbrev Ct(K:aX)(G:aP)(H:aw)(ay:eB->aP->Prop)(Q:St->aw->Prop):Prop:=∀ ρ au σ aj,Go K G H au aj->dh K ρ au σ aj->ay ρ au->Q σ aj
structure ky(X:aW)(bl:a8)(t:gM):Prop where
 run:∃ bj:gV,kx X bl bj/\∀ d v ρ G ay σ H Q,dh X.K ρ G σ H->dj X.K H d v->t d ρ G ay->Ct X.K G H ay Q->bj v σ H Q
structure zf(X:aW)(TM:List a8)(t:lP):Prop where
 run:∃ bj:mj,vK X TM bj/\∀ ds vs ρ G ay σ H Q,dh X.K ρ G σ H->bM X.K H ds vs->t ds ρ G ay->Ct X.K G H ay Q->bj vs σ H Q
abbrev zg:=D->aP->cJ->Prop
abbrev ht:=D->D->aP->cJ->Prop
abbrev ta:=List D->aP->cJ->Prop
structure f5(X:aW)(f:Value->Value->Sem Value)(r:ht):Prop where
 run:∃ rc:eX,y5 X f rc/\∀ x y ez hh G H ay Q,fq X.K G H->dj X.K H x ez->dj X.K H y hh->r x y G ay->Fin X.K G H ay Q->rc ez hh H Q
structure Ji(X:aW)(f:Value->Sem Value)(r:zg):Prop where
 run:∃ rc:V->aw->cE->Prop,ID X f rc/\∀ x ez G H ay Q,fq X.K G H->dj X.K H x ez->r x G ay->Fin X.K G H ay Q->rc ez H Q
structure kz(X:aW)(f:Value)(r:ta):Prop where
 run:∃ rc:List V->aw->cE->Prop,Ci X f rc/\∀ xs vs G H ay Q,fq X.K G H->bM X.K H xs vs->r xs G ay->Fin X.K G H ay Q->rc vs H Q
structure Cu(X:aW)(r:ht):Prop where
 run:∃ rc:eX,IE X rc/\∀ x y ez hh G H ay Q,fq X.K G H->dj X.K H x ez->dj X.K H y hh->r x y G ay->Fin X.K G H ay Q->rc ez hh H Q
structure Cv(X:aW)(r:D->Option Int->Option Int->aP->cJ->Prop):Prop where
 run:∃ rc,IF X rc/\∀ x ez lo av G H ay Q,fq X.K G H->dj X.K H x ez->r x lo av G ay->Fin X.K G H ay Q->rc ez lo av H Q
theorem Fin.after{K:aX}{G aB:aP}{H H1:aw}{ay:cJ}{Q:cE}(F:Fin K G H ay Q)(g:Go K G H aB H1):Fin K aB H1 ay Q:=λ d au v aj g' a q=>F d au v aj (g.trans g') a q
theorem lO.after{K:aX}{G aB:aP}{H H1:aw}{b3:s_}{c8:Ends}(F:lO K G H b3 c8)(g:Go K G H aB H1):lO K aB H1 b3 c8:=
 ⟨λ ρ au σ aj g' b q=>F.nx ρ au σ aj (g.trans g') b q,λ d au v aj g' a q=>F.rt d au v aj (g.trans g') a q,λ ρ au σ aj g' b q=>F.bk ρ au σ aj (g.trans g') b q,λ ρ au σ aj g' b q=>F.ct ρ au σ aj (g.trans g') b q⟩
section
variable{X:aW}{a b c e o i:a8}{es:List a8}{bb bF aZ to h2:cn}{t:g4}{pos p apos dk:Pos}
abbrev rb(d:D):cn:=λ _ G Q=>Q d G
abbrev Jj(k:Nat):cn:=λ ρ G Q=>match ρ[k]? with
 | some (some d)=>Q d G
 | _=>False
theorem tb{v:V}{d:D}(h:c1 X e (kV v))(r:∀ H,dj X.K H d v):cu X e (rb d):=⟨_,h,λ ρ G ay σ H Q B q F=>F d G v H (.refl B.cA) (r H) q⟩
theorem aJ{n:Int} {j}:cu X (.Constant (.int n) j pos) (rb (.int n)):=tb Sd λ _=>rfl
theorem pV{n:Bool} {j}:cu X (.Constant (.bool n) j pos) (rb (.aI n)):=tb Se λ _=>rfl
theorem iu {j}:cu X (.Constant .none j pos) (rb .a9):=tb Sf λ _=>rfl
theorem bw{x:Str} {j}:cu X (.Constant (.str x) j pos) (rb (.str x)):=tb Sg λ _=>rfl
theorem am(k:Nat){x:Str}(dG:X.N[k]?=some x:=by rfl)(bO:qM X.env.scope x:=by first | exact Or.inl rfl | exact Or.inr (Or.inl rfl) | exact Or.inr (Or.inr rfl))(hd:(x==("__debug__" : Str))=false:=by decide)
 (ho:(x==("__classdict__" : Str))=false:=by decide):cu X (.Name x pos) (Jj k):=⟨_,Sh k dG bO hd ho,λ ρ G ay σ H Q B q F=>by
 unfold Jj at q;split at q
 ·next d h=>
  obtain ⟨v,ae,ag⟩:=B.st k d h;exact ⟨v,ae,F d G v H (.refl B.cA) ag q⟩
 ·exact q.elim⟩
theorem j1{x:Str}{n:String}(a3:et X x)(hm:X.mg x=none)(bO:kO x=some (.type n))(aH:x≠"__name__":=by decide)(hd:(x==("__debug__" : Str))=false:=by decide):cu X (.Name x pos) (rb (.ty n)):=
 tb (Si (v:=.ty n) a3 hm bO rfl aH hd) λ _=>rfl
theorem k8{x:Str}{v:V}{u:Value}{d:D}(a3:et X x)(hm:X.mg x=some u)(r:RelV v u)(ax:∀ H,dj X.K H d v)(hd:(x==("__debug__" : Str))=false:=by decide):cu X (.Name x pos) (rb d):=tb (Sj a3 hm r hd) ax
abbrev Jk:g4:=λ _ G Q=>Q [] G
abbrev Jl(bb:cn)(yM:g4):g4:=λ ρ G Q=>bb ρ G λ x aB=>yM ρ aB λ xs bf=>Q (x::xs) bf
theorem aL:iq X [] Jk:=⟨_,Sk,λ ρ G ay σ H Q B q F=>F [] G [] H (.refl B.cA) rfl rfl q⟩
theorem aq(ax:cu X e aZ)(ao:iq X es t)(ap:e7 e=true:=by rfl):iq X (e::es) (Jl aZ t):=by
 obtain ⟨ca,cv,cw⟩:=ax.run;obtain ⟨cr,pW,b2⟩:=ao.run;refine ⟨_,IG cv pW ap,λ ρ G ay σ H Q B q F=>?_⟩;refine cw ρ G _ σ H _ B q λ x aB v H1 g1 aQ aF=>b2 ρ aB _ σ H1 _ (B.go g1) aF λ xs bf vs bg g2 Cw ar bo=>?_;exact F (x::xs) bf (v::vs) bg (g1.trans g2) ⟨v,vs,rfl,aQ.mono g2.tup,Cw⟩ (by simp [ar]) bo
abbrev TN(t:g4):cn:=λ ρ G Q=>t ρ G λ ds aB=>Q (.tup ds) aB
abbrev TO(t:g4):cn:=λ ρ G Q=>t ρ G λ ds aB=>∀ p,aB p=none->Q (.ref p) (up aB p (.lst ds))
theorem Cx{n:Nat}(h:yg n 1000=true):n<=sizeLine:=by
 have:=Nat.le_of_ble_eq_true h;rw [hC];omega
theorem d9 {g9} (h:iq X es t) (ar:yg es.length 1000=true:=by rfl):cu X (.Tuple es g9 pos) (TN t):=by
 obtain ⟨ca,cv,cw⟩:=h.run;refine ⟨_,Sl cv,λ ρ G ay σ H Q B q F=>cw ρ G _ σ H _ B q λ ds aB vs H1 g1 al aH aF=>⟨by rw [al.len,aH];exact Cx ar,λ p ah=>?_⟩⟩;have g2:=Go.nG (o:=.tup vs) g1.cA ah;exact F (.tup ds) aB _ _ (g1.trans g2) ⟨p,vs,rfl,.of eG,al.mono g2.tup⟩ aF
theorem kA(h:iq X es t)(ar:yg es.length 1000=true:=by rfl):cu X (.List es pos) (TO t):=by
 obtain ⟨ca,cv,cw⟩:=h.run;refine ⟨_,IH cv,λ ρ G ay σ H Q B q F=>cw ρ G _ σ H _ B q λ ds aB vs H1 g1 al aH aF=>⟨by rw [al.len,aH];exact Cx ar,λ p ah=>?_⟩⟩;exact F (.ref p) _ _ _ (g1.trans (Go.pU g1.cA ah al)) rfl (aF p (g1.cA.none ah))
def Jm(ds:List D):Int->Option D
 | .ofNat k=>ds[k]?
 | .negSucc k=>gJ ds (.negSucc k)
theorem Jn(ds:List D)(i:Int):Jm ds i=gJ ds i:=by
 cases i with
 | negSucc k=>rfl
 | ofNat k=>
  show ds[k]?=gJ ds (k:Int);by_cases h:k < ds.length
  ·rw [fv h];exact (k4 (fv h)).symm
  ·rw [x3 (by omega)];unfold gJ kZ;rw [if_pos (by omega),if_neg (by omega)];rfl
def oH(ds:List D)(i:Int)(G:aP)(Q:cJ):Prop:=match Jm ds i with
 | some d=>Q d G
 | none=>False
theorem vU{ds:List D}{i:Int}{G:aP}{Q:cJ}{d:D}(h:gJ ds i=some d)(q:Q d G):oH ds i G Q:=by unfold oH;rw [Jn,h];exact q
@[irreducible] def hJ(G:aP)(l:Addr)(k:List D->Prop):Prop:=match G l with
 | some (.lst ds)=>k ds
 | _=>False
@[irreducible] def k9(G:aP)(l:Addr)(k:List D->Prop):Prop:=match G l with
 | some (.lst ds)=>k ds
 | _=>False
theorem bX{G:aP}{l:Addr}{k:List D->Prop}{ds:List D}(h:G l=some (.lst ds))(q:k ds):hJ G l k:=by unfold hJ;rw [h];exact q
theorem fG{G:aP}{l:Addr}{k:List D->Prop}{ds:List D}(h:G l=some (.lst ds))(q:k ds):k9 G l k:=by unfold k9;rw [h];exact q
theorem iN{K:aX}{G:aP}{H:aw}{l:Addr}{k:List D->Prop}(v:fq K G H)(h:hJ G l k):∃ ds vs,k ds/\eu K H l vs/\bM K H ds vs:=by
 unfold hJ at h;split at h
 ·next ds e=>obtain ⟨vs,z,r⟩:=v _ _ e;exact ⟨ds,vs,h,.of z,r⟩
 ·exact h.elim
theorem pX{K:aX}{G:aP}{H:aw}{l:Addr}{k:List D->Prop}(v:fq K G H)(h:k9 G l k):∃ ds vs,k ds/\G l=some (.lst ds)/\H l=some (.lst vs)/\bM K H ds vs:=by
 unfold k9 at h;split at h
 ·next ds e=>obtain ⟨vs,z,r⟩:=v _ _ e;exact ⟨ds,vs,h,e,z,r⟩
 ·exact h.elim
abbrev zh(r:ht)(bb bF:cn):cn:=λ ρ G Q=>bb ρ G λ x aB=>bF ρ aB λ y bf=>r x y bf Q
abbrev TP(r:zg)(bb:cn):cn:=λ ρ G Q=>bb ρ G λ x aB=>r x aB Q
theorem bW{op:Operator}{r:ht}(aS:f5 X (hD op) r)(ax:cu X a bb)(af:cu X b bF):cu X (.BinOp a op b pos) (zh r bb bF):=by
 obtain ⟨ca,cv,cw⟩:=ax.run;obtain ⟨j2,fH,fI⟩:=af.run;obtain ⟨co,iv,ik⟩:=aS.run;refine ⟨_,Sm iv cv fH,λ ρ G ay σ H Q B q F=>?_⟩;exact cw ρ G _ σ H _ B q λ x aB v H1 g1 aQ aF=>fI ρ aB _ σ H1 _ (B.go g1) aF λ y bf u bg g2 a5 bo=>ik x y v u bf bg ay Q g2.cA (aQ.mono g2.tup) a5 bo (F.after (g1.trans g2))
theorem kB{op:m9}{r:ht}(aS:f5 X (d3 op) r)(ax:cu X a bb)(af:cu X b bF)(hm:ph op b=false):cu X (.Compare a [op] [b] pos) (zh r bb bF):=by
 obtain ⟨ca,cv,cw⟩:=ax.run;obtain ⟨j2,fH,fI⟩:=af.run;obtain ⟨co,iv,ik⟩:=aS.run;refine ⟨_,Sp iv cv fH hm,λ ρ G ay σ H Q B q F=>?_⟩;exact cw ρ G _ σ H _ B q λ x aB v H1 g1 aQ aF=>fI ρ aB _ σ H1 _ (B.go g1) aF λ y bf u bg g2 a5 bo=>ik x y v u bf bg ay Q g2.cA (aQ.mono g2.tup) a5 bo (F.after (g1.trans g2))
theorem mE{op:UnaryOp}{r:zg}(aS:Ji X (uG op) r)(ax:cu X a bb):cu X (.UnaryOp op a pos) (TP r bb):=by
 obtain ⟨ca,cv,cw⟩:=ax.run;obtain ⟨co,iv,ik⟩:=aS.run;refine ⟨_,Sn iv cv,λ ρ G ay σ H Q B q F=>?_⟩;exact cw ρ G _ σ H _ B q λ x aB v H1 g1 aQ aF=>ik x v aB H1 ay Q g1.cA aQ aF (F.after g1)
theorem bZ{r:ht}(ao:Cu X r)(ax:cu X a bb)(af:cu X b bF)(ap:yT b):cu X (.Subscript a b pos) (zh r bb bF):=by
 obtain ⟨ca,cv,cw⟩:=ax.run;obtain ⟨j2,fH,fI⟩:=af.run;obtain ⟨co,iv,ik⟩:=ao.run;refine ⟨_,II iv cv fH ap,λ ρ G ay σ H Q B q F=>?_⟩;exact cw ρ G _ σ H _ B q λ x aB v H1 g1 aQ aF=>fI ρ aB _ σ H1 _ (B.go g1) aF λ y bf u bg g2 a5 bo=>ik x y v u bf bg ay Q g2.cA (aQ.mono g2.tup) a5 bo (F.after (g1.trans g2))
def bn(c:Bool)(A B:Prop):Prop:=(c=true->A)/\(c=false->B)
theorem bn.yes{c:Bool}{A B:Prop}(h:c=true)(q:A):bn c A B:=⟨λ _=>q,λ z=>absurd (h.symm.trans z) (by decide)⟩
theorem bn.no{c:Bool}{A B:Prop}(h:c=false)(q:B):bn c A B:=⟨λ z=>absurd (h.symm.trans z) (by decide),λ _=>q⟩
abbrev rd(x:D)(k:Bool->Prop):Prop:=match x with
 | .aI c=>k c
 | _=>False
theorem zi{K:aX}{H:aw}{x:D}{v:V}{k:Bool->Prop}(h:rd x k)(r:dj K H x v):∃ c,v=.aI c/\x=.aI c/\k c:=by
 unfold rd at h;split at h
 ·exact ⟨_,r,rfl,h⟩
 ·exact h.elim
abbrev TQ(bb bF:cn):cn:=λ ρ G Q=>bb ρ G λ x aB=>rd x λ c=>bn c (bF ρ aB Q) (Q (.aI false) aB)
abbrev TR(bb bF:cn):cn:=λ ρ G Q=>bb ρ G λ x aB=>rd x λ c=>bn c (Q (.aI true) aB) (bF ρ aB Q)
abbrev TS(bb:cn):cn:=λ ρ G Q=>bb ρ G λ x aB=>rd x λ c=>Q (.aI (!c)) aB
theorem mF {op} (h:cu X a bb):cu X (.BoolOp op [a] pos) bb:=by
 obtain ⟨ca,cv,cw⟩:=h.run;exact ⟨_,Sq cv,cw⟩
theorem mG{rest:List a8}(ax:cu X a bb)(af:cu X (.BoolOp .And (b::rest) pos) bF):cu X (.BoolOp .And (a::b::rest) pos) (TQ bb bF):=by
 obtain ⟨ca,cv,cw⟩:=ax.run;obtain ⟨j2,fH,fI⟩:=af.run;refine ⟨_,Sr cv fH,λ ρ G ay σ H Q B q F=>cw ρ G _ σ H _ B q λ x aB v H1 g1 aQ aF=>?_⟩;obtain ⟨c,aC,aG,bo⟩:=zi aF aQ;refine ⟨c,aC,?_⟩
 cases c with
 | true=>exact fI ρ aB _ σ H1 _ (B.go g1) (bo.1 rfl) (F.after g1)
 | false=>exact F (.aI false) _ _ _ g1 rfl (bo.2 rfl)
theorem zj{rest:List a8}(ax:cu X a bb)(af:cu X (.BoolOp .Or (b::rest) pos) bF):cu X (.BoolOp .Or (a::b::rest) pos) (TR bb bF):=by
 obtain ⟨ca,cv,cw⟩:=ax.run;obtain ⟨j2,fH,fI⟩:=af.run;refine ⟨_,Ss cv fH,λ ρ G ay σ H Q B q F=>cw ρ G _ σ H _ B q λ x aB v H1 g1 aQ aF=>?_⟩;obtain ⟨c,aC,aG,bo⟩:=zi aF aQ;refine ⟨c,aC,?_⟩
 cases c with
 | false=>exact fI ρ aB _ σ H1 _ (B.go g1) (bo.2 rfl) (F.after g1)
 | true=>exact F (.aI true) _ _ _ g1 rfl (bo.1 rfl)
theorem vV(ax:cu X a bb):cu X (.UnaryOp .Not a pos) (TS bb):=by
 obtain ⟨ca,cv,cw⟩:=ax.run;refine ⟨_,So cv,λ ρ G ay σ H Q B q F=>cw ρ G _ σ H _ B q λ x aB v H1 g1 aQ aF=>?_⟩;obtain ⟨c,aC,aG,bo⟩:=zi aF aQ;exact ⟨c,aC,F (.aI (!c)) _ _ _ g1 rfl bo⟩
abbrev TU(bj:hs)(bb bF:cn):cn:=λ ρ G Q=>bj ρ G λ c aB=>bn c (bb ρ aB Q) (bF ρ aB Q)
theorem TV{bj:hs}(ai:AT X c bj)(ax:cu X a bb)(af:cu X b bF):cu X (.IfExp c a b pos) (TU bj bb bF):=by
 obtain ⟨tc,k_,rc⟩:=ai.run;obtain ⟨ca,cv,cw⟩:=ax.run;obtain ⟨j2,fH,fI⟩:=af.run;refine ⟨_,Su k_ cv fH,λ ρ G ay σ H Q B q F=>rc ρ G _ σ H _ B q λ c aB H1 g1 aF=>?_⟩
 cases c with
 | true=>exact cw ρ aB _ σ H1 _ (B.go g1) (aF.1 rfl) (F.after g1)
 | false=>exact fI ρ aB _ σ H1 _ (B.go g1) (aF.2 rfl) (F.after g1)
abbrev Jo(t:cn):hs:=λ ρ G Q=>t ρ G λ x aB=>rd x λ c=>Q c aB
theorem bN{op:m9}{r:ht}(aS:f5 X (d3 op) r)(ax:cu X a bb)(af:cu X b bF)(hm:ph op b=false):AT X (.Compare a [op] [b] pos) (Jo (zh r bb bF)):=by
 obtain ⟨ca,cv,cw⟩:=ax.run;obtain ⟨j2,fH,fI⟩:=af.run;obtain ⟨co,iv,ik⟩:=aS.run;refine ⟨_,SD iv cv fH hm,λ ρ G ay σ H Q B q F=>?_⟩;refine cw ρ G _ σ H _ B q λ x aB v H1 g1 aQ aF=>fI ρ aB _ σ H1 _ (B.go g1) aF λ y bf u bg g2 a5 bo=>ik x y v u bf bg _ _ g2.cA (aQ.mono g2.tup) a5 bo λ z em w dI g3 vW dw=>?_;obtain ⟨c,aC,aG,gm⟩:=zi dw vW;exact ⟨c,aC,F c em dI ((g1.trans g2).trans g3) gm⟩
abbrev TW(bj:hs):hs:=λ ρ G Q=>bj ρ G λ c aB=>Q (!c) aB
abbrev TX(bj oI:hs):hs:=λ ρ G Q=>bj ρ G λ c aB=>bn c (oI ρ aB Q) (Q false aB)
abbrev TY(bj oI:hs):hs:=λ ρ G Q=>bj ρ G λ c aB=>bn c (Q true aB) (oI ρ aB Q)
theorem pY{bj:hs}(ax:AT X a bj):AT X (.UnaryOp .Not a pos) (TW bj):=by
 obtain ⟨ca,cv,cw⟩:=ax.run;exact ⟨_,SE cv,λ ρ G ay σ H Q B q F=>cw ρ G _ σ H _ B q λ c aB H1 g1 aF=>F _ _ _ g1 aF⟩
theorem la{bj:hs}(ax:AT X a bj):eZ X (.BoolOp .And [a] pos) bj:=by
 obtain ⟨ca,cv,cw⟩:=ax.run;exact ⟨_,SG cv,cw⟩
theorem j3{bj:hs}(ax:AT X a bj):eZ X (.BoolOp .Or [a] pos) bj:=by
 obtain ⟨ca,cv,cw⟩:=ax.run;exact ⟨_,SH cv,cw⟩
theorem kC{bj oI:hs}{rest:List a8}(ax:AT X a bj)(af:eZ X (.BoolOp .And (b::rest) pos) oI):eZ X (.BoolOp .And (a::b::rest) pos) (TX bj oI):=by
 obtain ⟨ca,cv,cw⟩:=ax.run;obtain ⟨j2,fH,fI⟩:=af.run;refine ⟨_,SI cv fH,λ ρ G ay σ H Q B q F=>cw ρ G _ σ H _ B q λ c aB H1 g1 aF=>?_⟩
 cases c with
 | true=>exact fI ρ aB _ σ H1 _ (B.go g1) (aF.1 rfl) λ c au aj g'=>F c au aj (g1.trans g')
 | false=>exact F _ _ _ g1 (aF.2 rfl)
theorem h4{bj oI:hs}{rest:List a8}(ax:AT X a bj)(af:eZ X (.BoolOp .Or (b::rest) pos) oI):eZ X (.BoolOp .Or (a::b::rest) pos) (TY bj oI):=by
 obtain ⟨ca,cv,cw⟩:=ax.run;obtain ⟨j2,fH,fI⟩:=af.run;refine ⟨_,SJ cv fH,λ ρ G ay σ H Q B q F=>cw ρ G _ σ H _ B q λ c aB H1 g1 aF=>?_⟩
 cases c with
 | false=>exact fI ρ aB _ σ H1 _ (B.go g1) (aF.2 rfl) λ c au aj g'=>F c au aj (g1.trans g')
 | true=>exact F _ _ _ g1 (aF.1 rfl)
theorem eZ.at{bj:hs}(h:eZ X e bj):AT X e bj:=by
 obtain ⟨ca,cv,cw⟩:=h.run;exact ⟨_,cv.pt,cw⟩
def TZ(x:D)(G:aP)(k:Bool->Prop):Prop:=match x with
 | .a9=>k false
 | .aI b=>k b
 | .int i=>k (i !=0)
 | .str y=>y.length<=sizeLine/\k ((y.length:Int) !=0)
 | .tup ds=>k (!ds.isEmpty)
 | .ref p=>hJ G p λ ds=>k (!ds.isEmpty)
 | _=>False
theorem bM.isEmpty{K:aX}{H:aw}{ds:List D}{vs:List V}(h:bM K H ds vs):vs.isEmpty=ds.isEmpty:=by
 have:=h.len;cases ds<;>cases vs<;>simp_all
abbrev T0(t:cn):hs:=λ ρ G Q=>t ρ G λ x aB=>TZ x aB λ c=>Q c aB
theorem kD(ax:cu X a bb)(he:∀ whole,isTrue a X.env whole=(do let v ← whole;pp a.pos;jI [v] (truthy v)):=by intro _;rfl):AT X a (T0 bb):=by
 obtain ⟨ca,cv,cw⟩:=ax.run;refine ⟨_,SF cv he,λ ρ G ay σ H Q B q F=>cw ρ G _ σ H _ B q λ x aB v H1 g1 aQ aF=>?_⟩
 cases x with
 | a9=>cases aQ;exact ⟨_,rfl,F _ _ _ g1 aF⟩
 | aI b=>cases aQ;exact ⟨_,rfl,F _ _ _ g1 aF⟩
 | int i=>cases aQ;exact ⟨_,rfl,F _ _ _ g1 aF⟩
 | str y=>cases aQ;exact ⟨_,⟨aF.1,rfl⟩,F _ _ _ g1 aF.2⟩
 | ref l=>
  cases aQ;obtain ⟨ds,vs,k,s,r⟩:=iN g1.cA aF;exact ⟨_,.inl ⟨vs,s,rfl⟩,by rw [r.isEmpty];exact F _ _ _ g1 k⟩
 | tup ds=>
  obtain ⟨l,vs,rfl,s,r⟩:=aQ;exact ⟨_,.inr (.inl ⟨vs,s,rfl⟩),by rw [r.isEmpty];exact F _ _ _ g1 aF⟩
 | ty n=>exact (show False from aF).elim
 | d7 ds=>exact (show False from aF).elim
abbrev T1:oG:=λ _ G Q=>Q none G
abbrev T2(t:cn):oG:=λ ρ G Q=>t ρ G λ x aB=>match x with
 | .int i=>Q (some i) aB
 | _=>False
theorem h5:ra X none T1:=⟨_,Sv,λ ρ G ay σ H Q B q F=>F none G H (.refl B.cA) q⟩
theorem d_(h:cu X e aZ):ra X (some e) (T2 aZ):=by
 obtain ⟨ca,cv,cw⟩:=h.run;refine ⟨_,Sw cv,λ ρ G ay σ H Q B q F=>cw ρ G _ σ H _ B q λ x aB v H1 g1 aQ aF=>?_⟩;split at aF
 ·next i=>exact ⟨i,aQ,F _ _ _ g1 aF⟩
 ·exact aF.elim
abbrev T3(r:D->Option Int->Option Int->aP->cJ->Prop)(aZ:cn)(e6 lJ:oG):cn:=λ ρ G Q=>aZ ρ G λ x aB=>e6 ρ aB λ l bf=>lJ ρ bf λ u em=>r x l u em Q
theorem fU{r:D->Option Int->Option Int->aP->cJ->Prop}{lo av:Option a8}{e6 lJ:oG}{dZ:Pos}(ao:Cv X r)(he:cu X e aZ)(ar:ra X lo e6)(a_:ra X av lJ):cu X (.Subscript e (.Slice lo av none dZ) pos) (T3 r aZ e6 lJ):=by
 obtain ⟨ce,oJ,re⟩:=he.run;obtain ⟨cl,Cy,dJ⟩:=ar.run;obtain ⟨ae7,T4,c5⟩:=a_.run;obtain ⟨cr,pW,b2⟩:=ao.run;refine ⟨_,Sx pW oJ Cy T4,λ ρ G ay σ H Q B q F=>re ρ G _ σ H _ B q λ x aB v H1 g1 aQ aF=>dJ ρ aB _ σ H1 _ (B.go g1) aF λ l bf bg g2 bo=>c5 ρ bf _ σ bg _ ((B.go g1).go g2) bo λ u em dI g3 dw=>?_⟩;exact b2 x v l u em dI ay Q g3.cA ((aQ.mono g2.tup).mono g3.tup) dw (F.after ((g1.trans g2).trans g3))
abbrev Jp:f3:=λ D ρ G=>D.nx ρ G
abbrev zk(t u:f3):f3:=λ D ρ G=>t { D with nx:=u D } ρ G
abbrev Jq(aZ:cn):f3:=λ D ρ G=>aZ ρ G λ _ aB=>D.nx ρ aB
abbrev Jr(aZ:cn):f3:=λ D ρ G=>aZ ρ G D.rt
abbrev Js(c:hs)(t u:f3):f3:=λ D ρ G=>c ρ G λ b aB=>bn b (t D ρ aB) (u D ρ aB)
theorem cZ:mD X [] Jp:=⟨_,IL,λ b3 c8 ρ G σ H B q F=>F.nx ρ G σ H (.refl B.cA) B q⟩
theorem bq{st:bP}{rest:List bP}{d4 us:f3}(ae:gs X st d4)(ag:mD X rest us):mD X (st::rest) (zk d4 us):=by
 obtain ⟨bu,ey,aT⟩:=ae.run;obtain ⟨bt,hQ,a0⟩:=ag.run;refine ⟨_,IM ey hQ,λ b3 c8 ρ G σ H B q F=>aT _ _ ρ G σ H B q ⟨λ ρ' au σ' aj g b q=>a0 b3 c8 ρ' au σ' aj b q (F.after g),F.rt,F.bk,F.ct⟩⟩
theorem bA{st:bP}{d4:f3}(ae:gs X st d4):mD X [st] d4:=by
 obtain ⟨bu,ey,aT⟩:=ae.run;exact ⟨_,IN ey,aT⟩
theorem lQ(he:cu X e aZ)(ap:jH e none pos.line X.env=pure false:=by rfl):gs X (.Expr e pos) (Jq aZ):=by
 obtain ⟨bu,ey,aT⟩:=he.run;exact ⟨_,IO ey ap,λ b3 c8 ρ G σ H B q F=>aT ρ G _ σ H _ B q λ d au v aj g _ q=>F.nx ρ au σ aj g (B.go g) q⟩
theorem b7(he:cu X e aZ):gs X (.Return (some e) pos) (Jr aZ):=by
 obtain ⟨bu,ey,aT⟩:=he.run;exact ⟨_,IP ey,λ b3 c8 ρ G σ H B q F=>aT ρ G _ σ H _ B q F.rt⟩
theorem cO{ss us:List bP}{bj:hs}{d4 lM:f3}(ai:AT X c bj)(ax:mD X ss d4)(af:mD X us lM):gs X (.If c ss us pos) (Js bj d4 lM):=by
 obtain ⟨tc,k_,rc⟩:=ai.run;obtain ⟨ca,cv,cw⟩:=ax.run;obtain ⟨j2,fH,fI⟩:=af.run;refine ⟨_,IQ k_ cv fH,λ b3 c8 ρ G σ H B q F=>rc ρ G _ σ H _ B q λ c aB H1 g1 aF=>?_⟩
 cases c with
 | true=>exact cw b3 c8 ρ aB σ H1 (B.go g1) (aF.1 rfl) (F.after g1)
 | false=>exact fI b3 c8 ρ aB σ H1 (B.go g1) (aF.2 rfl) (F.after g1)
abbrev vX(k:Nat):gM:=λ d ρ G Q=>Q (ρ.set k (some d)) G
abbrev Cz:lP:=λ ds ρ G Q=>match ds with
 | []=>Q ρ G
 | _=>False
abbrev CA(t:gM)(u:lP):lP:=λ ds ρ G Q=>match ds with
 | d::r=>t d ρ G λ ρ' au=>u r ρ' au Q
 | []=>False
abbrev Jt(t:lP):gM:=λ d ρ G Q=>match d with
 | .tup ds=>t ds ρ G Q
 | _=>False
theorem jv{k:Nat}{x:Str}(dG:X.N.Nodup)(av:X.N[k]?=some x)(ak:Loc X.env.scope x)(hf:X.fn x=true\/X.env.scope.names.lookup x=some .local:=by first | exact .inl rfl | exact .inr rfl | assumption):ky X (.Name x pos) (vX k):=
 ⟨_,SK dG av ak hf,λ d v ρ G ay σ H Q B a q F=>F _ G _ H (.refl B.cA) (B.set a k) q⟩
abbrev zl(aZ:cn)(g:gM):f3:=λ D ρ G=>aZ ρ G λ x aB=>g x ρ aB D.nx
theorem CB{bl:a8}{g:gM}(he:cu X e aZ)(a3:ky X bl g)(ap:W1 [bl] e pos.line X.env=pure false:=by rfl)(hw:uB [bl] e X.env=pure none:=by rfl)(ae:(iE [bl] X.env).map (·.2)=[XV bl X.env]:=by rfl):gs X (.Assign [bl] e pos) (zl aZ g):=by
 obtain ⟨bu,ey,aT⟩:=he.run;obtain ⟨bt,hQ,a0⟩:=a3.run;exact ⟨_,SR ey hQ ap hw ae,λ b3 c8 ρ G σ H B q F=>aT ρ G _ σ H _ B q λ d aB v H1 g1 a aF=>a0 d v ρ aB _ σ H1 _ (B.go g1) a aF λ ρ' au σ' aj g' b gT=>F.nx ρ' au σ' aj (g1.trans g') b gT⟩
theorem cX{k:Nat}{x:Str}{pos':Pos}(dG:X.N.Nodup)(av:X.N[k]?=some x)(ak:Loc X.env.scope x)(he:cu X e aZ)(ap:jH e (some (.Name x pos')) pos.line X.env=pure false:=by rfl)(hf:X.fn x=true\/X.env.scope.names.lookup x=some .local:=by first | exact .inl rfl | exact .inr rfl | assumption) :
 gs X (.Assign [.Name x pos'] e pos) (zl aZ (vX k)):=by
 obtain ⟨bu,ey,aT⟩:=he.run;exact ⟨_,SQ dG av ak ey ap hf,λ b3 c8 ρ G σ H B q F=>aT ρ G _ σ H _ B q λ d aB v H1 g1 a aF=>F.nx _ aB _ H1 g1 ((B.go g1).set a k) aF⟩
theorem Ju:zf X [] Cz:=⟨_,SL,λ ds vs ρ G ay σ H Q B a q F=>by
 cases ds with
 | nil=>cases a;exact ⟨rfl,F ρ G σ H (.refl B.cA) B q⟩
 | cons d r=>exact (show False from q).elim⟩
theorem zm{bl:gM}{u:lP}(ae:ky X e bl)(ag:zf X es u)(ap:(iE (e::es) X.env).map (·.2)=XV e X.env::(iE es X.env).map (·.2):=by rfl):zf X (e::es) (CA bl u):=by
 obtain ⟨bu,ey,aT⟩:=ae.run;obtain ⟨bt,hQ,a0⟩:=ag.run;refine ⟨_,SM ey hQ ap,λ ds vs ρ G ay σ H Q B a q F=>?_⟩
 cases ds with
 | nil=>exact (show False from q).elim
 | cons d r=>
  obtain ⟨v,us,rfl,ad,T5⟩:=a;exact ⟨v,us,rfl,aT d v ρ G _ σ H _ B ad q λ ρ' au σ' aj g b gT=>a0 r us ρ' au _ σ' aj _ b (T5.mono g.tup) gT λ ρ2 bf σ2 bg g2 dx bo=>F ρ2 bf σ2 bg (g.trans g2) dx bo⟩
theorem Jv{k n:Nat}{bl:lP}(ai:X.calm=true)(h:zf X es bl)(ar:es.length=n:=by rfl)(aH:(iE es X.env).length=n:=by rfl)(hG:(iE es X.env).findIdx? (·.1)=none:=by rfl)
 (hlen:∀ ds ρ G Q,bl ds ρ G Q->ds.length=n:=by intro ds ρ G Q h;match ds,h with | [],h=>(first | rfl | exact (show False from h).elim) | [_],h=>(first | rfl | exact (show False from h).elim) | [_,_],h=>(first | rfl | exact (show False from h).elim) | [_,_,_],h=>(first | rfl | exact (show False from h).elim) | _::_::_::_::_,h=>exact (show False from h).elim):ky X (.Tuple es k pos) (Jt bl):=by
 obtain ⟨bu,ey,aT⟩:=h.run;refine ⟨_,SN (n:=n) ai ey aH hG,λ d v ρ G ay σ H Q B a q F=>?_⟩
 cases d with
 | tup ds=>
  obtain ⟨l,vs,rfl,s,r⟩:=a;exact ⟨l,vs,rfl,s,by rw [r.len];exact hlen _ _ _ _ q,aT ds vs ρ G ay σ H Q B r q F⟩
 | _=>exact (show False from q).elim
end
section
variable{X:aW}
def T6:ht:=λ x y G Q=>match x,y with
 | .int i,.int j=>Q (.int (i+j)) G
 | .str i,.str j=>i.length+j.length<=sizeLine/\Q (.str (i++j)) G
 | .tup xs,.tup aD=>xs.length+aD.length<=sizeLine/\Q (.tup (xs++aD)) G
 | .ref l,.ref m=>k9 G l λ xs=>k9 G m λ aD=>xs.length+aD.length<=sizeLine/\∀ p,G p=none->Q (.ref p) (up G p (.lst (xs++aD)))
 | _,_=>False
theorem di:f5 X (hD .Add) T6:=by
 refine ⟨_,⟨Qd.or (Qy.or (R9.or RD))⟩,λ x y ez hh G H ay Q v aQ a5 r F=>?_⟩
 cases x with
 | int i=>
  cases y with
  | int j=>cases aQ;cases a5;exact .inl ⟨i,j,rfl,rfl,F (.int (i+j)) G _ H (.refl v) rfl r⟩
  | _=>exact (show False from r).elim
 | str i=>
  cases y with
  | str j=>cases aQ;cases a5;exact .inr (.inl ⟨i,j,rfl,rfl,r.1,F (.str (i++j)) G _ H (.refl v) rfl r.2⟩)
  | _=>exact (show False from r).elim
 | tup xs=>
  cases y with
  | tup aD=>
   obtain ⟨l,vs,rfl,s1,aT⟩:=aQ;obtain ⟨m,us,rfl,s2,a0⟩:=a5;have bD:=aT.len;have b5:=a0.len;refine .inr (.inr (.inl ⟨l,m,vs,us,rfl,rfl,s1,s2,by rw [bD,b5];exact r.1,λ e=>?_,λ e aG=>?_,λ e aG p ah=>?_⟩))
   ·subst e
    have bV:xs=[]:=by cases xs<;>simp_all
    subst bV;exact F (.tup aD) G _ H (.refl v) ⟨m,us,rfl,s2,a0⟩ (by simpa using r.2)
   ·subst aG
    have bV:aD=[]:=by cases aD<;>simp_all
    subst bV;exact F (.tup xs) G _ H (.refl v) ⟨l,vs,rfl,s1,aT⟩ (by simpa using r.2)
   ·have g:=Go.nG (o:=.tup (vs++us)) v ah;exact F (.tup (xs++aD)) G _ _ g ⟨p,_,rfl,.of eG,(aT.append a0).mono g.tup⟩ r.2
  | _=>exact (show False from r).elim
 | ref l=>
  cases y with
  | ref m=>
   cases aQ;cases a5;obtain ⟨xs,vs,k1,aC,ae,aT⟩:=pX v r;obtain ⟨aD,us,k2,aG,ag,a0⟩:=pX v k1;have bD:=aT.len;have b5:=a0.len;exact .inr (.inr (.inr ⟨l,m,vs,us,rfl,rfl,ae,ag,by rw [bD,b5];exact k2.1,λ p ah=>F (.ref p) _ _ _ (Go.pU v ah (aT.append a0)) rfl (k2.2 p (v.none ah))⟩))
  | _=>exact (show False from r).elim
 | _=>exact (show False from r).elim
def vY(C:Int->Int->Prop)(g:Int->Int->D):ht:=λ x y G Q=>match x,y with
 | .int i,.int j=>C i j/\Q (g i j) G
 | _,_=>False
def rf(g:Int->Int->D):ht:=λ x y G Q=>match x,y with
 | .int i,.int j=>Q (g i j) G
 | _,_=>False
theorem zn{f:Value->Value->Sem Value}{C:Int->Int->Prop}{g:Int->Int->Int}(h:dS X f (sU C λ i j=>.int (g i j))):f5 X f (vY C λ i j=>.int (g i j)):=by
 refine ⟨_,⟨h⟩,λ x y ez hh G H ay Q v aQ a5 r F=>?_⟩
 cases x with
 | int i=>
  cases y with
  | int j=>cases aQ;cases a5;exact ⟨i,j,rfl,rfl,r.1,F (.int (g i j)) G _ H (.refl v) rfl r.2⟩
  | _=>exact (show False from r).elim
 | _=>exact (show False from r).elim
theorem T7{f:Value->Value->Sem Value}{g:Int->Int->Int}(h:dS X f (nB λ i j=>.int (g i j))):f5 X f (rf λ i j=>.int (g i j)):=by
 refine ⟨_,⟨h⟩,λ x y ez hh G H ay Q v aQ a5 r F=>?_⟩
 cases x with
 | int i=>
  cases y with
  | int j=>cases aQ;cases a5;exact ⟨i,j,rfl,rfl,F (.int (g i j)) G _ H (.refl v) rfl r⟩
  | _=>exact (show False from r).elim
 | _=>exact (show False from r).elim
theorem zo{f:Value->Value->Sem Value}{g:Int->Int->Bool}(h:dS X f (nB λ i j=>.aI (g i j))):f5 X f (rf λ i j=>.aI (g i j)):=by
 refine ⟨_,⟨h⟩,λ x y ez hh G H ay Q v aQ a5 r F=>?_⟩
 cases x with
 | int i=>
  cases y with
  | int j=>cases aQ;cases a5;exact ⟨i,j,rfl,rfl,F (.aI (g i j)) G _ H (.refl v) rfl r⟩
  | _=>exact (show False from r).elim
 | _=>exact (show False from r).elim
theorem lb:f5 X (hD .Sub) (rf λ i j=>.int (i - j)):=T7 Qe
theorem pZ:f5 X (hD .Mult) (vY yL λ i j=>.int (i * j)):=zn Qf
theorem Jw:f5 X (hD .FloorDiv) (vY (λ _ j=>0 < j/\j < 2 ^ 64) λ i j=>.int (i / j)):=zn R0
theorem oK:f5 X (hD .Mod) (vY (λ _ j=>0 < j) λ i j=>.int (i % j)):=zn Qg
theorem T8:f5 X (hD .Pow) (vY HM λ i j=>.int (i ^ j.toNat)):=zn Qh
theorem lf:f5 X (d3 .Lt) (rf λ i j=>.aI (decide (i < j))):=zo Qk
theorem Jx:f5 X (d3 .LtE) (rf λ i j=>.aI (decide (i<=j))):=zo Ql
theorem nH:f5 X (d3 .Gt) (rf λ i j=>.aI (decide (j < i))):=zo Qm
theorem T9:f5 X (d3 .GtE) (rf λ i j=>.aI (decide (j<=i))):=zo Qn
def T_:zg:=λ x G Q=>match x with
 | .int i=>Q (.int (-i)) G
 | _=>False
theorem mH:Ji X (uG .USub) T_:=by
 refine ⟨_,⟨Qj⟩,λ x ez G H ay Q v aQ r F=>?_⟩
 cases x with
 | int i=>cases aQ;exact ⟨i,rfl,F (.int (-i)) G _ H (.refl v) rfl r⟩
 | _=>exact (show False from r).elim
def Jy:D->Bool
 | .a9=>true
 | _=>false
def zp(neg:Bool):ht:=λ x y G Q=>match y with
 | .a9=>Q (.aI (neg ^^ Jy x)) G
 | _=>False
theorem Jz{K:aX}{H:aw}{x:D}{v:V}(a:dj K H x v):decide (v=.a9)=Jy x:=by
 cases x with
 | tup ds=>obtain ⟨_,_,rfl,_⟩:=a;rfl
 | d7 ds=>obtain ⟨_,_,rfl,_⟩:=a;rfl
 | _=>cases a;rfl
theorem rg:f5 X (d3 .Is) (zp false):=by
 refine ⟨_,⟨Qp⟩,λ x y ez hh G H ay Q v aQ a5 r F=>?_⟩
 cases y with
 | a9=>cases a5;exact ⟨rfl,by rw [Jz aQ];exact F (.aI _) G _ H (.refl v) rfl (by simpa [zp] using r)⟩
 | _=>exact (show False from r).elim
theorem Ua:f5 X (d3 .IsNot) (zp true):=by
 refine ⟨_,⟨Qq⟩,λ x y ez hh G H ay Q v aQ a5 r F=>?_⟩
 cases y with
 | a9=>cases a5;exact ⟨rfl,by rw [Jz aQ];exact F (.aI _) G _ H (.refl v) rfl (by simpa [zp] using r)⟩
 | _=>exact (show False from r).elim
theorem zq{K:aX}{H:aw}{ds:List D}{vs:List V}{i:Int}{d:D}(r:bM K H ds vs)(h:gJ ds i=some d):∃ v,gJ vs i=some v/\dj K H d v:=by
 unfold gJ at h ⊢;rw [r.len]
 cases e:kZ ds.length i with
 | none=>rw [e] at h;cases h
 | some j=>
  rw [e] at h;exact r.get h
theorem zr{ds:List D}{i:Int}{G:aP}{Q:cJ}(h:oH ds i G Q):∃ d,gJ ds i=some d/\Q d G:=by
 unfold oH at h;rw [Jn] at h;split at h
 ·next d e=>exact ⟨d,e,h⟩
 ·exact h.elim
def vZ:ht:=λ x y G Q=>match x,y with
 | .tup ds,.int i=>oH ds i G Q
 | .ref l,.int i=>hJ G l λ ds=>oH ds i G Q
 | .d7 ds,.int i=>oH ds i G Q
 | .str z,.int i=>z.length<=sizeLine/\∃ c,gJ z.cps.toList i=some c/\Q (.str ⟨#[c]⟩) G
 | _,_=>False
theorem Ub{ds:List D}{i:Int}{G:aP}{Q:cJ}{d:D}(h:gJ ds i=some d)(q:Q d G):vZ (.tup ds) (.int i) G Q:=vU h q
theorem JA{ds:List D}{i:Int}{G:aP}{Q:cJ}{d:D}(h:gJ ds i=some d)(q:Q d G):vZ (.d7 ds) (.int i) G Q:=vU h q
theorem hK{l:Addr}{ds:List D}{i:Int}{G:aP}{Q:cJ}{d:D}(ar:G l=some (.lst ds))(h:gJ ds i=some d)(q:Q d G):vZ (.ref l) (.int i) G Q:=bX ar (vU h q)
theorem b1:Cu X vZ:=by
 refine ⟨_,⟨Ie⟩,λ x y ez hh G H ay Q v aQ a5 r F=>?_⟩
 cases x with
 | tup ds=>
  cases y with
  | int i=>
   cases a5;obtain ⟨l,vs,rfl,s,dJ⟩:=aQ;obtain ⟨d,hd,q⟩:=zr r;obtain ⟨u,a_,ad⟩:=zq dJ hd;exact .inr (.inl ⟨l,vs,i,u,rfl,rfl,s,a_,F d G u H (.refl v) ad q⟩)
  | _=>exact (show False from r).elim
 | ref l=>
  cases y with
  | int i=>
   cases aQ;cases a5;obtain ⟨ds,vs,k,s,dJ⟩:=iN v r;obtain ⟨d,hd,q⟩:=zr k;obtain ⟨u,a_,ad⟩:=zq dJ hd;exact .inl ⟨l,vs,i,u,rfl,rfl,s,a_,F d G u H (.refl v) ad q⟩
  | _=>exact (show False from r).elim
 | d7 ds=>
  cases y with
  | int i=>
   cases a5;obtain ⟨l,vs,rfl,s,dJ⟩:=aQ;obtain ⟨d,hd,q⟩:=zr r;obtain ⟨u,a_,ad⟩:=zq dJ hd;exact .inl ⟨l,vs,i,u,rfl,rfl,s.fo,a_,F d G u H (.refl v) ad q⟩
  | _=>exact (show False from r).elim
 | str z=>
  cases y with
  | int i=>
   cases aQ;cases a5;obtain ⟨hz,c,ai,q⟩:=r;exact .inr (.inr ⟨z,i,c,rfl,rfl,hz,ai,F (.str ⟨#[c]⟩) G _ H (.refl v) rfl q⟩)
  | _=>exact (show False from r).elim
 | _=>exact (show False from r).elim
def Uc:D->Option Int->Option Int->aP->cJ->Prop:=λ x lo av G Q=>match x with
 | .tup ds=>Q (.tup (cut ds lo av)) G
 | .ref l=>hJ G l λ ds=>∀ p,G p=none->Q (.ref p) (up G p (.lst (cut ds lo av)))
 | .d7 ds=>∀ p,G p=none->Q (.ref p) (up G p (.lst (cut ds lo av)))
 | _=>False
theorem rh:Cv X Uc:=by
 refine ⟨_,⟨Sb.or Rg⟩,λ x ez lo av G H ay Q v aQ r F=>?_⟩
 cases x with
 | tup ds=>
  obtain ⟨l,vs,rfl,s,dJ⟩:=aQ;refine .inl ⟨l,vs,rfl,s,λ t bg Ud st=>?_⟩;have g:=Go.grow v Ud;exact F (.tup (cut ds lo av)) G _ _ g ⟨t,_,rfl,st,(dJ.cut lo av).mono g.tup⟩ r
 | ref l=>
  cases aQ;obtain ⟨ds,vs,k,s,dJ⟩:=iN v r;exact .inr ⟨l,vs,rfl,s,λ p ah=>F (.ref p) _ _ _ (Go.pU v ah (dJ.cut lo av)) rfl (k p (v.none ah))⟩
 | d7 ds=>
  obtain ⟨l,vs,rfl,s,dJ⟩:=aQ;exact .inr ⟨l,vs,rfl,s.fo,λ p ah=>F (.ref p) _ _ _ (Go.pU v ah (dJ.cut lo av)) rfl (r p (v.none ah))⟩
 | _=>exact (show False from r).elim
def j4:D->Bool
 | .a9=>true
 | .aI _=>true
 | .int _=>true
 | .str _=>true
 | _=>false
def toV:D->V
 | .a9=>.a9
 | .aI b=>.aI b
 | .int i=>.int i
 | .str x=>.str x
 | _=>.a9
theorem v3{K:aX}{H:aw}{d:D}{v:V}(a:dj K H d v)(h:j4 d=true):v=toV d/\nD v=true:=by
 cases d with
 | a9=>cases a;exact ⟨rfl,rfl⟩
 | aI b=>cases a;exact ⟨rfl,rfl⟩
 | int b=>cases a;exact ⟨rfl,rfl⟩
 | str b=>cases a;exact ⟨rfl,rfl⟩
 | _=>exact absurd h (by simp [j4])
theorem v4{K:aX}{H:aw}:∀{ds:List D}{vs:List V},bM K H ds vs->ds.all j4=true->vs=ds.map toV/\vs.all nD=true
 | [],_,r,_=>by cases r;exact ⟨rfl,rfl⟩
 | _::_,_,⟨v,r,e,q,l⟩,h=>by
  subst e;rw [m_,fe] at h;obtain ⟨ae,ag⟩:=v3 q h.1;obtain ⟨aR,bB⟩:=v4 l h.2;exact ⟨by rw [dF,<- ae,<- aR],by rw [m_,ag,bB];rfl⟩
def zt:D->D->Bool
 | .a9,.a9=>true
 | .aI a,.aI b=>a==b
 | .aI a,.int b=>(if a then 1 else 0)==b
 | .int a,.aI b=>a==(if b then 1 else 0)
 | .int a,.int b=>a==b
 | .str a,.str b=>a==b
 | _,_=>false
theorem Ue{x y:D}(ak:j4 x=true)(bv:j4 y=true):ou (toV x) (toV y)=zt x y:=by
 cases x<;>cases y<;>first | rfl | (simp [j4] at ak;done) | (simp [j4] at bv;done)
def lR(x:D)(ds:List D):Bool:=ds.any λ y=>zt y x
theorem v5{x:D}(ak:j4 x=true):∀{ds:List D},ds.all j4=true->yU (toV x) (ds.map toV)=lR x ds
 | [],_=>rfl
 | d::ds,h=>by
  rw [m_,fe] at h;have aO:=v5 ak h.2;unfold yU lR at *;rw [dF,sk,sk,aO,Ue h.1 ak]
def inD(neg:Bool):ht:=λ x y G Q=>match y with
 | .tup ds=>j4 x=true/\ds.all j4=true/\Q (.aI (neg ^^ lR x ds)) G
 | .ref l=>hJ G l λ ds=>j4 x=true/\ds.all j4=true/\Q (.aI (neg ^^ lR x ds)) G
 | .str j=>(match x with
  | .str i=>Q (.aI (neg ^^ !(Builtin.Str.occurrences j i 0 j.length 1).isEmpty)) G
  | _=>False)
 | _=>False
theorem p0:f5 X (d3 .In) (inD false):=by
 refine ⟨_,⟨Rj.or Qo⟩,λ x y ez hh G H ay Q v aQ a5 r F=>?_⟩
 cases y with
 | tup ds=>
  obtain ⟨ae,ag,q⟩:=r;obtain ⟨l,vs,rfl,s,dJ⟩:=a5;obtain ⟨aC,f1⟩:=v3 aQ ae;obtain ⟨aG,f2⟩:=v4 dJ ag;refine .inl ⟨l,vs,rfl,.inr s,f1,f2,?_⟩;rw [aC,aG,v5 ae ag];exact F (.aI _) G _ H (.refl v) rfl (by simpa using q)
 | ref l=>
  cases a5;obtain ⟨ds,vs,⟨ae,ag,q⟩,s,dJ⟩:=iN v r;obtain ⟨aC,f1⟩:=v3 aQ ae;obtain ⟨aG,f2⟩:=v4 dJ ag;refine .inl ⟨l,vs,rfl,.inl s,f1,f2,?_⟩;rw [aC,aG,v5 ae ag];exact F (.aI _) G _ H (.refl v) rfl (by simpa using q)
 | str j=>
  cases x with
  | str i=>cases aQ;cases a5;exact .inr ⟨i,j,rfl,rfl,F (.aI _) G _ H (.refl v) rfl (by simpa [inD] using r)⟩
  | _=>exact (show False from r).elim
 | _=>exact (show False from r).elim
theorem JB:f5 X (d3 .NotIn) (inD true):=by
 refine ⟨_,⟨Rk.or Rl⟩,λ x y ez hh G H ay Q v aQ a5 r F=>?_⟩
 cases y with
 | tup ds=>
  obtain ⟨ae,ag,q⟩:=r;obtain ⟨l,vs,rfl,s,dJ⟩:=a5;obtain ⟨aC,f1⟩:=v3 aQ ae;obtain ⟨aG,f2⟩:=v4 dJ ag;refine .inl ⟨l,vs,rfl,.inr s,f1,f2,?_⟩;rw [aC,aG,v5 ae ag];exact F (.aI _) G _ H (.refl v) rfl (by simpa using q)
 | ref l=>
  cases a5;obtain ⟨ds,vs,⟨ae,ag,q⟩,s,dJ⟩:=iN v r;obtain ⟨aC,f1⟩:=v3 aQ ae;obtain ⟨aG,f2⟩:=v4 dJ ag;refine .inl ⟨l,vs,rfl,.inl s,f1,f2,?_⟩;rw [aC,aG,v5 ae ag];exact F (.aI _) G _ H (.refl v) rfl (by simpa using q)
 | str j=>
  cases x with
  | str i=>cases aQ;cases a5;exact .inr ⟨i,j,rfl,rfl,F (.aI _) G _ H (.refl v) rfl (by simpa [inD] using r)⟩
  | _=>exact (show False from r).elim
 | _=>exact (show False from r).elim
variable{e o:a8}{es:List a8}{aZ to:cn}{t:g4}{pos p apos dk:Pos}
abbrev JC(r:ta)(t:g4):cn:=λ ρ G Q=>t ρ G λ ds aB=>r ds aB Q
theorem c9{x:Str}{id:String}{r:ta}(ai:kz X (.builtin id) r)(a3:et X x)(hm:X.mg x=none)(bO:kO x=some (.builtin id))(ax:iq X (e::es) t)(aH:x≠"__name__":=by decide)(fF:(x==("__debug__" : Str))=false:=by decide)
 (ap:(e::es).all e7=true:=by rfl):cu X (.Call (.Name x p) (e::es) [] pos) (JC r t):=by
 obtain ⟨ca,cv,cw⟩:=ax.run;obtain ⟨tc,k_,rc⟩:=ai.run;exact ⟨_,Sz k_ a3 hm bO cv aH fF ap,λ ρ G ay σ H Q B q F=>cw ρ G _ σ H _ B q λ ds aB vs H1 g1 al _ aF=>rc ds vs aB H1 ay Q g1.cA al aF (F.after g1)⟩
theorem mI{x:Str}{T:String}{r:ta}(ai:kz X (.type T) r)(a3:et X x)(hm:X.mg x=none)(bO:kO x=some (.type T))(ax:iq X (e::es) t)(aH:x≠"__name__":=by decide)(fF:(x==("__debug__" : Str))=false:=by decide)
 (ap:(e::es).all e7=true:=by rfl):cu X (.Call (.Name x p) (e::es) [] pos) (JC r t):=by
 obtain ⟨ca,cv,cw⟩:=ax.run;obtain ⟨tc,k_,rc⟩:=ai.run;exact ⟨_,SA k_ a3 hm bO cv aH fF ap,λ ρ G ay σ H Q B q F=>cw ρ G _ σ H _ B q λ ds aB vs H1 g1 al _ aF=>rc ds vs aB H1 ay Q g1.cA al aF (F.after g1)⟩
abbrev nI(r:D->aP->cJ->Prop):ta:=λ xs G Q=>match xs with
 | [x]=>r x G Q
 | _=>False
abbrev td(r:D->D->aP->cJ->Prop):ta:=λ xs G Q=>match xs with
 | [x,y]=>r x y G Q
 | _=>False
theorem p1{K:aX}{H:aw}{r:D->aP->cJ->Prop}{xs:List D}{vs:List V}{G:aP}{Q:cJ}(h:nI r xs G Q)(a:bM K H xs vs):∃ x v,xs=[x]/\vs=[v]/\dj K H x v/\r x G Q:=by
 unfold nI at h;split at h
 ·obtain ⟨v,r,rfl,q,l⟩:=a;cases l;exact ⟨_,v,rfl,rfl,q,h⟩
 ·exact h.elim
theorem zu{K:aX}{H:aw}{r:D->D->aP->cJ->Prop}{xs:List D}{vs:List V}{G:aP}{Q:cJ}(h:td r xs G Q)(a:bM K H xs vs):∃ x y v u,xs=[x,y]/\vs=[v,u]/\dj K H x v/\dj K H y u/\r x y G Q:=by
 unfold td at h;split at h
 ·obtain ⟨v,r,rfl,q,u,a0,rfl,bo,l⟩:=a;cases l;exact ⟨_,_,v,u,rfl,rfl,q,bo,h⟩
 ·exact h.elim
def Ug:D->aP->cJ->Prop:=λ x G Q=>match x with
 | .tup ds=>Q (.int ds.length) G
 | .ref l=>hJ G l λ ds=>Q (.int ds.length) G
 | .d7 ds=>Q (.int ds.length) G
 | .str z=>z.length<=sizeLine/\Q (.int z.length) G
 | _=>False
theorem fA:kz X (.builtin "len") (nI Ug):=by
 refine ⟨_,⟨Rm.or Rn⟩,λ xs vs G H ay Q v a r F=>?_⟩;obtain ⟨x,u,rfl,rfl,aQ,r⟩:=p1 r a
 cases x with
 | tup ds=>
  obtain ⟨l,ws,rfl,s,dJ⟩:=aQ;exact .inl ⟨l,ws,rfl,.inr s,by rw [dJ.len];exact F (.int ds.length) G _ H (.refl v) rfl r⟩
 | ref l=>
  cases aQ;obtain ⟨ds,ws,k,s,dJ⟩:=iN v r;exact .inl ⟨l,ws,rfl,.inl s,by rw [dJ.len];exact F (.int ds.length) G _ H (.refl v) rfl k⟩
 | d7 ds=>
  obtain ⟨l,ws,rfl,s,dJ⟩:=aQ;exact .inl ⟨l,ws,rfl,.inl s.fo,by rw [dJ.len];exact F (.int ds.length) G _ H (.refl v) rfl r⟩
 | str z=>cases aQ;exact .inr ⟨z,rfl,r.1,F (.int z.length) G _ H (.refl v) rfl r.2⟩
 | _=>exact (show False from r).elim
def intD:D->aP->cJ->Prop:=λ x G Q=>match x with
 | .int i=>Q (.int i) G
 | .aI k=>Q (.int (if k then 1 else 0)) G
 | _=>False
theorem Uh:kz X (.type "int") (nI intD):=by
 refine ⟨_,⟨QB⟩,λ xs vs G H ay Q v a r F=>?_⟩;obtain ⟨x,u,rfl,rfl,aQ,r⟩:=p1 r a
 cases x with
 | int i=>cases aQ;exact .inl ⟨i,rfl,F (.int i) G _ H (.refl v) rfl r⟩
 | aI k=>cases aQ;exact .inr ⟨k,rfl,F (.int (if k then 1 else 0)) G _ H (.refl v) rfl r⟩
 | _=>exact (show False from r).elim
def JD(g:Int->Int->Int):D->D->aP->cJ->Prop:=λ x y G Q=>match x,y with
 | .int i,.int j=>Q (.int (g i j)) G
 | _,_=>False
theorem JE(ai:X.calm=true):kz X (.builtin "max") (td (JD λ i j=>if j > i then j else i)):=by
 refine ⟨_,⟨Qz ai⟩,λ xs vs G H ay Q v a r F=>?_⟩;obtain ⟨x,y,u,w,rfl,rfl,aQ,a5,r⟩:=zu r a
 cases x with
 | int i=>
  cases y with
  | int j=>cases aQ;cases a5;exact ⟨i,j,rfl,F (.int (if j > i then j else i)) G _ H (.refl v) rfl r⟩
  | _=>exact (show False from r).elim
 | _=>exact (show False from r).elim
theorem JF(ai:X.calm=true):kz X (.builtin "min") (td (JD λ i j=>if j < i then j else i)):=by
 refine ⟨_,⟨QA ai⟩,λ xs vs G H ay Q v a r F=>?_⟩;obtain ⟨x,y,u,w,rfl,rfl,aQ,a5,r⟩:=zu r a
 cases x with
 | int i=>
  cases y with
  | int j=>cases aQ;cases a5;exact ⟨i,j,rfl,F (.int (if j < i then j else i)) G _ H (.refl v) rfl r⟩
  | _=>exact (show False from r).elim
 | _=>exact (show False from r).elim
def Ui:D->aP->cJ->Prop:=λ x G Q=>match x with
 | .tup ds=>Q (.tup ds) G
 | .ref l=>hJ G l λ ds=>Q (.tup ds) G
 | _=>False
theorem v6:kz X (.type "tuple") (nI Ui):=by
 refine ⟨_,⟨Ro⟩,λ xs vs G H ay Q v a r F=>?_⟩;obtain ⟨x,u,rfl,rfl,aQ,r⟩:=p1 r a
 cases x with
 | tup ds=>
  obtain ⟨l,ws,rfl,s,dJ⟩:=aQ;exact ⟨l,ws,rfl,.inr ⟨s,F (.tup ds) G _ H (.refl v) ⟨l,ws,rfl,s,dJ⟩ r⟩⟩
 | ref l=>
  cases aQ;obtain ⟨ds,ws,k,s,dJ⟩:=iN v r;refine ⟨l,ws,rfl,.inl ⟨s,λ p ah=>?_⟩⟩;have g:=Go.nG (o:=.tup ws) v ah;exact F (.tup ds) G _ _ g ⟨p,ws,rfl,.of eG,dJ.mono g.tup⟩ k
 | _=>exact (show False from r).elim
end
end L3
namespace L2
open PySem PySem.Spec PyProof.Rows
def JG(K:aX)(e6:TE):TI:=λ σ H R=>e6 σ H λ x H1=>∃ a,x=.ref a/\(((∃ xs,eu K H1 a xs)/\R (vi K a) H1)\/((∃ xs,dH K H1 a xs)/\R (vj K a) H1))
theorem Uj{X:aW}{bl l:a8}{e6:TE}(ar:b_ X l e6):mm X bl l (JG X.K e6):=by
 intro pins s σ H R I h;refine b0 (ar pins s σ H _ I h) λ v s1 ⟨x,H1,a4,aT,aF⟩=>?_;obtain ⟨a,e,aF⟩:=aF;subst e;cases aT;rcases aF with ⟨⟨xs,bc⟩,q⟩ | ⟨⟨xs,bc⟩,q⟩
 ·obtain ⟨az,a6,p,hz⟩:=a4.list bc;refine wpAny_pyIter_list p.isList ?_;refine ⟨s1.heap.objs.size,[s1.heap.objs.size],_,_,H1,rfl,a4.kept (t':=s1.toks) λ b o e=>cP _ e,P1 a _,⟨_,f7 _ rfl,rfl,rfl⟩,λ b af=>?_,q⟩
  have e:b=s1.heap.objs.size:=by simpa using af
  subst e;exact a4.pI (ZB _) (a4.bJ.fresh (ZB _))
 ·obtain ⟨az,a6,p,hz⟩:=a4.tuple bc;refine Bf (show s1.heap.IsTuple a az.toArray from p) ?_;refine ⟨s1.heap.objs.size,[s1.heap.objs.size],_,_,H1,rfl,a4.kept (t':=s1.toks) λ b o e=>cP _ e,P2 a _,⟨_,f7 _ rfl,rfl,rfl⟩,λ b af=>?_,q⟩
  have e:b=s1.heap.objs.size:=by simpa using af
  subst e;exact a4.pI (ZB _) (a4.bJ.fresh (ZB _))
end L2
namespace L3
open PySem PySem.Spec L2
section
variable{X:aW}{a b c e o i bl iter:a8}{es:List a8}{bb bF aZ to h2:cn}{t:g4}{pos p apos dk:Pos}
structure kE where
 items:List D
 held:aP->Prop
abbrev kF:=eB->aP->(kE->aP->Prop)->Prop
def JH(K:aX)(J:kE)(lS:kt)(G:aP)(H:aw):Prop:=∀ aB H1,Go K G H aB H1->J.held aB →
 (∀(i:Nat)(d:D),J.items[i]?=some d->lS.go i H1/\∀ x aj,lS.pH i H1 x aj->Go K aB H1 aB aj/\dj K aj d x)/\∀ i,J.items.length<=i->lS.stop i H1
structure mJ(X:aW)(bl iter:a8)(d5:kF):Prop where
 run:∃ JI:TI,pO X bl iter JI/\∀ ρ G lg σ H R,dh X.K ρ G σ H->d5 ρ G lg->(∀ J lS au aj,Go X.K G H au aj->JH X.K J lS au aj->lg J au->R lS aj)->JI σ H R
@[irreducible] def v7(G:aP)(l:Addr)(k:kE->Prop):Prop:=match G l with
 | some (.lst ds)=>k ⟨ds,λ G=>G l=some (.lst ds)⟩
 | _=>False
abbrev Uk(bb:cn):kF:=λ ρ G R=>bb ρ G λ x aB=>match x with
 | .tup ds=>R ⟨ds,λ _=>True⟩ aB
 | .ref l=>v7 aB l λ J=>R J aB
 | .d7 ds=>R ⟨ds,λ _=>True⟩ aB
 | _=>False
theorem JJ{G:aP}{l:Addr}{k:kE->Prop}{ds:List D}(h:G l=some (.lst ds))(q:k ⟨ds,λ G=>G l=some (.lst ds)⟩):v7 G l k:=by unfold v7;rw [h];exact q
theorem Ul{K:aX}{ds:List D}{vs:List V}{l:Addr}{aB:aP}{H1:aw}(v:fq K aB H1)(s:dH K H1 l vs)(r:bM K H1 ds vs) :
 (∀(i:Nat)(d:D),ds[i]?=some d->(vj K l).go i H1/\∀ x aj,(vj K l).pH i H1 x aj->Go K aB H1 aB aj/\dj K aj d x)/\∀ i,ds.length<=i->(vj K l).stop i H1:=by
 refine ⟨λ i d hd=>?_,λ i av=>⟨vs,s,by rw [r.len];exact av⟩⟩;obtain ⟨w,hw,oL⟩:=r.get hd;refine ⟨⟨vs,w,s,hw⟩,λ x aj y=>?_⟩;obtain ⟨rfl,y⟩:=y;have z:=y vs s;rw [hw] at z;cases z;exact ⟨.refl v,oL⟩
theorem JK{K:aX}{ds:List D}{vs:List V}{l:Addr}{aB:aP}{H1:aw}(v:fq K aB H1)(s:eu K H1 l vs)(r:bM K H1 ds vs) :
 (∀(i:Nat)(d:D),ds[i]?=some d->(vi K l).go i H1/\∀ x aj,(vi K l).pH i H1 x aj->Go K aB H1 aB aj/\dj K aj d x)/\∀ i,ds.length<=i->(vi K l).stop i H1:=by
 refine ⟨λ i d hd=>?_,λ i av=>⟨vs,s,by rw [r.len];exact av⟩⟩;obtain ⟨w,hw,oL⟩:=r.get hd;refine ⟨⟨vs,w,s,hw⟩,λ x aj y=>?_⟩;obtain ⟨rfl,y⟩:=y;have z:=y vs s;rw [hw] at z;cases z;exact ⟨.refl v,oL⟩
theorem Um{bj:TE}(ar:c1 X a bj):pO X bl a (JG X.K bj):=⟨Uj ar.run⟩
theorem zv(ax:cu X a bb):mJ X bl a (Uk bb):=by
 obtain ⟨ca,cv,cw⟩:=ax.run;refine ⟨_,Um cv,λ ρ G lg σ H R B q F=>cw ρ G _ σ H _ B q λ x aB v H1 g1 aQ aF=>?_⟩
 cases x with
 | tup ds=>
  obtain ⟨l,vs,rfl,s,r⟩:=aQ;exact ⟨l,rfl,.inr ⟨⟨vs,s⟩,F ⟨ds,λ _=>True⟩ _ aB H1 g1 (λ bf bg g2 _=>Ul g2.cA (g2.tup.gL _ _ s) (r.mono g2.tup)) aF⟩⟩
 | ref l=>
  cases aQ;refine ⟨l,rfl,.inl ?_⟩
  replace aF:v7 aB l λ J=>lg J aB:=aF
  unfold v7 at aF;split at aF
  ·next ds hd=>
   obtain ⟨vs,z,r⟩:=g1.cA _ _ hd;refine ⟨⟨vs,.of z⟩,F ⟨ds,λ G=>G l=some (.lst ds)⟩ _ aB H1 g1 (λ bf bg g2 ag=>?_) aF⟩;obtain ⟨us,b9,a0⟩:=g2.cA _ _ ag;exact JK g2.cA (.of b9) a0
  ·exact aF.elim
 | d7 ds=>
  obtain ⟨l,vs,rfl,s,r⟩:=aQ;exact ⟨l,rfl,.inl ⟨⟨vs,s.fo⟩,F ⟨ds,λ _=>True⟩ _ aB H1 g1 (λ bf bg g2 _=>JK g2.cA (g2.tup.fr _ _ s).fo (r.mono g2.tup)) aF⟩⟩
 | _=>exact (show False from aF).elim
def j5(lo:Int)(n:Nat):List D:=(hE n).map λ(i:Nat)=>D.int (lo+(i:Int))
theorem zw{lo:Int}{n i:Nat}{d:D}(h:(j5 lo n)[i]?=some d):i < n/\d=.int (lo+i):=by
 unfold j5 at h;rw [iG] at h;by_cases c:i < n
 ·rw [List.getElem?_range c] at h;simp at h;exact ⟨c,h.symm⟩
 ·rw [x3 (by simpa using c)] at h;cases h
theorem ri{lo:Int}{n:Nat}:(j5 lo n).length=n:=by simp [j5]
@[irreducible] def rj(r:List D->Option (Int × Nat))(ds:List D)(k:Int->Nat->Prop):Prop:=match r ds with
 | some (lo,n)=>k lo n
 | none=>False
abbrev JL(r:List D->Option (Int × Nat))(t:g4):kF:=λ ρ G R=>t ρ G λ ds aB=>rj r ds λ lo n=>R ⟨j5 lo n,λ _=>True⟩ aB
def v8(i:Int):Bool:=decide (-(2 ^ 62)<=i)&&decide (i < 2 ^ 62)
def v9:List D->Option (Int × Nat)
 | [.int j]=>if v8 j=true then some (0,j.toNat) else none
 | _=>none
def v_:List D->Option (Int × Nat)
 | [.int i,.int j]=>if v8 i=true/\v8 j=true then some (i,(j - i).toNat) else none
 | _=>none
theorem te{i:Int}:v8 i=true ↔ -(2 ^ 62)<=i/\i < 2 ^ 62:=by unfold v8;simp
theorem JM{K:aX}{lo:Int}{n:Nat}{aB:aP}{H1:aw}(v:fq K aB H1) :
 (∀(i:Nat)(d:D),(j5 lo n)[i]?=some d->(qS lo n).go i H1/\∀ x aj,(qS lo n).pH i H1 x aj->Go K aB H1 aB aj/\dj K aj d x)/\∀ i,(j5 lo n).length<=i->(qS lo n).stop i H1:=by
 refine ⟨λ i d hd=>?_,λ i av=>by rw [ri] at av;exact av⟩;obtain ⟨ae,rfl⟩:=zw hd;refine ⟨ae,λ x aj y=>?_⟩;obtain ⟨rfl,rfl⟩:=y;exact ⟨.refl v,rfl⟩
theorem Un{ds:List D}{lo:Int}{n:Nat}(h:v9 ds=some (lo,n)):∃ j,ds=[.int j]/\(-(2 ^ 62)<=j/\j < 2 ^ 62)/\lo=0/\n=j.toNat:=by
 unfold v9 at h;split at h
 ·next j=>
  split at h
  ·next c=>cases h;exact ⟨j,rfl,te.mp c,rfl,rfl⟩
  ·cases h
 ·cases h
theorem Uo{ds:List D}{lo:Int}{n:Nat}(h:v_ ds=some (lo,n)):∃ j,ds=[.int lo,.int j]/\(-(2 ^ 62)<=lo/\lo < 2 ^ 62/\-(2 ^ 62)<=j/\j < 2 ^ 62)/\n=(j - lo).toNat:=by
 unfold v_ at h;split at h
 ·next i j=>
  split at h
  ·next c=>
   cases h;have bu:=te.mp c.1;have bt:=te.mp c.2;exact ⟨j,rfl,⟨bu.1,bu.2,bt.1,bt.2⟩,rfl⟩
  ·cases h
 ·cases h
theorem zx{j:Int}{k:Int->Nat->Prop}(h:-(2 ^ 62)<=j/\j < 2 ^ 62)(q:k 0 j.toNat):rj v9 [.int j] k:=by
 have e:v9 [.int j]=some (0,j.toNat):=if_pos (te.mpr h);unfold rj;rw [e];exact q
theorem Up{i j:Int}{k:Int->Nat->Prop}(ae:-(2 ^ 62)<=i/\i < 2 ^ 62)(ag:-(2 ^ 62)<=j/\j < 2 ^ 62)(q:k i (j - i).toNat):rj v_ [.int i,.int j] k:=by
 have e:v_ [.int i,.int j]=some (i,(j - i).toNat):=if_pos ⟨te.mpr ae,te.mpr ag⟩;unfold rj;rw [e];exact q
theorem JN{r:List D->Option (Int × Nat)}{ds:List D}{R:kE->aP->Prop}{G:aP}(h:rj r ds λ lo n=>R ⟨j5 lo n,λ _=>True⟩ G):∃ lo n,r ds=some (lo,n)/\R ⟨j5 lo n,λ _=>True⟩ G:=by
 unfold rj at h;split at h
 ·next lo n e=>exact ⟨lo,n,e,h⟩
 ·exact h.elim
theorem zy(a3:et X "range")(hm:X.mg "range" = none)(ax:iq X [a] t)(ap:e7 a=true:=by rfl):mJ X bl (.Call (.Name "range" p) [a] [] pos) (JL v9 t):=by
 obtain ⟨ca,cv,cw⟩:=ax.run;refine ⟨_,SP a3 hm cv ap,λ ρ G lg σ H R B q F=>cw ρ G _ σ H _ B q λ ds aB vs H1 g1 al ar aF=>?_⟩;obtain ⟨lo,n,e,bo⟩:=JN aF;obtain ⟨j,rfl,c,rfl,rfl⟩:=Un e;obtain ⟨v,r,rfl,wa,l⟩:=al;cases l;cases wa;exact ⟨j,rfl,c.1,c.2,F _ _ aB H1 g1 (λ bf bg g2 _=>JM g2.cA) bo⟩
theorem Uq(a3:et X "range")(hm:X.mg "range" = none)(ax:iq X [a,b] t)(ae:e7 a=true:=by rfl)(ag:e7 b=true:=by rfl):mJ X bl (.Call (.Name "range" p) [a,b] [] pos) (JL v_ t):=by
 obtain ⟨ca,cv,cw⟩:=ax.run;refine ⟨_,SZ a3 hm cv ae ag,λ ρ G lg σ H R B q F=>cw ρ G _ σ H _ B q λ ds aB vs H1 g1 al ar aF=>?_⟩;obtain ⟨lo,n,e,bo⟩:=JN aF;obtain ⟨j,rfl,c,rfl⟩:=Uo e;obtain ⟨v,r,rfl,wa,u,a0,rfl,rk,l⟩:=al;cases l;cases wa;cases rk;exact ⟨lo,j,rfl,c,F _ _ aB H1 g1 (λ bf bg g2 _=>JM g2.cA) bo⟩
def fV(P:eB->aP->Prop):eB->aP->Prop:=λ ρ G=>∃ ρ' au,ze ρ' ρ/\Sub au G/\P ρ' au
theorem fV.of{P:eB->aP->Prop}{ρ:eB}{G:aP}(h:P ρ G):fV P ρ G:=⟨ρ,G,.refl _,.refl _,h⟩
abbrev JO(d5:kF)(g:gM)(bF:f3):f3:=λ b3 ρ G=>d5 ρ G λ J aB=>∃ P:Nat->eB->aP->Prop,P 0 ρ aB/\(∀ i ρ G,i<=J.items.length->P i ρ G->J.held G) ∧
 (∀(i:Nat)(d:D)(ρ:eB)(G:aP),J.items[i]?=some d->P i ρ G->g d ρ G λ ρ' au=>bF { b3 with nx:=fV (P (i+1)),ct:=fV (P (i+1)),bk:=b3.nx } ρ' au)/\∀ ρ G,P J.items.length ρ G->b3.nx ρ G
theorem wb{body:List bP}{d5:kF}{g:gM}{bF:f3}(ah:qy (aY X.prog X.w) X.A X.env X.xe)(ai:X.calm=true)(av:mJ X bl iter d5)(a3:ky X bl g)(af:mD X body bF)(ap:∀ x,m5 iter X.env x=pure x:=by intro _;rfl) :
 gs X (.For bl iter body [] pos) (JO d5 g bF):=by
 obtain ⟨ci,oM,k6⟩:=av.run;obtain ⟨tf,rl,oN⟩:=a3.run;obtain ⟨j2,fH,fI⟩:=af.run;refine ⟨_,IR ah ai oM rl fH ap,λ b3 c8 ρ G σ H B q F=>k6 ρ G _ σ H _ B q λ J lS aB H1 g1 ok aF=>?_⟩;obtain ⟨P,j6,held,turn,done⟩:=aF;refine ⟨λ i m σ' aj=>m=J.items.length - i/\i<=J.items.length/\∃ ρ' au,P i ρ' au/\dh X.K ρ' au σ' aj/\Go X.K aB H1 au aj,⟨_,rfl,ef _,ρ,aB,j6,B.go g1,.refl g1.cA⟩,?_⟩;rintro i m σ2 bg ⟨rfl,av,ρ2,bf,dZ,dx,g2⟩;have k2:=ok bf bg g2 (held i ρ2 bf av dZ);by_cases fm:i < J.items.length
 ·have hd:J.items[i]?=some J.items[i]:=by simp [fm]
  obtain ⟨go,wc⟩:=k2.1 i _ hd;refine .inr ⟨go,λ σ' aj=>∃ ρ' au,P (i+1) ρ' au/\dh X.K ρ' au σ' aj/\Go X.K aB H1 au aj,λ σ' aj ⟨ρ',au,cI,b9,gZ⟩=>⟨J.items.length - (i+1),by omega,rfl,fm,ρ',au,cI,b9,gZ⟩,λ x aj y=>?_⟩;obtain ⟨g3,aQ⟩:=wc x aj y;refine oN _ x ρ2 bf _ σ2 aj _ (dx.go g3) aQ (turn i _ ρ2 bf hd dZ) λ ρ4 hL σ4 jt fT tg gm=>?_;have hu:=(g2.trans g3).trans fT
  have ly:∀ ρ' au σ' aj,Go X.K hL jt au aj->dh X.K ρ' au σ' aj->fV (P (i+1)) ρ' au->∃ ρ' au,P (i+1) ρ' au/\dh X.K ρ' au σ' aj/\Go X.K aB H1 au aj:=λ ρ' au σ' aj g' gp ⟨ρ5,kG,s1,s2,w⟩=>
   ⟨ρ5,kG,w,gp.weak s1 s2,(hu.trans g').sub s2⟩
  exact fI _ _ ρ4 hL σ4 jt tg gm ⟨λ ρ' au σ' aj g' gp w=>ly ρ' au σ' aj g' gp w,(F.after ((g1.trans hu))).rt,λ ρ' au σ' aj g' gp w=>F.nx ρ' au σ' aj ((g1.trans hu).trans g') gp w,λ ρ' au σ' aj g' gp w=>ly ρ' au σ' aj g' gp w⟩
 ·have e:i=J.items.length:=by omega
  subst e;exact .inl ⟨k2.2 _ (ZB _),F.nx ρ2 bf σ2 bg (g1.trans g2) dx (done ρ2 bf dZ)⟩
abbrev Ur(bj:hs)(bF:f3):f3:=λ b3 ρ G=>∃ W:Nat->eB->aP->Prop,(∃ m,W m ρ G)/\∀ m ρ G,W m ρ G →
 bj ρ G λ b aB=>bn b (bF { b3 with nx:=fV λ ρ' au=>∃ ej,ej < m/\W ej ρ' au,ct:=fV λ ρ' au=>∃ ej,ej < m/\W ej ρ' au,bk:=b3.nx } ρ aB) (b3.nx ρ aB)
theorem zz{body:List bP}{bj:hs}{bF:f3}(ah:qy (aY X.prog X.w) X.A X.env X.xe)(ai:AT X c bj)(af:mD X body bF):gs X (.While c body [] pos) (Ur bj bF):=by
 obtain ⟨tc,k_,rc⟩:=ai.run;obtain ⟨j2,fH,fI⟩:=af.run;refine ⟨_,SS ah k_ fH,λ b3 c8 ρ G σ H B q F=>?_⟩;obtain ⟨W,⟨m0,ml⟩,turn⟩:=q;refine ⟨λ m σ' aj=>∃ ρ' au,W m ρ' au/\dh X.K ρ' au σ' aj/\Go X.K G H au aj,⟨m0,ρ,G,ml,B,.refl B.cA⟩,?_⟩;rintro m σ2 bg ⟨ρ2,bf,gU,dx,g2⟩;refine rc ρ2 bf _ σ2 bg _ dx (turn m ρ2 bf gU) λ k em dI g3 dw=>?_
 cases k with
 | true=>
  refine ⟨λ σ' aj=>∃ ej,ej < m/\∃ ρ' au,W ej ρ' au/\dh X.K ρ' au σ' aj/\Go X.K G H au aj,λ σ' aj ⟨ej,z,ρ',au,cI,b9,gZ⟩=>⟨ej,z,ρ',au,cI,b9,gZ⟩,?_⟩;have hu:=g2.trans g3
  have ly:∀ ρ' au σ' aj,Go X.K em dI au aj->dh X.K ρ' au σ' aj->fV (λ ρ' au=>∃ ej,ej < m/\W ej ρ' au) ρ' au->∃ ej,ej < m/\∃ ρ' au,W ej ρ' au/\dh X.K ρ' au σ' aj/\Go X.K G H au aj:=λ ρ' au σ' aj g' gp ⟨ρ5,kG,s1,s2,ej,hm,w⟩=>
   ⟨ej,hm,ρ5,kG,w,gp.weak s1 s2,(hu.trans g').sub s2⟩
  exact fI _ _ ρ2 em σ2 dI (dx.go g3) (dw.1 rfl) ⟨λ ρ' au σ' aj g' gp w=>ly ρ' au σ' aj g' gp w,(F.after hu).rt,λ ρ' au σ' aj g' gp w=>F.nx ρ' au σ' aj (hu.trans g') gp w,λ ρ' au σ' aj g' gp w=>ly ρ' au σ' aj g' gp w⟩
 | false=>exact F.nx ρ2 em σ2 dI (g2.trans g3) (dx.go g3) (dw.2 rfl)
end
end L3
namespace L2
open PySem PySem.Spec PyProof.Rows
theorem c1.imp{X:aW}{e:a8}{t t':TE}(h:c1 X e t)(i:∀ σ H Q,t' σ H Q->t σ H Q):c1 X e t':=⟨λ pins s σ H Q I q=>h.run pins s σ H Q I (i σ H Q q)⟩
theorem kx.imp{X:aW}{e:a8}{t t':gV}(h:kx X e t)(i:∀ v σ H Q,t' v σ H Q->t v σ H Q):kx X e t':=⟨λ pins s σ H x v Q I r q=>h.run pins s σ H x v Q I r (i _ _ _ _ q)⟩
end L2
namespace L3
open PySem PySem.Spec L2
section
variable{X:aW}{a b c e o i bl iter elt ct:a8}{es:List a8}{bb bF aZ to h2:cn}{t:g4}{pos p apos dk:Pos}
abbrev zA(K:aX)(bj:TE)(t:cn):Prop:=∀ ρ G ay σ H Q,dh K ρ G σ H->t ρ G ay->Fin K G H ay Q->bj σ H Q
abbrev CC(K:aX)(bj:gV)(t:gM):Prop:=∀ d v ρ G ay σ H Q,dh K ρ G σ H->dj K H d v->t d ρ G ay->Ct K G H ay Q->bj v σ H Q
theorem cu.wd{ι:Type}{cx:ι->aW}{K:aX}(eT:∀ z,(cx z).K=K)(h:∀ z,cu (cx z) e aZ):∃ bj:TE,(∀ z,c1 (cx z) e bj)/\zA K bj aZ:=by
 have h':∀ z,∃ bj,c1 (cx z) e bj/\zA K bj aZ:=λ z=>by
  have q:=(h z).run;rw [eT z] at q;exact q
 exact ⟨λ σ H Q=>∀ z,Classical.choose (h' z) σ H Q,λ z=>(Classical.choose_spec (h' z)).1.imp λ σ H Q q=>q z,λ ρ G ay σ H Q B q F z=>(Classical.choose_spec (h' z)).2 ρ G ay σ H Q B q F⟩
theorem ky.wd{ι:Type}{cx:ι->aW}{K:aX}{aZ:gM}(eT:∀ z,(cx z).K=K)(h:∀ z,ky (cx z) e aZ):∃ bj:gV,(∀ z,kx (cx z) e bj)/\CC K bj aZ:=by
 have h':∀ z,∃ bj,kx (cx z) e bj/\CC K bj aZ:=λ z=>by
  have q:=(h z).run;rw [eT z] at q;exact q
 exact ⟨λ v σ H Q=>∀ z,Classical.choose (h' z) v σ H Q,λ z=>(Classical.choose_spec (h' z)).1.imp λ v σ H Q q=>q z,λ d v ρ G ay σ H Q B ad q F z=>(Classical.choose_spec (h' z)).2 d v ρ G ay σ H Q B ad q F⟩
def mK(nt:Nat)(cap:List Nat)(ρ:eB):eB:=gh nt none++cap.map λ i=>(ρ[i]?).join
theorem JP{nt:Nat}{cap:List Nat}{ρ:eB}{i:Nat}{d:D}(h:(mK nt cap ρ)[i]?=some (some d)):nt<=i:=by
 by_cases c:nt<=i
 ·exact c
 ·unfold mK at h;rw [uL (by simpa using c),x0] at h;rw [if_pos (by omega)] at h;cases h
theorem dh.comp{K:aX}{ρ:eB}{G:aP}{σ:St}{H:aw}(B:dh K ρ G σ H)(nt:Nat)(cap:List Nat):dh K (mK nt cap ρ) G (ow nt cap σ) H:=by
 refine ⟨by simp [mK,ow],λ i d h=>?_,B.cA⟩;have av:=JP h;unfold mK at h;unfold ow;rw [sj (by simpa using av)] at h ⊢;rw [x1,iG] at h ⊢
 cases e:cap[i - nt]? with
 | none=>rw [e] at h;cases h
 | some k=>
  rw [e] at h
  have h':(ρ[k]?).join=some d:=by simpa using h
  have ag:ρ[k]?=some (some d):=by
   cases q:ρ[k]? with
   | none=>rw [q] at h';cases h'
   | some z=>rw [q] at h';cases z with
    | none=>cases h'
    | some y=>simp at h';rw [h']
  obtain ⟨v,aR,bB⟩:=B.st k d ag;exact ⟨v,by simp [aR],bB⟩
def th(nt:Nat)(g:gM):Prop:=∀ d ρ G Q,g d ρ G Q->g d ρ G λ ρ' au=>Q ρ' au/\ρ'.length=ρ.length/\∀ i,nt<=i->ρ'[i]?=ρ[i]?
def zB(nt:Nat)(g:lP):Prop:=∀ d ρ G Q,g d ρ G Q->g d ρ G λ ρ' au=>Q ρ' au/\ρ'.length=ρ.length/\∀ i,nt<=i->ρ'[i]?=ρ[i]?
theorem p2{nt k:Nat}(h:k < nt):th nt (vX k):=λ d ρ G Q q=>⟨q,by simp,λ i av=>qF (by omega)⟩
theorem Us{nt:Nat}:zB nt Cz:=λ ds ρ G Q q=>by
 cases ds with
 | nil=>exact ⟨q,rfl,λ _ _=>rfl⟩
 | cons _ _=>exact (show False from q).elim
def CD(g:gM):Prop:=∀ d ρ G Q h1,(∀ ρ' au,Q ρ' au->h1 ρ' au)->g d ρ G Q->g d ρ G h1
def zC(g:lP):Prop:=∀ d ρ G Q h1,(∀ ρ' au,Q ρ' au->h1 ρ' au)->g d ρ G Q->g d ρ G h1
theorem CE{k:Nat}:CD (vX k):=λ _ _ _ _ _ i q=>i _ _ q
theorem JQ:zC Cz:=λ ds ρ G Q h1 i q=>by
 cases ds with
 | nil=>exact i _ _ q
 | cons _ _=>exact (show False from q).elim
theorem Ut{g:gM}{u:lP}(ae:CD g)(ag:zC u):zC (CA g u):=λ ds ρ G Q h1 i q=>by
 cases ds with
 | nil=>exact (show False from q).elim
 | cons d r=>exact ae d ρ G _ _ (λ ρ' au z=>ag r ρ' au _ _ i z) q
theorem JR{nt:Nat}{g:gM}{u:lP}(ei:CD g)(eD:zC u)(ae:th nt g)(ag:zB nt u):zB nt (CA g u):=λ ds ρ G Q q=>by
 cases ds with
 | nil=>exact (show False from q).elim
 | cons d r=>exact ei d ρ G _ _ (λ ρ' au ⟨z,cI,b9⟩=>eD r ρ' au _ _ (λ ρ2 bf ⟨y,CF,JS⟩=>⟨y,CF.trans cI,λ i av=>(JS i av).trans (b9 i av)⟩) (ag r ρ' au Q z)) (ae d ρ G _ q)
theorem Uu{nt:Nat}{u:lP}(h:zB nt u):th nt (Jt u):=λ d ρ G Q q=>by
 cases d with
 | tup ds=>exact h ds ρ G Q q
 | _=>exact (show False from q).elim
def we(P:aP->Prop):aP->Prop:=λ G=>∃ au,Sub au G/\P au
theorem we.of{P:aP->Prop}{G:aP}(h:P G):we P G:=⟨G,.refl _,h⟩
@[irreducible] def rm(g:gM)(aZ:cn)(nt:Nat)(cap:List Nat)(ρ:eB)(Q:cJ)(J:kE)(aB:aP):Prop:=J.items.length < sizeLine/\∃ P:Nat->List D->aP->Prop,P 0 [] aB/\(∀ i ds G,i<=J.items.length->P i ds G->J.held G) ∧
 (∀(i:Nat)(d:D)(ds:List D)(G:aP),J.items[i]?=some d->P i ds G->g d (mK nt cap ρ) G λ ρ3 em=>aZ ρ3 em λ y hL=>we (P (i+1) (ds++[y])) hL)/\∀ ds G,P J.items.length ds G->∀ p,G p=none->Q (.ref p) (up G p (.lst ds))
abbrev CG(d5:kF)(g:gM)(aZ:cn)(nt:Nat)(cap:List Nat):cn:=λ ρ G Q=>d5 ρ G (rm g aZ nt cap ρ Q)
theorem JT{g:gM}{aZ:cn}{nt:Nat}{cap:List Nat}{ρ:eB}{Q:cJ}{J:kE}{aB:aP}(P:Nat->List D->aP->Prop)(hz:J.items.length < sizeLine)(h0:P 0 [] aB)(held:∀ i ds G,i<=J.items.length->P i ds G->J.held G)
 (turn:∀(i:Nat)(d:D)(ds:List D)(G:aP),J.items[i]?=some d->P i ds G->g d (mK nt cap ρ) G λ ρ3 em=>aZ ρ3 em λ y hL=>we (P (i+1) (ds++[y])) hL) (done:∀ ds G,P J.items.length ds G->∀ p,G p=none->Q (.ref p) (up G p (.lst ds))):rm g aZ nt cap ρ Q J aB:=by
 unfold rm;exact ⟨hz,P,h0,held,turn,done⟩
theorem zD{α:Type}{J:kE}{aB:aP}{g:gM}{aZ:cn}{nt:Nat}{cap:List Nat}{ρ:eB}{Q:cJ}(xs:List α)(ti fn:α->D)(he:J.items=xs.map ti)(hz:xs.length < sizeLine)(held:J.held aB)
 (turn:∀ x∈xs,∀ R:cJ,R (fn x) aB->g (ti x) (mK nt cap ρ) aB λ ρ3 em=>aZ ρ3 em R) (q:∀ p,aB p=none->Q (.ref p) (up aB p (.lst (xs.map fn)))) :
 rm g aZ nt cap ρ Q J aB:=by
 unfold rm;refine ⟨by rw [he,er];exact hz,λ i ds G=>G=aB/\ds=(xs.take i).map fn,⟨rfl,rfl⟩,λ i ds G _ h=>h.1 ▸ held,?_,?_⟩
 ·rintro i d ds G hd ⟨rfl,rfl⟩;rw [he,iG] at hd
  cases e:xs[i]? with
  | none=>rw [e] at hd;cases hd
  | some x=>
   rw [e] at hd;cases hd;refine turn x (uM e) _ (we.of ⟨rfl,?_⟩);rw [su,e,kQ];rfl
 ·rintro ds G ⟨rfl,rfl⟩ p ah;rw [he,er,sq];exact q p ah
theorem fq.tj{K:aX}{G:aP}{H:aw}{acc:Addr}{aD zs:List V}(v:fq K G H)(h:H acc=some (.lst aD))(n:G acc=uY):fq K G (upd H acc (.lst zs)):=λ a o e=>
 (v a o e).mono (oF h) (cN (by rintro rfl;rw [n] at e;cases e))
theorem Go.tj{K:aX}{G au:aP}{H aj:aw}{acc:Addr}{aD zs:List V}(g:Go K G H au aj)(h0:H acc=none)(h:aj acc=some (.lst aD))(n:au acc=none):Go K G H au (upd aj acc (.lst zs)) where
 tup:=⟨λ a xs q=>(oF h).gL a xs (g.tup.gL a xs q),λ a xs q=>(oF h).fr a xs (g.tup.fr a xs q),λ a o q=>(oF (K:=K) h).mB a o (g.tup.mB a o q)⟩
 mC:=λ a o e=>by
  obtain ⟨dM,bV⟩:=g.mC a o e;exact ⟨dM,by rw [cN (hY e h0)];exact bV⟩
 same:=λ a o e z=>by rw [cN (hY e h0)];exact g.same a o e z
 new:=g.new
 cA:=g.cA.tj h n
theorem dh.tj{K:aX}{ρ:eB}{G:aP}{σ:St}{H:aw}{acc:Addr}{aD zs:List V}(B:dh K ρ G σ H)(h:H acc=some (.lst aD))(n:G acc=none):dh K ρ G σ (upd H acc (.lst zs)):=
 ⟨B.len,λ i d e=>let ⟨v,ae,ag⟩:=B.st i d e;⟨v,ae,ag.mono (oF h)⟩,B.cA.tj h n⟩
theorem Go.held{K:aX}{G au:aP}{H aj:aw}{acc:Addr}{ds:List D}{aD:List V}(g:Go K G H au aj)(h0:H acc=none)(h:aj acc=some (.lst aD))(r:bM K aj ds aD):Go K G H (up au acc (.lst ds)) aj where
 tup:=g.tup
 mC:=g.mC
 same:=g.same
 new:=λ a o e z=>by rw [dU (hY e h0)];exact g.new a o e z
 cA:=λ a o e=>by
  by_cases c:a=acc
  ·subst c;rw [bU] at e;cases e;exact ⟨aD,h,r⟩
  ·rw [dU c] at e;exact g.cA a o e
theorem JU{K:aX}{ci:TI}{tf:gV}{ce:TE}{d5:kF}{g:gM}{aZ:cn}{nt:Nat}{cap:List Nat}(aN:th nt g)
 (k6:∀ ρ G lg σ H R,dh K ρ G σ H->d5 ρ G lg->(∀ J lS au aj,Go K G H au aj->JH K J lS au aj->lg J au->R lS aj)->ci σ H R) (oN:CC K tf g) (re:zA K ce aZ):zA K (vA ci tf ce nt cap) (CG d5 g aZ nt cap):=by
 intro ρ G ay σ H Q B q F;refine k6 ρ G _ σ H _ B q λ J lS aB H1 g1 ok aF=>?_;unfold rm at aF;obtain ⟨hsz,P,j6,held,turn,done⟩:=aF;intro acc lh;have dt:=g1.cA.none lh;have JV:=Go.nG (o:=.lst []) g1.cA lh
 refine ⟨λ i m aD σ' aj=>m=J.items.length - i/\i<=J.items.length/\∃ ds au,P i ds au/\bM K aj ds aD/\ds.length<=i/\dh K (mK nt cap ρ) au σ' aj/\Go K aB H1 au aj/\au acc=none/\aj acc=some (.lst aD),
  ⟨_,rfl,ef _,[],aB,j6,rfl,ZB _,((B.go g1).comp nt cap).go JV,JV,dt,eG⟩,?_⟩
 rintro i m aD σ2 bg ⟨rfl,av,ds,bf,dZ,a0,b5,dx,g2,ck,ag⟩;have k2:=ok bf bg g2 (held i ds bf av dZ);by_cases fm:i < J.items.length
 ·have hd:J.items[i]?=some J.items[i]:=by simp [fm]
  obtain ⟨go,wc⟩:=k2.1 i _ hd;refine .inr ⟨go,λ x aj y=>?_⟩;obtain ⟨g3,aQ⟩:=wc x aj y;refine oN _ x _ bf _ σ2 aj _ (dx.go g3) aQ (aN _ _ _ _ (turn i _ ds bf hd dZ)) λ ρ4 hL σ4 jt fT tg ⟨gm,Uv,Uw⟩=>?_;refine re ρ4 hL _ σ4 jt _ tg gm λ z kG u js gY vW kW=>?_;obtain ⟨JW,ku,Ux⟩:=kW;have hu:=(g3.trans fT).trans gY;have el:=hu.same acc _ ag ck;have Uy:=hu.new acc _ ag ck;have CH:=ku.none Uy;have Uz:dh K (mK nt cap ρ) JW σ4 js:=(tg.go gY).weak ⟨Uv.symm,λ j d e=>by rw [Uw j (JP e)];exact e⟩ ku;refine ⟨el,by rw [a0.len];omega,J.items.length - (i+1),by omega,rfl,fm,ds++[z],JW,Ux,((a0.mono hu.tup).append (.one vW)).mono (oF el),by simp;omega,Uz.tj el CH,(((g2.trans hu).sub ku)).tj lh el CH,CH,eG⟩
 ·have e:i=J.items.length:=by omega
  subst e;refine .inl ⟨k2.2 _ (ZB _),F (.ref acc) (up bf acc (.lst ds)) _ _ ((g1.trans g2).held ?_ ag a0) rfl (done ds bf dZ acc ck)⟩
  cases z:H acc with
  | none=>rfl
  | some o=>obtain ⟨dM,bV⟩:=g1.mC acc o z;rw [lh] at bV;cases bV
theorem zE{scope:gg}{N':List Str}{nt:Nat}{cap:List Nat}{d5:kF}{g:gM}(ai:X.calm=true)(ok:hI X scope N' nt cap)(aN:th nt g)(av:mJ X bl iter d5)(a3:∀ C ex s H,ky (fS X scope N' C ex s H) bl g)(he:∀ C ex s H,cu (fS X scope N' C ex s H) elt aZ)
 (ap:∀ x,m5 iter X.env x=pure x:=by intro _;rfl):cu X (.ListComp elt [⟨bl,iter,[],0⟩] scope pos) (CG d5 g aZ nt cap):=by
 obtain ⟨ci,oM,k6⟩:=av.run;obtain ⟨tf,rl,oN⟩:=ky.wd (ι:=Addr × List Addr × aE × aw) (cx:=λ z=>fS X scope N' z.1 z.2.1 z.2.2.1 z.2.2.2) (K:=X.K) (λ _=>rfl) λ z=>a3 _ _ _ _;obtain ⟨ce,oJ,re⟩:=cu.wd (ι:=Addr × List Addr × aE × aw) (cx:=λ z=>fS X scope N' z.1 z.2.1 z.2.2.1 z.2.2.2) (K:=X.K) (λ _=>rfl) λ z=>he _ _ _ _;exact ⟨_,ST ai ok oM (λ C ex s H=>rl (C,ex,s,H)) (λ C ex s H=>oJ (C,ex,s,H)) ap,JU aN k6 oN re⟩
theorem CI{scope:gg}{N':List Str}{nt:Nat}{cap:List Nat}{d5:kF}{g:gM}{y:Str}{py pQ:Pos}{k:Nat}(ai:X.calm=true)(dG:X.N.Nodup)(bv:X.N[k]?=some y)(ar:Loc X.env.scope y)(ok:hI X scope N' nt cap)(aN:th nt g)(av:mJ X bl iter d5)(a3:∀ C ex s H,ky (fS X scope N' C ex s H) bl g)(he:∀ C ex s H,cu (fS X scope N' C ex s H) elt aZ)
 (ap:∀ x,m5 iter X.env x=pure x:=by intro _;rfl) (mz:jH (.ListComp elt [⟨bl,iter,[],0⟩] scope pos) (some (.Name y py)) pQ.line X.env=pure true:=by rfl) (hf:X.fn y=true\/X.env.scope.names.lookup y=some .local:=by first | exact .inl rfl | exact .inr rfl | assumption) :
 gs X (.Assign [.Name y py] (.ListComp elt [⟨bl,iter,[],0⟩] scope pos) pQ) (zl (CG d5 g aZ nt cap) (vX k)):=by
 obtain ⟨ci,oM,k6⟩:=av.run;obtain ⟨tf,rl,oN⟩:=ky.wd (ι:=Addr × List Addr × aE × aw) (cx:=λ z=>fS X scope N' z.1 z.2.1 z.2.2.1 z.2.2.2) (K:=X.K) (λ _=>rfl) λ z=>a3 _ _ _ _;obtain ⟨ce,oJ,re⟩:=cu.wd (ι:=Addr × List Addr × aE × aw) (cx:=λ z=>fS X scope N' z.1 z.2.1 z.2.2.1 z.2.2.2) (K:=X.K) (λ _=>rfl) λ z=>he _ _ _ _;exact ⟨_,S0 ai dG bv ar ok oM (λ C ex s H=>rl (C,ex,s,H)) (λ C ex s H=>oJ (C,ex,s,H)) ap mz hf,λ b3 c8 ρ G σ H B q F=>JU aN k6 oN re ρ G _ σ H _ B q λ d aB v H1 g1 a aF=>F.nx _ aB _ H1 g1 ((B.go g1).set a k) aF⟩
structure p3(X:aW)(T id:String)(ty:D->aP->Prop)(r:D->List D->aP->cJ->Prop):Prop where
 run:∃ rc:V->List V->aw->cE->Prop,pP X id rc/\(∀ x v G H,fq X.K G H->dj X.K H x v->ty x G->sX X.K T v H) ∧
  ∀ x xs ez vs G H ay Q,fq X.K G H->dj X.K H x ez->bM X.K H xs vs->r x xs G ay->Fin X.K G H ay Q->rc ez vs H Q
abbrev JX(ty:D->aP->Prop)(r:D->List D->aP->cJ->Prop)(to:cn)(t:g4):cn:=λ ρ G Q=>to ρ G λ x aB=>ty x aB/\t ρ aB λ xs bf=>r x xs bf Q
abbrev UA(ty:D->aP->Prop)(r:D->List D->aP->cJ->Prop)(to:cn):cn:=λ ρ G Q=>to ρ G λ x aB=>ty x aB/\r x [] aB Q
theorem j7{name:Str}{T id:String}{ty:D->aP->Prop}{r:D->List D->aP->cJ->Prop}(ju:qw T)(slot:Slot T name id)(gK:n0 (.builtin id)=pure (.type "method_descriptor"))(hm:p3 X T id ty r)(aS:cu X o to)(ax:iq X [e] t)
 (i_:l8 o name X.env (eval o X.env)=eval o X.env:=by rfl) (ja:(apos.endLine==dk.line)=true:=by rfl) (ap:e7 e=true:=by rfl):cu X (.Call (.Attribute o name apos) [e] [] dk) (JX ty r to t):=by
 obtain ⟨co,iv,ik⟩:=aS.run;obtain ⟨ca,cv,cw⟩:=ax.run;obtain ⟨JY,wf,bv,wg⟩:=hm.run;refine ⟨_,IJ ju slot gK wf iv cv i_ ja ap,λ ρ G ay σ H Q B q F=>ik ρ G _ σ H _ B q λ x aB v H1 g1 aQ ⟨ae,aF⟩=>⟨bv x v aB H1 g1.cA aQ ae,?_⟩⟩;exact cw ρ aB _ σ H1 _ (B.go g1) aF λ xs bf vs bg g2 al _ bo=>wg x xs v vs bf bg ay Q g2.cA (aQ.mono g2.tup) al bo (F.after (g1.trans g2))
theorem CJ{name:Str}{T id:String}{ty:D->aP->Prop}{r:D->List D->aP->cJ->Prop}(ju:qw T)(slot:Slot T name id)(gK:n0 (.builtin id)=pure (.type "method_descriptor"))(hm:p3 X T id ty r)(aS:cu X o to)
 (i_:l8 o name X.env (eval o X.env)=eval o X.env:=by rfl) (ja:(apos.endLine==dk.line)=true:=by rfl):cu X (.Call (.Attribute o name apos) [] [] dk) (UA ty r to):=by
 obtain ⟨co,iv,ik⟩:=aS.run;obtain ⟨JY,wf,bv,wg⟩:=hm.run;exact ⟨_,SB ju slot gK wf iv i_ ja,λ ρ G ay σ H Q B q F=>ik ρ G _ σ H _ B q λ x aB v H1 g1 aQ ⟨ae,aF⟩=>⟨bv x v aB H1 g1.cA aQ ae,wg x [] v [] aB H1 ay Q g1.cA aQ rfl aF (F.after g1)⟩⟩
def zF:D->aP->Prop:=λ x G=>match x with
 | .ref l=>hJ G l λ _=>True
 | _=>False
theorem CK{K:aX}{x:D}{v:V}{G:aP}{H:aw}(w:fq K G H)(aQ:dj K H x v)(h:zF x G):sX K "list" v H:=by
 cases x with
 | ref l=>cases aQ;obtain ⟨ds,vs,_,s,_⟩:=iN w h;exact .inl ⟨rfl,vs,s⟩
 | _=>exact (show False from h).elim
def JZ:D->List D->aP->cJ->Prop:=λ x xs G Q=>match x,xs with
 | .ref l,[y]=>k9 G l λ ds=>ds.length < sizeLine/\Q .a9 (up G l (.lst (ds++[y])))
 | _,_=>False
theorem lT:p3 X "list" "list.append" zF JZ:=by
 refine ⟨_,⟨BS⟩,λ x v G H w aQ h=>CK w aQ h,λ x xs ez vs G H ay Q v aQ al r F=>?_⟩;unfold JZ at r;split at r
 ·next l y=>
  cases aQ;obtain ⟨u,us,rfl,rk,z⟩:=al;cases z;obtain ⟨ds,ws,k,aC,ae,aT⟩:=pX v r;exact ⟨l,ws,u,rfl,rfl,ae,by rw [aT.len];exact k.1,F .a9 _ _ _ (Go.vT v aC (aT.append (.one rk))) rfl k.2⟩
 ·exact r.elim
def J0:D->List D->aP->cJ->Prop:=λ x xs G Q=>match x,xs with
 | .ref l,[.tup es]=>k9 G l λ ds=>ds.length+es.length<=sizeLine/\Q .a9 (up G l (.lst (ds++es)))
 | .ref l,[.ref m]=>k9 G l λ ds=>k9 G m λ es=>ds.length+es.length<=sizeLine/\Q .a9 (up G l (.lst (ds++es)))
 | _,_=>False
theorem pP.or{id:String}{r bp:V->List V->aw->cE->Prop}(h:pP X id r)(h':pP X id bp):pP X id (λ x xs H Q=>r x xs H Q\/bp x xs H Q):=⟨h.run.or h'.run⟩
theorem J1:p3 X "list" "list.extend" zF J0:=by
 refine ⟨_,pP.or ⟨R3⟩ ⟨Rx⟩,λ x v G H w aQ h=>CK w aQ h,λ x xs ez vs G H ay Q v aQ al r F=>?_⟩;unfold J0 at r;split at r
 ·next l lF=>
  cases aQ;obtain ⟨u,us,rfl,⟨m,zs,rfl,s,J2⟩,z⟩:=al;cases z;obtain ⟨ds,ws,k,aC,ae,aT⟩:=pX v r;exact .inl ⟨l,m,ws,zs,rfl,rfl,ae,s,by rw [aT.len,J2.len];exact k.1,F .a9 _ _ _ (Go.vT v aC (aT.append J2)) rfl k.2⟩
 ·next l m=>
  cases aQ;obtain ⟨u,us,rfl,rk,z⟩:=al;cases z;cases rk;obtain ⟨ds,ws,k,aC,ae,aT⟩:=pX v r;obtain ⟨lF,zs,k2,aG,ag,a0⟩:=pX v k;exact .inr ⟨l,m,ws,zs,rfl,rfl,ae,ag,by rw [aT.len,a0.len];exact k2.1,F .a9 _ _ _ (Go.vT v aC (aT.append a0)) rfl k2.2⟩
 ·exact r.elim
def J3:D->List D->aP->cJ->Prop:=λ x xs G Q=>match x,xs with
 | .ref l,[]=>k9 G l λ ds=>∃ es d,ds=es++[d]/\Q d (up G l (.lst es))
 | _,_=>False
theorem CL:p3 X "list" "list.pop" zF J3:=by
 refine ⟨_,⟨Rz⟩,λ x v G H w aQ h=>CK w aQ h,λ x xs ez vs G H ay Q v aQ al r F=>?_⟩;unfold J3 at r;split at r
 ·next l=>
  cases aQ;cases al;obtain ⟨ds,ws,⟨lF,d,rfl,k⟩,aC,ae,aT⟩:=pX v r;have ar:=aT.len
  have hd:(lF++[d])[lF.length]?=some d:=by simp
  obtain ⟨u,a_,rk⟩:=aT.get hd
  have e:ws.length - 1=lF.length:=by rw [ar];simp
  have a0:bM X.K H lF ws.dropLast:=by
   have z:=aT.take lF.length;rw [List.take_left] at z;rw [List.dropLast_eq_take,e];exact z
  have g:=Go.vT v aC a0;exact ⟨l,ws,u,rfl,rfl,ae,by rw [e];exact a_,F d _ _ _ g (rk.mono g.tup) k⟩
 ·exact r.elim
abbrev fJ:=List D->aP->cJ->Prop
def bG(K:aX)(fs:fJ):iK:=λ vs H Q _=>∃ ds G ay,bM K H ds vs/\fq K G H/\fs ds G ay/\Fin K G H ay Q
abbrev UB(fs:fJ)(t:g4):cn:=λ ρ G Q=>t ρ G λ ds aB=>fs ds aB Q
theorem cK{k j:Nat}{x:Str}{ps:List Str}{fs:fJ}(Gt:Got X.prog X.w X.K X.mg X.base k x ps (bG X.K fs))(ao:fy j X.A)(aN:k<=j)(a3:et X x)(ax:iq X (e::es) t)(fF:(x==("__debug__" : Str))=false:=by decide)
 (ap:(e::es).all e7=true:=by rfl):cu X (.Call (.Name x p) (e::es) [] pos) (UB fs t):=by
 obtain ⟨ca,cv,cw⟩:=ax.run;exact ⟨_,Sy Gt ao aN a3 cv fF ap,λ ρ G ay σ H Q B q F=>cw ρ G _ σ H _ B q λ ds aB vs H1 g1 al _ aF=>⟨ds,aB,ay,by rw [dD];exact al,g1.cA,aF,F.after g1⟩⟩
def be(ay:cJ):cJ:=λ d G=>∃ au,Sub au G/\ay d au
theorem be.of{ay:cJ}{d:D}{G:aP}(h:ay d G):be ay d G:=⟨G,.refl _,h⟩
def oO(N:List Str)(ds:List D):eB:=ds.map some++gh (N.length - ds.length) none
theorem CM{K:aX}{N:List Str}{ds:List D}{vs:List V}{G:aP}{H:aw}(r:bM K H ds vs)(v:fq K G H):dh K (oO N ds) G (L2.iL N vs) H:=by
 have ar:=r.len;refine ⟨by simp [oO,L2.iL,ar],λ i d h=>?_,v⟩;unfold oO at h;unfold L2.iL;by_cases c:i < ds.length
 ·rw [uL (by simpa using c),iG] at h;rw [uL (by simpa [ar] using c),iG]
  cases e:ds[i]? with
  | none=>rw [e] at h;cases h
  | some z=>
   rw [e] at h;simp at h;subst h;obtain ⟨u,ae,ag⟩:=r.get e;exact ⟨u,by rw [ae];rfl,ag⟩
 ·rw [sj (by simpa using c),x0] at h;split at h<;>cases h
theorem gu{P:cL}{w:b8}{K:aX}{mg:Str->Option Value}{base:bE}{x qual:Str}{st:bP}{f:Addr}{fd:gD}{N ps:List Str}{k:Nat}{fs:fJ}(F:dT K x qual st f fd)(S:ek N ps (cb st))(len:∀ ds G ay,fs ds G ay->ds.length=ps.length)
 (kY:∀(bI:Value)(A:cz)(outer:List Env)(s:aE)(H:aw)(E:fY),fy k (A.deeper (PyProof.Rows.envOfC qual (cb st) s.heap.objs.size f bI))->∀(ds:List D)(G:aP)(ay:cJ),fs ds G ay →
  ∃ t,mD (eJ c6 P w K mg base N qual (cb st) f bI A outer s H E).mi (jb st) t/\t { nx:=λ _ au=>be ay .a9 au,rt:=be ay } (oO N ds) G):da P w K mg base c6 (k+1) f fd ps (bG K fs):=by
 refine F.SU S (λ vs H Q E h=>?_) (λ bI A outer s H vs Q E ao h=>?_)
 ·obtain ⟨ds,G,ay,r,_,h,_⟩:=h;rw [r.len];exact len ds G ay h
 ·obtain ⟨ds,G,ay,r,v,h,p4⟩:=h;obtain ⟨t,⟨bj,j,imp⟩,q⟩:=kY bI A outer s H E ao ds G ay h;refine ⟨bj,j,imp _ _ (oO N ds) G (L2.iL N vs) H (CM r v) q ⟨λ ρ' au σ' aj g b ⟨bf,s2,bo⟩=>p4 .a9 bf .a9 aj (g.sub s2) rfl bo,λ d au v aj g a ⟨bf,s2,bo⟩=>p4 d bf v aj (g.sub s2) a bo,λ _ _ _ _ _ _ z=>z.elim,λ _ _ _ _ _ _ z=>z.elim⟩⟩
end
mutual
def cm:D->D->Bool
 | .a9,.a9=>true
 | .aI a,.aI b=>a==b
 | .aI a,.int b=>(if a then 1 else 0)==b
 | .int a,.aI b=>a==(if b then 1 else 0)
 | .int a,.int b=>a==b
 | .str a,.str b=>a==b
 | .tup xs,.tup aD=>en xs aD
 | _,_=>false
def en:List D->List D->Bool
 | [],[]=>true
 | x::xs,y::aD=>cm x y&&en xs aD
 | _,_=>false
end
mutual
def D.data:D->Bool
 | .ref _=>false
 | .ty _=>false
 | .d7 _=>false
 | .tup ds=>c3 ds
 | _=>true
def c3:List D->Bool
 | []=>true
 | d::ds=>d.data&&c3 ds
end
mutual
def D.bC:D->Nat
 | .tup ds=>1+cc ds
 | _=>0
def cc:List D->Nat
 | []=>0
 | d::ds=>max d.bC (cc ds)
end
def gv(ds es:List D)(j:Nat):Bool:=match ds[j]?,es[j]? with
 | some d,some e=>cm d e
 | _,_=>false
theorem wh:∀(ds es:List D),((hE (min ds.length es.length)).all (gv ds es)&&ds.length==es.length)=en ds es
 | [],[]=>by simp [en]
 | [],e::es=>by simp [en]
 | d::ds,[]=>by simp [en]
 | d::ds,e::es=>by
  rw [en,<- wh ds es,bR,bR,Nat.succ_min_succ,List.range_succ_eq_map,m_,List.all_map];have ae:gv (d::ds) (e::es) 0=cm d e:=rfl
  have ag:(gv (d::ds) (e::es) ∘ Nat.succ)=gv ds es:=by funext j;simp [gv]
  rw [ae,ag,Bool.and_assoc];congr 2;rw [pF];simp
section
variable{X:aW}{pins:List (Addr × Obj)}{σ:L2.St}{H:aw}{s:aE}
mutual
theorem UC(I:Inv X pins σ H s):∀{d e:D}{v:V},d.data=true->e.data=true->dj X.K H d v->dj X.K H e v->d=e
 | .a9,e,v,_,h,a,b=>by
  cases a;cases e<;>first | rfl | (cases b;done) | (obtain ⟨_,_,z,_⟩:=b;cases z)
 | .aI _,e,v,_,h,a,b=>by
  cases a;cases e<;>first | (cases b;rfl) | (cases b;done) | (obtain ⟨_,_,z,_⟩:=b;cases z)
 | .int _,e,v,_,h,a,b=>by
  cases a;cases e<;>first | (cases b;rfl) | (cases b;done) | (obtain ⟨_,_,z,_⟩:=b;cases z)
 | .str _,e,v,_,h,a,b=>by
  cases a;cases e<;>first | (cases b;rfl) | (cases b;done) | (obtain ⟨_,_,z,_⟩:=b;cases z)
 | .ref _,_,_,h,_,_,_=>by simp [D.data] at h
 | .ty _,_,_,h,_,_,_=>by simp [D.data] at h
 | .d7 _,_,_,h,_,_,_=>by simp [D.data] at h
 | .tup ds,e,v,h0,h,a,b=>by
  obtain ⟨l,vs,rfl,s1,aT⟩:=a
  cases e with
  | tup es=>
   obtain ⟨m,us,z,s2,a0⟩:=b;cases z;have e:=I.sR s1 s2;subst e;rw [CN I (by simpa [D.data] using h0) (by simpa [D.data] using h) aT a0]
  | ref m=>simp [D.data] at h
  | d7 m=>simp [D.data] at h
  | _=>cases b
theorem CN(I:Inv X pins σ H s):∀{ds es:List D}{vs:List V},c3 ds=true->c3 es=true->bM X.K H ds vs->bM X.K H es vs->ds=es
 | [],[],_,_,_,_,_=>rfl
 | [],e::es,_,_,_,a,b=>by cases a;obtain ⟨_,_,z,_⟩:=b;cases z
 | d::ds,[],_,_,_,a,b=>by cases b;obtain ⟨_,_,z,_⟩:=a;cases z
 | d::ds,e::es,vs,ae,ag,⟨v,r,aC,a1,bD⟩,⟨u,q,aG,a2,b5⟩=>by
  subst aC;cases aG;simp only [c3,fe] at ae ag;rw [UC I ae.1 ag.1 a1 a2,CN I ae.2 ag.2 bD b5]
end
mutual
theorem nJ:∀{d:D},d.data=true->cm d d=true
 | .a9,_=>rfl
 | .aI _,_=>by simp [cm]
 | .int _,_=>by simp [cm]
 | .str _,_=>by simp [cm]
 | .ref _,h=>by simp [D.data] at h
 | .ty _,h=>by simp [D.data] at h
 | .d7 _,h=>by simp [D.data] at h
 | .tup ds,h=>by rw [cm];exact zG (by simpa [D.data] using h)
theorem zG:∀{ds:List D},c3 ds=true->en ds ds=true
 | [],_=>rfl
 | d::ds,h=>by
  simp only [c3,fe] at h;rw [en,nJ h.1,zG h.2];rfl
end
mutual
theorem CO(I:Inv X pins σ H s):∀(d e:D)(A:cz)(x y:V)(u v:Value),d.data=true->e.data=true->dj X.K H d x->dj X.K H e y->RelV x u->RelV y v->A.units+d.bC < dC->SeqAt.EqAt A s u v (cm d e)
 | .tup ds,e,A,x,y,u,v,hd,he,aQ,a5,c5,a6,a_=>by
  obtain ⟨a,vs,rfl,s1,aT⟩:=aQ;cases c5;obtain ⟨az,b2,t1,_⟩:=I.tuple s1
  have ft:A.units < dC:=by omega
  cases e with
  | a9=>cases a5;cases a6;exact SeqAt.EqAt.tuple_none t1 ft
  | aI b=>cases a5;cases a6;exact SeqAt.EqAt.tuple_bool b t1 ft
  | int b=>cases a5;obtain ⟨t,rfl⟩:=a6;exact SeqAt.EqAt.tuple_int b t t1 ft
  | str b=>cases a5;obtain ⟨t,rfl⟩:=a6;exact SeqAt.EqAt.tuple_str b t t1 ft
  | ref b=>simp [D.data] at he
  | ty b=>simp [D.data] at he
  | d7 b=>simp [D.data] at he
  | tup es=>
   obtain ⟨b,us,rfl,s2,a0⟩:=a5;cases a6;by_cases tk:a=b
   ·subst tk;have aC:=I.sR s1 s2;subst aC;have aG:=CN I (by simpa [D.data] using hd) (by simpa [D.data] using he) aT a0;subst aG;rw [nJ hd];exact SeqAt.EqAt.same _
   ·obtain ⟨cq,dy,dz,_⟩:=I.tuple s2;have bD:=b2.length;have b5:=dy.length;have iO:=aT.len;have jd:=a0.len;simp only [D.bC] at a_
    have z:=SeqAt.RcAt.tuples (A:=A) (e:=gv ds es) t1 dz ft (λ j ae ag=>by
     have q:=oP I ds es A.in1 vs us az cq (by simpa [D.data] using hd) (by simpa [D.data] using he) aT a0 b2 dy (by show A.units+1+cc ds < dC;omega) j (by simpa using ae) (by simpa using ag)
     simpa using q)
    have oQ:((hE (min az.toArray.size cq.toArray.size)).all (gv ds es)&&az.toArray.size==cq.toArray.size)=cm (.tup ds) (.tup es):=by
     rw [cM,cM,<- bD,<- b5,iO,jd,wh];rfl
    rw [oQ] at z;exact SeqAt.EqAt.of_refs tk z
 | .ref _,_,_,_,_,_,_,hd,_,_,_,_,_,_=>by simp [D.data] at hd
 | .ty _,_,_,_,_,_,_,hd,_,_,_,_,_,_=>by simp [D.data] at hd
 | .d7 _,_,_,_,_,_,_,hd,_,_,_,_,_,_=>by simp [D.data] at hd
 | .a9,e,A,x,y,u,v,hd,he,aQ,a5,c5,a6,a_=>by
  cases aQ;cases c5
  have ft:A.units < dC:=by omega
  cases e with
  | a9=>cases a5;cases a6;exact SeqAt.EqAt.same _
  | aI b=>cases a5;cases a6;exact SeqAt.EqAt.none_bool b
  | int b=>cases a5;obtain ⟨t,rfl⟩:=a6;exact SeqAt.EqAt.none_int b t
  | str b=>cases a5;obtain ⟨t,rfl⟩:=a6;exact SeqAt.EqAt.none_str b t
  | ref b=>simp [D.data] at he
  | ty b=>simp [D.data] at he
  | d7 b=>simp [D.data] at he
  | tup es=>obtain ⟨b,us,rfl,s2,a0⟩:=a5;cases a6;obtain ⟨cq,dy,dz,_⟩:=I.tuple s2;exact SeqAt.EqAt.none_tuple dz ft
 | .aI a,e,A,x,y,u,v,hd,he,aQ,a5,c5,a6,a_=>by
  cases aQ;cases c5
  have ft:A.units < dC:=by omega
  cases e with
  | a9=>cases a5;cases a6;exact SeqAt.EqAt.bool_none a
  | aI b=>cases a5;cases a6;exact SeqAt.EqAt.bool_bool a b
  | int b=>cases a5;obtain ⟨t,rfl⟩:=a6;exact SeqAt.EqAt.bool_int a b t
  | str b=>cases a5;obtain ⟨t,rfl⟩:=a6;exact SeqAt.EqAt.bool_str a b t
  | ref b=>simp [D.data] at he
  | ty b=>simp [D.data] at he
  | d7 b=>simp [D.data] at he
  | tup es=>obtain ⟨b,us,rfl,s2,a0⟩:=a5;cases a6;obtain ⟨cq,dy,dz,_⟩:=I.tuple s2;exact SeqAt.EqAt.bool_tuple a dz ft
 | .int a,e,A,x,y,u,v,hd,he,aQ,a5,c5,a6,a_=>by
  cases aQ;obtain ⟨t',rfl⟩:=c5
  have ft:A.units < dC:=by omega
  cases e with
  | a9=>cases a5;cases a6;exact SeqAt.EqAt.int_none a t'
  | aI b=>cases a5;cases a6;exact SeqAt.EqAt.int_bool a t' b
  | int b=>cases a5;obtain ⟨t,rfl⟩:=a6;exact SeqAt.EqAt.int_int a t' b t
  | str b=>cases a5;obtain ⟨t,rfl⟩:=a6;exact SeqAt.EqAt.int_str a t' b t
  | ref b=>simp [D.data] at he
  | ty b=>simp [D.data] at he
  | d7 b=>simp [D.data] at he
  | tup es=>obtain ⟨b,us,rfl,s2,a0⟩:=a5;cases a6;obtain ⟨cq,dy,dz,_⟩:=I.tuple s2;exact SeqAt.EqAt.int_tuple a t' dz ft
 | .str a,e,A,x,y,u,v,hd,he,aQ,a5,c5,a6,a_=>by
  cases aQ;obtain ⟨t',rfl⟩:=c5
  have ft:A.units < dC:=by omega
  cases e with
  | a9=>cases a5;cases a6;exact SeqAt.EqAt.str_none a t'
  | aI b=>cases a5;cases a6;exact SeqAt.EqAt.str_bool a t' b
  | int b=>cases a5;obtain ⟨t,rfl⟩:=a6;exact SeqAt.EqAt.str_int a t' b t
  | str b=>cases a5;obtain ⟨t,rfl⟩:=a6;exact SeqAt.EqAt.str_str a t' b t
  | ref b=>simp [D.data] at he
  | ty b=>simp [D.data] at he
  | d7 b=>simp [D.data] at he
  | tup es=>obtain ⟨b,us,rfl,s2,a0⟩:=a5;cases a6;obtain ⟨cq,dy,dz,_⟩:=I.tuple s2;exact SeqAt.EqAt.str_tuple a t' dz ft
theorem oP(I:Inv X pins σ H s):∀(ds es:List D)(A:cz)(vs us:List V)(az cq:List Value),c3 ds=true->c3 es=true->bM X.K H ds vs->bM X.K H es us->Vals vs az->Vals us cq->A.units+cc ds < dC →
 ∀ j (ae:j < az.length) (ag:j < cq.length),SeqAt.EqAt A s az[j] cq[j] (gv ds es j)
 | [],es,A,vs,us,az,cq,_,_,e,bV,b2,dy,_,j,ae,ag=>by
  rw [show vs=[] from e] at b2;cases b2;exact absurd ae (by simp)
 | d::ds,[],A,vs,us,az,cq,_,_,e,bV,b2,dy,_,j,ae,ag=>by
  rw [show us=[] from bV] at dy;cases dy;exact absurd ag (by simp)
 | d::ds,b6::es,A,vs,us,az,cq,hd,he,⟨v,r,e,q,t⟩,⟨nu,bp,bV,gT,t'⟩,b2,dy,a_,j,ae,ag=>by
  subst e bV
  cases b2 with
  | cons aT rt=>
   cases dy with
   | cons a0 oR=>
    simp only [cc] at a_;simp only [c3,fe] at hd he
    cases j with
    | zero=>exact CO I d b6 A _ _ _ _ hd.1 he.1 q gT aT a0 (by omega)
    | succ j=>
     have z:=oP I ds es A _ _ _ _ hd.2 he.2 t t' rt oR (by omega) j (by simpa using ae) (by simpa using ag);simpa [gv] using z
end
theorem UD(I:Inv X pins σ H s)(d e:D)(A:cz)(x y:V)(u v:Value)(hd:d.data=true)(he:e.data=true)(aQ:dj X.K H d x)(a5:dj X.K H e y)(c5:RelV x u)(a6:RelV y v)(a_:A.units+d.bC < dC):SeqAt.RcAt A s u v (cm d e):=by
 have ft:A.units < dC:=by omega
 cases d with
 | tup ds=>
  obtain ⟨a,vs,rfl,s1,aT⟩:=aQ;cases c5;obtain ⟨az,b2,t1,_⟩:=I.tuple s1
  cases e with
  | a9=>cases a5;cases a6;exact SeqAt.RcAt.tuple_none t1 ft
  | aI b=>cases a5;cases a6;exact SeqAt.RcAt.tuple_bool b t1 ft
  | int b=>cases a5;obtain ⟨t,rfl⟩:=a6;exact SeqAt.RcAt.tuple_int b t t1 ft
  | str b=>cases a5;obtain ⟨t,rfl⟩:=a6;exact SeqAt.RcAt.tuple_str b t t1 ft
  | ref b=>simp [D.data] at he
  | ty b=>simp [D.data] at he
  | d7 b=>simp [D.data] at he
  | tup es=>
   obtain ⟨b,us,rfl,s2,a0⟩:=a5;cases a6;obtain ⟨cq,dy,dz,_⟩:=I.tuple s2;have bD:=b2.length;have b5:=dy.length;have iO:=aT.len;have jd:=a0.len;simp only [D.bC] at a_
   have z:=SeqAt.RcAt.tuples (A:=A) (e:=gv ds es) t1 dz ft (λ j ae ag=>by
    have q:=oP I ds es A.in1 vs us az cq (by simpa [D.data] using hd) (by simpa [D.data] using he) aT a0 b2 dy (by show A.units+1+cc ds < dC;omega) j (by simpa using ae) (by simpa using ag)
    simpa using q)
   have oQ:((hE (min az.toArray.size cq.toArray.size)).all (gv ds es)&&az.toArray.size==cq.toArray.size)=cm (.tup ds) (.tup es):=by
    rw [cM,cM,<- bD,<- b5,iO,jd,wh];rfl
   rw [oQ] at z;exact z
 | ref a=>simp [D.data] at hd
 | ty a=>simp [D.data] at hd
 | d7 a=>simp [D.data] at hd
 | a9=>
  cases aQ;cases c5
  cases e with
  | a9=>cases a5;cases a6;exact SeqAt.RcAt.none_none
  | aI b=>cases a5;cases a6;exact SeqAt.RcAt.none_bool b
  | int b=>cases a5;obtain ⟨t,rfl⟩:=a6;exact SeqAt.RcAt.none_int b t
  | str b=>cases a5;obtain ⟨t,rfl⟩:=a6;exact SeqAt.RcAt.none_str b t
  | ref b=>simp [D.data] at he
  | ty b=>simp [D.data] at he
  | d7 b=>simp [D.data] at he
  | tup es=>obtain ⟨b,us,rfl,s2,a0⟩:=a5;cases a6;obtain ⟨cq,dy,dz,_⟩:=I.tuple s2;exact SeqAt.RcAt.none_tuple dz ft
 | aI a=>
  cases aQ;cases c5
  cases e with
  | a9=>cases a5;cases a6;exact SeqAt.RcAt.bool_none a
  | aI b=>cases a5;cases a6;exact SeqAt.RcAt.bool_bool a b
  | int b=>cases a5;obtain ⟨t,rfl⟩:=a6;exact SeqAt.RcAt.bool_int a b t
  | str b=>cases a5;obtain ⟨t,rfl⟩:=a6;exact SeqAt.RcAt.bool_str a b t
  | ref b=>simp [D.data] at he
  | ty b=>simp [D.data] at he
  | d7 b=>simp [D.data] at he
  | tup es=>obtain ⟨b,us,rfl,s2,a0⟩:=a5;cases a6;obtain ⟨cq,dy,dz,_⟩:=I.tuple s2;exact SeqAt.RcAt.bool_tuple a dz ft
 | int a=>
  cases aQ;obtain ⟨t',rfl⟩:=c5
  cases e with
  | a9=>cases a5;cases a6;exact SeqAt.RcAt.int_none a t'
  | aI b=>cases a5;cases a6;exact SeqAt.RcAt.int_bool a t' b
  | int b=>cases a5;obtain ⟨t,rfl⟩:=a6;exact SeqAt.RcAt.int_int a t' b t
  | str b=>cases a5;obtain ⟨t,rfl⟩:=a6;exact SeqAt.RcAt.int_str a t' b t
  | ref b=>simp [D.data] at he
  | ty b=>simp [D.data] at he
  | d7 b=>simp [D.data] at he
  | tup es=>obtain ⟨b,us,rfl,s2,a0⟩:=a5;cases a6;obtain ⟨cq,dy,dz,_⟩:=I.tuple s2;exact SeqAt.RcAt.int_tuple a t' dz ft
 | str a=>
  cases aQ;obtain ⟨t',rfl⟩:=c5
  cases e with
  | a9=>cases a5;cases a6;exact SeqAt.RcAt.str_none a t'
  | aI b=>cases a5;cases a6;exact SeqAt.RcAt.str_bool a t' b
  | int b=>cases a5;obtain ⟨t,rfl⟩:=a6;exact SeqAt.RcAt.str_int a t' b t
  | str b=>cases a5;obtain ⟨t,rfl⟩:=a6;exact SeqAt.RcAt.str_str a t' b t
  | ref b=>simp [D.data] at he
  | ty b=>simp [D.data] at he
  | d7 b=>simp [D.data] at he
  | tup es=>obtain ⟨b,us,rfl,s2,a0⟩:=a5;cases a6;obtain ⟨cq,dy,dz,_⟩:=I.tuple s2;exact SeqAt.RcAt.str_tuple a t' dz ft
end
section
variable{X:aW}{pins:List (Addr × Obj)}{σ:L2.St}{H:aw}{s:aE}
theorem UE(I:Inv X pins σ H s)(d e:D)(A:cz)(x y:V)(u v:Value)(hd:d.data=true)(he:e.data=true)(aQ:dj X.K H d x)(a5:dj X.K H e y)(c5:RelV x u)(a6:RelV y v)(a_:A.units+d.bC < dC):SeqAt.RcNeAt A s u v (!cm d e):=by
 have ft:A.units < dC:=by omega
 cases d with
 | tup ds=>
  obtain ⟨a,vs,rfl,s1,aT⟩:=aQ;cases c5;obtain ⟨az,b2,t1,_⟩:=I.tuple s1
  cases e with
  | a9=>cases a5;cases a6;exact SeqAt.RcNeAt.tuple_none t1 ft
  | aI b=>cases a5;cases a6;exact SeqAt.RcNeAt.tuple_bool b t1 ft
  | int b=>cases a5;obtain ⟨t,rfl⟩:=a6;exact SeqAt.RcNeAt.tuple_int b t t1 ft
  | str b=>cases a5;obtain ⟨t,rfl⟩:=a6;exact SeqAt.RcNeAt.tuple_str b t t1 ft
  | ref b=>simp [D.data] at he
  | ty b=>simp [D.data] at he
  | d7 b=>simp [D.data] at he
  | tup es=>
   obtain ⟨b,us,rfl,s2,a0⟩:=a5;cases a6;obtain ⟨cq,dy,dz,_⟩:=I.tuple s2;have bD:=b2.length;have b5:=dy.length;have iO:=aT.len;have jd:=a0.len;simp only [D.bC] at a_
   have z:=SeqAt.RcNeAt.tuples (A:=A) (e:=gv ds es) t1 dz ft (λ j ae ag=>by
    have q:=oP I ds es A.in1 vs us az cq (by simpa [D.data] using hd) (by simpa [D.data] using he) aT a0 b2 dy (by show A.units+1+cc ds < dC;omega) j (by simpa using ae) (by simpa using ag)
    simpa using q)
   have oQ:((hE (min az.toArray.size cq.toArray.size)).all (gv ds es)&&az.toArray.size==cq.toArray.size)=cm (.tup ds) (.tup es):=by
    rw [cM,cM,<- bD,<- b5,iO,jd,wh];rfl
   rw [oQ] at z;exact z
 | ref a=>simp [D.data] at hd
 | ty a=>simp [D.data] at hd
 | d7 a=>simp [D.data] at hd
 | a9=>
  cases aQ;cases c5
  cases e with
  | a9=>cases a5;cases a6;exact SeqAt.RcNeAt.none_none
  | aI b=>cases a5;cases a6;exact SeqAt.RcNeAt.none_bool b
  | int b=>cases a5;obtain ⟨t,rfl⟩:=a6;exact SeqAt.RcNeAt.none_int b t
  | str b=>cases a5;obtain ⟨t,rfl⟩:=a6;exact SeqAt.RcNeAt.none_str b t
  | ref b=>simp [D.data] at he
  | ty b=>simp [D.data] at he
  | d7 b=>simp [D.data] at he
  | tup es=>obtain ⟨b,us,rfl,s2,a0⟩:=a5;cases a6;obtain ⟨cq,dy,dz,_⟩:=I.tuple s2;exact SeqAt.RcNeAt.none_tuple dz ft
 | aI a=>
  cases aQ;cases c5
  cases e with
  | a9=>cases a5;cases a6;exact SeqAt.RcNeAt.bool_none a
  | aI b=>cases a5;cases a6;exact SeqAt.RcNeAt.bool_bool a b
  | int b=>cases a5;obtain ⟨t,rfl⟩:=a6;exact SeqAt.RcNeAt.bool_int a b t
  | str b=>cases a5;obtain ⟨t,rfl⟩:=a6;exact SeqAt.RcNeAt.bool_str a b t
  | ref b=>simp [D.data] at he
  | ty b=>simp [D.data] at he
  | d7 b=>simp [D.data] at he
  | tup es=>obtain ⟨b,us,rfl,s2,a0⟩:=a5;cases a6;obtain ⟨cq,dy,dz,_⟩:=I.tuple s2;exact SeqAt.RcNeAt.bool_tuple a dz ft
 | int a=>
  cases aQ;obtain ⟨t',rfl⟩:=c5
  cases e with
  | a9=>cases a5;cases a6;exact SeqAt.RcNeAt.int_none a t'
  | aI b=>cases a5;cases a6;exact SeqAt.RcNeAt.int_bool a t' b
  | int b=>cases a5;obtain ⟨t,rfl⟩:=a6;exact SeqAt.RcNeAt.int_int a t' b t
  | str b=>cases a5;obtain ⟨t,rfl⟩:=a6;exact SeqAt.RcNeAt.int_str a t' b t
  | ref b=>simp [D.data] at he
  | ty b=>simp [D.data] at he
  | d7 b=>simp [D.data] at he
  | tup es=>obtain ⟨b,us,rfl,s2,a0⟩:=a5;cases a6;obtain ⟨cq,dy,dz,_⟩:=I.tuple s2;exact SeqAt.RcNeAt.int_tuple a t' dz ft
 | str a=>
  cases aQ;obtain ⟨t',rfl⟩:=c5
  cases e with
  | a9=>cases a5;cases a6;exact SeqAt.RcNeAt.str_none a t'
  | aI b=>cases a5;cases a6;exact SeqAt.RcNeAt.str_bool a t' b
  | int b=>cases a5;obtain ⟨t,rfl⟩:=a6;exact SeqAt.RcNeAt.str_int a t' b t
  | str b=>cases a5;obtain ⟨t,rfl⟩:=a6;exact SeqAt.RcNeAt.str_str a t' b t
  | ref b=>simp [D.data] at he
  | ty b=>simp [D.data] at he
  | d7 b=>simp [D.data] at he
  | tup es=>obtain ⟨b,us,rfl,s2,a0⟩:=a5;cases a6;obtain ⟨cq,dy,dz,_⟩:=I.tuple s2;exact SeqAt.RcNeAt.str_tuple a t' dz ft
end
section
variable{X:aW}{a b c e o i bl iter:a8}{es:List a8}{bb bF aZ to h2 bj:cn}{t:g4}{pos p apos dk:Pos}
theorem cf{A:cz}{k:Nat}(ao:fy k A):A.units+200 < dC:=by have:=ao.un;omega
def zH(K:aX)(f:Bool->Bool):eX:=λ x y H Q=>∃ d e,dj K H d x/\dj K H e y/\d.data=true/\e.data=true/\d.bC<=150/\Q (.aI (f (cm d e))) H
def CP(K:aX)(f:Bool->Bool):eX:=λ x y H Q=>∃ l m vs us ds es,x=.ref l/\y=.ref m/\eu K H l vs/\eu K H m us/\bM K H ds vs/\bM K H es us/\c3 ds=true/\c3 es=true/\cc ds<=150/\Q (.aI (f (en ds es))) H
theorem UF(a_:X.A.units+200 < dC):dS X (d3 .Eq) (zH X.K id):=by
 intro pins s σ H x y v u Q I a7 cF h;obtain ⟨d,e,aQ,a5,hd,he,hz,q⟩:=h;exact UD I d e X.A x y v u hd he aQ a5 a7 cF (by omega) X.prog X.w X.xe _ ⟨.aI _,H,I,rfl,q⟩
theorem UG(a_:X.A.units+200 < dC):dS X (d3 .NotEq) (zH X.K (!·)):=by
 intro pins s σ H x y v u Q I a7 cF h;obtain ⟨d,e,aQ,a5,hd,he,hz,q⟩:=h;exact UE I d e X.A x y v u hd he aQ a5 a7 cF (by omega) X.prog X.w X.xe _ ⟨.aI _,H,I,rfl,q⟩
theorem zI:∀{ds es:List D},ds.length≠es.length->en ds es=false
 | [],[],h=>absurd rfl h
 | [],_::_,_=>rfl
 | _::_,[],_=>rfl
 | d::ds,e::es,h=>by rw [en,zI (by simpa using h),sC]
theorem CQ{ds es:List D}(h:ds.length=es.length):(hE ds.length).all (gv ds es)=en ds es:=by
 rw [<- wh,<- h,Nat.min_self];simp
theorem UH(a_:X.A.units+200 < dC):dS X (d3 .Eq) (CP X.K id):=by
 intro pins s σ H x y v u Q I a7 cF h;obtain ⟨l,m,vs,us,ds,es,rfl,rfl,s1,s2,aT,a0,hd,he,hz,q⟩:=h;cases a7;cases cF;obtain ⟨az,b2,t1,_⟩:=I.list s1;obtain ⟨cq,dy,dz,_⟩:=I.list s2;have bD:=b2.length;have b5:=dy.length;have iO:=aT.len;have jd:=a0.len;by_cases ar:ds.length=es.length
 ·refine SeqAt.RcAt.lists (e:=gv ds es) t1.isList dz.isList (by rw [cM,cM];omega) (by omega) (λ j ae ag=>?_) X.prog X.w X.xe _ ⟨.aI _,H,I,?_,q⟩
  ·have q:=oP I ds es X.A.in1 vs us az cq hd he aT a0 b2 dy (by show X.A.units+1+cc ds < dC;omega) j (by simpa using ae) (by simpa using ag);simpa using q
  ·show Value.bool _=Value.bool _;rw [cM,<- bD,iO,CQ ar];rfl
 ·refine SeqAt.RcAt.lists_lengths t1.isList dz.isList (by rw [cM,cM];simp;omega) (by omega) X.prog X.w X.xe _ ⟨.aI _,H,I,?_,q⟩;rw [zI ar];rfl
theorem UI(a_:X.A.units+200 < dC):dS X (d3 .NotEq) (CP X.K (!·)):=by
 intro pins s σ H x y v u Q I a7 cF h;obtain ⟨l,m,vs,us,ds,es,rfl,rfl,s1,s2,aT,a0,hd,he,hz,q⟩:=h;cases a7;cases cF;obtain ⟨az,b2,t1,_⟩:=I.list s1;obtain ⟨cq,dy,dz,_⟩:=I.list s2;have bD:=b2.length;have b5:=dy.length;have iO:=aT.len;have jd:=a0.len;by_cases ar:ds.length=es.length
 ·refine SeqAt.RcNeAt.lists (e:=gv ds es) t1.isList dz.isList (by rw [cM,cM];omega) (by omega) (λ j ae ag=>?_) X.prog X.w X.xe _ ⟨.aI _,H,I,?_,q⟩
  ·have q:=oP I ds es X.A.in1 vs us az cq hd he aT a0 b2 dy (by show X.A.units+1+cc ds < dC;omega) j (by simpa using ae) (by simpa using ag);simpa using q
  ·show Value.bool _=Value.bool _;rw [cM,<- bD,iO,CQ ar]
 ·refine SeqAt.RcNeAt.lists_lengths t1.isList dz.isList (by rw [cM,cM];simp;omega) (by omega) X.prog X.w X.xe _ ⟨.aI _,H,I,?_,q⟩;rw [zI ar];rfl
def rn(f:Bool->Bool):ht:=λ x y G Q=>match x,y with
 | .int i,.int j=>Q (.aI (f (i==j))) G
 | .str i,.str j=>Q (.aI (f (i==j))) G
 | .tup _,.str _=>Q (.aI (f false)) G
 | .str _,.tup _=>Q (.aI (f false)) G
 | .ref l,.ref m=>hJ G l λ ds=>hJ G m λ es=>c3 ds=true/\c3 es=true/\cc ds<=150/\Q (.aI (f (en ds es))) G
 | x,y=>x.data=true/\y.data=true/\x.bC<=150/\Q (.aI (f (cm x y))) G
theorem J4{f:Bool->Bool}{x y:D}{G:aP}{Q:cJ}(ak:x.data=true)(bv:y.data=true)(hd:x.bC<=150)(q:Q (.aI (f (cm x y))) G):rn f x y G Q:=by
 cases x<;>cases y<;>first | exact q | exact ⟨ak,bv,hd,q⟩ | (simp [D.data] at ak;done) | (simp [D.data] at bv;done)
def CR(K:aX)(f:Bool->Bool):eX:=λ x y H Q=>(∃ a vs z,x=.ref a/\dH K H a vs/\y=.str z/\Q (.aI (f false)) H)\/∃ a vs z,y=.ref a/\dH K H a vs/\x=.str z/\Q (.aI (f false)) H
theorem UJ(a_:X.A.units+200 < dC):dS X (d3 .Eq) (CR X.K id):=by
 intro pins s σ H x y v u Q I a7 cF h;rcases h with ⟨a,vs,z,rfl,fo,rfl,q⟩ | ⟨a,vs,z,rfl,fo,rfl,q⟩
 ·cases a7;obtain ⟨t,rfl⟩:=cF;obtain ⟨az,b2,t1,_⟩:=I.tuple fo;exact SeqAt.RcAt.tuple_str z t t1 (by omega) X.prog X.w X.xe _ ⟨.aI false,H,I,rfl,q⟩
 ·cases cF;obtain ⟨t,rfl⟩:=a7;obtain ⟨az,b2,t1,_⟩:=I.tuple fo;exact SeqAt.RcAt.str_tuple z t t1 (by omega) X.prog X.w X.xe _ ⟨.aI false,H,I,rfl,q⟩
theorem UK(a_:X.A.units+200 < dC):dS X (d3 .NotEq) (CR X.K (!·)):=by
 intro pins s σ H x y v u Q I a7 cF h;rcases h with ⟨a,vs,z,rfl,fo,rfl,q⟩ | ⟨a,vs,z,rfl,fo,rfl,q⟩
 ·cases a7;obtain ⟨t,rfl⟩:=cF;obtain ⟨az,b2,t1,_⟩:=I.tuple fo;exact SeqAt.RcNeAt.tuple_str z t t1 (by omega) X.prog X.w X.xe _ ⟨.aI true,H,I,rfl,q⟩
 ·cases cF;obtain ⟨t,rfl⟩:=a7;obtain ⟨az,b2,t1,_⟩:=I.tuple fo;exact SeqAt.RcNeAt.str_tuple z t t1 (by omega) X.prog X.w X.xe _ ⟨.aI true,H,I,rfl,q⟩
theorem J5{f:Bool->Bool}{op:m9}(ae:dS X (d3 op) (zH X.K f))(ag:dS X (d3 op) (CP X.K f))(aR:dS X (d3 op) (CR X.K f)):f5 X (d3 op) (rn f):=by
 refine ⟨_,⟨ae.or (ag.or aR)⟩,λ x y ez hh G H ay Q v aQ a5 r F=>?_⟩;have fin:∀ b:Bool,ay (.aI b) G->Q (.aI b) H:=λ b q=>F (.aI b) G _ H (.refl v) rfl q
 have gen:x.data=true/\y.data=true/\x.bC<=150/\ay (.aI (f (cm x y))) G->zH X.K f ez hh H Q:=λ⟨cI,b9,gZ,pR⟩=>⟨x,y,aQ,a5,cI,b9,gZ,fin _ pR⟩
 unfold rn at r;split at r
 ·exact .inl (gen ⟨rfl,rfl,ef _,r⟩)
 ·exact .inl (gen ⟨rfl,rfl,ef _,r⟩)
 ·obtain ⟨l,vs,rfl,s1,_⟩:=aQ;cases a5;exact .inr (.inr (.inl ⟨l,vs,_,rfl,s1,rfl,fin _ r⟩))
 ·obtain ⟨l,vs,rfl,s1,_⟩:=a5;cases aQ;exact .inr (.inr (.inr ⟨l,vs,_,rfl,s1,rfl,fin _ r⟩))
 ·cases aQ;cases a5;obtain ⟨ds,vs,k1,s1,aT⟩:=iN v r;obtain ⟨es,us,⟨cI,b9,gZ,k2⟩,s2,a0⟩:=iN v k1;exact .inr (.inl ⟨_,_,vs,us,ds,es,rfl,rfl,s1,s2,aT,a0,cI,b9,gZ,fin _ k2⟩)
 ·exact .inl (gen r)
theorem dK(a_:X.A.units+200 < dC):f5 X (d3 .Eq) (rn id):=J5 (UF a_) (UH a_) (UJ a_)
theorem je(a_:X.A.units+200 < dC):f5 X (d3 .NotEq) (rn (!·)):=J5 (UG a_) (UI a_) (UK a_)
abbrev UL(t:cn):cn:=λ ρ G Q=>t ρ G λ d au=>∃ bf,Sub bf au/\Q d bf
theorem p5(h:cu X e aZ):cu X e (UL aZ):=by
 obtain ⟨ca,cv,cw⟩:=h.run;exact ⟨_,cv,λ ρ G ay σ H Q B q F=>cw ρ G _ σ H _ B q λ d au v aj g a ⟨bf,s2,bo⟩=>F d bf v aj (g.sub s2) a bo⟩
@[irreducible] def atS(ds:List D)(i:Int)(G:aP)(Q:cJ):Prop:=oH ds i G Q
theorem wi{ds:List D}{i:Int}{G:aP}{Q:cJ}(h:oH ds i G Q):atS ds i G Q:=by unfold atS;exact h
abbrev UM(t:g4)(bF:cn):cn:=λ ρ G Q=>t ρ G λ ds aB=>bF ρ aB λ y bf=>match y with
 | .int i=>atS ds i bf Q
 | _=>False
theorem tl{zJ:Pos}(h:iq X es t)(af:cu X b bF)(ap:yT b)(ar:yg es.length 1000=true:=by rfl):cu X (.Subscript (.List es zJ) b pos) (UM t bF):=by
 obtain ⟨ca,cv,cw⟩:=h.run;obtain ⟨j2,fH,fI⟩:=af.run;refine ⟨_,II ⟨Ie⟩ (IH cv) fH ap,λ ρ G ay σ H Q B q F=>cw ρ G _ σ H _ B q λ ds aB vs H1 g1 al aH aF=>⟨by rw [al.len,aH];exact Cx ar,λ p ah=>?_⟩⟩;have g2:=Go.nG (o:=.lst vs) g1.cA ah;have dt:=g1.cA.none ah;refine fI ρ aB _ σ _ _ ((B.go g1).go g2) aF λ y em u dI g3 a5 dw=>?_;have aR:=g3.same p _ eG dt;split at dw
 ·next i=>
  cases a5;unfold atS at dw;obtain ⟨d,hd,gm⟩:=zr dw;obtain ⟨w,hw,oL⟩:=zq ((al.mono g2.tup).mono g3.tup) hd;exact .inl ⟨p,vs,i,w,rfl,rfl,.of aR,hw,F d em w dI ((g1.trans g2).trans g3) oL gm⟩
 ·exact dw.elim
def J6(sc:gg)(N:List Str)(scope:gg)(N':List Str)(nt:Nat)(cap:List Nat):Bool:=
 scope.names.all (λ y=>y.2 !=.cell)&&scope.names.all (λ y=>y.2 !=.local||scope.names.lookup y.1==some .local) &&
 scope.names.all (λ y=>y.2 !=.free||(sc.names.lookup y.1==some .cell||sc.names.lookup y.1==some .free))&&N'.length==nt+cap.length &&
 (hE cap.length).all λ j=>match cap[j]?,N'[nt+j]? with
  | some i,some x=>N[i]?==some x&&scope.names.lookup x==some .free
  | _,_=>true
theorem hI.of{scope:gg}{N':List Str}{nt:Nat}{cap:List Nat}(aN:scope.kind=.function)(h:J6 X.env.scope X.N scope N' nt cap=true):hI X scope N' nt cap:=by
 unfold J6 at h;simp only [fe,lz] at h;obtain ⟨⟨⟨⟨ae,ag⟩,aR⟩,bB⟩,el⟩:=h;refine ⟨aN,λ y bv=>by simpa using ae y bv,λ y bv e=>?_,λ y bv e=>?_,by simpa using bB,λ j i x cD ak=>?_⟩
 ·have z:=ag y bv;rw [e] at z;simpa using z
 ·have z:=aR y bv;rw [e] at z;simpa using z
 ·have lt:j < cap.length:=by
   rcases yh j cap.length with z | z
   ·exact z
   ·rw [x3 z] at cD;cases cD
  have z:=el j (n3.mpr lt);rw [cD,ak] at z;simpa using z
abbrev UN(to h2:cn):gM:=λ d ρ G Q=>to ρ G λ x aB=>h2 ρ aB λ y bf=>match x,y with
 | .ref l,.int k=>k9 bf l λ ds=>∃ j,kZ ds.length k=some j/\Q ρ (up bf l (.lst (ds.set j d)))
 | _,_=>False
theorem CS(aS:cu X o to)(av:cu X i h2) (ax:∀ v,XV (.Subscript o i pos) X.env v=(do
 let gb ← jI [v] (eval o X.env)
 let i6 ← jI [v,gb] (eval i X.env)
 pp pos
 jI [v,gb,i6] (setItem gb i6 v)
 release [v,gb,i6] []):=by intro _;rfl):ky X (.Subscript o i pos) (UN to h2):=by
 obtain ⟨co,iv,ik⟩:=aS.run;obtain ⟨ci,oM,k6⟩:=av.run;refine ⟨_,SO iv oM ⟨Rc⟩ ax,λ d v ρ G ay σ H Q B ad q F=>ik ρ G _ σ H _ B q λ x aB ez H1 g1 aQ aF=>k6 ρ aB _ σ H1 _ (B.go g1) aF λ y bf hh bg g2 a5 bo=>?_⟩;split at bo
 ·next l k=>
  cases aQ;cases a5;obtain ⟨ds,vs,⟨j,cD,dw⟩,aC,ae,aT⟩:=pX g2.cA bo;have UO:=(ad.mono g1.tup).mono g2.tup;have g3:=Go.vT g2.cA aC (aT.set UO j);have hu:=(g1.trans g2).trans g3;exact ⟨l,vs,k,j,rfl,rfl,ae,by rw [aT.len];exact cD,F ρ _ σ _ hu (B.go hu) dw⟩
 ·exact bo.elim
abbrev ae8(aZ:cn):cn:=λ ρ G Q=>aZ ρ G λ x aB=>match x with
 | .tup ds=>∀ p,aB p=none->Q (.ref p) (up aB p (.lst ds.reverse))
 | _=>False
abbrev ae9(aZ:cn):cn:=λ ρ G Q=>aZ ρ G λ x aB=>match x with
 | .ref l=>hJ aB l λ ds=>∀ p,aB p=none->Q (.ref p) (up aB p (.lst ds.reverse))
 | _=>False
def ro:List D->Option (List Bool)
 | []=>some []
 | .aI i::r=>(ro r).map (i::·)
 | _::_=>none
theorem J7{K:aX}{H:aw}:∀{ds:List D}{bs:List Bool}{vs:List V},ro ds=some bs->bM K H ds vs->vs=bs.map V.aI
 | [],bs,vs,h,r=>by cases h;exact r
 | d::ds,bs,vs,h,⟨v,q,e,wa,l⟩=>by
  cases d with
  | aI i=>
   simp only [ro,Option.map_eq_some_iff] at h;obtain ⟨ms,ae,rfl⟩:=h;subst e;cases wa;rw [J7 ae l];rfl
  | _=>simp [ro] at h
theorem zK:∀ bs:List Bool,ro (bs.map D.aI)=some bs
 | []=>rfl
 | b::bs=>by simp [ro,zK bs]
def UP:D->aP->cJ->Prop:=λ x G Q=>match x with
 | .ref l=>hJ G l λ ds=>∃ bs,ro ds=some bs/\Q (.aI (bs.all id)) G
 | _=>False
theorem CT(ai:X.calm=true):kz X (.builtin "all") (nI UP):=by
 refine ⟨_,⟨Te ai⟩,λ xs vs G H ay Q v a r F=>?_⟩;obtain ⟨x,u,rfl,rfl,aQ,r⟩:=p1 r a
 cases x with
 | ref l=>
  cases aQ;obtain ⟨ds,ws,⟨bs,e,k⟩,s,dJ⟩:=iN v r;rw [J7 e dJ] at s;exact ⟨l,bs,rfl,s,F (.aI (bs.all id)) G _ H (.refl v) rfl k⟩
 | _=>exact (show False from r).elim
def UQ(x:D)(G:aP)(k:String->Prop):Prop:=match x with
 | .a9=>k "NoneType"
 | .aI _=>k "bool"
 | .int _=>k "int"
 | .str _=>k "str"
 | .tup _=>k "tuple"
 | .ref l=>hJ G l λ _=>k "list"
 | _=>False
def CU(t T:String):Option Bool:=
 if (t = "NoneType"\/t = "bool"\/t = "int"\/t = "str"\/t = "tuple"\/t = "list")/\(T = "bool"\/T = "int"\/T = "str"\/T = "tuple"\/T = "list") then some (decide (t=T)||(decide (t = "bool")&&decide (T = "int"))) else none
theorem tm{K:aX}{t T:String}{b:Bool}(h:CU t T=some b):Wp K (.type t) (.type T)=some b:=by
 unfold CU at h;split at h
 ·next c=>
  obtain ⟨bu,bt⟩:=c;rcases bu with rfl | rfl | rfl | rfl | rfl | rfl<;>rcases bt with rfl | rfl | rfl | rfl | rfl<;>(simp at h;subst h;first | rfl | exact afa rfl (by decide))
 ·cases h
def UR(K:aX):List V->aw->cE->Prop:=λ xs H Q=>∃ x T t b,xs=[x,.ty T]/\((kX K H x (.type t))\/(t = "tuple"/\∃ a vs,x=.ref a/\dH K H a vs)\/(t = "list"/\∃ a vs,x=.ref a/\eu K H a vs))/\Wp K (.type t) (.type T)=some b/\Q (.aI b) H
theorem US:h3 X (.builtin "isinstance") (UR X.K):=by
 intro pins s σ H xs us Q I r h;obtain ⟨x,T,t,b,rfl,ty,aN,gj⟩:=h;obtain ⟨u,v,rfl,c5,a6⟩:=Vals.two r;cases a6;rcases ty with ty | ⟨rfl,a,vs,rfl,fo⟩ | ⟨rfl,a,vs,rfl,fo⟩
 ·exact QI I c5 ty aN λ bL=>⟨.aI b,H,I.tok bL,rfl,gj⟩
 ·cases c5;obtain ⟨az,_,⟨o,ae,ag,_⟩,_⟩:=I.tuple fo
  exact jN PySem.W.kitx_tuple I.ff ⟨o,ae,ag⟩ aN (λ z=>nomatch z) λ bL=>⟨.aI b,H,I.tok bL,rfl,gj⟩
 ·cases c5;obtain ⟨az,_,⟨o,n,ae,ag,_⟩,_⟩:=I.list fo
  exact jN PySem.W.kitx_list I.ff ⟨o,ae,ag⟩ aN (λ z=>nomatch z) λ bL=>⟨.aI b,H,I.tok bL,rfl,gj⟩
def UT:D->D->aP->cJ->Prop:=λ x y G Q=>match y with
 | .ty T=>UQ x G λ t=>∃ b,CU t T=some b/\Q (.aI b) G
 | _=>False
theorem kH:kz X (.builtin "isinstance") (td UT):=by
 refine ⟨_,⟨US⟩,λ xs vs G H ay Q v a r F=>?_⟩;obtain ⟨x,y,u,w,rfl,rfl,aQ,a5,r⟩:=zu r a
 cases y with
 | ty T=>
  cases a5
  cases x with
  | a9=>cases aQ;obtain ⟨b,af,q⟩:=r;exact ⟨_,T,_,b,rfl,.inl .a9,tm af,F (.aI b) G _ H (.refl v) rfl q⟩
  | aI z=>cases aQ;obtain ⟨b,af,q⟩:=r;exact ⟨_,T,_,b,rfl,.inl (.aI z),tm af,F (.aI b) G _ H (.refl v) rfl q⟩
  | int z=>cases aQ;obtain ⟨b,af,q⟩:=r;exact ⟨_,T,_,b,rfl,.inl (.int z),tm af,F (.aI b) G _ H (.refl v) rfl q⟩
  | str z=>cases aQ;obtain ⟨b,af,q⟩:=r;exact ⟨_,T,_,b,rfl,.inl (.str z),tm af,F (.aI b) G _ H (.refl v) rfl q⟩
  | tup ds=>obtain ⟨l,ws,rfl,s,_⟩:=aQ;obtain ⟨b,af,q⟩:=r;exact ⟨_,T,"tuple", b,rfl,.inr (.inl ⟨rfl,l,ws,rfl,s⟩),tm af,F (.aI b) G _ H (.refl v) rfl q⟩
  | ref l=>
   cases aQ;obtain ⟨ds,ws,⟨b,af,q⟩,s,_⟩:=iN v r;exact ⟨_,T,"list", b,rfl,.inr (.inr ⟨rfl,l,ws,rfl,s⟩),tm af,F (.aI b) G _ H (.refl v) rfl q⟩
  | ty z=>exact (show False from r).elim
  | d7 z=>exact (show False from r).elim
 | _=>exact (show False from r).elim
abbrev UU(t:g4):kF:=λ ρ G R=>t ρ G λ ds aB=>match ds with
 | [.tup xs,.tup aD]=>xs.length<=aD.length/\R ⟨(xs.zip aD).map λ z=>.tup [z.1,z.2],λ _=>True⟩ aB
 | _=>False
theorem UV{k:Nat}{gL:Pos}(a3:et X "zip")(hm:X.mg "zip" = none)(ax:iq X [a,b] t)(ae:e7 a=true:=by rfl)(ag:e7 b=true:=by rfl):mJ X (.Tuple es k gL) (.Call (.Name "zip" p) [a,b] [] pos) (UU t):=by
 obtain ⟨ca,cv,cw⟩:=ax.run;refine ⟨_,Tz a3 hm cv ae ag,λ ρ G lg σ H R B q F=>cw ρ G _ σ H _ B q λ ds aB vs H1 g1 al ar aF=>?_⟩;split at aF
 ·next xs aD=>
  obtain ⟨hle,bo⟩:=aF;obtain ⟨v,r,rfl,⟨l,ws,rfl,s1,aT⟩,u,a0,rfl,⟨m,zs,rfl,s2,J8⟩,z⟩:=al;cases z;refine ⟨l,m,rfl,⟨ws,s1⟩,⟨zs,s2⟩,F _ _ aB H1 g1 (λ bf bg g2 _=>⟨λ n d hd=>?_,λ n aH=>⟨ws,g2.tup.gL _ _ s1,?_⟩⟩) bo⟩
  ·rw [iG] at hd
   cases e:(xs.zip aD)[n]? with
   | none=>rw [e] at hd;cases hd
   | some z=>
    rw [e] at hd;simp at hd;subst hd;obtain ⟨aC,aG⟩:=List.getElem?_zip_eq_some.mp e;obtain ⟨g8,k1,a1⟩:=(aT.mono g2.tup).get aC;obtain ⟨gU,k2,a2⟩:=(J8.mono g2.tup).get aG;refine ⟨⟨ws,zs,g8,gU,g2.tup.gL _ _ s1,g2.tup.gL _ _ s2,k1,k2⟩,λ x aj y=>?_⟩;obtain ⟨T,g9,CF,rfl,cW,rfl,ak,bv⟩:=y;have cI:=ak ws (g2.tup.gL _ _ s1);have b9:=bv zs (g2.tup.gL _ _ s2);rw [k1] at cI;rw [k2] at b9;cases cI;cases b9;have g3:=Go.nG (o:=.tup [g8,gU]) g2.cA cW;exact ⟨g3,T,_,rfl,.of eG,⟨_,_,rfl,a1.mono g3.tup,.one (a2.mono g3.tup)⟩⟩
  ·have:=aT.len;simp at aH;omega
 ·exact aF.elim
end
inductive Tm where
 | name (k:Nat) | whole (n:Int) | way (t:Tm) | give (t u:Tm) | pair (t u:Tm) | first (t:Tm) | second (t:Tm) | plus (t u:Tm) | look (t u v:Tm)
abbrev rp(x y:Int):hr:=.lst [.int x,.int y]
def h6(G:aP)(a:Addr):Prop:=∃ x y,G a=some (rp x y)
theorem h6.up{G:aP}{a:Addr}{x y:Int}:h6 (up G a (rp x y)) a:=⟨x,y,bU⟩
theorem h6.new{G:aP}{a l:Addr}{o:hr}(h:h6 G a)(n:G l=none):h6 (L3.up G l o) a:=by
 obtain ⟨x,y,e⟩:=h;exact ⟨x,y,by rw [dU (by rintro rfl;rw [n] at e;cases e)];exact e⟩
theorem h6.ne{G:aP}{a l:Addr}(h:h6 G a)(n:G l=none):l≠a:=by
 obtain ⟨x,y,e⟩:=h;rintro rfl;rw [n] at e;cases e
theorem oEq{G:aP}{a l:Addr}{f o:hr}(n:up G a f l=none):up (up G a f) l o=up (up G l o) a f/\G l=none/\l≠a:=by
 have ne:l≠a:=by rintro rfl;rw [bU] at n;cases n
 exact ⟨Jf (Ne.symm ne),by rw [dU ne] at n;exact n,ne⟩
theorem Sub.new{G aB:aP}{p:Addr}{o:hr}(h:Sub G aB)(n:G p=uY):Sub G (up aB p o):=λ b u e=>by
 rw [dU (by rintro rfl;rw [n] at e;cases e)];exact h b u e
theorem Sub.put{G aB:aP}{a:Addr}{o:hr}(h:Sub G aB):Sub (up G a o) (up aB a o):=λ b u e=>by
 by_cases c:b=a
 ·subst c;rw [bU] at e ⊢;exact e
 ·rw [dU c] at e ⊢;exact h b u e
def e0(a:Addr)(G au:aP):Prop:=∃ x y,au=up G a (rp x y)
theorem e0.mk{a:Addr}{G:aP}{x y:Int}:e0 a G (up G a (rp x y)):=⟨x,y,rfl⟩
theorem e0.trans{a:Addr}{G aB bf:aP}(h:e0 a G aB)(k:e0 a aB bf):e0 a G bf:=by
 obtain ⟨x,y,rfl⟩:=h;obtain ⟨z,u,rfl⟩:=k;exact ⟨z,u,iM⟩
theorem e0.fd{a:Addr}{G au:aP}(h:e0 a G au):h6 au a:=by obtain ⟨x,y,rfl⟩:=h;exact .up
theorem e0.refl{a:Addr}{G:aP}(h:h6 G a):e0 a G G:=by obtain ⟨x,y,e⟩:=h;exact ⟨x,y,(TF e).symm⟩
theorem e0.other{a l:Addr}{G au:aP}(h:e0 a G au)(n:l≠a):au l=G l:=by obtain ⟨x,y,rfl⟩:=h;exact dU n
theorem e0.none{a l:Addr}{G au:aP}(h:e0 a G au)(n:au l=uY):G l=uY:=by
 obtain ⟨x,y,rfl⟩:=h;exact (oEq (o:=rp 0 0) n).2.1
def lU:fJ:=λ ds G Q=>match ds with
 | [.ref a,.int m]=>h6 G a/\0 < m/\m < 2 ^ 62/\∀ d au,e0 a G au->0<=d->d < m->Q (.int d) au
 | _=>False
def wj:fJ:=λ ds G Q=>match ds with
 | [.d7 ss,.int k]=>∃ ns:List Int,ss=ns.map D.int/\ns.length<=63/\0<=k/\k < 2 ^ 32/\∀ r x y,G r=none->Q (.ref r) (up G r (rp x y))
 | _=>False
def J9:fJ:=λ ds _ Q=>∃ ns:List Int,ds=[.d7 (ns.map D.int)]/\ns.length<=63/\∀ au,Q (.aI true) au
abbrev zL(K:aX):iK:=bG K J9
theorem UW{K:aX}{H:aw}{a:Addr}{ns:List Int}(ar:ns.length<=63)(o:yY H)(h:eu K H a (ns.map V.int)):zL K [.ref a] H (λ v _=>v=.aI true) λ _ _ _=>False:=by
 have f:s8 K H a (ns.map V.int):=by
  rcases h with (h | h) | h
  ·rcases o a with z | ⟨_,_,z⟩<;>(rw [h] at z;cases z)
  ·exact .inl h
  ·exact .inr h
 refine ⟨[.d7 (ns.map D.int)],λ _=>none,λ d _=>d=.aI true,⟨.ref a,[],rfl,⟨a,_,rfl,f,bM.Je ns⟩,rfl⟩,(λ _ _ e=>by cases e),⟨ns,rfl,ar,λ _=>rfl⟩,λ d au v aj g ad e=>?_⟩;subst e;exact ad
theorem tn{P:cL}{w:b8}{K:aX}{mg:Str->Option Value}{base:bE}{f:Addr}{fd:gD}{ps:List Str}{k:Nat}{fs:fJ}(no:∀ ds G ay,¬ fs ds G ay):da P w K mg base c6 k f fd ps (bG K fs):=
 ⟨λ vs H Q E ⟨ds,G,ay,_,_,h,_⟩=>absurd h (no ds G ay),λ A outer s H args us vs Q E _ _ _ _ ⟨ds,G,ay,_,_,h,_⟩=>absurd h (no ds G ay)⟩
theorem at2{x y:D}{G:aP}{Q:cJ}{i:Int}(h0:0<=i)(ae:i < 2)(ak:i=0->Q x G)(bv:i=1->Q y G):atS [x,y] i G Q:=by
 refine wi ?_;rcases (by omega:i=0\/i=1) with rfl | rfl
 ·exact ak rfl
 ·exact bv rfl
theorem UX{x y z:D}{G:aP}{Q:cJ}{i:Int}(h0:0<=i)(ae:i < 3)(ak:i=0->Q x G)(bv:i=1->Q y G)(hz:i=2->Q z G):atS [x,y,z] i G Q:=by
 refine wi ?_;rcases (by omega:i=0\/i=1\/i=2) with rfl | rfl | rfl
 ·exact ak rfl
 ·exact bv rfl
 ·exact hz rfl
theorem UY{x y z u:D}{G:aP}{Q:cJ}{i:Int}(h0:0<=i)(ae:i < 4)(ak:i=0->Q x G)(bv:i=1->Q y G)(hz:i=2->Q z G)(a_:i=3->Q u G):atS [x,y,z,u] i G Q:=by
 refine wi ?_;rcases (by omega:i=0\/i=1\/i=2\/i=3) with rfl | rfl | rfl | rfl
 ·exact ak rfl
 ·exact bv rfl
 ·exact hz rfl
 ·exact a_ rfl
section
variable{α:Type}{all:α->List (List Int × α)}{afb:α->List α}
theorem dQ{n:Nat}(h:n<=200000):n<=sizeLine:=by rw [hC];omega
theorem iw{n:Nat}(h:n<=200000):n < sizeLine:=by rw [hC];omega
theorem CV{G:aP}{p q:Addr}{x y z:hr}(h:p≠q):up (up (up G q x) p y) q z=up (up G q z) p y:=by
 rw [Jf h,iM]
end
theorem zM:∀{ds:List D}{d:D},d∈ds->d.bC<=cc ds
 | d::ds,e,m=>by
  rcases cC.mp m with rfl | m
  ·simp only [cc];omega
  ·have:=zM m;simp only [cc];omega
theorem J_{α β:Type}(f:α × α->β):∀ xs:List α,(xs.zip xs).map f=xs.map λ x=>f (x,x)
 | []=>rfl
 | x::xs=>by rw [List.zip_cons_cons,dF,dF,J_ f xs]
theorem Ka{p:Prop}(c:false=true):p:=nomatch c
theorem zN{p:Prop}(c:true=false):p:=nomatch c
theorem e0.dr{a b:Addr}{G au:aP}{u:hr}(h:e0 a G au)(n:b≠a)(e:G b=some u):au b=some u:=by rw [h.other n];exact e
theorem UZ{α:Type}{xs:List α}{k:Nat}(h:k<=xs.length):cut xs none (some (k:Int))=xs.take k:=by
 unfold cut;rw [show dq.cp xs.length 0 none=0 from rfl,show dq.cp xs.length xs.length (some (k:Int))=k by unfold dq.cp;simp only [];rw [if_neg (by omega)];omega,ie,yf]
end L3
namespace L3
open PySem PySem.Spec L2 PySem.SeqAt
def ix(e c:Nat->Bool)(fin:Bool):Nat->Nat->Bool
 | 0,_=>fin
 | k+1,i=>if e i then ix e c fin k (i+1) else c i
def nK(A:cz)(s:aE)(y x:Value)(b:Bool):Prop:=
 ∀(prog:cL)(w:b8)(E:Value->aE->Prop)(Q:Value->aE->Prop),Q (.bool b) s->aU (aY prog w) A (richCompare .Lt y x) Q E s
open AutoSeq1 (wpAny_loadPart') in
theorem U0(l b:Addr)(items cS:Array Value)(n ck:Nat)(dd gc:Option Addr)(bz hq:Array (Option Value))(e c:Nat->Bool) :
 Meets (Builtin.«tuple.__lt__» ⟨[.ref l,.ref b],[]⟩)
  (λ A R s=>s.heap.get? l=some { cls:=.type "tuple", dict:=dd,data:=.seq items n,slots:=bz }/\s.heap.get? b=some { cls:=.type "tuple", dict:=gc,data:=.seq cS ck,slots:=hq } ∧
   (∀ j (ae:j < items.size) (ag:j < cS.size),EqAt A.in1 s items[j] cS[j] (e j)) ∧
   (∀ j (ae:j < items.size) (ag:j < cS.size),(∀ i,i < j->e i=true)->e j=false->nK A.in1 s items[j] cS[j] (c j)) ∧
   R (.ok (.ret (.bool (ix e c (decide (items.size < cS.size)) (min items.size cS.size) 0)))) s):=
 .of_wp λ prog w A R s h=>by
  obtain ⟨ah,g,d,bL,os⟩:=s;obtain ⟨ar,af,he,ai,h⟩:=h;have f2:=AutoSeq1.sub_tuple_tuple
  have Kb:(items.toList.zip cS.toList).length=min items.size cS.size:=by simp
  wp_walk using m6 ar,m6 af,wpAny_forIn_list _ (λ rest b aM=>b.1=none/\aM=⟨ah,g,d,bL,os⟩/\∃ i,rest=(items.toList.zip cS.toList).drop i/\(∀ k,k < i->e k=true) ∧
   R (.ok (.ret (.bool (ix e c (decide (items.size < cS.size)) (min items.size cS.size - i) i)))) ⟨ah,g,d,bL,os⟩) _
  case turn=>
   rintro ⟨y,x⟩ rest b aM ⟨g0,rfl,i,hz,aN,hi⟩
   have fm:i < (items.toList.zip cS.toList).length:=by
    rcases yh i (items.toList.zip cS.toList).length with h' | h'
    ·exact h'
    ·rw [List.drop_of_length_le h'] at hz;cases hz
   have hm:i < min items.size cS.size:=Kb ▸ fm;have ae:i < items.size:=hX hm (Nat.min_le_left _ _);have ag:i < cS.size:=hX hm (Nat.min_le_right _ _);rw [pB fm] at hz;injection hz with Kc tp
   have bv:y=items[i]:=by have:=congrArg Prod.fst Kc;simpa using this
   have ak:x=cS[i]:=by have:=congrArg Prod.snd Kc;simpa using this
   subst bv ak;rw [show min items.size cS.size - i=(min items.size cS.size - (i+1))+1 by omega,ix] at hi;refine aA (he i ae ag prog w _ _ ?_)
   cases bv:e i with
   | true=>
    rw [bv] at hi
    wp_walk
    exact ⟨rfl,rfl,i+1,tp,λ k wk=>by rcases Nat.lt_succ_iff_lt_or_eq.mp wk with z | rfl;exact aN k z;exact bv,by simpa using hi⟩
   | false=>
    rw [bv,if_neg (by decide)] at hi;simp only [Bool.not_false,if_true];refine aA (m8 (aA (ai i ae ag aN bv prog w _ _ ?_)))
    wp_walk
    exact ⟨_,rfl,hi⟩
  case fin=>
   rintro ⟨eK,dx⟩ aM ⟨g0,rfl,i,hz,aN,hi⟩;simp only at g0;subst g0
   have afc:min items.size cS.size<=i:=by
    rcases yh i (items.toList.zip cS.toList).length with h' | h'
    ·rw [pB h'] at hz;cases hz
    ·exact Kb ▸ h'
   rw [show min items.size cS.size - i=0 by omega,ix] at hi
   wp_walk
   exact ⟨_,rfl,by simpa [Builtin.Tuple.tupleCompareSizes] using hi⟩
  case h=>
   exact ⟨rfl,rfl,0,rfl,by simp,by simpa using h⟩
theorem nK.tuples{A:cz}{s:aE}{l b:Addr}{items cS:Array Value}{e c:Nat->Bool}(ar:s.heap.IsTuple l items)(af:s.heap.IsTuple b cS)(a_:A.units < dC)
 (he:∀ j (ae:j < items.size) (ag:j < cS.size),EqAt A.in1 s items[j] cS[j] (e j))
 (ai:∀ j (ae:j < items.size) (ag:j < cS.size),(∀ i,i < j->e i=true)->e j=false->nK A.in1 s items[j] cS[j] (c j)) :
 nK A s (.ref l) (.ref b) (ix e c (decide (items.size < cS.size)) (min items.size cS.size) 0):=λ prog w E Q h=>by
 obtain ⟨⟨cls,dd,data,bz⟩,aS,nL,n,hd⟩:=id ar;obtain ⟨⟨BN,gc,data2,hq⟩,kv,jW,ck,hd2⟩:=id af;simp only at nL hd jW hd2;subst nL hd jW hd2
 exact richCompare_meets_room (op:=.Lt) ⟨_,aS,rfl⟩ ⟨_,kv,rfl⟩ F.slot_tuple_lt F.entry_tuple_lt (F.args_tuple_lt_2 _ _) (U0 l b items cS n ck dd gc bz hq e c)
  ⟨aS,kv,he,ai,show Value.bool _≠Value.notImplemented/\Q _ s from ⟨(λ x=>nomatch x),h⟩⟩ a_
mutual
def cg:D->D->Option Bool
 | .int i,.int j=>some (decide (i < j))
 | .str a,.str b=>some (decide (a.cps.toList < b.cps.toList))
 | .tup ds,.tup es=>cy ds es
 | _,_=>none
def cy:List D->List D->Option Bool
 | [],es=>some (decide (0 < es.length))
 | _::_,[]=>some false
 | d::ds,e::es=>if cm d e then cy ds es else cg d e
end
theorem Kd(e c:Nat->Bool)(fin:Bool):∀ n i,ix e c fin n (i+1)=ix (λ k=>e (k+1)) (λ k=>c (k+1)) fin n i
 | 0,_=>rfl
 | n+1,i=>by rw [ix,ix,Kd e c fin n (i+1)]
theorem Ke(d e:D)(ds es:List D):(λ k=>gv (d::ds) (e::es) (k+1))=gv ds es:=by funext j;simp [gv]
theorem CW{b:Bool}:∀{ds es:List D},cy ds es=some b->ix (gv ds es) (λ _=>b) (decide (ds.length < es.length)) (min ds.length es.length) 0=b
 | [],es,h=>by
  rw [cy] at h;simp only [eL,Nat.zero_min,ix];exact hn.inj h
 | _::_,[],h=>by
  rw [cy] at h;simp only [eL,Nat.min_zero,ix];cases h;simp
 | d::ds,e::es,h=>by
  rw [cy] at h;rw [bR,bR,Nat.succ_min_succ,ix,Kd,Ke,show gv (d::ds) (e::es) 0=cm d e from rfl];by_cases c:cm d e=true
  ·rw [if_pos c] at h ⊢;have z:=CW h;simpa using z
  ·rw [if_neg c]
theorem CY{b:Bool}:∀{ds es:List D}{j:Nat},cy ds es=some b->j < ds.length->j < es.length->(∀ i,i < j->gv ds es i=true)->gv ds es j=false->∃ d e,ds[j]?=some d/\es[j]?=some e/\cg d e=some b
 | [],_,_,_,h,_,_,_=>by simp at h
 | _::_,[],_,_,_,h,_,_=>by simp at h
 | d::ds,e::es,0,h,_,_,_,cD=>by
  rw [cy,if_neg (by rw [show cm d e=false from cD];decide)] at h;exact ⟨d,e,rfl,rfl,h⟩
 | d::ds,e::es,j+1,h,ae,ag,av,cD=>by
  rw [cy,if_pos (show cm d e=true from av 0 (by omega))] at h;have aC:=Ke d e ds es;obtain ⟨d',bV,g1,g2,g3⟩:=CY (ds:=ds) (es:=es) (j:=j) h (by simpa using ae) (by simpa using ag) (λ i fm=>by rw [<- aC];exact av (i+1) (by omega)) (by rw [<- aC];exact cD);exact ⟨d',bV,g1,g2,g3⟩
section
variable{X:aW}{pins:List (Addr × Obj)}{σ:L2.St}{H:aw}{s:aE}
mutual
theorem Kf(I:Inv X pins σ H s):∀(d e:D)(b:Bool)(A:cz)(x y:V)(u v:Value),d.data=true->e.data=true->dj X.K H d x->dj X.K H e y->RelV x u->RelV y v->A.units+d.bC < dC->cg d e=some b->nK A s u v b
 | .tup ds,e,b,A,x,y,u,v,hd,he,aQ,a5,c5,a6,a_,af=>by
  obtain ⟨es,rfl⟩:∃ es,e=.tup es:=by cases e<;>first | exact ⟨_,rfl⟩ | (simp [cg] at af)
  obtain ⟨a,vs,rfl,s1,aT⟩:=aQ;cases c5;obtain ⟨az,b2,t1,_⟩:=I.tuple s1;obtain ⟨a2,us,rfl,s2,a0⟩:=a5;cases a6;obtain ⟨cq,dy,dz,_⟩:=I.tuple s2;have bD:=b2.length;have b5:=dy.length;have iO:=aT.len;have jd:=a0.len;rw [cg] at af;simp only [D.bC] at a_;simp only [D.data] at hd he
  have z:=nK.tuples (A:=A) (e:=gv ds es) (c:=λ _=>b) t1 dz (by omega) (λ j ae ag=>by
   have q:=oP I ds es A.in1 vs us az cq hd he aT a0 b2 dy (by show A.units+1+cc ds < dC;omega) j (by simpa using ae) (by simpa using ag)
   simpa using q) (λ j ae ag av cD=>by
   have ey:j < az.length:=by simpa using ae
   have hQ:j < cq.length:=by simpa using ag
   obtain ⟨d,e,g1,g2,g3⟩:=CY af (by omega) (by omega) av cD;have q:=CZ I ds es A.in1 vs us az cq hd he aT a0 b2 dy (by show A.units+1+cc ds < dC;omega) j ey hQ d e b g1 g2 g3
   simpa using q)
  have oQ:ix (gv ds es) (λ _=>b) (decide (az.toArray.size < cq.toArray.size)) (min az.toArray.size cq.toArray.size) 0=b:=by
   rw [cM,cM,<- bD,<- b5,iO,jd];exact CW af
  rw [oQ] at z;exact z
 | .int i,e,b,A,x,y,u,v,_,_,aQ,a5,c5,a6,_,af=>by
  obtain ⟨j,rfl⟩:∃ j,e=.int j:=by cases e<;>first | exact ⟨_,rfl⟩ | (simp [cg] at af)
  cases aQ;cases a5;obtain ⟨t,rfl⟩:=c5;obtain ⟨t',rfl⟩:=a6;rw [cg] at af;cases af;exact λ prog w E Q h=>PyProof.Rows.lt_int h
 | .str i,e,b,A,x,y,u,v,_,_,aQ,a5,c5,a6,_,af=>by
  obtain ⟨j,rfl⟩:∃ j,e=.str j:=by cases e<;>first | exact ⟨_,rfl⟩ | (simp [cg] at af)
  cases aQ;cases a5;obtain ⟨t,rfl⟩:=c5;obtain ⟨t',rfl⟩:=a6;rw [cg] at af;cases af;exact λ prog w E Q h=>PyProof.Rows.lt_str h
 | .a9,e,b,A,x,y,u,v,_,_,_,_,_,_,_,af=>by simp [cg] at af
 | .aI _,e,b,A,x,y,u,v,_,_,_,_,_,_,_,af=>by simp [cg] at af
 | .ref _,e,b,A,x,y,u,v,h,_,_,_,_,_,_,_=>by simp [D.data] at h
 | .ty _,e,b,A,x,y,u,v,h,_,_,_,_,_,_,_=>by simp [D.data] at h
 | .d7 _,e,b,A,x,y,u,v,h,_,_,_,_,_,_,_=>by simp [D.data] at h
theorem CZ(I:Inv X pins σ H s):∀(ds es:List D)(A:cz)(vs us:List V)(az cq:List Value),c3 ds=true->c3 es=true->bM X.K H ds vs->bM X.K H es us->Vals vs az->Vals us cq->A.units+cc ds < dC →
 ∀ j (ae:j < az.length) (ag:j < cq.length) d e b,ds[j]?=some d->es[j]?=some e->cg d e=some b->nK A s az[j] cq[j] b
 | [],es,A,vs,us,az,cq,_,_,_,_,_,_,_,j,ae,ag,d,e,b,g1,_,_=>by cases g1
 | _::_,[],A,vs,us,az,cq,_,_,_,_,_,_,_,j,ae,ag,d,e,b,_,g2,_=>by cases g2
 | hM::ds,b6::es,A,vs,us,az,cq,hd,he,⟨v,r,e,q,t⟩,⟨nu,bp,bV,gT,t'⟩,b2,dy,a_,j,ae,ag,eS,aC,b,g1,g2,g3=>by
  subst e bV
  cases b2 with
  | cons aT rt=>
   cases dy with
   | cons a0 oR=>
    simp only [cc] at a_;simp only [c3,fe] at hd he
    cases j with
    | zero=>
     cases g1;cases g2;exact Kf I hM b6 b A _ _ _ _ hd.1 he.1 q gT aT a0 (by omega) g3
    | succ j=>
     have z:=CZ I ds es A _ _ _ _ hd.2 he.2 t t' rt oR (by omega) j (by simpa using ae) (by simpa using ag) eS aC b g1 g2 g3;simpa using z
end
end
end L3
namespace L2
open PySem PySem.W PyProof.Rows
def gw(n:Nat){α:Type}(P:α->Prop):KasT α->Prop
 | .ret a=>P a
 | .ask i j k=>i < n/\j < n/\∀ b,gw n P (k b)
theorem gw.mono{n:Nat}{α:Type}{P R:α->Prop}(h:∀ a,P a->R a):∀{t:KasT α},gw n P t->gw n R t
 | .ret a,g=>h a g
 | .ask _ _ k,g=>⟨g.1,g.2.1,λ b=>gw.mono h (g.2.2 b)⟩
theorem gw.bind{n:Nat}{α β:Type}{P:α->Prop}{R:β->Prop}{f:α->KasT β}(h:∀ a,P a->gw n R (f a)):∀{t:KasT α},gw n P t->gw n R (t.bind f)
 | .ret a,g=>h a g
 | .ask _ _ k,g=>⟨g.1,g.2.1,λ b=>gw.bind h (g.2.2 b)⟩
theorem gw.wp{n:Nat}{α:Type}{P:α->Prop}{cmp:Nat->Nat->(Bool->aE->Prop)->aE->Prop}{G:α->aE->Prop}{s:aE}{lt:Nat->Nat->Bool}(ai:∀ i j C,i < n->j < n->C (lt i j) s->cmp i j C s)(wl:∀ a,P a->G a s):∀{t:KasT α},gw n P t->t.kasWp cmp G s
 | .ret a,g=>wl a g
 | .ask i j k,g=>ai i j _ g.1 g.2.1 (gw.wp ai wl (g.2.2 _))
abbrev ea(n:Nat)(p:Array Nat):Prop:=p.toList.Perm (hE n)
theorem hj{n:Nat}{p:Array Nat}(h:ea n p)(aH:0 < n)(k:Nat):p.getD k 0 < n:=by
 by_cases c:k < p.size
 ·have e:p.getD k 0=p[k]:=by simp [yo,c]
  rw [e];exact n3.mp (h.mem_iff.mp (ym.mpr (Array.getElem_mem c)))
 ·rw [show p.getD k 0=0 by simp [yo,c]];exact aH
theorem nM{n:Nat}{p:Array Nat}(h:ea n p)(i j:Nat):ea n (Uf p i j):=(Array.perm_iff_toList_perm.mp (mirror_perm p i j _)).trans h
theorem Kg{n:Nat}{p:Array Nat}(h:ea n p)(i j:Nat):ea n (sh p i j):=(Array.perm_iff_toList_perm.mp (bubble_perm p i j)).trans h
section
variable{n:Nat}(aH:0 < n)
include aH
theorem C0{p:Array Nat}(h:ea n p):∀ f m,gw n (λ _=>True) (kas_asc p f m)
 | 0,_=>trivial
 | f+1,m=>⟨hj h aH _,hj h aH _,λ b=>by cases b;exact C0 h f (m+1);exact trivial⟩
theorem zO:∀ f p m q,ea n p->gw n (λ r:Array Nat × Nat × Nat=>ea n r.1) (kas_desc f p m q)
 | 0,_,_,_,h=>h
 | f+1,p,m,q,h=>⟨hj h aH _,hj h aH _,λ b=>by
  cases b with
  | true=>
   by_cases c:q > 0
   ·simp only [if_true,if_pos c];exact zO f _ _ _ (nM h _ _)
   ·simp only [if_true,if_neg c];exact zO f _ _ _ h
  | false=>exact ⟨hj h aH _,hj h aH _,λ d=>by cases d;exact zO f _ _ _ h;exact h⟩⟩
theorem Kh{p:Array Nat}(h:ea n p)(m wm:Nat):gw n (λ r:Nat × Array Nat=>ea n r.2) (xW m wm p):=by
 unfold xW;exact gw.bind (R:=λ r:Nat × Array Nat=>ea n r.2) (λ _ _=>by exact nM h 0 m) (C0 aH (nM h 0 m) _ _)
theorem Ki{p:Array Nat}(h:ea n p)(m wm:Nat):gw n (λ r:Nat × Array Nat=>ea n r.2) (kas_descPart m wm p):=by
 refine gw.bind (λ r ao=>?_) (zO aH _ _ _ _ h);split
 ·exact Kh aH (nM ao _ _) _ _
 ·exact Kh aH ao _ _
theorem U1{p:Array Nat}(h:ea n p)(wm:Nat):gw n (λ r:Nat × Array Nat=>ea n r.2) (kas_count wm p):=by
 refine gw.bind (λ m _=>?_) (C0 aH h _ _);split
 ·exact h
 ·split
  ·exact ⟨hj h aH _,hj h aH _,λ b=>by cases b;exact Ki aH (nM h _ _) _ _;exact h⟩
  ·exact Ki aH h _ _
theorem C1{p:Array Nat}(h:ea n p)(k:Nat):∀ f l r,gw n (λ _=>True) (xX p k f l r)
 | 0,_,_=>trivial
 | f+1,l,r=>by
  rw [xX];split
  ·exact trivial
  ·exact ⟨hj h aH _,hj h aH _,λ b=>by cases b;exact C1 h k f _ _;exact C1 h k f _ _⟩
theorem Kj:∀ f p k,ea n p->gw n (ea n) (kas_bin f p k)
 | 0,_,_,h=>h
 | f+1,_,k,h=>gw.bind (λ _ _=>Kj f _ _ (Kg h _ _)) (C1 aH h k _ _ _)
theorem U2:gw n (ea n) (kas_sort n):=by
 refine gw.bind (λ r ao=>?_) (U1 aH (p:=x8 (hE n)) (by exact .refl _) n);split
 ·exact Kj aH _ _ _ ao
 ·exact ao
end
theorem U3{vs:List Value}{p:Array Nat}(h:ea vs.length p):(p.toList.map λ i=>vs.getD i Value.none).Perm vs:=by
 have e:(hE vs.length).map (λ i=>vs.getD i Value.none)=vs:=by
  apply uN
  ·simp
  ·intro i ae ag;simp [i0,fv ag]
 have:=h.map (λ i=>vs.getD i Value.none)
 rwa [e] at this
abbrev jf(h:bE)(a:Addr)(vs:List Value):bE:=((h.update a (Obj.mapSeq λ _=>#[])).push (gS "tuple" vs.toArray 0)).push (gS "list" #[] 0)
section
variable{prog:cL}{w:b8}{A:cz}{E:Value->aE->Prop}{s:aE}
theorem U4{a:Addr}{vs:List Value}{n:Nat}{κ:n2}{lt:Nat->Nat->Bool}{P:PySem.Fin->aE->Prop}(aS:s.heap.get? a=some (gS "list" vs.toArray n))(rq:vs.length < 64)
 (aN:2<=vs.length->∀ Q:n2->aE->Prop,Q κ { s with heap:=jf s.heap a vs }->aU (aY prog w) A (uH vs.toArray) Q E { s with heap:=jf s.heap a vs })
 (ai:∀ i j C,i < vs.length->j < vs.length->C (lt i j) { s with heap:=jf s.heap a vs }->si prog w A κ vs i j C { s with heap:=jf s.heap a vs })
 (h:∀ out:List Value,out.Perm vs->P (.done (.ret .none)) { s with heap:=sortedHeap s.heap a vs out.toArray }) :
 aU (aY prog w) A (Builtin.«list.sort» ⟨[.ref a],[]⟩) P E s:=by
 rw [list_sort_plain];have ax:a < s.heap.objs.size:=dc aS;refine aA (listItems_at aS rfl ?_);refine aA (sf aS rfl ?_ (hsz:=by rw [cM,hC];omega))
 obtain ⟨aC,wn⟩:∃ aC,(s.heap.update a (Obj.mapSeq λ _=>#[])).get? a=some (gS "list" #[] aC):=⟨_,get?_update_seq aS (λ _=>#[])⟩
 refine aA (sg wn rfl ?_);refine aA (xM ?_);refine aA (xO ?_);refine jn ?_
 have oS:(jf s.heap a vs).get? a=some (gS "list" #[] aC):=by
  rw [WP _ _ _ (by rw [xU,sI];exact eO (Nat.lt_succ_of_lt ax)),WP _ _ _ (by rw [sI];exact eO ax)];exact wn
 show aU (aY prog w) A _ P E { s with heap:=jf s.heap a vs }
 dsimp only
 have hsz:vs.toArray.size=vs.length:=by simp
 by_cases ag:vs.toArray.size < 2
 ·rw [if_pos ag,if_pos ag];refine aA (br ?_);rw [StateT.run_pure];refine aA (br ?_)
  dsimp only
  refine aA (sg oS rfl ?_)
  have j8:(arrOf (SortSt.mk' general' (vs.toArray.zip vs.toArray) #[] 7 none)).map (·.2)=vs.toArray:=by
   show (vs.toArray.zip vs.toArray).map (·.2)=vs.toArray;apply yp.mp;rw [Array.toList_map,Array.toList_zip,List.map_snd_zip (ZB _)]
  rw [j8];refine aA (sf oS rfl ?_ (hsz2:=by show vs.toArray.size<=_;rw [hsz,hC];omega));simp only [bne_self_eq_false,sD,if_false];exact br (h vs (.refl _))
 ·rw [if_neg ag,if_neg ag]
  have hb:2<=vs.length:=by omega
  refine aA (aN hb _ ?_)
  refine aA (gC (kat_run (ks:=vs) (vs:=vs) (Q:=λ dO aM=>aM={ s with heap:=jf s.heap a vs }/\failedOf dO=none/\∃ out:List Value,out.Perm vs/\(arrOf dO).map (·.2)=out.toArray) (G:=λ p aM=>aM={ s with heap:=jf s.heap a vs }/\ea vs.length p) rfl hb rq (λ p dO aM _ C2 hf g=>⟨g.1,hf,_,U3 g.2,kat_snds rfl C2⟩)
   (gw.wp ai (λ p ah=>⟨rfl,ah⟩) (U2 (by omega)))) ?_ λ _ _ e=>e)
  rintro ⟨⟨⟩,dO⟩ aM ⟨rfl,hf,out,ah,j8⟩
  dsimp only at j8 ⊢
  rw [j8];refine aA (sg oS rfl ?_);refine aA (sf oS rfl ?_ (hsz2:=by show out.toArray.size<=_;rw [cM,ah.length_eq,hC];omega));rw [hf];simp only [bne_self_eq_false,sD,if_false];exact br (h out ah)
end
abbrev mL(h:bE)(vs:List Value):bE:=jf (((h.push (gS "list" #[] 0)).update h.objs.size (Obj.mapSeq (·++vs.toArray))).push (gS "list" vs.toArray 0)) (h.objs.size+1) vs
section
variable{prog:cL}{w:b8}{A:cz}{E:Value->aE->Prop}{s:aE}
theorem Kk{l:Addr}{vs:List Value}{κ:n2}{lt:Nat->Nat->Bool}{Q:Value->aE->Prop}(ar:s.heap.IsList l vs.toArray)(rq:vs.length < 64)
 (aN:2<=vs.length->∀(A:cz)(E:Value->aE->Prop)(R:n2->aE->Prop),R κ { s with heap:=mL s.heap vs }->aU (aY prog w) A (uH vs.toArray) R E { s with heap:=mL s.heap vs })
 (ai:∀(lj:cz) i j C,lj.units<=A.units+5->i < vs.length->j < vs.length->C (lt i j) { s with heap:=mL s.heap vs }->si prog w lj κ vs i j C { s with heap:=mL s.heap vs })
 (h:∀ out:List Value,out.Perm vs->Q (.ref (s.heap.objs.size+1)) { s with heap:=xV s.heap vs out.toArray }) :
 aU (aY prog w) A (call (.builtin "sorted") [.ref l]) Q E s:=by
 refine Calls.call_function_entry kind_sorted plain_sorted entry_sorted (args_sorted1 _) ?_;unfold Builtin.«sorted»;refine aA (m:=checkCount "sorted" 1 1 _) (br ?_);refine aA (collect_list ar ?_ (hsz:=by rw [hC];omega));refine aA (xO ?_)
 have hsz:((s.heap.push (gS "list" #[] 0)).update s.heap.objs.size (Obj.mapSeq (·++vs.toArray))).objs.size=s.heap.objs.size+1:=by
  rw [sI,xU]
 have qP:(((s.heap.push (gS "list" #[] 0)).update s.heap.objs.size (Obj.mapSeq (·++vs.toArray))).push (gS "list" vs.toArray 0)).get? (s.heap.objs.size+1)=some (gS "list" vs.toArray 0):=by
  rw [<- hsz];exact f7 _ rfl
 show aU _ _ _ _ _ { s with heap:=((s.heap.push (gS "list" #[] 0)).update s.heap.objs.size (Obj.mapSeq (·++vs.toArray))).push (gS "list" vs.toArray 0) };rw [hsz];refine aA (jn (kg slot_list_sort ⟨_,qP,rfl⟩ entry_list_sort (U4 (κ:=κ) (lt:=lt) qP rq (λ ag R hi=>aN ag _ _ R hi) (λ i j C av cD gW=>ai _ i j C ?_ av cD gW) λ out ah=>⟨_,rfl,?_⟩) (args_list_sort _)))
 ·show A.units+1+1<=A.units+5;omega
 exact br ⟨_,rfl,h out ah⟩
end
end L2
namespace L3
open PySem PySem.Spec PySem.W PyProof.Rows L2
section
variable{X:aW}{pins:List (Addr × Obj)}{σ:L2.St}{H:aw}{s:aE}
theorem Kl(I:Inv X pins σ H s){prog:cL}{w:b8}{A:cz}{b fin r:Bool}{Q:Bool->aE->Prop}(q:Q r s):∀(ds es:List D)(vs us:List V)(az cq:List Value)(i:Nat),0 < i->c3 ds=true->c3 es=true->bM X.K H ds vs->bM X.K H es us->Vals vs az->Vals us cq->A.units+cc ds < dC->cy ds es=some r->fin=decide (ds.length < es.length)->KatLex prog w A b fin Q (az.zip cq) i s
 | [],es,vs,us,az,cq,i,_,_,_,e,_,b2,_,_,h,hf=>by
  rw [show vs=[] from e] at b2;cases b2;rw [cy] at h
  have aC:fin=r:=by rw [hf];exact hn.inj h
  exact kat_nil (by rw [aC];exact q)
 | _::_,[],vs,us,az,cq,i,_,_,_,_,e,_,dy,_,h,hf=>by
  rw [show us=[] from e] at dy;cases dy;rw [cy] at h
  have aC:fin=r:=by rw [hf];cases h;simp
  rw [List.zip_nil_right];exact kat_nil (by rw [aC];exact q)
 | d::ds,e::es,vs,us,az,cq,i,av,hd,he,⟨v,aT,aC,aF,t1⟩,⟨nu,afd,B1,Km,tq⟩,b2,dy,a_,h,hf=>by
  subst aC B1
  cases b2 with
  | cons a1 rt=>
   cases dy with
   | cons a2 oR=>
    simp only [cc] at a_;simp only [c3,fe] at hd he;rw [cy] at h;refine kat_cons (CO I d e A _ _ _ _ hd.1 he.1 aF Km a1 a2 (by omega) prog w _ _ ?_)
    cases c:cm d e with
    | true=>
     rw [if_pos c] at h;exact kat_yes (Kl I q ds es _ _ _ _ (i+1) (by omega) hd.2 he.2 t1 tq rt oR (by omega) h (by rw [hf];simp))
    | false=>
     rw [if_neg (by rw [c];decide)] at h;refine kat_no ?_;rw [show (b&&i==0)=false by rw [show (i==0)=false from by simp;omega];simp];exact kat_one _ _ (Kf I d e r A _ _ _ _ hd.1 he.1 aF Km a1 a2 (by omega) h prog w _ _ q)
theorem U5(I:Inv X pins σ H s){prog:cL}{w:b8}{A:cz}{E:Value->aE->Prop}{r:Bool}{Q:Bool->aE->Prop}(q:Q r s){z b9:Str}{ds es:List D}{x y:V}{u v:Value}(hd:c3 ds=true)(he:c3 es=true)(aQ:dj X.K H (.tup (.str z::ds)) x)(a5:dj X.K H (.tup (.str b9::es)) y)(c5:RelV x u)(a6:RelV y v)
 (a_:A.units+cc ds < dC) (h:cg (.tup (.str z::ds)) (.tup (.str b9::es))=some r):aU (aY prog w) A (keyLt' (tuples' true) u v) Q E s:=by
 obtain ⟨a,vs,rfl,s1,aT⟩:=aQ;cases c5;obtain ⟨az,b2,t1,_⟩:=I.tuple s1;obtain ⟨a2,us,rfl,s2,a0⟩:=a5;cases a6;obtain ⟨cq,dy,dz,_⟩:=I.tuple s2;obtain ⟨o,aS,ai,n,C3⟩:=id t1;obtain ⟨cT,kv,jW,ck,U6⟩:=id dz;rw [cg,cy] at h;obtain ⟨v,bp,aC,aF,tq⟩:=aT;obtain ⟨v2,J8,aG,bo,Kn⟩:=a0;subst aC aG;cases aF;cases bo
 cases b2 with
 | cons a1 rt=>
  cases dy with
  | cons oC oR=>
   obtain ⟨t,rfl⟩:=a1;obtain ⟨t',rfl⟩:=oC;have bD:=rt.length;have b5:=oR.length;have iO:=tq.len;have jd:=Kn.len;refine kat_lt aS C3 kv U6 ?_;refine kat_cons (CO I (.str z) (.str b9) A _ _ _ _ rfl rfl rfl rfl ⟨t,rfl⟩ ⟨t',rfl⟩ (by simp only [D.bC];omega) prog w _ _ ?_)
   cases c:cm (.str z) (.str b9) with
   | true=>
    rw [if_pos c] at h;exact kat_yes (Kl I q ds es _ _ _ _ 1 (by omega) hd he tq Kn rt oR a_ h (by simp;omega))
   | false=>
    rw [if_neg (by rw [c];decide),cg] at h;cases h;exact kat_no (oneLt_str q)
end
def C4(d:D):Prop:=∃ z r,d=.tup (.str z::r)/\c3 r=true/\cc r<=150
section
variable{X:aW}{pins:List (Addr × Obj)}{σ:L2.St}{H:aw}{s:aE}
theorem Ko(I:Inv X pins σ H s):∀(ds:List D)(vs:List V)(az:List Value),(∀ d∈ds,C4 d)->bM X.K H ds vs->Vals vs az->∃ aK,KatTups s.heap az aK/\aK.length=az.length/\∀ v∈aK,∃ z t,v=Value.str z t
 | [],vs,az,_,e,b2=>by
  rw [show vs=[] from e] at b2;cases b2;exact ⟨[],.nil,rfl,by simp⟩
 | d::ds,vs,az,ap,⟨v,aT,aC,aF,t1⟩,b2=>by
  subst aC
  cases b2 with
  | cons a1 rt=>
   obtain ⟨aK,k1,k2,k3⟩:=Ko I ds _ _ (λ d h=>ap d (bY _ h)) t1 rt;obtain ⟨z,r,rfl,-,-⟩:=ap d (bT ..);obtain ⟨a,zP,rfl,s1,a0⟩:=aF;cases a1;obtain ⟨its',U7,tq,_⟩:=I.tuple s1;obtain ⟨v2,hH,aG,bo,-⟩:=a0;subst aG;cases bo;obtain ⟨o,aS,ai,n,C3⟩:=id tq
   cases U7 with
   | cons a2 oR=>
    obtain ⟨t,rfl⟩:=a2
    exact ⟨_::aK,.cons aS ai C3 rfl k1,by simp [k2],λ v bO=>by
     rcases cC.mp bO with rfl | bO
     ·exact ⟨z,t,rfl⟩
     ·exact k3 v bO⟩
theorem U8(I:Inv X pins σ H s){M:lx}{A:cz}{E:Value->aE->Prop}{ds:List D}{vs:List V}{az:List Value}{R:n2->aE->Prop}(ap:∀ d∈ds,C4 d)(ax:bM X.K H ds vs)(b2:Vals vs az)(aH:0 < az.length)(h:R (tuples' true) s):aU M A (uH az.toArray) R E s:=by
 obtain ⟨aK,k1,k2,k3⟩:=Ko I ds vs az ap ax b2;refine kat_kind (T:=.type "str") k1 (by omega) (λ v bO=>?_) rfl h;obtain ⟨z,t,rfl⟩:=k3 v bO;exact Looks.of_pure rfl
end
theorem Kp{h:bE}{vs:List Value}{b:Addr}{o:Obj}(af:h.get? b=some o):(mL h vs).get? b=some o:=by
 have Kq:b < h.objs.size:=dc af;have ae:(h.push (gS "list" #[] 0)).get? b=some o:=cP _ af
 have ag:((h.push (gS "list" #[] 0)).update h.objs.size (Obj.mapSeq (·++vs.toArray))).get? b=some o:=by
  rw [u2 _ _ _ _ (eO Kq)];exact ae
 have aR:=cP (gS "list" vs.toArray 0) ag;refine cP _ (cP _ ?_);rw [u2 _ _ _ _ (show b≠h.objs.size+1 from eO (Nat.lt_succ_of_lt Kq))];exact aR
inductive zQ where
 | is (n:Int)
 | some
 | both (a b:zQ)
def Tm.Kr:Tm->zQ
 | .whole n=>.is n
 | .pair a b=>.both a.Kr b.Kr
 | _=>.some
def Tm.afe:Tm->List zQ->zQ
 | .whole n,_=>.is n
 | .pair _ _,[x,y]=>.both x y
 | _,_=>.some
inductive bx:D->Prop
 | is (n:Int):bx (.tup [.str "is", .int n])
 | some:bx (.tup [.str "some"])
 | both {a b:D}:bx a->bx b->bx (.tup [.str "both", a,b])
 | left {a:D}:bx a->bx (.tup [.str "left", a])
 | right {a:D}:bx a->bx (.tup [.str "right", a])
 | way {ds:List D} {k:D}:(∀ d∈ds,bx d)->bx k->bx (.tup [.str "way", .tup ds,k])
theorem p6:∀{ds:List D},(∀ d∈ds,d.data=true)->c3 ds=true
 | [],_=>rfl
 | d::ds,h=>by rw [c3,h d (bT ..),p6 λ e he=>h e (bY _ he)];rfl
theorem bx.data{d:D}(h:bx d):d.data=true:=by
 induction h with
 | is n=>rfl
 | some=>rfl
 | both _ _ ae ag=>simp only [D.data,c3,ae,ag];rfl
 | left _ ae=>simp only [D.data,c3,ae];rfl
 | right _ ae=>simp only [D.data,c3,ae];rfl
 | way _ _ ae ag=>simp only [D.data,c3,p6 ae,ag];rfl
theorem Ks:∀{ds es:List D},(∀ d∈ds,∀ e∈es,(cg d e).isSome=true)->(cy ds es).isSome=true
 | [],_,_=>by rw [cy];rfl
 | _::_,[],_=>by rw [cy];rfl
 | d::ds,e::es,h=>by
  rw [cy];split
  ·exact Ks λ d hd e he=>h d (bY _ hd) e (bY _ he)
  ·exact h d (bT ..) e (bT ..)
theorem rr{z b9:Str}{ds es:List D}(h:z=b9->(cy ds es).isSome=true):(cg (.tup (.str z::ds)) (.tup (.str b9::es))).isSome=true:=by
 rw [cg,cy];split
 ·next c=>exact h (by simpa [cm] using c)
 ·rw [cg];rfl
theorem ru{a b:D}{ds es:List D}(h:(cg a b).isSome=true)(ag:(cy ds es).isSome=true):(cy (a::ds) (b::es)).isSome=true:=by
 rw [cy];split
 ·exact ag
 ·exact h
theorem bx.lt{d:D}(h:bx d):∀{e:D},bx e->(cg d e).isSome=true:=by
 induction h with
 | is n=>intro e he;cases he<;>refine rr λ c=>?_<;>first | (exact absurd c (by decide)) | (exact ru rfl rfl)
 | some=>intro e he;cases he<;>refine rr λ c=>?_<;>first | (exact absurd c (by decide)) | rfl
 | both _ _ ae ag=>intro e he;cases he<;>refine rr λ c=>?_<;>first | (exact absurd c (by decide)) | exact ru (ae ‹_›) (ru (ag ‹_›) rfl)
 | left _ ae=>intro e he;cases he<;>refine rr λ c=>?_<;>first | (exact absurd c (by decide)) | exact ru (ae ‹_›) rfl
 | right _ ae=>intro e he;cases he<;>refine rr λ c=>?_<;>first | (exact absurd c (by decide)) | exact ru (ae ‹_›) rfl
 | way _ _ ae ag=>
  intro e he
  cases he with
  | way g1 g2=>exact rr λ _=>ru (by rw [cg];exact Ks λ d hd e he=>ae d hd (g1 e he)) (ru (ag g2) rfl)
  | _=>exact rr λ c=>absurd c (by decide)
theorem bx.C5{d:D}(h:bx d)(hd:d.bC<=150):C4 d:=by
 have ak:=h.data;cases h<;>exact ⟨_,_,rfl,by simpa [D.data,c3] using ak,by simp only [D.bC,cc] at hd ⊢;omega⟩
def g5(d:D):Bool:=match d with
 | .tup (.str z::_)=>z=="is"||z=="some"||z=="both"
 | _=>false
theorem bx.head{d:D}(h:bx d):∃ z r,d=.tup (.str z::r)/\r.length<=2:=by
 cases h<;>exact ⟨_,_,rfl,by simp⟩
theorem U9{ds:List D}{i:Int}{G:aP}{Q:cJ}(h0:0<=i)(ae:i < ds.length)(h:∀ d∈ds,Q d G):atS ds i G Q:=by
 obtain ⟨n,rfl⟩:∃ n:Nat,i=n:=⟨i.toNat,by omega⟩
 have ar:n < ds.length:=by omega
 exact wi (vU (d:=ds[n]) (k4 (fv ar)) (h _ (jJ ar)))
theorem Kt{α:Type}(a:Addr)(ti:α->D)(P:α->Prop){J:kE}{aB:aP}{g:gM}{aZ:cn}{nt:Nat}{cap:List Nat}{ρ:eB}{Q:cJ}(hz:J.items.length<=1000)(held:∀ G,J.held G)(c2:h6 aB a)
 (turn:∀ d G (R:cJ),h6 G a->(∀ x au,(∃ bS,e0 a G bS/\Sub bS au)->P x->R (ti x) au)->g d (mK nt cap ρ) G λ ρ3 em=>aZ ρ3 em R)
 (q:∀(xs:List α) au,xs.length=J.items.length->(∀ x∈xs,P x)->e0 a aB au->∀ p,au p=none->Q (.ref p) (up au p (.lst (xs.map ti)))):rm g aZ nt cap ρ Q J aB:=by
 refine JT (λ i ds au=>∃ xs:List α,ds=xs.map ti/\xs.length=i/\(∀ x∈xs,P x)/\e0 a aB au) (iw (by omega)) ⟨[],rfl,rfl,by simp,.refl c2⟩ (λ _ _ _ _ _=>held _) ?_ ?_
 ·rintro i d ds au hd ⟨xs,rfl,mM,ak,u⟩
  refine turn d au _ u.fd λ x bf ⟨bS,du,s2⟩ ah=>⟨bS,s2,xs++[x],by simp,by simp [mM],λ y bv=>?_,u.trans du⟩
  rcases fc.mp bv with bv | bv
  ·exact ak y bv
  ·simp at bv;subst bv;exact ah
 ·rintro ds au ⟨xs,rfl,mM,ak,u⟩ p ah;exact q xs au mM ak u p ah
theorem zR{n:Nat}:∀{ds:List D},(∀ d∈ds,d.bC<=n)->cc ds<=n
 | [],_=>ef _
 | d::ds,h=>by
  have ae:=h d (bT ..);have ag:=zR λ e he=>h e (bY _ he);rw [cc];omega
theorem Ku(z:Str):lR (.str z) [.str "is", .str "some", .str "both"]=(z=="is"||z=="some"||z=="both"):=by
 have e:∀ a b:Str,(a==b)=(b==a):=λ a b=>by rw [pF,beq_iff_eq,beq_iff_eq];exact eq_comm
 simp only [lR,sk,List.any_nil,zt,Bool.or_false];rw [e "is" z,e "some" z,e "both" z,Bool.or_assoc]
theorem U_{ds:List D}{x:D}{i:Nat}{P:D->Prop}(h:∀ d∈ds,P d)(ak:P x):∀ d∈ds.set i x,P d:=λ d hd=>by
 rcases List.mem_or_eq_of_mem_set hd with ae | rfl
 ·exact h d ae
 ·exact ak
theorem zS{a:Addr}{G aB bS eo:aP}(h:∀ b o,b≠a->G b=some o->aB b=some o)(u:e0 a aB bS)(s:Sub bS eo):∃ bS,e0 a G bS/\Sub bS eo:=by
 obtain ⟨x,y,rfl⟩:=u;refine ⟨_,.mk (x:=x) (y:=y),λ b o e=>?_⟩;by_cases c:b=a
 ·subst c;rw [bU] at e;exact s _ _ (by rw [bU];exact e)
 ·rw [dU c] at e;exact s _ _ (by rw [dU c];exact h b o c e)
end L3
namespace L2
open PySem PySem.W PyProof.Rows
def fW(n:Nat)(lt:Nat->Nat->Bool){α:Type}(P:α->Prop):KasT α->Prop
 | .ret a=>P a
 | .ask i j k=>i < n/\j < n/\fW n lt P (k (lt i j))
theorem fW.bind{n:Nat}{lt:Nat->Nat->Bool}{α β:Type}{P:α->Prop}{R:β->Prop}{f:α->KasT β}(h:∀ a,P a->fW n lt R (f a)):∀{t:KasT α},fW n lt P t->fW n lt R (t.bind f)
 | .ret a,g=>h a g
 | .ask _ _ k,g=>⟨g.1,g.2.1,fW.bind h g.2.2⟩
theorem fW.mono{n:Nat}{lt:Nat->Nat->Bool}{α:Type}{P R:α->Prop}(h:∀ a,P a->R a):∀{t:KasT α},fW n lt P t->fW n lt R t
 | .ret a,g=>h a g
 | .ask _ _ k,g=>⟨g.1,g.2.1,fW.mono h g.2.2⟩
theorem fW.wp{n:Nat}{α:Type}{P:α->Prop}{cmp:Nat->Nat->(Bool->aE->Prop)->aE->Prop}{G:α->aE->Prop}{s:aE}{lt:Nat->Nat->Bool}(ai:∀ i j C,i < n->j < n->C (lt i j) s->cmp i j C s)(wl:∀ a,P a->G a s):∀{t:KasT α},fW n lt P t->t.kasWp cmp G s
 | .ret a,g=>wl a g
 | .ask i j k,g=>ai i j _ g.1 g.2.1 (fW.wp ai wl g.2.2)
structure zT(lt:Nat->Nat->Bool):Prop where
 iy:∀ a,lt a a=false
 neg:∀ a b c,lt a b=false->lt b c=false->lt a c=false
 tr:∀ a b,lt a b=true->lt b a=false
abbrev gt(p:Array Nat)(i:Nat):Nat:=p.getD i 0
def hv(lt:Nat->Nat->Bool)(p:Array Nat)(k:Nat):Prop:=∀ i j,i < j->j < k->lt (gt p j) (gt p i)=false
def oT(lt:Nat->Nat->Bool)(p:Array Nat)(k:Nat):Prop:=∀ i j,i < j->j < k->lt (gt p i) (gt p j)=false
theorem wo{p q:Array Nat}{i j:Nat}(h:p[i]?=q[j]?):gt p i=gt q j:=by
 unfold gt;rw [Array.getD_eq_getD_getElem?,Array.getD_eq_getD_getElem?,h]
section
variable{n:Nat}(aH:0 < n){lt:Nat->Nat->Bool}(O:zT lt)
include aH O
theorem Kv{p:Array Nat}{m:Nat}(hm:1<=m)(h:hv lt p m)(c:lt (gt p m) (gt p (m - 1))=false):hv lt p (m+1):=λ i j jw cD=>by
 by_cases e:j=m
 ·subst e;by_cases aG:i=j - 1
  ·subst aG;exact c
  ·exact O.neg _ _ _ c (h i (j - 1) (by omega) (by omega))
 ·exact h i j jw (by omega)
theorem Kw{p:Array Nat}(ah:ea n p):∀ f m,1<=m->hv lt p m->fW n lt (λ r=>hv lt p r/\m<=r/\r<=m+f) (kas_asc p f m)
 | 0,m,_,h=>⟨h,ZB _,by omega⟩
 | f+1,m,hm,h=>by
  refine ⟨hj ah aH _,hj ah aH _,?_⟩
  cases c:lt (p.getD m 0) (p.getD (m - 1) 0) with
  | true=>exact ⟨h,ZB _,by omega⟩
  | false=>exact fW.mono (λ r ⟨ae,ag,aR⟩=>⟨ae,by omega,by omega⟩) (Kw ah f (m+1) (by omega) (Kv aH O hm h c))
theorem C6{p:Array Nat}(ah:ea n p){k:Nat}(aN:hv lt p k):∀ f l r,l<=r->r<=k->r - l<=f->(∀ i,i < l->lt (gt p k) (gt p i)=false)->(∀ i,r<=i->i < k->lt (gt p k) (gt p i)=true) →
 fW n lt (λ m=>m<=k/\(∀ i,i < m->lt (gt p k) (gt p i)=false)/\∀ i,m<=i->i < k->lt (gt p k) (gt p i)=true) (xX p k f l r)
 | 0,l,r,ae,ag,aR,bB,el=>by
  have e:l=r:=by omega
  subst e;exact ⟨ag,bB,el⟩
 | f+1,l,r,ae,ag,aR,bB,el=>by
  rw [xX];split
  ·next c=>
   have e:l=r:=by omega
   subst e;exact ⟨ag,bB,el⟩
  ·next c=>
   refine ⟨hj ah aH _,hj ah aH _,?_⟩
   cases d:lt (p.getD k 0) (p.getD ((l+r) / 2) 0) with
   | true=>
    refine C6 ah aN f l ((l+r) / 2) (by omega) (by omega) (by omega) bB λ i av Kx=>?_;by_cases e:i=(l+r) / 2
    ·subst e;exact d
    ·have z:=aN ((l+r) / 2) i (by omega) Kx
     cases w:lt (gt p k) (gt p i) with
     | true=>rfl
     | false=>exact absurd d (by rw [O.neg _ _ _ w z];decide)
   | false=>
    refine C6 ah aN f ((l+r) / 2+1) r (by omega) (by omega) (by omega) (λ i av=>?_) el;by_cases e:i=(l+r) / 2
    ·subst e;exact d
    ·exact O.neg _ _ _ d (aN i ((l+r) / 2) (by omega) (by omega))
theorem Va{p:Array Nat}{k m:Nat}(ap:k < p.size)(hm:m<=k)(h:hv lt p k)(bB:∀ i,i < m->lt (gt p k) (gt p i)=false)(el:∀ i,m<=i->i < k->lt (gt p k) (gt p i)=true):hv lt (sh p k (k - m)) (k+1):=by
 have e:∀ i,gt (sh p k (k - m)) i=if i=m then gt p k else if m < i/\i<=k then gt p (i - 1) else gt p i:=λ i=>by
  have z:=getElem?_bubble ap (k - m) (by omega) i;rw [show k - (k - m)=m by omega] at z;by_cases c:i=m
  ·rw [if_pos c] at z ⊢;exact wo z
  ·rw [if_neg c] at z ⊢;by_cases d:m < i/\i<=k
   ·rw [if_pos d] at z ⊢;exact wo z
   ·rw [if_neg d] at z ⊢;exact wo z
 intro i j jw cD
 have low:∀ i,i < m->gt (sh p k (k - m)) i=gt p i:=λ i av=>by rw [e i,if_neg (by omega),if_neg (by omega)]
 have mid:gt (sh p k (k - m)) m=gt p k:=by rw [e m,if_pos rfl]
 have high:∀ i,m < i->i<=k->gt (sh p k (k - m)) i=gt p (i - 1):=λ i av aN=>by rw [e i,if_neg (by omega),if_pos ⟨av,aN⟩]
 rcases Nat.lt_trichotomy i m with bu | bu | bu
 ·rw [low i bu];rcases Nat.lt_trichotomy j m with bt | bt | bt
  ·rw [low j bt];exact h i j jw (by omega)
  ·rw [bt,mid];exact bB i bu
  ·rw [high j bt (by omega)];exact h i (j - 1) (by omega) (by omega)
 ·subst bu;rw [mid,high j jw (by omega)];exact O.tr _ _ (el (j - 1) (by omega) (by omega))
 ·rw [high i bu (by omega),high j (by omega) (by omega)];exact h (i - 1) (j - 1) (by omega) (by omega)
theorem Ky:∀ f (p:Array Nat) k,ea n p->k+f=n->hv lt p k->fW n lt (λ q=>ea n q/\hv lt q n) (kas_bin f p k)
 | 0,p,k,ah,he,h=>⟨ah,by rw [<- he];exact h⟩
 | f+1,p,k,ah,he,h=>by
  refine fW.bind (λ m ⟨ae,ag,aR⟩=>?_) (C6 aH O ah h k 0 k (by omega) (by omega) (by omega) (λ i av=>by omega) (λ i av Kx=>by omega))
  have hsz:p.size=n:=by
   have:=ah.length_eq;simpa using this
  exact Ky f _ (k+1) (Kg ah _ _) (by omega) (Va aH O (by omega) ae h ag aR)
omit aH O in
theorem wq{p:Array Nat}(h:ea n p):p.size=n:=by
 have:=h.length_eq;simpa using this
omit aH O in
theorem oU{p:Array Nat}{i j k:Nat}(cD:j<=p.size):gt (Uf p i j) k=if i<=k/\k < j then gt p (i+j - 1 - k) else gt p k:=by
 have z:=getElem?_mirror_all (i:=i) cD k;by_cases c:i<=k/\k < j
 ·rw [if_pos c] at z ⊢;exact wo z
 ·rw [if_neg c] at z ⊢;exact wo z
structure C7(n:Nat)(lt:Nat->Nat->Bool)(p:Array Nat)(m q:Nat):Prop where
 pm:ea n p
 jg:oT lt p m
 le:m<=n
 aF:q+1<=m
 al:∀ i,m - (q+1)<=i->i < m->lt (gt p (m - 1)) (gt p i)=false
omit aH in
theorem C8{p:Array Nat}{m i:Nat}(h:oT lt p m)(av:i < m):lt (gt p i) (gt p (m - 1))=false:=by
 by_cases c:i=m - 1
 ·subst c;exact O.iy _
 ·exact h i (m - 1) (by omega) (by omega)
omit aH in
theorem Kz{p:Array Nat}{m q:Nat}(F:C7 n lt p m q):oT lt (Uf p (m - (q+1)) m) m:=λ i j jw cD=>by
 have ap:m<=p.size:=by rw [wq F.pm];exact F.le
 have bc:=F.aF;rw [oU ap,oU ap];by_cases bt:m - (q+1)<=j/\j < m
 ·rw [if_pos bt];by_cases bu:m - (q+1)<=i/\i < m
  ·rw [if_pos bu];exact O.neg _ _ _ (C8 O F.jg (by omega)) (F.al _ (by omega) (by omega))
  ·rw [if_neg bu];exact F.jg _ _ (by omega) (by omega)
 ·rw [if_neg bt,if_neg (by omega)];exact F.jg i j jw cD
omit aH in
theorem zU{p:Array Nat}{m:Nat}(h:oT lt p m){x:Nat}(ak:∀ i,i < m->lt (gt p i) x=false)(e:gt p m=x):oT lt p (m+1):=λ i j jw cD=>by
 by_cases c:j=m
 ·subst c;rw [e];exact ak i jw
 ·exact h i j jw (by omega)
theorem zV:∀ f p m q,m+f<=n->C7 n lt p m q->fW n lt (λ r:Array Nat × Nat × Nat=>C7 n lt r.1 r.2.1 r.2.2) (kas_desc f p m q)
 | 0,p,m,q,_,F=>F
 | f+1,p,m,q,hf,F=>by
  have bc:=F.aF
  have ap:m<=p.size:=by rw [wq F.pm];exact F.le
  refine ⟨hj F.pm aH _,hj F.pm aH _,?_⟩
  cases c:lt (p.getD m 0) (p.getD (m - 1) 0) with
  | true=>
   have below:∀ i,i < m->lt (gt p i) (gt p m)=false:=λ i av=>O.neg _ _ _ (C8 O F.jg av) (O.tr _ _ c);by_cases d:q > 0
   ·simp only [if_true,if_pos d]
    have gx:∀ i,gt (Uf p (m - (q+1)) m) i=if m - (q+1)<=i/\i < m then gt p (m - (q+1)+m - 1 - i) else gt p i:=λ i=>oU ap
    refine zV f _ (m+1) 0 (by omega) ⟨nM F.pm _ _,zU O (Kz O F) (x:=gt p m) (λ i av=>?_) (by rw [gx,if_neg (by omega)]),by omega,by omega,λ i ae ag=>?_⟩
    ·rw [gx];split
     ·exact below _ (by omega)
     ·exact below _ av
    ·rw [show i=m+1 - 1 by omega];exact O.iy _
   ·simp only [if_true,if_neg d];refine zV f _ (m+1) 0 (by omega) ⟨F.pm,zU O F.jg below rfl,by omega,by omega,λ i ae ag=>?_⟩;rw [show i=m+1 - 1 by omega];exact O.iy _
  | false=>
   refine ⟨hj F.pm aH _,hj F.pm aH _,?_⟩
   cases d:lt (p.getD (m - 1) 0) (p.getD m 0) with
   | true=>exact F
   | false=>
    refine zV f _ (m+1) (q+1) (by omega) ⟨F.pm,zU O F.jg (x:=gt p m) (λ i av=>O.neg _ _ _ (C8 O F.jg av) d) rfl,by omega,by omega,λ i ae ag=>?_⟩;rw [show m+1 - 1=m by omega];by_cases e:i=m
    ·subst e;exact O.iy _
    ·exact O.neg _ _ _ c (F.al i (by omega) (by omega))
omit aH in
theorem Vb{p:Array Nat}{m:Nat}(ap:m<=p.size)(h:oT lt p m):hv lt (Uf p 0 m) m:=λ i j jw cD=>by
 rw [oU ap,oU ap,if_pos (by omega),if_pos (by omega)];exact h _ _ (by omega) (by omega)
theorem KA{p:Array Nat}{m:Nat}(ah:ea n p)(hm:m<=n)(ae:1<=m)(h:oT lt p m):fW n lt (λ r:Nat × Array Nat=>ea n r.2/\hv lt r.2 r.1/\1<=r.1/\r.1<=n) (xW m n p):=by
 unfold xW;refine fW.bind (P:=λ r=>hv lt (Uf p 0 m) r/\m<=r/\r<=m+(n - m)) (R:=λ r:Nat × Array Nat=>ea n r.2/\hv lt r.2 r.1/\1<=r.1/\r.1<=n) (λ r ⟨a,b,c⟩=>?_) (Kw aH O (nM ah 0 m) (n - m) m ae (Vb O (by rw [wq ah];exact hm) h));exact ⟨nM ah 0 m,a,by omega,by omega⟩
theorem KC{p:Array Nat}{m:Nat}(ah:ea n p)(hm:m+1<=n)(h:oT lt p (m+1)):fW n lt (λ r:Nat × Array Nat=>ea n r.2/\hv lt r.2 r.1/\1<=r.1/\r.1<=n) (kas_descPart m n p):=by
 refine fW.bind (λ r F=>?_) (zV aH O (n - (m+1)) p (m+1) 0 (by omega) ⟨ah,h,hm,by omega,λ i ae ag=>by rw [show i=m+1 - 1 by omega];exact O.iy _⟩);have bc:=F.aF;split
 ·exact KA aH O (nM F.pm _ _) F.le (by omega) (Kz O F)
 ·exact KA aH O F.pm F.le (by omega) F.jg
theorem KD{p:Array Nat}(ah:ea n p):∀ f m,1<=m->hv lt p m->fW n lt (λ r=>(hv lt p r/\m<=r/\r<=m+f)/\(r < m+f->lt (gt p r) (gt p (r - 1))=true)) (kas_asc p f m)
 | 0,m,_,h=>⟨⟨h,ZB _,by omega⟩,λ z=>by omega⟩
 | f+1,m,hm,h=>by
  refine ⟨hj ah aH _,hj ah aH _,?_⟩
  cases c:lt (p.getD m 0) (p.getD (m - 1) 0) with
  | true=>exact ⟨⟨h,ZB _,by omega⟩,λ _=>c⟩
  | false=>exact fW.mono (λ r ⟨⟨ae,ag,aR⟩,bB⟩=>⟨⟨ae,by omega,by omega⟩,λ z=>bB (by omega)⟩) (KD ah f (m+1) (by omega) (Kv aH O hm h c))
theorem Vc{p:Array Nat}(ah:ea n p):fW n lt (λ r:Nat × Array Nat=>ea n r.2/\hv lt r.2 r.1/\1<=r.1/\r.1<=n) (kas_count n p):=by
 refine fW.bind (λ m ⟨⟨ae,ag,aR⟩,bB⟩=>?_) (KD aH O ah (n - 1) 1 (by omega) (λ i j jw cD=>by omega));split
 ·exact ⟨ah,ae,by omega,by omega⟩
 ·next c=>
  have fE:m≠n:=λ e=>c (by simp [e]);have KE:=bB (by omega);split
  ·next d=>
   refine ⟨hj ah aH _,hj ah aH _,?_⟩
   cases w:lt (p.getD 0 0) (p.getD (m - 1) 0) with
   | true=>exact ⟨ah,ae,by omega,by omega⟩
   | false=>
    have ap:m<=p.size:=by rw [wq ah];omega
    have aff:∀ i,i < m->lt (gt p (m - 1)) (gt p i)=false:=λ i av=>by
     by_cases e:i=m - 1
     ·subst e;exact O.iy _
     ·exact ae i (m - 1) (by omega) (by omega)
    have Vd:∀ i,i < m->lt (gt p i) (gt p 0)=false:=λ i av=>by
     by_cases e:i=0
     ·subst e;exact O.iy _
     ·exact ae 0 i (by omega) av
    have Ve:oT lt (Uf p 0 m) m:=λ i j jw cD=>by
     rw [oU ap,oU ap,if_pos (by omega),if_pos (by omega)];exact ae _ _ (by omega) (by omega)
    refine KC aH O (nM ah 0 m) (by omega) (zU O Ve (x:=gt p m) (λ i av=>?_) (by rw [oU ap,if_neg (by omega)]));rw [oU ap,if_pos (by omega)];exact O.neg _ _ _ (O.neg _ _ _ (Vd _ (by omega)) w) (O.tr _ _ KE)
  ·next d=>
   have e:m=1:=by omega
   subst e;refine KC aH O ah (by omega) λ i j jw cD=>?_;rw [show i=0 by omega,show j=1 by omega];exact O.tr _ _ KE
theorem Vf:fW n lt (λ q=>ea n q/\hv lt q n) (kas_sort n):=by
 refine fW.bind (λ r ⟨ae,ag,aR,bB⟩=>?_) (Vc aH O (p:=x8 (hE n)) (by exact .refl _));split
 ·next c=>
  rw [show max r.1 1=r.1 by omega];exact Ky aH O (n - r.1) r.2 r.1 ae (by omega) ag
 ·next c=>
  have e:r.1=n:=by omega
  rw [e] at ag;exact ⟨ae,ag⟩
end
theorem Vg(vs:List Value):(hE vs.length).map (λ i=>vs.getD i Value.none)=vs:=by
 apply uN
 ·simp
 ·intro i ae ag;simp [i0,fv ag]
section
variable{prog:cL}{w:b8}{A:cz}{E:Value->aE->Prop}{s:aE}
theorem Vh{a:Addr}{vs:List Value}{n:Nat}{κ:n2}{lt:Nat->Nat->Bool}{P:PySem.Fin->aE->Prop}(aS:s.heap.get? a=some (gS "list" vs.toArray n))(rq:vs.length < 64)
 (aN:2<=vs.length->∀ Q:n2->aE->Prop,Q κ { s with heap:=jf s.heap a vs }->aU (aY prog w) A (uH vs.toArray) Q E { s with heap:=jf s.heap a vs })
 (ai:∀ i j C,i < vs.length->j < vs.length->C (lt i j) { s with heap:=jf s.heap a vs }->si prog w A κ vs i j C { s with heap:=jf s.heap a vs })
 (O:zT lt) (h:∀ p:Array Nat,ea vs.length p->hv lt p vs.length->P (.done (.ret .none)) { s with heap:=sortedHeap s.heap a vs (p.toList.map λ i=>vs.getD i Value.none).toArray }) :
 aU (aY prog w) A (Builtin.«list.sort» ⟨[.ref a],[]⟩) P E s:=by
 rw [list_sort_plain];have ax:a < s.heap.objs.size:=dc aS;refine aA (listItems_at aS rfl ?_);refine aA (sf aS rfl ?_ (hsz:=by rw [cM,hC];omega))
 obtain ⟨aC,wn⟩:∃ aC,(s.heap.update a (Obj.mapSeq λ _=>#[])).get? a=some (gS "list" #[] aC):=⟨_,get?_update_seq aS (λ _=>#[])⟩
 refine aA (sg wn rfl ?_);refine aA (xM ?_);refine aA (xO ?_);refine jn ?_
 have oS:(jf s.heap a vs).get? a=some (gS "list" #[] aC):=by
  rw [WP _ _ _ (by rw [xU,sI];exact eO (Nat.lt_succ_of_lt ax)),WP _ _ _ (by rw [sI];exact eO ax)];exact wn
 show aU (aY prog w) A _ P E { s with heap:=jf s.heap a vs }
 dsimp only
 have hsz:vs.toArray.size=vs.length:=by simp
 by_cases ag:vs.toArray.size < 2
 ·rw [if_pos ag,if_pos ag];refine aA (br ?_);rw [StateT.run_pure];refine aA (br ?_)
  dsimp only
  refine aA (sg oS rfl ?_)
  have j8:(arrOf (SortSt.mk' general' (vs.toArray.zip vs.toArray) #[] 7 none)).map (·.2)=vs.toArray:=by
   show (vs.toArray.zip vs.toArray).map (·.2)=vs.toArray;apply yp.mp;rw [Array.toList_map,Array.toList_zip,List.map_snd_zip (ZB _)]
  rw [j8];refine aA (sf oS rfl ?_ (hsz2:=by show vs.toArray.size<=_;rw [hsz,hC];omega));simp only [bne_self_eq_false,sD,if_false];have z:=h (x8 (hE vs.length)) (.refl _) (λ i j jw cD=>by omega);rw [show ((x8 (hE vs.length)).toList.map λ i=>vs.getD i Value.none)=vs from Vg vs] at z;exact br z
 ·rw [if_neg ag,if_neg ag]
  have hb:2<=vs.length:=by omega
  refine aA (aN hb _ ?_)
  refine aA (gC (kat_run (ks:=vs) (vs:=vs) (Q:=λ dO aM=>aM={ s with heap:=jf s.heap a vs }/\failedOf dO=none/\∃ p:Array Nat,ea vs.length p/\hv lt p vs.length/\(arrOf dO).map (·.2)=(p.toList.map λ i=>vs.getD i Value.none).toArray) (G:=λ p aM=>aM={ s with heap:=jf s.heap a vs }/\ea vs.length p/\hv lt p vs.length) rfl hb rq (λ p dO aM _ C2 hf g=>⟨g.1,hf,p,g.2.1,g.2.2,kat_snds rfl C2⟩)
   (fW.wp ai (λ p ah=>⟨rfl,ah⟩) (Vf (by omega) O))) ?_ λ _ _ e=>e)
  rintro ⟨⟨⟩,dO⟩ aM ⟨rfl,hf,p,ah,rv,j8⟩
  dsimp only at j8 ⊢
  rw [j8];refine aA (sg oS rfl ?_);refine aA (sf oS rfl ?_ (hsz2:=by show (p.toList.map λ i=>vs.getD i Value.none).toArray.size<=_;rw [cM,er,ah.length_eq,List.length_range,hC];omega));rw [hf];simp only [bne_self_eq_false,sD,if_false];exact br (h p ah rv)
theorem KG{l:Addr}{vs:List Value}{κ:n2}{lt:Nat->Nat->Bool}{Q:Value->aE->Prop}(ar:s.heap.IsList l vs.toArray)(rq:vs.length < 64)
 (aN:2<=vs.length->∀(A:cz)(E:Value->aE->Prop)(R:n2->aE->Prop),R κ { s with heap:=mL s.heap vs }->aU (aY prog w) A (uH vs.toArray) R E { s with heap:=mL s.heap vs })
 (ai:∀(lj:cz) i j C,lj.units<=A.units+5->i < vs.length->j < vs.length->C (lt i j) { s with heap:=mL s.heap vs }->si prog w lj κ vs i j C { s with heap:=mL s.heap vs })
 (O:zT lt) (h:∀ p:Array Nat,ea vs.length p->hv lt p vs.length->Q (.ref (s.heap.objs.size+1)) { s with heap:=xV s.heap vs (p.toList.map λ i=>vs.getD i Value.none).toArray }) :
 aU (aY prog w) A (call (.builtin "sorted") [.ref l]) Q E s:=by
 refine Calls.call_function_entry kind_sorted plain_sorted entry_sorted (args_sorted1 _) ?_;unfold Builtin.«sorted»;refine aA (m:=checkCount "sorted" 1 1 _) (br ?_);refine aA (collect_list ar ?_ (hsz:=by rw [hC];omega));refine aA (xO ?_)
 have hsz:((s.heap.push (gS "list" #[] 0)).update s.heap.objs.size (Obj.mapSeq (·++vs.toArray))).objs.size=s.heap.objs.size+1:=by
  rw [sI,xU]
 have qP:(((s.heap.push (gS "list" #[] 0)).update s.heap.objs.size (Obj.mapSeq (·++vs.toArray))).push (gS "list" vs.toArray 0)).get? (s.heap.objs.size+1)=some (gS "list" vs.toArray 0):=by
  rw [<- hsz];exact f7 _ rfl
 show aU _ _ _ _ _ { s with heap:=((s.heap.push (gS "list" #[] 0)).update s.heap.objs.size (Obj.mapSeq (·++vs.toArray))).push (gS "list" vs.toArray 0) };rw [hsz];refine aA (jn (kg slot_list_sort ⟨_,qP,rfl⟩ entry_list_sort (Vh (κ:=κ) (lt:=lt) qP rq (λ ag R hi=>aN ag _ _ R hi) (λ i j C av cD gW=>ai _ i j C ?_ av cD gW) O λ p ah rv=>⟨_,rfl,?_⟩) (args_list_sort _)))
 ·show A.units+1+1<=A.units+5;omega
 exact br ⟨_,rfl,h p ah rv⟩
end
end L2
namespace L3
open PySem L2
structure Std(x y:D):Prop where
 aC:cm x y=true->x=y
 aG:cm y x=true->x=y
 aT:cm x x=true
 ts:x=y\/cg x y=some true\/cg y x=some true
theorem j9{x y:D}{r bp:List D}(h:Std x y)(t:x=y->r=bp\/cy r bp=some true\/cy bp r=some true):x::r=y::bp\/cy (x::r) (y::bp)=some true\/cy (y::bp) (x::r)=some true:=by
 by_cases c:x=y
 ·subst c;rcases t rfl with ae | ae | ae
  ·exact .inl (by rw [ae])
  ·exact .inr (.inl (by rw [cy,if_pos h.aT];exact ae))
  ·exact .inr (.inr (by rw [cy,if_pos h.aT];exact ae))
 ·rcases h.ts with ae | ae | ae
  ·exact absurd ae c
  ·exact .inr (.inl (by rw [cy,if_neg λ z=>c (h.aC z)];exact ae))
  ·exact .inr (.inr (by rw [cy,if_neg λ z=>c (h.aG z)];exact ae))
theorem oV{x y z:D}{r bp zW:List D}(aC:cm x y=true->x=y)(aG:cm y z=true->y=z)(e3:cm x z=true->x=z)(iy:cg x x≠some true)(t:cg x y=some true->cg y z=some true->cg x z=some true)
 (dz:x=y->y=z->cy r bp=some true->cy bp zW=some true->cy r zW=some true) (a1:cy (x::r) (y::bp)=some true) (a2:cy (y::bp) (z::zW)=some true):cy (x::r) (z::zW)=some true:=by
 rw [cy] at a1 a2 ⊢;by_cases c:cm x y=true
 ·have q:=aC c;subst q;rw [if_pos c] at a1;by_cases bt:cm x z=true
  ·rw [if_pos bt] at a2 ⊢;exact dz rfl (aG bt) a1 a2
  ·rw [if_neg bt] at a2 ⊢;exact a2
 ·rw [if_neg c] at a1;by_cases bt:cm y z=true
  ·have q:=aG bt;subst q;rw [if_neg c];exact a1
  ·rw [if_neg bt] at a2;have w:=t a1 a2;rw [if_neg λ q=>by have gT:=e3 q;subst gT;exact iy w];exact w
theorem nN(z b9:Str):Std (.str z) (.str b9):=by
 have e:∀ a b:Str,cm (.str a) (.str b)=true->(D.str a)=.str b:=λ a b h=>by
  rw [cm,beq_iff_eq] at h;rw [h]
 refine ⟨e z b9,λ h=>(e b9 z h).symm,by simp [cm],?_⟩;rw [cg,cg];rcases Nat.lt_trichotomy 0 0 with h | h | h
 ·omega
 ·by_cases c:z.cps.toList < b9.cps.toList
  ·exact .inr (.inl (by simp [c]))
  ·by_cases d:b9.cps.toList < z.cps.toList
   ·exact .inr (.inr (by simp [d]))
   ·have q:z.cps.toList=b9.cps.toList:=List.le_antisymm (List.not_lt.mp d) (List.not_lt.mp c);obtain ⟨⟨a⟩⟩:=z;obtain ⟨⟨b⟩⟩:=b9;simp at q;subst q;exact .inl rfl
 ·omega
theorem Vi{a b c:Str}(ae:cg (.str a) (.str b)=some true)(ag:cg (.str b) (.str c)=some true):cg (.str a) (.str c)=some true:=by
 rw [cg] at ae ag ⊢;have cI:=of_decide_eq_true (hn.inj ae);have b9:=of_decide_eq_true (hn.inj ag);rw [decide_eq_true (List.lt_trans cI b9)]
theorem Vj(a:Str):cg (.str a) (.str a)≠some true:=by
 rw [cg];simp
theorem wt(m n:Int):Std (.int m) (.int n):=by
 have e:∀ a b:Int,cm (.int a) (.int b)=true->(D.int a)=.int b:=λ a b h=>by
  rw [cm,beq_iff_eq] at h;rw [h]
 refine ⟨e m n,λ h=>(e n m h).symm,by simp [cm],?_⟩;rw [cg,cg];rcases Int.lt_trichotomy m n with h | h | h
 ·exact .inr (.inl (by simp [h]))
 ·exact .inl (by rw [h])
 ·exact .inr (.inr (by simp [h]))
theorem zX:∀{ds:List D},c3 ds=true->cy ds ds=some false
 | [],_=>rfl
 | d::ds,h=>by
  rw [c3,fe] at h;rw [cy,if_pos (nJ h.1)];exact zX h.2
theorem Vk{d:D}{ds:List D}(e:d=.tup ds)(h:d.data=true):cg d d=some false:=by
 subst e;rw [cg];exact zX (by simpa [D.data] using h)
theorem bx.iy{d:D}(h:bx d):cg d d=hn false:=by
 have z:=h.data;cases h<;>exact Vk rfl z
theorem rx{S:D->Prop}:∀{ds es:List D},(∀ d∈ds,∀ e,S e->cm d e=true->d=e)->(∀ e∈es,S e)->en ds es=true->ds=es
 | [],[],_,_,_=>rfl
 | [],_::_,_,_,h=>by rw [en] at h;cases h;all_goals simp
 | _::_,[],_,_,h=>by rw [en] at h;cases h;all_goals simp
 | d::ds,e::es,ae,ag,h=>by
  rw [en,fe] at h;rw [ae d (bT ..) e (ag e (bT ..)) h.1,rx (λ x ak=>ae x (bY _ ak)) (λ x ak=>ag x (bY _ ak)) h.2]
theorem ry{z b9:Str}{r bp:List D}(h:cm (.tup (.str z::r)) (.tup (.str b9::bp))=true):z=b9/\en r bp=true:=by
 rw [cm,en,fe] at h;exact ⟨by simpa [cm] using h.1,h.2⟩
theorem rz{a b:D}{r bp:List D}(h:en (a::r) (b::bp)=true):cm a b=true/\en r bp=true:=by
 rw [en,fe] at h;exact h
theorem bx.eq1{a:D}(h:bx a):∀ b,bx b->cm a b=true->a=b:=by
 induction h with
 | is n=>
  intro b af e;cases af<;>obtain ⟨aC,aG⟩:=ry e<;>first | (exact absurd aC (by decide)) | skip
  obtain ⟨e3,-⟩:=rz aG;rw [(wt _ _).aC e3]
 | some=>intro b af e;cases af<;>obtain ⟨aC,aG⟩:=ry e<;>first | (exact absurd aC (by decide)) | rfl
 | both _ _ ae ag=>
  intro b af e;cases af<;>obtain ⟨aC,aG⟩:=ry e<;>first | (exact absurd aC (by decide)) | skip
  obtain ⟨e3,e4⟩:=rz aG;rw [ae _ ‹_› e3,ag _ ‹_› (rz e4).1]
 | left _ ae=>
  intro b af e;cases af<;>obtain ⟨aC,aG⟩:=ry e<;>first | (exact absurd aC (by decide)) | skip
  rw [ae _ ‹_› (rz aG).1]
 | right _ ae=>
  intro b af e;cases af<;>obtain ⟨aC,aG⟩:=ry e<;>first | (exact absurd aC (by decide)) | skip
  rw [ae _ ‹_› (rz aG).1]
 | way _ _ ae ag=>
  intro b af e
  cases af with
  | way g1 g2=>
   obtain ⟨-,aG⟩:=ry e;obtain ⟨e3,e4⟩:=rz aG;rw [cm] at e3;rw [rx ae g1 e3,ag _ g2 (rz e4).1]
  | _=>exact absurd (ry e).1 (by decide)
theorem bx.tt{a b:D}(h:bx a)(af:bx b)(t:a=b\/cg a b=hn true\/cg b a=hn true):Std a b:=⟨h.eq1 b af,λ e=>(af.eq1 a h e).symm,nJ h.data,t⟩
theorem p7{xs aD:List D}(h:xs=aD\/cy xs aD=some true\/cy aD xs=some true):D.tup xs=D.tup aD\/cg (.tup xs) (.tup aD)=some true\/cg (.tup aD) (.tup xs)=some true:=by
 rw [cg,cg];rcases h with h | h | h
 ·exact .inl (by rw [h])
 ·exact .inr (.inl h)
 ·exact .inr (.inr h)
theorem KH:∀{ds es:List D},(∀ d∈ds,bx d/\∀ b,bx b->d=b\/cg d b=some true\/cg b d=some true)->(∀ e∈es,bx e)->ds=es\/cy ds es=some true\/cy es ds=some true
 | [],[],_,_=>.inl rfl
 | [],e::es,_,_=>.inr (.inl (by rw [cy];simp))
 | d::ds,[],_,_=>.inr (.inr (by rw [cy];simp))
 | d::ds,e::es,ae,ag=>by
  obtain ⟨k,t⟩:=ae d (bT ..);have k2:=ag e (bT ..);exact j9 (k.tt k2 (t e k2)) λ _=>KH (λ x ak=>ae x (bY _ ak)) (λ x ak=>ag x (bY _ ak))
theorem bx.ts{a:D}(h:bx a):∀ b,bx b->a=b\/cg a b=hn true\/cg b a=hn true:=by
 induction h with
 | is n=>intro b af;cases af<;>refine p7 (j9 (nN _ _) λ e=>?_)<;>first | (exact absurd (D.str.inj e) (by decide)) | exact j9 (wt _ _) λ _=>.inl rfl
 | some=>intro b af;cases af<;>refine p7 (j9 (nN _ _) λ e=>?_)<;>first | (exact absurd (D.str.inj e) (by decide)) | exact .inl rfl
 | both k1 k2 ae ag=>intro b af;cases af<;>refine p7 (j9 (nN _ _) λ e=>?_)<;>first | (exact absurd (D.str.inj e) (by decide)) | exact j9 (k1.tt ‹_› (ae _ ‹_›)) λ _=>j9 (k2.tt ‹_› (ag _ ‹_›)) λ _=>.inl rfl
 | left k1 ae=>intro b af;cases af<;>refine p7 (j9 (nN _ _) λ e=>?_)<;>first | (exact absurd (D.str.inj e) (by decide)) | exact j9 (k1.tt ‹_› (ae _ ‹_›)) λ _=>.inl rfl
 | right k1 ae=>intro b af;cases af<;>refine p7 (j9 (nN _ _) λ e=>?_)<;>first | (exact absurd (D.str.inj e) (by decide)) | exact j9 (k1.tt ‹_› (ae _ ‹_›)) λ _=>.inl rfl
 | way k1 k2 ae ag=>
  intro b af
  cases af with
  | way g1 g2=>
   refine p7 (j9 (nN _ _) λ _=>j9 ⟨λ e=>?_,λ e=>?_,?_,p7 (KH (λ d hd=>⟨k1 d hd,ae d hd⟩) g1)⟩ λ _=>j9 (k2.tt g2 (ag _ g2)) λ _=>.inl rfl)
   ·rw [cm] at e;rw [rx (λ d hd=>(k1 d hd).eq1) g1 e]
   ·rw [cm] at e;rw [rx (λ d hd=>(g1 d hd).eq1) k1 e]
   ·exact nJ (by rw [D.data];exact p6 λ d hd=>(k1 d hd).data)
  | _=>
   refine p7 (j9 (nN _ _) λ e=>?_);exact absurd (D.str.inj e) (by decide)
theorem kI{z b9 gZ:Str}{r a0 hH:List D}(dz:z=b9->b9=gZ->cy r a0=some true->cy a0 hH=some true->cy r hH=some true)(a1:cg (.tup (.str z::r)) (.tup (.str b9::a0))=some true)(a2:cg (.tup (.str b9::a0)) (.tup (.str gZ::hH))=some true):cg (.tup (.str z::r)) (.tup (.str gZ::hH))=some true:=by
 rw [cg] at a1 a2 ⊢;exact oV (nN _ _).aC (nN _ _).aC (nN _ _).aC (Vj _) Vi (λ aC aG=>dz (D.str.inj aC) (D.str.inj aG)) a1 a2
theorem tu{r:List D}(h:cy [] []=some true):cy [] r=some true:=by rw [cy] at h;cases h
theorem KI:∀{ds es aK:List D},(∀ d∈ds,bx d/\∀ b c,bx b->bx c->cg d b=some true->cg b c=some true->cg d c=some true)->(∀ e∈es,bx e)->(∀ f∈aK,bx f)->cy ds es=some true->cy es aK=some true->cy ds aK=some true
 | [],es,aK,_,_,_,_,h=>by
  rw [cy]
  cases aK with
  | nil=>cases es with
   | nil=>rw [cy] at h;exact h
   | cons _ _=>rw [cy] at h;cases h
  | cons _ _=>simp
 | d::ds,[],aK,_,_,_,h,_=>by rw [cy] at h;cases h
 | d::ds,e::es,[],_,_,_,_,h=>by rw [cy] at h;cases h
 | d::ds,e::es,f::aK,ae,ag,aR,a1,a2=>by
  obtain ⟨k,t⟩:=ae d (bT ..);have k2:=ag e (bT ..);have k3:=aR f (bT ..);exact oV (k.eq1 e k2) (k2.eq1 f k3) (k.eq1 f k3) (by rw [k.iy];simp) (t e f k2 k3) (λ _ _=>KI (λ x ak=>ae x (bY _ ak)) (λ x ak=>ag x (bY _ ak)) λ x ak=>aR x (bY _ ak)) a1 a2
theorem C9{a:D}(h:bx a):∀ b c,bx b->bx c->cg a b=some true->cg b c=some true->cg a c=some true:=by
 induction h with
 | is n=>
  intro b c af ai a1 a2
  cases af<;>cases ai<;>refine kI (λ aC aG eK dx=>?_) a1 a2<;>first | (exact absurd aC (by decide)) | (exact absurd aG (by decide)) | skip
  refine oV (wt _ _).aC (wt _ _).aC (wt _ _).aC (by rw [cg];simp) (λ x y=>?_) (λ _ _ x _=>tu x) eK dx;rw [cg] at x y ⊢;have wu:=of_decide_eq_true (hn.inj x);have KJ:=of_decide_eq_true (hn.inj y);rw [decide_eq_true (by omega)]
 | some=>
  intro b c af ai a1 a2;cases af<;>cases ai<;>refine kI (λ aC aG eK dx=>?_) a1 a2<;>first | (exact absurd aC (by decide)) | (exact absurd aG (by decide)) | exact tu eK
 | both k1 k2 ae ag=>
  intro b c af ai a1 a2
  cases af with
  | both g1 g2=>
   cases ai with
   | both g3 fT=>exact kI (λ aC aG eK dx=>oV (k1.eq1 _ g1) (g1.eq1 _ g3) (k1.eq1 _ g3) (by rw [k1.iy];simp) (ae _ _ g1 g3) (λ _ _=>oV (k2.eq1 _ g2) (g2.eq1 _ fT) (k2.eq1 _ fT) (by rw [k2.iy];simp) (ag _ _ g2 fT) λ _ _ x _=>tu x) eK dx) a1 a2
   | _=>
    refine kI (λ aC aG eK dx=>?_) a1 a2;exact absurd aG (by decide)
  | _=>
   cases ai<;>refine kI (λ aC aG eK dx=>?_) a1 a2<;>exact absurd aC (by decide)
 | left k1 ae=>
  intro b c af ai a1 a2
  cases af with
  | left g1=>
   cases ai with
   | left g3=>exact kI (λ aC aG eK dx=>oV (k1.eq1 _ g1) (g1.eq1 _ g3) (k1.eq1 _ g3) (by rw [k1.iy];simp) (ae _ _ g1 g3) (λ _ _ x _=>tu x) eK dx) a1 a2
   | _=>
    refine kI (λ aC aG eK dx=>?_) a1 a2;exact absurd aG (by decide)
  | _=>
   cases ai<;>refine kI (λ aC aG eK dx=>?_) a1 a2<;>exact absurd aC (by decide)
 | right k1 ae=>
  intro b c af ai a1 a2
  cases af with
  | right g1=>
   cases ai with
   | right g3=>exact kI (λ aC aG eK dx=>oV (k1.eq1 _ g1) (g1.eq1 _ g3) (k1.eq1 _ g3) (by rw [k1.iy];simp) (ae _ _ g1 g3) (λ _ _ x _=>tu x) eK dx) a1 a2
   | _=>
    refine kI (λ aC aG eK dx=>?_) a1 a2;exact absurd aG (by decide)
  | _=>
   cases ai<;>refine kI (λ aC aG eK dx=>?_) a1 a2<;>exact absurd aC (by decide)
 | way k1 k2 ae ag=>
  intro b c af ai a1 a2
  cases af with
  | way g1 g2=>
   cases ai with
   | way g3 fT=>
    have kJ:∀{xs aD:List D},(∀ d∈xs,bx d)->(∀ d∈aD,bx d)->cm (.tup xs) (.tup aD)=true->D.tup xs=.tup aD:=λ ak bv e=>by
     rw [cm] at e;rw [rx (λ d hd=>(ak d hd).eq1) bv e]
    refine kI (λ aC aG eK dx=>oV (kJ k1 g1) (kJ g1 g3) (kJ k1 g3) ?_ (λ x y=>?_) (λ _ _=>oV (k2.eq1 _ g2) (g2.eq1 _ fT) (k2.eq1 _ fT) (by rw [k2.iy];simp) (ag _ _ g2 fT) λ _ _ x _=>tu x) eK dx) a1 a2
    ·rw [cg,zX (p6 λ d hd=>(k1 d hd).data)];simp
    ·rw [cg] at x y ⊢;exact KI (λ d hd=>⟨k1 d hd,ae d hd⟩) g1 g3 x y
   | _=>
    refine kI (λ aC aG eK dx=>?_) a1 a2;exact absurd aG (by decide)
  | _=>
   cases ai<;>refine kI (λ aC aG eK dx=>?_) a1 a2<;>exact absurd aC (by decide)
theorem KK{ds:List D}(h:∀ d∈ds,bx d)(aH:0 < ds.length):zT λ i j=>(cg (ds.getD (min i (ds.length - 1)) .a9) (ds.getD (min j (ds.length - 1)) .a9)).getD false:=by
 have k:∀ i,bx (ds.getD (min i (ds.length - 1)) .a9):=λ i=>by
  have av:min i (ds.length - 1) < ds.length:=by omega
  rw [i0,fv av];exact h _ (jJ av)
 have tr:∀{a b:D},bx a->bx b->cg a b=some true->cg b a≠some true:=λ e8 iz ae ag=>by
  have:=C9 e8 _ _ iz e8 ae ag;rw [e8.iy] at this;cases this
 have val:∀{a b:D},bx a->bx b->((cg a b).getD false=false ↔ a=b\/cg b a=some true):=λ{a b} e8 iz=>by
  obtain ⟨v,bO⟩:=n5.mp (e8.lt iz);rw [bO];constructor
  ·intro e;have bV:v=false:=e;subst bV;rcases e8.ts b iz with ae | ae | ae
   ·exact .inl ae
   ·rw [bO] at ae;cases ae
   ·exact .inr ae
  ·rintro (rfl | ae)
   ·rw [e8.iy] at bO;cases bO;rfl
   ·cases v with
    | false=>rfl
    | true=>exact absurd ae (tr e8 iz bO)
 refine ⟨λ i=>?_,λ i j l ae ag=>?_,λ i j ae=>?_⟩
 ·exact (val (k i) (k i)).mpr (.inl rfl)
 ·rw [val (k _) (k _)] at ae ag ⊢;rcases ae with ae | ae
  ·rw [ae];exact ag
  ·rcases ag with ag | ag
   ·rw [<- ag];exact .inr ae
   ·exact .inr (C9 (k l) _ _ (k j) (k i) ag ae)
 ·rw [val (k _) (k _)];obtain ⟨v,bO⟩:=n5.mp ((k i).lt (k j));rw [bO] at ae;have e:v=true:=ae;subst e;exact .inr bO
end L3
namespace L3
open PySem PySem.Spec PySem.W PyProof.Rows L2
theorem C_{vs:List V}{az:List Value}(h:Vals vs az):∀ l:List Nat,(∀ i∈l,i < vs.length)->Vals (l.map λ i=>vs.getD i .a9) (l.map λ i=>az.getD i Value.none)
 | [],_=>.nil
 | i::l,ar=>by
  have av:=ar i (bT ..);obtain ⟨u,ae,ag⟩:=h.get (fv av);rw [dF,dF];refine .cons ?_ (C_ h l λ j cD=>ar j (bY _ cD));rw [i0,i0,fv av,ae];exact ag
theorem KL{K:aX}{H:aw}{ds:List D}{vs:List V}(h:bM K H ds vs):∀ l:List Nat,(∀ i∈l,i < ds.length)->bM K H (l.map λ i=>ds.getD i .a9) (l.map λ i=>vs.getD i .a9)
 | [],_=>rfl
 | i::l,ar=>by
  have av:=ar i (bT ..);obtain ⟨v,ae,ag⟩:=h.get (fv av);refine ⟨_,_,rfl,?_,KL h l λ j cD=>ar j (bY _ cD)⟩
  dsimp only
  rw [i0,i0,fv av,ae];exact ag
def jx(ds:List D):Prop:=ds.Pairwise λ a b=>cg b a=some false
theorem Vl{ds:List D}{p:Array Nat}(h:ea ds.length p):ds.Perm (p.toList.map λ i=>ds.getD i .a9):=by
 have e:(hE ds.length).map (λ i=>ds.getD i .a9)=ds:=by
  apply uN
  ·simp
  ·intro i ae ag;simp [i0,fv ag]
 have:=h.map (λ i=>ds.getD i .a9);rw [e] at this;exact this.symm
abbrev ltI(ds:List D):Nat->Nat->Bool:=λ i j=>(cg (ds.getD (min i (ds.length - 1)) .a9) (ds.getD (min j (ds.length - 1)) .a9)).getD false
theorem KM{ds:List D}(aN:∀ d∈ds,bx d){p:Array Nat}(h:ea ds.length p)(up:hv (ltI ds) p ds.length):jx (p.toList.map λ i=>ds.getD i .a9):=by
 have hsz:=wq h
 have dR:∀ i,i < ds.length->bx (ds.getD i .a9):=λ i av=>by
  rw [i0,fv av];exact aN _ (jJ av)
 unfold jx;rw [List.pairwise_iff_getElem];intro i j av cD jw;rw [er,fO] at av cD;have z:=up i j jw (by omega)
 have Vm:gt p i=p.toList[i]'(by simpa using av):=by simp [gt,yo,av]
 have Vn:gt p j=p.toList[j]'(by simpa using cD):=by simp [gt,yo,cD]
 have aH:0 < ds.length:=by omega
 have li:gt p i < ds.length:=hj h aH i;have KN:gt p j < ds.length:=hj h aH j;simp only [ltI] at z;rw [show min (gt p j) (ds.length - 1)=gt p j from Nat.min_eq_left (Nat.le_sub_one_of_lt KN),show min (gt p i) (ds.length - 1)=gt p i from Nat.min_eq_left (Nat.le_sub_one_of_lt li)] at z;rw [uO,uO,<- Vm,<- Vn];obtain ⟨v,bO⟩:=n5.mp ((dR _ KN).lt (dR _ li));rw [bO] at z ⊢;have e:v=false:=z;rw [e]
def Vo(K:aX):List V->aw->cE->Prop:=λ xs H Q=>∃(l:Addr)(vs:List V)(ds:List D),xs=[.ref l]/\eu K H l vs/\bM K H ds vs/\ds.length < 64/\(∀ d∈ds,bx d/\d.bC<=150) ∧
 ∀(hk:List D)(zP:List V),ds.Perm hk->jx hk->bM K H hk zP->∀ p,H p=none->Q (.ref p) (upd H p (.lst zP))
section
variable{X:aW}
theorem Vp(a_:X.A.units+200 < dC):h3 X (.builtin "sorted") (Vo X.K):=by
 intro pins s σ H xs us Q I r h;obtain ⟨l,vs,ds,rfl,bc,ax,ar,ap,q⟩:=h;obtain ⟨u,rfl,a7⟩:=on r;cases a7;obtain ⟨az,a6,pl,hz⟩:=I.list bc;have hlen:=a6.length;have afg:=ax.len;have aN:∀ d∈ds,bx d:=λ d hd=>(ap d hd).1;have mq:Inv X pins σ H { s with heap:=mL s.heap az }:=I.kept (t':=s.toks) λ b o e=>Kp e
 have fin:∀ p:Array Nat,ea az.length p->jx (p.toList.map λ i=>ds.getD i .a9)->f_ X pins σ Q (.ref (s.heap.objs.size+1)) { s with heap:=xV s.heap az (p.toList.map λ i=>az.getD i Value.none).toArray }:=λ p ah iP=>by
  have hm:∀ i∈p.toList,i < az.length:=λ i av=>n3.mp (ah.mem_iff.mp av);obtain ⟨c,hZ⟩:=sortedAll_at s.heap az (p.toList.map λ i=>az.getD i Value.none).toArray;have z:=ah.length_eq;rw [List.length_range] at z;have bz:=hC;have aT:=C_ a6 p.toList (λ i av=>by have:=hm i av;omega);have a0:=KL ax p.toList (λ i av=>by have:=hm i av;omega);exact ⟨.ref _,_,I.laid (t':=s.toks) (λ b o e=>sortedAll_old e) (sz _) (show f9 X.prog X.w _ _ _ (.lst (p.toList.map λ i=>vs.getD i .a9)) from ⟨by rw [er];omega,_,c,aT,by simpa using hZ⟩),rfl,q _ _ (Vl (by rw [show ds.length=az.length by omega];exact ah)) iP a0 _ (I.bJ.fresh (sz _))⟩
 by_cases h0:0 < ds.length
 ·refine KG (κ:=tuples' true) (lt:=ltI ds) pl.isList (by omega) (λ ag A E R hi=>U8 mq (λ d hd=>(aN d hd).C5 (ap d hd).2) ax a6 (by omega) hi) (λ lj i j C ov av cD gW=>?_) (KK aN h0) λ p ah rv=>fin p ah (KM aN (by rw [show ds.length=az.length by omega];exact ah) (by rw [show ds.length=az.length by omega];exact rv))
  have ge:∀ k,k < az.length->∃ d v u,ds.getD (min k (ds.length - 1)) .a9=d/\d∈ds/\dj X.K H d v/\RelV v u/\az.getD k Value.none=u:=λ k wk=>by
   have lV:k < ds.length:=by omega
   obtain ⟨v,g1,g2⟩:=ax.get (fv lV);obtain ⟨u,g3,fT⟩:=a6.get g1;exact ⟨ds[k],v,u,by rw [show min k (ds.length - 1)=k by omega,i0,fv lV];rfl,jJ lV,g2,fT,by rw [i0,g3];rfl⟩
  obtain ⟨d,v,u,aC,ei,a1,eK,f1⟩:=ge i av;obtain ⟨e,nu,kq,aG,eD,a2,dx,f2⟩:=ge j cD;unfold si;rw [f1,f2];simp only [ltI,aC,aG] at gW;obtain ⟨b,af⟩:=n5.mp ((aN _ ei).lt (aN _ eD));obtain ⟨z,r,rfl,k1,k2⟩:=(aN d ei).C5 (ap d ei).2;obtain ⟨b9,a0,rfl,k3,jc⟩:=(aN e eD).C5 (ap e eD).2;rw [af] at gW;exact U5 mq gW k1 k3 a1 a2 eK dx (by omega) af
 ·have b6:az=[]:=uP.mp (by omega);subst b6;refine Kk (κ:=tuples' true) (lt:=λ _ _=>false) pl.isList (by simp) (λ ag=>by simp at ag) (λ lj i j C ov av=>by simp at av) λ out ah=>?_;have j8:out=[]:=uP.mp (by have:=ah.length_eq;simpa using this);subst j8;have KO:ds=[]:=uP.mp (by omega);exact fin #[] (.refl _) (by simp [jx])
def Vq:D->aP->cJ->Prop:=λ x G Q=>match x with
 | .ref l=>hJ G l λ ds=>ds.length < 64/\(∀ d∈ds,bx d/\d.bC<=150)/\∀ hk:List D,ds.Perm hk->jx hk->∀ p,G p=none->Q (.ref p) (up G p (.lst hk))
 | _=>False
theorem zY(a_:X.A.units+200 < dC):kz X (.builtin "sorted") (nI Vq):=by
 refine ⟨_,⟨Vp a_⟩,λ xs vs G H ay Q v a r F=>?_⟩;obtain ⟨x,u,rfl,rfl,aQ,r⟩:=p1 r a
 cases x with
 | ref l=>
  cases aQ;obtain ⟨ds,ws,⟨ar,ap,k⟩,s,dJ⟩:=iN v r;exact ⟨l,ws,ds,rfl,s,dJ,ar,ap,λ hk zP ah Vr ax p d2=>F (.ref p) _ _ _ (Go.pU v d2 ax) rfl (k hk ah Vr p (v.none d2))⟩
 | _=>exact (show False from r).elim
end
end L3
namespace L3
open PySem PySem.Spec L2 PySem.SeqAt
open AutoSeq1 (wpAny_loadPart')
open MeetsSeq MeetsSeq2 MeetsSeq3 SeqRoads2
theorem Vs(l b:Addr)(items cS:Array Value)(n ck:Nat)(dd gc:Option Addr)(bz hq:Array (Option Value))(e c:Nat->Bool)(k:Nat) :
 ∀ i:Nat,min items.size cS.size - i=k->i<=min items.size cS.size->Meets (Builtin.«list.__eq__.loop» ⟨[.ref l,.ref b,gE i,gE 0],[]⟩)
  (λ A R s=>s.heap.get? l=some { cls:=.type "list", dict:=dd,data:=.seq items n,slots:=bz }/\s.heap.get? b=some { cls:=.type "list", dict:=gc,data:=.seq cS ck,slots:=hq } ∧
   (∀ j (ae:j < items.size) (ag:j < cS.size),EqAt A.in1 s items[j] cS[j] (e j)) ∧
   (∀ j (ae:j < items.size) (ag:j < cS.size),(∀ i,i < j->e i=true)->e j=false->nK A.in1 s items[j] cS[j] (c j))/\(∀ j,j < i->e j=true) ∧
   R (.ok (.ret (.bool (ix e c (decide (items.size < cS.size)) k i)))) s):=by
 induction k with
 | zero=>
  intro i aN hle prog w A R s h;obtain ⟨ah,g,d,bL,os⟩:=s;obtain ⟨ar,af,he,ai,av,h⟩:=h
  wp_walk using m6 ar,m6 af
  have fin:aU (aY prog w) A.in1 (do
   let x ← Builtin.List.listItems (Value.ref l)
   let y ← Builtin.List.listItems (Value.ref b)
   ret (Value.bool (decide (x.size < y.size)))) (λ fin aM=>match fin with
    | .done f=>R (.ok f) aM
    | .again fE=>fE.quiet=true/\pq (aY prog w) A fE R aM) (λ e aM=>R (Except.error e) aM) { heap:=ah,gens:=g,drawn:=d,toks:=bL,os:=os }:=by
   refine aA (yt ar rfl (aA (yt af rfl ?_)))
   wp_walk
   exact h
  rcases (by omega:items.size<=i\/cS.size<=i) with q | q
  ·have wv:items[((i:Nat):Int).toNat]?=none:=by simp;omega
   rw [wv];exact fin
  ·have zZ:cS[((i:Nat):Int).toNat]?=none:=by simp;omega
   rw [zZ];cases items[((i:Nat):Int).toNat]?<;>exact fin
 | succ k aO=>
  intro i aN hle prog w A R s h;obtain ⟨ah,g,d,bL,os⟩:=s;obtain ⟨ar,af,he,ai,av,h⟩:=h
  wp_walk using m6 ar,m6 af
  have fm:i < items.size:=by omega
  have Da:i < cS.size:=by omega
  have wv:items[((i:Nat):Int).toNat]?=some items[i]:=by simp [fm]
  have zZ:cS[((i:Nat):Int).toNat]?=some cS[i]:=by simp [Da]
  have hZ:((i:Int)+1)=((i+1:Nat):Int):=by push_cast;rfl
  rw [ix] at h;rw [wv,zZ];refine aA (he i fm Da prog w _ _ ?_)
  cases g0:e i with
  | true=>
   rw [g0,if_pos rfl] at h
   wp_walk
   rw [hZ]
   exact ⟨plainId_quiet plain_eq_loop _,Bk entry_eq_loop (by
    rw [Around.under_plainId plain_eq_loop _]
    exact aO (i+1) (by omega) (by omega) prog w A R _ ⟨ar,af,he,ai,λ j cD=>by rcases Nat.lt_succ_iff_lt_or_eq.mp cD with z | rfl;exact av j z;exact g0,h⟩)⟩
  | false=>
   rw [g0,if_neg (by decide)] at h;simp only [sD,if_false];refine aA (yt ar rfl (aA (yt af rfl ?_)));rw [wv,zZ];refine aA (ai i fm Da av g0 prog w _ _ ?_)
   wp_walk
   exact h
theorem Vt(l b:Addr)(items cS:Array Value)(n ck:Nat)(dd gc:Option Addr)(bz hq:Array (Option Value))(e c:Nat->Bool) :
 Meets (Builtin.«list.__lt__» ⟨[.ref l,.ref b],[]⟩)
  (λ A R s=>s.heap.get? l=some { cls:=.type "list", dict:=dd,data:=.seq items n,slots:=bz }/\s.heap.get? b=some { cls:=.type "list", dict:=gc,data:=.seq cS ck,slots:=hq } ∧
   (∀ j (ae:j < items.size) (ag:j < cS.size),EqAt A.in1 s items[j] cS[j] (e j)) ∧
   (∀ j (ae:j < items.size) (ag:j < cS.size),(∀ i,i < j->e i=true)->e j=false->nK A.in1 s items[j] cS[j] (c j)) ∧
   R (.ok (.ret (.bool (ix e c (decide (items.size < cS.size)) (min items.size cS.size) 0)))) s):=by
 intro prog w A R s h;obtain ⟨ah,g,d,bL,os⟩:=s;obtain ⟨ar,af,he,ai,h⟩:=h;have cV:=AutoSeq1.sub_list_list
 wp_walk using m6 ar,m6 af
 exact ⟨plainId_quiet plain_eq_loop _,Bk entry_eq_loop (by
  rw [Around.under_plainId plain_eq_loop _]
  exact Vs l b items cS n ck dd gc bz hq e c _ 0 rfl (ef _) prog w A R _ ⟨ar,af,he,ai,λ j cD=>by omega,by simpa using h⟩)⟩
open PyProof.Rows in
theorem Vu{prog:cL}{w:b8}{E:Value->aE->Prop}{A:cz}{s:aE}{l b:Addr}{items cS:Array Value}{e c:Nat->Bool}{Q:Bool->aE->Prop}(ar:s.heap.IsList l items)(af:s.heap.IsList b cS)(a_:A.units < dC)
 (he:∀ j (ae:j < items.size) (ag:j < cS.size),EqAt A.in1 s items[j] cS[j] (e j))
 (ai:∀ j (ae:j < items.size) (ag:j < cS.size),(∀ i,i < j->e i=true)->e j=false->nK A.in1 s items[j] cS[j] (c j))
 (h:Q (ix e c (decide (items.size < cS.size)) (min items.size cS.size) 0) s):aU (aY prog w) A (oneLt' true (.ref l) (.ref b)) Q E s:=by
 obtain ⟨⟨cls,dd,data,bz⟩,aS,nL,n,hd⟩:=id ar;obtain ⟨⟨BN,gc,data2,hq⟩,kv,jW,ck,hd2⟩:=id af;simp only at nL hd jW hd2;subst nL hd jW hd2;rw [oneLt'_eq];simp only [if_true];refine aA (wpAny_cRoomFor a_ ?_);refine aA (wpAny_callSpecialIfBound?_slot ⟨_,aS,rfl⟩ F.slot_list_lt (qx F.slot_list_lt ⟨_,aS,rfl⟩ F.entry_list_lt (F.args_list_lt_2 _ _) (Vt l b items cS n ck dd gc bz hq e c) ⟨aS,kv,he,ai,?_⟩));exact nX h
def D.z0:D->Bool
 | .str _=>true
 | _=>false
mutual
def dl:D->List D
 | .tup ds=>lW ds
 | d=>[d]
def lW:List D->List D
 | []=>[.int 0]
 | d::ds=>if d.z0 then d::fB ds else .int 1::(dl d++hx ds)
def fB:List D->List D
 | []=>[]
 | d::ds=>dl d++fB ds
def hx:List D->List D
 | []=>[.int 0]
 | d::ds=>.int 1::(dl d++hx ds)
end
def Cl(a b:D):Prop:=∀ r bp:List D,cy (dl a++r) (dl b++bp)=if cm a b then cy r bp else cg a b
def tv(xs aD:List D):Prop:=∀ r bp:List D,cy (fB xs++r) (fB aD++bp)=if en xs aD then cy r bp else cy xs aD
theorem tv.nil:tv [] []:=λ r bp=>by simp [fB,en]
theorem tv.cons{x y:D}{xs aD:List D}(h:Cl x y)(t:tv xs aD):tv (x::xs) (y::aD):=λ r bp=>by
 rw [fB,fB,db,db,h,t,en,cy];cases cm x y<;>simp
theorem Cl.one{x y:D}(ak:dl x=[x])(bv:dl y=[y]):Cl x y:=λ r bp=>by
 rw [ak,bv,nc,nc,cy]
theorem Cl.tup{z fQ:Str}{xs aD:List D}(h:z=fQ->tv xs aD):Cl (.tup (.str z::xs)) (.tup (.str fQ::aD)):=λ r bp=>by
 rw [dl,dl,lW,lW,if_pos (show (D.str z).z0=true from rfl),if_pos (show (D.str fQ).z0=true from rfl),eF,eF,cg,cm,en];simp only [cy]
 cases c:cm (.str z) (.str fQ) with
 | false=>simp
 | true=>rw [if_pos rfl,h (by simpa [cm] using c) r bp];simp
theorem KP:∀{xs aD:List D},(∀ x∈xs,∀ y∈aD,Cl x y)->∀ r bp,cy (hx xs++r) (hx aD++bp)=if en xs aD then cy r bp else cy xs aD
 | [],[],_,r,bp=>by simp [hx,en,cy,cm]
 | [],y::aD,_,r,bp=>by simp [hx,en,cy,cm,cg]
 | x::xs,[],_,r,bp=>by simp [hx,en,cy,cm,cg]
 | x::xs,y::aD,h,r,bp=>by
  rw [hx,hx,eF,eF,cy,if_pos (by simp [cm]),db,db,h x (bT ..) y (bT ..),KP (λ a ax b af=>h a (bY _ ax) b (bY _ af)),en,cy];cases cm x y<;>simp
theorem z1{ds:List D}(h:∀ d∈ds,bx d):dl (.tup ds)=hx ds:=by
 rw [dl]
 cases ds with
 | nil=>rw [lW,hx]
 | cons d ds=>
  rw [lW,hx];obtain ⟨z,r,e,_⟩:=(h d (bT ..)).head;rw [e];rfl
theorem bx.cl{a:D}(h:bx a):∀{b:D},bx b->Cl a b:=by
 induction h with
 | is n=>intro b af;cases af<;>refine Cl.tup λ e=>?_<;>first | (exact absurd e (by decide)) | exact .cons (.one rfl rfl) .nil
 | some=>intro b af;cases af<;>refine Cl.tup λ e=>?_<;>first | (exact absurd e (by decide)) | exact .nil
 | both _ _ ae ag=>intro b af;cases af<;>refine Cl.tup λ e=>?_<;>first | (exact absurd e (by decide)) | exact .cons (ae ‹_›) (.cons (ag ‹_›) .nil)
 | left _ ae=>intro b af;cases af<;>refine Cl.tup λ e=>?_<;>first | (exact absurd e (by decide)) | exact .cons (ae ‹_›) .nil
 | right _ ae=>intro b af;cases af<;>refine Cl.tup λ e=>?_<;>first | (exact absurd e (by decide)) | exact .cons (ae ‹_›) .nil
 | way k1 _ ae ag=>
  intro b af
  cases af with
  | way g1 g2=>
   refine Cl.tup λ _=>.cons (λ r bp=>?_) (.cons (ag g2) .nil);rw [z1 k1,z1 g1,KP λ x ak y bv=>ae x ak (g1 y bv),cm,cg]
  | _=>refine Cl.tup λ e=>?_;exact absurd e (by decide)
theorem bx.Db{a b:D}(h:bx a)(af:bx b):cy (dl a) (dl b)=cg a b:=by
 have z:=h.cl af [] [];rw [dD,dD] at z;rw [z]
 cases c:cm a b with
 | false=>rfl
 | true=>rw [h.eq1 b af c,af.iy];rfl
mutual
theorem oW:∀{d:D},d.data=true->c3 (dl d)=true
 | .tup ds,h=>by rw [dl];exact Vv (by simpa [D.data] using h)
 | .int _,_=>rfl
 | .str _,_=>rfl
 | .a9,_=>rfl
 | .aI _,_=>rfl
theorem Vv:∀{ds:List D},c3 ds=true->c3 (lW ds)=true
 | [],_=>rfl
 | d::ds,h=>by
  rw [c3,fe] at h;rw [lW];split
  ·rw [c3,h.1,KQ h.2];rfl
  ·rw [c3,z2 (oW h.1) (KR h.2)];rfl
theorem KQ:∀{ds:List D},c3 ds=true->c3 (fB ds)=true
 | [],_=>rfl
 | d::ds,h=>by
  rw [c3,fe] at h;rw [fB];exact z2 (oW h.1) (KQ h.2)
theorem KR:∀{ds:List D},c3 ds=true->c3 (hx ds)=true
 | [],_=>rfl
 | d::ds,h=>by
  rw [c3,fe] at h;rw [hx,c3,z2 (oW h.1) (KR h.2)];rfl
theorem z2:∀{ds es:List D},c3 ds=true->c3 es=true->c3 (ds++es)=true
 | [],_,_,h=>h
 | d::ds,es,ae,ag=>by
  rw [c3,fe] at ae;rw [eF,c3,ae.1,z2 ae.2 ag];rfl
end
theorem bx.KS{a b:D}(h:bx a)(af:bx b)(e:dl a=dl b):a=b:=by
 have z:=zX (oW h.data);rcases h.ts b af with ae | ae | ae
 ·exact ae
 ·rw [<- h.Db af,<- e,z] at ae;cases ae
 ·rw [<- af.Db h,<- e,z] at ae;cases ae
def jy(d:D):Prop:=(∃ n,d=.int n)\/∃ z,d=.str z
theorem jy.eq{d e:D}(h:jy d)(g:jy e)(q:cm d e=true):d=e:=by
 rcases h with ⟨n,rfl⟩ | ⟨z,rfl⟩<;>rcases g with ⟨m,rfl⟩ | ⟨y,rfl⟩<;>simp [cm] at q<;>rw [q]
theorem KU:∀{ds:List D},(∀ d∈ds,∀ x∈dl d,jy x)->∀ x∈hx ds,jy x
 | [],_,x,ak=>by simp [hx] at ak;exact .inl ⟨_,ak⟩
 | d::ds,h,x,ak=>by
  rw [hx,cC,fc] at ak;rcases ak with rfl | ak | ak
  ·exact .inl ⟨_,rfl⟩
  ·exact h d (bT ..) x ak
  ·exact KU (λ e he=>h e (bY _ he)) x ak
theorem KV:∀{ds:List D},(∀ d∈ds,∀ x∈dl d,jy x)->∀ x∈fB ds,jy x
 | [],_,x,ak=>by simp [fB] at ak
 | d::ds,h,x,ak=>by
  rw [fB,fc] at ak;rcases ak with ak | ak
  ·exact h d (bT ..) x ak
  ·exact KV (λ e he=>h e (bY _ he)) x ak
theorem tw{z:Str}{ds:List D}(h:∀ d∈ds,∀ x∈dl d,jy x):∀ x∈dl (.tup (.str z::ds)),jy x:=λ x ak=>by
 rw [dl,lW,if_pos (show (D.str z).z0=true from rfl),cC] at ak;rcases ak with rfl | ak
 ·exact .inr ⟨_,rfl⟩
 ·exact KV h x ak
theorem bx.z3{a:D}(h:bx a):∀ x∈dl a,jy x:=by
 induction h with
 | is n=>exact tw λ d hd x ak=>by simp at hd;subst hd;simp [dl] at ak;exact .inl ⟨_,ak⟩
 | some=>exact tw λ d hd=>by simp at hd
 | both _ _ ae ag=>exact tw λ d hd x ak=>by simp at hd;rcases hd with rfl | rfl;exact ae x ak;exact ag x ak
 | left _ ae=>exact tw λ d hd x ak=>by simp at hd;subst hd;exact ae x ak
 | right _ ae=>exact tw λ d hd x ak=>by simp at hd;subst hd;exact ae x ak
 | way k1 _ ae ag=>
  refine tw λ d hd x ak=>?_;simp at hd;rcases hd with rfl | rfl
  ·rw [z1 k1] at ak;exact KU ae x ak
  ·exact ag x ak
theorem jy.bC:∀{ds:List D},(∀ d∈ds,jy d)->cc ds=0
 | [],_=>rfl
 | d::ds,h=>by
  rw [cc,jy.bC λ e he=>h e (bY _ he)];rcases h d (bT ..) with ⟨n,rfl⟩ | ⟨z,rfl⟩<;>rfl
theorem bx.Vw{a b:D}(h:bx a)(af:bx b):en (dl a) (dl b)=cm a b:=by
 cases c:cm a b with
 | true=>rw [h.eq1 b af c];exact zG (oW af.data)
 | false=>
  cases bt:en (dl a) (dl b) with
  | false=>rfl
  | true=>
   have e:=rx (S:=jy) (λ d hd e he=>(h.z3 d hd).eq he) af.z3 bt;rw [h.KS af e,nJ af.data] at c;cases c
end L3
namespace L3
open PySem PySem.Spec PySem.W PyProof.Rows L2 PySem.SeqAt
section
variable{X:aW}{pins:List (Addr × Obj)}{σ:L2.St}{H:aw}{s:aE}
theorem Vx(I:Inv X pins σ H s){prog:cL}{w:b8}{A:cz}{E:Value->aE->Prop}{ds es:List D}{l m:Addr}{vs us:List V}{b:Bool}{Q:Bool->aE->Prop}(s1:eu X.K H l vs)(s2:eu X.K H m us)(aT:bM X.K H ds vs)(a0:bM X.K H es us)(hd:c3 ds=true)(he:c3 es=true)(a_:A.units+1+cc ds < dC)(h:cy ds es=some b)(q:Q b s):aU (aY prog w) A (keyLt' oneType' (.ref l) (.ref m)) Q E s:=by
 rw [keyLt'_oneType];obtain ⟨az,b2,t1,_⟩:=I.list s1;obtain ⟨cq,dy,dz,_⟩:=I.list s2;have bD:=b2.length;have b5:=dy.length;have iO:=aT.len;have jd:=a0.len;refine Vu (e:=gv ds es) (c:=λ _=>b) t1.isList dz.isList (by omega) (λ j ae ag=>?_) (λ j ae ag av cD=>?_) ?_
 ·have q:=oP I ds es A.in1 vs us az cq hd he aT a0 b2 dy (by show A.units+1+cc ds < dC;omega) j (by simpa using ae) (by simpa using ag);simpa using q
 ·have ey:j < az.length:=by simpa using ae
  have hQ:j < cq.length:=by simpa using ag
  obtain ⟨d,e,g1,g2,g3⟩:=CY h (by omega) (by omega) av cD;have q:=CZ I ds es A.in1 vs us az cq hd he aT a0 b2 dy (by show A.units+1+cc ds < dC;omega) j ey hQ d e b g1 g2 g3;simpa using q
 ·rw [cM,cM,<- bD,<- b5,iO,jd,CW h];exact q
def z4(K:aX)(H:aw)(z:Addr × D):Prop:=bx z.2/\∃ us,eu K H z.1 us/\bM K H (dl z.2) us
def Vy(K:aX):List V->aw->cE->Prop:=λ xs H Q=>∃(l:Addr)(zs:List (Addr × D)),xs=[.ref l]/\eu K H l (zs.map λ z=>V.ref z.1)/\zs.length < 64/\(∀ z∈zs,z4 K H z) ∧
 ∀ ll:List (Addr × D),zs.Perm ll->jx (ll.map (·.2))->∀ p,H p=none->Q (.ref p) (upd H p (.lst (ll.map λ z=>V.ref z.1)))
theorem z5:∀{zs:List (Addr × D)}{az:List Value},Vals (zs.map λ z=>V.ref z.1) az->az=zs.map λ z=>Value.ref z.1
 | [],_,h=>by cases h;rfl
 | z::zs,_,h=>by
  cases h with
  | cons h t=>cases h;rw [z5 t];rfl
theorem z6{α β:Type}{f:α->β}{xs:List α}{i:Nat}{d:β}{x:α}(h:xs[i]?=some x):(xs.map f).getD i d=f x:=by
 rw [i0,iG,h];rfl
theorem Vz(a_:X.A.units+200 < dC):h3 X (.builtin "sorted") (Vy X.K):=by
 intro pins s σ H xs us Q I r h;obtain ⟨l,zs,rfl,bc,ar,hz,q⟩:=h;obtain ⟨u,rfl,a7⟩:=on r;cases a7;obtain ⟨az,a6,pl,_⟩:=I.list bc;have Dc:=z5 a6
 have hlen:az.length=zs.length:=by rw [Dc,er]
 have aN:∀ d∈zs.map (·.2),bx d:=λ d hd=>by obtain ⟨z,q5,rfl⟩:=jK.mp hd;exact (hz z q5).1
 have mq:Inv X pins σ H { s with heap:=mL s.heap az }:=I.kept (t':=s.toks) λ b o e=>Kp e
 have fin:∀ p:Array Nat,ea az.length p->jx (p.toList.map λ i=>(zs.map (·.2)).getD i .a9)->f_ X pins σ Q (.ref (s.heap.objs.size+1)) { s with heap:=xV s.heap az (p.toList.map λ i=>az.getD i Value.none).toArray }:=λ p ah iP=>by
  have hm:∀ i∈p.toList,i < az.length:=λ i av=>n3.mp (ah.mem_iff.mp av);obtain ⟨c,hZ⟩:=sortedAll_at s.heap az (p.toList.map λ i=>az.getD i Value.none).toArray;have bz:=hC;have gN:=ah.length_eq;rw [List.length_range] at gN
  have gz:∀ i∈p.toList,zs[i]?=some (zs.getD i (0,.a9)):=λ i av=>by
   have s7:i < zs.length:=by have:=hm i av;omega
   rw [i0,fv s7];rfl
  have aC:(p.toList.map λ i=>(zs.map λ z=>V.ref z.1).getD i .a9)=(p.toList.map λ i=>zs.getD i (0,.a9)).map λ z=>V.ref z.1:=by
   rw [sv];exact so λ i av=>z6 (gz i av)
  have aG:(p.toList.map λ i=>(zs.map (·.2)).getD i .a9)=(p.toList.map λ i=>zs.getD i (0,.a9)).map (·.2):=by
   rw [sv];exact so λ i av=>z6 (gz i av)
  rw [aG] at iP;have aT:=C_ a6 p.toList (λ i av=>by have:=hm i av;rw [er];omega);rw [aC] at aT
  have perm:zs.Perm (p.toList.map λ i=>zs.getD i (0,.a9)):=by
   have e:(hE zs.length).map (λ i=>zs.getD i (0,.a9))=zs:=by
    apply uN
    ·simp
    ·intro i ae ag;simp [i0,fv ag]
   have d2:ea zs.length p:=by rw [<- hlen];exact ah
   have:=d2.map (λ i=>zs.getD i (0,D.a9));rw [e] at this;exact this.symm
  exact ⟨.ref _,_,I.laid (t':=s.toks) (λ b o e=>sortedAll_old e) (sz _) (show f9 X.prog X.w _ _ _ (.lst ((p.toList.map λ i=>zs.getD i (0,.a9)).map λ z=>V.ref z.1)) from ⟨by rw [er,er];omega,_,c,aT,by simpa using hZ⟩),rfl,q _ perm iP _ (I.bJ.fresh (sz _))⟩
 have hg:(zs.map (·.2)).length=zs.length:=er ..;by_cases h0:0 < zs.length
 ·refine KG (κ:=oneType') (lt:=ltI (zs.map (·.2))) pl.isList (by omega) (λ ag A E R hi=>kas_kind (T:=.type "list") ag (λ v bO=>?_) (by decide) (by decide) hi) (λ lj i j C ov av cD gW=>?_) (KK aN (by omega)) λ p ah rv=>fin p ah (KM aN (by rw [hg,<- hlen];exact ah) (by rw [hg,<- hlen];exact rv))
  ·rw [Dc] at bO;obtain ⟨z,q5,rfl⟩:=jK.mp bO;obtain ⟨_,us,fo,_⟩:=hz z q5;obtain ⟨its',_,ww,_⟩:=mq.list fo;obtain ⟨o,aS,ai,_⟩:=ww.isList;exact λ A Q E aM k q=>qv (T:="list") ⟨o,k _ _ aS,ai⟩ q
  ·have ge:∀ k,k < az.length->∃ z,zs[k]?=some z/\z∈zs/\(zs.map (·.2)).getD (min k ((zs.map (·.2)).length - 1)) .a9=z.2/\az.getD k Value.none=.ref z.1:=λ k wk=>by
    have lV:k < zs.length:=by omega
    refine ⟨zs[k],fv lV,jJ lV,?_,?_⟩
    ·rw [show min k ((zs.map (·.2)).length - 1)=k by omega];exact z6 (fv lV)
    ·rw [Dc];exact z6 (fv lV)
   obtain ⟨z,_,ei,aC,f1⟩:=ge i av;obtain ⟨y,_,eD,aG,f2⟩:=ge j cD;unfold si;rw [f1,f2];simp only [ltI,aC,aG] at gW;obtain ⟨k1,KW,Dd,a1⟩:=hz z ei;obtain ⟨k2,KY,tx,a2⟩:=hz y eD;obtain ⟨b,af⟩:=n5.mp (k1.lt k2);rw [af] at gW;exact Vx mq Dd tx a1 a2 (oW k1.data) (oW k2.data) (by rw [jy.bC k1.z3];omega) (by rw [k1.Db k2];exact af) gW
 ·have b6:az=[]:=uP.mp (by omega);subst b6;refine Kk (κ:=oneType') (lt:=λ _ _=>false) pl.isList (by simp) (λ ag=>by simp at ag) (λ lj i j C ov av=>by simp at av) λ out ah=>?_;have j8:out=[]:=uP.mp (by have:=ah.length_eq;simpa using this);subst j8;exact fin #[] (.refl _) (by simp [jx])
def p8(G:aP)(z:Addr × D):Prop:=bx z.2/\G z.1=some (.lst (dl z.2))
theorem p8.to{K:aX}{G:aP}{H:aw}{z:Addr × D}(v:fq K G H)(h:p8 G z):z4 K H z:=by
 obtain ⟨us,e,r⟩:=v _ _ h.2;exact ⟨h.1,us,.inl (.inl e),r⟩
def VA:D->aP->cJ->Prop:=λ x G Q=>match x with
 | .ref l=>∃ zs:List (Addr × D),G l=some (.lst (zs.map λ z=>D.ref z.1))/\zs.length < 64/\(∀ z∈zs,p8 G z)/\∀ ll:List (Addr × D),zs.Perm ll->jx (ll.map (·.2))->∀ p,G p=none->Q (.ref p) (up G p (.lst (ll.map λ z=>D.ref z.1)))
 | _=>False
theorem z7{K:aX}{H:aw}:∀{zs:List (Addr × D)}{vs:List V},bM K H (zs.map λ z=>D.ref z.1) vs->vs=zs.map λ z=>V.ref z.1
 | [],_,h=>h
 | z::zs,_,⟨v,r,e,q,l⟩=>by subst e;rw [z7 l,show v=V.ref z.1 from q];rfl
theorem KZ{K:aX}{H:aw}:∀(zs:List (Addr × D)),bM K H (zs.map λ z=>D.ref z.1) (zs.map λ z=>V.ref z.1)
 | []=>rfl
 | z::zs=>⟨_,_,rfl,rfl,KZ zs⟩
theorem VB(a_:X.A.units+200 < dC):kz X (.builtin "sorted") (nI VA):=by
 refine ⟨_,⟨Vz a_⟩,λ xs vs G H ay Q v a r F=>?_⟩;obtain ⟨x,u,rfl,rfl,aQ,r⟩:=p1 r a
 cases x with
 | ref l=>
  cases aQ;obtain ⟨zs,e,ar,hz,k⟩:=r;obtain ⟨ws,aC,dJ⟩:=v _ _ e;rw [z7 dJ] at aC;exact ⟨l,zs,rfl,.inl (.inl aC),ar,λ z h=>(hz z h).to v,λ ll ah ap p d2=>F (.ref p) _ _ _ (Go.pU v d2 (KZ ll)) rfl (k ll ah ap p (v.none d2))⟩
 | _=>exact (show False from r).elim
def VC(K:aX):eX:=λ x y H Q=>∃(l m:Addr)(zs aD:List (Addr × D)),x=.ref l/\y=.ref m/\eu K H l (zs.map λ z=>V.ref z.1)/\eu K H m (aD.map λ z=>V.ref z.1)/\(∀ z∈zs,z4 K H z)/\(∀ z∈aD,z4 K H z)/\zs.length=aD.length/\(∀ z∈zs,∀ y∈aD,z.1=y.1->z.2=y.2) ∧
 ∀ b:Bool,(b=true ↔ zs.map (·.2)=aD.map (·.2))->Q (.aI b) H
theorem VD(a_:X.A.units+200 < dC):dS X (d3 .Eq) (VC X.K):=by
 intro pins s σ H x y v u Q I a7 cF h;obtain ⟨l,m,zs,aD,rfl,rfl,s1,s2,hz,bv,hlen,VE,q⟩:=h;cases a7;cases cF;obtain ⟨az,b2,t1,_⟩:=I.list s1;obtain ⟨cq,dy,dz,_⟩:=I.list s2;have aC:=z5 b2;have aG:=z5 dy;subst aC aG;refine SeqAt.RcAt.lists (e:=λ j=>cm (((zs.map (·.2))[j]?).getD .a9) (((aD.map (·.2))[j]?).getD .a9)) t1.isList dz.isList (by simp [hlen]) (by omega) (λ j ae ag=>?_) X.prog X.w X.xe _ ⟨.aI _,H,I,rfl,q _ ?_⟩
 ·have ey:j < zs.length:=by simpa using ae
  have hQ:j < aD.length:=by simpa using ag
  obtain ⟨k1,KW,Dd,a1⟩:=hz _ (jJ ey);obtain ⟨k2,KY,tx,a2⟩:=bv _ (jJ hQ);simp only [iG,fv ey,fv hQ,uW,uX,List.getElem_toArray,uO];by_cases ep:zs[j].1=aD[j].1
  ·rw [ep,VE _ (jJ ey) _ (jJ hQ) ep,nJ k2.data];exact SeqAt.EqAt.same _
  ·refine SeqAt.EqAt.of_refs ep ?_;rw [<- k1.Vw k2];obtain ⟨VF,pW,g8,_⟩:=I.list Dd;obtain ⟨VG,K0,gU,_⟩:=I.list tx;have bD:=pW.length;have b5:=K0.length;have iO:=a1.len;have jd:=a2.len;by_cases ar:(dl zs[j].2).length=(dl aD[j].2).length
   ·have z:=SeqAt.RcAt.lists (A:=X.A.in1) (e:=gv (dl zs[j].2) (dl aD[j].2)) g8.isList gU.isList (by rw [cM,cM];omega) (by show X.A.units+1 < dC;omega) (λ i ae ag=>by
     have q:=oP I (dl zs[j].2) (dl aD[j].2) X.A.in1.in1 KW KY VF VG (oW k1.data) (oW k2.data) a1 a2 pW K0 (by show X.A.units+1+1+cc _ < dC;rw [jy.bC k1.z3];omega) i (by simpa using ae) (by simpa using ag)
     simpa using q)
    rw [cM,<- bD,iO,CQ ar] at z;exact z
   ·rw [zI ar];exact SeqAt.RcAt.lists_lengths g8.isList gU.isList (by rw [cM,cM];simp;omega) (by show X.A.units+1 < dC;omega)
 ·rw [lz]
  have ap:(zs.map λ z=>Value.ref z.1).toArray.size=zs.length:=by simp
  constructor
  ·intro q0;refine uN (by simp [hlen]) λ i ae ag=>?_;rw [er] at ae ag;have q:=q0 i (n3.mpr (by rw [ap];exact ae));simp only [iG,fv ae,fv ag,uW,uX] at q;rw [uO,uO];exact (hz _ (jJ ae)).1.eq1 _ (bv _ (jJ ag)).1 q
  ·intro e i av
   have ae:i < zs.length:=by rw [<- ap];exact n3.mp av
   simp only [<- e];rw [iG,fv ae];exact nJ (hz _ (jJ ae)).1.data
abbrev VH:ht:=λ x y G Q=>match x,y with
 | .ref l,.ref m=>∃ zs aD:List (Addr × D),G l=some (.lst (zs.map λ z=>D.ref z.1))/\G m=some (.lst (aD.map λ z=>D.ref z.1))/\(∀ z∈zs,p8 G z)/\(∀ z∈aD,p8 G z)/\zs.length=aD.length/\∀ b:Bool,(b=true ↔ zs.map (·.2)=aD.map (·.2))->Q (.aI b) G
 | _,_=>False
theorem VI(a_:X.A.units+200 < dC):f5 X (d3 .Eq) VH:=by
 refine ⟨_,⟨VD a_⟩,λ x y ez hh G H ay Q v aQ a5 r F=>?_⟩
 cases x with
 | ref l=>
  cases y with
  | ref m=>
   cases aQ;cases a5;obtain ⟨zs,aD,aC,aG,hz,bv,ar,q⟩:=r;obtain ⟨ws,g1,aT⟩:=v _ _ aC;obtain ⟨afh,g2,a0⟩:=v _ _ aG;rw [z7 aT] at g1;rw [z7 a0] at g2;refine ⟨l,m,zs,aD,rfl,rfl,.inl (.inl g1),.inl (.inl g2),λ z h=>(hz z h).to v,λ z h=>(bv z h).to v,ar,λ z ae y ag e=>?_,λ b af=>F (.aI b) G _ H (.refl v) rfl (q b af)⟩;have g8:=(hz z ae).2;have gU:=(bv y ag).2;rw [e,gU] at g8;exact (hz z ae).1.KS (bv y ag).1 (by simpa using g8.symm)
  | _=>exact (show False from r).elim
 | _=>exact (show False from r).elim
end
end L3
namespace L2
open PySem PySem.Spec PyProof.Rows
section
variable{X:aW}
def VJ(K:aX):eX:=λ x y H Q=>∃ a vs z,x=.ref a/\eu K H a vs/\y=.str z/\Q (.aI false) H
theorem VK(a_:X.A.units+200 < dC):dS X (d3 .Eq) (VJ X.K):=by
 intro pins s σ H x y v u Q I a7 cF h;obtain ⟨a,vs,z,rfl,fo,rfl,q⟩:=h;cases a7;obtain ⟨t,rfl⟩:=cF;obtain ⟨az,b2,t1,_⟩:=I.list fo;exact SeqAt.RcAt.list_str z t t1.isList (by omega) X.prog X.w X.xe _ ⟨.aI false,H,I,rfl,q⟩
def VL(K:aX):eX:=λ x y H Q=>∃(p a:Addr)(zs:List Str),y=.ref p/\dH K H p (zs.map V.str)/\x=.ref a/\((∃ vs,dH K H a vs)\/∃ vs,eu K H a vs)/\Q (.aI false) H
theorem K1:∀{zs:List Str}{az:List Value},Vals (zs.map V.str) az->∀ w∈az,∃ z t,w=Value.str z t
 | [],_,h,w,hw=>by cases h;simp at hw
 | z::zs,_,h,w,hw=>by
  cases h with
  | cons h t=>
   obtain ⟨bL,rfl⟩:=h;rcases cC.mp hw with rfl | hw
   ·exact ⟨_,_,rfl⟩
   ·exact K1 t w hw
theorem VM(a_:X.A.units+200 < dC):dS X (d3 .In) (VL X.K):=by
 intro pins s σ H x y v u Q I a7 cF h;obtain ⟨p,a,zs,rfl,fo,rfl,ak,q⟩:=h;cases cF;cases a7;obtain ⟨az,r,pl,_⟩:=I.tuple fo;refine SeqAt.in_tupleAt (λ _=>false) pl (λ w hw=>?_) ⟨.aI _,H,I,rfl,?_⟩
 ·obtain ⟨z,t,rfl⟩:=K1 r w (by simpa using hw);rcases ak with ⟨vs,h⟩ | ⟨vs,h⟩
  ·obtain ⟨its',_,ww,_⟩:=I.tuple h;exact SeqAt.EqAt.str_tuple z t ww (by show X.A.units+1 < dC;omega)
  ·obtain ⟨its',_,ww,_⟩:=I.list h;exact SeqAt.EqAt.str_list z t ww.isList (by show X.A.units+1 < dC;omega)
 ·rw [show az.toArray.any (λ _=>false)=false by simp];exact q
end
end L2
namespace L3
open PySem PySem.Spec L2
section
variable{X:aW}
def De:ht:=λ x y G Q=>match x,y with
 | .ref l,.str _=>hJ G l λ _=>Q (.aI false) G
 | x,y=>rn id x y G Q
theorem rA(a_:X.A.units+200 < dC):f5 X (d3 .Eq) De:=by
 obtain ⟨rc,j,b2⟩:=(dK (X:=X) a_).run;refine ⟨_,⟨j.run.or (VK a_)⟩,λ x y ez hh G H ay Q v aQ a5 r F=>?_⟩;unfold De at r;split at r
 ·cases aQ;cases a5;obtain ⟨ds,vs,k,s,dJ⟩:=iN v r;exact .inr ⟨_,vs,_,rfl,s,rfl,F (.aI false) G _ H (.refl v) rfl k⟩
 ·exact .inl (b2 x y ez hh G H ay Q v aQ a5 r F)
def K2:ht:=λ x y G Q=>match y with
 | .tup ds=>∃ zs:List Str,ds=zs.map D.str/\(match x with
  | .ref l=>hJ G l λ _=>Q (.aI false) G
  | .tup _=>Q (.aI false) G
  | x=>j4 x=true/\Q (.aI (lR x ds)) G)
 | _=>False
theorem VN(zs:List Str):(zs.map D.str).all j4=true:=by
 rw [List.all_map,lz];intro z _;rfl
theorem K3{K:aX}{H:aw}:∀{zs:List Str}{vs:List V},bM K H (zs.map D.str) vs->vs=zs.map V.str
 | [],_,h=>h
 | z::zs,_,⟨v,r,e,q,l⟩=>by subst e;rw [K3 l,show v=V.str z from q];rfl
theorem K4(a_:X.A.units+200 < dC):f5 X (d3 .In) K2:=by
 obtain ⟨rc,j,b2⟩:=(p0 (X:=X)).run;refine ⟨_,⟨j.run.or (VM a_)⟩,λ x y ez hh G H ay Q v aQ a5 r F=>?_⟩;unfold K2 at r;split at r
 ·obtain ⟨zs,rfl,r⟩:=r;obtain ⟨p,ws,rfl,fo,dJ⟩:=id a5;have Df:=fo;rw [K3 dJ] at Df;split at r
  ·cases aQ;obtain ⟨ds,vs,k,s,_⟩:=iN v r;exact .inr ⟨p,_,zs,rfl,Df,rfl,.inr ⟨_,s⟩,F (.aI false) G _ H (.refl v) rfl k⟩
  ·obtain ⟨a,vs,rfl,s1,_⟩:=aQ;exact .inr ⟨p,a,zs,rfl,Df,rfl,.inl ⟨_,s1⟩,F (.aI false) G _ H (.refl v) rfl r⟩
  ·exact .inl (b2 x _ ez _ G H ay Q v aQ a5 ⟨r.1,VN zs,by simpa using r.2⟩ F)
 ·exact r.elim
end
end L3
namespace L2
open PySem PySem.Spec PyProof.Rows
section
variable{X:aW}{e st:a8}{aZ:TE}{bL:d6}{pos dZ:Pos}
theorem K5:∀{xs:List V}{us:List Value},Vals xs us->Vals xs.reverse us.reverse
 | _,_,.nil=>.nil
 | _,_,.cons r t=>by
  rw [sr,sr];exact (K5 t).append (.cons r .nil)
end
section
variable{prog:cL}{w:b8}{A:cz}{E:Value->aE->Prop}{s:aE}
theorem VO(n:Nat):Builtin.Slice.sliceAdjust none none (-1) (n:Int)=((n:Int) - 1,-1):=by
 unfold Builtin.Slice.sliceAdjust;simp
theorem VP(n:Nat):Builtin.Slice.slicePlaces ((n:Int) - 1) (-1) (-1)=n:=by
 unfold Builtin.Slice.slicePlaces;simp
 try omega
theorem VQ(xs:Array Value):((hE xs.size).filterMap λ(m:Nat)=>xs[((xs.size:Int) - 1+(m:Int) * -1).toNat]?).toArray=xs.toList.reverse.toArray:=by
 congr 1
 have e:(λ(m:Nat)=>xs[((xs.size:Int) - 1+(m:Int) * -1).toNat]?)=λ m=>xs[xs.size - 1 - m]?:=by
  funext m
  have:((xs.size:Int) - 1+(m:Int) * -1).toNat=xs.size - 1 - m:=by omega
  rw [this]
 rw [e];have h:=PySem.W.krv_range xs.size;have ag:=PySem.W.krv_all xs
 have:(hE xs.size).filterMap (λ m=>xs[xs.size - 1 - m]?)=((hE xs.size).map λ k=>xs.size - 1 - k).filterMap (xs[·]?):=by rw [List.filterMap_map];rfl
 rw [this,h,List.filterMap_reverse,ag]
theorem VR{t bz:Addr}{items:Array Value}{oX:Value}{Q:Value->aE->Prop}(bh:ma s.heap t items)(ap:s.heap.IsSliceOf bz .none .none oX)(wx:l9 oX (some (-1)))
 (h:Q (.ref s.heap.objs.size) { s with heap:=s.heap.push { cls:=.type "tuple", data:=.seq items.toList.reverse.toArray } })
 (hsz:items.size<=sizeLine):aU (aY prog w) A (nZ (.ref t) (.ref bz)) Q E s:=by
 have oo:sizeOk (.seq items.toList.reverse.toArray):=by
  show items.toList.reverse.toArray.size<=sizeLine;rw [cM,ig,fO];omega
 obtain ⟨os,lI,sW,fz⟩:=id ap
 have vt:s.TypeIs (.ref bz) "slice":=⟨os,lI,sW⟩
 unfold nZ
 try with_reducible refine jn ?_
 first | refine aA (br ?_) | skip
 refine aA (Bg bh.typeIs (by decide) ?_);refine aA (wpAny_callSpecial?_slot (name:=Str.ofString "__getitem__") bh.typeIs slot_tuple_getitem (kg slot_tuple_getitem bh.typeIs Br ?_ (Bs _ _)));refine (show aU _ _ (Builtin.Tuple.tupleItemsOf (.ref t) >>= _) _ _ s from aA (Bt bh (aA (qv vt ?_))));rw [if_pos (by decide)]
 have VS:∀(h1:Int × Int × Nat->aE->Prop)(gX:Value->aE->Prop)(lj:cz),h1 ((items.size:Int) - 1,-1,items.size) s->aU (aY prog w) lj (Builtin.Slice.sliceApplied (.ref bz) (pure (items.size:Int))) h1 gX s:=λ h1 gX lj q=>by
  unfold Builtin.Slice.sliceApplied Builtin.Slice.sliceFields;refine aA (aA (fi lI fz (x:=.none) rfl (aA (fi lI fz (x:=.none) rfl (aA (fi lI fz (x:=oX) rfl (br ?_)))))));refine aA (dq.vr wx ?_);refine (show aU _ _ (if ((-1:Int)==0)=true then _ else _) _ _ s from ?_);rw [if_neg (by decide)];refine aA (dq.vr .none (aA (dq.vr .none (aA (br ?_)))));show aU _ _ (match Builtin.Slice.sliceAdjust none none (-1) (items.size:Int) with | (lo,av)=>pure (lo,(-1:Int),Builtin.Slice.slicePlaces lo av (-1))) _ _ s;rw [VO];show aU _ _ (pure ((items.size:Int) - 1,(-1:Int),Builtin.Slice.slicePlaces ((items.size:Int) - 1) (-1) (-1))) _ _ s;rw [VP];exact br q
 refine aA (VS _ _ _ ?_);refine (show aU _ _ (if ((((items.size:Int) - 1)==0&&(-1:Int)==1&&items.size==items.size)=true) then _ else _) _ _ s from ?_);rw [if_neg (by simp),VQ]
 first
  | exact aA (m:=Builtin.Tuple.tupleExact _) (kf (br ⟨_,rfl,br h⟩) oo)
  | exact aA (m:=Builtin.Tuple.tupleExact _) (kf (aA (br (br ⟨_,rfl,br h⟩))) oo)
  | exact aA (aA (m:=Builtin.Tuple.tupleExact _) (kf (br (br ⟨_,rfl,br h⟩)) oo))
  | exact aA (aA (m:=Builtin.Tuple.tupleExact _) (kf (br ⟨_,rfl,br h⟩) oo))
end
section
variable{X:aW}{e st:a8}{aZ:TE}{bL:d6}{pos dZ:Pos}
def VT(K:aX)(aZ:TE)(bL:d6):TE:=λ σ H Q=>aZ σ H λ x H1=>bL σ H1 λ k bg=>k=some (-1)/\∃(a:Addr)(xs:List V),x=.ref a/\dH K bg a xs/\∀ p,bg p=none->Q (.ref p) (upd bg p (.tup xs.reverse))
theorem VU(he:b_ X e aZ)(aN:pL X (some st) bL):b_ X (.Subscript e (.Slice none none (some st) dZ) pos) (VT X.K aZ bL):=by
 intro pins s σ H Q I h;refine xT (b0 (he pins s σ H _ I h) λ v s1 ⟨x,H1,a4,aT,aF⟩=>?_);refine wpAny_Slice ?_;rw [xN];refine br (br ?_);refine b0 (aN pins s1 σ H1 _ a4 aF) λ oX s3 ⟨k,dI,eH,wx,aC,a,xs,aG,ak,dw⟩=>?_;subst aC aG;cases aT;have ij:Inv X pins σ dI { s3 with heap:=s3.heap.push { cls:=.type "slice", data:=.fields #[.none,.none,oX] } }:=eH.kept (t':=s3.toks) λ b c_ q=>cP _ q;obtain ⟨az,r,bh,hz⟩:=ij.tuple ak;have hlen:=r.length;show aU (aY X.prog X.w) X.A (xS e (.Slice none none (some st) dZ) (.ref a) (.ref s3.heap.objs.size)) (f_ X pins σ Q) X.xe { s3 with heap:=s3.heap.push { cls:=.type "slice", data:=.fields #[.none,.none,oX] } };refine tail_any (ops:=[.ref a,.ref s3.heap.objs.size]) bh.typeIs slot_tuple_getitem.lookup ?_ (by with_unfolding_all rfl);refine VR bh (Heap.IsSliceOf.new ..) wx ?_ (by rw [cM];omega);refine ⟨.ref _,_,ij.laid (t':=s3.toks) (o:=.tup xs.reverse) (λ b c_ q=>cP _ q) (ZB _) ?_,rfl,dw _ (ij.bJ.fresh (ZB _))⟩;exact ⟨by rw [ig];exact hz,az.reverse,K5 r,IsTup.new _ _⟩
end
end L2
namespace L3
open PySem PySem.Spec L2
section
variable{X:aW}{e st:a8}{aZ:cn}{bL:oG}{pos dZ:Pos}
abbrev VV(aZ:cn)(bL:oG):cn:=λ ρ G Q=>aZ ρ G λ x aB=>bL ρ aB λ k bf=>k=some (-1)/\match x with
 | .tup ds=>Q (.tup ds.reverse) bf
 | _=>False
theorem VW(he:cu X e aZ)(aN:ra X (some st) bL):cu X (.Subscript e (.Slice none none (some st) dZ) pos) (VV aZ bL):=by
 obtain ⟨ce,oJ,re⟩:=he.run;obtain ⟨VX,Dg,Dh⟩:=aN.run;refine ⟨_,⟨VU oJ.run Dg.run⟩,λ ρ G ay σ H Q B q F=>re ρ G _ σ H _ B q λ x aB v H1 g1 aQ aF=>Dh ρ aB _ σ H1 _ (B.go g1) aF λ k bf bg g2 ⟨aC,bo⟩=>?_⟩
 cases x with
 | tup ds=>
  obtain ⟨a,vs,rfl,s,dJ⟩:=aQ.mono g2.tup;refine ⟨aC,a,vs,rfl,s,λ p ah=>?_⟩;have g3:=Go.nG (G:=bf) (o:=.tup vs.reverse) g2.cA ah;exact F (.tup ds.reverse) _ _ _ ((g1.trans g2).trans g3) ⟨p,vs.reverse,rfl,.inl (.inl eG),dJ.reverse.mono g3.tup⟩ bo
 | _=>exact (show False from bo).elim
end
end L3
namespace L2
open PySem PySem.Spec PyProof.Rows
def Di(K:aX)(a:Addr)(n:Nat):kt:=
 ⟨λ i H=>i < n/\∃ xs,dH K H a xs/\xs.length=n,λ i H x aj=>aj=H/\∀ xs,dH K H a xs->xs[n - 1 - i]?=some x,λ i _=>n<=i⟩
theorem VY{P:cL}{w:b8}{K:aX}{bl:a8}(a it:Addr)(n:Nat):Turn P w K bl (Di K a n) [it] it (λ i h=>i<=n/\lN.s6 h it a ((n:Int) - 1 - (i:Int))) where
 mem:=by simp
 obj:=λ i h st b af=>by
  have e:b=it:=by simpa using af
  subst e;exact ⟨_,st.2,λ v z=>by cases (show Data.fields _=Data.cell v from z)⟩
 keep:=λ i h h' st k=>⟨st.1,k it (by simp) _ st.2⟩
 item:=by
  intro X e5 hw eT ai i pins s σ H E I hf st a3;subst e5 hw eT;obtain ⟨av,xs,bc,ak⟩:=a3;obtain ⟨_,st⟩:=st;obtain ⟨az,a6,p,hz⟩:=I.tuple bc
  have fm:n - 1 - i < xs.length:=by omega
  have K6:xs[n - 1 - i]?=some xs[n - 1 - i]:=fv fm;obtain ⟨u,a_,c5⟩:=a6.get K6;obtain ⟨f0,f1,f2,cV,f4,eI⟩:=hf it (by simp);have aH:=om;rw [show (n:Int) - 1 - (i:Int)=((n - 1 - i:Nat):Int) by omega] at st;refine lN.nextT st p (x:=u) (by simpa using a_) (by omega) λ h' bL dO i7=>?_;have a4:Inv X pins σ H { s with heap:=h',toks:=bL }:=I.turned (λ b o af e=>(i7.2 b af).trans e) f0 f1 cV f4 eI;refine ⟨u,rfl,vh (s:={ s with heap:=h',toks:=bL }) dO rfl rfl (by decide) ⟨_,H,a4,c5,⟨rfl,λ aD bv=>by rw [I.sR bv bc];exact K6⟩,⟨av,?_⟩,λ b af=>(hf b af).1⟩⟩;rw [show (n:Int) - 1 - ((i+1:Nat):Int)=((n - 1 - i:Nat):Int) - 1 by omega];exact dO
 done:=by
  intro X e5 hw eT ai i pins s σ H E I hf st a3;subst e5 hw eT;have afi:n<=i:=a3;obtain ⟨av,st⟩:=st;obtain ⟨f0,f1,f2,cV,f4,eI⟩:=hf it (by simp)
  exact lN.S7 (I.ok.hd ai) st (by omega) λ h' gl=>⟨rfl,I.turned (t':=s.toks) (λ b o af e=>gl b o af e) f0 f1 cV f4 eI⟩
 self:=λ _ _ _ _ _ st h=>lN.IZ st.2 h
section
variable{X:aW}
def VZ(K:aX)(e6:TE):TI:=λ σ H R=>e6 σ H λ x H1=>∃ a xs,x=.ref a/\dH K H1 a xs/\R (Di K a xs.length) H1
theorem V0{bl e:a8}{e6:TE}{p pos:Pos}(a3:et X "reversed")(hm:X.mg "reversed" = none)(ar:b_ X e e6)(ap:e7 e=true):mm X bl (.Call (.Name "reversed" p) [e] [] pos) (VZ X.K e6):=by
 intro pins s σ H R I h;refine b0 (Tb (R:=λ a xs H1=>R (Di X.K a xs.length) H1) a3 hm ar ap I h) λ v s1 ae=>?_;obtain ⟨a,it,xs,az,H1,rfl,a4,hit,bh,ep,a6,hz,_,fp,q⟩:=ae;have z8:=a6.length;refine lN.IZ hit ⟨it,[it],_,_,H1,rfl,a4,VY a it xs.length,?_,λ b af=>?_,q⟩
 ·rw [cM,<- z8] at hit;exact ⟨ef _,by simpa using hit⟩
 ·have e:b=it:=by simpa using af
  subst e;exact fp
end
end L2
namespace L3
open PySem PySem.Spec L2
section
variable{X:aW}{bl a:a8}{bb:cn}{p pos:Pos}
abbrev V1(bb:cn):kF:=λ ρ G R=>bb ρ G λ x aB=>match x with
 | .tup ds=>R ⟨ds.reverse,λ _=>True⟩ aB
 | _=>False
theorem V2(a3:et X "reversed")(hm:X.mg "reversed" = none)(ax:cu X a bb)(ap:e7 a=true:=by rfl):mJ X bl (.Call (.Name "reversed" p) [a] [] pos) (V1 bb):=by
 obtain ⟨ca,cv,cw⟩:=ax.run;refine ⟨_,⟨V0 a3 hm cv.run ap⟩,λ ρ G lg σ H R B q F=>cw ρ G _ σ H _ B q λ x aB v H1 g1 aQ aF=>?_⟩
 cases x with
 | tup ds=>
  obtain ⟨l,vs,rfl,fo,r⟩:=aQ;refine ⟨l,vs,rfl,fo,F ⟨ds.reverse,λ _=>True⟩ _ aB H1 g1 (λ bf bg g2 _=>?_) aF⟩;have tx:=g2.tup.gL _ _ fo;have a0:=r.mono g2.tup;have dt:=r.len;refine ⟨λ i d kT=>?_,λ i av=>?_⟩
  ·replace kT:ds.reverse[i]?=some d:=kT
   have av:i < ds.length:=by
    rcases yh i ds.length with c | c
    ·exact c
    ·rw [x3 (by rw [ig];exact c)] at kT;cases kT
   rw [List.getElem?_reverse av] at kT;obtain ⟨w,hw,oL⟩:=a0.get kT;refine ⟨⟨by omega,vs,tx,rfl⟩,λ x aj y=>?_⟩;obtain ⟨rfl,y⟩:=y;have z:=y vs tx;rw [dt,hw] at z;cases z;exact ⟨.refl g2.cA,oL⟩
  ·have s7:ds.reverse.length<=i:=av;rw [ig] at s7;show vs.length<=i;omega
 | _=>exact (show False from aF).elim
end
def gO:List D->Bool
 | a::b::r=>(cg b a==some false)&&gO (b::r)
 | _=>true
inductive eb:D->Prop
 | is (n:Int):eb (.tup [.str "is", .int n])
 | some:eb (.tup [.str "some"])
 | both {a b:D}:eb a->eb b->g5 a=true->g5 b=true->eb (.tup [.str "both", a,b])
 | left {a:D}:eb a->eb (.tup [.str "left", a])
 | right {a:D}:eb a->eb (.tup [.str "right", a])
 | way {ds:List D} {k:D}:(∀ d∈ds,eb d)->gO ds=true->eb k->eb (.tup [.str "way", .tup ds,k])
theorem eb.e9{d:D}(h:eb d):bx d:=by
 induction h with
 | is n=>exact .is n
 | some=>exact .some
 | both _ _ _ _ ae ag=>exact .both ae ag
 | left _ h=>exact .left h
 | right _ h=>exact .right h
 | way _ _ _ ae ag=>exact .way ae ag
inductive hR:D->Prop
 | is (n:Int):hR (.tup [.str "is", .int n])
 | some:hR (.tup [.str "some"])
 | both {a b:D}:hR a->hR b->g5 a=true->g5 b=true->hR (.tup [.str "both", a,b])
 | left {a:D}:hR a->hR (.tup [.str "left", a])
 | right {a:D}:hR a->hR (.tup [.str "right", a])
 | way {ds:List D} {k:D}:(∀ d∈ds,hR d)->hR k->hR (.tup [.str "way", .tup ds,k])
theorem hR.e9{d:D}(h:hR d):bx d:=by
 induction h with
 | is n=>exact .is n
 | some=>exact .some
 | both _ _ _ _ ae ag=>exact .both ae ag
 | left _ h=>exact .left h
 | right _ h=>exact .right h
 | way _ _ ae ag=>exact .way ae ag
inductive fg:D->List D->List (List D)->Prop
 | is (n:Int):fg (.tup [.str "is", .int n]) [] []
 | some:fg (.tup [.str "some"]) [] []
 | both {a b:D}:g5 a=true->g5 b=true->fg (.tup [.str "both", a,b]) [a,b] []
 | left (a:D):fg (.tup [.str "left", a]) [a] []
 | right (a:D):fg (.tup [.str "right", a]) [a] []
 | way (ds:List D) (k:D):fg (.tup [.str "way", .tup ds,k]) (ds++[k]) [ds]
theorem fg.gP{d:D}{is:List D}{bs:List (List D)}(h:fg d is bs):eb d ↔ (∀ x∈is,eb x)/\∀ b∈bs,gO b=true:=by
 cases h with
 | is n=>exact ⟨λ _=>by simp,λ _=>.is n⟩
 | some=>exact ⟨λ _=>by simp,λ _=>.some⟩
 | both dA cT=>exact ⟨λ z=>by cases z with | both ae ag _ _=>simp [ae,ag],λ z=>.both (z.1 _ (by simp)) (z.1 _ (by simp)) dA cT⟩
 | left a=>exact ⟨λ z=>by cases z with | left h=>simp [h],λ z=>.left (z.1 _ (by simp))⟩
 | right a=>exact ⟨λ z=>by cases z with | right h=>simp [h],λ z=>.right (z.1 _ (by simp))⟩
 | way ds k=>
  refine ⟨λ z=>by cases z with | way ae ag aR=>exact ⟨λ x ak=>by rcases fc.mp ak with ak | ak;exact ae x ak;simp at ak;subst ak;exact aR,by simpa using ag⟩,λ z=>.way (λ d hd=>z.1 d (kj _ hd)) (z.2 _ (by simp)) (z.1 _ (by simp))⟩
theorem fg.fr{d:D}{is:List D}{bs:List (List D)}(h:fg d is bs)(av:∀ x∈is,hR x):hR d/\∀ b∈bs,∀ x∈b,hR x:=by
 cases h with
 | is n=>exact ⟨.is n,by simp⟩
 | some=>exact ⟨.some,by simp⟩
 | both dA cT=>exact ⟨.both (av _ (by simp)) (av _ (by simp)) dA cT,by simp⟩
 | left a=>exact ⟨.left (av _ (by simp)),by simp⟩
 | right a=>exact ⟨.right (av _ (by simp)),by simp⟩
 | way ds k=>exact ⟨.way (λ d hd=>av d (kj _ hd)) (av _ (by simp)),λ b af x ak=>by simp at af;subst af;exact av x (kj _ ak)⟩
theorem eb.hf{d:D}(h:eb d):∃ is bs,fg d is bs:=by
 cases h with
 | is n=>exact ⟨_,_,.is n⟩
 | some=>exact ⟨_,_,.some⟩
 | both _ _ dA cT=>exact ⟨_,_,.both dA cT⟩
 | left _=>exact ⟨_,_,.left _⟩
 | right _=>exact ⟨_,_,.right _⟩
 | way _ _ _=>exact ⟨_,_,.way _ _⟩
inductive gQ(L:Addr->Prop):D->Prop
 | int (n:Int):gQ L (.int n)
 | str (z:Str):gQ L (.str z)
 | a9:gQ L .a9
 | aI (b:Bool):gQ L (.aI b)
 | ref {a:Addr} (h:L a):gQ L (.ref a)
 | tup {ds:List D} (h:∀ d∈ds,gQ L d):gQ L (.tup ds)
theorem gQ.mono{L M:Addr->Prop}(h:∀ a,L a->M a){d:D}(t:gQ L d):gQ M d:=by
 induction t with
 | int n=>exact .int n
 | str z=>exact .str z
 | a9=>exact .a9
 | aI b=>exact .aI b
 | ref q=>exact .ref (h _ q)
 | tup _ aO=>exact .tup aO
theorem gQ.items{L:Addr->Prop}{ds:List D}(h:gQ L (.tup ds)):∀ d∈ds,gQ L d:=by cases h with | tup h=>exact h
abbrev p9(G:aP)(a:Addr):Prop:=∃ ds,G a=some (.lst ds)
mutual
def cB:D->Nat
 | .tup ds=>1+b4 ds
 | _=>1
def b4:List D->Nat
 | []=>0
 | d::ds=>cB d+b4 ds
end
mutual
def fu:D->Nat
 | .tup ds=>max ds.length (jh ds)
 | _=>0
def jh:List D->Nat
 | []=>0
 | d::ds=>max (fu d) (jh ds)
end
theorem z9:∀ xs aD:List D,b4 (xs++aD)=b4 xs+b4 aD
 | [],aD=>by simp [b4]
 | x::xs,aD=>by rw [eF,b4,b4,z9 xs aD,Nat.add_assoc]
theorem z_{d:D}:∀{ds:List D},d∈ds->cB d<=b4 ds
 | [],h=>by simp at h
 | e::ds,h=>by
  rw [b4];rcases cC.mp h with rfl | h
  ·omega
  ·have:=z_ h;omega
theorem Dj{d:D}:∀{ds:List D},d∈ds->fu d<=jh ds
 | [],h=>by simp at h
 | e::ds,h=>by
  rw [jh];rcases cC.mp h with rfl | h
  ·omega
  ·have:=Dj h;omega
theorem K7:∀ d:D,1<=cB d
 | .tup ds=>by rw [cB];omega
 | .int _=>ZB _
 | .str _=>ZB _
 | .a9=>ZB _
 | .aI _=>ZB _
 | .ref _=>ZB _
 | .ty _=>ZB _
 | .d7 _=>ZB _
theorem Aa:∀ ds:List D,ds.length<=b4 ds
 | []=>ef _
 | d::ds=>by have:=Aa ds;have:=K7 d;rw [b4,bR];omega
theorem Dk{xs aD:List D}(h:xs.Perm aD):b4 xs=b4 aD:=by
 induction h with
 | nil=>rfl
 | cons _ _ aO=>rw [b4,b4,aO]
 | swap _ _ _=>rw [b4,b4,b4,b4];omega
 | trans _ _ ae ag=>rw [ae,ag]
theorem Dl{n:Nat}:∀{ds:List D},(∀ d∈ds,cB d<=n)->b4 ds<=ds.length * n
 | [],_=>by simp [b4]
 | d::ds,h=>by
  have ae:=h d (bT ..);have ag:=Dl λ e he=>h e (bY _ he);rw [b4,bR,Nat.succ_mul];omega
theorem wy{n:Nat}:∀{ds:List D},(∀ d∈ds,fu d<=n)->jh ds<=n
 | [],_=>ef _
 | d::ds,h=>by
  have ae:=h d (bT ..);have ag:=wy λ e he=>h e (bY _ he);rw [jh];omega
structure dL(s p w:Nat)(d:D):Prop where
 eW:cB d<=s
 bC:d.bC<=p
 h7:fu d<=w
theorem dL.mono{s p w aM e_ iJ:Nat}{d:D}(h:dL s p w d)(ae:s<=aM)(ag:p<=e_)(aR:w<=iJ):dL aM e_ iJ d:=⟨gF h.eW ae,gF h.bC ag,gF h.h7 aR⟩
theorem dL.item{s p w:Nat}{ds:List D}(h:dL s p w (.tup ds)){d:D}(hd:d∈ds):dL (s - 1) (p - 1) w d:=by
 have ae:=h.eW;have ag:=h.bC;have aR:=h.h7;rw [cB] at ae;rw [D.bC] at ag;rw [fu] at aR;have:=z_ hd;have:=zM hd;have:=Dj hd;exact ⟨by omega,by omega,by omega⟩
theorem tz{ds:List D}(h:jx ds):gO ds=true:=by
 induction ds with
 | nil=>rfl
 | cons a r aO=>
  cases r with
  | nil=>rfl
  | cons b r=>
   rw [gO,aO (List.Pairwise.of_cons h),(x9.mp h).1 b (bT ..)];rfl
theorem K8{a:D}:∀{r:List D},bx a->(∀ d∈r,bx d)->gO (a::r)=true->∀ d∈r,cg d a=some false
 | [],_,_,_,d,hd=>by simp at hd
 | b::r,ax,ao,h,d,hd=>by
  rw [gO,fe,beq_iff_eq] at h;have iz:=ao b (bT ..);rcases cC.mp hd with rfl | hd
  ·exact h.1
  ·have gP:=ao d (bY _ hd);have ag:=K8 iz (λ e he=>ao e (bY _ he)) h.2 d hd;obtain ⟨v,bO⟩:=n5.mp (gP.lt ax)
   cases v with
   | false=>exact bO
   | true=>
    rcases iz.ts d gP with e | e | e
    ·subst e;rw [h.1] at bO;cases bO
    ·have z:=C9 iz d a gP ax e bO;rw [h.1] at z;cases z
    ·rw [ag] at e;cases e
theorem K9:∀{ds:List D},(∀ d∈ds,bx d)->gO ds=true->jx ds
 | [],_,_=>List.Pairwise.nil
 | a::r,aN,h=>by
  have ao:∀ d∈r,bx d:=λ d hd=>aN d (bY _ hd);refine x9.mpr ⟨K8 (aN a (bT ..)) ao h,K9 ao ?_⟩
  cases r with
  | nil=>rfl
  | cons b r=>rw [gO,fe] at h;exact h.2
theorem V3{a b:D}(ax:bx a)(af:bx b)(ae:cg a b=some false)(ag:cg b a=some false):a=b:=by
 rcases ax.ts b af with h | h | h
 ·exact h
 ·rw [ae] at h;cases h
 ·rw [ag] at h;cases h
theorem K_:∀{xs aD:List D},(∀ d∈xs,bx d)->xs.Perm aD->jx xs->jx aD->xs=aD
 | [],aD,_,ah,_,_=>(List.perm_nil.mp ah.symm).symm
 | x::xs,[],_,ah,_,_=>absurd (List.perm_nil.mp ah) (by simp)
 | x::xs,y::aD,aN,ah,ae,ag=>by
  have V4:=aN x (bT ..);have V5:bx y:=aN y (ah.mem_iff.mpr (bT ..))
  have e:x=y:=by
   have ei:x∈y::aD:=ah.mem_iff.mp (bT ..);have eD:y∈x::xs:=ah.mem_iff.mpr (bT ..);rcases cC.mp ei with h | h
   ·exact h
   ·rcases cC.mp eD with g | g
    ·exact g.symm
    ·exact V3 V4 V5 ((x9.mp ag).1 x h) ((x9.mp ae).1 y g)
  subst e;rw [K_ (λ d hd=>aN d (bY _ hd)) (List.Perm.cons_inv ah) (List.Pairwise.of_cons ae) (List.Pairwise.of_cons ag)]
theorem La{xs aD:List D}(aN:∀ d∈xs,bx d)(ah:xs.Perm aD)(ap:jx aD):xs=aD ↔ gO xs=true:=
 ⟨λ e=>by rw [e];exact tz ap,λ h=>K_ aN ah (K9 aN h) ap⟩
def Dm:fJ:=λ ds G Q=>∃ d:D,ds=[d]/\gQ (p9 G) d/\∀ b:Bool,(b=true ↔ ∃ n,d=.int n)->Q (.aI b) G
def Dn:fJ:=λ ds G Q=>∃ d:D,ds=[d]/\gQ (p9 G) d/\Q (.aI (g5 d)) G
def Do:fJ:=λ ds G Q=>∃ d:D,ds=[d]/\gQ (p9 G) d/\∀ b:Bool,(b=true ↔ ∃ is bs,fg d is bs)->Q (.aI b) G
def Dp:fJ:=λ ds G Q=>∃(d:D)(is:List D)(bs:List (List D)),ds=[d]/\fg d is bs/\cB d<=100000/\Q (.tup is) G
def Dq:fJ:=λ ds G Q=>∃ d:D,ds=[d]/\bx d/\cB d<=49000/\∀ l,G l=none->Q (.ref l) (up G l (.lst (dl d)))
def Dr:fJ:=λ ds G Q=>∃ es:List D,ds=[.tup es]/\(∀ d∈es,bx d/\cB d<=49000)/\es.length < 64/\Q (.aI (gO es)) G
def Ds:fJ:=λ ds G Q=>∃ d:D,ds=[d]/\gQ (p9 G) d/\dL 49000 150 63 d/\∀ b:Bool,(b=true ↔ eb d)->Q (.aI b) G
def fK(a:Addr)(G au:aP):Prop:=∃ bS,e0 a G bS/\Sub bS au
theorem fg.inv{d:D}{is:List D}{bs:List (List D)}(h:fg d is bs):∀{z:Str}{r:List D},d=.tup (.str z::r)->(z = "is"/\(∃ n,r=[.int n]))\/(z = "some"/\r=[])\/(z = "both"/\∃ a b,r=[a,b]/\g5 a=true/\g5 b=true)\/((z = "left"\/z = "right")/\∃ a,r=[a])\/(z = "way"/\∃ ds k,r=[.tup ds,k]):=by
 intro z r e
 cases h with
 | is n=>cases e;exact .inl ⟨rfl,_,rfl⟩
 | some=>cases e;exact .inr (.inl ⟨rfl,rfl⟩)
 | both dA cT=>cases e;exact .inr (.inr (.inl ⟨rfl,_,_,rfl,dA,cT⟩))
 | left a=>cases e;exact .inr (.inr (.inr (.inl ⟨.inl rfl,_,rfl⟩)))
 | right a=>cases e;exact .inr (.inr (.inr (.inl ⟨.inr rfl,_,rfl⟩)))
 | way ds k=>cases e;exact .inr (.inr (.inr (.inr ⟨rfl,_,_,rfl⟩)))
theorem Ab{r:List D}:(∃ is bs,fg (.tup (.str "is"::r)) is bs) ↔ ∃ n,r=[.int n]:=by
 constructor
 ·rintro ⟨_,_,h⟩;rcases h.inv rfl with ⟨_,h⟩ | ⟨e,_⟩ | ⟨e,_⟩ | ⟨e | e,_⟩ | ⟨e,_⟩<;>first | exact h | exact absurd e (by decide)
 ·rintro ⟨n,rfl⟩;exact ⟨_,_,.is n⟩
theorem V6{r:List D}:(∃ is bs,fg (.tup (.str "some"::r)) is bs) ↔ r=[]:=by
 constructor
 ·rintro ⟨_,_,h⟩;rcases h.inv rfl with ⟨e,_⟩ | ⟨_,h⟩ | ⟨e,_⟩ | ⟨e | e,_⟩ | ⟨e,_⟩<;>first | exact h | exact absurd e (by decide)
 ·rintro rfl;exact ⟨_,_,.some⟩
theorem tA{r:List D}:(∃ is bs,fg (.tup (.str "both"::r)) is bs) ↔ ∃ a b,r=[a,b]/\g5 a=true/\g5 b=true:=by
 constructor
 ·rintro ⟨_,_,h⟩;rcases h.inv rfl with ⟨e,_⟩ | ⟨e,_⟩ | ⟨_,h⟩ | ⟨e | e,_⟩ | ⟨e,_⟩<;>first | exact h | exact absurd e (by decide)
 ·rintro ⟨a,b,rfl,dA,cT⟩;exact ⟨_,_,.both dA cT⟩
theorem wz{r:List D}:(∃ is bs,fg (.tup (.str "way"::r)) is bs) ↔ ∃ ds k,r=[.tup ds,k]:=by
 constructor
 ·rintro ⟨_,_,h⟩;rcases h.inv rfl with ⟨e,_⟩ | ⟨e,_⟩ | ⟨e,_⟩ | ⟨e | e,_⟩ | ⟨_,h⟩<;>first | exact h | exact absurd e (by decide)
 ·rintro ⟨a,b,rfl⟩;exact ⟨_,_,.way _ _⟩
theorem V7{z:Str}{r:List D}(ae:z≠"is")(ag:z≠"some")(aR:z≠"way")(bB:z≠"both"):(∃ is bs,fg (.tup (.str z::r)) is bs) ↔ (z = "left"\/z = "right")/\∃ a,r=[a]:=by
 constructor
 ·rintro ⟨_,_,h⟩;rcases h.inv rfl with ⟨e,_⟩ | ⟨e,_⟩ | ⟨e,_⟩ | h | ⟨e,_⟩
  ·exact absurd e ae
  ·exact absurd e ag
  ·exact absurd e bB
  ·exact h
  ·exact absurd e aR
 ·rintro ⟨rfl | rfl,a,rfl⟩
  ·exact ⟨_,_,.left a⟩
  ·exact ⟨_,_,.right a⟩
theorem V8{d:D}{is:List D}{bs:List (List D)}(h:fg d is bs):∃ z r,d=.tup (.str z::r):=by cases h<;>exact ⟨_,_,rfl⟩
theorem V9{d:D}(h:∀ z r,d≠.tup (.str z::r)):¬ ∃ is bs,fg d is bs:=λ⟨_,_,f⟩=>by
 obtain ⟨z,r,e⟩:=V8 f;exact h z r e
theorem Lb(z:Str):lR (.str z) [.str "left", .str "right"]=(z=="left"||z=="right"):=by
 have e:∀ a b:Str,(a==b)=(b==a):=λ a b=>by rw [pF,beq_iff_eq,beq_iff_eq];exact eq_comm
 simp only [lR,sk,List.any_nil,zt,Bool.or_false];rw [e "left" z,e "right" z]
mutual
def ws:D->Nat
 | .tup ds=>2+eU ds+ds.length
 | _=>1
def eU:List D->Nat
 | []=>0
 | d::ds=>ws d+eU ds
end
theorem Lc:∀ xs aD:List D,eU (xs++aD)=eU xs+eU aD
 | [],aD=>by simp [eU]
 | x::xs,aD=>by rw [eF,eU,eU,Lc xs aD,Nat.add_assoc]
mutual
theorem Ld:∀ d:D,ws d+1<=4 * cB d
 | .tup ds=>by rw [ws,cB];have:=Le ds;omega
 | .int _=>by simp [ws,cB]
 | .str _=>by simp [ws,cB]
 | .a9=>by simp [ws,cB]
 | .aI _=>by simp [ws,cB]
 | .ref _=>by simp [ws,cB]
 | .ty _=>by simp [ws,cB]
 | .d7 _=>by simp [ws,cB]
theorem Le:∀ ds:List D,eU ds+ds.length<=4 * b4 ds
 | []=>by simp [eU,b4]
 | d::ds=>by rw [eU,b4,bR];have:=Ld d;have:=Le ds;omega
end
theorem Lf(d:D):1<=ws d:=by cases d<;>simp [ws]<;>omega
theorem Ac:∀ ds:List D,ds.length<=eU ds
 | []=>ef _
 | d::ds=>by have:=Ac ds;have:=Lf d;rw [eU,bR];omega
mutual
theorem Ad:∀ d:D,(dl d).length<=ws d
 | .tup ds=>by rw [dl,ws];have:=V_ ds;omega
 | .int _=>by simp [ws,dl]
 | .str _=>by simp [ws,dl]
 | .a9=>by simp [ws,dl]
 | .aI _=>by simp [ws,dl]
 | .ref _=>by simp [ws,dl]
 | .ty _=>by simp [ws,dl]
 | .d7 _=>by simp [ws,dl]
theorem V_:∀ ds:List D,(lW ds).length<=1+eU ds+ds.length
 | []=>by simp [lW,eU]
 | d::ds=>by
  have ae:=Ad d;have ag:=Lg ds;have aR:=Lh ds;have bB:=Lf d;rw [lW,eU,bR];split<;>simp only [bR,dE]<;>omega
theorem Lg:∀ ds:List D,(fB ds).length<=eU ds
 | []=>by simp [fB]
 | d::ds=>by rw [fB,eU,dE];have:=Ad d;have:=Lg ds;omega
theorem Lh:∀ ds:List D,(hx ds).length<=1+eU ds+ds.length
 | []=>by simp [hx,eU]
 | d::ds=>by rw [hx,eU,bR,dE,bR];have:=Ad d;have:=Lh ds;omega
end
theorem Li:∀ xs aD:List D,fB (xs++aD)=fB xs++fB aD
 | [],aD=>by simp [fB]
 | x::xs,aD=>by rw [eF,fB,fB,Li xs aD,db]
abbrev nO(ds:List D):List D:=ds.flatMap λ d=>[.int 1,d]
theorem Lj(ps:List D):∀ ds:List D,fB (nO ds++.int 0::ps)=hx ds++fB ps
 | []=>by simp [nO,fB,dl,hx]
 | d::ds=>by
  have:=Lj ps ds;simp only [nO,List.flatMap_cons,eF,jo,fB,dl,hx,db] at this ⊢;rw [this]
theorem Lk(ps:List D):∀ ds:List D,eU (nO ds++.int 0::ps)=1+eU ds+ds.length+eU ps
 | []=>by simp [nO,eU,ws]
 | d::ds=>by
  have:=Lk ps ds;simp only [nO,List.flatMap_cons,eF,jo,eU,ws,bR] at this ⊢;omega
theorem Wa(ds:List D):(nO ds).reverse=ds.reverse.flatMap λ d=>[d,.int 1]:=by
 induction ds with
 | nil=>rfl
 | cons d ds aO=>
  have e:nO (d::ds)=[.int 1,d]++nO ds:=rfl;rw [e,List.reverse_append,aO,show (d::ds).reverse=ds.reverse++[d] from sr,List.flatMap_append];rfl
theorem Ll:∀ xs:List D,(xs.flatMap λ x=>[x,D.int 1]).length=2 * xs.length
 | []=>rfl
 | x::xs=>by rw [List.flatMap_cons,dE,Ll xs];simp;omega
inductive oY:D->Prop
 | k {d:D}:bx d->oY d
 | e1 {ds:List D}:(∀ d∈ds,bx d)->oY (.tup ds)
 | int (n:Int):oY (.int n)
 | str (z:Str):oY (.str z)
theorem bx.Wb{d:D}(h:bx d):∃ z r,d=.tup (.str z::r)/\∀ x∈r,oY x:=by
 cases h with
 | is n=>exact ⟨_,_,rfl,λ x ak=>by simp at ak;subst ak;exact .int _⟩
 | some=>exact ⟨_,_,rfl,by simp⟩
 | both ae ag=>exact ⟨_,_,rfl,λ x ak=>by simp at ak;rcases ak with rfl | rfl;exact .k ae;exact .k ag⟩
 | left ae=>exact ⟨_,_,rfl,λ x ak=>by simp at ak;subst ak;exact .k ae⟩
 | right ae=>exact ⟨_,_,rfl,λ x ak=>by simp at ak;subst ak;exact .k ae⟩
 | way ae ag=>exact ⟨_,_,rfl,λ x ak=>by simp at ak;rcases ak with rfl | rfl;exact .e1 ae;exact .k ag⟩
theorem fg.eW{d:D}{is:List D}{bs:List (List D)}(h:fg d is bs):b4 is < cB d/\∀ b∈bs,b4 b < cB d/\b.length<=fu d:=by
 cases h with
 | way ds k=>
  refine ⟨by simp only [z9,b4,cB];omega,λ b af=>?_⟩;simp at af;subst af;exact ⟨by simp only [b4,cB];omega,by simp only [fu,jh];omega⟩
 | _=>exact ⟨by simp only [b4,cB];omega,by simp⟩
theorem fg.mem{d:D}{is:List D}{bs:List (List D)}(h:fg d is bs){L:Addr->Prop}(t:gQ L d){s p w:Nat}(b:dL s p w d):∀ x∈is,gQ L x/\dL s p w x:=by
 have it:∀ ds:List D,gQ L (.tup ds)->dL s p w (.tup ds)->∀ x∈ds,gQ L x/\dL s p w x:=λ ds t b x ak=>⟨t.items x ak,(b.item ak).mono (by omega) (by omega) (ZB _)⟩
 cases h with
 | is n=>intro x ak;simp at ak
 | some=>intro x ak;simp at ak
 | both _ _=>intro x ak;exact it _ t b x (bY _ ak)
 | left a=>intro x ak;exact it _ t b x (bY _ ak)
 | right a=>intro x ak;exact it _ t b x (bY _ ak)
 | way ds k=>
  intro x ak;rcases fc.mp ak with ak | ak
  ·obtain ⟨dz,dx⟩:=it _ t b (.tup ds) (by simp);exact it _ dz dx x ak
  ·simp at ak;subst ak;exact it _ t b _ (by simp)
theorem Lm(ds:List D):b4 ds.reverse=b4 ds:=Dk (List.reverse_perm ds)
theorem Ln(k:Nat):dL (4 * 3 ^ k) (k+1) 3 (.tup [.str "some"]):=by
 have:=sA k 3 (by decide);exact ⟨by simp only [cB,b4];omega,by simp only [D.bC,cc];omega,by simp [fu,jh]⟩
theorem Lo(k:Nat)(n:Int):dL (4 * 3 ^ k) (k+1) 3 (.tup [.str "is", .int n]):=by
 have:=sA k 3 (by decide);exact ⟨by simp only [cB,b4];omega,by simp only [D.bC,cc];omega,by simp [fu,jh]⟩
theorem Wc{k:Int}{a b:D}(aN:0 < k)(ae:dL (4 * 3 ^ (k - 1).toNat) ((k - 1).toNat+1) 3 a)(ag:dL (4 * 3 ^ (k - 1).toNat) ((k - 1).toNat+1) 3 b):dL (4 * 3 ^ k.toNat) (k.toNat+1) 3 (.tup [.str "both", a,b]):=by
 have e:k.toNat=(k - 1).toNat+1:=by omega
 have:=sA (k - 1).toNat 3 (by decide);have:=ae.eW;have:=ag.eW;have:=ae.bC;have:=ag.bC;have:=ae.h7;have:=ag.h7;rw [e,yi];exact ⟨by simp only [cB,b4];omega,by simp only [D.bC,cc];omega,by simp only [fu,jh,bR,eL];omega⟩
theorem fK.of{a:Addr}{G au:aP}(h:e0 a G au):fK a G au:=⟨au,h,.refl _⟩
theorem fK.dr{a:Addr}{G au:aP}(h:fK a G au){b:Addr}{o:hr}(af:b≠a)(e:G b=some o):au b=some o:=by
 obtain ⟨bS,u,s⟩:=h;exact s _ _ (u.dr af e)
theorem fK.fd{a:Addr}{G au:aP}(h:fK a G au):h6 au a:=by
 obtain ⟨bS,u,s⟩:=h;obtain ⟨x,y,e⟩:=u.fd;exact ⟨x,y,s _ _ e⟩
theorem fK.trans{a:Addr}{G aB bf:aP}(h:fK a G aB)(g:fK a aB bf):fK a G bf:=by
 obtain ⟨bS,u,s⟩:=g;exact zS (λ b o nb e=>h.dr nb e) u s
theorem fK.new{a p:Addr}{G au:aP}{o:hr}(h:fK a G au)(ah:au p=none):fK a G (up au p o):=by
 obtain ⟨bS,u,s⟩:=h;exact ⟨bS,u,Sub.trans s (Sub.new (Sub.refl _) ah)⟩
theorem fK.sub{a:Addr}{G aB bf:aP}(h:fK a G aB)(s:Sub aB bf):fK a G bf:=by
 obtain ⟨bS,u,s0⟩:=h;exact ⟨bS,u,Sub.trans s0 s⟩
theorem Wd{s p w n:Nat}{ds:List D}(h:∀ d∈ds,dL s p w d)(ar:ds.length<=n)(hw:n<=w):dL (1+n * s) (p+1) w (.tup ds):=by
 have s1:=Dl λ d hd=>(h d hd).eW;have s2:ds.length * s<=n * s:=yj _ ar;have s3:=zR λ d hd=>(h d hd).bC;have s4:=wy λ d hd=>(h d hd).h7;exact ⟨by simp only [cB];omega,by simp only [D.bC];omega,by simp only [fu];omega⟩
theorem Lp{s p:Nat}{z:Str}{a:D}(h:dL s p 3 a):dL (s+2) (p+1) 3 (.tup [.str z,a]):=by
 have:=h.eW;have:=h.bC;have:=h.h7;exact ⟨by simp only [cB,b4];omega,by simp only [D.bC,cc];omega,by simp only [fu,jh,bR,eL];omega⟩
theorem Ae{s p aM e_:Nat}{z:Str}{a b:D}(h:dL s p 3 a)(g:dL aM e_ 3 b):dL (s+aM+2) (max p e_+1) 3 (.tup [.str z,a,b]):=by
 have:=h.eW;have:=h.bC;have:=h.h7;have:=g.eW;have:=g.bC;have:=g.h7;exact ⟨by simp only [cB,b4];omega,by simp only [D.bC,cc];omega,by simp only [fu,jh,bR,eL];omega⟩
theorem We{s p:Nat}{a:D}(h:dL s p 3 a):dL (s+1) (p+1) 3 (.tup [a]):=by
 have:=h.eW;have:=h.bC;have:=h.h7;exact ⟨by simp only [cB,b4];omega,by simp only [D.bC,cc];omega,by simp only [fu,jh,bR,eL];omega⟩
theorem Wf{s p aM e_:Nat}{ds:List D}{a b:D}(h:dL s p 3 a)(g:dL aM e_ 3 b)(ah:[a,b].Perm ds):dL (s+aM+1) (max p e_+1) 3 (.tup ds):=by
 have:=h.eW;have:=h.bC;have:=h.h7;have:=g.eW;have:=g.bC;have:=g.h7;have aC:=Dk ah;have aG:=ah.length_eq
 have m:∀ d∈ds,d=a\/d=b:=λ d hd=>by simpa using ah.mem_iff.mpr hd
 have s3:=zR (n:=max p e_) λ d hd=>by rcases m d hd with rfl | rfl<;>omega
 have s4:=wy (n:=3) λ d hd=>by rcases m d hd with rfl | rfl<;>omega
 simp only [b4,bR,eL] at aC aG;exact ⟨by simp only [cB];omega,by simp only [D.bC];omega,by simp only [fu];omega⟩
theorem Wg:dL 1 1 3 (.tup []):=⟨by simp [cB,b4],by simp [D.bC,cc],by simp [fu,jh]⟩
theorem Lq{α:Type}{xs:List α}{k:Nat}(h:k<=xs.length):cut xs (some (k:Int)) none=xs.drop k:=by
 unfold cut;rw [show dq.cp xs.length xs.length none=xs.length from rfl,show dq.cp xs.length 0 (some (k:Int))=k by unfold dq.cp;simp only [];rw [if_neg (by omega)];omega];rw [qH (by rw [hF];omega)]
end L3
namespace L2
open PySem PySem.Spec PyProof.Rows
section
variable{X:aW}
def Wh(i:Str)(n:Nat):Str:=⟨(gh n i.cps.toList).flatten.toArray⟩
def Wi:V->Option Int->Option Int->aw->cE->Prop:=λ x lo av H Q=>∃ z:Str,x=.str z/\z.length<=sizeLine/\Q (.str (Txt.slice z lo av)) H
theorem Wj:mv X Wi:=by
 intro pins s σ H x v fR gn lo av bz Q I a7 ap pl pu h;obtain ⟨z,rfl,hz,q⟩:=h;obtain ⟨t,rfl⟩:=a7;refine ⟨"str", _,F.slot_str_getitem.lookup,xP _ _ _,?_⟩
 have fin:∀ t' k,f_ X pins σ Q (.str (Txt.slice z lo av) t') { s with toks:=k }:=λ t' k=>⟨.str _,H,I.tok _,⟨_,rfl⟩,q⟩
 cases pl with
 | none=>cases pu with
  | none=>exact xH (l:=none) (u:=none) (st:=none) ap rfl (xL ⟨gF (Txt.slice_le z _ _) hz,fin⟩)
  | int j u=>exact xH (l:=none) (u:=some (j,u)) (st:=none) ap rfl (xL ⟨gF (Txt.slice_le z _ _) hz,fin⟩)
 | int i t0=>cases pu with
  | none=>exact xH (l:=some (i,t0)) (u:=none) (st:=none) ap rfl (xL ⟨gF (Txt.slice_le z _ _) hz,fin⟩)
  | int j u=>exact xH (l:=some (i,t0)) (u:=some (j,u)) (st:=none) ap rfl (xL ⟨gF (Txt.slice_le z _ _) hz,fin⟩)
end
end L2
namespace L3
open PySem PySem.Spec L2
section
variable{X:aW}
def afj:ht:=λ x y G Q=>match x,y with
 | .str z,.int n=>0<=n/\n<=1000/\z.length<=1000/\Q (.str (Wh z n.toNat)) G
 | _,_=>False
def Wk:D->Option Int->Option Int->aP->cJ->Prop:=λ x lo av G Q=>match x with
 | .str z=>z.length<=sizeLine/\Q (.str (Txt.slice z lo av)) G
 | _=>False
theorem hy:Cv X Wk:=by
 refine ⟨_,⟨Wj⟩,λ x ez lo av G H ay Q v aQ r F=>?_⟩
 cases x with
 | str z=>cases aQ;exact ⟨z,rfl,r.1,F (.str (Txt.slice z lo av)) G _ H (.refl v) rfl r.2⟩
 | _=>exact (show False from r).elim
def Dt:D->aP->Prop:=λ x _=>match x with
 | .str _=>True
 | _=>False
theorem Lr{K:aX}{x:D}{v:V}{G:aP}{H:aw}(aQ:dj K H x v)(h:Dt x G):sX K "str" v H:=by
 cases x with
 | str z=>cases aQ;exact rfl
 | _=>exact (show False from h).elim
end
end L3
namespace L2
open PySem PySem.Spec PyProof.Rows
section
variable{X:aW}{bl:a8}
theorem Wl:oq X "str.startswith" (λ x xs H Q=>∃ z y:Str,x=.str z/\xs=[.str y]/\Q (.aI (Txt.startswith z y)) H):=by
 intro pins s σ H x xs v us Q I a7 a6 h;obtain ⟨z,y,rfl,rfl,q⟩:=h;obtain ⟨t,rfl⟩:=a7;obtain ⟨u,rfl,c5⟩:=a6.one;obtain ⟨t',rfl⟩:=c5
 exact PySem.SC.startswith ⟨.aI _,H,I,rfl,q⟩
theorem Ls:∀{aD:List Str}{us:List Value},Vals (aD.map V.str) us->StrsAre us aD
 | [],_,h=>by cases h;exact .nil
 | y::aD,_,h=>by
  cases h with
  | cons r b2=>
   obtain ⟨t,rfl⟩:=r;exact .cons _ _ (Ls b2)
theorem Wm(K:aX)(eT:K=X.K):oq X "str.join" (λ x xs H Q=>∃(z:Str)(l:Addr)(aD:List Str),x=.str z/\xs=[.ref l]/\eu K H l (aD.map V.str)/\z.length<=16/\(aD.map (·.length)).sum+aD.length<=1048576/\Q (.str (Txt.join z aD)) H):=by
 subst eT;intro pins s σ H x xs v us Q I a7 a6 h;obtain ⟨z,l,aD,rfl,rfl,ar,hz,hw,q⟩:=h;obtain ⟨t,rfl⟩:=a7;obtain ⟨u,rfl,c5⟩:=a6.one;cases c5;obtain ⟨az,r,p,_⟩:=I.list ar
 exact PyProof.Rows.join_listW p.isList (by simpa using Ls r) hz hw λ t' k=>⟨.str _,H,I.tok _,⟨_,rfl⟩,q⟩
def wA(z:Str):kt:=⟨λ i _=>i < z.length,λ i H x aj=>aj=H/\∃ c,z.cps[i]?=some c/\x=.str ⟨#[c]⟩,λ i _=>z.length<=i⟩
theorem Wn{P:cL}{w:b8}{K:aX}{bl:a8}(it:Addr)(z:Str)(t:Tok)(ty:String)(gK:ty = "str_ascii_iterator"\/ty = "str_iterator"):Turn P w K bl (wA z) [it] it (λ i h=>i<=z.length/\h.IsStrIter it ty z t i) where
 mem:=by simp
 obj:=λ i h st b af=>by
  have e:b=it:=by simpa using af
  subst e;obtain ⟨_,o,e,c,d⟩:=st;exact ⟨o,e,λ v z=>by rw [d] at z;cases z⟩
 keep:=λ i h h' st k=>⟨st.1,let ⟨o,aS,r⟩:=st.2;⟨o,k it (by simp) o aS,r⟩⟩
 item:=by
  intro X e5 hw eT ai i pins s σ H E I hf st a3;subst e5 hw eT;obtain ⟨f0,f1,f2,cV,f4,eI⟩:=hf it (by simp)
  have W:Walks X.prog X.w X.A it [it] [it] z.cps.size (SignAt z) (λ i h=>h.IsStrIter it ty z t i):=by
   rcases gK with rfl | rfl
   ·exact Walks.strAscii (I.ok.hd ai) it z t
   ·exact Walks.strWide (I.ok.hd ai) it z t
  refine W.item i s _ _ a3 st.2 λ v h' bL bO dO dR=>?_;obtain ⟨c,u,vb,rfl⟩:=bO;have a4:Inv X pins σ H { s with heap:=h',toks:=bL }:=I.turned (λ b o af e=>dR b o (by simpa using af) e) f0 f1 cV f4 eI;obtain ⟨o,e,bu,d⟩:=id dO;refine ⟨_,rfl,vh (s:={ s with heap:=h',toks:=bL }) e bu d (by rcases gK with rfl | rfl<;>decide) ⟨.str ⟨#[c]⟩,H,a4,⟨u,rfl⟩,⟨rfl,c,vb,rfl⟩,⟨a3,dO⟩,λ b af=>(hf b af).1⟩⟩
 done:=by
  intro X e5 hw eT ai i pins s σ H E I hf st a3;subst e5 hw eT;obtain ⟨f0,f1,f2,cV,f4,eI⟩:=hf it (by simp)
  have W:Walks X.prog X.w X.A it [it] [it] z.cps.size (SignAt z) (λ i h=>h.IsStrIter it ty z t i):=by
   rcases gK with rfl | rfl
   ·exact Walks.strAscii (I.ok.hd ai) it z t
   ·exact Walks.strWide (I.ok.hd ai) it z t
  have av:i=z.cps.size:=Nat.le_antisymm st.1 a3;subst av
  exact W.done s _ _ st.2 λ h' bL dR=>⟨rfl,I.turned (λ b o af e=>dR b o (by simpa using af) e) f0 f1 cV f4 eI⟩
 self:=λ _ _ _ _ _ st h=>by
  rcases gK with rfl | rfl
  ·exact wpAny_pyIter_striter_ascii st.2 h
  ·exact wpAny_pyIter_striter_wide st.2 h
theorem Wo{l:a8}{e6:TE}(ar:b_ X l e6):mm X bl l (λ σ H R=>e6 σ H λ x H1=>∃ z,x=.str z/\R (wA z) H1):=by
 intro pins s σ H R I h;refine b0 (ar pins s σ H _ I h) λ v s1 ⟨x,H1,a4,aT,aF⟩=>?_;obtain ⟨z,rfl,q⟩:=aF;obtain ⟨t,rfl⟩:=aT
 have fin:∀ ty:String,(ty = "str_ascii_iterator"\/ty = "str_iterator")->BD X pins σ bl R (.ref s1.heap.objs.size) { s1 with heap:=s1.heap.push { cls:=.type ty,data:=.fields #[.str z t,.int 0 0] } }:=λ ty gK=>by
  refine ⟨s1.heap.objs.size,[s1.heap.objs.size],_,_,H1,rfl,a4.kept (t':=s1.toks) λ b o e=>cP _ e,Wn _ z t ty gK,⟨ef _,_,f7 _ rfl,rfl,rfl⟩,λ b af=>?_,q⟩
  have e:b=s1.heap.objs.size:=by simpa using af
  subst e;exact a4.pI (ZB _) (a4.bJ.fresh (ZB _))
 cases ax:z.cps.all (· < 128)
 ·exact wpAny_pyIter_wide ax (fin _ (.inr rfl))
 ·exact wpAny_pyIter_ascii ax (fin _ (.inl rfl))
end
end L2
namespace L3
open PySem PySem.Spec L2
section
variable{X:aW}{bl a b c:a8}{bb bF bj:cn}{pos p:Pos}
abbrev afk(ad:Addr)(tab:Str->Option D):ht:=λ x y G Q=>match x with
 | .str z=>y=.ref ad/\Q (.aI (!(tab z).isSome)) G
 | _=>False
def tB(z:Str):List D:=z.cps.toList.map λ c=>.str ⟨#[c]⟩
abbrev Wq(bb:cn):kF:=λ ρ G R=>bb ρ G λ x aB=>match x with
 | .str z=>R ⟨tB z,λ _=>True⟩ aB
 | _=>False
theorem Wr{K:aX}{z:Str}{aB:aP}{H1:aw}(v:fq K aB H1) :
 (∀(i:Nat)(d:D),(tB z)[i]?=some d->(wA z).go i H1/\∀ x aj,(wA z).pH i H1 x aj->Go K aB H1 aB aj/\dj K aj d x)/\∀ i,(tB z).length<=i->(wA z).stop i H1:=by
 refine ⟨λ i d hd=>?_,λ i av=>?_⟩
 ·unfold tB at hd;rw [iG] at hd
  cases ai:z.cps.toList[i]? with
  | none=>rw [ai] at hd;cases hd
  | some c=>
   rw [ai] at hd;cases hd;have av:=(mb.mp ai).1;refine ⟨av,λ x aj y=>?_⟩;obtain ⟨rfl,fE,e,rfl⟩:=y
   have bV:z.cps.toList[i]?=some fE:=by simpa using e
   rw [ai] at bV;cases bV;exact ⟨.refl v,rfl⟩
 ·unfold tB at av;rw [er] at av;exact av
theorem Ws(ax:cu X a bb):mJ X bl a (Wq bb):=by
 obtain ⟨ca,cv,cw⟩:=ax.run;refine ⟨_,⟨Wo cv.run⟩,λ ρ G lg σ H R B q F=>cw ρ G _ σ H _ B q λ x aB v H1 g1 aQ aF=>?_⟩
 cases x with
 | str z=>cases aQ;exact ⟨z,rfl,F ⟨tB z,λ _=>True⟩ _ aB H1 g1 (λ bf bg g2 _=>Wr g2.cA) aF⟩
 | _=>exact (show False from aF).elim
abbrev Wt(r bp:ht)(bb bF bj:cn):cn:=λ ρ G Q=>bb ρ G λ x aB=>bF ρ aB λ y bf=>r x y bf λ z em=>rd z λ k=>bn k (bj ρ em λ w hL=>bp y w hL Q) (Q (.aI false) em)
theorem Wu{op qW:m9}{r bp:ht}(aS:f5 X (d3 op) r)(mh:f5 X (d3 qW) bp)(ax:cu X a bb)(af:cu X b bF)(ai:cu X c bj)(hm:lastMarks [op,qW] [b,c]=false:=by with_unfolding_all rfl):AT X (.Compare a [op,qW] [b,c] pos) (Jo (Wt r bp bb bF bj)):=by
 obtain ⟨ca,cv,cw⟩:=ax.run;obtain ⟨j2,fH,fI⟩:=af.run;obtain ⟨tc,k_,rc⟩:=ai.run;obtain ⟨co,iv,Wv⟩:=aS.run;obtain ⟨afl,Ww,Wx⟩:=mh.run;refine ⟨_,⟨Qu iv.run Ww.run cv.run fH.run k_.run hm⟩,λ ρ G ay σ H Q B q F=>cw ρ G _ σ H _ B q λ x aB v H1 g1 aQ aF=>fI ρ aB _ σ H1 _ (B.go g1) aF λ y bf u bg g2 a5 bo=>Wv x y v u bf bg _ _ g2.cA (aQ.mono g2.tup) a5 bo λ z em afm dI g3 vW dw=>?_⟩
 cases z with
 | aI k=>
  cases vW;refine ⟨k,rfl,?_⟩
  cases k with
  | true=>
   rw [if_pos rfl];refine rc ρ em _ σ dI _ (((B.go g1).go g2).go g3) (dw.1 rfl) λ w hL cA jt fT oL gm=>Wx y w u cA hL jt _ _ fT.cA ((a5.mono g3.tup).mono fT.tup) oL gm λ Du kG afn js gY oE kW=>?_
   cases Du with
   | aI k5=>cases oE;exact ⟨k5,rfl,F k5 kG js ((((g1.trans g2).trans g3).trans fT).trans gY) kW⟩
   | _=>exact (show False from kW).elim
  | false=>rw [if_neg (by decide)];exact ⟨false,rfl,F false em dI ((g1.trans g2).trans g3) (dw.2 rfl)⟩
 | _=>exact (show False from dw).elim
def Lu:D->List D->aP->cJ->Prop:=λ x xs G Q=>match x,xs with
 | .str z,[.str y]=>Q (.aI (Txt.startswith z y)) G
 | _,_=>False
theorem Wy{K:aX}{H:aw}{xs:List D}{vs:List V}{y:Str}(e:xs=[.str y])(al:bM K H xs vs):vs=[.str y]:=by
 subst e;obtain ⟨u,bp,e,a,l⟩:=al;subst e;cases a;cases (show bp=[] from l);rfl
theorem Lv:p3 X "str" "str.startswith" Dt Lu:=by
 refine ⟨_,⟨Wl⟩,λ x v G H _ aQ h=>Lr aQ h,λ x xs ez vs G H ay Q v aQ al r F=>?_⟩;unfold Lu at r;split at r
 ·next z y=>cases aQ;exact ⟨z,y,rfl,Wy rfl al,F (.aI _) G _ H (.refl v) rfl r⟩
 ·exact r.elim
theorem bM.strs{K:aX}{H:aw}{aD:List Str}:∀{vs:List V},bM K H (aD.map D.str) vs->vs=aD.map V.str:=by
 induction aD with
 | nil=>intro vs h;exact h
 | cons n ns aO=>rintro vs ⟨v,r,e,q,l⟩;subst e;rw [aO l,show v=V.str n from q];rfl
def Lw:D->List D->aP->cJ->Prop:=λ x xs G Q=>match x,xs with
 | .str z,[.ref l]=>hJ G l λ ds=>∃ aD:List Str,ds=aD.map D.str/\z.length<=16/\(aD.map (·.length)).sum+aD.length<=1048576/\Q (.str (Txt.join z aD)) G
 | _,_=>False
theorem Wz:p3 X "str" "str.join" Dt Lw:=by
 refine ⟨_,⟨Wm X.K rfl⟩,λ x v G H _ aQ h=>Lr aQ h,λ x xs ez vs G H ay Q v aQ al r F=>?_⟩;unfold Lw at r;split at r
 ·next z l=>
  cases aQ;obtain ⟨u,bp,e,a,aG⟩:=al;subst e;cases a;cases (show bp=[] from aG);obtain ⟨ds,ws,⟨aD,rfl,ae,ag,q⟩,s,dJ⟩:=iN v r;rw [dJ.strs] at s;exact ⟨z,l,aD,rfl,rfl,s,ae,ag,F (.str _) G _ H (.refl v) rfl q⟩
 ·exact r.elim
def WA:D->aP->cJ->Prop:=λ x G Q=>match x with
 | .int i=>i.natAbs.log2 < 1920/\Q (.str (toString i)) G
 | _=>False
theorem Lx:kz X (.type "str") (nI WA):=by
 refine ⟨_,⟨QC⟩,λ xs vs G H ay Q v a r F=>?_⟩;obtain ⟨x,u,rfl,rfl,aQ,r⟩:=p1 r a
 cases x with
 | int i=>cases aQ;exact ⟨i,rfl,r.1,F (.str _) G _ H (.refl v) rfl r.2⟩
 | _=>exact (show False from r).elim
end
end L3
namespace L2
open PySem PySem.Spec PyProof.Rows
section
variable{X:aW}
def wB(X:aW)(e:a8)(t:TE):Prop:=
 ∀(pins:List (Addr × Obj))(s:aE)(σ:St)(H:aw)(Q:cE),Inv X pins σ H s->1<=s.toks->t σ H Q->aU (aY X.prog X.w) X.A (eval e X.env) (λ u aM=>1<=aM.toks/\f_ X pins σ Q u aM) X.xe s
def p_(X:aW)(st:List bP)(t:eR):Prop:=
 ∀(pins:List (Addr × Obj))(s:aE)(σ:St)(H:aw)(D:Ends),Inv X pins σ H s->1<=s.toks->t D σ H->aU (aY X.prog X.w) X.A (execs st X.env) (kU X pins D) X.xe s
theorem WB{e:a8}{t:TE}(h:b_ X e t):wB X e t:=λ pins s σ H Q I bh q=>
 gC (Bp bh (h pins s σ H Q I q)) (λ _ _ z=>z) λ _ _ z=>z.2
theorem WC{bl e:a8}{aZ:TE}{g:gV}{rest:List bP}{u:eR}{pos:Pos}(he:wB X e aZ)(a3:nA X bl g)(ao:jq X rest u)(ap:W1 [bl] e pos.line X.env=pure false:=by rfl)(hw:uB [bl] e X.env=pure none:=by rfl)
 (ae:(iE [bl] X.env).map (·.2)=[XV bl X.env]:=by rfl):p_ X (.Assign [bl] e pos::rest) (yF (qR aZ g) u):=by
 intro pins s σ H D I bh h
 have key:aU (aY X.prog X.w) X.A (exec (.Assign [bl] e pos) X.env) (kU X pins { D with nx:=u D }) X.xe s:=by
  refine wpAny_Assign_stores (b0 (he pins s σ H _ I bh h) λ v s1 ⟨_,x,H1,a4,aT,aF⟩=>?_) ap hw;rw [ae];exact b0 (a3 pins s1 σ H1 x v _ a4 aT aF) λ _ s2 q=>q
 refine uz (b0 key λ f s1 q=>?_)
 cases f with
 | next=>
  obtain ⟨σ',aj,lG,q⟩:=q;exact ao pins s1 σ' aj D lG q
 | ret v=>exact q
 | brk=>exact q
 | cont=>exact q
theorem p_.mi{st:List bP}{t:eR}(h:p_ X.mi st t):p_ X st t:=λ pins s σ H D I bh hw=>
 gC (h pins s σ H D (I.jS _) bh hw) (λ _ _ q=>q.nz) λ _ _ z=>False.elim z
end
end L2
namespace L3
open PySem PySem.Spec PyProof.Rows L2
section
variable{X:aW}
structure Af(X:aW)(e:a8)(t:cn):Prop where
 run:∃ bj:TE,wB X e bj/\∀ ρ G ay σ H Q,dh X.K ρ G σ H->t ρ G ay->Fin X.K G H ay Q->bj σ H Q
structure Ag(X:aW)(st:List bP)(t:f3):Prop where
 run:∃ bj:eR,p_ X st bj/\∀ b3 c8 ρ G σ H,dh X.K ρ G σ H->t b3 ρ G->lO X.K G H b3 c8->bj c8 σ H
theorem WD{e:a8}{t:cn}(h:cu X e t):Af X e t:=by
 obtain ⟨c,j,r⟩:=h.run;exact ⟨c,WB j.run,r⟩
theorem WE{bl e:a8}{aZ:cn}{g:gM}{rest:List bP}{u:f3}{pos:Pos}(he:Af X e aZ)(a3:ky X bl g)(ao:mD X rest u)(ap:W1 [bl] e pos.line X.env=pure false:=by rfl)(hw:uB [bl] e X.env=pure none:=by rfl)
 (ae:(iE [bl] X.env).map (·.2)=[XV bl X.env]:=by rfl):Ag X (.Assign [bl] e pos::rest) (zk (zl aZ g) u):=by
 obtain ⟨bu,ey,aT⟩:=he.run;obtain ⟨bt,hQ,a0⟩:=a3.run;obtain ⟨d0,WG,hH⟩:=ao.run;exact ⟨_,WC ey hQ.run WG.run ap hw ae,λ b3 c8 ρ G σ H B q F=>aT ρ G _ σ H _ B q λ d aB v H1 g1 a aF=>a0 d v ρ aB _ σ H1 _ (B.go g1) a aF λ ρ' au σ' aj g' b gT=>hH b3 c8 ρ' au σ' aj b gT (F.after (g1.trans g'))⟩
end
def FnAt(K:aX)(x q:Str)(st:bP)(f:Addr)(cd:Value):Prop:=∃(gH:Value)(eM:Option Addr)(gG doc pm:Value)(an:Option Addr)(ct:Value)(i9:Array (Option Value)),
 K.lookup f=some ⟨gH,eM,.func (ni x q (nE st) (jb st) (cb st) .none gG doc pm an cd ct),i9⟩/\sE K cd q=true/\lC K (.ref f)=true
def DT(K:aX)(x:Str)(st:bP):Prop:=∃(f:Addr)(cd:Value),fj K eh x=some (some (.ref f))/\FnAt K x x st f cd
section
variable{K:aX}{x m q:Str}{st:bP}{C c:Addr}
theorem DT.mk{f:Addr}{cd gH gG doc pm ct:Value}{eM an:Option Addr}{i9:Array (Option Value)}(a:fj K eh x=some (some (.ref f)))(l:K.lookup f=some ⟨gH,eM,.func (ni x x (nE st) (jb st) (cb st) .none gG doc pm an cd ct),i9⟩)(k:sE K cd x=true)(p:lC K (.ref f)=true):DT K x st:=⟨f,cd,a,_,_,_,_,_,_,_,_,l,k,p⟩
theorem DT.ok(h:DT K x st):∃(f:Addr)(fd:gD),fj K eh x=some (some (.ref f))/\dT K x x st f fd:=
 let ⟨f,_,a,_,_,_,_,_,_,_,_,l,k,p⟩:=h;⟨f,_,a,Ir l k p⟩
end
def WH:bP->List bP
 | .ClassDef _ _ _ b _ _ _ _ _ _ _=>b
 | _=>[]
abbrev jz:Str:="0123456789"
def j_(z y:Str):Bool:=z.cps.toList.all λ c=>decide (c∈y.cps.toList)
theorem Dv(y:Str)(c:Nat):(!(Builtin.Str.occurrences y ⟨#[c]⟩ 0 y.length 1).isEmpty)=decide (c∈y.cps.toList):=by
 rw [PyProof.Rows.empty_one,Bool.not_not]
def bare(z:Str):Str:=if Txt.startswith z "-" then Txt.slice z (some 1) none else z
def Dw:fJ:=λ ds G Q=>∃ z y:Str,ds=[.str z,.str y]/\z.length<=1000/\Q (.aI (j_ z y)) G
theorem rB(z:Str)(c:Nat):Txt.startswith z ⟨#[c]⟩=(z.cps.toList.head?==some c):=by
 obtain ⟨a⟩:=z;obtain ⟨l⟩:=a;unfold Txt.startswith Builtin.Str.subAt Str.length
 cases l with
 | nil=>simp
 | cons x l=>
  simp
theorem dash:(("-" : String):Str)=⟨#[45]⟩:=by decide +kernel
theorem Dx:(("0" : String):Str)=⟨#[48]⟩:=by decide +kernel
theorem Dy(z:Str):(bare z).length<=z.length:=by
 unfold bare;split
 ·exact Txt.slice_le z _ _
 ·exact ZB _
end L3
namespace L2
open PySem PySem.Spec PyProof.Rows
section
variable{prog:cL}{w:b8}{A:cz}{E:Value->aE->Prop}{s:aE}{e it:Addr}{i:Nat}{old:Value}
theorem WI{R:Value->Prop}{P:bE->Prop}{Q:Option Value->aE->Prop}(he:pv s.heap e it i old)(ep:e≠it)(e5:∀ h h',P h->(∀ o,h.get? it=some o->h'.get? it=some o)->P h')
 (aH:∀(A:cz)(Q:Value->aE->Prop)(E:Value->aE->Prop),(∀ mN bL x,R x->Heap.SameBut it s.heap mN->P mN->Q x { s with heap:=mN,toks:=bL })->aU (aY prog w) A (Builtin.SmallTypes.nextOf (.ref it)) Q E s)
 (gj:∀ h' bL x t,R x->IsEnumOut h' e it ((i:Int)+1) x s.heap.objs.size->P h'->h'.get? s.heap.objs.size=some { cls:=.type "tuple", data:=.seq #[.int i t,x] } →
  (∀ b o,b≠e->b≠it->s.heap.get? b=some o->h'.get? b=some o)->Q (some (.ref s.heap.objs.size)) { s with heap:=h',toks:=bL }) :
 aU (aY prog w) A (ki (.ref e)) Q E s:=by
 have cW:s.TypeIs (.ref e) "enumerate":=⟨_,he,rfl⟩
 unfold ki;refine aA (m7 (wpAny_callSpecial?_slot (name:=Str.ofString "__next__") cW PySem.F.slot_enumerate_next (kg PySem.F.slot_enumerate_next cW PySem.F.entry_enumerate_next ?_ (PySem.F.args_enumerate_next_1 _))));obtain ⟨ah,g,d,bL,os⟩:=s;refine (show aU _ _ (iZ (.ref e) 2 >>= _) _ _ _ from aA (fi he rfl (x:=.ref it) rfl (aA (aH _ _ _ λ mN jA x a7 s1 dP=>?_))))
 replace s1:Heap.SameBut it ah mN:=s1
 have aC:pv mN e it i old:=(s1.2 e ep).trans he;refine (show aU _ _ (iZ (.ref e) 3 >>= _) _ _ ⟨mN,g,d,jA,os⟩ from aA (fi aC rfl (x:=gE i) rfl ?_));refine (show aU _ _ (iZ (.ref e) 4 >>= _) _ _ ⟨mN,g,d,jA,os⟩ from aA (fi aC rfl (x:=.none) rfl ?_));refine (show aU _ _ (mkInt i >>= _) _ _ ⟨mN,g,d,jA,os⟩ from aA (wpAny_mkInt ?_));refine (show aU _ _ (uE (.ref e) 3 (gE ((i:Int)+1)) >>= _) _ _ ⟨mN,g,d,jA+1,os⟩ from aA (m4 aC (by simp) λ Ah aG s2=>?_))
 replace s2:Heap.SameBut e mN Ah:=s2
 replace aG:pv Ah e it ((i:Int)+1) old:=aG
 refine (show aU _ _ (uE (.ref e) 4 .none >>= _) _ _ ⟨Ah,g,d,jA+1,os⟩ from aA (m4 aG (by simp) λ mO e3 s3=>?_))
 replace s3:Heap.SameBut e Ah mO:=s3
 replace e3:pv mO e it ((i:Int)+1) old:=e3
 refine (show aU _ _ (newTuple [.int i jA,x] >>= _) _ _ ⟨mO,g,d,jA+1,os⟩ from aA (xM ?_));have e4:pv (mO.push { cls:=.type "tuple", data:=.seq #[.int i jA,x] }) e it ((i:Int)+1) old:=cP _ e3
 have hsz:mO.objs.size=ah.objs.size:=by rw [s3.1,s2.1,s1.1]
 have Ly:e < ah.objs.size:=dc he
 have Lz:(mO.push { cls:=.type "tuple", data:=.seq #[.int i jA,x] }).get? ah.objs.size=some { cls:=.type "tuple", data:=.seq #[.int i jA,x] }:=by rw [<- hsz];exact f7 _ rfl
 have jc:∀ b o,b≠e->b≠it->ah.get? b=some o->(mO.push { cls:=.type "tuple", data:=.seq #[.int i jA,x] }).get? b=some o:=λ b o nq WJ af=>cP _ (s3.extBut b o nq (s2.extBut b o nq (s1.extBut b o WJ af)));have Dz:P (mO.push { cls:=.type "tuple", data:=.seq #[.int i jA,x] }):=e5 _ _ dP λ o aS=>cP _ (s3.extBut _ _ (Ne.symm ep) (s2.extBut _ _ (Ne.symm ep) aS));rw [hsz];generalize mO.push { cls:=.type "tuple", data:=.seq #[.int i jA,x] }=DA at e4 Lz jc Dz ⊢;refine (show aU _ _ (Builtin.SmallTypes.ownedTupleIsFree (.ref e) >>= _) _ _ ⟨DA,g,d,jA+1,os⟩ from aA ?_);unfold Builtin.SmallTypes.ownedTupleIsFree;refine aA (fi e4 rfl (x:=.none) rfl (br ?_));simp only [if_true];refine aA (m8 (aA (fi e4 rfl (x:=old) rfl (aA (m4 e4 (by simp) λ Ai j0 s5=>?_)))))
 replace s5:Heap.SameBut e DA Ai:=s5
 replace j0:pv Ai e it ((i:Int)+1) x:=j0
 refine (show aU _ _ (Builtin.SmallTypes.ownedTupleHandOut (.ref e) (.ref ah.objs.size) >>= _) _ _ ⟨Ai,g,d,jA+1,os⟩ from aA ?_);unfold Builtin.SmallTypes.ownedTupleHandOut;refine aA (m4 j0 (by simp) λ DB DC ku=>?_)
 replace ku:Heap.SameBut e Ai DB:=ku
 replace DC:IsEnumOut DB e it ((i:Int)+1) x ah.objs.size:=DC
 refine m4 DC (by simp) λ Aj DD jT=>?_
 replace jT:Heap.SameBut e DB Aj:=jT
 replace DD:IsEnumOut Aj e it ((i:Int)+1) x ah.objs.size:=DD
 have dR:∀ b o,b≠e->DA.get? b=some o->Aj.get? b=some o:=λ b o af q=>jT.extBut b o af (ku.extBut b o af (s5.extBut b o af q));exact aA (wpAny_letGo (br ⟨_,rfl,br (gj Aj _ x jA a7 DD (e5 _ _ Dz λ o aS=>dR _ _ (Ne.symm ep) aS) (dR _ _ (n4 Ly) Lz) λ b o af av q=>dR b o af (jc b o af av q))⟩))
theorem WK{Q:Option Value->aE->Prop}(he:pv s.heap e it i old)
 (aH:∀(A:cz)(Q:Value->aE->Prop)(E:Value->aE->Prop),A.handled=none->(∀ h' x,Heap.ExtBut it s.heap h'->(∃ o,h'.get? x=some o/\o.cls=.type "StopIteration")->E (.ref x) { s with heap:=h' })->aU (aY prog w) A (Builtin.SmallTypes.nextOf (.ref it)) Q E s)
 (d8:A.handled=none) (gj:∀ h',Heap.ExtBut it s.heap h'->Q none { s with heap:=h' }):aU (aY prog w) A (ki (.ref e)) Q E s:=by
 have cW:s.TypeIs (.ref e) "enumerate":=⟨_,he,rfl⟩
 unfold ki;refine aA (m7 (wpAny_callSpecial?_slot (name:=Str.ofString "__next__") cW PySem.F.slot_enumerate_next (kg PySem.F.slot_enumerate_next cW PySem.F.entry_enumerate_next ?_ (PySem.F.args_enumerate_next_1 _))));refine (show aU _ _ (iZ (.ref e) 2 >>= _) _ _ _ from aA (fi he rfl (x:=.ref it) rfl (aA (aH _ _ _ d8 λ h' x bV ak=>?_))));obtain ⟨o,aS,ai⟩:=ak;refine aA (xJ (T:="StopIteration") (b:=true) ⟨o,aS,ai⟩ Bl ?_);exact br (gj _ bV)
end
def LA(z:Str):kt:=⟨λ i _=>i < z.length,λ i H x aj=>∃ T c,z.cps[i]?=some c/\x=.ref T/\H T=none/\aj=upd H T (.tup [.int i,.str ⟨#[c]⟩]),λ i _=>z.length<=i⟩
theorem DE{h h':bE}{it:Addr}{ty:String}{z:Str}{t:Tok}{i:Nat}(x:h.IsStrIter it ty z t i)(k:∀ o,h.get? it=some o->h'.get? it=some o):h'.IsStrIter it ty z t i:=let ⟨o,aS,r⟩:=x;⟨o,k o aS,r⟩
theorem WL{P:cL}{w:b8}{K:aX}{es:List a8}{k:Nat}{pos:Pos}(e it:Addr)(z:Str)(t:Tok)(ty:String)(gK:ty = "str_ascii_iterator"\/ty = "str_iterator")(ep:e≠it) :
 Turn P w K (.Tuple es k pos) (LA z) [e,it] e (λ i h=>i<=z.length/\(∃ old,pv h e it i old)/\h.IsStrIter it ty z t i) where
 mem:=by simp
 obj:=λ i h st b af=>by
  obtain ⟨_,⟨old,a1⟩,o,a2,c,d⟩:=st;simp only [cC,eV,or_false] at af;rcases af with rfl | rfl
  ·exact ⟨_,a1,λ v z=>by cases (show Data.fields _=Data.cell v from z)⟩
  ·exact ⟨o,a2,λ v z=>by rw [d] at z;cases z⟩
 keep:=λ i h h' st dR=>⟨st.1,let ⟨old,a1⟩:=st.2.1;⟨old,dR _ (by simp) _ a1⟩,DE st.2.2 λ o aS=>dR _ (by simp) _ aS⟩
 item:=by
  intro X e5 hw eT ai i pins s σ H E I hf st a3;subst e5 hw eT;obtain ⟨_,⟨old,a1⟩,a2⟩:=st
  obtain ⟨c,ak⟩:∃ c,z.cps[i]?=some c:=⟨z.cps[i]'a3,Array.getElem?_eq_getElem a3⟩
  refine WI (R:=λ x=>∃ u,x=.str ⟨#[c]⟩ u) (P:=λ h=>h.IsStrIter it ty z t (i+1)) a1 ep (λ h h' p k=>DE p k) (λ A Q E q=>?_) λ h' bL x u a7 Out e_ cW dR=>?_
  ·rcases gK with rfl | rfl
   ·exact wpAny_nextOf_ascii_item a2 ak λ h' p i7=>q h' _ _ ⟨_,rfl⟩ i7 p
   ·exact wpAny_nextOf_wide_item a2 ak λ h' p i7=>q h' _ _ ⟨_,rfl⟩ i7 p
  obtain ⟨du,rfl⟩:=a7;refine ⟨_,rfl,wpAny_letOwnedTupleGo_enum (s:={ s with heap:=h',toks:=bL }) Out λ ag Cn i7=>?_⟩;have kJ:e < s.heap.objs.size:=dc a1
  have WM:it < s.heap.objs.size:=let ⟨_,aS,_⟩:=a2;dc aS
  have a4:Inv X pins σ (upd H s.heap.objs.size (.tup [.int i,.str ⟨#[c]⟩])) { s with heap:=s.heap.push { cls:=.type "tuple", data:=.seq #[.int i u,.str ⟨#[c]⟩ du] } }:=
   I.laid (t':=s.toks) (λ b o e=>cP _ e) (ZB _) (show f9 X.prog X.w _ _ _ (.tup [.int i,.str ⟨#[c]⟩]) from ⟨by show 2<=sizeLine;decide,[.int i u,.str ⟨#[c]⟩ du],.cons ⟨_,rfl⟩ (.cons ⟨_,rfl⟩ .nil),IsTup.new _ _⟩)
  have vR:∀ b∈[e,it],b < s.heap.objs.size:=λ b af=>by
   simp only [cC,eV,or_false] at af;rcases af with rfl | rfl
   ·exact kJ
   ·exact WM
  have dg:Inv X pins σ (upd H s.heap.objs.size (.tup [.int i,.str ⟨#[c]⟩])) { s with heap:=ag,toks:=bL }:=
   Inv.za (s:={ s with heap:=s.heap.push { cls:=.type "tuple", data:=.seq #[.int i u,.str ⟨#[c]⟩ du] } }) (h':=ag) (t':=bL) (fp:=[e,it]) a4 (λ b af=>by
    obtain ⟨f0,fr⟩:=hf b af
    exact ⟨by rw [cN (eO (vR b af))];exact f0,fr⟩) (λ b o af q=>by
    have g0:b≠e/\b≠it:=by simpa using af
    rcases Heap.get?_push_cases q with ⟨cI,b9⟩ | q
    ·rw [cI,b9];exact i7.extBut _ _ (n4 kJ) cW
    ·exact i7.extBut _ _ g0.1 (dR b o g0.1 g0.2 q))
  exact ⟨.ref s.heap.objs.size,_,dg,rfl,⟨_,c,ak,rfl,I.bJ.fresh (ZB _),rfl⟩,⟨a3,⟨_,Cn⟩,DE e_ λ o aS=>i7.extBut _ _ (Ne.symm ep) aS⟩,λ b af=>by rw [cN (eO (vR b af))];exact (hf b af).1⟩
 done:=by
  intro X e5 hw eT ai i pins s σ H E I hf st a3;subst e5 hw eT;obtain ⟨_,⟨old,a1⟩,a2⟩:=st;have ak:z.cps[i]?=none:=Array.getElem?_eq_none a3
  refine WK a1 (λ A Q E d8 q=>?_) (I.ok.hd ai) λ h' gl=>⟨rfl,?_⟩
  ·rcases gK with rfl | rfl
   ·exact wpAny_nextOf_ascii_end d8 a2 ak q
   ·exact wpAny_nextOf_wide_end d8 a2 ak q
  ·refine I.za (t':=s.toks) (fp:=[e,it]) hf λ b o af q=>?_
   have g0:b≠e/\b≠it:=by simpa using af
   exact gl b o g0.2 q
 self:=λ _ _ _ _ _ st h=>by
  obtain ⟨_,⟨old,a1⟩,_⟩:=st;exact wpAny_pyIter_enum a1 h
section
variable{X:aW}
theorem WN(x:Str):strIterType x = "str_ascii_iterator"\/strIterType x = "str_iterator":=by
 unfold strIterType;split<;>simp
def WO(t:fk):TI:=λ σ H R=>t σ H λ vs H1=>∃ z,vs=[.str z]/\R (LA z) H1
theorem WQ{es:List a8}{k:Nat}{gL:Pos}{a:a8}{bb:fk}{p pos:Pos}(a3:et X "enumerate")(hm:X.mg "enumerate" = none)(ax:ii X [a] bb)(ap:e7 a=true):mm X (.Tuple es k gL) (.Call (.Name "enumerate" p) [a] [] pos) (WO bb):=by
 intro pins s σ H R I h;refine Call_ (oe I a3 hm PyProof.Rows.boot_enumerate (qK (b0 (ax pos pins s σ H _ I h) λ us s1 ⟨vs,H1,a4,aT,z,ev,q⟩=>?_) (ip ap) rfl));subst ev
 cases aT with
 | cons r b2=>
  cases b2;obtain ⟨t,rfl⟩:=r;refine call_enumerate_str λ h' a1 a2 _ dR=>?_;refine wpAny_pyIter_enum a1 ?_;refine ⟨s1.heap.objs.size+1,[s1.heap.objs.size+1,s1.heap.objs.size],_,_,H1,rfl,a4.kept (t':=s1.toks) dR,WL _ _ z t _ (WN z) (Nat.succ_ne_self _),⟨ef _,⟨_,a1⟩,a2⟩,λ b af=>?_,q⟩
  have g0:s1.heap.objs.size<=b:=by
   simp only [cC,eV,or_false] at af;rcases af with e | e<;>(rw [e];first | exact ZB _ | exact Nat.le_add_right _ _)
  exact a4.pI g0 (a4.bJ.fresh g0)
end
end L2
namespace L3
open PySem PySem.Spec L2
section
variable{X:aW}{es:List a8}{a:a8}{t:g4}{p pos:Pos}
def mP(z:Str):List D:=z.cps.toList.zipIdx.map λ c=>.tup [.int (c.2:Int),.str ⟨#[c.1]⟩]
abbrev WR(t:g4):kF:=λ ρ G R=>t ρ G λ ds aB=>match ds with
 | [.str z]=>R ⟨mP z,λ _=>True⟩ aB
 | _=>False
theorem WS{k:Nat}{gL:Pos}(a3:et X "enumerate")(hm:X.mg "enumerate" = none)(ax:iq X [a] t)(ap:e7 a=true:=by rfl):mJ X (.Tuple es k gL) (.Call (.Name "enumerate" p) [a] [] pos) (WR t):=by
 obtain ⟨ca,cv,cw⟩:=ax.run;refine ⟨_,⟨WQ a3 hm cv.run ap⟩,λ ρ G lg σ H R B q F=>cw ρ G _ σ H _ B q λ ds aB vs H1 g1 al ar aF=>?_⟩;split at aF
 ·next z=>
  obtain ⟨v,r,rfl,rfl,e⟩:=al;cases e;refine ⟨z,rfl,F ⟨mP z,λ _=>True⟩ _ aB H1 g1 (λ bf bg g2 _=>⟨λ n d hd=>?_,λ n aH=>?_⟩) aF⟩
  ·replace hd:(mP z)[n]?=some d:=hd
   unfold mP at hd;rw [iG,List.getElem?_zipIdx] at hd
   cases ai:z.cps.toList[n]? with
   | none=>rw [ai] at hd;cases hd
   | some c=>
    rw [ai] at hd;simp at hd;subst hd;have fm:=(mb.mp ai).1;refine ⟨fm,λ x aj y=>?_⟩;obtain ⟨T,fE,aC,rfl,cW,rfl⟩:=y;rw [<- Array.getElem?_toList,ai] at aC;cases aC;have g3:=Go.nG (o:=.tup [.int n,.str ⟨#[c]⟩]) g2.cA cW;exact ⟨g3,T,_,rfl,.of eG,⟨_,_,rfl,rfl,.one rfl⟩⟩
  ·replace aH:(mP z).length<=n:=aH
   unfold mP at aH;rw [er,List.length_zipIdx] at aH;exact aH
 ·exact aF.elim
end
end L3
namespace L2
open PySem PySem.Spec PyProof.Rows
section
variable{X:aW}
def c0{α:Type}:List α->List α
 | x::_::r=>x::c0 r
 | [x]=>[x]
 | []=>[]
theorem LB{α:Type}:∀(xs:List α)(i:Nat),(c0 xs)[i]?=xs[2 * i]?
 | [],i=>by simp [c0]
 | [x],0=>rfl
 | [x],i+1=>by simp [c0]
 | x::y::r,0=>rfl
 | x::y::r,i+1=>by
  rw [c0,List.getElem?_cons_succ,LB r i,show 2 * (i+1)=2 * i+1+1 by omega,List.getElem?_cons_succ,List.getElem?_cons_succ]
theorem DF{α:Type}:∀ xs:List α,(c0 xs).length=(xs.length+1) / 2
 | []=>by simp [c0]
 | [x]=>by simp [c0]
 | x::y::r=>by rw [c0,bR,DF r,bR,bR];omega
theorem WT(az:List Value)(a:Nat):xQ az.toArray (some (a:Int)) none (some 2)=(c0 (az.drop a)).toArray:=by
 unfold xQ pi sliceRange;simp only [uX,cM];congr 1;by_cases ax:a<=az.length
 case neg=>
  have aC:(max (0:Int) (min (if (a:Int) < 0 then (a:Int)+az.length else a) az.length))=az.length:=by rw [if_neg (by omega)];omega
  simp only [show (2:Int) > 0 by decide,if_true,aC];rw [if_neg (by omega),nd (by omega)];rfl
 have aC:(max (0:Int) (min (if (a:Int) < 0 then (a:Int)+az.length else a) az.length))=a:=by rw [if_neg (by omega)];omega
 simp only [show (2:Int) > 0 by decide,if_true,aC]
 have ai:(if (a:Int) < (az.length:Int) then ((az.length:Int) - a+2 - 1) / 2 else 0).toNat=(c0 (az.drop a)).length:=by
  rw [DF,hF];split<;>omega
 rw [ai,List.filterMap_map]
 have hf:((λ x=>az.toArray[x]?) ∘ λ(k:Nat)=>((a:Int)+2 * (k:Int)).toNat)=λ k=>(c0 (az.drop a)).toArray[k]?:=by
  funext k;show az.toArray[((a:Int)+2 * (k:Int)).toNat]?=(c0 (az.drop a)).toArray[k]?;rw [show ((a:Int)+2 * (k:Int)).toNat=a+2 * k by omega,List.getElem?_toArray,List.getElem?_toArray,LB,List.getElem?_drop]
 rw [hf];have z:=PySem.W.krv_all (c0 (az.drop a)).toArray;rw [cM] at z;exact z
theorem LC:∀{xs:List V}{us:List Value}(n:Nat),Vals xs us->Vals (xs.drop n) (us.drop n)
 | _,_,0,r=>r
 | _,_,_+1,.nil=>.nil
 | _,_,n+1,.cons _ t=>LC n t
theorem LD:∀{xs:List V}{us:List Value},Vals xs us->Vals (c0 xs) (c0 us)
 | _,_,.nil=>.nil
 | _,_,.cons r .nil=>.cons r .nil
 | _,_,.cons r (.cons _ t)=>.cons r (LD t)
variable{e lo st:a8}{aZ:TE}{e6 bL:d6}{pos dZ:Pos}
def WU(K:aX)(aZ:TE)(e6 bL:d6):TE:=λ σ H Q=>aZ σ H λ x H1=>e6 σ H1 λ l bg=>bL σ bg λ k dI=>k=some 2/\∃(a:Addr)(xs:List V)(n:Nat),l=some (n:Int)/\x=.ref a/\eu K dI a xs/\∀ p,dI p=none->Q (.ref p) (upd dI p (.lst (c0 (xs.drop n))))
theorem WV(he:b_ X e aZ)(ar:pL X (some lo) e6)(aN:pL X (some st) bL):b_ X (.Subscript e (.Slice (some lo) none (some st) dZ) pos) (WU X.K aZ e6 bL):=by
 intro pins s σ H Q I h;refine xT (b0 (he pins s σ H _ I h) λ v s1 ⟨x,H1,a4,aT,aF⟩=>?_);refine wpAny_Slice (b0 (ar pins s1 σ H1 _ a4 aF) λ fR s2 ⟨l,bg,dg,pl,bo⟩=>?_);rw [xN];refine br ?_;refine b0 (aN pins s2 σ bg _ dg bo) λ oX s3 ⟨k,dI,eH,wx,aC,a,xs,n,aG,e3,ak,dw⟩=>?_;subst aC aG e3;cases aT;have ij:Inv X pins σ dI { s3 with heap:=s3.heap.push { cls:=.type "slice", data:=.fields #[fR,.none,oX] } }:=eH.kept (t':=s3.toks) λ b c_ q=>cP _ q;obtain ⟨az,r,bh,hz⟩:=ij.list ak;have hlen:=r.length;show aU (aY X.prog X.w) X.A (xS e (.Slice (some lo) none (some st) dZ) (.ref a) (.ref s3.heap.objs.size)) (f_ X pins σ Q) X.xe { s3 with heap:=s3.heap.push { cls:=.type "slice", data:=.fields #[fR,.none,oX] } };refine tail_any (ops:=[.ref a,.ref s3.heap.objs.size]) bh.isList.typeIs slot_list_getitem.lookup ?_ (by with_unfolding_all rfl);refine G3 bh.isList (Heap.IsSliceOf.new ..) pl .none wx (by simp) ?_ (by rw [cM];omega);rw [WT az n]
 have hle:(c0 (xs.drop n)).length<=xs.length:=by rw [DF,hF];omega
 refine ⟨.ref _,_,ij.laid (t':=s3.toks) (o:=.lst (c0 (xs.drop n))) (λ b c_ q=>cP _ q) (ZB _) ?_,rfl,dw _ (ij.bJ.fresh (ZB _))⟩;exact ⟨by omega,_,0,LD (LC n r),f7 _ rfl⟩
def WW:List V->aw->cE->Prop:=λ xs H Q=>∃ z n,xs=[.str z]/\n6 z=some n/\z.length<=640/\Q (.int n) H
theorem WX:h3 X (.type "int") WW:=by
 intro pins s σ H xs us Q I r h;obtain ⟨z,n,rfl,aH,ar,q⟩:=h;obtain ⟨u,rfl,a7⟩:=on r;obtain ⟨t,rfl⟩:=a7;exact PySem.W.KIN.call_text aH ar ⟨.int n,H,I.tok _,⟨_,rfl⟩,q⟩
end
end L2
namespace L3
open PySem PySem.Spec L2
section
variable{X:aW}{e lo st:a8}{aZ:cn}{e6 bL:oG}{pos dZ:Pos}
def afo:D->List D->aP->cJ->Prop:=λ x xs G Q=>match x,xs with
 | .ref l,[]=>k9 G l λ ds=>Q .a9 (up G l (.lst ds.reverse))
 | _,_=>False
theorem bM.c0{K:aX}{H:aw}:∀{ds:List D}{vs:List V},bM K H ds vs->bM K H (L2.c0 ds) (L2.c0 vs)
 | [],_,h=>by rw [show _=[] from h];rfl
 | [d],_,⟨v,r,e,q,l⟩=>by subst e;rw [show r=[] from l];exact ⟨v,[],rfl,q,rfl⟩
 | d::d'::ds,_,⟨v,r,e,q,nu,bp,bV,gT,l⟩=>by subst e bV;exact ⟨v,_,rfl,q,bM.c0 l⟩
abbrev WY(aZ:cn)(e6 bL:oG):cn:=λ ρ G Q=>aZ ρ G λ x aB=>e6 ρ aB λ l bf=>bL ρ bf λ k em=>k=some 2/\match x with
 | .ref a=>hJ em a λ ds=>∃ n:Nat,l=some (n:Int)/\∀ p,em p=none->Q (.ref p) (up em p (.lst (L2.c0 (ds.drop n))))
 | _=>False
theorem LE(he:cu X e aZ)(ar:ra X (some lo) e6)(aN:ra X (some st) bL):cu X (.Subscript e (.Slice (some lo) none (some st) dZ) pos) (WY aZ e6 bL):=by
 obtain ⟨ce,oJ,re⟩:=he.run;obtain ⟨cl,Cy,dJ⟩:=ar.run;obtain ⟨VX,Dg,Dh⟩:=aN.run;refine ⟨_,⟨WV oJ.run Cy.run Dg.run⟩,λ ρ G ay σ H Q B q F=>re ρ G _ σ H _ B q λ x aB v H1 g1 aQ aF=>dJ ρ aB _ σ H1 _ (B.go g1) aF λ l bf bg g2 bo=>Dh ρ bf _ σ bg _ ((B.go g1).go g2) bo λ k em dI g3 ⟨aC,dw⟩=>?_⟩
 cases x with
 | ref a=>
  cases aQ;obtain ⟨ds,vs,⟨n,aG,k2⟩,s,r⟩:=iN g3.cA dw;exact ⟨aC,a,vs,n,aG,rfl,s,λ p ah=>F (.ref p) _ _ _ (((g1.trans g2).trans g3).trans (Go.pU g3.cA ah (r.drop n).c0)) rfl (k2 p (g3.cA.none ah))⟩
 | _=>exact (show False from dw).elim
def WZ:D->aP->cJ->Prop:=λ x G Q=>match x with
 | .str z=>∃ n,n6 z=some n/\z.length<=640/\Q (.int n) G
 | _=>False
theorem DG:kz X (.type "int") (nI WZ):=by
 refine ⟨_,⟨WX⟩,λ xs vs G H ay Q v a r F=>?_⟩;obtain ⟨x,u,rfl,rfl,aQ,r⟩:=p1 r a
 cases x with
 | str z=>cases aQ;obtain ⟨n,aH,ar,q⟩:=r;exact ⟨z,n,rfl,aH,ar,F (.int n) G _ H (.refl v) rfl q⟩
 | _=>exact (show False from r).elim
end
end L3
namespace L3
open PySem L2 PySem.NumText PyProof.Rows PySem.W PySem.W.KIN
abbrev e2(n:Int):Str:=Str.ofString (toString n)
abbrev iQ(m:Nat):List Nat:=(qJ 10 m).map Char.toNat
theorem tC(m:Nat):uK (iQ m):=by
 intro c ai;obtain ⟨ch,i5,e⟩:=jK.mp ai;rw [<- e];exact digit_range (Nat.isDigit_of_mem_toDigits (by decide) (by decide) i5)
theorem rC(m:Nat):iQ m≠[]:=by
 intro e;have h:=toDigits_len_ge 10 m;rw [List.map_eq_nil_iff.mp e] at h;exact absurd h (by decide)
theorem Ak{m:Nat}(h:m < 10 ^ 12):(iQ m).length<=12:=by
 rw [er];exact toDigits_len_pow (by decide) (by decide) h
theorem Al(m:Nat):(e2 (m:Int)).cps.toList=iQ m:=signs_num m
theorem DH(m:Nat):(e2 (n8 m)).cps.toList=45::iQ (m+1):=by
 rw [signs_ofString];show (("-"++Nat.repr (m+1)).toList.map Char.toNat)=_;rw [String.toList_append,kQ,Nat.toList_repr];rfl
theorem LF{n:Int}(h:n.natAbs < 10 ^ 12):n6 (e2 n)=some n/\(e2 n).length<=13:=by
 have ar:(e2 n).cps.toList.length=(e2 n).length:=fO
 cases n with
 | ofNat m=>
  have e:=Al m;have l:=Ak h;have ar:(e2 (m:Int)).cps.toList.length=(e2 (m:Int)).length:=fO;rw [e] at ar
  have le:(e2 (m:Int)).length<=12:=by rw [<- ar];exact l
  have z:=Bm (x:=e2 (m:Int)) (by rw [e];exact tC m) (by rw [e];exact rC m) (by omega);rw [e,val_back] at z;exact ⟨z,by show (e2 (m:Int)).length<=13;omega⟩
 | negSucc m=>
  have e:=DH m;have l:=Ak (m:=m+1) h
  have le:(e2 (n8 m)).length<=13:=by rw [<- ar,e,bR];omega
  have z:=intText_neg (x:=e2 (n8 m)) e (tC _) (rC _) (by omega);rw [val_back] at z;exact ⟨z,le⟩
theorem DI(m:Nat)(h:0 < m):(iQ m).head?≠some 48:=by
 induction m using Nat.strongRecOn with
 | _ m aO=>
  by_cases ae:m < 10
  ·have key:∀ k < 10,0 < k->(iQ k).head?≠some 48:=by decide +kernel
   exact key m ae h
  ·have hm:m % 10 < 10:=Nat.mod_lt m (by decide);have t:qJ 10 (m / 10)++qJ 10 (m % 10)=qJ 10 (10 * (m / 10)+m % 10):=Nat.toDigits_append_toDigits (by decide) (by omega) hm;rw [Nat.div_add_mod] at t;have i:=aO (m / 10) (by omega) (by omega);have ne:=rC (m / 10);show ((qJ 10 m).map Char.toNat).head?≠_;rw [<- t,kQ]
   cases e:iQ (m / 10) with
   | nil=>exact absurd e ne
   | cons c r=>rw [show (qJ 10 (m / 10)).map Char.toNat=c::r from e];rw [e] at i;simpa using i
def fh(z:Str):Bool:=decide (1<=((bare z).length:Int))&&(decide (((bare z).length:Int)<=12)&&j_ (bare z) jz)&&(!Txt.startswith (bare z) "0"||z=="0")
theorem DJ:jz.cps.toList=[48,49,50,51,52,53,54,55,56,57]:=by decide +kernel
theorem LG{z:Str}{m:Nat}(e:z.cps.toList=iQ m):j_ z jz=true:=by
 unfold j_;rw [e,DJ,lz];intro c ai;have:=tC m c ai;rw [decide_eq_true_iff];simp;omega
theorem W0{n:Int}(h:n.natAbs < 10 ^ 12):fh (e2 n)=true:=by
 cases n with
 | ofNat m=>
  have e:=Al m;have l:(iQ m).length<=12:=Ak h
  have b:bare (e2 (m:Int))=e2 (m:Int):=by
   unfold bare;rw [dash,rB,e,if_neg];intro c;have c:=eq_of_beq c
   cases hd:iQ m with
   | nil=>exact rC m hd
   | cons x r=>
    rw [hd] at c;cases c;have:=tC m 45 (by rw [hd];exact bT ..);omega
  have ar:(e2 (m:Int)).cps.toList.length=(e2 (m:Int)).length:=fO;have bD:1<=(iQ m).length:=x_.mpr (rC m);rw [e] at ar;show fh (e2 (m:Int))=true;unfold fh;rw [b,LG e,Dx,rB,e,decide_eq_true (by omega),decide_eq_true (by omega)];by_cases h0:m=0
  ·subst h0;decide +kernel
  ·have:=DI m (by omega)
   have d8:((iQ m).head?==some 48)=false:=by rw [beq_eq_false_iff_ne];exact this
   rw [d8];rfl
 | negSucc m=>
  have e:=DH m;have l:=Ak (m:=m+1) h;have ar:(e2 (n8 m)).cps.toList.length=(e2 (n8 m)).length:=fO
  have b:(bare (e2 (n8 m))).cps.toList=iQ (m+1):=by
   unfold bare;rw [dash,rB,e,if_pos (by rfl),PyProof.Rows.slice_from_eq (by decide) (by rw [<- ar,e,bR];omega) rfl];show (((e2 (n8 m)).cps.toList.drop 1).take _)=_;rw [e,uQ,ie,qH];rw [<- ar,e,bR];omega
  have af:(bare (e2 (n8 m))).cps.toList.length=(bare (e2 (n8 m))).length:=fO;have bD:1<=(iQ (m+1)).length:=x_.mpr (rC _);rw [b] at af;unfold fh;rw [LG b,Dx,rB,b,decide_eq_true (by omega),decide_eq_true (by omega)]
  have d8:((iQ (m+1)).head?==some 48)=false:=by rw [beq_eq_false_iff_ne];exact DI _ (by omega)
  rw [d8];rfl
theorem DK(n:Int):(∀ c∈(e2 n).cps.toList,c=45\/48<=c/\c<=57)/\(e2 n).cps.toList≠[]:=by
 cases n with
 | ofNat m=>show (∀ c∈(e2 (m:Int)).cps.toList,_)/\(e2 (m:Int)).cps.toList≠[];rw [Al];exact ⟨λ c ai=>.inr (tC m c ai),rC m⟩
 | negSucc m=>
  rw [DH];refine ⟨λ c ai=>?_,by simp⟩;rcases cC.mp ai with rfl | ai
  ·exact .inl rfl
  ·exact .inr (tC _ c ai)
end L3
namespace L3
open PySem PySem.Spec PyProof.Rows L2
inductive gy:D->Prop
 | is (n:Int):n.natAbs < 10 ^ 12->gy (.tup [.str "is", .int n])
 | some:gy (.tup [.str "some"])
 | both {a b:D}:gy a->gy b->g5 a=true->g5 b=true->gy (.tup [.str "both", a,b])
 | left {a:D}:gy a->gy (.tup [.str "left", a])
 | right {a:D}:gy a->gy (.tup [.str "right", a])
 | way {ds:List D} {k:D}:(∀ d∈ds,gy d)->gO ds=true->gy k->gy (.tup [.str "way", .tup ds,k])
theorem gy.gP{d:D}(h:gy d):eb d:=by
 induction h with
 | is n=>exact .is n
 | some=>exact .some
 | both _ _ dA cT ae ag=>exact .both ae ag dA cT
 | left _ h=>exact .left h
 | right _ h=>exact .right h
 | way _ s _ ae ag=>exact .way ae s ag
theorem gy.e9{d:D}(h:gy d):bx d:=h.gP.e9
def c4{α:Type}(s:α):List (List α)->List α
 | []=>[]
 | [x]=>x
 | x::y::r=>x++s::c4 s (y::r)
inductive Tk:D->List Str->Prop
 | is (n:Int):n.natAbs < 10 ^ 12->Tk (.tup [.str "is", .int n]) [e2 n]
 | some:Tk (.tup [.str "some"]) ["~"]
 | left {a:D} {x:List Str}:Tk a x->Tk (.tup [.str "left", a]) (("(" : Str)::(x++[(",":Str),(")":Str)]))
 | right {a:D} {x:List Str}:Tk a x->Tk (.tup [.str "right", a]) (("(" : Str)::("," : Str)::(x++[(")":Str)]))
 | both {a b:D} {x y:List Str}:Tk a x->Tk b y->Tk (.tup [.str "both", a,b]) (("(" : Str)::(x++("," : Str)::(y++[(")":Str)])))
 | way {ps:List (D × List Str)} {k:D} {y:List Str}:(∀ p∈ps,Tk p.1 p.2)->Tk k y->ps.length<=40->Tk (.tup [.str "way", .tup (ps.map (·.1)),k]) (("[" : Str)::(c4 (" " : Str) (ps.map (·.2))++(":" : Str)::(y++[("]":Str)])))
theorem DL{P:D->List Str->Prop}:∀{ds:List D},(∀ d∈ds,∃ x,P d x)->∃ ps:List (D × List Str),ps.map (·.1)=ds/\∀ p∈ps,P p.1 p.2
 | [],_=>⟨[],rfl,by simp⟩
 | d::ds,h=>by
  obtain ⟨x,ak⟩:=h d (bT ..);obtain ⟨ps,e,ah⟩:=DL λ e he=>h e (bY _ he);refine ⟨(d,x)::ps,by rw [dF,e],λ p m=>?_⟩;rcases cC.mp m with rfl | m
  ·exact ak
  ·exact ah p m
theorem qa{ds:List D}{n:Nat}(h:fu (.tup ds)<=n):ds.length<=n/\∀ d∈ds,fu d<=n:=by
 rw [fu] at h;exact ⟨by omega,λ d hd=>by have:=Dj hd;omega⟩
theorem LH{α:Type}{s:α}:∀ xs:List (List α),(c4 s xs).length+1<=(xs.map λ x=>x.length+1).sum+1
 | []=>by simp [c4]
 | [x]=>by simp [c4]
 | x::y::r=>by
  have:=LH (s:=s) (y::r);rw [c4,dE,bR,dF,List.sum_cons];omega
theorem LI{α:Type}{s a:α}:∀{xs:List (List α)},a∈c4 s xs->a=s\/∃ x∈xs,a∈x
 | [],h=>by simp [c4] at h
 | [x],h=>.inr ⟨x,by simp,h⟩
 | x::y::r,h=>by
  rw [c4] at h;rcases fc.mp h with h | h
  ·exact .inr ⟨x,by simp,h⟩
  ·rcases cC.mp h with h | h
   ·exact .inl h
   ·rcases LI h with h | ⟨z,ae,ag⟩
    ·exact .inl h
    ·exact .inr ⟨z,bY _ ae,ag⟩
theorem LJ:∀{ps:List (D × List Str)},(∀ p∈ps,p.2.length+1<=2 * cB p.1)->((ps.map (·.2)).map λ x=>x.length+1).sum<=2 * b4 (ps.map (·.1))
 | [],_=>by simp
 | p::ps,h=>by
  have ae:=h p (bT ..);have ag:=LJ λ q bc=>h q (bY _ bc);simp only [dF,List.sum_cons,b4] at *;omega
theorem Tk.len{d:D}{x:List Str}(h:Tk d x):x.length+1<=2 * cB d:=by
 induction h with
 | is n=>simp [cB,b4]
 | some=>simp [cB,b4]
 | left _ h=>simp only [bR,dE,eL,cB,b4] at *;omega
 | right _ h=>simp only [bR,dE,eL,cB,b4] at *;omega
 | both _ _ ae ag=>simp only [bR,dE,eL,cB,b4] at *;omega
 | @way ps k y _ _ ar ae ag=>
  have a:=LH (s:=(" " : Str)) (ps.map (·.2));have b:=LJ ae;simp only [bR,dE,eL,cB,b4] at *;omega
theorem Tk.nP{d:D}{x:List Str}(h:Tk d x):∀ z∈x,z.length<=13:=by
 have bD:∀ z∈([",", ")", "(", "[", "]", " ", ":", "~"]:List Str),z.length<=13:=by decide +kernel
 induction h with
 | is n h=>intro z hz;simp at hz;subst hz;exact (LF h).2
 | some=>intro z hz;exact bD z (by simp at hz;subst hz;simp)
 | left _ h=>
  intro z hz;simp only [cC,fc,eV,or_false] at hz;rcases hz with e | e | e | e
  ·exact bD z (by simp [e])
  ·exact h z e
  ·exact bD z (by simp [e])
  ·exact bD z (by simp [e])
 | right _ h=>
  intro z hz;simp only [cC,fc,eV,or_false] at hz;rcases hz with e | e | e | e
  ·exact bD z (by simp [e])
  ·exact bD z (by simp [e])
  ·exact h z e
  ·exact bD z (by simp [e])
 | both _ _ ae ag=>
  intro z hz;simp only [cC,fc,eV,or_false] at hz;rcases hz with e | e | e | e | e
  ·exact bD z (by simp [e])
  ·exact ae z e
  ·exact bD z (by simp [e])
  ·exact ag z e
  ·exact bD z (by simp [e])
 | way _ _ _ ae ag=>
  intro z hz;simp only [cC,fc,eV,or_false] at hz;rcases hz with e | e | e | e | e
  ·exact bD z (by simp [e])
  ·rcases LI e with e | ⟨x,ak,e⟩
   ·exact bD z (by simp [e])
   ·obtain ⟨p,ah,rfl⟩:=jK.mp ak;exact ae p ah z e
  ·exact bD z (by simp [e])
  ·exact ag z e
  ·exact bD z (by simp [e])
def cat:List Str->List Nat
 | []=>[]
 | z::r=>z.cps.toList++cat r
theorem dm:∀ x y:List Str,cat (x++y)=cat x++cat y
 | [],y=>rfl
 | z::x,y=>by rw [eF,cat,cat,dm x y,db]
def cH(l:List Nat):Str:=⟨l.toArray⟩
abbrev txt(x:List Str):Str:=cH (cat x)
theorem gd(l:List Nat):(cH l).cps.toList=l:=rfl
theorem iR{a b:Str}(h:a.cps.toList=b.cps.toList):a=b:=by
 obtain ⟨x⟩:=a;obtain ⟨y⟩:=b;rw [show x=y from yp.mp h]
theorem nQ(a b:Str):(a++b).cps.toList=a.cps.toList++b.cps.toList:=PySem.W.KT.app_list a b
theorem DN:∀{x:List Str},(∀ z∈x,z.length<=13)->(cat x).length<=13 * x.length
 | [],_=>by simp [cat]
 | z::x,h=>by
  have ae:=h z (bT ..);have ag:=DN λ y bv=>h y (bY _ bv);have e:z.cps.toList.length=z.length:=fO;rw [cat,dE,bR];omega
theorem W2(xs:List (List Str)):Txt.join " " (xs.map txt)=txt (c4 (" " : Str) xs):=by
 rw [eq_of_beq (PyProof.Rows.join_plain_closes " " _)];refine iR ?_;rw [gd]
 induction xs with
 | nil=>rfl
 | cons y aD aO=>
  cases aD with
  | nil=>rfl
  | cons z zs=>
   rw [show Str.join " " ((y::z::zs).map txt)=txt y++" "++Str.join " " ((z::zs).map txt) from rfl,nQ,nQ,aO,c4,dm,cat,db];rfl
def cQ(S:List Nat):List Nat->List Nat->List Str
 | cur,[]=>if cur=[] then [] else [cH cur]
 | cur,c::r=>if c∈S then (if cur=[] then [] else [cH cur])++cH [c]::cQ S [] r else cQ S (cur++[c]) r
def oZ(S rest:List Nat):Prop:=rest=[]\/∃ c r,rest=c::r/\c∈S
theorem DO{S:List Nat}{c:Nat}{r:List Nat}(h:c∈S):cQ S [] (c::r)=cH [c]::cQ S [] r:=by
 rw [cQ,if_pos h,if_pos rfl];rfl
theorem DP{S rest:List Nat}(ao:oZ S rest):∀(l cur:List Nat),(∀ c∈l,c ∉ S)->cur++l≠[]->cQ S cur (l++rest)=cH (cur++l)::cQ S [] rest
 | [],cur,_,ep=>by
  rw [dD] at ep ⊢;rcases ao with rfl | ⟨c,r,rfl,ai⟩
  ·rw [jo,cQ,if_neg ep,cQ,if_pos rfl]
  ·rw [jo,cQ,if_pos ai,if_neg ep,DO ai];rfl
 | c::l,cur,h,_=>by
  rw [eF,cQ,if_neg (h c (bT ..)),DP ao l (cur++[c]) (λ d hd=>h d (bY _ hd)) (by simp),db];rfl
abbrev cR:List Nat:=[91,93,40,41,32,58,44,126]
theorem LK:(("[]() :,~" : String):Str).cps.toList=cR:=by decide +kernel
def DQ(x:List Str):Prop:=∀ rest,oZ cR rest->cQ cR [] (cat x++rest)=x++cQ cR [] rest
theorem kK{z:Str}{c:Nat}(h:z=cH [c])(x:List Str)(rest:List Nat)(ai:c∈cR):cQ cR [] (cat (z::x)++rest)=z::cQ cR [] (cat x++rest):=by
 subst h;exact DO ai
theorem rD{z:Str}{c:Nat}(h:z=cH [c])(x:List Str)(rest:List Nat)(ai:c∈cR):oZ cR (cat (z::x)++rest):=by
 subst h;exact .inr ⟨c,_,rfl,ai⟩
theorem DR:(("(" : String):Str)=cH [40]:=by decide +kernel
theorem wC:((")" : String):Str)=cH [41]:=by decide +kernel
theorem W3:(("[" : String):Str)=cH [91]:=by decide +kernel
theorem LL:(("]" : String):Str)=cH [93]:=by decide +kernel
theorem LM:((" " : String):Str)=cH [32]:=by decide +kernel
theorem LN:((":" : String):Str)=cH [58]:=by decide +kernel
theorem wD:(("," : String):Str)=cH [44]:=by decide +kernel
theorem W4:(("~" : String):Str)=cH [126]:=by decide +kernel
theorem LO:∀{xs:List (List Str)},(∀ x∈xs,DQ x)->DQ (c4 (" " : Str) xs)
 | [],_,rest,_=>rfl
 | [x],h,rest,ao=>h x (by simp) rest ao
 | x::y::r,h,rest,ao=>by
  rw [c4,dm,db,h x (by simp) _ (rD LM _ _ (by decide)),kK LM _ _ (by decide),LO (λ z hz=>h z (bY _ hz)) rest ao,db];rfl
theorem Tk.W5{d:D}{x:List Str}(h:Tk d x):DQ x:=by
 induction h with
 | is n aH=>
  intro rest ao;obtain ⟨ae,ag⟩:=DK n;have z:=DP ao (e2 n).cps.toList [] (λ c ai ew=>by have:=ae c ai;simp at ew;omega) (by simpa using ag);rw [cat,cat,dD,z];rfl
 | some=>intro rest ao;rw [kK W4 _ _ (by decide)];rfl
 | left _ h=>
  intro rest ao;rw [kK DR _ _ (by decide),dm,db,h _ (rD wD _ _ (by decide)),kK wD _ _ (by decide),kK wC _ _ (by decide)];simp [cat]
 | right _ h=>
  intro rest ao;rw [kK DR _ _ (by decide),kK wD _ _ (by decide),dm,db,h _ (rD wC _ _ (by decide)),kK wC _ _ (by decide)];simp [cat]
 | both _ _ ae ag=>
  intro rest ao;rw [kK DR _ _ (by decide),dm,db,ae _ (rD wD _ _ (by decide)),kK wD _ _ (by decide),dm,db,ag _ (rD wC _ _ (by decide)),kK wC _ _ (by decide)];simp [cat]
 | @way ps k y _ _ ar ae ag=>
  intro rest ao
  have g:=LO (xs:=ps.map (·.2)) λ x ak=>by obtain ⟨p,ah,rfl⟩:=jK.mp ak;exact ae p ah
  rw [kK W3 _ _ (by decide),dm,db,g _ (rD LN _ _ (by decide)),kK LN _ _ (by decide),dm,db,ag _ (rD LL _ _ (by decide)),kK LL _ _ (by decide)];simp [cat]
theorem Tk.pieces{d:D}{x:List Str}(h:Tk d x):cQ cR [] (cat x)=x:=by
 have:=h.W5 [] (.inl rfl);rw [dD,cQ,if_pos rfl,dD] at this;exact this
abbrev nR(ds:List D):List D:=c4 (.str " ") (ds.map λ d=>[d])
theorem LP(d e:D)(ds:List D):nR (d::e::ds)=d::.str " "::nR (e::ds):=rfl
theorem LQ:∀ ds:List D,c0 (nR ds)=ds/\c0 ((nR ds).drop 1)=gh (ds.length - 1) (.str " ")
 | []=>⟨rfl,rfl⟩
 | [d]=>⟨rfl,rfl⟩
 | d::e::ds=>by
  obtain ⟨ae,ag⟩:=LQ (e::ds);rw [LP];refine ⟨by rw [c0,ae],?_⟩;rw [uQ,ie]
  have ak:∀(a:D)(l:List D),c0 (a::l)=a::c0 (l.drop 1):=λ a l=>by cases l<;>rfl
  rw [ak,ag];rfl
end L3
namespace L3
open PySem PySem.Spec L2
theorem bM.rep{K:aX}{H:aw}{ds:List D}{vs:List V}(h:bM K H ds vs):∀ n,bM K H (gh n ds).flatten (gh n vs).flatten
 | 0=>rfl
 | n+1=>by rw [pz,pz,pA,pA];exact h.append (bM.rep h n)
end L3
namespace L2
open PySem PySem.Spec PyProof.Rows
section
variable{X:aW}
theorem W6{α:Type}(xs:List α)(n:Nat)(ae:n<=10000)(ag:xs.length<=100):(gh n xs).flatten.length<=1000000:=by
 have e:(gh n xs).flatten.length=n * xs.length:=by simp
 have:=Nat.mul_le_mul ae ag;omega
def W7(K:aX):eX:=λ x y H Q=>∃(a:Addr)(xs:List V)(n:Int),x=.ref a/\y=.int n/\eu K H a xs/\-1000<=n/\n<=10000/\xs.length<=100/\∀ p,H p=none->Q (.ref p) (upd H p (.lst (gh n.toNat xs).flatten))
theorem W8:dS X (hD .Mult) (W7 X.K):=by
 intro pins s σ H x y v u Q I a7 cF h;obtain ⟨a,xs,n,rfl,rfl,ax,h0,aH,ak,q⟩:=h;cases a7;obtain ⟨t,rfl⟩:=cF;obtain ⟨az,r,p,hz⟩:=I.list ax;have hlen:=r.length
 have od:n.toNat<=10000:=by omega
 obtain ⟨⟨cls,d,data,bz⟩,aS,hA,k,hd⟩:=id p.isList;simp only at hA hd;subst hA hd
 have afp:az.toArray.size * n.toNat<=1000000:=by
  rw [cM,<- hlen];have:=Nat.mul_le_mul ak od;omega
 refine wpAny_binaryOp_repeat_ref (T:="list") (U:="int") (by decide) ⟨_,aS,rfl⟩ (λ aM=>typeIs_int aM n t) noFill_list_mul F.fills_int_mul F.slot_int_rmul repeat_list F.slot_int_index.lookup
  (qx F.slot_int_rmul (typeIs_int s n t) F.entry_int_rmul (F.args_int_rmul_2 _ _) (lm_int_rmul_list_any n t a az.toArray k d bz)
   ⟨aS,rfl,⟨_,aS,rfl⟩,qx F.slot_list_mul ⟨_,aS,rfl⟩ F.entry_list_mul (F.args_list_mul_2 _ _)
    (lm_list_mul_any a az.toArray k d bz n t (by simp [Builtin.List.listFitsIndex];omega) (by omega) (by unfold Builtin.List.listTooLong;rw [decide_eq_true_eq,hC];omega))
    ⟨aS,?_⟩⟩)
 rw [listMul_foldl_if];refine ⟨.ref s.heap.objs.size,_,I.laid (t':=s.toks) (o:=.lst (gh n.toNat xs).flatten) (λ b c_ q=>cP _ q) (ZB _) ?_,rfl,q _ (I.bJ.fresh (ZB _))⟩;exact ⟨by have:=W6 xs n.toNat od ak;rw [hC];omega,_,0,IU r n.toNat,f7 _ rfl⟩
end
end L2
namespace L3
open PySem PySem.Spec L2
section
variable{X:aW}
def LR:ht:=λ x y G Q=>match x,y with
 | .ref l,.int n=>hJ G l λ ds=>-1000<=n/\n<=10000/\ds.length<=100/\∀ p,G p=none->Q (.ref p) (up G p (.lst (gh n.toNat ds).flatten))
 | _,_=>False
theorem W9:f5 X (hD .Mult) LR:=by
 refine ⟨_,⟨W8⟩,λ x y ez hh G H ay Q v aQ a5 r F=>?_⟩;unfold LR at r;split at r
 ·next l n=>
  cases aQ;cases a5;obtain ⟨ds,vs,⟨h0,ae,ag,k⟩,s,dJ⟩:=iN v r;exact ⟨l,vs,n,rfl,rfl,s,h0,ae,by rw [dJ.len];exact ag,λ p ah=>F (.ref p) _ _ _ (Go.pU v ah (dJ.rep _)) rfl (k p (v.none ah))⟩
 ·exact r.elim
end
theorem W_:((",)" : String):Str).cps.toList=(("," : String):Str).cps.toList++((")" : String):Str).cps.toList:=by decide +kernel
theorem Xa:(("(," : String):Str).cps.toList=(("(" : String):Str).cps.toList++(("," : String):Str).cps.toList:=by decide +kernel
def DS:fJ:=λ ds G Q=>∃ a,ds=[.ref a]/\h6 G a/\∀(n:Int) au,e0 a G au->n.natAbs < 10 ^ 12->Q (.int n) au
def DU:fJ:=λ ds G Q=>∃ z:Str,ds=[.str z,.int 12]/\z.length<=1000/\Q (.aI (fh z)) G
abbrev tD:Str:="[]() :,~"
def DV:fJ:=λ ds G Q=>∃ z:Str,ds=[.str z,.str tD]/\z.length<=300000/\∀ l,G l=none->Q (.ref l) (up G l (.lst ((cQ cR [] z.cps.toList).map D.str)))
def wE(n:Nat):fJ:=λ ds G Q=>∃(d:D)(x:List Str),ds=[d]/\Tk d x/\d.bC < n/\cB d<=9100/\Q (.str (txt x)) G
inductive tE:D->Prop
 | int (n:Int):tE (.int n)
 | str (z:Str):tE (.str z)
 | tup {ds:List D}:(∀ d∈ds,tE d)->tE (.tup ds)
theorem bx.ad{d:D}(h:bx d):tE d:=by
 induction h with
 | is n=>exact .tup λ d hd=>by simp at hd;rcases hd with rfl | rfl;exact .str _;exact .int _
 | some=>exact .tup λ d hd=>by simp at hd;subst hd;exact .str _
 | both _ _ ae ag=>exact .tup λ d hd=>by simp at hd;rcases hd with rfl | rfl | rfl;exact .str _;exact ae;exact ag
 | left _ ae=>exact .tup λ d hd=>by simp at hd;rcases hd with rfl | rfl;exact .str _;exact ae
 | right _ ae=>exact .tup λ d hd=>by simp at hd;rcases hd with rfl | rfl;exact .str _;exact ae
 | way _ _ ae ag=>exact .tup λ d hd=>by simp at hd;rcases hd with rfl | rfl | rfl;exact .str _;exact .tup ae;exact ag
def wF(n:Nat):fJ:=λ ds G Q=>∃ d:D,ds=[d,d]/\tE d/\d.bC < n/\fu d<=40/\Q (.aI true) G
theorem DW{α:Type}(x:α)(r:List α):cut (x::r) (some 1) none=r:=Lq (xs:=x::r) (k:=1) (by simp)
theorem Am{n:Nat}(h:n<=700000):n < sizeLine:=by rw [hC];omega
theorem big{n:Nat}(h:n<=700000):n<=sizeLine:=by rw [hC];omega
theorem LS{m:Nat}(h:m < 10 ^ 12):m.log2 < 1920:=by
 by_cases h0:m=0
 ·subst h0;decide
 ·have:m.log2 < 40:=(Nat.log2_lt h0).mpr (sy h (by decide));omega
theorem wG{ds:List D}{i:Int}{j:Nat}{d:D}(h0:i < 0)(ae:(j:Int)=ds.length+i)(h:ds[j]?=some d):gJ ds i=some d:=by
 have e:kZ ds.length i=some j:=by
  unfold kZ;rw [if_neg (by omega),if_pos (by omega)];congr 1;omega
 unfold gJ;rw [e];exact h
theorem LT(z:Str):∀ n,en (gh n (.str z)) (gh n (.str z))=true
 | 0=>rfl
 | n+1=>by rw [pz,en,LT z n];simp [cm]
theorem LU(z:Str):∀ n,c3 (gh n (.str z))=true/\cc (gh n (.str z))<=150
 | 0=>⟨rfl,by simp [cc]⟩
 | n+1=>by
  obtain ⟨ae,ag⟩:=LU z n;rw [pz];exact ⟨by rw [c3,ae];rfl,by rw [cc];simp only [D.bC];omega⟩
theorem LV(z:D):∀ n,(gh n [z]).flatten=gh n z
 | 0=>rfl
 | n+1=>by rw [pz,pA,LV z n];rfl
structure Frs(G:aP)(fr:Addr)(aK:List (Addr × List D)):Prop where
 top:G fr=some (.lst ((aK.map (·.1)).reverse.map D.ref))
 at_:∀ p∈aK,G p.1=some (.lst p.2)
 bK:(aK.map (·.1)).Nodup
 ne:∀ p∈aK,p.1≠fr
theorem Frs.push{G:aP}{fr q:Addr}{aK:List (Addr × List D)}{f:List D}(h:Frs G fr aK)(bc:G q=none):Frs (up (up G q (.lst f)) fr (.lst ((aK.map (·.1)).reverse.map D.ref++[.ref q]))) fr ((q,f)::aK):=by
 have dt:q≠fr:=by rintro rfl;rw [h.top] at bc;cases bc
 have ck:∀ p∈aK,p.1≠q:=λ p ah e=>by rw [<- e,h.at_ p ah] at bc;cases bc
 refine ⟨by rw [bU];simp,λ p ah=>?_,?_,λ p ah=>?_⟩
 ·rcases cC.mp ah with rfl | ah
  ·rw [dU dt];exact bU
  ·rw [dU (h.ne p ah),dU (ck p ah)];exact h.at_ p ah
 ·rw [dF,qG];refine ⟨λ m=>?_,h.bK⟩;obtain ⟨p,ah,e⟩:=jK.mp m;exact ck p ah e
 ·rcases cC.mp ah with rfl | ah
  ·exact dt
  ·exact h.ne p ah
theorem Frs.pop{G:aP}{fr:Addr}{p:Addr × List D}{aK:List (Addr × List D)}(h:Frs G fr (p::aK)):Frs (up G fr (.lst ((aK.map (·.1)).reverse.map D.ref))) fr aK:=
 ⟨bU,λ q bc=>by rw [dU (h.ne q (bY _ bc))];exact h.at_ q (bY _ bc),(qG.mp h.bK).2,λ q bc=>h.ne q (bY _ bc)⟩
theorem Frs.set{G:aP}{fr a:Addr}{t t':List D}{aK:List (Addr × List D)}(h:Frs G fr ((a,t)::aK)):Frs (up G a (.lst t')) fr ((a,t')::aK):=by
 have dt:=h.ne (a,t) (bT ..);refine ⟨by rw [dU dt.symm];exact h.top,λ p ah=>?_,h.bK,λ p ah=>?_⟩
 ·rcases cC.mp ah with rfl | ah
  ·exact bU
  ·rw [dU]
   ·exact h.at_ p (bY _ ah)
   ·intro e;exact (qG.mp h.bK).1 (by rw [<- e];exact sw (f:=(·.1)) ah)
 ·rcases cC.mp ah with rfl | ah
  ·exact dt
  ·exact h.ne p (bY _ ah)
theorem Sub.ext'{G aB:aP}{p:Addr}{o:hr}(h:Sub G aB)(n:aB p=uY):Sub G (up aB p o):=λ b u e=>Sub.new (Sub.refl _) n b u (h b u e)
theorem LW(z:Str):txt [z]=z:=iR (by simp [gd,cat])
theorem Tk.tF{d:D}{x:List Str}(h:Tk d x)(ap:cB d<=9100):(txt x).length<=240000:=by
 have ae:=h.len;have ag:=DN h.nP;show (cat x).length<=_;omega
theorem tG(a b:Str):(a++b).length=a.length+b.length:=by
 show (a.cps++b.cps).size=_;rw [yn];rfl
theorem lits{z t:Str}(ae:z.length<=2)(ag:t.length<=240000):z.length+t.length<=sizeLine:=big (by omega)
theorem tH{z t:Str}(ae:z.length<=2)(ag:t.length<=240002):t.length+z.length<=sizeLine:=big (by omega)
theorem tI{z t:Str}(ae:z.length<=2)(ag:t.length<=240000):(z++t).length<=240002:=by rw [tG];omega
theorem Xb:(("," : String):Str).length=1:=by decide
theorem Xc:((":" : String):Str).length=1:=by decide
theorem Xd:((")" : String):Str).length=1:=by decide
theorem Xe:(("]" : String):Str).length=1:=by decide
theorem LX:∀ xs:List (List Str),(xs.map λ x=>(cat x).length).sum<=(cat (c4 (" " : Str) xs)).length
 | []=>ZB _
 | [x]=>by simp [c4]
 | x::y::r=>by
  have:=LX (y::r);rw [c4,dm,cat,dE,dE,dF,List.sum_cons];omega
end L3
namespace L3
open PySem L2
theorem LY(a:List Nat):(cH a).length=a.length:=by simp [cH,Str.length]
end L3
namespace L3
open PySem L2
def ln(x:Str):Int:=(n6 x).getD 0
end L3
namespace L2
open PySem PySem.Spec PyProof.Rows
theorem DX{P:cL}{w:b8}{H:aw}{h h':bE}(k:fx P w H h)(aN:∀ b u,H b≠none->h.get? b=some u->h'.get? b=some u):fx P w H h':=λ a o e=>
 (k a o e).nk (λ b u af q=>aN b u (by rcases af with rfl | af;rw [e];simp;rw [af];simp) q) (λ _ q=>q) λ _ _ q=>q
theorem Xf{P:cL}{w:b8}{H:aw}{h:bE}{a:Addr}{o:gi}(x:f9 P w H h a o):∃ u,h.get? a=some u:=by
 cases o with
 | lst xs=>obtain ⟨_,_,_,_,e⟩:=x;exact ⟨_,e⟩
 | tup xs=>obtain ⟨_,_,_,o,e,_⟩:=x;exact ⟨_,e⟩
 | i3 dn=>obtain ⟨_,_,_,_,o,_,_,e,_⟩:=x;exact ⟨_,e⟩
 | iH dn=>obtain ⟨_,_,_,_,o,_,_,e,_⟩:=x;exact ⟨_,e⟩
 | set S n=>obtain ⟨o,_,_,_,e,_⟩:=x;exact ⟨_,e⟩
 | ins C aV aK=>obtain ⟨_,_,_,e,_⟩:=x;exact ⟨_,e⟩
 | own y=>obtain ⟨_,e⟩:=x;exact ⟨_,e⟩
 | iI aK=>obtain ⟨_,⟨_,_,_,e,_⟩,_⟩:=x;exact ⟨_,e⟩
 | yy lo av=>obtain ⟨_,_,_,e⟩:=x;exact ⟨_,e⟩
 | ih c_ u=>obtain ⟨e,_⟩:=x;exact ⟨_,e⟩
 | n_ ps=>exact ⟨_,show h.get? a=some _ from x⟩
 | met f y=>exact ⟨_,show h.get? a=some _ from x⟩
 | ext φ=>obtain ⟨_,⟨_,e⟩,_⟩:=x;exact ⟨_,e⟩
theorem LZ{P:cL}{w:b8}{H:aw}{h:bE}(k:fx P w H h){b:Addr}(af:h.get? b=none):H b=none:=by
 cases e:H b with
 | none=>rfl
 | some o=>
  obtain ⟨u,a_⟩:=Xf (k b o e);rw [af] at a_;cases a_
section
variable{X:aW}{pins:List (Addr × Obj)}{σ:St}{H:aw}{s:aE}{h':bE}{e T:Addr}{cls:Value}
theorem DY(I:Inv X pins σ H s){b:Addr}(af:b∈X.aK):b∈eQ X.stack:=by
 rcases I.ok.sN with z | ⟨z,hf⟩
 ·rw [z];exact af
 ·rw [z];unfold eQ;rw [xZ,hf];exact bY _ af
theorem Xg(I:Inv X pins σ H s)(keep:∀ b u,b ∉ eQ X.stack->b≠e->b≠T->s.heap.get? b=some u->h'.get? b=some u)(slot:∀ b u,b∈eQ X.stack->s.heap.get? b=some u->∃ bz,h'.get? b=some { u with slots:=bz })
 (Xh:∃ de vs,s.heap.get? e=some de/\de.data=Data.fields vs) (iH:∃ iA vs,s.heap.get? T=some iA/\iA.data=Data.fields vs) (ne:X.eP.heap.get? e=none) (jB:X.eP.heap.get? T=none) (wH:∀ p∈X.pn++pins,p.1≠e/\p.1≠T) (he:H e=none) (cW:H T=none) :
 Inv X pins σ H { s with heap:=h' }:=by
 have bK:∀{b:Addr}{o:Obj},s.heap.get? b=some o->(∀ vs,o.data≠Data.fields vs)->b≠e/\b≠T:=λ{b o} z hd=>by
  obtain ⟨de,vs,cI,eS⟩:=Xh;obtain ⟨iA,L0,b9,fC⟩:=iH;refine ⟨?_,?_⟩
  ·rintro rfl;rw [z] at cI;cases cI;exact hd _ eS
  ·rintro rfl;rw [z] at b9;cases b9;exact hd _ fC
 have any:∀ b u,b≠e->b≠T->s.heap.get? b=some u->∃ bz,h'.get? b=some { u with slots:=bz }:=λ b u dt ck z=>by
  by_cases af:b∈eQ X.stack
  ·exact slot b u af z
  ·exact ⟨u.slots,keep b u af dt ck z⟩
 have lE:∀ b,b≠X.env.locals->b ∉ X.aK->b ∉ eQ X.stack:=λ b ae ag aR=>by
  rcases cC.mp (I.sP b aR) with z | z
  ·exact ae z
  ·exact ag z
 have hS:∀ b o,X.eP.heap.get? b=some o->b≠X.env.locals/\b≠e/\b≠T:=λ b o z=>by
  refine ⟨?_,?_,?_⟩
  ·rintro rfl;exact absurd (dc z) (Nat.not_lt.mpr I.ok.above)
  ·rintro rfl;rw [z] at ne;cases ne
  ·rintro rfl;rw [z] at jB;cases jB
 have cellK:∀ c v,s.heap.IsCell c v->h'.IsCell c v:=λ c v ⟨o,z,d⟩=>by
  obtain ⟨dt,ck⟩:=bK z (λ vs hd=>by rw [d] at hd;cases hd);obtain ⟨bz,b9⟩:=any c o dt ck z;exact ⟨_,b9,d⟩
 have iB:=I.base;refine ⟨I.ok,I.os,I.bare,⟨λ b o z n af ak=>?_,λ b o z n af ak=>?_,iB.free,λ b o z ak=>?_,iB.km,iB.jP,iB.kn⟩,?_,λ x c z=>let ⟨v,bO⟩:=I.cell x c z;⟨v,cellK c v bO⟩,I.free,I.kp,λ p ah=>?_,DX I.bJ λ b u af z=>keep b u (λ ag=>af (I.u9 b ag)) (by rintro rfl;exact af he) (by rintro rfl;exact af cW) z,I.len⟩
 ·obtain ⟨ei,eD,ka⟩:=hS b o z;exact keep b o (lE b ei af) eD ka (iB.keep b o z n af ak)
 ·obtain ⟨bz,cI⟩:=iB.slot b o z n af ak;obtain ⟨qO,b9⟩:=slot b _ (DY I af) cI;exact ⟨qO,b9⟩
 ·obtain ⟨dM,cI⟩:=iB.there b o z ak;obtain ⟨ei,eD,ka⟩:=hS b o z;obtain ⟨bz,b9⟩:=any b dM eD ka cI;exact ⟨_,b9⟩
 ·obtain ⟨m,⟨o,es,dY,aS,r⟩,ar⟩:=I.loc;obtain ⟨dt,ck⟩:=bK aS (λ vs hd=>by rw [r.1] at hd;cases hd);obtain ⟨bz,b9⟩:=any _ o dt ck aS;refine ⟨m,⟨_,es,dY,b9,r⟩,λ i x v aC aG e3=>?_⟩;obtain ⟨u,c5,l⟩:=ar i x v aC aG e3;refine ⟨u,c5,?_⟩;rcases l with l | ⟨k,c,z,ai⟩
  ·exact .inl l
  ·exact .inr ⟨k,c,z,cellK c _ ai⟩
 ·obtain ⟨z,n,ei,eD,d⟩:=I.pin p ah;obtain ⟨aF,bo⟩:=wH p ah;exact ⟨keep p.1 p.2 (lE p.1 ei eD) aF bo z,n,ei,eD,d⟩
end
section
variable{X:aW}{pins:List (Addr × Obj)}{σ:St}{H:aw}{s:aE}
theorem An{M:lx}{A:cz}{E:Value->aE->Prop}{i:Nat}{n:Str}{pos:Pos}{Q:Unit->aE->Prop}(I:Inv X pins σ H s)(dG:X.N.Nodup)(av:X.N[i]?=some n)(jY:X.env.scope.names.lookup n=some .local)(h:∀ aM,Inv X pins (σ.set i none) H aM->Q () aM) :
 aU M A (do bindName X.env n Value.none;unbindBehindTheSuite X.env n pos) Q E s:=by
 obtain ⟨m,aH,ar⟩:=id I.loc
 have Bz:(X.env.scope.kind==.class||(X.env.scope.kind==.module&&X.env.locals !=X.env.globals))=false:=by rw [I.ok.kind];rfl
 refine wpAny_nameGoes_keeps jY aH Bz λ h' v od i7=>h _ ?_
 have iC:∀ b u,b≠X.env.locals->s.heap.get? b=some u->h'.get? b=some u:=λ b u nb z=>by rw [i7.2 b nb];exact z
 have hS:∀ b o,X.eP.heap.get? b=some o->b≠X.env.locals:=λ b o z=>by
  rintro rfl;exact absurd (dc z) (Nat.not_lt.mpr I.ok.above)
 have vz:∀ c v,s.heap.IsCell c v->c≠X.env.locals:=λ c v ⟨o,z,d⟩=>by
  rintro rfl;obtain ⟨dM,es,dY,fQ,r⟩:=aH;rw [z] at fQ;cases fQ;rw [d] at r;cases r.1
 have cellK:∀ c v,s.heap.IsCell c v->h'.IsCell c v:=λ c v ai=>by
  have ne:=vz c v ai;obtain ⟨o,z,d⟩:=ai;exact ⟨o,iC c o ne z,d⟩
 have iB:=I.base
 have L1:∀ b,b∈X.aK->b≠X.env.locals:=λ b af=>by
  obtain ⟨_,o,aS,_⟩:=I.ok.ko.mem af;exact hS b o aS
 refine ⟨I.ok,I.os,I.bare,⟨λ b o z n af ak=>iC b o (hS b o z) (iB.keep b o z n af ak),λ b o z n af ak=>?_,iB.free,λ b o z ak=>?_,iB.km,iB.jP,iB.kn⟩,⟨_,od,λ L4 x w aC aG e3=>?_⟩,λ x c z=>let ⟨v,bO⟩:=I.cell x c z;⟨v,cellK c v bO⟩,I.free,I.kp,λ p ah=>?_,DX I.bJ λ b u af z=>iC b u (by rintro rfl;exact af I.free) z,by rw [List.length_set];exact I.len⟩
 ·obtain ⟨bz,cI⟩:=iB.slot b o z n af ak;exact ⟨bz,iC b _ (hS b o z) cI⟩
 ·obtain ⟨dM,cI⟩:=iB.there b o z ak;exact ⟨dM,iC b dM (hS b o z) cI⟩
 ·have ep:i≠L4:=by
   rintro rfl;rw [List.getElem?_set] at aG;split at aG
   ·split at aG<;>cases aG
   ·next c=>exact c rfl
  rw [qF ep] at aG
  have Xi:x≠n:=by
   rintro rfl;exact ep (By dG av aC)
  obtain ⟨u,c5,l⟩:=ar L4 x w aC aG e3;refine ⟨u,c5,?_⟩;rcases l with ⟨k,hm⟩ | ⟨k,c,z,ai⟩
  ·exact .inl ⟨k,by show (if x=n then v else m x)=some u;rw [if_neg Xi];exact hm⟩
  ·exact .inr ⟨k,c,z,cellK c _ ai⟩
 ·obtain ⟨z,n,ei,eD,d⟩:=I.pin p ah;exact ⟨iC p.1 p.2 ei z,n,ei,eD,d⟩
def Ao(i:Nat)(D:Ends):Ends:=⟨λ σ H=>D.nx (σ.set i none) H,D.rt,λ σ H=>D.bk (σ.set i none) H,λ σ H=>D.ct (σ.set i none) H⟩
end
end L2
namespace L2
open PySem PySem.Spec PyProof.Rows PySem.W PySem.Calls Builtin Builtin.ObjectAttr Builtin.Getset_descriptor
structure lp(K:Frag)(C:Addr):Prop where
 ga:findIn K (.ref C) "__getattribute__" = some (some (.builtin "BaseException.__getattribute__"))
 gr:findIn K (.ref C) "__getattr__" = some none
 ca:findIn K (.ref C) "__class__" = some (some (.builtin "object.__class__"))
 gt:specialIn K (.builtin "object.__class__") "__get__" = some (some (.builtin "getset_descriptor.__get__"))
 bL:takesIn K (.builtin "object.__class__")=some true
 mo:mroIn K C (.type "object")=some true
 jQ:subIn K (.ref C) (.type "BaseException")=some true
 cl:(clsIn K C).isSome=true
def ExcAt(e C:Addr)(h:bE):Prop:=∃ de,h.get? e=some de/\de.cls=.ref C
theorem ExcAt.ty{M:lx}{e C:Addr}{h:bE}(x:ExcAt e C h):Looks M h (n0 (.ref e)) (.ref C):=by
 obtain ⟨de,ae,ag⟩:=x;exact ag ▸ (Looks.ld ae).andThen .now
section
variable{prog:cL}{w:b8}{A:cz}{E:Value->aE->Prop}{s:aE}{K:Frag}{e C:Addr}
theorem Xj{R:Result->aE->Prop}{gL:Value}(F:lp K C)(X:K.In s.heap)(I:ExcAt e C s.heap)
 (h:R (.ok (.ret (.ref C))) s):pq (aY prog w) A (.call (.builtin "getset_descriptor.__get__") ⟨[.builtin "object.__class__", .ref e,gL],[]⟩) R s:=by
 obtain ⟨d8,g,afq,t,os⟩:=s;have nS:=I.ty (M:=aY prog w);have o1:=looks_mroIn (M:=aY prog w) X F.mo;refine ux KF.slot_gs.plain KF.entry_gs (KF.slot_gs.check _ _ _ _ _ _ _ _ KF.type_class (KF.args_gs _ _ _) ?_);unfold Builtin.«getset_descriptor.__get__» descrGet;rw [dga_obj];refine aA (br ?_);unfold descrGetter descrCheckInstance descrNameAndClass uD;simp only [KF.owner_class]
 repeat lk
 refine ⟨Code.quiet_builtin _ (by decide +kernel),Bk KF.entry_class ?_⟩;unfold Builtin.«object.__class__» shownTypeOf
 repeat lk
 exact h
theorem L5(x:Value):bindSpecial (.builtin "BaseException.__getattribute__") x=pure (.builtin "BaseException.__getattribute__", [x]):=by kernel_rfl
theorem Xk{M:lx}{h:bE}(F:lp K C)(X:K.In h):Looks M h (find (.ref e) (.ref C) "__class__") (.bind (.builtin "getset_descriptor.__get__") (.builtin "object.__class__")):=by
 have o1:=uJ (M:=M) X F.ca;have L2:Looks M h (getOf (some (.builtin "object.__class__"))) (some (.builtin "getset_descriptor.__get__")):=looks_specialIn X F.gt;have L3:=looks_takesIn (M:=M) X F.bL;refine o1.andThen (L2.andThen ?_);exact (show Looks M h (dataDescriptor? (some (.builtin "object.__class__")) (some (.builtin "getset_descriptor.__get__"))) (some (.builtin "getset_descriptor.__get__", .builtin "object.__class__")) from L3.andThen .now).andThen (Looks.tag .now)
theorem Xl{Q:Option Value->aE->Prop}(F:lp K C)(X:K.In s.heap)(I:ExcAt e C s.heap)(h:Q (some (.ref C)) { s with toks:=s.toks+1 }):aU (aY prog w) A (getAttr? (.ref e) "__class__") Q E s:=by
 obtain ⟨d8,g,d,t,os⟩:=s;have nS:=I.ty (M:=aY prog w);have o1:=uJ (M:=aY prog w) X F.ga;have L2:=uJ (M:=aY prog w) X F.gr;have L3:=Xk (M:=aY prog w) (e:=e) F X;unfold getAttr? getAttrBy? getAttrBy;refine aA (wpAny_mkText (aA (m7 (jn (aA (nS.at (aA (o1.at ?_))))))))
 dsimp only
 rw [show (xR (.ref C)&&Value.builtin "BaseException.__getattribute__"==Value.builtin "object.__getattribute__")=false from by rw [show (Value.builtin "BaseException.__getattribute__"==Value.builtin "object.__getattribute__")=false from by decide +kernel,sC],if_neg (by decide)];refine aA ((show Looks (aY prog w) d8 (hookBefore (.ref C)) none from L2).at (aA (m7 (jn ?_))));unfold callGetattribute;rw [show (false&&xR (Value.builtin "BaseException.__getattribute__"))=false from rfl,if_neg (by decide)];unfold boundAndCalled;rw [L5];refine aA (br ?_);show aU _ _ (call (.builtin "BaseException.__getattribute__") [.ref e,.str "__class__" t]) _ _ _;refine pj ?_;refine ux (by first | exact Code.quiet_builtin _ (by decide +kernel) | decide +kernel) PySem.F.entry_bexc_ga ?_;refine @check_slot (aY prog w) _ _ _ "BaseException.__getattribute__" "BaseException" "__getattribute__" (.ref e) [.str "__class__" t] [] _ (by decide +kernel) (by decide +kernel) (nS.andThen (looks_subIn X F.jQ)) (PySem.F.args_bexc_ga (.ref e) (.str "__class__" t)) ?_;refine aA (br (aA (br (aA (nS.at (aA (L3.at ?_)))))));show aU _ _ (jI [.builtin "object.__class__"] (call (.builtin "getset_descriptor.__get__") [.builtin "object.__class__", .ref e,.ref C]) >>= ret) _ _ _;refine aA (jn (pj (Xj F X I ?_)));refine br ?_;exact handed_on rfl (br h)
theorem DZ(F:lp K C):KitX K (.ref e) (.ref C) (ExcAt e C) where
 ty:=λ M h _ p=>p.ty
 it:=λ M h X _=>by
  have aC:=F.cl;unfold clsIn at aC;split at aC
  ·rename_i fE d' Xm qO aS
   intro lj h1 gX aM k q;unfold isType loadHead;exact aA (wpAny_loadPart (k _ _ (X _ _ aS)) (br q))
  ·cases aC
 ne:=λ h gL dd az n bz X Xn=>yq.mpr λ q=>by
  cases beq_iff_eq.mp q;have aC:=F.cl;unfold clsIn at aC;split at aC
  ·rename_i fE d' Xm qO aS
   have:=X _ _ aS;rw [Xn] at this;cases this
  ·cases aC
 ca:=λ X p k=>Xl F X p k
end
end L2
namespace L2
open PySem PySem.Spec PyProof.Rows
def Xo(e:Addr)(C:Addr)(K:aX):List V->aw->cE->Prop:=λ xs H Q=>∃ y,xs=[.ref e,y]/\((∃ c b,y=.ref c/\Wp K (.ref C) (.ref c)=some b/\Q (.aI b) H)\/(∃ T b,y=.ty T/\Wp K (.ref C) (.type T)=some b/\Q (.aI b) H) ∨
 ∃(a:Addr)(cs:List Addr)(b:Bool),y=.ref a/\dH K H a (cs.map V.ref)/\PySem.W.kitAny K (.ref C) (cs.map Value.ref)=some b/\Q (.aI b) H)
theorem L6:∀{cs:List Addr}{az:List Value},Vals (cs.map V.ref) az->az=cs.map Value.ref
 | [],az,h=>by cases h;rfl
 | c::cs,az,h=>by
  cases h with
  | cons r h=>rw [dF,<- L6 h];cases r;rfl
end L2
namespace L3
open PySem PySem.Spec L2
section
variable{X:aW}
def D0(i:Nat)(b3:s_):s_:=⟨λ ρ G=>b3.nx (ρ.set i none) G,b3.rt,λ ρ G=>b3.bk (ρ.set i none) G,λ ρ G=>b3.ct (ρ.set i none) G⟩
theorem dh.off{K:aX}{ρ:eB}{G:aP}{σ:St}{H:aw}(b:dh K ρ G σ H)(i:Nat):dh K (ρ.set i none) G (σ.set i none) H where
 len:=by simp [b.len]
 cA:=b.cA
 st:=λ j e he=>by
  by_cases c:j=i
  ·subst c;rw [List.getElem?_set] at he;split at he
   ·split at he<;>cases he
   ·next z=>exact absurd rfl z
  ·rw [qF (Ne.symm c)] at he;rw [qF (Ne.symm c)];exact b.st j e he
theorem lO.off{K:aX}{G:aP}{H:aw}{b3:s_}{c8:Ends}(F:lO K G H b3 c8)(i:Nat):lO K G H (D0 i b3) (Ao i c8):=
 ⟨λ ρ au σ aj g b q=>F.nx _ au _ aj g (b.off i) q,F.rt,λ ρ au σ aj g b q=>F.bk _ au _ aj g (b.off i) q,λ ρ au σ aj g b q=>F.ct _ au _ aj g (b.off i) q⟩
def tJ:List D->Option (List Addr)
 | []=>some []
 | .ref a::ds=>(tJ ds).map (a::·)
 | _=>none
theorem L7{K:aX}{H:aw}:∀{ds:List D}{vs:List V}{cs:List Addr},tJ ds=some cs->bM K H ds vs->vs=cs.map V.ref
 | [],vs,cs,h,a=>by cases h;cases a;rfl
 | .ref x::ds,vs,cs,h,a=>by
  unfold tJ at h
  cases z:tJ ds with
  | none=>rw [z] at h;cases h
  | some l=>
   rw [z] at h;cases h;obtain ⟨v,r,rfl,a1,a2⟩:=a;rw [L7 z a2];cases a1;rfl
 | .a9::_,_,_,h,_=>by cases h
 | .aI _::_,_,_,h,_=>by cases h
 | .int _::_,_,_,h,_=>by cases h
 | .str _::_,_,_,h,_=>by cases h
 | .ty _::_,_,_,h,_=>by cases h
 | .tup _::_,_,_,h,_=>by cases h
 | .d7 _::_,_,_,h,_=>by cases h
def Ap(K:aX)(C:Addr):D->Option Bool
 | .ref c=>Wp K (.ref C) (.ref c)
 | .ty T=>Wp K (.ref C) (.type T)
 | .tup ds=>match tJ ds with
  | some cs=>PySem.W.kitAny K (.ref C) (cs.map Value.ref)
  | none=>none
 | _=>none
@[irreducible] def Aq(K:aX)(C e:Addr):D->D->aP->cJ->Prop:=λ x y G Q=>x=.ref e/\∃ b,Ap K C y=some b/\Q (.aI b) G
theorem L8{K:aX}{C e:Addr}{x y:D}{G:aP}{Q:cJ}:Aq K C e x y G Q=(x=.ref e/\∃ b,Ap K C y=some b/\Q (.aI b) G):=by unfold Aq;rfl
theorem D1{K:aX}{C e:Addr}{y:D}{G:aP}{Q:cJ}{b:Bool}(k:Ap K C y=some b)(q:Q (.aI b) G):Aq K C e (.ref e) y G Q:=by rw [L8];exact ⟨rfl,b,k,q⟩
end
end L3
namespace L2
open PySem PySem.Spec PyProof.Rows
def mQ(C:Addr)(aV:Option Addr)(t:Addr):Obj:={ cls:=.ref C,dict:=aV,data:=.fields #[.ref t,.none,.none,.none,.bool false,.none] }
section
variable{A:cz}{E:Value->aE->Prop}{nm q:Str}{C N:Addr}{bs bm L9:List Value}{hdct:Bool}{sn:List Str}{sub:List Value}{ab:Bool}{col:Option Bool}{dd:Option Addr}{k0 k1 k2 k3 k5:Option Value}{B newId Xp:String}
theorem vEq{M:lx}{s:aE}{env:Env}{x:Sem Value}{Q:Flow->aE->Prop}(af:bm.contains (.type "BaseException")=true)(d8:A.handled=none)
 (h:aU M A x (λ v dp=>∃ e t aV,v=.ref e/\dp.heap.get? C=some (sa nm q C N bs bm hdct sn sub ab col dd k0 k1 k2 k3 k5 newId)/\dp.heap.get? e=some (mQ C aV t)/\E (.ref e) dp) E s) :
 aU M A (raiseStmt env (some x) none) Q E s:=by
 have bu:(Value.ref C::bm).contains (.type "BaseException")=true:=by rw [List.contains_cons,af,Bool.or_true]
 unfold raiseStmt;refine aA (gC h (λ v dp z=>?_) λ _ _ y=>y);obtain ⟨e,t,aV,rfl,gW,he,vP⟩:=z;unfold mQ at he;obtain ⟨ah,g,d,bL,os⟩:=dp
 repeat (first | with_reducible refine uy he ?_ | with_reducible refine uy gW ?_ | (with_reducible refine wpAny_isSubtype_exc gW ?_;rw [bu]) | wp_step)
 exact wpAny_raiseNew_none d8 vP
variable{prog:cL}{w:b8}{h:bE}{g:Array GenState}{d:Drawn}{t:Nat}{os:OsState}
theorem Xq(F:ExcBaseFacts B newId Xp L9)(T:OwnTail h L9 bm){rE:Str->Option Value}{rest:List Value}{g6:Addr}{rF:Obj}{Q:Value->aE->Prop}
 (gW:h.get? C=some (sa nm q C N bs bm hdct sn sub ab col dd k0 k1 k2 k3 k5 newId)) (aH:h.Ns N rE) (av:rE "__init__" = some (.ref g6)) (Xr:h.get? g6=some rF) (Xs:rF.cls=.type "function")
 (bc:∀ h' e,Heap.MadeExcOf h h' e (.ref C) rest->h.objs.size<=e->aU (aY prog w) (A.under (.builtin "type.__call__" ⟨.ref C::rest,[]⟩)) (call (.ref g6) (.ref e::rest)) (λ r aM=>r=.none/\Q (.ref e) aM) E ⟨h',g,d,t,os⟩)
 (tp:rest.length<=sizeLine):aU (aY prog w) A (call (.ref C) rest) Q E ⟨h,g,d,t,os⟩:=by
 have f1:=tc_lookup;have f2:=tc_bind (.ref C)
 have cW:(⟨h,g,d,t,os⟩:aE).TypeIs (.ref C) "type":=⟨_,gW,rfl⟩
 refine pj (codeAny_of_tree ?_);show aU _ _ (callAny (.ref C) _) _ _ _
 repeat (any_goals (first | assumption | with_reducible refine uy gW ?_ | wp_step))
 refine ⟨rfl,codeAny_call_builtin_at (Code.quiet_builtin _ (by decide +kernel)) entry_typeCall (wpAny_check_type_call_sub gW ?_)⟩
 repeat (first | with_reducible refine uy gW ?_ | with_reducible refine wpAny_madeBy_exc gW ?_ | wp_step)
 refine codeAny_call_builtin_code (Code.quiet_builtin _ F.quiet) (wpAny_check_new_subT F T gW (codeAny_exc_new_subT F T gW ?_ tp));show aU _ _ _ _ _ ⟨(h.push { cls:=.type "tuple", data:=.seq rest.toArray }).push { cls:=.ref C,data:=.fields #[.ref h.objs.size,.none,.none,.none,.bool false,.none] },g,d,t,os⟩;generalize rG:(h.push { cls:=.type "tuple", data:=.seq rest.toArray }).push { cls:=.ref C,data:=.fields #[.ref h.objs.size,.none,.none,.none,.bool false,.none] }=ae
 have keep:∀ b o,h.get? b=some o->ae.get? b=some o:=λ b o z=>by rw [<- rG];exact cP _ (cP _ z)
 have he:ae.get? (h.objs.size+1)=some { cls:=.ref C,data:=.fields #[.ref h.objs.size,.none,.none,.none,.bool false,.none] }:=by rw [<- rG];heap_get
 have bh:ae.get? h.objs.size=some { cls:=.type "tuple", data:=.seq rest.toArray }:=by rw [<- rG];exact cP _ (Heap.get?_push_at rfl rfl)
 have L_:=keep _ _ gW
 have bu:(Value.ref C::bm).contains (.ref C)=true:=by simp
 unfold uD
 repeat (first | with_reducible refine uy he ?_ | (show aU _ _ (isSubtype (.ref C) (.ref C)) _ _ _;refine wpAny_isSubtype_exc L_ ?_;rw [bu]) | wp_step)
 show aU _ _ (typeLookup (.ref C) _) _ _ _;refine wpAny_typeLookup_tail L_ (aH.keeps keep) (T.keeps keep) F.mroIs F.init.lookup ?_;rw [av];refine jn (aA ?_);unfold bindSpecial;refine aA (qv (T:="function") ⟨_,keep _ _ Xr,Xs⟩ ?_);rw [if_pos (by decide)];refine br (aA (gC (bc ae (h.objs.size+1) ⟨keep,yv (sz _),h.objs.size,he,yv (ZB _),bh⟩ (sz _)) (λ r aM ao=>?_) λ _ _ x=>x));obtain ⟨rfl,gj⟩:=ao
 wp_walk
 exact gj
end
abbrev Ar:List Value:=[.type "ValueError", .type "Exception", .type "BaseException", .type "object"]
section
open Builtin Builtin.ObjectAttr
variable{prog:cL}{w:b8}{A:cz}{E:Value->aE->Prop}{s:aE}{K:aX}{C B e t:Addr}{name:Str}{v:Value}{cd:kh}
theorem Xt{Q:Unit->aE->Prop}(X:K.In s.heap)(he:s.heap.get? e=some (mQ C none t))(ap:nh K (.ref C) "__setattr__" = some (some (.builtin "object.__setattr__")))(ai:lD K C=some cd)(hm:cd.mro=.ref C::.ref B::Ar)(hd:cd.hasDict=true)
 (bh:PySem.W.takerIn K C name=some none)
  (h:∀ h' bL,h'.get? e=some (mQ C (some s.heap.objs.size) t)->h'.Ns1 s.heap.objs.size (λ y=>if y=name then some v else none)->(∀ b o,b≠e->s.heap.get? b=some o->h'.get? b=some o)->Q () { s with heap:=h',toks:=bL }) :
  aU (aY prog w) A (setAttr (.ref e) name v) Q E s:=by
  have J:PySem.W.InstAt s.heap e (mQ C none t) C none:=⟨he,rfl,rfl,trivial⟩
  refine PySem.W.set_plain X J ap ?_;have wI:=PySem.F.store_object
  have ne:cd.mro.isEmpty=false:=by rw [hm];rfl
  have sub:PySem.W.Looks (aY prog w) s.heap (uD (.ref e) (.type "object")) true:=J.type.andThen (PySem.W.looks_mroIn X (by unfold PySem.W.mroIn;rw [ai,Option.bind_some,if_neg (by rw [ne];decide),hm];rfl));have Xu:PySem.W.Looks (aY prog w) s.heap (mroOf (.ref C)) cd.mro:=(PySem.W.looks_clsIn X ai).andThen .now;obtain ⟨attr,ax,ao⟩:=Option.bind_eq_some_iff.mp bh
  have L3:PySem.W.Looks (aY prog w) s.heap (storeTaker? attr) none:=by
   cases attr with
   | none=>exact .now
   | some a=>
    obtain ⟨b,af,z⟩:=Option.map_eq_some_iff.mp ao;refine (PySem.W.looks_takesIn X af).andThen ?_
    cases b with
    | true=>cases z
    | false=>exact .now
  refine ux wI.slot.plain wI.entry (@PySem.W.check_slot (aY prog w) _ _ { s with toks:=s.toks+1 } "object.__setattr__" "object" "__setattr__" (.ref e) [.str name s.toks,v] [] _ wI.kind wI.split sub (wI.args (.ref e) (.str name s.toks) v) ?_);rw [PySem.W.osa_eq,refuse_eq];refine aA (aA (J.type.here (s:={ s with toks:=s.toks+1 }) (aA (Xu.here (s:={ s with toks:=s.toks+1 }) ?_))));rw [hm,refuseLoop_ref,refuseLoop_ref,PySem.F.store_ValueError.passes];refine br (aA (J.type.here (s:={ s with toks:=s.toks+1 }) (aA ((PySem.W.looks_findIn X ax).here (s:={ s with toks:=s.toks+1 }) (aA (L3.here (s:={ s with toks:=s.toks+1 }) ?_))))));show aU _ _ (storeInOwnDict _ _ _ _ _ _) _ _ _;unfold storeInOwnDict;refine aA (br (aA (aA (wpAny_loadPart he (aA (PySem.W.Looks.here (s:={ s with toks:=s.toks+1 }) (PySem.W.looks_clsIn X ai) ?_))))));rw [hd,if_neg (by decide)];show aU _ _ (if (!true||!typeHasDict (.ref C))=true then pure none else do let d ← alloc { cls:=.type "dict", data:=.dict #[] };update e λ o=>{ cls:=o.cls,dict:=some d,data:=o.data,slots:=o.slots };dictMade (.ref C) e d) _ _ _;rw [if_neg (by simp [typeHasDict])];have Ma:(s.heap.push { cls:=.type "dict", data:=.dict #[] }).get? e=some (mQ C none t):=cP _ he;have ns:e≠s.heap.objs.size:=eO (dc he);refine aA (wpAny_alloc' (aA (wpAny_update' Ma (br ?_))));generalize rG:(s.heap.push { cls:=.type "dict", data:=.dict #[] }).update e (λ o=>{ cls:=o.cls,dict:=some s.heap.objs.size,data:=o.data,slots:=o.slots })=ae
  have g1:ae.get? s.heap.objs.size=some { cls:=.type "dict", data:=.dict #[] }:=by
   rw [<- rG];exact (u2 _ _ _ _ ns.symm).trans (Heap.get?_push_at rfl rfl)
  have g2:ae.get? e=some (mQ C (some s.heap.objs.size) t):=by rw [<- rG];exact n7 _ Ma rfl
  have dt:ae.Ns s.heap.objs.size (λ _=>none):=⟨_,#[],_,g1,rfl,λ e he=>absurd he (by simp),λ _=>rfl⟩
  show aU _ _ (storeInDict s.heap.objs.size (.str name s.toks) name v) _ _ _;unfold storeInDict newKeyGuard;refine aA (br (aA (wpAny_nsSet1 (Heap.Ns1.of_empty dt) λ h' od ap=>?_)));obtain ⟨afr,afs,aft,Xv,Xw,Xx⟩:=od.count (Within.cons name v Within.nil);refine aA (wpAny_lookBehind Xv (by rw [Xw];exact pastItsLine_dict (gF Xx (by rw [bR,eL,hC];omega))) ?_)
  wp_walk
  refine h h' _ ((ap.2 e ns).trans g2) od λ b o af z=>?_;rw [ap.2 b (eO (dc z)),<- rG,u2 _ _ _ _ af];exact cP _ z
end
def jC(e C:Addr)(aV:Option Addr):bE->Prop:=λ h=>∃ t,h.get? e=some (mQ C aV t)
theorem D2{P:cL}{w:b8}{H:aw}{h:bE}{e C:Addr}{aV:Option Addr}(x:jC e C aV h):f9 P w H h e (.ext (jC e C aV)):=
 ⟨x,let ⟨_,z⟩:=x;⟨_,z⟩,λ _ _ ⟨t,z⟩ k=>⟨t,k _ z⟩⟩
structure rH(K:aX)(C g6:Addr):Prop where
 ex:∃(bm:List Value)(N:Addr)(nm q:Str)(bs:List Value)(hdct:Bool)(sn:List Str)(sub:List Value)(ab:Bool)(col:Option Bool)(dd:Option Addr)(k0 k1 k2 k3 k5:Option Value)(rE:Str->Option Value)(rF:Obj),
  bm.contains (.type "BaseException")=true/\rE "__init__" = some (.ref g6)/\rF.cls=.type "function"/\∀ h:bE,K.In h->h.get? C=some (sa nm q C N bs bm hdct sn sub ab col dd k0 k1 k2 k3 k5 "ValueError.__new__")/\h.Ns N rE/\h.get? g6=some rF/\OwnTail h Ar bm
structure As(K:aX)(C:Addr)(name:Str):Prop where
 HQ:nh K (.ref C) "__setattr__" = some (some (.builtin "object.__setattr__"))
 cls:∃(cd:kh)(B:Addr),lD K C=some cd/\cd.mro=.ref C::.ref B::Ar/\cd.hasDict=true
 bL:PySem.W.takerIn K C name=some none
structure Au(K:aX)(B:Addr):Prop where
 a3:ys K (.ref B) "__getattribute__" = some (some (.builtin "type.__getattribute__"))
 ao:PySem.W.readsIn K B (.type "type")=true
 hf:PySem.W.findCls K (.ref B) (.type "type") "__init__" = some (.val (.builtin "ValueError.__init__"))
def Xy(C:Addr)(t:fk):TE:=λ σ H Q=>t σ H λ vs H1=>∃ a v,vs=[.ref a,v]/\H1 a=some (.ext (jC a C none))/\Q .a9 H1
section
variable{X:aW}{pins:List (Addr × Obj)}{σ:St}{H:aw}{s:aE}{C g6 B:Addr}{name:Str}
theorem Xz{H:aw}{a:Addr}{o:gi}(h:H a=some o):upd H a o=H:=by
 funext b;by_cases c:b=a
 ·subst c;rw [eG,h]
 ·rw [cN c]
theorem XA{A:cz}{E:Value->aE->Prop}{a:Addr}{u:Value}{Q:Value->aE->Prop}(mR:rH X.K C g6)(I:Inv X pins σ H s)(ha:H a=some (.ext (jC a C none)))(bc:∀ aM,Inv X pins σ H aM->Q .none aM) :
 aU (aY X.prog X.w) A (call (.builtin "ValueError.__init__") [.ref a,u]) Q E s:=by
 obtain ⟨bm,N,nm,q,bs,hdct,sn,sub,ab,col,dd,k0,k1,k2,k3,k5,rE,rF,f1,f2,cV,f4⟩:=mR.ex;obtain ⟨g1,g2,g3,fT⟩:=f4 s.heap I.ff;obtain ⟨⟨t,he⟩,_⟩:=I.bJ a _ ha;have F:=PySem.F.excBase_ValueError;obtain ⟨ah,g,d,bL,os⟩:=s;refine pj (ux F.init.plain F.initEntry (wpAny_check_init_subT F fT g1 he rfl ?_));have iS:=he;unfold mQ at iS
 wp_walk
 refine bc _ ?_;have Mb:((ah.push { cls:=.type "tuple", data:=.seq #[u] }).update a (Obj.mapFields λ x=>x.setIfInBounds 0 (.ref ah.objs.size))).get? a=some (mQ C none ah.objs.size):=n7 _ (cP _ he) rfl
 have J:=I.write (x:=a) (e:=a) (o:=.ext (jC a C none)) (h':=(ah.push { cls:=.type "tuple", data:=.seq #[u] }).update a (Obj.mapFields λ x=>x.setIfInBounds 0 (.ref ah.objs.size))) (t':=bL) (by rw [ha];exact True.intro) (.inl rfl)
  (λ b o af z=>by rw [u2 _ _ _ _ af];exact cP _ z) ⟨_,Mb⟩ (D2 ⟨_,Mb⟩)
 rw [Xz ha] at J;exact J
theorem XB{tK:Str}{dP apos dk:Pos}{aC aG:a8}{t:fk}{pl:Sem Bool}(mR:rH X.K C g6)(o2:Au X.K B)(a3:et X tK)(hm:X.mg tK=some (.ref B))(ax:ii X [aC,aG] t)(fF:(tK==("__debug__" : Str))=false:=by decide)
 (hG:dB [aC,aG] X.env=(false,eval aC X.env)::dB [aG] X.env:=by rfl) (hp:(hO dk (dB [aG] X.env)).any (·.1)=false:=by rfl)
 (bh:eval (.Call (.Attribute (.Name tK dP) "__init__" apos) [aC,aG] [] dk) X.env=(do
  let gb ← eval (.Name tK dP) X.env
  pp apos.atName
  let (f,first) ← jI [gb] (getMethod gb "__init__" pl)
  callWith dk f first (hO dk (dB [aC,aG] X.env)) (backToKw dk (keywordEach [] X.env))):=by rfl) :
 b_ X (.Call (.Attribute (.Name tK dP) "__init__" apos) [aC,aG] [] dk) (Xy C t):=by
 intro pins s σ H Q I h;refine PySem.W.methodCall_KW (pl:=pl) (sQ I a3 hm ?_ fF) bh;refine PySem.W.method_cls I.ff o2.a3 (PySem.W.cls_value I.ff o2.ao o2.hf (by decide) ?_);show aU _ _ (callWith dk (.builtin "ValueError.__init__") [] (hO dk (dB [aC,aG] X.env)) []) _ _ _;refine PyProof.Rows.callWith_builtin1 (b0 (ax dk pins _ σ H _ (I.tok _) h) λ us s1 ⟨vs,H1,a4,r,a,v,ev,fl,q⟩=>?_) hG hp;subst ev;obtain ⟨cY,du,rfl,aT,a0⟩:=Vals.two r;cases aT
 exact XA mR a4 fl λ s2 dg=>⟨.a9,H1,dg,rfl,q⟩
theorem Inv.writeNew{a aV:Addr}{o u:gi}{h':bE}{t':Nat}(I:Inv X pins σ H s)(jO:u5 (H a))(k:∀ b u,b≠a->s.heap.get? b=some u->h'.get? b=some u)(ob:∃ u,h'.get? a=some u)(hd:s.heap.objs.size<=aV)(tL:aV≠a)
 (XC:∀ aj,f9 X.prog X.w aj h' a o) (newD:∀ aj,f9 X.prog X.w aj h' aV u):Inv X pins σ (upd (upd H aV u) a o) { s with heap:=h',toks:=t' }:=by
 have aH:H aV=none:=I.bJ.fresh hd;have cY:fP X.aK [] H (upd H a o) s.heap h':=fP.write jO (.inl rfl) k ob;have ae:fx X.prog X.w (upd H a o) h':=I.bJ.write jO (.inl rfl) k ob (XC _)
 have b6:upd (upd H aV u) a o=upd (upd H a o) aV u:=by
  funext b;by_cases c:b=a
  ·subst c;rw [eG,cN tL.symm,eG]
  ·rw [cN c];by_cases bt:b=aV
   ·subst bt;rw [eG,eG]
   ·rw [cN bt,cN bt,cN c]
 have rI:upd H a o aV=none:=by rw [cN tL];exact aH
 rw [b6];refine I.un ⟨cY.keep,cY.slot,λ b c_ z n ak=>?_,cY.there,λ b xs z=>?_,λ b c_ v z=>?_,λ b ps z=>?_⟩ λ b v z=>?_
 ·rw [cN (eO (hX (dc z) hd))];exact cY.free b c_ z n ak
 ·have e:=cY.km b xs z;rw [cN (hY e rI)];exact e
 ·have e:=cY.jP b c_ v z;rw [cN (hY e rI)];exact e
 ·obtain ⟨m,e⟩:=cY.kn b ps z;exact ⟨m,by rw [cN (hY e rI)];exact e⟩
 ·by_cases af:b=aV
  ·subst af;rw [eG] at z;cases z;exact newD _
  ·rw [cN af] at z;exact (ae b v z).nk (λ _ _ _ q=>q) (λ c q=>by rw [cN (hY q rI)];exact q) λ c xs q=>by rw [cN (hY q rI)];exact q
def XD(C:Addr)(bb Av:TE)(name:Str):eR:=λ D σ H=>Av σ H λ y H1=>bb σ H1 λ x bg=>∃ a,x=.ref a/\bg a=some (.ext (jC a C none))/\∀ aV,bg aV=none->aV≠a->D.nx σ (upd (upd bg aV (.iI [(name,y)])) a (.ext (jC a C (some aV))))
theorem XE{o value:a8}{pos pos':Pos}{bb Av:TE}(rJ:As X.K C name)(ax:b_ X o bb)(bO:b_ X value Av)(ap:jH value (some (.Attribute o name pos')) pos.line X.env=pure false):jR X (.Assign [.Attribute o name pos'] value pos) (XD C bb Av name):=by
 intro pins s σ H D I h;refine plainObj_wpAny_Assign_Attribute (b0 (bO pins s σ H _ I h) λ u s1 ⟨y,H1,a4,cF,q⟩=>b0 (ax pins s1 σ H1 _ a4 q) λ gb s2 ⟨x,bg,dg,a7,a,ex,fl,bo⟩=>?_) ap;subst ex;obtain rfl:gb=Value.ref a:=a7;obtain ⟨⟨t,he⟩,_⟩:=dg.bJ a _ fl;obtain ⟨cd,B,bu,bt,d0⟩:=rJ.cls;have aH:bg s2.heap.objs.size=none:=dg.bJ.fresh (ZB _);have na:s2.heap.objs.size≠a:=n4 (dc he)
 refine Xt dg.ff he rJ.HQ bu bt d0 rJ.bL λ h' bL aC aG e3=>⟨σ,_,?_,bo s2.heap.objs.size aH na⟩
 refine dg.writeNew (by rw [fl];exact True.intro) e3 ⟨_,aC⟩ (ZB _) na (λ _=>D2 ⟨t,aC⟩) λ _=>⟨_,aG,λ f=>?_⟩
 by_cases c:f=name
 ·subst c;simp only [px,beq_self_eq_true,if_true];exact cF
 ·have fE:(f==name)=false:=beq_eq_false_iff_ne.mpr c;simp only [px,fE,if_neg c,List.lookup_nil];exact True.intro
def wJ(C:Addr)(name:Str):iK:=λ vs H Q _=>∃ a v,vs=[.ref a,v]/\H a=some (.ext (jC a C none))/\∀ aV,H aV=none->aV≠a->Q .a9 (upd (upd H aV (.iI [(name,v)])) a (.ext (jC a C (some aV))))
end
theorem XF{P:cL}{w:b8}{K:aX}{mg:Str->Option Value}{base:bE}{x qual dP name:Str}{st:bP}{f C B g6:Addr}{fd:gD}{aF bo dw gm kW lH mr sY Mc Md:Pos}
 (F:dT K x qual st f fd) (S:ek ["self", dP] ["self", dP] (cb st)) (mR:rH K C g6) (o2:Au K B) (rJ:As K C name) (hm:mg "BagError" = some (.ref B))
 (af:jb st=[.Expr (.Call (.Attribute (.Name "BagError" aF) "__init__" bo) [.Name "self" dw,.Name dP gm] [] kW) lH,.Assign [.Attribute (.Name "self" mr) name sY] (.Name dP Mc) Md])
 (XG:∀(bI:Value)(A:cz)(outer:List Env)(s:aE)(H:aw)(E:fY),et (eJ c6 P w K mg base ["self", dP] qual (cb st) f bI A outer s H E) "BagError") (bh:∀(bI:Value)(A:cz)(outer:List Env)(s:aE)(H:aw)(E:fY),∃ pl:Sem Bool,eval (.Call (.Attribute (.Name "BagError" aF) "__init__" bo) [.Name "self" dw,.Name dP gm] [] kW) (eJ c6 P w K mg base ["self", dP] qual (cb st) f bI A outer s H E).env=(do
  let gb ← eval (.Name "BagError" aF) (eJ c6 P w K mg base ["self", dP] qual (cb st) f bI A outer s H E).env
  pp bo.atName
  let (XH,first) ← jI [gb] (getMethod gb "__init__" pl)
  callWith kW XH first (hO kW (dB [.Name "self" dw,.Name dP gm] (eJ c6 P w K mg base ["self", dP] qual (cb st) f bI A outer s H E).env)) (backToKw kW (keywordEach [] (eJ c6 P w K mg base ["self", dP] qual (cb st) f bI A outer s H E).env))))
 (XI:qM (cb st) "self") (XJ:qM (cb st) dP)
 (mz:∀{env:Env},jH (.Call (.Attribute (.Name "BagError" aF) "__init__" bo) [.Name "self" dw,.Name dP gm] [] kW) none lH.line env=pure false) (XK:∀{env:Env},jH (.Name dP Mc) (some (.Attribute (.Name "self" mr) name sY)) Md.line env=pure false) (XM:(dP==("__debug__" : Str))=false:=by decide) (nL:(dP==("__classdict__" : Str))=false:=by decide) :
 da P w K mg base c6 1 f fd ["self", dP] (wJ C name):=by
 obtain ⟨gH,eM,gG,doc,pm,an,bI,ct,i9,rfl,lk,ho⟩:=F.ex;refine BM (k:=0) lk ho S (λ vs H Q E h=>?_) λ A outer s H vs Q E ao jV=>?_
 ·obtain ⟨_,_,rfl,_⟩:=h;rfl
 ·obtain ⟨a,v,rfl,ha,q⟩:=jV;rw [af];have v0:∀{q:Pos},b_ (eJ c6 P w K mg base ["self", dP] qual (cb st) f bI A outer s H E) (.Name "self" q) (yD 0):=yE rfl XI (by decide) (by decide);have v1:∀{q:Pos},b_ (eJ c6 P w K mg base ["self", dP] qual (cb st) f bI A outer s H E) (.Name dP q) (yD 1):=yE rfl XJ XM nL;obtain ⟨pl,bh⟩:=bh bI A outer s H E;refine ⟨_,Hs (Hv (XB (C:=C) (pl:=pl) mR o2 (XG bI A outer s H E) hm (pc v0 (pc v1 BK)) (by decide) rfl rfl bh) mz) (Ht (XE rJ v0 v1 XK)),?_⟩;exact ⟨_,rfl,_,rfl,a,v,rfl,ha,_,rfl,_,rfl,a,rfl,ha,λ aV ae ag=>q aV ae ag⟩
section
variable{X:aW}{C g6:Addr}{name cx:Str}{fd:gD}{ps:List Str}{e:a8}{aZ:TE}{W:V->aw->Prop}{np dk pos:Pos}
theorem XN{k:Nat}(mR:rH X.K C g6)(F:da X.prog X.w X.K X.mg X.base c6 k g6 fd ps (wJ C name))(ao:fy (k+1) X.A)(a3:et X cx)(hm:X.mg cx=some (.ref C))(aN:lC X.K (.ref C)=true)(af:Binds X.K fd ps [])(ax:b_ X e aZ)(ai:X.calm=true)(hex:X.ex=[])
 (ak:∀(pins:List (Addr × Obj))(σ:St)(H:aw)(s:aE)(a aV:Addr)(v:V),Inv X pins σ (upd (upd H aV (.iI [(name,v)])) a (.ext (jC a C (some aV)))) s->H a=none->H aV=none->aV≠a->X.eP.heap.get? a=none->X.eP.heap.get? aV=none->W v H->X.xe (.ref a) s)
 (a_:e7 e=true:=by rfl) (fF:(cx==("__debug__" : Str))=false:=by decide) (he:dB [e] X.env=(false,eval e X.env)::dB [] X.env:=by rfl) (hp:(hO dk (dB [] X.env)).any (·.1)=false:=by rfl) :
 jR X (.Raise (some (.Call (.Name cx np) [e] [] dk)) none pos) (λ _ σ H=>aZ σ H λ x H1=>∃ v,[x]=[v]/\W v H1):=by
 intro pins s σ H D I h;obtain ⟨bm,N,nm,q,bs,hdct,sn,sub,ab,col,dd,k0,k1,k2,k3,k5,rE,rF,f1,f2,cV,f4⟩:=mR.ex;rw [arm_exec_Raise];refine aA (pg (vEq (C:=C) (nm:=nm) (q:=q) (N:=N) (bs:=bs) (bm:=bm) (hdct:=hdct) (sn:=sn) (sub:=sub) (ab:=ab) (col:=col) (dd:=dd) (k0:=k0) (k1:=k1) (k2:=k2) (k3:=k3) (k5:=k5) (newId:="ValueError.__new__") f1 (I.ok.hd ai) ?_));refine aA (b0 (Q:=λ v dp=>∃ e t aV,v=.ref e/\dp.heap.get? C=some (sa nm q C N bs bm hdct sn sub ab col dd k0 k1 k2 k3 k5 "ValueError.__new__")/\dp.heap.get? e=some (mQ C aV t)/\X.xe (.ref e) dp) ?_ λ v Me mO=>aA (pg (br mO)));refine XL (sQ I a3 hm ?_ fF);refine PySem.W.callWith_K (h₀:=X.base) I.ok.mod.sL aN (b0 (pc ax BK a_ dk pins s σ H (λ vs H1=>∃ v,vs=[v]/\W v H1) I h) λ us s1 ⟨vs,H1,a4,r,v,ev,rK⟩=>⟨a4.ff,?_⟩) he hp;subst ev;obtain ⟨u,rfl,c5⟩:=Vals.one r;obtain ⟨g1,g2,g3,fT⟩:=f4 s1.heap a4.ff;show aU _ _ (call (.ref C) [u]) _ _ _;obtain ⟨ah,hu,d,bL,os⟩:=s1;refine Xq PySem.F.excBase_ValueError fT g1 g2 f2 g3 cV (λ h' a hm eW=>?_) (by show 1<=sizeLine;decide);obtain ⟨t,cI,b9,gZ⟩:=hm.there;have dg:Inv X pins σ (upd H1 a (.ext (jC a C none))) ⟨h',hu,d,bL,os⟩:=a4.laid (t':=bL) hm.keeps eW (D2 ⟨t,cI⟩);have rI:H1 a=none:=a4.bJ.fresh eW;have a0:Vals [V.ref a,v] [Value.ref a,u]:=.cons rfl (.cons c5 .nil)
 have bc:wJ C name [.ref a,v] (upd H1 a (.ext (jC a C none))) (λ y aj=>y=.a9/\∃ aV,H1 aV=none/\aV≠a/\aj=upd (upd H1 aV (.iI [(name,v)])) a (.ext (jC a C (some aV)))) vx:=
  ⟨a,v,rfl,eG,λ aV ae ag=>⟨rfl,aV,by rw [cN ag] at ae;exact ae,ag,by
   funext b;by_cases c:b=a
   ·subst c;rw [eG,eG]
   ·rw [cN c,cN c];by_cases bt:b=aV
    ·subst bt;rw [eG,eG]
    ·rw [cN bt,cN bt,cN c]⟩⟩
 have ar:[Value.ref a,u].length=ps.length:=F.len _ _ _ _ bc;have g0:=af ⟨h',hu,d,bL,os⟩ [Value.ref a,u] dg.ff (by rw [dD];exact ar);rw [dD] at g0;refine pj (uC (F.run _ X.stack _ _ ⟨[Value.ref a,u],[]⟩ [Value.ref a,u] [V.ref a,v] _ vx (ao.make C [u] []) (dg.BL.make C [u] []) g0 a0 bc) λ r aM wK=>?_)
 cases r with
 | error e=>exact (show False from wK).elim
 | ok eY=>
  cases eY with
  | ret y=>
   obtain ⟨CF,aj,vo,XO,un,BX,cF,rfl,aV,dt,ck,rfl⟩:=wK;cases cF;have eH:=dg.yC (ch:=[]) vo un BX XO (λ b z=>absurd z (by simp))
   have bK:X.eP.heap.get? aV=none:=by
    cases z:X.eP.heap.get? aV with
    | none=>rfl
    | some o=>
     obtain ⟨dM,cI⟩:=dg.base.there aV o z (by rw [hex];simp);have b9:=un.free aV dM cI (by rw [cN ck];exact dt) (by simp);rw [cN ck,eG] at b9;cases b9
   have na:X.eP.heap.get? a=none:=yv (gF a4.eW eW);obtain ⟨⟨t',g8⟩,_⟩:=eH.bJ a _ eG;exact ⟨rfl,a,t',some aV,rfl,(f4 aM.heap eH.ff).1,g8,ak pins σ H1 aM a aV v eH rI dt ck na bK rK⟩
  | next=>exact False.elim wK
  | brk=>exact False.elim wK
  | cont=>exact False.elim wK
end
end L2
namespace L2
open PySem PySem.Spec PyProof.Rows
def lq(h:bE)(e T:Addr)(cls:Value)(dd:Option Addr)(eY:Value):Prop:=
 ∃ de vs iA d4,h.get? e=some de/\de.cls=cls/\de.dict=dd/\de.data=Data.fields vs/\vs[1]?=some (Value.ref T)/\T≠e/\h.get? T=some iA/\iA.data=Data.fields d4/\d4[3]?=some eY
def Mf(h:bE)(e:Addr)(cls:Value)(dd:Option Addr):Prop:=
 ∃ de vs,h.get? e=some de/\de.cls=cls/\de.dict=dd/\de.data=Data.fields vs/\vs[1]?=some Value.none
section
variable{M:lx}{A:cz}{E:Value->aE->Prop}{s:aE}{e T L:Addr}{cls eY:Value}{dd:Option Addr}{base:bE}{env:Env}{outer:List Env}{Q:Unit->aE->Prop}
theorem Aw(f:lq s.heap e T cls dd eY)(bc:∀ h',lq h' e T cls dd .none->(∀ b,b≠T->h'.get? b=s.heap.get? b)->Q () { s with heap:=h' }):aU M A (setFlight (.ref e) none) Q E s:=by
 obtain ⟨de,vs,iA,d4,f1,f2,cV,f4,eI,qb,lr,f8,qc⟩:=f;have gZ:3 < d4.size:=(sB.mp qc).1;unfold setFlight;refine aA (fi f1 f4 eI ?_);rw [if_pos (show (Value.ref T !=Value.none)=true from by simp)];have iC:∀ b,b≠T->(s.heap.update T (Obj.mapFields (·.setIfInBounds 3 ((none:Option Addr).elim Value.none λ f=>gE f)))).get? b=s.heap.get? b:=λ b af=>u1 _ _ af.symm;exact pf lr f8 gZ (bc _ ⟨de,vs,_,_,(iC e qb.symm).trans f1,f2,cV,f4,eI,qb,n7 _ lr (Obj.isFreed_of_fields (Obj.data_mapFields f8 _)),Obj.data_mapFields f8 _,by simp [gZ]⟩ iC)
theorem XP(o:Obj)(g:Array Value->Array Value):(Obj.mapFields g o).dict=o.dict:=by
 obtain ⟨c,d,rL,bz⟩:=o;cases rL<;>rfl
theorem Mg{de:Obj}{vs:Array Value}{head:Value}{aH:Bool}(gR:A.frames=some (env::outer))(ar:s.heap.FunFrames base (env::outer))(hf:env.frame=some L)(he:s.heap.get? e=some de)(hd:de.data=Data.fields vs)(hz:1 < vs.size)
 (bc:∀ h' ec,lq h' e ec de.cls de.dict (gE L)->s.heap.get? ec=none->(∀ b o,b ∉ eQ (env::outer)->b≠e->s.heap.get? b=some o->h'.get? b=some o)->(∀ b o,b≠e->s.heap.get? b=some o->∃ bz,h'.get? b=some { o with slots:=bz })->Q () { s with heap:=h' }) :
 aU M A (do let a ← frameOf env;let pl ← entryPlaceOf L aH;let b ← EntryCells.newEntry head a .none (gE L) .none pl;uE (.ref e) 1 b) Q E s:=by
 have ne:e ∉ (env::outer).filterMap (·.frame):=λ hm=>by
  obtain ⟨_,o,aS,ak⟩:=ar.mem hm;rw [he] at aS;cases aS;exact ak vs hd
 refine aA (wpAny_frameOf_fun gR ar hf λ ae Ax=>aA (wpAny_entryPlaceOf λ pl hp=>?_));unfold EntryCells.newEntry newFields;refine aA (kf ?_ (hp.sizeOk5 _ _ _ _ _));have aC:ae.get? e=some de:=(Ax.2.1 e ne).trans he;generalize cW:({ cls:=.type "traceback", dict:=none,data:=.fields ([head,.ref L,.none,gE L,.none]++(if pl.isEmpty then gh 6 Value.none else pl)).toArray }:Obj)=iA;have aG:(ae.push iA).get? e=some de:=cP _ aC;refine pf aG hd hz ?_;have jB:ae.objs.size≠e:=n4 (dc aC);have lX:=Obj.data_mapFields hd (·.setIfInBounds 1 (Value.ref ae.objs.size));have iC:∀ b,b≠e->((ae.push iA).update e (Obj.mapFields (·.setIfInBounds 1 (Value.ref ae.objs.size)))).get? b=(ae.push iA).get? b:=λ b af=>u1 _ _ af.symm;have D3:(ae.push iA).get? ae.objs.size=some iA:=f7 ae (by rw [<- cW];rfl)
 have fresh:s.heap.get? ae.objs.size=none:=by
  cases z:s.heap.get? ae.objs.size with
  | none=>rfl
  | some o=>
   obtain ⟨bz,cI⟩:=Ax.2.2 _ o z;exact absurd (dc cI) (me _)
 refine bc _ ae.objs.size ⟨_,_,iA,_,n7 _ aG (Obj.isFreed_of_fields lX),Obj.cls_mapFields _ _,XP _ _,lX,by simp [hz],jB,(iC _ jB).trans D3,by rw [<- cW],?_⟩ fresh (λ b o dt ck z=>?_) λ b o ck z=>?_
 ·first | (simp;done) | (rcases hp with rfl | ⟨_,_,_,_,_,_,_,rfl⟩<;>simp)
 ·rw [iC b ck];exact cP _ ((Ax.2.1 b dt).trans z)
 ·rw [iC b ck];obtain ⟨bz,cI⟩:=Ax.2.2 b o z;exact ⟨bz,cP _ cI⟩
end
section
variable{M:lx}{A:cz}{E:Value->aE->Prop}{s:aE}{e T L:Addr}{cls eY:Value}{dd:Option Addr}{base:bE}{env:Env}{outer:List Env}{Q:Unit->aE->Prop}
theorem XQ(gR:A.frames=some (env::outer))(ar:s.heap.FunFrames base (env::outer))(hf:env.frame=some L)(f:Mf s.heap e cls dd)
 (bc:∀ h' ec,lq h' e ec cls dd (gE L)->s.heap.get? ec=none->(∀ b o,b ∉ eQ (env::outer)->b≠e->s.heap.get? b=some o->h'.get? b=some o)->(∀ b o,b≠e->s.heap.get? b=some o->∃ bz,h'.get? b=some { o with slots:=bz })->Q () { s with heap:=h' }) :
 aU M A (qA (.ref e) env) Q E s:=by
 obtain ⟨de,vs,f1,rfl,rfl,f4,eI⟩:=f;unfold qA;simp only [hf];refine aA (fi f1 f4 eI ?_);rw [if_neg (by decide)];exact Mg gR ar hf f1 f4 (sB.mp eI).1 bc
theorem Mh(gR:A.frames=some (env::outer))(ar:s.heap.FunFrames base (env::outer))(hf:env.frame=some L)(f:lq s.heap e T cls dd .none)
 (bc:∀ h' ec,lq h' e ec cls dd (gE L)->s.heap.get? ec=none->(∀ b o,b ∉ eQ (env::outer)->b≠e->b≠T->s.heap.get? b=some o->h'.get? b=some o)->(∀ b o,b≠e->b≠T->s.heap.get? b=some o->∃ bz,h'.get? b=some { o with slots:=bz })->Q () { s with heap:=h' }) :
 aU M A (qA (.ref e) env) Q E s:=by
 obtain ⟨de,vs,iA,d4,f1,rfl,rfl,f4,eI,qb,lr,f8,qc⟩:=f;unfold qA;simp only [hf];refine aA (fi f1 f4 eI ?_);rw [if_pos (show (Value.ref T !=Value.none)=true from by simp)];refine aA (fi lr f8 qc ?_);rw [if_neg (show ¬ ((Value.none==gE L)=true) from by simp [gE])];refine aA (pf lr f8 (sB.mp qc).1 ?_);have iC:∀ b,b≠T->(s.heap.update T (Obj.mapFields (·.setIfInBounds 3 Value.none))).get? b=s.heap.get? b:=λ b af=>u1 _ _ af.symm
 have XR:∀ b o,s.heap.get? b=some o->(∀ vs,o.data≠.fields vs)->b≠T:=λ b o z ak q=>by
  rw [q,lr] at z;cases z;exact ak d4 f8
 have D3:(s.heap.update T (Obj.mapFields (·.setIfInBounds 3 Value.none))).get? T=some _:=n7 _ lr (Obj.isFreed_of_fields (Obj.data_mapFields f8 _));refine Mg (s:={ s with heap:=s.heap.update T (Obj.mapFields (·.setIfInBounds 3 Value.none)) }) gR (ar.of_keeps λ b o z ak=>⟨o,(iC b (XR b o z ak)).trans z,rfl⟩) hf ((iC e qb.symm).trans f1) f4 (sB.mp eI).1 λ h' ec k1 k2 k3 jc=>?_
 have jB:ec≠T:=by
  rintro rfl;have z:(s.heap.update ec (Obj.mapFields (·.setIfInBounds 3 Value.none))).get? ec=none:=k2;rw [D3] at z;cases z
 exact bc h' ec k1 ((iC ec jB).symm.trans k2) (λ b o dt ck hP z=>k3 b o dt ck ((iC b hP).trans z)) λ b o ck hP z=>jc b o ck ((iC b hP).trans z)
theorem XS(gR:A.frames=some (env::outer))(ar:s.heap.FunFrames base (env::outer))(hf:env.frame=some L)(f:Mf s.heap e cls dd)
 (bc:∀ h' ec,lq h' e ec cls dd .none->s.heap.get? ec=none->(∀ b o,b ∉ eQ (env::outer)->b≠e->s.heap.get? b=some o->h'.get? b=some o)->(∀ b o,b≠e->s.heap.get? b=some o->∃ bz,h'.get? b=some { o with slots:=bz })->Q () { s with heap:=h' }) :
 aU M A (qC env (.ref e)) Q E s:=by
 unfold qC;refine aA (XQ gR ar hf f λ ae ec k1 k2 k3 jc=>?_);refine Aw (s:={ s with heap:=ae }) k1 λ ag k5 qd=>bc ag ec k5 k2 (λ b o dt ck z=>?_) λ b o ck z=>?_
 ·have nb:b≠ec:=by rintro rfl;rw [k2] at z;cases z
  exact (qd b nb).trans (k3 b o dt ck z)
 ·have nb:b≠ec:=by rintro rfl;rw [k2] at z;cases z
  obtain ⟨bz,cI⟩:=jc b o ck z;exact ⟨bz,(qd b nb).trans cI⟩
theorem XT(gR:A.frames=some (env::outer))(ar:s.heap.FunFrames base (env::outer))(hf:env.frame=some L)(f:lq s.heap e T cls dd .none)
 (bc:∀ h' ec,lq h' e ec cls dd .none->s.heap.get? ec=none->(∀ b o,b ∉ eQ (env::outer)->b≠e->b≠T->s.heap.get? b=some o->h'.get? b=some o)->(∀ b o,b≠e->b≠T->s.heap.get? b=some o->∃ bz,h'.get? b=some { o with slots:=bz })->Q () { s with heap:=h' }) :
 aU M A (qC env (.ref e)) Q E s:=by
 unfold qC;refine aA (Mh gR ar hf f λ ae ec k1 k2 k3 jc=>?_);refine Aw (s:={ s with heap:=ae }) k1 λ ag k5 qd=>bc ag ec k5 k2 (λ b o dt ck hP z=>?_) λ b o ck hP z=>?_
 ·have nb:b≠ec:=by rintro rfl;rw [k2] at z;cases z
  exact (qd b nb).trans (k3 b o dt ck hP z)
 ·have nb:b≠ec:=by rintro rfl;rw [k2] at z;cases z
  obtain ⟨bz,cI⟩:=jc b o ck hP z;exact ⟨bz,(qd b nb).trans cI⟩
end
abbrev wL(H:aw)(dd:Option Addr)(aK:List (Str × V)):aw:=match dd with
 | some aV=>upd H aV (.iI aK)
 | none=>H
def tM(h:bE)(dd:Option Addr)(aK:List (Str × V)):Prop:=match dd with
 | some aV=>∃ mA,h.Ns1 aV mA/\∀ f,u4 (aK.lookup f) (mA f)
 | none=>aK=[]
structure Mi(P:cL)(w:b8)(outer:List Env)(H:aw)(s:aE)(a T:Addr)(C:Addr)(dd:Option Addr)(aK:List (Str × V))(aj:aw)(aM:aE):Prop where
 os:aM.os=s.os
 bare:l_ aM.gens
 un:fP (eQ outer) [] H aj s.heap aM.heap
 bJ:fx P w aj aM.heap
 eY:lq aM.heap a T (.ref C) dd .none
 dict:tM aM.heap dd aK
 ax:aj a=none
 cW:aj T=none
 hd:∀ aV,dd=some aV->aj aV=none/\s.heap.get? aV=none/\aV≠a/\aV≠T
 na:s.heap.get? a=none
 jB:s.heap.get? T=none
def fD(P:cL)(w:b8):mt:=λ outer H s E e aM=>∃(a T C:Addr)(dd:Option Addr)(aK:List (Str × V))(aj:aw),e=.ref a/\Mi P w outer H s a T C dd aK aj aM/\E (.ref C) dd (wL aj dd aK)
def Mj:gi->Prop
 | .ext _=>True
 | .iI _=>True
 | _=>False
section
variable{P:cL}{w:b8}{H H1:aw}{h h':bE}{x:Addr}{o:gi}{aK ex:List Addr}
theorem Mk(u:fP aK ex H (upd H1 x o) h h')(ar:Mj o)(aH:H1 x=none)(ak:h.get? x=none):fP aK ex H H1 h h':=by
 have ne:∀ b c_,h.get? b=some c_->b≠x:=λ b c_ z=>by rintro rfl;rw [ak] at z;cases z
 refine ⟨u.keep,u.slot,λ b c_ z n af=>?_,u.there,λ b xs z=>?_,λ b c_ v z=>?_,λ b ps z=>?_⟩
 ·have e:=u.free b c_ z n af;rw [cN (ne b c_ z)] at e;exact e
 ·have e:=u.km b xs z;by_cases c:b=x
  ·subst c;rw [eG] at e;cases e;exact ar.elim
  ·rw [cN c] at e;exact e
 ·have e:=u.jP b c_ v z;by_cases c:b=x
  ·subst c;rw [eG] at e;cases e;exact ar.elim
  ·rw [cN c] at e;exact e
 ·obtain ⟨m,e⟩:=u.kn b ps z;by_cases c:b=x
  ·subst c;rw [eG] at e;cases e;exact ar.elim
  ·rw [cN c] at e;exact ⟨m,e⟩
theorem Ml(k:fx P w (upd H1 x o) h)(ar:Mj o)(aH:H1 x=none):fx P w H1 h:=λ b u e=>by
 have nb:b≠x:=hY e aH;refine (k b u (by rw [cN nb];exact e)).nk (λ _ _ _ q=>q) (λ c q=>?_) λ c xs q=>?_
 ·by_cases z:c=x
  ·subst z;rw [eG] at q;cases q;exact ar.elim
  ·rw [cN z] at q;exact q
 ·by_cases z:c=x
  ·subst z;rw [eG] at q;cases q;exact ar.elim
  ·rw [cN z] at q;exact q
end
section
variable{P:cL}{w:b8}{K:aX}{mg:Str->Option Value}{base:bE}{N:List Str}{qual:Str}{scope:gg}{f:Addr}{cd:Value}{A:cz}{outer:List Env}{s s1:aE}{H H1 aj:aw}{E:fY}{pins:List (Addr × Obj)}{σ:St}{h':bE}{a T ec C aV:Addr}{dd:Option Addr}{aK:List (Str × V)}
theorem tM.keeps{h h':bE}(x:tM h dd aK)(k:∀ aV o,dd=some aV->h.get? aV=some o->h'.get? aV=some o):tM h' dd aK:=by
 cases dd with
 | none=>exact x
 | some aV=>obtain ⟨mA,n,r⟩:=x;exact ⟨mA,n.at λ o z=>k aV o rfl z,r⟩
theorem Mm(un:fP (eQ outer) [] H aj s.heap s1.heap)(bJ:fx P w aj s1.heap)(os:s1.os=s.os)(bare:l_ s1.gens)(XU:∀ b∈eQ (envOfC qual scope s.heap.objs.size f cd::outer),aj b=none)
 (keep:∀ b o,b ∉ eQ (envOfC qual scope s.heap.objs.size f cd::outer)->b≠a->b≠T->s1.heap.get? b=some o->h'.get? b=some o) (slot:∀ b o,b≠a->b≠T->s1.heap.get? b=some o->∃ bz,h'.get? b=some { o with slots:=bz })
 (eY:lq h' a ec (.ref C) dd .none) (qe:s1.heap.get? ec=none) (ax:aj a=none) (cW:aj T=none) (na:s.heap.get? a=none) (jB:s.heap.get? T=none) (dict:tM s1.heap dd aK)
 (hd:∀ aV,dd=some aV->aj aV=none/\s.heap.get? aV=none/\aV≠a/\aV≠T/\aV ∉ eQ (envOfC qual scope s.heap.objs.size f cd::outer)):Mi P w outer H s a ec C dd aK aj { s1 with heap:=h' }:=by
 have hS:∀ b o,s.heap.get? b=some o->b≠a/\b≠T:=λ b o z=>⟨(by rintro rfl;rw [na] at z;cases z),(by rintro rfl;rw [jB] at z;cases z)⟩
 have XW:∀ b,b∈eQ (envOfC qual scope s.heap.objs.size f cd::outer)->b=s.heap.objs.size\/b∈eQ outer:=λ b af=>by
  have g0:b∈s.heap.objs.size::eQ outer:=af;exact cC.mp g0
 refine ⟨os,bare,⟨λ b o z n af ak=>?_,λ b o z n af ak=>?_,un.free,λ b o z ak=>?_,un.km,un.jP,un.kn⟩,DX bJ λ b u af z=>?_,eY,dict.keeps λ aV o e z=>?_,ax,LZ bJ qe,λ aV e=>?_,na,?_⟩
 ·obtain ⟨ei,eD⟩:=hS b o z;refine keep b o (λ hm=>?_) ei eD (un.keep b o z n af ak);rcases XW b hm with r | r
  ·exact absurd (dc z) (by rw [r];exact me _)
  ·exact af r
 ·obtain ⟨bz,cI⟩:=un.slot b o z n af ak;obtain ⟨ei,eD⟩:=hS b o z;obtain ⟨qO,b9⟩:=slot b _ ei eD cI;exact ⟨qO,b9⟩
 ·obtain ⟨dM,cI⟩:=un.there b o z ak;obtain ⟨ei,eD⟩:=hS b o z;obtain ⟨bz,b9⟩:=slot b dM ei eD cI;exact ⟨_,b9⟩
 ·exact keep b u (λ hm=>af (XU b hm)) (by rintro rfl;exact af ax) (by rintro rfl;exact af cW) z
 ·obtain ⟨_,_,ei,eD,ka⟩:=hd aV e;exact keep aV o ka ei eD z
 ·obtain ⟨m0,ei,eD,ka,mS⟩:=hd aV e;refine ⟨m0,ei,eD,?_⟩;rintro rfl;subst e;obtain ⟨mA,⟨o,_,_,z,_⟩,_⟩:=dict;rw [qe] at z;cases z
 ·cases z:s.heap.get? ec with
  | none=>rfl
  | some o=>
   obtain ⟨dM,cI⟩:=un.there ec o z (by simp);rw [qe] at cI;cases cI
theorem XX(I:Inv (eJ (fD P w) P w K mg base N qual scope f cd A outer s H E) pins σ (upd (upd H1 aV (.iI aK)) a (.ext (jC a C (some aV)))) s1)(ax:H1 a=none)(hd:H1 aV=none)(tL:aV≠a)(na:s.heap.get? a=none)(bK:s.heap.get? aV=none)
 (q:E (.ref C) (some aV) (upd H1 aV (.iI aK))):(eJ (fD P w) P w K mg base N qual scope f cd A outer s H E).xe (.ref a) s1:=by
 have D4:s1.heap.FunFrames base (envOfC qual scope s.heap.objs.size f cd::outer):=I.stack;have gR:(A.deeper (envOfC qual scope s.heap.objs.size f cd)).frames=some (envOfC qual scope s.heap.objs.size f cd::outer):=I.ok.frames;obtain ⟨⟨t,he⟩,_⟩:=I.bJ a _ eG;have iB:fP (eQ outer) [] H (upd (upd H1 aV (.iI aK)) a (.ext (jC a C (some aV)))) s.heap s1.heap:=I.base
 have Mn:upd H1 aV (.iI aK) a=none:=by rw [cN tL.symm];exact ax
 have cY:=Mk (Mk iB True.intro Mn na) True.intro hd bK;have k0:=Ml I.bJ True.intro Mn;have k1:=Ml k0 True.intro hd;obtain ⟨mA,ns,rel⟩:=k0 aV _ eG;have frees:∀ b∈eQ (envOfC qual scope s.heap.objs.size f cd::outer),upd (upd H1 aV (.iI aK)) a (.ext (jC a C (some aV))) b=none:=I.u9
 have Mo:∀ b∈eQ (envOfC qual scope s.heap.objs.size f cd::outer),b≠aV/\H1 b=none:=λ b af=>by
  have e:=frees b af
  have dt:b≠a:=by rintro rfl;rw [eG] at e;cases e
  rw [cN dt] at e
  have ck:b≠aV:=by rintro rfl;rw [eG] at e;cases e
  rw [cN ck] at e;exact ⟨ck,e⟩
 show aU (aY P w) (A.deeper (envOfC qual scope s.heap.objs.size f cd)) (qC (envOfC qual scope s.heap.objs.size f cd) (.ref a)) _ _ _;refine XS (dd:=some aV) (cls:=.ref C) gR D4 rfl ⟨_,_,he,rfl,rfl,rfl,rfl⟩ λ h' ec f1 f2 cV f4=>?_;refine ⟨a,ec,C,some aV,aK,H1,rfl,Mm (T:=a) cY k1 I.os I.bare (λ b af=>(Mo b af).2) (λ b o dt ck _ z=>cV b o dt ck z) (λ b o dt _ z=>f4 b o dt z) f1 f2 ax ax na na ⟨mA,ns,rel⟩ (λ XY e=>?_),q⟩;cases e;exact ⟨hd,bK,tL,tL,λ af=>(Mo aV af).1 rfl⟩
end
section
variable{P:cL}{w:b8}{K:aX}{mg:Str->Option Value}{base:bE}{N:List Str}{qual:Str}{scope:gg}{f:Addr}{cd:Value}{A:cz}{outer:List Env}{s s1:aE}{H H1:aw}{E:fY}{pins:List (Addr × Obj)}{σ:St}{h0:bE}{a C:Addr}{args:List Value}
theorem XZ:yP (fD P w) (eJ (fD P w) P w K mg base N qual scope f cd A outer s H E) E:=by
 intro pins σ H1 s1 e aM I ak;obtain ⟨a,T,C,dd,aK,aj,rfl,x,q⟩:=ak;have gR:(A.deeper (envOfC qual scope s.heap.objs.size f cd)).frames=some (envOfC qual scope s.heap.objs.size f cd::outer):=I.ok.frames;have J:Inv (eJ (fD P w) P w K mg base N qual scope f cd A outer s H E) pins σ aj aM:=I.yC (ch:=[]) x.os x.un x.bJ x.bare (λ b z=>absurd z (by simp));have iB:fP (eQ outer) [] H H1 s.heap s1.heap:=I.base
 have hS:∀ b,s1.heap.get? b=none->s.heap.get? b=none:=λ b z=>by
  cases D5:s.heap.get? b with
  | none=>rfl
  | some o=>
   obtain ⟨dM,cI⟩:=iB.there b o D5 (by simp);rw [z] at cI;cases cI
 show aU (aY P w) (A.deeper (envOfC qual scope s.heap.objs.size f cd)) (qC (envOfC qual scope s.heap.objs.size f cd) (.ref a)) _ _ _;refine XT gR J.stack rfl x.eY λ h' ec f1 f2 cV f4=>?_;refine ⟨a,ec,C,dd,aK,aj,rfl,Mm (T:=T) J.base x.bJ J.os J.bare J.u9 cV f4 f1 f2 x.ax x.cW (hS a x.na) (hS T x.jB) x.dict (λ aV e=>?_),q⟩;obtain ⟨ei,eD,ka,mS⟩:=x.hd aV e;refine ⟨ei,hS aV eD,ka,mS,λ af=>?_⟩;obtain ⟨_,o,z,_⟩:=I.stack.mem af;rw [eD] at z;cases z
end
end L2
namespace L2
open PySem PySem.Spec PyProof.Rows
structure wM(K:aX)(D:Addr):Prop where
 ty:nj K (.ref D)=some (.type "type")
 cls:∃ tN hM cd bz,K.lookup D=some ⟨tN,hM,.cls cd,bz⟩
 sub:i1 K (.ref D) (.type "BaseException")=some true
theorem X0{prog:cL}{w:b8}{A:cz}{E:Value->aE->Prop}{s:aE}{K:aX}{C D e:Addr}{de:Obj}{b:Bool}{Q:Bool->aE->Prop}(X:K.In s.heap)(he:s.heap.get? e=some de)(ai:de.cls=.ref C)(rM:wM K D)(bB:i1 K (.ref C) (.ref D)=some b)(bc:Q b s) :
 aU (aY prog w) A (excMatches (.ref e) (.ref D)) Q E s:=by
 obtain ⟨tN,hM,cd,bz,ho⟩:=rM.cls;have mw:=X _ _ ho;have o1:=PySem.W.looks_typeIn (M:=aY prog w) X rM.ty;have L2:=PySem.W.looks_subIn (M:=aY prog w) X rM.sub;have L3:=PySem.W.looks_subIn (M:=aY prog w) X bB;have f:=tc_notTuple;obtain ⟨ah,g,d,bL,os⟩:=s
 dsimp only at he mw o1 L2 L3
 have nS:PySem.W.Looks (aY prog w) ah (n0 (.ref e)) (.ref C):=by
  rw [<- ai];exact (PySem.W.Looks.ld (part:=some headPart) he).andThen .now
 have X1:PySem.W.Looks (aY prog w) ah (isType (.ref D)) true:=(PySem.W.Looks.ld (part:=some headPart) mw).andThen .now;unfold excMatches uD;refine aA (aA (o1.at ?_));rw [f];refine br ?_;rw [if_neg (by decide)];refine aA (br (aA ?_));simp only [x2,List.forIn_nil];refine aA (aA ?_);unfold isExcClass;refine aA (X1.at ?_);rw [if_pos rfl];refine L2.at ?_;rw [if_neg (by decide)];refine br (br (aA (nS.at (aA (aA (aA (L3.at ?_)))))))
 cases b with
 | true=>exact br (br (br bc))
 | false=>exact br (br (br bc))
end L2
namespace L2
open PySem PySem.Spec PyProof.Rows PySem.W PySem.Calls Builtin Builtin.ObjectAttr
section
variable{prog:cL}{w:b8}{A:cz}{E:Value->aE->Prop}{s:aE}{K:Frag}{e C:Addr}{de lY:Obj}{cd:kh}{name:Str}{v:Value}{expr:Bool}
theorem X2{Q:Value->aE->Prop}(F:lp K C)(X:K.In s.heap)(I:InstAt s.heap e de C (some lY))(ai:clsIn K C=some cd)(hd:cd.hasDict=true)(aH:findIn K (.ref C) name=some none)(ar:lookIn name lY=some (some v))(d8:handedIn v=true)
 (h:Q v { s with toks:=s.toks+1 }):aU (aY prog w) A (getAttr (.ref e) name expr) Q E s:=by
 obtain ⟨ah,g,d,t,os⟩:=s;have nS:=I.type (M:=aY prog w);have o1:=uJ (M:=aY prog w) X F.ga;have L2:=uJ (M:=aY prog w) X F.gr;have L3:Looks (aY prog w) ah (find (.ref e) (.ref C) name) (.value v):=looks_find X I (by unfold findObj;rw [ai,aH];simp [PySem.W.ownOf,hd,ar]);unfold getAttr getAttrBy;refine aA (wpAny_mkText (jn (aA (nS.at (aA (o1.at ?_))))))
 dsimp only
 rw [show (xR (.ref C)&&Value.builtin "BaseException.__getattribute__"==Value.builtin "object.__getattribute__")=false from by rw [show (Value.builtin "BaseException.__getattribute__"==Value.builtin "object.__getattribute__")=false from by decide +kernel,sC],if_neg (by decide)];refine aA ((show Looks (aY prog w) ah (hookBefore (.ref C)) none from L2).at (aA (m7 (jn ?_))));unfold callGetattribute;rw [show (expr&&xR (Value.builtin "BaseException.__getattribute__"))=false from sC _,if_neg (by decide)];unfold boundAndCalled;rw [L5];refine aA (br ?_);show aU _ _ (call (.builtin "BaseException.__getattribute__") [.ref e,.str name t]) _ _ _;refine pj ?_;refine ux (by first | exact Code.quiet_builtin _ (by decide +kernel) | decide +kernel) PySem.F.entry_bexc_ga ?_;refine @check_slot (aY prog w) _ _ _ "BaseException.__getattribute__" "BaseException" "__getattribute__" (.ref e) [.str name t] [] _ (by decide +kernel) (by decide +kernel) (nS.andThen (looks_subIn X F.jQ)) (PySem.F.args_bexc_ga (.ref e) (.str name t)) ?_;refine aA (br (aA (br (aA (nS.at (aA (L3.at ?_)))))));refine br ?_;exact handed_on d8 h
end
structure tO(X:aW)(pins:List (Addr × Obj))(H:aw)(a T C:Addr)(dd:Option Addr)(aK:List (Str × V))(h:bE):Prop where
 eY:lq h a T (.ref C) dd .none
 dict:tM h dd aK
 ax:H a=none
 cW:H T=none
 na:X.eP.heap.get? a=none
 jB:X.eP.heap.get? T=none
 wH:∀ p∈X.pn++pins,p.1≠a/\p.1≠T
 hd:∀ aV,dd=some aV->H aV=none/\aV≠a/\aV≠T/\aV ∉ eQ X.stack
section
variable{X:aW}{pins:List (Addr × Obj)}{σ:St}{H:aw}{s:aE}{h':bE}{a T ec C:Addr}{dd:Option Addr}{aK:List (Str × V)}
theorem tO.step(I:Inv X pins σ H s)(x:tO X pins H a T C dd aK s.heap)(hex:X.ex=[])(keep:∀ b o,b ∉ eQ X.stack->b≠a->b≠T->s.heap.get? b=some o->h'.get? b=some o)(slot:∀ b o,b≠a->b≠T->s.heap.get? b=some o->∃ bz,h'.get? b=some { o with slots:=bz })
 (eY:lq h' a ec (.ref C) dd .none) (qe:ec=T\/s.heap.get? ec=none):Inv X pins σ H { s with heap:=h' }/\tO X pins H a ec C dd aK h':=by
 obtain ⟨de,vs,iA,d4,f1,f2,cV,f4,eI,qb,lr,f8,qc⟩:=x.eY
 have lE:∀ b,b∈eQ X.stack->b≠a/\b≠T:=λ b af=>by
  obtain ⟨_,o,z,ak⟩:=I.stack.mem af;refine ⟨?_,?_⟩
  ·rintro rfl;rw [f1] at z;cases z;exact ak _ f4
  ·rintro rfl;rw [lr] at z;cases z;exact ak _ f8
 have J:=Xg I keep (λ b u af z=>slot b u (lE b af).1 (lE b af).2 z) ⟨de,vs,f1,f4⟩ ⟨iA,d4,lr,f8⟩ x.na x.jB x.wH x.ax x.cW;refine ⟨J,eY,x.dict.keeps λ aV o e z=>?_,x.ax,?_,x.na,?_,λ p ah=>⟨(x.wH p ah).1,?_⟩,λ aV e=>?_⟩
 ·obtain ⟨_,eD,ka,mS⟩:=x.hd aV e;exact keep aV o mS eD ka z
 ·rcases qe with rfl | z
  ·exact x.cW
  ·exact LZ I.bJ z
 ·rcases qe with rfl | z
  ·exact x.jB
  ·cases q:X.eP.heap.get? ec with
   | none=>rfl
   | some o=>
    obtain ⟨dM,cI⟩:=I.base.there ec o q (by rw [hex];simp);rw [z] at cI;cases cI
 ·rcases qe with rfl | z
  ·exact (x.wH p ah).2
  ·rintro rfl;rw [(I.pin p ah).1] at z;cases z
 ·obtain ⟨ei,eD,ka,mS⟩:=x.hd aV e;refine ⟨ei,eD,?_,mS⟩;rcases qe with rfl | z
  ·exact ka
  ·rintro rfl;subst e;obtain ⟨mA,⟨o,_,_,cI,_⟩,_⟩:=x.dict;rw [z] at cI;cases cI
abbrev aW.kb(X:aW)(a:Addr)(pn:List (Addr × Obj)):aW:={ X with A:=X.A.mark (some (.ref a)),calm:=false,pn:=pn++X.pn,xe:=λ _ _=>False }
structure rN(a C:Addr)(aK:List (Str × V))(pn:List (Addr × Obj)):Prop where
 obj:∃ de vs,(a,de)∈pn/\de.cls=.ref C/\de.data=Data.fields vs/\((de.dict=none/\aK=[])\/∃(aV:Addr)(lY:Obj)(mA:Str->Option Value),de.dict=some aV/\(aV,lY)∈pn/\(∀ n,yr n lY=some (mA n))/\∀ f,u4 (aK.lookup f) (mA f))
theorem Inv.kb(I:Inv X pins σ H s)(hG:X.stack=X.env::X.outer)(gR:X.env.frame=some X.env.locals)(x:tO X pins H a T C dd aK s.heap):∃ pn,rN a C aK pn/\Inv (X.kb a pn) pins σ H s:=by
 obtain ⟨de,vs,iA,d4,f1,f2,cV,f4,eI,qb,lr,f8,qc⟩:=x.eY;have ok:=I.ok
 have mk:∀ pn:List (Addr × Obj),(∀ p∈pn,s.heap.get? p.1=some p.2/\H p.1=none/\p.1≠X.env.locals/\p.1 ∉ X.aK/\∀ v,p.2.data≠.cell v)->Inv (X.kb a pn) pins σ H s:=λ pn X3=>by
  refine ⟨⟨ok.mod,ok.kind,ok.glob,ok.blt,ok.above,ok.inj,ok.has,ok.sM,λ z=>(by cases z),ok.frames,ok.sN,ok.Bw,ok.bs,ok.nr,ok.sO,ok.u7,ok.ko,ok.pG⟩,I.os,I.bare,I.base,I.loc,I.cell,I.free,I.kp,λ p ah=>?_,I.bJ,I.len⟩;have d2:p∈(pn++X.pn)++pins:=ah;rw [db] at d2;rcases fc.mp d2 with ah | ah
  ·exact X3 p ah
  ·exact I.pin p ah
 have nl:∀ b o,s.heap.get? b=some o->(∀ es n,o.data≠.dict es n)->b≠X.env.locals:=λ b o z ak=>by
  rintro rfl;obtain ⟨m,⟨dM,lF,dY,fQ,bp⟩,_⟩:=I.loc;rw [z] at fQ;cases fQ;exact ak _ _ bp.1
 have ju:s.heap.get? a=some de/\H a=none/\a≠X.env.locals/\a ∉ X.aK/\∀ v,de.data≠.cell v:=by
  refine ⟨f1,x.ax,nl a de f1 (λ es n q=>by rw [f4] at q;cases q),λ af=>?_,λ v q=>by rw [f4] at q;cases q⟩;obtain ⟨_,dM,fQ,ak⟩:=I.stack.mem (DY I af);rw [f1] at fQ;cases fQ;exact ak _ f4
 cases dd with
 | none=>exact ⟨[(a,de)],⟨⟨de,vs,bT ..,f2,f4,.inl ⟨cV,x.dict⟩⟩⟩,mk _ λ p ah=>by rcases cC.mp ah with rfl | ah;exact ju;cases ah⟩
 | some aV=>
  obtain ⟨mA,ns,rel⟩:=x.dict;obtain ⟨ei,eD,ka,mS⟩:=x.hd aV rfl;obtain ⟨lY,aS,ar⟩:=HP ns
  have L1:aV≠X.env.locals:=by
   rintro rfl;refine mS ?_;rw [hG];exact List.mem_filterMap.mpr ⟨X.env,bT ..,gR⟩
  have X4:∀ v,lY.data≠.cell v:=λ v q=>by
   obtain ⟨o,es,dY,z,hd,_⟩:=ns;rw [aS] at z;cases z;rw [hd] at q;cases q
  refine ⟨[(a,de),(aV,lY)],⟨⟨de,vs,bT ..,f2,f4,.inr ⟨aV,lY,mA,cV,bY _ (bT ..),ar,rel⟩⟩⟩,mk _ λ p ah=>?_⟩;rcases cC.mp ah with rfl | ah
  ·exact ju
  ·rcases cC.mp ah with rfl | ah
   ·exact ⟨aS,ei,L1,λ af=>mS (DY I af),X4⟩
   ·cases ah
theorem Inv.Ay{pn:List (Addr × Obj)}(ok:X.Ok)(I:Inv (X.kb a pn) pins σ H s):Inv X pins σ H s:=
 ⟨ok,I.os,I.bare,I.base,I.loc,I.cell,I.free,I.kp,λ p ah=>I.pin p (by
  have:p∈(pn++X.pn)++pins:=by rw [db];exact iF _ ah
  exact this),I.bJ,I.len⟩
abbrev qf:=Addr->List (Str × V)->Ends->St->aw->Prop
def tP(X:aW)(ap:List nY)(gA:qf):Prop:=∀(pins:List (Addr × Obj))(s:aE)(σ:St)(H:aw)(D:Ends)(a T C:Addr)(dd:Option Addr)(aK:List (Str × V)),Inv X pins σ H s->tO X pins H a T C dd aK s.heap->gA C aK D σ H →
 aU (aY X.prog X.w) X.A (handleBy (.ref a) X.env ap) (kU X pins D) X.xe s
def X5(K:aX)(D:Addr)(i:Nat)(u:Addr->Addr->List (Str × V)->eR)(gA:qf):qf:=λ C aK b3 σ H=>∃ b,i1 K (.ref C) (.ref D)=some b/\(b=true->∀ e,H e=none->u e C aK (Ao i b3) (σ.set i (some (.ref e))) H)/\(b=false->gA C aK b3 σ H)
theorem X6:tP X [] (λ _ _ _ _ _=>False):=λ _ _ _ _ _ _ _ _ _ _ _ _ h=>h.elim
variable{D:Addr}{cx n:Str}{np wN:Pos}{wO:bP}{wP:List bP}{rest:List nY}{u:Addr->Addr->List (Str × V)->eR}{gA:qf}{i:Nat}
theorem X7(hex:X.ex=[])(hG:X.stack=X.env::X.outer)(gR:X.env.frame=some X.env.locals)(rM:wM X.K D)(D6:et X cx)(D7:X.mg cx=some (.ref D))(dG:X.N.Nodup)(av:X.N[i]?=some n)(jY:X.env.scope.names.lookup n=some .local)
 (ap:∀ e C aK pn,rN e C aK pn->jq (X.kb e pn) (wO::wP) (u e C aK)) (ao:tP X rest gA) (wQ:(cx==("__debug__" : Str))=false:=by decide):tP X (.ExceptHandler (some (.Name cx np)) (some n) (wO::wP) wN::rest) (X5 X.K D i u gA):=by
 intro pins s σ H b3 a T C dd aK I x h;obtain ⟨b,af,ae,ag⟩:=h;obtain ⟨pn,q1,J⟩:=I.kb hG gR x;obtain ⟨de,vs,iA,d4,f1,f2,cV,f4,eI,qb,lr,f8,qc⟩:=id x.eY;refine wpAny_handleBy_cons (codeAny_handlers_test (sQ (X:=X.kb a pn) J D6 D7 (X0 I.ff f1 f2 rM af ?_) wQ)) (by intro q;cases q)
 cases b with
 | false=>exact ao pins s σ H b3 a T C dd aK I x (ag rfl)
 | true=>
  refine codeAny_handlers_suite_as (Aw x.eY λ aR k1 k2=>?_);obtain ⟨D8,wR⟩:=x.step I hex (λ b o _ _ hP z=>(k2 b hP).trans z) (λ b o _ hP z=>⟨o.slots,(k2 b hP).trans z⟩) k1 (.inl rfl);obtain ⟨Mp,X8,X9⟩:=D8.kb hG gR wR;refine yB (X:=X.kb a Mp) (v:=.ref a) X9 dG av (.inl jY) rfl (λ s5 X_=>?_) (.inr jY);refine gC (ap a C aK Mp X8 pins s5 _ H (Ao i b3) X_ (ae rfl a x.ax)) (λ eY ku q=>?_) (λ _ _ z=>z.elim)
  cases eY with
  | next=>obtain ⟨σ',oj,rO,lH⟩:=q;exact An (rO.Ay I.ok) dG av jY λ jT rP=>⟨_,oj,rP,lH⟩
  | brk=>obtain ⟨σ',oj,rO,lH⟩:=q;exact An (rO.Ay I.ok) dG av jY λ jT rP=>⟨_,oj,rP,lH⟩
  | cont=>obtain ⟨σ',oj,rO,lH⟩:=q;exact An (rO.Ay I.ok) dG av jY λ jT rP=>⟨_,oj,rP,lH⟩
  | ret afu=>obtain ⟨v,σ',oj,rO,a6,lH⟩:=q;exact An (rO.Ay I.ok) dG av jY λ jT rP=>⟨v,_,oj,rP,a6,lH⟩
end
end L2
namespace L2
open PySem PySem.Spec PyProof.Rows
def Mq(gA:qf)(D:Ends)(σ:St):fY:=λ cls dd Ya=>∃(C:Addr)(aK:List (Str × V))(aj:aw),cls=.ref C/\Ya=wL aj dd aK/\(∀ aV,dd=some aV->aj aV=none)/\(dd=none->aK=[])/\gA C aK D σ aj
theorem Yb{H aj:aw}{dd:Option Addr}{aK dN:List (Str × V)}(e:wL H dd aK=wL aj dd dN)(h:∀ aV,dd=some aV->H aV=none)(h':∀ aV,dd=some aV->aj aV=none)(n:dd=none->aK=[])(qQ:dd=none->dN=[]):H=aj/\aK=dN:=by
 cases dd with
 | none=>exact ⟨e,(n rfl).trans (qQ rfl).symm⟩
 | some aV=>
  have aC:upd H aV (.iI aK)=upd aj aV (.iI dN):=e;refine ⟨funext λ b=>?_,?_⟩
  ·by_cases c:b=aV
   ·subst c;rw [h b rfl,h' b rfl]
   ·have:=congrFun aC b;rw [cN c,cN c] at this;exact this
  ·have:=congrFun aC aV;rw [eG,eG] at this;cases this;rfl
def Mr(X:aW)(e:a8)(t:fY->TE):Prop:=∀(pins:List (Addr × Obj))(s:aE)(σ:St)(H:aw)(Q:cE)(tQ:fY)(gX:Value->aE->Prop),Inv X pins σ H s->t tQ σ H Q->(∀ H1 s1 ev aM,Inv X pins σ H1 s1->fD X.prog X.w X.stack H1 s1 tQ ev aM->gX ev aM) →
 aU (aY X.prog X.w) X.A (eval e X.env) (f_ X pins σ Q) gX s
section
variable{X:aW}{pins:List (Addr × Obj)}{σ:St}{H:aw}{s:aE}
theorem Yc{k:Nat}{g_:Str}{ps:List Str}{f:Addr}{fd:gD}{sp:iK}{j6 dk:Pos}{e:a8}{es:List a8}{t:fk}
 (F:da X.prog X.w X.K X.mg X.base (fD X.prog X.w) k f fd ps sp) (ao:fy k X.A) (a3:et X g_) (hm:X.mg g_=some (.ref f)) (aN:lC X.K (.ref f)=true) (af:Binds X.K fd ps []) (ax:∀ gX,ii (X.jS gX) (e::es) t)
 (fF:(g_==("__debug__" : Str))=false:=by decide) (he:dB (e::es) X.env=(false,eval e X.env)::dB es X.env:=by rfl) (hp:(hO dk (dB es X.env)).any (·.1)=false:=by rfl) :
 Mr X (.Call (.Name g_ j6) (e::es) [] dk) (λ tQ=>yO sp [] tQ t):=by
 intro pins s σ H Q tQ gX I h vP;refine XL (sQ I a3 hm ?_ fF);refine PySem.W.callWith_K (h₀:=X.base) I.ok.mod.sL aN (b0 (ax gX dk pins s σ H _ (I.jS gX) h) λ us s1 ⟨vs,H1,a4,r,q⟩=>⟨a4.ff,?_⟩) he hp
 replace q:sp (vs++[]) H1 Q tQ:=q
 rw [dD] at q;have Az:=a4.nz
 have ar:(us++[]).length=ps.length:=by rw [dD,<- r.length];exact F.len _ _ _ _ q
 refine pj (uC (F.run X.A X.stack s1 H1 ⟨us,[]⟩ (us++[]) vs _ _ ao Az.BL (af s1 us Az.ff ar) (by rw [dD];exact r) q) λ rs aM bc=>?_)
 cases rs with
 | ok eY=>
  cases eY with
  | ret v=>exact Az.after bc
  | next=>exact False.elim bc
  | brk=>exact False.elim bc
  | cont=>exact False.elim bc
 | error ev=>exact vP H1 s1 ev aM Az bc
theorem Yd{ap:List nY}{gA:qf}{D:Ends}{ev:Value}{aM:aE}(hex:X.ex=[])(hG:X.stack=X.env::X.outer)(gR:X.env.frame=some X.env.locals)(d8:tP X ap gA)(I:Inv X pins σ H s)(ak:fD X.prog X.w X.stack H s (Mq gA D σ) ev aM) :
 aU (aY X.prog X.w) X.A (qA ev X.env) (λ _ vd=>aU (aY X.prog X.w) X.A (setFlight ev none) (λ _ Me=>aU (aY X.prog X.w) X.A (handleBy ev X.env ap) (kU X pins D) X.xe Me) X.xe vd) X.xe aM:=by
 obtain ⟨a,T,C,dd,aK,aj,rfl,x,afv,dN,afw,aC,aG,e3,e4,q⟩:=ak;cases aC
 have Ye:dd=none->aK=[]:=by rintro rfl;exact x.dict
 obtain ⟨rfl,rfl⟩:=Yb aG (λ aV e=>(x.hd aV e).1) e3 Ye e4;have J:Inv X pins σ aj aM:=I.yC (ch:=[]) x.os x.un x.bJ x.bare (λ b z=>absurd z (by simp))
 have hS:∀ b,s.heap.get? b=none->X.eP.heap.get? b=none:=λ b z=>by
  cases oz:X.eP.heap.get? b with
  | none=>rfl
  | some o=>
   obtain ⟨dM,cI⟩:=I.base.there b o oz (by rw [hex];simp);rw [z] at cI;cases cI
 have Yf:tO X pins aj a T C dd aK aM.heap:=⟨x.eY,x.dict,x.ax,x.cW,hS a x.na,hS T x.jB,λ p ah=>⟨(by rintro rfl;have:=x.na;rw [(I.pin p ah).1] at this;cases this),(by rintro rfl;have:=x.jB;rw [(I.pin p ah).1] at this;cases this)⟩,λ aV e=>by
  obtain ⟨ei,eD,ka,mS⟩:=x.hd aV e;refine ⟨ei,ka,mS,λ af=>?_⟩;obtain ⟨_,o,z,_⟩:=I.stack.mem af
  rw [eD] at z;cases z⟩
 have hc:X.A.frames=some (X.env::X.outer):=by rw [J.ok.frames,hG]
 have D4:aM.heap.FunFrames X.base (X.env::X.outer):=by rw [<- hG];exact J.stack
 refine Mh hc D4 gR x.eY λ ag Ms k1 k2 k3 jc=>?_;refine Aw (s:={ aM with heap:=ag }) k1 λ aR k5 qd=>?_
 have ne:∀ b o,aM.heap.get? b=some o->b≠Ms:=λ b o z=>by rintro rfl;rw [k2] at z;cases z
 obtain ⟨D8,wR⟩:=Yf.step J hex (h':=aR) (λ b o dt ck hP z=>(qd b (ne b o z)).trans (k3 b o (by rw [<- hG];exact dt) ck hP z)) (λ b o ck hP z=>let ⟨bz,cI⟩:=jc b o ck hP z;⟨bz,(qd b (ne b o z)).trans cI⟩) k5 (.inr k2);exact d8 pins _ σ aj D a Ms C dd aK D8 wR q
variable{ap:List nY}{h₀:nY}{gA:qf}{e:a8}{t:fY->TE}{wS pos:Pos}
theorem Yg{i:Nat}{y:Str}{wT:Pos}(hex:X.ex=[])(hG:X.stack=X.env::X.outer)(gR:X.env.frame=some X.env.locals)(he:Mr X e t)(d8:tP X (h₀::ap) gA)(dG:X.N.Nodup)(av:X.N[i]?=some y)(bv:Loc X.env.scope y)(mz:jH e (some (.Name y wT)) wS.line X.env=pure false:=by rfl)
 (hf:X.fn y=true\/X.env.scope.names.lookup y=some .local:=by first | exact .inl rfl | exact .inr rfl | assumption) :
 jR X (.Try [.Assign [.Name y wT] e wS] (h₀::ap) [] [] pos) (λ D σ H=>t (Mq gA D σ) σ H λ v bg=>D.nx (σ.set i (some v)) bg):=by
 intro pins s σ H D I h;refine wpAny_Try_except (uz (b0 (Q:=kU X pins D) (wpAny_Assign_Name (b0 (he pins s σ H _ _ _ I h (λ H1 s1 ev aM a4 ak=>Yd hex hG gR d8 a4 ak)) λ v s1 ⟨x,bg,a4,aT,aF⟩=>yB a4 dG av bv aT (λ s2 dg=>⟨_,bg,dg,aF⟩) hf) mz) λ eY s1 q=>?_))
 cases eY with
 | next=>exact r_ (r_ q)
 | ret v=>exact q
 | brk=>exact q
 | cont=>exact q
end
end L2
namespace L3
open PySem PySem.Spec L2
abbrev mT:=Addr->List (Str × D)->aP->Prop
abbrev mU:=List D->aP->cJ->mT->Prop
def rQ(K:aX):List (Str × D)->List (Str × V)->Prop:=sd λ p q=>p.1=q.1/\∀ H,dj K H p.2 q.2
def Mt:D->Bool
 | .int _=>true
 | .str _=>true
 | .a9=>true
 | .aI _=>true
 | _=>false
theorem Yh{K:aX}{H:aw}{d:D}{v:V}(h:Mt d=true)(a:dj K H d v):∀ aj,dj K aj d v:=by
 intro aj
 cases d with
 | int i=>exact a
 | str x=>exact a
 | a9=>exact a
 | aI b=>exact a
 | _=>cases h
def o3(K:aX)(bS:aP)(ed:aw)(dv:mT)(E:fY):Prop:=∀ C dd aK dN au aj,Go K bS ed au aj->rQ K aK dN->(∀ aV,dd=some aV->aj aV=none)->(dd=none->aK=[])->dv C aK au->E (.ref C) dd (wL aj dd dN)
theorem o3.after{K:aX}{bS aB:aP}{ed H1:aw}{dv:mT}{E:fY}(x:o3 K bS ed dv E)(g:Go K bS ed aB H1):o3 K aB H1 dv E:=λ C dd aK dN au aj g'=>x C dd aK dN au aj (g.trans g')
def iT(K:aX)(fs:mU):iK:=λ vs H Q E=>∃ ds G ay dv,bM K H ds vs/\fq K G H/\fs ds G ay dv/\Fin K G H ay Q/\o3 K G H dv E
structure lZ(P:cL)(w:b8)(K:aX)(mg:Str->Option Value)(base:bE)(k:Nat)(x:Str)(ps:List Str)(sp:iK):Prop where
 ex:∃(f:Addr)(fd:gD),da P w K mg base (fD P w) k f fd ps sp/\mg x=some (.ref f)/\lC K (.ref f)=true/\Binds K fd ps []
structure wU(X:aW)(bS:aP)(ed:aw)(e:a8)(t:cn):Prop where
 run:∃ bj:TE,c1 X e bj/\∀ ρ G ay σ H Q,dh X.K ρ G σ H->Go X.K bS ed G H->t ρ G ay->Fin X.K G H ay Q->bj σ H Q
structure qg(X:aW)(bS:aP)(ed:aw)(st:bP)(t:f3):Prop where
 run:∃ bj:eR,lL X st bj/\∀ b3 c8 ρ G σ H,dh X.K ρ G σ H->Go X.K bS ed G H->t b3 ρ G->lO X.K G H b3 c8->bj c8 σ H
structure qh(X:aW)(bS:aP)(ed:aw)(st:List bP)(t:f3):Prop where
 run:∃ bj:eR,my X st bj/\∀ b3 c8 ρ G σ H,dh X.K ρ G σ H->Go X.K bS ed G H->t b3 ρ G->lO X.K G H b3 c8->bj c8 σ H
section
variable{X:aW}{bS:aP}{ed:aw}{st:bP}{rest ss us body:List bP}{d4 lM bF:f3}{e c bl iter:a8}{aZ:cn}{bj:hs}{pos:Pos}
theorem gs.x(h:gs X st d4):qg X bS ed st d4:=let ⟨t,j,r⟩:=h.run;⟨t,j,λ b3 c8 ρ G σ H B _ q F=>r b3 c8 ρ G σ H B q F⟩
theorem rR:qh X bS ed [] Jp:=⟨_,IL,λ b3 c8 ρ G σ H B _ q F=>F.nx ρ G σ H (.refl B.cA) B q⟩
theorem ji(ae:qg X bS ed st d4)(ag:qh X bS ed rest lM):qh X bS ed (st::rest) (zk d4 lM):=by
 obtain ⟨bu,ey,aT⟩:=ae.run;obtain ⟨bt,hQ,a0⟩:=ag.run;exact ⟨_,IM ey hQ,λ b3 c8 ρ G σ H B hN q F=>aT _ _ ρ G σ H B hN q ⟨λ ρ' au σ' aj g b q=>a0 b3 c8 ρ' au σ' aj b (hN.trans g) q (F.after g),F.rt,F.bk,F.ct⟩⟩
theorem jj(ae:qg X bS ed st d4):qh X bS ed [st] d4:=by
 obtain ⟨bu,ey,aT⟩:=ae.run;exact ⟨_,IN ey,aT⟩
theorem o4(ai:AT X c bj)(ax:qh X bS ed ss d4)(af:qh X bS ed us lM):qg X bS ed (.If c ss us pos) (Js bj d4 lM):=by
 obtain ⟨tc,k_,rc⟩:=ai.run;obtain ⟨ca,cv,cw⟩:=ax.run;obtain ⟨j2,fH,fI⟩:=af.run;refine ⟨_,IQ k_ cv fH,λ b3 c8 ρ G σ H B hN q F=>rc ρ G _ σ H _ B q λ k aB H1 g1 aF=>?_⟩
 cases k with
 | true=>exact cw b3 c8 ρ aB σ H1 (B.go g1) (hN.trans g1) (aF.1 rfl) (F.after g1)
 | false=>exact fI b3 c8 ρ aB σ H1 (B.go g1) (hN.trans g1) (aF.2 rfl) (F.after g1)
theorem Mu(he:wU X bS ed e aZ)(ap:jH e none pos.line X.env=pure false:=by rfl):qg X bS ed (.Expr e pos) (Jq aZ):=by
 obtain ⟨bu,ey,aT⟩:=he.run;exact ⟨_,IO ey ap,λ b3 c8 ρ G σ H B hN q F=>aT ρ G _ σ H _ B hN q λ d au v aj g _ q=>F.nx ρ au σ aj g (B.go g) q⟩
theorem Mv(he:wU X bS ed e aZ):qg X bS ed (.Return (some e) pos) (Jr aZ):=by
 obtain ⟨bu,ey,aT⟩:=he.run;exact ⟨_,IP ey,λ b3 c8 ρ G σ H B hN q F=>aT ρ G _ σ H _ B hN q F.rt⟩
theorem Yi{d5:kF}{g:gM}(ah:qy (aY X.prog X.w) X.A X.env X.xe)(ai:X.calm=true)(av:mJ X bl iter d5)(a3:ky X bl g)(af:qh X bS ed body bF)(ap:∀ x,m5 iter X.env x=pure x:=by intro _;rfl) :
 qg X bS ed (.For bl iter body [] pos) (JO d5 g bF):=by
 obtain ⟨ci,oM,k6⟩:=av.run;obtain ⟨tf,rl,oN⟩:=a3.run;obtain ⟨j2,fH,fI⟩:=af.run;refine ⟨_,IR ah ai oM rl fH ap,λ b3 c8 ρ G σ H B hN q F=>k6 ρ G _ σ H _ B q λ J lS aB H1 g1 ok aF=>?_⟩;obtain ⟨P,j6,held,turn,done⟩:=aF;refine ⟨λ i m σ' aj=>m=J.items.length - i/\i<=J.items.length/\∃ ρ' au,P i ρ' au/\dh X.K ρ' au σ' aj/\Go X.K aB H1 au aj,⟨_,rfl,ef _,ρ,aB,j6,B.go g1,.refl g1.cA⟩,?_⟩;rintro i m σ2 bg ⟨rfl,av,ρ2,bf,dZ,dx,g2⟩;have k2:=ok bf bg g2 (held i ρ2 bf av dZ);by_cases fm:i < J.items.length
 ·have hd:J.items[i]?=some J.items[i]:=by simp [fm]
  obtain ⟨go,wc⟩:=k2.1 i _ hd;refine .inr ⟨go,λ σ' aj=>∃ ρ' au,P (i+1) ρ' au/\dh X.K ρ' au σ' aj/\Go X.K aB H1 au aj,λ σ' aj ⟨ρ',au,cI,b9,gZ⟩=>⟨J.items.length - (i+1),by omega,rfl,fm,ρ',au,cI,b9,gZ⟩,λ x aj y=>?_⟩;obtain ⟨g3,aQ⟩:=wc x aj y;refine oN _ x ρ2 bf _ σ2 aj _ (dx.go g3) aQ (turn i _ ρ2 bf hd dZ) λ ρ4 hL σ4 jt fT tg gm=>?_;have hu:=(g2.trans g3).trans fT
  have ly:∀ ρ' au σ' aj,Go X.K hL jt au aj->dh X.K ρ' au σ' aj->fV (P (i+1)) ρ' au->∃ ρ' au,P (i+1) ρ' au/\dh X.K ρ' au σ' aj/\Go X.K aB H1 au aj:=λ ρ' au σ' aj g' gp ⟨ρ5,kG,s1,s2,w⟩=>
   ⟨ρ5,kG,w,gp.weak s1 s2,(hu.trans g').sub s2⟩
  exact fI _ _ ρ4 hL σ4 jt tg (hN.trans (g1.trans hu)) gm ⟨λ ρ' au σ' aj g' gp w=>ly ρ' au σ' aj g' gp w,(F.after ((g1.trans hu))).rt,λ ρ' au σ' aj g' gp w=>F.nx ρ' au σ' aj ((g1.trans hu).trans g') gp w,λ ρ' au σ' aj g' gp w=>ly ρ' au σ' aj g' gp w⟩
 ·have e:i=J.items.length:=by omega
  subst e;exact .inl ⟨k2.2 _ (ZB _),F.nx ρ2 bf σ2 bg (g1.trans g2) dx (done ρ2 bf dZ)⟩
end
theorem Yj{K:aX}{bS:aP}{ed:aw}{dv:mT}{E:fY}(x:o3 K bS ed dv E):o3 K bS ed (λ C aK G=>∃ au,Sub au G/\dv C aK au) E:=λ C dd aK dN au aj g f ae ag ⟨bf,s2,q⟩=>x C dd aK dN bf aj (g.sub s2) f ae ag q
abbrev Yk(dv:mT):mT:=λ C aK G=>∃ au,Sub au G/\dv C aK au
theorem wV{P:cL}{w:b8}{K:aX}{mg:Str->Option Value}{base:bE}{x qual:Str}{st:bP}{f:Addr}{fd:gD}{N ps:List Str}{k:Nat}{fs:mU}(F:dT K x qual st f fd)(S:ek N ps (cb st))(len:∀ ds G ay dv,fs ds G ay dv->ds.length=ps.length)
 (kY:∀(bI:Value)(A:cz)(outer:List Env)(s:aE)(H:aw)(E:fY),fy k (A.deeper (PyProof.Rows.envOfC qual (cb st) s.heap.objs.size f bI))->∀(ds:List D)(G:aP)(ay:cJ)(dv:mT),fs ds G ay dv->o3 K G H (Yk dv) E →
  ∃ t,qh (eJ (fD P w) P w K mg base N qual (cb st) f bI A outer s H E) G H (jb st) t/\t { nx:=λ _ au=>be ay .a9 au,rt:=be ay } (oO N ds) G):da P w K mg base (fD P w) (k+1) f fd ps (iT K fs):=by
 obtain ⟨gH,eM,gG,doc,pm,an,bI,ct,i9,rfl,lk,ho⟩:=F.ex;refine BM lk ho S (λ vs H Q E h=>?_) λ A outer s H vs Q E ao jV=>?_
 ·obtain ⟨ds,G,ay,dv,r,_,h,_⟩:=h;rw [r.len];exact len ds G ay dv h
 ·obtain ⟨ds,G,ay,dv,r,v,h,p4,hT⟩:=jV;obtain ⟨t,⟨bj,j,imp⟩,q⟩:=kY bI A outer s H E ao ds G ay dv h (Yj hT);refine ⟨bj,j.run,imp _ _ (oO N ds) G (L2.iL N vs) H (CM r v) (.refl v) q ⟨λ ρ' au σ' aj g b ⟨bf,s2,bo⟩=>p4 .a9 bf .a9 aj (g.sub s2) rfl bo,λ d au v aj g a ⟨bf,s2,bo⟩=>p4 d bf v aj (g.sub s2) a bo,λ _ _ _ _ _ _ z=>z.elim,λ _ _ _ _ _ _ z=>z.elim⟩⟩
section
variable{P:cL}{w:b8}{K:aX}{mg:Str->Option Value}{base:bE}{N:List Str}{qual:Str}{scope:gg}{f:Addr}{cd:Value}{A:cz}{outer:List Env}{s:aE}{kc:aw}{E:fY}{bS:aP}{ed:aw}{dv:mT}{C g6:Addr}{fd:gD}{ps:List Str}{cx name:Str}{e:a8}{es:List a8}{aZ:cn}{t:g4}{np dk pos p:Pos}
abbrev Yl(C:Addr)(name:Str)(dv:mT)(aZ:cn):f3:=λ _ ρ G=>aZ ρ G λ d aB=>Mt d=true/\dv C [(name,d)] aB
structure rS(P:cL)(w:b8)(K:aX)(mg:Str->Option Value)(base:bE)(k:Nat)(cx:Str)(C:Addr)(name:Str):Prop where
 ex:∃(g6:Addr)(fd:gD)(ps:List Str),rH K C g6/\da P w K mg base c6 k g6 fd ps (wJ C name)/\mg cx=some (.ref C)/\lC K (.ref C)=true/\Binds K fd ps []
theorem rT{k j:Nat}(hT:o3 K bS ed dv E)(R:rS P w K mg base k cx C name)(ao:fy j (eJ (fD P w) P w K mg base N qual scope f cd A outer s kc E).A)(aN:k+1<=j)(a3:et (eJ (fD P w) P w K mg base N qual scope f cd A outer s kc E) cx)(ax:cu (eJ (fD P w) P w K mg base N qual scope f cd A outer s kc E) e aZ)(a_:e7 e=true:=by rfl)(fF:(cx==("__debug__" : Str))=false:=by decide)
 (he:dB [e] (eJ (fD P w) P w K mg base N qual scope f cd A outer s kc E).env=(false,eval e (eJ (fD P w) P w K mg base N qual scope f cd A outer s kc E).env)::dB [] (eJ (fD P w) P w K mg base N qual scope f cd A outer s kc E).env:=by rfl) :
 qg (eJ (fD P w) P w K mg base N qual scope f cd A outer s kc E) bS ed (.Raise (some (.Call (.Name cx np) [e] [] dk)) none pos) (Yl C name dv aZ):=by
 obtain ⟨g6,fd,ps,mR,F,hm,Ym,af⟩:=R.ex;obtain ⟨bu,ey,aT⟩:=ax.run;refine ⟨_,⟨XN (C:=C) (name:=name) (W:=λ v H1=>∀ aV,H1 aV=none->E (.ref C) (some aV) (upd H1 aV (.iI [(name,v)]))) mR F (ao.mono aN) a3 hm Ym af ey.run rfl rfl (λ pins σ H s1 a aV v I ae ag aR dt ck rK=>XX I ae ag aR dt ck (rK aV ag)) a_ fF he rfl⟩,λ b3 c8 ρ G σ H B hN q F=>?_⟩
 refine aT ρ G _ σ H _ B q λ d aB v H1 g1 ad aF=>⟨v,rfl,λ aV Yn=>?_⟩
 exact hT C (some aV) [(name,d)] [(name,v)] aB H1 (hN.trans g1) (.cons ⟨rfl,Yh aF.1 ad⟩ .nil) (λ XY e=>by cases e;exact Yn) (λ e=>by cases e) aF.2
abbrev Yo(fs:mU)(dv:mT)(t:g4):cn:=λ ρ G Q=>t ρ G λ ds aB=>fs ds aB Q dv
theorem AA{k j:Nat}{x:Str}{fs:mU}(hT:o3 K bS ed dv E)(Gt:lZ P w K mg base k x ps (iT K fs))(ao:fy j (eJ (fD P w) P w K mg base N qual scope f cd A outer s kc E).A)(aN:k<=j)(a3:et (eJ (fD P w) P w K mg base N qual scope f cd A outer s kc E) x)(ax:iq (eJ (fD P w) P w K mg base N qual scope f cd A outer s kc E) (e::es) t)(fF:(x==("__debug__" : Str))=false:=by decide)
 (he:dB (e::es) (eJ (fD P w) P w K mg base N qual scope f cd A outer s kc E).env=(false,eval e (eJ (fD P w) P w K mg base N qual scope f cd A outer s kc E).env)::dB es (eJ (fD P w) P w K mg base N qual scope f cd A outer s kc E).env:=by rfl)
 (hp:(hO pos (dB es (eJ (fD P w) P w K mg base N qual scope f cd A outer s kc E).env)).any (·.1)=false:=by rfl):wU (eJ (fD P w) P w K mg base N qual scope f cd A outer s kc E) bS ed (.Call (.Name x p) (e::es) [] pos) (Yo fs dv t):=by
 obtain ⟨Yp,D9,F,hm,dr,b⟩:=Gt.ex;obtain ⟨ca,cv,cw⟩:=ax.run;refine ⟨_,⟨HW (CX:=fD P w) (dvs:=[]) F (ao.mono aN) a3 hm dr b .nil XZ cv.run fF he hp⟩,λ ρ G ay σ H Q B hN q F=>cw ρ G _ σ H _ B q λ ds aB vs H1 g1 al _ aF=>?_⟩;exact ⟨ds,aB,ay,dv,by rw [dD];exact al,g1.cA,aF,F.after g1,hT.after (hN.trans g1)⟩
end
structure AB(X:aW)(ap:List nY)(Yq:Addr->List (Str × D)->f3):Prop where
 run:∃ gA:qf,tP X ap gA/\∀ C aK dN b3 c8 ρ G σ H,dh X.K ρ G σ H->rQ X.K aK dN->Yq C aK b3 ρ G->lO X.K G H b3 c8->gA C dN c8 σ H
abbrev rU:=Addr->List (Str × D)->f3
abbrev Yr(K:aX)(nF:Addr)(i:Nat)(u:Addr->rU)(gA:rU):rU:=λ C aK b3 ρ G=>∃ b,i1 K (.ref C) (.ref nF)=some b/\(b=true->lp K C/\∀ e,G e=none->u e C aK (D0 i b3) (ρ.set i (some (.ref e))) G)/\(b=false->gA C aK b3 ρ G)
section
variable{X:aW}{nF:Addr}{cx n:Str}{np wN:Pos}{wO:bP}{wP:List bP}{rest:List nY}{u:Addr->rU}{gA:rU}{i:Nat}
theorem Ys:AB X [] (λ _ _ _ _ _=>False):=⟨_,X6,λ _ _ _ _ _ _ _ _ _ _ _ q _=>q⟩
theorem Yt(hex:X.ex=[])(hG:X.stack=X.env::X.outer)(gR:X.env.frame=some X.env.locals)(rM:wM X.K nF)(D6:et X cx)(D7:X.mg cx=some (.ref nF))(dG:X.N.Nodup)(av:X.N[i]?=some n)(jY:X.env.scope.names.lookup n=some .local)
 (ap:∀ e C aK dN pn,rQ X.K aK dN->rN e C dN pn->lp X.K C->mD (X.kb e pn) (wO::wP) (u e C aK)) (ao:AB X rest gA) (wQ:(cx==("__debug__" : Str))=false:=by decide):AB X (.ExceptHandler (some (.Name cx np)) (some n) (wO::wP) wN::rest) (Yr X.K nF i u gA):=by
 obtain ⟨rc,D_,b2⟩:=ao.run;refine ⟨_,X7 (i:=i) (u:=λ e C dN D σ H=>∃ aK,rQ X.K aK dN/\lp X.K C/\∀ pn ae ag aR,Classical.choose (ap e C aK dN pn ae ag aR).run D σ H) hex hG gR rM D6 D7 dG av jY (λ e C dN pn nT=>λ pins s σ H D I ⟨aK,ae,aR,h⟩=>(Classical.choose_spec (ap e C aK dN pn ae nT aR).run).1.run pins s σ H D I (h pn ae nT aR)) D_ wQ,λ C aK dN b3 c8 ρ G σ H B fa q F=>?_⟩;obtain ⟨b,af,aF,bo⟩:=q;refine ⟨b,af,λ gl e he=>?_,λ gl=>b2 C aK dN b3 c8 ρ G σ H B fa (bo gl) F⟩;obtain ⟨hU,aF⟩:=aF gl;refine ⟨aK,fa,hU,λ pn ae ag aR=>(Classical.choose_spec (ap e C aK dN pn ae ag aR).run).2 (D0 i b3) (Ao i c8) _ G _ H (B.set (show dj X.K H (.ref e) (.ref e) from rfl) i) (aF e ?_) (F.off i)⟩
 cases z:G e with
 | none=>rfl
 | some o=>
  obtain ⟨kq,Mw⟩:=(B.cA e o z).some;rw [he] at Mw;cases Mw
end
section
variable{X:aW}{ap:List nY}{h₀:nY}{gA:rU}{j6 dk wS pos wT:Pos}{e:a8}{es:List a8}{t:g4}{fs:mU}{ps:List Str}{g_:Str}
abbrev Yu(i:Nat)(fs:mU)(t:g4)(gA:rU):f3:=λ b3 ρ G=>t ρ G λ ds aB=>fs ds aB (λ d bf=>b3.nx (ρ.set i (some d)) bf) λ C aK bf=>gA C aK b3 ρ bf
theorem Yv{K:aX}{aK:List (Str × D)}{dN:List (Str × V)}(h:rQ K aK dN)(e:aK=[]):dN=[]:=by subst e;cases h;rfl
theorem Yw{k j i:Nat}{y:Str}(Gt:lZ X.prog X.w X.K X.mg X.base k g_ ps (iT X.K fs))(ao:fy j X.A)(aN:k<=j)(a3:et X g_)(ax:∀ gX,iq (X.jS gX) (e::es) t)(d8:AB X (h₀::ap) gA)(dG:X.N.Nodup)(av:X.N[i]?=some y)(bv:Loc X.env.scope y)(hex:X.ex=[]:=by rfl)(hG:X.stack=X.env::X.outer:=by rfl)(gR:X.env.frame=some X.env.locals:=by rfl)
 (fF:(g_==("__debug__" : Str))=false:=by decide) (he:dB (e::es) X.env=(false,eval e X.env)::dB es X.env:=by rfl) (hp:(hO dk (dB es X.env)).any (·.1)=false:=by rfl) (mz:jH (.Call (.Name g_ j6) (e::es) [] dk) (some (.Name y wT)) wS.line X.env=pure false:=by rfl)
 (hf:X.fn y=true\/X.env.scope.names.lookup y=some .local:=by first | exact .inl rfl | exact .inr rfl | assumption) :
 gs X (.Try [.Assign [.Name y wT] (.Call (.Name g_ j6) (e::es) [] dk) wS] (h₀::ap) [] [] pos) (Yu i fs t gA):=by
 obtain ⟨f,fd,F,hm,dr,b⟩:=Gt.ex;obtain ⟨rc,D_,b2⟩:=d8.run;have ca:∀ gX,∃ bj:fk,jZ (X.jS gX) (e::es) bj/\∀ ρ G ay σ H Q,dh X.K ρ G σ H->t ρ G ay->Cs X.K (e::es).length G H ay Q->bj σ H Q:=λ gX=>(ax gX).run;obtain ⟨bb,Mx⟩:=Classical.axiomOfChoice ca;refine ⟨_,⟨Yg hex hG gR (Yc (t:=λ σ H Q=>∀ gX,bb gX σ H Q) F (ao.mono aN) a3 hm dr b (λ gX=>λ Yx pins s σ H Q I h=>(Mx gX).1.run Yx pins s σ H Q I (h gX)) fF he hp) D_ dG av bv mz hf⟩,λ b3 c8 ρ G σ H B q My=>?_⟩;intro gX
 refine (Mx gX).2 ρ G _ σ H _ B q λ ds aB vs H1 g1 al _ aF=>⟨ds,aB,_,_,by rw [dD];exact al,g1.cA,aF,λ d bf v bg g2 ad bo=>My.nx _ bf _ bg (g1.trans g2) ((B.go (g1.trans g2)).set ad i) bo,λ C dd aK dN au aj g fa dt ck Yy=>?_⟩
 exact ⟨C,dN,aj,rfl,rfl,dt,λ e=>Yv fa (ck e),b2 C aK dN b3 c8 ρ au σ aj (B.go (g1.trans g)) fa Yy (My.after (g1.trans g))⟩
end
structure AC(K:aX)(C:Addr)(name:Str):Prop where
 cls:∃ cd,lD K C=some cd/\cd.hasDict=true
 no:nh K (.ref C) name=some none
section
variable{X:aW}{a C:Addr}{aK:List (Str × D)}{dN:List (Str × V)}{pn:List (Addr × Obj)}{n name:Str}{i:Nat}{p pos:Pos}
theorem Yz(nT:rN a C dN pn){pins:List (Addr × Obj)}{σ:St}{H:aw}{s:aE}(I:Inv (X.kb a pn) pins σ H s):ExcAt a C s.heap:=by
 obtain ⟨de,vs,m,c,_⟩:=nT.obj;exact ⟨de,(I.pin (a,de) (kj _ (kj _ m))).1,c⟩
abbrev YA(K:aX)(i:Nat)(a C:Addr)(aK:List (Str × D))(name:Str):cn:=λ ρ G Q=>ρ[i]?=some (some (.ref a))/\AC K C name/\∃ d,aK.lookup name=some d/\Q d G
theorem YB{K:aX}{aK:List (Str × D)}{dN:List (Str × V)}(h:rQ K aK dN){d:D}(e:aK.lookup name=some d):∃ v,dN.lookup name=some v/\∀ H,dj K H d v:=by
 induction h with
 | nil=>cases e
 | @cons p q aK dN ah _ aO=>
  obtain ⟨f,d'⟩:=p;obtain ⟨Yp,nu⟩:=q;obtain ⟨ae,ag⟩:=ah;simp only at ae ag;subst ae;rw [px] at e ⊢;split at e
  ·cases e;exact ⟨nu,rfl,ag⟩
  ·exact aO e
theorem Mz(rV:lp X.K C)(fa:rQ X.K aK dN)(nT:rN a C dN pn)(dG:X.N[i]?=some n)(bO:qM X.env.scope n)(af:l8 (.Name n p) name X.env (eval (.Name n p) X.env)=eval (.Name n p) X.env:=by rfl)(hd:(n==("__debug__" : Str))=false:=by decide)(ho:(n==("__classdict__" : Str))=false:=by decide) :
 cu (X.kb a pn) (.Attribute (.Name n p) name pos) (YA X.K i a C aK name):=by
 refine ⟨λ σ H Q=>σ[i]?=some (some (.ref a))/\AC X.K C name/\∃ v,dN.lookup name=some v/\Q v H,⟨λ pins s σ H Q I h=>?_⟩,λ ρ G ay σ H Q B q F=>?_⟩
 ·obtain ⟨ae,ag,v,aR,bB⟩:=h;refine QH af (b0 (yE (X:=X.kb a pn) (i:=i) dG bO hd ho pins s σ H (λ x H1=>x=.ref a/\H1=H) I ⟨_,ae,rfl,rfl⟩) λ u s1 ⟨x,H1,a4,a7,ex,YC⟩=>?_);subst ex YC;obtain rfl:u=Value.ref a:=a7;obtain ⟨de,vs,m,c,rL,wQ⟩:=nT.obj;obtain ⟨cd,bu,bt⟩:=ag.cls;rcases wQ with ⟨_,rfl⟩ | ⟨aV,lY,mA,eS,fC,lX,oD⟩
  ·cases aR
  ·have b2:=oD name;rw [aR] at b2
   cases hm:mA name with
   | none=>rw [hm] at b2;exact (show False from b2).elim
   | some u=>
    rw [hm] at b2;have g1:=(a4.pin (a,de) (kj _ (kj _ m))).1;have g2:=(a4.pin (aV,lY) (kj _ (kj _ fC))).1
    have YD:PySem.W.InstAt s1.heap a de C (some lY):=⟨g1,c,by unfold PySem.W.notCls;rw [rL],by rw [eS];exact g2⟩
    exact X2 rV a4.ff YD bu bt ag.no (by rw [lX,hm]) (QE b2) ⟨v,_,a4.tok _,b2,bB⟩
 ·obtain ⟨aF,bo,d,dw,gm⟩:=q;obtain ⟨v,aC,aG⟩:=YB fa dw;obtain ⟨v0,s1,a1⟩:=B.st i _ aF;cases a1;exact ⟨s1,bo,v,aC,F d G v H (.refl B.cA) (aG H) gm⟩
theorem YE(rV:lp X.K C)(nT:rN a C dN pn):h3 (X.kb a pn) (.builtin "isinstance") (Xo a C X.K):=by
 intro pins s σ H xs us Q I r h;obtain ⟨y,rfl,h⟩:=h;obtain ⟨u,v,rfl,c5,a6⟩:=Vals.two r;cases c5;have Ea:ExcAt a C s.heap:=Yz nT I;rcases h with ⟨c,b,rfl,k,q⟩ | ⟨T,b,rfl,k,q⟩ | ⟨l,cs,b,rfl,fo,k,q⟩
 ·cases a6
  exact jN (DZ rV) I.ff Ea k (λ z=>nomatch z) λ bL=>⟨.aI b,H,I.tok bL,rfl,q⟩
 ·cases a6
  exact jN (DZ rV) I.ff Ea k (λ z=>nomatch z) λ bL=>⟨.aI b,H,I.tok bL,rfl,q⟩
 ·cases a6;obtain ⟨az,L0,⟨⟨cls,dd,data,bz⟩,ae,ag,aR⟩,_⟩:=I.tuple fo;have bV:=L6 L0;subst bV;simp only at ag aR;subst ag
  obtain ⟨n,rfl⟩:∃ n,data=.seq (cs.map Value.ref).toArray n:=by
   first | exact ⟨_,aR⟩ | exact aR | (obtain ⟨n,aR⟩:=aR;exact ⟨n,aR⟩)
  exact PySem.W.kia_tup (DZ rV) I.ff Ea ae k (λ z=>nomatch z) λ bL=>⟨.aI b,H,I.tok bL,rfl,q⟩
theorem Eb(rV:lp X.K C)(nT:rN a C dN pn):kz (X.kb a pn) (.builtin "isinstance") (td (Aq X.K C a)):=by
 refine ⟨_,⟨YE rV nT⟩,λ xs vs G H ay Q v al r F=>?_⟩;obtain ⟨x,y,u,w,rfl,rfl,aQ,a5,aT⟩:=zu r al;clear r;rw [L8] at aT;obtain ⟨rfl,b,k,q⟩:=aT;cases aQ;refine ⟨w,rfl,?_⟩;have fin:=F (.aI b) G _ H (.refl v) rfl q
 cases y with
 | ref c=>cases a5;exact .inl ⟨c,b,rfl,k,fin⟩
 | ty T=>cases a5;exact .inr (.inl ⟨T,b,rfl,k,fin⟩)
 | tup ds=>
  obtain ⟨l,ws,rfl,fo,dJ⟩:=a5
  dsimp only [Ap] at k
  cases z:tJ ds with
  | none=>rw [z] at k;cases k
  | some cs=>
   rw [z] at k;rw [L7 z dJ] at fo;exact .inr (.inr ⟨l,cs,b,rfl,fo,k,fin⟩)
 | _=>cases k
end
end L3
namespace L3
open PySem L2 PySem.NumText PyProof.Rows PySem.W PySem.W.KIN
theorem wW{x:Str}{r:List Nat}(h:x.cps.toList=45::r):(bare x).cps.toList=r:=by
 have ar:x.cps.toList.length=x.length:=fO;unfold bare;rw [dash,rB,h,if_pos (by rfl),PyProof.Rows.slice_from_eq (by decide) (by rw [<- ar,h,bR];omega) rfl];show ((x.cps.toList.drop 1).take _)=_;rw [h,uQ,ie,qH];rw [<- ar,h,bR];omega
theorem tR{x:Str}(h:x.cps.toList.head?≠some 45):bare x=x:=by
 unfold bare;rw [dash,rB,if_neg];intro c;exact h (eq_of_beq c)
theorem Ec{z:Str}(h:j_ z jz=true):uK z.cps.toList:=by
 unfold j_ at h;rw [DJ,lz] at h;intro c ai;have:=h c ai;rw [decide_eq_true_iff] at this;simp at this;omega
end L3
namespace L3
open PySem PySem.Spec PyProof.Rows L2
structure wX(X:aW)(bS:aP)(ed:aw)(es:List a8)(t:g4):Prop where
 run:∃ bj:fk,jZ X es bj/\∀ ρ G ay σ H Q,dh X.K ρ G σ H->Go X.K bS ed G H->t ρ G ay->Cs X.K es.length G H ay Q->bj σ H Q
section
variable{X:aW}{bS:aP}{ed:aw}{e o:a8}{es:List a8}{aZ to:cn}{t:g4}{pos apos dk:Pos}
theorem iq.x(h:iq X es t):wX X bS ed es t:=let ⟨c,j,r⟩:=h.run;⟨c,j,λ ρ G ay σ H Q B _ q F=>r ρ G ay σ H Q B q F⟩
theorem MA:wX X bS ed [] Jk:=iq.x aL
theorem MB(ax:wU X bS ed e aZ)(ao:wX X bS ed es t)(ap:e7 e=true:=by rfl):wX X bS ed (e::es) (Jl aZ t):=by
 obtain ⟨ca,cv,cw⟩:=ax.run;obtain ⟨cr,pW,b2⟩:=ao.run;refine ⟨_,IG cv pW ap,λ ρ G ay σ H Q B hN q F=>?_⟩;refine cw ρ G _ σ H _ B hN q λ x aB v H1 g1 aQ aF=>b2 ρ aB _ σ H1 _ (B.go g1) (hN.trans g1) aF λ xs bf vs bg g2 Cw ar bo=>?_;exact F (x::xs) bf (v::vs) bg (g1.trans g2) ⟨v,vs,rfl,aQ.mono g2.tup,Cw⟩ (by simp [ar]) bo
theorem MC{name:Str}{T id:String}{ty:D->aP->Prop}{r:D->List D->aP->cJ->Prop}(ju:qw T)(slot:Slot T name id)(gK:n0 (.builtin id)=pure (.type "method_descriptor"))(hm:p3 X T id ty r)(aS:cu X o to)(ax:wX X bS ed [e] t)
 (i_:l8 o name X.env (eval o X.env)=eval o X.env:=by rfl) (ja:(apos.endLine==dk.line)=true:=by rfl) (ap:e7 e=true:=by rfl):wU X bS ed (.Call (.Attribute o name apos) [e] [] dk) (JX ty r to t):=by
 obtain ⟨co,iv,ik⟩:=aS.run;obtain ⟨ca,cv,cw⟩:=ax.run;obtain ⟨JY,wf,bv,wg⟩:=hm.run;refine ⟨_,IJ ju slot gK wf iv cv i_ ja ap,λ ρ G ay σ H Q B hN q F=>ik ρ G _ σ H _ B q λ x aB v H1 g1 aQ ⟨ae,aF⟩=>⟨bv x v aB H1 g1.cA aQ ae,?_⟩⟩;exact cw ρ aB _ σ H1 _ (B.go g1) (hN.trans g1) aF λ xs bf vs bg g2 al _ bo=>wg x xs v vs bf bg ay Q g2.cA (aQ.mono g2.tup) al bo (F.after (g1.trans g2))
end
end L3
namespace L3
open PySem L2 PySem.NumText PyProof.Rows PySem.W PySem.W.KIN
def mV(p:Str):Bool:=!(Builtin.Str.occurrences (" :," : Str) p 0 (" :," : Str).length 1).isEmpty
def iU(p:Str):Option D:=if mV p=true then some (.str p) else if p = "~" then some (.tup [.str "some"]) else if fh p=true then some (.tup [.str "is", .int (ln p)]) else none
theorem MD{x:Str}(h:fh x=true):n6 x=some (ln x)/\x.length<=13:=by
 unfold fh at h;rw [fe,fe,fe,decide_eq_true_iff,decide_eq_true_iff] at h;obtain ⟨⟨ae,ag,aR⟩,bB⟩:=h;have hd:=Ec aR;have ar:x.cps.toList.length=x.length:=fO;have af:(bare x).cps.toList.length=(bare x).length:=fO
 have fin:∀{v:Int},n6 x=some v->n6 x=some (ln x):=λ e=>by unfold ln;rw [e];rfl
 by_cases c:x.cps.toList.head?=some 45
 ·cases e:x.cps.toList with
  | nil=>rw [e] at c;cases c
  | cons a r=>
   rw [e] at c;cases c;have gl:=wW e;rw [gl] at hd af
   have ne:r≠[]:=by rintro rfl;rw [eL] at af;omega
   have afx:x.length=r.length+1:=by rw [<- ar,e,bR]
   exact ⟨fin (intText_neg (x:=x) e hd ne (by omega)),by omega⟩
 ·have gl:=tR c;rw [gl] at hd ae ag
  have ne:x.cps.toList≠[]:=by intro z;rw [z,eL] at ar;omega
  exact ⟨fin (Bm (x:=x) hd ne (by omega)),by omega⟩
def qi(row:List D):Option D:=match row.reverse with
 | k::c::e1=>if cm c (.str ":")=true/\en (c0 (e1.reverse.drop 1)) (gh ((c0 e1.reverse).length - 1) (.str " "))=true then some (.tup [.str "way", .tup (c0 e1.reverse),k]) else none
 | _=>none
def l0:List D->Option D
 | [a,b]=>if cm b (.str ",")=true then some (.tup [.str "left", a]) else if cm a (.str ",")=true then some (.tup [.str "right", b]) else none
 | [a,b,c]=>if cm b (.str ",")=true then some (.tup [.str "both", a,c]) else none
 | _=>none
def hB(fr:List D)(p:Str):Option D:=match fr with
 | .str b::row=>if b = "["/\p = "]" then qi row else if b = "("/\p = ")" then l0 row else none
 | _=>none
def fL(st:List (List D))(p:Str):Option (List (List D)):=
 if p = "["\/p = "(" then some ([.str p]::st) else if p = "]"\/p = ")" then (match st with
  | c::t::r=>(hB c p).map λ k=>(t++[k])::r
  | _=>none) else match st with
  | t::r=>(iU p).map λ d=>(t++[d])::r
  | []=>none
def eC:List (List D)->List Str->Option (List (List D))
 | st,[]=>some st
 | st,p::r=>(fL st p).bind λ dO=>eC dO r
section
variable(cj:Addr)
def tS(dv:mT)(G:aP):Prop:=dv cj [("at", .int 0)] G
def Ed:mU:=λ ds G ay dv=>∃ p:Str,ds=[.str p]/\p.length<=1000/\(∀ d,iU p=some d->ay d G)/\(iU p=none->tS cj dv G)
def o5(ds:List D):Prop:=∀ d∈ds,d.data=true/\d.bC<=140
def Ee:mU:=λ ds G ay dv=>∃(l:Addr)(row:List D),ds=[.ref l]/\G l=some (.lst row)/\o5 row/\row.length<=6000/\(∀ d,qi row=some d->ay d G)/\(qi row=none->tS cj dv G)
def Ef:mU:=λ ds G ay dv=>∃(l:Addr)(row:List D),ds=[.ref l]/\G l=some (.lst row)/\o5 row/\(∀ d,l0 row=some d->ay d G)/\(l0 row=none->tS cj dv G)
def Eg:mU:=λ ds G ay dv=>∃(l:Addr)(b p:Str)(row:List D),ds=[.ref l,.str p]/\G l=some (.lst (.str b::row))/\o5 row/\row.length<=6000/\(∀ d,hB (.str b::row) p=some d->ay d G)/\(hB (.str b::row) p=none->tS cj dv G)
end
theorem Eh{x:D}{z:Str}{G:aP}{Q:cJ}(ak:x.data=true)(hd:x.bC<=150)(q:Q (.aI (cm x (.str z))) G):De x (.str z) G Q:=by
 have h:rn id x (.str z) G Q:=J4 (f:=id) ak (show (D.str z).data=true by simp [D.data]) hd q
 cases x with
 | ref a=>simp [D.data] at ak
 | _=>exact h
theorem o5.at_{ds:List D}(h:o5 ds){i:Nat}{d:D}(e:ds[i]?=some d):d.data=true/\d.bC<=150:=by
 obtain ⟨ae,ag⟩:=h d (uM e);exact ⟨ae,by omega⟩
theorem YF{row:List D}(ag:row.length≠2)(aR:row.length≠3):l0 row=none:=by
 match row,ag,aR with
 | [],_,_=>rfl
 | [a],_,_=>rfl
 | [a,b],h,_=>exact absurd rfl h
 | [a,b,c],_,h=>exact absurd rfl h
 | a::b::c::d::r,_,_=>rfl
theorem Ei(e1:List D)(c k:D):qi (e1++[c,k])=if cm c (.str ":")=true/\en (c0 (e1.drop 1)) (gh ((c0 e1).length - 1) (.str " "))=true then some (.tup [.str "way", .tup (c0 e1),k]) else none:=by
 unfold qi;rw [show (e1++[c,k]).reverse=k::c::e1.reverse by simp];simp only [List.reverse_reverse]
theorem ME{row:List D}(h:row.length < 2):qi row=none:=by
 match row,h with
 | [],_=>rfl
 | [a],_=>rfl
theorem MF{row:List D}(h:¬ row.length < 2):∃ e1 c k,row=e1++[c,k]:=by
 have e:row.reverse.reverse=row:=List.reverse_reverse _
 cases ae:row.reverse with
 | nil=>have:=congrArg mc ae;simp at this;rw [this] at h;exact absurd (by decide) h
 | cons k r=>
  cases r with
  | nil=>have:=congrArg mc ae;simp at this;omega
  | cons c b=>
   refine ⟨b.reverse,c,k,?_⟩;rw [<- e,ae];simp
theorem MG{α:Type}:∀ xs:List α,(c0 xs).length<=xs.length
 | []=>ZB _
 | [x]=>ZB _
 | x::y::r=>by have:=MG r;simp only [c0,bR];omega
theorem Ej{α:Type}:∀{xs:List α}{x:α},x∈c0 xs->x∈xs
 | [],_,h=>h
 | [y],_,h=>h
 | y::z::r,x,h=>by
  simp only [c0,cC] at h;rcases h with rfl | h
  ·exact bT ..
  ·exact bY _ (bY _ (Ej h))
theorem YG{ds:List D}(h:o5 ds):c3 ds=true/\cc ds<=150:=by
 induction ds with
 | nil=>exact ⟨rfl,ef _⟩
 | cons d r aO=>
  obtain ⟨ae,ag⟩:=h d (bT ..);obtain ⟨cG,c7⟩:=aO λ x ak=>h x (bY _ ak);exact ⟨by simp only [c3,ae,cG,Bool.and_self],by simp only [cc];omega⟩
theorem AD:∀(a b:List Str)(st:List (List D)),eC st (a++b)=(eC st a).bind λ dO=>eC dO b
 | [],b,st=>rfl
 | p::a,b,st=>by
  rw [eF,eC,eC]
  cases fL st p with
  | none=>rfl
  | some dO=>exact AD a b dO
theorem wY{x:List Str}{i:Nat}{p:Str}{st dO:List (List D)}(h:eC [[]] (x.take i)=some st)(ah:x[i]?=some p)(ap:fL st p=some dO):eC [[]] (x.take (i+1))=some dO:=by
 rw [su,ah,AD,h];show eC st [p]=_;rw [eC,ap];rfl
theorem wZ{x:List Str}{i:Nat}{p:Str}{st:List (List D)}(h:eC [[]] (x.take i)=some st)(ah:x[i]?=some p)(ap:fL st p=none):eC [[]] x=none:=by
 obtain ⟨av,e⟩:=mb.mp ah
 have:x=x.take i++p::x.drop (i+1):=by rw [<- e,<- pB av,pC]
 rw [this,AD,h];show eC st (p::x.drop (i+1))=none;rw [eC,ap];rfl
def Ek(cj:Addr):mU:=λ ds G ay dv=>∃ z:Str,ds=[.str z]/\z.length<=50000/\(∀ p∈cQ cR [] z.cps.toList,p.length<=1000)/\(cQ cR [] z.cps.toList).length<=50000 ∧
 (∀ i st,eC [[]] ((cQ cR [] z.cps.toList).take i)=some st->∀ fr∈st,fr.length<=5000/\o5 fr)/\(∀ d,eC [[]] (cQ cR [] z.cps.toList)=some [[d]]->(∀ r,gQ r d)/\dL 49000 150 63 d) ∧
 (∀ d,eC [[]] (cQ cR [] z.cps.toList)=some [[d]]->eb d->ay d G)/\((¬ ∃ d,eC [[]] (cQ cR [] z.cps.toList)=some [[d]]/\eb d)->tS cj dv G)
end L3
namespace L3
open PySem L2
inductive dW:D->List Str->Prop
 | str (p:Str):mV p=true->dW (.str p) [p]
 | some:dW (.tup [.str "some"]) ["~"]
 | is (p:Str):fh p=true->dW (.tup [.str "is", .int (ln p)]) [p]
 | left {a:D} {x:List Str}:dW a x->dW (.tup [.str "left", a]) (("(" : Str)::(x++[(",":Str),(")":Str)]))
 | right {a:D} {x:List Str}:dW a x->dW (.tup [.str "right", a]) (("(" : Str)::("," : Str)::(x++[(")":Str)]))
 | both {a b:D} {x y:List Str}:dW a x->dW b y->dW (.tup [.str "both", a,b]) (("(" : Str)::(x++("," : Str)::(y++[(")":Str)])))
 | way {ps:List (D × List Str)} {k:D} {y:List Str}:(∀ p∈ps,dW p.1 p.2)->dW k y->dW (.tup [.str "way", .tup (ps.map (·.1)),k]) (("[" : Str)::(c4 (" " : Str) (ps.map (·.2))++(":" : Str)::(y++[("]" : Str)])))
theorem dW.str_inv{z:Str}{x:List Str}(h:dW (.str z) x):x=[z]:=by cases h;rfl
def qj(row:List D)(x:List Str):Prop:=∃ ps:List (D × List Str),ps.map (·.1)=row/\(ps.map (·.2)).flatten=x/\∀ p∈ps,dW p.1 p.2
theorem qj.snoc{row:List D}{x y:List Str}{d:D}(h:qj row x)(k:dW d y):qj (row++[d]) (x++y):=by
 obtain ⟨ps,aC,aG,h⟩:=h;refine ⟨ps++[(d,y)],by rw [kQ,aC];rfl,by rw [kQ,List.flatten_append,aG];simp,λ p ah=>?_⟩;rcases fc.mp ah with ah | ah
 ·exact h p ah
 ·rw [kR] at ah;subst ah;exact k
def tT(c:List D)(x:List Str):Prop:=∃(b:Str)(row:List D)(y:List Str),c=.str b::row/\x=b::y/\(b = "["\/b = "(")/\qj row y
theorem tT.snoc{row:List D}{x y:List Str}{d:D}(h:tT row x)(k:dW d y):tT (row++[d]) (x++y):=by
 obtain ⟨b,row,z,rfl,rfl,af,h⟩:=h;exact ⟨b,row++[d],z++y,rfl,rfl,af,h.snoc k⟩
theorem w0{d:D}{z:Str}(h:cm d (.str z)=true):d=.str z:=by
 cases d with
 | str y=>rw [show y=z from eq_of_beq h]
 | _=>cases h
theorem YH{row:List D}{x:List Str}{k:D}(h:qj row x)(e:l0 row=some k):dW k (("(" : Str)::(x++[(")" : Str)])):=by
 obtain ⟨ps,rfl,rfl,h⟩:=h
 match ps,h,e with
 | [],_,e=>cases e
 | [a],_,e=>cases e
 | [(a,x),(b,y)],h,e=>
  have ax:=h (a,x) (by simp);have af:=h (b,y) (by simp);simp only [dF,sm,l0] at e;split at e
  ·next c=>have:=w0 c;subst this;cases e;have:=af.str_inv;simp only at this;subst this;have:=dW.left ax;simpa using this
  ·split at e
   ·next c=>have:=w0 c;subst this;cases e;have:=ax.str_inv;simp only at this;subst this;have:=dW.right af;simpa using this
   ·cases e
 | [(a,x),(b,y),(d,z)],h,e=>
  have ax:=h (a,x) (by simp);have af:=h (b,y) (by simp);have hd:=h (d,z) (by simp);simp only [dF,sm,l0] at e;split at e
  ·next c=>have:=w0 c;subst this;cases e;have:=af.str_inv;simp only at this;subst this;have:=dW.both ax hd;simpa using this
  ·cases e
 | _::_::_::_::_,_,e=>cases e
theorem MH{α β:Type}(f:α->β):∀ xs:List α,c0 (xs.map f)=(c0 xs).map f
 | []=>rfl
 | [x]=>rfl
 | x::y::r=>by simp only [dF,c0];rw [MH f r]
theorem MI:∀(qk:List (D × List Str)),(∀ p∈qk,dW p.1 p.2)->en (c0 ((qk.map (·.1)).drop 1)) (gh ((c0 (qk.map (·.1))).length - 1) (.str " "))=true->(qk.map (·.2)).flatten=c4 (" " : Str) ((c0 qk).map (·.2))
 | [],_,_=>rfl
 | [a],_,_=>by simp [c0,c4]
 | a::s::r,h,e=>by
  simp only [dF,uQ,ie,c0,bR,Nat.add_sub_cancel] at e
  have YI:c0 (s.1::r.map (·.1))=s.1::c0 ((r.map (·.1)).drop 1):=by cases r<;>rfl
  rw [YI] at e
  cases r with
  | nil=>cases e
  | cons b r=>
   have wN:(c0 ((b::r).map (·.1))).length=(c0 ((b::r).map (·.1))).length - 1+1:=by
    have:0 < (c0 ((b::r).map (·.1))).length:=by cases r<;>simp [c0]
    omega
   rw [wN,pz] at e;have bV:(cm s.1 (.str " ")&&en (c0 (((b::r).map (·.1)).drop 1)) (gh ((c0 ((b::r).map (·.1))).length - 1) (.str " ")))=true:=e;rw [fe] at bV;obtain ⟨aC,aG⟩:=bV;have aO:=MI (b::r) (λ p ah=>h p (by simp at ah ⊢;rcases ah with ah | ah;exact .inr (.inr (.inl ah));exact .inr (.inr (.inr ah)))) aG;have ap:=w0 aC;have d4:=h s (by simp);rw [ap] at d4;have YJ:=d4.str_inv;rw [dF,dF,pA,pA,aO,YJ,c0,dF]
   cases bc:c0 (b::r) with
   | nil=>cases r<;>cases bc
   | cons u v=>simp [c4]
theorem YK{row:List D}{x:List Str}{k:D}(h:qj row x)(e:qi row=some k):dW k (("[" : Str)::(x++[("]" : Str)])):=by
 by_cases ag:row.length < 2
 ·rw [ME ag] at e;cases e
 obtain ⟨e1,c,k0,rfl⟩:=MF ag;rw [Ei] at e;split at e
 ·next ai=>
  cases e;obtain ⟨ps,aC,rfl,h⟩:=h;obtain ⟨qk,pc,rfl,gl,kL⟩:=List.map_eq_append_iff.mp aC;subst gl
  match pc,kL,h with
  | [(bu,YL),(k1,MJ)],kL,h=>
   simp only [dF,sm,List.cons.injEq,and_true] at kL;obtain ⟨rfl,rfl⟩:=kL;have hZ:=w0 ai.1;have bj:=h (bu,YL) (by simp);simp only at bj;rw [hZ] at bj;have:=bj.str_inv;subst this;have bL:=h (k1,MJ) (by simp);have al:=MI qk (λ p ah=>h p (by simp [ah])) ai.2;rw [MH];have:=dW.way (ps:=c0 qk) (k:=k1) (y:=MJ) (λ p ah=>h p (by simp [Ej ah])) bL;rw [kQ,List.flatten_append,al];simpa using this
 ·cases e
theorem YM{c:List D}{x:List Str}{p:Str}{k:D}(h:tT c x)(e:hB c p=some k):dW k (x++[p]):=by
 obtain ⟨b,row,y,rfl,rfl,af,h'⟩:=h;simp only [hB] at e;split at e
 ·next af=>obtain ⟨rfl,rfl⟩:=af;exact YK h' e
 ·split at e
  ·next af=>obtain ⟨rfl,rfl⟩:=af;exact YH h' e
  ·cases e
theorem YN{p:Str}{d:D}(e:iU p=some d):dW d [p]:=by
 unfold iU at e;split at e
 ·next h=>cases e;exact .str p h
 ·split at e
  ·next h=>cases e;rw [h];exact .some
  ·split at e
   ·next h=>cases e;exact .is p h
   ·cases e
inductive mW:List (List D)->List Str->Prop
 | one {t:List D} {x:List Str}:qj t x->mW [t] x
 | push {t:List D} {x y:List Str} {st:List (List D)}:tT t x->mW st y->mW (t::st) (y++x)
theorem mW.top{t:List D}{st:List (List D)}{x y:List Str}{d:D}(h:mW (t::st) x)(k:dW d y):mW ((t++[d])::st) (x++y):=by
 cases h with
 | one h=>exact .one (h.snoc k)
 | push h r=>rw [db];exact .push (h.snoc k) r
theorem YO{st dO:List (List D)}{x:List Str}{p:Str}(h:mW st x)(e:fL st p=some dO):mW dO (x++[p]):=by
 unfold fL at e;split at e
 ·next ah=>cases e;exact .push ⟨p,[],[],rfl,rfl,ah,[],rfl,rfl,λ q bc=>absurd bc eV⟩ h
 ·split at e
  ·split at e
   ·next c t r=>
    cases hU:hB c p with
    | none=>rw [hU] at e;cases e
    | some k=>
     rw [hU] at e;cases e
     cases h with
     | push ai ao=>rw [db];exact ao.top (YM ai hU)
   ·cases e
  ·split at e
   ·next t r=>
    cases hU:iU p with
    | none=>rw [hU] at e;cases e
    | some k=>rw [hU] at e;cases e;exact h.top (YN hU)
   ·cases e
theorem El:∀(ps:List Str){st dO:List (List D)}{x:List Str},mW st x->eC st ps=some dO->mW dO (x++ps)
 | [],st,dO,x,h,e=>by cases e;rw [dD];exact h
 | p::ps,st,dO,x,h,e=>by
  rw [eC] at e
  cases es:fL st p with
  | none=>rw [es] at e;cases e
  | some s1=>
   rw [es] at e;have:=El ps (YO h es) e
   rwa [db] at this
theorem Em{ps:List Str}{d:D}(e:eC [[]] ps=some [[d]]):dW d ps:=by
 have h:=El (x:=[]) ps (.one ⟨[],rfl,rfl,λ p ah=>absurd ah eV⟩) e;rw [jo] at h
 cases h with
 | one h=>
  obtain ⟨gf,aC,aG,h⟩:=h
  match gf,aC,h,aG with
  | [(eS,x)],aC,h,aG=>
   simp at aC aG;subst aC aG;exact h _ (kR.mpr rfl)
 | push _ r=>cases r
end L3
namespace L3
open PySem L2
theorem tU{p:Str}(h:fh p=true):(∀ c∈p.cps.toList,c=45\/48<=c/\c<=57)/\p.cps.toList≠[]:=by
 unfold fh at h;rw [fe,fe,fe,decide_eq_true_iff,decide_eq_true_iff] at h;obtain ⟨⟨ae,ag,aR⟩,bB⟩:=h;have hd:=Ec aR;have af:(bare p).cps.toList.length=(bare p).length:=fO
 cases e:p.cps.toList with
 | nil=>
  have MK:=Dy p;have ar:p.cps.toList.length=p.length:=fO;rw [e,eL] at ar;omega
 | cons a r=>
  refine ⟨?_,jL _ _⟩;by_cases c:a=45
  ·subst c;have gl:=wW e;rw [gl] at hd;intro c ai;rcases cC.mp ai with rfl | ai
   ·exact .inl rfl
   ·exact .inr (hd c ai)
  ·have gl:=tR (x:=p) (by rw [e];simpa using c);rw [gl,e] at hd;exact λ c ai=>.inr (hd c ai)
theorem YP{p:Str}(h:fh p=true):mV p=false:=by
 unfold mV;rw [yq];intro h0;obtain ⟨i,ae,ag⟩:=(PySem.StrLaws.found_iff _ _).mp h0;obtain ⟨aR,bB⟩:=tU h;unfold Builtin.Str.subAt at ag;have ag:=eq_of_beq ag;have el:=congrArg yl ag
 cases e:p.cps.toList with
 | nil=>exact bB e
 | cons c r=>
  rw [e] at el
  have m:c∈((" :," : String):Str).cps.toList:=by
   have:c∈(((" :," : String):Str).cps.extract i (i+p.length)).toList:=by rw [el];exact bT ..
   rw [uV] at this;exact pD (ya this)
  have aN:∀ c∈((" :," : String):Str).cps.toList,¬ (c=45\/48<=c/\c<=57):=by decide +kernel
  exact aN c m (aR c (by rw [e];exact bT ..))
theorem AE{st:List (List D)}{p:Str}(h:p = "["\/p = "("):fL st p=some ([.str p]::st):=by unfold fL;rw [if_pos h]
theorem En{t:List D}{r:List (List D)}{p:Str}{d:D}(h:p ∉ (["[", "(", "]", ")"]:List Str))(e:iU p=some d):fL (t::r) p=some ((t++[d])::r):=by
 have ae:¬ (p = "["\/p = "("):=by rintro (rfl | rfl)<;>exact h (by simp)
 have ag:¬ (p = "]"\/p = ")"):=by rintro (rfl | rfl)<;>exact h (by simp)
 unfold fL;rw [if_neg ae,if_neg ag];simp only;rw [e];rfl
theorem YQ:∀ p∈([" ", ":", ","]:List Str),mV p=true/\p ∉ (["[", "(", "]", ")"]:List Str):=by decide +kernel
theorem w1{t:List D}{r:List (List D)}{p:Str}(h:p∈([" ", ":", ","]:List Str)):fL (t::r) p=some ((t++[.str p])::r):=by
 obtain ⟨ae,ag⟩:=YQ p h;exact En ag (by unfold iU;rw [if_pos ae])
theorem AF{c t:List D}{r:List (List D)}{p:Str}{k:D}(h:p = "]"\/p = ")")(e:hB c p=some k):fL (c::t::r) p=some ((t++[k])::r):=by
 have ae:¬ (p = "["\/p = "("):=by rcases h with rfl | rfl<;>decide +kernel
 unfold fL;rw [if_neg ae,if_pos h];simp only;rw [e];rfl
theorem kd{st dO:List (List D)}{p:Str}{r:List Str}(h:fL st p=some dO):eC st (p::r)=eC dO r:=by rw [eC,h];rfl
theorem rW{st dO:List (List D)}{a b:List Str}(h:eC st a=some dO):eC st (a++b)=eC dO b:=by rw [AD,h];rfl
theorem ML:∀(ps:List (D × List Str)),(∀ p∈ps,∀ t st,eC (t::st) p.2=some ((t++[p.1])::st))->∀ t st,eC (t::st) (c4 (" " : Str) (ps.map (·.2)))=some ((t++nR (ps.map (·.1)))::st)
 | [],_,t,st=>by simp [c4,nR,eC]
 | [p],h,t,st=>h p (by simp) t st
 | p::q::ps,h,t,st=>by
  have aO:=ML (q::ps) (λ r ao=>h r (bY _ ao)) (t++[p.1]++[.str " "]) st;show eC (t::st) (p.2++(" " : Str)::c4 (" " : Str) ((q::ps).map (·.2)))=_;rw [rW (h p (by simp) t st),kd (w1 (p:=" ") (by simp)),aO];simp only [dF];rw [LP];simp
theorem MM:∀ p∈(["[", "(", "]", ")", "~"]:List Str),fh p=false:=by decide +kernel
theorem YR{d:D}{x:List Str}(h:dW d x):bx d->∀ t st,eC (t::st) x=some ((t++[d])::st):=by
 induction h with
 | str p=>intro k;cases k
 | some=>intro _ t st;rw [kd (En (by decide +kernel) (show iU "~" = some (.tup [.str "some"]) by unfold iU;rw [if_neg (by decide +kernel),if_pos rfl]))];rfl
 | is p ah=>
  intro _ t st
  have af:p ∉ (["[", "(", "]", ")"]:List Str):=λ m=>by
   have:=MM p (by simp at m ⊢;rcases m with m | m | m | m<;>simp [m]);rw [ah] at this;cases this
  have bh:p≠"~":=λ e=>by have:=MM p (by simp [e]);rw [ah] at this;cases this
  rw [kd (En af (show iU p=some (.tup [.str "is", .int (ln p)]) by unfold iU;rw [if_neg (by rw [YP ah];decide),if_neg bh,if_pos ah]))];rfl
 | @left a x ax aO=>
  intro k t st
  have e8:bx a:=by cases k;assumption
  rw [kd (AE (.inr rfl)),rW (aO e8 _ _),kd (w1 (p:=",") (by simp)),kd (AF (.inr rfl) (k:=.tup [.str "left", a]) ?_)]
  ·rfl
  ·rfl
 | @right a x ax aO=>
  intro k t st
  have e8:bx a:=by cases k;assumption
  rw [kd (AE (.inr rfl)),kd (w1 (p:=",") (by simp)),rW (aO e8 _ _),kd (AF (.inr rfl) (k:=.tup [.str "right", a]) ?_)]
  ·rfl
  ·cases e8<;>rfl
 | @both a b x y ax af iV iW=>
  intro k t st
  have e8:bx a:=by cases k;assumption
  have iz:bx b:=by cases k;assumption
  rw [kd (AE (.inr rfl)),rW (iV e8 _ _),kd (w1 (p:=",") (by simp)),rW (iW iz _ _),kd (AF (.inr rfl) (k:=.tup [.str "both", a,b]) ?_)]
  ·rfl
  ·rfl
 | @way ps k y h8 aN hV aO=>
  intro dR t st
  have k1:∀ d∈ps.map (·.1),bx d:=by cases dR;assumption
  have k2:bx k:=by cases dR;assumption
  have af:=ML ps (λ p ah=>hV p ah (k1 _ (sw ah)));rw [kd (AE (.inl rfl)),rW (af _ _),kd (w1 (p:=":") (by simp)),rW (aO k2 _ _),kd (AF (.inl rfl) (k:=.tup [.str "way", .tup (ps.map (·.1)),k]) ?_)]
  ·rfl
  ·have e:[D.str "["]++nR (ps.map (·.1))++[.str ":"]++[k]=.str "["::(nR (ps.map (·.1))++[.str ":", k]):=by simp
   rw [e]
   have b6:hB (.str "["::(nR (ps.map (·.1))++[.str ":", k])) "]" = qi (nR (ps.map (·.1))++[.str ":", k]):=by
    simp only [hB];rw [if_pos (by decide +kernel)]
   rw [b6,Ei];obtain ⟨aC,aG⟩:=LQ (ps.map (·.1));rw [aC,aG,if_pos ⟨by decide +kernel,LT _ _⟩]
theorem MN{ps:List Str}{d:D}(k:eb d):eC [[]] ps=some [[d]] ↔ dW d ps:=
 ⟨Em,λ h=>by have:=YR h k.e9 [] [];exact this⟩
end L3
namespace L3
open PySem L2
def eN(c:Nat):Bool:=c==45||(decide (48<=c)&&decide (c<=57))
def h9(P:List Nat->Option (D × List Nat)):Nat->List D->List Nat->Option (List D × List Nat)
 | 0,_,_=>none
 | m+1,acc,r=>if r.head?=some 58 then some (acc,r.tail) else if acc.isEmpty=true then (match P r with
  | some (d,bp)=>h9 P m (acc++[d]) bp
  | none=>none) else if r.head?=some 32 then (match P r.tail with
  | some (d,bp)=>h9 P m (acc++[d]) bp
  | none=>none) else none
def cU:Nat->List Nat->Option (D × List Nat)
 | 0,_=>none
 | n+1,r=>if r.head?=some 126 then some (.tup [.str "some"],r.tail) else if r.head?=some 91 then (match h9 (cU n) (r.length+1) [] r.tail with
  | some (ds,aT)=>(match cU n aT with
   | some (k,a0)=>if a0.head?=some 93/\gO ds=true then some (.tup [.str "way", .tup ds,k],a0.tail) else none
   | none=>none)
  | none=>none) else if r.head?=some 40 then (if r.tail.head?=some 44 then (match cU n r.tail.tail with
   | some (k,a0)=>if a0.head?=some 41 then some (.tup [.str "right", k],a0.tail) else none
   | none=>none) else (match cU n r.tail with
   | some (a,a0)=>if a0.head?=some 44 then (if a0.tail.head?=some 41 then some (.tup [.str "left", a],a0.tail.tail) else (match cU n a0.tail with
    | some (b,hH)=>if hH.head?=some 41/\g5 a=true/\g5 b=true then some (.tup [.str "both", a,b],hH.tail) else none
    | none=>none)) else none
   | none=>none)) else if fh (cH (r.takeWhile eN))=true then some (.tup [.str "is", .int (ln (cH (r.takeWhile eN)))],r.dropWhile eN) else none
theorem jD{l:List Nat}{c:Nat}(h:l.head?=some c):l=c::l.tail:=by
 cases l with
 | nil=>cases h
 | cons a r=>cases h;rfl
def df(xs:List (List Str)):List Str:=(xs.map λ x=>(" " : Str)::x).flatten
theorem l1(x:List Str):∀ xs:List (List Str),c4 (" " : Str) (x::xs)=x++df xs
 | []=>by simp [c4,df]
 | y::aD=>by
  rw [c4,l1 y aD];simp [df]
theorem bu:(∀ s∈([("~", 126),("[", 91),("]", 93),("(", 40),(")", 41),(",", 44),(":", 58),(" ", 32)]:List (Str × Nat)),s.1.cps.toList=[s.2]):=by decide +kernel
theorem hW:(("(" : String):Str).cps.toList=[40]:=by decide +kernel
theorem iX:((")" : String):Str).cps.toList=[41]:=by decide +kernel
theorem iY:(("," : String):Str).cps.toList=[44]:=by decide +kernel
theorem tV:((":" : String):Str).cps.toList=[58]:=by decide +kernel
theorem rX:(("[" : String):Str).cps.toList=[91]:=by decide +kernel
theorem tW:(("]" : String):Str).cps.toList=[93]:=by decide +kernel
def MO(P:List Nat->Option (D × List Nat)):Prop:=∀ r d bp,P r=some (d,bp)->eb d/\∃ x,dW d x/\r=cat x++bp
theorem AG{P:List Nat->Option (D × List Nat)}(e5:MO P):∀(m:Nat)(acc:List D)(r:List Nat)(ds:List D)(bp:List Nat),h9 P m acc r=some (ds,bp)->∃ ps:List (D × List Str),ds=acc++ps.map (·.1)/\(∀ p∈ps,eb p.1/\dW p.1 p.2)/\r=cat (if acc.isEmpty=true then c4 (" " : Str) (ps.map (·.2)) else df (ps.map (·.2)))++58::bp
 | 0,_,_,_,_,e=>by cases e
 | m+1,acc,r,ds,bp,e=>by
  rw [h9] at e;split at e
  ·next h=>
   cases e;refine ⟨[],by simp,λ p ah=>absurd ah eV,?_⟩;have:=jD h;split<;>simpa [c4,df,cat] using this
  ·split at e
   ·next ae ag=>
    cases dY:P r with
    | none=>rw [dY] at e;cases e
    | some u=>
     obtain ⟨d,aT⟩:=u;rw [dY] at e;obtain ⟨gP,x,o6,gx⟩:=e5 r d aT dY;obtain ⟨ps,aC,aG,e3⟩:=AG e5 m (acc++[d]) aT ds bp e;refine ⟨(d,x)::ps,by rw [aC];simp,λ p ah=>?_,?_⟩
     ·rcases cC.mp ah with rfl | ah
      ·exact ⟨gP,o6⟩
      ·exact aG p ah
     ·rw [if_pos ag,dF,l1,dm,gx];rw [if_neg (by simp)] at e3;rw [e3,db]
   ·split at e
    ·next ae ag aR=>
     cases dY:P r.tail with
     | none=>rw [dY] at e;cases e
     | some u=>
      obtain ⟨d,aT⟩:=u;rw [dY] at e;obtain ⟨gP,x,o6,gx⟩:=e5 r.tail d aT dY;obtain ⟨ps,aC,aG,e3⟩:=AG e5 m (acc++[d]) aT ds bp e;refine ⟨(d,x)::ps,by rw [aC];simp,λ p ah=>?_,?_⟩
      ·rcases cC.mp ah with rfl | ah
       ·exact ⟨gP,o6⟩
       ·exact aG p ah
      ·rw [if_neg (by simp)] at e3
       have es:cat (df (((d,x)::ps).map (·.2)))=32::(cat x++cat (df (ps.map (·.2)))):=by
        rw [show df (((d,x)::ps).map (·.2))=((" " : Str)::x)++df (ps.map (·.2)) by simp [df],dm,cat,bu (" ", 32) (by simp)];rfl
       rw [if_neg ag,es,jD aR,gx,e3];simp
    ·cases e
theorem w2:∀ n:Nat,MO (cU n)
 | 0,r,d,bp,e=>by cases e
 | n+1,r,d,bp,e=>by
  have aO:=w2 n;rw [cU] at e;split at e
  ·next h=>cases e;exact ⟨.some,["~"],.some,by rw [cat,cat,bu ("~", 126) (by simp),dD];exact jD h⟩
  ·split at e
   ·next _ h=>
    cases gl:h9 (cU n) (r.length+1) [] r.tail with
    | none=>rw [gl] at e;cases e
    | some u=>
     obtain ⟨ds,aT⟩:=u;rw [gl] at e;simp only at e
     cases hU:cU n aT with
     | none=>rw [hU] at e;cases e
     | some v=>
      obtain ⟨k,a0⟩:=v;rw [hU] at e;simp only at e;split at e
      ·next ai=>
       cases e;obtain ⟨ps,rfl,aG,e3⟩:=AG aO _ _ _ _ _ gl;obtain ⟨dR,y,ty,tX⟩:=aO _ _ _ hU;rw [jo] at ai ⊢;refine ⟨.way (λ d hd=>?_) ai.2 dR,_,.way (λ p ah=>(aG p ah).2) ty,?_⟩
       ·obtain ⟨p,ah,rfl⟩:=jK.mp hd;exact (aG p ah).1
       ·rw [if_pos (show ([]:List D).isEmpty=true from rfl)] at e3;rw [jD h,e3,tX,jD ai.1];simp [cat,dm,rX,tV,tW]
      ·cases e
   ·split at e
    ·next _ _ h=>
     split at e
     ·next ag=>
      cases hU:cU n r.tail.tail with
      | none=>rw [hU] at e;cases e
      | some v=>
       obtain ⟨k,a0⟩:=v;rw [hU] at e;simp only at e;split at e
       ·next ai=>
        cases e;obtain ⟨dR,y,ty,tX⟩:=aO _ _ _ hU;refine ⟨.right dR,_,.right ty,?_⟩;rw [jD h,jD ag,tX,jD ai];simp [cat,dm,hW,iY,iX]
       ·cases e
     ·cases hU:cU n r.tail with
      | none=>rw [hU] at e;cases e
      | some v=>
       obtain ⟨a,a0⟩:=v;rw [hU] at e;simp only at e;obtain ⟨e8,y,bb,tX⟩:=aO _ _ _ hU;split at e
       ·next aR=>
        split at e
        ·next bB=>
         cases e;refine ⟨.left e8,_,.left bb,?_⟩;rw [jD h,tX,jD aR,jD bB];simp [cat,dm,hW,iY,iX]
        ·cases Eo:cU n a0.tail with
         | none=>rw [Eo] at e;cases e
         | some v=>
          obtain ⟨b,hH⟩:=v;rw [Eo] at e;simp only at e;split at e
          ·next ai=>
           cases e;obtain ⟨iz,JS,bF,YS⟩:=aO _ _ _ Eo;refine ⟨.both e8 iz ai.2.1 ai.2.2,_,.both bb bF,?_⟩;rw [jD h,tX,jD aR,YS,jD ai.1];simp [cat,dm,hW,iY,iX]
          ·cases e
       ·cases e
    ·split at e
     ·next hf=>
      cases e;refine ⟨.is _,_,.is _ hf,?_⟩;rw [cat,cat,dD,gd,List.takeWhile_append_dropWhile]
     ·cases e
end L3
namespace L3
open PySem L2
def nest:List Nat->Nat
 | []=>0
 | c::r=>if c=91\/c=40 then nest r+1 else if c=93\/c=41 then nest r - 1 else nest r
theorem h_{c:Nat}(h:c=91\/c=40)(r:List Nat):nest (c::r)=nest r+1:=by rw [nest,if_pos h]
theorem o7{c:Nat}(h:c=93\/c=41)(r:List Nat):nest (c::r)=nest r - 1:=by rw [nest,if_neg (by omega),if_pos h]
theorem hl{c:Nat}(h:c≠91/\c≠40/\c≠93/\c≠41)(r:List Nat):nest (c::r)=nest r:=by rw [nest,if_neg (by omega),if_neg (by omega)]
theorem Ep:∀{l:List Nat},(∀ c∈l,c=45\/48<=c/\c<=57)->∀ r,nest (l++r)=nest r
 | [],_,r=>rfl
 | c::l,h,r=>by
  have ai:=h c (bT ..);rw [eF,hl (by omega),Ep (λ d hd=>h d (bY _ hd)) r]
def o8(ps:List (D × List Str)):Nat:=ps.foldr (λ p n=>max (nest (cat p.2)) n) 0
theorem MP{ps:List (D × List Str)}{p:D × List Str}(h:p∈ps):nest (cat p.2)<=o8 ps:=by
 induction ps with
 | nil=>cases h
 | cons q ps aO=>
  unfold o8;rw [List.foldr_cons];rcases cC.mp h with rfl | h
  ·exact Nat.le_max_left ..
  ·exact gF (aO h) (Nat.le_max_right ..)
theorem MQ:∀(ps:List (D × List Str)),(∀ p∈ps,∀ r,nest (cat p.2++r)=max (nest (cat p.2)) (nest r))->∀ r,nest (cat (df (ps.map (·.2)))++r)=max (o8 ps) (nest r)
 | [],_,r=>by simp [df,cat,o8]
 | p::ps,h,r=>by
  have aO:=MQ ps (λ q bc=>h q (bY _ bc)) r
  have es:cat (df ((p::ps).map (·.2)))=32::(cat p.2++cat (df (ps.map (·.2)))):=by
   rw [show df ((p::ps).map (·.2))=((" " : Str)::p.2)++df (ps.map (·.2)) by simp [df],dm,cat,bu (" ", 32) (by simp)];rfl
  rw [es,eF,hl (by omega),db,h p (bT ..),aO];show _=max (max (nest (cat p.2)) (o8 ps)) (nest r);omega
theorem Er:∀(ps:List (D × List Str)),(∀ p∈ps,∀ r,nest (cat p.2++r)=max (nest (cat p.2)) (nest r))->∀ r,nest (cat (c4 (" " : Str) (ps.map (·.2)))++r)=max (o8 ps) (nest r)
 | [],_,r=>by simp [c4,cat,o8]
 | p::ps,h,r=>by
  rw [dF,l1,dm,db,h p (bT ..),MQ ps (λ q bc=>h q (bY _ bc)) r];show _=max (max (nest (cat p.2)) (o8 ps)) (nest r);omega
theorem MR{p:Str}(h:mV p=true):∀ c∈p.cps.toList,c=32\/c=58\/c=44:=by
 unfold mV at h;obtain ⟨i,ae,ag⟩:=(PySem.StrLaws.found_iff _ _).mp h;unfold Builtin.Str.subAt at ag;have ag:=eq_of_beq ag;have el:=congrArg yl ag;intro c ai
 have m:c∈((" :," : String):Str).cps.toList:=by
  have:c∈(((" :," : String):Str).cps.extract i (i+p.length)).toList:=by rw [el];exact ai
  rw [uV] at this;exact pD (ya this)
 have aN:∀ c∈((" :," : String):Str).cps.toList,c=32\/c=58\/c=44:=by decide +kernel
 exact aN c m
theorem w3:∀{l:List Nat},(∀ c∈l,c≠91/\c≠40/\c≠93/\c≠41)->∀ r,nest (l++r)=nest r
 | [],_,r=>rfl
 | c::l,h,r=>by
  rw [eF,hl (h c (bT ..)),w3 (λ d hd=>h d (bY _ hd)) r]
theorem ql{d:D}{x:List Str}(h:dW d x):∀ r,nest (cat x++r)=max (nest (cat x)) (nest r):=by
 induction h with
 | str p ah=>
  intro r;have ai:=MR ah
  have e:cat [p]=p.cps.toList:=by rw [cat,cat,dD]
  have ag:=w3 (λ c hZ=>by have:=ai c hZ;omega) [];rw [dD] at ag;rw [e,w3 (λ c hZ=>by have:=ai c hZ;omega),ag];simp [nest]
 | some=>
  intro r
  have e:cat ["~"]=[126]:=by rw [cat,cat,bu ("~", 126) (by simp)];rfl
  rw [e,nc,hl (by omega)];simp [nest]
 | is p ah=>
  intro r;have ai:=(tU ah).1
  have e:cat [p]=p.cps.toList:=by rw [cat,cat,dD]
  have:=Ep ai [];rw [dD] at this;rw [e,Ep ai,this];simp [nest]
 | @left a x ax aO=>
  intro r
  have e:∀ r,cat (("(" : Str)::(x++[(",":Str),(")":Str)]))++r=40::(cat x++44::41::r):=λ r=>by simp [cat,dm,hW,iY,iX]
  have b6:=e [];rw [dD] at b6
  have dt:∀ r,nest (44::41::r)=nest r - 1:=λ r=>by rw [hl (c:=44) (by omega),o7 (.inr rfl)]
  have ck:nest []=0:=rfl;rw [e,b6,h_ (.inr rfl),h_ (.inr rfl),aO,aO,dt,dt,ck];omega
 | @right a x ax aO=>
  intro r
  have e:∀ r,cat (("(" : Str)::("," : Str)::(x++[(")":Str)]))++r=40::44::(cat x++41::r):=λ r=>by simp [cat,dm,hW,iY,iX]
  have b6:=e [];rw [dD] at b6;rw [e,b6,h_ (.inr rfl),h_ (.inr rfl),hl (by omega),hl (by omega),aO,aO,o7 (.inr rfl),o7 (.inr rfl)];simp only [nest];omega
 | @both a b x y ax af iV iW=>
  intro r
  have e:∀ r,cat (("(" : Str)::(x++("," : Str)::(y++[(")":Str)])))++r=40::(cat x++44::(cat y++41::r)):=λ r=>by simp [cat,dm,hW,iY,iX]
  have b6:=e [];rw [dD] at b6;rw [e,b6,h_ (.inr rfl),h_ (.inr rfl),iV,iV,hl (by omega),hl (by omega),iW,iW,o7 (.inr rfl),o7 (.inr rfl)];simp only [nest];omega
 | @way ps k y h8 aN hV aO=>
  intro r;have af:=Er ps hV
  have e:∀ r,cat (("[" : Str)::(c4 (" " : Str) (ps.map (·.2))++(":" : Str)::(y++[("]" : Str)])))++r=91::(cat (c4 (" " : Str) (ps.map (·.2)))++58::(cat y++93::r)):=λ r=>by simp [cat,dm,rX,tV,tW]
  have b6:=e [];rw [dD] at b6;rw [e,b6,h_ (.inl rfl),h_ (.inl rfl),af,af,hl (by omega),hl (by omega),aO,aO,o7 (.inl rfl),o7 (.inl rfl)];simp only [nest];omega
theorem qm{d:D}{x:List Str}(h:dW d x)(_:bx d):∀ r,nest (cat x++r)=max (nest (cat x)) (nest r):=ql h
end L3
namespace L3
open PySem L2
def tY(r:List Nat):Prop:=∀ c,r.head?=some c->eN c=false
theorem rY{c:Nat}{r:List Nat}(h:eN c=false):tY (c::r):=λ d e=>by cases e;exact h
theorem YT{l r:List Nat}(h:∀ c∈l,eN c=true)(ao:tY r):(l++r).takeWhile eN=l/\(l++r).dropWhile eN=r:=by
 induction l with
 | nil=>
  cases r with
  | nil=>exact ⟨rfl,rfl⟩
  | cons c r=>
   have:=ao c rfl;simp [this]
 | cons c l aO=>
  obtain ⟨cG,c7⟩:=aO λ d hd=>h d (bY _ hd);have ai:=h c (bT ..);rw [eF,List.takeWhile_cons_of_pos ai,List.dropWhile_cons_of_pos ai,cG,c7];exact ⟨rfl,rfl⟩
theorem tZ{d:D}{x:List Str}(h:dW d x)(k:bx d):∃ c t,cat x=c::t/\(c=126\/c=91\/c=40\/c=45\/48<=c/\c<=57):=by
 cases h with
 | str p=>cases k
 | some=>exact ⟨126,[],by rw [cat,cat,bu ("~", 126) (by simp)];rfl,.inl rfl⟩
 | is p ah=>
  obtain ⟨ae,ag⟩:=tU ah
  cases e:p.cps.toList with
  | nil=>exact absurd e ag
  | cons c r=>exact ⟨c,r,by rw [cat,cat,dD,e],by have:=ae c (by rw [e];exact bT ..);omega⟩
 | left _=>exact ⟨40,_,by rw [cat,hW];rfl,by simp⟩
 | right _=>exact ⟨40,_,by rw [cat,hW];rfl,by simp⟩
 | both _ _=>exact ⟨40,_,by rw [cat,hW];rfl,by simp⟩
 | way _ _=>exact ⟨91,_,by rw [cat,rX];rfl,by simp⟩
theorem nU(x:List Str)(xs:List (List Str)):cat (df (x::xs))=32::(cat x++cat (df xs)):=by
 rw [show df (x::xs)=((" " : Str)::x)++df xs by simp [df],dm,cat,bu (" ", 32) (by simp)];rfl
theorem MS:∀ xs:List (List Str),xs.length<=(cat (df xs)).length
 | []=>ef _
 | x::xs=>by
  have:=MS xs;rw [nU];simp only [bR,dE];omega
theorem MT(xs:List (List Str))(r:List Nat):tY (cat (df xs)++58::r):=by
 cases xs with
 | nil=>exact rY (by decide)
 | cons x xs=>rw [nU];exact rY (by decide)
theorem MU{P:List Nat->Option (D × List Nat)}:∀(ps:List (D × List Str)),(∀ p∈ps,∀ r,tY r->P (cat p.2++r)=some (p.1,r))->∀(m:Nat)(acc:List D)(r:List Nat),ps.length < m->acc.isEmpty=false->h9 P m acc (cat (df (ps.map (·.2)))++58::r)=some (acc++ps.map (·.1),r)
 | _,_,0,_,_,h,_=>by omega
 | [],_,m+1,acc,r,_,_=>by
  rw [sm,show cat (df [])=[] from rfl,jo,h9,if_pos (by rfl)];simp
 | p::ps,h,m+1,acc,r,hm,ax=>by
  have aO:=MU ps (λ q bc=>h q (bY _ bc)) m (acc++[p.1]) r (by simp at hm;omega) (by simp);rw [dF,nU,eF,h9,if_neg (by simp),if_neg (by rw [ax];decide),if_pos (by rfl)]
  show (match P (cat p.2++cat (df (ps.map (·.2)))++58::r) with
   | some (d,bp)=>h9 P m (acc++[d]) bp
   | none=>none)=_
  rw [db,h p (bT ..) _ (MT _ _)];simp only;rw [aO];simp
theorem YU{P:List Nat->Option (D × List Nat)}(ps:List (D × List Str))(h:∀ p∈ps,(∀ r,tY r->P (cat p.2++r)=some (p.1,r))/\∃ c t,cat p.2=c::t/\c≠58)(m:Nat)(r:List Nat)(hm:ps.length < m):h9 P m [] (cat (c4 (" " : Str) (ps.map (·.2)))++58::r)=some (ps.map (·.1),r):=by
 cases m with
 | zero=>omega
 | succ m=>
  cases ps with
  | nil=>rw [sm,show cat (c4 (" " : Str) [])=[] from rfl,jo,h9,if_pos (by rfl)];rfl
  | cons p ps=>
   obtain ⟨ae,c,t,kL,ai⟩:=h p (bT ..);have aO:=MU ps (λ q bc=>(h q (bY _ bc)).1) m [p.1] r (by simp at hm;omega) rfl;rw [dF,l1,dm,h9,if_neg (by rw [kL];simpa using ai),if_pos (show ([]:List D).isEmpty=true from rfl),db,ae _ (MT _ _)];simp only [jo];rw [aO];rfl
theorem YV{ps:List (D × List Str)}(h:∀ p∈ps,∃ c t,cat p.2=c::t):ps.length<=(cat (c4 (" " : Str) (ps.map (·.2)))).length:=by
 cases ps with
 | nil=>exact ef _
 | cons p ps=>
  obtain ⟨c,t,e⟩:=h p (bT ..);have:=MS (ps.map (·.2));rw [er] at this;rw [dF,l1,dm,e];simp only [dE,bR];omega
theorem YW{d:D}{x:List Str}(h:dW d x):eb d->∀ n,nest (cat x) < n->∀ r,tY r->cU n (cat x++r)=some (d,r):=by
 induction h with
 | str p=>intro k;cases k
 | some=>
  intro _ n aH r ao
  cases n with
  | zero=>omega
  | succ n=>
   rw [show cat ["~"]=[126] by rw [cat,cat,bu ("~", 126) (by simp)];rfl,cU,if_pos (by rfl)];rfl
 | is p ah=>
  intro _ n aH r ao
  cases n with
  | zero=>omega
  | succ n=>
   obtain ⟨ae,ag⟩:=tU ah
   have q0:∀ c∈p.cps.toList,eN c=true:=λ c ai=>by
    have:=ae c ai;unfold eN;simp;omega
   obtain ⟨t1,dz⟩:=YT q0 ao
   have b6:cat [p]=p.cps.toList:=by rw [cat,cat,dD]
   have d8:∀ c,(p.cps.toList++r).head?=some c->c=45\/48<=c/\c<=57:=λ c e=>by
    cases dY:p.cps.toList with
    | nil=>exact absurd dY ag
    | cons a l=>rw [dY] at e;cases e;exact ae c (by rw [dY];exact bT ..)
   rw [b6,cU,if_neg (λ e=>by have:=d8 _ e;omega),if_neg (λ e=>by have:=d8 _ e;omega),if_neg (λ e=>by have:=d8 _ e;omega),t1,dz,if_pos (show fh (cH p.cps.toList)=true from ah)];rfl
 | @left a x ax aO=>
  intro k n aH r ao
  have e8:eb a:=by cases k;assumption
  have e:∀ r,cat (("(" : Str)::(x++[(",":Str),(")":Str)]))++r=40::(cat x++44::41::r):=λ r=>by simp [cat,dm,hW,iY,iX]
  have b6:=e [];rw [dD] at b6;rw [b6,h_ (.inr rfl),qm ax e8.e9] at aH;obtain ⟨c,t,kL,ai⟩:=tZ ax e8.e9
  cases n with
  | zero=>omega
  | succ n=>
   rw [e,cU,if_neg (by simp),if_neg (by simp),if_pos (by rfl),lA,if_neg (by rw [kL];simp;omega),aO e8 n (by omega) _ (rY (by decide))];simp
 | @right a x ax aO=>
  intro k n aH r ao
  have e8:eb a:=by cases k;assumption
  have e:∀ r,cat (("(" : Str)::("," : Str)::(x++[(")":Str)]))++r=40::44::(cat x++41::r):=λ r=>by simp [cat,dm,hW,iY,iX]
  have b6:=e [];rw [dD] at b6;rw [b6,h_ (.inr rfl),hl (c:=44) (by omega),qm ax e8.e9] at aH
  cases n with
  | zero=>omega
  | succ n=>
   rw [e,cU,if_neg (by simp),if_neg (by simp),if_pos (by rfl),lA,if_pos (by rfl),lA,aO e8 n (by omega) _ (rY (by decide))];simp
 | @both a b x y ax af iV iW=>
  intro k n aH r ao
  obtain ⟨e8,iz,YX,c_⟩:eb a/\eb b/\g5 a=true/\g5 b=true:=by cases k;exact ⟨by assumption,by assumption,by assumption,by assumption⟩
  have e:∀ r,cat (("(" : Str)::(x++("," : Str)::(y++[(")":Str)])))++r=40::(cat x++44::(cat y++41::r)):=λ r=>by simp [cat,dm,hW,iY,iX]
  have b6:=e [];rw [dD] at b6;rw [b6,h_ (.inr rfl),qm ax e8.e9,hl (c:=44) (by omega),qm af iz.e9] at aH;obtain ⟨c,t,kL,ai⟩:=tZ ax e8.e9;obtain ⟨fE,t',YY,vb⟩:=tZ af iz.e9
  cases n with
  | zero=>omega
  | succ n=>
   rw [e,cU,if_neg (by simp),if_neg (by simp),if_pos (by rfl),lA,if_neg (by rw [kL];simp;omega),iV e8 n (by omega) _ (rY (by decide))]
   dsimp only
   rw [if_pos (show (44::(cat y++41::r)).head?=some 44 from rfl),if_neg (show ¬ (44::(cat y++41::r)).tail.head?=some 41 by rw [lA,YY];simp;omega),lA,iW iz n (by omega) _ (rY (by decide))];simp [YX,c_]
 | @way ps k y h8 aN hV aO=>
  intro dR n aH r ao
  obtain ⟨k1,ks,k2⟩:(∀ d∈ps.map (·.1),eb d)/\gO (ps.map (·.1))=true/\eb k:=by cases dR;exact ⟨by assumption,by assumption,by assumption⟩
  have e:∀ r,cat (("[" : Str)::(c4 (" " : Str) (ps.map (·.2))++(":" : Str)::(y++[("]" : Str)])))++r=91::(cat (c4 (" " : Str) (ps.map (·.2)))++58::(cat y++93::r)):=λ r=>by simp [cat,dm,rX,tV,tW]
  have b6:=e [];rw [dD] at b6;have dr:∀ p∈ps,eb p.1:=λ p ah=>k1 _ (sw ah);rw [b6,h_ (.inl rfl),Er ps (λ p ah=>qm (h8 p ah) (dr p ah).e9),hl (c:=58) (by omega),qm aN k2.e9] at aH
  cases n with
  | zero=>omega
  | succ n=>
   have hlen:=YV (ps:=ps) λ p ah=>let ⟨c,t,e,_⟩:=tZ (h8 p ah) (dr p ah).e9;⟨c,t,e⟩
   have af:=YU (P:=cU n) ps (λ p ah=>⟨λ r ao=>hV p ah (dr p ah) n (by have:=MP ah;omega) r ao,by
    obtain ⟨c,t,e,ai⟩:=tZ (h8 p ah) (dr p ah).e9
    exact ⟨c,t,e,by omega⟩⟩) ((91::(cat (c4 (" " : Str) (ps.map (·.2)))++58::(cat y++93::r))).length+1) (cat y++93::r) (by simp only [bR,dE];omega)
   rw [e,cU,if_neg (by simp),if_pos (by rfl),lA,af];simp only;rw [aO k2 n (by omega) _ (rY (by decide))];simp [ks]
end L3
namespace L3
open PySem L2
theorem AH(S:List Nat):∀(l cur:List Nat),cat (cQ S cur l)=cur++l
 | [],cur=>by
  rw [cQ];split
  ·next h=>rw [h];rfl
  ·rw [cat,cat,gd]
 | c::r,cur=>by
  rw [cQ];split
  ·have aO:=AH S r [];rw [dm,cat,gd,aO];split
   ·next h=>rw [h];rfl
   ·rw [cat,cat,gd];simp
  ·rw [AH S r (cur++[c])];simp
theorem MV:(∀ s∈([("~", 126),("[", 91),("]", 93),("(", 40),(")", 41),(",", 44),(":", 58),(" ", 32)]:List (Str × Nat)),cH [s.2]=s.1/\s.2∈cR):=by decide +kernel
theorem kM{p:Str}{c:Nat}(h:(p,c)∈([("~", 126),("[", 91),("]", 93),("(", 40),(")", 41),(",", 44),(":", 58),(" ", 32)]:List (Str × Nat)))(r:List Nat):cQ cR [] (c::r)=p::cQ cR [] r:=by
 obtain ⟨ae,ag⟩:=MV (p,c) h;rw [DO ag];exact congrArg (·::cQ cR [] r) ae
theorem rZ{p:Str}{c:Nat}(h:(p,c)∈([("~", 126),("[", 91),("]", 93),("(", 40),(")", 41),(",", 44),(":", 58),(" ", 32)]:List (Str × Nat)))(r:List Nat):oZ cR (c::r):=.inr ⟨c,r,rfl,(MV (p,c) h).2⟩
theorem MW:∀(ps:List (D × List Str)),(∀ p∈ps,∀ r,oZ cR r->cQ cR [] (cat p.2++r)=p.2++cQ cR [] r)->∀ r,oZ cR r->cQ cR [] (cat (df (ps.map (·.2)))++r)=df (ps.map (·.2))++cQ cR [] r/\oZ cR (cat (df (ps.map (·.2)))++r)
 | [],_,r,ao=>⟨rfl,ao⟩
 | p::ps,h,r,ao=>by
  obtain ⟨cG,c7⟩:=MW ps (λ q bc=>h q (bY _ bc)) r ao;rw [dF,nU,eF,kM (p:=" ") (by simp),db,h p (bT ..) _ c7,cG];exact ⟨by simp [df],rZ (p:=" ") (by simp) _⟩
theorem YZ{d:D}{x:List Str}(h:dW d x):bx d->∀ r,oZ cR r->cQ cR [] (cat x++r)=x++cQ cR [] r:=by
 induction h with
 | str p=>intro k;cases k
 | some=>
  intro _ r ao;rw [show cat ["~"]=[126] by rw [cat,cat,bu ("~", 126) (by simp)];rfl,nc,kM (p:="~") (by simp)];rfl
 | is p ah=>
  intro _ r ao;obtain ⟨ae,ag⟩:=tU ah
  have ew:∀ c∈p.cps.toList,c ∉ cR:=λ c ai m=>by
   have:=ae c ai
   have aN:∀ c∈cR,¬ (c=45\/48<=c/\c<=57):=by decide
   exact aN c m this
  have:=DP ao p.cps.toList [] ew (by simpa using ag);rw [show cat [p]=p.cps.toList by rw [cat,cat,dD],this];rfl
 | @left a x ax aO=>
  intro k r ao
  have e8:bx a:=by cases k;assumption
  have e:∀ r,cat (("(" : Str)::(x++[(",":Str),(")":Str)]))++r=40::(cat x++44::41::r):=λ r=>by simp [cat,dm,hW,iY,iX]
  rw [e,kM (p:="(") (by simp),aO e8 _ (rZ (p:=",") (by simp) _),kM (p:=",") (by simp),kM (p:=")") (by simp)];simp
 | @right a x ax aO=>
  intro k r ao
  have e8:bx a:=by cases k;assumption
  have e:∀ r,cat (("(" : Str)::("," : Str)::(x++[(")":Str)]))++r=40::44::(cat x++41::r):=λ r=>by simp [cat,dm,hW,iY,iX]
  rw [e,kM (p:="(") (by simp),kM (p:=",") (by simp),aO e8 _ (rZ (p:=")") (by simp) _),kM (p:=")") (by simp)];simp
 | @both a b x y ax af iV iW=>
  intro k r ao
  have e8:bx a:=by cases k;assumption
  have iz:bx b:=by cases k;assumption
  have e:∀ r,cat (("(" : Str)::(x++("," : Str)::(y++[(")":Str)])))++r=40::(cat x++44::(cat y++41::r)):=λ r=>by simp [cat,dm,hW,iY,iX]
  rw [e,kM (p:="(") (by simp),iV e8 _ (rZ (p:=",") (by simp) _),kM (p:=",") (by simp),iW iz _ (rZ (p:=")") (by simp) _),kM (p:=")") (by simp)];simp
 | @way ps k y h8 aN hV aO=>
  intro dR r ao
  have k1:∀ d∈ps.map (·.1),bx d:=by cases dR;assumption
  have k2:bx k:=by cases dR;assumption
  have e:∀ r,cat (("[" : Str)::(c4 (" " : Str) (ps.map (·.2))++(":" : Str)::(y++[("]" : Str)])))++r=91::(cat (c4 (" " : Str) (ps.map (·.2)))++58::(cat y++93::r)):=λ r=>by simp [cat,dm,rX,tV,tW]
  have af:∀ r,oZ cR r->cQ cR [] (cat (c4 (" " : Str) (ps.map (·.2)))++r)=c4 (" " : Str) (ps.map (·.2))++cQ cR [] r:=by
   intro r ao
   cases ps with
   | nil=>rfl
   | cons p ps=>
    have ah:=λ q bc=>hV q bc (k1 _ (sw bc));obtain ⟨cG,c7⟩:=MW ps (λ q bc=>ah q (bY _ bc)) r ao;rw [dF,l1,dm,db,ah p (bT ..) _ c7,cG,db]
  rw [e,kM (p:="[") (by simp),af _ (rZ (p:=":") (by simp) _),kM (p:=":") (by simp),aO k2 _ (rZ (p:="]") (by simp) _),kM (p:="]") (by simp)];simp
theorem AI{l:List Nat}{n:Nat}(aH:nest l < n)(d:D):(eC [[]] (cQ cR [] l)=some [[d]]/\eb d) ↔ cU n l=some (d,[]):=by
 constructor
 ·rintro ⟨h,k⟩;have t:=Em h;have e:=AH cR l [];rw [jo] at e;have:=YW t k n (by rw [e];exact aH) [] (λ c ai=>by cases ai);rw [dD,e] at this;exact this
 ·intro h;obtain ⟨k,x,t,e⟩:=w2 n l d [] h;rw [dD] at e;have p:=YZ t k.e9 [] (.inl rfl);rw [dD,show cQ cR [] []=[] from rfl,dD] at p;rw [e,p];exact ⟨(MN k).mpr t,k⟩
end L3
namespace L3
open PySem L2
def t2(n:Nat)(r:List Nat):Option (D × List Nat):=match h9 (cU n) (r.length+2) [] r with
 | some (ds,aT)=>(match cU n aT with
  | some (k,a0)=>if a0.head?=some 93/\gO ds=true then some (.tup [.str "way", .tup ds,k],a0.tail) else none
  | none=>none)
 | none=>none
def t3(n:Nat)(r:List Nat):Option (D × List Nat):=if r.head?=some 44 then (match cU n r.tail with
 | some (k,a0)=>if a0.head?=some 41 then some (.tup [.str "right", k],a0.tail) else none
 | none=>none) else (match cU n r with
 | some (a,a0)=>if a0.head?=some 44 then (if a0.tail.head?=some 41 then some (.tup [.str "left", a],a0.tail.tail) else (match cU n a0.tail with
  | some (b,hH)=>if hH.head?=some 41/\g5 a=true/\g5 b=true then some (.tup [.str "both", a,b],hH.tail) else none
  | none=>none)) else none
 | none=>none)
def w4(r:List Nat):Option (D × List Nat):=if fh (cH (r.takeWhile eN))=true then some (.tup [.str "is", .int (ln (cH (r.takeWhile eN)))],r.dropWhile eN) else none
theorem Y0(n:Nat)(r:List Nat):cU (n+1) (91::r)=t2 n r:=by rw [cU,if_neg (by simp),if_pos (by rfl)];rfl
theorem Y1(n:Nat)(r:List Nat):cU (n+1) (40::r)=t3 n r:=by rw [cU,if_neg (by simp),if_neg (by simp),if_pos (by rfl)];rfl
theorem Y2(n:Nat)(r:List Nat):cU (n+1) (126::r)=some (.tup [.str "some"],r):=by rw [cU,if_pos (by rfl)];rfl
theorem Y3(n:Nat)(r:List Nat)(h:r.head?≠some 126/\r.head?≠some 91/\r.head?≠some 40):cU (n+1) r=w4 r:=by rw [cU,if_neg h.1,if_neg h.2.1,if_neg h.2.2];rfl
def ia(len:Nat):Option (D × List Nat)->D
 | none=>.a9
 | some (d,r)=>.tup [d,.int ((len:Int) - (r.length:Int))]
def Es:fJ:=λ ds G Q=>∃(z:Str)(a:Nat),ds=[.str z,.int a]/\a<=z.length/\z.length<=50000/\((z.cps.toList.drop a).takeWhile eN).length<=1000/\Q (ia z.length (w4 (z.cps.toList.drop a))) G
def AJ(l:List Nat):Prop:=(∀ b,((l.drop b).takeWhile eN).length<=1000)/\(∀ m b ds r,h9 (cU m) ((l.drop b).length+2) [] (l.drop b)=some (ds,r)->ds.length<=63)/\∀ b,nest (l.drop b)<=60
def l2(P:List Nat->Option (D × List Nat))(n:Nat):fJ:=λ ds G Q=>∃(z:Str)(a:Nat),ds=[.str z,.int a]/\a<=z.length/\z.length<=50000/\AJ z.cps.toList/\nest (z.cps.toList.drop a) < n/\Q (ia z.length (P (z.cps.toList.drop a))) G
end L3
namespace L3
open PySem L2
theorem Y4{x:Str}{l:Option Int}{b:Int}(h:(x.length:Int)<=b):Txt.slice x l (some b)=Txt.slice x l (some (x.length:Int)):=by
 show StrLaws.sliceText x l (some b)=StrLaws.sliceText x l (some (x.length:Int))
 have e:Builtin.Str.strSliceIndices l (some b) 1 x.length=Builtin.Str.strSliceIndices l (some (x.length:Int)) 1 x.length:=by
  have h0:¬ b < 0:=by omega
  have ae:¬ (x.length:Int) < 0:=by omega
  have ag:min b (x.length:Int)=min (x.length:Int) (x.length:Int):=by omega
  have aR:(1:Int) > 0:=by decide
  simp only [Builtin.Str.strSliceIndices,h0,ae,if_false,ag,aR,if_true]
 unfold StrLaws.sliceText;rw [e]
theorem MX{z:Str}{a:Nat}(h:a<=z.length):Txt.slice z (some (a:Int)) (some ((a:Int)+1))=cH ((z.cps.toList.drop a).take 1):=by
 have ar:z.cps.toList.length=z.length:=fO;by_cases c:a+1<=z.length
 ·rw [eq_of_beq (yu (x:=z) (i:=(a:Int)) (j:=(a:Int)+1) ⟨by omega,by omega,by rw [ar];omega⟩)];refine iR ?_;rw [gd];show (z.cps.toList.drop (a:Int).toNat).take ((a:Int)+1 - (a:Int)).toNat=_;rw [show ((a:Int)+1 - (a:Int)).toNat=1 by omega,u3]
 ·rw [Y4 (by omega),eq_of_beq (yu (x:=z) (i:=(a:Int)) (j:=(z.length:Int)) ⟨by omega,by omega,by rw [ar];omega⟩)];refine iR ?_;rw [gd];have e:z.cps.toList.drop a=[]:=nd (by omega);show (z.cps.toList.drop (a:Int).toNat).take _=_;rw [u3,e];simp
theorem AK{z:Str}{a:Nat}(h:a<=z.length){p:Str}{c:Nat}(ah:p=cH [c]):(Txt.slice z (some (a:Int)) (some ((a:Int)+1))==p)=decide ((z.cps.toList.drop a).head?=some c):=by
 rw [MX h,ah]
 cases e:z.cps.toList.drop a with
 | nil=>
  have n:cH (([]:List Nat).take 1)≠cH [c]:=λ z=>by have:=congrArg (λ s:Str=>s.cps.toList) z;simp [cH] at this
  rw [beq_eq_false_iff_ne.mpr n];simp
 | cons d r=>
  have:cH ((d::r).take 1)=cH [d]:=rfl;rw [this,pF,beq_iff_eq,decide_eq_true_iff];constructor
  ·intro z;have:=congrArg (λ s:Str=>s.cps.toList) z;simp [cH] at this;simp [this]
  ·intro z;simp at z;rw [z]
theorem MY{z:Str}{a:Nat}(h:a<=z.length):(Txt.slice z (some (a:Int)) (some ((a:Int)+1))=="")=decide (z.cps.toList.drop a=[]):=by
 rw [MX h,pF,beq_iff_eq,decide_eq_true_iff]
 have b6:(("" : String):Str).cps.toList=[]:=by decide
 constructor
 ·intro k;have:=congrArg (λ s:Str=>s.cps.toList) k;rw [gd,b6] at this
  cases e:z.cps.toList.drop a with
  | nil=>rfl
  | cons d r=>rw [e] at this;simp at this
 ·intro k;refine iR ?_;rw [gd,b6,k];rfl
end L3
namespace L3
open PySem L2
theorem t4{l:List Nat}{n b:Nat}{d:D}{r:List Nat}(h:cU n (l.drop b)=some (d,r))(af:b<=l.length):∃ e:Nat,r=l.drop e/\b < e/\e<=l.length/\nest r<=nest (l.drop b)/\eb d/\(l.length:Int) - (r.length:Int)=e:=by
 obtain ⟨k,x,t,e⟩:=w2 n _ _ _ h;obtain ⟨c,u,kL,_⟩:=tZ t k.e9;have ar:=congrArg mc e;rw [hF,dE] at ar
 have ah:0 < (cat x).length:=by rw [kL];simp
 have gx:r=l.drop (b+(cat x).length):=by
  rw [<- nf,e,yb]
 refine ⟨b+(cat x).length,gx,by omega,by omega,?_,k,by omega⟩;rw [e,qm t k.e9];omega
theorem Et{d:D}(k:eb d):∃ w r,d=.tup (.str w::r)/\(true ^^ lR (.str w) [.str "is", .str "some", .str "both"])=!g5 d:=by
 have key:∀ w∈(["is", "some", "both", "left", "right", "way"]:List Str),(true ^^ lR (.str w) [.str "is", .str "some", .str "both"])=!(w=="is"||w=="some"||w=="both"):=by decide +kernel
 cases k with
 | is n=>exact ⟨"is", _,rfl,key "is" (by simp)⟩
 | some=>exact ⟨"some", _,rfl,key "some" (by simp)⟩
 | both _ _ _ _=>exact ⟨"both", _,rfl,key "both" (by simp)⟩
 | left _=>exact ⟨"left", _,rfl,key "left" (by simp)⟩
 | right _=>exact ⟨"right", _,rfl,key "right" (by simp)⟩
 | way _ _ _=>exact ⟨"way", _,rfl,key "way" (by simp)⟩
section
variable{z:Str}{a:Nat}(h:a<=z.length){p:Str}{c:Nat}(ah:p=cH [c])
include h ah
theorem MZ(k:(z.cps.toList.drop a).head?=some c):(Txt.slice z (some (a:Int)) (some ((a:Int)+1))==p)=true:=(AK h ah).trans (decide_eq_true k)
theorem M0(k:¬ (z.cps.toList.drop a).head?=some c):(Txt.slice z (some (a:Int)) (some ((a:Int)+1))==p)=false:=(AK h ah).trans (decide_eq_false k)
theorem r0(k:(z.cps.toList.drop a).head?=some c):(!(Txt.slice z (some (a:Int)) (some ((a:Int)+1))==p))=false:=by rw [MZ h ah k];rfl
theorem r1(k:¬ (z.cps.toList.drop a).head?=some c):(!(Txt.slice z (some (a:Int)) (some ((a:Int)+1))==p))=true:=by rw [M0 h ah k];rfl
end
theorem qn{l:List Nat}{a c:Nat}(e:(l.drop a).head?=some c):l.drop a=c::l.drop (a+1)/\a+1<=l.length:=by
 have k:=jD e;refine ⟨by rw [k];rw [yc],?_⟩;have:=congrArg mc k;simp only [hF,bR] at this;omega
theorem M1{ds:List D}{n:Nat}(h:∀ d∈ds,d.bC<=n):cc ds<=n:=by
 induction ds with
 | nil=>exact ef _
 | cons d r aO=>
  have ae:=h d (bT ..);have ag:=aO λ x ak=>h x (bY _ ak);simp only [cc];omega
theorem Eu{d:D}{x:List Str}(h:dW d x):d.bC<=2 * nest (cat x)+1:=by
 induction h with
 | str p=>simp [D.bC]
 | some=>simp [D.bC,cc]
 | is p ah=>simp [D.bC,cc]
 | @left a x ax aO=>
  have e:cat (("(" : Str)::(x++[(",":Str),(")":Str)]))=40::(cat x++[44,41]):=by simp [cat,dm,hW,iY,iX]
  have:=aO;rw [e,h_ (.inr rfl),ql ax];simp only [D.bC,cc];omega
 | @right a x ax aO=>
  have e:cat (("(" : Str)::("," : Str)::(x++[(")":Str)]))=40::44::(cat x++[41]):=by simp [cat,dm,hW,iY,iX]
  have:=aO;rw [e,h_ (.inr rfl),hl (c:=44) (by omega),ql ax];simp only [D.bC,cc];omega
 | @both a b x y ax af iV iW=>
  have e:cat (("(" : Str)::(x++("," : Str)::(y++[(")":Str)])))=40::(cat x++44::(cat y++[41])):=by simp [cat,dm,hW,iY,iX]
  have:=iV;have:=iW;rw [e,h_ (.inr rfl),ql ax,hl (c:=44) (by omega),ql af];simp only [D.bC,cc];omega
 | @way ps k y h8 aN hV aO=>
  have e:cat (("[" : Str)::(c4 (" " : Str) (ps.map (·.2))++(":" : Str)::(y++[("]" : Str)])))=91::(cat (c4 (" " : Str) (ps.map (·.2)))++58::(cat y++[93])):=by simp [cat,dm,rX,tV,tW]
  have hm:cc (ps.map (·.1))<=2 * o8 ps+1:=M1 λ d hd=>by
   obtain ⟨p,ah,rfl⟩:=jK.mp hd;have:=hV p ah;have:=MP ah;omega
  have:=aO;rw [e,h_ (.inl rfl),Er ps (λ p ah=>ql (h8 p ah)),hl (c:=58) (by omega),ql aN];simp only [D.bC,cc];omega
theorem Y5{d:D}{x:List Str}(h:dW d x)(_:bx d):d.bC<=2 * nest (cat x)+1:=Eu h
theorem M2{l:List Nat}{n b:Nat}{d:D}{r:List Nat}(h:cU n (l.drop b)=some (d,r))(aS:AJ l):d.bC<=130:=by
 obtain ⟨k,x,t,e⟩:=w2 n _ _ _ h;have ae:=Y5 t k.e9;have ag:=aS.2.2 b;rw [e,qm t k.e9] at ag;omega
end L3
namespace L3
open PySem L2
theorem Y6{xs aD:List D}(aN:∀ d∈xs,bx d)(ah:xs.Perm aD)(ap:jx aD):en xs aD=gO xs:=by
 have Y7:∀ d∈aD,bx d:=λ d hd=>aN d (ah.mem_iff.mpr hd);have hd:c3 xs=true:=p6 λ d h=>(aN d h).data;have i:=La aN ah ap
 cases e:gO xs with
 | true=>rw [<- i.mpr e];exact zG hd
 | false=>
  rw [yq];intro h;have:=rx (S:=bx) (λ d hd e he h=>(aN d hd).eq1 e he h) Y7 h;rw [i.mp this] at e;cases e
theorem Y8{ds:List D}(h:∀ d∈ds,eb d/\d.bC<=130):c3 ds=true/\cc ds<=150:=⟨p6 λ d hd=>(h d hd).1.e9.data,M1 λ d hd=>by have:=(h d hd).2;omega⟩
end L3
namespace L3
open PySem L2
def bQ:Nat->List Nat->Nat
 | _,[]=>0
 | d,c::r=>if c=91\/c=40 then bQ (d+1) r else if c=93\/c=41 then (if d=0 then 0 else bQ (d - 1) r) else if c=32/\d=0 then bQ d r+1 else bQ d r
theorem t5{c:Nat}(h:c=91\/c=40)(d:Nat)(r:List Nat):bQ d (c::r)=bQ (d+1) r:=by rw [bQ,if_pos h]
theorem w5{c:Nat}(h:c=93\/c=41)(d:Nat)(r:List Nat):bQ (d+1) (c::r)=bQ d r:=by rw [bQ,if_neg (by omega),if_pos h,if_neg (by omega)];rfl
theorem M3{c:Nat}(h:c=93\/c=41)(r:List Nat):bQ 0 (c::r)=0:=by rw [bQ,if_neg (by omega),if_pos h,if_pos rfl]
theorem w6(r:List Nat):bQ 0 (32::r)=bQ 0 r+1:=by rw [bQ,if_neg (by omega),if_neg (by omega),if_pos (by omega)]
theorem Ev(d:Nat)(r:List Nat):bQ (d+1) (32::r)=bQ (d+1) r:=by rw [bQ,if_neg (by omega),if_neg (by omega),if_neg (by omega)]
theorem qo{c:Nat}(h:c≠91/\c≠40/\c≠93/\c≠41/\c≠32)(d:Nat)(r:List Nat):bQ d (c::r)=bQ d r:=by rw [bQ,if_neg (by omega),if_neg (by omega),if_neg (by omega)]
theorem w7:∀(f g:List Nat)(d:Nat),bQ d f<=bQ d (f++g)
 | [],g,d=>by simp [bQ]
 | c::f,g,d=>by
  rw [eF,bQ,bQ];split
  ·exact w7 f g _
  ·split
   ·split
    ·exact ZB _
    ·exact w7 f g _
   ·split
    ·have:=w7 f g d;omega
    ·exact w7 f g d
theorem w8{g:List Nat}{n:Nat}(a3:∀ d,bQ d g<=n):∀(f:List Nat)(d:Nat),bQ d (f++g)<=bQ d f+n
 | [],d=>by simpa [bQ] using a3 d
 | c::f,d=>by
  rw [eF,bQ,bQ];split
  ·exact w8 a3 f _
  ·split
   ·split
    ·exact ef _
    ·exact w8 a3 f _
   ·split
    ·have:=w8 a3 f d;omega
    ·exact w8 a3 f d
theorem M4{n:Nat}:∀{l:List Nat}(d:Nat),(∀ b,bQ 0 (l.drop b)<=n)->bQ d l<=n
 | [],d,h=>by simp [bQ]
 | c::r,d,h=>by
  have aO:=λ d=>M4 (l:=r) d λ b=>h (b+1);have h0:=h 0;rw [ie] at h0;rw [bQ];split
  ·exact aO _
  ·split
   ·split
    ·exact ef _
    ·exact aO _
   ·split
    ·next ae ag aR=>rw [bQ,if_neg ae,if_neg ag,if_pos ⟨aR.1,rfl⟩] at h0;rw [aR.2];exact h0
    ·exact aO _
def iD(n:Nat)(l:List Nat):Prop:=∀ b d,bQ d (l.drop b)<=n
theorem iD.of{n:Nat}{l:List Nat}(h:∀ b,bQ 0 (l.drop b)<=n):iD n l:=λ b d=>M4 d λ c=>by rw [nf];exact h _
theorem iD.app{n m:Nat}{f g:List Nat}(hf:iD n f)(a3:iD m g):iD (n+m) (f++g):=λ b d=>by
 rw [qI];have ae:=w8 (g:=g.drop (b - f.length)) (λ d=>a3 _ d) (f.drop b) d;have:=hf b d;omega
theorem iD.take{n:Nat}{l:List Nat}(h:iD n l)(a:Nat):iD n (l.take a):=λ b d=>by
 rw [List.drop_take];have ae:=w7 ((l.drop b).take (a - b)) ((l.drop b).drop (a - b)) d;rw [pC] at ae;exact gF ae (h b d)
theorem iD.drop{n:Nat}{l:List Nat}(h:iD n l)(a:Nat):iD n (l.drop a):=λ b d=>by rw [nf];exact h _ d
theorem M5:∀{l:List Nat},(∀ c∈l,c≠32)->∀ d,bQ d l=0
 | [],_,d=>rfl
 | c::r,h,d=>by
  have ai:=h c (bT ..);have aO:=λ d=>M5 (l:=r) (λ e he=>h e (bY _ he)) d;rw [bQ];split
  ·exact aO _
  ·split
   ·split
    ·rfl
    ·exact aO _
   ·rw [if_neg (λ z=>ai z.1)];exact aO d
theorem iD.none{l:List Nat}(h:∀ c∈l,c≠32):iD 0 l:=λ b d=>Nat.le_of_eq (M5 (λ c ai=>h c (pD ai)) d)
inductive fM:Nat->List Nat->Prop
 | nil:fM 0 []
 | free {k:Nat} {l x:List Nat}:iD 0 x->fM k l->fM k (x++l)
 | one {k:Nat} {l x:List Nat}:iD 2 x->fM k l->fM (k+1) (x++l)
theorem fM.Y9{k:Nat}{l:List Nat}(h:fM k l):iD (2 * k) l:=by
 induction h with
 | nil=>exact λ b d=>by simp [bQ]
 | free ak _ aO=>have:=ak.app aO;rwa [Nat.zero_add] at this
 | @one k l x ak _ aO=>have:=ak.app aO;rwa [show 2+2 * k=2 * (k+1) by omega] at this
theorem fM.app{i j:Nat}{f g:List Nat}(hf:fM i f)(a3:fM j g):fM (i+j) (f++g):=by
 induction hf with
 | nil=>rw [Nat.zero_add];exact a3
 | free ak _ aO=>rw [db];exact .free ak aO
 | @one k l x ak _ aO=>rw [db,show k+1+j=(k+j)+1 by omega];exact .one ak aO
theorem fM.drop{k:Nat}{l:List Nat}(h:fM k l):∀ a,fM k (l.drop a):=by
 induction h with
 | nil=>intro a;rw [List.drop_nil];exact .nil
 | free ak _ aO=>intro a;rw [qI];exact .free (ak.drop a) (aO _)
 | one ak _ aO=>intro a;rw [qI];exact .one (ak.drop a) (aO _)
theorem fM.split{k:Nat}{l:List Nat}(h:fM k l):∀ a,∃ i j,i+j<=k+1/\fM i (l.take a)/\fM j (l.drop a):=by
 induction h with
 | nil=>intro a;exact ⟨0,0,by omega,by rw [List.take_nil];exact .nil,by rw [List.drop_nil];exact .nil⟩
 | @free k l x ak ar aO=>
  intro a;by_cases c:a<=x.length
  ·refine ⟨0,k,by omega,?_,?_⟩
   ·rw [List.take_append_of_le_length c];have:=fM.free (ak.take a) .nil
    rwa [dD] at this
   ·rw [uR c];exact .free (ak.drop a) ar
  ·obtain ⟨i,j,ae,ag,aR⟩:=aO (a - x.length);refine ⟨i,j,ae,?_,?_⟩
   ·rw [List.take_append,qH (by omega)];exact .free ak ag
   ·rw [qI,nd (by omega),jo];exact aR
 | @one k l x ak ar aO=>
  intro a;by_cases c:a<=x.length
  ·refine ⟨1,k+1,by omega,?_,?_⟩
   ·rw [List.take_append_of_le_length c];have:=fM.one (ak.take a) .nil
    rwa [dD] at this
   ·rw [uR c];exact .one (ak.drop a) ar
  ·obtain ⟨i,j,ae,ag,aR⟩:=aO (a - x.length);refine ⟨i+1,j,by omega,?_,?_⟩
   ·rw [List.take_append,qH (by omega)];exact .one ak ag
   ·rw [qI,nd (by omega),jo];exact aR
theorem fM.mono{k j:Nat}{l:List Nat}(h:fM k l)(cD:k<=j):fM j l:=by
 induction cD with
 | refl=>exact h
 | step _ aO=>have:=fM.one (x:=[]) (λ b d=>by simp [bQ]) aO;exact this
def ls(c:Nat):Nat:=if c=1000 then 32 else c
def bO(c:Nat):Nat:=if c=32 then 1000 else c
theorem Y_(c:Nat)(h:c≠1000):ls (bO c)=c:=by
 unfold bO;split
 ·next e=>rw [e];rfl
 ·unfold ls;rw [if_neg h]
theorem M6:∀(m:List Nat)(d:Nat),bQ d (m.map ls)<=bQ d m+m.count 1000
 | [],d=>by simp [bQ]
 | c::r,d=>by
  have aO:=λ d=>M6 r d;rw [dF,uS];by_cases h:c=1000
  ·subst h;rw [show ls 1000=32 from rfl,qo (c:=1000) (by omega)];have:=aO d
   cases d with
   | zero=>rw [w6];simp;omega
   | succ d=>rw [Ev];simp;omega
  ·rw [show ls c=c by unfold ls;rw [if_neg h]];have e:(c==1000)=false:=beq_eq_false_iff_ne.mpr h;rw [e,bQ,bQ];split
   ·have:=aO (d+1);simpa using this
   ·split
    ·split
     ·exact ef _
     ·have:=aO (d - 1);simpa using this
    ·split
     ·have:=aO d;simp;omega
     ·have:=aO d;simpa using this
end L3
namespace L3
open PySem L2
def AL(n:Nat)(l:List Nat):Prop:=∀ b,nest (l.drop b)<=n
def ib(c:Nat):Bool:=decide (c ∉ cR)
def r2(n:Nat)(l:List Nat):Prop:=∀ b,((l.drop b).takeWhile ib).length<=n
def jE(x:List Nat):Prop:=(∀ c∈x,c≠1000)/\(x.length<=5\/x.length<=13/\(∀ c∈x,c≠91/\c≠40/\c≠93/\c≠41)/\x.count 32<=5)
theorem M7:∀(l r:List Nat),nest (l++r)<=nest r+l.length
 | [],r=>by simp
 | c::l,r=>by
  have:=M7 l r;rw [eF,nest,bR];split
  ·omega
  ·split<;>omega
theorem M8{y z:List Nat}{k:Nat}(h:nest y<=nest z+k):∀ f:List Nat,nest (f++y)<=nest (f++z)+k
 | []=>h
 | c::f=>by
  have:=M8 h f;rw [eF,eF,nest,nest];split
  ·omega
  ·split<;>omega
theorem jE.drop{x:List Nat}(h:jE x)(b:Nat):jE (x.drop b):=by
 have ar:(x.drop b).length<=x.length:=by rw [hF];omega
 refine ⟨λ c ai=>h.1 c (pD ai),?_⟩;rcases h.2 with h | ⟨ae,ag,aR⟩
 ·exact .inl (by omega)
 ·exact .inr ⟨by omega,λ c ai=>ag c (pD ai),gF ((List.drop_sublist b x).count_le 32) aR⟩
theorem jE.nest{x:List Nat}(h:jE x)(r:List Nat):nest (x++r)<=L3.nest r+5:=by
 rcases h.2 with h | ⟨ae,ag,aR⟩
 ·have:=M7 x r;omega
 ·rw [w3 ag];omega
theorem jE.len{x:List Nat}(h:jE x):x.length<=13:=by rcases h.2 with h | h;omega;exact h.1
theorem jE.nP{x:List Nat}(h:jE x):x.count 32<=5:=by
 rcases h.2 with h | h
 ·exact gF (List.count_le_length) h
 ·exact h.2.2
theorem M9(f x g:List Nat)(b:Nat):(∃ f1,f1=f.drop b/\(f++(x++g)).drop b=f1++(x++g)/\b<=f.length)\/∃ e k,(f++(x++g)).drop b=x.drop e++g.drop k:=by
 by_cases c:b<=f.length
 ·exact .inl ⟨_,rfl,uR c,c⟩
 ·refine .inr ⟨b - f.length,b - f.length - x.length,?_⟩;rw [qI,nd (by omega),jo,qI]
section
variable{l x:List Nat}{a a':Nat}
theorem AL.chg{n:Nat}(h:AL n l)(ak:jE x)(ax:a'=a\/a'=a+1):AL (n+6) (l.take a++(x++l.drop a')):=λ b=>by
 rcases M9 (l.take a) x (l.drop a') b with ⟨f1,aC,aG,af⟩ | ⟨e,k,ae⟩
 ·rw [aG,aC];have ae:=ak.nest (l.drop a')
  have ag:nest (l.drop a')<=nest (l.drop a)+1:=by
   rcases ax with rfl | rfl
   ·omega
   ·cases hd:l.drop a with
    | nil=>
     have:l.drop (a+1)=[]:=by rw [<- yc,hd];rfl
     rw [this];omega
    | cons c r=>
     have:l.drop (a+1)=r:=by rw [<- yc,hd];rfl
     rw [this,nest];split
     ·omega
     ·split<;>omega
  have aR:=M8 (y:=x++l.drop a') (z:=l.drop a) (k:=6) (by omega) ((l.take a).drop b)
  have bB:(l.take a).drop b++l.drop a=l.drop b:=by
   rw [<- uR af,pC]
  rw [bB] at aR;have:=h b;omega
 ·rw [ae];have ag:=(ak.drop e).nest ((l.drop a').drop k);rw [nf] at ag ⊢;have:=h (a'+k);omega
theorem AM(p:Nat->Bool):∀ f g:List Nat,((f++g).takeWhile p).length<=(f.takeWhile p).length+(g.takeWhile p).length
 | [],g=>by simp
 | c::f,g=>by
  have:=AM p f g;rw [eF,md,md];split
  ·simp only [bR];omega
  ·simp
theorem M_(p:Nat->Bool)(f:List Nat):(f.takeWhile p).length<=f.length:=(List.takeWhile_sublist p).length_le
theorem Na(p:Nat->Bool):∀(f:List Nat)(k:Nat),((f.take k).takeWhile p).length<=(f.takeWhile p).length
 | [],k=>by simp
 | c::f,0=>by simp
 | c::f,k+1=>by
  have:=Na p f k;rw [List.take_succ_cons,md,md];split
  ·simp only [bR];omega
  ·simp
theorem r2.chg{n:Nat}(h:r2 n l)(ak:jE x):r2 (2 * n+13) (l.take a++(x++l.drop a')):=λ b=>by
 have ao:∀ k,(((l.drop a').drop k).takeWhile ib).length<=n:=λ k=>by rw [nf];exact h _
 rcases M9 (l.take a) x (l.drop a') b with ⟨f1,aC,aG,af⟩ | ⟨e,k,ae⟩
 ·rw [aG,aC];have ae:=AM ib ((l.take a).drop b) (x++l.drop a');have ag:=AM ib x (l.drop a');have aR:=M_ ib x;have bB:=ao 0;rw [ie] at bB
  have el:(((l.take a).drop b).takeWhile ib).length<=n:=by
   rw [List.drop_take];exact gF (Na ib _ _) (h b)
  have:=ak.len;omega
 ·rw [ae];have ag:=AM ib (x.drop e) ((l.drop a').drop k);have aR:=M_ ib (x.drop e);have:=ao k;have:=(ak.drop e).len;omega
end
def r3:Nat->Nat
 | 0=>13
 | j+1=>2 * r3 j+13
structure f6(j:Nat)(l:List Nat):Prop where
 len:l.length<=32000+13 * j
 sgn:l.countP (λ c=>decide (c∈cR))<=2300+13 * j
 run:r2 (r3 j) l
 t6:AL (40+6 * j) l
 fu:∃ m:List Nat,m.map ls=l/\m.count 1000<=39+5 * j/\fM (1+j) m
 nP:∀ c∈l,c < 1000
theorem Nb(p:Nat->Bool)(l:List Nat){a a':Nat}(ax:a<=a'):(l.take a).countP p+(l.drop a').countP p<=l.countP p:=by
 have ae:l.countP p=(l.take a).countP p+(l.drop a).countP p:=by rw [<- List.countP_append,pC]
 have ag:(l.drop a').countP p<=(l.drop a).countP p:=by
  obtain ⟨k,rfl⟩:∃ k,a'=a+k:=⟨a' - a,by omega⟩
  rw [<- nf];exact (List.drop_sublist k _).countP_le
 omega
theorem f6.chg{j:Nat}{l x:List Nat}{a a':Nat}(h:f6 j l)(ak:jE x)(ai:∀ c∈x,c < 1000)(ax:a'=a\/a'=a+1):f6 (j+1) (l.take a++(x++l.drop a')):=by
 have mM:=ak.len
 have Nc:a<=a':=by omega
 refine ⟨?_,?_,h.run.chg ak,?_,?_,λ c hZ=>?_⟩
 ·have:=h.len;simp only [dE,kk,hF];omega
 ·have ae:=Nb (λ c=>decide (c∈cR)) l Nc;have ag:x.countP (λ c=>decide (c∈cR))<=x.length:=List.countP_le_length;have:=h.sgn;rw [List.countP_append,List.countP_append];omega
 ·have:=h.t6.chg (a:=a) ak ax
  rwa [show 40+6 * j+6=40+6 * (j+1) by omega] at this
 ·obtain ⟨m,rfl,hm,ap⟩:=h.fu;obtain ⟨i,k,ae,ag,aR⟩:=ap.split a
  have bB:fM k (m.drop a'):=by
   rcases ax with rfl | rfl
   ·exact aR
   ·have:=aR.drop 1
    rwa [nf] at this
  have hw:iD 0 (x.map bO):=.none λ c hZ=>by
   obtain ⟨e,he,rfl⟩:=jK.mp hZ;unfold bO;split<;>omega
  refine ⟨m.take a++(x.map bO++m.drop a'),?_,?_,(ag.app (.free hw bB)).mono (by omega)⟩
  ·rw [kQ,kQ,List.map_take,List.map_drop,sv];congr 2;have:x.map (ls ∘ bO)=x.map id:=so λ c hZ=>Y_ c (ak.1 c hZ);rw [this,uT]
  ·have aC:=Nb (λ c=>c==1000) m Nc
   have aG:((x.map bO).count 1000)<=5:=by
    have:(x.map bO).count 1000=x.count 32:=by
     have ep:=ak.1;clear mM hw ak ai
     induction x with
     | nil=>rfl
     | cons c x aO=>
      have ai:=ep c (bT ..);rw [dF,uS,uS,aO λ e he=>ep e (bY _ he)];unfold bO;by_cases z:c=32
      ·rw [if_pos z,z];rfl
      ·rw [if_neg z,beq_eq_false_iff_ne.mpr ai,beq_eq_false_iff_ne.mpr z]
    rw [this];exact ak.nP
   rw [uU,uU];simp only [List.count] at hm aG ⊢;omega
 ·rcases fc.mp hZ with m | m
  ·exact h.nP c (ya m)
  ·rcases fc.mp m with m | m
   ·exact ai c m
   ·exact h.nP c (pD m)
theorem f6.mono{j k:Nat}{l:List Nat}(h:f6 j l)(aN:j<=k):f6 k l:=by
 have ao:r3 j<=r3 k:=by
  induction aN with
  | refl=>exact ZB _
  | step _ aO=>rw [r3];omega
 obtain ⟨m,ae,ag,aR⟩:=h.fu;exact ⟨by have:=h.len;omega,by have:=h.sgn;omega,λ b=>gF (h.run b) ao,λ b=>by have:=h.t6 b;omega,⟨m,ae,by omega,aR.mono (by omega)⟩,h.nP⟩
theorem f6.bQ{l:List Nat}(h:f6 3 l)(b:Nat):bQ 0 (l.drop b)<=62:=by
 obtain ⟨m,rfl,ag,aR⟩:=h.fu;have bB:=aR.Y9 b 0;have el:=M6 (m.drop b) 0;rw [<- List.map_drop];have mx:(m.drop b).count 1000<=m.count 1000:=(List.drop_sublist b m).count_le 1000;omega
end L3
namespace L2
open PySem PySem.Spec PyProof.Rows
def mX(z a b:Str):Str:=if ((Builtin.Str.occurrences z a 0 z.length 1).isEmpty||a.length==0&&b.length==0)=true then z else Builtin.Str.glued b (Builtin.Str.partsBetween z (Builtin.Str.occurrences z a 0 z.length 1) a.length)
open Builtin Builtin.Str in
theorem Za(x y z:Str)(t u v c:Tok)
 (hf:(u==0||v==0)=false/\(u==v)=false/\(y==z)=false/\tooLong (x.length+(occurrences x y 0 x.length 1).length * z.length)=false) :
 Gives («str.replace» ⟨[.str x t,.str y u,.str z v,.int 1 c],[]⟩) (if ((occurrences x y 0 x.length 1).isEmpty||(y.length==0&&z.length==0))=true then .val (.str x t) else .str (glued z (partsBetween x (occurrences x y 0 x.length 1) y.length))):=by
 show Gives (do
  let limit ← (do
   let i ← asSsize "str.replace" (.int 1 c)
   pure (if i < 0 then x.length+1 else i.toNat))
  if ((occurrences x y 0 x.length limit).isEmpty||(y.length==0&&z.length==0))=true then (do rule "str.replace.nothing"; ret (.str x t)) else
  (do let same ← isSame (.str y u) (.str z v)
      if same=true then (do rule "str.replace.old-is-new"; ret (.str x t)) else
      if tooLong (x.length+(occurrences x y 0 x.length limit).length * z.length)=true then unsupported "str.replace:memory" else
      retStr (glued z (partsBetween x (occurrences x y 0 x.length limit) y.length)))) _
 rw [asSsize_int _ _ _ (by decide)]
 show Gives (if ((occurrences x y 0 x.length 1).isEmpty||(y.length==0&&z.length==0))=true then (do rule "str.replace.nothing"; ret (.str x t)) else
  (do let same ← isSame (.str y u) (.str z v)
      if same=true then (do rule "str.replace.old-is-new"; ret (.str x t)) else
      if tooLong (x.length+(occurrences x y 0 x.length 1).length * z.length)=true then unsupported "str.replace:memory" else
      retStr (glued z (partsBetween x (occurrences x y 0 x.length 1) y.length)))) _
 cases ai:((occurrences x y 0 x.length 1).isEmpty||(y.length==0&&z.length==0))
 ·obtain ⟨h0,Zb,Zc,ar⟩:=hf;rw [isSame_str_other y z u v h0 Zb Zc,ar];exact .of_eq rfl
 ·exact .rule (.of_eq rfl)
section
variable{X:aW}
def Zd(a b:Str)(to:TE):TE:=λ σ H Q=>to σ H λ x H1=>∃ z:Str,x=.str z/\(mX z a b).length<=1000000/\z.length+b.length<=1000000/\Q (.str (mX z a b)) H1
theorem Ze{o:a8}{to:TE}{a b:Str}{k1 k2 k3:Nat}{dP dZ t7 apos dk:Pos}(aS:wB X o to)(tk:(a==b)=false)(i_:l8 o "replace" X.env (eval o X.env)=eval o X.env:=by rfl)(ja:(apos.endLine==dk.line)=true:=by rfl) :
 wB X (.Call (.Attribute o "replace" apos) [.Constant (.str a) k1 dP,.Constant (.str b) k2 dZ,.Constant (.int 1) k3 t7] [] dk) (Zd a b to):=by
 intro pins s σ H Q I bh h;refine gC (Bp (Q:=f_ X pins σ Q) (E:=X.xe) bh ?_) (λ _ _ z=>z) λ _ _ z=>z.2;refine G5 i_ rfl ja rfl (b0 (aS pins s σ H _ I bh h) λ v s1 ⟨Ew,x,H1,a4,aT,z,oQ,hz,sZ,aF⟩=>?_);subst oQ;obtain ⟨ae,ag⟩:=BR (T:="str") a4 aT rfl;obtain ⟨t,rfl⟩:=aT;refine ⟨"str", "str.replace", PySem.F.plainAttrs_str,PySem.F.slot_str_replace,PySem.F.type_str_replace,ae,ag,?_⟩;refine Calls.callWith_builtin rfl (Calls.evalArgs_plain ?_);refine Calls.spliced_cons (Calls.Constant_str (k:=k1) (pos:=dP) ?_);refine Calls.spliced_cons (Calls.Constant_str (k:=k2) (pos:=dZ) ?_);refine Calls.spliced_cons (wpAny_Constant_int (k:=k3) (pos:=t7) ?_);refine Calls.spliced_nil ?_;refine PySem.call_gives PySem.F.slot_str_replace (xP _ z t) PySem.F.entry_str_replace (PySem.F.args_str_replace_4 _ _ _ _) (Za z a b t s1.toks (s1.toks+1) _ ⟨?_,?_,tk,?_⟩) ?_
 ·rw [Bool.or_eq_false_iff];exact ⟨beq_eq_false_iff_ne.mpr (n4 Ew),beq_eq_false_iff_ne.mpr (Nat.succ_ne_zero _)⟩
 ·exact beq_eq_false_iff_ne.mpr (eO (sx _))
 ·unfold Builtin.Str.tooLong;refine decide_eq_false ?_;have aR:=StrLaws.occ_length_le z a 0 z.length 1;have bB:=yj b.length aR;rw [hC];omega
 ·unfold mX at aF hz;split
  ·next c=>rw [if_pos c] at aF;exact ⟨.str z,H1,a4.tok _,⟨_,rfl⟩,aF⟩
  ·next c=>rw [if_neg c] at aF hz;exact ⟨by rw [hC];omega,.str _,H1,a4.tok _,⟨_,rfl⟩,aF⟩
theorem Zf{st:bP}{rest:List bP}{t u:eR}(ae:jR X st t)(ag:p_ X rest u):p_ X (st::rest) (yF t u):=by
 intro pins s σ H D I bh h;refine uz (b0 (gC (Bp bh (ae pins s σ H { D with nx:=u D } I h)) (λ _ _ z=>z) λ _ _ z=>z.2) λ f s1 q=>?_);obtain ⟨Ew,q⟩:=q
 cases f with
 | next=>
  obtain ⟨σ',aj,lG,q⟩:=q;exact ag pins s1 σ' aj D lG Ew q
 | ret v=>exact q
 | brk=>exact q
 | cont=>exact q
end
theorem Zg{M:lx}{A:cz}{E:Value->aE->Prop}{s:aE}{scope:gg}{globals:Addr}{n m:Str}{v u:Value}{qual:Str}{func:Option Addr}{code:Value}{builtins:Addr}{Q:Env->aE->Prop}(aN:scope.kind=.function)(w9:∀ x∈scope.names,x.2≠.cell)
 (w_:∀ k,qz k scope.names []=[]) (ar:scope.names.lookup n=some .local) (hb:scope.names.lookup m=some .local)
 (h:∀ env,env=newEnv scope s.heap.objs.size globals (qz (s.heap.objs.size+1) scope.names []) qual func code none builtins->∀ aM,InCallC s env.locals (kP env.kindOf [(n,v),(m,u)] λ _=>none) env.cells (n1 env.kindOf [(n,v),(m,u)] λ _=>none) aM->1<=aM.toks->Q env aM) :
 aU M A (newFunctionEnv scope globals [] [(n,v),(m,u)] qual func code none builtins) Q E s:=by
 refine Be w9 (λ x ak=>by simp at ak;rcases ak with rfl | rfl;exact ar;exact hb) (λ h' aH ap=>?_) aN;refine h _ (by rw [w_]) _ ⟨⟨⟨h',_,rfl⟩,?_,λ b o e=>?_,ZB _⟩,λ y c e=>?_,?_,λ y c e=>?_⟩ (by show 1<=s.toks+2;omega)
 ·have e:(kP (newEnv scope s.heap.objs.size globals [] qual func code none builtins).kindOf [(n,v),(m,u)] λ _=>none)=λ x=>kl x [(n,v),(m,u)].reverse:=by
   have lV:(newEnv scope s.heap.objs.size globals [] qual func code none builtins).kindOf n=some .local:=ar;have Ex:(newEnv scope s.heap.objs.size globals [] qual func code none builtins).kindOf m=some .local:=hb;funext x;by_cases c:x=m
   ·subst c;simp [kP,lV,Ex,kl]
   ·have bt:(x==m)=false:=beq_eq_false_iff_ne.mpr c;by_cases d:x=n
    ·subst d;simp [kP,lV,Ex,kl,c,bt]
    ·have fC:(x==n)=false:=beq_eq_false_iff_ne.mpr d;simp [kP,lV,Ex,kl,c,bt,d,fC]
  show h'.Ns s.heap.objs.size _;rw [e];exact aH
 ·have af:b≠s.heap.objs.size:=by
   rintro rfl;exact me _ (dc e)
  rw [ap.2 b af];exact cP _ e
 ·cases e
 ·exact List.Pairwise.nil
 ·cases e
section
variable{P:cL}{w:b8}{K:aX}{mg:Str->Option Value}{base:bE}
theorem dT.Zh{x qual p e_:Str}{st:bP}{f:Addr}{fd:gD}{N:List Str}{k:Nat}{sp:iK}(F:dT K x qual st f fd)(S:ek N [p,e_] (cb st))(w9:∀ x∈(cb st).names,x.2≠.cell)(w_:∀ k,qz k (cb st).names []=[])(jY:(cb st).names.lookup p=some .local)(Ey:(cb st).names.lookup e_=some .local)
 (len:∀ vs H Q E,sp vs H Q E->vs.length=[p,e_].length)
 (kY:∀(bI:Value)(A:cz)(outer:List Env)(s:aE)(H:aw)(vs:List V)(Q:cE)(E:fY),fy k (A.deeper (envOfC qual (cb st) s.heap.objs.size f bI))->sp vs H Q E →
  ∃ t,p_ (eJ c6 P w K mg base N qual (cb st) f bI A outer s H E).mi (jb st) t/\t { nx:=λ _ aj=>Q .a9 aj,rt:=Q } (iL N vs) H):da P w K mg base c6 (k+1) f fd [p,e_] sp:=by
 obtain ⟨gH,eM,gG,doc,pm,an,bI,ct,i9,rfl,lk,ho⟩:=F.ex;refine ⟨len,λ A outer s H args us vs Q E ao b6 af r jV=>?_⟩;have ar:=len _ _ _ _ jV
 have Zi:us.length=2:=by rw [<- r.length,ar];rfl
 obtain ⟨u,kq,rfl⟩:∃ u kq,us=[u,kq]:=(match us,Zi with | [a,b],_=>⟨a,b,rfl⟩)
 have KX:K.In s.heap:=b6.mod.sL.keeps λ b o e=>(b6.bs b o e).1;have lim:s.heap.NoLimit:=b6.mod.nolimit.keeps λ b o e=>(b6.bs b o e).1;refine G7 ao.depth (KX _ _ lk) rfl S.co S.gen rfl (PySem.W.codeRec_of KX ho) (af _ _ _ _ ?_);refine Zg S.kind w9 w_ jY Ey λ env he s1 x bh=>?_;subst he;refine ⟨lim.keeps x.toInCall.keep,codeAny_func ?_⟩;obtain ⟨t,Ch,bc⟩:=kY bI A outer s H vs Q E (ao.deeper _) jV;have I:Inv (eJ c6 P w K mg base N qual (cb st) f bI A outer s H E) [] (iL N vs) H s1:=H3 S ao.hd b6 ar r x;refine gC (Ch.mi [] s1 (iL N vs) H _ I bh bc) (λ eY aM ap=>?_) λ e aM ap=>ap
 have fin:∀{σ':St}{aj:aw}{v:V}{u:Value},Inv (eJ c6 P w K mg base N qual (cb st) f bI A outer s H E) [] σ' aj aM->RelV v u->Q v aj->yN outer P w H s Q u aM:=
  λ{σ' aj v u} J a6 q=>⟨v,aj,J.os,J.bare,J.base,J.bJ,a6,q⟩
 cases eY with
 | ret u=>
  obtain ⟨v,σ',aj,J,a6,q⟩:=ap;exact fin J a6 q
 | next=>
  obtain ⟨σ',aj,J,q⟩:=ap;exact fin (v:=V.a9) (u:=Value.none) J rfl q
 | brk=>
  obtain ⟨_,_,_,q⟩:=ap;exact False.elim q
 | cont=>
  obtain ⟨_,_,_,q⟩:=ap;exact False.elim q
end
end L2
namespace L3
open PySem PySem.Spec PyProof.Rows L2
section
variable{X:aW}
abbrev Zj(a b:Str)(to:cn):cn:=λ ρ G Q=>to ρ G λ x aB=>match x with
 | .str z=>(mX z a b).length<=1000000/\z.length+b.length<=1000000/\Q (.str (mX z a b)) aB
 | _=>False
theorem Zk{o:a8}{to:cn}{a b:Str}{k1 k2 k3:Nat}{dP dZ t7 apos dk:Pos}(aS:Af X o to)(tk:(a==b)=false:=by decide)(i_:l8 o "replace" X.env (eval o X.env)=eval o X.env:=by rfl)(ja:(apos.endLine==dk.line)=true:=by rfl) :
 Af X (.Call (.Attribute o "replace" apos) [.Constant (.str a) k1 dP,.Constant (.str b) k2 dZ,.Constant (.int 1) k3 t7] [] dk) (Zj a b to):=by
 obtain ⟨c,j,r⟩:=aS.run;refine ⟨_,Ze j tk i_ ja,λ ρ G ay σ H Q B q F=>r ρ G _ σ H _ B q λ x aB v H1 g1 aQ aF=>?_⟩
 cases x with
 | str z=>
  cases (show v=.str z from aQ);exact ⟨z,rfl,aF.1,aF.2.1,F (.str (mX z a b)) _ _ _ g1 rfl aF.2.2⟩
 | _=>exact (show False from aF).elim
theorem Ez{st:bP}{rest:List bP}{t u:f3}(ae:gs X st t)(ag:Ag X rest u):Ag X (st::rest) (zk t u):=by
 obtain ⟨bu,ey,aT⟩:=ae.run;obtain ⟨bt,hQ,a0⟩:=ag.run;exact ⟨_,Zf ey.run hQ,λ b3 c8 ρ G σ H B q F=>aT _ _ ρ G σ H B q ⟨λ ρ' au σ' aj g b gT=>a0 b3 c8 ρ' au σ' aj b gT (F.after g),F.rt,F.bk,F.ct⟩⟩
end
theorem Zl{P:cL}{w:b8}{K:aX}{mg:Str->Option Value}{base:bE}{x qual p e_:Str}{st:bP}{f:Addr}{fd:gD}{N:List Str}{k:Nat}{fs:fJ}(F:dT K x qual st f fd)(S:ek N [p,e_] (cb st))(w9:∀ x∈(cb st).names,x.2≠.cell)(w_:∀ k,qz k (cb st).names []=[])(jY:(cb st).names.lookup p=some .local)(Ey:(cb st).names.lookup e_=some .local)
 (len:∀ ds G ay,fs ds G ay->ds.length=[p,e_].length)
 (kY:∀(bI:Value)(A:cz)(outer:List Env)(s:aE)(H:aw)(E:fY),fy k (A.deeper (PyProof.Rows.envOfC qual (cb st) s.heap.objs.size f bI))->∀(ds:List D)(G:aP)(ay:cJ),fs ds G ay →
  ∃ t,Ag (eJ c6 P w K mg base N qual (cb st) f bI A outer s H E).mi (jb st) t/\t { nx:=λ _ au=>be ay .a9 au,rt:=be ay } (oO N ds) G):da P w K mg base c6 (k+1) f fd [p,e_] (bG K fs):=by
 refine F.Zh S w9 w_ jY Ey (λ vs H Q E h=>?_) (λ bI A outer s H vs Q E ao h=>?_)
 ·obtain ⟨ds,G,ay,r,_,h,_⟩:=h;rw [r.len];exact len ds G ay h
 ·obtain ⟨ds,G,ay,r,v,h,p4⟩:=h;obtain ⟨t,⟨bj,j,imp⟩,q⟩:=kY bI A outer s H E ao ds G ay h;refine ⟨bj,j,imp _ _ (oO N ds) G (L2.iL N vs) H (CM r v) q ⟨λ ρ' au σ' aj g b ⟨bf,s2,bo⟩=>p4 .a9 bf .a9 aj (g.sub s2) rfl bo,λ d au v aj g a ⟨bf,s2,bo⟩=>p4 d bf v aj (g.sub s2) a bo,λ _ _ _ _ _ _ z=>z.elim,λ _ _ _ _ _ _ z=>z.elim⟩⟩
end L3
namespace L3
open PySem L2
theorem Nd:∀{l:List Nat},(∀ c∈l,c=32\/c=58\/c=44)->∀(e:Nat)(r:List Nat),bQ e r<=bQ e (l++r)
 | [],_,e,r=>ZB _
 | c::l,h,e,r=>by
  have aO:=Nd (l:=l) (λ d hd=>h d (bY _ hd)) e r;have ai:=h c (bT ..);rw [eF,bQ,if_neg (by omega),if_neg (by omega)];split<;>omega
theorem Nf:∀{l:List Nat},(∀ c∈l,c=45\/48<=c/\c<=57)->∀(e:Nat)(r:List Nat),bQ e (l++r)=bQ e r
 | [],_,e,r=>rfl
 | c::l,h,e,r=>by
  have ai:=h c (bT ..);rw [eF,qo (by omega),Nf (l:=l) (λ d hd=>h d (bY _ hd)) e r]
section
variable{ps:List (D × List Str)}
theorem Ng:∀(ps:List (D × List Str)),(∀ p∈ps,∀ e r,bQ e r<=bQ e (cat p.2++r))->∀ e r,bQ e r<=bQ e (cat (df (ps.map (·.2)))++r)/\bQ 0 r+ps.length<=bQ 0 (cat (df (ps.map (·.2)))++r)
 | [],_,e,r=>⟨ZB _,ZB _⟩
 | p::ps,h,e,r=>by
  obtain ⟨cG,c7⟩:=Ng ps (λ q bc=>h q (bY _ bc)) e r;have ah:=h p (bT ..);rw [dF,nU,eF,db];have ae:=ah e (cat (df (ps.map (·.2)))++r);have ag:=ah 0 (cat (df (ps.map (·.2)))++r);refine ⟨?_,?_⟩
  ·have:bQ e (cat p.2++(cat (df (ps.map (·.2)))++r))<=bQ e (32::(cat p.2++(cat (df (ps.map (·.2)))++r))):=by
    rw [show ∀ t,bQ e (32::t)=if e=0 then bQ e t+1 else bQ e t from λ t=>by cases e with | zero=>rw [w6];rfl | succ e=>rw [Ev];rfl];split<;>omega
   omega
  ·rw [w6,bR];omega
theorem EA:∀(ps:List (D × List Str)),(∀ p∈ps,∀ e r,bQ e r<=bQ e (cat p.2++r))->∀ e r,bQ e r<=bQ e (cat (c4 (" " : Str) (ps.map (·.2)))++r)/\bQ 0 r+ps.length<=bQ 0 (cat (c4 (" " : Str) (ps.map (·.2)))++r)+1
 | [],_,e,r=>⟨ZB _,by simp [c4,cat]⟩
 | p::ps,h,e,r=>by
  obtain ⟨cG,c7⟩:=Ng ps (λ q bc=>h q (bY _ bc)) e r;have ah:=h p (bT ..);have ae:=ah e (cat (df (ps.map (·.2)))++r);have ag:=ah 0 (cat (df (ps.map (·.2)))++r);rw [dF,l1,dm,db,bR];omega
end
theorem lEq(ps:List (D × List Str))(y:List Str)(r:List Nat):cat (("[" : Str)::(c4 (" " : Str) (ps.map (·.2))++(":" : Str)::(y++[("]" : Str)])))++r=91::(cat (c4 (" " : Str) (ps.map (·.2)))++58::(cat y++93::r)):=by simp [cat,dm,rX,tV,tW]
theorem AN(x:List Str)(r:List Nat):cat (("(" : Str)::(x++[(",":Str),(")":Str)]))++r=40::(cat x++44::41::r):=by simp [cat,dm,hW,iY,iX]
theorem AO(x:List Str)(r:List Nat):cat (("(" : Str)::("," : Str)::(x++[(")":Str)]))++r=40::44::(cat x++41::r):=by simp [cat,dm,hW,iY,iX]
theorem AP(x y:List Str)(r:List Nat):cat (("(" : Str)::(x++("," : Str)::(y++[(")":Str)])))++r=40::(cat x++44::(cat y++41::r)):=by simp [cat,dm,hW,iY,iX]
theorem AQ(p:Str):cat [p]=p.cps.toList:=by rw [cat,cat,dD]
theorem EB:cat ["~"]=[126]:=by rw [cat,cat,bu ("~", 126) (by simp)];rfl
theorem Nh{d:D}{x:List Str}(h:dW d x):∀ e r,bQ e r<=bQ e (cat x++r):=by
 induction h with
 | str p ah=>intro e r;rw [AQ];exact Nd (MR ah) e r
 | some=>intro e r;rw [EB,nc,qo (by omega)];exact ZB _
 | is p ah=>intro e r;rw [AQ,Nf (tU ah).1];exact ZB _
 | @left a x ax aO=>
  intro e r;have:=aO (e+1) (44::41::r);rw [qo (c:=44) (by omega),w5 (.inr rfl)] at this;rw [AN,t5 (.inr rfl)];exact this
 | @right a x ax aO=>
  intro e r;have:=aO (e+1) (41::r);rw [w5 (.inr rfl)] at this;rw [AO,t5 (.inr rfl),qo (by omega)];exact this
 | @both a b x y ax af iV iW=>
  intro e r;have ae:=iW (e+1) (41::r);rw [w5 (.inr rfl)] at ae;have ag:=iV (e+1) (44::(cat y++41::r));rw [qo (c:=44) (by omega)] at ag;rw [AP,t5 (.inr rfl)];omega
 | @way ps k y h8 aN hV aO=>
  intro e r;have ae:=aO (e+1) (93::r);rw [w5 (.inl rfl)] at ae;have ag:=(EA ps hV (e+1) (58::(cat y++93::r))).1;rw [qo (c:=58) (by omega)] at ag;rw [lEq,t5 (.inl rfl)];omega
def AR(n:Nat)(l:List Nat):Prop:=∀ s,s <:+ l->bQ 0 s<=n
theorem AR.of{n:Nat}{l s:List Nat}(h:AR n l)(ap:s <:+ l):AR n s:=λ t bh=>h t (bh.trans ap)
theorem r4{ds:List D}{n:Nat}(ae:ds.length<=n)(ag:∀ d∈ds,fu d<=n):fu (.tup ds)<=n:=by
 rw [fu];have:=wy ag;omega
theorem mY{c:Nat}{l s:List Nat}(h:s <:+ l):s <:+ c::l:=h.trans (List.suffix_cons c l)
theorem AS{f l s:List Nat}(h:s <:+ l):s <:+ f++l:=h.trans (List.suffix_append f l)
theorem Ni:∀{ps:List (D × List Str)}{p:D × List Str},p∈ps->∀ t,∃ r,cat p.2++r <:+ cat (df (ps.map (·.2)))++t
 | [],p,h,t=>absurd h eV
 | q::ps,p,h,t=>by
  rw [dF,nU,eF,db];rcases cC.mp h with rfl | h
  ·exact ⟨_,mY (jM _)⟩
  ·obtain ⟨r,ao⟩:=Ni h t;exact ⟨r,mY (AS ao)⟩
theorem Zm{ps:List (D × List Str)}{p:D × List Str}(h:p∈ps)(t:List Nat):∃ r,cat p.2++r <:+ cat (c4 (" " : Str) (ps.map (·.2)))++t:=by
 cases ps with
 | nil=>exact absurd h eV
 | cons q ps=>
  rw [dF,l1,dm,db];rcases cC.mp h with rfl | h
  ·exact ⟨_,jM _⟩
  ·obtain ⟨r,ao⟩:=Ni h t;exact ⟨r,AS ao⟩
theorem Zn{d:D}{x:List Str}(h:dW d x){n:Nat}(aH:2<=n):∀ r,AR n (cat x++r)->fu d<=n+1:=by
 have ws:∀ z:Str,fu (.str z)<=n+1:=λ z=>ef _
 induction h with
 | str p ah=>intro r _;exact ws p
 | some=>intro r _;exact r4 (by simp) λ d hd=>by simp at hd;subst hd;exact ws _
 | is p ah=>intro r _;exact r4 (by simp;omega) λ d hd=>by simp at hd;rcases hd with rfl | rfl;exact ws _;exact ef _
 | @left a x ax aO=>
  intro r ap;rw [AN] at ap;exact r4 (by simp;omega) λ d hd=>by simp at hd;rcases hd with rfl | rfl;exact ws _;exact aO _ (ap.of (mY (jM _)))
 | @right a x ax aO=>
  intro r ap;rw [AO] at ap;exact r4 (by simp;omega) λ d hd=>by simp at hd;rcases hd with rfl | rfl;exact ws _;exact aO _ (ap.of (mY (mY (jM _))))
 | @both a b x y ax af iV iW=>
  intro r ap;rw [AP] at ap
  exact r4 (by simp;omega) λ d hd=>by
   simp at hd;rcases hd with rfl | rfl | rfl
   ·exact ws _
   ·exact iV _ (ap.of (mY (jM _)))
   ·exact iW _ (ap.of (mY (AS (mY (jM _)))))
 | @way ps k y h8 aN hV aO=>
  intro r ap;rw [lEq] at ap;have ar:=(EA ps (λ p ah=>Nh (h8 p ah)) 0 (58::(cat y++93::r))).2;have ae:=ap _ (List.suffix_cons _ _);refine r4 (by simp;omega) λ d hd=>?_;simp at hd;rcases hd with rfl | rfl | rfl
  ·exact ws _
  ·refine r4 (by rw [er];omega) λ d hd=>?_;obtain ⟨p,ah,rfl⟩:=jK.mp hd;obtain ⟨bp,ao⟩:=Zm ah (58::(cat y++93::r));exact hV p ah bp (ap.of (mY ao))
  ·exact aO _ (ap.of (mY (AS (mY (jM _)))))
theorem Nj:∀ ps:List (D × List Str),(∀ p∈ps,cB p.1<=3 * p.2.length)->b4 (ps.map (·.1))<=3 * (c4 (" " : Str) (ps.map (·.2))).length
 | [],_=>ef _
 | [p],h=>by simpa [b4,c4] using h p (by simp)
 | p::q::ps,h=>by
  have aO:=Nj (q::ps) λ r ao=>h r (bY _ ao);have ah:=h p (by simp);simp only [dF,b4,c4,dE,bR] at aO ⊢;omega
theorem Zo{d:D}{x:List Str}(h:dW d x):cB d<=3 * x.length:=by
 induction h with
 | str p _=>simp [cB]
 | some=>simp [cB,b4]
 | is p _=>simp [cB,b4]
 | left _ aO=>simp only [cB,b4,bR,dE,eL] at *;omega
 | right _ aO=>simp only [cB,b4,bR,dE,eL] at *;omega
 | both _ _ iV iW=>simp only [cB,b4,bR,dE,eL] at *;omega
 | @way ps k y h8 aN hV aO=>
  have:=Nj ps hV;simp only [cB,b4,bR,dE,eL] at *;omega
theorem Nk{d:D}{x:List Str}(h:dW d x):d.data=true/\∀ r,gQ r d:=by
 induction h with
 | str p _=>exact ⟨rfl,λ r=>.str _⟩
 | some=>exact ⟨rfl,λ r=>.tup λ d hd=>by simp at hd;subst hd;exact .str _⟩
 | is p _=>exact ⟨rfl,λ r=>.tup λ d hd=>by simp at hd;rcases hd with rfl | rfl;exact .str _;exact .int _⟩
 | left _ aO=>exact ⟨by simp [D.data,c3,aO.1],λ r=>.tup λ d hd=>by simp at hd;rcases hd with rfl | rfl;exact .str _;exact aO.2 r⟩
 | right _ aO=>exact ⟨by simp [D.data,c3,aO.1],λ r=>.tup λ d hd=>by simp at hd;rcases hd with rfl | rfl;exact .str _;exact aO.2 r⟩
 | both _ _ iV iW=>exact ⟨by simp [D.data,c3,iV.1,iW.1],λ r=>.tup λ d hd=>by simp at hd;rcases hd with rfl | rfl | rfl;exact .str _;exact iV.2 r;exact iW.2 r⟩
 | @way ps k y h8 aN hV aO=>
  have hd:c3 (ps.map (·.1))=true:=p6 λ d hd=>by obtain ⟨p,ah,rfl⟩:=jK.mp hd;exact (hV p ah).1
  refine ⟨by simp [D.data,c3,aO.1,hd],λ r=>.tup λ d hd=>?_⟩;simp at hd;rcases hd with rfl | rfl | rfl
  ·exact .str _
  ·exact .tup λ d hd=>by obtain ⟨p,ah,rfl⟩:=jK.mp hd;exact (hV p ah).2 r
  ·exact aO.2 r
theorem Zp{d:D}{x:List Str}(h:dW d x):1<=x.length:=by cases h<;>simp
def Itm(x:List Str)(d:D):Prop:=(∃ z,d=.str z)\/∃ pre y post,x=pre++(y++post)/\dW d y
theorem Itm.app{x y:List Str}{d:D}(h:Itm x d)(f:List Str)(ak:y=f++x):Itm y d:=by
 rcases h with h | ⟨pre,z,post,rfl,t⟩
 ·exact .inl h
 ·exact .inr ⟨f++pre,z,post,by rw [ak,db],t⟩
theorem Itm.pre{x y:List Str}{d:D}(h:Itm x d)(f:List Str)(ak:y=x++f):Itm y d:=by
 rcases h with h | ⟨pre,z,post,rfl,t⟩
 ·exact .inl h
 ·exact .inr ⟨pre,z,post++f,by rw [ak];simp,t⟩
theorem Nl{row:List D}{x:List Str}(h:qj row x):row.length<=x.length/\∀ d∈row,Itm x d:=by
 obtain ⟨ps,rfl,rfl,h⟩:=h
 induction ps with
 | nil=>exact ⟨ZB _,λ d hd=>absurd hd eV⟩
 | cons p ps aO=>
  obtain ⟨cG,c7⟩:=aO λ q bc=>h q (bY _ bc);have ah:=h p (bT ..);have:=Zp ah;refine ⟨by simp only [dF,pA,bR,dE] at *;omega,λ d hd=>?_⟩;rw [dF] at hd;rcases cC.mp hd with rfl | hd
  ·exact .inr ⟨[],p.2,(ps.map (·.2)).flatten,by simp,ah⟩
  ·exact (c7 d hd).app p.2 (by simp)
theorem Zq{row:List D}{x:List Str}(h:tT row x):row.length<=x.length/\∀ d∈row,Itm x d:=by
 obtain ⟨b,row,y,rfl,rfl,_,h⟩:=h;obtain ⟨ae,ag⟩:=Nl h;refine ⟨by simp only [bR];omega,λ d hd=>?_⟩;rcases cC.mp hd with rfl | hd
 ·exact .inl ⟨_,rfl⟩
 ·exact (ag d hd).app [b] rfl
theorem Zr{st:List (List D)}{x:List Str}(h:mW st x):∀ fr∈st,fr.length<=x.length/\∀ d∈fr,Itm x d:=by
 induction h with
 | one h=>intro fr hf;rw [kR] at hf;subst hf;exact Nl h
 | @push t x y st h _ aO=>
  intro fr hf;rcases cC.mp hf with rfl | hf
  ·obtain ⟨ae,ag⟩:=Zq h;exact ⟨by rw [dE];omega,λ d hd=>(ag d hd).app y rfl⟩
  ·obtain ⟨ae,ag⟩:=aO fr hf;exact ⟨by rw [dE];omega,λ d hd=>(ag d hd).pre x rfl⟩
theorem EC:∀(l cur:List Nat),(cQ cR cur l).length<=2 * l.countP (λ c=>decide (c∈cR))+1
 | [],cur=>by rw [cQ];split<;>simp
 | c::r,cur=>by
  rw [cQ];split
  ·next h=>
   have ae:=EC r []
   have ag:(if cur=[] then ([]:List Str) else [cH cur]).length<=1:=by split<;>simp
   rw [List.countP_cons_of_pos (by exact decide_eq_true h),dE,bR];omega
  ·next h=>
   rw [List.countP_cons_of_neg (by rw [decide_eq_false h];decide)];exact EC r (cur++[c])
theorem ED{n:Nat}:∀(l cur:List Nat),r2 n l->∀ p∈cQ cR cur l,p.length<=1\/p.length<=n\/p.length<=(l.takeWhile ib).length+cur.length
 | [],cur,_,p,ah=>by
  rw [cQ] at ah;split at ah
  ·exact absurd ah eV
  ·rw [kR] at ah;subst ah;right;right;show (cH cur).cps.toList.length<=_;rw [gd];simp
 | c::r,cur,h,p,ah=>by
  have ao:r2 n r:=λ b=>h (b+1);rw [cQ] at ah;split at ah
  ·next ai=>
   rcases fc.mp ah with ah | ah
   ·split at ah
    ·exact absurd ah eV
    ·rw [kR] at ah;subst ah;right;right;show (cH cur).cps.toList.length<=_;rw [gd];omega
   ·rcases cC.mp ah with rfl | ah
    ·left;exact ZB _
    ·rcases ED r [] ao p ah with ae | ae | ae
     ·exact .inl ae
     ·exact .inr (.inl ae)
     ·right;left;have:=ao 0;rw [ie] at this;simp at ae;omega
  ·next ai=>
   rcases ED r (cur++[c]) ao p ah with ae | ae | ae
   ·exact .inl ae
   ·exact .inr (.inl ae)
   ·right;right;rw [md,if_pos (by unfold ib;simpa using ai)];simp only [dE,bR,eL] at ae ⊢;omega
theorem Nm{p q:Nat->Bool}(h:∀ c,p c=true->q c=true):∀ l:List Nat,(l.takeWhile p).length<=(l.takeWhile q).length
 | []=>ZB _
 | c::r=>by
  have:=Nm h r;rw [md,md];split
  ·next ah=>rw [if_pos (h c ah)];simp only [bR];omega
  ·exact ef _
theorem f6.ok{l:List Nat}(h:f6 3 l):AJ l:=by
 refine ⟨λ b=>?_,λ m b ds r e=>?_,λ b=>?_⟩
 ·have ae:=h.run b
  have ag:=Nm (p:=eN) (q:=ib) (λ c ai=>by
   unfold ib;unfold eN at ai;simp at ai ⊢
   omega) (l.drop b)
  have:r3 3=195:=rfl;omega
 ·obtain ⟨ps,aC,aG,e3⟩:=AG (w2 m) _ _ _ _ _ e;rw [jo] at aC;rw [if_pos (show ([]:List D).isEmpty=true from rfl)] at e3;have ae:=(EA ps (λ p ah=>Nh (aG p ah).2) 0 (58::r)).2;have ag:=h.bQ b;rw [e3] at ag;rw [aC,er];omega
 ·have:=h.t6 b;omega
def Ask(l:List Nat):Prop:=l.length<=50000/\(∀ p∈cQ cR [] l,p.length<=1000)/\(cQ cR [] l).length<=50000 ∧
 (∀ i st,eC [[]] ((cQ cR [] l).take i)=some st->∀ fr∈st,fr.length<=5000/\o5 fr)/\(∀ d,eC [[]] (cQ cR [] l)=some [[d]]->(∀ r,gQ r d)/\dL 49000 150 63 d)
theorem f6.ask{l:List Nat}(h:f6 3 l):Ask l:=by
 have ah:=EC l [];have ap:=h.sgn;have ai:=AH cR l [];rw [jo] at ai;refine ⟨by have:=h.len;omega,λ p ah=>?_,by omega,λ i st e fr hf=>?_,λ d e=>?_⟩
 ·have:r3 3=195:=rfl;have h0:=h.run 0;rw [ie] at h0;rcases ED l [] h.run p ah with ae | ae | ae
  ·omega
  ·omega
  ·simp at ae;omega
 ·have t:=El (x:=[]) _ (.one ⟨[],rfl,rfl,λ p ah=>absurd ah eV⟩) e;rw [jo] at t;obtain ⟨ae,ag⟩:=Zr t fr hf
  have aR:((cQ cR [] l).take i).length<=(cQ cR [] l).length:=by rw [kk];omega
  refine ⟨by omega,λ d hd=>?_⟩;rcases ag d hd with ⟨z,rfl⟩ | ⟨pre,y,post,ex,ty⟩
  ·exact ⟨rfl,by simp [D.bC]⟩
  ·refine ⟨(Nk ty).1,?_⟩
   have aC:l=cat pre++(cat y++(cat post++cat ((cQ cR [] l).drop i))):=by
    conv=>lhs;rw [<- ai,<- pC i (cQ cR [] l),dm,ex]
    simp [dm]
   have bB:=h.t6 (cat pre).length;rw [show l.drop (cat pre).length=cat y++(cat post++cat ((cQ cR [] l).drop i)) by rw [aC,yb,<- aC],ql ty] at bB;have el:=Eu ty;omega
 ·have t:=Em e;refine ⟨(Nk t).2,?_,?_,?_⟩
  ·have:=Zo t;omega
  ·have el:=Eu t;have bB:=h.t6 0;rw [ie,<- ai] at bB;omega
  ·refine Zn t (n:=62) (by omega) [] λ s ap=>?_;rw [dD,ai] at ap;obtain ⟨pre,rfl⟩:=ap;have:=h.bQ pre.length
   rwa [yb] at this
end L3
namespace L3
open PySem L2
inductive eg:Nat->D->Prop
 | is {n:Nat} (m:Int):m.natAbs < 10 ^ 12->eg n (.tup [.str "is", .int m])
 | some {n:Nat}:eg n (.tup [.str "some"])
 | left {n:Nat} {a:D}:eg n a->eg (n+1) (.tup [.str "left", a])
 | right {n:Nat} {a:D}:eg n a->eg (n+1) (.tup [.str "right", a])
 | both {n:Nat} {a b:D}:eg n a->eg n b->eg (n+1) (.tup [.str "both", a,b])
 | way {n:Nat} {ds:List D} {k:D}:(∀ d∈ds,eg n d)->ds.length<=3->eg n k->eg (n+1) (.tup [.str "way", .tup ds,k])
theorem eg.succ{n:Nat}{d:D}(h:eg n d):eg (n+1) d:=by
 induction h with
 | is m h=>exact .is m h
 | some=>exact .some
 | left _ aO=>exact .left aO
 | right _ aO=>exact .right aO
 | both _ _ cG c7=>exact .both cG c7
 | way _ h _ cG c7=>exact .way cG h c7
theorem eg.mono{n m:Nat}{d:D}(h:eg n d)(hm:n<=m):eg m d:=by
 induction hm with
 | refl=>exact h
 | step _ aO=>exact aO.succ
theorem qp{s a b:List Nat}(h:s <:+ a++b):s <:+ b\/∃ aM,aM <:+ a/\s=aM++b:=by
 obtain ⟨t,e⟩:=h;rcases List.append_eq_append_iff.mp e with ⟨u,aC,aG⟩ | ⟨u,aC,aG⟩
 ·exact .inr ⟨u,⟨t,aC.symm⟩,aG⟩
 ·exact .inl ⟨u,aG.symm⟩
structure Lt(n:Nat)(x:List Nat):Prop where
 a:∀ e r,bQ e (x++r)=bQ e r
 b:∀ s,s <:+ x->∀ r,bQ 0 r<=2->bQ 0 (s++r)<=2
 c:∀ s,s <:+ x->∀ r,nest (s++r)<=max n (nest r)
theorem EE{n:Nat}{l:List Nat}(h:∀ c∈l,c≠91/\c≠40/\c≠93/\c≠41/\c≠32):Lt n l:=by
 have key:∀{l:List Nat},(∀ c∈l,c≠91/\c≠40/\c≠93/\c≠41/\c≠32)->∀ e r,bQ e (l++r)=bQ e r:=by
  intro l
  induction l with
  | nil=>intro _ e r;rfl
  | cons c l aO=>intro h e r;rw [eF,qo (h c (bT ..)),aO λ d hd=>h d (bY _ hd)]
 have ap:∀ s,s <:+ l->∀ c∈s,c≠91/\c≠40/\c≠93/\c≠41/\c≠32:=λ s ap c ai=>h c (ap.subset ai);refine ⟨key h,λ s ae r ao=>by rw [key (ap s ae)];exact ao,λ s ae r=>?_⟩;rw [w3 λ c ai=>by have:=ap s ae c ai;omega];omega
theorem Lt.o9{n o:Nat}{t:List Nat}(aS:o=91\/o=40)(ae:∀ e r,bQ (e+1) (t++r)=bQ e r)(ag:∀ s,s <:+ t->∀ r,bQ 0 r<=2->bQ 0 (s++r)<=2)(aR:∀ s,s <:+ t->∀ r,nest (s++r)<=max n (nest r - 1)\/nest (s++r)<=nest r)(bB:∀ r,nest (t++r)<=max n (nest r - 1)):Lt (n+1) (o::t):=by
 refine ⟨λ e r=>by rw [eF,t5 aS,ae],λ s ap r ao=>?_,λ s ap r=>?_⟩
 ·rcases pE.mp ap with rfl | ap
  ·rw [eF,t5 aS,ae];exact ao
  ·exact ag s ap r ao
 ·rcases pE.mp ap with rfl | ap
  ·rw [eF,h_ aS];have:=bB r;omega
  ·rcases aR s ap r with h | h<;>omega
theorem Zs{c:Nat}(ai:c=93\/c=41){s:List Nat}(ap:s <:+ [c]){r:List Nat}(ao:bQ 0 r<=2):bQ 0 (s++r)<=2:=by
 rcases pE.mp ap with rfl | ap
 ·rw [nc,M3 ai];omega
 ·rw [List.suffix_nil.mp ap];exact ao
theorem Zt{n c:Nat}(ai:c=93\/c=41){s:List Nat}(ap:s <:+ [c])(r:List Nat):nest (s++r)<=max n (nest r - 1)\/nest (s++r)<=nest r:=by
 rcases pE.mp ap with rfl | ap
 ·rw [nc,o7 ai];left;omega
 ·rw [List.suffix_nil.mp ap];right;exact ZB _
structure fX(n:Nat)(t:List Nat):Prop where
 a:∀ e r,bQ (e+1) (t++r)=bQ e r
 z:∀ r,bQ 0 (t++r)=0
 b:∀ s,s <:+ t->∀ r,bQ 0 r<=2->bQ 0 (s++r)<=2
 c:∀ s,s <:+ t->∀ r,nest (s++r)<=max n (nest r - 1)\/nest (s++r)<=nest r
 d:∀ r,nest (t++r)<=max n (nest r - 1)
theorem fX.end_{n c:Nat}(ai:c=93\/c=41):fX n [c]:=
 ⟨λ e r=>by rw [nc,w5 ai],λ r=>by rw [nc,M3 ai],λ s ap r ao=>Zs ai ap ao,λ s ap r=>Zt ai ap r,λ r=>by rw [nc,o7 ai];omega⟩
theorem fX.put{n:Nat}{x t:List Nat}(ak:Lt n x)(bh:fX n t):fX n (x++t):=by
 refine ⟨λ e r=>by rw [db,ak.a,bh.a],λ r=>by rw [db,ak.a,bh.z],λ s ap r ao=>?_,λ s ap r=>?_,λ r=>?_⟩
 ·rcases qp ap with ap | ⟨aM,im,rfl⟩
  ·exact bh.b s ap r ao
  ·rw [db];exact ak.b aM im _ (by rw [bh.z];omega)
 ·rcases qp ap with ap | ⟨aM,im,rfl⟩
  ·exact bh.c s ap r
  ·rw [db];have ae:=ak.c aM im (t++r);have ag:=bh.d r;left;omega
 ·rw [db];have ae:=ak.c x (jM _) (t++r);have ag:=bh.d r;omega
theorem fX.sgn{n c:Nat}{t:List Nat}(ai:c=58\/c=44\/c=1000)(bh:fX n t):fX n (c::t):=by
 have:Lt n [c]:=EE λ d hd=>by rw [kR] at hd;omega
 exact fX.put this bh
theorem fX.o9{n o:Nat}{t:List Nat}(aS:o=91\/o=40)(h:fX n t):Lt (n+1) (o::t):=Lt.o9 aS h.a h.b h.c h.d
theorem Nn{n:Nat}{t:List Nat}(bh:fX n t):∀ xs:List (List Str),(∀ x∈xs,Lt n (cat x))->xs.length<=2 →
 (∀ e r,bQ (e+1) (cat (df xs)++t++r)=bQ e r)/\(∀ r,bQ 0 (cat (df xs)++t++r)=xs.length)/\(∀ s,s <:+ cat (df xs)++t->∀ r,bQ 0 r<=2->bQ 0 (s++r)<=2)/\(∀ s,s <:+ cat (df xs)++t->∀ r,nest (s++r)<=max n (nest r - 1)\/nest (s++r)<=nest r)/\∀ r,nest (cat (df xs)++t++r)<=max n (nest r - 1)
 | [],_,_=>by
  have e:cat (df [])++t=t:=rfl;rw [e];exact ⟨bh.a,bh.z,bh.b,bh.c,bh.d⟩
 | x::xs,h,ar=>by
  obtain ⟨cG,c7,xa,EF,t8⟩:=Nn bh xs (λ y bv=>h y (bY _ bv)) (by simp at ar;omega);have ak:=h x (bT ..)
  have e:cat (df (x::xs))++t=32::(cat x++(cat (df xs)++t)):=by rw [nU];simp
  rw [bR] at ar;rw [e];refine ⟨λ e r=>?_,λ r=>?_,λ s ap r ao=>?_,λ s ap r=>?_,λ r=>?_⟩
  ·rw [eF,Ev,db,ak.a,cG]
  ·rw [eF,w6,db,ak.a,c7];rfl
  ·rcases pE.mp ap with rfl | ap
   ·rw [eF,w6,db,ak.a,c7];omega
   ·rcases qp ap with ap | ⟨aM,im,rfl⟩
    ·exact xa s ap r ao
    ·rw [db];exact ak.b aM im _ (by rw [c7];omega)
  ·rcases pE.mp ap with rfl | ap
   ·rw [eF,hl (c:=32) (by omega),db];have ae:=ak.c _ (jM _) (cat (df xs)++t++r);have ag:=t8 r;left;omega
   ·rcases qp ap with ap | ⟨aM,im,rfl⟩
    ·exact EF s ap r
    ·rw [db];have ae:=ak.c aM im (cat (df xs)++t++r);have ag:=t8 r;left;omega
  ·rw [eF,hl (c:=32) (by omega),db];have ae:=ak.c _ (jM _) (cat (df xs)++t++r);have ag:=t8 r;omega
theorem Zu{n:Nat}{t:List Nat}(bh:fX n t)(xs:List (List Str))(h:∀ x∈xs,Lt n (cat x))(ar:xs.length<=3):Lt (n+1) (91::(cat (c4 (" " : Str) xs)++t)):=by
 cases xs with
 | nil=>exact bh.o9 (.inl rfl)
 | cons x xs=>
  obtain ⟨cG,c7,xa,EF,t8⟩:=Nn bh xs (λ y bv=>h y (bY _ bv)) (by simp at ar;omega);have ak:=h x (bT ..);rw [bR] at ar;rw [l1,dm,db];refine Lt.o9 (.inl rfl) (λ e r=>?_) (λ s ap r ao=>?_) (λ s ap r=>?_) λ r=>?_
  ·rw [db,ak.a,cG]
  ·rcases qp ap with ap | ⟨aM,im,rfl⟩
   ·exact xa s ap r ao
   ·rw [db];exact ak.b aM im _ (by rw [c7];omega)
  ·rcases qp ap with ap | ⟨aM,im,rfl⟩
   ·exact EF s ap r
   ·rw [db];have ae:=ak.c aM im (cat (df xs)++t++r);have ag:=t8 r;left;omega
  ·rw [db];have ae:=ak.c _ (jM _) (cat (df xs)++t++r);have ag:=t8 r;omega
theorem eg.lt{n:Nat}{d:D}(h:eg n d):∃ x,Tk d x/\Lt n (cat x):=by
 have b6:∀ l:List Nat,l++[]=l:=λ l=>dD l
 induction h with
 | is m hm=>exact ⟨_,.is m hm,by rw [AQ];exact EE λ c ai=>by have:=(DK m).1 c ai;omega⟩
 | some=>exact ⟨_,.some,by rw [EB];exact EE λ c ai=>by rw [kR] at ai;omega⟩
 | left _ aO=>
  obtain ⟨x,ae,ag⟩:=aO;refine ⟨_,.left ae,?_⟩;rw [<- b6 (cat _),AN];exact (fX.put ag ((fX.end_ (.inr rfl)).sgn (c:=44) (by omega))).o9 (.inr rfl)
 | right _ aO=>
  obtain ⟨x,ae,ag⟩:=aO;refine ⟨_,.right ae,?_⟩;rw [<- b6 (cat _),AO];exact ((fX.put ag (fX.end_ (.inr rfl))).sgn (c:=44) (by omega)).o9 (.inr rfl)
 | both _ _ cG c7=>
  obtain ⟨x,ae,ag⟩:=cG;obtain ⟨y,aR,bB⟩:=c7;refine ⟨_,.both ae aR,?_⟩;rw [<- b6 (cat _),AP];exact (fX.put ag ((fX.put bB (fX.end_ (.inr rfl))).sgn (c:=44) (by omega))).o9 (.inr rfl)
 | way _ ar _ cG c7=>
  obtain ⟨y,aR,bB⟩:=c7;obtain ⟨ps,rfl,ah⟩:=DL (P:=λ d x=>Tk d x/\Lt _ (cat x)) cG;rw [er] at ar;refine ⟨_,.way (λ p d2=>(ah p d2).1) aR (by omega),?_⟩;rw [<- b6 (cat _),lEq];exact Zu ((fX.put bB (fX.end_ (.inl rfl))).sgn (c:=58) (by omega)) _ (λ x ak=>by obtain ⟨p,d2,rfl⟩:=jK.mp ak;exact (ah p d2).2) (by rw [er];omega)
def mZ(xs:List (List Str)):List Nat:=(xs.map λ x=>1000::cat x).flatten
theorem No{n:Nat}{t:List Nat}(bh:fX n t):∀ xs:List (List Str),(∀ x∈xs,Lt n (cat x))->fX n (mZ xs++t)
 | [],_=>bh
 | x::xs,h=>by
  have aO:=No bh xs λ y bv=>h y (bY _ bv)
  have:mZ (x::xs)++t=1000::(cat x++(mZ xs++t)):=by simp [mZ]
  rw [this];exact (fX.put (h x (bT ..)) aO).sgn (c:=1000) (by omega)
theorem xb{l:List Nat}(h:∀ c∈l,c < 1000):l.map ls=l:=by
 have:l.map ls=l.map id:=so λ c ai=>by have:=h c ai;unfold ls;rw [if_neg (by omega)];rfl
 rw [this,uT]
theorem xc{l:List Nat}(h:∀ c∈l,c < 1000):l.count 1000=0:=List.count_eq_zero.mpr λ m=>by have:=h _ m;omega
theorem Np:∀ xs:List (List Str),(∀ x∈xs,∀ c∈cat x,c < 1000)->(mZ xs).map ls=cat (df xs)/\(mZ xs).count 1000=xs.length
 | [],_=>⟨rfl,rfl⟩
 | x::xs,h=>by
  obtain ⟨cG,c7⟩:=Np xs λ y bv=>h y (bY _ bv);have ak:=h x (bT ..)
  have e:mZ (x::xs)=1000::(cat x++mZ xs):=by simp [mZ]
  rw [e,dF,kQ,xb ak,cG,nU,uS,uU,xc ak,c7];exact ⟨rfl,by simp⟩
theorem Tk.lM{d:D}{x:List Str}(h:Tk d x):dW d x:=by
 induction h with
 | is n aH=>
  have ae:=(LF aH).1
  have:ln (e2 n)=n:=by unfold ln;rw [ae];rfl
  have t:=dW.is (e2 n) (W0 aH)
  rwa [this] at t
 | some=>exact .some
 | left _ aO=>exact .left aO
 | right _ aO=>exact .right aO
 | both _ _ cG c7=>exact .both cG c7
 | way _ _ _ cG c7=>exact .way cG c7
theorem Tk.low{d:D}{x:List Str}(h:Tk d x):∀ c∈cat x,c < 1000:=by
 have b6:∀ l:List Nat,l++[]=l:=λ l=>dD l
 have it:∀ ps:List (D × List Str),(∀ p∈ps,∀ c∈cat p.2,c < 1000)->∀ c∈cat (df (ps.map (·.2))),c < 1000:=by
  intro ps
  induction ps with
  | nil=>intro _ c ai;exact absurd ai eV
  | cons p ps aO=>
   intro h c ai;rw [dF,nU] at ai;rcases cC.mp ai with rfl | ai
   ·omega
   ·rcases fc.mp ai with ai | ai
    ·exact h p (bT ..) c ai
    ·exact aO (λ q bc=>h q (bY _ bc)) c ai
 induction h with
 | is m hm=>intro c ai;rw [AQ] at ai;have:=(DK m).1 c ai;omega
 | some=>intro c ai;rw [EB,kR] at ai;omega
 | left _ aO=>
  intro c ai;rw [<- b6 (cat _),AN] at ai;simp only [cC,fc,eV,or_false] at ai;rcases ai with h | h | h | h
  ·omega
  ·exact aO c h
  ·omega
  ·omega
 | right _ aO=>
  intro c ai;rw [<- b6 (cat _),AO] at ai;simp only [cC,fc,eV,or_false] at ai;rcases ai with h | h | h | h
  ·omega
  ·omega
  ·exact aO c h
  ·omega
 | both _ _ cG c7=>
  intro c ai;rw [<- b6 (cat _),AP] at ai;simp only [cC,fc,eV,or_false] at ai;rcases ai with h | h | h | h | h
  ·omega
  ·exact cG c h
  ·omega
  ·exact c7 c h
  ·omega
 | @way ps k y h8 aN ar hV aO=>
  intro c ai;rw [<- b6 (cat _),lEq] at ai;simp only [cC,fc,eV,or_false] at ai;rcases ai with h | h | h | h | h
  ·omega
  ·cases ps with
   | nil=>exact absurd h eV
   | cons p ps=>
    rw [dF,l1,dm] at h;rcases fc.mp h with h | h
    ·exact hV p (bT ..) c h
    ·exact it ps (λ q bc=>hV q (bY _ bc)) c h
  ·omega
  ·exact aO c h
  ·omega
theorem Nq:∀(l cur:List Nat),cur++l.takeWhile ib≠[]->∃ p∈cQ cR cur l,cur.length+(l.takeWhile ib).length<=p.length
 | [],cur,h=>by
  have ai:cur≠[]:=by simpa using h
  rw [cQ,if_neg ai];exact ⟨_,kR.mpr rfl,by show _<=(cH cur).cps.toList.length;rw [gd];simp⟩
 | c::r,cur,h=>by
  rw [cQ];by_cases ai:c∈cR
  ·have aH:¬ ib c=true:=by unfold ib;rw [decide_eq_true_iff];exact λ z=>z ai
   rw [md,if_neg aH] at h ⊢
   have Zv:cur≠[]:=by simpa using h
   rw [if_pos ai,if_neg Zv];exact ⟨cH cur,by simp,by show _<=(cH cur).cps.toList.length;rw [gd];simp⟩
  ·have aH:ib c=true:=by unfold ib;simpa using ai
   rw [if_neg ai,md,if_pos aH];obtain ⟨p,ae,ag⟩:=Nq r (cur++[c]) (by simp);exact ⟨p,ae,by simp only [dE,bR,eL] at ag ⊢;omega⟩
theorem EG{n:Nat}:∀(l cur:List Nat),(∀ p∈cQ cR cur l,p.length<=n)->r2 n l
 | [],cur,_,b=>by simp
 | c::r,cur,h,0=>by
  rw [ie]
  by_cases z:cur++(c::r).takeWhile ib=[]
  ·have:=congrArg mc z;simp only [dE,eL] at this;omega
  ·obtain ⟨p,ae,ag⟩:=Nq (c::r) cur z;have:=h p ae;omega
 | c::r,cur,h,b+1=>by
  rw [uQ];by_cases ai:c∈cR
  ·exact EG r [] (λ p ah=>h p (by rw [cQ,if_pos ai];simp [ah])) b
  ·exact EG r (cur++[c]) (λ p ah=>h p (by rw [cQ,if_neg ai];exact ah)) b
theorem EH:∀(l cur:List Nat),l.countP (λ c=>decide (c∈cR))<=(cQ cR cur l).length
 | [],cur=>ef _
 | c::r,cur=>by
  rw [cQ];split
  ·next h=>
   have:=EH r [];rw [List.countP_cons_of_pos (by exact decide_eq_true h),dE,bR];omega
  ·next h=>
   rw [List.countP_cons_of_neg (by rw [decide_eq_false h];decide)];exact EH r (cur++[c])
def xd(d:D):Prop:=eg 39 d\/∃ ds k,d=.tup [.str "way", .tup ds,k]/\ds.length<=40/\(∀ e∈ds,eg 2 e)/\eg 2 k
theorem Lt.EI{n:Nat}{x:List Nat}(h:Lt n x):(∀ b,nest (x.drop b)<=n)/\iD 2 x:=by
 refine ⟨λ b=>?_,.of λ b=>?_⟩
 ·have:=h.c _ (List.drop_suffix b x) [];rw [dD] at this;simp only [nest] at this;omega
 ·have:=h.b _ (List.drop_suffix b x) [] (by simp [bQ])
  rwa [dD] at this
theorem xd.o6{d:D}(h:xd d)(ap:cB d<=1150):∃ x,Tk d x/\f6 0 (cat x):=by
 have rest:∀ x,Tk d x->(∀ b,nest ((cat x).drop b)<=40)->(∃ m:List Nat,m.map ls=cat x/\m.count 1000<=39/\fM 1 m)->f6 0 (cat x):=λ x t aH hw=>by
  have ar:=t.len;have ah:=t.pieces;have Zw:=EH (cat x) [];rw [ah] at Zw;refine ⟨by have:=DN t.nP;omega,by omega,EG (cat x) [] (by rw [ah];exact t.nP),aH,hw,t.low⟩
 rcases h with h | ⟨ds,k,rfl,ar,hd,aN⟩
 ·obtain ⟨x,t,l⟩:=h.lt;obtain ⟨ae,ag⟩:=l.EI;refine ⟨x,t,rest x t (λ b=>by have:=ae b;omega) ⟨cat x,xb t.low,by rw [xc t.low];omega,?_⟩⟩;have:=fM.one ag .nil
  rwa [dD] at this
 ·obtain ⟨y,ty,Zx⟩:=aN.lt;obtain ⟨ps,rfl,ah⟩:=DL (P:=λ d x=>Tk d x/\Lt 2 (cat x)) λ d kT=>(hd d kT).lt;rw [er] at ar
  have i4:=λ x (ak:x∈ps.map (·.2))=>show Lt 2 (cat x) by obtain ⟨p,d2,rfl⟩:=jK.mp ak;exact (ah p d2).2
  have t:Tk (.tup [.str "way", .tup (ps.map (·.1)),k]) _:=.way (λ p d2=>(ah p d2).1) ty ar;have lc:fX 2 (58::(cat y++[93])):=(fX.put Zx (fX.end_ (.inl rfl))).sgn (c:=58) (by omega);have qq:=lEq ps y [];rw [dD] at qq
  have Zy:∀ b,nest ((91::(cat (c4 (" " : Str) (ps.map (·.2)))++58::(cat y++[93]))).drop b)<=40:=by
   have AU:∀ xs:List (List Str),(∀ x∈xs,Lt 2 (cat x))->∀ s,s <:+ cat (df xs)++(58::(cat y++[93]))->nest s<=2:=by
    intro xs
    induction xs with
    | nil=>
     intro _ s ap;have:=lc.c s ap [];rw [dD] at this;simp only [nest] at this;omega
    | cons x xs aO=>
     intro h s ap;have ak:=h x (bT ..);have i:=aO λ z hz=>h z (bY _ hz);rw [nU,eF,db] at ap;have EJ:=i _ (jM _);rcases pE.mp ap with rfl | ap
     ·rw [hl (c:=32) (by omega)];have:=ak.c _ (jM _) (cat (df xs)++(58::(cat y++[93])));omega
     ·rcases qp ap with ap | ⟨aM,im,rfl⟩
      ·exact i s ap
      ·have:=ak.c aM im (cat (df xs)++(58::(cat y++[93])));omega
   intro b;have ap:=List.drop_suffix b (91::(cat (c4 (" " : Str) (ps.map (·.2)))++58::(cat y++[93])))
   have tp:∀ s,s <:+ cat (c4 (" " : Str) (ps.map (·.2)))++58::(cat y++[93])->nest s<=2:=by
    intro s ap
    cases ps with
    | nil=>exact AU [] (λ x ak=>absurd ak eV) s ap
    | cons p ps=>
     rw [dF,l1,dm,db] at ap;have af:=AU (ps.map (·.2)) λ x ak=>i4 x (by simp at ak ⊢;exact .inr ak);rcases qp ap with ap | ⟨aM,im,rfl⟩
     ·exact af s ap
     ·have ae:=(i4 p.2 (by simp)).c aM im (cat (df (ps.map (·.2)))++(58::(cat y++[93])));have ag:=af _ (jM _);omega
   rcases pE.mp ap with e | ap
   ·rw [e,h_ (.inl rfl)];have:=tp _ (jM _);omega
   ·have:=tp _ ap;omega
  refine ⟨_,t,rest _ t (by rw [qq];exact Zy) ?_⟩;rw [qq]
  cases ps with
  | nil=>
   have l:=(lc.o9 (o:=91) (.inl rfl)).EI.2;have low:=t.low;rw [qq] at low;refine ⟨_,xb low,by rw [xc low];omega,?_⟩;have:=fM.one l .nil
   rwa [dD] at this
  | cons p ps=>
   rw [bR] at ar;have lm:fX 2 (cat p.2++(mZ (ps.map (·.2))++58::(cat y++[93]))):=fX.put (i4 p.2 (by simp)) (No lc _ λ x ak=>i4 x (by simp at ak ⊢;exact .inr ak));have l:=(lm.o9 (o:=91) (.inl rfl)).EI.2
   obtain ⟨cY,du⟩:=Np (ps.map (·.2)) λ x ak=>by
    obtain ⟨q,bc,rfl⟩:=jK.mp ak;exact (ah q (bY _ bc)).1.low
   have zJ:=(ah p (bT ..)).1.low
   have le:∀ c∈58::(cat y++[93]),c < 1000:=λ c ai=>by
    simp only [cC,fc,eV,or_false] at ai;rcases ai with h | h | h
    ·omega
    ·exact ty.low c h
    ·omega
   refine ⟨91::(cat p.2++(mZ (ps.map (·.2))++58::(cat y++[93]))),?_,?_,?_⟩
   ·rw [dF,kQ,kQ,xb zJ,cY,xb le,dF,l1,dm,db];rfl
   ·rw [uS,uU,uU,xc zJ,du,xc le,er];simp;omega
   ·have:=fM.one l .nil
    rwa [dD] at this
end L3
namespace L3
open PySem L2
section
variable{k:Int}{a b:D}{ds:List D}
theorem Zz(aN:0 < k)(h:eg (k - 1).toNat a):eg k.toNat (.tup [.str "left", a]):=by rw [show k.toNat=(k - 1).toNat+1 by omega];exact .left h
theorem ZA(aN:0 < k)(h:eg (k - 1).toNat a):eg k.toNat (.tup [.str "right", a]):=by rw [show k.toNat=(k - 1).toNat+1 by omega];exact .right h
theorem ZC(aN:0 < k)(h:eg (k - 1).toNat a)(g:eg (k - 1).toNat b):eg k.toNat (.tup [.str "both", a,b]):=by rw [show k.toNat=(k - 1).toNat+1 by omega];exact .both h g
theorem EK(aN:0 < k)(h:∀ d∈ds,eg (k - 1).toNat d)(ar:ds.length<=3)(g:eg (k - 1).toNat a):eg k.toNat (.tup [.str "way", .tup ds,a]):=by rw [show k.toNat=(k - 1).toNat+1 by omega];exact .way h ar g
end
theorem Nr{k:Int}{j:Int}{d:D}(cD:j<=k)(h:dL (4 * 3 ^ j.toNat) (j.toNat+1) 3 d):dL (5 * 5 ^ k.toNat) (2 * k.toNat+3) 3 d:=by
 have ae:=sA k.toNat 5 (by decide);have ag:3 ^ j.toNat<=3 ^ k.toNat:=yk (by decide) (by omega);have aR:3 ^ k.toNat<=5 ^ k.toNat:=Nat.pow_le_pow_left (by decide) _;exact h.mono (by omega) (by omega) (ZB _)
theorem Nt{k:Int}{z:Str}{a:D}(aN:0 < k)(ae:dL (5 * 5 ^ (k - 1).toNat) (2 * (k - 1).toNat+3) 3 a):dL (5 * 5 ^ k.toNat) (2 * k.toNat+3) 3 (.tup [.str z,a]):=by
 have e:k.toNat=(k - 1).toNat+1:=by omega
 have:=sA (k - 1).toNat 5 (by decide);have:=ae.eW;have:=ae.bC;have:=ae.h7;rw [e,yi];exact ⟨by simp only [cB,b4];omega,by simp only [D.bC,cc];omega,by simp only [fu,jh,bR,eL];omega⟩
theorem EL{k:Int}{ds:List D}{a:D}(aN:0 < k)(h:∀ d∈ds,dL (5 * 5 ^ (k - 1).toNat) (2 * (k - 1).toNat+3) 3 d)(ar:ds.length<=3)(ae:dL (5 * 5 ^ (k - 1).toNat) (2 * (k - 1).toNat+3) 3 a):dL (5 * 5 ^ k.toNat) (2 * k.toNat+3) 3 (.tup [.str "way", .tup ds,a]):=by
 have e:k.toNat=(k - 1).toNat+1:=by omega
 have:=sA (k - 1).toNat 5 (by decide);have:=ae.eW;have:=ae.bC;have:=ae.h7;have s1:=Dl λ d hd=>(h d hd).eW;have s2:ds.length * (5 * 5 ^ (k - 1).toNat)<=3 * (5 * 5 ^ (k - 1).toNat):=yj _ ar;have s3:=zR λ d hd=>(h d hd).bC;have s4:=wy λ d hd=>(h d hd).h7;rw [e,yi];exact ⟨by simp only [cB,b4];omega,by simp only [D.bC,cc];omega,by simp only [fu,jh,bR,eL];omega⟩
def xf(n:Nat):fJ:=λ ds G Q=>∃(a:Addr)(k:Int),ds=[.ref a,.int k]/\h6 G a/\0<=k/\k < n/\∀ d au,e0 a G au->gy d->g5 d=true->eg k.toNat d->dL (4 * 3 ^ k.toNat) (k.toNat+1) 3 d->Q d au
def t9(n:Nat):fJ:=λ ds G Q=>∃(a:Addr)(k:Int),ds=[.ref a,.int k]/\h6 G a/\0<=k/\k < n/\k<=4/\∀ d au,fK a G au->gy d->(k=0->g5 d=true)->eg k.toNat d->dL (5 * 5 ^ k.toNat) (2 * k.toNat+3) 3 d->Q d au
def t_:fJ:=λ ds G Q=>∃ a,ds=[.ref a]/\h6 G a/\∀ d au,fK a G au->gy d->xd d->dL 1150 120 40 d->Q d au
inductive jk:D->D->Prop
 | same (d:D):jk d d
 | swap (xs:List D) (a b:D) (aD:List D) (k:D):jk (.tup [.str "way", .tup (xs++a::b::aD),k]) (.tup [.str "way", .tup (xs++b::a::aD),k])
 | left {a a':D}:jk a a'->jk (.tup [.str "left", a]) (.tup [.str "left", a'])
 | right {a a':D}:jk a a'->jk (.tup [.str "right", a]) (.tup [.str "right", a'])
 | both {a b gp:D}:jk b gp->jk (.tup [.str "both", a,b]) (.tup [.str "both", a,gp])
 | way {ds:List D} {k sV:D}:jk k sV->jk (.tup [.str "way", .tup ds,k]) (.tup [.str "way", .tup ds,sV])
theorem EM(xs:List D)(a b:D)(aD:List D):(xs++a::b::aD).Perm (xs++b::a::aD):=(List.Perm.swap b a aD).append_left xs
theorem ZD{xs aD:List D}(h:xs.Perm aD):cc xs=cc aD:=by
 induction h with
 | nil=>rfl
 | cons _ _ aO=>rw [cc,cc,aO]
 | swap _ _ _=>rw [cc,cc,cc,cc];omega
 | trans _ _ ae ag=>rw [ae,ag]
theorem jk.eW{d d':D}(h:jk d d'):cB d'=cB d/\d'.bC=d.bC:=by
 induction h with
 | same d=>exact ⟨rfl,rfl⟩
 | swap xs a b aD k=>
  have p:=EM xs a b aD;exact ⟨by simp only [cB,b4];rw [Dk p],by simp only [D.bC,cc];rw [ZD p]⟩
 | left _ aO=>exact ⟨by simp only [cB,b4,aO.1],by simp only [D.bC,cc,aO.2]⟩
 | right _ aO=>exact ⟨by simp only [cB,b4,aO.1],by simp only [D.bC,cc,aO.2]⟩
 | both _ aO=>exact ⟨by simp only [cB,b4,aO.1],by simp only [D.bC,cc,aO.2]⟩
 | way _ aO=>exact ⟨by simp only [cB,b4,aO.1],by simp only [D.bC,cc,aO.2]⟩
theorem jk.Nu{d d':D}(h:jk d d'):∀{n:Nat},eg n d->eg n d':=by
 induction h with
 | same d=>exact λ h=>h
 | swap xs a b aD k=>
  intro n h;have p:=EM xs a b aD
  cases h with
  | way ae ag aR=>exact .way (λ d hd=>ae d (p.mem_iff.mpr hd)) (by rw [<- p.length_eq];exact ag) aR
 | left _ aO=>intro n h;cases h with | left h=>exact .left (aO h)
 | right _ aO=>intro n h;cases h with | right h=>exact .right (aO h)
 | both _ aO=>intro n h;cases h with | both h g=>exact .both h (aO g)
 | way _ aO=>intro n h;cases h with | way ae ag aR=>exact .way ae ag (aO aR)
theorem jk.ua{d d':D}(h:jk d d')(hd:xd d):xd d':=by
 rcases hd with hd | ⟨ds,k,rfl,ar,ae,ag⟩
 ·exact .inl (h.Nu hd)
 ·cases h with
  | same=>exact .inr ⟨ds,k,rfl,ar,ae,ag⟩
  | swap xs a b aD k=>
   have p:=EM xs a b aD;exact .inr ⟨_,_,rfl,by rw [<- p.length_eq];exact ar,λ d hd=>ae d (p.mem_iff.mpr hd),ag⟩
  | way h=>exact .inr ⟨_,_,rfl,ar,ae,h.Nu ag⟩
def xg(n:Nat):fJ:=λ ds G Q=>∃(a:Addr)(d:D),ds=[.ref a,d]/\h6 G a/\gy d/\d.bC < n/\fu d<=40/\∀ d' au,e0 a G au->jk d d'->Q d' au
end L3
namespace L3
open PySem L2 PySem.NumText PyProof.Rows PySem.W PySem.W.KIN
open Builtin Builtin.Str in
theorem ZE{w:Str}{r:List Nat}(h:w.cps.toList=45::r):(mX w "-" "").cps.toList=r:=by
 have ar:w.cps.toList.length=w.length:=fO;rw [h,bR] at ar
 have k1:(("-" : String):Str).length=1:=by decide
 have k2:(("-" : String):Str).cps=#[45]:=by decide +kernel
 have Nv:StrLaws.At w "-" w.length 0:=by
  refine ⟨by rw [k1];omega,?_⟩;unfold subAt;rw [k1,k2,beq_iff_eq];apply yp.mp;rw [uV,h];rfl
 have aS:occurrences w "-" 0 w.length 1=[0]:=by
  rcases StrLaws.occ_head w "-" 1 (ZB _) with ⟨_,aH⟩ | ⟨i,t,e,av,aH⟩
  ·exact absurd Nv (aH 0)
  ·have ZF:i=0:=by
    rcases Nat.eq_zero_or_pos i with h | h
    ·exact h
    ·exact absurd Nv (aH 0 h)
   have hlen:=StrLaws.occ_length_le w "-" 0 w.length 1;rw [e,bR] at hlen;have:t=[]:=yd (by omega);rw [e,ZF,this]
 unfold mX;rw [aS,if_neg (by decide +kernel),k1];have aC:partsBetween w [0] 1=[strSub w 0 0,strSub w 1 w.length]:=rfl;rw [aC];unfold glued strSub;show (((w.cps.extract 0 0)++(("" : String):Str).cps++(w.cps.extract 1 w.length)).toList)=r
 have k3:(("" : String):Str).cps=#[]:=by decide
 rw [k3,Array.toList_append,Array.toList_append,uV,uV,h];simp [ar.symm]
theorem ZG{cs:List Nat}(hd:uK cs)(ep:cs≠[])(h:cs.head?≠some 48\/cs=[48]):iQ (xY cs)=cs:=by
 have ar:cs.length=(cs.length - 1)+1:=by have:=x_.mpr ep;omega
 have t:=toDigits_digitsVal (cs.length - 1) cs ar hd (by
  cases cs with
  | nil=>exact absurd rfl ep
  | cons c r=>
   rcases h with h | h
   ·have ai:=hd c (bT ..);have:c≠48:=λ e=>h (by rw [e];rfl);exact .inr ⟨c,r,rfl,by omega⟩
   ·cases h;exact .inl rfl)
 show (qJ 10 (xY cs)).map Char.toNat=cs;rw [t,sv]
 have:cs.map (Char.toNat ∘ Char.ofNat)=cs.map id:=so λ c ai=>by
  have ai:=hd c ai
  have key:∀ c < 58,(Char.toNat ∘ Char.ofNat) c=c:=by decide +kernel
  exact key c (by omega)
 rw [this,uT]
section
variable{w:Str}(hw:∀ c∈w.cps.toList,eN c=true)
theorem ZH(w:Str):∀ c∈(bare w).cps.toList,c∈w.cps.toList:=by
 intro c ai;by_cases h:w.cps.toList.head?=some 45
 ·cases e:w.cps.toList with
  | nil=>rw [e] at h;cases h
  | cons a r=>rw [e] at h;cases h;rw [wW e] at ai;exact bY _ ai
 ·rw [tR h] at ai;exact ai
include hw in
theorem Nw(h:45 ∉ (bare w).cps.toList):uK (bare w).cps.toList:=λ c ai=>by
 have ae:=hw c (ZH w c ai);have ag:c≠45:=λ e=>h (e ▸ ai);unfold eN at ae;simp at ae;omega
theorem ZI{w:Str}(h:bare w = ""):fh w=false:=by
 unfold fh;rw [h,decide_eq_false (by decide)];rfl
theorem ZJ{w:Str}(h:12 < (bare w).length):fh w=false:=by
 unfold fh;rw [show decide (((bare w).length:Int)<=12)=false from decide_eq_false (by omega)];simp
theorem ZK{w:Str}(h:45∈(bare w).cps.toList):fh w=false:=by
 unfold fh
 have:j_ (bare w) jz=false:=by
  rw [yq];intro k;have:=Ec k 45 h;omega
 rw [this];simp
theorem Nx{w:Str}(h:w = "-0"):fh w=false:=by subst h;decide +kernel
include hw in
theorem ZL(ep:bare w≠"")(ar:(bare w).length<=12)(h:45 ∉ (bare w).cps.toList):∃ m:Nat,n6 (bare w)=some (m:Int)/\m < 10 ^ 12/\m=xY (bare w).cps.toList:=by
 have hd:=Nw hw h;have e:(bare w).cps.toList.length=(bare w).length:=fO;have ne:(bare w).cps.toList≠[]:=λ z=>ep (iR (by rw [z];decide));refine ⟨_,Bm hd ne (by omega),?_,rfl⟩
 have key:∀(cs:List Nat)(acc:Nat),uK cs->cs.foldl (λ acc c=>acc * 10+(c - 48)) acc < (acc+1) * 10 ^ cs.length:=by
  intro cs
  induction cs with
  | nil=>intro acc _;simp
  | cons c cs aO=>
   intro acc h;have i:=aO (acc * 10+(c - 48)) λ d hd=>h d (bY _ hd);have ai:=h c (bT ..);rw [List.foldl_cons,bR,yi];have ag:(acc * 10+(c - 48)+1) * 10 ^ cs.length<=(10 * (acc+1)) * 10 ^ cs.length:=yj _ (by omega)
   have aR:(10 * (acc+1)) * 10 ^ cs.length=(acc+1) * (10 ^ cs.length * 10):=by rw [Nat.mul_comm 10 (acc+1),Nat.mul_assoc,Nat.mul_comm 10]
   omega
 have k:=key (bare w).cps.toList 0 hd;rw [Nat.zero_add,Nat.one_mul] at k;exact hX k (yk (by decide) (by omega))
include hw in
theorem ZM(ep:bare w≠"")(ar:(bare w).length<=12)(h:45 ∉ (bare w).cps.toList){m:Nat}(hm:m=xY (bare w).cps.toList)(h0:w≠"-0"):fh w=(e2 (m:Int)==bare w):=by
 have hd:=Nw hw h;have e:(bare w).cps.toList.length=(bare w).length:=fO;have ne:(bare w).cps.toList≠[]:=λ z=>ep (iR (by rw [z];decide));have afy:=x_.mpr ne
 have q0:j_ (bare w) jz=true:=by
  unfold j_;rw [DJ,lz];intro c ai;have:=hd c ai;rw [decide_eq_true_iff];simp;omega
 unfold fh;rw [q0,decide_eq_true (show 1<=((bare w).length:Int) by omega),decide_eq_true (show ((bare w).length:Int)<=12 by omega),Dx,rB];simp only [Bool.true_and,Bool.and_true];have aG:=Al m;by_cases c:(bare w).cps.toList.head?=some 48
 ·rw [show ((bare w).cps.toList.head?==some 48)=true from by rw [c];rfl,Bool.not_true,Bool.false_or];rw [pF,beq_iff_eq,beq_iff_eq];have k0:(⟨#[48]⟩:Str).cps.toList=[48]:=rfl;constructor
  ·intro ae;have af:bare w=w:=tR (by rw [ae,k0];simp);rw [af,ae] at hm ⊢;rw [k0] at hm;rw [hm];decide +kernel
  ·intro ae
   have ag:(bare w).cps.toList=iQ m:=by rw [<- ae,aG]
   have ZN:m=0:=by
    rcases Nat.eq_zero_or_pos m with z | z
    ·exact z
    ·exact absurd (by rw [<- ag];exact c) (DI m z)
   have af:(bare w).cps.toList=[48]:=by rw [ag,ZN];decide +kernel
   by_cases d8:w.cps.toList.head?=some 45
   ·cases ot:w.cps.toList with
    | nil=>rw [ot] at d8;cases d8
    | cons a r=>
     rw [ot] at d8;cases d8;rw [wW ot] at af;exact absurd (iR (by rw [ot,af];decide +kernel)) h0
   ·rw [tR d8] at af;exact iR (by rw [af,k0])
 ·rw [show ((bare w).cps.toList.head?==some 48)=false from beq_eq_false_iff_ne.mpr c,Bool.not_false,Bool.true_or];have:e2 (m:Int)=bare w:=iR (by rw [aG,hm];exact ZG hd ne (.inl c));rw [this];simp
end
theorem ZO{w:Str}(h:w.cps.toList.head?=some 45):mX w "-" "" = bare w:=by
 cases e:w.cps.toList with
 | nil=>rw [e] at h;cases h
 | cons a r=>rw [e] at h;cases h;exact iR (by rw [ZE e,wW e])
theorem AV{z:Str}{a e:Nat}(ae:a<=e)(ag:e<=z.length):Txt.slice z (some (a:Int)) (some (e:Int))=cH ((z.cps.toList.drop a).take (e - a)):=by
 have ar:z.cps.toList.length=z.length:=fO;rw [eq_of_beq (yu (x:=z) (i:=(a:Int)) (j:=(e:Int)) ⟨by omega,by omega,by rw [ar];omega⟩)];refine iR ?_;rw [gd];show (z.cps.toList.drop (a:Int).toNat).take ((e:Int) - (a:Int)).toNat=_;rw [show ((e:Int) - (a:Int)).toNat=e - a by omega,u3]
theorem Ny(x:Str)(b:Option Int):Txt.slice x none b=Txt.slice x (some 0) b:=by
 show StrLaws.sliceText x none b=StrLaws.sliceText x (some 0) b
 have e:Builtin.Str.strSliceIndices none b 1 x.length=Builtin.Str.strSliceIndices (some 0) b 1 x.length:=by
  have aR:(1:Int) > 0:=by decide
  have bB:¬ (0:Int) < 0:=by decide
  have el:min (0:Int) (x.length:Int)=0:=by omega
  have mx:max (0:Int) 0=0:=rfl;simp only [Builtin.Str.strSliceIndices,aR,bB,el,mx,if_true,if_false]
 unfold StrLaws.sliceText;rw [e]
theorem ZP(w:Str){p:Str}{c:Nat}(ah:p=cH [c]):(Txt.slice w none (some 1)==p)=decide (w.cps.toList.head?=some c):=by
 rw [Ny];have:=AK (z:=w) (a:=0) (ef _) ah;rw [ie] at this;exact this
open Builtin Builtin.Str in
theorem ZQ(w:Str):(mX w "-" "").length<=w.length:=by
 unfold mX;split
 ·exact ZB _
 ·rcases StrLaws.occ_head w "-" 1 (ZB _) with ⟨e,_⟩ | ⟨i,t,e,av,_⟩
  ·rw [e]
   have k3:(("" : String):Str).cps=#[]:=by decide
   show ((w.cps.extract 0 w.length)).size<=w.length;rw [Array.size_extract];show _<=w.cps.size;omega
  ·have hlen:=StrLaws.occ_length_le w "-" 0 w.length 1;rw [e,bR] at hlen;have bh:t=[]:=yd (by omega);subst bh;rw [e]
   have k3:(("" : String):Str).cps=#[]:=by decide
   have wv:=av.1;show ((w.cps.extract 0 i)++(("" : String):Str).cps++(w.cps.extract (i+(("-" : String):Str).length) w.length)).size<=w.length;rw [k3,yn,yn,Array.size_extract,Array.size_extract];have:w.cps.size=w.length:=rfl;simp only [Array.size_empty] at *;omega
theorem Nz(x:Str):(!(Builtin.Str.occurrences x "-" 0 x.length 1).isEmpty)=decide (45∈x.cps.toList):=by
 have:(("-" : String):Str)=⟨#[45]⟩:=by decide +kernel
 rw [this];exact StrLaws.found_one x 45
theorem ZR{l:List Nat}{a e c:Nat}(EN:a<=e)(hd:l.drop e=c::l.drop (e+1))(ai:eN c=true)(h:(l.drop a).takeWhile eN=(l.drop a).take (e - a)++(l.drop e).takeWhile eN):(l.drop a).takeWhile eN=(l.drop a).take (e+1 - a)++(l.drop (e+1)).takeWhile eN:=by
 have aC:(l.drop a).take (e+1 - a)=(l.drop a).take (e - a)++[c]:=by
  rw [show e+1 - a=(e - a)+1 by omega,su]
  have:(l.drop a)[e - a]?=some c:=by
   rw [List.getElem?_drop,show a+(e - a)=e by omega];have:=congrArg List.head? hd;rw [List.head?_drop] at this;exact this
  rw [this];rfl
 rw [h,hd,md,if_pos ai,aC,db];rfl
end L3
namespace L3
open PySem L2
def EO:Option (D × List Nat)->D
 | some (d,[])=>d
 | _=>.a9
def l3:Option (D × List Nat)->D
 | some (d,[])=>d
 | _=>.tup [.str "refused", .int 0,.aI false]
def EP(n:Nat):fJ:=λ ds G Q=>∃ z:Str,ds=[.str z]/\z.length<=50000/\AJ z.cps.toList/\nest z.cps.toList < n/\Q (EO (cU n z.cps.toList)) G
def EQ(n:Nat):fJ:=λ ds G Q=>∃ z:Str,ds=[.str z]/\Ask z.cps.toList/\nest z.cps.toList < n/\Q (l3 (cU n z.cps.toList)) G
def ER:fJ:=λ ds G Q=>∃(a:Addr)(z:Str)(j:Nat),ds=[.ref a,.str z]/\h6 G a/\f6 j z.cps.toList/\j < 3/\∀ fQ au,e0 a G au->f6 (j+1) fQ.cps.toList->Q (.str fQ) au
theorem NA{n:Nat}{l:List Nat}(aH:nest l < n):(∀ d,eC [[]] (cQ cR [] l)=some [[d]]->eb d->l3 (cU n l)=d)/\((¬ ∃ d,eC [[]] (cQ cR [] l)=some [[d]]/\eb d)->l3 (cU n l)=.tup [.str "refused", .int 0,.aI false]):=by
 refine ⟨λ d h k=>?_,λ h=>?_⟩
 ·rw [(AI aH d).mp ⟨h,k⟩];rfl
 ·match ah:cU n l with
  | none=>rfl
  | some (d,[])=>exact absurd ⟨d,(AI aH d).mpr ah⟩ h
  | some (d,c::r)=>rfl
theorem ZS{x:Str}{k:Int}{b:Option Int}(h:(x.length:Int)<=k):Txt.slice x (some k) b=Txt.slice x (some (x.length:Int)) b:=by
 show StrLaws.sliceText x (some k) b=StrLaws.sliceText x (some (x.length:Int)) b
 have e:Builtin.Str.strSliceIndices (some k) b 1 x.length=Builtin.Str.strSliceIndices (some (x.length:Int)) b 1 x.length:=by
  have h0:¬ k < 0:=by omega
  have ae:¬ (x.length:Int) < 0:=by omega
  have ag:min k (x.length:Int)=min (x.length:Int) (x.length:Int):=by omega
  have aR:(1:Int) > 0:=by decide
  simp only [Builtin.Str.strSliceIndices,h0,ae,if_false,ag,aR,if_true]
 unfold StrLaws.sliceText;rw [e]
theorem ZT(x:Str)(a:Option Int):Txt.slice x a none=Txt.slice x a (some (x.length:Int)):=by
 show StrLaws.sliceText x a none=StrLaws.sliceText x a (some (x.length:Int))
 have e:Builtin.Str.strSliceIndices a none 1 x.length=Builtin.Str.strSliceIndices a (some (x.length:Int)) 1 x.length:=by
  have ae:¬ (x.length:Int) < 0:=by omega
  have ag:max (0:Int) (x.length:Int)=(x.length:Int):=by omega
  have aR:(1:Int) > 0:=by decide
  simp only [Builtin.Str.strSliceIndices,ae,if_false,Int.min_self,ag,aR,if_true]
 unfold StrLaws.sliceText;rw [e]
theorem ZU{z:Str}{k:Nat}(h:k<=z.length):Txt.slice z none (some (k:Int))=cH (z.cps.toList.take k):=by
 rw [Ny];have:=AV (z:=z) (a:=0) (e:=k) (ef _) h;rw [ie,yf] at this;exact this
theorem ZV(z:Str)(k:Nat):Txt.slice z (some (k:Int)) none=cH (z.cps.toList.drop k):=by
 have ar:z.cps.toList.length=z.length:=fO;rw [ZT];by_cases c:k<=z.length
 ·rw [AV c (ZB _),qH (by rw [hF];omega)]
 ·rw [ZS (by omega),AV (ZB _) (ZB _),nd (by omega),nd (by omega),List.take_nil]
theorem ZW{j:Nat}{z x:Str}(bh:f6 j z.cps.toList)(k a':Nat)(ak:jE x.cps.toList)(ai:∀ c∈x.cps.toList,c < 1000)(ax:a'=k\/a'=k+1):f6 (j+1) (cH (z.cps.toList.take k)++x++cH (z.cps.toList.drop a')).cps.toList:=by
 rw [nQ,nQ,gd,gd,db];exact bh.chg ak ai ax
theorem ZX{j:Nat}{z:Str}(bh:f6 j z.cps.toList)(k:Nat):f6 (j+1) (cH (z.cps.toList.take k)++cH (z.cps.toList.drop (k+1))).cps.toList:=by
 rw [nQ,gd,gd];have:=bh.chg (x:=[]) (a:=k) (a':=k+1) ⟨λ c ai=>absurd ai eV,.inl (by simp)⟩ (λ c ai=>absurd ai eV) (.inr rfl);exact this
theorem ZY{j:Nat}{z:Str}(bh:f6 j z.cps.toList){k s:Nat}(ap:s<=k)(el:k<=s+5):f6 (j+1) (cH (z.cps.toList.take k)++cH (z.cps.toList.drop s)).cps.toList:=by
 rw [nQ,gd,gd];have NB:∀ c∈(z.cps.toList.drop s).take (k - s),c < 1000:=λ c ai=>bh.nP c (pD (ya ai));have:=bh.chg (x:=(z.cps.toList.drop s).take (k - s)) (a:=k) (a':=k) ⟨λ c ai=>by have:=NB c ai;omega,.inl (by rw [kk];omega)⟩ NB (.inl rfl)
 have e:(z.cps.toList.drop s).take (k - s)++z.cps.toList.drop k=z.cps.toList.drop s:=by
  have:=pC (k - s) (z.cps.toList.drop s);rw [nf,show s+(k - s)=k by omega] at this;exact this
 rw [e] at this;exact this
abbrev xh:Str:="[]():,~ -0123456789+x_\n"
theorem NC:xh.cps.toList.length=23/\∀ c∈xh.cps.toList,c < 1000:=by decide +kernel
theorem ND{c:Nat}(h:c < 1000):jE (⟨#[c]⟩:Str).cps.toList/\∀ d∈(⟨#[c]⟩:Str).cps.toList,d < 1000:=by
 have e:(⟨#[c]⟩:Str).cps.toList=[c]:=rfl;rw [e];exact ⟨⟨λ d hd=>by rw [kR] at hd;omega,.inl (by simp)⟩,λ d hd=>by rw [kR] at hd;omega⟩
def ub:List Str:=["0", "-0", "00", "1000000000000", "999999999999", "-999999999999", "+1", "01", "-01", " 1"]
theorem ZZ:∀ w∈ub,w.cps.toList.length<=13/\(∀ c∈w.cps.toList,c≠91/\c≠40/\c≠93/\c≠41)/\w.cps.toList.count 32<=5/\∀ c∈w.cps.toList,c < 1000:=by decide +kernel
theorem Z0{w:Str}(h:w∈ub):jE w.cps.toList/\(∀ d∈w.cps.toList,d < 1000)/\w.length<=13:=by
 obtain ⟨ae,ag,aR,bB⟩:=ZZ w h;exact ⟨⟨λ c ai=>by have:=bB c ai;omega,.inr ⟨ae,ag,aR⟩⟩,bB,ae⟩
theorem Z1{α:Type}{ds:List α}{t:Nat}(h:t+1 < ds.length):∃ xs x y aD,ds=xs++x::y::aD/\xs.length=t:=by
 refine ⟨ds.take t,ds[t],ds[t+1],ds.drop (t+2),?_,by rw [kk];omega⟩;rw [<- pB (show t+1 < ds.length by omega),<- pB (show t < ds.length by omega),pC]
def ES:ht:=λ x y G Q=>match x,y with
 | .tup ds,.int i=>atS ds i G Q
 | _,_=>False
theorem Z2{x y:D}{G:aP}{Q:cJ}(h:ES x y G Q):vZ x y G Q:=by
 unfold ES at h;split at h
 ·unfold atS at h;exact h
 ·exact h.elim
theorem NE{X:aW}:Cu X ES:=by
 obtain ⟨c,j,r⟩:=b1 (X:=X);exact ⟨c,j,λ x y ez hh G H ay Q v aQ a5 q F=>r x y ez hh G H ay Q v aQ a5 (Z2 q) F⟩
theorem NF{ds:List D}{i:Int}{G:aP}{Q:cJ}{d:D}(h:gJ ds i=some d)(q:Q d G):atS ds i G Q:=wi (vU h q)
theorem Z3:f6 0 []:=⟨by simp,by simp,λ b=>by simp,λ b=>by simp [nest],⟨[],rfl,by simp,fM.nil.mono (by omega)⟩,λ c ai=>absurd ai eV⟩
theorem f6.low{l:List Nat}(h:f6 3 l):nest l < 61:=by have:=h.t6 0;rw [ie] at this;omega
theorem NG{d:D}{x:List Str}{n:Nat}(h:Tk d x)(k:eb d)(aH:nest (cat x) < n):l3 (cU n (cat x))=d:=by
 refine (NA aH).1 d ?_ k;rw [h.pieces];exact (MN k).mpr h.lM
theorem Z4{n:Nat}{l:List Nat}(h:Ask l)(aH:nest l < n):(l3 (cU n l)).data=true/\(l3 (cU n l)).bC<=150:=by
 obtain ⟨_,_,_,_,el⟩:=h
 match ah:cU n l with
 | none=>exact ⟨rfl,by simp [l3,D.bC,cc]⟩
 | some (d,[])=>
  obtain ⟨ae,ag⟩:=(AI aH d).mpr ah;exact ⟨ag.e9.data,(el d ae).2.bC⟩
 | some (d,c::r)=>exact ⟨rfl,by simp [l3,D.bC,cc]⟩
theorem Z5{n:Nat}{l:List Nat}(aH:nest l < n):(EO (cU n l)=.a9/\l3 (cU n l)=.tup [.str "refused", .int 0,.aI false])\/∃ es,EO (cU n l)=.tup es/\l3 (cU n l)=.tup es:=by
 match ah:cU n l with
 | none=>exact .inl ⟨rfl,rfl⟩
 | some (d,[])=>
  obtain ⟨_,ag⟩:=(AI aH d).mpr ah;obtain ⟨w,r,rfl,_⟩:=Et ag;exact .inr ⟨_,rfl,rfl⟩
 | some (d,c::r)=>exact .inl ⟨rfl,rfl⟩
end L3
namespace L2
open PySem PySem.Spec PyProof.Rows PySem.W
abbrev ET:List Value:=[.type "ValueError", .type "Exception", .type "BaseException", .type "object"]
def NH:Value->Bool
 | .str _ _=>true
 | _=>false
def AW(es:Array pk):Bool:=es.toList.all (λ e=>NH e.key)&&quietNames.all λ n=>(se es n).isNone
theorem Z6{es:Array pk}(h:AW es=true):StrKeys es/\∀ n∈quietNames,se es n=none:=by
 unfold AW at h;rw [fe,lz,lz] at h;refine ⟨λ e he=>?_,λ n aH=>Option.isNone_iff_eq_none.mp (h.2 n aH)⟩;have z:=h.1 e (ym.mpr he)
 cases k:e.key with
 | str n t=>exact ⟨n,t,rfl⟩
 | _=>rw [k] at z;cases z
theorem qr{K:Frag}{C c:Addr}{cd:kh}{b:Bool}(h0:(C==c)=false)(ae:clsIn K c=some cd)(ag:typeIn K (.ref c)=some (.type "type"))(aR:subIn K (.ref C) (.ref c)=some b):kitOne K (.ref C) (.ref c)=some b:=by
 unfold kitOne;rw [if_neg (λ q=>by cases beq_iff_eq.mp q;rw [beq_self_eq_true] at h0;cases h0)];unfold kitCls;simp only [ae,ag,aR,Option.isSome_some,Bool.true_and,beq_self_eq_true,if_true]
theorem Z7:kitMeta "ValueError" = true:=by decide +kernel
theorem Z8{K:Frag}{C:Addr}{b:Bool}(aR:subIn K (.ref C) (.type "ValueError")=some b):kitOne K (.ref C) (.type "ValueError")=some b:=by
 unfold kitOne;rw [if_neg (λ q=>by cases beq_iff_eq.mp q)];unfold kitCls;simp only [Z7,aR,if_true]
theorem Z9{K:Frag}{t:Value}:kitAny K t []=some false:=rfl
theorem r5{K:Frag}{t c:Value}{cs:List Value}(h:kitOne K t c=some false)(ap:kitAny K t cs=some false):kitAny K t (c::cs)=some false:=by
 unfold kitAny;rw [h];exact ap
theorem Z_:kO "ValueError" = some (.type "ValueError"):=by decide +kernel
end L2
namespace L2
open PySem PySem.Spec PyProof.Rows PySem.W
def AX(es:Array pk):Bool:=es.toList.all λ e=>NH e.key
theorem aac{es:Array pk}(h:AX es=true):StrKeys es:=by
 unfold AX at h;rw [lz] at h;intro e he;have z:=h e (ym.mpr he)
 cases k:e.key with
 | str n t=>exact ⟨n,t,rfl⟩
 | _=>rw [k] at z;cases z
theorem aad{K:Frag}{C B N NI g6:Addr}{nm q:Str}{bs:List Value}{hdct:Bool}{sn:List Str}{sub:List Value}{ab:Bool}{col:Option Bool}{dd:Option Addr}{k0 k1 k2 k3 k5:Option Value}
 {vz:Value} {bK:Option Addr} {es r6:Array pk} {dY AY:Nat} {aae EU:Array (Option Value)} {tN EV:Value} {gc EW eM:Option Addr} {cd:kh} {hq i9:Array (Option Value)} {aaf:Data}
 (g9:kl C K=some (sa nm q C N bs (.ref B::ET) hdct sn sub ab col dd k0 k1 k2 k3 k5 "ValueError.__new__")) (jl:kl N K=some ⟨vz,bK,.dict es dY,aae⟩) (wR:AX es=true) (aag:se es "__init__" = some (.ref g6)) (aah:kl g6 K=some ⟨.type "function", eM,aaf,i9⟩)
 (x4:kl B K=some ⟨tN,gc,.cls cd,hq⟩) (x5:cd.ns=NI) (x6:kl NI K=some ⟨EV,EW,.dict r6 AY,EU⟩) (x7:AW r6=true):rH K C g6:=by
 have a1:=aac wR;obtain ⟨eK,dx⟩:=Z6 x7;refine ⟨⟨.ref B::ET,N,nm,q,bs,hdct,sn,sub,ab,col,dd,k0,k1,k2,k3,k5,se es,_,by rfl,aag,rfl,λ h X=>⟨X _ _ g9,⟨_,es,dY,X _ _ jl,rfl,a1,λ _=>rfl⟩,X _ _ aah,?_⟩⟩⟩;exact .own (X _ _ x4) (mA:=se r6) (by rw [x5];exact ⟨_,r6,AY,X _ _ x6,rfl,eK,λ _=>rfl⟩) (dx _ (by simp [quietNames])) .base
theorem aai{K:Frag}{C:Addr}{a:Str}(h:findIn K (.ref C) a=some none):takerIn K C a=some none:=by unfold takerIn;rw [h];rfl
end L2
namespace KB
open PySem L2
def top(i:Nat):bP:=PySem.Challenge.pw_kindbags_k31_kind_texts_refused.main.body.getD i (.Pass ⟨0,0,0,0⟩)
structure fN(mg:Str->Option Value):Prop where
 len:mg "len" = none
 isinstance:mg "isinstance" = none
 range:mg "range" = none
 int:mg "int" = none
 bool:mg "bool" = none
 str:mg "str" = none
 tuple:mg "tuple" = none
 list:mg "list" = none
 sorted:mg "sorted" = none
 all:mg "all" = none
 reversed:mg "reversed" = none
 min:mg "min" = none
 max:mg "max" = none
 enumerate:mg "enumerate" = none
 zip:mg "zip" = none
 ValueError:mg "ValueError" = none
end KB
namespace KB
open PySem
abbrev aaj:List Str:=["self", "at"]
abbrev NJ:List Str:=["thing"]
abbrev NK:List Str:=["thing"]
abbrev NL:List Str:=["thing"]
abbrev NM:List Str:=["thing"]
abbrev NN:List Str:=["thing"]
abbrev NO:List Str:=["kind"]
abbrev NP:List Str:=["kinds"]
abbrev NQ:List Str:=["text", "signs"]
abbrev NR:List Str:=["text", "most"]
abbrev NS:List Str:=["text", "signs"]
abbrev NT:List Str:=["text"]
abbrev NU:List Str:=["piece"]
abbrev NV:List Str:=["frame", "sign"]
abbrev NW:List Str:=["row"]
abbrev NX:List Str:=["row"]
abbrev NY:List Str:=["_law_script", "_law_k"]
abbrev NZ:List Str:=["_law_feed_here", "_law_many"]
abbrev N0:List Str:=["_law_feed_here"]
abbrev N1:List Str:=["_law_feed_here", "_law_deep"]
abbrev N2:List Str:=["_law_feed_here", "_law_deep"]
abbrev N3:List Str:=["_law_feed_here"]
abbrev N4:List Str:=["_law_feed_here"]
abbrev N5:List Str:=["_law_kind_here"]
abbrev N6:List Str:=["_law_found", "_law_due"]
abbrev N7:List Str:=["_law_text", "_law_at"]
abbrev N8:List Str:=["_law_text", "_law_at"]
abbrev N9:List Str:=["_law_text", "_law_at"]
abbrev N_:List Str:=["_law_text", "_law_at"]
abbrev Oa:List Str:=["_law_text"]
abbrev Ob:List Str:=["_law_feed_here", "_law_text"]
abbrev Oc:List Str:=["_law_feed_here", "_law_kind_here"]
abbrev Od:List Str:=["_law_text"]
end KB
namespace KB
open PySem L2 L3
section
variable{P:cL}{w:b8}{K:aX}{mg:Str->Option Value}{base:bE}{f:Addr}{fd:gD}
set_option maxHeartbeats 4000000
abbrev xi:bP:=(WH (top 2)).getD 0 (.Pass ⟨0,0,0,0⟩)
theorem aak:ek ["self", "at"] ["self", "at"] (cb xi):=⟨rfl,rfl,rfl,by decide +kernel,rfl,by decide +kernel,by decide +kernel⟩
theorem aal{C B g6:Addr}(mR:rH K C g6)(o2:Au K B)(rJ:As K C "at")(uc:mg "BagError" = some (.ref B))(F:dT K "__init__" "NoText.__init__" xi f fd):da P w K mg base c6 1 f fd ["self", "at"] (wJ C "at"):=
 XF F aak mR o2 rJ uc rfl (λ _ _ _ _ _ _=>rfl) (λ _ _ _ _ _ _=>⟨_,rfl⟩) (Or.inl rfl) (Or.inl rfl) rfl rfl
abbrev EX:bP:=top 38
theorem EY:ek ["_law_feed_here", "_law_many", "_law_digit", "_law_one"] ["_law_feed_here", "_law_many"] (cb EX):=⟨rfl,rfl,rfl,by decide +kernel,rfl,by decide +kernel,by decide +kernel⟩
theorem aam(F:dT K "_law_take" "_law_take" EX f fd):da P w K mg base c6 1 f fd ["_law_feed_here", "_law_many"] (bG K lU):=by
 refine gu (k:=0) F EY (λ ds G ay h=>?_) (λ bI A outer s H E ao ds G ay h=>?_)
 ·unfold lU at h;split at h
  ·rfl
  ·exact h.elim
 unfold lU at h;split at h
 case h_2=>exact h.elim
 next a m=>
 obtain ⟨⟨x,y,c2⟩,h0,ae,q⟩:=h
 refine ⟨_,(bq (cO (bN nH (bZ b1 (am 0) aJ (λ _ _=>rfl)) aJ (bH _)) (bq (cX (k:=2) EY.bK rfl (Or.inl rfl) (bW oK (bZ b1 (am 0) aJ (λ _ _=>rfl)) (am 1)))
  (bq (CB (bW Jw (bZ b1 (am 0) aJ (λ _ _=>rfl)) (am 1)) (CS (am 0) aJ))
  (bA (b7 (am 2))))) cZ)
  (bq (cX (k:=3) EY.bK rfl (Or.inl rfl) (bW oK (bW pZ (bZ b1 (am 0) aJ (λ _ _=>rfl)) aJ) aJ))
  (bq (CB (bW di (bW oK (bW di (bW pZ (am 3) aJ) aJ) aJ) aJ) (CS (am 0) aJ))
  (bA (b7 (bW oK (bW Jw (bW di (bW pZ (am 3) aJ) (bZ b1 (am 0) aJ (λ _ _=>rfl))) aJ) (am 1))))))),?_⟩
 refine bX c2 ⟨λ c=>?_,λ c=>?_⟩
 ·refine bX c2 ⟨h0,bX c2 ⟨⟨h0,by omega⟩,fG c2 ⟨0,rfl,be.of (q _ _ .mk (yw _ (by omega)) (yx _ h0))⟩⟩⟩
 ·refine bX c2 ⟨.inr ⟨by decide,by decide⟩,by simp,.inr ⟨by decide,by decide⟩,by simp,fG c2 ⟨1,rfl,.inr ⟨by decide,by decide⟩,bX bU ⟨⟨by decide,by decide⟩,h0,be.of (q _ _ .mk (yw _ (by omega)) (yx _ h0))⟩⟩⟩
abbrev EZ:bP:=top 37
theorem ud:ek ["_law_script", "_law_k", "_law_cell", "_law_own"] ["_law_script", "_law_k"] (cb EZ):=⟨rfl,rfl,rfl,by decide +kernel,rfl,by decide +kernel,by decide +kernel⟩
theorem aan(B:fN mg)(F:dT K "_law_feed" "_law_feed" EZ f fd):da P w K mg base c6 1 f fd ["_law_script", "_law_k"] (bG K wj):=by
 refine gu (k:=0) F ud (λ ds G ay h=>?_) (λ bI A outer s H E ao ds G ay h=>?_)
 ·unfold wj at h;split at h
  ·rfl
  ·exact h.elim
 unfold wj at h;split at h
 case h_2=>exact h.elim
 next ss k=>
 obtain ⟨ns,rfl,ar,h0,ae,q⟩:=h;have fin:∀ x y:Int,∀ p,G p=none->be ay (.ref p) (up G p (rp x y)):=λ x y p ah=>be.of (q p x y ah)
 have Oe:∀ j:Int,0<=j->j < ns.length->∃ v,gJ (ns.map D.int) j=some (.int v):=λ j E0 ey=>by
  refine ⟨ns[j.toNat],?_⟩;have e:=k4 (xs:=ns.map D.int) (j:=j.toNat) (v:=D.int ns[j.toNat]) (by simp [show j.toNat < ns.length by omega])
  rwa [show ((j.toNat:Nat):Int)=j by omega] at e
 refine ⟨_,(bq (cX (k:=2) ud.bK rfl (Or.inl rfl) (bW di (bW pZ aJ (am 1)) aJ))
  (bq (cO (bN lf (am 1) (c9 fA rfl B.len fw (aq (am 0) aL)) (bH _)) (bA (cX (k:=2) ud.bK rfl (Or.inl rfl) (bZ b1 (am 0) (am 1) (λ _ _=>rfl)))) (bA (cO (bN nH (c9 fA rfl B.len fw (aq (am 0) aL)) aJ (bH _)) (bA (cX (k:=2) ud.bK rfl (Or.inl rfl) (bW di (bW pZ (bW oK (bZ b1 (am 0) (bW oK (am 1) (c9 fA rfl B.len fw (aq (am 0) aL))) (λ _ _=>rfl)) aJ) aJ) (bW pZ aJ (am 1))))) cZ)))
  (bq (cX (k:=3) ud.bK rfl (Or.inl rfl) aJ)
  (bq (cO (bN T9 (am 2) (bW T8 aJ aJ) (bH _)) (bA (cX (k:=3) ud.bK rfl (Or.inl rfl) (am 2))) cZ)
  (bA (b7 (kA (aq (am 3) (aq (bW di (bW oK (bW di (bW pZ (bW oK (am 2) aJ) aJ) (bW pZ aJ (am 1))) aJ) aJ) aL))))))))),?_⟩
 refine ⟨.inl ⟨by decide,by decide⟩,⟨λ c=>?_,λ c=>?_⟩⟩
 ·have fE:k < ns.length:=by simpa using c
  obtain ⟨v,bO⟩:=Oe k h0 fE;refine (JA bO ⟨⟨by decide,by decide,by decide⟩,λ c=>?_,λ c=>?_⟩)
  ·exact ⟨by simp,.inr ⟨by decide,by decide⟩,.inl ⟨by decide,by decide⟩,by simp,λ p ah=>fin _ _ p ah⟩
  ·exact ⟨by simp,.inr ⟨by decide,by decide⟩,.inl ⟨by decide,by decide⟩,by simp,λ p ah=>fin _ _ p ah⟩
 ·refine ⟨λ c=>?_,λ c=>?_⟩
  ·have fE:0 < ns.length:=by
    have:(0:Int) < (ns.map D.int).length:=by simpa using c
    simpa using this
   obtain ⟨v,bO⟩:=Oe (k % (ns.map D.int).length) (yw _ (show ((ns.map D.int).length:Int)≠0 by rw [er];omega)) (by have:=yx k (show (0:Int) < (ns.map D.int).length by simpa using fE);simpa using this);refine ⟨by simpa using fE,?_⟩;refine (JA bO ⟨by simp,.inr ⟨by decide,by decide⟩,.inl ⟨by decide,by decide⟩,⟨by decide,by decide,by decide⟩,λ c=>?_,λ c=>?_⟩)
   ·exact ⟨by simp,.inr ⟨by decide,by decide⟩,.inl ⟨by decide,by decide⟩,by simp,λ p ah=>fin _ _ p ah⟩
   ·exact ⟨by simp,.inr ⟨by decide,by decide⟩,.inl ⟨by decide,by decide⟩,by simp,λ p ah=>fin _ _ p ah⟩
  ·refine ⟨⟨by decide,by decide,by decide⟩,λ c=>?_,λ c=>?_⟩
   ·exact ⟨by simp,.inr ⟨by decide,by decide⟩,.inl ⟨by decide,by decide⟩,by simp,λ p ah=>fin _ _ p ah⟩
   ·exact ⟨by simp,.inr ⟨by decide,by decide⟩,.inl ⟨by decide,by decide⟩,by simp,λ p ah=>fin _ _ p ah⟩
abbrev E1:bP:=top 15
theorem aao:ek ["thing"] ["thing"] (cb E1):=⟨rfl,rfl,rfl,by decide +kernel,rfl,by decide +kernel,by decide +kernel⟩
theorem aap(B:fN mg)(F:dT K "is_whole_number" "is_whole_number" E1 f fd):da P w K mg base c6 1 f fd ["thing"] (bG K Dm):=by
 refine gu (k:=0) F aao (λ ds G ay h=>?_) (λ bI A outer s H E ao ds G ay h=>?_)
 ·obtain ⟨_,rfl,_⟩:=h;rfl
 obtain ⟨d,rfl,t,q⟩:=h;refine ⟨_,(bA (b7 (mG (c9 kH rfl B.isinstance i2 (aq (am 0) (aq (j1 rfl B.int sG) aL))) (mF (vV (c9 kH rfl B.isinstance i2 (aq (am 0) (aq (j1 rfl B.bool PyProof.Rows.boot_bool) aL)))))))),?_⟩
 cases t with
 | int n=>exact ⟨true,rfl,λ _=>⟨false,rfl,be.of (q true ⟨λ _=>⟨n,rfl⟩,λ _=>rfl⟩)⟩,nofun⟩
 | aI b=>exact ⟨true,rfl,λ _=>⟨true,rfl,be.of (q false ⟨nofun,λ⟨_,e⟩=>nomatch e⟩)⟩,nofun⟩
 | ref h=>obtain ⟨ds,h⟩:=h;exact bX h ⟨false,rfl,nofun,λ _=>be.of (q false ⟨nofun,λ⟨_,e⟩=>nomatch e⟩)⟩
 | str z=>exact ⟨false,rfl,nofun,λ _=>be.of (q false ⟨nofun,λ⟨_,e⟩=>nomatch e⟩)⟩
 | a9=>exact ⟨false,rfl,nofun,λ _=>be.of (q false ⟨nofun,λ⟨_,e⟩=>nomatch e⟩)⟩
 | tup _=>exact ⟨false,rfl,nofun,λ _=>be.of (q false ⟨nofun,λ⟨_,e⟩=>nomatch e⟩)⟩
abbrev E2:bP:=top 19
theorem aaq:ek ["thing"] ["thing"] (cb E2):=⟨rfl,rfl,rfl,by decide +kernel,rfl,by decide +kernel,by decide +kernel⟩
theorem aar(B:fN mg)(F:dT K "has_answer_word" "has_answer_word" E2 f fd):da P w K mg base c6 1 f fd ["thing"] (bG K Dn):=by
 refine gu (k:=0) F aaq (λ ds G ay h=>?_) (λ bI A outer s H E ao ds G ay h=>?_)
 ·obtain ⟨_,rfl,_⟩:=h;rfl
 obtain ⟨d,rfl,t,q⟩:=h;refine ⟨_,(bA (b7 (mG (c9 kH rfl B.isinstance i2 (aq (am 0) (aq (j1 rfl B.tuple mf) aL))) (mG (kB nH (c9 fA rfl B.len fw (aq (am 0) aL)) aJ (bH _)) (mF (kB (K4 (cf ao)) (bZ b1 (am 0) aJ (λ _ _=>rfl)) (d9 (aq bw (aq bw (aq bw aL)))) (by with_unfolding_all rfl))))))),?_⟩
 cases t with
 | ref h=>obtain ⟨ds,h⟩:=h;exact bX h ⟨false,rfl,nofun,λ _=>be.of q⟩
 | @tup ds hd=>
  refine ⟨true,rfl,λ _=>⟨λ c=>?_,λ c=>?_⟩,nofun⟩
  ·cases ds with
   | nil=>exact absurd c (by decide)
   | cons x r=>
    cases hd x (bT ..) with
    | str z=>
     refine ⟨["is", "some", "both"],rfl,rfl,be.of ?_⟩;rw [Ku];exact q
    | ref h=>obtain ⟨es,h⟩:=h;exact ⟨["is", "some", "both"],rfl,bX h (be.of q)⟩
    | tup _=>exact ⟨["is", "some", "both"],rfl,be.of q⟩
    | int n=>exact ⟨["is", "some", "both"],rfl,rfl,be.of q⟩
    | aI b=>exact ⟨["is", "some", "both"],rfl,rfl,be.of q⟩
    | a9=>exact ⟨["is", "some", "both"],rfl,rfl,be.of q⟩
  ·cases ds with
   | nil=>exact be.of q
   | cons x r=>have fE:=of_decide_eq_false c;simp only [bR] at fE;omega
 | _=>exact ⟨false,rfl,nofun,λ _=>be.of q⟩
abbrev E3:bP:=top 18
theorem aas:ek ["thing"] ["thing"] (cb E3):=⟨rfl,rfl,rfl,by decide +kernel,rfl,by decide +kernel,by decide +kernel⟩
theorem aat(B:fN mg)(E4:Got P w K mg base 1 "is_whole_number" ["thing"] (bG K Dm))(AZ:Got P w K mg base 1 "has_answer_word" ["thing"] (bG K Dn))(F:dT K "has_kind_form" "has_kind_form" E3 f fd):da P w K mg base c6 2 f fd ["thing"] (bG K Do):=by
 refine gu (k:=1) F aas (λ ds G ay h=>?_) (λ bI A outer s H E ao ds G ay h=>?_)
 ·obtain ⟨_,rfl,_⟩:=h;rfl
 obtain ⟨d,rfl,t,q⟩:=h
 refine ⟨_,(bq (cO (eZ.at (h4 (pY (kD (c9 kH rfl B.isinstance i2 (aq (am 0) (aq (j1 rfl B.tuple mf) aL))))) (j3 (bN (dK (cf ao)) (c9 fA rfl B.len fw (aq (am 0) aL)) aJ (bH _))))) (bA (b7 pV)) cZ)
  (bq (cO (bN (rA (cf ao)) (bZ b1 (am 0) aJ (λ _ _=>rfl)) bw (bH _)) (bA (b7 (mG (kB (dK (cf ao)) (c9 fA rfl B.len fw (aq (am 0) aL)) aJ (bH _)) (mF (cK E4 ao (by omega) rfl (aq (bZ b1 (am 0) aJ (λ _ _=>rfl)) aL)))))) cZ)
  (bq (cO (bN (rA (cf ao)) (bZ b1 (am 0) aJ (λ _ _=>rfl)) bw (bH _)) (bA (b7 (kB (dK (cf ao)) (c9 fA rfl B.len fw (aq (am 0) aL)) aJ (bH _)))) cZ)
  (bq (cO (bN (rA (cf ao)) (bZ b1 (am 0) aJ (λ _ _=>rfl)) bw (bH _)) (bA (b7 (mG (kB (dK (cf ao)) (c9 fA rfl B.len fw (aq (am 0) aL)) aJ (bH _)) (mF (c9 kH rfl B.isinstance i2 (aq (bZ b1 (am 0) aJ (λ _ _=>rfl)) (aq (j1 rfl B.tuple mf) aL))))))) cZ)
  (bq (cO (bN (rA (cf ao)) (bZ b1 (am 0) aJ (λ _ _=>rfl)) bw (bH _)) (bA (b7 (mG (kB (dK (cf ao)) (c9 fA rfl B.len fw (aq (am 0) aL)) aJ (bH _)) (mG (cK AZ ao (by omega) rfl (aq (bZ b1 (am 0) aJ (λ _ _=>rfl)) aL)) (mF (cK AZ ao (by omega) rfl (aq (bZ b1 (am 0) aJ (λ _ _=>rfl)) aL))))))) cZ)
  (bA (b7 (mG (kB (K4 (cf ao)) (bZ b1 (am 0) aJ (λ _ _=>rfl)) (d9 (aq bw (aq bw aL))) (by with_unfolding_all rfl)) (mF (kB (dK (cf ao)) (c9 fA rfl B.len fw (aq (am 0) aL)) aJ (bH _))))))))))),?_⟩
 have no:(∀ z r,d≠.tup (.str z::r))->ay (.aI false) G:=λ h=>q false ⟨nofun,λ e=>absurd e (V9 h)⟩
 cases t with
 | ref h=>obtain ⟨ds,h⟩:=h;exact bX h ⟨false,rfl,⟨λ _=>⟨λ _=>be.of (no λ z r=>nofun),nofun⟩,nofun⟩⟩
 | @tup ds hd=>
  refine ⟨true,rfl,⟨nofun,λ _=>⟨λ c=>?_,λ c=>?_⟩⟩⟩
  ·refine be.of (no λ z r e=>?_);cases e;have fE:=eq_of_beq c;simp only [bR] at fE;omega
  ·cases ds with
   | nil=>exact absurd c (by decide)
   | cons x r=>
    clear c
    cases hd x (bT ..) with
    | ref h=>
     obtain ⟨es,h⟩:=h;exact bX h ⟨nofun,λ _=>bX h ⟨nofun,λ _=>bX h ⟨nofun,λ _=>bX h ⟨nofun,λ _=>⟨["left", "right"],rfl,bX h ⟨nofun,λ _=>be.of (no λ z r=>nofun)⟩⟩⟩⟩⟩⟩
    | tup _=>exact ⟨nofun,λ _=>⟨nofun,λ _=>⟨nofun,λ _=>⟨nofun,λ _=>⟨["left", "right"],rfl,nofun,λ _=>be.of (no λ z r=>nofun)⟩⟩⟩⟩⟩
    | int n=>exact ⟨rfl,rfl,ef _,nofun,λ _=>⟨rfl,rfl,ef _,nofun,λ _=>⟨rfl,rfl,ef _,nofun,λ _=>⟨rfl,rfl,ef _,nofun,λ _=>⟨["left", "right"],rfl,rfl,nofun,λ _=>be.of (no λ z r=>nofun)⟩⟩⟩⟩⟩
    | aI n=>exact ⟨rfl,rfl,ef _,nofun,λ _=>⟨rfl,rfl,ef _,nofun,λ _=>⟨rfl,rfl,ef _,nofun,λ _=>⟨rfl,rfl,ef _,nofun,λ _=>⟨["left", "right"],rfl,rfl,nofun,λ _=>be.of (no λ z r=>nofun)⟩⟩⟩⟩⟩
    | a9=>exact ⟨rfl,rfl,ef _,nofun,λ _=>⟨rfl,rfl,ef _,nofun,λ _=>⟨rfl,rfl,ef _,nofun,λ _=>⟨rfl,rfl,ef _,nofun,λ _=>⟨["left", "right"],rfl,rfl,nofun,λ _=>be.of (no λ z r=>nofun)⟩⟩⟩⟩⟩
    | str z=>
     refine ⟨λ c=>?_,λ bu=>⟨λ c=>?_,λ bt=>⟨λ c=>?_,λ d0=>⟨λ c=>?_,λ gq=>?_⟩⟩⟩⟩
     ·obtain rfl:=eq_of_beq c;rcases r with _ | ⟨y,_ | ⟨u,r⟩⟩
      ·exact ⟨nofun,λ _=>be.of (q false ⟨nofun,λ e=>by obtain ⟨n,e⟩:=Ab.mp e;cases e⟩)⟩
      ·refine ⟨λ _=>⟨y,rfl,hd y (by simp),λ b af=>be.of (q b (af.trans ⟨?_,λ e=>?_⟩))⟩,nofun⟩
       ·rintro ⟨n,rfl⟩;exact Ab.mpr ⟨n,rfl⟩
       ·obtain ⟨n,e⟩:=Ab.mp e;cases e;exact ⟨n,rfl⟩
      ·exact ⟨λ c=>absurd (eq_of_beq c) (by simp only [bR];omega),λ _=>be.of (q false ⟨nofun,λ e=>by obtain ⟨n,e⟩:=Ab.mp e;cases e⟩)⟩
     ·obtain rfl:=eq_of_beq c;refine be.of (q _ ?_);rw [V6]
      cases r with
      | nil=>exact ⟨λ _=>rfl,λ _=>rfl⟩
      | cons y r=>exact ⟨λ c=>absurd (eq_of_beq c) (by simp only [bR];omega),nofun⟩
     ·obtain rfl:=eq_of_beq c;rcases r with _ | ⟨y,_ | ⟨u,_ | ⟨v,r⟩⟩⟩
      ·exact ⟨nofun,λ _=>be.of (q false ⟨nofun,λ e=>by obtain ⟨_,_,e⟩:=wz.mp e;cases e⟩)⟩
      ·exact ⟨nofun,λ _=>be.of (q false ⟨nofun,λ e=>by obtain ⟨_,_,e⟩:=wz.mp e;cases e⟩)⟩
      ·refine ⟨λ _=>?_,nofun⟩;have f:(∀ es,y≠.tup es)->ay (.aI false) G:=λ h=>q false ⟨nofun,λ e=>by obtain ⟨es,_,e⟩:=wz.mp e;cases e;exact absurd rfl (h es)⟩
       cases hd y (by simp) with
       | ref h=>obtain ⟨es,h⟩:=h;exact bX h ⟨false,rfl,be.of (f λ es=>nofun)⟩
       | tup _=>exact ⟨true,rfl,be.of (q true ⟨λ _=>wz.mpr ⟨_,_,rfl⟩,λ _=>rfl⟩)⟩
       | _=>exact ⟨false,rfl,be.of (f λ es=>nofun)⟩
      ·exact ⟨λ c=>absurd (eq_of_beq c) (by simp only [bR];omega),λ _=>be.of (q false ⟨nofun,λ e=>by obtain ⟨_,_,e⟩:=wz.mp e;cases e⟩)⟩
     ·obtain rfl:=eq_of_beq c;rcases r with _ | ⟨y,_ | ⟨u,_ | ⟨v,r⟩⟩⟩
      ·exact ⟨nofun,λ _=>be.of (q false ⟨nofun,λ e=>by obtain ⟨_,_,e,_⟩:=tA.mp e;cases e⟩)⟩
      ·exact ⟨nofun,λ _=>be.of (q false ⟨nofun,λ e=>by obtain ⟨_,_,e,_⟩:=tA.mp e;cases e⟩)⟩
      ·refine ⟨λ _=>⟨y,rfl,hd y (by simp),⟨λ bu=>⟨u,rfl,hd u (by simp),be.of (q _ ⟨λ bt=>tA.mpr ⟨_,_,rfl,bu,bt⟩,λ e=>by obtain ⟨_,_,e,_,h⟩:=tA.mp e;cases e;exact h⟩)⟩,λ bu=>be.of (q false ⟨nofun,λ e=>by obtain ⟨_,_,e,h,_⟩:=tA.mp e;cases e;rw [bu] at h;exact h⟩)⟩⟩,nofun⟩
      ·exact ⟨λ c=>absurd (eq_of_beq c) (by simp only [bR];omega),λ _=>be.of (q false ⟨nofun,λ e=>by obtain ⟨_,_,e,_⟩:=tA.mp e;cases e⟩)⟩
     ·have dt:z≠"is":=ne_of_beq_false bu;have ck:z≠"some":=ne_of_beq_false bt;have hP:z≠"way":=ne_of_beq_false d0;have aau:z≠"both":=ne_of_beq_false gq;have iff:=V7 (r:=r) dt ck hP aau;refine ⟨["left", "right"],rfl,rfl,⟨λ c=>?_,λ c=>?_⟩⟩
      ·rw [Lb,Bool.or_eq_true,beq_iff_eq,beq_iff_eq] at c;refine be.of (q _ ?_);rw [iff];rcases r with _ | ⟨y,_ | ⟨u,r⟩⟩
       ·exact ⟨nofun,λ⟨_,a,e⟩=>by cases e⟩
       ·exact ⟨λ _=>⟨c,y,rfl⟩,λ _=>rfl⟩
       ·exact ⟨λ c=>absurd (eq_of_beq c) (by simp only [bR];omega),λ⟨_,a,e⟩=>by cases e⟩
      ·rw [Lb,Bool.or_eq_false_iff] at c
       exact be.of (q false ⟨nofun,λ e=>by
        rcases (iff.mp e).1 with e | e
        ·exact absurd e (ne_of_beq_false c.1)
        ·exact absurd e (ne_of_beq_false c.2)⟩)
 | _=>exact ⟨false,rfl,⟨λ _=>⟨λ _=>be.of (no λ z r=>nofun),nofun⟩,nofun⟩⟩
abbrev E5:bP:=top 20
theorem aav:ek ["kind"] ["kind"] (cb E5):=⟨rfl,rfl,rfl,by decide +kernel,rfl,by decide +kernel,by decide +kernel⟩
theorem aaw(B:fN mg)(F:dT K "inner_kinds" "inner_kinds" E5 f fd):da P w K mg base c6 1 f fd ["kind"] (bG K Dp):=by
 refine gu (k:=0) F aav (λ ds G ay h=>?_) (λ bI A outer s H E ao ds G ay h=>?_)
 ·obtain ⟨_,_,_,rfl,_⟩:=h;rfl
 obtain ⟨d,is,bs,rfl,hf,hz,q⟩:=h
 refine ⟨_,(bq (cO (eZ.at (h4 (bN (dK (cf ao)) (bZ b1 (am 0) aJ (λ _ _=>rfl)) bw (bH _)) (j3 (bN (dK (cf ao)) (bZ b1 (am 0) aJ (λ _ _=>rfl)) bw (bH _))))) (bA (b7 (d9 aL))) cZ)
  (bq (cO (bN (dK (cf ao)) (bZ b1 (am 0) aJ (λ _ _=>rfl)) bw (bH _)) (bA (b7 (bW di (bZ b1 (am 0) aJ (λ _ _=>rfl)) (d9 (aq (bZ b1 (am 0) aJ (λ _ _=>rfl)) aL))))) cZ)
  (bA (b7 (fU rh (am 0) (d_ aJ) h5))))),?_⟩
 cases hf with
 | is n=>exact ⟨λ _=>⟨λ _=>be.of q,nofun⟩,λ c=>absurd c (by decide)⟩
 | some=>exact ⟨λ c=>absurd c (by decide),λ _=>⟨λ _=>be.of q,λ c=>absurd c (by decide)⟩⟩
 | both _ _=>exact ⟨λ c=>absurd c (by decide),λ _=>⟨λ c=>absurd c (by decide),λ _=>⟨λ c=>absurd c (by decide),λ _=>be.of q⟩⟩⟩
 | left _=>exact ⟨λ c=>absurd c (by decide),λ _=>⟨λ c=>absurd c (by decide),λ _=>⟨λ c=>absurd c (by decide),λ _=>be.of q⟩⟩⟩
 | right _=>exact ⟨λ c=>absurd c (by decide),λ _=>⟨λ c=>absurd c (by decide),λ _=>⟨λ c=>absurd c (by decide),λ _=>be.of q⟩⟩⟩
 | way ds k=>
  refine ⟨λ c=>absurd c (by decide),λ _=>⟨λ c=>absurd c (by decide),λ _=>⟨λ _=>?_,λ c=>absurd c (by decide)⟩⟩⟩;have:=Aa ds;simp only [cB,b4] at hz;exact ⟨dQ (by simp;omega),be.of q⟩
abbrev E6:bP:=top 13
theorem xj:ek ["thing", "told", "pending", "one", "item"] ["thing"] (cb E6):=⟨rfl,rfl,rfl,by decide +kernel,rfl,by decide +kernel,by decide +kernel⟩
theorem aax{h2 aZ:Tok}(B:fN mg)(E7:mg "ITEM" = some (.int 1 h2))(E8:mg "END" = some (.int 0 aZ))(F:dT K "flat" "flat" E6 f fd):da P w K mg base c6 1 f fd ["thing"] (bG K Dq):=by
 refine gu (k:=0) F xj (λ ds G ay h=>?_) (λ bI A outer s H E ao ds G ay h=>?_)
 ·obtain ⟨_,rfl,_⟩:=h;rfl
 obtain ⟨d,rfl,aN,hz,q⟩:=h
 refine ⟨_,(bq (cX (k:=1) xj.bK rfl (Or.inl rfl) (kA aL))
  (bq (cX (k:=2) xj.bK rfl (Or.inl rfl) (kA (aq (am 0) aL)))
  (bq (zz PassesOwn.never (kD (am 2)) (bq (cX (k:=3) xj.bK rfl (Or.inl rfl) (CJ PySem.F.plainAttrs_list PySem.F.slot_list_pop PySem.F.type_list_pop CL (am 2)))
  (bA (cO (pY (kD (c9 kH rfl B.isinstance i2 (aq (am 3) (aq (j1 rfl B.tuple mf) aL))))) (bA (lQ (j7 PySem.F.plainAttrs_list PySem.F.slot_list_append PySem.F.type_list_append lT (am 1) (aq (am 3) aL)))) (bA (cO (eZ.at (kC (bN nH (c9 fA rfl B.len fw (aq (am 3) aL)) aJ (bH _)) (la (kD (c9 kH rfl B.isinstance i2 (aq (bZ b1 (am 3) aJ (λ _ _=>rfl)) (aq (j1 rfl B.str uZ) aL))))))) (bA (lQ (j7 PySem.F.plainAttrs_list PySem.F.slot_list_extend PySem.F.type_list_extend J1 (am 2) (aq (VW (am 3) (d_ (mE mH aJ))) aL)))) (bq (lQ (j7 PySem.F.plainAttrs_list PySem.F.slot_list_append PySem.F.type_list_append lT (am 2) (aq (k8 (d:=.int _) (v:=.int _) rfl E8 ⟨_,rfl⟩ (λ _=>rfl)) aL)))
  (bA (wb PassesOwn.never rfl (V2 rfl B.reversed (am 3)) (jv (k:=4) xj.bK rfl (Or.inl rfl)) (bq (lQ (j7 PySem.F.plainAttrs_list PySem.F.slot_list_append PySem.F.type_list_append lT (am 2) (aq (am 4) aL)))
  (bA (lQ (j7 PySem.F.plainAttrs_list PySem.F.slot_list_append PySem.F.type_list_append lT (am 2) (aq (k8 (d:=.int _) (v:=.int _) rfl E7 ⟨_,rfl⟩ (λ _=>rfl)) aL))))))))))))))
  (bA (b7 (am 1)))))),?_⟩
 intro a ax b af;obtain ⟨-,xk,ep⟩:=oEq (o:=.lst []) af;have hw:=Ld d;refine ⟨λ μ ρ au=>∃(ps aK:List D)(eE d1:Option D),ρ=[some d,some (.ref a),some (.ref b),eE,d1]/\up (up G a (.lst aK)) b (.lst ps.reverse)=au/\aK++fB ps=dl d/\(∀ p∈ps,oY p)/\eU ps<=196000/\eU ps=μ,⟨_,[d],[],_,_,rfl,rfl,by simp [fB],by simpa using .k aN,by simp only [eU];omega,rfl⟩,?_⟩;rintro μ ρ au ⟨ps,aK,eE,d1,rfl,rfl,hc,h8,E9,rfl⟩
 have afz:aK.length<=196000:=by have:=congrArg mc hc;have:=Ad d;simp only [dE] at *;omega
 refine bX bU ⟨λ c=>?_,λ c=>?_⟩
 ·obtain ⟨y,gf,rfl⟩:∃ y gf,ps=y::gf:=by
   cases ps with
   | nil=>simp at c
   | cons z gf=>exact ⟨z,gf,rfl⟩
  rw [eU] at E9;have aay:=Ac gf;refine ⟨bX bU trivial,fG bU ⟨gf.reverse,y,by simp,?_⟩⟩;rw [iM]
  have nV:∀ o,up (up G a (.lst aK)) b o a=some (.lst aK):=λ o=>by rw [dU (Ne.symm ep)];exact bU
  have A0:∀ p∈gf,oY p:=λ p ah=>h8 p (bY _ ah);have fin:∀(dN r7:List D),dN++fB r7=dl d->(∀ p∈r7,oY p)->eU r7+1<=ws y+eU gf->∀(eo:aP)(ρ:eB),(∃ d1,ρ=[some d,some (.ref a),some (.ref b),some y,d1])->up (up G a (.lst dN)) b (.lst r7.reverse)=eo->fV (λ ρ au=>∃ μ',μ' < eU (y::gf)/\∃(ps aK:List D)(eE d1:Option D),ρ=[some d,some (.ref a),some (.ref b),eE,d1]/\up (up G a (.lst aK)) b (.lst ps.reverse)=au/\aK++fB ps=dl d/\(∀ p∈ps,oY p)/\eU ps<=196000/\eU ps=μ') ρ eo:=λ dN r7 ae ag aR eo ρ ⟨d1,aC⟩ aG=>fV.of ⟨eU r7,by rw [eU];omega,r7,dN,_,d1,aC,aG,ae,ag,by omega,rfl⟩;rw [fB] at hc
  cases h8 y (bT ..) with
  | int n=>
   refine ⟨false,rfl,⟨λ _=>⟨bX (nV _) trivial,fG (nV _) ⟨iw (by omega),?_⟩⟩,nofun⟩⟩;rw [CV ep];exact fin (aK++[.int n]) gf (by rw [<- hc];simp [dl]) A0 (by simp only [ws];omega) _ _ ⟨_,rfl⟩ rfl
  | str z=>
   refine ⟨false,rfl,⟨λ _=>⟨bX (nV _) trivial,fG (nV _) ⟨iw (by omega),?_⟩⟩,nofun⟩⟩;rw [CV ep];exact fin (aK++[.str z]) gf (by rw [<- hc];simp [dl]) A0 (by simp only [ws];omega) _ _ ⟨_,rfl⟩ rfl
  | k h=>
   obtain ⟨z,r,rfl,ao⟩:=h.Wb;have aaz:=Ac (.str z::r);rw [ws] at E9;refine ⟨true,rfl,⟨nofun,λ _=>⟨λ _=>⟨true,rfl,⟨λ _=>?_,nofun⟩⟩,λ c=>absurd (of_decide_eq_false c) (by simp only [bR];omega)⟩⟩⟩;refine ⟨bX bU trivial,rfl,fG bU ⟨dQ (by simp only [ig];omega),?_⟩⟩;rw [iM];refine fin aK ((.str z::r)++gf) ?_ (λ p ah=>?_) ?_ _ _ ⟨_,rfl⟩ ?_
   ·rw [<- hc,Li];simp only [dl,lW,fB];rfl
   ·rcases fc.mp ah with ah | ah
    ·rcases cC.mp ah with rfl | ah
     ·exact .str _
     ·exact ao p ah
    ·exact A0 p ah
   ·rw [Lc,ws];omega
   ·rw [List.reverse_append]
  | @e1 ds fz=>
   have aaz:=Ac ds
   have afA:gf.length+2 * ds.length+2<=196000:=by rw [ws] at E9;omega
   refine ⟨true,rfl,⟨nofun,λ _=>⟨λ c=>?xl,λ c=>?Og⟩⟩⟩
   case' xl=>
    obtain ⟨hM,hk,e⟩:∃ hM hk,ds=hM::hk:=by
     cases ds with
     | nil=>exact absurd c (by decide)
     | cons x xs=>exact ⟨x,xs,rfl⟩
    refine Ub (d:=hM) (by rw [e];exact k4 (j:=0) rfl) ?_;obtain ⟨z,r,rfl,_⟩:=(fz hM (by rw [e];exact bT ..)).head;refine ⟨false,rfl,⟨nofun,λ _=>?_⟩⟩
   case' Og=>
    refine ⟨nofun,λ _=>?_⟩
   case xl | Og=>
    refine ⟨bX bU trivial,fG bU ⟨iw (by simp only [ig];omega),?_⟩⟩;rw [iM];refine ⟨λ i ρ au=>∃ d1,ρ=[some d,some (.ref a),some (.ref b),some (.tup ds),d1]/\up (up G a (.lst aK)) b (.lst (gf.reverse++[.int 0]++(ds.reverse.take i).flatMap λ x=>[x,.int 1]))=au,⟨_,rfl,by simp⟩,λ _ _ _ _ _=>trivial,?_,?_⟩
    ·rintro i x ρ au he ⟨d1,rfl,rfl⟩;have iS:ds.reverse[i]?=some x:=he
     have afB:(gf.reverse++[D.int 0]++(ds.reverse.take i).flatMap λ x=>[x,.int 1]).length+1<=196000:=by
      have ag:=(mb.mp iS).1;rw [ig] at ag;simp only [dE,ig,sl,Ll,kk];omega
     refine ⟨bX bU trivial,fG bU ⟨iw (by omega),?_⟩⟩;rw [iM];refine ⟨bX bU trivial,fG bU ⟨iw (by rw [dE,sl];omega),?_⟩⟩;rw [iM];refine fV.of ⟨_,rfl,?_⟩;rw [su,iS,Option.toList_some,List.flatMap_append];simp
    ·rintro ρ au ⟨d1,rfl,rfl⟩;refine fin aK (nO ds++.int 0::gf) ?_ (λ p ah=>?_) ?_ _ _ ⟨_,rfl⟩ ?_
     ·rw [<- hc,Lj,z1 fz]
     ·rcases fc.mp ah with ah | ah
      ·obtain ⟨x,ak,ah⟩:=List.mem_flatMap.mp ah;simp at ah;rcases ah with rfl | rfl
       ·exact .int _
       ·exact .k (fz _ ak)
      ·rcases cC.mp ah with rfl | ah
       ·exact .int _
       ·exact A0 p ah
     ·rw [Lk,ws];omega
     ·rw [List.reverse_append,Wa,sr,show ds.reverse.take (⟨ds.reverse,λ _=>True⟩:kE).items.length=ds.reverse from sq]
 ·have e:ps=[]:=by
   cases ps with
   | nil=>rfl
   | cons _ _=>simp at c
  subst e
  have aG:aK=dl d:=by simpa [fB] using hc
  subst aG;exact ⟨up G a (.lst (dl d)),Sub.new (Sub.refl _) (by rw [dU ep];exact xk),q a ax⟩
abbrev E_:bP:=top 21
theorem Oh:ek ["kinds", "keys"] ["kinds"] (cb E_):=⟨rfl,rfl,rfl,by decide +kernel,rfl,by decide +kernel,by decide +kernel⟩
theorem aaA(B:fN mg)(Fa:Got P w K mg base 1 "flat" ["thing"] (bG K Dq))(F:dT K "is_sorted" "is_sorted" E_ f fd):da P w K mg base c6 2 f fd ["kinds"] (bG K Dr):=by
 refine gu (k:=1) F Oh (λ ds G ay h=>?_) (λ bI A outer s H E ao ds G ay h=>?_)
 ·obtain ⟨_,rfl,_⟩:=h;rfl
 obtain ⟨es,rfl,aN,ar,q⟩:=h
 refine ⟨_,(bq (cO (bN lf (c9 fA rfl B.len fw (aq (am 0) aL)) aJ (bH _)) (bA (b7 pV)) cZ)
  (bq (CI (k:=1) rfl Oh.bK rfl (Or.inl rfl) (hI.of (N':=["kind"]) (nt:=1) (cap:=[]) rfl (by kernel_rfl)) (p2 (k:=0) (by decide)) (zv (am 0)) (λ _ _ _ _=>(jv (k:=0) (show List.Nodup (["kind"]:List Str) by decide +kernel) rfl (Or.inl rfl)))  (λ _ _ _ _=>(cK Fa ao (by omega) rfl (aq (am 0) aL))))
  (bA (b7 (kB (VI (cf ao)) (am 1) (c9 (VB (cf ao)) rfl B.sorted u0 (aq (am 1) aL)) (bH _)))))),?_⟩
 refine ⟨λ c=>?_,λ c=>?_⟩
 ·have fE:=of_decide_eq_true c;refine be.of ?_;rcases es with _ | ⟨x,_ | ⟨y,r⟩⟩
  ·exact q
  ·exact q
  ·simp only [bR] at fE;omega
 ·refine JT (λ i ds au=>∃ zs:List (Addr × D),ds=zs.map (λ z=>D.ref z.1)/\zs.map (·.2)=es.take i/\(∀ z∈zs,p8 au z)/\Sub G au) (iw (by show es.length<=_;omega)) ⟨[],rfl,rfl,by simp,Sub.refl _⟩ (λ _ _ _ _ _=>trivial) ?_ ?_
  ·rintro i d ds au hd ⟨zs,rfl,Fb,c2,ew⟩;have kT:es[i]?=some d:=hd;have hm:=uM kT;refine ⟨d,rfl,(aN d hm).1,(aN d hm).2,λ l z8=>⟨_,Sub.refl _,zs++[(l,d)],by simp,?_,λ z hz=>?_,Sub.trans ew (Sub.new (Sub.refl _) z8)⟩⟩
   ·rw [kQ,Fb,su,kT];rfl
   ·rcases fc.mp hz with hz | hz
    ·obtain ⟨ae,ag⟩:=c2 z hz;exact ⟨ae,by rw [dU (by rintro e;rw [e,z8] at ag;cases ag)];exact ag⟩
    ·simp at hz;subst hz;exact ⟨(aN d hm).1,bU⟩
  ·rintro ds au ⟨zs,rfl,Fb,c2,ew⟩ p ah
   have Fc:zs.map (·.2)=es:=by
    rw [Fb];exact sq
   have hg:zs.length=es.length:=by rw [<- Fc,er]
   have Oi:∀ z∈zs,p8 (up au p (.lst (zs.map λ z=>D.ref z.1))) z:=λ z hz=>by
    obtain ⟨ae,ag⟩:=c2 z hz;exact ⟨ae,by rw [dU (by rintro e;rw [e,ah] at ag;cases ag)];exact ag⟩
   refine ⟨zs,bU,by omega,Oi,λ ll fb iP e_ d2=>?_⟩
   have Oj:∀ z∈zs,p8 (up (up au p (.lst (zs.map λ z=>D.ref z.1))) e_ (.lst (ll.map λ z=>D.ref z.1))) z:=λ z hz=>by
    obtain ⟨ae,ag⟩:=Oi z hz;exact ⟨ae,by rw [dU (by rintro e;rw [e,d2] at ag;cases ag)];exact ag⟩
   have aaB:p≠e_:=by rintro rfl;rw [bU] at d2;cases d2
   refine ⟨zs,ll,by rw [dU aaB];exact bU,bU,Oj,λ z hz=>Oj z (fb.mem_iff.mpr hz),fb.length_eq,λ b af=>⟨G,Sub.trans ew (Sub.trans (Sub.new (Sub.refl _) ah) (Sub.new (Sub.refl _) d2)),?_⟩⟩
   have e:b=gO es:=by
    rw [Fc,La (λ d hd=>(aN d hd).1) (by rw [<- Fc];exact fb.map _) iP] at af;cases b<;>cases h:gO es<;>simp_all
   rw [e];exact q
abbrev Fd:bP:=top 17
theorem A1:ek ["thing", "bags", "pending", "one"] ["thing"] (cb Fd):=⟨rfl,rfl,rfl,by decide +kernel,rfl,by decide +kernel,by decide +kernel⟩
theorem aaC(B:fN mg)(Fe:Got P w K mg base 2 "has_kind_form" ["thing"] (bG K Do))(Ff:Got P w K mg base 1 "inner_kinds" ["kind"] (bG K Dp))(Fg:Got P w K mg base 2 "is_sorted" ["kinds"] (bG K Dr))(F:dT K "is_kind" "is_kind" Fd f fd):da P w K mg base c6 3 f fd ["thing"] (bG K Ds):=by
 refine gu (k:=2) F A1 (λ ds G ay h=>?_) (λ bI A outer s H E ao ds G ay h=>?_)
 ·obtain ⟨_,rfl,_⟩:=h;rfl
 obtain ⟨d,rfl,bh,pM,q⟩:=h
 refine ⟨_,(bq (cX (k:=1) A1.bK rfl (Or.inl rfl) (kA aL))
  (bq (cX (k:=2) A1.bK rfl (Or.inl rfl) (kA (aq (am 0) aL)))
  (bq (zz PassesOwn.never (kD (am 2)) (bq (cX (k:=3) A1.bK rfl (Or.inl rfl) (CJ PySem.F.plainAttrs_list PySem.F.slot_list_pop PySem.F.type_list_pop CL (am 2)))
  (bq (cO (pY (kD (cK Fe ao (by omega) rfl (aq (am 3) aL)))) (bA (b7 pV)) cZ)
  (bq (cO (bN (dK (cf ao)) (bZ b1 (am 3) aJ (λ _ _=>rfl)) bw (bH _)) (bA (lQ (j7 PySem.F.plainAttrs_list PySem.F.slot_list_append PySem.F.type_list_append lT (am 1) (aq (bZ b1 (am 3) aJ (λ _ _=>rfl)) aL)))) cZ)
  (bA (lQ (j7 PySem.F.plainAttrs_list PySem.F.slot_list_extend PySem.F.type_list_extend J1 (am 2) (aq (cK Ff ao (by omega) rfl (aq (am 3) aL)) aL))))))))
  (bA (b7 (p5 (c9 (CT rfl) rfl B.all PyProof.Rows.boot_all (aq (zE rfl (hI.of (N':=["bag"]) (nt:=1) (cap:=[]) rfl (by kernel_rfl)) (p2 (k:=0) (by decide)) (zv (am 1)) (λ _ _ _ _=>(jv (k:=0) (show List.Nodup (["bag"]:List Str) by decide +kernel) rfl (Or.inl rfl))) (λ _ _ _ _=>(cK Fg ao (by omega) rfl (aq (am 0) aL)))) aL)))))))),?_⟩
 intro a ax b af;obtain ⟨-,xk,ep⟩:=oEq (o:=.lst []) af
 have aaD:∀(X Y:hr)(r:Addr),p9 G r->p9 (up (up G a X) b Y) r:=λ X Y r ⟨ds,h⟩=>⟨ds,by rw [dU (by rintro rfl;rw [xk] at h;cases h),dU (by rintro rfl;rw [ax] at h;cases h)];exact h⟩
 refine ⟨λ μ ρ au=>∃(ps:List D)(bs:List (List D))(eE:Option D),ρ=[some d,some (.ref a),some (.ref b),eE]/\up (up G a (.lst (bs.map D.tup))) b (.lst ps.reverse)=au/\(eb d ↔ (∀ x∈bs,gO x=true)/\∀ p∈ps,eb p)/\((∀ p∈ps,hR p)->∀ x∈bs,∀ y∈x,hR y)/\(∀ p∈ps,gQ (p9 G) p/\dL 49000 150 63 p)/\(∀ x∈bs,x.length<=63/\∀ y∈x,cB y<=49000)/\b4 ps+bs.length<=49000/\b4 ps=μ,⟨_,[d],[],_,rfl,rfl,by simp,by simp,by simpa using ⟨bh,pM⟩,by simp,by have:=pM.eW;simp only [b4,eL];omega,rfl⟩,?_⟩;rintro μ ρ au ⟨ps,bs,eE,rfl,rfl,Fh,Ol,h8,Fi,hsz,rfl⟩;refine bX bU ⟨λ c=>?_,λ c=>?_⟩
 ·obtain ⟨y,gf,rfl⟩:∃ y gf,ps=y::gf:=by
   cases ps with
   | nil=>simp at c
   | cons z gf=>exact ⟨z,gf,rfl⟩
  rw [b4] at hsz;have aay:=Aa gf;have hyp:=K7 y;obtain ⟨gK,A2⟩:=h8 y (bT ..);refine ⟨bX bU trivial,fG bU ⟨gf.reverse,y,by simp,?_⟩⟩;rw [iM]
  have nV:∀(X:hr) o,up (up G a X) b o a=some X:=λ X o=>by rw [dU (Ne.symm ep)];exact bU
  refine ⟨y,rfl,gK.mono (aaD _ _),λ aaE yZ=>⟨λ c=>?_,λ c=>?_⟩⟩
  ·have n:¬ ∃ is bs,fg y is bs:=λ e=>by
    have z:=yZ.mpr e;subst z;cases c
   refine ⟨G,Sub.trans (Sub.new (Sub.refl _) ax) (Sub.new (Sub.refl _) (by rw [dU ep];exact xk)),q false ⟨nofun,λ e=>absurd ((Fh.mp e).2 y (bT ..)).hf n⟩⟩
  ·obtain ⟨is,aD,hf⟩:∃ is bs,fg y is bs:=yZ.mp (by cases aaE;cases c;rfl);obtain ⟨afC,aaF⟩:=hf.eW;have hm:=hf.mem gK A2;have gP:=hf.gP
   have fin:∀(ρ:eB)(eo:aP),ρ=[some d,some (.ref a),some (.ref b),some y]->up (up G a (.lst ((bs++aD).map D.tup))) b (.lst (gf.reverse++is))=eo->aD.length<=1->fV (λ ρ au=>∃ μ',μ' < b4 (y::gf)/\∃(ps:List D)(bs:List (List D))(eE:Option D),ρ=[some d,some (.ref a),some (.ref b),eE]/\up (up G a (.lst (bs.map D.tup))) b (.lst ps.reverse)=au/\(eb d ↔ (∀ x∈bs,gO x=true)/\∀ p∈ps,eb p)/\((∀ p∈ps,hR p)->∀ x∈bs,∀ y∈x,hR y)/\(∀ p∈ps,gQ (p9 G) p/\dL 49000 150 63 p)/\(∀ x∈bs,x.length<=63/\∀ y∈x,cB y<=49000)/\b4 ps+bs.length<=49000/\b4 ps=μ') ρ eo:=λ ρ eo aC aG afD=>by
    have aaG:=A2.eW;refine fV.of ⟨_,?_,is.reverse++gf,bs++aD,_,aC,?_,?_,?_,?_,?_,?_,rfl⟩
    ·rw [b4,z9,Lm];omega
    ·rw [<- aG];simp
    ·rw [Fh];constructor
     ·rintro ⟨ae,ag⟩;have z:=gP.mp (ag y (bT ..));refine ⟨λ x ak=>?_,λ p ah=>?_⟩
      ·rcases fc.mp ak with ak | ak
       ·exact ae x ak
       ·exact z.2 x ak
      ·rcases fc.mp ah with ah | ah
       ·exact z.1 p (ye.mp ah)
       ·exact ag p (bY _ ah)
     ·rintro ⟨ae,ag⟩;refine ⟨λ x ak=>ae x (kj _ ak),λ p ah=>?_⟩;rcases cC.mp ah with rfl | ah
      ·exact gP.mpr ⟨λ x ak=>ag x (kj _ (ye.mpr ak)),λ x ak=>ae x (iF _ ak)⟩
      ·exact ag p (iF _ ah)
    ·intro h x ak;obtain ⟨f1,f2⟩:=hf.fr λ x ak=>h x (kj _ (ye.mpr ak));rcases fc.mp ak with ak | ak
     ·refine Ol (λ p ah=>?_) x ak;rcases cC.mp ah with rfl | ah
      ·exact f1
      ·exact h p (iF _ ah)
     ·exact f2 x ak
    ·intro p ah;rcases fc.mp ah with ah | ah
     ·exact hm p (ye.mp ah)
     ·exact h8 p (bY _ ah)
    ·intro x ak;rcases fc.mp ak with ak | ak
     ·exact Fi x ak
     ·obtain ⟨cI,b9⟩:=aaF x ak;have:=A2.h7;exact ⟨by omega,λ y bv=>by have:=z_ bv;omega⟩
    ·rw [z9,Lm,dE];omega
   have aaH:=Aa is;have aaG:=A2.eW
   cases hf with
   | is n=>exact ⟨nofun,λ _=>⟨bX bU trivial,_,_,_,rfl,(fg.is n),by omega,fG bU ⟨dQ (by simp only [ig,bR,eL];omega),by rw [iM];exact fin _ _ rfl (by simp) (by simp)⟩⟩⟩
   | some=>exact ⟨nofun,λ _=>⟨bX bU trivial,_,_,_,rfl,fg.some,by omega,fG bU ⟨dQ (by simp only [ig,bR,eL];omega),by rw [iM];exact fin _ _ rfl (by simp) (by simp)⟩⟩⟩
   | both dA cT=>exact ⟨nofun,λ _=>⟨bX bU trivial,_,_,_,rfl,(fg.both dA cT),by omega,fG bU ⟨dQ (by simp only [ig,bR,eL];omega),by rw [iM];exact fin _ _ rfl (by simp) (by simp)⟩⟩⟩
   | left x=>exact ⟨nofun,λ _=>⟨bX bU trivial,_,_,_,rfl,(fg.left x),by omega,fG bU ⟨dQ (by simp only [ig,bR,eL];omega),by rw [iM];exact fin _ _ rfl (by simp) (by simp)⟩⟩⟩
   | right x=>exact ⟨nofun,λ _=>⟨bX bU trivial,_,_,_,rfl,(fg.right x),by omega,fG bU ⟨dQ (by simp only [ig,bR,eL];omega),by rw [iM];exact fin _ _ rfl (by simp) (by simp)⟩⟩⟩
   | way ds k=>
    refine ⟨λ _=>⟨bX (nV _ _) trivial,fG (nV _ _) ⟨iw (by rw [er];omega),?_⟩⟩,nofun⟩;rw [CV ep];refine ⟨bX bU trivial,_,_,_,rfl,fg.way ds k,by omega,fG bU ⟨dQ (by simp only [ig,dE,sl] at aaH ⊢;omega),?_⟩⟩;rw [iM];exact fin _ _ rfl (by simp) (by simp)
 ·have e:ps=[]:=by
   cases ps with
   | nil=>rfl
   | cons _ _=>simp at c
  subst e;have eT:∀ x∈bs,∀ y∈x,bx y:=λ x ak y bv=>(Ol (by simp) x ak y bv).e9
  have nV:∀(X:hr) o,up (up G a X) b o a=some X:=λ X o=>by rw [dU (Ne.symm ep)];exact bU
  refine JJ (nV _ _) ?_;refine zD bs D.tup (λ x=>.aI (gO x)) ?_ ?_ ?_ ?_ ?_
  ·rfl
  ·exact iw (by simp only [b4] at hsz;omega)
  ·exact nV _ _
  ·intro x ak R hi;exact ⟨x,rfl,λ y bv=>⟨eT x ak y bv,(Fi x ak).2 y bv⟩,by have:=(Fi x ak).1;omega,hi⟩
  ·intro p ah;refine bX bU ⟨bs.map gO,?_,G,?_,be.of (q _ ?_)⟩
   ·rw [show (bs.map λ x=>D.aI (gO x))=(bs.map gO).map D.aI from (sv ..).symm];exact zK _
   ·exact Sub.trans (Sub.trans (Sub.new (Sub.refl _) ax) (Sub.new (Sub.refl _) (by rw [dU ep];exact xk))) (Sub.new (Sub.refl _) ah)
   ·rw [Fh];simp
abbrev Fj:bP:=top 27
theorem aaI:ek ["text", "signs"] ["text", "signs"] (cb Fj):=⟨rfl,rfl,rfl,by decide +kernel,rfl,by decide +kernel,by decide +kernel⟩
theorem aaJ(B:fN mg)(F:dT K "made_of" "made_of" Fj f fd):da P w K mg base c6 1 f fd ["text", "signs"] (bG K Dw):=by
 refine gu (k:=0) F aaI (λ ds G ay h=>?_) (λ bI A outer s H E ao ds G ay h=>?_)
 ·obtain ⟨_,_,rfl,_⟩:=h;rfl
 obtain ⟨z,y,rfl,hz,q⟩:=h;refine ⟨_,(bA (b7 (p5 (c9 (CT rfl) rfl B.all PyProof.Rows.boot_all (aq (zE rfl (hI.of (N':=["sign", "signs"]) (nt:=1) (cap:=[1]) rfl (by kernel_rfl)) (p2 (k:=0) (by decide)) (Ws (am 0)) (λ _ _ _ _=>(jv (k:=0) (show List.Nodup (["sign", "signs"]:List Str) by decide +kernel) rfl (Or.inl rfl))) (λ _ _ _ _=>(kB p0 (am 0) (am 1) (by with_unfolding_all rfl)))) aL))))),?_⟩;refine zD z.cps.toList (λ c=>.str ⟨#[c]⟩) (λ c=>.aI (decide (c∈y.cps.toList))) rfl (iw ?_) trivial (λ c _ R hi=>?_) (λ p ah=>?_)
 ·have:z.cps.toList.length=z.length:=rfl;omega
 ·show R (.aI (false ^^ !(Builtin.Str.occurrences y ⟨#[c]⟩ 0 y.length 1).isEmpty)) G;rw [Dv,lB];exact hi
 ·refine bX bU ⟨z.cps.toList.map λ c=>decide (c∈y.cps.toList),?_,G,Sub.new (Sub.refl _) ah,be.of ?_⟩
  ·rw [show (z.cps.toList.map λ c=>D.aI (decide (c∈y.cps.toList)))=(z.cps.toList.map λ c=>decide (c∈y.cps.toList)).map D.aI by simp];exact zK _
  ·rw [List.all_map];exact q
abbrev Fk:bP:=top 26
theorem Om:ek ["text", "most", "figures"] ["text", "most"] (cb Fk):=⟨rfl,rfl,rfl,by decide +kernel,rfl,by decide +kernel,by decide +kernel⟩
theorem aaK(B:fN mg){aaL:Tok}(Fl:mg "FIGURES" = some (.str jz aaL))(Fm:Got P w K mg base 1 "made_of" ["text", "signs"] (bG K Dw))(F:dT K "is_whole_text" "is_whole_text" Fk f fd):da P w K mg base c6 2 f fd ["text", "most"] (bG K DU):=by
 refine gu (k:=1) F Om (λ ds G ay h=>?_) (λ bI A outer s H E ao ds G ay h=>?_)
 ·obtain ⟨_,rfl,_⟩:=h;rfl
 obtain ⟨z,rfl,hz,q⟩:=h
 refine ⟨_,(bq (cX (k:=2) Om.bK rfl (Or.inl rfl) (TV (kD (j7 PySem.F.plainAttrs_str PySem.F.slot_str_startswith PySem.F.type_str_startswith Lv (am 0) (aq bw aL))) (fU hy (am 0) (d_ aJ) h5) (am 0)))
  (bq (cO (pY (eZ.at (kC (Wu Jx Jx aJ (c9 fA rfl B.len fw (aq (am 2) aL)) (am 1)) (la (kD (cK Fm ao (by omega) rfl (aq (am 2) (aq (k8 (d:=.str _) (v:=.str _) rfl Fl ⟨_,rfl⟩ (λ _=>rfl)) aL)))))))) (bA (b7 pV)) cZ)
  (bA (b7 (zj (vV (j7 PySem.F.plainAttrs_str PySem.F.slot_str_startswith PySem.F.type_str_startswith Lv (am 2) (aq bw aL))) (mF (kB (dK (cf ao)) (am 0) bw (bH _)))))))),?_⟩
 have MK:=Dy z;unfold fh at q;refine ⟨trivial,⟨λ ap=>⟨dQ (by omega),?_⟩,λ ap=>?_⟩⟩
 ·rw [show Txt.slice z (some 1) none=bare z from (if_pos ap).symm];generalize bare z=y at q MK ⊢;refine ⟨dQ (by omega),⟨λ bu=>⟨λ bt=>⟨y,jz,rfl,by omega,⟨λ d0=>be.of ?_,λ d0=>⟨trivial,⟨λ gq=>be.of ?_,λ gq=>be.of ?_⟩⟩⟩⟩,λ bt=>⟨λ _=>be.of ?_,λ c=>zN c⟩⟩,λ bu=>⟨λ c=>Ka c,λ _=>⟨λ _=>be.of ?_,λ c=>zN c⟩⟩⟩⟩
  ·rw [bu,bt,show j_ y jz=false by simpa using d0] at q;exact q
  ·rw [bu,bt,show j_ y jz=true by simpa using d0,gq] at q;exact q
  ·rw [bu,bt,show j_ y jz=true by simpa using d0,gq] at q;exact q
  ·rw [bu,bt] at q;exact q
  ·rw [bu] at q;exact q
 ·rw [show bare z=z from if_neg (by rw [ap];decide)] at q;refine ⟨dQ (by omega),⟨λ bu=>⟨λ bt=>⟨z,jz,rfl,by omega,⟨λ d0=>be.of ?_,λ d0=>⟨trivial,⟨λ gq=>be.of ?_,λ gq=>be.of ?_⟩⟩⟩⟩,λ bt=>⟨λ _=>be.of ?_,λ c=>zN c⟩⟩,λ bu=>⟨λ c=>Ka c,λ _=>⟨λ _=>be.of ?_,λ c=>zN c⟩⟩⟩⟩
  ·rw [bu,bt,show j_ z jz=false by simpa using d0] at q;exact q
  ·rw [bu,bt,show j_ z jz=true by simpa using d0,gq] at q;exact q
  ·rw [bu,bt,show j_ z jz=true by simpa using d0,gq] at q;exact q
  ·rw [bu,bt] at q;exact q
  ·rw [bu] at q;exact q
abbrev Fn:bP:=top 39
theorem On:ek ["_law_feed_here", "_law_form"] ["_law_feed_here"] (cb Fn):=⟨rfl,rfl,rfl,by decide +kernel,rfl,by decide +kernel,by decide +kernel⟩
theorem aaM(B:fN mg)(eA:Got P w K mg base 1 "_law_take" ["_law_feed_here", "_law_many"] (bG K lU))(F:dT K "_law_number" "_law_number" Fn f fd):da P w K mg base c6 2 f fd ["_law_feed_here"] (bG K DS):=by
 refine gu (k:=1) F On (λ ds G ay h=>?_) (λ bI A outer s H E ao ds G ay h=>?_)
 ·obtain ⟨_,rfl,_⟩:=h;rfl
 obtain ⟨a,rfl,c2,q⟩:=h
 refine ⟨_,(bq (cX (k:=1) On.bK rfl (Or.inl rfl) (cK eA ao (by omega) rfl (aq (am 0) (aq aJ aL))))
  (bq (cO (bN lf (am 1) aJ (bH _)) (bA (b7 (tl (aq aJ (aq aJ (aq (mE mH aJ) (aq aJ aL)))) (am 1) (λ _ _=>rfl)))) cZ)
  (bq (cO (bN lf (am 1) aJ (bH _)) (bA (b7 (bW lb (cK eA ao (by omega) rfl (aq (am 0) (aq aJ aL))) aJ))) cZ)
  (bq (cO (bN (dK (cf ao)) (am 1) aJ (bH _)) (bA (b7 (tl (aq aJ (aq (mE mH aJ) (aq aJ (aq (mE mH aJ) (aq aJ aL))))) (cK eA ao (by omega) rfl (aq (am 0) (aq aJ aL))) (λ _ _=>rfl)))) cZ)
  (bA (b7 (bW lb (cK eA ao (by omega) rfl (aq (am 0) (aq aJ aL))) aJ))))))),?_⟩
 refine ⟨c2,by decide,by decide,λ l4 aB cY f0 f1=>⟨λ c=>?_,λ c=>⟨λ c=>?_,λ c=>?_⟩⟩⟩
 ·have fE:=of_decide_eq_true c;exact UY (by omega) (by omega) (λ _=>be.of (q _ _ cY (by decide))) (λ _=>be.of (q _ _ cY (by decide))) (λ _=>be.of (q _ _ cY (by decide))) (λ _=>be.of (q _ _ cY (by decide)))
 ·exact ⟨cY.fd,by decide,by decide,λ k bf du _ _=>be.of (q _ _ (cY.trans du) (by omega))⟩
 ·refine ⟨λ _=>⟨cY.fd,by decide,by decide,λ k bf du k0 k1=>?_⟩,λ _=>⟨cY.fd,by decide,by decide,λ k bf du _ _=>be.of (q _ _ (cY.trans du) (by omega))⟩⟩
  exact U9 k0 k1 λ d hd=>by
   simp only [cC,eV,or_false] at hd;rcases hd with rfl | rfl | rfl | rfl | rfl<;>exact be.of (q _ _ (cY.trans du) (by decide))
abbrev Fo:bP:=top 23
theorem uf:ek ["text", "signs", "pieces", "start", "at", "sign"] ["text", "signs"] (cb Fo):=⟨rfl,rfl,rfl,by decide +kernel,rfl,by decide +kernel,by decide +kernel⟩
theorem aaN(B:fN mg)(F:dT K "pieces_of" "pieces_of" Fo f fd):da P w K mg base c6 1 f fd ["text", "signs"] (bG K DV):=by
 refine gu (k:=0) F uf (λ ds G ay h=>?_) (λ bI A outer s H E ao ds G ay h=>?_)
 ·obtain ⟨_,rfl,_⟩:=h;rfl
 obtain ⟨z,rfl,hz,q⟩:=h
 refine ⟨_,(bq (cX (k:=2) uf.bK rfl (Or.inl rfl) (kA aL))
  (bq (cX (k:=3) uf.bK rfl (Or.inl rfl) aJ)
  (bq (wb PassesOwn.never rfl (WS rfl B.enumerate (aq (am 0) aL)) (Jv (n:=2) rfl (zm (jv (k:=4) uf.bK rfl (Or.inl rfl)) (zm (jv (k:=5) uf.bK rfl (Or.inl rfl)) Ju))) (bA (cO (bN p0 (am 5) (am 1) (by with_unfolding_all rfl)) (bq (cO (bN lf (am 3) (am 4) (bH _)) (bA (lQ (j7 PySem.F.plainAttrs_list PySem.F.slot_list_append PySem.F.type_list_append lT (am 2) (aq (fU hy (am 0) (d_ (am 3)) (d_ (am 4))) aL)))) cZ)
  (bq (lQ (j7 PySem.F.plainAttrs_list PySem.F.slot_list_append PySem.F.type_list_append lT (am 2) (aq (am 5) aL)))
  (bA (cX (k:=3) uf.bK rfl (Or.inl rfl) (bW di (am 4) aJ))))) cZ)))
  (bq (cO (bN lf (am 3) (c9 fA rfl B.len fw (aq (am 0) aL)) (bH _)) (bA (lQ (j7 PySem.F.plainAttrs_list PySem.F.slot_list_append PySem.F.type_list_append lT (am 2) (aq (fU hy (am 0) (d_ (am 3)) h5) aL)))) cZ)
  (bA (b7 (am 2))))))),?_⟩
 intro a ax;have hg:z.cps.toList.length=z.length:=fO;generalize xm:z.cps.toList=gN at q hg;refine ⟨λ i ρ au=>∃(jg:List Str)(s:Nat)(d1 fZ:Option D),ρ=[some (.str z),some (.str tD),some (.ref a),some (.int (s:Int)),d1,fZ]/\up G a (.lst (jg.map D.str))=au/\s<=i/\i<=gN.length/\jg++cQ cR ((gN.take i).drop s) (gN.drop i)=cQ cR [] gN/\jg.length+(i - s)<=i,⟨[],0,_,_,rfl,rfl,ZB _,ef _,by simp,ZB _⟩,λ _ _ _ _ _=>trivial,?_,?_⟩
 ·rintro i e ρ au he ⟨jg,s,d1,fZ,rfl,rfl,ap,A3,hd,aH⟩;have iS:(mP z)[i]?=some e:=he;unfold mP at iS;rw [iG,List.getElem?_zipIdx,xm] at iS
  cases ai:gN[i]? with
  | none=>rw [ai] at iS;cases iS
  | some c=>
   rw [ai] at iS;simp at iS;subst iS;have fm:=(mb.mp ai).1
   have KO:gN.drop i=c::gN.drop (i+1):=by rw [pB fm,(mb.mp ai).2]
   have qq:gN.take (i+1)=gN.take i++[c]:=by rw [su,ai,Option.toList_some]
   have hA:((gN.take i).drop s).length=i - s:=by rw [hF,kk];omega
   rw [KO,cQ] at hd;refine ⟨λ bu=>?_,λ bu=>?_⟩
   ·rw [lB,Dv,decide_eq_true_eq,show tD.cps.toList=cR from LK] at bu;rw [if_pos bu] at hd;refine ⟨λ bt=>?_,λ bt=>?_⟩
    ·have ke:s < i:=by have:=of_decide_eq_true bt;omega
     have es:Txt.slice z (some (s:Int)) (some (i:Int))=cH ((gN.take i).drop s):=by
      rw [eq_of_beq (yu (x:=z) (i:=s) (j:=i) ⟨by omega,by omega,by rw [xm];omega⟩),xm];refine iR ?_;rw [gd,List.drop_take];show (gN.drop s).take ((i:Int) - (s:Int)).toNat=_;rw [show ((i:Int) - (s:Int)).toNat=i - s by omega]
     refine ⟨bX bU trivial,⟨big (by omega),fG bU ⟨Am (by rw [er];omega),?_⟩⟩⟩;rw [iM];refine ⟨bX bU trivial,fG bU ⟨Am (by simp only [dE,er,bR,eL];omega),fV.of ⟨jg++[cH ((gN.take i).drop s),cH [c]],i+1,_,_,rfl,?_,ZB _,by omega,?_,by simp only [dE,bR,eL];omega⟩⟩⟩
     ·rw [iM,es];simp [cH]
     ·rw [<- hd,if_neg (by intro b6;have:=congrArg mc b6;rw [hA,eL] at this;omega),show (gN.take (i+1)).drop (i+1)=[] from nd (by rw [kk];omega)];simp
    ·have ke:s=i:=by have:=of_decide_eq_false bt;omega
     subst ke;refine ⟨bX bU trivial,fG bU ⟨Am (by rw [er];omega),fV.of ⟨jg++[cH [c]],s+1,_,_,rfl,?_,ZB _,by omega,?_,by simp only [dE,bR,eL];omega⟩⟩⟩
     ·rw [iM];simp [cH]
     ·rw [<- hd,if_pos (yd (by rw [hA];omega)),show (gN.take (s+1)).drop (s+1)=[] from nd (by rw [kk];omega)];simp
   ·rw [lB,Dv,decide_eq_false_iff_not,show tD.cps.toList=cR from LK] at bu;rw [if_neg bu] at hd;refine fV.of ⟨jg,s,_,_,rfl,rfl,by omega,by omega,?_,by omega⟩;rw [<- hd,qq,uR (by rw [kk];omega)]
 ·rintro ρ au ⟨jg,s,d1,fZ,rfl,rfl,ap,A3,hd,aH⟩
  have kJ:(⟨mP z,λ _=>True⟩:kE).items.length=gN.length:=by show (mP z).length=_;unfold mP;rw [er,List.length_zipIdx,xm]
  rw [kJ] at ap A3 hd aH
  have hA:((gN.take gN.length).drop s).length=gN.length - s:=by rw [hF,kk];omega
  rw [List.drop_length,cQ] at hd;refine ⟨big (by omega),⟨λ bt=>?_,λ bt=>?_⟩⟩
  ·have ke:s < gN.length:=by have:=of_decide_eq_true bt;omega
   have es:Txt.slice z (some (s:Int)) none=cH ((gN.take gN.length).drop s):=by
    rw [PyProof.Rows.slice_from_eq (x:=z) (i:=s) (by omega) (by omega) rfl,xm];refine iR ?_;rw [gd,sq];show (gN.drop s).take _=_;rw [qH];rw [hF];omega
   refine ⟨bX bU trivial,⟨big (by omega),fG bU ⟨Am (by rw [er];omega),?_⟩⟩⟩;rw [iM,es];rw [if_neg (by intro b6;have:=congrArg mc b6;rw [hA,eL] at this;omega)] at hd;have:=q a ax;rw [<- hd,kQ] at this;exact be.of this
  ·have ke:s=gN.length:=by have:=of_decide_eq_false bt;omega
   rw [if_pos (yd (by rw [hA];omega)),dD] at hd;have:=q a ax;rw [<- hd] at this;exact be.of this
abbrev Fp:bP:=top 44
theorem Fq:ek ["_law_kind_here", "_law_word", "_law_one"] ["_law_kind_here"] (cb Fp):=⟨rfl,rfl,rfl,by decide +kernel,rfl,by decide +kernel,by decide +kernel⟩
theorem aaO:da P w K mg base c6 1 f fd ["_law_kind_here"] (bG K (wE 0)):=tn λ ds G ay h=>by obtain ⟨_,_,_,_,h,_⟩:=h;omega
theorem aaP{n:Nat}(B:fN mg)(o_:Got P w K mg base (n+1) "_law_shown" ["_law_kind_here"] (bG K (wE n)))(F:dT K "_law_shown" "_law_shown" Fp f fd):da P w K mg base c6 (n+2) f fd ["_law_kind_here"] (bG K (wE (n+1))):=by
 refine gu (k:=n+1) F Fq (λ ds G ay h=>?_) (λ bI A outer s H E ao ds G ay h=>?_)
 ·obtain ⟨_,_,rfl,_⟩:=h;rfl
 obtain ⟨d,x,rfl,ak,hd,ap,q⟩:=h
 refine ⟨_,(bq (cX (k:=1) Fq.bK rfl (Or.inl rfl) (bZ b1 (am 0) aJ (λ _ _=>rfl)))
  (bq (cO (bN (dK (cf ao)) (am 1) bw (bH _)) (bA (b7 (mI Lx rfl B.str uZ (aq (bZ b1 (am 0) aJ (λ _ _=>rfl)) aL)))) cZ)
  (bq (cO (bN (dK (cf ao)) (am 1) bw (bH _)) (bA (b7 bw)) cZ)
  (bq (cO (bN (dK (cf ao)) (am 1) bw (bH _)) (bA (b7 (bW di (bW di (bW di (bW di bw (j7 PySem.F.plainAttrs_str PySem.F.slot_str_join PySem.F.type_str_join Wz bw (aq (zE rfl (hI.of (N':=["_law_one"]) (nt:=1) (cap:=[]) rfl (by kernel_rfl)) (p2 (k:=0) (by decide)) (zv (bZ b1 (am 0) aJ (λ _ _=>rfl))) (λ _ _ _ _=>(jv (k:=0) (show List.Nodup (["_law_one"]:List Str) by decide +kernel) rfl (Or.inl rfl))) (λ _ _ _ _=>(cK o_ ao (by omega) rfl (aq (am 0) aL)))) aL))) bw) (cK o_ ao (by omega) rfl (aq (bZ b1 (am 0) aJ (λ _ _=>rfl)) aL))) bw))) cZ)
  (bq (cX (k:=2) Fq.bK rfl (Or.inl rfl) (cK o_ ao (by omega) rfl (aq (bZ b1 (am 0) aJ (λ _ _=>rfl)) aL)))
  (bq (cO (bN (dK (cf ao)) (am 1) bw (bH _)) (bA (b7 (bW di (bW di (bW di (bW di bw (am 2)) bw) (cK o_ ao (by omega) rfl (aq (bZ b1 (am 0) aJ (λ _ _=>rfl)) aL))) bw))) cZ)
  (bA (b7 (tl (aq (bW di (bW di bw (am 2)) bw) (aq (bW di (bW di bw (am 2)) bw) aL)) (mI Uh rfl B.int sG (aq (kB (dK (cf ao)) (am 1) bw (bH _)) aL)) (λ _ _=>rfl)))))))))),?_⟩
 have aaQ:=ak.tF ap
 cases ak with
 | is m hm=>rw [LW] at q;exact ⟨λ _=>⟨LS hm,be.of q⟩,λ c=>absurd c (by decide)⟩
 | some=>rw [LW] at q;exact ⟨λ c=>absurd c (by decide),λ _=>⟨λ _=>be.of q,λ c=>absurd c (by decide)⟩⟩
 | @left a x h0=>
  have lu:=h0.tF (by simp only [cB,b4] at ap;omega);refine ⟨λ c=>absurd c (by decide),λ _=>⟨λ c=>absurd c (by decide),λ _=>⟨λ c=>absurd c (by decide),λ _=>⟨a,x,rfl,h0,(by simp only [D.bC,cc] at hd;omega),(by simp only [cB,b4] at ap;omega),⟨λ c=>absurd c (by decide),λ _=>⟨lits (by decide) lu,?_⟩⟩⟩⟩⟩⟩;have bD:=tI (z:=("(" : Str)) (by decide) lu;have b5:=tI (z:=("(," : Str)) (by decide) lu;refine ⟨tH (by decide) bD,lits (by decide) lu,tH (by decide) b5,at2 (by decide) (by decide) (λ _=>be.of ?_) (λ c=>absurd c (by decide))⟩;rw [show (("(" : Str)++txt x++(",)" : Str))=txt ("("::(x++[(",":Str),(")":Str)])) from iR (by simp [nQ,gd,cat,dm,W_])];exact q
 | @right a x h0=>
  have lu:=h0.tF (by simp only [cB,b4] at ap;omega);refine ⟨λ c=>absurd c (by decide),λ _=>⟨λ c=>absurd c (by decide),λ _=>⟨λ c=>absurd c (by decide),λ _=>⟨a,x,rfl,h0,(by simp only [D.bC,cc] at hd;omega),(by simp only [cB,b4] at ap;omega),⟨λ c=>absurd c (by decide),λ _=>⟨lits (by decide) lu,?_⟩⟩⟩⟩⟩⟩;have bD:=tI (z:=("(" : Str)) (by decide) lu;have b5:=tI (z:=("(," : Str)) (by decide) lu;refine ⟨tH (by decide) bD,lits (by decide) lu,tH (by decide) b5,at2 (by decide) (by decide) (λ c=>absurd c (by decide)) (λ _=>be.of ?_)⟩;rw [show (("(," : Str)++txt x++(")" : Str))=txt ("("::","::(x++[(")":Str)])) from iR (by simp [nQ,gd,cat,dm,Xa])];exact q
 | @both a b x y ae ag=>
  have lu:=ae.tF (by simp only [cB,b4] at ap;omega);have afE:=ag.tF (by simp only [cB,b4] at ap;omega);have bD:=tI (z:=("(" : Str)) (by decide) lu
  have b5:(("(" : Str)++txt x++("," : Str)).length<=240004:=by rw [tG,Xb];omega
  refine ⟨λ c=>absurd c (by decide),λ _=>⟨λ c=>absurd c (by decide),λ _=>⟨λ c=>absurd c (by decide),λ _=>⟨a,x,rfl,ae,(by simp only [D.bC,cc] at hd;omega),(by simp only [cB,b4] at ap;omega),⟨λ _=>⟨lits (by decide) lu,tH (by decide) bD,b,y,rfl,ag,(by simp only [D.bC,cc] at hd;omega),(by simp only [cB,b4] at ap;omega),big (by omega),big ?_,be.of ?_⟩,λ c=>absurd c (by decide)⟩⟩⟩⟩⟩
  ·rw [tG,Xd];omega
  ·rw [show (("(" : Str)++txt x++("," : Str)++txt y++(")" : Str))=txt ("("::(x++("," : Str)::(y++[(")":Str)]))) from iR (by simp [nQ,gd,cat,dm])];exact q
 | @way ps k y ae ag afF=>
  have lu:=ag.tF (by simp only [cB,b4] at ap;omega);have afG:=LX (ps.map (·.2))
  have A3:(cat (c4 (" " : Str) (ps.map (·.2)))).length<=240000:=by
   have:(cat ("["::(c4 (" " : Str) (ps.map (·.2))++(":" : Str)::(y++[("]":Str)])))).length<=240000:=aaQ;simp only [cat,dm,dE] at this;omega
  refine ⟨λ c=>absurd c (by decide),λ _=>⟨λ c=>absurd c (by decide),λ _=>⟨λ _=>⟨trivial,zD ps (·.1) (λ p=>.str (txt p.2)) rfl (iw (by omega)) trivial (λ p ah R hi=>⟨p.1,p.2,rfl,ae p ah,?_,?_,hi⟩) (λ l ar=>bX bU ⟨(ps.map (·.2)).map txt,by simp,by decide,?_,?_⟩)⟩,λ c=>absurd c (by decide)⟩⟩⟩
  ·have:=zM (sw (f:=(·.1)) ah);simp only [D.bC,cc] at hd;omega
  ·have:=z_ (sw (f:=(·.1)) ah);simp only [cB,b4] at ap;omega
  ·rw [er,er,sv];show ((ps.map (·.2)).map λ x=>(cat x).length).sum+_<=_;omega
  ·rw [W2];have bD:(txt (c4 (" " : Str) (ps.map (·.2)))).length<=240000:=A3;have b5:=tI (z:=("[" : Str)) (by decide) bD
   have iO:(("[" : Str)++txt (c4 (" " : Str) (ps.map (·.2)))++(":" : Str)).length<=240004:=by rw [tG,Xc];omega
   refine ⟨lits (by decide) bD,tH (by decide) b5,k,y,rfl,ag,(by simp only [D.bC,cc] at hd;omega),(by simp only [cB,b4] at ap;omega),big (by omega),big ?_,⟨G,Sub.new (Sub.refl _) ar,?_⟩⟩
   ·rw [tG,Xe];omega
   ·rw [show (("[" : Str)++txt (c4 (" " : Str) (ps.map (·.2)))++(":" : Str)++txt y++("]" : Str))=txt ("["::(c4 (" " : Str) (ps.map (·.2))++(":" : Str)::(y++[("]":Str)]))) from iR (by simp [nQ,gd,cat,dm])];exact q
abbrev Fr:bP:=top 45
theorem aaR:ek ["_law_found", "_law_due"] ["_law_found", "_law_due"] (cb Fr):=⟨rfl,rfl,rfl,by decide +kernel,rfl,by decide +kernel,by decide +kernel⟩
theorem aaS:da P w K mg base c6 1 f fd ["_law_found", "_law_due"] (bG K (wF 0)):=tn λ ds G ay h=>by obtain ⟨_,_,_,h,_⟩:=h;omega
theorem aaT{n:Nat}(B:fN mg)(xn:Got P w K mg base (n+1) "_law_alike" ["_law_found", "_law_due"] (bG K (wF n)))(F:dT K "_law_alike" "_law_alike" Fr f fd):da P w K mg base c6 (n+2) f fd ["_law_found", "_law_due"] (bG K (wF (n+1))):=by
 refine gu (k:=n+1) F aaR (λ ds G ay h=>?_) (λ bI A outer s H E ao ds G ay h=>?_)
 ·obtain ⟨_,rfl,_⟩:=h;rfl
 obtain ⟨d,rfl,ax,hd,hw,q⟩:=h
 refine ⟨_,(bq (cO (kD (c9 kH rfl B.isinstance i2 (aq (am 1) (aq (j1 rfl B.tuple mf) aL)))) (bq (cO (eZ.at (h4 (pY (kD (c9 kH rfl B.isinstance i2 (aq (am 0) (aq (j1 rfl B.tuple mf) aL))))) (j3 (bN (je (cf ao)) (c9 fA rfl B.len fw (aq (am 0) aL)) (c9 fA rfl B.len fw (aq (am 1) aL)) (bH _))))) (bA (b7 pV)) cZ)
  (bA (b7 (p5 (c9 (CT rfl) rfl B.all PyProof.Rows.boot_all (aq (zE rfl (hI.of (N':=["_law_one", "_law_other"]) (nt:=2) (cap:=[]) rfl (by kernel_rfl)) (Uu (JR CE (Ut CE JQ) (p2 (k:=0) (by decide)) (JR CE JQ (p2 (k:=1) (by decide)) Us))) (UV rfl B.zip (aq (am 0) (aq (am 1) aL))) (λ _ _ _ _=>(Jv (n:=2) rfl (zm (jv (k:=0) (show List.Nodup (["_law_one", "_law_other"]:List Str) by decide +kernel) rfl (Or.inl rfl)) (zm (jv (k:=1) (show List.Nodup (["_law_one", "_law_other"]:List Str) by decide +kernel) rfl (Or.inl rfl)) Ju)))) (λ _ _ _ _=>(cK xn ao (by omega) rfl (aq (am 0) (aq (am 1) aL))))) aL)))))) cZ)
  (bq (cO (kD (c9 kH rfl B.isinstance i2 (aq (am 1) (aq (j1 rfl B.str uZ) aL)))) (bA (b7 (mG (c9 kH rfl B.isinstance i2 (aq (am 0) (aq (j1 rfl B.str uZ) aL))) (mF (kB (dK (cf ao)) (am 0) (am 1) (bH _)))))) cZ)
  (bA (b7 (mG (c9 kH rfl B.isinstance i2 (aq (am 0) (aq (j1 rfl B.int sG) aL))) (mG (vV (c9 kH rfl B.isinstance i2 (aq (am 0) (aq (j1 rfl B.bool PyProof.Rows.boot_bool) aL)))) (mF (kB (dK (cf ao)) (am 0) (am 1) (bH _))))))))),?_⟩
 cases ax with
 | int m=>exact ⟨false,rfl,⟨nofun,λ _=>⟨false,rfl,⟨nofun,λ _=>⟨true,rfl,⟨λ _=>⟨false,rfl,⟨λ _=>be.of (by rw [show id (m==m)=true from beq_self_eq_true m];exact q),nofun⟩⟩,nofun⟩⟩⟩⟩⟩⟩
 | str z=>exact ⟨false,rfl,⟨nofun,λ _=>⟨true,rfl,⟨λ _=>⟨true,rfl,⟨λ _=>be.of (by rw [show id (z==z)=true from beq_self_eq_true z];exact q),nofun⟩⟩,nofun⟩⟩⟩⟩
 | @tup es aaU=>
  obtain ⟨xo,ug⟩:=qa hw;refine ⟨true,rfl,⟨λ _=>⟨true,rfl,⟨nofun,λ _=>⟨λ c=>by simp at c,λ _=>⟨ZB _,zD es (λ d=>.tup [d,d]) (λ _=>.aI true) ?_ (iw (by omega)) trivial (λ x ak R hi=>⟨x,rfl,aaU x ak,?_,ug x ak,hi⟩) (λ p ah=>bX bU ⟨es.map λ _=>true,?_,G,Sub.new (Sub.refl _) ah,be.of ?_⟩)⟩⟩⟩⟩,nofun⟩⟩
  ·show (es.zip es).map (λ z=>D.tup [z.1,z.2])=_;rw [J_]
  ·have:=zM ak;simp only [D.bC] at hd;omega
  ·rw [show (es.map λ _=>D.aI true)=(es.map λ _=>true).map D.aI by simp];exact zK _
  ·rw [show (es.map λ _=>true).all id=true by simp];exact q
abbrev Fs:bP:=top 32
theorem aaV:ek ["piece"] ["piece"] (cb Fs):=⟨rfl,rfl,rfl,by decide +kernel,rfl,by decide +kernel,by decide +kernel⟩
theorem aaW(B:fN mg){Ft:Tok}{cj:Addr}(jm:rS P w K mg base 1 "NoText" cj "at")(Fu:mg "MOST_FIGURES" = some (.int 12 Ft))(Fv:Got P w K mg base 2 "is_whole_text" ["text", "most"] (bG K DU))(F:dT K "read_piece" "read_piece" Fs f fd):da P w K mg base (fD P w) 3 f fd ["piece"] (iT K (Ed cj)):=by
 refine wV (k:=2) F aaV (λ ds G ay dv h=>?_) (λ bI A outer s H E ao ds G ay dv h hT=>?_)
 ·obtain ⟨_,rfl,_⟩:=h;rfl
 obtain ⟨p,rfl,ah,dA,cT⟩:=h
 refine ⟨_,(ji (gs.x (cO (bN p0 (am 0) bw (by with_unfolding_all rfl)) (bA (b7 (am 0))) cZ))
  (ji (gs.x (cO (bN (dK (cf ao)) (am 0) bw (bH _)) (bA (b7 (d9 (aq bw aL)))) cZ))
  (ji (o4 (pY (kD (cK Fv ao (by omega) rfl (aq (am 0) (aq (k8 (d:=.int _) (v:=.int _) rfl Fu ⟨_,rfl⟩ (λ _=>rfl)) aL))))) (jj (rT hT jm ao (by omega) rfl aJ)) rR)
  (jj (gs.x (b7 (d9 (aq bw (aq (mI DG rfl B.int sG (aq (am 0) aL)) aL))))))))),?_⟩
 refine ⟨λ c=>be.of (dA _ ?_),λ c=>⟨λ bt=>be.of (dA _ ?_),λ bt=>⟨p,rfl,ah,⟨λ d0=>⟨rfl,G,Sub.refl _,cT ?_⟩,λ d0=>?_⟩⟩⟩⟩
 ·have ci:mV p=true:=by rw [lB] at c;exact c
  unfold iU;rw [if_pos ci]
 ·have ci:mV p=false:=by rw [lB] at c;exact c
  have ke:p = "~":=eq_of_beq bt;unfold iU;rw [if_neg (by rw [ci];decide),if_pos ke]
 ·have ci:mV p=false:=by rw [lB] at c;exact c
  have ke:p≠"~":=λ e=>by subst e;cases bt
  unfold iU;rw [if_neg (by rw [ci];decide),if_neg ke,if_neg (by simpa using d0)]
 ·have ci:mV p=false:=by rw [lB] at c;exact c
  have ke:p≠"~":=λ e=>by subst e;cases bt
  have Oo:fh p=true:=by simpa using d0
  obtain ⟨ae,ag⟩:=MD Oo;exact ⟨ln p,ae,by omega,be.of (dA _ (by unfold iU;rw [if_neg (by rw [ci];decide),if_neg ke,if_pos Oo]))⟩
abbrev Fw:bP:=top 35
theorem aaX:ek ["row"] ["row"] (cb Fw):=⟨rfl,rfl,rfl,by decide +kernel,rfl,by decide +kernel,by decide +kernel⟩
theorem aaY(B:fN mg){cj:Addr}(jm:rS P w K mg base 1 "NoText" cj "at")(F:dT K "pair_closed" "pair_closed" Fw f fd):da P w K mg base (fD P w) 3 f fd ["row"] (iT K (Ef cj)):=by
 refine wV (k:=2) F aaX (λ ds G ay dv h=>?_) (λ bI A outer s H E ao ds G ay dv h hT=>?_)
 ·obtain ⟨_,_,rfl,_⟩:=h;rfl
 obtain ⟨l,row,rfl,ar,ai,dA,cT⟩:=h
 refine ⟨_,(ji (gs.x (cO (eZ.at (kC (bN (dK (cf ao)) (c9 fA rfl B.len fw (aq (am 0) aL)) aJ (bH _)) (la (bN (rA (cf ao)) (bZ b1 (am 0) aJ (λ _ _=>rfl)) bw (bH _))))) (bA (b7 (d9 (aq bw (aq (bZ b1 (am 0) aJ (λ _ _=>rfl)) aL))))) cZ))
  (ji (gs.x (cO (eZ.at (kC (bN (dK (cf ao)) (c9 fA rfl B.len fw (aq (am 0) aL)) aJ (bH _)) (la (bN (rA (cf ao)) (bZ b1 (am 0) aJ (λ _ _=>rfl)) bw (bH _))))) (bA (b7 (d9 (aq bw (aq (bZ b1 (am 0) aJ (λ _ _=>rfl)) aL))))) cZ))
  (ji (gs.x (cO (eZ.at (kC (bN (dK (cf ao)) (c9 fA rfl B.len fw (aq (am 0) aL)) aJ (bH _)) (la (bN (rA (cf ao)) (bZ b1 (am 0) aJ (λ _ _=>rfl)) bw (bH _))))) (bA (b7 (d9 (aq bw (aq (bZ b1 (am 0) aJ (λ _ _=>rfl)) (aq (bZ b1 (am 0) aJ (λ _ _=>rfl)) aL)))))) cZ))
  (jj (rT hT jm ao (by omega) rfl aJ))))),?_⟩
 by_cases ag:row.length=2
 ·obtain ⟨a,b,rfl⟩:∃ a b,row=[a,b]:=by
   match row,ag with
   | [a,b],_=>exact ⟨a,b,rfl⟩
  obtain ⟨a1,a2⟩:=ai.at_ (i:=0) (d:=a) rfl;obtain ⟨eK,dx⟩:=ai.at_ (i:=1) (d:=b) rfl;refine bX ar (bn.yes rfl (hK ar (d:=b) rfl (Eh eK dx ⟨λ c=>hK ar (d:=a) rfl (be.of (dA _ ?_)),λ c=>bX ar (bn.yes rfl (hK ar (d:=a) rfl (Eh a1 a2 ⟨λ d0=>hK ar (d:=b) rfl (be.of (dA _ ?_)),λ d0=>bX ar (bn.no rfl (bn.no rfl ⟨rfl,G,Sub.refl _,cT ?_⟩))⟩)))⟩)))
  ·simp only [l0];rw [if_pos c]
  ·simp only [l0];rw [if_neg (by rw [c];decide),if_pos d0]
  ·simp only [l0];rw [if_neg (by rw [c];decide),if_neg (by rw [d0];decide)]
 ·have ck:(((row.length:Int))==2)=false:=by simp;omega
  refine bX ar (bn.no ck (bn.no rfl (bX ar (bn.no ck (bn.no rfl (bX ar ?_))))));by_cases aR:row.length=3
  ·obtain ⟨a,b,d,rfl⟩:∃ a b d,row=[a,b,d]:=by
    match row,aR with
    | [a,b,d],_=>exact ⟨a,b,d,rfl⟩
   obtain ⟨eK,dx⟩:=ai.at_ (i:=1) (d:=b) rfl;refine bn.yes rfl (hK ar (d:=b) rfl (Eh eK dx ⟨λ c=>hK ar (d:=a) rfl (hK ar (d:=d) rfl (be.of (dA _ ?_))),λ c=>⟨rfl,G,Sub.refl _,cT ?_⟩⟩))
   ·simp only [l0];rw [if_pos c]
   ·simp only [l0];rw [if_neg (by rw [c];decide)]
  ·exact bn.no (by simp;omega) (bn.no rfl ⟨rfl,G,Sub.refl _,cT (YF ag aR)⟩)
abbrev Fx:bP:=top 33
theorem aaZ:ek ["frame", "sign"] ["frame", "sign"] (cb Fx):=⟨rfl,rfl,rfl,by decide +kernel,rfl,by decide +kernel,by decide +kernel⟩
theorem aa0{cj:Addr}(jm:rS P w K mg base 1 "NoText" cj "at")(Fy:lZ P w K mg base 3 "way_closed" ["row"] (iT K (Ee cj)))(Fz:lZ P w K mg base 3 "pair_closed" ["row"] (iT K (Ef cj)))(F:dT K "kind_closed" "kind_closed" Fx f fd):da P w K mg base (fD P w) 4 f fd ["frame", "sign"] (iT K (Eg cj)):=by
 refine wV (k:=3) F aaZ (λ ds G ay dv h=>?_) (λ bI A outer s H E ao ds G ay dv h hT=>?_)
 ·obtain ⟨_,_,_,_,rfl,_⟩:=h;rfl
 obtain ⟨l,b,p,row,rfl,ar,ai,aH,dA,cT⟩:=h
 refine ⟨_,(ji (o4 (eZ.at (kC (bN (dK (cf ao)) (bZ b1 (am 0) aJ (λ _ _=>rfl)) bw (bH _)) (la (bN (dK (cf ao)) (am 1) bw (bH _))))) (jj (Mv (AA hT Fy ao (by omega) rfl (aq (fU rh (am 0) (d_ aJ) h5) aL)))) rR)
  (ji (o4 (eZ.at (kC (bN (dK (cf ao)) (bZ b1 (am 0) aJ (λ _ _=>rfl)) bw (bH _)) (la (bN (dK (cf ao)) (am 1) bw (bH _))))) (jj (Mv (AA hT Fz ao (by omega) rfl (aq (fU rh (am 0) (d_ aJ) h5) aL)))) rR)
  (jj (rT hT jm ao (by omega) rfl aJ)))),?_⟩
 have nw:∀{r:Addr}{ds:List D},G r=none->Sub G (up G r (.lst ds)):=λ h=>Sub.new (Sub.refl _) h;refine hK ar (d:=.str b) (k4 (j:=0) rfl) ⟨λ bu=>⟨λ bt=>bX ar λ r ao=>⟨r,row,rfl,by rw [bU,DW],ai,aH,λ d e=>⟨G,nw ao,dA d ?_⟩,λ e=>⟨G,nw ao,cT ?_⟩⟩,λ bt=>?_⟩,λ bu=>bn.no rfl ?_⟩
 ·simp only [hB];rw [if_pos ⟨eq_of_beq bu,eq_of_beq bt⟩];exact e
 ·simp only [hB];rw [if_pos ⟨eq_of_beq bu,eq_of_beq bt⟩];exact e
 ·have mu:¬ (b = "["/\p = "]"):=λ z=>by rw [z.2] at bt;cases bt
  refine hK ar (d:=.str b) (k4 (j:=0) rfl) ⟨λ eS=>⟨λ fC=>bX ar λ r ao=>⟨r,row,rfl,by rw [bU,DW],ai,λ d e=>⟨G,nw ao,dA d ?_⟩,λ e=>⟨G,nw ao,cT ?_⟩⟩,λ fC=>⟨rfl,G,Sub.refl _,cT ?_⟩⟩,λ eS=>bn.no rfl ⟨rfl,G,Sub.refl _,cT ?_⟩⟩
  ·simp only [hB];rw [if_neg mu,if_pos ⟨eq_of_beq eS,eq_of_beq fC⟩];exact e
  ·simp only [hB];rw [if_neg mu,if_pos ⟨eq_of_beq eS,eq_of_beq fC⟩];exact e
  ·simp only [hB];rw [if_neg mu,if_neg (λ z=>by rw [z.2] at fC;cases fC)]
  ·simp only [hB];rw [if_neg mu,if_neg (λ z=>by rw [z.1] at eS;cases eS)]
 ·have mu:¬ (b = "["/\p = "]"):=λ z=>by rw [z.1] at bu;cases bu
  refine hK ar (d:=.str b) (k4 (j:=0) rfl) ⟨λ eS=>⟨λ fC=>bX ar λ r ao=>⟨r,row,rfl,by rw [bU,DW],ai,λ d e=>⟨G,nw ao,dA d ?_⟩,λ e=>⟨G,nw ao,cT ?_⟩⟩,λ fC=>⟨rfl,G,Sub.refl _,cT ?_⟩⟩,λ eS=>bn.no rfl ⟨rfl,G,Sub.refl _,cT ?_⟩⟩
  ·simp only [hB];rw [if_neg mu,if_pos ⟨eq_of_beq eS,eq_of_beq fC⟩];exact e
  ·simp only [hB];rw [if_neg mu,if_pos ⟨eq_of_beq eS,eq_of_beq fC⟩];exact e
  ·simp only [hB];rw [if_neg mu,if_neg (λ z=>by rw [z.2] at fC;cases fC)]
  ·simp only [hB];rw [if_neg mu,if_neg (λ z=>by rw [z.1] at eS;cases eS)]
abbrev FA:bP:=top 34
theorem FB:ek ["row", "bag", "kinds"] ["row"] (cb FA):=⟨rfl,rfl,rfl,by decide +kernel,rfl,by decide +kernel,by decide +kernel⟩
theorem aa1(B:fN mg){cj:Addr}(jm:rS P w K mg base 1 "NoText" cj "at")(F:dT K "way_closed" "way_closed" FA f fd):da P w K mg base (fD P w) 3 f fd ["row"] (iT K (Ee cj)):=by
 refine wV (k:=2) F FB (λ ds G ay dv h=>?_) (λ bI A outer s H E ao ds G ay dv h hT=>?_)
 ·obtain ⟨_,_,rfl,_⟩:=h;rfl
 obtain ⟨l,row,rfl,ar,ai,aH,dA,cT⟩:=h
 refine ⟨_,(ji (o4 (eZ.at (h4 (bN lf (c9 fA rfl B.len fw (aq (am 0) aL)) aJ (bH _)) (j3 (bN (je (cf ao)) (bZ b1 (am 0) (mE mH aJ) (λ _ _=>rfl)) bw (bH _))))) (jj (rT hT jm ao (by omega) rfl aJ)) rR)
  (ji (gs.x (cX (k:=1) FB.bK rfl (Or.inl rfl) (fU rh (am 0) h5 (d_ (mE mH aJ)))))
  (ji (gs.x (cX (k:=2) FB.bK rfl (Or.inl rfl) (LE (am 1) (d_ aJ) (d_ aJ))))
  (ji (o4 (bN (je (cf ao)) (LE (am 1) (d_ aJ) (d_ aJ)) (p5 (bW W9 (kA (aq bw aL)) (bW lb (c9 fA rfl B.len fw (aq (am 2) aL)) aJ))) (bH _)) (jj (rT hT jm ao (by omega) rfl aJ)) rR)
  (jj (gs.x (b7 (d9 (aq bw (aq (mI v6 rfl B.tuple mf (aq (am 2) aL)) (aq (bZ b1 (am 0) (mE mH aJ) (λ _ _=>rfl)) aL))))))))))),?_⟩
 by_cases ag:row.length < 2
 ·exact bX ar (bn.yes (by simp;omega) (bn.yes rfl ⟨rfl,G,Sub.refl _,cT (ME ag)⟩))
 obtain ⟨e1,c,k,rfl⟩:=MF ag
 have hlen:(e1++[c,k]).length=e1.length+2:=by simp
 obtain ⟨aC,aG⟩:=ai c (by simp);have AU:o5 (c0 (e1.drop 1)):=λ x ak=>ai x (by have:=pD (Ej ak);simp [this]);have Ly:=MG e1;rw [Ei] at dA cT;refine bX ar (bn.no (by simp;omega) (hK ar (d:=c) (wG (j:=e1.length) (by decide) (by rw [hlen];omega) (by simp)) (J4 aC (by simp [D.data]) (by omega) ⟨λ eS=>⟨rfl,G,Sub.refl _,cT (if_neg λ z=>by rw [z.1] at eS;cases eS)⟩,λ eS=>bX ar λ p ah=>?_⟩)))
 have aa2:cm c (.str ":")=true:=by simpa using eS
 have kL:cut (e1++[c,k]) none (some (-2))=e1:=by
  unfold cut;rw [show dq.cp (e1++[c,k]).length 0 none=0 from rfl,show dq.cp (e1++[c,k]).length (e1++[c,k]).length (some (-2))=e1.length by rw [hlen];unfold dq.cp;simp only [];rw [if_pos (by omega)];omega,ie,yf];exact List.take_left' rfl
 rw [kL];have r8:Sub G (up G p (.lst e1)):=Sub.new (Sub.refl _) ah;refine ⟨rfl,bX bU ⟨0,rfl,λ dZ kN=>?_⟩⟩;rw [ie];have Op:=Sub.ext' (o:=.lst (c0 e1)) (Sub.refl _) kN;refine ⟨rfl,bX (Op p _ bU) ⟨1,rfl,λ t7 FC Dz uh=>?_⟩⟩;have FD:=Sub.ext' (o:=.lst (c0 (e1.drop 1))) (Sub.refl _) FC;have A4:=Sub.ext' (o:=.lst [.str " "]) (Sub.refl _) uh;refine bX ((FD.trans A4) dZ _ bU) (bX bU ⟨by omega,by omega,by simp,λ afH aa3=>⟨_,Sub.refl _,?_⟩⟩);rw [LV,show (((c0 e1).length:Int) - 1).toNat=(c0 e1).length - 1 by omega] at *;have FE:=Sub.ext' (o:=.lst (gh ((c0 e1).length - 1) (.str " "))) (Sub.refl _) aa3;obtain ⟨aT,a0⟩:=LU " " ((c0 e1).length - 1);obtain ⟨eK,dx⟩:=YG AU;have S:=r8.trans (Op.trans (FD.trans (A4.trans FE)));refine bX ((A4.trans FE) t7 _ bU) (bX bU ⟨eK,aT,dx,⟨λ fC=>⟨rfl,G,S,cT (if_neg λ z=>?_)⟩,λ fC=>bX ((FD.trans (A4.trans FE)) dZ _ bU) (hK (S l _ ar) (d:=k) (wG (j:=e1.length+1) (by decide) (by rw [hlen];omega) (by simp)) ⟨G,S,dA _ (if_pos ⟨aa2,?_⟩)⟩)⟩⟩)
 ·rw [z.2] at fC;cases fC
 ·simpa using fC
abbrev FF:bP:=top 31
theorem A5:ek ["text", "frames", "piece", "closed"] ["text"] (cb FF):=⟨rfl,rfl,rfl,by decide +kernel,rfl,by decide +kernel,by decide +kernel⟩
theorem aa4(B:fN mg){d4:Tok}{cj:Addr}(jm:rS P w K mg base 1 "NoText" cj "at")(FG:mg "SIGNS" = some (.str tD d4))(FH:Got P w K mg base 1 "pieces_of" ["text", "signs"] (bG K DV))(FI:lZ P w K mg base 4 "kind_closed" ["frame", "sign"] (iT K (Eg cj)))(FJ:lZ P w K mg base 3 "read_piece" ["piece"] (iT K (Ed cj)))(FK:Got P w K mg base 3 "is_kind" ["thing"] (bG K Ds))(F:dT K "read_kind" "read_kind" FF f fd):da P w K mg base (fD P w) 6 f fd ["text"] (iT K (Ek cj)):=by
 refine wV (k:=5) F A5 (λ ds G ay dv h=>?_) (λ bI A outer s H E ao ds G ay dv h hT=>?_)
 ·obtain ⟨_,rfl,_⟩:=h;rfl
 obtain ⟨z,rfl,hz,hp,mM,bJ,aa5,dA,cT⟩:=h
 refine ⟨_,(ji (gs.x (cX (k:=1) A5.bK rfl (Or.inl rfl) (kA (aq (kA aL) aL))))
  (ji (Yi PassesOwn.leaving rfl (zv (cK FH ao (by omega) rfl (aq (am 0) (aq (k8 (d:=.str _) (v:=.str _) rfl FG ⟨_,rfl⟩ (λ _=>rfl)) aL)))) (jv (k:=2) A5.bK rfl (Or.inl rfl)) (jj (o4 (eZ.at (h4 (bN (dK (cf ao)) (am 2) bw (bH _)) (j3 (bN (dK (cf ao)) (am 2) bw (bH _))))) (jj (gs.x (lQ (j7 PySem.F.plainAttrs_list PySem.F.slot_list_append PySem.F.type_list_append lT (am 1) (aq (kA (aq (am 2) aL)) aL))))) (jj (o4 (eZ.at (h4 (bN (dK (cf ao)) (am 2) bw (bH _)) (j3 (bN (dK (cf ao)) (am 2) bw (bH _))))) (ji (gs.x (cX (k:=3) A5.bK rfl (Or.inl rfl) (CJ PySem.F.plainAttrs_list PySem.F.slot_list_pop PySem.F.type_list_pop CL (am 1))))
  (ji (o4 (bN (dK (cf ao)) (c9 fA rfl B.len fw (aq (am 1) aL)) aJ (bH _)) (jj (rT hT jm ao (by omega) rfl aJ)) rR)
  (jj (Mu (MC PySem.F.plainAttrs_list PySem.F.slot_list_append PySem.F.type_list_append lT (bZ b1 (am 1) (mE mH aJ) (λ _ _=>rfl)) (MB (AA hT FI ao (by omega) rfl (aq (am 3) (aq (am 2) aL))) MA)))))) (jj (Mu (MC PySem.F.plainAttrs_list PySem.F.slot_list_append PySem.F.type_list_append lT (bZ b1 (am 1) (mE mH aJ) (λ _ _=>rfl)) (MB (AA hT FJ ao (by omega) rfl (aq (am 2) aL)) MA)))))))))
  (ji (o4 (eZ.at (h4 (bN (je (cf ao)) (c9 fA rfl B.len fw (aq (am 1) aL)) aJ (bH _)) (h4 (bN (je (cf ao)) (c9 fA rfl B.len fw (aq (bZ b1 (am 1) aJ (λ _ _=>rfl)) aL)) aJ (bH _)) (j3 (pY (kD (cK FK ao (by omega) rfl (aq (bZ b1 (bZ b1 (am 1) aJ (λ _ _=>rfl)) aJ (λ _ _=>rfl)) aL)))))))) (jj (rT hT jm ao (by omega) rfl aJ)) rR)
  (jj (gs.x (b7 (bZ b1 (bZ b1 (am 1) aJ (λ _ _=>rfl)) aJ (λ _ _=>rfl)))))))),?_⟩
 generalize ak:cQ cR [] z.cps.toList=x at *;intro j6 Oq dP aa6;obtain ⟨-,Os,ep⟩:=oEq (o:=.lst []) aa6;refine ⟨z,rfl,by omega,λ l ar=>?_⟩;rw [ak]
 have ag:up G j6 (.lst []) l=none/\l≠dP:=by
  have n:l≠dP:=by rintro rfl;rw [bU] at ar;cases ar
  rw [dU n] at ar;exact ⟨ar,n⟩
 have aR:G l=none/\l≠j6:=by
  have n:l≠j6:=by rintro rfl;have:=ag.1;rw [bU] at this;cases this
  have:=ag.1;rw [dU n] at this;exact ⟨this,n⟩
 have A6:Sub G (up G l (.lst (x.map D.str))):=Sub.new (Sub.refl _) aR.1
 have ui:up G l (.lst (x.map D.str)) dP=none:=by rw [dU ag.2.symm];exact Os
 have bad:eC [[]] x=none->tS cj dv G:=λ e=>cT λ⟨d,aG,_⟩=>by rw [e] at aG;cases aG
 refine JJ bU ⟨λ i ρ au=>∃(aK:List (Addr × List D))(cT eE:Option D),ρ=[some (.str z),some (.ref dP),cT,eE]/\Frs au dP aK/\Sub (up G l (.lst (x.map D.str))) au/\(∀ p∈aK,up G l (.lst (x.map D.str)) p.1=none)/\eC [[]] (x.take i)=some (aK.map (·.2))/\aK.length<=i+1/\aK≠[]/\∀ u∈aK.dropLast,∃ b row,u.2=.str b::row,⟨[(j6,[])],_,_,rfl,?_,?_,?_,rfl,ZB _,jL _ _,λ u a_=>(by cases a_)⟩,?_,?_,?_⟩
 ·refine ⟨by rw [dU ag.2.symm,bU];rfl,λ p ah=>?_,by simp,λ p ah=>?_⟩
  ·simp at ah;subst ah;rw [dU aR.2.symm,dU ep.symm];exact bU
  ·simp at ah;subst ah;exact ep.symm
 ·exact Sub.put (Sub.new (Sub.new (Sub.refl _) Oq) Os)
 ·intro p ah;simp at ah;subst ah;rw [dU aR.2.symm];exact Oq
 ·rintro i ρ au _ ⟨aK,cT,eE,rfl,c2,ew,_⟩;exact ew l _ bU
 ·rintro i e ρ au he ⟨aK,eE,d1,rfl,c2,ew,hc,cW,oB,uj,m1⟩;have iS:(x.map D.str)[i]?=some e:=he;rw [iG] at iS
  cases ai:x[i]? with
  | none=>rw [ai] at iS;cases iS
  | some p=>
   rw [ai] at iS;cases iS;have fm:=(mb.mp ai).1
   by_cases aF:p = "["
   ·have l5:p = "["\/p = "(":=.inl aF;refine bn.yes (by simp [aF]) (bn.yes rfl ?_);refine ⟨bX c2.top trivial,λ r ao=>?_⟩
    have dt:r≠dP:=by rintro rfl;rw [c2.top] at ao;cases ao
    have xp:=ew.none ao;refine fG (by rw [dU dt.symm];exact c2.top) ⟨iw (by simp only [er,ig];omega),fV.of ⟨(r,[.str p])::aK,_,_,rfl,c2.push ao,Sub.new (Sub.new ew xp) ui,λ u a_=>?_,wY cW ai (by unfold fL;rw [if_pos l5];rfl),by simp only [bR];omega,jL _ _,λ u a_=>?_⟩⟩
    ·rcases cC.mp a_ with rfl | a_
     ·exact xp
     ·exact hc u a_
    ·rw [ng uj] at a_;rcases cC.mp a_ with rfl | a_
     ·exact ⟨p,[],rfl⟩
     ·exact m1 u a_
   ·by_cases bo:p = "("
    ·have l5:p = "["\/p = "(":=.inr bo;refine bn.no (by simp [aF]) (bn.yes (by simp [bo]) ?_);refine ⟨bX c2.top trivial,λ r ao=>?_⟩
     have dt:r≠dP:=by rintro rfl;rw [c2.top] at ao;cases ao
     have xp:=ew.none ao;refine fG (by rw [dU dt.symm];exact c2.top) ⟨iw (by simp only [er,ig];omega),fV.of ⟨(r,[.str p])::aK,_,_,rfl,c2.push ao,Sub.new (Sub.new ew xp) ui,λ u a_=>?_,wY cW ai (by unfold fL;rw [if_pos l5];rfl),by simp only [bR];omega,jL _ _,λ u a_=>?_⟩⟩
     ·rcases cC.mp a_ with rfl | a_
      ·exact xp
      ·exact hc u a_
     ·rw [ng uj] at a_;rcases cC.mp a_ with rfl | a_
      ·exact ⟨p,[],rfl⟩
      ·exact m1 u a_
    ·have l5:¬ (p = "["\/p = "("):=by rintro (e | e);exact aF e;exact bo e
     refine bn.no (by simp [aF]) (bn.no (by simp [bo]) ?_)
     by_cases dw:p = "]"
     ·have hA:p = "]"\/p = ")":=.inl dw;refine bn.yes (by simp [dw]) (bn.yes rfl ?_)
      obtain ⟨⟨a1,c⟩,pa,rfl⟩:∃ u pa,aK=u::pa:=by
       cases aK with
       | nil=>exact absurd rfl uj
       | cons u r=>exact ⟨u,r,rfl⟩
      have m2:=c2.pop;have r8:∀ ds:List D,Sub G (up au dP (.lst ds)):=λ ds=>Sub.trans A6 (Sub.new ew ui);refine ⟨bX c2.top trivial,fG c2.top ⟨(pa.map (·.1)).reverse.map D.ref,.ref a1,by simp,bX m2.top ?_⟩⟩
      cases pa with
      | nil=>exact bn.yes rfl ⟨rfl,G,r8 _,bad (wZ cW ai (by unfold fL;rw [if_neg l5,if_pos hA];rfl))⟩
      | cons v dV=>
       obtain ⟨a2,t⟩:=v;obtain ⟨b,row,xq⟩:=m1 (a1,c) (by simp);simp only at xq;subst xq;have FL:=(bJ i _ cW (.str b::row) (by simp)).2;have A7:=(bJ i _ cW (.str b::row) (by simp)).1;have Ot:=(bJ i _ cW t (by simp)).1
       have xr:∀ k,hB (.str b::row) p=some k->fL (((a1,.str b::row)::(a2,t)::dV).map (·.2)) p=some ((t++[k])::dV.map (·.2)):=λ k e=>by unfold fL;rw [if_neg l5,if_pos hA];simp only [dF];rw [e];rfl
       have xt:hB (.str b::row) p=none->fL (((a1,.str b::row)::(a2,t)::dV).map (·.2)) p=none:=λ e=>by unfold fL;rw [if_neg l5,if_pos hA];simp only [dF];rw [e];rfl
       refine bn.no (by simp;omega) (hK m2.top (d:=.ref a2) (wG (j:=dV.length) (by decide) (by simp only [er,ig,bR];omega) (by simp)) ⟨bX (m2.at_ _ (bT ..)) trivial,⟨a1,b,p,row,rfl,by rw [dU (c2.ne _ (bT ..))];exact c2.at_ _ (bT ..),λ d hd=>FL d (bY _ hd),by simp only [bR] at A7;omega,λ k e=>fG (m2.at_ _ (bT ..)) ⟨iw (show t.length<=200000 by omega),fV.of ⟨(a2,t++[k])::dV,_,_,rfl,m2.set,Sub.new (Sub.new ew ui) (hc (a2,t) (by simp)),λ u a_=>?_,wY cW ai (xr k e),by simp only [bR] at *;omega,jL _ _,λ u a_=>?_⟩⟩,λ e=>⟨G,r8 _,bad (wZ cW ai (xt e))⟩⟩⟩)
       ·rcases cC.mp a_ with rfl | a_
        ·exact hc (a2,t) (by simp)
        ·exact hc u (by simp [a_])
       ·cases dV with
        | nil=>simp at a_
        | cons g dV=>
         rw [ng (jL _ _)] at a_;rcases cC.mp a_ with rfl | a_
         ·obtain ⟨dx,xu,aG⟩:=m1 (a2,t) (by simp);simp only at aG;exact ⟨dx,xu++[k],by rw [aG];rfl⟩
         ·exact m1 u (by rw [ng (jL _ _),ng (jL _ _)];exact bY _ (bY _ a_))
     ·by_cases gm:p = ")"
      ·have hA:p = "]"\/p = ")":=.inr gm;refine bn.no (by simp [dw]) (bn.yes (by simp [gm]) ?_)
       obtain ⟨⟨a1,c⟩,pa,rfl⟩:∃ u pa,aK=u::pa:=by
        cases aK with
        | nil=>exact absurd rfl uj
        | cons u r=>exact ⟨u,r,rfl⟩
       have m2:=c2.pop;have r8:∀ ds:List D,Sub G (up au dP (.lst ds)):=λ ds=>Sub.trans A6 (Sub.new ew ui);refine ⟨bX c2.top trivial,fG c2.top ⟨(pa.map (·.1)).reverse.map D.ref,.ref a1,by simp,bX m2.top ?_⟩⟩
       cases pa with
       | nil=>exact bn.yes rfl ⟨rfl,G,r8 _,bad (wZ cW ai (by unfold fL;rw [if_neg l5,if_pos hA];rfl))⟩
       | cons v dV=>
        obtain ⟨a2,t⟩:=v;obtain ⟨b,row,xq⟩:=m1 (a1,c) (by simp);simp only at xq;subst xq;have FL:=(bJ i _ cW (.str b::row) (by simp)).2;have A7:=(bJ i _ cW (.str b::row) (by simp)).1;have Ot:=(bJ i _ cW t (by simp)).1
        have xr:∀ k,hB (.str b::row) p=some k->fL (((a1,.str b::row)::(a2,t)::dV).map (·.2)) p=some ((t++[k])::dV.map (·.2)):=λ k e=>by unfold fL;rw [if_neg l5,if_pos hA];simp only [dF];rw [e];rfl
        have xt:hB (.str b::row) p=none->fL (((a1,.str b::row)::(a2,t)::dV).map (·.2)) p=none:=λ e=>by unfold fL;rw [if_neg l5,if_pos hA];simp only [dF];rw [e];rfl
        refine bn.no (by simp;omega) (hK m2.top (d:=.ref a2) (wG (j:=dV.length) (by decide) (by simp only [er,ig,bR];omega) (by simp)) ⟨bX (m2.at_ _ (bT ..)) trivial,⟨a1,b,p,row,rfl,by rw [dU (c2.ne _ (bT ..))];exact c2.at_ _ (bT ..),λ d hd=>FL d (bY _ hd),by simp only [bR] at A7;omega,λ k e=>fG (m2.at_ _ (bT ..)) ⟨iw (show t.length<=200000 by omega),fV.of ⟨(a2,t++[k])::dV,_,_,rfl,m2.set,Sub.new (Sub.new ew ui) (hc (a2,t) (by simp)),λ u a_=>?_,wY cW ai (xr k e),by simp only [bR] at *;omega,jL _ _,λ u a_=>?_⟩⟩,λ e=>⟨G,r8 _,bad (wZ cW ai (xt e))⟩⟩⟩)
        ·rcases cC.mp a_ with rfl | a_
         ·exact hc (a2,t) (by simp)
         ·exact hc u (by simp [a_])
        ·cases dV with
         | nil=>simp at a_
         | cons g dV=>
          rw [ng (jL _ _)] at a_;rcases cC.mp a_ with rfl | a_
          ·obtain ⟨dx,xu,aG⟩:=m1 (a2,t) (by simp);simp only at aG;exact ⟨dx,xu++[k],by rw [aG];rfl⟩
          ·exact m1 u (by rw [ng (jL _ _),ng (jL _ _)];exact bY _ (bY _ a_))
      ·have hA:¬ (p = "]"\/p = ")"):=by rintro (e | e);exact dw e;exact gm e
       refine bn.no (by simp [dw]) (bn.no (by simp [gm]) ?_)
       obtain ⟨⟨a,t⟩,dV,rfl⟩:∃ u dV,aK=u::dV:=by
        cases aK with
        | nil=>exact absurd rfl uj
        | cons u r=>exact ⟨u,r,rfl⟩
       have Ot:=(bJ i _ cW t (by simp)).1
       have xr:∀ k,iU p=some k->fL (((a,t)::dV).map (·.2)) p=some ((t++[k])::dV.map (·.2)):=λ k e=>by unfold fL;rw [if_neg l5,if_neg hA];simp only [dF];rw [e];rfl
       have xt:iU p=none->fL (((a,t)::dV).map (·.2)) p=none:=λ e=>by unfold fL;rw [if_neg l5,if_neg hA];simp only [dF];rw [e];rfl
       refine hK c2.top (d:=.ref a) (wG (j:=dV.length) (by decide) (by simp only [er,ig,bR];omega) (by simp)) ⟨bX (c2.at_ _ (bT ..)) trivial,⟨p,rfl,hp p (uM ai),λ k e=>fG (c2.at_ _ (bT ..)) ⟨iw (show t.length<=200000 by omega),fV.of ⟨(a,t++[k])::dV,_,_,rfl,c2.set,Sub.new ew (hc (a,t) (by simp)),λ u a_=>?_,wY cW ai (xr k e),by simp only [bR] at *;omega,jL _ _,λ u a_=>?_⟩⟩,λ e=>⟨G,Sub.trans A6 ew,bad (wZ cW ai (xt e))⟩⟩⟩
       ·rcases cC.mp a_ with rfl | a_
        ·exact hc (a,t) (by simp)
        ·exact hc u (by simp [a_])
       ·cases dV with
        | nil=>simp at a_
        | cons g dV=>
         rw [ng (jL _ _)] at a_;rcases cC.mp a_ with rfl | a_
         ·obtain ⟨dx,xu,aG⟩:=m1 (a,t) (by simp);simp only at aG;exact ⟨dx,xu++[k],by rw [aG];rfl⟩
         ·exact m1 u (by rw [ng (jL _ _)];exact bY _ a_)
 ·rintro ρ au ⟨aK,eE,d1,hρ,c2,ew,hc,cW,oB,uj,m1⟩
  have kJ:(⟨x.map D.str,λ G=>G l=some (.lst (x.map D.str))⟩:kE).items.length=x.length:=by show (x.map D.str).length=_;rw [er]
  rw [kJ,sq] at cW;subst hρ;have S:Sub G au:=Sub.trans A6 ew;by_cases hf:aK.length=1
  ·obtain ⟨⟨a,t⟩,rfl⟩:∃ u,aK=[u]:=by
    match aK,hf with
    | [u],_=>exact ⟨u,rfl⟩
   have aC:=c2.at_ _ (bT ..);refine bX c2.top (bn.no rfl (hK c2.top (d:=.ref a) rfl (bX aC ?_)));by_cases bh:t.length=1
   ·obtain ⟨d,rfl⟩:∃ d,t=[d]:=by
     match t,bh with
     | [d],_=>exact ⟨d,rfl⟩
    have FM:eC [[]] x=some [[d]]:=cW;obtain ⟨f1,f2⟩:=aa5 d FM;refine bn.no rfl (hK c2.top (d:=.ref a) rfl (hK aC (d:=d) rfl ⟨d,rfl,f1 _,f2,λ b af=>?_⟩))
    cases b with
    | true=>exact bn.no rfl (hK c2.top (d:=.ref a) rfl (hK aC (d:=d) rfl ⟨G,S,dA d FM (af.mp rfl)⟩))
    | false=>exact bn.yes rfl ⟨rfl,G,S,cT λ⟨fC,aG,k2⟩=>by
     rw [FM] at aG;cases aG
     exact absurd (af.mpr k2) (by decide)⟩
   ·refine bn.yes (by simp;omega) (bn.yes rfl ⟨rfl,G,S,cT λ⟨fC,aG,k2⟩=>?_⟩);rw [cW] at aG;cases aG;exact bh rfl
  ·refine bX c2.top (bn.yes (by simp;omega) (bn.yes rfl ⟨rfl,G,S,cT λ⟨fC,aG,k2⟩=>?_⟩));rw [cW] at aG;have:=congrArg (λ o=>(o.map mc).getD 0) aG;simp at this;exact hf this
abbrev FN:bP:=top 46
theorem uk:ek ["_law_text", "_law_at", "_law_end", "_law_word", "_law_figures"] ["_law_text", "_law_at"] (cb FN):=⟨rfl,rfl,rfl,by decide +kernel,rfl,by decide +kernel,by decide +kernel⟩
theorem aa7(B:fN mg)(F:dT K "_law_number_at" "_law_number_at" FN f fd):da P w K mg base c6 1 f fd ["_law_text", "_law_at"] (bG K Es):=by
 refine Zl (k:=0) F uk (by decide) (λ k=>rfl) rfl rfl (λ ds G ay h=>?_) (λ bI A outer s H E ao ds G ay h=>?_)
 ·obtain ⟨_,_,rfl,_⟩:=h;rfl
 obtain ⟨z,a,rfl,ax,hz,aH,q⟩:=h
 refine ⟨_,(Ez (cX (k:=2) uk.bK rfl (Or.inl rfl) (am 1))
  (Ez (zz PassesOwn.never (eZ.at (kC (bN lf (am 2) (c9 fA rfl B.len fw (aq (am 0) aL)) (bH _)) (la (bN p0 (bZ b1 (am 0) (am 2) (λ _ _=>rfl)) bw (by with_unfolding_all rfl))))) (bA (cX (k:=2) uk.bK rfl (Or.inl rfl) (bW di (am 2) aJ))))
  (Ez (cX (k:=3) uk.bK rfl (Or.inl rfl) (fU hy (am 0) (d_ (am 1)) (d_ (am 2))))
  (WE (Zk (WD (am 3))) (jv (k:=4) uk.bK rfl (Or.inl rfl))
  (bq (cO (bN (je (cf ao)) (fU hy (am 3) h5 (d_ aJ)) bw (bH _)) (bA (cX (k:=4) uk.bK rfl (Or.inl rfl) (am 3))) cZ)
  (bq (cO (eZ.at (h4 (bN (dK (cf ao)) (am 4) bw (bH _)) (h4 (bN nH (c9 fA rfl B.len fw (aq (am 4) aL)) aJ (bH _)) (h4 (bN p0 bw (am 4) (by with_unfolding_all rfl)) (h4 (bN (je (cf ao)) (mI Lx rfl B.str uZ (aq (mI DG rfl B.int sG (aq (am 4) aL)) aL)) (am 4) (bH _)) (j3 (bN (dK (cf ao)) (am 3) bw (bH _)))))))) (bA (b7 iu)) cZ)
  (bA (b7 (d9 (aq (d9 (aq bw (aq (mI DG rfl B.int sG (aq (am 3) aL)) aL))) (aq (am 2) aL))))))))))),?_⟩
 have hg:z.cps.toList.length=z.length:=fO
 have Ou:∀ c:Nat,(!(Builtin.Str.occurrences "-0123456789" (⟨#[c]⟩:Str) 0 (("-0123456789" : String):Str).length 1).isEmpty)=eN c:=λ c=>by
  rw [StrLaws.found_one,show (("-0123456789" : String):Str).cps.toList=[45,48,49,50,51,52,53,54,55,56,57] by decide +kernel,pF,decide_eq_true_iff];unfold eN;simp;omega
 refine ⟨λ m ρ au=>∃(e:Nat)(eE d1:Option D),ρ=[some (.str z),some (.int a),some (.int e),eE,d1]/\au=G/\a<=e/\e<=z.length/\(z.length - e)+1<=m/\(z.cps.toList.drop a).takeWhile eN=(z.cps.toList.drop a).take (e - a)++(z.cps.toList.drop e).takeWhile eN,⟨z.length - a+1,a,_,_,rfl,rfl,ZB _,ax,ZB _,by simp⟩,?_⟩;rintro m ρ au ⟨e,eE,d1,rfl,rfl,EN,Cp,hm,A8⟩
 obtain ⟨m,rfl⟩:∃ ej,m=ej+1:=⟨m - 1,by omega⟩
 have fm:decide ((e:Int) < (z.length:Int))=true->e < z.cps.toList.length:=λ c=>by have:=of_decide_eq_true c;omega
 refine ⟨dQ (by omega),⟨λ c=>⟨dQ (by omega),z.cps.toList[e]'(fm c),k4 (fv (fm c)),⟨λ bt=>?gI,λ bt=>?Ov⟩⟩,λ c=>⟨nofun,λ _=>?Ow⟩⟩⟩
 case gI=>
  have ar:=fm c
  have ke:eN (z.cps.toList[e])=true:=by rw [<- Ou];rwa [lB] at bt
  exact fV.of ⟨m,sx _,e+1,_,_,rfl,rfl,by omega,by omega,by omega,ZR EN (pB ar) ke A8⟩
 case' Ov=>
  have ar:=fm c
  have ke:¬ eN (z.cps.toList[e])=true:=by rw [<- Ou];rw [lB] at bt;rw [bt];decide
  have Ox:(z.cps.toList.drop e).takeWhile eN=[]:=by rw [pB ar,md,if_neg ke]
 case' Ow=>
  have Ox:(z.cps.toList.drop e).takeWhile eN=[]:=by rw [nd (by have:=of_decide_eq_false c;omega)];rfl
 case Ov | Ow=>
  rw [Ox,dD] at A8
  have aa8:(z.cps.toList.drop a).dropWhile eN=z.cps.toList.drop e:=by
   have ae:=List.takeWhile_append_dropWhile (p:=eN) (l:=z.cps.toList.drop a);have ag:=pC (e - a) (z.cps.toList.drop a);rw [A8] at ae;have:=List.append_cancel_left (ae.trans ag.symm);rw [this,nf,show a+(e - a)=e by omega]
  have FO:=AV (z:=z) EN Cp;rw [<- A8] at FO
  have rK:∀ c∈(cH ((z.cps.toList.drop a).takeWhile eN)).cps.toList,eN c=true:=λ c ai=>by
   rw [gd] at ai;exact lz.mp List.all_takeWhile c ai
  have aa9:(cH ((z.cps.toList.drop a).takeWhile eN)).length<=1000:=aH;unfold w4 at q;rw [aa8] at q;generalize cH ((z.cps.toList.drop a).takeWhile eN)=W at FO rK aa9 q
  have oz:fh W=false->ay .a9 au:=λ h=>by rw [h] at q;exact q
  have aF:fh W=true->ay (.tup [.tup [.str "is", .int (ln W)],.int e]) au:=λ h=>by
   rw [if_pos h] at q;simp only [ia,hF] at q;rw [show ((z.length:Int) - ((z.cps.toList.length - e:Nat):Int))=(e:Int) by omega] at q;exact q
  have facts:∀ F,F=bare W->F.length<=1000/\(F = ""->fh W=false)/\(12 < F.length->fh W=false)/\(45∈F.cps.toList->fh W=false)/\(F≠""->F.length<=12->45 ∉ F.cps.toList->∃ m:Nat,n6 F=some (m:Int)/\m < 10 ^ 12/\(W≠"-0"->fh W=(e2 (m:Int)==F))):=by
   rintro _ rfl;refine ⟨by have:=Dy W;omega,ZI,ZJ,ZK,λ ae ag aR=>?_⟩;obtain ⟨m,aC,aG,e3⟩:=ZL rK ae ag aR;exact ⟨m,aC,aG,λ bB=>ZM rK ae ag aR e3 bB⟩
  refine ⟨dQ (by omega),?_⟩;rw [FO];have A7:=ZQ W
  have gP:(("-" : String):Str)=cH [45]:=by decide +kernel
  have FP:=ZP W gP;refine ⟨by omega,by show W.length+0<=_;omega,dQ (by omega),⟨λ hM=>?f0,λ hM=>?f1⟩⟩
  case' f0=>
   obtain ⟨h0,Oy,eY,D9,Oz⟩:=facts _ (tR (x:=W) (λ z=>by rw [decide_eq_true z] at FP;rw [FP] at hM;cases hM)).symm
  case' f1=>
   obtain ⟨h0,Oy,eY,D9,Oz⟩:=facts _ (ZO (w:=W) (by rw [<- decide_eq_true_iff (p:=W.cps.toList.head?=some 45),<- FP];simpa using hM))
  case f0 | f1=>
   refine ⟨λ eS=>⟨λ _=>be.of (oz (Oy (eq_of_beq eS))),nofun⟩,λ eS=>⟨dQ (by omega),⟨λ fC=>⟨λ _=>be.of (oz (eY (by have:=of_decide_eq_true fC;omega))),nofun⟩,λ fC=>⟨λ lX=>⟨λ _=>be.of (oz (D9 (by rw [lB,Nz] at lX;exact of_decide_eq_true lX))),nofun⟩,λ lX=>?_⟩⟩⟩⟩;have afI:=of_decide_eq_false fC;obtain ⟨m,av,hm,bh⟩:=Oz (by simpa using eS) (by omega) (by rw [lB,Nz] at lX;exact of_decide_eq_false lX);refine ⟨m,av,by omega,LS hm,⟨λ oD=>⟨λ _=>be.of (oz ?_),nofun⟩,λ oD=>⟨λ q9=>be.of (oz (Nx (eq_of_beq q9))),λ q9=>?_⟩⟩⟩
   ·by_cases mx:W = "-0"
    ·exact Nx mx
    ·rw [bh mx];exact (Bool.not_not _).symm.trans (congrArg not oD)
   ·have hf:fh W=true:=by rw [bh (by simpa using q9)];exact (Bool.not_not _).symm.trans (congrArg not oD)
    obtain ⟨v1,v2⟩:=MD hf;exact ⟨ln W,v1,by omega,be.of (aF hf)⟩
abbrev FQ:bP:=top 47
theorem ul:ek ["_law_text", "_law_at", "_law_some", "_law_found"] ["_law_text", "_law_at"] (cb FQ):=⟨rfl,rfl,rfl,by decide +kernel,rfl,by decide +kernel,by decide +kernel⟩
theorem abb{n:Nat}(B:fN mg)(pb:Got P w K mg base (2 * n+3) "_law_kind_at" ["_law_text", "_law_at"] (bG K (l2 (cU n) n)))(F:dT K "_law_bag_at" "_law_bag_at" FQ f fd):da P w K mg base c6 (2 * n+4) f fd ["_law_text", "_law_at"] (bG K (l2 (t2 n) n)):=by
 refine gu (k:=2 * n+3) F ul (λ ds G ay h=>?_) (λ bI A outer s H E ao ds G ay h=>?_)
 ·obtain ⟨_,_,rfl,_⟩:=h;rfl
 obtain ⟨z,a,rfl,ax,hz,aH,hd,q⟩:=h
 refine ⟨_,(bq (cX (k:=2) ul.bK rfl (Or.inl rfl) (kA aL))
  (bq (zz PassesOwn.never (bN (je (cf ao)) (fU hy (am 0) (d_ (am 1)) (d_ (bW di (am 1) aJ))) bw (bH _)) (bq (cO (bN (je (cf ao)) (am 2) (kA aL) (bH _)) (bq (cO (bN (je (cf ao)) (fU hy (am 0) (d_ (am 1)) (d_ (bW di (am 1) aJ))) bw (bH _)) (bA (b7 iu)) cZ)
  (bA (cX (k:=1) ul.bK rfl (Or.inl rfl) (bW di (am 1) aJ)))) cZ)
  (bq (cX (k:=3) ul.bK rfl (Or.inl rfl) (cK pb ao (by omega) rfl (aq (am 0) (aq (am 1) aL))))
  (bq (cO (bN rg (am 3) iu (bH _)) (bA (b7 iu)) cZ)
  (bq (lQ (j7 PySem.F.plainAttrs_list PySem.F.slot_list_append PySem.F.type_list_append lT (am 2) (aq (bZ b1 (am 3) aJ (λ _ _=>rfl)) aL)))
  (bA (cX (k:=1) ul.bK rfl (Or.inl rfl) (bZ b1 (am 3) aJ (λ _ _=>rfl)))))))))
  (bq (cX (k:=3) ul.bK rfl (Or.inl rfl) (cK pb ao (by omega) rfl (aq (am 0) (aq (bW di (am 1) aJ) aL))))
  (bq (cO (eZ.at (h4 (bN rg (am 3) iu (bH _)) (h4 (bN (je (cf ao)) (fU hy (am 0) (d_ (bZ b1 (am 3) aJ (λ _ _=>rfl))) (d_ (bW di (bZ b1 (am 3) aJ (λ _ _=>rfl)) aJ))) bw (bH _)) (j3 (bN (je (cf ao)) (am 2) (c9 (zY (cf ao)) rfl B.sorted u0 (aq (am 2) aL)) (bH _)))))) (bA (b7 iu)) cZ)
  (bA (b7 (d9 (aq (d9 (aq bw (aq (mI v6 rfl B.tuple mf (aq (am 2) aL)) (aq (bZ b1 (am 3) aJ (λ _ _=>rfl)) aL)))) (aq (bW di (bZ b1 (am 3) aJ (λ _ _=>rfl)) aJ) aL))))))))),?_⟩
 have hg:z.cps.toList.length=z.length:=fO
 have OA:((":" : String):Str)=cH [58]:=by decide +kernel
 have OB:((" " : String):Str)=cH [32]:=by decide +kernel
 have OC:(("]" : String):Str)=cH [93]:=by decide +kernel
 have xv:∀ m:Nat,(m:Int)+1=((m+1:Nat):Int):=λ m=>by omega
 intro p ah;refine ⟨λ m ρ au=>∃(b:Nat)(acc:List D)(eE:Option D),ρ=[some (.str z),some (.int b),some (.ref p),eE]/\au p=some (.lst acc)/\Sub G au/\b<=z.length/\nest (z.cps.toList.drop b) < n/\(∀ d∈acc,eb d/\d.bC<=130)/\acc.length<=b/\(z.length - b)+2<=m/\h9 (cU n) m acc (z.cps.toList.drop b)=h9 (cU n) ((z.cps.toList.drop a).length+2) [] (z.cps.toList.drop a),⟨(z.cps.toList.drop a).length+2,a,[],_,rfl,bU,Sub.new (Sub.refl _) ah,ax,hd,λ d hd=>absurd hd eV,ef _,by rw [hF];omega,rfl⟩,?_⟩;rintro m ρ au ⟨b,acc,eE,rfl,ar,ew,af,hd2,lh,abd,hm,ic⟩
 obtain ⟨m,rfl⟩:∃ ej,m=ej+1:=⟨m - 1,by omega⟩
 obtain ⟨OD,Cg⟩:=Y8 lh;refine ⟨dQ (by omega),?_⟩;by_cases bu:(z.cps.toList.drop b).head?=some 58
 ·obtain ⟨aC,bD⟩:=qn bu;rw [hg] at bD;rw [h9,if_pos bu,show (z.cps.toList.drop b).tail=z.cps.toList.drop (b+1) by rw [aC];rfl] at ic;have hw:=aH.2.1 n a acc _ ic.symm;unfold t2 at q;rw [<- ic] at q;simp only at q;rw [aC,hl (c:=58) (by omega)] at hd2;refine bn.no (r0 af OA bu) ⟨z,b+1,by rw [xv],bD,hz,aH,hd2,?_⟩
  cases d2:cU n (z.cps.toList.drop (b+1)) with
  | none=>rw [d2] at q;exact bn.yes rfl (bn.yes rfl ⟨G,ew,q⟩)
  | some u=>
   obtain ⟨k,a0⟩:=u;rw [d2] at q;simp only at q;obtain ⟨e,gx,ae,ag,aR,aN,bB⟩:=t4 d2 (by omega);rw [hg] at ag bB
   have fl:ia z.length (some (k,a0))=.tup [k,.int e]:=by simp only [ia];rw [bB]
   rw [fl];refine bn.no rfl ⟨dQ (by omega),?_⟩;by_cases g7:(z.cps.toList.drop e).head?=some 93
   ·obtain ⟨j0,OE⟩:=qn g7;refine bn.no (r0 ag OC g7) (bX ar ⟨by omega,λ d hd=>⟨(lh d hd).1.e9,by have:=(lh d hd).2;omega⟩,λ hk fb iP e_ kN=>?_⟩);have OF:=Y6 (λ d hd=>(lh d hd).1.e9) fb iP;have abe:c3 hk=true:=p6 λ d hd=>(lh d (fb.mem_iff.mpr hd)).1.e9.data
    have A9:p≠e_:=by rintro rfl;rw [ar] at kN;cases kN
    refine bX (by rw [dU A9];exact ar) (bX bU ⟨OD,abe,Cg,?_⟩)
    cases dA:gO acc with
    | false=>
     rw [if_neg (by rw [dA];simp)] at q;exact bn.yes (by show (!(en acc hk))=true;rw [OF,dA];rfl) ⟨G,Sub.trans ew (Sub.new (Sub.refl _) kN),q⟩
    | true=>
     rw [if_pos ⟨by rw [gx];exact g7,dA⟩] at q;refine bn.no (by show (!(en acc hk))=false;rw [OF,dA];rfl) (bX (by rw [dU A9];exact ar) ⟨G,Sub.trans ew (Sub.new (Sub.refl _) kN),?_⟩);simp only [ia] at q;rw [gx,j0,lA,hF,show ((z.length:Int) - ((z.cps.toList.length - (e+1):Nat):Int))=(e:Int)+1 by omega] at q;exact q
   ·rw [if_neg (λ z=>g7 (by rw [<- gx];exact z.1))] at q;exact bn.yes (r1 ag OC g7) (bn.yes rfl ⟨G,ew,q⟩)
 ·rw [h9,if_neg bu] at ic
  have none_of:h9 (cU n) ((z.cps.toList.drop a).length+2) [] (z.cps.toList.drop a)=none->ay .a9 G:=λ h=>by
   unfold t2 at q;rw [h] at q;exact q
  refine bn.yes (r1 af OA bu) λ e_ kN=>?_
  have A9:p≠e_:=by rintro rfl;rw [ar] at kN;cases kN
  have hb:up au e_ (.lst []) p=some (.lst acc):=by rw [dU A9];exact ar
  have xw:Sub G (up au e_ (.lst [])):=Sub.trans ew (Sub.new (Sub.refl _) kN);refine bX hb (bX bU ⟨OD,rfl,Cg,?_⟩)
  cases acc with
  | nil=>
   rw [if_pos (show ([]:List D).isEmpty=true from rfl)] at ic;refine bn.no rfl ⟨z,b,rfl,af,hz,aH,hd2,?_⟩
   cases d2:cU n (z.cps.toList.drop b) with
   | none=>rw [d2] at ic;exact bn.yes rfl ⟨G,xw,none_of ic.symm⟩
   | some u=>
    obtain ⟨k,a0⟩:=u;rw [d2] at ic;simp only at ic;obtain ⟨e,gx,ae,ag,aR,aN,bB⟩:=t4 d2 (by omega);rw [hg] at ag bB
    have fl:ia z.length (some (k,a0))=.tup [k,.int e]:=by simp only [ia];rw [bB]
    rw [fl];refine bn.no rfl ⟨bX hb trivial,fG hb ⟨iw (by omega),fV.of ⟨m,sx _,e,([]:List D)++[k],_,rfl,bU,Sub.new xw ah,ag,by rw [<- gx];omega,λ d hd=>?_,by rw [dE,sl];omega,by omega,?_⟩⟩⟩
    ·rcases fc.mp hd with hd | hd
     ·exact lh d hd
     ·rw [kR] at hd;subst hd;exact ⟨aN,M2 d2 aH⟩
    ·rw [<- ic,<- gx]
  | cons hM abf=>
   obtain ⟨acc,abg⟩:∃ acc:List D,acc=hM::abf:=⟨_,rfl⟩
   rw [if_neg (by simp)] at ic;refine bn.yes rfl ⟨dQ (by omega),?_⟩;rw [<- abg] at ic hb lh abd;by_cases bt:(z.cps.toList.drop b).head?=some 32
   ·obtain ⟨aG,b5⟩:=qn bt;rw [hg] at b5;rw [if_pos bt,show (z.cps.toList.drop b).tail=z.cps.toList.drop (b+1) by rw [aG];rfl] at ic;rw [aG,hl (c:=32) (by omega)] at hd2;refine bn.no (r0 af OB bt) ⟨z,b+1,by rw [xv],b5,hz,aH,hd2,?_⟩
    cases d2:cU n (z.cps.toList.drop (b+1)) with
    | none=>rw [d2] at ic;exact bn.yes rfl ⟨G,xw,none_of ic.symm⟩
    | some u=>
     obtain ⟨k,a0⟩:=u;rw [d2] at ic;simp only at ic;obtain ⟨e,gx,ae,ag,aR,aN,bB⟩:=t4 d2 (by omega);rw [hg] at ag bB
     have fl:ia z.length (some (k,a0))=.tup [k,.int e]:=by simp only [ia];rw [bB]
     rw [fl];refine bn.no rfl ⟨bX hb trivial,fG hb ⟨iw (by omega),fV.of ⟨m,sx _,e,acc++[k],_,rfl,bU,Sub.new xw ah,ag,by rw [<- gx];omega,λ d hd=>?_,by rw [dE,sl];omega,by omega,?_⟩⟩⟩
     ·rcases fc.mp hd with hd | hd
      ·exact lh d hd
      ·rw [kR] at hd;subst hd;exact ⟨aN,M2 d2 aH⟩
     ·rw [<- ic,<- gx]
   ·rw [if_neg bt] at ic;exact bn.yes (r1 af OB bt) ⟨G,xw,none_of ic.symm⟩
abbrev FR:bP:=top 48
theorem um:ek ["_law_text", "_law_at", "_law_one", "_law_other"] ["_law_text", "_law_at"] (cb FR):=⟨rfl,rfl,rfl,by decide +kernel,rfl,by decide +kernel,by decide +kernel⟩
theorem abh{n:Nat}(B:fN mg)(pb:Got P w K mg base (2 * n+3) "_law_kind_at" ["_law_text", "_law_at"] (bG K (l2 (cU n) n)))(F:dT K "_law_pair_at" "_law_pair_at" FR f fd):da P w K mg base c6 (2 * n+4) f fd ["_law_text", "_law_at"] (bG K (l2 (t3 n) n)):=by
 refine gu (k:=2 * n+3) F um (λ ds G ay h=>?_) (λ bI A outer s H E ao ds G ay h=>?_)
 ·obtain ⟨_,_,rfl,_⟩:=h;rfl
 obtain ⟨z,a,rfl,ax,hz,aH,hd,q⟩:=h
 refine ⟨_,(bq (cX (k:=2) um.bK rfl (Or.inl rfl) iu)
  (bq (cO (bN (je (cf ao)) (fU hy (am 0) (d_ (am 1)) (d_ (bW di (am 1) aJ))) bw (bH _)) (bq (cX (k:=2) um.bK rfl (Or.inl rfl) (cK pb ao (by omega) rfl (aq (am 0) (aq (am 1) aL))))
  (bq (cO (eZ.at (h4 (bN rg (am 2) iu (bH _)) (j3 (bN (je (cf ao)) (fU hy (am 0) (d_ (bZ b1 (am 2) aJ (λ _ _=>rfl))) (d_ (bW di (bZ b1 (am 2) aJ (λ _ _=>rfl)) aJ))) bw (bH _))))) (bA (b7 iu)) cZ)
  (bA (cX (k:=1) um.bK rfl (Or.inl rfl) (bZ b1 (am 2) aJ (λ _ _=>rfl)))))) cZ)
  (bq (cX (k:=1) um.bK rfl (Or.inl rfl) (bW di (am 1) aJ))
  (bq (cO (eZ.at (kC (bN Ua (am 2) iu (bH _)) (la (bN (dK (cf ao)) (fU hy (am 0) (d_ (am 1)) (d_ (bW di (am 1) aJ))) bw (bH _))))) (bA (b7 (d9 (aq (d9 (aq bw (aq (bZ b1 (am 2) aJ (λ _ _=>rfl)) aL))) (aq (bW di (am 1) aJ) aL))))) cZ)
  (bq (cX (k:=3) um.bK rfl (Or.inl rfl) (cK pb ao (by omega) rfl (aq (am 0) (aq (am 1) aL))))
  (bq (cO (eZ.at (h4 (bN rg (am 3) iu (bH _)) (j3 (bN (je (cf ao)) (fU hy (am 0) (d_ (bZ b1 (am 3) aJ (λ _ _=>rfl))) (d_ (bW di (bZ b1 (am 3) aJ (λ _ _=>rfl)) aJ))) bw (bH _))))) (bA (b7 iu)) cZ)
  (bq (cO (bN rg (am 2) iu (bH _)) (bA (b7 (d9 (aq (d9 (aq bw (aq (bZ b1 (am 3) aJ (λ _ _=>rfl)) aL))) (aq (bW di (bZ b1 (am 3) aJ (λ _ _=>rfl)) aJ) aL))))) cZ)
  (bq (cO (eZ.at (h4 (bN JB (bZ b1 (bZ b1 (am 2) aJ (λ _ _=>rfl)) aJ (λ _ _=>rfl)) (d9 (aq bw (aq bw (aq bw aL)))) (by with_unfolding_all rfl)) (j3 (bN JB (bZ b1 (bZ b1 (am 3) aJ (λ _ _=>rfl)) aJ (λ _ _=>rfl)) (d9 (aq bw (aq bw (aq bw aL)))) (by with_unfolding_all rfl))))) (bA (b7 iu)) cZ)
  (bA (b7 (d9 (aq (d9 (aq bw (aq (bZ b1 (am 2) aJ (λ _ _=>rfl)) (aq (bZ b1 (am 3) aJ (λ _ _=>rfl)) aL)))) (aq (bW di (bZ b1 (am 3) aJ (λ _ _=>rfl)) aJ) aL))))))))))))),?_⟩
 have hg:z.cps.toList.length=z.length:=fO
 have A_:(("," : String):Str)=cH [44]:=by decide +kernel
 have uo:((")" : String):Str)=cH [41]:=by decide +kernel
 have xv:∀ m:Nat,(m:Int)+1=((m+1:Nat):Int):=λ m=>by omega
 refine ⟨dQ (by omega),?_⟩;by_cases bu:(z.cps.toList.drop a).head?=some 44
 ·obtain ⟨aC,bD⟩:=qn bu;rw [hg] at bD;rw [aC] at q hd;rw [hl (c:=44) (by omega)] at hd;unfold t3 at q;rw [if_pos (show (44::z.cps.toList.drop (a+1)).head?=some 44 from rfl),lA] at q;refine bn.no (r0 ax A_ bu) (bn.no rfl (bn.no rfl ⟨z,a+1,by rw [xv],bD,hz,aH,hd,?_⟩))
  cases ah:cU n (z.cps.toList.drop (a+1)) with
  | none=>rw [ah] at q;exact bn.yes rfl (bn.yes rfl (be.of q))
  | some u=>
   obtain ⟨k,a0⟩:=u;rw [ah] at q;obtain ⟨e,gx,ae,ag,aR,aN,bB⟩:=t4 ah (by omega);rw [hg] at ag bB
   have fl:ia z.length (some (k,a0))=.tup [k,.int e]:=by simp only [ia];rw [bB]
   rw [fl];refine bn.no rfl ⟨dQ (by omega),?_⟩;simp only at q;by_cases g7:(z.cps.toList.drop e).head?=some 41
   ·rw [if_pos (by rw [gx];exact g7)] at q;obtain ⟨j0,OE⟩:=qn g7;refine bn.no (r0 ag uo g7) (bn.yes rfl (be.of ?_));simp only [ia] at q;rw [gx,j0,lA,hF,show ((z.length:Int) - ((z.cps.toList.length - (e+1):Nat):Int))=(e:Int)+1 by omega] at q;exact q
   ·rw [if_neg (by rw [gx];exact g7)] at q;exact bn.yes (r1 ag uo g7) (be.of q)
 ·unfold t3 at q;rw [if_neg bu] at q;refine bn.yes (r1 ax A_ bu) ⟨z,a,rfl,ax,hz,aH,hd,?_⟩
  cases ah:cU n (z.cps.toList.drop a) with
  | none=>rw [ah] at q;exact bn.yes rfl (bn.yes rfl (be.of q))
  | some u=>
   obtain ⟨x,a0⟩:=u;rw [ah] at q;obtain ⟨e,gx,ae,ag,aR,aN,bB⟩:=t4 ah (by omega);rw [hg] at ag bB
   have fl:ia z.length (some (x,a0))=.tup [x,.int e]:=by simp only [ia];rw [bB]
   rw [fl];refine bn.no rfl ⟨dQ (by omega),?_⟩;simp only at q;by_cases bt:(z.cps.toList.drop e).head?=some 44
   ·rw [if_pos (by rw [gx];exact bt)] at q;obtain ⟨aG,b5⟩:=qn bt;rw [hg] at b5
    have qq:a0.tail=z.cps.toList.drop (e+1):=by rw [gx,aG];rfl
    have hd2:nest (z.cps.toList.drop (e+1)) < n:=by
     rw [gx,aG,hl (c:=44) (by omega)] at aR;omega
    rw [qq] at q;refine bn.no (r0 ag A_ bt) (bn.yes rfl ⟨dQ (by omega),?_⟩);by_cases d0:(z.cps.toList.drop (e+1)).head?=some 41
    ·rw [if_pos d0] at q;obtain ⟨e3,iO⟩:=qn d0;refine bn.yes (MZ b5 uo d0) (be.of ?_);simp only [ia] at q;rw [e3,lA,hF,show ((z.length:Int) - ((z.cps.toList.length - (e+1+1):Nat):Int))=(e:Int)+1+1 by omega] at q;exact q
    ·rw [if_neg d0] at q;refine bn.no (M0 b5 uo d0) ⟨z,e+1,by rw [xv],b5,hz,aH,hd2,?_⟩
     cases kN:cU n (z.cps.toList.drop (e+1)) with
     | none=>rw [kN] at q;exact bn.yes rfl (bn.yes rfl (be.of q))
     | some u=>
      obtain ⟨y,hH⟩:=u;rw [kN] at q;obtain ⟨bV,FS,afJ,FT,afK,wk,OG⟩:=t4 kN (by omega);rw [hg] at FT OG
      have y2:ia z.length (some (y,hH))=.tup [y,.int bV]:=by simp only [ia];rw [OG]
      rw [y2];refine bn.no rfl ⟨dQ (by omega),?_⟩;simp only at q;by_cases g7:(z.cps.toList.drop bV).head?=some 41
      ·obtain ⟨j0,OE⟩:=qn g7;obtain ⟨g8,abi,rfl,xo⟩:=Et aN;obtain ⟨gU,dy,rfl,ug⟩:=Et wk;refine bn.no (r0 FT uo g7) (bn.no rfl ⟨rfl,rfl,?_⟩)
       cases dA:g5 (.tup (.str g8::abi)) with
       | false=>
        rw [if_neg (by rw [dA];simp)] at q;rw [dA] at xo;exact bn.yes xo (bn.yes rfl (be.of q))
       | true=>
        rw [dA] at xo;refine bn.no xo ⟨rfl,rfl,?_⟩
        cases cT:g5 (.tup (.str gU::dy)) with
        | false=>
         rw [if_neg (by rw [cT];simp)] at q;rw [cT] at ug;exact bn.yes ug (be.of q)
        | true=>
         rw [if_pos ⟨by rw [FS];exact g7,dA,cT⟩] at q;rw [cT] at ug;refine bn.no ug (be.of ?_);simp only [ia] at q;rw [FS,j0,lA,hF,show ((z.length:Int) - ((z.cps.toList.length - (bV+1):Nat):Int))=(bV:Int)+1 by omega] at q;exact q
      ·rw [if_neg (λ z=>g7 (by rw [<- FS];exact z.1))] at q;exact bn.yes (r1 FT uo g7) (be.of q)
   ·rw [if_neg (by rw [gx];exact bt)] at q;exact bn.yes (r1 ag A_ bt) (be.of q)
abbrev FU:bP:=top 49
theorem OH:ek ["_law_text", "_law_at", "_law_sign"] ["_law_text", "_law_at"] (cb FU):=⟨rfl,rfl,rfl,by decide +kernel,rfl,by decide +kernel,by decide +kernel⟩
theorem abj:da P w K mg base c6 3 f fd ["_law_text", "_law_at"] (bG K (l2 (cU 0) 0)):=tn λ ds G ay h=>by obtain ⟨_,_,_,_,_,_,h,_⟩:=h;omega
theorem abk{n:Nat}(FV:Got P w K mg base 1 "_law_number_at" ["_law_text", "_law_at"] (bG K Es))(FW:Got P w K mg base (2 * n+4) "_law_bag_at" ["_law_text", "_law_at"] (bG K (l2 (t2 n) n)))(FX:Got P w K mg base (2 * n+4) "_law_pair_at" ["_law_text", "_law_at"] (bG K (l2 (t3 n) n)))(F:dT K "_law_kind_at" "_law_kind_at" FU f fd):da P w K mg base c6 (2 * n+5) f fd ["_law_text", "_law_at"] (bG K (l2 (cU (n+1)) (n+1))):=by
 refine gu (k:=2 * n+4) F OH (λ ds G ay h=>?_) (λ bI A outer s H E ao ds G ay h=>?_)
 ·obtain ⟨_,_,rfl,_⟩:=h;rfl
 obtain ⟨z,a,rfl,ax,hz,aH,hd,q⟩:=h
 refine ⟨_,(bq (cX (k:=2) OH.bK rfl (Or.inl rfl) (fU hy (am 0) (d_ (am 1)) (d_ (bW di (am 1) aJ))))
  (bq (cO (bN (dK (cf ao)) (am 2) bw (bH _)) (bA (b7 (d9 (aq (d9 (aq bw aL)) (aq (bW di (am 1) aJ) aL))))) cZ)
  (bq (cO (bN (dK (cf ao)) (am 2) bw (bH _)) (bA (b7 (cK FW ao (by omega) rfl (aq (am 0) (aq (bW di (am 1) aJ) aL))))) cZ)
  (bq (cO (bN (dK (cf ao)) (am 2) bw (bH _)) (bA (b7 (cK FX ao (by omega) rfl (aq (am 0) (aq (bW di (am 1) aJ) aL))))) cZ)
  (bq (cO (bN (dK (cf ao)) (am 2) bw (bH _)) (bA (b7 iu)) cZ)
  (bA (b7 (cK FV ao (by omega) rfl (aq (am 0) (aq (am 1) aL)))))))))),?_⟩
 have hg:z.cps.toList.length=z.length:=fO;have cG:=λ(p:Str) (c:Nat) (ah:p=cH [c])=>AK ax ah
 have eS:((a:Int)+1)=((a+1:Nat):Int):=by omega
 have rL:∀{c:Nat},(z.cps.toList.drop a).head?=some c->z.cps.toList.drop a=c::z.cps.toList.drop (a+1)/\a+1<=z.length:=λ{c} e=>by
  have k:=jD e;refine ⟨by rw [k];rw [yc],?_⟩;have:=congrArg mc k;simp only [hF,bR] at this;omega
 refine ⟨dQ (by omega),?_⟩;by_cases bu:(z.cps.toList.drop a).head?=some 126
 ·refine bn.yes ((cG "~" 126 (by decide +kernel)).trans (decide_eq_true bu)) (be.of ?_);obtain ⟨e,ar⟩:=rL bu;rw [e,Y2] at q;simp only [ia,hF] at q;rw [show ((z.length:Int) - ((z.cps.toList.length - (a+1):Nat):Int))=(a:Int)+1 by omega] at q;exact q
 ·refine bn.no ((cG "~" 126 (by decide +kernel)).trans (decide_eq_false bu)) ?_;by_cases bt:(z.cps.toList.drop a).head?=some 91
  ·obtain ⟨e,ar⟩:=rL bt;rw [e,Y0] at q;rw [e,h_ (.inl rfl)] at hd;exact bn.yes ((cG "[" 91 (by decide +kernel)).trans (decide_eq_true bt)) ⟨z,a+1,by rw [<- eS],ar,hz,aH,by omega,be.of q⟩
  ·refine bn.no ((cG "[" 91 (by decide +kernel)).trans (decide_eq_false bt)) ?_;by_cases d0:(z.cps.toList.drop a).head?=some 40
   ·obtain ⟨e,ar⟩:=rL d0;rw [e,Y1] at q;rw [e,h_ (.inr rfl)] at hd;exact bn.yes ((cG "(" 40 (by decide +kernel)).trans (decide_eq_true d0)) ⟨z,a+1,by rw [<- eS],ar,hz,aH,by omega,be.of q⟩
   ·refine bn.no ((cG "(" 40 (by decide +kernel)).trans (decide_eq_false d0)) ?_;rw [Y3 n _ ⟨bu,bt,d0⟩] at q
    by_cases gq:z.cps.toList.drop a=[]
    ·refine bn.yes ((MY ax).trans (decide_eq_true gq)) (be.of ?_);rw [gq,show w4 []=none by unfold w4;rw [if_neg (by decide +kernel)]] at q;exact q
    ·exact bn.no ((MY ax).trans (decide_eq_false gq)) ⟨z,a,rfl,ax,hz,aH.1 a,be.of q⟩
abbrev FY:bP:=top 40
theorem FZ:ek ["_law_feed_here", "_law_deep", "_law_form", "_law_one"] ["_law_feed_here", "_law_deep"] (cb FY):=⟨rfl,rfl,rfl,by decide +kernel,rfl,by decide +kernel,by decide +kernel⟩
theorem abl:da P w K mg base c6 2 f fd ["_law_feed_here", "_law_deep"] (bG K (xf 0)):=tn λ ds G ay h=>by obtain ⟨_,_,_,_,_,_,_⟩:=h;omega
theorem abm{n:Nat}(B:fN mg)(eA:Got P w K mg base 1 "_law_take" ["_law_feed_here", "_law_many"] (bG K lU))(F0:Got P w K mg base 2 "_law_number" ["_law_feed_here"] (bG K DS))(uq:Got P w K mg base (n+2) "_law_answer_kind" ["_law_feed_here", "_law_deep"] (bG K (xf n)))(F:dT K "_law_answer_kind" "_law_answer_kind" FY f fd):da P w K mg base c6 (n+3) f fd ["_law_feed_here", "_law_deep"] (bG K (xf (n+1))):=by
 refine gu (k:=n+2) F FZ (λ ds G ay h=>?_) (λ bI A outer s H E ao ds G ay h=>?_)
 ·obtain ⟨_,_,rfl,_⟩:=h;rfl
 obtain ⟨a,k,rfl,c2,k0,k1,q⟩:=h
 refine ⟨_,(bq (cX (k:=2) FZ.bK rfl (Or.inl rfl) (cK eA ao (by omega) rfl (aq (am 0) (aq aJ aL))))
  (bq (cO (eZ.at (kC (bN nH (am 1) aJ (bH _)) (la (bN nH (am 2) aJ (bH _))))) (bq (cX (k:=3) FZ.bK rfl (Or.inl rfl) (cK uq ao (by omega) rfl (aq (am 0) (aq (bW lb (am 1) aJ) aL))))
  (bA (b7 (d9 (aq bw (aq (am 3) (aq (cK uq ao (by omega) rfl (aq (am 0) (aq (bW lb (am 1) aJ) aL))) aL))))))) cZ)
  (bq (cO (bN (dK (cf ao)) (am 2) aJ (bH _)) (bA (b7 (d9 (aq bw aL)))) cZ)
  (bA (b7 (d9 (aq bw (aq (cK F0 ao (by omega) rfl (aq (am 0) aL)) aL)))))))),?_⟩
 refine ⟨c2,by decide,by decide,λ l4 aB cY f0 f1=>⟨λ c=>⟨λ bt=>?_,λ bt=>?_⟩,λ c=>⟨λ c=>absurd c (by decide),λ _=>?_⟩⟩⟩
 ·have fE:=of_decide_eq_true c;refine ⟨a,k - 1,rfl,cY.fd,by omega,by omega,λ eS bf du cG dA dt aC=>⟨a,k - 1,rfl,du.fd,by omega,by omega,λ fC em gB c7 cT ck aG=>be.of (q _ _ (cY.trans (du.trans gB)) (.both cG c7 dA cT) rfl (ZC (by omega) dt ck) (Wc (by omega) aC aG))⟩⟩
 ·exact ⟨λ _=>be.of (q _ _ cY .some rfl .some (Ln _)),λ _=>⟨a,rfl,cY.fd,λ n bf du aH=>be.of (q _ _ (cY.trans du) (.is n aH) rfl (.is n aH) (Lo _ _))⟩⟩
 ·exact ⟨λ _=>be.of (q _ _ cY .some rfl .some (Ln _)),λ _=>⟨a,rfl,cY.fd,λ n bf du aH=>be.of (q _ _ (cY.trans du) (.is n aH) rfl (.is n aH) (Lo _ _))⟩⟩
abbrev F1:bP:=top 41
theorem F2:ek ["_law_feed_here", "_law_deep", "_law_form", "_law_bag"] ["_law_feed_here", "_law_deep"] (cb F1):=⟨rfl,rfl,rfl,by decide +kernel,rfl,by decide +kernel,by decide +kernel⟩
theorem abn:da P w K mg base c6 7 f fd ["_law_feed_here", "_law_deep"] (bG K (t9 0)):=tn λ ds G ay h=>by obtain ⟨_,_,_,_,_,_,_,_⟩:=h;omega
theorem abo{n:Nat}(B:fN mg)(eA:Got P w K mg base 1 "_law_take" ["_law_feed_here", "_law_many"] (bG K lU))(uq:Got P w K mg base 5 "_law_answer_kind" ["_law_feed_here", "_law_deep"] (bG K (xf 3)))(l6:Got P w K mg base (n+7) "_law_kind" ["_law_feed_here", "_law_deep"] (bG K (t9 n)))(F:dT K "_law_kind" "_law_kind" F1 f fd):da P w K mg base c6 (n+8) f fd ["_law_feed_here", "_law_deep"] (bG K (t9 (n+1))):=by
 refine gu (k:=n+7) F F2 (λ ds G ay h=>?_) (λ bI A outer s H E ao ds G ay h=>?_)
 ·obtain ⟨_,_,rfl,_⟩:=h;rfl
 obtain ⟨a,k,rfl,c2,k0,k1,afL,q⟩:=h
 refine ⟨_,(bq (cX (k:=2) F2.bK rfl (Or.inl rfl) (cK eA ao (by omega) rfl (aq (am 0) (aq aJ aL))))
  (bq (cO (eZ.at (h4 (bN (dK (cf ao)) (am 1) aJ (bH _)) (j3 (bN lf (am 2) aJ (bH _))))) (bA (b7 (cK uq ao (by omega) rfl (aq (am 0) (aq (c9 (JF rfl) rfl B.min PyProof.Rows.boot_min (aq (am 1) (aq aJ aL))) aL))))) cZ)
  (bq (cO (bN lf (am 2) aJ (bH _)) (bA (b7 (d9 (aq (tl (aq bw (aq bw aL)) (bW lb (am 2) aJ) (λ _ _=>rfl)) (aq (cK l6 ao (by omega) rfl (aq (am 0) (aq (bW lb (am 1) aJ) aL))) aL))))) cZ)
  (bq (CI (k:=3) rfl F2.bK rfl (Or.inl rfl) (hI.of (N':=["_law_k", "_law_feed_here", "_law_deep"]) (nt:=1) (cap:=[0,1]) rfl (by kernel_rfl)) (p2 (k:=0) (by decide)) (zy rfl B.range (aq (cK eA ao (by omega) rfl (aq (am 0) (aq aJ aL))) aL)) (λ _ _ _ _=>(jv (k:=0) (show List.Nodup (["_law_k", "_law_feed_here", "_law_deep"]:List Str) by decide +kernel) rfl (Or.inl rfl)))  (λ _ _ _ _=>(cK l6 ao (by omega) rfl (aq (am 1) (aq (bW lb (am 2) aJ) aL)))))
  (bq (cO (eZ.at (kC (bN nH (c9 fA rfl B.len fw (aq (am 3) aL)) aJ (bH _)) (la (bN (dK (cf ao)) (cK eA ao (by omega) rfl (aq (am 0) (aq aJ aL))) aJ (bH _))))) (bA (CB (bZ b1 (am 3) aJ (λ _ _=>rfl)) (CS (am 3) aJ))) cZ)
  (bA (b7 (d9 (aq bw (aq (p5 (mI v6 rfl B.tuple mf (aq (c9 (zY (cf ao)) rfl B.sorted u0 (aq (am 3) aL)) aL))) (aq (cK l6 ao (by omega) rfl (aq (am 0) (aq (bW lb (am 1) aJ) aL))) aL))))))))))),?_⟩
 refine ⟨c2,by decide,by decide,λ l4 aB cY f0 f1=>⟨λ c=>⟨λ _=>?_,λ c=>absurd c (by decide)⟩,λ c=>⟨λ bt=>?_,λ bt=>⟨λ d0=>?_,λ d0=>?_⟩⟩⟩⟩
 ·refine ⟨a,if 2 < k then 2 else k,rfl,cY.fd,by split<;>omega,by split<;>omega,λ d bf du i o nn e=>be.of (q d bf ⟨bf,cY.trans du,.refl _⟩ i (λ _=>o) (nn.mono (by split<;>omega)) (Nr (by split<;>omega) e))⟩
 ·refine ⟨a,if 2 < k then 2 else k,rfl,cY.fd,by split<;>omega,by split<;>omega,λ d bf du i o nn e=>be.of (q d bf ⟨bf,cY.trans du,.refl _⟩ i (λ _=>o) (nn.mono (by split<;>omega)) (Nr (by split<;>omega) e))⟩
 ·have afM:=of_decide_eq_true d0;have ke:=of_decide_eq_false bt
  have ur:k≠0:=by rintro rfl;cases c
  refine at2 (i:=l4 - 3) (by omega) (by omega) (λ _=>⟨a,k - 1,rfl,cY.fd,by omega,by omega,by omega,λ d bf ⟨bS,g9,jl⟩ i _ nn e=>be.of (q _ bf ⟨bS,cY.trans g9,jl⟩ (.left i) (λ z=>absurd z ur) (Zz (by omega) nn) (Nt (by omega) e))⟩) λ _=>⟨a,k - 1,rfl,cY.fd,by omega,by omega,by omega,λ d bf ⟨bS,g9,jl⟩ i _ nn e=>be.of (q _ bf ⟨bS,cY.trans g9,jl⟩ (.right i) (λ z=>absurd z ur) (ZA (by omega) nn) (Nt (by omega) e))⟩
 ·have ur:k≠0:=by rintro rfl;cases c
  refine ⟨cY.fd,by decide,by decide,λ m bf du m0 ei=>zx (by omega) ?_⟩;refine Kt a id (λ d=>gy d/\eg (k - 1).toNat d/\dL (5 * 5 ^ (k - 1).toNat) (2 * (k - 1).toNat+3) 3 d) ?_ (λ _=>trivial) du.fd (λ d G R hf h=>⟨a,k - 1,rfl,hf,by omega,by omega,by omega,λ d au x i _ nn e=>h d au x ⟨i,nn,e⟩⟩) λ ds em q6 fz gB p ah=>?_
  ·show (j5 0 (m:Int).toNat).length<=1000;rw [ri];omega
  have nW:ds.length<=3:=by
   have e:ds.length=(j5 0 (m:Int).toNat).length:=q6;rw [ri] at e;omega
  rw [uT]
  have F3:∀ b o,b≠a->G b=some o->up em p (.lst ds) b=some o:=λ b o nb e=>by
   have ae:em b=some o:=(cY.trans (du.trans gB)).dr nb e;rw [dU (by rintro rfl;rw [ah] at ae;cases ae)];exact ae
  refine bX bU ⟨λ gq=>⟨gB.fd.new ah,by decide,by decide,λ j hL jF E0 ey=>⟨λ g7=>?_,λ g7=>?_⟩⟩,λ gq=>⟨λ c=>absurd c (by decide),λ _=>?_⟩⟩
  ·have uh:=jF.dr (gB.fd.ne ah) bU
   obtain ⟨x,y,zs,rfl⟩:∃ x y zs,ds=x::y::zs:=by
    have OI:=of_decide_eq_true gq;rcases ds with _ | ⟨x,_ | ⟨y,zs⟩⟩
    ·simp at OI
    ·simp at OI
    ·exact ⟨x,y,zs,rfl⟩
   refine hK uh (d:=x) (k4 (j:=0) rfl) (fG uh ⟨1,by unfold L2.kZ;rw [if_pos (by decide),if_pos (by simp only [bR];omega)];rfl,?_⟩);have bB:∀ d∈(x::y::zs).set 1 x,gy d/\eg (k - 1).toNat d/\dL (5 * 5 ^ (k - 1).toNat) (2 * (k - 1).toNat+3) 3 d:=U_ fz (fz x (bT ..))
   have jd:((x::y::zs).set 1 x).length<=3:=by rw [List.length_set];exact nW
   have X:∀ eo bS,e0 a (up hL p (.lst ((x::y::zs).set 1 x))) bS->Sub bS eo->∃ bS,e0 a G bS/\Sub bS eo:=λ eo bS g9 jl=>zS (λ b o nb e=>by
    have ae:=F3 b o nb e;have ag:=jF.dr nb ae
    have abp:b≠p:=by rintro rfl;rw [(cY.trans (du.trans gB)).none ah] at e;cases e
    rw [dU abp];exact ag) g9 jl
   refine bX (bU) ⟨by have:=jd;omega,λ d hd=>⟨(bB d hd).1.e9,by have:=(bB d hd).2.2.bC;omega⟩,λ hk fb iP e_ d2=>bX bU ⟨_,Sub.new (Sub.refl _) d2,⟨a,k - 1,rfl,(by obtain ⟨wu,KJ,bV⟩:=jF.fd;exact ⟨wu,KJ,by rw [dU (Ne.symm (gB.fd.ne ah))];exact bV⟩),by omega,by omega,by omega,λ d eo ⟨bS,g9,jl⟩ xx _ xy oy=>be.of (q _ eo (X eo bS g9 jl) (.way (λ d hd=>(bB d (fb.mem_iff.mpr hd)).1) (tz iP) xx) (λ z=>absurd z ur) (EK (by omega) (λ d hd=>(bB d (fb.mem_iff.mpr hd)).2.1) (by rw [<- fb.length_eq];exact jd) xy) (EL (by omega) (λ d hd=>(bB d (fb.mem_iff.mpr hd)).2.2) (by rw [<- fb.length_eq];exact jd) oy))⟩⟩⟩
  ·have uh:=jF.dr (gB.fd.ne ah) bU;have X:∀ eo bS,e0 a hL bS->Sub bS eo->∃ bS,e0 a G bS/\Sub bS eo:=λ eo bS g9 jl=>zS (λ b o nb e=>jF.dr nb (F3 b o nb e)) g9 jl;refine bX (uh) ⟨by have:=nW;omega,λ d hd=>⟨(fz d hd).1.e9,by have:=(fz d hd).2.2.bC;omega⟩,λ hk fb iP e_ d2=>bX bU ⟨_,Sub.new (Sub.refl _) d2,⟨a,k - 1,rfl,jF.fd,by omega,by omega,by omega,λ d eo ⟨bS,g9,jl⟩ xx _ xy oy=>be.of (q _ eo (X eo bS g9 jl) (.way (λ d hd=>(fz d (fb.mem_iff.mpr hd)).1) (tz iP) xx) (λ z=>absurd z ur) (EK (by omega) (λ d hd=>(fz d (fb.mem_iff.mpr hd)).2.1) (by rw [<- fb.length_eq];exact nW) xy) (EL (by omega) (λ d hd=>(fz d (fb.mem_iff.mpr hd)).2.2) (by rw [<- fb.length_eq];exact nW) oy))⟩⟩⟩
  ·have X:∀ eo bS,e0 a (up em p (.lst ds)) bS->Sub bS eo->∃ bS,e0 a G bS/\Sub bS eo:=λ eo bS g9 jl=>zS F3 g9 jl;refine bX (bU) ⟨by have:=nW;omega,λ d hd=>⟨(fz d hd).1.e9,by have:=(fz d hd).2.2.bC;omega⟩,λ hk fb iP e_ d2=>bX bU ⟨_,Sub.new (Sub.refl _) d2,⟨a,k - 1,rfl,(gB.fd.new ah),by omega,by omega,by omega,λ d eo ⟨bS,g9,jl⟩ xx _ xy oy=>be.of (q _ eo (X eo bS g9 jl) (.way (λ d hd=>(fz d (fb.mem_iff.mpr hd)).1) (tz iP) xx) (λ z=>absurd z ur) (EK (by omega) (λ d hd=>(fz d (fb.mem_iff.mpr hd)).2.1) (by rw [<- fb.length_eq];exact nW) xy) (EL (by omega) (λ d hd=>(fz d (fb.mem_iff.mpr hd)).2.2) (by rw [<- fb.length_eq];exact nW) oy))⟩⟩⟩
abbrev F4:bP:=top 42
theorem pd:ek ["_law_feed_here", "_law_kind_here", "_law_some", "_law_k", "_law_form", "_law_other"] ["_law_feed_here"] (cb F4):=⟨rfl,rfl,rfl,by decide +kernel,rfl,by decide +kernel,by decide +kernel⟩
theorem abq(B:fN mg)(eA:Got P w K mg base 1 "_law_take" ["_law_feed_here", "_law_many"] (bG K lU))(l6:Got P w K mg base 11 "_law_kind" ["_law_feed_here", "_law_deep"] (bG K (t9 4)))(F:dT K "_law_long" "_law_long" F4 f fd):da P w K mg base c6 12 f fd ["_law_feed_here"] (bG K t_):=by
 refine gu (k:=11) F pd (λ ds G ay h=>?_) (λ bI A outer s H E ao ds G ay h=>?_)
 ·obtain ⟨_,rfl,_⟩:=h;rfl
 obtain ⟨a,rfl,c2,q⟩:=h
 refine ⟨_,(bq (cX (k:=1) pd.bK rfl (Or.inl rfl) (cK l6 ao (by omega) rfl (aq (am 0) (aq aJ aL))))
  (bq (cO (bN (dK (cf ao)) (cK eA ao (by omega) rfl (aq (am 0) (aq aJ aL))) aJ (bH _)) (bq (CI (k:=2) rfl pd.bK rfl (Or.inl rfl) (hI.of (N':=["_law_k", "_law_feed_here"]) (nt:=1) (cap:=[0]) rfl (by kernel_rfl)) (p2 (k:=0) (by decide)) (zy rfl B.range (aq (cK eA ao (by omega) rfl (aq (am 0) (aq aJ aL))) aL)) (λ _ _ _ _=>(jv (k:=0) (show List.Nodup (["_law_k", "_law_feed_here"]:List Str) by decide +kernel) rfl (Or.inl rfl)))  (λ _ _ _ _=>(cK l6 ao (by omega) rfl (aq (am 1) (aq (cK eA ao (by omega) rfl (aq (am 1) (aq aJ aL))) aL)))))
  (bA (b7 (d9 (aq bw (aq (p5 (mI v6 rfl B.tuple mf (aq (c9 (zY (cf ao)) rfl B.sorted u0 (aq (am 2) aL)) aL))) (aq (am 1) aL))))))) cZ)
  (bq (wb PassesOwn.never rfl (zy rfl B.range (aq (cK eA ao (by omega) rfl (aq (am 0) (aq aJ aL))) aL)) (jv (k:=3) pd.bK rfl (Or.inl rfl)) (bq (cX (k:=4) pd.bK rfl (Or.inl rfl) (cK eA ao (by omega) rfl (aq (am 0) (aq aJ aL))))
  (bq (cX (k:=5) pd.bK rfl (Or.inl rfl) (cK l6 ao (by omega) rfl (aq (am 0) (aq aJ aL))))
  (bA (cO (bN lf (am 4) aJ (bH _)) (bA (cX (k:=1) pd.bK rfl (Or.inl rfl) (d9 (aq (tl (aq bw (aq bw aL)) (am 4) (λ _ _=>rfl)) (aq (am 1) aL))))) (bA (cO (eZ.at (kC (bN (dK (cf ao)) (am 4) aJ (bH _)) (la (bN p0 (bZ b1 (am 1) aJ (λ _ _=>rfl)) (d9 (aq bw (aq bw (aq bw aL)))) (by with_unfolding_all rfl))))) (bA (cX (k:=1) pd.bK rfl (Or.inl rfl) (d9 (aq bw (aq (am 5) (aq (am 1) aL)))))) (bA (cX (k:=1) pd.bK rfl (Or.inl rfl) (tl (aq (d9 (aq bw (aq (d9 (aq (am 1) aL)) (aq (am 5) aL)))) (aq (d9 (aq bw (aq (d9 aL) (aq (am 1) aL)))) (aq (d9 (aq bw (aq (p5 (mI v6 rfl B.tuple mf (aq (p5 (c9 (zY (cf ao)) rfl B.sorted u0 (aq (kA (aq (am 1) (aq (am 5) aL))) aL))) aL))) (aq (am 5) aL)))) aL))) (bW lb (am 4) aJ) (λ _ _=>rfl)))))))))))
  (bA (b7 (am 1)))))),?_⟩
 refine ⟨a,2,rfl,c2,by decide,by decide,by decide,λ hM aB g8 EJ _ hS OJ=>⟨g8.fd,by decide,by decide,λ t bf du t0 t1=>?_⟩⟩;have Ba:dL 125 7 3 hM:=OJ.mono (by decide) (by decide) (ZB _);clear OJ;refine ⟨λ c=>?_,λ c=>?_⟩
 ·have gU:=g8.trans (.of du);refine ⟨du.fd,by decide,by decide,λ m em gB m0 ei=>zx (by omega) ?_⟩;have og:=gU.trans (.of gB);refine Kt a id (λ d=>gy d/\eg 2 d/\dL 25 5 3 d) ?_ (λ _=>trivial) gB.fd (λ d G R hf h=>⟨hf,by decide,by decide,λ j hL jF E0 ey=>⟨a,j,rfl,jF.fd,E0,by omega,by omega,λ d au x i _ nn e=>h d au (fK.trans (.of jF) x) ⟨i,nn.mono (by omega),?_⟩⟩⟩) λ ds abr q6 fz abt p ah=>?_
  ·show (j5 0 (m:Int).toNat).length<=1000;rw [ri];omega
  ·have ag:5 ^ j.toNat<=5 ^ 1:=yk (by decide) (by omega);exact e.mono (by omega) (by omega) (ZB _)
  have nW:ds.length<=40:=by
   have e:ds.length=(j5 0 (m:Int).toNat).length:=q6;rw [ri] at e;omega
  rw [uT];have abu:fK a G (up abr p (.lst ds)):=(og.trans (.of abt)).new ah;refine bX bU ⟨by omega,λ d hd=>⟨(fz d hd).1.e9,by have:=(fz d hd).2.2.bC;omega⟩,λ hk fb iP e_ d2=>bX bU ⟨_,Sub.new (Sub.refl _) d2,be.of (q _ _ abu (.way (λ d hd=>(fz d (fb.mem_iff.mpr hd)).1) (tz iP) EJ) (.inr ⟨hk,hM,rfl,by rw [<- fb.length_eq];exact nW,λ d hd=>(fz d (fb.mem_iff.mpr hd)).2.1,hS⟩) ?_)⟩⟩;have z:=Wd (n:=40) (w:=40) (λ d hd=>(fz d (fb.mem_iff.mpr hd)).2.2.mono (ZB _) (ZB _) (by omega:3<=40)) (by rw [<- fb.length_eq];exact nW) (ZB _);have:=z.eW;have:=z.bC;have:=z.h7;have:=Ba.eW;have:=Ba.bC;have:=Ba.h7;exact ⟨by simp only [cB,b4] at *;omega,by simp only [D.bC,cc] at *;omega,by simp only [fu,jh,bR,eL] at *;omega⟩
 ·refine ⟨du.fd,by decide,by decide,λ m em gB m0 ei=>zx (by omega) ?_⟩;have og:=g8.trans (.of (du.trans gB));refine ⟨λ i ρ au=>∃(d:D)(cT eE d1 fZ:Option D),ρ=[some (.ref a),some d,cT,eE,d1,fZ]/\fK a G au/\gy d/\eg (2+i) d/\dL (125+20 * i) (7+2 * i) 3 d,⟨hM,_,_,_,_,rfl,og,EJ,hS,Ba.mono (by omega) (by omega) (ZB _)⟩,λ _ _ _ _ _=>trivial,?_,?_⟩
  ·rintro i e ρ au he ⟨d,cT,eE,d1,fZ,rfl,w,av,pe,af⟩
   have afN:i < 37:=by
    have:=(zw he).1;omega
   refine ⟨w.fd,by decide,by decide,λ l4 hL jF f0 f1=>⟨a,0,rfl,jF.fd,by decide,by decide,by decide,λ OK kG vG io abv no abw=>?_⟩⟩;have abx:=w.trans (fK.trans (.of jF) vG);have xA:dL 5 3 3 OK:=abw.mono (by decide) (by decide) (ZB _);have fin:∀(d':D)(eo:aP)(ρ:eB),(∃ cT eE d1 fZ:Option D,ρ=[some (.ref a),some d',cT,eE,d1,fZ])->Sub kG eo->gy d'->eg (2+i+1) d'->(∃ s p,dL s p 3 d'/\s<=125+20 * (i+1)/\p<=7+2 * (i+1))->fV (λ ρ au=>∃(d:D)(cT eE d1 fZ:Option D),ρ=[some (.ref a),some d,cT,eE,d1,fZ]/\fK a G au/\gy d/\eg (2+(i+1)) d/\dL (125+20 * (i+1)) (7+2 * (i+1)) 3 d) ρ eo:=λ d' eo ρ ⟨cT,eE,d1,fZ,e⟩ ap k nn ⟨s,p,b,ae,ag⟩=>fV.of ⟨d',cT,eE,d1,fZ,e,abx.sub ap,k,nn,b.mono ae ag (ZB _)⟩;refine ⟨λ c=>?_,λ c=>?_⟩
   ·have fE:=of_decide_eq_true c;exact at2 (i:=l4) f0 (by omega) (λ _=>fin _ _ _ ⟨_,_,_,_,rfl⟩ (Sub.refl _) (.left av) (.left pe) ⟨_,_,Lp af,by omega,by omega⟩) λ _=>fin _ _ _ ⟨_,_,_,_,rfl⟩ (Sub.refl _) (.right av) (.right pe) ⟨_,_,Lp af,by omega,by omega⟩
   ·have fE:=of_decide_eq_false c;obtain ⟨z,r,rfl,_⟩:=av.e9.head
    have j8:(false ^^ lR (.str z) [.str "is", .str "some", .str "both"])=g5 (.tup (.str z::r)):=by rw [lB,Ku];rfl
    refine ⟨λ gq=>⟨rfl,rfl,?xl⟩,λ gq=>⟨nofun,λ _=>?aby⟩⟩
    case' xl=>
     dsimp only
     rw [j8];refine ⟨λ g7=>fin _ _ _ ⟨_,_,_,_,rfl⟩ (Sub.refl _) (.both io av (abv rfl) g7) (.both (no.mono (by omega)) pe) ⟨_,_,Ae xA af,by omega,by omega⟩,λ g7=>?_⟩
    case xl | aby=>
     intro p ah
     have ut:∀ d∈[.tup (.str z::r),OK],bx d/\d.bC<=150:=λ d hd=>by
      have:=af.bC;have:=xA.bC;simp at hd;rcases hd with rfl | rfl
      ·exact ⟨av.e9,by omega⟩
      ·exact ⟨io.e9,by omega⟩
     refine bX bU ⟨show 2 < 64 by decide,ut,λ hk fb iP e_ d2=>⟨_,Sub.refl _,bX bU ⟨kG,Sub.trans (Sub.new (Sub.refl _) ah) (Sub.new (Sub.refl _) d2),?_⟩⟩⟩
     have abz:∀ d∈hk,gy d:=λ d hd=>by
      have:=fb.mem_iff.mpr hd;simp at this;rcases this with rfl | rfl
      ·exact av
      ·exact io
     have abA:∀ d∈hk,eg (2+i) d:=λ d hd=>by
      have:=fb.mem_iff.mpr hd;simp at this;rcases this with rfl | rfl
      ·exact pe
      ·exact no.mono (by omega)
     have ew:Sub kG kG:=Sub.refl _;refine UX (i:=l4 - 2) (by omega) (by omega) (λ _=>?_) (λ _=>?_) λ _=>?_
     ·exact fin _ _ _ ⟨_,_,_,_,rfl⟩ ew (.way (by simpa using av) rfl io) (.way (by simpa using pe) (by simp) (no.mono (by omega))) ⟨_,_,Ae (We af) xA,by omega,by omega⟩
     ·exact fin _ _ _ ⟨_,_,_,_,rfl⟩ ew (.way (by simp) rfl av) (.way (by simp) (by simp) pe) ⟨_,_,Ae Wg af,by omega,by omega⟩
     ·exact fin _ _ _ ⟨_,_,_,_,rfl⟩ ew (.way abz (tz iP) io) (.way abA (by rw [<- fb.length_eq];simp) (no.mono (by omega))) ⟨_,_,Ae (Wf af xA fb) xA,by omega,by omega⟩
  ·rintro ρ au ⟨d,cT,eE,d1,fZ,rfl,w,av,pe,af⟩;have kJ:(⟨j5 0 m.toNat,λ _=>True⟩:kE).items.length=m.toNat:=ri;rw [kJ] at af pe;exact be.of (q d _ w av (.inl (pe.mono (by omega))) (af.mono (by omega) (by omega) (by omega)))
abbrev F5:bP:=top 43
theorem OL:ek ["_law_feed_here", "_law_form"] ["_law_feed_here"] (cb F5):=⟨rfl,rfl,rfl,by decide +kernel,rfl,by decide +kernel,by decide +kernel⟩
theorem abB(B:fN mg)(eA:Got P w K mg base 1 "_law_take" ["_law_feed_here", "_law_many"] (bG K lU))(l6:Got P w K mg base 11 "_law_kind" ["_law_feed_here", "_law_deep"] (bG K (t9 4)))(F6:Got P w K mg base 12 "_law_long" ["_law_feed_here"] (bG K t_))(F:dT K "_law_any_kind" "_law_any_kind" F5 f fd):da P w K mg base c6 13 f fd ["_law_feed_here"] (bG K t_):=by
 refine gu (k:=12) F OL (λ ds G ay h=>?_) (λ bI A outer s H E ao ds G ay h=>?_)
 ·obtain ⟨_,rfl,_⟩:=h;rfl
 obtain ⟨a,rfl,c2,q⟩:=h
 refine ⟨_,(bq (cX (k:=1) OL.bK rfl (Or.inl rfl) (cK eA ao (by omega) rfl (aq (am 0) (aq aJ aL))))
  (bq (cO (bN (dK (cf ao)) (am 1) aJ (bH _)) (bA (b7 (cK F6 ao (by omega) rfl (aq (am 0) aL)))) cZ)
  (bA (b7 (cK l6 ao (by omega) rfl (aq (am 0) (aq (bW di aJ (bW oK (am 1) aJ)) aL))))))),?_⟩
 refine ⟨c2,by decide,by decide,λ l4 aB cY f0 f1=>⟨λ c=>⟨a,rfl,cY.fd,λ d bf gU i ua b=>be.of (q d bf (fK.trans (.of cY) gU) i ua b)⟩,λ c=>?_⟩⟩;have m0:0<=l4 % 3:=yw _ (by decide);have ei:l4 % 3 < 3:=yx _ (by decide);refine ⟨(by show (0:Int) < 3;decide),a,1+l4 % 3,rfl,cY.fd,by omega,by omega,by omega,λ d bf gU i _ nn b=>be.of (q d bf (fK.trans (.of cY) gU) i (.inl (nn.mono (by omega))) (b.mono ?_ (by omega) (by omega)))⟩;have ag:5 ^ (1+l4 % 3).toNat<=5 ^ 3:=yk (by decide) (by omega);have:(5:Nat) ^ 3=125:=rfl;omega
abbrev F7:bP:=top 50
theorem OM:ek ["_law_text", "_law_found"] ["_law_text"] (cb F7):=⟨rfl,rfl,rfl,by decide +kernel,rfl,by decide +kernel,by decide +kernel⟩
theorem abC{n:Nat}(B:fN mg)(pb:Got P w K mg base (2 * n+3) "_law_kind_at" ["_law_text", "_law_at"] (bG K (l2 (cU n) n)))(F:dT K "_law_read" "_law_read" F7 f fd):da P w K mg base c6 (2 * n+4) f fd ["_law_text"] (bG K (EP n)):=by
 refine gu (k:=2 * n+3) F OM (λ ds G ay h=>?_) (λ bI A outer s H E ao ds G ay h=>?_)
 ·obtain ⟨_,rfl,_⟩:=h;rfl
 obtain ⟨z,rfl,hz,aS,aH,q⟩:=h
 refine ⟨_,(bq (cX (k:=1) OM.bK rfl (Or.inl rfl) (cK pb ao (by omega) rfl (aq (am 0) (aq aJ aL))))
  (bq (cO (eZ.at (h4 (bN rg (am 1) iu (bH _)) (j3 (bN (je (cf ao)) (bZ b1 (am 1) aJ (λ _ _=>rfl)) (c9 fA rfl B.len fw (aq (am 0) aL)) (bH _))))) (bA (b7 iu)) cZ)
  (bA (b7 (bZ b1 (am 1) aJ (λ _ _=>rfl)))))),?_⟩
 have hg:z.cps.toList.length=z.length:=fO;refine ⟨z,0,rfl,ef _,hz,aS,by rw [ie];exact aH,?_⟩;rw [ie]
 match ah:cU n z.cps.toList with
 | none=>rw [ah] at q;exact bn.yes rfl (bn.yes rfl (be.of q))
 | some (d,[])=>
  rw [ah] at q;refine bn.no rfl ⟨dQ (by omega),bn.no (by simp) (be.of q)⟩
 | some (d,c::r)=>
  rw [ah] at q;refine bn.no rfl ⟨dQ (by omega),bn.yes (by simp;omega) (be.of q)⟩
abbrev F8:bP:=top 51
theorem xB:ek ["_law_feed_here", "_law_text", "_law_signs", "_law_form", "_law_at", "_law_word"] ["_law_feed_here", "_law_text"] (cb F8):=⟨rfl,rfl,rfl,by decide +kernel,rfl,by decide +kernel,by decide +kernel⟩
theorem abD(B:fN mg)(eA:Got P w K mg base 1 "_law_take" ["_law_feed_here", "_law_many"] (bG K lU))(F:dT K "_law_otherwise" "_law_otherwise" F8 f fd):da P w K mg base c6 2 f fd ["_law_feed_here", "_law_text"] (bG K ER):=by
 refine gu (k:=1) F xB (λ ds G ay h=>?_) (λ bI A outer s H E ao ds G ay h=>?_)
 ·obtain ⟨_,_,_,rfl,_⟩:=h;rfl
 obtain ⟨a,z,j,rfl,c2,bh,cD,q⟩:=h
 refine ⟨_,(bq (cX (k:=2) xB.bK rfl (Or.inl rfl) bw)
  (bq (cX (k:=3) xB.bK rfl (Or.inl rfl) (cK eA ao (by omega) rfl (aq (am 0) (aq aJ aL))))
  (bq (cX (k:=4) xB.bK rfl (Or.inl rfl) (cK eA ao (by omega) rfl (aq (am 0) (aq (bW di (c9 fA rfl B.len fw (aq (am 1) aL)) aJ) aL))))
  (bq (cO (bN lf (am 3) aJ (bH _)) (bA (b7 (bW di (fU hy (am 1) h5 (d_ (am 4))) (fU hy (am 1) (d_ (bW di (am 4) aJ)) h5)))) cZ)
  (bq (cO (bN lf (am 3) aJ (bH _)) (bA (b7 (bW di (bW di (fU hy (am 1) h5 (d_ (am 4))) (bZ b1 (am 2) (cK eA ao (by omega) rfl (aq (am 0) (aq aJ aL))) (λ _ _=>rfl))) (fU hy (am 1) (d_ (am 4)) h5)))) cZ)
  (bq (cO (bN (dK (cf ao)) (am 3) aJ (bH _)) (bA (b7 (bW di (bW di (fU hy (am 1) h5 (d_ (am 4))) (bZ b1 (am 2) (cK eA ao (by omega) rfl (aq (am 0) (aq aJ aL))) (λ _ _=>rfl))) (fU hy (am 1) (d_ (bW di (am 4) aJ)) h5)))) cZ)
  (bq (cO (bN (dK (cf ao)) (am 3) aJ (bH _)) (bA (b7 (bW di (fU hy (am 1) h5 (d_ (am 4))) (fU hy (am 1) (d_ (c9 (JE rfl) rfl B.max PyProof.Rows.boot_max (aq aJ (aq (bW lb (bW lb (am 4) aJ) (cK eA ao (by omega) rfl (aq (am 0) (aq aJ aL)))) aL)))) h5)))) cZ)
  (bq (cX (k:=5) xB.bK rfl (Or.inl rfl) (kA (aq bw (aq bw (aq bw (aq bw (aq bw (aq bw (aq bw (aq bw (aq bw (aq bw aL))))))))))))
  (bA (b7 (bW di (bW di (fU hy (am 1) h5 (d_ (am 4))) (bZ b1 (am 5) (cK eA ao (by omega) rfl (aq (am 0) (aq aJ aL))) (λ _ _=>rfl))) (fU hy (am 1) (d_ (bW di (am 4) (cK eA ao (by omega) rfl (aq (am 0) (aq aJ aL))))) h5)))))))))))),?_⟩
 have hg:z.cps.toList.length=z.length:=fO;have hlen:=bh.len;refine ⟨c2,by decide,by decide,λ l4 aB cY f0 f1=>⟨dQ (by omega),cY.fd,by omega,by omega,λ at_ bf du abE a1=>?_⟩⟩;obtain ⟨k,rfl⟩:=sJ abE
 have aN:k<=z.length:=by omega
 have xC:=ZU aN;have xD:=ZV z
 have afO:(cH (z.cps.toList.take k)).length<=40000:=by rw [LY,kk];omega
 have F9:∀ b,(cH (z.cps.toList.drop b)).length<=40000:=λ b=>by rw [LY,hF];omega
 have nL:(k:Int)+1=((k+1:Nat):Int):=by omega
 have i5:∀{t:Int},0<=t->t < 23->∃ c,gJ xh.cps.toList t=some c/\c < 1000:=λ{t} t0 t1=>by
  obtain ⟨i,rfl⟩:=sJ t0
  have av:i < xh.cps.toList.length:=by rw [NC.1];omega
  exact ⟨_,k4 (fv av),NC.2 _ (jJ av)⟩
 have ON:xh.length<=sizeLine:=by decide +kernel
 have F_:∀{x:Str}{b:Nat}{eo:aP},fK a G eo->x.length<=13->jE x.cps.toList->(∀ d∈x.cps.toList,d < 1000)->(b=k\/b=k+1)->(cH (z.cps.toList.take k)).length+x.length<=sizeLine/\(cH (z.cps.toList.take k)++x).length+(cH (z.cps.toList.drop b)).length<=sizeLine/\be ay (.str (cH (z.cps.toList.take k)++x++cH (z.cps.toList.drop b))) eo:=λ{x b eo} ⟨bS,g8,gU⟩ ak ae ag af=>by
  have:=F9 b;exact ⟨dQ (by omega),dQ (by rw [tG];omega),bS,gU,q _ _ g8 (ZW bh k b ae ag af)⟩
 refine ⟨λ bu=>⟨dQ (by omega),dQ (by omega),?_⟩,λ bu=>⟨λ bt=>⟨dQ (by omega),du.fd,by decide,by decide,λ t em gB t0 t1=>?_⟩,λ bt=>⟨λ d0=>⟨dQ (by omega),du.fd,by decide,by decide,λ t em gB t0 t1=>?_⟩,λ d0=>⟨λ gq=>⟨dQ (by omega),du.fd,by decide,by decide,λ t em gB t0 t1=>?_⟩,λ gq p ah=>?_⟩⟩⟩⟩
 ·rw [xC,nL,xD];exact ⟨dQ (by have:=F9 (k+1);omega),be.of (q _ _ (cY.trans du) (ZX bh k))⟩
 ·obtain ⟨c,ai,hA⟩:=i5 t0 t1;obtain ⟨cG,c7⟩:=ND hA;have cV:=F_ (x:=⟨#[c]⟩) (b:=k) (fK.of (cY.trans (du.trans gB))) (show 1<=13 by decide) cG c7 (.inl rfl);refine ⟨ON,c,ai,?_⟩;rw [xC];refine ⟨cV.1,dQ (by omega),?_⟩;rw [xD];exact cV.2
 ·obtain ⟨c,ai,hA⟩:=i5 t0 t1;obtain ⟨cG,c7⟩:=ND hA;have cV:=F_ (x:=⟨#[c]⟩) (b:=k+1) (fK.of (cY.trans (du.trans gB))) (show 1<=13 by decide) cG c7 (.inr rfl);refine ⟨ON,c,ai,?_⟩;rw [xC];refine ⟨cV.1,dQ (by omega),?_⟩;rw [nL,xD];exact cV.2
 ·obtain ⟨i,rfl⟩:=sJ t0
  have abF:(if (k:Int) - 1 - (i:Int) > 0 then (k:Int) - 1 - (i:Int) else 0)=(((k - 1 - i:Nat):Nat):Int):=by split<;>omega
  refine ⟨dQ (by omega),?_⟩;rw [xC];show _/\_
  dsimp only
  rw [abF,xD];exact ⟨dQ (by have:=F9 (k - 1 - i);omega),be.of (q _ _ (cY.trans (du.trans gB)) (ZY bh (by omega) (by omega)))⟩
 ·have gU:fK a G (up bf p (.lst (ub.map D.str))):=(fK.of (cY.trans du)).new ah;refine ⟨dQ (by omega),(du.fd).new ah,by decide,by decide,λ t em gB t0 t1=>?_⟩;obtain ⟨i,rfl⟩:=sJ t0;have FC:em p=some (.lst (ub.map D.str)):=gB.dr (du.fd.ne ah) bU
  have av:i < ub.length:=by show i < 10;omega
  obtain ⟨cG,c7,xa⟩:=Z0 (jJ av);refine hK FC (d:=.str ub[i]) (k4 (by rw [iG,fv av];rfl)) ?_;rw [xC];refine ⟨dQ (by omega),gB.fd,by decide,by decide,λ t hL jF t0 t1=>?_⟩;obtain ⟨b,rfl⟩:=sJ t0;have cV:=F_ (b:=k+b) (gU.trans (fK.of (gB.trans jF))) xa cG c7 (by omega);refine ⟨dQ (by omega),?_⟩;rw [show (k:Int)+(b:Int)=((k+b:Nat):Int) by omega,xD];exact cV.2
abbrev Ga:bP:=top 52
theorem Gb:ek ["_law_feed_here", "_law_kind_here", "_law_at", "_law_bag"] ["_law_feed_here", "_law_kind_here"] (cb Ga):=⟨rfl,rfl,rfl,by decide +kernel,rfl,by decide +kernel,by decide +kernel⟩
theorem abG:da P w K mg base c6 2 f fd ["_law_feed_here", "_law_kind_here"] (bG K (xg 0)):=tn λ ds G ay h=>by obtain ⟨_,_,_,_,_,h,_⟩:=h;omega
theorem abH{n:Nat}(B:fN mg)(eA:Got P w K mg base 1 "_law_take" ["_law_feed_here", "_law_many"] (bG K lU))(xE:Got P w K mg base (n+2) "_law_turned" ["_law_feed_here", "_law_kind_here"] (bG K (xg n)))(F:dT K "_law_turned" "_law_turned" Ga f fd):da P w K mg base c6 (n+3) f fd ["_law_feed_here", "_law_kind_here"] (bG K (xg (n+1))):=by
 refine gu (k:=n+2) F Gb (λ ds G ay h=>?_) (λ bI A outer s H E ao ds G ay h=>?_)
 ·obtain ⟨_,_,rfl,_⟩:=h;rfl
 obtain ⟨a,d,rfl,c2,aN,hd,hw,q⟩:=h
 refine ⟨_,(bq (cO (eZ.at (kC (bN (dK (cf ao)) (bZ b1 (am 1) aJ (λ _ _=>rfl)) bw (bH _)) (kC (bN nH (c9 fA rfl B.len fw (aq (bZ b1 (am 1) aJ (λ _ _=>rfl)) aL)) aJ (bH _)) (la (bN (dK (cf ao)) (cK eA ao (by omega) rfl (aq (am 0) (aq aJ aL))) aJ (bH _)))))) (bq (cX (k:=2) Gb.bK rfl (Or.inl rfl) (cK eA ao (by omega) rfl (aq (am 0) (aq (bW lb (c9 fA rfl B.len fw (aq (bZ b1 (am 1) aJ (λ _ _=>rfl)) aL)) aJ) aL))))
  (bq (cX (k:=3) Gb.bK rfl (Or.inl rfl) (bW di (bW di (fU rh (bZ b1 (am 1) aJ (λ _ _=>rfl)) h5 (d_ (am 2))) (d9 (aq (bZ NE (bZ b1 (am 1) aJ (λ _ _=>rfl)) (bW di (am 2) aJ) (λ _ _=>rfl)) (aq (bZ NE (bZ b1 (am 1) aJ (λ _ _=>rfl)) (am 2) (λ _ _=>rfl)) aL)))) (fU rh (bZ b1 (am 1) aJ (λ _ _=>rfl)) (d_ (bW di (am 2) aJ)) h5)))
  (bA (b7 (d9 (aq bw (aq (am 3) (aq (bZ b1 (am 1) aJ (λ _ _=>rfl)) aL)))))))) cZ)
  (bq (cO (bN p0 (bZ b1 (am 1) aJ (λ _ _=>rfl)) (d9 (aq bw (aq bw aL))) (by with_unfolding_all rfl)) (bA (b7 (am 1))) cZ)
  (bA (b7 (bW di (fU rh (am 1) h5 (d_ (mE mH aJ))) (d9 (aq (cK xE ao (by omega) rfl (aq (am 0) (aq (bZ b1 (am 1) (mE mH aJ) (λ _ _=>rfl)) aL))) aL))))))),?_⟩
 have a_:e0 a G G:=e0.refl c2
 cases aN with
 | is m hm=>exact bn.no rfl (bn.no rfl ⟨rfl,rfl,bn.yes rfl (be.of (q _ _ a_ (.same _)))⟩)
 | some=>exact bn.no rfl (bn.no rfl ⟨rfl,rfl,bn.yes rfl (be.of (q _ _ a_ (.same _)))⟩)
 | @both x y k1 k2 dA cT=>
  refine bn.no rfl (bn.no rfl ⟨rfl,rfl,bn.no rfl ⟨a,y,rfl,c2,k2,by simp only [D.bC,cc] at hd;omega,(qa hw).2 _ (by simp),λ d' au u t=>⟨dQ (show 2+1<=200000 by decide),be.of (q _ _ u (.both t))⟩⟩⟩)
 | @left x k1=>
  refine bn.no rfl (bn.no rfl ⟨rfl,rfl,bn.no rfl ⟨a,x,rfl,c2,k1,by simp only [D.bC,cc] at hd;omega,(qa hw).2 _ (by simp),λ d' au u t=>⟨dQ (show 1+1<=200000 by decide),be.of (q _ _ u (.left t))⟩⟩⟩)
 | @right x k1=>
  refine bn.no rfl (bn.no rfl ⟨rfl,rfl,bn.no rfl ⟨a,x,rfl,c2,k1,by simp only [D.bC,cc] at hd;omega,(qa hw).2 _ (by simp),λ d' au u t=>⟨dQ (show 1+1<=200000 by decide),be.of (q _ _ u (.right t))⟩⟩⟩)
 | @way ds k ae ap ag=>
  have ar:ds.length<=40:=(qa ((qa hw).2 (.tup ds) (by simp))).1;refine bn.yes rfl ⟨λ bu=>⟨c2,by decide,by decide,λ t aB cY t0 t1=>⟨λ bt=>?_,λ bt=>?_⟩⟩,λ bu=>⟨nofun,λ _=>?_⟩⟩
  ·have afP:=of_decide_eq_true bu;refine ⟨cY.fd,by omega,by omega,λ t bf du t0 t1=>?_⟩;obtain ⟨i,rfl⟩:=sJ t0;obtain ⟨xs,x,y,aD,rfl,mM⟩:=Z1 (ds:=ds) (t:=i) (by omega)
   have aC:cut (xs++x::y::aD) none (some (i:Int))=xs:=by rw [UZ (by rw [dE];omega),<- mM,List.take_left]
   have aG:cut (xs++x::y::aD) (some ((i:Int)+2)) none=aD:=by
    rw [show (i:Int)+2=((i+2:Nat):Int) by omega,Lq (by simp only [dE,bR];omega),<- mM,<- nf,yb];rfl
   have hN:(xs++x::y::aD)[i]?=some x:=by rw [sj (by omega),mM];simp
   have g1:(xs++x::y::aD)[i+1]?=some y:=by rw [sj (by omega),mM];simp
   have a1:gJ (xs++x::y::aD) ((i:Int)+1)=some y:=by
    rw [show (i:Int)+1=((i+1:Nat):Int) by omega];exact k4 g1
   refine NF a1 (NF (k4 hN) ?_)
   ·rw [aC];refine ⟨dQ (by simp only [dE,bR,eL] at *;omega),?_⟩;refine ⟨?_,?_⟩
    ·show (xs++[y,x]).length+(cut (xs++x::y::aD) (some ((i:Int)+2)) none).length<=sizeLine;rw [aG];exact dQ (by simp only [dE,bR,eL] at *;omega)
    ·show be ay (.tup [.str "way", .tup (xs++[y,x]++cut (xs++x::y::aD) (some ((i:Int)+2)) none),k]) bf;rw [aG,show xs++[y,x]++aD=xs++y::x::aD by simp];exact be.of (q _ _ (cY.trans du) (.swap xs x y aD k))
  ·exact ⟨rfl,rfl,bn.no rfl ⟨a,k,rfl,cY.fd,ag,by simp only [D.bC,cc] at hd;omega,(qa hw).2 _ (by simp),λ d' au kq t=>⟨dQ (show 2+1<=200000 by decide),be.of (q _ _ (cY.trans kq) (.way t))⟩⟩⟩
  ·exact ⟨rfl,rfl,bn.no rfl ⟨a,k,rfl,c2,ag,by simp only [D.bC,cc] at hd;omega,(qa hw).2 _ (by simp),λ d' au kq t=>⟨dQ (show 2+1<=200000 by decide),be.of (q _ _ kq (.way t))⟩⟩⟩
abbrev Gc:bP:=top 53
theorem uu:ek ["_law_text", "_law_told_here", "e", "_law_wrong"] ["_law_text"] (cb Gc):=⟨rfl,rfl,rfl,by decide +kernel,rfl,by decide +kernel,by decide +kernel⟩
theorem abI{n:Nat}(B:fN mg){cj jG bu bt d0 gq g7 OO OP:Addr}(Gd:lZ P w K mg base 6 "read_kind" ["text"] (iT K (Ek cj)))(Ge:wM K cj)(Bb:mg "NoText" = some (.ref cj))(uc:mg "BagError" = some (.ref jG))(Gf:mg "NoData" = some (.ref bu))(Gg:mg "NoName" = some (.ref bt))(Gh:mg "NoRoom" = some (.ref d0))(Gi:mg "NoRule" = some (.ref gq))(Gj:mg "NoPaper" = some (.ref g7))(Gk:mg "NoFit" = some (.ref OO))(Gl:mg "NoRow" = some (.ref OP))(Gm:lp K cj)(Bc:AC K cj "at")(abJ:i1 K (.ref cj) (.ref cj)=some true)
 (abK:Wp K (.ref cj) (.type "ValueError")=some true) (abL:Wp K (.ref cj) (.ref jG)=some true) (abM:PySem.W.kitAny K (.ref cj) [.ref bu,.ref bt,.ref d0,.ref gq,.ref g7,.ref OO,.ref OP]=some false) (F:dT K "_law_told" "_law_told" Gc f fd):da P w K mg base c6 9 f fd ["_law_text"] (bG K (EQ n)):=by
  refine gu (k:=8) F uu (λ ds G ay h=>?_) (λ bI A outer s H E ao ds G ay h=>?_)
  ·obtain ⟨_,rfl,_⟩:=h;rfl
  obtain ⟨z,rfl,ax,aH,q⟩:=h
  refine ⟨_,(bq (cX (k:=1) uu.bK rfl (Or.inl rfl) iu)
   (bq (Yw (i:=1) Gd ao (by omega) rfl (λ _=>(aq (am 0) aL)) (Yt (i:=2) rfl rfl rfl Ge rfl Bb uu.bK rfl rfl
    (λ afQ afR afS afT afU OQ xF xG=>(bq (cX (k:=3) uu.bK rfl (Or.inl rfl) (zj (c9 (Eb xG xF) rfl B.isinstance i2 (aq (am 2) (aq (d9 (aq (k8 (d:=.ref _) (v:=.ref _) rfl Gf rfl (λ _=>rfl)) (aq (k8 (d:=.ref _) (v:=.ref _) rfl Gg rfl (λ _=>rfl)) (aq (k8 (d:=.ref _) (v:=.ref _) rfl Gh rfl (λ _=>rfl)) (aq (k8 (d:=.ref _) (v:=.ref _) rfl Gi rfl (λ _=>rfl)) (aq (k8 (d:=.ref _) (v:=.ref _) rfl Gj rfl (λ _=>rfl)) (aq (k8 (d:=.ref _) (v:=.ref _) rfl Gk rfl (λ _=>rfl)) (aq (k8 (d:=.ref _) (v:=.ref _) rfl Gl rfl (λ _=>rfl)) aL)))))))) aL))) (mF (vV (c9 (Eb xG xF) rfl B.isinstance i2 (aq (am 2) (aq (k8 (d:=.ref _) (v:=.ref _) rfl uc rfl (λ _=>rfl)) aL)))))))
   (bA (cX (k:=1) uu.bK rfl (Or.inl rfl) (d9 (aq bw (aq (Mz (i:=2) xG OQ xF rfl (Or.inl rfl)) (aq (zj (am 3) (zj (vV (c9 (Eb xG xF) rfl B.isinstance i2 (aq (am 2) (aq (j1 rfl B.ValueError L2.Z_) aL)))) (mF (c9 kH rfl B.isinstance i2 (aq (Mz (i:=2) xG OQ xF rfl (Or.inl rfl)) (aq (j1 rfl B.bool PyProof.Rows.boot_bool) aL)))))) aL))))))))
    Ys) uu.bK rfl (Or.inl rfl))
   (bA (b7 (am 1))))),?_⟩
  obtain ⟨ae,ag,aR,bB,el⟩:=ax;obtain ⟨t1,dz⟩:=NA aH;refine ⟨z,rfl,ae,ag,aR,bB,el,λ d e k=>?_,λ e=>?_⟩
  ·rw [t1 d e k] at q;exact be.of q
  ·rw [dz e] at q;refine ⟨true,abJ,λ _=>⟨Gm,λ a _=>D1 abM ⟨nofun,λ _=>D1 abL ?_⟩⟩,λ c=>(by cases c)⟩;exact ⟨rfl,Bc,.int 0,rfl,⟨λ c=>(by cases c),λ _=>D1 abK ⟨λ c=>(by cases c),λ _=>⟨rfl,Bc,.int 0,rfl,false,rfl,be.of q⟩⟩⟩⟩
abbrev uv:bP:=top 54
theorem l7:ek ["_law_script", "_law_k", "_law_feed_here", "_law_kind_here", "_law_text", "_law_bad", "_law_turn", "_law_due"] ["_law_script"] (cb uv):=⟨rfl,rfl,rfl,by decide +kernel,rfl,by decide +kernel,by decide +kernel⟩
theorem abN(B:fN mg)(Gn:Got P w K mg base 1 "_law_feed" ["_law_script", "_law_k"] (bG K wj))(eA:Got P w K mg base 1 "_law_take" ["_law_feed_here", "_law_many"] (bG K lU))(Gp:Got P w K mg base 13 "_law_any_kind" ["_law_feed_here"] (bG K t_))(o_:Got P w K mg base 122 "_law_shown" ["_law_kind_here"] (bG K (wE 121)))(xE:Got P w K mg base 123 "_law_turned" ["_law_feed_here", "_law_kind_here"] (bG K (xg 121)))(Gq:Got P w K mg base 2 "_law_otherwise" ["_law_feed_here", "_law_text"] (bG K ER))(Gr:Got P w K mg base 126 "_law_read" ["_law_text"] (bG K (EP 61)))(Bd:Got P w K mg base 9 "_law_told" ["_law_text"] (bG K (EQ 61)))(xn:Got P w K mg base 122 "_law_alike" ["_law_found", "_law_due"] (bG K (wF 121)))(F:dT K "law" "law" uv f fd):da P w K mg base c6 130 f fd ["_law_script"] (bG K J9):=by
 refine gu (k:=129) F l7 (λ ds G ay h=>?_) (λ bI A outer s H E ao ds G ay h=>?_)
 ·obtain ⟨_,rfl,_⟩:=h;rfl
 obtain ⟨ns,rfl,ar,q⟩:=h
 refine ⟨_,(bq (wb PassesOwn.never rfl (Uq rfl B.range (aq aJ (aq (c9 (JE rfl) rfl B.max PyProof.Rows.boot_max (aq aJ (aq (c9 (JF rfl) rfl B.min PyProof.Rows.boot_min (aq aJ (aq (c9 fA rfl B.len fw (aq (am 0) aL)) aL))) aL))) aL))) (jv (k:=1) l7.bK rfl (Or.inl rfl)) (bq (cX (k:=2) l7.bK rfl (Or.inl rfl) (cK Gn ao (by omega) rfl (aq (am 0) (aq (am 1) aL))))
  (bq (cX (k:=3) l7.bK rfl (Or.inl rfl) (cK Gp ao (by omega) rfl (aq (am 2) aL)))
  (bq (cX (k:=4) l7.bK rfl (Or.inl rfl) (cK o_ ao (by omega) rfl (aq (am 3) aL)))
  (bq (cX (k:=5) l7.bK rfl (Or.inl rfl) (cK o_ ao (by omega) rfl (aq (cK xE ao (by omega) rfl (aq (am 2) (aq (am 3) aL))) aL)))
  (bq (cO (bN nH (cK eA ao (by omega) rfl (aq (am 2) (aq aJ aL))) aJ (bH _)) (bq (cX (k:=5) l7.bK rfl (Or.inl rfl) (am 4))
  (bA (wb PassesOwn.never rfl (zy rfl B.range (aq (cK eA ao (by omega) rfl (aq (am 2) (aq aJ aL))) aL)) (jv (k:=6) l7.bK rfl (Or.inl rfl)) (bA (cX (k:=5) l7.bK rfl (Or.inl rfl) (cK Gq ao (by omega) rfl (aq (am 2) (aq (am 5) aL)))))))) cZ)
  (bq (cO (bN (dK (cf ao)) (cK eA ao (by omega) rfl (aq (am 2) (aq aJ aL))) aJ (bH _)) (bA (cX (k:=5) l7.bK rfl (Or.inl rfl) bw)) cZ)
  (bq (cX (k:=7) l7.bK rfl (Or.inl rfl) (cK Gr ao (by omega) rfl (aq (am 5) aL)))
  (bq (cO (bN rg (am 7) iu (bH _)) (bA (cX (k:=7) l7.bK rfl (Or.inl rfl) (d9 (aq bw (aq aJ (aq pV aL)))))) cZ)
  (bA (cO (eZ.at (h4 (bN (je (cf ao)) (cK Bd ao (by omega) rfl (aq (am 5) aL)) (am 7) (bH _)) (j3 (pY (kD (cK xn ao (by omega) rfl (aq (cK Bd ao (by omega) rfl (aq (am 4) aL)) (aq (am 3) aL)))))))) (bA (b7 pV)) cZ)))))))))))
  (bA (b7 pV))),?_⟩
 refine Up (by decide) (by dsimp only;split<;>split<;>omega) ?_;refine ⟨λ i ρ au=>∃(dA cT eE d1 fZ lv r9:Option D),ρ=[some (.d7 (ns.map D.int)),dA,cT,eE,d1,fZ,lv,r9],⟨_,_,_,_,_,_,_,rfl⟩,λ _ _ _ _ _=>trivial,?_,?_⟩
 ·rintro i d ρ au abO ⟨dA,cT,eE,d1,fZ,lv,r9,rfl⟩;obtain ⟨av,rfl⟩:=zw abO
  have afV:i < 100:=by
   refine hX av ?_
   dsimp only;split<;>split<;>omega
  refine ⟨ns,rfl,ar,by omega,by omega,λ a afW afX ax=>?_⟩;refine ⟨a,rfl,.up,λ gP aB g8 cG ua eK=>?_⟩;obtain ⟨x,bL,o6⟩:=ua.o6 eK.eW;have bs:=eK.eW;have bd:=eK.bC;refine ⟨gP,x,rfl,bL,by omega,by omega,?_⟩;refine ⟨a,gP,rfl,g8.fd,cG,by omega,eK.h7,λ abP bf du gI=>?_⟩;obtain ⟨afY,afZ⟩:=gI.eW;obtain ⟨wu,I0,abQ⟩:=(gI.ua ua).o6 (by omega);refine ⟨abP,wu,rfl,I0,by omega,by omega,?_⟩;have uw:f6 3 (txt x).cps.toList:=o6.mono (by omega)
  have b6:(("" : String):Str).cps.toList=[]:=by decide
  refine ⟨du.fd,by decide,by decide,λ t em gB t0 t1=>⟨λ c=>?B,λ c=>?A⟩⟩
  case' A=>
   have hz:f6 3 (txt wu).cps.toList:=abQ.mono (by omega);have ut:=gB.fd
  case' B=>
   refine ⟨gB.fd,by decide,by decide,λ m hL jF m0 ei=>zx (by omega) ?_⟩;refine ⟨λ j ρ eo=>∃(z:Str)(lv r9:Option D),ρ=[some (.d7 (ns.map D.int)),some (.int (1+(i:Int))),some (.ref a),some gP,some (.str (txt x)),some (.str z),lv,r9]/\h6 eo a/\f6 j z.cps.toList,⟨_,_,_,rfl,jF.fd,o6⟩,λ _ _ _ _ _=>trivial,?turn,?fin⟩
  case turn=>
   rintro j y ρ eo bv ⟨z,lv,r9,rfl,ut,hz⟩;have cD:=(zw bv).1;exact ⟨a,z,j,rfl,ut,hz,by omega,λ fQ af0 u8 q5=>fV.of ⟨fQ,_,_,rfl,u8.fd,q5⟩⟩
  case' fin=>
   rintro ρ eo ⟨z,lv,r9,rfl,ut,OR⟩;have kJ:(⟨j5 0 m.toNat,λ _=>True⟩:kE).items.length=m.toNat:=ri;rw [kJ] at OR;have hz:=OR.mono (k:=3) (by omega)
  case A | fin=>
   refine ⟨ut,by decide,by decide,λ t kG af1 t0 t1=>⟨λ c=>?b6,λ c=>?aC⟩⟩
   case' b6=>
    have m3:f6 3 (("" : String):Str).cps.toList:=by rw [b6];exact Z3.mono (by omega)
   case' aC=>
    have m3:=hz
   case b6 | aC=>
    refine ⟨_,rfl,by have:=m3.len;rw [fO] at this;exact gF this (by omega),m3.ok,m3.low,?_⟩;obtain ⟨qs,gc⟩:=Z4 m3.ask m3.low;rcases Z5 m3.low with ⟨aC,aG⟩ | ⟨es,aC,aG⟩
    ·rw [aC];rw [aG] at qs gc;refine bn.yes rfl ⟨_,rfl,m3.ask,m3.low,?_⟩;rw [aG];refine ⟨qs,qs,gc,bn.no (by show (!(cm _ _))=false;rw [nJ qs];rfl) ⟨_,rfl,uw.ask,uw.low,?_⟩⟩;rw [show l3 (cU 61 (txt x).cps.toList)=gP from NG bL cG.gP uw.low];exact ⟨gP,rfl,cG.e9.ad,by omega,eK.h7,⟨λ c=>(by cases c),λ _=>fV.of ⟨_,_,_,_,_,_,_,rfl⟩⟩⟩
    ·rw [aC];rw [aG] at qs gc;refine bn.no rfl ⟨_,rfl,m3.ask,m3.low,?_⟩;rw [aG];refine ⟨qs,qs,gc,bn.no (by show (!(cm _ _))=false;rw [nJ qs];rfl) ⟨_,rfl,uw.ask,uw.low,?_⟩⟩;rw [show l3 (cU 61 (txt x).cps.toList)=gP from NG bL cG.gP uw.low];exact ⟨gP,rfl,cG.e9.ad,by omega,eK.h7,⟨λ c=>(by cases c),λ _=>fV.of ⟨_,_,_,_,_,_,_,rfl⟩⟩⟩
 ·rintro ρ au ⟨dA,cT,eE,d1,fZ,lv,r9,rfl⟩;exact be.of (q _)
end
set_option maxHeartbeats 4000000
theorem aI9q{l:PySem.W.OpenLaw}{w:b8}{K:aX}{h:bE}{mg:Str->Option Value}{fa  : Addr}(X:K.In h)(G:h.Ns eh mg)(abR:mg "law" = some (.ref fa))
 (hM:DT K "flat" E6) (eS:DT K "is_whole_number" E1) (fC:DT K "is_kind" Fd) (lX:DT K "has_kind_form" E3) (oD:DT K "has_answer_word" E2) (q9:DT K "inner_kinds" E5) (abS:DT K "is_sorted" E_) (abT:DT K "pieces_of" Fo) (abU:DT K "is_whole_text" Fk) (abV:DT K "made_of" Fj) (abW:DT K "read_kind" FF) (abX:DT K "read_piece" Fs) (abY:DT K "kind_closed" Fx) (abZ:DT K "way_closed" FA) (ab0:DT K "pair_closed" Fw) (ab1:DT K "_law_feed" EZ) (ab2:DT K "_law_take" EX) (ab3:DT K "_law_number" Fn) (ab4:DT K "_law_answer_kind" FY) (ab5:DT K "_law_kind" F1) (ab6:DT K "_law_long" F4) (ab7:DT K "_law_any_kind" F5) (ab8:DT K "_law_shown" Fp) (ab9:DT K "_law_alike" Fr) (aca:DT K "_law_number_at" FN) (acb:DT K "_law_bag_at" FQ) (acd:DT K "_law_pair_at" FR) (ace:DT K "_law_kind_at" FU) (acf:DT K "_law_read" F7) (acg:DT K "_law_otherwise" F8) (ach:DT K "_law_turned" Ga) (aci:DT K "_law_told" Gc) (acj:DT K "law" uv) (D5:fj K eh "len" = some none) (cI:fj K eh "isinstance" = some none) (b9:fj K eh "range" = some none) (gZ:fj K eh "int" = some none) (pR:fj K eh "bool" = some none) (Du:fj K eh "str" = some none) (ack:fj K eh "tuple" = some none) (acl:fj K eh "list" = some none) (acm:fj K eh "sorted" = some none) (vI:fj K eh "all" = some none) (acn:fj K eh "reversed" = some none) (aco:fj K eh "min" = some none) (acp:fj K eh "max" = some none) (acq:fj K eh "enumerate" = some none) (acr:fj K eh "zip" = some none) (acs:fj K eh "ValueError" = some none)
 {h2:Tok} (ti0:fj K eh "ITEM" = some (some (.int 1 h2)))
 {aZ:Tok} (te0:fj K eh "END" = some (some (.int 0 aZ)))
 {Ft:Tok} (tm0:fj K eh "MOST_FIGURES" = some (some (.int 12 Ft)))
 {act:Tok} (tf0:fj K eh "FIGURES" = some (some (.str jz act)))
 {d4:Tok} (ts0:fj K eh "SIGNS" = some (some (.str tD d4)))
 {jG OS:Addr} {r6:Array pk} {AY:Nat} {EU:Array (Option Value)} {tN EV:Value} {gc EW:Option Addr} {Gs:kh} {hq:Array (Option Value)}
 (cB_0:fj K eh "BagError" = some (some (.ref jG)))
  (x4:kl jG K=some ⟨tN,gc,.cls Gs,hq⟩)
  (x5:Gs.ns=OS)
  (x6:kl OS K=some ⟨EV,EW,.dict r6 AY,EU⟩)
  (x7:AW r6=true)
 (cB_cl:lD K jG=some Gs)
 (cB_ty:nj K (.ref jG)=some (.type "type"))
 (cB_be:i1 K (.ref jG) (.type "BaseException")=some true)
 (cB_hg:ys K (.ref jG) "__getattribute__" = some (some (.builtin "type.__getattribute__")))
 (cB_hr:PySem.W.readsIn K jG (.type "type")=true)
 (cB_hf:PySem.W.findCls K (.ref jG) (.type "type") "__init__" = some (.val (.builtin "ValueError.__init__")))
 (e3:ys K (.builtin "object.__class__") "__get__" = some (some (.builtin "getset_descriptor.__get__")))
 (e4:PySem.W.takesIn K (.builtin "object.__class__")=some true)
  {cj OT Gu:Addr} {acu acv:Str} {acw:List Value} {acx:Bool} {acy:List Str} {acz:List Value} {acA:Bool} {acB:Option Bool} {acC:Option Addr} {acD acE acF acG acH:Option Value} {acI:Value} {acJ:Option Addr} {Gv:Array pk} {acK:Nat} {acL:Array (Option Value)} {acM acN:Option Addr} {acO acP acQ OU acR:Value} {acS:Array (Option Value)} {Gw:kh}
 (cT_0:fj K eh "NoText" = some (some (.ref cj)))
  (cT_1:kl cj K=some (sa acu acv cj OT acw (.ref jG::ET) acx acy acz acA acB acC acD acE acF acG acH "ValueError.__new__"))
  (cT_2:kl OT K=some ⟨acI,acJ,.dict Gv acK,acL⟩)
  (cT_3:AX Gv=true)
  (cT_8:PySem.nsFind Gv "__init__" = some (.ref Gu))
  (cT_9:kl Gu K=some ⟨.type "function", acM,.func (ni "__init__" "NoText.__init__" (nE xi) (jb xi) (cb xi) .none acO acP acQ acN OU acR),acS⟩)
 (cT_c:sE K OU "NoText.__init__" = true)
 (cT_k:lC K (.ref Gu)=true)
 (cT_p:lC K (.ref cj)=true)
 (cT_sa:nh K (.ref cj) "__setattr__" = some (some (.builtin "object.__setattr__")))
 (cT_cl:lD K cj=some Gw)
  (cT_mr:Gw.mro=.ref cj::.ref jG::Ar)
  (cT_hd:Gw.hasDict=true)
 (cT_na:nh K (.ref cj) "at" = some none)
 (cT_ty:nj K (.ref cj)=some (.type "type"))
 (cT_be:i1 K (.ref cj) (.type "BaseException")=some true)
 (cT_e0:nh K (.ref cj) "__getattribute__" = some (some (.builtin "BaseException.__getattribute__")))
 (cT_e1:nh K (.ref cj) "__getattr__" = some none)
 (cT_e2:nh K (.ref cj) "__class__" = some (some (.builtin "object.__class__")))
 (cT_e5:PySem.W.mroIn K cj (.type "object")=some true)
 (s_cT_cT:i1 K (.ref cj) (.ref cj)=some true)
 (s_cT_cB:i1 K (.ref cj) (.ref jG)=some true)
 (s_cT_VE:i1 K (.ref cj) (.type "ValueError")=some true)
  (d_cT_cB:(cj==jG)=false)
  {o0:Addr} {acT:kh}
 (y00:fj K eh "NoData" = some (some (.ref o0)))
 (y01:lD K o0=some acT)
 (y02:nj K (.ref o0)=some (.type "type"))
 (y03:i1 K (.ref cj) (.ref o0)=some false)
  (y04:(cj==o0)=false)
  {dA:Addr} {acU:kh}
 (y10:fj K eh "NoName" = some (some (.ref dA)))
 (y11:lD K dA=some acU)
 (y12:nj K (.ref dA)=some (.type "type"))
 (y13:i1 K (.ref cj) (.ref dA)=some false)
  (y14:(cj==dA)=false)
  {cT:Addr} {acV:kh}
 (y20:fj K eh "NoRoom" = some (some (.ref cT)))
 (y21:lD K cT=some acV)
 (y22:nj K (.ref cT)=some (.type "type"))
 (y23:i1 K (.ref cj) (.ref cT)=some false)
  (y24:(cj==cT)=false)
  {eE:Addr} {acW:kh}
 (y30:fj K eh "NoRule" = some (some (.ref eE)))
 (y31:lD K eE=some acW)
 (y32:nj K (.ref eE)=some (.type "type"))
 (y33:i1 K (.ref cj) (.ref eE)=some false)
  (y34:(cj==eE)=false)
  {d1:Addr} {acX:kh}
 (y40:fj K eh "NoPaper" = some (some (.ref d1)))
 (y41:lD K d1=some acX)
 (y42:nj K (.ref d1)=some (.type "type"))
 (y43:i1 K (.ref cj) (.ref d1)=some false)
  (y44:(cj==d1)=false)
  {fZ:Addr} {acY:kh}
 (y50:fj K eh "NoFit" = some (some (.ref fZ)))
 (y51:lD K fZ=some acY)
 (y52:nj K (.ref fZ)=some (.type "type"))
 (y53:i1 K (.ref cj) (.ref fZ)=some false)
  (y54:(cj==fZ)=false)
  {lv:Addr} {acZ:kh}
 (y60:fj K eh "NoRow" = some (some (.ref lv)))
 (y61:lD K lv=some acZ)
 (y62:nj K (.ref lv)=some (.type "type"))
 (y63:i1 K (.ref cj) (.ref lv)=some false)
  (y64:(cj==lv)=false)
  : ∃ fd:gD,(∀(s:aE)(v:Value),sb s fd ⟨[v],[]⟩ [("_law_script", v)])/\∀ base:bE,K.In base->base.Ns eh mg->da l.prog w K mg base c6 130 fa fd ["_law_script"] (zL K):=by
  obtain ⟨f0,_,ac0,Gx⟩:=hM.ok
  have ac1:=Gx.binds (ps:=NJ) λ _ _ _ _ _ _ us ar=>match us,ar with | [_],_=>rfl
  have ac2:=dX X G ac0;have ac3:=Gx.dr;obtain ⟨f1,_,ac4,Gy⟩:=eS.ok
  have ac5:=Gy.binds (ps:=NK) λ _ _ _ _ _ _ us ar=>match us,ar with | [_],_=>rfl
  have ac6:=dX X G ac4;have ac7:=Gy.dr;obtain ⟨f2,_,ac8,Gz⟩:=fC.ok
  have ac9:=Gz.binds (ps:=NL) λ _ _ _ _ _ _ us ar=>match us,ar with | [_],_=>rfl
  have ada:=dX X G ac8;have adb:=Gz.dr;obtain ⟨cV,_,adc,GA⟩:=lX.ok
  have ade:=GA.binds (ps:=NM) λ _ _ _ _ _ _ us ar=>match us,ar with | [_],_=>rfl
  have adf:=dX X G adc;have adg:=GA.dr;obtain ⟨f4,_,adh,GB⟩:=oD.ok
  have adi:=GB.binds (ps:=NN) λ _ _ _ _ _ _ us ar=>match us,ar with | [_],_=>rfl
  have adj:=dX X G adh;have adk:=GB.dr;obtain ⟨eI,_,adl,GC⟩:=q9.ok
  have adn:=GC.binds (ps:=NO) λ _ _ _ _ _ _ us ar=>match us,ar with | [_],_=>rfl
  have ado:=dX X G adl;have adp:=GC.dr;obtain ⟨qb,_,adq,GD⟩:=abS.ok
  have adr:=GD.binds (ps:=NP) λ _ _ _ _ _ _ us ar=>match us,ar with | [_],_=>rfl
  have ads:=dX X G adq;have adt:=GD.dr;obtain ⟨lr,_,adu,GE⟩:=abT.ok
  have adv:=GE.binds (ps:=NQ) λ _ _ _ _ _ _ us ar=>match us,ar with | [_,_],_=>rfl
  have adw:=dX X G adu;have adx:=GE.dr;obtain ⟨f8,_,ady,GF⟩:=abU.ok
  have adz:=GF.binds (ps:=NR) λ _ _ _ _ _ _ us ar=>match us,ar with | [_,_],_=>rfl
  have adA:=dX X G ady;have adB:=GF.dr;obtain ⟨qc,_,adC,GG⟩:=abV.ok
  have adD:=GG.binds (ps:=NS) λ _ _ _ _ _ _ us ar=>match us,ar with | [_,_],_=>rfl
  have adE:=dX X G adC;have adF:=GG.dr;obtain ⟨af2,_,adG,GH⟩:=abW.ok
  have adH:=GH.binds (ps:=NT) λ _ _ _ _ _ _ us ar=>match us,ar with | [_],_=>rfl
  have adI:=dX X G adG;have adJ:=GH.dr;obtain ⟨af3,_,adK,GI⟩:=abX.ok
  have adL:=GI.binds (ps:=NU) λ _ _ _ _ _ _ us ar=>match us,ar with | [_],_=>rfl
  have adM:=dX X G adK;have adN:=GI.dr;obtain ⟨af4,_,adO,GJ⟩:=abY.ok
  have adP:=GJ.binds (ps:=NV) λ _ _ _ _ _ _ us ar=>match us,ar with | [_,_],_=>rfl
  have adQ:=dX X G adO;have adR:=GJ.dr;obtain ⟨af5,_,adS,GK⟩:=abZ.ok
  have adT:=GK.binds (ps:=NW) λ _ _ _ _ _ _ us ar=>match us,ar with | [_],_=>rfl
  have adU:=dX X G adS;have adV:=GK.dr;obtain ⟨af6,_,adW,GL⟩:=ab0.ok
  have adX:=GL.binds (ps:=NX) λ _ _ _ _ _ _ us ar=>match us,ar with | [_],_=>rfl
  have adY:=dX X G adW;have adZ:=GL.dr;obtain ⟨af7,_,ad0,GM⟩:=ab1.ok
  have ad1:=GM.binds (ps:=NY) λ _ _ _ _ _ _ us ar=>match us,ar with | [_,_],_=>rfl
  have ad2:=dX X G ad0;have ad3:=GM.dr;obtain ⟨af8,_,ad4,GN⟩:=ab2.ok
  have ad5:=GN.binds (ps:=NZ) λ _ _ _ _ _ _ us ar=>match us,ar with | [_,_],_=>rfl
  have ad6:=dX X G ad4;have ad7:=GN.dr;obtain ⟨af9,_,ad8,GO⟩:=ab3.ok
  have ad9:=GO.binds (ps:=N0) λ _ _ _ _ _ _ us ar=>match us,ar with | [_],_=>rfl
  have aea:=dX X G ad8;have aeb:=GO.dr;obtain ⟨OV,_,aec,GP⟩:=ab4.ok
  have OW:=GP.binds (ps:=N1) λ _ _ _ _ _ _ us ar=>match us,ar with | [_,_],_=>rfl
  have OX:=dX X G aec;have OY:=GP.dr;obtain ⟨OZ,_,aed,GQ⟩:=ab5.ok
  have O0:=GQ.binds (ps:=N2) λ _ _ _ _ _ _ us ar=>match us,ar with | [_,_],_=>rfl
  have O1:=dX X G aed;have kp_kind:=GQ.dr;obtain ⟨aga,_,aee,GR⟩:=ab6.ok
  have aef:=GR.binds (ps:=N3) λ _ _ _ _ _ _ us ar=>match us,ar with | [_],_=>rfl
  have aeg:=dX X G aee;have aeh:=GR.dr;obtain ⟨agb,_,aei,GS⟩:=ab7.ok
  have aej:=GS.binds (ps:=N4) λ _ _ _ _ _ _ us ar=>match us,ar with | [_],_=>rfl
  have aek:=dX X G aei;have ael:=GS.dr;obtain ⟨O2,_,aem,GT⟩:=ab8.ok
  have O3:=GT.binds (ps:=N5) λ _ _ _ _ _ _ us ar=>match us,ar with | [_],_=>rfl
  have O4:=dX X G aem;have O5:=GT.dr;obtain ⟨O6,_,aen,GU⟩:=ab9.ok
  have O7:=GU.binds (ps:=N6) λ _ _ _ _ _ _ us ar=>match us,ar with | [_,_],_=>rfl
  have O8:=dX X G aen;have O9:=GU.dr;obtain ⟨agc,_,aeo,GV⟩:=aca.ok
  have aep:=GV.binds (ps:=N7) λ _ _ _ _ _ _ us ar=>match us,ar with | [_,_],_=>rfl
  have aeq:=dX X G aeo;have aer:=GV.dr;obtain ⟨aes,_,aet,GW⟩:=acb.ok
  have aeu:=GW.binds (ps:=N8) λ _ _ _ _ _ _ us ar=>match us,ar with | [_,_],_=>rfl
  have aev:=dX X G aet;have aew:=GW.dr;obtain ⟨aex,_,aey,GX⟩:=acd.ok
  have aez:=GX.binds (ps:=N9) λ _ _ _ _ _ _ us ar=>match us,ar with | [_,_],_=>rfl
  have aeA:=dX X G aey;have aeB:=GX.dr;obtain ⟨O_,_,aeC,GY⟩:=ace.ok
  have Pa:=GY.binds (ps:=N_) λ _ _ _ _ _ _ us ar=>match us,ar with | [_,_],_=>rfl
  have Pb:=dX X G aeC;have Pc:=GY.dr;obtain ⟨agd,_,aeD,GZ⟩:=acf.ok
  have aeE:=GZ.binds (ps:=Oa) λ _ _ _ _ _ _ us ar=>match us,ar with | [_],_=>rfl
  have aeF:=dX X G aeD;have aeG:=GZ.dr;obtain ⟨age,_,aeH,G0⟩:=acg.ok
  have aeI:=G0.binds (ps:=Ob) λ _ _ _ _ _ _ us ar=>match us,ar with | [_,_],_=>rfl
  have aeJ:=dX X G aeH;have aeK:=G0.dr;obtain ⟨Pd,_,aeL,G1⟩:=ach.ok
  have Pe:=G1.binds (ps:=Oc) λ _ _ _ _ _ _ us ar=>match us,ar with | [_,_],_=>rfl
  have Pf:=dX X G aeL;have Pg:=G1.dr;obtain ⟨agf,_,aeM,G2⟩:=aci.ok
  have aeN:=G2.binds (ps:=Od) λ _ _ _ _ _ _ us ar=>match us,ar with | [_],_=>rfl
  have aeO:=dX X G aeM;have aeP:=G2.dr
  have B:fN mg:=⟨jp X G D5,jp X G cI,jp X G b9,jp X G gZ,jp X G pR,jp X G Du,jp X G ack,jp X G acl,jp X G acm,jp X G vI,jp X G acn,jp X G aco,jp X G acp,jp X G acq,jp X G acr,jp X G acs⟩
  obtain ⟨agg,_,aeQ,Ph⟩:=acj.ok;cases abR.symm.trans (dX X G aeQ);obtain ⟨_,_,gG,aeR,pm,an,cd,ct,_,rfl,agh,agi⟩:=Ph.ex;refine ⟨ni "law" "law" (nE uv) (jb uv) (cb uv) .none gG aeR pm an cd ct,λ s v=>.of_eq rfl,λ base _ _ =>?_⟩;have E7:=dX X G ti0;have E8:=dX X G te0;have Fu:=dX X G tm0;have Fl:=dX X G tf0;have FG:=dX X G ts0;have uc:=dX X G cB_0
  have o2:Au K jG:=⟨cB_hg,cB_hr,cB_hf⟩
  have Bb:=dX X G cT_0;have Pi:=aad cT_1 cT_2 cT_3 cT_8 cT_9 x4 x5 x6 x7
  have aeS:As K cj "at":=⟨cT_sa,⟨_,_,cT_cl,cT_mr,cT_hd⟩,aai cT_na⟩
  have Pj:=Ir cT_9 cT_c cT_k
  have aeT:=Pj.binds (ps:=aaj) λ _ _ _ _ _ _ us ar=>match us,ar with | [_,_],_=>rfl
  have jm:rS l.prog w K mg base 1 "NoText" cj "at":=⟨⟨_,_,_,Pi,aal Pi o2 aeS uc Pj,Bb,cT_p,aeT⟩⟩
  have Ge:wM K cj:=⟨cT_ty,⟨_,_,_,_,cT_1⟩,cT_be⟩
  have Gm:lp K cj:=⟨cT_e0,cT_e1,cT_e2,e3,e4,cT_e5,cT_be,by rw [cT_cl];rfl⟩
  have Bc:AC K cj "at":=⟨⟨_,cT_cl,cT_hd⟩,cT_na⟩
  have Gf:=dX X G y00;have Gg:=dX X G y10;have Gh:=dX X G y20;have Gi:=dX X G y30;have Gj:=dX X G y40;have Gk:=dX X G y50;have Gl:=dX X G y60
  have E4:Got l.prog w K mg base 1 "is_whole_number" NK (bG K Dm):=⟨_,_,aap B Gy,ac6,ac7,ac5⟩
  have AZ:Got l.prog w K mg base 1 "has_answer_word" NN (bG K Dn):=⟨_,_,aar B GB,adj,adk,adi⟩
  have Fe:Got l.prog w K mg base 2 "has_kind_form" NM (bG K Do):=⟨_,_,aat B E4 AZ GA,adf,adg,ade⟩
  have Ff:Got l.prog w K mg base 1 "inner_kinds" NO (bG K Dp):=⟨_,_,aaw B GC,ado,adp,adn⟩
  have Fa:Got l.prog w K mg base 1 "flat" NJ (bG K Dq):=⟨_,_,aax B E7 E8 Gx,ac2,ac3,ac1⟩
  have Fg:Got l.prog w K mg base 2 "is_sorted" NP (bG K Dr):=⟨_,_,aaA B Fa GD,ads,adt,adr⟩
  have FK:Got l.prog w K mg base 3 "is_kind" NL (bG K Ds):=⟨_,_,aaC B Fe Ff Fg Gz,ada,adb,ac9⟩
  have Fm:Got l.prog w K mg base 1 "made_of" NS (bG K Dw):=⟨_,_,aaJ B GG,adE,adF,adD⟩
  have Fv:Got l.prog w K mg base 2 "is_whole_text" NR (bG K DU):=⟨_,_,aaK B Fl Fm GF,adA,adB,adz⟩
  have FH:Got l.prog w K mg base 1 "pieces_of" NQ (bG K DV):=⟨_,_,aaN B GE,adw,adx,adv⟩
  have FJ:lZ l.prog w K mg base 3 "read_piece" NU (iT K (Ed cj)):=⟨⟨_,_,aaW B jm Fu Fv GI,adM,adN,adL⟩⟩
  have Fy:lZ l.prog w K mg base 3 "way_closed" NW (iT K (Ee cj)):=⟨⟨_,_,aa1 B jm GK,adU,adV,adT⟩⟩
  have Fz:lZ l.prog w K mg base 3 "pair_closed" NX (iT K (Ef cj)):=⟨⟨_,_,aaY B jm GL,adY,adZ,adX⟩⟩
  have FI:lZ l.prog w K mg base 4 "kind_closed" NV (iT K (Eg cj)):=⟨⟨_,_,aa0 jm Fy Fz GJ,adQ,adR,adP⟩⟩
  have Gd:lZ l.prog w K mg base 6 "read_kind" NT (iT K (Ek cj)):=⟨⟨_,_,aa4 B jm FG FH FI FJ FK GH,adI,adJ,adH⟩⟩
  have Gn:Got l.prog w K mg base 1 "_law_feed" NY (bG K wj):=⟨_,_,aan B GM,ad2,ad3,ad1⟩
  have eA:Got l.prog w K mg base 1 "_law_take" NZ (bG K lU):=⟨_,_,aam GN,ad6,ad7,ad5⟩
  have F0:Got l.prog w K mg base 2 "_law_number" N0 (bG K DS):=⟨_,_,aaM B eA GO,aea,aeb,ad9⟩
  have uq:∀ n:Nat,Got l.prog w K mg base (n+2) "_law_answer_kind" N1 (bG K (xf n)):=λ n=>by
   induction n with
   | zero=>exact ⟨OV,_,abl,OX,OY,OW⟩
   | succ n aO=>exact ⟨OV,_,abm B eA F0 aO GP,OX,OY,OW⟩
  have l6:∀ n:Nat,Got l.prog w K mg base (n+7) "_law_kind" N2 (bG K (t9 n)):=λ n=>by
   induction n with
   | zero=>exact ⟨OZ,_,abn,O1,kp_kind,O0⟩
   | succ n aO=>exact ⟨OZ,_,abo B eA (uq 3) aO GQ,O1,kp_kind,O0⟩
  have F6:Got l.prog w K mg base 12 "_law_long" N3 (bG K t_):=⟨_,_,abq B eA (l6 4) GR,aeg,aeh,aef⟩
  have Gp:Got l.prog w K mg base 13 "_law_any_kind" N4 (bG K t_):=⟨_,_,abB B eA (l6 4) F6 GS,aek,ael,aej⟩
  have o_:∀ n:Nat,Got l.prog w K mg base (n+1) "_law_shown" N5 (bG K (wE n)):=λ n=>by
   induction n with
   | zero=>exact ⟨O2,_,aaO,O4,O5,O3⟩
   | succ n aO=>exact ⟨O2,_,aaP B aO GT,O4,O5,O3⟩
  have xn:∀ n:Nat,Got l.prog w K mg base (n+1) "_law_alike" N6 (bG K (wF n)):=λ n=>by
   induction n with
   | zero=>exact ⟨O6,_,aaS,O8,O9,O7⟩
   | succ n aO=>exact ⟨O6,_,aaT B aO GU,O8,O9,O7⟩
  have FV:Got l.prog w K mg base 1 "_law_number_at" N7 (bG K Es):=⟨_,_,aa7 B GV,aeq,aer,aep⟩
  have pb:∀ n:Nat,Got l.prog w K mg base (2 * n+3) "_law_kind_at" N_ (bG K (l2 (cU n) n)):=λ n=>by
   induction n with
   | zero=>exact ⟨O_,_,abj,Pb,Pc,Pa⟩
   | succ n aO=>
    have FW:Got l.prog w K mg base (2 * n+4) "_law_bag_at" N8 (bG K (l2 (t2 n) n)):=⟨aes,_,abb B aO GW,aev,aew,aeu⟩
    have FX:Got l.prog w K mg base (2 * n+4) "_law_pair_at" N9 (bG K (l2 (t3 n) n)):=⟨aex,_,abh B aO GX,aeA,aeB,aez⟩
    exact ⟨O_,_,abk FV FW FX GY,Pb,Pc,Pa⟩
  have Gr:Got l.prog w K mg base 126 "_law_read" Oa (bG K (EP 61)):=⟨_,_,abC B (pb 61) GZ,aeF,aeG,aeE⟩
  have Gq:Got l.prog w K mg base 2 "_law_otherwise" Ob (bG K ER):=⟨_,_,abD B eA G0,aeJ,aeK,aeI⟩
  have xE:∀ n:Nat,Got l.prog w K mg base (n+2) "_law_turned" Oc (bG K (xg n)):=λ n=>by
   induction n with
   | zero=>exact ⟨Pd,_,abG,Pf,Pg,Pe⟩
   | succ n aO=>exact ⟨Pd,_,abH B eA aO G1,Pf,Pg,Pe⟩
  have Bd:Got l.prog w K mg base 9 "_law_told" Od (bG K (EQ 61)):=⟨_,_,abI B Gd Ge Bb uc Gf Gg Gh Gi Gj Gk Gl Gm Bc s_cT_cT (Z8 s_cT_VE) (qr d_cT_cB cB_cl cB_ty s_cT_cB) (r5 (qr y04 y01 y02 y03) (r5 (qr y14 y11 y12 y13) (r5 (qr y24 y21 y22 y23) (r5 (qr y34 y31 y32 y33) (r5 (qr y44 y41 y42 y43) (r5 (qr y54 y51 y52 y53) (r5 (qr y64 y61 y62 y63) Z9))))))) G2,aeO,aeP,aeN⟩
  exact abN B Gn eA Gp (o_ 121) (xE 121) Gq Gr Bd (xn 121) Ph
theorem walk{l:PySem.W.OpenLaw}{q:cL}{loose:List Str}{q1:(Str->Option Value)->bE->Prop}{pN:b8->bE->Prop}{d:DefRec}{K:Params->aX}(aH:l.most=some 63)(vw:d.params.defaults=[])
 (BY:∀(w:b8)(h:bE),pN w h->(K w.params).In h)
 (F:∀(w:b8)(mg:Str->Option Value)(fa:Addr)(h:bE),(K w.params).In h->h.Ns eh mg->mg d.name=some (.ref fa) →
  ∃ fd:gD,(∀(s:aE)(u:Value),sb s fd ⟨[u],[]⟩ [("_law_script", u)])/\∀ base:bE,(K w.params).In base->base.Ns eh mg->da l.prog w (K w.params) mg base c6 130 fa fd ["_law_script"] (zL (K w.params))) :
 PySem.W.WalkO q loose q1 pN l.row.toRowW d [] (λ f vs=>PySem.call f vs):=
 L2.RP (n:=63) (k:=130) (x:="_law_script") (CX:=λ _=>c6) (sp:=λ w=>zL (K w.params)) aH (by decide) vw ⟨rfl,by decide,by decide⟩ BY F (λ _ _ a ns ar o ew=>UW ar o ew) λ _ _ _ _ _ z=>z
end KB
def PySem.W.Fast.tw15510750859649890092:=0
def PySem.W.Fast.tw15588076574951409650:=0
def PySem.W.Fast.tw1624061239184907574:=0
def PySem.W.Fast.tw9879096215919076663:=0
def PySem.W.Fast.tw7288570050313568844:=0
def PySem.W.Fast.tw11603806984008686313:=0
def PySem.W.Fast.tw15756108633395301006:=0
def PySem.W.Fast.tw5712409711508026873:=0
def PySem.W.Fast.tw4328670580846458049:=0
def PySem.W.Fast.tw3982897605827187184:=0
def PySem.W.Fast.tw9326947399013649961:=0
def PySem.W.Fast.tw1969537693561532169:=0
def PySem.W.Fast.tw8639747991480488428:=0
def PySem.W.Fast.tw8460586715540224634:=0
def PySem.W.Fast.tw4381215131039303754:=0
def PySem.W.Fast.tw9339735561848437740:=0
def PySem.W.Fast.tw11290972702360132122:=0
def PySem.W.Fast.tw1637186466470693369:=0
def PySem.W.Fast.tw12352327674868652220:=0
def PySem.W.Fast.tw12092181693015418367:=0
def PySem.W.Fast.tw13641433601998325575:=0
def PySem.W.Fast.tw2463874190431896222:=0
def PySem.W.Fast.tw15671478057490056827:=0
def PySem.W.Fast.tw16261442900564423504:=0
def PySem.W.Fast.tw8465813177684128428:=0
def PySem.W.Fast.tw12930506253395854255:=0
def PySem.W.Fast.tw8227386691042592222:=0
def PySem.W.Fast.tw12221757233024763871:=0
def PySem.W.Fast.tw17657998577397622743:=0
def PySem.W.Fast.tw389071605691862026:=0
def PySem.W.Fast.tw16207586121736439346:=0
def PySem.W.Fast.tw11515250541166179045:=0
def PySem.W.Fast.tw6328621116454046986:=0
def PySem.W.Fast.tw16116604526682101735:=0
def PySem.W.Fast.tw15276025921094226578:=0
def PySem.W.Fast.tw6096883214061607806:=0
def PySem.W.Fast.tw7553339764678936477:=0
def PySem.W.Fast.tw1276078736344129177:=0
def PySem.W.Fast.tw7722322387216669519:=0
def PySem.W.Fast.tw113419183785505106:=0
def PySem.W.Fast.tw7129658665571034262:=0
def PySem.W.Fast.tw9379154730749942331:=0
def PySem.W.Fast.tw17838224706667269154:=0
def PySem.W.Fast.tw11880624281664727959:=0
def PySem.W.Fast.tw3243751467982324502:=0
def PySem.W.Fast.tw4836389657630738013:=0
def PySem.W.Fast.tw12340567382316414789:=0
def PySem.W.Fast.tw17980757532482363334:=0
def PySem.W.Fast.tw16550548390127050776:=0
def PySem.W.Fast.tw18098580097589275840:=0
def PySem.W.Fast.tw10720627797758492152:=0
def PySem.W.Fast.tw2222361309650154652:=0
def PySem.W.Fast.tw4258039039728370881:=0
def PySem.W.Fast.tw225171688808734599:=0
def PySem.W.Fast.tw18319037483164022811:=0
def PySem.W.Fast.tw8343654950582984737:=0
def PySem.W.Fast.tw18132297979573942193:=0
def PySem.W.Fast.tw10123969700375671323:=0
def PySem.W.Fast.tw12745685561389663240:=0
def PySem.W.Fast.tw10736152903467487783:=0
def PySem.W.Fast.tw13732802107496103713:=0
def PySem.W.Fast.tw795280561049633638:=0
def PySem.W.Fast.tw11610834260217908999:=0
def PySem.W.Fast.tw2314354202375361068:=0
def PySem.W.Fast.tw12159469552567529514:=0
def PySem.W.Fast.tw4428856925682655033:=0
def PySem.W.Fast.tw6613276290301483843:=0
def PySem.W.Fast.tw17364662620735700121:=0
def PySem.W.Fast.tw14221081929912197154:=0
def PySem.W.Fast.tw9624950866766760918:=0
def PySem.W.Fast.tw5522202351395666600:=0
def PySem.W.Fast.tw16621444665646931227:=0
def PySem.W.Fast.tw3845047073554623569:=0
def PySem.W.Fast.tw16800465917468289990:=0
def PySem.W.Fast.tw2095456695540753426:=0
def PySem.W.Fast.tw12455293798774570383:=0
def PySem.W.Fast.tw16515741700275419035:=0
def PySem.W.Fast.tw1979209890574396007:=0
def PySem.W.Fast.tw18393775013732757966:=0
def PySem.W.Fast.tw8003049045857750055:=0
open PySem PySem.W PyProof.Rows
set_option maxRecDepth 100000 in
set_option maxHeartbeats 0 in
theorem PySem.Challenge.cw_kindbags_k31_kind_texts_refused_holds : PySem.Challenge.rw_kindbags_k31_kind_texts_refused.Holds := by
  w_on; o_law; k_head; (case hw => w_witness2)
  k_fill
  refine KB.walk (l := PySem.Challenge.rw_kindbags_k31_kind_texts_refused) rfl rfl (fun w h Y => PySem.W.kIn_of Y) ?F
  case F =>
    intro w mg fa h KX G hmg
    refine' KB.aI9q KX G hmg ?_ ?_ ?_ ?_ ?_ ?_ ?_ ?_ ?_ ?_ ?_ ?_ ?_ ?_ ?_ ?_ ?_ ?_ ?_ ?_ ?_ ?_ ?_ ?_ ?_ ?_ ?_ ?_ ?_ ?_ ?_ ?_ ?_ ?_ ?_ ?_ ?_ ?_ ?_ ?_ ?_ ?_ ?_ ?_ ?_ ?_ ?_ ?_ ?_ ?ti0 ?te0 ?tm0 ?tf0 ?ts0 ?cB_0 ?x4 ?x5 ?x6 ?x7 ?cB_cl ?cB_ty ?cB_be ?cB_hg ?cB_hr ?cB_hf ?e3 ?e4 ?cT_0 ?cT_1 ?cT_2 ?cT_3 ?cT_8 ?cT_9 ?cT_c ?cT_k ?cT_p ?cT_sa ?cT_cl ?cT_mr ?cT_hd ?cT_na ?cT_ty ?cT_be ?cT_e0 ?cT_e1 ?cT_e2 ?cT_e5 ?s_cT_cT ?s_cT_cB ?s_cT_VE ?d_cT_cB ?y00 ?y01 ?y02 ?y03 ?y04 ?y10 ?y11 ?y12 ?y13 ?y14 ?y20 ?y21 ?y22 ?y23 ?y24 ?y30 ?y31 ?y32 ?y33 ?y34 ?y40 ?y41 ?y42 ?y43 ?y44 ?y50 ?y51 ?y52 ?y53 ?y54 ?y60 ?y61 ?y62 ?y63 ?y64
    (case ti0 => k_is)
    (case te0 => k_is)
    (case tm0 => k_is)
    (case tf0 => k_is)
    (case ts0 => k_is)
    (case cB_0 => k_is)
    (case x4 => k_is)
    (case x5 => rfl)
    (case x6 => k_is)
    (case x7 => kernel_rfl)
    (case cB_cl => k_is)
    (case cB_ty => k_is)
    (case cB_be => k_is)
    (case cB_hg => k_is)
    (case cB_hr => first | k_is | kernel_rfl)
    (case cB_hf => first | k_is | kernel_rfl)
    (case e3 => k_is)
    (case e4 => k_is)
    (case cT_0 => k_is)
    (case cT_1 => k_is)
    (case cT_2 => k_is)
    (case cT_3 => kernel_rfl)
    (case cT_8 => rfl)
    (case cT_9 => k_is)
    (case cT_c => k_is)
    (case cT_k => k_is)
    (case cT_p => k_is)
    (case cT_sa => k_is)
    (case cT_cl => k_is)
    (case cT_mr => rfl)
    (case cT_hd => rfl)
    (case cT_na => k_is)
    (case cT_ty => k_is)
    (case cT_be => k_is)
    (case cT_e0 => k_is)
    (case cT_e1 => k_is)
    (case cT_e2 => k_is)
    (case cT_e5 => k_is)
    (case s_cT_cT => k_is)
    (case s_cT_cB => k_is)
    (case s_cT_VE => k_is)
    (case d_cT_cB => rfl)
    (case y00 => k_is)
    (case y01 => k_is)
    (case y02 => k_is)
    (case y03 => k_is)
    (case y04 => rfl)
    (case y10 => k_is)
    (case y11 => k_is)
    (case y12 => k_is)
    (case y13 => k_is)
    (case y14 => rfl)
    (case y20 => k_is)
    (case y21 => k_is)
    (case y22 => k_is)
    (case y23 => k_is)
    (case y24 => rfl)
    (case y30 => k_is)
    (case y31 => k_is)
    (case y32 => k_is)
    (case y33 => k_is)
    (case y34 => rfl)
    (case y40 => k_is)
    (case y41 => k_is)
    (case y42 => k_is)
    (case y43 => k_is)
    (case y44 => rfl)
    (case y50 => k_is)
    (case y51 => k_is)
    (case y52 => k_is)
    (case y53 => k_is)
    (case y54 => rfl)
    (case y60 => k_is)
    (case y61 => k_is)
    (case y62 => k_is)
    (case y63 => k_is)
    (case y64 => rfl)
    all_goals first | k_is | (refine' L3.DT.mk ?_ ?_ ?_ ?_ <;> try k_is) | (refine' L3.DM.mk ?_ ?_ ?_ ?_ ?_ <;> try k_is) | (refine' L3.DTc.mk ?_ ?_ ?_ ?_ <;> try k_is) | (refine' L3.DMc.mk ?_ ?_ ?_ ?_ ?_ <;> try k_is) | skip
