import PyProof.Rows.All
import Wide.All
import Wide.FinOn
import Lean
import KE.KData
import KE.KDictList
import KE.KDictOf
import KE.KDictSum
import KE.KIsAll
import KE.KItem
import KE.KRevIter
import KE.KSortTup
import KE.KTreeO
import ObjForm.Claim3
import Open.Head
import Open.Row
import OpenK.KCall
import OpenK.KCls
import OpenK.KDescr
import OpenK.KFacts
import OpenK.KGet
import OpenK.KLine
import OpenK.KMake
import OpenK.KMore
import OpenK.KOps
import OpenK.KOwn
import OpenK.KRaise
import OpenK.KWalk
import OpenK.Peek
import OpenK.ZHead
import PyProof.AutoIntG2
import PyProof.CollectIter
import PyProof.EqAt
import PyProof.EqKinds
import PyProof.ForAny
import PyProof.NeKinds
import PyProof.Rows.Range3
import PyProof.Rows.SetFrom
import PyProof.Rows.SumAny
import PyProof.SetRoads
import PyProof.TupleCall
import PyProof.ZipIter
import KE.RegKIsAll
import Open.Pieces
import PySem.Challenge.RW_sketchbounds_k27_poured_part_by_part
set_option compiler.extract_closed false
set_option linter.defProp false
open PySem renaming wpAny_bind->aG,wpAny_pure->bC,Program->aO,mainGlobals->dX,Around->bA,wpAny_mono->eF,starEach->cW,wpAny_holding->jJ,boot_len->oh,codeAny_builtin->rG,plainId_quiet->pK,wpAny_Call_Name_kw->Aa,wpAny_call_entry->xJ,wpAny_newObj_type->Ab,sliceBounds->jz,SetTable->fK,Builtin->dW,wpAny_tryCatch->qO,wpAny_ite_split->sI,wpAny_updateSeq->sO,wpAny_seqItems->sS,codeAny->fB,mem_of_lookup->Cq,compareOp->jA,wpAny_setField_rec->Cr,wpAny_passesOwn->yx,relabel->gw,wpAny_setState_of->Cu,fits_of_scanBound->Cv,codeAny_mono->sU,wpAny_attempt->vd,wpAny_of_eq->qP,wpAny_callSpecial?_slot->Nj,wpAny_setEntries_of->Gu,wpAny_askSetting->Cw,wpAny_rule->ou,intKind->iw,wpAny_execs_nil->Cy,builtinLookup_eq_fast->Nk,argBest->iy,wpAny_letGo->sV,sysModules->qQ,wpAny_truthy_bool->Gv,foldedSetIterable->Gx,attributeBase->yC,codeAny_call_builtin->Nm,wpAny_comprehension_free->Ut,importedModules->Gy,backTo->gH,letOwnedTupleGo->Gz,tupleKind_room_in1->Np,intItems->mV,bootBuiltins->Cz,checkBuiltinCall->Nq,wpAny_isInstance->Nr,wpAny_pyIter_revIter->Uu,wpAny_newList->GC,wpAny_call->yD,treeTable->vf,wpAny_specialOf->Nt,typeLookup_type->Nu,setAddHashedIn->Nv,isSubtype_type->Nx,wpAny_fieldsOf->Ny,assignEach->CG,Result->jV,slot_list_getitem->Uv,wpAny_getItem_list_slice->acE,wpAny_Call_method->Uw,wpAny_pyIter_slot->Ux,binaryOp->vg,behindInMarks->Nz,keywordEach->GF,relayAll->vh,wpAny_eqBool_int->Uy,wpAny_execs_cons->Uz,pyNext->lJ,codeAny_compStart_list->acF,tupleKind->CJ,rawInt->mW,Keyword->sW,bindArgs->yE,NameKind->yF,storeSet->yG,wpAny_newFunctionEnv->acG,codeAny_extend_loopS->acH,entryFor_alias->UG,sizeLine_eq->NP,evalArgs_none->acI,intItems_at->NQ,swapsWith->GJ,assign->qR,wpAny_standAt->UJ,slicePick->GP,argsOk->qT,nums_intItems->UL,call_reversed_list->acJ,call->NT,wpAny_assign_Name->acK,wpAny_pyIter_list->acL,typeLookup->NZ,valueAt->yH,callerA->yI,checkCount->N5,wpAny_storeSet_of->acM,setsByText->N6,wpAny_setEpoch_of->acN,Within->UW,seqIndex_neg->U0,wpAny_typeOf->U3,wpAny_pyIter_zip->acO,backToKw->GQ,entryFor->GR,holding->CN,BindsTo->CP,seqIndex_of->U4,subscripted->U5,pickOrder->N7,codeAny_of_tree->acP,unsupported->U6,wpAny_Expr_any->acQ,method_meetsIn->acR,newFunctionEnv->acS,wpAny_newTuple->acT,wpAny_runValue->acU,firstArgMember->acV,isSubtype_stop->acW,builtinsNs->U7,wpAny_Name->U8,pyIter->yJ,closureFor->U9,isInstance->Va,bltViewBooted->acX,intBits_le_64->acY,evalPart_none->acZ,call_list_seq->ac0,compEnvC->N8,eval_ListComp->ac1,relayAll_perm->ac2,relayAll_fits->ac3,numAt_eq->Oa,Params->CQ,PassesOwn->Vb,getMethod->Vc,cellsFrom->Vd,call_meetsIn->ac4,DictEntry->Ve,setAddHashed->ac5,newFields->Vf,updateSeq->Vg,iter_intList->ac6,getItem->Ob,newList->Oc,ElemsOf->Od,isTrue->GZ,layNew->G9,Thread->Oe,DefRec->Og,typeOf->Oh
open List renaming length_map->bG,getElem?_eq_getElem->fY,mem_cons_of_mem->gF,getElem?_eq_some_iff->jB,mem_cons->bN,mem_cons_self->cX,length_append->dH,size_toArray->dI,mem_singleton->eZ,mem_append->d9,map_append->eG,pairwise_cons->iH,length_take->gU,getElem?_map->iR,length_cons->iI,map_cons->gB,take_of_length_le->pL,not_mem_nil->jK,getD_eq_getElem?_getD->vm,append_assoc->lE,mem_append_right->pN,getElem?_eq_none->rH,getElem?_append_right->xK,mem_or_eq_of_mem_set->xM,nodup_cons->lF,length_set->lG,length_filter_le->vo,pairwise_append->vp,length_eq_zero_iff->Ac,getElem?_append_left->Eo,mem_map->jW,pairwise_iff_getElem->Hf,take_add_one->xO,filter_append->Ae,filterMap_cons->Ep,length->nF,map_map->pO,getElem?_set_ne->yK,mem_iff_getElem->yL,getElem_mem->sX,length_reverse->yM,sum_cons->oA,drop_eq_getElem_cons->Hg,extract_eq_take_drop->Hh,length_replicate->CT,take_append_drop->CV,filter_cons->vq,take_length->vA,mem_filter->vB,getElem?_set_self->Hj,length_drop->yN,nodup_nil->vC,mem_of_mem_drop->Hl,append_nil->yO,find?_cons->yP,map_congr_left->Ho,filter_cons_of_neg->Oi,mem_reverse->CW,range->oE,filter_eq_nil_iff->Oj,nil_append->CZ,any_cons->yQ,pairwise_map->Hq,length_range->Hr,getElem?_eq_none_iff->Vh,getElem?_cons_succ->Vi,pairwise_mergeSort->Vj,filter_cons_of_pos->Vk,drop_of_length_le->Vl,lookup->yR,nodup_append->Ol,getElem_take->Om,length_filterMap_eq_countP->ac7,replicate->Hs,getElem?_toArray->Vm,map_reverse->Oo,mem_append_left->Vn,filter_eq_self->Vo,mergeSort_perm->Vp,drop_set_of_lt->Vq,take_succ_cons->Vr,length_eraseIdx_of_lt->ac8,perm_ext_iff_of_nodup->ac9,mem_filterMap->Vs,mem_range->Oq,take_sublist->Vt,getElem_drop->Vu,getElem?_replicate->ada,getLast?_cons_cons->adb,map_drop->Ot,lookup_cons->Vv,perm_middle->Vw,getElem_map->Vx,cons_ne_nil->Vy,drop_length->Vz,pairwise_lt_range->ade,of_mem_zip->VB,map_nil->Ou,perm_append_comm->adf,getElem?_reverse->adg,mem_of_mem_take->adh,mem_of_mem_tail->adi,reverse_reverse->adk,drop_succ_cons->adl,take_set_of_le->adn,getElem?_range->ado,map_filterMap->adp,nil_perm->VD,take_nil->VF,filterMap_map->adq,reverse_cons->adt,foldl_append->adu,all_eq_true->adw,length_nil->adx,sum_append->ady,drop_drop->adz,take_left->adA,drop_left->adB,drop_zero->adC,take_zero->adD,foldl->VG,all_cons->adE,map_id'->adF,map_id->adG
open PySem.W renaming Frag->aZ,mg_of->cN,findIn->iJ,mg_none_of->rJ,nsIn->jX,mroIn->nG,kia_one->uE,emptyDict->Af,keepIn->oF,kitOne->oG,fnOf->lK,instObj->vD,plainGet->Dc,hasDictIn->Ht,specialIn->Hu,hideAll_none->Ov,looks_findIn->Ow,typeIn->Dd,of_hideAll->Ox,callWith_K->Oz,Looks->Df,plainOver->OD,codeIn->Hv,excIn->Hw,makesIn->OJ,takesIn->O1,hideAll_get->VH,plainGet_of->VJ,looks_mroIn->VL,isFn->Hx,lookIn->O2,methodObj->VN,cellsFrom_some->adH,takerIn->VP,kitAny->VR,kitCls->V0,kdu_collect->adI,WalkO->V1,clsIn->V2,kitx_list->adJ,kitx_dict->adK,handedIn->adL,kdl_dict->adM,kat_cons->adN,hideAll->adO,kat_yes->adP,kit_cls->adQ,kIn_of->ajR,KdlSrc->adR,kat_no->adS
open PySem.Heap renaming get?_push_of_some->dN,lt_size->bQ,get?_push_size->eO,get?_update_other->oH,get?_update_self->Ag,size_push->sY,SameBut->vG,get?_none_of_le->adT,get?_update_ne->adU,get?_push_ne->adV
open Nat renaming le_refl->bV,ne_of_lt->cH,lt_of_lt_of_le->f9,zero_le->cY,lt_or_ge->jk,le_trans->jL,lt_succ_of_lt->uF,le_of_lt->mG,lt_irrefl->pP,le_succ->lM,lt_succ_self->yS,zero_add->sZ,ne_of_gt->tu,eq_zero_or_pos->Hy,pow_succ->vH,strongRecOn->Hz,mul_add->yU,le_succ_of_le->O3,lt_succ_of_le->O4,add_zero->Dg,mul_comm->Dh,pow_le_pow_right->V3,mul_le_mul_right->V4,add_assoc->HB,mul_assoc->HD,min_eq_left->O5,le_of_eq->HF,lt_of_le_of_lt->V5,mul_zero->O6,mul_le_mul_left->adW,lt_trichotomy->adX,not_lt->O7,sub_self->V6,le_of_not_lt->adY,not_lt_zero->adZ,lt_trans->ad0,pow_zero->ad1,mod_lt->ad2
open Ne renaming symm->aL
open Option.some renaming inj->cI,injEq->V7
open Array renaming length_toList->fW,getElem?_toList->iU,toList_append->Er,toList_push->yV,toList_extract->HJ,perm_iff_toList_perm->V8,getElem?_eq_some_iff->ad3,size_setIfInBounds->ad4,getElem?_eq_none->ad5,size_push->V9,toArray_toList->ad6,toList_reverse->ad7,size_replicate->ad8,size_extract->ad9,size_map->aea,toList->aeb
open PySem.Challenge renaming rw_sketchbounds_k27_poured_part_by_part->Es,pw_sketchbounds_k27_poured_part_by_part->ajS
open PySem.F renaming slot_list_append->jY,type_list_append->jZ,plainAttrs_list->j7,excBase_ValueError->Ln,plainAttrs_dict->Wa,slot_dict_get->Wb,slot_dict_values->aec,args_dict_get_3->aed,slot_dict_items->aee,entry_dict_get->aef
open PyProof.Rows renaming wpS_bind->bH,pendingOf->cF,wpS_pure->cG,boot_list->xP,callWith_type1->Lp,wpS_forRange->pQ,boot_sorted->Dj,setArr->cJ,boot_isinstance->O8,seqObj->dw,wpS_mono->iz,getElem?_mirror_all->HN,failedOf->jC,wpS_modify->qU,pairsOf_size->yW,pairsOf->jD,wpS_get->lN,reverseSlice'_eq->O9,entry_list_sort->Pa,slot_list_sort->Pb,expectedOf->aeg,plainGoodE->aeh,plainGoodD->aei,AllBare->qW,subscriptTail->Pg,reverseSlice'->Ph,envOfC->lO,subscriptTail_builtinR->aej,boot_dict->aek,plain_sorted->Pj,entry_sorted->Pk,boot_max->ael,boot_sum->aem,size_push'->HS,wpS_lift->yX,sortedHeap->HW,drecsOf->aen,sortedHeap_old->Wc,args_list_sort->Wd,kind_sorted->Pn,mirror_perm->Pq,Constant_none->Wf,sortedHeap_at->Wg,sortedAll_old->Wh,listUpdate_at->Wj,callWith_builtin1->ajT,args_sorted1->Wk,sortedAll_at->Wl,gallopOf->HX,callWith_kw->Wm,getElem?_bubble->aeo,seqEpoch_at->Wo,list_sort_tree->aep,pairsOf_toList->aer,Subscript_->Wq,mirror->yZ,Constant_bool->aes,boot_reversed->aeu,sortRuns'->Wr,sortRuns'_eq->aev,mem_zip_self->aew,boot_set->ajU,lt_int->ajV,kws_cons->Ws
open Bool renaming false_ne_true->iK,false_eq_true->za,and_eq_true->HY,eq_iff_iff->Pr,not_eq_true'->Wt,or_eq_true->Wu,and_eq_true_iff->aex,false_and->aey,false_or->aez,not_true->aeA
open Int renaming le_refl->eE,mul_le_mul_of_nonneg_right->Ah,zero_add->oJ,add_zero->pR,le_trans->lQ,emod_lt_of_pos->zc,emod_nonneg->zf,pow_succ->vI,mul_assoc->Dk,natCast_add->Ia,le_of_lt->Dl,add_mul->Dm,natCast_pow->Pu,mul_neg_of_neg_of_pos->aeB,not_lt->Dp,toNat_natCast->Wv,toNat_of_nonneg->aeC,mul_right_comm->aeD,mul_add->Ww,pow_pos->Wx,pow_add->Wy,le_antisymm->aeE,mul_le_mul->aeF,ne_of_gt->aeG,mul_comm->aeH,lt_or_le->aeI,mul_one->aeJ,one_mul->aeK
open PySem.SetTable renaming below->jm,grown->zj,has->Px,toList_insertAt->ajW,slot->aeL,fits->aeM,probeStart->ajX,orStandIn->ajY,sizeAbove->ajZ,freeSlot->aj0,insertAt->aj1,layClean->aj2,advance->aj3,standIn->aj4,relaid->aj5,Probe->aj6,laid->aj7,put->aj8
open PySem.Around renaming under_plainId->vJ,under->Wz
open PySem.Obj renaming mapSeq->jo,putSet->Py
open PySem.Builtin.List renaming listExtendWith->Lq,listLengthHint->Pz,listSameRef->PB,listItems->aeN,listUpdate->aj9
open PySem.PassesOwn renaming never->uG
open False renaming elim->j8
open PySem.Calls renaming spliced_cons->zm,spliced_nil->Dq,call_function_entry->WK,evalArgs_plain->WM,Name_function_global->aeO,callWith_builtin->aeP
open Option renaming map_eq_some_iff->Ib,isSome_iff_exists->aeQ,bind_eq_some_iff->aeR,getD_none->WQ,map_map->WR,isSome_map->aeS,map_some->aeT,map->aeU
open List.Perm renaming append_left->Ie,cons_inv->WT,append_right->aeV,refl->WW,of_eq->akb
open PySem.Str renaming ofString->vK,empty->WX
open Prod renaming ext->mX
open PySem.SetTable.below renaming go->PJ
open List.cons renaming inj->Ig
open PyProof.Rows.SortSt renaming mk'->zp
open PySem.Value renaming isInt->Dr,isStrOf->aeW
open Array.Perm renaming refl->PK
open PySem.Builtin.Builtins renaming bindParams->aeX
open PySem.Builtin.ObjectAttr renaming find->aeY,getOf->akc
open PySem.SeqAt.EqAt renaming same->WY,int_str->aeZ,str_int->ae0,of_refs->ae1,none_bool->akd,bool_none->ake,bool_bool->akf,none_int->akg,none_str->akh,bool_int->aki,bool_str->akj,int_none->akk,int_bool->akl,str_none->akm,str_bool->akn,int_int->ako,str_str->akp
open Classical renaming choose_spec->ae2,choose->ae3
open PySem.SeqAt renaming EqAt->Ih
open PySem.Walks renaming list->Ii
open PySem.Heap.SameBut renaming update->ae4,refl->akq
open PySem.W.Fast renaming te9446332074065402090->akr
open Prod.mk renaming injEq->W6,inj->ae5
open PySem.Paired renaming length->W9,snoc->ae6
open PySem.Heap.IsSliceOf renaming new->ae7
open List.Nodup renaming sublist->ae8
open PySem.Code renaming quiet_builtin->ae9,isFrame->Xa,frames->afa
open PySem.W.KF renaming slot_gs->afb,owner_class->aks,entry_class->akt,type_class->aku,entry_gs->akv,args_gs->akx
open PySem.SetTable.probe renaming go->afc
open PySem.SeqAt.RcAt renaming tuples->afd,lists->afe
open List.Sublist renaming map->afg
open PySem.W.Looks renaming ld->afh,here->aky
open PySem.Builtin.Frozenset renaming updateFrom->akz,newClass->akA,sizeOf->akB
open Eq renaming trans->Ij
open PySem.EqNone renaming eq_none_none->akC,eq_none_bool->akD,eq_bool_none->akE,ne_none_none->akF,ne_none_bool->akG,ne_bool_none->akH,eq_none_int->akI,eq_none_str->akJ,eq_int_none->akK,eq_str_none->akL,ne_none_int->akM,ne_none_str->akN,ne_int_none->akO,ne_str_none->akP
open PySem.EqMixed renaming eq_bool_str->akQ,eq_str_bool->akR,ne_bool_str->akS,ne_str_bool->akT,eq_int_str->akU,eq_str_int->akV,ne_int_str->akW,ne_str_int->akX
open PySem.Bind renaming checkArgs->afi
open PySem.SetTable.Met.empty renaming injEq->akY
open List.Pairwise renaming imp_of_mem->akZ,filterMap->ak0
open PySem.Builtin.Range renaming rangeSize->ak1
open PySem.Shared renaming TypeIs->afj
open PySem.Heap.UpToSlots renaming of_keeps->ak2
open PySem.W.KatTups renaming cons->ak3,nil->ak4
open Sum.inl renaming inj->afk
open PySem.ItemsOf renaming nil->afl
open PySem.SeqAt.RcNeAt renaming tuples->ak5,lists->ak6
open PySem.Within renaming cons->ak7
open PySem.Heap.Ns1 renaming of_empty->ak8
open PySem.DictEntry renaming refKey->ak9
open PySem.IsL renaming update->ala
open PySem.Heap.DictOf renaming new->alb
open PySem.Value.ref renaming inj->alc
open Int.ofNat renaming inj->ald
set_option hygiene false
local macro_rules | `(term| tb_g%) => `(by first | decide +kernel | lia | exact hr.mono (by decide))
local macro_rules | `(tactic| k_dat ($x0,$x1:ident) "a") => `(tactic| (refine $x0:term $x1:ident (fun vs H Q E h=>?_) (fun cdv B outer s H vs Q E hr h=>?_)))
local macro_rules | `(tactic| k_dat ($x0:ident,$x1:ident) "b") => `(tactic| (extract_lets +onlyGivenNames -underBinder -merge $x0:ident;clear_value ($x1:ident :$x0:ident =_)))
local macro_rules | `(tactic| k_dat ($x0:ident,$x1:ident,$x2:ident,$x3,$x4,$x5) "c") => `(tactic| (refine ⟨_,rfl,$x0:ident,_,$x1:ident,_,rfl,$x2:ident,$x3:term,$x4:term,(by show $x5:term<1000;decide),?_⟩))
local macro_rules | `(tactic| k_dat $x0:ident "d") => `(tactic| (have up2:Same $x0:ident (upd (upd $x0:ident dk (.own k)) k (.ins A.bw dk [])):=fun b o e=>by rw [au (ak e n1),au (ak e n2)];exact e))
local macro_rules | `(tactic| walk_at "e") => `(tactic| (iterate 1 (extract_lets +onlyGivenNames -underBinder -merge zz;subst zz)))
local macro_rules | `(tactic| walk_at "f") => `(tactic| (try dsimp (config:={ zeta:=false }) only))
local macro_rules | `(tactic| walk_at "g") => `(tactic| (refine hR _ _ (sq fun R hR=>?_)))
local macro_rules | `(tactic| walk_at "h") => `(tactic| (intro X hP hw hK hc i pins s σ H E I hf st hg))
local macro_rules | `(tactic| k_dat $x0:ident "i") => `(tactic| (obtain ⟨f0,f1,f2,f3,f4,f5⟩:=hf $x0:ident (by simp)))
local macro_rules | `(tactic| walk_at "j") => `(tactic| (intro pins s σ H xs us Q I r h))
local macro_rules | `(tactic| k_dat $x0 "k") => `(tactic| (refine ⟨_,rfl,.inl ⟨rfl,_,.inl (.inl $x0:term)⟩,?_⟩))
local macro_rules | `(tactic| walk_at "l") => `(tactic| (intro pins s σ H Q I h))
local macro_rules | `(tactic| walk_at "m") => `(tactic| (intro pins s σ H x y v u Q I rx ry h))
set_option hygiene true
set_option maxRecDepth 100000
set_option maxHeartbeats 0
namespace L2
open PySem
def inClass (s:Stmt) (j:Nat):Stmt:=match s with
 | .ClassDef _ _ _ body _ _ _ _ _ _ _=>body.getD j (.Pass ⟨0,0,0,0⟩)
 | _=>.Pass ⟨0,0,0,0⟩
def j9 (s:Stmt):Arguments:=match s with
 | .FunctionDef _ a _ _ _ _ _ _ _ _=>a
 | _=>{ posonlyargs:=[],args:=[],vararg:=none,kwonlyargs:=[],kw_defaults:=[],kwarg:=none,defaults:=[] }
def jg (s:Stmt):List Stmt:=match s with
 | .FunctionDef _ _ b _ _ _ _ _ _ _=>b
 | _=>[]
def aH (s:Stmt):Scope:=match s with
 | .FunctionDef _ _ _ _ _ _ sc _ _ _=>sc
 | _=>{ kind:=.function,names:=[],isGenerator:=false,isCoroutine:=false }
end L2
namespace My
open PySem PySem.W PyProof.Rows
def pU (tb:String->Option dW) (p:aO) (w:World) (n₀:Nat) (ann:Option Value):Nat->SharedT->Oe->Option SharedT
 | 0,_,_=>none
 | n+1,s,t=>match through t with
  | true=>some s
  | false=>match stepOk n₀ ann t with
   | false=>none
   | true=>match stepT (denote tb) p w s t with
    | some (s',t')=>pU tb p w n₀ ann n s' t'
    | none=>none
theorem Ik {tb:String->Option dW} {p:aO} {w:World} {n₀:Nat} {ann:Option Value}:∀ {n:Nat} {s s':SharedT} {t:Oe},pU tb p w n₀ ann n s t=some s'->topRun tb p w n₀ ann n s.abs t=some s'.abs
 | 0,_,_,_,h=>by cases h
 | n+1,s,s',t,h=>by
  unfold pU at h
  unfold topRun
  cases ht:through t with
  | true =>
   rw [ht] at h
   obtain rfl:=cI h
   rfl
  | false =>
   rw [ht] at h
   dsimp only at h ⊢
   cases hs:stepOk n₀ ann t with
   | false=>rw [hs] at h;cases h
   | true =>
    rw [hs] at h
    dsimp only at h ⊢
    cases hq:stepT (denote tb) p w s t with
    | none=>rw [hq] at h;cases h
    | some x =>
     obtain ⟨s2,t2⟩:=x
     rw [hq] at h
     rw [stepT_spec hq]
     exact Ik h
def treeOf:List Obj->Nat->BT->Option BT
 | [],_,t=>some t
 | o::r,n,t=>match ((t.ins n o).get n).isSome with
  | true=>treeOf r (n+1) (t.ins n o)
  | false=>none
theorem Lr {life:Life}:∀ {l:List Obj} {n:Nat} {t t':BT},treeOf l n t=some t'->absHeap t' (n+l.length) life=⟨((t.list n)++l).toArray,life⟩
 | [],n,t,t',h=>by
  obtain rfl:=cI h
  rw [yO];rfl
 | o::r,n,t,t',h=>by
  unfold treeOf at h
  cases g:((t.ins n o).get n).isSome with
  | false=>rw [g] at h;cases h
  | true =>
   rw [g] at h
   have e:=Lr (life:=life) h
   rw [show n+(o::r).length=n+1+r.length by rw [iI];lia,e]
   have e2:=absHeap_ins (life:=life) g
   have e3:(t.ins n o).list (n+1)=t.list n++[o]:=by
    have:=congrArg (fun h:Heap=>h.objs.toList) e2
    simpa [absHeap,Heap.push] using this
   rw [e3,lE];rfl
def PL (h:Heap):Option BT:=treeOf h.objs.toList 0 .nil
theorem abg {h:Heap} {T:BT} (e:PL h=some T):absHeap T h.objs.size h.life=h:=by
 have:=Lr (life:=h.life) e
 rw [sZ,fW] at this
 rw [this]
 show Heap.mk (([]++h.objs.toList).toArray) h.life=h
 rw [CZ]
/-- the opening and the top -/
def abh (p:aO) (w:World) (N:Nat):Option (Shared × SharedT):=(fencedOpening vf p w N).bind fun s₀ =>
 match s₀.heap.isNs dX && s₀.gens.size == 0 with
 | true=>(PL s₀.heap).bind fun T=>(pU vf p w s₀.heap.objs.size (s₀.heap.nsMap dX "__annotations__") N ⟨T,s₀.heap.objs.size,s₀.heap.life,s₀.gens,s₀.drawn,s₀.toks,s₀.os⟩ (topStub p)).map fun s₁=>(s₀,s₁)
 | false=>none
def okT (p:aO) (x:Shared × SharedT):Bool:=staticsOk (Gy p.main.body) x.1.heap x.2.abs.heap && namesBound p x.2.abs.heap && gensDone x.2.abs && laidKept x.1.heap x.2.abs.heap
/-- what is told of it,look by look -/
abbrev Ds (p q:aO) (Xt:Shared->Bool) (x:Shared × SharedT):=openSeen q [] (Gy p.main.body) Xt true x.2.abs
theorem ahD {p:aO} {w:World} {N:Nat} {x:Shared × SharedT} (h:abh p w N=some x) (ok:okT p x=true):openEnds vf p w N=some x.2.abs:=by
 unfold abh at h
 obtain ⟨s₀,e0,e1⟩:=aeR.mp h
 unfold openEnds
 rw [e0]
 show topFrom vf p w N s₀=_
 unfold topFrom
 cases g:(s₀.heap.isNs dX && s₀.gens.size == 0) with
 | false=>rw [g] at e1;cases e1
 | true =>
  rw [g] at e1
  dsimp only at e1 ⊢
  obtain ⟨T,eT,e2⟩:=aeR.mp e1
  obtain ⟨s₁,e3,e4⟩:=Ib.mp e2
  subst e4
  have r:=Ik e3
  have ab:(SharedT.mk T s₀.heap.objs.size s₀.heap.life s₀.gens s₀.drawn s₀.toks s₀.os).abs=s₀:=by
   show Shared.mk (absHeap T s₀.heap.objs.size s₀.heap.life) _ _ _ _=s₀
   rw [abg eT]
  rw [ab] at r
  rw [r]
  show (match staticsOk (Gy p.main.body) s₀.heap s₁.abs.heap && namesBound p s₁.abs.heap && gensDone s₁.abs && laidKept s₀.heap s₁.abs.heap with
   | true=>some s₁.abs
   | false=>none)=_
  have ok':(staticsOk (Gy p.main.body) s₀.heap s₁.abs.heap && namesBound p s₁.abs.heap && gensDone s₁.abs && laidKept s₀.heap s₁.abs.heap)=true:=ok
  rw [ok']
/-- one look -/
def Look (p:aO) (N:Nat) {β:Type} (f:Shared × SharedT->β) (b:World->β):Prop:=∀ w:World,(abh p w N).map f=some (b w)
theorem Look.at {p:aO} {N:Nat} {β:Type} {f:Shared × SharedT->β} {b:World->β} (h:Look p N f b) {w:World} {x:Shared × SharedT} (e:abh p w N=some x):f x=b w:=by
 have:=h w
 rw [e] at this
 exact cI this
theorem ahE {p q:aO} {Xt:Shared->Bool} {α:Type} {Yf:Shared->α} {Ya:World->α} {N:Nat}
  (h0:Look p N (okT p) fun _=>true)
  (h1:Look p N (fun x=>(Ds p q Xt x).1) fun _=>(openGood q []).1)
  (h2:Look p N (fun x=>(Ds p q Xt x).2.1) fun _=>(openGood q []).2.1)
  (h3:Look p N (fun x=>(Ds p q Xt x).2.2.1) fun _=>(openGood q []).2.2.1)
  (h4:Look p N (fun x=>(Ds p q Xt x).2.2.2.1) fun _=>(openGood q []).2.2.2.1)
  (h5:Look p N (fun x=>(Ds p q Xt x).2.2.2.2.1) fun _=>(openGood q []).2.2.2.2.1)
  (h6:Look p N (fun x=>(Ds p q Xt x).2.2.2.2.2.1) fun _=>(openGood q []).2.2.2.2.2.1)
  (h7:Look p N (fun x=>(Ds p q Xt x).2.2.2.2.2.2.1) fun _=>(openGood q []).2.2.2.2.2.2.1)
  (h8:Look p N (fun x=>(Ds p q Xt x).2.2.2.2.2.2.2.1) fun _=>(openGood q []).2.2.2.2.2.2.2.1)
  (h9:Look p N (fun x=>(Ds p q Xt x).2.2.2.2.2.2.2.2) fun _=>(openGood q []).2.2.2.2.2.2.2.2)
  (hY:Look p N (fun x=>Yf x.2.abs) Ya):LeftO p q [] Xt Yf Ya N:=fun w=>by
 obtain ⟨x,e,_⟩:=Ib.mp (h0 w)
 show (openEnds vf p w N).map _=_
 rw [ahD e (h0.at e)]
 show some (Ds p q Xt x,Yf x.2.abs)=some (openGood q [],Ya w)
 have a:=hY.at e
 have b:Ds p q Xt x=openGood q []:=mX (h1.at e) (mX (h2.at e) (mX (h3.at e) (mX (h4.at e) (mX (h5.at e) (mX (h6.at e) (mX (h7.at e) (mX (h8.at e) (h9.at e))))))))
 rw [b]
 exact congrArg some (mX rfl a)
/-- the objects at some places,read off the tree -/
def afm (s:SharedT):List Addr->Option (List (Option Obj))
 | []=>some []
 | a::r=>match Nat.blt a s.n with
  | true=>match s.tree.get a with
   | some o=>match afm s r with
    | some l=>some (alive o::l)
    | none=>none
   | none=>none
  | false=>none
theorem Z8 {s:SharedT}:∀ {as:List Addr} {l:List (Option Obj)},afm s as=some l->as.map s.abs.heap.get? = l
 | [],l,h=>cI h
 | a::r,l,h=>by
  unfold afm at h
  cases hb:Nat.blt a s.n with
  | false=>rw [hb] at h;cases h
  | true =>
   rw [hb] at h
   dsimp only at h
   cases ho:s.tree.get a with
   | none=>rw [ho] at h;cases h
   | some o =>
    rw [ho] at h
    dsimp only at h
    cases hl:afm s r with
    | none=>rw [hl] at h;cases h
    | some l2 =>
     rw [hl] at h
     obtain rfl:=cI h
     rw [gB,Z8 hl]
     exact congrArg (· :: l2) (abs_get (Nat.le_of_ble_eq_true hb) ho)
open PySem.W.Fast renaming tw10156331382660048174->ai9, te10156331382660048174->afn, tw6613529449190102663->Z9, te6613529449190102663->Xb, tw11892475500146522536->aac, te11892475500146522536->Xc, tw14364793385576792824->afo, te14364793385576792824->Lw, tw4187177175401517315->abj, te4187177175401517315->PN
noncomputable def afp (w:World) (os:OsState):Shared:=⟨boot_heap w.params,Array.mk [],boot_drawn,boot_toks,os⟩
noncomputable def aad (p:aO) (w:World) (N:Nat) (s₀:Shared):Option (Shared × SharedT):=(PL s₀.heap).bind fun T=>(pU vf p w s₀.heap.objs.size (s₀.heap.nsMap dX "__annotations__") N ⟨T,s₀.heap.objs.size,s₀.heap.life,s₀.gens,s₀.drawn,s₀.toks,s₀.os⟩ (topStub p)).map fun s₁=>(s₀,s₁)
theorem ahF (P:CQ):(boot_heap P).isNs dX=true:=by kernel_rfl
theorem abk {p:aO} {N:Nat} (e:opening p=plainProg p.main.scope.names) (hN:Nat.ble 600 N=true) (f:∀ s,fenceModules? p s=some s) (w:World):∃ os,abh p w N=aad p w N (afp w os):=by
 obtain ⟨s,hs,hv⟩:=Ib.mp (boot_open e hN f w)
 obtain ⟨h,g,d,k,os⟩:=s
 simp only [W6] at hv
 obtain ⟨rfl,rfl,rfl,rfl⟩:=hv
 refine ⟨os,?_⟩
 unfold abh
 rw [hs]
 show (match (boot_heap w.params).isNs dX && _ with | true=>aad p w N (afp w os) | false=>none)=_
 rw [ahF]
 rfl
noncomputable def Ai (p:aO) (w:World) (n₀:Nat) (ann:Option Value):Nat->SharedT->Oe->Option SharedT
 | 0,_,_=>none
 | n+1,s,t=>match through t with
  | true=>some s
  | false=>match Z9 n₀ ann t with
   | false=>none
   | true=>match ai9 (aac afo) p w s t with
    | some (s',t')=>Ai p w n₀ ann n s' t'
    | none=>none
theorem Il {p:aO} {w:World} {n₀:Nat} {ann:Option Value}:∀ {n:Nat} {s:SharedT} {t:Oe},pU vf p w n₀ ann n s t=Ai p w n₀ ann n s t
 | 0,_,_=>rfl
 | n+1,s,t=>by
  have ih:∀ s t,pU vf p w n₀ ann n s t=Ai p w n₀ ann n s t:=fun _ _=>Il
  rw [Lw] at ih
  unfold pU Ai
  rw [Xb,afn,Xc,Lw]
  cases through t with
  | true=>rfl
  | false =>
   dsimp only
   cases Z9 n₀ ann t with
   | false=>rfl
   | true =>
    dsimp only
    cases ai9 (aac afo) p w s t with
    | none=>rfl
    | some x=>exact ih _ _
noncomputable def afq (p:aO) (w:World) (N:Nat) (s₀:Shared):Option (Shared × SharedT):=(PL s₀.heap).bind fun T=>(Ai p w s₀.heap.objs.size (s₀.heap.nsMap dX "__annotations__") N ⟨T,s₀.heap.objs.size,s₀.heap.life,s₀.gens,s₀.drawn,s₀.toks,s₀.os⟩ (topStub p)).map fun s₁=>(s₀,s₁)
theorem afr {p:aO} {w:World} {N:Nat} {s₀:Shared}:aad p w N s₀=afq p w N s₀:=by
 unfold aad afq
 exact congrArg _ (funext fun T=>congrArg _ Il)
/-- one look,at the quick run -/
def iV (p:aO) (N:Nat) {β:Type} (f:Shared × SharedT->β) (b:World->β):Prop:=∀ (w:World) (os:OsState),(afq p w N (afp w os)).map f=some (b w)
noncomputable abbrev rK (p q:aO) (Xt:Shared->Bool) (x:Shared × SharedT):=abj q [] (Gy p.main.body) Xt true x.2.abs
theorem ahG {p q:aO} {Xt:Shared->Bool}:Ds p q Xt=rK p q Xt:=by
 funext x
 unfold Ds rK
 rw [PN]
structure Plain (p:aO) (N:Nat):Prop where
 op:opening p=plainProg p.main.scope.names
 n:Nat.ble 600 N=true
 fe:∀ s,fenceModules? p s=some s
theorem iV.look {p:aO} {N:Nat} {β:Type} {f:Shared × SharedT->β} {b:World->β} (h:iV p N f b) (P:Plain p N):Look p N f b:=fun w=>by
 obtain ⟨os,e⟩:=abk P.op P.n P.fe w
 rw [e,afr]
 exact h w os
/-- what is asked of each look,part by part (not as a part of the whole: the kernel would then hold the wholes against each other) -/
theorem afs {p q:aO} {Xt:Shared->Bool} {as:List Addr} {Ya:World->List (Option Obj)} {N:Nat} (P:Plain p N)
  (h0:iV p N (okT p) fun _=>true)
  (h1:iV p N (fun x=>(rK p q Xt x).1) fun _=>aeg q)
  (h2:iV p N (fun x=>(rK p q Xt x).2.1) fun _=>acX)
  (h3:iV p N (fun x=>(rK p q Xt x).2.2.1) fun _=>true)
  (h4:iV p N (fun x=>(rK p q Xt x).2.2.2.1) fun _=>true)
  (h5:iV p N (fun x=>(rK p q Xt x).2.2.2.2.1) fun _=>pinGoodD (aen q))
  (h6:iV p N (fun x=>(rK p q Xt x).2.2.2.2.2.1) fun _=>aeh q (looseW q []))
  (h7:iV p N (fun x=>(rK p q Xt x).2.2.2.2.2.2.1) fun _=>aei q [])
  (h8:iV p N (fun x=>(rK p q Xt x).2.2.2.2.2.2.2.1) fun _=>wideGood q)
  (h9:iV p N (fun x=>(rK p q Xt x).2.2.2.2.2.2.2.2) fun _=>clsGoodW q [])
  (hY:iV p N (fun x=>afm x.2 as) fun w=>some (Ya w)):LeftO p q [] Xt (fun s=>as.map s.heap.get?) Ya N:=by
 rw [<- ahG] at h1 h2 h3 h4 h5 h6 h7 h8 h9
 refine ahE (h0.look P) (h1.look P) (h2.look P) (h3.look P) (h4.look P) (h5.look P) (h6.look P) (h7.look P) (h8.look P) (h9.look P) fun w=>?_
 obtain ⟨x,e,_⟩:=Ib.mp (h0.look P w)
 rw [e]
 exact congrArg some (Z8 ((hY.look P).at e))
end My
namespace My
open PySem L2
def top (i:Nat):Stmt:=ajS.main.body.getD i (.Pass ⟨0,0,0,0⟩)
abbrev s'0:Stmt:=top 31
abbrev s'1:Stmt:=top 32
abbrev s'2:Stmt:=top 33
abbrev s'3:Stmt:=inClass (top 28) 3
abbrev s'4:Stmt:=inClass (top 28) 2
abbrev s'5:Stmt:=top 29
abbrev s'6:Stmt:=top 30
abbrev s'7:Stmt:=inClass (top 28) 0
abbrev s'8:Stmt:=inClass (top 28) 1
abbrev s'9:Stmt:=top 38
abbrev s'10:Stmt:=inClass (top 37) 0
abbrev s'11:Stmt:=inClass (top 37) 3
abbrev s'12:Stmt:=inClass (top 37) 1
abbrev s'13:Stmt:=inClass (top 37) 2
abbrev s'14:Stmt:=top 16
abbrev s'15:Stmt:=top 17
abbrev s'16:Stmt:=inClass (top 19) 0
abbrev s'17:Stmt:=top 20
abbrev s'18:Stmt:=inClass (top 19) 2
abbrev s'19:Stmt:=inClass (top 19) 1
abbrev s'20:Stmt:=inClass (top 23) 0
abbrev s'21:Stmt:=top 24
abbrev s'22:Stmt:=top 25
abbrev s'23:Stmt:=inClass (top 23) 2
abbrev s'24:Stmt:=inClass (top 23) 1
abbrev s'25:Stmt:=top 10
abbrev s'26:Stmt:=inClass (top 9) 0
abbrev s'27:Stmt:=inClass (top 9) 1
abbrev s'28:Stmt:=inClass (top 9) 2
abbrev s'29:Stmt:=inClass (top 41) 1
abbrev s'30:Stmt:=inClass (top 41) 2
abbrev s'31:Stmt:=inClass (top 41) 3
abbrev s'32:Stmt:=inClass (top 41) 0
abbrev s'33:Stmt:=top 45
abbrev s'34:Stmt:=top 46
abbrev s'35:Stmt:=top 47
abbrev s'36:Stmt:=top 48
abbrev s'37:Stmt:=top 49
abbrev s'38:Stmt:=top 54
abbrev s'39:Stmt:=top 50
abbrev s'40:Stmt:=top 51
abbrev s'41:Stmt:=top 52
abbrev s'42:Stmt:=top 53
abbrev s'43:Stmt:=top 26
abbrev s'44:Stmt:=top 34
abbrev s'45:Stmt:=top 35
abbrev s'46:Stmt:=top 39
abbrev s'47:Stmt:=top 11
abbrev s'48:Stmt:=top 21
abbrev s'49:Stmt:=top 42
abbrev s'50:Stmt:=top 43
abbrev s'51:Stmt:=top 55
abbrev s'52:Stmt:=top 56
abbrev s'53:Stmt:=top 57
abbrev s'54:Stmt:=top 58
def LK (K:aZ) (n q:Str) (s:Stmt) (f:Addr):Prop:=∃ (oc:Value) (od an:Option Addr) (sl:Array (Option Value)) (kV dc pm cd ct:Value),K.lookup f=some ⟨oc,od,.func (lK n q (j9 s) (jg s) (aH s) .none kV dc pm an cd ct),sl⟩/\Hv K cd q=true/\oF K (.ref f)=true
def GK (K:aZ) (n q:Str) (s:Stmt) (f:Addr):Prop:=jX K dX n=some (some (.ref f))/\LK K n q s f
def MeK (K:aZ) (C:Addr) (n q:Str) (s:Stmt) (f:Addr):Prop:=iJ K (.ref C) n=some (some (.ref f))/\Hx K (.ref f)=true/\LK K n q s f
def CK (K:aZ) (C:Addr):Prop:=Dc K C WX=true/\Ht K C=true/\OD K C=true/\iJ K (.ref C) "__setattr__" = some (some (.builtin "object.__setattr__"))/\OJ K C=true/\oF K (.ref C)=true
def NK (K:aZ) (C:Addr):List Str->Prop
 | []=>True
 | f::r=>iJ K (.ref C) f=some none/\NK K C r
def ZK (K:aZ):List Str->Prop
 | []=>True
 | n::r=>jX K dX n=some none/\ZK K r
theorem LK.of {K:aZ} {n q:Str} {s:Stmt} {f:Addr} {oc:Value} {od an:Option Addr} {sl:Array (Option Value)} {kV dc pm cd ct:Value} (l:K.lookup f=some ⟨oc,od,.func (lK n q (j9 s) (jg s) (aH s) .none kV dc pm an cd ct),sl⟩) (c:Hv K cd q=true) (k:oF K (.ref f)=true):LK K n q s f:=⟨oc,od,an,sl,kV,dc,pm,cd,ct,l,c,k⟩
theorem GK.of {K:aZ} {n q:Str} {s:Stmt} {f:Addr} (a:jX K dX n=some (some (.ref f))) (l:LK K n q s f):GK K n q s f:=⟨a,l⟩
theorem MeK.of {K:aZ} {C:Addr} {n q:Str} {s:Stmt} {f:Addr} (a:iJ K (.ref C) n=some (some (.ref f))) (i:Hx K (.ref f)=true) (l:LK K n q s f):MeK K C n q s f:=⟨a,i,l⟩
theorem CK.of {K:aZ} {C:Addr} (a:Dc K C WX=true) (b:Ht K C=true) (c:OD K C=true) (d:iJ K (.ref C) "__setattr__" = some (some (.builtin "object.__setattr__"))) (e:OJ K C=true) (f:oF K (.ref C)=true):CK K C:=⟨a,b,c,d,e,f⟩
theorem NK.nil {K:aZ} {C:Addr}:NK K C []:=trivial
theorem NK.cons {K:aZ} {C:Addr} {f:Str} {r:List Str} (a:iJ K (.ref C) f=some none) (b:NK K C r):NK K C (f::r):=⟨a,b⟩
theorem ZK.nil {K:aZ}:ZK K []:=trivial
theorem ZK.cons {K:aZ} {f:Str} {r:List Str} (a:jX K dX f=some none) (b:ZK K r):ZK K (f::r):=⟨a,b⟩
abbrev eX:PySem.W.OpenRow:=Es.row
def view:PySem.Program:={ eX.prog with main:={ eX.prog.main with body:=[top 0,top 2,top 3,top 4,top 5,top 6,top 7,top 9,top 10,top 11,top 13,top 14,top 15,top 16,top 17,top 19,top 20,top 21,top 23,top 24,top 25,top 26,top 28,top 29,top 30,top 31,top 32,top 33,top 34,top 35,top 37,top 38,top 39,top 41,top 42,top 43,top 45,top 46,top 47,top 48,top 49,top 50,top 51,top 52,top 53,top 54,top 55,top 56,top 57,top 58] } }
abbrev xQ:Shared->Bool:=fun s=>PySem.W.xlAt view [] s && PySem.W.recOk eX.records s
theorem seeP:Plain eX.prog 20000:=⟨by kernel_rfl,by kernel_rfl,by intro s;kernel_rfl⟩
theorem seeW:Es.wellSaid=true:=by
 rw [akr]
 kernel_rfl
theorem see0:iV eX.prog 20000 (okT eX.prog) (fun _=>true):=by intro w os;kernel_rfl
theorem see1:iV eX.prog 20000 (fun x=>(rK eX.prog view xQ x).1) (fun _=>aeg view):=by intro w os;kernel_rfl
theorem see2:iV eX.prog 20000 (fun x=>(rK eX.prog view xQ x).2.1) (fun _=>acX):=by intro w os;kernel_rfl
theorem see3:iV eX.prog 20000 (fun x=>(rK eX.prog view xQ x).2.2.1) (fun _=>true):=by intro w os;kernel_rfl
theorem see4:iV eX.prog 20000 (fun x=>(rK eX.prog view xQ x).2.2.2.1) (fun _=>true):=by intro w os;kernel_rfl
theorem see5:iV eX.prog 20000 (fun x=>(rK eX.prog view xQ x).2.2.2.2.1) (fun _=>pinGoodD (aen view)):=by intro w os;kernel_rfl
theorem see6:iV eX.prog 20000 (fun x=>(rK eX.prog view xQ x).2.2.2.2.2.1) (fun _=>aeh view (PySem.W.looseW view [])):=by intro w os;kernel_rfl
theorem see7:iV eX.prog 20000 (fun x=>(rK eX.prog view xQ x).2.2.2.2.2.2.1) (fun _=>aei view []):=by intro w os;kernel_rfl
theorem see8:iV eX.prog 20000 (fun x=>(rK eX.prog view xQ x).2.2.2.2.2.2.2.1) (fun _=>PySem.W.wideGood view):=by intro w os;kernel_rfl
theorem see9:iV eX.prog 20000 (fun x=>(rK eX.prog view xQ x).2.2.2.2.2.2.2.2) (fun _=>PySem.W.clsGoodW view []):=by intro w os;kernel_rfl
def aft (R:World->aZ->(Str->Option Value)->Addr->Prop):Prop:=∀ {w:World} {K:aZ} {h:Heap} {mg:Str->Option Value} {fa cV gW gQ gY rM bw gJ KJ Im Io Ip Ir f'0 f'1 f'2 f'3 f'4 f'5 f'6 f'7 f'8 f'9 Ro Xd Xe Xf Xg Xh Rp Xi Xj Xk Rq Xl Xm Xn Xo Xp Rr Xq Xr Xu Xv Xw Rt Xx Xy Xz XC XD XF XH XJ XM XQ XR XS X3 X4 X5 X6 X7 X8 Yb Yc Yd abl:Addr} (X:K.In h) (G:h.Ns dX mg) (hfa:mg "law" = some (.ref fa))
  (aae:jX K dX "Rungs" = some (some (.ref cV)))
  (vN:CK K cV)
  (Aj:NK K cV ["room","total","over","under","turns","least","most","rungs"])
  (aaf:jX K dX "Window" = some (some (.ref gW)))
  (rN:CK K gW)
  (wL:NK K gW ["room","reach","clock","boxes"])
  (aag:jX K dX "Distinct" = some (some (.ref gQ)))
  (mH:CK K gQ)
  (pW:NK K gQ ["room","arrivals","level","kept"])
  (aah:jX K dX "Frequent" = some (some (.ref gY)))
  (mJ:CK K gY)
  (pY:NK K gY ["room","total","lost","counts"])
  (aai:jX K dX "Balance" = some (some (.ref rM)))
  (oK:CK K rM)
  (tD:NK K rM ["span","sums"])
  (aaj:jX K dX "Keepsake" = some (some (.ref bw)))
  (jM:CK K bw)
  (pZ:NK K bw ["room","reach","span","came","went","up","down","window","seen","balance"])
  (p8:iJ K (.ref bw) "__class__" = some (some (.builtin "object.__class__")))
  (qe:Hu K (.builtin "object.__class__") "__get__" = some (some (.builtin "getset_descriptor.__get__")))
  (qg:O1 K (.builtin "object.__class__")=some true)
  (qj:nG K bw (.type "object")=some true)
  (aak:jX K dX "Unlike" = some (some (.ref gJ)))
  (aal:jX K dX "KeepError" = some (some (.ref KJ)))
  (aam:jX K dX "BadText" = some (some (.ref Im)))
  (aan:jX K dX "OutOfReach" = some (some (.ref Io)))
  (aao:jX K dX "TooFine" = some (some (.ref Ip)))
  (aap:jX K dX "TooManyOff" = some (some (.ref Ir)))
  (iW:Hw K gJ [.type "ValueError",.type "Exception",.type "BaseException",.type "object"] "ValueError.__new__" = true)
  (gb:nG K gJ (.ref KJ)=some true)
  (gj:nG K KJ (.type "BaseException")=some true)
  (gk:Dd K (.ref KJ)=some (.type "type"))
  (ql:iJ K (.ref gJ) "__getattribute__" = some (some (.builtin "BaseException.__getattribute__")))
  (qm:iJ K (.ref gJ) "__getattr__" = some none)
  (qp:iJ K (.ref gJ) "__class__" = some (some (.builtin "object.__class__")))
  (qt:nG K gJ (.type "BaseException")=some true)
  (qu:nG K gJ (.type "object")=some true)
  (qw:Dd K (.ref gJ)=some (.type "type"))
  (qx:nG K gJ (.ref gJ)=some true)
  (qy:Hu K (.builtin "object.__class__") "__get__" = some (some (.builtin "getset_descriptor.__get__")))
  (qz:O1 K (.builtin "object.__class__")=some true)
  (fH:oG K (.ref gJ) (.ref gJ)=some true)
  (dJ:oG K (.ref gJ) (.type "ValueError")=some true)
  (nY:VR K (.ref gJ) [(.ref Im),(.ref Io),(.ref Ip),(.ref Ir)]=some false)
  (a'0:GK K "with_thing" "with_thing" s'0 f'0)
  (a'1:GK K "left_behind" "left_behind" s'1 f'1)
  (a'2:GK K "risen" "risen" s'2 f'2)
  (a'3:MeK K cV "turn" "Rungs.turn" s'3 f'3)
  (a'4:MeK K cV "settle" "Rungs.settle" s'4 f'4)
  (a'5:GK K "lesser" "lesser" s'5 f'5)
  (a'6:GK K "greater" "greater" s'6 f'6)
  (a'7:MeK K cV "__init__" "Rungs.__init__" s'7 f'7)
  (a'8:MeK K cV "add" "Rungs.add" s'8 f'8)
  (a'9:GK K "joined" "joined" s'9 f'9)
  (Qa:MeK K gW "__init__" "Window.__init__" s'10 Ro)
  (Rv:MeK K gW "settle" "Window.settle" s'11 Xd)
  (Rw:MeK K gW "add" "Window.add" s'12 Xe)
  (Rx:MeK K gW "idle" "Window.idle" s'13 Xf)
  (Ye:GK K "spread" "spread" s'14 Xg)
  (Yg:GK K "mark" "mark" s'15 Xh)
  (Qc:MeK K gQ "__init__" "Distinct.__init__" s'16 Rp)
  (Yh:GK K "of_marks" "of_marks" s'17 Xi)
  (Ry:MeK K gQ "settle" "Distinct.settle" s'18 Xj)
  (Rz:MeK K gQ "add" "Distinct.add" s'19 Xk)
  (Qd:MeK K gY "__init__" "Frequent.__init__" s'20 Rq)
  (Yi:GK K "cut_of" "cut_of" s'21 Xl)
  (Yj:GK K "lowered" "lowered" s'22 Xm)
  (RB:MeK K gY "fit" "Frequent.fit" s'23 Xn)
  (RD:MeK K gY "add" "Frequent.add" s'24 Xo)
  (Yk:GK K "with_row" "with_row" s'25 Xp)
  (Qe:MeK K rM "__init__" "Balance.__init__" s'26 Rr)
  (RJ:MeK K rM "put" "Balance.put" s'27 Xq)
  (RK:MeK K rM "take" "Balance.take" s'28 Xr)
  (RL:MeK K bw "put" "Keepsake.put" s'29 Xu)
  (RM:MeK K bw "take" "Keepsake.take" s'30 Xv)
  (RN:MeK K bw "idle" "Keepsake.idle" s'31 Xw)
  (Qf:MeK K bw "__init__" "Keepsake.__init__" s'32 Rt)
  (Yl:GK K "_law_mix" "_law_mix" s'33 Xx)
  (Ym:GK K "_law_far_back" "_law_far_back" s'34 Xy)
  (Yn:GK K "_law_thing_by" "_law_thing_by" s'35 Xz)
  (Yo:GK K "_law_weight_by" "_law_weight_by" s'36 XC)
  (Yp:GK K "_law_row_by" "_law_row_by" s'37 XD)
  (Yq:GK K "_law_shape_by" "_law_shape_by" s'38 XF)
  (Yr:GK K "_law_done" "_law_done" s'39 XH)
  (Ys:GK K "_law_frequent" "_law_frequent" s'40 XJ)
  (Yt:GK K "_law_rungs" "_law_rungs" s'41 XM)
  (Yu:GK K "_law_state" "_law_state" s'42 XQ)
  (Yv:GK K "poured_frequent" "poured_frequent" s'43 XR)
  (Yw:GK K "list_at" "list_at" s'44 XS)
  (Yx:GK K "poured_rungs" "poured_rungs" s'45 X3)
  (Yy:GK K "followed" "followed" s'46 X4)
  (Yz:GK K "poured_balance" "poured_balance" s'47 X5)
  (YB:GK K "poured_distinct" "poured_distinct" s'48 X6)
  (YC:GK K "empty_like" "empty_like" s'49 X7)
  (YD:GK K "poured" "poured" s'50 X8)
  (YF:GK K "_law_by_parts" "_law_by_parts" s'51 Yb)
  (YG:GK K "_law_unlike" "_law_unlike" s'52 Yc)
  (YH:GK K "_law_refused" "_law_refused" s'53 Yd)
  (KN:GK K "law" "law" s'54 abl)
  (zk:ZK K ["ValueError","dict","isinstance","len","list","max","min","range","reversed","set","sorted","sum","zip"])
  {aaq:Tok}
  (Qg:jX K dX "MOST" = some (some (.int 1152921504606846976 aaq)))
  {rO:Tok}
  (ju:jX K dX "MOST_HALVINGS" = some (some (.int 60 rO)))
  {Lx:Tok}
  (Ak:jX K dX "SPREAD" = some (some (.int 770093176312745717 Lx))),
  R w K mg fa
end My
section
open PySem PySem.W PyProof.Rows L2
local macro_rules
  | `(tactic| o_head $H) => `(tactic|
    (refine holds_open (r := My.eX) (q := My.view) (loose := []) (N := 20000)
        (Xt := My.xQ) (XP := XL My.view [])
        (Yf := Hook.obs $H) (Ya := Hook.val $H) (YP := Hook.says $H) ?hl (Hook.of $H) (Hook.keeps $H)
        (fun s e => xl_of s (aex.mp e).1) XL.keeps
        (by rfl) (by rfl) (by rfl)
        (fun s e => recFacts_of (aex.mp e).2) (by rfl)
        (by first | assumption | decide +kernel) tb_g%
        ⟨rfl, rfl, rfl, rfl, rfl, by decide +kernel⟩ ?hw ?hc;
     (case hl => exact My.afs My.seeP My.see0 My.see1 My.see2 My.see3 My.see4 My.see5 My.see6 My.see7 My.see8 My.see9 (by intro w os; kernel_rfl))))
local macro_rules
  | `(tactic| k_is) => `(tactic| first
    | (refine' My.LK.of ?lkl ?lkc ?lkk; (case lkl => k_is); (case lkc => k_is); (case lkk => k_is))
    | (refine' My.GK.of ?gka ?gkl; (case gka => k_is); (case gkl => k_is))
    | (refine' My.MeK.of ?mka ?mki ?mkl; (case mka => k_is); (case mki => k_is); (case mkl => k_is))
    | exact My.NK.nil
    | exact My.ZK.nil
    | (refine' My.NK.cons ?nka ?nkb; (case nka => k_is); (case nkb => k_is))
    | (refine' My.ZK.cons ?zka ?zkb; (case zka => k_is); (case zkb => k_is))
    | (refine' My.CK.of ?ck1 ?ck2 ?ck3 ?ck4 ?ck5 ?ck6; (case ck1 => k_is); (case ck2 => k_is); (case ck3 => k_is); (case ck4 => k_is); (case ck5 => k_is); (case ck6 => k_is))
    | fail)
open My in
set_option maxRecDepth 100000 in
set_option maxHeartbeats 0 in
theorem My.head (R:World->aZ->(Str->Option Value)->Addr->Prop) (mk:My.aft R)
  (wk:∀ {q:aO} {loose:List Str} {XP:(Str->Option Value)->Heap->Prop} {YP:World->Heap->Prop} {d:Og} {K:CQ->aZ},Es.most=some 63->d.params.defaults=[]->(∀ (w:World) (h:Heap),YP w h->(K w.params).In h)->(∀ (w:World) (mg:Str->Option Value) (fa:Addr) (h:Heap),(K w.params).In h->h.Ns dX mg->mg d.name=some (.ref fa)->R w (K w.params) mg fa)->V1 q loose XP YP Es.row.toRowW d [] (fun f vs=>NT f vs)):Es.Holds:=by
 w_on;refine PySem.W.holds_law My.seeW fun said=>?_;k_head;(case hw=>w_witness2)
 k_fill
 refine wk rfl rfl (fun w h Y=>ajR Y) ?F
 case F =>
  intro w mg fa h KX G hmg
  refine' mk KX G hmg ?aae ?vN ?Aj ?aaf ?rN ?wL ?aag ?mH ?pW ?aah ?mJ ?pY ?aai ?oK ?tD ?aaj ?jM ?pZ ?p8 ?qe ?qg ?qj ?aak ?aal ?aam ?aan ?aao ?aap ?iW ?gb ?gj ?gk ?ql ?qm ?qp ?qt ?qu ?qw ?qx ?qy ?qz ?fH ?dJ ?nY ?a'0 ?a'1 ?a'2 ?a'3 ?a'4 ?a'5 ?a'6 ?a'7 ?a'8 ?a'9 ?Qa ?Rv ?Rw ?Rx ?Ye ?Yg ?Qc ?Yh ?Ry ?Rz ?Qd ?Yi ?Yj ?RB ?RD ?Yk ?Qe ?RJ ?RK ?RL ?RM ?RN ?Qf ?Yl ?Ym ?Yn ?Yo ?Yp ?Yq ?Yr ?Ys ?Yt ?Yu ?Yv ?Yw ?Yx ?Yy ?Yz ?YB ?YC ?YD ?YF ?YG ?YH ?KN ?zk ?Qg ?ju ?Ak
  (case aae=>k_is)
  (case vN=>k_is)
  (case Aj=>k_is)
  (case aaf=>k_is)
  (case rN=>k_is)
  (case wL=>k_is)
  (case aag=>k_is)
  (case mH=>k_is)
  (case pW=>k_is)
  (case aah=>k_is)
  (case mJ=>k_is)
  (case pY=>k_is)
  (case aai=>k_is)
  (case oK=>k_is)
  (case tD=>k_is)
  (case aaj=>k_is)
  (case jM=>k_is)
  (case pZ=>k_is)
  (case p8=>k_is)
  (case qe=>k_is)
  (case qg=>k_is)
  (case qj=>k_is)
  (case aak=>k_is)
  (case aal=>k_is)
  (case aam=>k_is)
  (case aan=>k_is)
  (case aao=>k_is)
  (case aap=>k_is)
  (case iW=>k_exc)
  (case gb=>k_is)
  (case gj=>k_is)
  (case gk=>k_is)
  (case ql=>k_is)
  (case qm=>k_is)
  (case qp=>k_is)
  (case qt=>k_is)
  (case qu=>k_is)
  (case qw=>k_is)
  (case qx=>k_is)
  (case qy=>k_is)
  (case qz=>k_is)
  (case fH=>kit_is)
  (case dJ=>kit_is)
  (case nY=>kit_is)
  (case a'0=>k_is)
  (case a'1=>k_is)
  (case a'2=>k_is)
  (case a'3=>k_is)
  (case a'4=>k_is)
  (case a'5=>k_is)
  (case a'6=>k_is)
  (case a'7=>k_is)
  (case a'8=>k_is)
  (case a'9=>k_is)
  (case Qa=>k_is)
  (case Rv=>k_is)
  (case Rw=>k_is)
  (case Rx=>k_is)
  (case Ye=>k_is)
  (case Yg=>k_is)
  (case Qc=>k_is)
  (case Yh=>k_is)
  (case Ry=>k_is)
  (case Rz=>k_is)
  (case Qd=>k_is)
  (case Yi=>k_is)
  (case Yj=>k_is)
  (case RB=>k_is)
  (case RD=>k_is)
  (case Yk=>k_is)
  (case Qe=>k_is)
  (case RJ=>k_is)
  (case RK=>k_is)
  (case RL=>k_is)
  (case RM=>k_is)
  (case RN=>k_is)
  (case Qf=>k_is)
  (case Yl=>k_is)
  (case Ym=>k_is)
  (case Yn=>k_is)
  (case Yo=>k_is)
  (case Yp=>k_is)
  (case Yq=>k_is)
  (case Yr=>k_is)
  (case Ys=>k_is)
  (case Yt=>k_is)
  (case Yu=>k_is)
  (case Yv=>k_is)
  (case Yw=>k_is)
  (case Yx=>k_is)
  (case Yy=>k_is)
  (case Yz=>k_is)
  (case YB=>k_is)
  (case YC=>k_is)
  (case YD=>k_is)
  (case YF=>k_is)
  (case YG=>k_is)
  (case YH=>k_is)
  (case KN=>k_is)
  (case zk=>k_is)
  (case Qg=>k_is)
  (case ju=>k_is)
  (case Ak=>k_is)
end
set_option Elab.async false
set_option linter.all false
set_option maxRecDepth 100000
namespace L2
open PySem PySem.Spec PyProof.Rows
variable {pins:List (Addr × Obj)} {E Q:Value->Shared->Prop} {s s':Shared} {w:World} {x name qual m:Str} {u:Value} {A:bA} {us:List Value} {e tg c l:Expr} {mg mA:Str->Option Value} {kindOf:Str->Option yF} {P prog:aO} {es:List Expr} {k t' i n:Nat} {h base h':Heap} {f:Value->Value->Sem Value} {kw:List (Str × Value)} {C dx it:Addr} {ps N:List Str} {fd:FuncData} {body:List Stmt} {outer:List Env} {ch fp:List Addr} {pl:Sem Bool} {g':Array GenState} {g:Int->Int->Int} {op:CmpOp} {scope:Scope} {d':Drawn} {pos' p:Pos} {α:Type}
noncomputable abbrev Key:=Sum Int Str
noncomputable def Iu:Key->Value->Bool
 | .inl k,v=>Dr k v
 | .inr x,v=>aeW x v
noncomputable def keyH (w:World):Key->Int
 | .inl k=>hashInt k
 | .inr x=>hashStr w x
theorem fG:∀ {k:Key} {v:Value},Iu k v=true->(∃ i t,k=Sum.inl i/\v=Value.int i t)\/(∃ x t,k=Sum.inr x/\v=Value.str x t)
 | .inl i,v,h=>by
  obtain ⟨t,e⟩:=Value.isInt_shape (k:=i) (v:=v) h
  exact .inl ⟨i,t,rfl,e⟩
 | .inr x,v,h=>by
  obtain ⟨t,e⟩:=Value.isStrOf_shape (x:=x) (v:=v) h
  exact .inr ⟨x,t,rfl,e⟩
theorem abm (i:Int) (t:Tok):Iu (.inl i) (.int i t)=true:=by simp [Iu,Dr]
theorem abn (x:Str) (t:Tok):Iu (.inr x) (.str x t)=true:=by simp [Iu,aeW]
theorem ale (a b:Int):decide ((Sum.inl a:Key)=Sum.inl b)=(a == b):=by
 by_cases e:a=b
 ·subst e;simp
 ·have h:¬ (Sum.inl a:Key)=Sum.inl b:=fun q=>e (afk q)
  rw [decide_eq_false h]
  exact (beq_eq_false_iff_ne.mpr e).symm
theorem alf (a b:Str):decide ((Sum.inr a:Key)=Sum.inr b)=decide (a=b):=by
 by_cases e:a=b
 ·subst e;simp
 ·have h:¬ (Sum.inr a:Key)=Sum.inr b:=fun q=>e (Sum.inr.inj q)
  rw [decide_eq_false h,decide_eq_false e]
theorem alg (a:Int) (b:Str):decide ((Sum.inl a:Key)=Sum.inr b)=false:=decide_eq_false (fun q=>nomatch q)
theorem alh (a:Str) (b:Int):decide ((Sum.inr a:Key)=Sum.inl b)=false:=decide_eq_false (fun q=>nomatch q)
noncomputable def dg (prog:aO) (w:World):PySem.KeyKind prog w Key where
 is:=Iu
 hash:=keyH w
 inj:=fun v a b ha hb=>by
  rcases fG ha with ⟨i,t,rfl,rfl⟩ | ⟨x,t,rfl,rfl⟩
  ·rcases fG hb with ⟨j,u,rfl,e⟩ | ⟨y,u,rfl,e⟩
   ·injection e with e1 _;rw [e1]
   ·exact nomatch e
  ·rcases fG hb with ⟨j,u,rfl,e⟩ | ⟨y,u,rfl,e⟩
   ·exact nomatch e
   ·injection e with e1 _;rw [e1]
 byValue:=fun k v h=>by
  rcases fG h with ⟨i,t,rfl,rfl⟩ | ⟨x,t,rfl,rfl⟩ <;> rfl
 pyHash:=fun hv h=>by
  rcases fG hv with ⟨i,t,rfl,rfl⟩ | ⟨x,t,rfl,rfl⟩
  ·exact wpAny_pyHash_int h
  ·exact wpAny_pyHash_str h
 eqBool:=fun hu hv h=>by
  rcases fG hu with ⟨i,t,rfl,rfl⟩ | ⟨x,t,rfl,rfl⟩
  ·rcases fG hv with ⟨j,u,rfl,rfl⟩ | ⟨y,u,rfl,rfl⟩
   ·rw [ale] at h;exact Uy h
   ·rw [alg] at h;exact aeZ i t y u _ _ _ _ h
  ·rcases fG hv with ⟨j,u,rfl,rfl⟩ | ⟨y,u,rfl,rfl⟩
   ·rw [alh] at h;exact ae0 x t j u _ _ _ _ h
   ·rw [alf] at h;exact wpAny_eqBool_str h
 «strs» := fun k x t v h=>by
  rcases fG h with ⟨i,u,rfl,e⟩ | ⟨y,u,rfl,e⟩
  ·exact nomatch e
  ·injection e with e1 _
   subst e1
   cases v <;> rfl
theorem RQ (prog:aO) (w:World) (i:Int) (t:Tok):(dg prog w).is (.inl i) (.int i t)=true:=abm i t
theorem RT (prog:aO) (w:World) (x:Str) (t:Tok):(dg prog w).is (.inr x) (.str x t)=true:=abn x t
inductive V where
 | non | bl (b:Bool) | int (i:Int) | str (x:Str) | byt (b:Array UInt8) | flt (b:UInt64) | ref (a:Addr) | ty (n:String)
 deriving DecidableEq
variable {v y:V} {vs xs:List V}
noncomputable def RelV:V->Value->Prop
 | .non,u=>u=Value.none
 | .bl b,u=>u=Value.bool b
 | .int i,u=>∃ t,u=Value.int i t
 | .str x,u=>∃ t,u=Value.str x t
 | .byt b,u=>∃ t,u=Value.bytes b t
 | .flt b,u=>∃ t,u=Value.float b t
 | .ref a,u=>u=Value.ref a
 | .ty n,u=>u=Value.type n
noncomputable abbrev Vals:List V->List Value->Prop:=Paired RelV
theorem Vals.length (r:Vals xs us):xs.length=us.length:=W9 r
theorem Vals.get:∀ {xs:List V} {us:List Value} {i:Nat} {x:V},Vals xs us->xs[i]? = some x->∃ u,us[i]? = some u/\RelV x u
 | _,_,_,_,.nil,e=>by simp at e
 | _,_,0,_,.cons r _,e=>by simp at e;subst e;exact ⟨_,rfl,r⟩
 | _,_,i+1,x,.cons _ t,e=>by
  obtain ⟨u,h1,h2⟩:=Vals.get (i:=i) (x:=x) t (by simpa using e)
  exact ⟨u,by simpa using h1,h2⟩
theorem Vals.set {x:V} (r:RelV x u):∀ {xs:List V} {us:List Value} (i:Nat),Vals xs us->Vals (xs.set i x) (us.set i u)
 | _,_,_,.nil=>.nil
 | _,_,0,.cons _ t=>.cons r t
 | _,_,i+1,.cons q t=>.cons q (Vals.set r i t)
theorem Vals.append:∀ {xs ys:List V} {us ws:List Value},Vals xs us->Vals ys ws->Vals (xs++ys) (us++ws)
 | _,_,_,_,.nil,s=>s
 | _,_,_,_,.cons r t,s=>.cons r (Vals.append t s)
theorem Vals.take:∀ {xs:List V} {us:List Value} (n:Nat),Vals xs us->Vals (xs.take n) (us.take n)
 | _,_,0,_=>.nil
 | _,_,_+1,.nil=>.nil
 | _,_,n+1,.cons r t=>.cons r (Vals.take n t)
theorem Vals.drop:∀ {xs:List V} {us:List Value} (n:Nat),Vals xs us->Vals (xs.drop n) (us.drop n)
 | _,_,0,r=>r
 | _,_,_+1,.nil=>.nil
 | _,_,n+1,.cons _ t=>Vals.drop n t
theorem Vals.none_of:∀ {xs:List V} {us:List Value} {i:Nat},Vals xs us->xs[i]? = none->us[i]? = none:=fun {xs us i} r e=>by
 have h1:=r.length
 have h2:xs.length<=i:=Vh.mp e
 exact Vh.mpr tb_g%
noncomputable def uW:Option V->Option Value->Prop
 | some v,some u=>RelV v u
 | none,none=>True
 | _,_=>False
noncomputable def KV {κ:Type}:List (κ × V)->List (κ × Value)->Prop:=Paired fun (p:κ × V) (q:κ × Value)=>p.1=q.1/\RelV p.2 q.2
noncomputable def kV:Key->V
 | .inl i=>.int i
 | .inr x=>.str x
inductive HO where
 /-- a list -/
 | lst (xs:List V)
 /-- a tuple (never changes) -/
 | tup (xs:List V)
 /-- a dict whose keys are ints and texts;one whose keys are tuples of ints and texts (the empty one is both) -/
 | dK (kvs:List (Key × V)) | dT (kvs:List (List Key × V))
 /-- a set of ints: its members,its size -/
 | set (S:Int->Bool) (n:Nat)
 /-- an instance of the class at C,its dict at dx,its attributes -/
 | ins (C dx:Addr) (fs:List (Str × V))
 /-- the dict of the instance at x -/
 | own (x:Addr)
 /-- the dict of an exception -/
 | xd (fs:List (Str × V))
 /-- a bound method,f of x -/
 | met (f x:Addr)
 /-- a range object lo,lo+1,.. below hi -/
 | rng (lo hi:Int)
 /-- a thing that is known to the object (the script;a dict while a loop walks it): read,never written while it is so -/
 | frz (o:Obj) (u:HO)
 /-- a code object's table -/
 | tbl (ps:Array Value)
 /-- any other thing,by what is true of its one object (a def of one's own: SetO a S n:=HO.ext fun h=>..) -/
 | ext (φ:Heap->Prop)
variable {o:HO}
noncomputable abbrev Hp:=Addr->Option HO
variable {H H':Hp}
noncomputable def upd (H:Hp) (a:Addr) (o:HO):Hp:=fun b=>if b=a then some o else H b
theorem ao {a:Addr} :upd H a o a=some o:=by unfold upd;rw [if_pos rfl]
theorem au {a b:Addr} (h:b≠a):upd H a o b=H b:=by unfold upd;rw [if_neg h]
theorem cQ {a:Addr} {u:HO}:upd (upd H a o) a u=upd H a u:=by
 funext b;unfold upd;split <;> rfl
theorem jq {a b:Addr} {u:HO} (h:H a=some o) (h':H b=some u) (d:o≠u):a≠b:=by
 intro e;subst e;rw [h] at h';exact d (cI h')
theorem ak {a b:Addr} (h:H a=some o) (h':H b=none):a≠b:=by
 intro e;subst e;rw [h] at h';cases h'
section
variable (P:aO) (w:World)
noncomputable def dh (H:Hp) (h:Heap) (a:Addr):HO->Prop
 | .lst xs=>xs.length<=sizeLine/\∃ (its:List Value) (n:Nat),Vals xs its/\h.get? a=some { cls:=.type "list",data:=.seq its.toArray n }
 | .tup xs=>xs.length<=sizeLine/\∃ its:List Value,Vals xs its/\IsTup h a its.toArray
 | .dK kvs=>kvs.length<=sizeLine/\(a == qQ)=false/\∃ vs,KV kvs vs/\h.DictOf (dg P w) a vs
 | .dT kvs=>kvs.length<=sizeLine/\(a == qQ)=false/\∃ xs:List (List Key × Addr × Value),
   Paired (fun (p:List Key × V) (q:List Key × Addr × Value)=>p.1=q.1/\H q.2.1=some (.tup (p.1.map kV))/\RelV p.2 q.2.2) kvs xs /\
   ∃ o es ep,h.get? a=some o/\o.ExactDict/\o.data = .dict es ep/\es.toList=xs.map (entryOfKey (CJ (dg P w)))/\(xs.map (·.1)).Nodup
 | .set S n=>h.SetOf (iw P w) a S n
 | .ins C dx fs=>H dx=some (.own a)/\fs.length<=1000/\dx≠a/\h.get? a=some (vD C dx) /\
   ∃ mA,h.Ns1 dx mA/\(∀ f,uW (fs.lookup f) (mA f))/\UW mA (fs.map (·.1))
 | .own _=>∃ o,h.get? a=some o
 | .xd fs=>∃ mA,h.Ns1 a mA/\∀ f,uW (fs.lookup f) (mA f)
 | .rng lo hi=>∃ t u v,h.get? a=some { cls:=.type "range",data:=.fields #[.int lo t,.int hi u,.int 1 v] }
 | .frz o u=>h.get? a=some o/\dh H h a u
 | .tbl ps=>h.get? a=some { cls:=.none,data:=.fields ps }
 | .met f x=>h.get? a=some (VN (.ref f) (.ref x))
 | .ext φ=>φ h/\(∃ o,h.get? a=some o)/\∀ h1 h2:Heap,φ h1->(∀ o,h1.get? a=some o->h2.get? a=some o)->φ h2
noncomputable def HOk (H:Hp) (h:Heap):Prop:=∀ a o,H a=some o->dh P w H h a o
end
section
variable {a:Addr}
theorem dh.lt (x:dh P w H h a o):a<h.objs.size:=by
 cases o with
 | lst xs=>obtain ⟨_,_,_,_,e⟩:=x;exact bQ e
 | tup xs=>obtain ⟨_,_,_,p⟩:=x;exact p.lt
 | dK kvs=>obtain ⟨_,_,_,_,o,_,_,e,_⟩:=x;exact bQ e
 | dT kvs=>obtain ⟨_,_,_,_,o,_,_,e,_⟩:=x;exact bQ e
 | set S n=>obtain ⟨o,_,_,_,e,_⟩:=x;exact bQ e
 | ins C dx fs=>obtain ⟨_,_,_,e,_⟩:=x;exact bQ e
 | own y=>obtain ⟨_,e⟩:=x;exact bQ e
 | xd fs=>obtain ⟨_,⟨_,_,_,e,_⟩,_⟩:=x;exact bQ e
 | rng lo hi=>obtain ⟨_,_,_,e⟩:=x;exact bQ e
 | frz ob u=>obtain ⟨e,_⟩:=x;exact bQ e
 | tbl ps=>exact bQ (show h.get? a=some _ from x)
 | met f y=>exact bQ (show h.get? a=some _ from x)
 | ext φ=>obtain ⟨_,⟨_,e⟩,_⟩:=x;exact bQ e
theorem Paired.mapP {β:Type} {F G:α->β->Prop}:∀ {l₁:List α} {l₂:List β},Paired F l₁ l₂->(∀ a b,F a b->G a b)->Paired G l₁ l₂
 | _,_,.nil,_=>.nil
 | _,_,.cons r t,f=>.cons (f _ _ r) (Paired.mapP t f)
theorem dh.stay (x:dh P w H h a o) (k:∀ b u,(b=a\/H b=some (.own a))->h.get? b=some u->h'.get? b=some u)
  (ho:∀ b,H b=some (.own a)->H' b=some (.own a)) (ht:∀ b xs,H b=some (.tup xs)->H' b=some (.tup xs)):dh P w H' h' a o:=by
 induction o with
 | lst xs=>obtain ⟨z,its,n,r,e⟩:=x;exact ⟨z,its,n,r,k _ _ (.inl rfl) e⟩
 | tup xs=>obtain ⟨z,its,r,ob,e,c⟩:=x;exact ⟨z,its,r,ob,k _ _ (.inl rfl) e,c⟩
 | dK kvs=>obtain ⟨z,y,vs,r,ob,es,ep,e,c⟩:=x;exact ⟨z,y,vs,r,ob,es,ep,k _ _ (.inl rfl) e,c⟩
 | dT kvs =>
  obtain ⟨z,y,xs,r,ob,es,ep,e,c⟩:=x
  exact ⟨z,y,xs,Paired.mapP r fun p q z=>⟨z.1,ht _ _ z.2.1,z.2.2⟩,ob,es,ep,k _ _ (.inl rfl) e,c⟩
 | set S n=>obtain ⟨ob,es,ep,t,e,c⟩:=x;exact ⟨ob,es,ep,t,k _ _ (.inl rfl) e,c⟩
 | ins C dx fs =>
  obtain ⟨d,z,ne,e,mA,⟨od,es,ep,e2,c⟩,r⟩:=x
  exact ⟨ho _ d,z,ne,k _ _ (.inl rfl) e,mA,⟨od,es,ep,k _ _ (.inr d) e2,c⟩,r⟩
 | own y=>obtain ⟨ob,e⟩:=x;exact ⟨ob,k _ _ (.inl rfl) e⟩
 | xd fs=>obtain ⟨mA,⟨od,es,ep,e,c⟩,r⟩:=x;exact ⟨mA,⟨od,es,ep,k _ _ (.inl rfl) e,c⟩,r⟩
 | rng lo hi=>obtain ⟨t,u,v,e⟩:=x;exact ⟨t,u,v,k _ _ (.inl rfl) e⟩
 | frz ob u ih=>obtain ⟨e,q⟩:=x;exact ⟨k _ _ (.inl rfl) e,ih q⟩
 | tbl ps =>
  have e:h.get? a=some { cls:=.none,data:=.fields ps }:=x
  show h'.get? a=some { cls:=.none,data:=.fields ps }
  exact k a _ (.inl rfl) e
 | met f y =>
  have e:h.get? a=some (VN (.ref f) (.ref y)):=x
  show h'.get? a=some (VN (.ref f) (.ref y))
  exact k a _ (.inl rfl) e
 | ext φ=>obtain ⟨p,⟨o,e⟩,st⟩:=x;exact ⟨st _ _ p fun o q=>k _ _ (.inl rfl) q,⟨o,k _ _ (.inl rfl) e⟩,st⟩
theorem HOk.lt (x:HOk P w H h) (e:H a=some o):a<h.objs.size:=(x a o e).lt
theorem HOk.fresh (x:HOk P w H h) (e:h.objs.size<=a):H a=none:=by
 cases q:H a with
 | none=>rfl
 | some u=>exact absurd (f9 (x.lt q) e) (pP _)
theorem HOk.kept (x:HOk P w H h) (k:∀ b u,h.get? b=some u->h'.get? b=some u):HOk P w H h':=fun a o e =>
 (x a o e).stay (fun b u _ q=>k b u q) (fun _ q=>q) fun _ _ q=>q
theorem HOk.laid (x:HOk P w H h) (k:∀ b u,h.get? b=some u->h'.get? b=some u) (hp:h.objs.size<=a) (new:dh P w (upd H a o) h' a o):HOk P w (upd H a o) h':=fun b u e=>by
 have hn:=x.fresh hp
 by_cases hb:b=a
 ·subst hb;rw [ao] at e;cases e;exact new
 ·rw [au hb] at e
  exact (x b u e).stay (fun c v _ q=>k c v q) (fun c q=>by rw [au (ak q hn)];exact q) fun c xs q=>by rw [au (ak q hn)];exact q
end
noncomputable def Rd (H:Hp) (a:Addr) (u:HO):Prop:=H a=some u\/∃ o,H a=some (.frz o u)
theorem Rd.ok {a:Addr} {u:HO} (r:Rd H a u) (x:HOk P w H h):dh P w H h a u:=by
 rcases r with r | ⟨o,r⟩
 ·exact x a u r
 ·obtain ⟨_,q⟩:=x a _ r
  exact q
noncomputable def Mut:Option HO->Prop
 | some (.lst _)=>True
 | some (.dK _)=>True
 | some (.dT _)=>True
 | some (.set _ _)=>True
 | some (.ins _ _ _)=>True
 | some (.ext _)=>True
 | _=>False
section
variable {x e:Addr} {o':HO}
theorem HOk.write (ok:HOk P w H h) (mu:Mut (H x)) (he:e=x\/H e=some (.own x)) (k:∀ b u,b≠e->h.get? b=some u->h'.get? b=some u) (heo:∃ u,h'.get? e=some u)
  (new:dh P w (upd H x o') h' x o'):HOk P w (upd H x o') h':=fun b u q=>by
 have nown:∀ c y,H c=some (.own y)->c≠x:=fun c y r z=>by subst z;rw [r] at mu;exact mu
 have ntup:∀ c xs,H c=some (.tup xs)->c≠x:=fun c xs r z=>by subst z;rw [r] at mu;exact mu
 by_cases hb:b=x
 ·subst hb;rw [ao] at q;cases q;exact new
 ·rw [au hb] at q
  by_cases hbe:b=e
  ·have q':H b=some (.own x):=by
    rcases he with z | z
    ·exact absurd (hbe.trans z) hb
    ·rw [hbe];exact z
   rw [q] at q';cases q'
   obtain ⟨v,hv⟩:=heo
   exact ⟨v,by rw [hbe];exact hv⟩
  ·refine (ok b u q).stay (fun c v hc r=>k c v ?_ r) (fun c r=>by rw [au (nown c b r)];exact r) fun c xs r=>by rw [au (ntup c xs r)];exact r
   rcases hc with rfl | hc
   ·exact hbe
   ·rintro rfl
    rcases he with z | z
    ·exact nown c b hc z
    ·rw [hc] at z;cases z;exact hb rfl
end
structure Un (fs ex:List Addr) (H H':Hp) (h h':Heap):Prop where
 keep:∀ b o,h.get? b=some o->H b=none->b∉fs->b∉ex->h'.get? b=some o
 slot:∀ b o,h.get? b=some o->H b=none->b∈fs->b∉ex->∃ sl,h'.get? b=some { o with slots:=sl }
 free:∀ b o,h.get? b=some o->H b=none->b∉ex->H' b=none
 there:∀ b o,h.get? b=some o->b∉ex->∃ o',h'.get? b=some o'
 tups:∀ b xs,H b=some (.tup xs)->H' b=some (.tup xs)
 uX:∀ b o u,H b=some (.frz o u)->H' b=some (.frz o u)
 zq:∀ b ps,H b=some (.tbl ps)->∃ more,H' b=some (.tbl (ps++more))
section
variable {fs fs' ex ex':List Addr} {H1 H2:Hp} {h1 h2:Heap} {a x e:Addr}
theorem Un.any (u:Un fs ex H H1 h h1) {b:Addr} {ob:Obj} (q:h.get? b=some ob) (n:H b=none) (hx:b∉ex):∃ sl,h1.get? b=some { ob with slots:=sl }:=by
 by_cases hb:b∈fs
 ·exact u.slot b ob q n hb hx
 ·exact ⟨ob.slots,u.keep b ob q n hb hx⟩
theorem Un.kept (k:∀ b u,h.get? b=some u->h'.get? b=some u):Un fs ex H H h h' :=
 ⟨fun b ob q _ _ _=>k b ob q,fun b ob q _ _ _=>⟨ob.slots,k b ob q⟩,fun _ _ _ n _=>n,fun b ob q _=>⟨ob,k b ob q⟩,fun _ _ q=>q,fun _ _ _ q=>q,fun _ ps q=>⟨#[],by rw [q];simp⟩⟩
theorem Un.refl:Un fs ex H H h h:=Un.kept fun _ _ q=>q
theorem Un.laid (k:∀ b u,h.get? b=some u->h'.get? b=some u) (hp:h.objs.size<=a) (hn:H a=none):Un fs ex H (upd H a o) h h' where
 keep:=fun b u q _ _ _=>k b u q
 slot:=fun b u q _ _ _=>⟨u.slots,k b u q⟩
 free:=fun b u q n _=>by rw [au (cH (f9 (bQ q) hp))];exact n
 there:=fun b u q _=>⟨u,k b u q⟩
 tups:=fun b xs q=>by rw [au (ak q hn)];exact q
 uX:=fun b u xs q=>by rw [au (ak q hn)];exact q
 zq:=fun b ps q=>⟨#[],by rw [au (ak q hn),q];simp⟩
theorem Un.write (mu:Mut (H x)) (he:e=x\/H e=some (.own x)) (k:∀ b u,b≠e->h.get? b=some u->h'.get? b=some u) (heo:∃ u,h'.get? e=some u):Un fs ex H (upd H x o) h h':=by
 have hx:∀ b,H b=none->b≠x:=fun b n z=>by subst z;rw [n] at mu;exact mu
 have hb:∀ b,H b=none->b≠e:=fun b n z=>by
  subst z
  rcases he with r | r
  ·exact hx b n r
  ·rw [n] at r;cases r
 have hm:∀ b u,H b=some u->¬ Mut (some u)->b≠x:=fun b u q nm z=>by subst z;rw [q] at mu;exact nm mu
 refine ⟨fun b u q n _ _=>k b u (hb b n) q,fun b u q n _ _=>⟨u.slots,k b u (hb b n) q⟩,fun b u q n _=>by rw [au (hx b n)];exact n,fun b u q _=>?_,
  fun b xs q=>by rw [au (hm b _ q fun z=>z)];exact q,fun b u xs q=>by rw [au (hm b _ q fun z=>z)];exact q,fun b ps q=>⟨#[],by rw [au (hm b _ q fun z=>z),q];simp⟩⟩
 by_cases hbe:b=e
 ·subst hbe;exact heo
 ·exact ⟨u,k b u hbe q⟩
end
noncomputable def trk (h:Heap) (H:Hp):List Addr:=(oE h.objs.size).filter fun a=>(H a).isSome
noncomputable def Qh (h:Heap) (H:Hp):Heap:=adO h (trk h H)
theorem abo (h:Heap) (H:Hp):(Qh h H).objs.size=h.objs.size:=PySem.W.hideAll_size _ _
theorem afu {b:Addr} {o:Obj} (e:h.get? b=some o) (n:H b=none):(Qh h H).get? b=some o :=
 VH _ e fun hm=>by
  have q:(H b).isSome=true:=(vB.mp hm).2
  rw [n] at q;simp at q
theorem ahH {b:Addr} {o:Obj} (e:(Qh h H).get? b=some o):h.get? b=some o/\H b=none:=by
 have e':h.get? b=some o:=Ox (trk h H) e
 refine ⟨e',?_⟩
 cases q:H b with
 | none=>rfl
 | some x =>
  have hm:b∈trk h H:=vB.mpr ⟨Oq.mpr (bQ e'),by simp [q]⟩
  have z:(Qh h H).get? b=none:=Ov (trk h H) hm
  rw [z] at e;cases e
noncomputable def ahI (g h:Heap) (L:Addr):List (Addr × Obj):=(oE h.objs.size).filterMap fun a=>if a=L\/(g.get? a).isSome=true then none else (h.get? a).map fun o=>(a,o)
noncomputable def rest (g h:Heap) (L d:Addr):List (Addr × Obj):=(ahI g h L).filter fun p=>decide (p.1≠d)
structure Mod (K:aZ) (mg:Str->Option Value) (base:Heap):Prop where
 kin:K.In base
 glob:base.Ns dX mg
 blt:∃ mb,base.Ns U7 mb/\∀ x:Str,x ≠ "__name__" -> mb x=Cz x
 nolimit:base.NoLimit
structure Cx where
 prog:aO
 w:World
 K:aZ
 mg:Str->Option Value
 base:Heap
 A:bA
 N:List Str
 s₀:Shared
 H₀:Hp
 env:Env
 outer:List Env
 stack:List Env
 ex:List Addr
 fn:Str->Bool
 calm:Bool
 pn:List (Addr × Obj)
 xe:Value->Shared->Prop
variable {X:Cx}
noncomputable def frs (l:List Env):List Addr:=l.filterMap (·.frame)
noncomputable abbrev Cx.fs (X:Cx):List Addr:=frs X.outer
noncomputable def Vis (sc:Scope) (x:Str):Prop:=sc.names.lookup x=some .local\/sc.names.lookup x=some .cell\/sc.names.lookup x=some .free
noncomputable def Loc (sc:Scope) (x:Str):Prop:=sc.names.lookup x=some .local\/sc.names.lookup x=some .cell
noncomputable def Look (env:Env) (h:Heap) (m:Str->Option Value) (x:Str) (u:Value):Prop :=
 (env.kindOf x=some .local/\m x=some u)\/((env.kindOf x=some .cell\/env.kindOf x=some .free)/\∃ c,env.cells.lookup x=some c/\h.IsCell c (some u))
structure Cx.Ok (X:Cx):Prop where
 mod:Mod X.K X.mg X.base
 kind:X.env.scope.kind = .function
 glob:X.env.globals=dX
 blt:X.env.builtins=U7
 above:X.s₀.heap.objs.size<=X.env.locals
 inj:∀ x y c,X.env.cells.lookup x=some c->X.env.cells.lookup y=some c->x=y
 has:∀ x,(X.env.kindOf x=some .cell\/X.env.kindOf x=some .free)->∃ c,X.env.cells.lookup x=some c
 cab:∀ x c,X.fn x=true->X.env.cells.lookup x=some c->X.s₀.heap.objs.size<=c
 hd:X.calm=true->X.A.handled=none
 frames:X.A.frames=some X.stack
 stk:X.stack=X.outer\/(X.stack=X.env::X.outer/\X.env.frame=some X.env.locals)
 exf:∀ b∈X.ex,b≠X.env.locals/\∀ x c,X.env.cells.lookup x=some c->c≠b
 bs:∀ b o,X.base.get? b=some o->X.s₀.heap.get? b=some o/\X.H₀ b=none
 bsz:X.base.objs.size<=X.s₀.heap.objs.size
 RV:∀ b o,X.base.get? b=some o->b∉X.ex
 abp:∀ b∈X.ex,b∉X.fs
 zu:X.s₀.heap.FunFrames X.base X.outer
 frf:∀ b∈X.fs,X.H₀ b=none
structure Inv (X:Cx) (pins:List (Addr × Obj)) (σ:List (Option V)) (H:Hp) (s:Shared):Prop where
 ok:X.Ok
 os:s.os=X.s₀.os
 bare:qW s.gens
 base:Un X.fs X.ex X.H₀ H X.s₀.heap s.heap
 loc:∃ m,s.heap.Ns X.env.locals m/\∀ (i:Nat) (x:Str) (v:V),X.N[i]? = some x->σ[i]? = some (some v)->Vis X.env.scope x->∃ u,RelV v u/\Look X.env s.heap m x u
 cell:∀ x c,X.env.cells.lookup x=some c->∃ v,s.heap.IsCell c v
 free:H X.env.locals=none
 nH:∀ x c,X.env.cells.lookup x=some c->H c=none
 pin:∀ p∈X.pn++pins,s.heap.get? p.1=some p.2/\H p.1=none/\p.1≠X.env.locals/\p.1∉X.fs/\∀ v,p.2.data ≠ .cell v
 hok:HOk X.prog X.w H s.heap
 len:σ.length=X.N.length
section
variable {σ:List (Option V)}
theorem Cx.Ok.nofr (ok:X.Ok) {b:Addr} {o:Obj} (e:X.base.get? b=some o):b∉X.fs:=fun hb=>by
 have:=(ok.zu.mem hb).1
 rw [e] at this;cases this
theorem Inv.bs (I:Inv X pins σ H s):∀ b o,X.base.get? b=some o->s.heap.get? b=some o/\H b=none:=fun b o e =>
 ⟨I.base.keep b o (I.ok.bs b o e).1 (I.ok.bs b o e).2 (I.ok.nofr e) (I.ok.RV b o e),I.base.free b o (I.ok.bs b o e).1 (I.ok.bs b o e).2 (I.ok.RV b o e)⟩
theorem Inv.bk (I:Inv X pins σ H s):∀ b o,X.base.get? b=some o->s.heap.get? b=some o:=fun b o e=>(I.bs b o e).1
theorem Inv.mod (I:Inv X pins σ H s):Mod X.K X.mg X.base:=I.ok.mod
theorem Inv.kIn (I:Inv X pins σ H s):X.K.In s.heap:=I.ok.mod.kin.keeps I.bk
theorem Inv.nolimit (I:Inv X pins σ H s):s.heap.NoLimit:=I.ok.mod.nolimit.keeps I.bk
theorem Inv.lt (I:Inv X pins σ H s):X.env.locals<s.heap.objs.size:=let ⟨_,hn,_⟩:=I.loc;hn.lt
theorem Inv.sz (I:Inv X pins σ H s):X.s₀.heap.objs.size<=s.heap.objs.size:=jL I.ok.above (mG I.lt)
theorem Inv.nofs (I:Inv X pins σ H s) {a:Addr} (h:s.heap.objs.size<=a):a∉X.fs:=fun hb=>by
 obtain ⟨_,o,ho,_⟩:=I.ok.zu.mem hb
 exact absurd (f9 (bQ ho) (jL I.sz h)) (pP _)
theorem Inv.cne (I:Inv X pins σ H s):∀ x c,X.env.cells.lookup x=some c->c≠X.env.locals:=fun x c e z=>by
 obtain ⟨v,o,ho,hd⟩:=I.cell x c e
 obtain ⟨m,⟨o',es,ep,ho',hd',_⟩,_⟩:=I.loc
 rw [z,ho'] at ho;cases ho;rw [hd'] at hd;cases hd
theorem Inv.zu (I:Inv X pins σ H s):s.heap.FunFrames X.base X.outer:=by
 have all:∀ (l:List Env),(∀ b∈frs l,b∈X.fs)->X.s₀.heap.FunFrames X.base l->s.heap.FunFrames X.base l:=by
  intro l
  induction l with
  | nil=>intro _ _;trivial
  | cons env r ih =>
   intro hs hl
   obtain ⟨hk,⟨L,o,hf,hn,ho,hd⟩,hr⟩:=hl
   have hL:L∈X.fs:=hs L (by unfold frs;rw [Ep,hf];exact cX)
   obtain ⟨sl,e⟩:=I.base.slot L o ho (I.ok.frf L hL) hL fun z=>I.ok.abp L z hL
   exact ⟨hk,⟨L,_,hf,hn,e,hd⟩,ih (fun b hb=>hs b (by unfold frs;rw [Ep,hf];exact gF _ hb)) hr⟩
 exact all X.outer (fun _ hb=>hb) I.ok.zu
theorem Inv.stack (I:Inv X pins σ H s):s.heap.FunFrames X.base X.stack:=by
 rcases I.ok.stk with e | ⟨e,hf⟩
 ·rw [e];exact I.zu
 ·rw [e]
  obtain ⟨m,hn,_⟩:=I.loc
  refine .cons (by rw [I.ok.kind];decide) hf hn ?_ I.zu
  exact adT (jL I.ok.bsz I.ok.above)
theorem Inv.zx (I:Inv X pins σ H s):∀ b∈frs X.stack,b∈X.env.locals::X.fs:=fun b hb=>by
 rcases I.ok.stk with e | ⟨e,hf⟩
 ·rw [e] at hb;exact gF _ hb
 ·rw [e] at hb
  unfold frs at hb
  rw [Ep,hf] at hb
  exact hb
theorem Inv.Al (I:Inv X pins σ H s):∀ b∈frs X.stack,H b=none:=fun b hb=>by
 rcases bN.mp (I.zx b hb) with e | hb
 ·rw [e];exact I.free
 ·obtain ⟨_,o,ho,_⟩:=I.ok.zu.mem hb
  exact I.base.free b o ho (I.ok.frf b hb) fun z=>I.ok.abp b z hb
theorem Inv.step (I:Inv X pins σ H s)
  (hch:∀ b∈ch,(b∈X.ex\/X.s₀.heap.objs.size<=b)/\b≠X.env.locals/\(∀ x c,X.env.cells.lookup x=some c->c≠b)/\∀ p∈X.pn++pins,p.1≠b)
  (keep:∀ b o,b≠X.env.locals->b∉X.fs->b∉ch->s.heap.get? b=some o->H b=none->h'.get? b=some o)
  (slot:∀ b o,b≠X.env.locals->b∈X.fs->b∉ch->s.heap.get? b=some o->H b=none->∃ sl,h'.get? b=some { o with slots:=sl }) (free:∀ b o,b∉ch->s.heap.get? b=some o->H b=none->H' b=none)
  (there:∀ b o,b∉ch->s.heap.get? b=some o->∃ o',h'.get? b=some o')
  (tups:∀ b xs,H b=some (.tup xs)->H' b=some (.tup xs)) (uX:∀ b o u,H b=some (.frz o u)->H' b=some (.frz o u)) (zq:∀ b ps,H b=some (.tbl ps)->∃ more,H' b=some (.tbl (ps++more)))
  (ns:∀ m,s.heap.Ns X.env.locals m->h'.Ns X.env.locals m) (hok:HOk X.prog X.w H' h') (hg:qW g') :
  Inv X pins σ H' { s with heap:=h',gens:=g',drawn:=d',toks:=t' }:=by
 have neL:∀ b o,X.s₀.heap.get? b=some o->b≠X.env.locals:=fun b o e=>cH (f9 (bQ e) I.ok.above)
 have neC:∀ b o,X.s₀.heap.get? b=some o->b∉X.ex->b∉ch:=fun b o e hx hb=>by
  rcases (hch b hb).1 with z | z
  ·exact hx z
  ·exact absurd (f9 (bQ e) z) (pP _)
 have cellK:∀ x c,X.env.cells.lookup x=some c->∀ v,s.heap.IsCell c v->h'.IsCell c v:=fun x c e v ⟨o,ho,hd⟩=>by
  have nch:c∉ch:=fun z=>(hch c z).2.2.1 x c e rfl
  by_cases hc:c∈X.fs
  ·obtain ⟨sl,q⟩:=slot c o (I.cne x c e) hc nch ho (I.nH x c e)
   exact ⟨_,q,hd⟩
  ·exact ⟨o,keep c o (I.cne x c e) hc nch ho (I.nH x c e),hd⟩
 refine ⟨I.ok,I.os,hg,⟨fun b o e n hb hx=>?_,fun b o e n hb hx=>?_,fun b o e n hx=>?_,fun b o e hx=>?_,fun b xs e=>tups b xs (I.base.tups b xs e),fun b o xs e=>uX b o xs (I.base.uX b o xs e),fun b ps e=>?_⟩,?_,fun x c e=>?_,?_,fun x c e=>?_,fun p hp=>?_,hok,I.len⟩
 ·exact keep b o (neL b o e) hb (neC b o e hx) (I.base.keep b o e n hb hx) (I.base.free b o e n hx)
 ·obtain ⟨sl,e1⟩:=I.base.slot b o e n hb hx
  obtain ⟨sl',e2⟩:=slot b _ (neL b o e) hb (neC b o e hx) e1 (I.base.free b o e n hx)
  exact ⟨sl',e2⟩
 ·obtain ⟨o',e1⟩:=I.base.there b o e hx
  exact free b o' (neC b o e hx) e1 (I.base.free b o e n hx)
 ·obtain ⟨o',e1⟩:=I.base.there b o e hx
  exact there b o' (neC b o e hx) e1
 ·obtain ⟨m1,e1⟩:=I.base.zq b ps e
  obtain ⟨m2,e2⟩:=zq b _ e1
  exact ⟨m1++m2,by rw [e2,Array.append_assoc]⟩
 ·obtain ⟨m,hn,hl⟩:=I.loc
  refine ⟨m,ns m hn,fun i x v e1 e2 e3=>?_⟩
  obtain ⟨u,r,l⟩:=hl i x v e1 e2 e3
  refine ⟨u,r,?_⟩
  rcases l with l | ⟨k,c,e,z⟩
  ·exact .inl l
  ·exact .inr ⟨k,c,e,cellK x c e _ z⟩
 ·obtain ⟨v,z⟩:=I.cell x c e
  exact ⟨v,cellK x c e v z⟩
 ·obtain ⟨m,⟨o,_,_,ho,_⟩,_⟩:=I.loc
  exact free _ o (fun z=>(hch _ z).2.1 rfl) ho I.free
 ·obtain ⟨v,o,ho,hd⟩:=I.cell x c e
  exact free c o (fun z=>(hch c z).2.2.1 x c e rfl) ho (I.nH x c e)
 ·obtain ⟨e,n,ne,nf,d⟩:=I.pin p hp
  have nch:p.1∉ch:=fun z=>(hch p.1 z).2.2.2 p hp rfl
  exact ⟨keep p.1 p.2 ne nf nch e n,free p.1 p.2 nch e n,ne,nf,d⟩
theorem Inv.un (I:Inv X pins σ H s) (u:Un X.fs [] H H' s.heap h') (hok:HOk X.prog X.w H' h'):Inv X pins σ H' { s with heap:=h',toks:=t' }:=by
 obtain ⟨m,⟨o,es,ep,ho,r⟩,_⟩:=id I.loc
 obtain ⟨sl,hL⟩:=u.any ho I.free (by simp)
 exact I.step (g':=s.gens) (d':=s.drawn) (ch:=[]) (fun _ z=>nomatch z) (fun b o _ hb _ e n=>u.keep b o e n hb (by simp)) (fun b o _ hb _ e n=>u.slot b o e n hb (by simp)) (fun b o _ e n=>u.free b o e n (by simp)) (fun b o _ e=>u.there b o e (by simp)) u.tups u.uX u.zq (fun m' hm=>by
  obtain ⟨o',es',ep',ho',r'⟩:=hm
  rw [ho] at ho';cases ho'
  exact ⟨_,es',ep',hL,r'⟩) hok I.bare
theorem Inv.call (I:Inv X pins σ H s) (u:Un (frs X.stack) ch H H' s.heap h') (hok:HOk X.prog X.w H' h') (hg:qW g')
  (hch:∀ b∈ch,(b∈X.ex\/X.s₀.heap.objs.size<=b)/\b≠X.env.locals/\(∀ x c,X.env.cells.lookup x=some c->c≠b)/\∀ p∈X.pn++pins,p.1≠b) :
  Inv X pins σ H' { s with heap:=h',gens:=g',drawn:=d',toks:=t' }:=by
 obtain ⟨m,⟨o,es,ep,ho,r⟩,_⟩:=id I.loc
 obtain ⟨sl,hL⟩:=u.any ho I.free fun z=>(hch _ z).2.1 rfl
 exact I.step (ch:=ch) hch (fun b o hL hb hc e n=>u.keep b o e n (fun z=>(bN.mp (I.zx b z)).elim hL hb) hc) (fun b o _ _ hc e n=>u.any e n hc) (fun b o hc e n=>u.free b o e n hc) (fun b o hc e=>u.there b o e hc) u.tups u.uX u.zq (fun m' hm=>by
  obtain ⟨o',es',ep',ho',r'⟩:=hm
  rw [ho] at ho';cases ho'
  exact ⟨_,es',ep',hL,r'⟩) hok hg
theorem Inv.turned (I:Inv X pins σ H s) (k:∀ b o,b≠it->s.heap.get? b=some o->h'.get? b=some o) (hn:H it=none) (hL:it≠X.env.locals)
  (h1:it∈X.ex\/X.s₀.heap.objs.size<=it) (h2:∀ x c,X.env.cells.lookup x=some c->c≠it) (h3:∀ p∈X.pn++pins,p.1≠it):Inv X pins σ H { s with heap:=h',toks:=t' }:=by
 have nit:∀ b u,H b=some u->b≠it:=fun b u e z=>by rw [z,hn] at e;cases e
 refine I.step (g':=s.gens) (d':=s.drawn) (ch:=[it]) (fun b hb=>?_) (fun b o _ _ hc e _=>k b o (fun z=>hc (by simp [z])) e) (fun b o _ _ hc e _=>⟨o.slots,k b o (fun z=>hc (by simp [z])) e⟩) (fun _ _ _ _ n=>n)
  (fun b o hc e=>⟨o,k b o (fun z=>hc (by simp [z])) e⟩) (fun _ _ e=>e) (fun _ _ _ e=>e) (fun b ps e=>⟨#[],by rw [e];simp⟩) (fun m hm=>?_) (fun b u e=>?_) I.bare
 ·have e:b=it:=by simpa using hb
  subst e
  exact ⟨h1,hL,h2,h3⟩
 ·obtain ⟨o,es,ep,ho,r⟩:=hm
  exact ⟨o,es,ep,k _ o (aL hL) ho,r⟩
 ·refine (I.hok b u e).stay (fun c v hc q=>k c v ?_ q) (fun _ q=>q) fun _ _ q=>q
  rcases hc with z | z
  ·rw [z];exact nit b u e
  ·exact nit c _ z
theorem Inv.tok (I:Inv X pins σ H s) (t:Nat):Inv X pins σ H { s with toks:=t }:=I.un (h':=s.heap) (t':=t) Un.refl I.hok
theorem Inv.kept (I:Inv X pins σ H s) (k:∀ b u,s.heap.get? b=some u->h'.get? b=some u):Inv X pins σ H { s with heap:=h',toks:=t' }:=I.un (Un.kept k) (I.hok.kept k)
theorem Inv.laid {a:Addr} (I:Inv X pins σ H s) (k:∀ b u,s.heap.get? b=some u->h'.get? b=some u) (hp:s.heap.objs.size<=a) (new:dh X.prog X.w (upd H a o) h' a o) :
  Inv X pins σ (upd H a o) { s with heap:=h',toks:=t' }:=I.un (Un.laid k hp (I.hok.fresh hp)) (I.hok.laid k hp new)
theorem Inv.write {x e:Addr} (I:Inv X pins σ H s) (mu:Mut (H x)) (he:e=x\/H e=some (.own x)) (k:∀ b u,b≠e->s.heap.get? b=some u->h'.get? b=some u) (heo:∃ u,h'.get? e=some u)
  (new:dh X.prog X.w (upd H x o) h' x o):Inv X pins σ (upd H x o) { s with heap:=h',toks:=t' }:=I.un (Un.write mu he k heo) (I.hok.write mu he k heo new)
theorem Inv.aar {aas:List (Addr × Obj)} (I:Inv X pins σ H s) (h:∀ p∈aas,s.heap.get? p.1=some p.2/\H p.1=none/\p.1≠X.env.locals/\p.1∉X.fs/\∀ v,p.2.data ≠ .cell v):Inv X aas σ H s :=
 ⟨I.ok,I.os,I.bare,I.base,I.loc,I.cell,I.free,I.nH,fun p hp=>(d9.mp hp).elim (fun z=>I.pin p (Vn _ z)) (h p),I.hok,I.len⟩
theorem Iv (hN:N.Nodup) {j:Nat} (a:N[i]? = some x) (b:N[j]? = some x):i=j:=by
 obtain ⟨h1,e1⟩:=jB.mp a
 obtain ⟨h2,e2⟩:=jB.mp b
 exact (List.getElem_inj hN).mp (e1.trans e2.symm)
theorem Ly {M:Model} {Q:Unit->Shared->Prop} (I:Inv X pins σ H s) (hN:X.N.Nodup) (hi:X.N[i]? = some x) (hx:Loc X.env.scope x) (r:RelV v u)
  (h:∀ s',Inv X pins (σ.set i (some v)) H s'->(∃ a,vG a s.heap s'.heap/\(a=X.env.locals\/X.env.cells.lookup x=some a))->Q () s') (hf:X.fn x=true\/X.env.scope.names.lookup x=some .local:=by first | exact .inl rfl | exact .inr rfl | assumption):wpAny M A (storeName X.env x u) Q E s:=by
 obtain ⟨m,hn,hl⟩:=id I.loc
 have hcls:(X.env.scope.kind == .class || (X.env.scope.kind == .module && X.env.locals != X.env.globals))=false:=by rw [I.ok.kind];rfl
 have hiσ:i<σ.length:=by rw [I.len];exact (jB.mp hi).1
 have cne:=I.cne
 have tracked:∀ {a:Addr} {h':Heap},(∃ o,s.heap.get? a=some o/\H a=none)->vG a s.heap h'->HOk X.prog X.w H h':=fun {a h'} ha hs b ob e=>by
  obtain ⟨_,_,hfree⟩:=ha
  refine (I.hok b ob e).stay (fun c w' hc q=>(hs.2 c ?_).trans q) (fun _ q=>q) fun _ _ q=>q
  rintro rfl
  rcases hc with rfl | hc
  ·rw [hfree] at e;cases e
  ·rw [hfree] at hc;cases hc
 rcases hx with hk | hk
 ·refine wpAny_storeName_local hk hn (fun h' hn' hs=>?_) hcls
  obtain ⟨oL,_,_,hoL,_⟩:=id hn
  refine h _ ⟨I.ok,I.os,I.bare,⟨fun b o e n hb hx=>?_,fun b o e n hb hx=>?_,I.base.free,fun b o e hx=>?_,I.base.tups,I.base.uX,I.base.zq⟩,⟨_,hn',fun j y v' e1 e2 e3=>?_⟩,fun y c e=>?_,I.free,I.nH,fun p hp=>?_,tracked ⟨oL,hoL,I.free⟩ hs,by simpa using I.len⟩ ⟨_,hs,.inl rfl⟩
  ·exact (hs.2 b (cH (f9 (bQ e) I.ok.above))).trans (I.base.keep b o e n hb hx)
  ·obtain ⟨sl,e1⟩:=I.base.slot b o e n hb hx
   exact ⟨sl,(hs.2 b (cH (f9 (bQ e) I.ok.above))).trans e1⟩
  ·obtain ⟨o',e1⟩:=I.base.there b o e hx
   exact ⟨o',(hs.2 b (cH (f9 (bQ e) I.ok.above))).trans e1⟩
  ·by_cases hj:j=i
   ·subst hj
    rw [hi] at e1;cases e1
    rw [Hj hiσ] at e2
    cases e2
    exact ⟨u,r,.inl ⟨hk,by simp⟩⟩
   ·rw [yK (aL hj)] at e2
    obtain ⟨u',r',q⟩:=hl j y v' e1 e2 e3
    refine ⟨u',r',?_⟩
    rcases q with ⟨k,e⟩ | ⟨k,c,e,z⟩
    ·refine .inl ⟨k,?_⟩
     have:y≠x:=fun e=>hj (Iv hN e1 (e ▸ hi))
     simp [this,e]
    ·exact .inr ⟨k,c,e,z.sameBut hs (cne y c e)⟩
  ·obtain ⟨w',z⟩:=I.cell y c e
   exact ⟨w',z.sameBut hs (cne y c e)⟩
  ·obtain ⟨e,n,ne,nf,d⟩:=I.pin p hp
   exact ⟨(hs.2 p.1 ne).trans e,n,ne,nf,d⟩
 ·have hfn:X.fn x=true:=by
   rcases hf with z | z
   ·exact z
   ·rw [z] at hk;cases hk
  obtain ⟨c,hc⟩:=I.ok.has x (.inl hk)
  obtain ⟨w',z⟩:=I.cell x c hc
  refine wpAny_storeName_cell I.ok.kind hk hc z (fun h' hc' hs=>?_)
  obtain ⟨oc,hoc,hocd⟩:=id z
  refine h { s with heap:=h' } ⟨I.ok,I.os,I.bare,⟨fun b o e n hb hx=>?_,fun b o e n hb hx=>?_,I.base.free,fun b o e hx=>?_,I.base.tups,I.base.uX,I.base.zq⟩,⟨m,hn.sameBut hs (aL (cne x c hc)),fun j y v' e1 e2 e3=>?_⟩,fun y c' e=>?_,I.free,I.nH,fun p hp=>?_,tracked ⟨oc,hoc,I.nH x c hc⟩ hs,by simpa using I.len⟩ ⟨c,hs,.inr hc⟩
  ·exact (hs.2 b (cH (f9 (bQ e) (I.ok.cab x c hfn hc)))).trans (I.base.keep b o e n hb hx)
  ·obtain ⟨sl,e1⟩:=I.base.slot b o e n hb hx
   exact ⟨sl,(hs.2 b (cH (f9 (bQ e) (I.ok.cab x c hfn hc)))).trans e1⟩
  ·obtain ⟨o',e1⟩:=I.base.there b o e hx
   exact ⟨o',(hs.2 b (cH (f9 (bQ e) (I.ok.cab x c hfn hc)))).trans e1⟩
  ·by_cases hj:j=i
   ·subst hj
    rw [hi] at e1;cases e1
    rw [Hj hiσ] at e2
    cases e2
    exact ⟨u,r,.inr ⟨.inl hk,c,hc,hc'⟩⟩
   ·rw [yK (aL hj)] at e2
    obtain ⟨u',r',q⟩:=hl j y v' e1 e2 e3
    refine ⟨u',r',?_⟩
    rcases q with q | ⟨k,c',e,z'⟩
    ·exact .inl q
    ·refine .inr ⟨k,c',e,z'.sameBut hs ?_⟩
     rintro rfl
     exact hj (Iv hN e1 (I.ok.inj _ _ _ e hc ▸ hi))
  ·by_cases hcc:c'=c
   ·subst hcc;exact ⟨_,hc'⟩
   ·obtain ⟨w2,z2⟩:=I.cell y c' e
    exact ⟨w2,z2.sameBut hs hcc⟩
  ·obtain ⟨e,n,ne,nf,d⟩:=I.pin p hp
   refine ⟨(hs.2 p.1 ?_).trans e,n,ne,nf,d⟩
   intro q
   rw [q,hoc] at e
   have q':oc=p.2:=cI e
   exact d w' (by rw [<- q'];exact hocd)
theorem Iw {M:Model} {Q:Unit->Shared->Prop} (I:Inv X pins σ H s) (hN:X.N.Nodup) (hi:X.N[i]? = some x) (hx:Loc X.env.scope x) (r:RelV v u)
  (h:∀ s',Inv X pins (σ.set i (some v)) H s'->Q () s') (hf:X.fn x=true\/X.env.scope.names.lookup x=some .local:=by first | exact .inl rfl | exact .inr rfl | assumption):wpAny M A (storeName X.env x u) Q E s :=
 Ly I hN hi hx r (fun s' I' _=>h s' I') hf
theorem Inv.call' (I:Inv X pins σ H s) (ho:s'.os=s.os) (u:Un (frs X.stack) ch H H' s.heap s'.heap) (hok:HOk X.prog X.w H' s'.heap) (hg:qW s'.gens)
  (hch:∀ b∈ch,(b∈X.ex\/X.s₀.heap.objs.size<=b)/\b≠X.env.locals/\(∀ x c,X.env.cells.lookup x=some c->c≠b)/\∀ p∈X.pn++pins,p.1≠b):Inv X pins σ H' s':=by
 obtain ⟨h',g',d',t',o'⟩:=s'
 have e:o'=s.os:=ho
 subst e
 exact I.call (g':=g') (t':=t') (d':=d') u hok hg hch
end
noncomputable abbrev XK:=Value->Option Addr->Hp->Prop
noncomputable abbrev St:=List (Option V)
variable {σ:St}
noncomputable abbrev VK:=V->Hp->Prop
noncomputable abbrev TE:=St->Hp->VK->Prop
variable {te ta tl:TE}
noncomputable abbrev TT:=St->Hp->(Bool->Hp->Prop)->Prop
variable {tc:TT}
noncomputable abbrev TA:=St->Hp->(List V->Hp->Prop)->Prop
variable {t:TA}
structure Ends where
 nx:St->Hp->Prop
 rt:VK
 bk:St->Hp->Prop:=fun _ _=>False
 ct:St->Hp->Prop:=fun _ _=>False
variable {D:Ends}
noncomputable abbrev TS:=Ends->St->Hp->Prop
variable {tb:TS}
noncomputable def EP (X:Cx) (pins:List (Addr × Obj)) (σ:St) (Q:VK) (u:Value) (s':Shared):Prop:=∃ v H',Inv X pins σ H' s'/\RelV v u/\Q v H'
noncomputable def TP (X:Cx) (pins:List (Addr × Obj)) (σ:St) (Q:Bool->Hp->Prop) (b:Bool) (s':Shared):Prop:=∃ H',Inv X pins σ H' s'/\Q b H'
noncomputable def AP (X:Cx) (pins:List (Addr × Obj)) (σ:St) (Q:List V->Hp->Prop) (us:List Value) (s':Shared):Prop:=∃ vs H',Inv X pins σ H' s'/\Vals vs us/\Q vs H'
noncomputable def SP (X:Cx) (pins:List (Addr × Obj)) (D:Ends) (f:Flow) (s':Shared):Prop :=
 match f with
 | .next=>∃ σ' H',Inv X pins σ' H' s'/\D.nx σ' H'
 | .brk=>∃ σ' H',Inv X pins σ' H' s'/\D.bk σ' H'
 | .cont=>∃ σ' H',Inv X pins σ' H' s'/\D.ct σ' H'
 | .ret u=>∃ v σ' H',Inv X pins σ' H' s'/\RelV v u/\D.rt v H'
noncomputable def PE (X:Cx) (e:Expr) (t:TE):Prop :=
 ∀ (pins:List (Addr × Obj)) (s:Shared) (σ:St) (H:Hp) (Q:VK),Inv X pins σ H s->t σ H Q->wpAny (model X.prog X.w) X.A (eval e X.env) (EP X pins σ Q) X.xe s
noncomputable def PT (X:Cx) (e:Expr) (t:TT):Prop :=
 ∀ (pins:List (Addr × Obj)) (s:Shared) (σ:St) (H:Hp) (Q:Bool->Hp->Prop),Inv X pins σ H s->t σ H Q->wpAny (model X.prog X.w) X.A (GZ e X.env (eval e X.env)) (TP X pins σ Q) X.xe s
noncomputable def PW (X:Cx) (e:Expr) (t:TT):Prop :=
 ∀ (whole:Sem Value) (pins:List (Addr × Obj)) (s:Shared) (σ:St) (H:Hp) (Q:Bool->Hp->Prop),Inv X pins σ H s->t σ H Q->wpAny (model X.prog X.w) X.A (GZ e X.env whole) (TP X pins σ Q) X.xe s
theorem PW.pt {t:TT} (h:PW X e t):PT X e t:=h _
noncomputable def PA (X:Cx) (es:List Expr) (t:TA):Prop :=
 ∀ (pos:Pos) (pins:List (Addr × Obj)) (s:Shared) (σ:St) (H:Hp) (Q:List V->Hp->Prop),Inv X pins σ H s->t σ H Q->wpAny (model X.prog X.w) X.A (spliced (gH pos (cW es X.env))) (AP X pins σ Q) X.xe s
noncomputable def PS (X:Cx) (st:Stmt) (t:TS):Prop :=
 ∀ (pins:List (Addr × Obj)) (s:Shared) (σ:St) (H:Hp) (D:Ends),Inv X pins σ H s->t D σ H->wpAny (model X.prog X.w) X.A (exec st X.env) (SP X pins D) X.xe s
noncomputable def PSs (X:Cx) (st:List Stmt) (t:TS):Prop :=
 ∀ (pins:List (Addr × Obj)) (s:Shared) (σ:St) (H:Hp) (D:Ends),Inv X pins σ H s->t D σ H->wpAny (model X.prog X.w) X.A (execs st X.env) (SP X pins D) X.xe s
theorem thn {t:Sem α} {Q Q':α->Shared->Prop} {M:Model} (h:wpAny M A t Q E s) (hQ:∀ a s,Q a s->Q' a s):wpAny M A t Q' E s:=eF h hQ fun _ _ x=>x
section
@[reducible] noncomputable def tVar (i:Nat):TE:=fun σ H Q=>∃ v,σ[i]? = some (some v)/\Q v H
@[reducible] noncomputable def tC (v:V):TE:=fun _ H Q=>Q v H
theorem ali {pos:Pos} (hN:X.N[i]? = some x) (hv:Vis X.env.scope x) (hd:(x == ("__debug__" : Str))=false:=by decide) (hcd:(x == ("__classdict__" : Str))=false:=by decide):PE X (.Name x pos) (tVar i):=by
 walk_at "l"
 obtain ⟨v,e,h⟩:=h
 obtain ⟨m,hn,hl⟩:=I.loc
 obtain ⟨u,r,l⟩:=hl i x v hN e hv
 have fin:EP X pins σ Q u s:=⟨v,H,I,r,h⟩
 rcases l with ⟨hk,hm⟩ | ⟨hk,c,hc,hcell⟩
 ·exact U8 (wpAny_loadName_local I.ok.kind hk hn hm fin) hd
 ·rcases hk with hk | hk
  ·exact U8 (wpAny_loadName_cell I.ok.kind hk hc hcell fin) hd
  ·exact U8 (wpAny_loadName_free I.ok.kind hk hc hcell fin hcd) hd
theorem aC {i j pos}:PE X (.Constant (.int i) j pos) (tC (.int i)):=fun _ _ _ H _ I h=>wpAny_Constant_int ⟨.int i,H,I.tok _,⟨_,rfl⟩,h⟩
theorem Am {b j pos}:PE X (.Constant (.bool b) j pos) (tC (.bl b)):=fun _ _ _ H _ I h=>aes ⟨.bl b,H,I,rfl,h⟩
theorem zy {j pos}:PE X (.Constant .none j pos) (tC .non):=fun _ _ _ H _ I h=>Wf ⟨.non,H,I,rfl,h⟩
theorem Dt {x j pos}:PE X (.Constant (.str x) j pos) (tC (.str x)):=fun _ _ _ H _ I h=>Calls.Constant_str ⟨.str x,H,I.tok _,⟨_,rfl⟩,h⟩
noncomputable def Gl (X:Cx) (x:Str):Prop:=X.env.kindOf x=some .globalImplicit
theorem tE {pos:Pos} (I:Inv X pins σ H s) (hg:Gl X x) (hm:X.mg x=some u) (h:Q u s)
  (hd:(x == ("__debug__" : Str))=false:=by decide):wpAny (model X.prog X.w) X.A (eval (.Name x pos) X.env) Q E s :=
 aeO I.ok.kind hg (Calls.loadGlobal_global (by rw [I.ok.glob];exact I.mod.glob.keeps I.bk) hm h) hd
theorem oM {pos:Pos} (I:Inv X pins σ H s) (hg:Gl X x) (hm:X.mg x=none) (hv:Cz x=some u) (h:Q u s)
  (hn:x ≠ "__name__" := by decide) (hd:(x == ("__debug__" : Str))=false:=by decide):wpAny (model X.prog X.w) X.A (eval (.Name x pos) X.env) Q E s:=by
 obtain ⟨mb,h1,h2⟩:=I.mod.blt
 exact aeO I.ok.kind hg (Calls.loadGlobal_builtin (by rw [I.ok.glob];exact I.mod.glob.keeps I.bk) hm (by rw [I.ok.blt];exact h1.keeps I.bk) ((h2 x hn).trans hv) h) hd
theorem nJ {pos:Pos} (hg:Gl X x) (hm:X.mg x=some u) (r:RelV v u) (hd:(x == ("__debug__" : Str))=false:=by decide):PE X (.Name x pos) (tC v) :=
 fun _ _ _ H _ I h=>tE I hg hm ⟨v,H,I,r,h⟩ hd
theorem ahJ {pos:Pos} (hg:Gl X x) (hm:X.mg x=none) (hv:Cz x=some u) (r:RelV v u) (hn:x ≠ "__name__" := by decide) (hd:(x == ("__debug__" : Str))=false:=by decide):PE X (.Name x pos) (tC v) :=
 fun _ _ _ H _ I h=>oM I hg hm hv ⟨v,H,I,r,h⟩ hn hd
variable {a b:Expr} {tb:TE} {pos:Pos}
@[reducible] noncomputable def tB (t:TE):TT:=fun σ H Q=>t σ H fun x H1=>∃ c,x = .bl c/\Q c H1
theorem YJ {t:TE} (h:PE X e t) (he:∀ whole,GZ e X.env whole=(do let v <- whole;standAt e.pos;CN [v] (truthy v)):=by intro _;rfl):PT X e (tB t):=by
 intro pins s σ H Q I hw
 refine isTrue_plain (thn (h pins s σ H _ I hw) fun v s1 ⟨x,H1,I1,r1,q1⟩=>?_) (he _)
 obtain ⟨d,rfl,q⟩:=q1
 cases r1
 exact Gv ⟨H1,I1,q⟩
variable {tA tB':TT} {rest:List Expr}
@[reducible] noncomputable def tAnd (t u:TT):TT:=fun σ H Q=>t σ H fun c H1=>if c=true then u σ H1 Q else Q false H1
@[reducible] noncomputable def tOr (t u:TT):TT:=fun σ H Q=>t σ H fun c H1=>if c=true then Q true H1 else u σ H1 Q
@[reducible] noncomputable def tNot (t:TT):TT:=fun σ H Q=>t σ H fun c H1=>Q (!c) H1
theorem pw_and1 (ha:PT X a tA):PW X (.BoolOp .And [a] pos) tA:=by
 intro wh pins s σ H Q I h
 refine isTrue_and (thn (ha pins s σ H Q I h) fun c s1 e=>?_)
 cases c with
 | true=>exact isTrue_and_nil e
 | false=>exact e
theorem pw_or1 (ha:PT X a tA):PW X (.BoolOp .Or [a] pos) tA:=by
 intro wh pins s σ H Q I h
 refine isTrue_or (thn (ha pins s σ H Q I h) fun c s1 e=>?_)
 cases c with
 | false=>exact isTrue_or_nil e
 | true=>exact e
theorem pw_and (ha:PT X a tA) (hb:PW X (.BoolOp .And (b::rest) pos) tB'):PW X (.BoolOp .And (a::b::rest) pos) (tAnd tA tB'):=by
 intro wh pins s σ H Q I h
 refine isTrue_and (thn (ha pins s σ H _ I h) fun c s1 ⟨H1,I1,q1⟩=>?_)
 cases c with
 | true=>exact hb wh pins s1 σ H1 Q I1 q1
 | false=>exact ⟨H1,I1,q1⟩
theorem pw_or (ha:PT X a tA) (hb:PW X (.BoolOp .Or (b::rest) pos) tB'):PW X (.BoolOp .Or (a::b::rest) pos) (tOr tA tB'):=by
 intro wh pins s σ H Q I h
 refine isTrue_or (thn (ha pins s σ H _ I h) fun c s1 ⟨H1,I1,q1⟩=>?_)
 cases c with
 | true=>exact ⟨H1,I1,q1⟩
 | false=>exact hb wh pins s1 σ H1 Q I1 q1
theorem YK (ha:PT X a tA):PT X (.UnaryOp .Not a pos) (tNot tA):=by
 walk_at "l"
 exact isTrue_not (ha pins s σ H (fun c H1=>Q (!c) H1) I h)
@[reducible] noncomputable def tAndV (ta tb:TE):TE:=fun σ H Q=>ta σ H fun x H1=>∃ c,x = .bl c/\if c=true then tb σ H1 Q else Q (.bl false) H1
theorem alj {op} {t:TE} (h:PE X a t):PE X (.BoolOp op [a] pos) t:=fun pins s σ H Q I hw=>BoolOp_one (h pins s σ H Q I hw)
theorem alk (ha:PE X a ta) (hb:PE X (.BoolOp .And (b::rest) pos) tb):PE X (.BoolOp .And (a::b::rest) pos) (tAndV ta tb):=by
 walk_at "l"
 refine BoolOp_and (thn (ha pins s σ H _ I h) fun v s1 ⟨x,H1,I1,r1,q1⟩=>?_)
 obtain ⟨c,rfl,q1⟩:=q1
 cases r1
 refine Gv ?_
 cases c with
 | true=>exact hb pins s1 σ H1 Q I1 q1
 | false=>exact ⟨.bl false,H1,I1,rfl,q1⟩
noncomputable def tIf (t:TT) (ta tb:TE):TE:=fun σ H Q=>t σ H fun c H1=>if c=true then ta σ H1 Q else tb σ H1 Q
theorem Iz (hc:PT X c tA) (ha:PE X a ta) (hb:PE X b tb):PE X (.IfExp c a b pos) (tIf tA ta tb):=by
 walk_at "l"
 refine wpAny_IfExp (thn (hc pins s σ H _ I h) fun d s1 ⟨H1,I1,q1⟩=>?_)
 cases d with
 | true=>exact ha pins s1 σ H1 Q I1 q1
 | false=>exact hb pins s1 σ H1 Q I1 q1
end
noncomputable def SqL (K:aZ) (H:Hp) (a:Addr) (xs:List V):Prop :=
 Rd H a (.lst xs) \/
  ∃ (o:Obj) (its:Array Value) (n:Nat),K.lookup a=some o/\o.cls = .type "list" /\ o.dict=none/\o.data = .seq its n/\its.size<=sizeLine/\Vals xs its.toList
noncomputable def SqT (K:aZ) (H:Hp) (a:Addr) (xs:List V):Prop :=
 Rd H a (.tup xs) \/
  ∃ (o:Obj) (its:Array Value) (n:Nat),K.lookup a=some o/\o.cls = .type "tuple" /\ o.data = .seq its n/\its.size<=sizeLine/\Vals xs its.toList
noncomputable def absV:Value->Option V
 | .none=>some .non
 | .bool b=>some (.bl b)
 | .int i _=>some (.int i)
 | .str x _=>some (.str x)
 | .bytes b _=>some (.byt b)
 | .float b _=>some (.flt b)
 | .ref a=>some (.ref a)
 | .type n=>some (.ty n)
 | _=>none
theorem RelV.abs {x:V} (r:RelV x u):absV u=some x:=by
 cases x with
 | non=>cases r;rfl
 | bl _=>cases r;rfl
 | int _=>obtain ⟨t,rfl⟩:=r;rfl
 | str _=>obtain ⟨t,rfl⟩:=r;rfl
 | byt _=>obtain ⟨t,rfl⟩:=r;rfl
 | flt _=>obtain ⟨t,rfl⟩:=r;rfl
 | ref _=>cases r;rfl
 | ty _=>cases r;rfl
theorem RelV.inj {x:V} (r:RelV x u) (q:RelV y u):x=y:=cI (r.abs.symm.trans q.abs)
theorem Vals.inj:∀ {xs ys:List V} {us:List Value},Vals xs us->Vals ys us->xs=ys
 | _,_,_,.nil,.nil=>rfl
 | _,_,_,.cons r t,.cons r' t'=>by rw [r.inj r',Vals.inj t t']
section
variable {a:Addr} {ys:List V}
theorem Inv.list (I:Inv X pins σ H s) (h:SqL X.K H a xs):∃ its:List Value,Vals xs its/\PlainL s.heap a its.toArray/\xs.length<=sizeLine:=by
 rcases h with h | ⟨o,its,n,hk,hc,hd,hs,hz,r⟩
 ·obtain ⟨z,its,n,r,e⟩:=h.ok I.hok
  exact ⟨its,r,⟨_,n,e,rfl,rfl,rfl⟩,z⟩
 ·refine ⟨its.toList,r,⟨o,n,I.kIn a o hk,hc,hd,by simpa using hs⟩,?_⟩
  have e:=r.length
  simp only [fW] at e
  lia
theorem Inv.tuple (I:Inv X pins σ H s) (h:SqT X.K H a xs):∃ its:List Value,Vals xs its/\IsTup s.heap a its.toArray/\xs.length<=sizeLine:=by
 rcases h with h | ⟨o,its,n,hk,hc,hs,hz,r⟩
 ·obtain ⟨z,its,r,p⟩:=h.ok I.hok
  exact ⟨its,r,p,z⟩
 ·refine ⟨its.toList,r,⟨o,I.kIn a o hk,hc,n,by simpa using hs⟩,?_⟩
  have e:=r.length
  simp only [fW] at e
  lia
theorem Inv.RW (I:Inv X pins σ H s) (h:SqL X.K H a xs) (h':SqL X.K H a ys):xs=ys:=by
 obtain ⟨its,r,⟨o,n,e,_,_,d⟩,_⟩:=I.list h
 obtain ⟨its',r',⟨o',n',e',_,_,d'⟩,_⟩:=I.list h'
 rw [e] at e';cases e'
 rw [d] at d'
 injection d' with d1 _
 have:its=its':=by simpa using congrArg aeb d1
 subst this
 exact r.inj r'
theorem Inv.abq (I:Inv X pins σ H s) (h:SqT X.K H a xs) (h':SqT X.K H a ys):xs=ys:=by
 obtain ⟨its,r,⟨o,e,_,n,d⟩,_⟩:=I.tuple h
 obtain ⟨its',r',⟨o',e',_,n',d'⟩,_⟩:=I.tuple h'
 rw [e] at e';cases e'
 rw [d] at d'
 injection d' with d1 _
 have:its=its':=by simpa using congrArg aeb d1
 subst this
 exact r.inj r'
end
noncomputable abbrev Cx.wish (X:Cx) (E:Value->Shared->Prop):Cx:={ X with xe:=E }
noncomputable abbrev Cx.nox (X:Cx):Cx:=X.wish fun _ _=>False
theorem Cx.Ok.wish (ok:X.Ok) (E:Value->Shared->Prop):(X.wish E).Ok :=
 ⟨ok.mod,ok.kind,ok.glob,ok.blt,ok.above,ok.inj,ok.has,ok.cab,ok.hd,ok.frames,ok.stk,ok.exf,ok.bs,ok.bsz,ok.RV,ok.abp,ok.zu,ok.frf⟩
theorem Cx.Ok.lR (ok:(X.wish E).Ok):X.Ok :=
 ⟨ok.mod,ok.kind,ok.glob,ok.blt,ok.above,ok.inj,ok.has,ok.cab,ok.hd,ok.frames,ok.stk,ok.exf,ok.bs,ok.bsz,ok.RV,ok.abp,ok.zu,ok.frf⟩
theorem Inv.wish (I:Inv X pins σ H s) (E:Value->Shared->Prop):Inv (X.wish E) pins σ H s:=⟨I.ok.wish E,I.os,I.bare,I.base,I.loc,I.cell,I.free,I.nH,I.pin,I.hok,I.len⟩
theorem Inv.lR (I:Inv (X.wish E) pins σ H s):Inv X pins σ H s:=⟨I.ok.lR,I.os,I.bare,I.base,I.loc,I.cell,I.free,I.nH,I.pin,I.hok,I.len⟩
theorem SP.lR {f:Flow} (h:SP (X.wish E) pins D f s'):SP X pins D f s':=by
 cases f with
 | next=>obtain ⟨σ',H',I,q⟩:=h;exact ⟨σ',H',I.lR,q⟩
 | brk=>obtain ⟨σ',H',I,q⟩:=h;exact ⟨σ',H',I.lR,q⟩
 | cont=>obtain ⟨σ',H',I,q⟩:=h;exact ⟨σ',H',I.lR,q⟩
 | ret u=>obtain ⟨v,σ',H',I,r,q⟩:=h;exact ⟨v,σ',H',I.lR,r,q⟩
theorem PE.nox {t:TE} (h:PE X.nox e t):PE X e t:=fun pins s σ H Q I hw =>
 eF (h pins s σ H Q (I.wish _) hw) (fun _ _ ⟨v,H',I',r,q⟩=>⟨v,H',I'.lR,r,q⟩) fun _ _ z=>j8 z
theorem PT.nox {t:TT} (h:PT X.nox e t):PT X e t:=fun pins s σ H Q I hw =>
 eF (h pins s σ H Q (I.wish _) hw) (fun _ _ ⟨H',I',q⟩=>⟨H',I'.lR,q⟩) fun _ _ z=>j8 z
theorem PSs.nox {st:List Stmt} {t:TS} (h:PSs X.nox st t):PSs X st t:=fun pins s σ H D I hw =>
 eF (h pins s σ H D (I.wish _) hw) (fun _ _ q=>q.lR) fun _ _ z=>j8 z
section
variable {st:Stmt} {rest:List Stmt} {t u:TS} {pos:Pos}
@[reducible] noncomputable def afv:TS:=fun D σ H=>D.nx σ H
@[reducible] noncomputable def tSeq (t u:TS):TS:=fun D σ H=>t { D with nx:=u D } σ H
theorem dj:PSs X [] afv:=fun _ _ σ H _ I h=>Cy ⟨σ,H,I,h⟩
theorem aq (h1:PS X st t) (h2:PSs X rest u):PSs X (st::rest) (tSeq t u):=by
 intro pins s σ H D I h
 refine Uz (thn (h1 pins s σ H { D with nx:=u D } I h) fun f s1 q=>?_)
 cases f with
 | next =>
  obtain ⟨σ',H',I',q⟩:=q
  exact h2 pins s1 σ' H' D I' q
 | ret v=>exact q
 | brk=>exact q
 | cont=>exact q
theorem aF (h1:PS X st t):PSs X [st] t:=by
 intro pins s σ H D I h
 refine Uz (thn (h1 pins s σ H D I h) fun f s1 q=>?_)
 cases f with
 | next=>exact Cy q
 | ret v=>exact q
 | brk=>exact q
 | cont=>exact q
theorem Inv.quiet (I:Inv X pins σ H s):interactive X.env=false:=by simp [interactive,I.ok.kind]
@[reducible] noncomputable def tDrop (te:TE):TS:=fun D σ H=>te σ H fun _ H1=>D.nx σ H1
theorem bF (he:PE X e te) (hs:GJ e none pos.line X.env=pure false:=by rfl):PS X (.Expr e pos) (tDrop te):=by
 intro pins s σ H D I h
 exact acQ (thn (he pins s σ H _ I h) fun v s1 ⟨x,H1,I1,r1,q1⟩=>⟨σ,H1,I1,q1⟩) I.quiet hs
@[reducible] noncomputable def tRet (te:TE):TS:=fun D σ H=>te σ H D.rt
theorem cB (he:PE X e te):PS X (.Return (some e) pos) (tRet te):=by
 intro pins s σ H D I h
 exact wpAny_Return_some (thn (he pins s σ H _ I h) fun v s1 ⟨x,H1,I1,r1,q1⟩=>⟨x,σ,H1,I1,r1,q1⟩)
@[reducible] noncomputable def tIfS (c:TT) (t u:TS):TS:=fun D σ H=>c σ H fun b H1=>if b=true then t D σ H1 else u D σ H1
theorem fO {a b:List Stmt} (hc:PT X c tc) (ha:PSs X a t) (hb:PSs X b u):PS X (.If c a b pos) (tIfS tc t u):=by
 intro pins s σ H D I h
 refine wpAny_If (thn (hc pins s σ H _ I h) fun d s1 ⟨H1,I1,q1⟩=>?_)
 cases d with
 | true=>exact ha pins s1 σ H1 D I1 q1
 | false=>exact hb pins s1 σ H1 D I1 q1
end
noncomputable abbrev TG:=V->St->Hp->(St->Hp->Prop)->Prop
noncomputable abbrev TGs:=List V->St->Hp->(St->Hp->Prop)->Prop
noncomputable def PG (X:Cx) (target:Expr) (t:TG):Prop :=
 ∀ (pins:List (Addr × Obj)) (s:Shared) (σ:St) (H:Hp) (v:V) (u:Value) (Q:St->Hp->Prop),Inv X pins σ H s->RelV v u->t v σ H Q ->
  wpAny (model X.prog X.w) X.A (qR target X.env u) (fun _ s'=>∃ σ' H',Inv X pins σ' H' s'/\Q σ' H') X.xe s
noncomputable def PGs (X:Cx) (ts:List Expr) (t:TGs):Prop :=
 ∀ (pins:List (Addr × Obj)) (s:Shared) (σ:St) (H:Hp) (vs:List V) (us:List Value) (Q:St->Hp->Prop),Inv X pins σ H s->Vals vs us->t vs σ H Q ->
  wpAny (model X.prog X.w) X.A (assignInOrder ((CG ts X.env).map (·.2)) us) (fun _ s'=>∃ σ' H',Inv X pins σ' H' s'/\Q σ' H') X.xe s
noncomputable abbrev TSet:=V->V->V->Hp->(Hp->Prop)->Prop
noncomputable def PSet (X:Cx) (t:TSet):Prop :=
 ∀ (pins:List (Addr × Obj)) (s:Shared) (σ:St) (H:Hp) (o i v:V) (ov iv u:Value) (Q:Hp->Prop),Inv X pins σ H s->RelV o ov->RelV i iv->RelV v u->t o i v H Q ->
  wpAny (model X.prog X.w) X.A (setItem ov iv u) (fun _ s'=>∃ H',Inv X pins σ H' s'/\Q H') X.xe s
section
variable {pos:Pos}
@[reducible] noncomputable def xR (i:Nat):TG:=fun v σ H Q=>Q (σ.set i (some v)) H
theorem gG (hN:X.N.Nodup) (hi:X.N[i]? = some x) (hx:Loc X.env.scope x) (hf:X.fn x=true\/X.env.scope.names.lookup x=some .local:=by first | exact .inl rfl | exact .inr rfl | assumption):PG X (.Name x pos) (xR i):=by
 intro pins s σ H v u Q I r h
 exact acK (Iw I hN hi hx r (fun s' I'=>⟨_,H,I',h⟩) hf)
noncomputable def gNil:TGs:=fun vs σ H Q=>vs=[]/\Q σ H
noncomputable def IK (t:TG) (u:TGs):TGs:=fun vs σ H Q=>∃ v r,vs=v::r/\t v σ H fun σ' H'=>u r σ' H' Q
theorem FN:PGs X [] gNil:=by
 intro pins s σ H vs us Q I r h
 obtain ⟨e,h⟩:=h
 subst e
 cases r
 exact assignInOrder_nil ⟨σ,H,I,h⟩
theorem kj {t:TG} {u:TGs} (h1:PG X e t) (h2:PGs X es u)
  (hs:(CG (e::es) X.env).map (·.2)=qR e X.env::(CG es X.env).map (·.2):=by rfl):PGs X (e::es) (IK t u):=by
 intro pins s σ H vs us Q I r h
 obtain ⟨v,vr,e1,h⟩:=h
 subst e1
 cases r with
 | cons r rr =>
  rw [hs]
  refine assignInOrder_cons (thn (h1 pins s σ H _ _ _ I r h) fun _ s1 ⟨σ1,H1,I1,q1⟩=>?_)
  exact h2 pins s1 σ1 H1 _ _ Q I1 rr q1
noncomputable def gTup (K:aZ) (n:Nat) (t:TGs):TG:=fun v σ H Q=>∃ a xs,v = .ref a/\SqT K H a xs/\xs.length=n/\t xs σ H Q
theorem Qi {t:TGs} (hc:X.calm=true) (h:PGs X es t)
  (hn:(CG es X.env).length=n:=by rfl) (hst:(CG es X.env).findIdx? (·.1)=none:=by rfl):PG X (.Tuple es k pos) (gTup X.K n t):=by
 intro pins s σ H v u Q I r hw
 obtain ⟨a,xs,e1,hq,hl,hw⟩:=hw
 subst e1
 cases r
 obtain ⟨its,rv,ht,hz⟩:=I.tuple hq
 refine assign_Tuple_tuple (I.ok.hd hc) ht (by simp [hn,<- hl,rv.length]) hst fun h' hx=>?_
 have I1:Inv X pins σ H { s with heap:=h' }:=I.kept (t':=s.toks) fun b o e=>hx b o (cH (bQ e)) e
 exact h pins _ σ H xs _ Q I1 (by simpa using rv) hw
@[reducible] noncomputable def gSub (to ti:TE) (t:TSet):TG:=fun v σ H Q=>to σ H fun o H1=>ti σ H1 fun i H2=>t o i v H2 fun H3=>Q σ H3
theorem Du {o i:Expr} {to ti:TE} {t:TSet} (ho:PE X o to) (hi:PE X i ti) (hs:PSet X t)
  (ha:∀ v,qR (.Subscript o i pos) X.env v=(do
   let ov <- CN [v] (eval o X.env)
   let iv <- CN [v,ov] (eval i X.env)
   standAt pos
   CN [v,ov,iv] (setItem ov iv v)
   release [v,ov,iv] []):=by intro _;rfl):PG X (.Subscript o i pos) (gSub to ti t):=by
 intro pins s σ H v u Q I r h
 rw [ha]
 refine aG (jJ (thn (ho pins s σ H _ I h) fun ov s1 ⟨x,H1,I1,r1,q1⟩=>?_))
 refine aG (jJ (thn (hi pins s1 σ H1 _ I1 q1) fun iv s2 ⟨y,H2,I2,r2,q2⟩=>?_))
 refine aG (UJ (aG (jJ (thn (hs pins s2 σ H2 x y v ov iv u _ I2 r1 r2 r q2) fun _ s3 ⟨H3,I3,q3⟩=>?_))))
 exact wpAny_release ⟨σ,H3,I3,q3⟩
@[reducible] noncomputable def tAsg (te:TE) (g:TG):TS:=fun D σ H=>te σ H fun x H1=>g x σ H1 D.nx
theorem zA {g:TG} (he:PE X e te) (hg:PG X tg g) (hs:swapsWithSole [tg] e pos.line X.env=pure false:=by rfl) (hw:swappedStores [tg] e X.env=pure none:=by rfl)
  (h1:(CG [tg] X.env).map (·.2)=[qR tg X.env]:=by rfl):PS X (.Assign [tg] e pos) (tAsg te g):=by
 intro pins s σ H D I h
 refine wpAny_Assign_stores (thn (he pins s σ H _ I h) fun v s1 ⟨x,H1,I1,r1,q1⟩=>?_) hs hw
 rw [h1]
 exact thn (hg pins s1 σ H1 x v _ I1 r1 q1) fun _ s2 q=>q
theorem aX (hN:X.N.Nodup) (hi:X.N[i]? = some x) (hx:Loc X.env.scope x) (he:PE X e te) (hs:GJ e (some (.Name x pos')) pos.line X.env=pure false:=by rfl) (hf:X.fn x=true\/X.env.scope.names.lookup x=some .local:=by first | exact .inl rfl | exact .inr rfl | assumption) :
  PS X (.Assign [.Name x pos'] e pos) (tAsg te (xR i)):=by
 intro pins s σ H D I h
 refine wpAny_Assign_Name (thn (he pins s σ H _ I h) fun v s1 ⟨y,H1,I1,r1,q1⟩=>?_) hs
 exact Iw I1 hN hi hx r1 (fun s2 I2=>⟨_,H1,I2,q1⟩) hf
noncomputable def YL (c:TT) (tb:TS):TS:=fun D σ H=>∃ W:Nat->St->Hp->Prop,(∃ m,W m σ H)/\∀ m σ H,W m σ H ->
 c σ H fun b H1=>if b=true then ∃ N:St->Hp->Prop,(∀ σ' H',N σ' H'->∃ m',m'<m/\W m' σ' H')/\tb { D with nx:=N,ct:=N,bk:=D.nx } σ H1 else D.nx σ H1
theorem Ao (hp:Vb (model X.prog X.w) X.A X.env X.xe) (hc:PT X c tc) (hb:PSs X body tb):PS X (.While c body [] pos) (YL tc tb):=by
 intro pins s σ H D I h
 obtain ⟨W,⟨m0,w0⟩,turn⟩:=h
 refine wpAny_While (codeAny_whileLoop (fun n s'=>∃ σ' H',Inv X pins σ' H' s'/\W n σ' H') ?_ m0 ⟨σ,H,I,w0⟩)
 rintro n s1 ⟨σ1,H1,I1,w1⟩
 refine yx hp (thn (hc pins s1 σ1 H1 _ I1 (turn n σ1 H1 w1)) fun b s2 ⟨H2,I2,q2⟩=>?_)
 cases b with
 | true =>
  obtain ⟨N,hN,q2⟩:=q2
  rw [if_pos rfl]
  refine yx hp (thn (hb pins s2 σ1 H2 _ I2 q2) fun f s3 q3=>?_)
  cases f with
  | next =>
   obtain ⟨σ3,H3,I3,n3⟩:=q3
   obtain ⟨m',hm,w3⟩:=hN σ3 H3 n3
   exact ⟨m',hm,σ3,H3,I3,w3⟩
  | cont =>
   obtain ⟨σ3,H3,I3,n3⟩:=q3
   obtain ⟨m',hm,w3⟩:=hN σ3 H3 n3
   exact ⟨m',hm,σ3,H3,I3,w3⟩
  | brk=>exact q3
  | ret v=>exact q3
 | false =>
  rw [if_neg iK]
  exact Cy ⟨σ1,H2,I2,q2⟩
end
structure It where
 go:Nat->Hp->Prop
 yld:Nat->Hp->V->Hp->Prop
 stop:Nat->Hp->Prop
noncomputable def xq (X:Cx) (pins:List (Addr × Obj)) (H:Hp) (b:Addr):Prop :=
 H b=none/\b≠X.env.locals/\b∉X.fs/\(b∈X.ex\/X.s₀.heap.objs.size<=b)/\(∀ x c,X.env.cells.lookup x=some c->c≠b)/\∀ p∈X.pn++pins,p.1≠b
theorem Inv.abr {b:Addr} (I:Inv X pins σ H s) (hb:s.heap.objs.size<=b) (hn:H' b=none):xq X pins H' b:=by
 refine ⟨hn,tu (f9 I.lt hb),I.nofs hb,.inr (jL I.sz hb),fun x c e z=>?_,fun p hp z=>?_⟩
 ·obtain ⟨v,q⟩:=I.cell x c e
  exact absurd (f9 q.lt (by rw [z];exact hb)) (pP _)
 ·exact absurd (f9 (bQ (I.pin p hp).1) (by rw [z];exact hb)) (pP _)
structure Turn (P:aO) (w:World) (K:aZ) (tg:Expr) (J:It) (fp:List Addr) (it:Addr) (tn:Nat->Heap->Prop):Prop where
 mem:it∈fp
 obj:∀ i h,tn i h->∀ b∈fp,∃ o,h.get? b=some o/\∀ v,o.data ≠ .cell v
 keep:∀ i h h',tn i h->(∀ b∈fp,∀ o,h.get? b=some o->h'.get? b=some o)->tn i h'
 item:∀ (X:Cx),X.prog=P->X.w=w->X.K=K->X.calm=true->∀ (i:Nat) (pins:List (Addr × Obj)) (s:Shared) (σ:St) (H:Hp) (E:Value->Shared->Prop),Inv X pins σ H s->(∀ b∈fp,xq X pins H b)->tn i s.heap->J.go i H ->
  wpAny (model P w) X.A (lJ (.ref it)) (fun r s1=>∃ u,r=some u /\
   wpAny (model P w) X.A (Gz tg (.ref it) u) (fun _ s2=>∃ x H',Inv X pins σ H' s2/\RelV x u/\J.yld i H x H'/\tn (i+1) s2.heap/\∀ b∈fp,H' b=none) E s1) E s
 done:∀ (X:Cx),X.prog=P->X.w=w->X.K=K->X.calm=true->∀ (i:Nat) (pins:List (Addr × Obj)) (s:Shared) (σ:St) (H:Hp) (E:Value->Shared->Prop),Inv X pins σ H s->(∀ b∈fp,xq X pins H b)->tn i s.heap->J.stop i H ->
  wpAny (model P w) X.A (lJ (.ref it)) (fun r s1=>r=none/\Inv X pins σ H s1) E s
 self:∀ (A:bA) (i:Nat) (s:Shared) (Q:Value->Shared->Prop) (E:Value->Shared->Prop),tn i s.heap->Q (.ref it) s->wpAny (model P w) A (yJ (.ref it)) Q E s
noncomputable abbrev TI:=St->Hp->(It->Hp->Prop)->Prop
noncomputable def PIE (X:Cx) (pins:List (Addr × Obj)) (σ:St) (tg:Expr) (R:It->Hp->Prop) (itv:Value) (s2:Shared):Prop :=
 ∃ (it:Addr) (fp:List Addr) (tn:Nat->Heap->Prop) (J:It) (H':Hp),itv = .ref it/\Inv X pins σ H' s2/\Turn X.prog X.w X.K tg J fp it tn/\tn 0 s2.heap/\(∀ b∈fp,xq X pins H' b)/\R J H'
noncomputable def PI (X:Cx) (tg iter:Expr) (wi:TI):Prop :=
 ∀ (pins:List (Addr × Obj)) (s:Shared) (σ:St) (H:Hp) (R:It->Hp->Prop),Inv X pins σ H s->wi σ H R ->
  wpAny (model X.prog X.w) X.A (eval iter X.env) (fun v s1=>wpAny (model X.prog X.w) X.A (yJ v) (PIE X pins σ tg R) X.xe s1) X.xe s
theorem aat {M:Model} {o:Obj} {n:String} {vs:Array Value} {Q:Unit->Shared->Prop} (ho:s.heap.get? it=some o) (hc:o.cls = .type n) (hd:o.data = .fields vs)
  (hn:["enumerate","zip","dict_itemiterator","dict_reverseitemiterator","odict_iterator","itertools.zip_longest","itertools.pairwise"].contains n=false) (hQ:Q () s):wpAny M A (Gz tg (.ref it) u) Q E s:=by
 unfold Gz
 cases tg <;> first
  | exact bC hQ
  | (cases u <;> first
    | exact bC hQ
    | (refine aG (wpAny_load ho ?_)
       rw [hc,hd]
       show wpAny M A (if (["enumerate","zip","dict_itemiterator","dict_reverseitemiterator","odict_iterator","itertools.zip_longest","itertools.pairwise"].contains n && vs[0]? == some (mW _))=true then _ else _) Q E s
       rw [if_neg (by intro h;rw [hn,aey] at h;cases h)]
       exact bC hQ))
noncomputable def Itl (K:aZ) (a:Addr):It :=
 ⟨fun i H=>∃ xs x,SqL K H a xs/\xs[i]? = some x,fun i H x H'=>H'=H/\∀ xs,SqL K H a xs->xs[i]? = some x,fun i H=>∃ xs,SqL K H a xs/\xs.length<=i⟩
noncomputable def Itt (K:aZ) (a:Addr):It :=
 ⟨fun i H=>∃ xs x,SqT K H a xs/\xs[i]? = some x,fun i H x H'=>H'=H/\∀ xs,SqT K H a xs->xs[i]? = some x,fun i H=>∃ xs,SqT K H a xs/\xs.length<=i⟩
noncomputable def Itr (lo:Int) (n:Nat):It:=⟨fun i _=>i<n,fun i H x H'=>H'=H/\x = .int (lo+i),fun i _=>n<=i⟩
theorem abt {K:aZ} (a it:Addr):Turn P w K tg (Itl K a) [it] it (fun i h=>h.IsListIter it a i) where
 mem:=by simp
 obj:=fun i h st b hb=>by
  have e:b=it:=by simpa using hb
  subst e
  obtain ⟨o,e,c,d⟩:=st
  exact ⟨o,e,fun v z=>by rw [d] at z;cases z⟩
 keep:=fun i h h' st k=>st.at fun o e=>k it (by simp) o e
 item:=by
  walk_at "h"
  subst hP hw hK
  obtain ⟨xs,x,hq,hx⟩:=hg
  obtain ⟨its,rv,p,hz⟩:=I.list hq
  obtain ⟨u,hu,ru⟩:=rv.get hx
  k_dat it "i"
  refine wpAny_pyNext_list_item st p.isList (x:=u) (by simpa using hu) fun h' st' sb=>?_
  have I1:Inv X pins σ H { s with heap:=h' }:=I.turned (t':=s.toks) (fun b o hb e=>(sb.2 b hb).trans e) f0 f1 f3 f4 f5
  obtain ⟨o,e,c,d⟩:=id st'
  exact ⟨u,rfl,aat (s:={ s with heap:=h' }) e c d (by decide) ⟨x,H,I1,ru,⟨rfl,fun ys hy=>by rw [I.RW hy hq];exact hx⟩,st',fun b hb=>(hf b hb).1⟩⟩
 done:=by
  walk_at "h"
  subst hP hw hK
  obtain ⟨xs,hq,hx⟩:=hg
  obtain ⟨its,rv,p,hz⟩:=I.list hq
  k_dat it "i"
  have hl:=rv.length
  exact wpAny_pyNext_list_end (I.ok.hd hc) st p.isList (by simp;lia) fun h' eb=>⟨rfl,I.turned (t':=s.toks) (fun b o hb e=>eb b o hb e) f0 f1 f3 f4 f5⟩
 self:=fun _ _ _ _ _ st h=>wpAny_pyIter_listiter st h
theorem YM {K:aZ} (a it:Addr):Turn P w K tg (Itt K a) [it] it (fun i h=>h.IsTupleIter it a i) where
 mem:=by simp
 obj:=fun i h st b hb=>by
  have e:b=it:=by simpa using hb
  subst e
  obtain ⟨o,e,c,d⟩:=st
  exact ⟨o,e,fun v z=>by rw [d] at z;cases z⟩
 keep:=fun i h h' st k=>st.at fun o e=>k it (by simp) o e
 item:=by
  walk_at "h"
  subst hP hw hK
  obtain ⟨xs,x,hq,hx⟩:=hg
  obtain ⟨its,rv,p,hz⟩:=I.tuple hq
  obtain ⟨u,hu,ru⟩:=rv.get hx
  k_dat it "i"
  refine wpAny_pyNext_tuple_item st (show s.heap.IsTuple a its.toArray from p) (x:=u) (by simpa using hu) fun h' st' sb=>?_
  have I1:Inv X pins σ H { s with heap:=h' }:=I.turned (t':=s.toks) (fun b o hb e=>(sb.2 b hb).trans e) f0 f1 f3 f4 f5
  obtain ⟨o,e,c,d⟩:=id st'
  exact ⟨u,rfl,aat (s:={ s with heap:=h' }) e c d (by decide) ⟨x,H,I1,ru,⟨rfl,fun ys hy=>by rw [I.abq hy hq];exact hx⟩,st',fun b hb=>(hf b hb).1⟩⟩
 done:=by
  walk_at "h"
  subst hP hw hK
  obtain ⟨xs,hq,hx⟩:=hg
  obtain ⟨its,rv,p,hz⟩:=I.tuple hq
  k_dat it "i"
  have hl:=rv.length
  exact wpAny_pyNext_tuple_end (I.ok.hd hc) st (show s.heap.IsTuple a its.toArray from p) (by simp;lia) fun h' eb=>⟨rfl,I.turned (t':=s.toks) (fun b o hb e=>eb b o hb e) f0 f1 f3 f4 f5⟩
 self:=fun _ _ _ _ _ st h=>wpAny_pyIter_tupleiter st h
theorem YQ {K:aZ} (it:Addr) (lo:Int) (n:Nat):Turn P w K tg (Itr lo n) [it] it (fun i h=>IsRangeIter h it (lo+(i:Nat)*1) ((n:Int)-(i:Nat)) 1) where
 mem:=by simp
 obj:=fun i h st b hb=>by
  have e:b=it:=by simpa using hb
  subst e
  exact ⟨_,st,fun v z=>by
   have z':Data.fields _=Data.cell v:=z
   cases z'⟩
 keep:=fun i h h' st k=>k it (by simp) _ st
 item:=by
  walk_at "h"
  subst hP hw hK
  k_dat it "i"
  have W:=Walks.range (prog:=X.prog) (w:=X.w) (I.ok.hd hc) it lo 1 n
  refine W.item i s _ _ hg st fun v h' tk hv st' kk=>?_
  obtain ⟨t,rfl⟩:=hv
  have I1:Inv X pins σ H { s with heap:=h',toks:=tk }:=I.turned (fun b o hb e=>kk b o (by simpa using hb) e) f0 f1 f3 f4 f5
  refine ⟨_,rfl,aat (s:={ s with heap:=h',toks:=tk }) (n := "range_iterator") st' rfl rfl (by decide) ⟨.int (lo+i),H,I1,⟨t,?_⟩,⟨rfl,rfl⟩,st',fun b hb=>(hf b hb).1⟩⟩
  rw [aeJ]
 done:=by
  walk_at "h"
  subst hP hw hK
  k_dat it "i"
  exact wpAny_pyNext_range_end (I.ok.hd hc) st (by have:n<=i:=hg;lia) fun h' eb=>⟨rfl,I.turned (t':=s.toks) (fun b o hb e=>eb b o hb e) f0 f1 f3 f4 f5⟩
 self:=fun _ _ _ _ _ st h=>wpAny_pyIter_rangeiter st h
noncomputable def iList (K:aZ) (tl:TE):TI:=fun σ H R=>tl σ H fun x H1=>∃ a,x = .ref a/\(∃ xs,SqL K H1 a xs)/\R (Itl K a) H1
noncomputable def iTup (K:aZ) (tl:TE):TI:=fun σ H R=>tl σ H fun x H1=>∃ a,x = .ref a/\(∃ xs,SqT K H1 a xs)/\R (Itt K a) H1
theorem tG (hl:PE X l tl):PI X tg l (iList X.K tl):=by
 intro pins s σ H R I h
 refine thn (hl pins s σ H _ I h) fun v s1 ⟨x,H1,I1,r1,q1⟩=>?_
 obtain ⟨a,e,⟨xs,hq⟩,q⟩:=q1
 subst e
 cases r1
 obtain ⟨its,rv,p,hz⟩:=I1.list hq
 refine acL p.isList ?_
 refine ⟨s1.heap.objs.size,[s1.heap.objs.size],_,_,H1,rfl,I1.kept (t':=s1.toks) fun b o e=>dN _ e,abt a _,⟨_,eO _ rfl,rfl,rfl⟩,fun b hb=>?_,q⟩
 have e:b=s1.heap.objs.size:=by simpa using hb
 subst e
 exact I1.abr (bV _) (I1.hok.fresh (bV _))
theorem afw (hl:PE X l tl):PI X tg l (iTup X.K tl):=by
 intro pins s σ H R I h
 refine thn (hl pins s σ H _ I h) fun v s1 ⟨x,H1,I1,r1,q1⟩=>?_
 obtain ⟨a,e,⟨xs,hq⟩,q⟩:=q1
 subst e
 cases r1
 obtain ⟨its,rv,p,hz⟩:=I1.tuple hq
 refine wpAny_pyIter_tuple (show s1.heap.IsTuple a its.toArray from p) ?_
 refine ⟨s1.heap.objs.size,[s1.heap.objs.size],_,_,H1,rfl,I1.kept (t':=s1.toks) fun b o e=>dN _ e,YM a _,⟨_,eO _ rfl,rfl,rfl⟩,fun b hb=>?_,q⟩
 have e:b=s1.heap.objs.size:=by simpa using hb
 subst e
 exact I1.abr (bV _) (I1.hok.fresh (bV _))
theorem afx {R:It->Hp->Prop} {lo hi:Int} {t u v:Tok} {tk:Nat} (I:Inv X pins σ H s) (h1:-(2 ^ 62)<=lo) (h2:lo<2 ^ 62) (h3:-(2 ^ 62)<=hi) (h4:hi<2 ^ 62)
  (q:R (Itr lo (hi-lo).toNat) H):wpAny (model X.prog X.w) X.A (yJ (.ref s.heap.objs.size)) (PIE X pins σ tg R) E { s with heap:=s.heap.push { cls:=.type "range",data:=.fields #[.int lo t,.int hi u,.int 1 v] },toks:=tk }:=by
 refine wpAny_pyIter_range (IsRange.new ..) (small_one h1 h2 h3 h4) ?_
 have I1:Inv X pins σ H { s with heap:=s.heap.push { cls:=.type "range",data:=.fields #[.int lo t,.int hi u,.int 1 v] },toks:=tk }:=I.kept fun b o e=>dN _ e
 refine ⟨(s.heap.push { cls:=.type "range",data:=.fields #[.int lo t,.int hi u,.int 1 v] }).objs.size,[(s.heap.push { cls:=.type "range",data:=.fields #[.int lo t,.int hi u,.int 1 v] }).objs.size],_,_,H,rfl,
  I1.kept (t':=tk) fun b o e=>dN _ e,YQ _ lo (hi-lo).toNat,?_,fun b hb=>?_,q⟩
 ·have e1:lo+((0:Nat):Int)*1=lo:=by simp
  have e2:(((hi-lo).toNat:Nat):Int)-((0:Nat):Int)=ak1 lo hi 1:=by rw [rangeSize_one];split <;> lia
  show IsRangeIter _ _ (lo+((0:Nat):Int)*1) ((((hi-lo).toNat:Nat):Int)-((0:Nat):Int)) 1
  rw [e1,e2]
  exact eO _ rfl
 ·have e:b=(s.heap.push { cls:=.type "range",data:=.fields #[.int lo t,.int hi u,.int 1 v] }).objs.size:=by simpa using hb
  subst e
  exact I1.abr (bV _) (I1.hok.fresh (bV _))
noncomputable def iRng1 (ta:TA):TI:=fun σ H R=>ta σ H fun vs H1=>∃ j:Int,vs=[.int j] /\ -(2 ^ 62)<=j/\j<2 ^ 62/\R (Itr 0 j.toNat) H1
theorem Dv {a:Expr} {ta:TA} {pos:Pos} (hg:Gl X "range") (hm:X.mg "range" = none) (ha:PA X [a] ta) (hs:cW [a] X.env=[(false,eval a X.env)]:=by rfl):PI X tg (.Call (.Name "range" p) [a] [] pos) (iRng1 ta):=by
 intro pins s σ H R I h
 refine Call_ (oM I hg hm boot_range (Lp (thn (ha pos pins s σ H _ I h) fun us s1 ⟨vs,H1,I1,r1,q1⟩=>?_) hs rfl))
 obtain ⟨j,e,q1,q2,q⟩:=q1
 subst e
 cases r1 with
 | cons r rr =>
  cases rr
  obtain ⟨t,rfl⟩:=r
  exact call_range_1 (afx I1 tb_g% tb_g% q1 q2 (by simpa using q))
noncomputable def tFor (wi:TI) (g:TG) (tb:TS):TS:=fun D σ H=>wi σ H fun J H1=>∃ W:Nat->Nat->St->Hp->Prop,(∃ m,W 0 m σ H1)/\∀ i m σ H,W i m σ H ->
 (J.stop i H/\D.nx σ H)\/(J.go i H/\∃ N:St->Hp->Prop,(∀ σ' H',N σ' H'->∃ m',m'<m/\W (i+1) m' σ' H')/\∀ x H',J.yld i H x H'->g x σ H' fun σ2 H2=>tb { D with nx:=N,ct:=N,bk:=D.nx } σ2 H2)
noncomputable def Dw (fp:List Addr) (h:Heap):List (Addr × Obj):=fp.filterMap fun b=>(h.get? b).map fun o=>(b,o)
theorem lU {b:Addr} {o:Obj} (hb:b∈fp) (e:h.get? b=some o):(b,o)∈Dw fp h:=Vs.mpr ⟨b,hb,by rw [e];rfl⟩
theorem abu {p:Addr × Obj} (hp:p∈Dw fp h):p.1∈fp/\h.get? p.1=some p.2:=by
 obtain ⟨b,hb,e⟩:=Vs.mp hp
 cases q:h.get? b with
 | none=>rw [q] at e;cases e
 | some o =>
  rw [q] at e
  have e':(b,o)=p:=cI e
  subst e'
  exact ⟨hb,q⟩
theorem Inv.pinned (I:Inv X pins σ H s) (hf:∀ b∈fp,xq X pins H b) (ho:∀ b∈fp,∃ o,s.heap.get? b=some o/\∀ v,o.data ≠ .cell v):Inv X (pins++Dw fp s.heap) σ H s :=
 I.aar fun p hp=>(d9.mp hp).elim (fun z=>I.pin p (pN _ z)) fun z=>by
  obtain ⟨hb,e⟩:=abu z
  obtain ⟨f0,f1,f2,_⟩:=hf p.1 hb
  obtain ⟨o,e',d⟩:=ho p.1 hb
  rw [e] at e';cases e'
  exact ⟨e,f0,f1,f2,d⟩
theorem Inv.oN {pl:List (Addr × Obj)} (I:Inv X (pins++pl) σ H s):Inv X pins σ H s:=I.aar fun p hp=>I.pin p (pN _ (Vn _ hp))
theorem zB {iter:Expr} {wi:TI} {g:TG} {pos:Pos} (hp:Vb (model X.prog X.w) X.A X.env X.xe) (hc:X.calm=true) (hi:PI X tg iter wi) (hg:PG X tg g) (hb:PSs X body tb)
  (hs:∀ x,Gx iter X.env x=pure x:=by intro _;rfl):PS X (.For tg iter body [] pos) (tFor wi g tb):=by
 intro pins s σ H D I h
 refine wpAny_For (thn (hi pins s σ H _ I h) fun v s1 h1=>thn h1 fun itv s2 h2=>?_) hs
 obtain ⟨it,fp,tn,J,H2,e,I2,T,st2,f2,W,⟨m0,w0⟩,turn⟩:=h2
 subst e
 have stat:∀ {H':Hp},(∀ b∈fp,H' b=none)->∀ b∈fp,xq X pins H' b:=fun hn b hb=>⟨hn b hb,(f2 b hb).2⟩
 refine codeAny_forLoop_any (fun n s'=>∃ i σ' H',Inv X pins σ' H' s'/\tn i s'.heap/\(∀ b∈fp,H' b=none)/\W i n σ' H') ?_ m0 ⟨0,σ,H2,I2,st2,fun b hb=>(f2 b hb).1,w0⟩
 rintro n s3 ⟨i,σ3,H3,I3,st3,fr3,w3⟩
 rcases turn i n σ3 H3 w3 with ⟨stop,qn⟩ | ⟨go,N,hN,step⟩
 ·refine yx hp (thn (T.done X rfl rfl rfl hc i pins s3 σ3 H3 X.xe I3 (stat fr3) st3 stop) fun r s4 ⟨hr,I4⟩=>?_)
  subst hr
  exact Cy ⟨σ3,H3,I4,qn⟩
 ·refine yx hp (thn (T.item X rfl rfl rfl hc i pins s3 σ3 H3 X.xe I3 (stat fr3) st3 go) fun r s4 ⟨u,hr,h4⟩=>?_)
  subst hr
  refine yx hp (thn h4 fun _ s5 ⟨x,H5,I5,r5,y5,st5,fr5⟩=>?_)
  have I5':=I5.pinned (stat fr5) (T.obj _ _ st5)
  refine yx hp (thn (hg _ s5 σ3 H5 x u _ I5' r5 (step x H5 y5)) fun _ s6 ⟨σ6,H6,I6,q6⟩=>?_)
  refine yx hp (thn (hb _ s6 σ6 H6 _ I6 q6) fun f s7 q7=>?_)
  have again:∀ {σ7:St} {H7:Hp},Inv X (pins++Dw fp s5.heap) σ7 H7 s7->N σ7 H7->∃ m,m<n/\∃ i σ' H',Inv X pins σ' H' s7/\tn i s7.heap/\(∀ b∈fp,H' b=none)/\W i m σ' H':=fun {σ7 H7} I7 n7=>by
   obtain ⟨m',hm,w7⟩:=hN σ7 H7 n7
   refine ⟨m',hm,i+1,σ7,H7,I7.oN,T.keep _ _ _ st5 fun b hb o e=>(I7.pin (b,o) (pN _ (pN _ (lU hb e)))).1,fun b hb=>?_,w7⟩
   obtain ⟨o,e,d⟩:=T.obj _ _ st5 b hb
   exact (I7.pin (b,o) (pN _ (pN _ (lU hb e)))).2.1
  cases f with
  | next=>obtain ⟨σ7,H7,I7,n7⟩:=q7;exact again I7 n7
  | cont=>obtain ⟨σ7,H7,I7,n7⟩:=q7;exact again I7 n7
  | brk=>obtain ⟨σ7,H7,I7,q7⟩:=q7;exact ⟨σ7,H7,I7.oN,q7⟩
  | ret v=>obtain ⟨x7,σ7,H7,I7,r7,q7⟩:=q7;exact ⟨x7,σ7,H7,I7.oN,r7,q7⟩
theorem RX {K:aZ} {a:Addr} {g:TG} (Pv:Nat->St->Hp->Prop) (h0:Pv 0 σ H) (hl:∀ i σ H,i<=xs.length->Pv i σ H->SqL K H a xs)
  (hs:∀ i x σ H,xs[i]? = some x->Pv i σ H->g x σ H fun σ2 H2=>tb { D with nx:=Pv (i+1),ct:=Pv (i+1),bk:=D.nx } σ2 H2) (hd:∀ σ H,Pv xs.length σ H->D.nx σ H) :
  ∃ W:Nat->Nat->St->Hp->Prop,(∃ m,W 0 m σ H)/\∀ i m σ H,W i m σ H ->
   ((Itl K a).stop i H/\D.nx σ H)\/((Itl K a).go i H/\∃ N:St->Hp->Prop,(∀ σ' H',N σ' H'->∃ m',m'<m/\W (i+1) m' σ' H')/\∀ x H',(Itl K a).yld i H x H'->g x σ H' fun σ2 H2=>tb { D with nx:=N,ct:=N,bk:=D.nx } σ2 H2):=by
 refine ⟨fun i m σ H=>m=xs.length-i/\i<=xs.length/\Pv i σ H,⟨xs.length,by simp,cY _,h0⟩,?_⟩
 rintro i m σ H ⟨rfl,hi,p⟩
 have q:=hl i σ H hi p
 by_cases hlt:i<xs.length
 ·refine .inr ⟨⟨xs,xs[i],q,by simp [hlt]⟩,Pv (i+1),fun σ' H' p'=>⟨xs.length-(i+1),by lia,rfl,hlt,p'⟩,fun x H' y=>?_⟩
  obtain ⟨e,y⟩:=y
  subst e
  exact hs i x σ _ (y xs q) p
 ·have e:i=xs.length:=by lia
  subst e
  exact .inl ⟨⟨xs,q,bV _⟩,hd σ H p⟩
theorem Dy {lo:Int} {g:TG} (Pv:Nat->St->Hp->Prop) (h0:Pv 0 σ H)
  (hs:∀ i σ H,i<n->Pv i σ H->g (.int (lo+i)) σ H fun σ2 H2=>tb { D with nx:=Pv (i+1),ct:=Pv (i+1),bk:=D.nx } σ2 H2) (hd:∀ σ H,Pv n σ H->D.nx σ H) :
  ∃ W:Nat->Nat->St->Hp->Prop,(∃ m,W 0 m σ H)/\∀ i m σ H,W i m σ H ->
   ((Itr lo n).stop i H/\D.nx σ H)\/((Itr lo n).go i H/\∃ N:St->Hp->Prop,(∀ σ' H',N σ' H'->∃ m',m'<m/\W (i+1) m' σ' H')/\∀ x H',(Itr lo n).yld i H x H'->g x σ H' fun σ2 H2=>tb { D with nx:=N,ct:=N,bk:=D.nx } σ2 H2):=by
 refine ⟨fun i m σ H=>m=n-i/\i<=n/\Pv i σ H,⟨n,by simp,cY _,h0⟩,?_⟩
 rintro i m σ H ⟨rfl,hi,p⟩
 by_cases hlt:i<n
 ·refine .inr ⟨hlt,Pv (i+1),fun σ' H' p'=>⟨n-(i+1),by lia,rfl,hlt,p'⟩,fun x H' y=>?_⟩
  obtain ⟨e,y⟩:=y
  subst e y
  exact hs i σ _ hlt p
 ·have e:i=n:=by lia
  subst e
  exact .inl ⟨bV _,hd σ H p⟩
theorem Aq {c:TT} (Pv:St->Hp->Prop) (μ:St->Hp->Nat) (h0:Pv σ H)
  (hs:∀ σ H,Pv σ H->c σ H fun b H1=>if b=true then tb { D with nx:=fun σ' H'=>Pv σ' H'/\μ σ' H'<μ σ H,ct:=fun σ' H'=>Pv σ' H'/\μ σ' H'<μ σ H,bk:=D.nx } σ H1 else D.nx σ H1)
  (mono:∀ σ H Q Q',(∀ b H1,Q b H1->Q' b H1)->c σ H Q->c σ H Q'):YL c tb D σ H:=by
 refine ⟨fun m σ H=>m=μ σ H/\Pv σ H,⟨_,rfl,h0⟩,?_⟩
 rintro m σ H ⟨rfl,p⟩
 refine mono σ H _ _ (fun b H1 q=>?_) (hs σ H p)
 cases b with
 | true=>exact ⟨_,fun σ' H' ⟨p',l⟩=>⟨_,l,rfl,p'⟩,q⟩
 | false=>exact q
noncomputable abbrev R2:=V->V->Hp->VK->Prop
variable {r:R2}
noncomputable def OpR (X:Cx) (f:Value->Value->Sem Value) (r:R2):Prop :=
 ∀ (pins:List (Addr × Obj)) (s:Shared) (σ:St) (H:Hp) (x y:V) (v u:Value) (Q:VK),Inv X pins σ H s->RelV x v->RelV y u->r x y H Q ->
  wpAny (model X.prog X.w) X.A (f v u) (EP X pins σ Q) X.xe s
noncomputable def UnR (X:Cx) (f:Value->Sem Value) (r:V->Hp->VK->Prop):Prop :=
 ∀ (pins:List (Addr × Obj)) (s:Shared) (σ:St) (H:Hp) (x:V) (v:Value) (Q:VK),Inv X pins σ H s->RelV x v->r x H Q ->
  wpAny (model X.prog X.w) X.A (f v) (EP X pins σ Q) X.xe s
noncomputable def gC (X:Cx) (f:Value) (r:List V->Hp->VK->Prop):Prop :=
 ∀ (pins:List (Addr × Obj)) (s:Shared) (σ:St) (H:Hp) (xs:List V) (us:List Value) (Q:VK),Inv X pins σ H s->Vals xs us->r xs H Q ->
  wpAny (model X.prog X.w) X.A (call f us) (EP X pins σ Q) X.xe s
@[reducible] noncomputable def tOp (r:R2) (ta tb:TE):TE:=fun σ H Q=>ta σ H fun x H1=>tb σ H1 fun y H2=>r x y H2 Q
noncomputable def tUn (r:V->Hp->VK->Prop) (ta:TE):TE:=fun σ H Q=>ta σ H fun x H1=>r x H1 Q
noncomputable def rI (C:Int->Int->Prop) (g:Int->Int->V):R2:=fun x y H Q=>∃ i j,x = .int i/\y = .int j/\C i j/\Q (g i j) H
noncomputable def rI0 (g:Int->Int->V):R2:=fun x y H Q=>∃ i j,x = .int i/\y = .int j/\Q (g i j) H
noncomputable def rU (g:Int->V):V->Hp->VK->Prop:=fun x H Q=>∃ i,x = .int i/\Q (g i) H
section
variable {a b:Expr} {tb tc:TE} {pos:Pos}
theorem binT (ha:PE X a ta) (hb:PE X b tb) {R:V->V->Hp->Prop} (I:Inv X pins σ H s)
  (h:ta σ H fun x H1=>tb σ H1 fun y H2=>R x y H2) {Q:Value->Shared->Prop} {f:Value->Value->Sem Value}
  (hf:∀ v u s2 x y H2,Inv X pins σ H2 s2->RelV x v->RelV y u->R x y H2->wpAny (model X.prog X.w) X.A (f v u) Q X.xe s2) :
  wpAny (model X.prog X.w) X.A (eval a X.env) (fun v s₁=>wpAny (model X.prog X.w) X.A (eval b X.env) (fun u s₂=>wpAny (model X.prog X.w) X.A (f v u) Q X.xe s₂) X.xe s₁) X.xe s:=by
 refine thn (ha pins s σ H _ I h) fun v s1 ⟨x,H1,I1,r1,q1⟩=>?_
 refine thn (hb pins s1 σ H1 _ I1 q1) fun u s2 ⟨y,H2,I2,r2,q2⟩=>?_
 exact hf v u s2 x y H2 I2 r1 r2 q2
theorem aM {op:Operator} (ho:OpR X (vg op) r) (ha:PE X a ta) (hb:PE X b tb):PE X (.BinOp a op b pos) (tOp r ta tb):=by
 walk_at "l"
 exact wpAny_BinOp (binT ha hb I h fun v u s2 x y H2 I2 rx ry q=>ho pins s2 σ H2 x y v u Q I2 rx ry q)
theorem aja {op:UnaryOp} {r:V->Hp->VK->Prop} (ho:UnR X (unaryOp op) r) (ha:PE X a ta):PE X (.UnaryOp op a pos) (tUn r ta):=by
 walk_at "l"
 exact UnaryOp_ (thn (ha pins s σ H _ I h) fun v s1 ⟨x,H1,I1,r1,q1⟩=>ho pins s1 σ H1 x v Q I1 r1 q1)
theorem opI {C:Int->Int->Prop} 
  (rule:∀ (i j:Int) (t u:Tok) (s:Shared) (Q:Value->Shared->Prop) (E:Value->Shared->Prop),C i j->Q (.int (g i j) s.toks) { s with toks:=s.toks+1 }->wpAny (model X.prog X.w) X.A (f (.int i t) (.int j u)) Q E s) :
  OpR X f (rI C fun i j=>.int (g i j)):=by
 walk_at "m"
 obtain ⟨i,j,rfl,rfl,hc,q⟩:=h
 obtain ⟨t,rfl⟩:=rx
 obtain ⟨t',rfl⟩:=ry
 exact rule i j t t' s _ _ hc ⟨.int (g i j),H,I.tok _,⟨_,rfl⟩,q⟩
theorem opI0 
  (rule:∀ (i j:Int) (t u:Tok) (s:Shared) (Q:Value->Shared->Prop) (E:Value->Shared->Prop),Q (.int (g i j) s.toks) { s with toks:=s.toks+1 }->wpAny (model X.prog X.w) X.A (f (.int i t) (.int j u)) Q E s) :
  OpR X f (rI0 fun i j=>.int (g i j)):=by
 walk_at "m"
 obtain ⟨i,j,rfl,rfl,q⟩:=h
 obtain ⟨t,rfl⟩:=rx
 obtain ⟨t',rfl⟩:=ry
 exact rule i j t t' s _ _ ⟨.int (g i j),H,I.tok _,⟨_,rfl⟩,q⟩
theorem opB0 {g:Int->Int->Bool}
  (rule:∀ (i j:Int) (t u:Tok) (s:Shared) (Q:Value->Shared->Prop) (E:Value->Shared->Prop),Q (.bool (g i j)) s->wpAny (model X.prog X.w) X.A (f (.int i t) (.int j u)) Q E s) :
  OpR X f (rI0 fun i j=>.bl (g i j)):=by
 walk_at "m"
 obtain ⟨i,j,rfl,rfl,q⟩:=h
 obtain ⟨t,rfl⟩:=rx
 obtain ⟨t',rfl⟩:=ry
 exact rule i j t t' s _ _ ⟨.bl (g i j),H,I,rfl,q⟩
noncomputable def CDiv (i j:Int):Prop:=0<j/\j<1073741824
noncomputable def CPow (i j:Int):Prop:=0<=j/\j<=1000000/\i.natAbs<2 ^ 64
noncomputable def afy (i j:Int):Prop:=(-(2 ^ 64)<i/\i<2 ^ 64)\/(-(2 ^ 64)<j/\j<2 ^ 64)
theorem afy.ok {i j:Int} (h:afy i j):IntMulOk i j:=by
 rcases h with ⟨h1,h2⟩ | ⟨h1,h2⟩
 ·exact .of_left (acY h1 h2)
 ·exact .of_right (acY h1 h2)
theorem cu:OpR X (vg .Add) (rI0 fun i j=>.int (i+j)):=opI0 fun _ _ _ _ _ _ _ q=>add_int q
theorem IV:OpR X (vg .Sub) (rI0 fun i j=>.int (i-j)):=opI0 fun _ _ _ _ _ _ _ q=>sub_int q
theorem qX:OpR X (vg .Mult) (rI afy fun i j=>.int (i*j)):=opI fun _ _ _ _ _ _ _ hc q=>mul_int q hc.ok
theorem iM:OpR X (vg .FloorDiv) (rI CDiv fun i j=>.int (i / j)):=opI fun i j _ _ _ _ _ hc q=>by
 have h1:(0:Int)<j:=hc.1
 have h2:j<1073741824:=hc.2
 exact floordiv_int tb_g% (by rw [Int.fdiv_eq_ediv_of_nonneg i tb_g%];exact q) (.inl (PyProof.noPylong_small tb_g%))
theorem dM:OpR X (vg .Mod) (rI (fun _ j=>0<j) fun i j=>.int (i % j)):=opI fun i j _ _ _ _ _ hc q=>by
 have h1:(0:Int)<j:=hc
 exact mod_int' tb_g% (by rw [Int.fmod_eq_emod_of_nonneg i tb_g%];exact q)
theorem alm:OpR X (vg .LShift) (rI CPow fun i j=>.int (i*2 ^ j.toNat)):=opI fun _ _ _ _ _ _ _ hc q=>lshift_int_small hc.1 hc.2.1 hc.2.2 q
theorem unI {f:Value->Sem Value} {g:Int->Int}
  (rule:∀ (i:Int) (t:Tok) (s:Shared) (Q:Value->Shared->Prop) (E:Value->Shared->Prop),Q (.int (g i) s.toks) { s with toks:=s.toks+1 }->wpAny (model X.prog X.w) X.A (f (.int i t)) Q E s) :
  UnR X f (rU fun i=>.int (g i)):=by
 intro pins s σ H x v Q I rx h
 obtain ⟨i,rfl,q⟩:=h
 obtain ⟨t,rfl⟩:=rx
 exact rule i t s _ _ ⟨.int (g i),H,I.tok _,⟨_,rfl⟩,q⟩
theorem afz:UnR X (unaryOp .USub) (rU fun i=>.int (-i)):=unI fun _ _ _ _ _ q=>neg_int q
end
noncomputable def scal:V->V->Bool
 | .non,.non=>true | .non,.int _=>true | .int _,.non=>true | .non,.bl _=>true | .bl _,.non=>true | .non,.str _=>true | .str _,.non=>true
 | .int _,.int _=>true | .bl _,.bl _=>true | .str _,.str _=>true | .byt _,.byt _=>true
 | .int _,.str _=>true | .str _,.int _=>true | .bl _,.str _=>true | .str _,.bl _=>true
 | _,_=>false
noncomputable def rEq:R2:=fun x y H Q=>scal x y=true/\Q (.bl (decide (x=y))) H
noncomputable def rNe:R2:=fun x y H Q=>scal x y=true/\Q (.bl (!decide (x=y))) H
theorem aau {i j:Int}:decide (V.int i=V.int j)=(i == j):=by
 rw [Pr]
 simp
theorem afA {i j:Bool}:decide (V.bl i=V.bl j)=(i == j):=by
 rw [Pr]
 simp
theorem aav {i j:Str}:decide (V.str i=V.str j)=(i == j):=by
 rw [Pr]
 simp
theorem aaw {i j:Array UInt8}:decide (V.byt i=V.byt j)=(i.toList == j.toList):=by
 rw [Pr]
 cases i
 cases j
 simp
section
variable {a b:Expr} {tb tc:TE} {pos:Pos}
theorem dB {Q:VK} {k k':Bool} (I:Inv X pins σ H s) (q:Q (.bl k) H) (e:k=k'):EP X pins σ Q (.bool k') s:=by
 subst e
 exact ⟨.bl k,H,I,rfl,q⟩
theorem uH:OpR X (jA .Eq) rEq:=by
 walk_at "m"
 obtain ⟨hs,q⟩:=h
 cases x with
 | non =>
  cases rx
  cases y with
  | non=>cases ry;exact akC (dB I q (by simp))
  | bl j=>cases ry;exact akD (dB I q (by simp))
  | int j=>obtain ⟨t',rfl⟩:=ry;exact akI (dB I q (by simp))
  | str j=>obtain ⟨t',rfl⟩:=ry;exact akJ (dB I q (by simp))
  | _=>exact absurd (show false=true from hs) iK
 | bl i =>
  cases rx
  cases y with
  | non=>cases ry;exact akE (dB I q (by simp))
  | bl j=>cases ry;exact eq_bool (dB I q afA)
  | str j=>obtain ⟨t',rfl⟩:=ry;exact akQ (dB I q (by simp))
  | _=>exact absurd (show false=true from hs) iK
 | int i =>
  obtain ⟨t,rfl⟩:=rx
  cases y with
  | non=>cases ry;exact akK (dB I q (by simp))
  | int j=>obtain ⟨t',rfl⟩:=ry;exact eq_int (dB I q aau)
  | str j=>obtain ⟨t',rfl⟩:=ry;exact akU (dB I q (by simp))
  | _=>exact absurd (show false=true from hs) iK
 | str i =>
  obtain ⟨t,rfl⟩:=rx
  cases y with
  | non=>cases ry;exact akL (dB I q (by simp))
  | bl j=>cases ry;exact akR (dB I q (by simp))
  | int j=>obtain ⟨t',rfl⟩:=ry;exact akV (dB I q (by simp))
  | str j=>obtain ⟨t',rfl⟩:=ry;exact eq_str (dB I q aav)
  | _=>exact absurd (show false=true from hs) iK
 | byt i =>
  obtain ⟨t,rfl⟩:=rx
  cases y with
  | byt j=>obtain ⟨t',rfl⟩:=ry;exact PySem.W.eq_bytes (dB I q aaw)
  | _=>exact absurd (show false=true from hs) iK
 | _=>cases y <;> exact absurd (show false=true from hs) iK
theorem Ar:OpR X (jA .NotEq) rNe:=by
 walk_at "m"
 obtain ⟨hs,q⟩:=h
 cases x with
 | non =>
  cases rx
  cases y with
  | non=>cases ry;exact akF (dB I q (by simp))
  | bl j=>cases ry;exact akG (dB I q (by simp))
  | int j=>obtain ⟨t',rfl⟩:=ry;exact akM (dB I q (by simp))
  | str j=>obtain ⟨t',rfl⟩:=ry;exact akN (dB I q (by simp))
  | _=>exact absurd (show false=true from hs) iK
 | bl i =>
  cases rx
  cases y with
  | non=>cases ry;exact akH (dB I q (by simp))
  | bl j=>cases ry;exact ne_bool (dB I q (congrArg not afA))
  | str j=>obtain ⟨t',rfl⟩:=ry;exact akS (dB I q (by simp))
  | _=>exact absurd (show false=true from hs) iK
 | int i =>
  obtain ⟨t,rfl⟩:=rx
  cases y with
  | non=>cases ry;exact akO (dB I q (by simp))
  | int j=>obtain ⟨t',rfl⟩:=ry;exact ne_int (dB I q (congrArg not aau))
  | str j=>obtain ⟨t',rfl⟩:=ry;exact akW (dB I q (by simp))
  | _=>exact absurd (show false=true from hs) iK
 | str i =>
  obtain ⟨t,rfl⟩:=rx
  cases y with
  | non=>cases ry;exact akP (dB I q (by simp))
  | bl j=>cases ry;exact akT (dB I q (by simp))
  | int j=>obtain ⟨t',rfl⟩:=ry;exact akX (dB I q (by simp))
  | str j=>obtain ⟨t',rfl⟩:=ry;exact ne_str (dB I q (congrArg not aav))
  | _=>exact absurd (show false=true from hs) iK
 | byt i =>
  obtain ⟨t,rfl⟩:=rx
  cases y with
  | byt j=>obtain ⟨t',rfl⟩:=ry;exact PySem.W.ne_bytes (dB I q (congrArg not aaw))
  | _=>exact absurd (show false=true from hs) iK
 | _=>cases y <;> exact absurd (show false=true from hs) iK
theorem IW:OpR X (jA .Lt) (rI0 fun i j=>.bl (decide (i<j))):=opB0 fun _ _ _ _ _ _ _ q=>lt_int q
theorem ajb:OpR X (jA .LtE) (rI0 fun i j=>.bl (decide (i<=j))):=opB0 fun _ _ _ _ _ _ _ q=>le_int q
theorem RZ:OpR X (jA .Gt) (rI0 fun i j=>.bl (decide (j<i))):=opB0 fun _ _ _ _ _ _ _ q=>gt_int q
theorem ajc:OpR X (jA .GtE) (rI0 fun i j=>.bl (decide (j<=i))):=opB0 fun _ _ _ _ _ _ _ q=>ge_int q
theorem aln:OpR X (jA .Is) (fun x y H Q=>y = .non/\Q (.bl (decide (x = .non))) H):=by
 walk_at "m"
 obtain ⟨rfl,q⟩:=h
 cases ry
 refine is_none_gen (dB I q ?_)
 cases x <;> first
  | (cases rx;rfl)
  | (obtain ⟨t,rfl⟩:=rx;rfl)
theorem Qj:OpR X (jA .IsNot) (fun x y H Q=>y = .non/\Q (.bl (!decide (x = .non))) H):=by
 walk_at "m"
 obtain ⟨rfl,q⟩:=h
 cases ry
 refine isnot_none_gen (dB I q ?_)
 cases x <;> first
  | (cases rx;rfl)
  | (obtain ⟨t,rfl⟩:=rx;rfl)
theorem bR (b:Expr) (h:op ≠ .In:=by decide) (h2:op ≠ .NotIn:=by decide):Nz op b=false:=by
 have e1:(op == CmpOp.In)=false:=by cases op <;> first | rfl | exact absurd rfl h
 have e2:(op == CmpOp.NotIn)=false:=by cases op <;> first | rfl | exact absurd rfl h2
 cases b <;> simp [Nz,e1,e2]
theorem aax (ho:OpR X (jA op) r) (ha:PE X a ta) (hb:PE X b tb) (hm:Nz op b=false):PE X (.Compare a [op] [b] pos) (tOp r ta tb):=by
 walk_at "l"
 exact wpAny_Compare1 (binT ha hb I h fun v u s2 x y H2 I2 rx ry q=>ho pins s2 σ H2 x y v u Q I2 rx ry q) hm
@[reducible] noncomputable def afB (t:TE):TT:=fun σ H Q=>t σ H fun x H'=>∃ k,x = .bl k/\Q k H'
theorem bB (ho:OpR X (jA op) r) (ha:PE X a ta) (hb:PE X b tb) (hm:Nz op b=false):PT X (.Compare a [op] [b] pos) (afB (tOp r ta tb)):=by
 walk_at "l"
 refine wpAny_isTrue_Compare1 (thn (ha pins s σ H _ I h) fun v s1 ⟨x,H1,I1,r1,q1⟩=>thn (hb pins s1 σ H1 _ I1 q1) fun u s2 ⟨y,H2,I2,r2,q2⟩ =>
  thn (ho pins s2 σ H2 x y v u _ I2 r1 r2 q2) fun c s3 ⟨z,H3,I3,r3,k,e,q3⟩=>?_) hm
 subst e
 cases r3
 exact Gv ⟨H3,I3,q3⟩
theorem Qk:(sizeLine:Nat)<2 ^ 63:=by rw [NP];decide
theorem vals1 {x:V} (r:Vals [x] us):∃ u,us=[u]/\RelV x u:=by
 cases r with
 | cons r1 r2=>cases r2;exact ⟨_,rfl,r1⟩
theorem vals2 {x:V} (r:Vals [x,y] us):∃ u w',us=[u,w']/\RelV x u/\RelV y w':=by
 cases r with
 | cons r1 r2 =>
  cases r2 with
  | cons r3 r4=>cases r4;exact ⟨_,_,rfl,r1,r3⟩
theorem Lz (hc:X.calm=true):gC X (.builtin "max") (fun xs H Q=>∃ i j,xs=[.int i,.int j]/\Q (.int (if j>i then j else i)) H):=by
 walk_at "j"
 obtain ⟨i,j,rfl,q⟩:=h
 obtain ⟨u,w',rfl,⟨t,rfl⟩,⟨t',rfl⟩⟩:=vals2 r
 refine max_two_ints (I.ok.hd hc) fun h' tk k=>⟨_,H,I.kept k,?_,q⟩
 by_cases hj:j>i
 ·rw [if_pos hj,if_pos hj];exact ⟨_,rfl⟩
 ·rw [if_neg hj,if_neg hj];exact ⟨_,rfl⟩
noncomputable def LenV (K:aZ) (x:V) (H:Hp) (n:Nat):Prop :=
 match x with
 | .str y=>y.length<=sizeLine/\n=y.length
 | .byt y=>y.size<=sizeLine/\n=y.size
 | .ref p=>(∃ xs,SqL K H p xs/\n=xs.length)\/∃ xs,SqT K H p xs/\n=xs.length
 | _=>False
theorem afC:gC X (.builtin "len") (fun xs H Q=>∃ x n,xs=[x]/\LenV X.K x H n/\Q (.int n) H):=by
 walk_at "j"
 obtain ⟨x,n,rfl,e,q⟩:=h
 obtain ⟨u,rfl,rx⟩:=vals1 r
 have hl:=Qk
 have hs:sizeLine=16777216:=NP
 cases x with
 | str y =>
  obtain ⟨t,rfl⟩:=rx
  obtain ⟨hy,e'⟩:y.length<=sizeLine/\n=y.length:=e
  subst e'
  exact len_str tb_g% ⟨.int _,H,I.tok _,⟨_,rfl⟩,q⟩
 | byt y =>
  obtain ⟨t,rfl⟩:=rx
  obtain ⟨hy,e'⟩:y.size<=sizeLine/\n=y.size:=e
  subst e'
  exact PySem.W.len_bytes tb_g% ⟨.int _,H,I.tok _,⟨_,rfl⟩,q⟩
 | ref p =>
  cases rx
  have e':(∃ xs,SqL X.K H p xs/\n=xs.length)\/∃ xs,SqT X.K H p xs/\n=xs.length:=e
  rcases e' with ⟨xs,hx,e'⟩ | ⟨xs,hx,e'⟩
  ·subst e'
   obtain ⟨its,r',pl,hz⟩:=I.list hx
   have hlen:=r'.length
   exact Calls.call_len_list pl.isList (by simp only [dI];lia) ⟨.int xs.length,H,I.tok _,⟨_,by simp only [dI];rw [hlen]⟩,q⟩
  ·subst e'
   obtain ⟨its,r',pl,hz⟩:=I.tuple hx
   have hlen:=r'.length
   exact len_tuple pl (by simp only [dI];lia) ⟨.int xs.length,H,I.tok _,⟨_,by simp only [dI];rw [hlen]⟩,q⟩
 | _=>exact (show False from e).elim
end
structure YS (h:Heap) (x dx C:Addr) (mA:Str->Option Value):Prop where
 obj:h.get? x=some (vD C dx)
 ns:h.Ns1 dx mA
 ne:dx≠x
theorem abv (n:h.Ns1 dx mA):∃ od,h.get? dx=some od/\∀ name,O2 name od=some (mA name):=by
 obtain ⟨o,es,ep,ho,hd,hk,_,hm⟩:=n
 refine ⟨o,ho,fun name=>?_⟩
 have e:=hm name
 unfold nsFind findBy at e
 rw [<- Array.find?_toList] at e
 unfold O2
 rw [hd]
 dsimp only
 split
 ·rename_i y q
  rw [q] at e
  exact congrArg some e
 ·rename_i q
  rw [q] at e
  have a:es.toList.any (·.refKey)=false:=by
   rw [List.any_eq_false]
   intro y hy
   obtain ⟨z,t,hkey⟩:=hk y (Array.mem_toList_iff.mp hy)
   simp [ak9,hkey]
  have a':¬ es.toList.any (·.refKey)=true:=by rw [a];exact iK
  rw [if_neg a']
  exact congrArg some e
theorem YS.look {x:Addr} (I:YS h x dx C mA):∃ od,PySem.W.InstAt h x (vD C dx) C (some od)/\∀ name,O2 name od=some (mA name) :=
 let ⟨od,ho,hl⟩:=abv I.ns
 ⟨od,⟨I.obj,rfl,rfl,ho⟩,hl⟩
section
variable {K:aZ} {x f:Addr} {v:Value}
theorem get_map {expr:Bool} (X:K.In s.heap) (I:YS s.heap x dx C mA) (hg:Dc K C name=true) (hh:Ht K C=true)
  (ha:iJ K (.ref C) name=some none) (hv:mA name=some v) (hv':adL v=true) (h:Q v { s with toks:=s.toks+1 }) :
  wpAny (model prog w) A (getAttr (.ref x) name expr) Q E s:=by
 obtain ⟨od,J,hl⟩:=I.look
 exact PySem.W.get_value X J (VJ hg).1 (PySem.W.findObj_own hh ha rfl (by rw [hl,hv])) hv' h
theorem afD {Q:Value × List Value->Shared->Prop} (X:K.In s.heap) (I:YS s.heap x dx C mA) (hg:Dc K C name=true)
  (hf:iJ K (.ref C) name=some (some (.ref f))) (ht:Hx K (.ref f)=true) (hv:mA name=none) (h:Q (.ref f,[.ref x]) s) :
  wpAny (model prog w) A (Vc (.ref x) name pl) Q E s:=by
 obtain ⟨od,J,hl⟩:=I.look
 exact PySem.W.method_fn X J (VJ hg).1 (VJ hg).2 hf (beq_iff_eq.mp ht) (by show (O2 name od).map (·.isSome)=some false;rw [hl,hv];rfl) h
theorem ahK {ns:List Str} {Q:Unit->Shared->Prop} (X:K.In s.heap) (I:YS s.heap x dx C mA)
  (hs:iJ K (.ref C) "__setattr__" = some (some (.builtin "object.__setattr__"))) (hp:OD K C=true) (ht:VP K C name=some none) (hh:Ht K C=true)
  (hw:UW mA ns) (hsz:ns.length<=sizeLine)
  (h:∀ h',YS h' x dx C (fun y=>if y=name then some v else mA y)->vG dx s.heap h'->Q () { s with heap:=h',toks:=s.toks+2 }) :
  wpAny (model prog w) A (setAttr (.ref x) name v) Q E s:=by
 obtain ⟨od,J,hl⟩:=I.look
 refine PySem.W.set_plain X J hs (PySem.W.osa_open (s:={ s with toks:=s.toks+1 }) (r:=none) X J hp ht fun b=>?_)
 obtain ⟨cd,hc,hd'⟩:=PySem.W.any_some hh
 have hx:s.heap.get? x=some ⟨.ref C,some dx,.plain,#[]⟩:=I.obj
 refine aG (bC (aG (aG (wpAny_loadPart hx (aG (aky (s:={ s with toks:=s.toks+1 }) (PySem.W.looks_clsIn X hc) ?_))))))
 rw [hd']
 refine bC (a:=some dx) (aG (bC (aG ?_)))
 refine wpAny_nsSet1 (s:={ s with toks:=s.toks+1 }) I.ns fun h' hn2 hs2=>?_
 obtain ⟨oD,esD,epD,hoD,hdD,hcD⟩:=hn2.count (ak7 name v hw)
 refine aG (wpAny_lookBehind hoD (by rw [hdD];exact pastItsLine_dict (jL hcD (by rw [iI];lia))) ?_)
 exact bC (h _ ⟨(hs2.2 _ (aL I.ne)).trans I.obj,hn2,I.ne⟩ hs2)
theorem afE {R:jV->Shared->Prop} {vs:List Value} (X:K.In s.heap) (hm:OJ K C=true)
  (hi:iJ K (.ref C) "__init__" = some (some (.ref f))) (hf:Dd K (.ref f)=some (.type "function"))
  (h:fB (model prog w) (A.under (.builtin "type.__call__" ⟨.ref C::vs,kw⟩)) (.call (.ref f) ⟨.ref (s.heap.objs.size+1)::vs,kw⟩) (PySem.W.InitBack (s.heap.objs.size+1) R)
   { s with heap:=(s.heap.push Af).push (vD C s.heap.objs.size) }) :
  fB (model prog w) A (.call (.ref C) ⟨vs,kw⟩) R s:=by
 obtain ⟨hh,g,d,t,os⟩:=s
 exact PySem.W.make_core (PySem.W.makes_of X hm) (Ow X hi) (fun self=>PySem.W.bind_fn X self hf) (.inl rfl) h
end
noncomputable def bU (f:Str) (v:V):List (Str × V)->List (Str × V)
 | []=>[(f,v)]
 | (g,x)::r=>if g=f then (g,v)::r else (g,x)::bU f v r
theorem Et (f g:Str) (v:V):∀ fs:List (Str × V),(bU f v fs).lookup g=if g=f then some v else fs.lookup g
 | []=>by
  show yR g [(f,v)]=_
  by_cases h:g=f
  ·have hb:(g == f)=true:=beq_iff_eq.mpr h
   simp only [yR,hb,if_pos h]
  ·have hb:(g == f)=false:=beq_eq_false_iff_ne.mpr h
   simp only [yR,hb,if_neg h]
 | (k,x)::r=>by
  have ih:=Et f g v r
  rw [show bU f v ((k,x)::r)=(if k=f then (k,v)::r else (k,x)::bU f v r) from rfl]
  by_cases hk:k=f
  ·rw [if_pos hk]
   by_cases h:g=k
   ·have hb:(g == k)=true:=beq_iff_eq.mpr h
    simp only [yR,hb,if_pos (h.trans hk)]
   ·have hb:(g == k)=false:=beq_eq_false_iff_ne.mpr h
    simp only [yR,hb,if_neg (fun e:g=f=>h (e.trans hk.symm))]
  ·rw [if_neg hk]
   by_cases h:g=k
   ·have hb:(g == k)=true:=beq_iff_eq.mpr h
    simp only [yR,hb,if_neg (fun e:g=f=>hk (h.symm.trans e))]
   ·have hb:(g == k)=false:=beq_eq_false_iff_ne.mpr h
    simp only [yR,hb]
    exact ih
theorem Dz (f:Str) (v:V):∀ fs:List (Str × V),f∈(bU f v fs).map (·.1)/\∀ g,g∈fs.map (·.1)->g∈(bU f v fs).map (·.1)
 | []=>⟨by simp [bU],fun g h=>by simp at h⟩
 | (k,x)::r=>by
  obtain ⟨i1,i2⟩:=Dz f v r
  rw [show bU f v ((k,x)::r)=(if k=f then (k,v)::r else (k,x)::bU f v r) from rfl]
  by_cases hk:k=f
  ·rw [if_pos hk]
   subst hk
   exact ⟨by simp,fun g h=>by simpa using h⟩
  ·rw [if_neg hk]
   refine ⟨?_,fun g h=>?_⟩
   ·rw [gB]
    exact gF _ i1
   ·rw [gB] at h ⊢
    rcases bN.mp h with e | e
    ·exact bN.mpr (.inl e)
    ·exact gF _ (i2 g e)
theorem Eu (f:Str) (v:V):∀ fs:List (Str × V),(bU f v fs).length<=fs.length+1
 | []=>by simp [bU]
 | (k,x)::r=>by
  have ih:=Eu f v r
  rw [show bU f v ((k,x)::r)=(if k=f then (k,v)::r else (k,x)::bU f v r) from rfl]
  by_cases hk:k=f
  ·rw [if_pos hk,iI,iI];lia
  ·rw [if_neg hk,iI,iI];lia
theorem uW.some_of {o:Option Value} (r:uW (some v) o):∃ u,o=some u/\RelV v u:=by
 cases o with
 | none=>exact (show False from r).elim
 | some u=>exact ⟨u,rfl,r⟩
theorem uW.none_of {o:Option Value} (r:uW none o):o=none:=by
 cases o with
 | none=>rfl
 | some u=>exact (show False from r).elim
theorem abw (r:RelV v u):adL u=true:=by
 cases v with
 | non=>cases (show u=Value.none from r);rfl
 | bl b=>cases (show u=Value.bool b from r);rfl
 | int i=>obtain ⟨t,e⟩:=(show ∃ t,u=Value.int i t from r);cases e;rfl
 | str x=>obtain ⟨t,e⟩:=(show ∃ t,u=Value.str x t from r);cases e;rfl
 | byt b=>obtain ⟨t,e⟩:=(show ∃ t,u=Value.bytes b t from r);cases e;rfl
 | flt b=>obtain ⟨t,e⟩:=(show ∃ t,u=Value.float b t from r);cases e;rfl
 | ref a=>cases (show u=Value.ref a from r);rfl
 | ty n=>cases (show u=Value.type n from r);rfl
section
variable {a:Addr} {fs fs':List (Str × V)}
theorem FQ (hok:HOk P w H h) (e:H a=some (.ins C dx fs)):∃ mA,YS h a dx C mA/\(∀ f,uW (fs.lookup f) (mA f))/\UW mA (fs.map (·.1))/\fs.length<=1000/\H dx=some (.own a):=by
 obtain ⟨d,z,ne,ob,mA,n,r,q⟩:=(show dh P w H h a (.ins C dx fs) from hok a _ e)
 exact ⟨mA,⟨ob,n,ne⟩,r,q,z,d⟩
end
structure Cls (K:aZ) (C:Addr):Prop where
 pg:Dc K C WX=true
 hd:Ht K C=true
 po:OD K C=true
 sa:iJ K (.ref C) "__setattr__" = some (some (.builtin "object.__setattr__"))
theorem Cls.get {K:aZ} (c:Cls K C) (f:Str):Dc K C f=true:=c.pg
noncomputable def cL (K:aZ) (C:Addr) (f:Str):Prop:=iJ K (.ref C) f=some none
theorem cL.taker {K:aZ} {f:Str} (n:cL K C f):VP K C f=some none:=by
 unfold VP
 rw [show iJ K (.ref C) f=some none from n]
 rfl
structure Con (K:aZ) (C:Addr) (f:Str) (v:V) (u:Value):Prop where
 at_:iJ K (.ref C) f=some (some u)
 rel:RelV v u
 get:Hu K u "__get__" = some none
 cp:PySem.W.copiedNames.contains f=false
structure Meth (K:aZ) (C:Addr) (m:Str) (f:Addr):Prop where
 at_:iJ K (.ref C) m=some (some (.ref f))
 fn:Hx K (.ref f)=true
 kp:oF K (.ref f)=true
section
variable {a:Addr} {fs:List (Str × V)} {f:Str}
theorem YT {b:Bool} (I:Inv X pins σ H s) (e:H a=some (.ins C dx fs)) (c:Cls X.K C) (n:cL X.K C f) (l:fs.lookup f=some v)
  (h:∀ u s',Inv X pins σ H s'->RelV v u->Q u s'):wpAny (model X.prog X.w) A (getAttr (.ref a) f b) Q E s:=by
 obtain ⟨mA,O,r,_,_,_⟩:=FQ I.hok e
 obtain ⟨u,hu,ru⟩:=uW.some_of (v:=v) (o:=mA f) (by rw [<- l];exact r f)
 exact get_map I.kIn O (c.get f) c.hd n hu (abw ru) (h u _ (I.tok _) ru)
theorem YW {g:Addr} {Q:Value × List Value->Shared->Prop} (I:Inv X pins σ H s) (e:H a=some (.ins C dx fs)) (c:Cls X.K C) (k:Meth X.K C m g) (l:fs.lookup m=none)
  (h:Q (.ref g,[.ref a]) s):wpAny (model X.prog X.w) A (Vc (.ref a) m pl) Q E s:=by
 obtain ⟨mA,O,r,_,_,_⟩:=FQ I.hok e
 have hn:mA m=none:=uW.none_of (by rw [<- l];exact r m)
 exact afD I.kIn O (c.get m) k.at_ k.fn hn h
theorem YX {Q:Unit->Shared->Prop} (I:Inv X pins σ H s) (e:H a=some (.ins C dx fs)) (c:Cls X.K C) (n:cL X.K C f) (hl:fs.length<1000) (ry:RelV y u)
  (h:∀ s',Inv X pins σ (upd H a (.ins C dx (bU f y fs))) s'->Q () s'):wpAny (model X.prog X.w) A (setAttr (.ref a) f u) Q E s:=by
 obtain ⟨mA,O,r,wi,_,ho⟩:=FQ I.hok e
 have hz:(fs.map (·.1)).length<=sizeLine:=by rw [bG,NP];lia
 refine ahK I.kIn O c.sa c.po n.taker c.hd wi hz fun h' O' sb=>h _ ?_
 have hd:∃ o,h'.get? dx=some o:=let ⟨o,_,_,e',_⟩:=O'.ns;⟨o,e'⟩
 refine I.write (x:=a) (e:=dx) (by rw [e];exact True.intro) (.inr ho) (fun b q hb z=>(sb.2 b hb).trans z) hd ?_
 refine ⟨by rw [au O.ne];exact ho,?_,O.ne,O'.obj,_,O'.ns,fun g=>?_,fun g hg=>?_⟩
 ·have:=Eu f y fs;lia
 ·show uW ((bU f y fs).lookup g) (if g=f then some u else mA g)
  rw [Et]
  by_cases q:g=f
  ·rw [if_pos q,if_pos q];exact ry
  ·rw [if_neg q,if_neg q];exact r g
 ·by_cases q:g=f
  ·rw [q];exact (Dz f y fs).1
  ·refine (Dz f y fs).2 g (wi g fun z=>hg ?_)
   show (if g=f then some u else mA g)=none
   rw [if_neg q];exact z
theorem Inv.made (I:Inv X pins σ H s):Inv X pins σ (upd (upd H s.heap.objs.size (.own (s.heap.objs.size+1))) (s.heap.objs.size+1) (.ins C s.heap.objs.size []))
  { s with heap:=(s.heap.push Af).push (vD C s.heap.objs.size) }:=by
 have e1:(s.heap.push Af).get? s.heap.objs.size=some Af:=eO s.heap rfl
 have e2:((s.heap.push Af).push (vD C s.heap.objs.size)).get? (s.heap.objs.size+1)=some (vD C s.heap.objs.size):=by
  have:=eO (s.heap.push Af) (o:=vD C s.heap.objs.size) rfl
  rwa [sY] at this
 have e3:(s.heap.push Af).Ns s.heap.objs.size (fun _=>none):=⟨Af,#[],_,e1,rfl,(fun e he=>absurd he (by simp)),fun _=>rfl⟩
 have I1:=I.laid (a:=s.heap.objs.size) (o:=.own (s.heap.objs.size+1)) (h':=s.heap.push Af) (t':=s.toks) (fun b u q=>dN _ q) (bV _) ⟨_,e1⟩
 refine I1.laid (a:=s.heap.objs.size+1) (o:=.ins C s.heap.objs.size []) (t':=s.toks) (fun b u q=>dN _ q) (HF (sY _ _)) ?_
 have ne:s.heap.objs.size≠s.heap.objs.size+1:=cH (yS _)
 refine ⟨by rw [au ne,ao],cY _,ne,e2,fun _=>none,(ak8 e3).at fun o q=>dN _ q,fun _=>True.intro,fun y hy=>absurd rfl hy⟩
theorem ahL {env:Env} {f:Str} {pos:Pos} (hb:yC e f env (eval e env)=eval e env)
  (h:wpAny (model prog w) A (eval e env) (fun o s₁=>wpAny (model prog w) A (getAttr o f true) Q E s₁) E s):wpAny (model prog w) A (eval (.Attribute e f pos) env) Q E s :=
 Attribute_any_ h (by rw [arm_eval_Attribute,hb])
end
noncomputable def rFld (K:aZ) (f:Str) (x:V) (H1:Hp) (Q:VK):Prop:=∃ a C dx fs v,x = .ref a/\H1 a=some (.ins C dx fs)/\Cls K C/\cL K C f/\fs.lookup f=some v/\Q v H1
@[reducible] noncomputable def afF (K:aZ) (ta:TE) (f:Str):TE:=fun σ H Q=>ta σ H fun x H1=>rFld K f x H1 Q
noncomputable def sFld (K:aZ) (ta tv:TE) (f:Str):TS:=fun D σ H=>tv σ H fun y H1=>ta σ H1 fun x H2=>∃ a C dx fs,x = .ref a/\H2 a=some (.ins C dx fs)/\Cls K C/\cL K C f/\fs.length<1000 /\
 D.nx σ (upd H2 a (.ins C dx (bU f y fs)))
section
variable {o value:Expr} {f:Str} {pos tpos:Pos} {tv:TE}
theorem aB (he:PE X e ta) (hb:yC e f X.env (eval e X.env)=eval e X.env):PE X (.Attribute e f pos) (afF X.K ta f):=by
 walk_at "l"
 refine ahL hb (thn (he pins s σ H _ I h) fun u s1 ⟨x,H1,I1,rx,a,C,dx,fs,v,ex,ea,c,n,l,q⟩=>?_)
 subst ex
 obtain rfl:u=Value.ref a:=rx
 exact YT I1 ea c n l fun u' s2 I2 ru=>⟨v,H1,I2,ru,q⟩
theorem aU (ha:PE X o ta) (hv:PE X value tv) (hs:GJ value (some (.Attribute o f pos')) pos.line X.env=pure false):PS X (.Assign [.Attribute o f pos'] value pos) (sFld X.K ta tv f):=by
 intro pins s σ H D I h
 refine plainObj_wpAny_Assign_Attribute (thn (hv pins s σ H _ I h) fun u s1 ⟨y,H1,I1,ry,q⟩=>thn (ha pins s1 σ H1 _ I1 q) fun ov s2 ⟨x,H2,I2,rx,a,C,dx,fs,ex,ea,c,n,l,q2⟩=>?_) hs
 subst ex
 obtain rfl:ov=Value.ref a:=rx
 exact YX I2 ea c n l ry fun s3 I3=>⟨σ,_,I3,q2⟩
end
section
variable {c:Value} {b:Bool}
inductive zE (K:aZ) (H:Hp):V->Value->Prop where
 | non:zE K H .non (.type "NoneType")
 | bl (x:Bool):zE K H (.bl x) (.type "bool")
 | int (i:Int):zE K H (.int i) (.type "int")
 | str (x:Str):zE K H (.str x) (.type "str")
 | flt (x:UInt64):zE K H (.flt x) (.type "float")
 | lst {a:Addr} {xs:List V} (e:H a=some (.lst xs)):zE K H (.ref a) (.type "list")
 | frz {a:Addr} {o:Obj} {xs:List V} (e:H a=some (.frz o (.lst xs))):zE K H (.ref a) (.type "list")
 | tup {a:Addr} {xs:List V} (e:H a=some (.tup xs)):zE K H (.ref a) (.type "tuple")
 | dK {a:Addr} {kvs:List (Key × V)} (e:H a=some (.dK kvs)):zE K H (.ref a) (.type "dict")
 | dT {a:Addr} {kvs:List (List Key × V)} (e:H a=some (.dT kvs)):zE K H (.ref a) (.type "dict")
 | ins {a C dx:Addr} {fs:List (Str × V)} (e:H a=some (.ins C dx fs)) (cl:Cls K C) (ha:iJ K (.ref C) "__class__" = some (some (.builtin "object.__class__")))
   (hn:Hu K (.builtin "object.__class__") "__get__" = some (some (.builtin "getset_descriptor.__get__"))) (htk:O1 K (.builtin "object.__class__")=some true)
   (hm:nG K C (.type "object")=some true):zE K H (.ref a) (.ref C)
theorem abx {x:V} {t:Value} (I:Inv X pins σ H s) (rx:RelV x u) (ty:zE X.K H x t) (e:oG X.K t c=some b) (h:∀ tk,Q (.bool b) { s with toks:=tk }) :
  wpAny (model X.prog X.w) A (call (.builtin "isinstance") [u,c]) Q E s:=by
 cases ty with
 | non=>cases (show u=Value.none from rx);exact uE PySem.W.kitx_none I.kIn True.intro e (fun z=>nomatch z) h
 | bl y=>cases (show u=Value.bool y from rx);exact uE PySem.W.kitx_bool I.kIn True.intro e (fun z=>nomatch z) h
 | int i=>obtain ⟨t,q⟩:=(show ∃ t,u=Value.int i t from rx);cases q;exact uE PySem.W.kitx_int I.kIn True.intro e (fun z=>nomatch z) h
 | str y=>obtain ⟨t,q⟩:=(show ∃ t,u=Value.str y t from rx);cases q;exact uE PySem.W.kitx_str I.kIn True.intro e (fun z=>nomatch z) h
 | flt y=>obtain ⟨t,q⟩:=(show ∃ t,u=Value.float y t from rx);cases q;exact uE PySem.W.kitx_float I.kIn True.intro e (fun z=>nomatch z) h
 | @lst a xs ea =>
  cases (show u=Value.ref a from rx)
  obtain ⟨_,_,n,_,h1⟩:=(show dh X.prog X.w H s.heap a (.lst xs) from I.hok a _ ea)
  exact uE adJ I.kIn ⟨_,h1,rfl⟩ e (fun z=>nomatch z) h
 | @frz a ob xs ea =>
  cases (show u=Value.ref a from rx)
  obtain ⟨_,_,_,n,_,h1⟩:=(show dh X.prog X.w H s.heap a (.frz ob (.lst xs)) from I.hok a _ ea)
  exact uE adJ I.kIn ⟨_,h1,rfl⟩ e (fun z=>nomatch z) h
 | @tup a xs ea =>
  cases (show u=Value.ref a from rx)
  obtain ⟨_,_,_,p⟩:=(show dh X.prog X.w H s.heap a (.tup xs) from I.hok a _ ea)
  obtain ⟨o,h1,h2,_⟩:=p
  exact uE PySem.W.kitx_tuple I.kIn ⟨o,h1,h2⟩ e (fun z=>nomatch z) h
 | @dK a kvs ea =>
  cases (show u=Value.ref a from rx)
  obtain ⟨_,_,vs,_,p⟩:=(show dh X.prog X.w H s.heap a (.dK kvs) from I.hok a _ ea)
  obtain ⟨o,es,ep,h1,h2,_⟩:=p
  exact uE adK I.kIn ⟨o,h1,h2.1⟩ e (fun z=>nomatch z) h
 | @dT a kvs ea =>
  cases (show u=Value.ref a from rx)
  obtain ⟨_,_,xs,_,o,es,ep,h1,h2,_⟩:=(show dh X.prog X.w H s.heap a (.dT kvs) from I.hok a _ ea)
  exact uE adK I.kIn ⟨o,h1,h2.1⟩ e (fun z=>nomatch z) h
 | @ins a C dx fs ea cl ha hn htk hm =>
  cases (show u=Value.ref a from rx)
  obtain ⟨mA,O,_⟩:=FQ I.hok ea
  obtain ⟨od,J,_⟩:=O.look
  exact uE (PySem.W.kitx_own (cl.get _) cl.hd ha hn htk hm) I.kIn J e (fun z=>nomatch z) h
end
structure jE (k:Nat) (A:bA):Prop where
 hd:A.handled=none
 dp:A.depth+3*k+5<recursionLimit
 un:A.units+16*k+200<cLine
theorem jE.mono {j:Nat} (r:jE k A) (h:j<=k):jE j A:=⟨r.hd,by have:=r.dp;lia,by have:=r.un;lia⟩
theorem jE.deeper (r:jE (k+1) A) (env:Env):jE k (A.deeper env) :=
 ⟨r.hd,by have:=r.dp;show A.depth+1+3*k+5<_;lia,by have:=r.un;show A.units+3+16*k+200<_;lia⟩
theorem jE.in1 (r:jE (k+1) A):jE k A.in1 :=
 ⟨r.hd,by have:=r.dp;show A.depth+3*k+5<_;lia,by have:=r.un;show A.units+1+16*k+200<_;lia⟩
theorem YZ :(A.under (.builtin "type.__call__" ⟨.ref C::us,kw⟩)).depth=A.depth+1:=by
 first | rfl | simp [Wz,Code.weight,Code.isCreation,Code.isGuard,Code.isCaller,afa,Xa,guardIds]
theorem Y0 :(A.under (.builtin "type.__call__" ⟨.ref C::us,kw⟩)).units=A.units+1:=by
 first | rfl | simp [Wz,Code.cUnits,afa,Xa]
theorem jE.make (r:jE (k+1) A) (C:Addr) (us:List Value) (kw:List (Str × Value)):jE k (A.under (.builtin "type.__call__" ⟨.ref C::us,kw⟩)) :=
 ⟨r.hd,by have:=r.dp;rw [YZ];lia,by have:=r.un;rw [Y0];lia⟩
theorem jE.depth (r:jE k A):A.depth<recursionLimit:=by have:=r.dp;lia
theorem jE.units (r:jE k A):A.units+64<cLine:=by have:=r.un;lia
@[reducible] noncomputable def aby:TA:=fun _ H Q=>Q [] H
@[reducible] noncomputable def Ew (ta:TE) (tr:TA):TA:=fun σ H Q=>ta σ H fun x H1=>tr σ H1 fun xs H2=>Q (x::xs) H2
section
variable {pos:Pos}
theorem aA:PA X [] aby:=fun _ _ _ _ H Q I h=>Dq ⟨[],H,I,.nil,h⟩
theorem aj (ha:PE X e te) (hr:PA X es t) (hs:cW (e::es) X.env=(false,eval e X.env)::cW es X.env:=by rfl):PA X (e::es) (Ew te t):=by
 intro pos pins s σ H Q I h
 rw [hs]
 show wpAny _ _ (spliced ((false,eval e X.env)::gH pos (cW es X.env))) _ _ s
 refine zm (thn (ha pins s σ H _ I h) fun u s1 ⟨x,H1,I1,r1,q1⟩=>?_)
 exact thn (hr pos pins s1 σ H1 _ I1 q1) fun us s2 ⟨xs,H2,I2,r2,q2⟩=>⟨x::xs,H2,I2,.cons r1 r2,q2⟩
noncomputable def tTup (t:TA):TE:=fun σ H Q=>t σ H fun xs H1=>xs.length<=sizeLine/\∀ p,H1 p=none->Q (.ref p) (upd H1 p (.tup xs))
noncomputable def tLst (t:TA):TE:=fun σ H Q=>t σ H fun xs H1=>xs.length<=sizeLine/\∀ p,H1 p=none->Q (.ref p) (upd H1 p (.lst xs))
theorem iY {x1} (h:PA X es t):PE X (.Tuple es x1 pos) (tTup t):=by
 intro pins s σ H Q I hq
 refine wpAny_Tuple_spliced (thn (h pos pins s σ H _ I hq) fun us s1 ⟨xs,H1,I1,r,z,q⟩=>⟨by rw [<- r.length];exact z,?_⟩)
 have hf:H1 s1.heap.objs.size=none:=I1.hok.fresh (bV _)
 refine ⟨.ref s1.heap.objs.size,upd H1 s1.heap.objs.size (.tup xs),I1.laid (t':=s1.toks) (fun b u e=>dN _ e) (bV _) ?_,rfl,q _ hf⟩
 exact ⟨z,us,r,⟨_,eO _ rfl,rfl,_,rfl⟩⟩
theorem dY (h:PA X es t):PE X (.List es pos) (tLst t):=by
 intro pins s σ H Q I hq
 refine wpAny_List_spliced (thn (h pos pins s σ H _ I hq) fun us s1 ⟨xs,H1,I1,r,z,q⟩=>⟨by rw [<- r.length];exact z,?_⟩)
 have hf:H1 s1.heap.objs.size=none:=I1.hok.fresh (bV _)
 refine ⟨.ref s1.heap.objs.size,upd H1 s1.heap.objs.size (.lst xs),I1.laid (t':=s1.toks) (fun b u e=>dN _ e) (bV _) ?_,rfl,q _ hf⟩
 exact ⟨z,us,0,r,eO _ rfl⟩
end
noncomputable abbrev Sp:=List V->Hp->VK->XK->Prop
variable {sp:Sp}
noncomputable abbrev CXT:=List Env->Hp->Shared->XK->Value->Shared->Prop
variable {CX:CXT}
structure KQ (P:aO) (w:World) (K:aZ) (mg:Str->Option Value) (base:Heap) (A:bA) (outer:List Env) (s:Shared) (H:Hp):Prop where
 frames:A.frames=some outer
 mod:Mod K mg base
 bs:∀ b o,base.get? b=some o->s.heap.get? b=some o/\H b=none
 bsz:base.objs.size<=s.heap.objs.size
 zu:s.heap.FunFrames base outer
 frf:∀ b∈frs outer,H b=none
 hok:HOk P w H s.heap
 bare:qW s.gens
noncomputable def CE (outer:List Env) (P:aO) (w:World) (H:Hp) (s:Shared) (Q:VK) (u:Value) (s':Shared):Prop :=
 ∃ v H',s'.os=s.os/\qW s'.gens/\Un (frs outer) [] H H' s.heap s'.heap/\HOk P w H' s'.heap/\RelV v u/\Q v H'
noncomputable def CR (CX:CXT) (outer:List Env) (P:aO) (w:World) (H:Hp) (s:Shared) (Q:VK) (E:XK) (r:jV) (s':Shared):Prop :=
 match r with
 | .ok (.ret u)=>CE outer P w H s Q u s'
 | .ok _=>False
 | .error e=>CX outer H s E e s'
structure cP (P:aO) (w:World) (K:aZ) (mg:Str->Option Value) (base:Heap) (CX:CXT) (k:Nat) (f:Addr) (fd:FuncData) (ps:List Str) (sp:Sp):Prop where
 len:∀ vs H Q E,sp vs H Q E->vs.length=ps.length
 run:∀ (A:bA) (outer:List Env) (s:Shared) (H:Hp) (args:Args) (us:List Value) (vs:List V) (Q:VK) (E:XK),jE k A->KQ P w K mg base A outer s H->CP s fd args (ps.zip us)->Vals vs us->sp vs H Q E ->
  fB (model P w) A (.call (.ref f) args) (CR CX outer P w H s Q E) s
theorem cP.imp {K:aZ} {f:Addr} {sp':Sp} (F:cP P w K mg base CX k f fd ps sp)
  (h:∀ vs H Q E,sp' vs H Q E->sp vs H Q E):cP P w K mg base CX k f fd ps sp' :=
 ⟨fun vs H Q E q=>F.len vs H Q E (h _ _ _ _ q),fun A outer s H args us vs Q E hr he hb hv hs=>F.run A outer s H args us vs Q E hr he hb hv (h _ _ _ _ hs)⟩
theorem KQ.make {K:aZ} (e:KQ P w K mg base A outer s H) (C:Addr) (us:List Value) (kw:List (Str × Value)) :
  KQ P w K mg base (A.under (.builtin "type.__call__" ⟨.ref C::us,kw⟩)) outer s H:=⟨by first | exact e.frames | (simpa [Wz,Code.envs,Xa,pushEnvs] using e.frames),e.mod,e.bs,e.bsz,e.zu,e.frf,e.hok,e.bare⟩
theorem KQ.in1 {K:aZ} (e:KQ P w K mg base A outer s H) :
  KQ P w K mg base A.in1 outer s H:=⟨e.frames,e.mod,e.bs,e.bsz,e.zu,e.frf,e.hok,e.bare⟩
theorem Inv.env0 (I:Inv X pins σ H s):KQ X.prog X.w X.K X.mg X.base X.A X.stack s H :=
 ⟨I.ok.frames,I.ok.mod,I.bs,jL I.ok.bsz I.sz,I.stack,I.Al,I.hok,I.bare⟩
theorem Inv.after {Q:VK} (I:Inv X pins σ H s) (h:CE X.stack X.prog X.w H s Q u s'):EP X pins σ Q u s':=by
 obtain ⟨v,H',os,bare,un,hok,r,q⟩:=h
 obtain ⟨hh,g,d,t,os'⟩:=s'
 obtain rfl:os'=s.os:=os
 exact ⟨v,H',I.call (h':=hh) (g':=g) (d':=d) (t':=t) (ch:=[]) un hok bare (fun b z=>absurd z (by simp)),r,q⟩
@[reducible] noncomputable def ajd (sp:Sp) (dvs:List V) (E:XK) (t:TA):TE:=fun σ H Q=>t σ H fun vs H1=>sp (vs++dvs) H1 Q E
@[reducible] noncomputable def tMeth (C:Addr) (m:Str) (sp:Sp) (dvs:List V) (E:XK) (ta:TE) (t:TA):TE:=fun σ H Q=>ta σ H fun x H1=>∃ a dx fs,x = .ref a/\H1 a=some (.ins C dx fs)/\fs.lookup m=none /\
 t σ H1 fun vs H2=>sp (x::(vs++dvs)) H2 Q E
noncomputable def tMake (C:Addr) (sp:Sp) (dvs:List V) (E:XK) (t:TA):TE:=fun σ H Q=>t σ H fun vs H1=>∀ x dx,H1 x=none->H1 dx=none->dx≠x ->
 sp (.ref x::(vs++dvs)) (upd (upd H1 dx (.own x)) x (.ins C dx [])) (fun v H2=>v = .non/\Q (.ref x) H2) E
noncomputable def Binds (K:aZ) (fd:FuncData) (ps:List Str) (ds:List Value):Prop :=
 ∀ (s:Shared) (us:List Value),K.In s.heap->(us++ds).length=ps.length->CP s fd ⟨us,[]⟩ (ps.zip (us++ds))
theorem Binds.all {K:aZ} (h:∀ us:List Value,us.length=ps.length->yE fd ⟨us,[]⟩=pure (ps.zip us)):Binds K fd ps []:=fun s us _ hl=>by
 rw [yO] at hl ⊢
 exact .of_eq (h us hl)
noncomputable def Passes (CX:CXT) (X:Cx) (E:XK):Prop:=∀ (pins:List (Addr × Obj)) (σ:St) (H:Hp) (s:Shared) (e:Value) (s':Shared),Inv X pins σ H s->CX X.stack H s E e s'->X.xe e s'
section
variable {f:Addr} {dvs:List V} {ds:List Value} {E:XK} {pos apos:Pos} {o:Expr}
theorem Y4 {Q:VK} (F:cP X.prog X.w X.K X.mg X.base CX k f fd ps sp) (hr:jE k X.A) (hb:Binds X.K fd ps ds) (hd:Vals dvs ds) (hx:Passes CX X E)
  (I:Inv X pins σ H s) (r:Vals vs us) (h:sp (vs++dvs) H Q E):wpAny (model X.prog X.w) X.A (call (.ref f) us) (EP X pins σ Q) X.xe s:=by
 have r2:Vals (vs++dvs) (us++ds):=r.append hd
 have hl:(us++ds).length=ps.length:=by rw [<- r2.length];exact F.len _ _ _ _ h
 refine yD (sU (F.run X.A X.stack s H ⟨us,[]⟩ (us++ds) (vs++dvs) Q E hr I.env0 (hb s us I.kIn hl) r2 h) fun r s' hq=>?_)
 cases r with
 | error e=>exact hx pins σ H s e s' I hq
 | ok fl =>
  cases fl with
  | ret u=>exact I.after hq
  | next=>exact j8 hq
  | brk=>exact j8 hq
  | cont=>exact j8 hq
theorem aJ (F:cP X.prog X.w X.K X.mg X.base CX k f fd ps sp) (hr:jE k X.A) (hg:Gl X x) (hm:X.mg x=some (.ref f)) (hk:oF X.K (.ref f)=true) (hb:Binds X.K fd ps ds) (hd:Vals dvs ds) (hx:Passes CX X E)
  (ha:PA X (e::es) t) (hdb:(x == ("__debug__" : Str))=false:=by decide) (he:cW (e::es) X.env=(false,eval e X.env)::cW es X.env:=by rfl) (hpl:(gH pos (cW es X.env)).any (·.1)=false:=by rfl) :
  PE X (.Call (.Name x p) (e::es) [] pos) (ajd sp dvs E t):=by
 walk_at "l"
 refine Aa (tE I hg hm ?_ hdb)
 refine Oz (h₀:=X.base) I.ok.mod.kin hk (thn (ha pos pins s σ H _ I h) fun us s1 ⟨vs,H1,I1,r,q⟩=>⟨I1.kIn,?_⟩) he hpl
 exact Y4 F hr hb hd hx I1 r q
theorem afG (F:cP X.prog X.w X.K X.mg X.base CX k f fd ps sp) (hr:jE k X.A) (hg:Gl X x) (hm:X.mg x=some (.ref f)) (hk:oF X.K (.ref f)=true) (hb:Binds X.K fd ps ds) (hd:Vals dvs ds) (hx:Passes CX X E)
  (hdb:(x == ("__debug__" : Str))=false:=by decide):PE X (.Call (.Name x p) [] [] pos) (ajd sp dvs E aby):=by
 walk_at "l"
 refine Aa (tE I hg hm ?_ hdb)
 exact PySem.W.callWith_K0 I.kIn hk (Y4 (us:=[]) F hr hb hd hx I .nil h)
theorem dG (he:PE X o ta) (c:Cls X.K C) (hm:Meth X.K C m f) (F:cP X.prog X.w X.K X.mg X.base CX k f fd ps sp) (hr:jE k X.A) (hb:Binds X.K fd ps ds) (hd:Vals dvs ds) (hx:Passes CX X E) (ha:PA X (e::es) t)
  (hst:cW (e::es) X.env=(false,eval e X.env)::cW es X.env:=by rfl) (hpl:(gH pos (cW es X.env)).any (·.1)=false:=by rfl)
  (ht:eval (.Call (.Attribute o m apos) (e::es) [] pos) X.env=(do
   let ov <- eval o X.env
   standAt apos.atName
   let (f,first) <- CN [ov] (Vc ov m pl)
   callWith pos f first (gH pos (cW (e::es) X.env)) (GQ pos (GF [] X.env))):=by rfl) :
  PE X (.Call (.Attribute o m apos) (e::es) [] pos) (tMeth C m sp dvs E ta t):=by
 walk_at "l"
 refine PySem.W.methodCall_KW (pl:=pl) (thn (he pins s σ H _ I h) fun u s1 ⟨x,H1,I1,rx,a,dx,fs,ex,ea,l,q⟩=>?_) ht
 subst ex
 obtain rfl:u=Value.ref a:=rx
 refine YW I1 ea c hm l ?_
 refine Oz (first:=[.ref a]) (h₀:=X.base) I.ok.mod.kin hm.kp (thn (ha pos pins s1 σ H1 _ I1 q) fun us s2 ⟨vs,H2,I2,r,q2⟩=>⟨I2.kIn,?_⟩) hst hpl
 exact Y4 (us:=.ref a::us) (vs:=.ref a::vs) F hr hb hd hx I2 (.cons rfl r) q2
structure Mk (K:aZ) (C f:Addr):Prop where
 makes:OJ K C=true
 init:iJ K (.ref C) "__init__" = some (some (.ref f))
 fn:Hx K (.ref f)=true
 kp:oF K (.ref C)=true
theorem afH {Q:VK} (M:Mk X.K C f) (F:cP X.prog X.w X.K X.mg X.base CX k f fd ps sp) (hr:jE (k+1) X.A) (hb:Binds X.K fd ps ds) (hd:Vals dvs ds)
  (hx:Passes CX X E) (I:Inv X pins σ H s) (r:Vals vs us)
  (h:∀ x dx,H x=none->H dx=none->dx≠x->sp (.ref x::(vs++dvs)) (upd (upd H dx (.own x)) x (.ins C dx [])) (fun v H2=>v = .non/\Q (.ref x) H2) E) :
  wpAny (model X.prog X.w) X.A (call (.ref C) us) (EP X pins σ Q) X.xe s:=by
 have hq:=h (s.heap.objs.size+1) s.heap.objs.size (I.hok.fresh (lM _)) (I.hok.fresh (bV _)) (cH (yS _))
 have I2:=Inv.made (C:=C) I
 have r2:Vals (V.ref (s.heap.objs.size+1)::(vs++dvs)) (Value.ref (s.heap.objs.size+1)::(us++ds)):=.cons rfl (r.append hd)
 have hl:(Value.ref (s.heap.objs.size+1)::us++ds).length=ps.length:=by
  have e:=r2.length
  rw [F.len _ _ _ _ hq] at e
  exact e.symm
 refine yD (afE (f:=f) I.kIn M.makes M.init (beq_iff_eq.mp M.fn) (sU (F.run _ X.stack _ _ ⟨Value.ref (s.heap.objs.size+1)::us,[]⟩ (Value.ref (s.heap.objs.size+1)::(us++ds)) _ _ E (hr.make C us [])
  (I2.env0.make C us []) (hb _ (Value.ref (s.heap.objs.size+1)::us) I2.kIn hl) r2 hq) fun r s' hq'=>?_))
 cases r with
 | error e=>exact hx pins σ _ _ e s' I2 hq'
 | ok fl =>
  cases fl with
  | ret u =>
   obtain ⟨v,H',I3,rv,ev,q3⟩:=I2.after hq'
   subst ev
   exact ⟨rv,⟨V.ref (s.heap.objs.size+1),H',I3,rfl,q3⟩⟩
  | next=>exact j8 hq'
  | brk=>exact j8 hq'
  | cont=>exact j8 hq'
theorem fC (M:Mk X.K C f) (F:cP X.prog X.w X.K X.mg X.base CX k f fd ps sp) (hr:jE (k+1) X.A) (hg:Gl X x) (hm:X.mg x=some (.ref C)) (hb:Binds X.K fd ps ds) (hd:Vals dvs ds) (hx:Passes CX X E)
  (ha:PA X (e::es) t) (hdb:(x == ("__debug__" : Str))=false:=by decide) (he:cW (e::es) X.env=(false,eval e X.env)::cW es X.env:=by rfl) (hpl:(gH pos (cW es X.env)).any (·.1)=false:=by rfl) :
  PE X (.Call (.Name x p) (e::es) [] pos) (tMake C sp dvs E t):=by
 walk_at "l"
 refine Aa (tE I hg hm ?_ hdb)
 refine Oz (h₀:=X.base) I.ok.mod.kin M.kp (thn (ha pos pins s σ H _ I h) fun us s1 ⟨vs,H1,I1,r,q⟩=>⟨I1.kIn,?_⟩) he hpl
 exact afH M F hr hb hd hx I1 r q
end
section
variable {f:Addr} {ks:List Str} {E:XK} {pos apos kpos:Pos} {o:Expr} {kws:List sW} {tk:TA} {nm:Option Str}
structure KBinds (K:aZ) (fd:FuncData) (ps ks:List Str) (g:List Value->List Value->List Value) (gV:List V->List V->List V):Prop where
 to:∀ (s:Shared) (us ws:List Value),K.In s.heap->(g us ws).length=ps.length->CP s fd ⟨us,ks.zip ws⟩ (ps.zip (g us ws))
 rel:∀ {vs:List V} {us:List Value} {zs:List V} {ws:List Value},Vals vs us->Vals zs ws->Vals (gV vs zs) (g us ws)
variable {g:List Value->List Value->List Value} {gV:List V->List V->List V}
end
structure aP (N P:List Str) (sc:Scope):Prop where
 kind:sc.kind = .function
 co:sc.isCoroutine=false
 gen:sc.isGenerator=false
 nd:N.Nodup
 pre:N.take P.length=P
 par:∀ x∈P,sc.names.lookup x=some .local\/sc.names.lookup x=some .cell
 alo:∀ y∈sc.names,y.2 ≠ .free
theorem LC :∀ {binds:List (Str × Value)} {m:Str->Option Value},(∀ v,(x,v)∉binds)->bindL kindOf binds m x=m x
 | [],_,_=>rfl
 | (n,v)::r,m,h=>by
  unfold bindL
  rw [LC fun w hw=>h w (gF _ hw)]
  split
  ·have:x≠n:=by rintro rfl;exact h v cX
   simp [this]
  ·rfl
theorem LQ :∀ {binds:List (Str × Value)} {m:Str->Option Value},(∀ v,(x,v)∉binds)->bindC kindOf binds m x=m x
 | [],_,_=>rfl
 | (n,v)::r,m,h=>by
  unfold bindC
  rw [LQ fun w hw=>h w (gF _ hw)]
  split
  ·rfl
  ·have:x≠n:=by rintro rfl;exact h v cX
   simp [this]
theorem LR {v:Value}:∀ {P:List Str} {vs:List Value} {i:Nat} {m:Str->Option Value},P.Nodup->P[i]? = some x->vs[i]? = some v->kindOf x=some .local ->
  bindL kindOf (P.zip vs) m x=some v
 | [],_,_,_,_,h,_,_=>by simp at h
 | _::_,[],_,_,_,_,h,_=>by simp at h
 | p::P,w::vs,0,m,nd,h1,h2,hk=>by
  simp at h1 h2;subst h1;subst h2
  show bindL kindOf ((p,w)::P.zip vs) m p=_
  unfold bindL
  rw [LC fun v hv=>(lF.mp nd).1 (VB hv).1,if_pos hk]
  simp
 | p::P,w::vs,i+1,m,nd,h1,h2,hk=>by
  show bindL kindOf ((p,w)::P.zip vs) m x=_
  unfold bindL
  exact LR (i:=i) (lF.mp nd).2 (by simpa using h1) (by simpa using h2) hk
theorem Ma {v:Value}:∀ {P:List Str} {vs:List Value} {i:Nat} {m:Str->Option Value},P.Nodup->P[i]? = some x->vs[i]? = some v->kindOf x≠some .local ->
  bindC kindOf (P.zip vs) m x=some v
 | [],_,_,_,_,h,_,_=>by simp at h
 | _::_,[],_,_,_,_,h,_=>by simp at h
 | p::P,w::vs,0,m,nd,h1,h2,hk=>by
  simp at h1 h2;subst h1;subst h2
  show bindC kindOf ((p,w)::P.zip vs) m p=_
  unfold bindC
  rw [LQ fun v hv=>(lF.mp nd).1 (VB hv).1,if_neg hk]
  simp
 | p::P,w::vs,i+1,m,nd,h1,h2,hk=>by
  show bindC kindOf ((p,w)::P.zip vs) m x=_
  unfold bindC
  exact Ma (i:=i) (lF.mp nd).2 (by simpa using h1) (by simpa using h2) hk
noncomputable def start (N:List Str) (vs:List V):St:=vs.map some++Hs (N.length-vs.length) none
noncomputable def Av (CX:CXT) (P:aO) (w:World) (K:aZ) (mg:Str->Option Value) (base:Heap) (N:List Str) (qual:Str) (scope:Scope) (f:Addr) (cd:Value) (A:bA) (outer:List Env) (s:Shared) (H:Hp) (E:XK):Cx where
 prog:=P
 w:=w
 K:=K
 mg:=mg
 base:=base
 A:=A.deeper (lO qual scope s.heap.objs.size f cd)
 N:=N
 s₀:=s
 H₀:=H
 env:=lO qual scope s.heap.objs.size f cd
 outer:=outer
 stack:=lO qual scope s.heap.objs.size f cd::outer
 ex:=[]
 calm:=true
 fn:=fun _=>true
 pn:=[]
 xe:=fun e s'=>wpAny (model P w) (A.deeper (lO qual scope s.heap.objs.size f cd)) (leaving (lO qual scope s.heap.objs.size f cd) e) (fun _ s''=>CX outer H s E e s'') (fun e' s''=>CX outer H s E e' s'') s'
theorem R4 {sc:Scope} (h:sc.names.lookup x=some .cell):∃ c,(Vd n sc.names []).lookup x=some c:=by
 have q:=adH sc.names n [] (.inl h)
 exact aeQ.mp q
theorem abz {K:aZ} {f:Addr} {cd:Value} {s1:Shared} {E:XK} 
  (S:aP N ps scope) (hd:A.handled=none) (e0:KQ P w K mg base A outer s H) (hl:vs.length=ps.length) (r:Vals vs us)
  (x:InCallC s s.heap.objs.size (bindL (lO qual scope s.heap.objs.size f cd).kindOf (ps.zip us) fun _=>none) (Vd (s.heap.objs.size+1) scope.names []) (bindC (lO qual scope s.heap.objs.size f cd).kindOf (ps.zip us) fun _=>none) s1) :
  Inv (Av CX P w K mg base N qual scope f cd A outer s H E) [] (start N vs) H s1:=by
 have hpl:ps.length<=N.length:=by have:=congrArg nF S.pre;rw [gU] at this;lia
 obtain ⟨h1,tk,rfl,hk⟩:=x.done
 have noA:∀ b:Addr,b∉(Av CX P w K mg base N qual scope f cd A outer s H E).ex:=fun b z=>absurd (show b∈([]:List Addr) from z) (by simp)
 refine ⟨⟨e0.mod,S.kind,rfl,rfl,bV _,fun y z c h1 h2=>?_,fun y hy=>?_,fun y c _ h=>?_,fun _=>hd,Around.frames_deeper e0.frames,.inr ⟨rfl,rfl⟩,fun b z=>absurd z (noA b),e0.bs,e0.bsz,fun b _ _=>noA b,fun b z=>absurd z (noA b),e0.zu,e0.frf⟩,
  rfl,e0.bare,Un.kept hk,⟨_,x.toInCall.ns,fun i y v h1 h2 h3=>?_⟩,fun y c h=>⟨_,x.cell y c h⟩,e0.hok.fresh (bV _),fun y c h=>?_,fun p hp=>absurd (show p∈([]:List (Addr × Obj)) from hp) (by simp),e0.hok.kept hk,?_⟩
 ·exact name_of_addr x.apart (Cq h1) (Cq h2)
 ·have hy:scope.names.lookup y=some .cell\/scope.names.lookup y=some .free:=hy
  rcases hy with hy | hy
  ·exact R4 hy
  ·exact absurd rfl (S.alo _ (Cq hy))
 ·exact mG (x.above y c (Cq h))
 ·have hi:i<vs.length:=by
   unfold start at h2
   by_cases hi:i<vs.length
   ·exact hi
   ·rw [xK (by simpa using hi)] at h2
    rw [ada] at h2
    split at h2 <;> cases h2
  have ha:vs[i]? = some v:=by
   unfold start at h2
   rw [Eo (by simpa using hi),iR] at h2
   cases e:vs[i]? with
   | none=>rw [e] at h2;cases h2
   | some a=>rw [e] at h2;cases h2;rfl
  obtain ⟨u,hu,rv⟩:=r.get ha
  have hp:ps[i]? = some y:=by
   rw [<- S.pre,List.getElem?_take_of_lt tb_g%];exact h1
  have ndP:ps.Nodup:=by rw [<- S.pre];exact S.nd.sublist (Vt _ _)
  refine ⟨u,rv,?_⟩
  rcases S.par y (List.mem_of_getElem? hp) with k | k
  ·exact .inl ⟨k,LR ndP hp hu k⟩
  ·obtain ⟨c,e⟩:=R4 (n:=s.heap.objs.size+1) k
   refine .inr ⟨.inl k,c,e,?_⟩
   have q:=x.cell y c e
   rw [Ma ndP hp hu (by show scope.names.lookup y≠_;rw [k];decide)] at q
   exact q
 ·exact e0.hok.fresh (mG (x.above y c (Cq h)))
 ·unfold start
  show _=N.length
  rw [dH,bG,CT]
  lia
theorem aje {K:aZ} {f:Addr} {params:Arguments} {dV kV doc pm cdv ct oc:Value} {an od:Option Addr}
  {osl:Array (Option Value)} {N ps:List Str} {sp:Sp} (lk:K.lookup f=some ⟨oc,od,.func (lK name qual params body scope dV kV doc pm an cdv ct),osl⟩) (hcd:Hv K cdv qual=true) (S:aP N ps scope)
  (len:∀ vs H Q E,sp vs H Q E->vs.length=ps.length)
  (hbody:∀ (A:bA) (outer:List Env) (s:Shared) (H:Hp) (vs:List V) (Q:VK) (E:XK),jE k (A.deeper (lO qual scope s.heap.objs.size f cdv))->sp vs H Q E ->
   ∃ t,PSs (Av CX P w K mg base N qual scope f cdv A outer s H E) body t/\t { nx:=fun _ H'=>Q .non H',rt:=Q } (start N vs) H) :
  cP P w K mg base CX (k+1) f (lK name qual params body scope dV kV doc pm an cdv ct) ps sp:=by
 refine ⟨len,fun A outer s H args us vs Q E hr e0 hb r hsp=>?_⟩
 have hl:=len _ _ _ _ hsp
 have KX:K.In s.heap:=e0.mod.kin.keeps fun b o e=>(e0.bs b o e).1
 have lim:s.heap.NoLimit:=e0.mod.nolimit.keeps fun b o e=>(e0.bs b o e).1
 have hkind:∀ y∈ps.zip us,scope.names.lookup y.1=some .local\/(scope.names.lookup y.1=some .cell/\((Vd (s.heap.objs.size+1) scope.names []).lookup y.1).isSome=true):=fun ⟨n,v⟩ hy=>by
  rcases S.par n (VB hy).1 with q | q
  ·exact .inl q
  ·exact .inr ⟨q,adH _ _ _ (.inl q)⟩
 refine codeAny_call_function hr.depth (KX _ _ lk) rfl S.co S.gen rfl (PySem.W.codeRec_of KX hcd) (hb _ _ _ _ ?_)
 refine wpAny_newFunctionEnv_cells S.kind hkind fun env he s1 x=>?_
 subst he
 refine ⟨lim.keeps x.toInCall.keep,codeAny_func ?_⟩
 obtain ⟨t,ht,hq⟩:=hbody A outer s H vs Q E (hr.deeper _) hsp
 have I:Inv (Av CX P w K mg base N qual scope f cdv A outer s H E) [] (start N vs) H s1:=abz S hr.hd e0 hl r x
 refine eF (ht [] s1 (start N vs) H _ I hq) (fun fl s' hs=>?_) fun e s' hs=>hs
 have fin:∀ {σ':St} {H':Hp} {v:V} {u:Value},Inv (Av CX P w K mg base N qual scope f cdv A outer s H E) [] σ' H' s'->RelV v u->Q v H'->CE outer P w H s Q u s' :=
  fun {σ' H' v u} J rv q=>⟨v,H',J.os,J.bare,J.base,J.hok,rv,q⟩
 cases fl with
 | ret u =>
  obtain ⟨v,σ',H',J,rv,q⟩:=hs
  exact fin J rv q
 | next =>
  obtain ⟨σ',H',J,q⟩:=hs
  exact fin (v:=V.non) (u:=Value.none) J rfl q
 | brk =>
  obtain ⟨_,_,_,q⟩:=hs
  exact j8 q
 | cont =>
  obtain ⟨_,_,_,q⟩:=hs
  exact j8 q
section
variable {pos:Pos} {id T:String} {r:List V->Hp->VK->Prop}
@[reducible] noncomputable def tCB (r:List V->Hp->VK->Prop) (t:TA):TE:=fun σ H Q=>t σ H fun vs H1=>r vs H1 Q
theorem cA (hc:gC X (.builtin id) r) (hg:Gl X x) (hm:X.mg x=none) (hv:Cz x=some (.builtin id)) (ha:PA X (e::es) t) (hn:x ≠ "__name__" := by decide) (hdb:(x == ("__debug__" : Str))=false:=by decide)
  (he:cW (e::es) X.env=(false,eval e X.env)::cW es X.env:=by rfl) (hpl:(gH pos (cW es X.env)).any (·.1)=false:=by rfl):PE X (.Call (.Name x p) (e::es) [] pos) (tCB r t):=by
 walk_at "l"
 refine Aa (oM I hg hm hv ?_ hn hdb)
 exact ajT (thn (ha pos pins s σ H _ I h) fun us s1 ⟨vs,H1,I1,r1,q1⟩=>hc pins s1 σ H1 vs us Q I1 r1 q1) he hpl
theorem fJ (hc:gC X (.type T) r) (hg:Gl X x) (hm:X.mg x=none) (hv:Cz x=some (.type T)) (ha:PA X (e::es) t) (hn:x ≠ "__name__" := by decide) (hdb:(x == ("__debug__" : Str))=false:=by decide)
  (he:cW (e::es) X.env=(false,eval e X.env)::cW es X.env:=by rfl) (hpl:(gH pos (cW es X.env)).any (·.1)=false:=by rfl):PE X (.Call (.Name x p) (e::es) [] pos) (tCB r t):=by
 walk_at "l"
 refine Aa (oM I hg hm hv ?_ hn hdb)
 exact Lp (thn (ha pos pins s σ H _ I h) fun us s1 ⟨vs,H1,I1,r1,q1⟩=>hc pins s1 σ H1 vs us Q I1 r1 q1) he hpl
end
end L2
namespace HT
open PySem PyProof.Rows
section
open PySem.SeqAt
open PySem.AutoSeq1 (wpAny_loadPart')
open PySem.MeetsSeq PySem.MeetsSeq2 PySem.MeetsSeq3
end
section
variable {prog:aO} {w:World} {A:bA} {E:Value->Shared->Prop} {s:Shared}
noncomputable def sIx (n d:Nat):Option Int->Nat
 | none=>d
 | some v=>if v<0 then (v+(n:Int)).toNat else min v.toNat n
end
end HT
namespace L2
open PySem PySem.Spec PyProof.Rows
variable {pins:List (Addr × Obj)} {kvs:List (List Key × V)} {s:Shared} {xs:List (List Key × Addr × Value)} {E Q:Value->Shared->Prop} {H H':Hp} {X:Cx} {u v:Value} {σ:St} {o:Option V} {w:World} {A:bA} {y x:V} {its:List Value} {P:aO} {t' n j:Nat} {e:Expr} {α:Type} {h':Heap} {T:String} {i:Int} {k:Key}
noncomputable abbrev TO:=St->Hp->(Option Int->Hp->Prop)->Prop
noncomputable def PO (X:Cx) (e:Option Expr) (t:TO):Prop :=
 ∀ (pins:List (Addr × Obj)) (s:Shared) (σ:St) (H:Hp) (Q:Option Int->Hp->Prop),Inv X pins σ H s->t σ H Q ->
  wpAny (model X.prog X.w) X.A (evalPart e X.env) (fun u s'=>∃ o H',Inv X pins σ H' s'/\IsPart u o/\Q o H') X.xe s
noncomputable def ahM:TO:=fun _ H Q=>Q none H
noncomputable def tPart (t:TE):TO:=fun σ H Q=>t σ H fun x H1=>∃ i,x = .int i/\Q (some i) H1
theorem intsAre_of {ns:List Int}:∀ {us:List Value},Vals (ns.map V.int) us->IntsAre us ns:=by
 induction ns with
 | nil=>intro us r;rw [Ou] at r;cases r;exact .nil
 | cons n ns ih =>
  intro us r
  rw [gB] at r
  cases r with
  | cons r1 r2 =>
   obtain ⟨t,e⟩:=r1
   subst e
   exact .cons n t (ih r2)
section
variable {te:TE} {lo hi:Option Expr} {tl th:TO} {pos p2:Pos}
theorem FT:PO X none ahM:=by
 walk_at "l"
 rw [acZ]
 exact bC ⟨none,H,I,.none,h⟩
theorem tH (h:PE X e te):PO X (some e) (tPart te):=by
 intro pins s σ H Q I hw
 rw [evalPart_some]
 refine thn (h pins s σ H _ I hw) fun u s1 ⟨x,H1,I1,r1,q1⟩=>?_
 obtain ⟨i,rfl,q⟩:=q1
 obtain ⟨t,rfl⟩:=r1
 exact ⟨some i,H1,I1,.int i t,q⟩
noncomputable def SlR (X:Cx) (r:V->Option Int->Option Int->Hp->VK->Prop):Prop :=
 ∀ (pins:List (Addr × Obj)) (s:Shared) (σ:St) (H:Hp) (x:V) (v vl vu:Value) (lo hi:Option Int) (sl:Addr) (Q:VK),Inv X pins σ H s->RelV x v->s.heap.IsSliceOf sl vl vu .none->IsPart vl lo->IsPart vu hi->r x lo hi H Q ->
  ∃ T id,NZ (.type T) "__getitem__" = pure (some (.builtin id))/\s.TypeIs v T/\wpAny (model X.prog X.w) X.A (Ob v (.ref sl)) (EP X pins σ Q) X.xe s
noncomputable def tSl (r:V->Option Int->Option Int->Hp->VK->Prop) (te:TE) (tl th:TO):TE:=fun σ H Q=>te σ H fun x H1=>tl σ H1 fun l H2=>th σ H2 fun u H3=>r x l u H3 Q
theorem Aw {r:V->Option Int->Option Int->Hp->VK->Prop} (hr:SlR X r) (he:PE X e te) (hl:PO X lo tl) (hu:PO X hi th):PE X (.Subscript e (.Slice lo hi none p2) pos) (tSl r te tl th):=by
 walk_at "l"
 refine Wq (thn (he pins s σ H _ I h) fun v s1 ⟨x,H1,I1,r1,q1⟩=>?_)
 refine wpAny_Slice (thn (hl pins s1 σ H1 _ I1 q1) fun vl s2 ⟨l,H2,I2,pl,q2⟩=>thn (hu pins s2 σ H2 _ I2 q2) fun vu s3 ⟨u,H3,I3,pu,q3⟩=>?_)
 rw [acZ]
 refine bC ?_
 have I4:Inv X pins σ H3 { s3 with heap:=s3.heap.push { cls:=.type "slice",data:=.fields #[vl,vu,.none] } }:=I3.kept (t':=s3.toks) fun b ob q=>dN _ q
 obtain ⟨T,id,hT,ht,hg⟩:=hr pins { s3 with heap:=s3.heap.push { cls:=.type "slice",data:=.fields #[vl,vu,.none] } } σ H3 x v vl vu l u s3.heap.objs.size Q I4 r1 (ae7 ..) pl pu q3
 show wpAny (model X.prog X.w) X.A (Pg e (.Slice lo hi none p2) v (.ref s3.heap.objs.size)) (EP X pins σ Q) X.xe { s3 with heap:=s3.heap.push { cls:=.type "slice",data:=.fields #[vl,vu,.none] } }
 exact tail_any (ops:=[.ref s3.heap.objs.size,v]) ht hT hg (by with_unfolding_all rfl)
noncomputable def KR (xs:List V) (lo hi:Option Int):List V:=(xs.drop (HT.sIx xs.length 0 lo)).take (HT.sIx xs.length xs.length hi-HT.sIx xs.length 0 lo)
theorem R5 (xs:List V) (lo hi:Option Int):(KR xs lo hi).length<=xs.length:=by
 unfold KR
 rw [gU,yN]
 lia
end
noncomputable def ixN (n:Nat) (i:Int):Option Nat:=if 0<=i then (if i<n then some i.toNat else none) else if -(n:Int)<=i then some (i+n).toNat else none
noncomputable def atI {α:Type} (xs:List α) (i:Int):Option α:=(ixN xs.length i).bind fun j=>xs[j]?
theorem aay (h:ixN n i=some j):seqIndex? i n=some j/\j<n /\ -(n:Int)<=i/\i<n:=by
 unfold ixN at h
 by_cases h0:0<=i
 ·rw [if_pos h0] at h
  by_cases h1:i<n
  ·rw [if_pos h1] at h
   have e:i.toNat=j:=cI h
   exact ⟨by rw [U4 h0 h1,e],by lia,by lia,h1⟩
  ·rw [if_neg h1] at h;cases h
 ·rw [if_neg h0] at h
  by_cases h1:-(n:Int)<=i
  ·rw [if_pos h1] at h
   have e:(i+n).toNat=j:=cI h
   exact ⟨by rw [U0 tb_g% h1,e],by lia,h1,by lia⟩
  ·rw [if_neg h1] at h;cases h
theorem aaz {xs:List α} {v:α} (h:atI xs i=some v):∃ j,seqIndex? i xs.length=some j/\xs[j]? = some v/\j<xs.length /\ -(xs.length:Int)<=i/\i<xs.length:=by
 unfold atI at h
 cases e:ixN xs.length i with
 | none=>rw [e] at h;cases h
 | some j =>
  rw [e] at h
  obtain ⟨h1,h2,h3,h4⟩:=aay e
  exact ⟨j,h1,h,h2,h3,h4⟩
theorem Ql {xs:List α} {v:α} (h:xs[j]? = some v):atI xs (j:Int)=some v:=by
 have hj:j<xs.length:=(jB.mp h).1
 have e:ixN xs.length (j:Int)=some j:=by
  unfold ixN
  rw [if_pos tb_g%,if_pos tb_g%];simp
 unfold atI;rw [e];exact h
noncomputable def ahN (b:Expr):Prop:=∀ o i,U5 b false o i=operate [o,i] (Ob o i)
noncomputable def IxR (X:Cx) (r:R2):Prop :=
 ∀ (value slice:Expr) (pins:List (Addr × Obj)) (s:Shared) (σ:St) (H:Hp) (x y:V) (v u:Value) (Q:VK),Inv X pins σ H s->RelV x v->RelV y u->r x y H Q ->
  U5 slice false v u=operate [v,u] (Ob v u)->wpAny (model X.prog X.w) X.A (Pg value slice v u) (EP X pins σ Q) X.xe s
noncomputable def MtR (X:Cx) (id:String) (r:V->List V->Hp->VK->Prop):Prop :=
 ∀ (pins:List (Addr × Obj)) (s:Shared) (σ:St) (H:Hp) (x:V) (xs:List V) (v:Value) (us:List Value) (Q:VK),Inv X pins σ H s->RelV x v->Vals xs us->r x xs H Q ->
  wpAny (model X.prog X.w) X.A (call (.builtin id) (v::us)) (EP X pins σ Q) X.xe s
section
variable {a b:Expr} {ta tb:TE} {pos:Pos}
theorem IxR.or {r r':R2} (h:IxR X r) (h':IxR X r'):IxR X (fun x y H Q=>r x y H Q\/r' x y H Q):=by
 intro value slice pins s σ H x y v u Q I rx ry q hs
 rcases q with q | q
 ·exact h value slice pins s σ H x y v u Q I rx ry q hs
 ·exact h' value slice pins s σ H x y v u Q I rx ry q hs
theorem fX {r:R2} (hr:IxR X r) (ha:PE X a ta) (hb:PE X b tb) (hs:ahN b):PE X (.Subscript a b pos) (tOp r ta tb):=by
 walk_at "l"
 exact Wq (binT ha hb I h fun v u s2 x y H2 I2 rx ry q=>hr a b pins s2 σ H2 x y v u Q I2 rx ry q (hs _ _))
noncomputable def rIxL (K:aZ):R2:=fun x y H Q=>∃ p xs i v,x = .ref p/\y = .int i/\SqL K H p xs/\atI xs i=some v/\Q v H
noncomputable def rIxT (K:aZ):R2:=fun x y H Q=>∃ p xs i v,x = .ref p/\y = .int i/\SqT K H p xs/\atI xs i=some v/\Q v H
theorem ahO:IxR X (rIxL X.K):=by
 intro value slice pins s σ H x y v u Q I rx ry h hs
 obtain ⟨p,xs,i,z,rfl,rfl,hq,he,q⟩:=h
 cases rx
 obtain ⟨t,rfl⟩:=ry
 obtain ⟨its,r,pl,hz⟩:=I.list hq
 obtain ⟨j,h1,h2,h3,h4,h5⟩:=aaz he
 obtain ⟨w,ew,rw'⟩:=r.get h2
 have hl:=r.length
 have hn:=Qk
 have fin:EP X pins σ Q w s:=⟨z,H,I,rw',q⟩
 by_cases h0:0<=i
 ·have hj:i.toNat=j:=by
   rw [U4 h0 h5] at h1
   exact cI h1
  exact item_listR pl.isList h0 tb_g% (by rw [hj];simpa using ew) fin hs
 ·have hj:(i+(its.toArray.size:Int)).toNat=j:=by
   rw [U0 tb_g% h4] at h1
   rw [dI,<- hl]
   exact cI h1
  exact aej (x:=w) pl.isList.typeIs Uv.lookup
   (wpAny_getItem_list_neg (Q:=fun r s'=>r=w/\EP X pins σ Q r s') pl.isList tb_g% (by rw [dI] <;> lia) tb_g% (by rw [hj];simpa using ew) ⟨rfl,fin⟩) hs
theorem alp:IxR X (rIxT X.K):=by
 intro value slice pins s σ H x y v u Q I rx ry h hs
 obtain ⟨p,xs,i,z,rfl,rfl,hq,he,q⟩:=h
 cases rx
 obtain ⟨t,rfl⟩:=ry
 obtain ⟨its,r,pl,hz⟩:=I.tuple hq
 obtain ⟨j,h1,h2,h3,h4,h5⟩:=aaz he
 obtain ⟨w,ew,rw'⟩:=r.get h2
 have hl:=r.length
 have hn:=Qk
 have fin:EP X pins σ Q w s:=⟨z,H,I,rw',q⟩
 exact aej (x:=w) pl.typeIs slot_tuple_getitem.lookup
  (getItem_tuple (j:=j) (Q:=fun r s'=>r=w/\EP X pins σ Q r s') pl tb_g% tb_g% (by rw [dI,<- hl];exact h1) (by simpa using ew) ⟨rfl,fin⟩) hs
theorem Y5 (its:List Value) (n j:Nat) (u:Value):jo (·.setIfInBounds j u) { cls:=.type "list",data:=.seq its.toArray n }={ cls:=.type "list",data:=.seq (its.set j u).toArray n }:=by
 simp [jo]
theorem Inv.lst {pins:List (Addr × Obj)} {σ:St} {H:Hp} {s:Shared} {p:Addr} {xs:List V} (I:Inv X pins σ H s) (h:H p=some (.lst xs)) :
  ∃ (its:List Value) (n:Nat),Vals xs its/\s.heap.get? p=some { cls:=.type "list",data:=.seq its.toArray n }/\xs.length<=sizeLine:=by
 obtain ⟨z,its,n,r,e⟩:=I.hok p _ h
 exact ⟨its,n,r,e,z⟩
theorem Inv.alq {p:Addr} {xs ys:List V} {its':List Value} {n':Nat} {f:Obj->Obj} (I:Inv X pins σ H s) (h:H p=some (.lst xs))
  (ho:s.heap.get? p=some { cls:=.type "list",data:=.seq its.toArray n }) (hf:f { cls:=.type "list",data:=.seq its.toArray n }={ cls:=.type "list",data:=.seq its'.toArray n' }) (r:Vals ys its') (hz:ys.length<=sizeLine) (t:Nat) :
  Inv X pins σ (upd H p (.lst ys)) { s with heap:=s.heap.update p f,toks:=t }:=by
 have e:(s.heap.update p f).get? p=some { cls:=.type "list",data:=.seq its'.toArray n' }:=by
  rw [Ag f ho (by rw [hf] <;> rfl),hf]
 refine I.write (x:=p) (e:=p) (by rw [h];trivial) (.inl rfl) (fun b u hb q=>(oH _ _ (aL hb)).trans q) ⟨_,e⟩ ?_
 exact ⟨hz,its',n',r,e⟩
noncomputable def ajf:V->V->V->Hp->(Hp->Prop)->Prop:=fun o i v H Q=>∃ p xs k j,o = .ref p/\i = .int k/\H p=some (.lst xs)/\ixN xs.length k=some j/\Q (upd H p (.lst (xs.set j v)))
theorem set_list:PSet X ajf:=by
 intro pins s σ H o i v ov iv u Q I ro ri rv h
 obtain ⟨p,xs,k,j,rfl,rfl,hp,hj,q⟩:=h
 cases ro
 obtain ⟨t,rfl⟩:=ri
 obtain ⟨its,n,r,ho,hz⟩:=I.lst hp
 obtain ⟨h1,h2,h3,h4⟩:=aay hj
 have hl:=r.length
 have hn:=Qk
 have I':Inv X pins σ (upd H p (.lst (xs.set j v))) { s with heap:=s.heap.update p (jo (·.setIfInBounds j u)) } :=
  I.alq hp ho (Y5 its n j u) (r.set rv j) (by rw [lG];exact hz) s.toks
 by_cases h0:0<=k
 ·have hk:k.toNat=j:=by
   rw [U4 h0 h4] at h1
   exact cI h1
  exact PySem.W.ki_setAt ho h0 tb_g% (by rw [dI,<- hl];exact h4) (by rw [hk];exact ⟨_,I',q⟩)
 ·have hk:(k+(its.toArray.size:Int)).toNat=j:=by
   rw [U0 tb_g% h3] at h1
   rw [dI,<- hl]
   exact cI h1
  exact PySem.W.ki_setBack ho tb_g% (by rw [dI,<- hl];exact h3) tb_g% (by rw [hk];exact ⟨_,I',q⟩)
theorem Qm (lo hi:Option Int) (n:Nat):(jz lo hi none n).1=((HT.sIx n 0 lo:Nat):Int)/\(jz lo hi none n).2.1=((HT.sIx n n hi:Nat):Int)/\(jz lo hi none n).2.2=1:=by
 refine ⟨?_,?_,rfl⟩
 ·cases lo with
  | none=>simp [jz,HT.sIx]
  | some i =>
   simp only [jz,HT.sIx,WQ,show (1:Int)>0 by decide,if_true]
   by_cases h:i<0
   ·simp only [h,if_true] <;> lia
   ·simp only [h,if_false] <;> lia
 ·cases hi with
  | none=>simp [jz,HT.sIx]
  | some i =>
   simp only [jz,HT.sIx,WQ,show (1:Int)>0 by decide,if_true]
   by_cases h:i<0
   ·simp only [h,if_true] <;> lia
   ·simp only [h,if_false] <;> lia
theorem KY (its:List Value) (lo hi:Option Int):GP its.toArray lo hi none=((its.drop (HT.sIx its.length 0 lo)).take (HT.sIx its.length its.length hi-HT.sIx its.length 0 lo)).toArray:=by
 obtain ⟨h1,h2,h3⟩:=Qm lo hi its.toArray.size
 unfold GP
 rw [h1,h2,h3]
 simp only [sliceRange_one,pick_run,dI] <;> rfl
noncomputable def rSlL (K:aZ):V->Option Int->Option Int->Hp->VK->Prop:=fun x lo hi H Q=>∃ a xs,x = .ref a/\SqL K H a xs/\∀ p,H p=none->Q (.ref p) (upd H p (.lst (KR xs lo hi)))
theorem FW:SlR X (rSlL X.K):=by
 intro pins s σ H x v vl vu lo hi sl Q I rx hs pl pu h
 obtain ⟨a,xs,rfl,hx,q⟩:=h
 cases rx
 obtain ⟨its,r,ht,hz⟩:=I.list hx
 have hlen:=r.length
 refine ⟨"list",_,Uv.lookup,ht.isList.typeIs,?_⟩
 refine acE ht.isList hs pl pu .none (by simp) ?_ (by rw [dI] <;> lia)
 rw [KY,<- hlen]
 refine ⟨.ref s.heap.objs.size,_,I.laid (t':=s.toks) (o:=.lst (KR xs lo hi)) (fun b ob q=>dN _ q) (bV _) ?_,rfl,q _ (I.hok.fresh (bV _))⟩
 exact ⟨jL (R5 xs lo hi) hz,_,0,(r.drop (HT.sIx xs.length 0 lo)).take (HT.sIx xs.length xs.length hi-HT.sIx xs.length 0 lo),eO _ rfl⟩
noncomputable def uI:V->Bool
 | .non=>true
 | .bl _=>true
 | .int _=>true
 | .str _=>true
 | _=>false
noncomputable def eqV:V->V->Bool
 | .non,.non=>true
 | .bl a,.bl b=>a == b
 | .bl a,.int b=>(if a then 1 else 0) == b
 | .int a,.bl b=>a == (if b then 1 else 0)
 | .int a,.int b=>a == b
 | .str a,.str b=>a == b
 | _,_=>false
theorem Y6 (ry:RelV y u) (rx:RelV x v) (fy:uI y=true) (fx:uI x=true):Ih A s u v (eqV y x):=by
 cases y with
 | non =>
  cases ry
  cases x with
  | non=>cases rx;exact WY _
  | bl b=>cases rx;exact akd b
  | int b=>obtain ⟨t,rfl⟩:=rx;exact akg b t
  | str b=>obtain ⟨t,rfl⟩:=rx;exact akh b t
  | _=>exact absurd (show false=true from fx) iK
 | bl a =>
  cases ry
  cases x with
  | non=>cases rx;exact ake a
  | bl b=>cases rx;exact akf a b
  | int b=>obtain ⟨t,rfl⟩:=rx;exact aki a b t
  | str b=>obtain ⟨t,rfl⟩:=rx;exact akj a b t
  | _=>exact absurd (show false=true from fx) iK
 | int a =>
  obtain ⟨t',rfl⟩:=ry
  cases x with
  | non=>cases rx;exact akk a t'
  | bl b=>cases rx;exact akl a t' b
  | int b=>obtain ⟨t,rfl⟩:=rx;exact ako a t' b t
  | str b=>obtain ⟨t,rfl⟩:=rx;exact aeZ a t' b t
  | _=>exact absurd (show false=true from fx) iK
 | str a =>
  obtain ⟨t',rfl⟩:=ry
  cases x with
  | non=>cases rx;exact akm a t'
  | bl b=>cases rx;exact akn a t' b
  | int b=>obtain ⟨t,rfl⟩:=rx;exact ae0 a t' b t
  | str b=>obtain ⟨t,rfl⟩:=rx;exact akp a t' b t
  | _=>exact absurd (show false=true from fx) iK
 | _=>exact absurd (show false=true from fy) iK
noncomputable def eqU (x:V) (u:Value):Bool:=match u with
 | .none=>eqV .non x
 | .bool b=>eqV (.bl b) x
 | .int i _=>eqV (.int i) x
 | .str z _=>eqV (.str z) x
 | _=>false
theorem afI (r:RelV y u) (f:uI y=true):eqU x u=eqV y x:=by
 cases y with
 | non=>cases r;rfl
 | bl b=>cases r;rfl
 | int i=>obtain ⟨t,rfl⟩:=r;rfl
 | str z=>obtain ⟨t,rfl⟩:=r;rfl
 | _=>exact absurd (show false=true from f) iK
theorem Qn :∀ {xs:List V} {us:List Value},Vals xs us->xs.all uI=true->us.any (eqU x)=xs.any fun y=>eqV y x
 | _,_,.nil,_=>rfl
 | y::xs,u::us,.cons r t,f=>by
  rw [adE,HY] at f
  rw [yQ,yQ,afI r f.1,Qn t f.2]
theorem Ja (rx:RelV x v) (fx:uI x=true):∀ {xs:List V} {us:List Value},Vals xs us->xs.all uI=true->∀ u∈us,Ih A s u v (eqU x u)
 | _,_,.nil,_=>fun u hu=>by cases hu
 | y::xs,u::us,.cons r t,f=>fun u' hu=>by
  rw [adE,HY] at f
  rcases bN.mp hu with rfl | hu
  ·rw [afI r f.1];exact Y6 r rx f.1 fx
  ·exact Ja rx fx t f.2 u' hu
noncomputable def inV (x:V) (xs:List V):Bool:=xs.any fun y=>eqV y x
noncomputable def rIn (K:aZ) (neg:Bool):R2:=fun x y H Q=>∃ p xs,y = .ref p/\(SqL K H p xs\/SqT K H p xs)/\uI x=true/\xs.all uI=true/\Q (.bl (if neg then !inV x xs else inV x xs)) H
theorem Qo:OpR X (jA .NotIn) (rIn X.K true):=by
 walk_at "m"
 obtain ⟨p,xs,rfl,hq,fx,fs,q⟩:=h
 cases ry
 rcases hq with hq | hq
 ·obtain ⟨its,r,pl,hz⟩:=I.list hq
  refine SeqAt.notIn_listAt (eqU x) pl.isList (fun w hw=>Ja rx fx r fs w (by simpa using hw)) ⟨.bl _,H,I,rfl,?_⟩
  rw [show its.toArray.any (eqU x)=its.any (eqU x) by simp,Qn r fs]
  exact q
 ·obtain ⟨its,r,pl,hz⟩:=I.tuple hq
  refine SeqAt.notIn_tupleAt (eqU x) pl (fun w hw=>Ja rx fx r fs w (by simpa using hw)) ⟨.bl _,H,I,rfl,?_⟩
  rw [show its.toArray.any (eqU x)=its.any (eqU x) by simp,Qn r fs]
  exact q
theorem gC.or {f:Value} {r r':List V->Hp->VK->Prop} (h:gC X f r) (h':gC X f r'):gC X f (fun xs H Q=>r xs H Q\/r' xs H Q):=by
 intro pins s σ H xs us Q I rs q
 rcases q with q | q
 ·exact h pins s σ H xs us Q I rs q
 ·exact h' pins s σ H xs us Q I rs q
theorem Qp:gC X (.type "list") (fun xs H Q=>∃ p ys,xs=[.ref p]/\(SqL X.K H p ys\/SqT X.K H p ys)/\∀ l,H l=none->Q (.ref l) (upd H l (.lst ys))):=by
 walk_at "j"
 obtain ⟨p,ys,rfl,hq,q⟩:=h
 obtain ⟨u,rfl,rx⟩:=vals1 r
 cases rx
 have fin:∀ (its:List Value),Vals ys its->ys.length<=sizeLine->∀ (h':Heap) (c':Nat),(∀ b o',s.heap.get? b=some o'->h'.get? b=some o') ->
   h'.get? s.heap.objs.size=some { cls:=.type "list",dict:=none,data:=.seq its.toArray c',slots:=#[] }->EP X pins σ Q (.ref s.heap.objs.size) { s with heap:=h' }:=fun its r' hz h' c' kp e =>
  ⟨.ref s.heap.objs.size,_,I.laid (t':=s.toks) kp (bV _) (show dh X.prog X.w _ h' _ (.lst ys) from ⟨hz,its,c',r',e⟩),rfl,q _ (I.hok.fresh (bV _))⟩
 rcases hq with hq | hq
 ·obtain ⟨its,r',pl,hz⟩:=I.list hq
  have hlen:=r'.length
  obtain ⟨o,ho,hc,n,hd⟩:=pl.isList
  exact ac0 p (.inl rfl) ho hc hd (fun h' c' kp e=>fin its r' hz h' c' kp e) (by simp only [dI] <;> lia)
 ·obtain ⟨its,r',pl,hz⟩:=I.tuple hq
  have hlen:=r'.length
  obtain ⟨o,ho,hc,n,hd⟩:=pl
  exact ac0 p (.inr rfl) ho hc hd (fun h' c' kp e=>fin its r' hz h' c' kp e) (by simp only [dI] <;> lia)
noncomputable def tyV (K:aZ) (T:String) (x:V) (H:Hp):Prop:=match x with
 | .str _=>T = "str"
 | .int _=>T = "int"
 | .ref p=>(T = "list" /\ ∃ xs,SqL K H p xs)\/(T = "tuple" /\ ∃ o,K.lookup p=some o/\o.cls = .type "tuple" /\ o.dict=none) \/
   (T = "dict" /\ ((∃ kvs,H p=some (.dK kvs))\/∃ kvs,H p=some (.dT kvs)))\/(T = "set" /\ ∃ S n,H p=some (.set S n))
 | _=>False
theorem alr (I:Inv X pins σ H s) (r:RelV x v) (ty:tyV X.K T x H) :
  s.TypeIs v T/\∀ a,v = .ref a->∃ ob,s.heap.get? a=some ob/\ob.dict=none:=by
 cases x with
 | str z =>
  obtain ⟨t,rfl⟩:=r
  cases (show T = "str" from ty)
  exact ⟨typeIs_str s z t,fun _ e=>nomatch e⟩
 | int i =>
  obtain ⟨t,rfl⟩:=r
  cases (show T = "int" from ty)
  exact ⟨typeIs_int s i t,fun _ e=>nomatch e⟩
 | ref p =>
  cases r
  rcases ty with ⟨rfl,xs,hq⟩ | ⟨rfl,o,hk,hc,hd⟩ | ⟨rfl,hk⟩ | ⟨rfl,S,n,hk⟩
  ·obtain ⟨its,_,pl,_⟩:=I.list hq
   refine ⟨pl.isList.typeIs,fun a e=>?_⟩
   cases e
   obtain ⟨o,n,e,c,hd,_⟩:=pl
   exact ⟨o,e,hd⟩
  ·refine ⟨⟨o,I.kIn p o hk,hc⟩,fun a e=>?_⟩
   cases e
   exact ⟨o,I.kIn _ o hk,hd⟩
  ·have z:∃ o,s.heap.get? p=some o/\o.ExactDict:=by
    rcases hk with ⟨kvs,hk⟩ | ⟨kvs,hk⟩
    ·obtain ⟨_,_,_,_,o,_,_,e,ex,_⟩:=I.hok p _ hk
     exact ⟨o,e,ex⟩
    ·obtain ⟨_,_,_,_,o,_,_,e,ex,_⟩:=I.hok p _ hk
     exact ⟨o,e,ex⟩
   obtain ⟨o,e,ex⟩:=z
   refine ⟨⟨o,e,ex.1⟩,fun a e2=>?_⟩
   cases e2
   exact ⟨o,e,ex.2.1⟩
  ·obtain ⟨o,_,_,_,e,ex,_⟩:=I.hok p _ hk
   refine ⟨⟨o,e,ex.1⟩,fun a e2=>?_⟩
   cases e2
   exact ⟨o,e,ex.2.1⟩
 | _=>exact j8 ty
noncomputable def tBM (K:aZ) (T:String) (r:V->List V->Hp->VK->Prop) (to:TE) (t:TA):TE:=fun σ H Q=>to σ H fun x H1=>tyV K T x H1/\t σ H1 fun xs H2=>r x xs H2 Q
variable {o:Expr} {es:List Expr} {to:TE} {t:TA} {name:Str} {apos cpos:Pos} {id:String} {r:V->List V->Hp->VK->Prop}
theorem kE (pa:PlainAttrs T) (slot:Slot T name id) (hty:Oh (.builtin id)=pure (.type "method_descriptor")) (hm:MtR X id r) (ho:PE X o to) (ha:PA X (e::es) t)
  (hbase:yC o name X.env (eval o X.env)=eval o X.env:=by rfl)
  (hfew:((gH cpos (cW (e::es) X.env)).all (fun x=>!x.1) && (GQ cpos (GF [] X.env)).all (fun x=>x.1.isSome)
   && decide ((e::es).length+([]:List sW).length+(if ([]:List sW).isEmpty then 0 else 1)<30))=true:=by rfl)
  (hline:(apos.endLine == cpos.line)=true:=by rfl) (hs:cW (e::es) X.env=(false,eval e X.env)::cW es X.env:=by rfl) (hplain:(gH cpos (cW es X.env)).any (·.1)=false:=by rfl) :
  PE X (.Call (.Attribute o name apos) (e::es) [] cpos) (tBM X.K T r to t):=by
 walk_at "l"
 refine wpAny_Call_method_late hbase hfew hline rfl (thn (ho pins s σ H _ I h) fun v s1 ⟨x,H1,I1,r1,ty,q1⟩=>?_)
 obtain ⟨h1,h2⟩:=alr I1 r1 ty
 refine ⟨T,id,pa,slot,hty,h1,h2,?_⟩
 have hA:=ha cpos pins s1 σ H1 _ I1 q1
 rw [hs] at hA ⊢
 refine aeP (by show (false || (gH cpos (cW es X.env)).any (·.1))=false;rw [hplain] <;> rfl) (WM ?_)
 exact thn hA fun us s2 ⟨vs,H2,I2,r2,q2⟩=>hm pins s2 σ H2 x vs v us Q I2 r1 r2 q2
end
noncomputable def MtM (X:Cx) (id:String) (r:V->List V->Hp->VK->Prop):Prop :=
 ∀ (pins:List (Addr × Obj)) (s:Shared) (σ:St) (H:Hp) (x:V) (xs:List V) (v:Value) (us:List Value) (Q:VK),Inv X pins σ H s->RelV x v->Vals xs us->r x xs H Q ->
  wpAny (model X.prog X.w) X.A (call (.builtin id) (v::us)) (EP X pins σ Q) X.xe s
theorem Vals.one:∀ {x:V} {us:List Value},Vals [x] us->∃ u,us=[u]/\RelV x u
 | _,_,.cons r .nil=>⟨_,rfl,r⟩
theorem Vals.eraseIdx:∀ {xs:List V} {us:List Value} (i:Nat),Vals xs us->Vals (xs.eraseIdx i) (us.eraseIdx i)
 | _,_,_,.nil=>.nil
 | _,_,0,.cons _ t=>t
 | _,_,i+1,.cons r t=>.cons r (Vals.eraseIdx i t)
theorem Vals.reverse {xs:List V} {us:List Value} (h:Vals xs us):Vals xs.reverse us.reverse:=by
 induction h with
 | nil=>exact .nil
 | cons r t ih=>rw [adt,adt];exact Vals.append ih (.cons r .nil)
section
variable {l b:Addr} {xs ys zs:List V}
theorem Inv.lset {its':List Value} {f:Array Value->Array Value} (I:Inv X pins σ H s) (hH:H l=some (.lst xs))
  (e:s.heap.get? l=some { cls:=.type "list",data:=.seq its.toArray n }) (hf:f its.toArray=its'.toArray) (hv:Vals ys its') (hz:ys.length<=sizeLine) :
  Inv X pins σ (upd H l (.lst ys)) { s with heap:=s.heap.update l (jo f),toks:=t' }:=by
 have q:=ala e f
 rw [hf] at q
 refine I.write (x:=l) (e:=l) (by rw [hH];exact trivial) (.inl rfl) (fun b' u hb hu=>(oH s.heap (jo f) (aL hb)).trans hu) ⟨_,q⟩ ?_
 exact ⟨hz,its',_,hv,q⟩
theorem Inv.lnew (I:Inv X pins σ H s) (hv:Vals ys its) (hz:ys.length<=sizeLine) :
  Inv X pins σ (upd H s.heap.objs.size (.lst ys)) { s with heap:=s.heap.push { cls:=.type "list",data:=.seq its.toArray },toks:=t' } :=
 I.laid (fun _ _ q=>dN _ q) (bV _) ⟨hz,its,0,hv,eO _ rfl⟩
theorem Inv.fresh (I:Inv X pins σ H s):H s.heap.objs.size=none:=I.hok.fresh (bV _)
theorem Inv.Qq (I:Inv X pins σ H s) (hH:H l=some (.lst xs)):xs.length<=sizeLine/\∃ (its:List Value) (n:Nat),Vals xs its/\xs.length=its.length/\s.heap.get? l=some { cls:=.type "list",data:=.seq its.toArray n }:=by
 obtain ⟨z,its,n,r,e⟩:=I.hok l _ hH
 exact ⟨z,its,n,r,r.length,e⟩
end
noncomputable def ahP:V->List V->Hp->VK->Prop:=fun x vs H Q=>∃ l xs y,x = .ref l/\vs=[y]/\H l=some (.lst xs)/\xs.length<sizeLine/\Q .non (upd H l (.lst (xs++[y])))
theorem cM:MtM X "list.append" ahP:=by
 intro pins s σ H x vs v us Q I rx rv h
 obtain ⟨l,xs,y,rfl,rfl,hH,hz,q⟩:=h
 cases rx
 obtain ⟨u,rfl,ru⟩:=rv.one
 obtain ⟨z,its,n,r,hl,e⟩:=I.Qq hH
 refine call_meets F.slot_list_append ⟨_,e,rfl⟩ F.entry_list_append (F.args_list_append_2 _ _) (PySem.list_append l its.toArray n u (by rw [dI];lia)) ⟨e,?_⟩
 refine ⟨.non,_,I.lset (its':=its++[u]) hH e (by simp) (r.append (.cons ru .nil)) ?_,rfl,q⟩
 rw [dH,List.length_singleton]
 lia
noncomputable def rCat:R2:=fun x y H Q=>∃ l b xs zs,x = .ref l/\y = .ref b/\H l=some (.lst xs)/\H b=some (.lst zs)/\xs.length+zs.length<=sizeLine/\∀ p,H p=none->Q (.ref p) (upd H p (.lst (xs++zs)))
theorem zF:OpR X (vg .Add) rCat:=by
 walk_at "m"
 obtain ⟨l,b,xs,zs,rfl,rfl,hH,hB,hz,q⟩:=h
 cases rx
 cases ry
 obtain ⟨z,its,n,r,hl,e⟩:=I.Qq hH
 obtain ⟨z2,its2,n2,r2,hl2,e2⟩:=I.Qq hB
 refine PySem.P.add_list e e2 ?_ (by rw [dI,dI];lia)
 have ea:its.toArray++its2.toArray=(its++its2).toArray:=by simp
 rw [ea]
 exact ⟨.ref _,_,I.lnew (t':=s.toks) (r.append r2) (by rw [dH];lia),rfl,q _ I.fresh⟩
section
variable {prog:aO}
set_option maxRecDepth 100000 in
end
section
variable {κ:Type} [DecidableEq κ]
noncomputable def zG (kvs:List (κ × V)) (k:κ):Option V:=(kvs.find? fun kv=>decide (kv.1=k)).map (·.2)
noncomputable def putK (kvs:List (κ × V)) (k:κ) (v:V):List (κ × V) :=
 if (kvs.any fun kv=>decide (kv.1=k))=true then kvs.map (fun kv=>if kv.1=k then (kv.1,v) else kv) else kvs++[(k,v)]
theorem Ax {p:κ × V} {r:List (κ × V)} {k:κ} (e:p.1=k):zG (p::r) k=some p.2:=by simp [zG,yP,e]
theorem Ay {p:κ × V} {r:List (κ × V)} {k:κ} (e:¬ p.1=k):zG (p::r) k=zG r k:=by simp [zG,yP,e]
theorem R6 (k:κ):∀ kvs:List (κ × V),(kvs.any fun kv=>decide (kv.1=k))=(zG kvs k).isSome
 | []=>rfl
 | p::r=>by
  rw [yQ]
  by_cases e:p.1=k
  ·simp only [Ax e,decide_eq_true e,Bool.true_or,Option.isSome_some]
  ·rw [Ay e,decide_eq_false e,aez];exact R6 k r
theorem Ey (kvs:List (κ × V)) (k:κ) (v:V):(putK kvs k v).length<=kvs.length+1:=by
 unfold putK
 split
 ·rw [bG];lia
 ·rw [dH,iI,adx];lia
theorem uW.DG {u:Option Value} (r:uW o u):o.isSome=u.isSome:=by
 cases o with
 | none=>cases u with
  | none=>rfl
  | some _=>exact (show False from r).elim
 | some _=>cases u with
  | none=>exact (show False from r).elim
  | some _=>rfl
theorem uW.getD {u:Option Value} {d:V} {d':Value} (r:uW o u) (rd:RelV d d'):RelV (o.getD d) (u.getD d'):=by
 cases o with
 | none=>cases u with
  | none=>exact rd
  | some _=>exact (show False from r).elim
 | some _=>cases u with
  | none=>exact (show False from r).elim
  | some _=>exact r
theorem KV.val {kvs:List (κ × V)} {vs:List (κ × Value)} (r:KV kvs vs) (k:κ):uW (zG kvs k) (yH vs k):=by
 unfold KV at r
 induction r with
 | nil=>exact True.intro
 | @cons p q ps qs h t ih =>
  obtain ⟨h1,h2⟩:=h
  by_cases e:p.1=k
  ·have e':q.1=k:=h1.symm.trans e
   have b:yH (q::qs) k=some q.2:=by simp [yH,yP,e']
   rw [Ax e,b];exact h2
  ·have e':¬ q.1=k:=fun z=>e (h1.trans z)
   have b:yH (q::qs) k=yH qs k:=by simp [yH,yP,e']
   rw [Ay e,b];exact ih
theorem KV.any {kvs:List (κ × V)} {vs:List (κ × Value)} (r:KV kvs vs) (k:κ):(kvs.any fun kv=>decide (kv.1=k))=vs.any fun kv=>decide (kv.1=k):=by
 unfold KV at r
 induction r with
 | nil=>rfl
 | cons h t ih=>rw [yQ,yQ,ih,h.1]
theorem KV.repl {kvs:List (κ × V)} {vs:List (κ × Value)} (r:KV kvs vs) (k:κ) (ry:RelV y u) :
  KV (kvs.map fun kv=>if kv.1=k then (kv.1,y) else kv) (vs.map fun kv=>if kv.1=k then (kv.1,u) else kv):=by
 unfold KV at r ⊢
 induction r with
 | nil=>exact .nil
 | @cons p q ps qs h t ih =>
  rw [gB,gB]
  refine .cons ?_ ih
  obtain ⟨h1,h2⟩:=h
  by_cases e:p.1=k
  ·rw [if_pos e,if_pos (h1.symm.trans e)];exact ⟨h1,ry⟩
  ·rw [if_neg e,if_neg (fun z=>e (h1.trans z))];exact ⟨h1,h2⟩
theorem KV.put {kvs:List (κ × V)} {vs:List (κ × Value)} (r:KV kvs vs) (k:κ) (ry:RelV y u):KV (putK kvs k y) (stored vs k u):=by
 unfold putK stored
 rw [r.any k]
 by_cases e:(vs.any fun kv=>decide (kv.1=k))=true
 ·rw [if_pos e,if_pos e];exact r.repl k ry
 ·rw [if_neg e,if_neg e];exact ae6 r ⟨rfl,ry⟩
theorem KV.keys {kvs:List (κ × V)} {vs:List (κ × Value)} (r:KV kvs vs):kvs.map (·.1)=vs.map (·.1):=by
 unfold KV at r
 induction r with
 | nil=>rfl
 | cons h t ih=>rw [gB,gB,ih,h.1]
theorem KV.length {kvs:List (κ × V)} {vs:List (κ × Value)} (r:KV kvs vs):kvs.length=vs.length:=W9 r
end
theorem R7 (r:RelV (kV k) u):(dg P w).is k u=true:=by
 cases k with
 | inl i=>obtain ⟨t,e⟩:=(show ∃ t,u=Value.int i t from r);subst e;exact RQ P w i t
 | inr x=>obtain ⟨t,e⟩:=(show ∃ t,u=Value.str x t from r);subst e;exact RT P w x t
theorem Mf :∀ {ks:List Key} {us:List Value},Vals (ks.map kV) us->ItemsAre (dg P w) ks us
 | [],_,r=>by rw [Ou] at r;cases r;exact .nil
 | k::ks,_,r=>by
  rw [gB] at r
  cases r with
  | cons h t=>exact .cons (R7 h) (Mf t)
noncomputable abbrev KT (H:Hp):List (List Key × V)->List (List Key × Addr × Value)->Prop:=Paired fun p q=>p.1=q.1/\H q.2.1=some (.tup (p.1.map kV))/\RelV p.2 q.2.2
theorem KT.val (r:KT H kvs xs) (k:List Key):uW (zG kvs k) ((atKey xs k).map (·.2)):=by
 induction r with
 | nil=>exact True.intro
 | @cons p q ps qs h t ih =>
  obtain ⟨h1,_,h2⟩:=h
  by_cases e:p.1=k
  ·have e':q.1=k:=h1.symm.trans e
   have b:atKey (q::qs) k=some q.2:=by simp [atKey,yP,e']
   rw [Ax e,b];exact h2
  ·have e':¬ q.1=k:=fun z=>e (h1.trans z)
   have b:atKey (q::qs) k=atKey qs k:=by simp [atKey,yP,e']
   rw [Ay e,b];exact ih
theorem KT.repl (r:KT H kvs xs) (k:List Key) (ry:RelV y u) :
  KT H (kvs.map fun kv=>if kv.1=k then (kv.1,y) else kv) (xs.map (putAt k u)):=by
 induction r with
 | nil=>exact .nil
 | @cons p q ps qs h t ih =>
  rw [gB,gB]
  refine .cons ?_ ih
  obtain ⟨h1,h2,h3⟩:=h
  unfold putAt
  by_cases e:p.1=k
  ·rw [if_pos e,if_pos (h1.symm.trans e)];exact ⟨h1,h2,ry⟩
  ·rw [if_neg e,if_neg (fun z=>e (h1.trans z))];exact ⟨h1,h2,h3⟩
theorem KT.put (r:KT H kvs xs) (k:List Key) {b:Addr} (hb:H b=some (.tup (k.map kV))) (ry:RelV y u) :
  KT H (putK kvs k y) (storedH xs k b u):=by
 have e:(kvs.any fun kv=>decide (kv.1=k))=(atKey xs k).isSome:=by
  rw [R6,(r.val k).DG,aeS]
 unfold putK storedH
 rw [e]
 by_cases q:(atKey xs k).isSome=true
 ·rw [if_pos q,if_pos q];exact r.repl k ry
 ·rw [if_neg q,if_neg q];exact ae6 r ⟨rfl,hb,ry⟩
theorem KT.keeps (r:KT H kvs xs) (ht:∀ b ys,H b=some (.tup ys)->H' b=some (.tup ys)):KT H' kvs xs :=
 Paired.mapP r fun _ _ z=>⟨z.1,ht _ _ z.2.1,z.2.2⟩
section
variable {h:Heap} {a:Addr}
theorem ajg {u:HO} (ok:HOk P w H h) (e:Rd H a u):dh P w H h a u:=e.ok ok
theorem vO {kvs:List (Key × V)} (ok:HOk P w H h) (e:Rd H a (.dK kvs)):kvs.length<=sizeLine/\(a == qQ)=false/\∃ vs,KV kvs vs/\h.DictOf (dg P w) a vs :=
 show dh P w H h a (.dK kvs) from ajg ok e
theorem ajh {kvs:List (Key × V)} (ok:HOk P w H h) (e:H a=some (.dK kvs)):kvs.length<=sizeLine/\(a == qQ)=false/\∃ vs,KV kvs vs/\h.DictOf (dg P w) a vs:=vO ok (.inl e)
theorem Jb {ks:List Key} (ok:HOk P w H h) (e:H a=some (.tup (ks.map kV))):(CJ (dg P w)).is h ks a:=by
 obtain ⟨_,its,r,o,h1,h2,n,h3⟩:=(show dh P w H h a (.tup (ks.map kV)) from ok a _ e)
 exact ⟨o,its.toArray,n,h1,h2,h3,by simpa using Mf r⟩
theorem Mi (ok:HOk P w H h) (e:Rd H a (.dT kvs)):kvs.length<=sizeLine/\(a == qQ)=false /\
  ∃ xs,KT H kvs xs/\h.DictOfH (CJ (dg P w)) a xs:=by
 obtain ⟨z,y,xs,r,o,es,ep,h1,h2,h3,h4,h5⟩:=(show dh P w H h a (.dT kvs) from ajg ok e)
 refine ⟨z,y,xs,r,o,es,ep,h1,h2,h3,h4,fun x hx=>?_,h5⟩
 have all:∀ {l:List (List Key × V)} {m:List (List Key × Addr × Value)},KT H l m->∀ x∈m,(CJ (dg P w)).is h x.1 x.2.1:=by
  intro l m q
  induction q with
  | nil=>intro x hx;exact nomatch hx
  | @cons p q ps qs hq t ih =>
   intro x hx
   rcases bN.mp hx with e | hx
   ·subst e
    exact Jb ok (by rw [<- hq.1];exact hq.2.1)
   ·exact ih x hx
 exact all r x hx
theorem dt_of (ok:HOk P w H h) (e:H a=some (.dT kvs)):kvs.length<=sizeLine/\(a == qQ)=false /\
  ∃ xs,KT H kvs xs/\h.DictOfH (CJ (dg P w)) a xs:=Mi ok (.inl e)
end
noncomputable def Qs (H:Hp) (a:Addr) (y:V) (r:Option V):Prop :=
 (∃ kvs k,Rd H a (.dK kvs)/\y=kV k/\r=zG kvs k)\/∃ kvs k b,Rd H a (.dT kvs)/\y = .ref b/\H b=some (.tup (k.map kV))/\r=zG kvs k
noncomputable def DPut (H:Hp) (a:Addr) (y v:V) (H':Hp):Prop :=
 (∃ kvs k,H a=some (.dK kvs)/\y=kV k/\kvs.length<sizeLine/\H'=upd H a (.dK (putK kvs k v))) \/
 ∃ kvs k b,H a=some (.dT kvs)/\y = .ref b/\H b=some (.tup (k.map kV))/\kvs.length<sizeLine/\H'=upd H a (.dT (putK kvs k v))
section
variable {a:Addr} {v:V} {r:Value}
theorem Inv.big (I:Inv X pins σ H s):qQ<s.heap.objs.size:=by
 have h:dX<s.heap.objs.size:=(I.mod.glob.keeps I.bk).lt
 exact ad0 (by decide) h
theorem abA (hu:A.units+1<cLine) (I:Inv X pins σ H s) (g:Qs H a y (some v)) (ry:RelV y u) (h:∀ w' s',Inv X pins σ H s'->RelV v w'->Q w' s') :
  wpAny (model X.prog X.w) A (Ob (.ref a) u) Q E s:=by
 rcases g with ⟨kvs,k,e,ey,l⟩ | ⟨kvs,k,b,e,ey,eb,l⟩
 ·subst ey
  obtain ⟨z,hd,vs,rel,dd⟩:=vO I.hok e
  obtain ⟨w',hw,rw'⟩:=uW.some_of (v:=v) (o:=yH vs k) (by rw [l];exact rel.val k)
  exact wpAny_getItem_of (R7 ry) dd.mapOf hw (h w' _ (I.tok _) rw')
 ·subst ey
  cases (show u=Value.ref b from ry)
  obtain ⟨z,hd,xs,rel,dd⟩:=Mi I.hok e
  obtain ⟨w',hw,rw'⟩:=uW.some_of (v:=v) (o:=(atKey xs k).map (·.2)) (by rw [l];exact rel.val k)
  obtain ⟨p,hp,hp2⟩:=Ib.mp hw
  refine wpAny_getItem_heap (Np hu) (Jb I.hok eb) dd hp ?_
  rw [hp2]
  exact h w' _ (I.tok _) rw'
theorem ahQ (hu:A.units+1<cLine) (I:Inv X pins σ H s) (g:Qs H a y o) (ry:RelV y u) (h:∀ s',Inv X pins σ H s'->Q (.bool (!o.isSome)) s') :
  wpAny (model X.prog X.w) A (jA .NotIn u (.ref a)) Q E s:=by
 rcases g with ⟨kvs,k,e,ey,l⟩ | ⟨kvs,k,b,e,ey,eb,l⟩
 ·subst ey
  obtain ⟨z,hd,vs,rel,dd⟩:=vO I.hok e
  refine wpAny_notIn_of (R7 ry) hd dd.mapOf ?_
  rw [<- (rel.val k).DG,<- l]
  exact h _ (I.tok _)
 ·subst ey
  cases (show u=Value.ref b from ry)
  obtain ⟨z,hd,xs,rel,dd⟩:=Mi I.hok e
  refine wpAny_notIn_heap (Np hu) (Jb I.hok eb) hd dd ?_
  have q:=(rel.val k).DG
  rw [aeS] at q
  rw [<- q,<- l]
  exact h _ (I.tok _)
theorem aaA {ob:HO} (I:Inv X pins σ H s) (mu:Mut (H a)) (hs:vG a s.heap h') (he:∃ q,h'.get? a=some q) (new:dh X.prog X.w (upd H a ob) h' a ob) :
  Inv X pins σ (upd H a ob) { s with heap:=h',toks:=t' } :=
 I.write (x:=a) (e:=a) mu (.inl rfl) (fun b q hb z=>(hs.2 b hb).trans z) he new
theorem afJ {kvs:List (Key × V)} {vs:List (Key × Value)} (z:kvs.length<=sizeLine) (hd:(a == qQ)=false) (rel:KV kvs vs) (dd:h'.DictOf (dg P w) a vs) :
  dh P w H' h' a (.dK kvs):=⟨z,hd,vs,rel,dd⟩
theorem abB {Q:Unit->Shared->Prop} (hu:A.units+1<cLine) (I:Inv X pins σ H s) (g:DPut H a y v H') (ry:RelV y u) (rv:RelV v r) (h:∀ s',Inv X pins σ H' s'->Q () s') :
  wpAny (model X.prog X.w) A (setItem (.ref a) u r) Q E s:=by
 rcases g with ⟨kvs,k,e,ey,l,eH⟩ | ⟨kvs,k,b,e,ey,eb,l,eH⟩
 ·subst ey eH
  obtain ⟨z,hd,vs,rel,dd⟩:=ajh I.hok e
  have hz:vs.length<=sizeLine:=by rw [<- rel.length];exact z
  have hl:(putK kvs k v).length<=sizeLine:=by have:=Ey kvs k v;lia
  refine wpAny_setItem_pairs (hsz:=hz) (R7 ry) dd fun h' dd' hs=>h _ ?_
  have he:∃ q,h'.get? a=some q:=let ⟨q,_,_,hq,_⟩:=dd';⟨q,hq⟩
  exact aaA I (by rw [e];exact True.intro) hs he (afJ hl hd (rel.put k rv) dd')
 ·subst ey eH
  cases (show u=Value.ref b from ry)
  obtain ⟨z,hd,xs,rel,dd⟩:=dt_of I.hok e
  have hz:xs.length<=sizeLine:=by rw [<- W9 rel];exact z
  have hl:(putK kvs k v).length<=sizeLine:=by have:=Ey kvs k v;lia
  refine wpAny_setItem_heap (hsz:=hz) (Np hu) (Jb I.hok eb) dd fun h' dd' hs=>h _ ?_
  obtain ⟨q,es,ep,hq,h2,h3,h4,_,h5⟩:=dd'
  refine aaA I (by rw [e];exact True.intro) hs ⟨q,hq⟩ ⟨hl,hd,_,(rel.put k eb rv).keeps fun c ys ec=>?_,q,es,ep,hq,h2,h3,h4,h5⟩
  rw [au (jq ec e (fun z=>nomatch z))]
  exact ec
end
section
variable {a:Addr} {kvs:List (Key × V)}
theorem d_len (I:Inv X pins σ H s) (e:Rd H a (.dK kvs)) (h:∀ t s',Inv X pins σ H s'->Q (.int kvs.length t) s'):wpAny (model X.prog X.w) A (call (.builtin "len") [.ref a]) Q E s:=by
 obtain ⟨z,hd,vs,rel,dd⟩:=vO I.hok e
 refine call_len_dict hd dd (by rw [<- rel.length];rw [NP] at z;lia) ?_
 rw [<- rel.length]
 exact h _ _ (I.tok _)
end
theorem R9 {a:Addr} (I:Inv X pins σ H s) (g:Qs H a y o):s.TypeIs (.ref a) "dict" := by
 rcases g with ⟨kvs,k,e,_,_⟩ | ⟨kvs,k,b,e,_,_,_⟩
 ·obtain ⟨_,_,vs,_,dd⟩:=vO I.hok e
  exact dd.typeIs
 ·obtain ⟨_,_,xs,_,dd⟩:=Mi I.hok e
  exact dd.typeIs
section
variable {o i value:Expr} {pos pos' tpos:Pos} {td ty tv:TE}
end
theorem afK (h:Heap) (hb:qQ<h.objs.size):dh P w H (h.push { cls:=.type "dict",data:=.dict #[] }) h.objs.size (.dK []) :=
 ⟨cY _,beq_eq_false_iff_ne.mpr (aL (cH hb)),[],.nil,alb h⟩
noncomputable def als:TE:=fun _ H Q=>∀ p,H p=none->Q (.ref p) (upd H p (.dK []))
section
variable {pos:Pos}
theorem Sg:PE X (.Dict [] [] pos) als:=fun pins s σ H Q I h =>
 wpAny_Dict_empty ⟨.ref s.heap.objs.size,_,I.laid (a:=s.heap.objs.size) (o:=.dK []) (t':=s.toks) (fun _ _ q=>dN _ q) (bV _) (afK s.heap I.big),rfl,h _ (I.hok.fresh (bV _))⟩
end
structure M1 (X:Cx) (o:Expr) (m:Str) (apos:Pos) (e:Expr) (cpos:Pos):Prop where
 base:yC o m X.env (eval o X.env)=eval o X.env
 few:((gH cpos (cW [e] X.env)).all (fun x=>!x.1) && (GQ cpos (GF [] X.env)).all (fun x=>x.1.isSome)
  && decide (([e]:List Expr).length+([]:List sW).length+(if ([]:List sW).isEmpty then 0 else 1)<30))=true
 line:(apos.endLine == cpos.line)=true
 trees:gH cpos (cW [e] X.env)=[(false,eval e X.env)]
structure M2 (X:Cx) (o:Expr) (m:Str) (apos:Pos) (e f:Expr) (cpos:Pos):Prop where
 base:yC o m X.env (eval o X.env)=eval o X.env
 few:((gH cpos (cW [e,f] X.env)).all (fun x=>!x.1) && (GQ cpos (GF [] X.env)).all (fun x=>x.1.isSome)
  && decide (([e,f]:List Expr).length+([]:List sW).length+(if ([]:List sW).isEmpty then 0 else 1)<30))=true
 line:(apos.endLine == cpos.line)=true
 trees:gH cpos (cW [e,f] X.env)=[(false,eval e X.env),(false,eval f X.env)]
noncomputable def IsD (H:Hp) (a:Addr):Prop:=(∃ kvs,Rd H a (.dK kvs))\/∃ kvs,Rd H a (.dT kvs)
theorem Y7 {a:Addr} (I:Inv X pins σ H s) (d:IsD H a) :
  s.TypeIs (.ref a) "dict" /\ (∀ b,Value.ref a = .ref b->∃ ob,s.heap.get? b=some ob/\ob.dict=none)/\(a == qQ)=false:=by
 rcases d with ⟨kvs,e⟩ | ⟨kvs,e⟩
 ·obtain ⟨_,hd,vs,_,dd⟩:=vO I.hok e
  refine ⟨dd.typeIs,fun b q=>?_,hd⟩
  cases q
  obtain ⟨ob,_,_,h1,h2,_⟩:=dd
  exact ⟨ob,h1,h2.2.1⟩
 ·obtain ⟨_,hd,xs,_,dd⟩:=Mi I.hok e
  refine ⟨dd.typeIs,fun b q=>?_,hd⟩
  cases q
  obtain ⟨ob,_,_,h1,h2,_⟩:=dd
  exact ⟨ob,h1,h2.2.1⟩
section
variable {a:Addr} {d:V} {r:Value}
theorem alu (hu:A.units+1<cLine) (I:Inv X pins σ H s) (g:Qs H a y o) (ry:RelV y u) (rd:RelV d r) (h:∀ w' s',Inv X pins σ H s'->RelV (o.getD d) w'->Q w' s') :
  wpAny (model X.prog X.w) A (call (.builtin "dict.get") [.ref a,u,r]) Q E s:=by
 rcases g with ⟨kvs,k,e,ey,l⟩ | ⟨kvs,k,b,e,ey,eb,l⟩
 ·subst ey
  obtain ⟨z,hd,vs,rel,dd⟩:=vO I.hok e
  refine ac4 Wb dd.typeIs aef (aed _ _ _) (meets_dict_get_default (dg X.prog X.w) a (R7 ry) hd r) ⟨_,dd.mapOf,h _ _ (I.tok _) ?_⟩
  rw [l]
  exact (rel.val k).getD rd
 ·subst ey
  cases (show u=Value.ref b from ry)
  obtain ⟨z,hd,xs,rel,dd⟩:=Mi I.hok e
  refine ac4 Wb dd.typeIs aef (aed _ _ _) (meetsH_dict_get_default (CJ (dg X.prog X.w)) a b hd r) ⟨Np hu,k,xs,Jb I.hok eb,dd,h _ _ (I.tok _) ?_⟩
  rw [l]
  exact (rel.val k).getD rd
end
noncomputable def alv (td ty tx:TE):TE:=fun σ H Q=>td σ H fun x H1=>∃ a,x = .ref a/\IsD H1 a/\ty σ H1 fun y H2=>tx σ H2 fun z H3=>∃ o,Qs H3 a y o/\Q (o.getD z) H3
section
variable {o f:Expr} {apos cpos:Pos} {td ty tx:TE}
theorem Sh (hu:X.A.units+1<cLine) (ho:PE X o td) (he:PE X e ty) (hf:PE X f tx) (m:M2 X o "get" apos e f cpos):PE X (.Call (.Attribute o "get" apos) [e,f] [] cpos) (alv td ty tx):=by
 walk_at "l"
 refine Uw m.base m.few m.line Wa Wb PySem.F.type_dict_get (thn (ho pins s σ H _ I h) fun u s1 ⟨x,H1,I1,rx,a,ex,d,q1⟩=>?_)
 subst ex
 obtain rfl:u=Value.ref a:=rx
 obtain ⟨t1,t2,_⟩:=Y7 I1 d
 refine ⟨t1,t2,?_⟩
 rw [m.trees]
 refine aeP rfl (WM (zm (thn (he pins s1 σ H1 _ I1 q1) fun iv s2 ⟨y,H2,I2,ry,q2⟩ =>
  zm (thn (hf pins s2 σ H2 _ I2 q2) fun fv s3 ⟨z,H3,I3,rz,ov,g,q3⟩=>Dq ?_))))
 exact alu hu I3 g ry rz fun w' s4 I4 rw'=>⟨_,H3,I4,rw',q3⟩
end
section
variable {a:Addr} {kvs:List (Key × V)}
theorem afL (I:Inv X pins σ H s) (e:Rd H a (.dK kvs)) (h:∀ p s',H p=none->Inv X pins σ (upd H p (.dK kvs)) s'->Q (.ref p) s'):wpAny (model X.prog X.w) A (call (.type "dict") [.ref a]) Q E s:=by
 obtain ⟨z,hd,vs,rel,dd⟩:=vO I.hok e
 refine kt_call_dict hd dd (by rw [<- rel.length];exact z) fun h' dd' hs=>?_
 refine h _ _ (I.hok.fresh (bV _)) (I.laid (a:=s.heap.objs.size) (o:=.dK kvs) (t':=s.toks) (fun b q hq=>?_) (bV _) (afJ z (beq_eq_false_iff_ne.mpr (aL (cH I.big))) rel dd'))
 exact (hs.2 b (cH (bQ hq))).trans (dN _ hq)
end
section
variable {a:Addr}
end
end L2
namespace Att
open PySem PySem.W PySem.Calls PyProof.Rows
theorem Fi {P:CQ} {h:Heap}:∀ (ns:List Int) (vs:List Value),WellAll P h vs (ns.map WData.int)->IntsAre vs ns:=by
 intro ns
 induction ns with
 | nil =>
  intro vs w
  rw [Ou] at w
  cases w
  exact .nil
 | cons n ns ih =>
  intro vs w
  rw [gB] at w
  cases w with
  | cons a b =>
   cases a
   exact .cons _ _ (ih _ b)
theorem abC {l:OpenLaw} {n:Nat} (hn:l.most=some n) {P:CQ} {h:Heap} {args:List WData} {vals:List Value}
  (hpre:l.row.toRowW.claim.pre args=true) (hwl:WellAll P h vals args) :
  ∃ a vs ns,vals=[Value.ref a]/\args=[WData.list (ns.map WData.int)]/\h.get? a=some { cls:=.type "list",data:=.seq vs.toArray }/\IntsAre vs ns/\ns.length<=n:=by
 have hsh:WShape.hasAll [] args [.list .int]=true:=(pre_splitW hpre).1
 have hc:l.pre.holds [] { args:=args }=true:=(pre_splitW hpre).2
 obtain ⟨d,r,rfl,h1,h2⟩:=hasAllW_cons hsh
 obtain rfl:=hasAllW_nil h2
 obtain ⟨xs,rfl,h3⟩:=hasW_list h1
 obtain ⟨ns,rfl⟩:=items_int h3
 have hlen:ns.length<=n:=by
  unfold OpenLaw.pre at hc
  have h4:(WTm.not (.lt (.lit (.int (n:Int))) (.len (.arg 0)))).holds [] { args:=[.list (ns.map .int)] }=true:=by
   have h4:=(holds_andW hc).1
   rw [hn] at h4
   exact h4
  have h5:=condW_of h4 (w_not (w_lt w_lit (w_len_list (w_arg rfl))))
  rw [bG] at h5
  refine adY fun q=>?_
  have q':(n:Int)<((ns.length:Nat):Int):=by lia
  first
   | (rw [decide_eq_true q'] at h5;exact absurd h5 (by decide))
   | (simp at h5;lia)
 cases hwl with
 | cons w1 w2 =>
  cases w2
  cases w1 with
  | list ho hall=>exact ⟨_,_,ns,rfl,rfl,ho,Fi ns _ hall,hlen⟩
theorem abD (l:OpenLaw) (args:List WData):l.row.toRowW.claim.post args (.bool true) args=true :=
 postW_of (r:=l.row.toRowW) (X:=(true == true))
  (show WShape.has [] (.bool true) .bool=true by first | rfl | decide | simp [WShape.has,WShape.arms,WShape.armsAll])
  (show (WTm.eq .res (.lit (.bool true))).value [] { args:=args,res:=some (.bool true),after:=args }=some (.bool (true == true)) from w_eq_bool (w_res rfl) w_lit) rfl
theorem Sq {l:OpenLaw} {n:Nat} {q:aO} {loose:List Str} {XP:(Str->Option Value)->Heap->Prop} {YP:World->Heap->Prop} {d:Og}
  (hn:l.most=some n) (hdf:d.params.defaults=[])
  (call:∀ (w:World) (s₀ s₁:Shared) (mg mb:Str->Option Value) (fa:Addr) (o:Obj) (pm cd doc:Value) (a:Addr) (vs:List Value) (ns:List Int),
   Ground q loose [] XP w s₀ mg mb s₁.heap->YP w s₁.heap ->
   s₁.heap.get? fa=some o->o.data = .func (docDef d.name d.params d.body d.scope pm cd doc)->s₁.heap.CodeRec cd d.name->mg d.name=some (.ref fa) ->
   s₁.heap.get? a=some { cls:=.type "list",data:=.seq vs.toArray }->IntsAre vs ns->ns.length<=n->s₁.gens = #[] ->
   fB (model l.prog w) yI (.call (.ref fa) ⟨[.ref a],[]⟩) (fun r s'=>r = .ok (.ret (.bool true))/\OldK s₁.heap s'.heap/\s'.os=s₁.os/\qW s'.gens) s₁) :
  WalkO q loose XP YP l.row.toRowW d [] (fun f vs=>NT f vs):=by
 intro w s₀ s₁ mg mb G Y fa o pm cd doc dV kV ho hd hcd hD hmg hg args vals as hpre hlay hrd hwl hlo
 obtain rfl:dV = .none:=Dflts.none hD hdf
 obtain rfl:kV = .none:=Dflts.noKw hD
 obtain ⟨a,vs,ns,rfl,rfl,hobj,hints,hlen⟩:=abC hn hpre hwl
 refine enter_call (sU (call w s₀ s₁ mg mb fa o pm cd doc a vs ns G Y ho (fd_plain hd) hcd hmg hobj hints hlen hg) fun r s' hq=>?_)
 obtain ⟨rfl,h2,h3,h4⟩:=hq
 exact ⟨.inl ⟨.bool true,.bool true,[],rfl,fun _=>rfl,.bool true,abD l _,fun _=>⟨List.Pairwise.nil,fun _ hm=>(nomatch hm)⟩⟩,h2,h3,h4⟩
section
variable {prog:aO} {w:World} {A:bA} {E:Value->Shared->Prop} {s:Shared} {K:Frag}
noncomputable def ledger (h:Heap) (L d:Addr):List (Addr × Obj):=(oE h.objs.size).filterMap fun a=>if a=L\/a=d then none else (h.get? a).map fun o=>(a,o)
end
end Att
namespace L2
open PySem PySem.Spec PyProof.Rows
theorem lV:∀ {vs:List Value} {ns:List Int},IntsAre vs ns->Vals (ns.map V.int) vs
 | _,_,.nil=>.nil
 | _,_,.cons n t h=>.cons ⟨t,rfl⟩ (lV h)
noncomputable def Only (H:Hp):Prop:=∀ b,H b=none\/∃ o xs,H b=some (.frz o (.lst xs))
theorem afM {P:aO} {w:World} {K:aZ} {mg mb:Str->Option Value} {CX:CXT} {k:Nat} {fa a:Addr} {fd:FuncData} {x:Str} {sp:Sp} {s₁:Shared} {vs:List Value} {ns:List Int}
  (KX:K.In s₁.heap) (hns:s₁.heap.Ns dX mg) (hb:s₁.heap.Ns U7 mb) (hbb:∀ x:Str,x ≠ "__name__" -> mb x=Cz x) (hlim:s₁.heap.NoLimit) (hg:s₁.gens = #[])
  (ha:s₁.heap.get? a=some { cls:=.type "list",data:=.seq vs.toArray }) (hi:IntsAre vs ns) (hl:ns.length<=sizeLine) (hr:jE k yI)
  (F:∀ base:Heap,K.In base->base.Ns dX mg->cP P w K mg base CX k fa fd [x] sp) (hbind:∀ (s:Shared) (u:Value),CP s fd ⟨[u],[]⟩ [(x,u)])
  (hsp:∀ H:Hp,Only H->SqL K H a (ns.map V.int)->sp [.ref a] H (fun v _=>v = .bl true) fun _ _ _=>False)
  (hCX:∀ H e s',CX [] H s₁ (fun _ _ _=>False) e s'->False) :
  fB (model P w) yI (.call (.ref fa) ⟨[.ref a],[]⟩) (fun r s'=>r = .ok (.ret (.bool true))/\OldK s₁.heap s'.heap/\s'.os=s₁.os/\qW s'.gens) s₁:=by
 have rv:=lV hi
 have lenV:=hi.length
 have core:∀ H:Hp,Only H->SqL K H a (ns.map V.int)->HOk P w H s₁.heap->(∀ b,H b≠none->b=a)->(H a≠none->K.lookup a=none) ->
   fB (model P w) yI (.call (.ref fa) ⟨[.ref a],[]⟩) (fun r s'=>r = .ok (.ret (.bool true))/\OldK s₁.heap s'.heap/\s'.os=s₁.os/\qW s'.gens) s₁:=by
  intro H hO hS hok hA hK
  have aaB:∀ {b:Addr} {o:Obj},s₁.heap.get? b=some o->H b=none->(Qh s₁.heap H).get? b=some o:=fun e n=>afu e n
  have noA:∀ {b:Addr} {o:Obj} {es:Array Ve} {ep:Nat},s₁.heap.get? b=some o->o.data = .dict es ep->H b=none:=fun {b o es ep} e d=>by
   cases q:H b with
   | none=>rfl
   | some u =>
    have e':b=a:=hA b (by rw [q];simp)
    subst e'
    rw [ha] at e;cases e
    have d':Data.seq vs.toArray _=Data.dict es ep:=d
    cases d'
  have nsK:∀ {b:Addr} {m:Str->Option Value},s₁.heap.Ns b m->(Qh s₁.heap H).Ns b m:=fun {b m} ⟨o,es,ep,e,d,r⟩=>⟨o,es,ep,aaB e (noA e d),d,r⟩
  have hKb:K.In (Qh s₁.heap H):=fun b o e=>aaB (KX b o e) (by
   cases q:H b with
   | none=>rfl
   | some u =>
    have e':b=a:=hA b (by rw [q];simp)
    subst e'
    rw [hK (by rw [q];simp)] at e;cases e)
  have hM:Mod K mg (Qh s₁.heap H):=⟨hKb,nsK hns,⟨mb,nsK hb,hbb⟩,let ⟨mc,h1,h2⟩:=hlim;⟨mc,nsK h1,h2⟩⟩
  have e0:KQ P w K mg (Qh s₁.heap H) yI [] s₁ H:=⟨rfl,hM,fun b o e=>ahH e,HF (abo _ _),trivial,fun b hb=>absurd (show b∈([]:List Addr) from hb) (by simp),hok,.of_eq hg⟩
  refine sU ((F _ hKb (nsK hns)).run yI [] s₁ H ⟨[.ref a],[]⟩ [.ref a] [.ref a] _ _ hr e0 (hbind s₁ (.ref a)) (.cons rfl .nil) (hsp H hO hS)) fun r s' h=>?_
  cases r with
  | error e=>exact (hCX H e s' h).elim
  | ok fl =>
   cases fl with
   | next=>exact j8 h
   | brk=>exact j8 h
   | cont=>exact j8 h
   | ret u =>
    obtain ⟨v,H',os,bare,un,hok',r',q⟩:=h
    have q':v = .bl true:=q
    subst q'
    obtain rfl:u=Value.bool true:=r'
    refine ⟨rfl,OldK.of_keep fun b o e=>?_,os,bare⟩
    cases q:H b with
    | none=>exact un.keep b o e q (by intro z;exact absurd (show b∈([]:List Addr) from z) (by simp)) (by simp)
    | some u =>
     rcases hO b with z | ⟨ob,xs,z⟩
     ·rw [q] at z;cases z
     ·have z2:=un.uX b ob _ z
      obtain ⟨e1,_⟩:=hok b _ z
      obtain ⟨e2,_⟩:=hok' b _ z2
      rw [e] at e1;cases e1
      exact e2
 cases hk:K.lookup a with
 | some o =>
  have e:=KX a o hk
  rw [ha] at e
  cases e
  refine core (fun _=>none) (fun _=>.inl rfl) (.inr ⟨_,vs.toArray,_,hk,rfl,rfl,rfl,by rw [dI,lenV];exact hl,by simpa using rv⟩) (fun b u z=>by have z':(none:Option HO)=some u:=z;cases z') (fun b z=>absurd rfl z) fun z=>absurd rfl z
 | none =>
  refine core (fun b=>if b=a then some (.frz { cls:=.type "list",data:=.seq vs.toArray } (.lst (ns.map V.int))) else none) (fun b=>?_) (.inl (.inr ⟨{ cls:=.type "list",data:=.seq vs.toArray },if_pos rfl⟩)) (fun b u z=>?_) (fun b z=>?_) fun _=>hk
  ·by_cases hb:b=a
   ·exact .inr ⟨_,_,if_pos hb⟩
   ·exact .inl (if_neg hb)
  ·by_cases hb:b=a
   ·have z':=(if_pos hb).symm.trans z
    cases z'
    subst hb
    exact ⟨ha,by rw [bG];exact hl,vs,_,rv,ha⟩
   ·have z':=(if_neg hb).symm.trans z
    cases z'
  ·by_cases hb:b=a
   ·exact hb
   ·exact absurd (if_neg hb) z
noncomputable abbrev KOf {K:aZ} {h:Heap} (_:K.In h):aZ:=K
theorem ahR {l:PySem.W.OpenLaw} {n k:Nat} {q:aO} {loose:List Str} {XP:(Str->Option Value)->Heap->Prop} {YP:World->Heap->Prop} {d:Og} {K:CQ->aZ} {CX:World->CXT} {sp:World->Sp} {x:Str}
  (hn:l.most=some n) (hn2:n<=sizeLine) (hdf:d.params.defaults=[]) (hr:jE k yI)
  (hY:∀ (w:World) (h:Heap),YP w h->(K w.params).In h)
  (F:∀ (w:World) (mg:Str->Option Value) (fa:Addr) (h:Heap),(K w.params).In h->h.Ns dX mg->mg d.name=some (.ref fa) ->
   ∃ fd:FuncData,(∀ (s:Shared) (u:Value),CP s fd ⟨[u],[]⟩ [(x,u)]) /\
    ∀ base:Heap,(K w.params).In base->base.Ns dX mg->cP l.prog w (K w.params) mg base (CX w) k fa fd [x] (sp w))
  (hsp:∀ (w:World) (H:Hp) (a:Addr) (ns:List Int),ns.length<=n->Only H->SqL (K w.params) H a (ns.map V.int)->sp w [.ref a] H (fun v _=>v = .bl true) fun _ _ _=>False)
  (hCX:∀ (w:World) (H:Hp) (s:Shared) (e:Value) (s':Shared),CX w [] H s (fun _ _ _=>False) e s'->False) :
  V1 q loose XP YP l.row.toRowW d [] (fun f vs=>NT f vs):=by
 refine Att.Sq hn hdf fun w s₀ s₁ mg mb fa o pm cd doc a vs ns G Y ho hd hcd hmg hobj hints hlen hg=>?_
 have KX:=hY w _ Y
 obtain ⟨fd,hb,hF⟩:=F w mg fa _ KX G.T.g hmg
 exact afM KX G.T.g G.T.b G.T.builtins G.T.nolimit hg hobj hints (jL hlen hn2) hr hF hb (fun H hO hS=>hsp w H a ns hlen hO hS) fun H e s'=>hCX w H s₁ e s'
noncomputable abbrev CX0:CXT:=fun _ _ _ _ _ _=>False
noncomputable abbrev E0:XK:=fun _ _ _=>False
theorem aQ {X:Cx}:Passes CX0 X E0:=fun _ _ _ _ _ _ _ h=>h.elim
structure Fun (K:aZ) (x qual:Str) (st:Stmt) (f:Addr) (fd:FuncData):Prop where
 ex:∃ (oc:Value) (od:Option Addr) (kV doc pm:Value) (an:Option Addr) (cdv ct:Value) (osl:Array (Option Value)),
  fd=lK x qual (j9 st) (jg st) (aH st) .none kV doc pm an cdv ct/\K.lookup f=some ⟨oc,od,.func fd,osl⟩/\Hv K cdv qual=true
 kp:oF K (.ref f)=true
section
variable {P:aO} {w:World} {K:aZ} {mg:Str->Option Value} {base:Heap}
theorem Fun.ok {x qual:Str} {st:Stmt} {f:Addr} {fd:FuncData} {N ps:List Str} {k:Nat} {sp:Sp} (F:Fun K x qual st f fd) (S:aP N ps (aH st)) (len:∀ vs H Q E,sp vs H Q E->vs.length=ps.length)
  (hbody:∀ (cdv:Value) (A:bA) (outer:List Env) (s:Shared) (H:Hp) (vs:List V) (Q:VK) (E:XK),jE k (A.deeper (lO qual (aH st) s.heap.objs.size f cdv))->sp vs H Q E ->
   ∃ t,PSs (Av CX0 P w K mg base N qual (aH st) f cdv A outer s H E).nox (jg st) t/\t { nx:=fun _ H'=>Q .non H',rt:=Q } (start N vs) H):cP P w K mg base CX0 (k+1) f fd ps sp:=by
 obtain ⟨oc,od,kV,doc,pm,an,cdv,ct,osl,rfl,lk,hcd⟩:=F.ex
 refine aje lk hcd S len fun A outer s H vs Q E hr hsp=>?_
 obtain ⟨t,h,q⟩:=hbody cdv A outer s H vs Q E hr hsp
 exact ⟨t,h.nox,q⟩
theorem Fun.binds {x qual:Str} {st:Stmt} {f:Addr} {fd:FuncData} {ps:List Str} (F:Fun K x qual st f fd)
  (h:∀ (kV doc pm:Value) (an:Option Addr) (cdv ct:Value) (us:List Value),us.length=ps.length->yE (lK x qual (j9 st) (jg st) (aH st) .none kV doc pm an cdv ct) ⟨us,[]⟩=pure (ps.zip us)):Binds K fd ps []:=by
 obtain ⟨oc,od,kV,doc,pm,an,cdv,ct,osl,rfl,lk,hcd⟩:=F.ex
 exact .all (h kV doc pm an cdv ct)
theorem alw {x qual:Str} {st:Stmt} {f:Addr} {oc:Value} {od an:Option Addr} {osl:Array (Option Value)} {kV doc pm cdv ct:Value} (l:K.lookup f=some ⟨oc,od,.func (lK x qual (j9 st) (jg st) (aH st) .none kV doc pm an cdv ct),osl⟩)
  (c:Hv K cdv qual=true) (k:oF K (.ref f)=true):Fun K x qual st f (lK x qual (j9 st) (jg st) (aH st) .none kV doc pm an cdv ct):=⟨⟨oc,od,kV,doc,pm,an,cdv,ct,osl,rfl,l,c⟩,k⟩
end
theorem dO {A:bA} {k:Nat} (hr:jE k A):A.units+1<cLine:=V5 (Nat.add_le_add_left (by decide:1<=64) _) hr.units
theorem aV {n:Nat} (h:n<=1000):n<sizeLine:=V5 h (by decide)
section
variable {X:Cx}
theorem pv (i:Nat) {x:Str} {pos:Pos} (hN:X.N[i]? = some x:=by rfl) (hv:Vis X.env.scope x:=by first | exact Or.inl rfl | exact Or.inr (Or.inl rfl) | exact Or.inr (Or.inr rfl)) (hd:(x == ("__debug__" : Str))=false:=by decide)
  (hcd:(x == ("__classdict__" : Str))=false:=by decide):PE X (.Name x pos) (tVar i):=ali hN hv hd hcd
end
theorem Az {A B:Prop} (h:B):if false=true then A else B:=by
 rw [if_neg iK]
 exact h
theorem Bb {A B:Prop} (h:A):if true=true then A else B:=by
 rw [if_pos rfl]
 exact h
theorem gP {c A B:Prop} [Decidable c] (h1:c->A) (h2:¬ c->B):if c then A else B:=by
 by_cases h:c
 ·rw [if_pos h]
  exact h1 h
 ·rw [if_neg h]
  exact h2 h
theorem Bc {c A B:Prop} [Decidable c] (hc:c) (h:B):if (!decide c)=true then A else B:=by
 rw [decide_eq_true hc]
 exact Az h
noncomputable def Same (H H':Hp):Prop:=∀ b o,H b=some o->H' b=some o
theorem Same.refl (H:Hp):Same H H:=fun _ _ h=>h
theorem Same.trans {H H1 H2:Hp} (a:Same H H1) (b:Same H1 H2):Same H H2:=fun c o h=>b c o (a c o h)
theorem Same.free {H H':Hp} (e:Same H H') {l:Addr} (h:H' l=Option.none):H l=Option.none:=by
 cases q:H l with
 | none=>rfl
 | some o =>
  rw [e l o q] at h
  cases h
theorem Same.seq {K:aZ} {H H':Hp} {a:Addr} {xs:List V} (e:Same H H') (h:SqL K H a xs):SqL K H' a xs:=by
 rcases h with (h | ⟨o,h⟩) | h
 ·exact .inl (.inl (e _ _ h))
 ·exact .inl (.inr ⟨o,e _ _ h⟩)
 ·exact .inr h
section
variable {κ:Type} [DecidableEq κ]
end
end L2
set_option Elab.async false
set_option maxRecDepth 100000
namespace L2
open PySem PySem.Spec PyProof.Rows
section
variable {X:Cx}
noncomputable def aaC (K:aZ):List V->Hp->VK->Prop:=fun xs H Q=>(∃ x n,xs=[x]/\LenV K x H n/\Q (.int n) H)\/∃ a kvs,xs=[V.ref a]/\Rd H a (.dK kvs)/\Q (.int kvs.length) H
theorem Y8:gC X (.builtin "len") (fun xs H Q=>∃ a kvs,xs=[V.ref a]/\Rd H a (.dK kvs)/\Q (.int kvs.length) H):=by
 walk_at "j"
 obtain ⟨a,kvs,rfl,ha,q⟩:=h
 obtain ⟨u,rfl,ru⟩:=vals1 r
 cases ru
 exact d_len I ha fun t s' I'=>⟨.int kvs.length,H,I',⟨t,rfl⟩,q⟩
theorem dZ:gC X (.builtin "len") (aaC X.K):=afC.or Y8
noncomputable def KZ (K:aZ):R2:=fun x y H Q=>rIxL K x y H Q\/rIxT K x y H Q\/∃ a v,x = .ref a/\Qs H a y (some v)/\Q v H
theorem ahS (hu:X.A.units+1<cLine):IxR X (fun x y H Q=>∃ a v,x = .ref a/\Qs H a y (some v)/\Q v H):=by
 intro value slice pins s σ H x y v u Q I rx ry h hs
 obtain ⟨a,z,rfl,g,q⟩:=h
 obtain rfl:v=Value.ref a:=rx
 have hT:=R9 I g
 unfold Pg
 refine aG ?_
 rw [getitemInPython_of_ne hT.not_modules]
 refine aG (Nt hT PySem.F.slot_dict_getitem.lookup ?_)
 have fin:wpAny (model X.prog X.w) X.A (U5 slice false (.ref a) u) (fun r s₃=>wpAny (model X.prog X.w) X.A (letTemporaryGo value (.ref a) r >>= fun _=>pure r) (EP X pins σ Q) X.xe s₃) X.xe s:=by
  rw [hs]
  exact wpAny_operating (abA hu I g ry fun w' s3 I3 rw'=>aG (wpAny_letTemporaryGo (bC ⟨z,H,I3,rw',q⟩)))
 first
  | exact bC (aG fin)
  | exact aG (bC (aG fin))
  | exact aG fin
theorem ixG (hu:X.A.units+1<cLine):IxR X (KZ X.K):=ahO.or (alp.or (ahS hu))
noncomputable def aji:V->V->V->Hp->(Hp->Prop)->Prop:=fun o i v H Q=>ajf o i v H Q\/∃ a H',o = .ref a/\DPut H a i v H'/\Q H'
theorem setG (hu:X.A.units+1<cLine):PSet X aji:=by
 intro pins s σ H o i v ov iv u Q I ro ri rv h
 rcases h with h | ⟨a,H',rfl,g,q⟩
 ·exact set_list pins s σ H o i v ov iv u Q I ro ri rv h
 ·obtain rfl:ov=Value.ref a:=ro
  exact abB hu I g ri rv fun s' I'=>⟨H',I',q⟩
noncomputable def rInG (K:aZ) (neg:Bool):R2:=fun x y H Q=>rIn K neg x y H Q\/∃ a o,y = .ref a/\Qs H a x o/\Q (.bl (if neg then !o.isSome else o.isSome)) H
theorem alx (hu:X.A.units+1<cLine):OpR X (jA .NotIn) (rInG X.K true):=by
 walk_at "m"
 rcases h with h | ⟨a,o,rfl,g,q⟩
 ·exact Qo pins s σ H x y v u Q I rx ry h
 ·obtain rfl:u=Value.ref a:=ry
  exact ahQ hu I g rx fun s' I'=>⟨.bl (!o.isSome),H,I',rfl,q⟩
noncomputable def aly:List V->Hp->VK->Prop:=fun xs H Q=>∃ a kvs,xs=[V.ref a]/\Rd H a (.dK kvs)/\∀ p,H p=none->Q (.ref p) (upd H p (.dK kvs))
theorem Jc:gC X (.type "dict") aly:=by
 walk_at "j"
 obtain ⟨a,kvs,rfl,ha,q⟩:=h
 obtain ⟨u,rfl,ru⟩:=vals1 r
 cases ru
 exact afL I ha fun p s' hp I'=>⟨.ref p,_,I',rfl,q p hp⟩
theorem aaD {P:aO} {w:World} {k:Key} {u:Value} (h:(dg P w).is k u=true):RelV (kV k) u:=by
 rcases fG (show Iu k u=true from h) with ⟨i,t,rfl,rfl⟩ | ⟨x,t,rfl,rfl⟩
 ·exact ⟨t,rfl⟩
 ·exact ⟨t,rfl⟩
theorem DK {P:aO} {w:World}:∀ {kvs:List (Key × V)} {vs:List (Key × Value)} {us:List Value},KV kvs vs->us.length=vs.length ->
  (∀ (j:Nat) (u:Value),us[j]? = some u->∃ k x,vs[j]? = some (k,x)/\(dg P w).is k u=true)->Vals (kvs.map fun p=>kV p.1) us
 | [],_,[],.nil,_,_=>.nil
 | [],_,_::_,.nil,hl,_=>by cases hl
 | _::_,_,[],.cons _ _,hl,_=>by cases hl
 | p::ps,_,u::us,.cons (b:=q) r t,hl,h=>by
  obtain ⟨k,x,e,hk⟩:=h 0 u rfl
  have e':q=(k,x):=by simpa using e
  have e2:p.1=k:=by rw [r.1,e']
  refine .cons (by show RelV (kV p.1) u;rw [e2];exact aaD hk) (DK (P:=P) (w:=w) t (by simpa using hl) fun j v hv=>?_)
  obtain ⟨k',x',e'',hk'⟩:=h (j+1) v (by simpa using hv)
  exact ⟨k',x',by simpa using e'',hk'⟩
theorem Mj:∀ {kvs:List (Key × V)} {vs:List (Key × Value)} {us:List Value},KV kvs vs->us.length=vs.length ->
  (∀ (j:Nat) (u:Value),us[j]? = some u->∃ k,vs[j]? = some (k,u))->Vals (kvs.map (·.2)) us
 | [],_,[],.nil,_,_=>.nil
 | [],_,_::_,.nil,hl,_=>by cases hl
 | _::_,_,[],.cons _ _,hl,_=>by cases hl
 | p::ps,_,u::us,.cons (b:=q) r t,hl,h=>by
  obtain ⟨k,e⟩:=h 0 u rfl
  have e':q=(k,u):=by simpa using e
  refine .cons (by have:=r.2;rw [e'] at this;exact this) (Mj t (by simpa using hl) fun j v hv=>?_)
  obtain ⟨k',e''⟩:=h (j+1) v (by simpa using hv)
  exact ⟨k',by simpa using e''⟩
noncomputable def afN:List V->Hp->VK->Prop:=fun xs H Q=>∃ a kvs,xs=[V.ref a]/\Rd H a (.dK kvs)/\∀ p,H p=none->Q (.ref p) (upd H p (.lst (kvs.map fun p=>kV p.1)))
theorem Y9 (hc:X.calm=true):gC X (.type "list") afN:=by
 walk_at "j"
 obtain ⟨a,kvs,rfl,ha,q⟩:=h
 obtain ⟨u,rfl,ru⟩:=vals1 r
 cases ru
 obtain ⟨z,hd,vs,rel,dd⟩:=vO I.hok ha
 obtain ⟨ep,hat⟩:=dd.dictAt
 have hl:=rel.length
 refine PySem.W.kdl_call (adM (knd:=dg X.prog X.w) (kvs:=vs) (ep:=ep) hd) (I.ok.hd hc) hat (by rw [<- hl];exact z) fun h' tk acc' c' hk hD hacc=>?_
 have hv:Vals (kvs.map fun p=>kV p.1) acc'.toList:=DK rel (by rw [fW];exact hacc.1) fun j v e=>hacc.2 j v (by rw [<- iU];exact e)
 refine ⟨.ref s.heap.objs.size,_,I.laid (a:=s.heap.objs.size) (o:=.lst (kvs.map fun p=>kV p.1)) (t':=tk) hk (bV _) ?_,rfl,q _ (I.hok.fresh (bV _))⟩
 exact ⟨by rw [bG];exact z,acc'.toList,c',hv,by first | (rw [ad6];exact hD) | simpa using hD⟩
noncomputable def afO (K:aZ):List V->Hp->VK->Prop:=fun xs H Q=>(∃ p ys,xs=[.ref p]/\(SqL K H p ys\/SqT K H p ys)/\∀ l,H l=none->Q (.ref l) (upd H l (.lst ys)))\/afN xs H Q
theorem gA (hc:X.calm=true):gC X (.type "list") (afO X.K):=Qp.or (Y9 hc)
noncomputable def rIsi (K:aZ):List V->Hp->VK->Prop:=fun xs H Q=>∃ x c t cv b,xs=[x,c]/\RelV c cv/\(∀ u,RelV c u->u=cv)/\zE K H x t/\oG K t cv=some b/\Q (.bl b) H
theorem call_isinstance:gC X (.builtin "isinstance") (rIsi X.K):=by
 walk_at "j"
 obtain ⟨x,c,t,cv,b,rfl,rc,inj,ty,e,q⟩:=h
 obtain ⟨u,w',rfl,ru,rw'⟩:=vals2 r
 obtain rfl:=inj w' rw'
 exact abx I ru ty e fun tk=>⟨.bl b,H,I.tok tk,rfl,q⟩
variable {a b c d:Expr} {ta tb tc td:TE} {pos:Pos}
end
section
variable {P:aO} {w:World} {H H':Hp} {h h':Heap} {a:Addr} {o:HO}
theorem dh.ex (x:dh P w H h a o):∃ u,h.get? a=some u:=by
 cases o with
 | lst xs=>obtain ⟨_,_,_,_,e⟩:=x;exact ⟨_,e⟩
 | tup xs=>obtain ⟨_,_,_,ob,e,_⟩:=x;exact ⟨ob,e⟩
 | dK kvs=>obtain ⟨_,_,_,_,o,_,_,e,_⟩:=x;exact ⟨o,e⟩
 | dT kvs=>obtain ⟨_,_,_,_,o,_,_,e,_⟩:=x;exact ⟨o,e⟩
 | set S n=>obtain ⟨o,_,_,_,e,_⟩:=x;exact ⟨o,e⟩
 | ins C dx fs=>obtain ⟨_,_,_,e,_⟩:=x;exact ⟨_,e⟩
 | own y=>exact x
 | xd fs=>obtain ⟨_,⟨o,_,_,e,_⟩,_⟩:=x;exact ⟨o,e⟩
 | rng lo hi=>obtain ⟨_,_,_,e⟩:=x;exact ⟨_,e⟩
 | frz ob u=>obtain ⟨e,_⟩:=x;exact ⟨_,e⟩
 | tbl ps=>exact ⟨_,show h.get? a=some _ from x⟩
 | met f y=>exact ⟨_,show h.get? a=some _ from x⟩
 | ext φ=>obtain ⟨_,⟨o,e⟩,_⟩:=x;exact ⟨o,e⟩
theorem HOk.Ez (x:HOk P w H h) (k:∀ b u,h.get? b=some u->h'.get? b=some u) (hn:H a=none) (new:dh P w (upd H a o) h' a o):HOk P w (upd H a o) h':=fun b u e=>by
 by_cases hb:b=a
 ·subst hb;rw [ao] at e;cases e;exact new
 ·rw [au hb] at e
  exact (x b u e).stay (fun c v _ q=>k c v q) (fun c q=>by rw [au (ak q hn)];exact q) fun c xs q=>by rw [au (ak q hn)];exact q
theorem Un.Ez {fs ex:List Addr} (k:∀ b u,h.get? b=some u->h'.get? b=some u) (hne:∀ b u,h.get? b=some u->b≠a) (hn:H a=none):Un fs ex H (upd H a o) h h' where
 keep:=fun b u q _ _ _=>k b u q
 slot:=fun b u q _ _ _=>⟨u.slots,k b u q⟩
 free:=fun b u q n _=>by rw [au (hne b u q)];exact n
 there:=fun b u q _=>⟨u,k b u q⟩
 tups:=fun b xs q=>by rw [au (ak q hn)];exact q
 uX:=fun b u xs q=>by rw [au (ak q hn)];exact q
 zq:=fun b ps q=>⟨#[],by rw [au (ak q hn),q];simp⟩
end
section
variable {X:Cx} {pins:List (Addr × Obj)} {σ:St} {H H':Hp} {s:Shared} {h':Heap}
theorem Inv.none_of (I:Inv X pins σ H s) {a:Addr} (hne:∀ b u,s.heap.get? b=some u->b≠a):H a=none:=by
 cases q:H a with
 | none=>rfl
 | some u =>
  obtain ⟨v,e⟩:=(I.hok a u q).ex
  exact absurd rfl (hne a v e)
theorem Inv.Ez {a:Addr} {o:HO} {t':Nat} (I:Inv X pins σ H s) (k:∀ b u,s.heap.get? b=some u->h'.get? b=some u) (hne:∀ b u,s.heap.get? b=some u->b≠a) (new:dh X.prog X.w (upd H a o) h' a o) :
  Inv X pins σ (upd H a o) { s with heap:=h',toks:=t' }:=I.un (Un.Ez k hne (I.none_of hne)) (I.hok.Ez k (I.none_of hne) new)
theorem Inv.afP {t':Nat} {it t:Addr} {o:HO} (I:Inv X pins σ H s) (k:∀ b u,b≠it->s.heap.get? b=some u->h'.get? b=some u) (hie:∃ u,h'.get? it=some u) (hn:H it=none) (hL:it≠X.env.locals)
  (h1:it∈X.ex\/X.s₀.heap.objs.size<=it) (h2:∀ x c,X.env.cells.lookup x=some c->c≠it) (h3:∀ p∈X.pn++pins,p.1≠it) (ht:s.heap.objs.size<=t)
  (new:dh X.prog X.w (upd H t o) h' t o):Inv X pins σ (upd H t o) { s with heap:=h',toks:=t' }:=by
 have nit:∀ b u,H b=some u->b≠it:=fun b u e z=>by rw [z,hn] at e;cases e
 have ntt:H t=none:=I.hok.fresh ht
 have lt:∀ b u,s.heap.get? b=some u->b≠t:=fun b u e=>cH (f9 (bQ e) ht)
 refine I.step (g':=s.gens) (d':=s.drawn) (ch:=[it]) (fun b hb=>?_) (fun b o _ _ hc e _=>k b o (fun z=>hc (by simp [z])) e) (fun b o _ _ hc e _=>⟨o.slots,k b o (fun z=>hc (by simp [z])) e⟩) (fun b u _ e n=>by rw [au (lt b u e)];exact n)
  (fun b o hc e=>⟨o,k b o (fun z=>hc (by simp [z])) e⟩) (fun b xs e=>by rw [au (ak e ntt)];exact e) (fun b q u e=>by rw [au (ak e ntt)];exact e) (fun b ps e=>⟨#[],by rw [au (ak e ntt),e];simp⟩) (fun m hm=>?_) (fun b u e=>?_) I.bare
 ·have e:b=it:=by simpa using hb
  subst e
  exact ⟨h1,hL,h2,h3⟩
 ·obtain ⟨o,es,ep,ho,r⟩:=hm
  exact ⟨o,es,ep,k _ o (aL hL) ho,r⟩
 ·by_cases hb:b=t
  ·subst hb;rw [ao] at e;cases e;exact new
  ·rw [au hb] at e
   refine (I.hok b u e).stay (fun c v hc q=>k c v ?_ q) (fun c q=>by rw [au (ak q ntt)];exact q) fun c xs q=>by rw [au (ak q ntt)];exact q
   rcases hc with z | z
   ·rw [z];exact nit b u e
   ·exact nit c _ z
theorem Inv.freeze {a:Addr} {kvs:List (Key × V)} (I:Inv X pins σ H s) (e:H a=some (.dK kvs)):∃ o es ep,o.data = .dict es ep/\s.heap.get? a=some o/\Inv X pins σ (upd H a (.frz o (.dK kvs))) s:=by
 obtain ⟨z,hd,vs,rel,o,es,ep,ho,hx⟩:=ajh I.hok e
 refine ⟨o,es,ep,hx.2.1,ho,?_⟩
 have I':Inv X pins σ (upd H a (.frz o (.dK kvs))) { s with heap:=s.heap,toks:=s.toks }:=I.write (x:=a) (e:=a) (by rw [e];exact trivial) (.inl rfl) (fun _ _ _ q=>q) ⟨o,ho⟩ ⟨ho,z,hd,vs,rel,o,es,ep,ho,hx⟩
 exact I'
theorem Inv.thaw {a:Addr} {o:Obj} {kvs:List (Key × V)} (I:Inv X pins σ H s) (e:H a=some (.frz o (.dK kvs))) (th:∀ q u,X.H₀ a≠some (.frz q u)):Inv X pins σ (upd H a (.dK kvs)) s:=by
 have ne:∀ b,H b=none->b≠a:=fun b n z=>by rw [z,e] at n;cases n
 have nt:∀ b xs,H b=some (.tup xs)->b≠a:=fun b xs n z=>by rw [z,e] at n;cases n
 have no:∀ b y,H b=some (.own y)->b≠a:=fun b y n z=>by rw [z,e] at n;cases n
 refine ⟨I.ok,I.os,I.bare,⟨I.base.keep,I.base.slot,fun b ob q n hx=>?_,I.base.there,fun b xs q=>?_,fun b ob u q=>?_,fun b ps q=>?_⟩,I.loc,I.cell,?_,fun x c q=>?_,fun p hp=>?_,fun b u q=>?_,I.len⟩
 ·have n':=I.base.free b ob q n hx
  rw [au (ne b n')];exact n'
 ·have q':=I.base.tups b xs q
  rw [au (nt b xs q')];exact q'
 ·have q':=I.base.uX b ob u q
  rw [au (fun (z:b=a)=>th ob u (z ▸ q))];exact q'
 ·obtain ⟨m,q'⟩:=I.base.zq b ps q
  exact ⟨m,by rw [au (fun z=>by rw [z,e] at q';cases q')];exact q'⟩
 ·rw [au (ne _ I.free)];exact I.free
 ·have n:=I.nH x c q
  rw [au (ne _ n)];exact n
 ·obtain ⟨h1,n,r⟩:=I.pin p hp
  exact ⟨h1,by rw [au (ne _ n)];exact n,r⟩
 ·by_cases hb:b=a
  ·subst hb;rw [ao] at q;cases q
   obtain ⟨_,r⟩:=(show dh X.prog X.w H s.heap b (.frz o (.dK kvs)) from I.hok b _ e)
   exact r
  ·rw [au hb] at q
   exact (I.hok b u q).stay (fun _ _ _ r=>r) (fun c r=>by rw [au (no c b r)];exact r) fun c xs r=>by rw [au (nt c xs r)];exact r
end
noncomputable def Iti (a:Addr) (o:Obj) (kvs:List (Key × V)):It :=
 ⟨fun i H=>H a=some (.frz o (.dK kvs))/\i<kvs.length,fun i H x H'=>∃ p t,kvs[i]? = some p/\H t=none/\x = .ref t/\H'=upd H t (.tup [kV p.1,p.2]),fun i H=>H a=some (.frz o (.dK kvs))/\kvs.length<=i⟩
theorem Za {P:aO} {w:World} {H:Hp} {h:Heap} {a:Addr} {o:Obj} {kvs:List (Key × V)} {es:Array Ve} {ep:Nat} (hok:HOk P w H h) (e:H a=some (.frz o (.dK kvs))) (hd:o.data = .dict es ep) :
  ∃ vs,KV kvs vs/\h.DictAt (dg P w) a vs ep:=by
 obtain ⟨ho,_,_,vs,rel,o',es',ep',ho',h2,h3,r⟩:=(show dh P w H h a (.frz o (.dK kvs)) from hok a _ e)
 rw [ho] at ho';cases ho'
 rw [hd] at h3;cases h3
 exact ⟨vs,rel,o,_,ho,h2,hd,r⟩
theorem KV.at {kvs:List (Key × V)} {vs:List (Key × Value)} (r:KV kvs vs):∀ {i:Nat} {p:Key × V},kvs[i]? = some p->∃ v,vs[i]? = some (p.1,v)/\RelV p.2 v:=by
 unfold KV at r
 induction r with
 | nil=>intro i p e;simp at e
 | @cons a b as bs h t ih =>
  intro i p e
  cases i with
  | zero =>
   have e':a=p:=by simpa using e
   subst e'
   exact ⟨b.2,by rw [h.1];rfl,h.2⟩
  | succ j =>
   obtain ⟨v,h1,h2⟩:=ih (i:=j) (p:=p) (by simpa using e)
   exact ⟨v,by simpa using h1,h2⟩
theorem xu:GR table "dict_itemiterator.__iter__" = some dW.«dict_keyiterator.__iter__» :=
 UG (id' := "dict_keyiterator.__iter__") (by kernel_rfl) rfl tb_g% (by kernel_rfl)
theorem uY {prog:aO} {w:World} {A:bA} {E:Value->Shared->Prop} {s:Shared} {it d:Addr} {i n ep:Nat} {ok ov:Value} {Q:Value->Shared->Prop} (hit:IsItemIter s.heap it d i n ep ok ov) (h:Q (.ref it) s) :
  wpAny (model prog w) A (yJ (.ref it)) Q E s:=by
 have hT:s.TypeIs (.ref it) "dict_itemiterator" := ⟨_,hit,rfl⟩
 refine Ux hT F.slot_dict_itemiterator_iter (xJ F.slot_dict_itemiterator_iter hT xu ?_ (F.args_dict_itemiterator_iter_1 _))
 show wpAny _ _ (ret (.ref it)) _ _ s
 exact bC ⟨_,rfl,"dict_itemiterator",_,hT,F.slot_dict_itemiterator_next.lookup,h⟩
theorem Zb {P:aO} {w:World} {K:aZ} {elts:List Expr} {x1} {tpos:Pos} (a it:Addr) (o:Obj) (kvs:List (Key × V)) {es:Array Ve} {ep:Nat} (hd:o.data = .dict es ep) :
  Turn P w K (.Tuple elts x1 tpos) (Iti a o kvs) [it] it (fun i h=>∃ ok ov,IsItemIter h it a i kvs.length ep ok ov) where
 mem:=by simp
 obj:=fun i h st b hb=>by
  have e:b=it:=by simpa using hb
  subst e
  obtain ⟨ok,ov,e⟩:=st
  exact ⟨_,e,fun v z=>by cases z⟩
 keep:=fun i h h' st k=>by
  obtain ⟨ok,ov,e⟩:=st
  exact ⟨ok,ov,k it (by simp) _ e⟩
 item:=by
  walk_at "h"
  subst hP hw hK
  obtain ⟨e,hi⟩:=hg
  obtain ⟨vs,rel,dm⟩:=Za I.hok e hd
  have hl:=rel.length
  obtain ⟨p,hp⟩:∃ p,kvs[i]? = some p:=⟨kvs[i],by simp [hi]⟩
  obtain ⟨v,hv,rv⟩:=rel.at hp
  k_dat it "i"
  obtain ⟨ok,ov,st⟩:=st
  refine wpAny_pyNext_items_item (knd:=dg X.prog X.w) (by rw [<- hl];exact st) dm hv fun key h' hkey heo ht hz hk=>?_
  have hit:it<s.heap.objs.size:=bQ st
  have nt:H s.heap.objs.size=none:=I.hok.fresh (bV _)
  have I1:Inv X pins σ (upd H s.heap.objs.size (.tup [kV p.1,p.2])) { s with heap:=h' }:=I.afP (t':=s.toks) hk ⟨_,heo⟩ f0 f1 f3 f4 f5 (bV _)
   ⟨by show 2<=sizeLine;decide,[key,v],.cons (aaD hkey) (.cons rv .nil),⟨_,ht,rfl,_,rfl⟩⟩
  have n1:(upd H s.heap.objs.size (.tup [kV p.1,p.2])) it=none:=by rw [au (cH hit)];exact f0
  refine ⟨.ref s.heap.objs.size,rfl,wpAny_letOwnedTupleGo_items heo fun h2 he2 hs2=>?_⟩
  refine ⟨.ref s.heap.objs.size,_,I1.turned (t':=s.toks) (fun b ob hb q=>(hs2.2 b hb).trans q) n1 f1 f3 f4 f5,rfl,⟨p,_,hp,nt,rfl,rfl⟩,⟨key,v,by rw [<- hl] at he2;exact he2⟩,fun b hb=>?_⟩
  have eb:b=it:=by simpa using hb
  subst eb
  exact n1
 done:=by
  walk_at "h"
  subst hP hw hK
  obtain ⟨e,hi⟩:=hg
  obtain ⟨vs,rel,dm⟩:=Za I.hok e hd
  have hl:=rel.length
  k_dat it "i"
  obtain ⟨ok,ov,st⟩:=st
  exact wpAny_pyNext_items_end (knd:=dg X.prog X.w) (I.ok.hd hc) (by rw [<- hl];exact st) dm (by rw [Vh];lia) fun h' eb=>⟨rfl,I.turned (t':=s.toks) (fun b o hb e=>eb b o hb e) f0 f1 f3 f4 f5⟩
 self:=fun A i s Q E st h=>by
  obtain ⟨ok,ov,e⟩:=st
  exact uY e h
section
variable {X:Cx} {tg:Expr}
noncomputable abbrev Warm (X:Cx) (a:Addr):Prop:=∀ q u,X.H₀ a≠some (.frz q u)
theorem Inv.warm {pins:List (Addr × Obj)} {σ:St} {H:Hp} {s:Shared} {a:Addr} {kvs:List (Key × V)} (I:Inv X pins σ H s) (e:H a=some (.dK kvs)):Warm X a:=fun q u z=>by
 have:=I.base.uX a q u z
 rw [e] at this;cases this
noncomputable def afQ (X:Cx) (td:TE):TI:=fun σ H R=>td σ H fun x H1=>∃ a kvs,x = .ref a/\H1 a=some (.dK kvs)/\∀ o,Warm X a->R (Iti a o kvs) (upd H1 a (.frz o (.dK kvs)))
structure MI (X:Cx) (o:Expr) (m:Str) (apos cpos:Pos):Prop where
 base:yC o m X.env (eval o X.env)=eval o X.env
 line:(apos.endLine == cpos.line)=true
theorem afR {l:Expr} {td:TE} {elts:List Expr} {x1} {tpos apos cpos:Pos} (hl:PE X l td) (m:MI X l "items" apos cpos):PI X (.Tuple elts x1 tpos) (.Call (.Attribute l "items" apos) [] [] cpos) (afQ X td):=by
 intro pins s σ H R I h
 refine Uw (T := "dict") (id := "dict.items") m.base rfl m.line Wa aee PySem.F.type_dict_items (thn (hl pins s σ H _ I h) fun v s1 ⟨x,H1,I1,r1,q1⟩=>?_)
 obtain ⟨a,kvs,rfl,e,q⟩:=q1
 obtain rfl:v=Value.ref a:=r1
 obtain ⟨t1,t2,hS⟩:=Y7 I1 (.inl ⟨kvs,.inl e⟩)
 refine ⟨t1,t2,?_⟩
 obtain ⟨o,es,ep,hd,ho,If⟩:=I1.freeze e
 obtain ⟨vs,rel,dm⟩:=Za If.hok ao hd
 have hl':=rel.length
 refine acR aee PySem.F.entry_dict_items rfl (acI ⟨rfl,t1,PySem.F.args_dict_items_1 _,_,meets_dict_items (dg X.prog X.w) a hS,⟨vs,dm.dictOf⟩,?_⟩)
 refine wpAny_pyIter_items (knd:=dg X.prog X.w) (d:=a) ⟨_,eO _ rfl,rfl,rfl⟩ (dm.push _) ?_
 have I2:=If.kept (h':=s1.heap.push { cls:=.type "dict_items",data:=.fields #[.ref a] }) (t':=s1.toks) fun b ob e=>dN _ e
 refine ⟨(s1.heap.push { cls:=.type "dict_items",data:=.fields #[.ref a] }).objs.size,[(s1.heap.push { cls:=.type "dict_items",data:=.fields #[.ref a] }).objs.size],_,_,_,rfl,I2.kept (t':=s1.toks) fun b ob e=>dN _ e,Zb a _ o kvs hd,
  ⟨.none,.none,by rw [hl'];exact eO _ rfl⟩,fun b hb=>?_,q o (I1.warm e)⟩
 have eb:b=(s1.heap.push { cls:=.type "dict_items",data:=.fields #[.ref a] }).objs.size:=by simpa using hb
 subst eb
 exact I2.abr (bV _) (I2.hok.fresh (bV _))
noncomputable def afS (X:Cx) (D:Ends):Ends where
 nx:=fun σ H=>∃ a kvs o,Warm X a/\H a=some (.frz o (.dK kvs))/\D.nx σ (upd H a (.dK kvs))
 rt:=fun v H=>∃ a kvs o,Warm X a/\H a=some (.frz o (.dK kvs))/\D.rt v (upd H a (.dK kvs))
theorem ahT {pins:List (Addr × Obj)} {D:Ends} {f:Flow} {s':Shared} (h:SP X pins (afS X D) f s'):SP X pins D f s':=by
 cases f with
 | next =>
  obtain ⟨σ',H',I,a,kvs,o,w,e,q⟩:=h
  exact ⟨σ',_,I.thaw e w,q⟩
 | brk =>
  obtain ⟨σ',H',I,q⟩:=h
  exact q.elim
 | cont =>
  obtain ⟨σ',H',I,q⟩:=h
  exact q.elim
 | ret u =>
  obtain ⟨v,σ',H',I,r,a,kvs,o,w,e,q⟩:=h
  exact ⟨v,σ',_,I.thaw e w,r,q⟩
noncomputable def tForI (X:Cx) (td:TE) (g:TG) (tb:TS):TS:=fun D σ H=>tFor (afQ X td) g tb (afS X D) σ H
theorem aaE {l:Expr} {td:TE} {body:List Stmt} {elts:List Expr} {x1} {tpos apos cpos:Pos} {g:TG} {tb:TS} {pos:Pos} (hp:Vb (model X.prog X.w) X.A X.env X.xe) (hc:X.calm=true) (hl:PE X l td) (m:MI X l "items" apos cpos)
  (hg:PG X (.Tuple elts x1 tpos) g) (hb:PSs X body tb)
  (hs:∀ x,Gx (.Call (.Attribute l "items" apos) [] [] cpos) X.env x=pure x:=by intro _;rfl):PS X (.For (.Tuple elts x1 tpos) (.Call (.Attribute l "items" apos) [] [] cpos) body [] pos) (tForI X td g tb) :=
 fun pins s σ H D I h=>thn (zB hp hc (afR hl m) hg hb hs pins s σ H (afS X D) I h) fun _ _ q=>ahT q
theorem Ml {a:Addr} {o:Obj} {kvs:List (Key × V)} {g:TG} {tb:TS} {D:Ends} {σ:St} {H:Hp} (Pv:Nat->St->Hp->Prop) (h0:Pv 0 σ H) (hl:∀ i σ H,Pv i σ H->H a=some (.frz o (.dK kvs)))
  (hs:∀ i p t σ H,kvs[i]? = some p->Pv i σ H->H t=none->g (.ref t) σ (upd H t (.tup [kV p.1,p.2])) fun σ2 H2=>tb { D with nx:=Pv (i+1),ct:=Pv (i+1),bk:=D.nx } σ2 H2) (hd:∀ σ H,Pv kvs.length σ H->D.nx σ H) :
  ∃ W:Nat->Nat->St->Hp->Prop,(∃ m,W 0 m σ H)/\∀ i m σ H,W i m σ H ->
   ((Iti a o kvs).stop i H/\D.nx σ H)\/((Iti a o kvs).go i H/\∃ N:St->Hp->Prop,(∀ σ' H',N σ' H'->∃ m',m'<m/\W (i+1) m' σ' H')/\∀ x H',(Iti a o kvs).yld i H x H'->g x σ H' fun σ2 H2=>tb { D with nx:=N,ct:=N,bk:=D.nx } σ2 H2):=by
 refine ⟨fun i m σ H=>m=kvs.length-i/\i<=kvs.length/\Pv i σ H,⟨kvs.length,by simp,cY _,h0⟩,?_⟩
 rintro i m σ H ⟨rfl,hi,p⟩
 have q:=hl i σ H p
 by_cases hlt:i<kvs.length
 ·refine .inr ⟨⟨q,hlt⟩,Pv (i+1),fun σ' H' p'=>⟨kvs.length-(i+1),by lia,rfl,hlt,p'⟩,fun x H' y=>?_⟩
  obtain ⟨pr,t,hp,ht,ex,e⟩:=y
  subst e ex
  exact hs i pr t σ H hp p ht
 ·have e:i=kvs.length:=by lia
  subst e
  exact .inl ⟨⟨q,bV _⟩,hd σ H p⟩
end
section
variable {X:Cx} {l:Expr} {td:TE} {p kp cpos apos pos:Pos} {j:Nat} {bpos:Pos}
noncomputable def ahU (td:TE):TE:=fun σ H Q=>td σ H fun x H1=>∃ a kvs ns,x = .ref a/\Rd H1 a (.dK kvs)/\kvs.map (·.2)=ns.map V.int/\ns.length<64 /\
 ∀ (l:Addr) (ns':List Int),H1 l=none->ns'.Perm ns->ns'.Pairwise (· >= ·)->Q (.ref l) (upd H1 l (.lst (ns'.map V.int)))
theorem Jd {A:bA} {E:Value->Shared->Prop} {s:Shared} {T:String} {r d:Addr} {n:Nat} {P:Nat->Value->Prop} {OK:Heap->Prop} {ns:List Int} {bb:Bool} {Q:Value->Shared->Prop}
  (K:adR X.prog X.w T r d n P OK) (hh:A.handled=none) (hok:OK s.heap) (hn:n<=sizeLine) (h64:n<64) (hP:∀ us:List Value,us.length=n->(∀ (j:Nat) (v:Value),us[j]? = some v->P j v)->IntsAre us ns)
  (h:∀ (h':Heap) (tk:Nat) (l:Addr) (out:Array Value) (ns':List Int) (e:Nat),(∀ b ob,s.heap.get? b=some ob->h'.get? b=some ob)->(∀ b ob,s.heap.get? b=some ob->b≠l)->h'.get? l=some (dw "list" out e) ->
   IntsAre out.toList ns'->ns'.Perm ns->Ordered bb ns'->Q (.ref l) { s with heap:=h',toks:=tk }) :
  wpAny (model X.prog X.w) A (call (.builtin "sorted") [.ref r] [(vK "reverse",.bool bb)]) Q E s:=by
 refine call_function_entry_kw Pn Pj Pk (args_sorted_rev _ _) ?_
 unfold dW.«sorted»
 refine aG (m:=N5 "sorted" 1 1 _) (bC ?_)
 refine aG (adI (A:=A.in1) K hh hok hn fun h1 tk acc hk hacc=>?_)
 have hl:acc.toList.length=n:=by rw [fW];exact hacc.1
 have hI:=hP acc.toList hl fun j v e=>hacc.2 j v (by rw [<- iU];exact e)
 refine aG (GC ?_ (by rw [hl];exact hn))
 have hoL:(h1.push (dw "list" acc.toList.toArray 0)).get? h1.objs.size=some (dw "list" acc.toList.toArray 0):=eO _ rfl
 refine aG (jJ (wpAny_call_entry_kw Pb ⟨_,hoL,rfl⟩ Pa (list_sort_tree_rev hoL hI (by rw [hl];exact h64) fun out ns' a1 a2 a3=>⟨_,rfl,?_⟩) (args_list_sort_rev _ _)))
 refine bC ⟨_,rfl,?_⟩
 obtain ⟨e,he⟩:=Wg (vs:=acc.toList) (out:=out) hoL
 have hb:∀ b ob,s.heap.get? b=some ob->b<h1.objs.size:=fun b ob e'=>bQ (hk b ob e')
 refine h _ tk _ out ns' e (fun b ob e'=>?_) (fun b ob e'=>cH (hb b ob e')) he a1 a2 a3
 have hlt:=hb b ob e'
 rw [Wc (cH hlt) (by rw [HS];exact uF hlt)]
 exact dN _ (hk b ob e')
theorem abE (hm0:X.mg "sorted" = none) (hl:PE X l td) (m:MI X l "values" apos cpos) (hc:X.calm=true) (hg:Gl X "sorted" := by rfl) :
  PE X (.Call (.Name "sorted" p) [.Call (.Attribute l "values" apos) [] [] cpos] [⟨some "reverse",.Constant (.bool true) j bpos,kp⟩] pos) (ahU td):=by
 walk_at "l"
 refine Aa (oM I hg hm0 boot_sorted ?_)
 refine Wm (zm (Uw (T := "dict") (id := "dict.values") m.base rfl m.line Wa aec PySem.F.type_dict_values (thn (hl pins s σ H _ I h) fun v s1 ⟨x,H1,I1,r1,q1⟩=>?_)))
 obtain ⟨a,kvs,ns,rfl,e,ei,h64,q⟩:=q1
 obtain rfl:v=Value.ref a:=r1
 obtain ⟨t1,t2,hS⟩:=Y7 I1 (.inl ⟨kvs,e⟩)
 refine ⟨t1,t2,?_⟩
 obtain ⟨z,_,vs,rel,dd⟩:=vO I1.hok e
 obtain ⟨ep,dm⟩:=dd.dictAt
 have hlen:=rel.length
 have hns:ns.length=kvs.length:=by have:=congrArg nF ei;simpa using this.symm
 refine acR aec PySem.F.entry_dict_values rfl (acI ⟨rfl,t1,PySem.F.args_dict_values_1 _,_,meets_dict_values (dg X.prog X.w) a hS,⟨vs,dd⟩,?_⟩)
 refine Dq (Ws ?_)
 refine aes (kws_nil ?_)
 show wpAny _ _ (call (.builtin "sorted") [.ref s1.heap.objs.size] [(vK "reverse",.bool true)]) _ _ _
 have I2:=I1.kept (h':=s1.heap.push { cls:=.type "dict_values",data:=.fields #[.ref a] }) (t':=s1.toks) fun b ob e=>dN _ e
 refine Jd (X:=X) (ns:=ns) (bb:=true) (PySem.W.kdl_values (knd:=dg X.prog X.w) (kvs:=vs) (ep:=ep)) (I1.ok.hd hc) ⟨⟨_,eO _ rfl,rfl,rfl⟩,dm.push _⟩ (by rw [<- hlen];exact z) tb_g% (fun us hu hv=>?_) fun h' tk l' out ns' e' kp hne hl' hI hp ho=>?_
 ·have vv:=Mj rel hu hv
  rw [ei] at vv
  exact intsAre_of vv
 ·refine ⟨.ref l',_,I2.Ez (t':=tk) kp hne (show dh X.prog X.w _ h' l' (.lst (ns'.map V.int)) from ⟨?_,out.toList,e',lV hI,by simpa using hl'⟩),rfl,q l' ns' (I2.none_of hne) hp ho⟩
  rw [bG,hp.length_eq,hns];exact z
end
end L2
set_option autoImplicit false
namespace MG
noncomputable abbrev Tab:=List (Int × Int)
noncomputable def look (c:Tab) (k:Int):Option Int:=(c.find? fun p=>decide (p.1=k)).map (·.2)
noncomputable def low (c:Tab) (k:Int):Int:=(look c k).getD 0
noncomputable def put (c:Tab) (k v:Int):Tab :=
 if (c.any fun p=>decide (p.1=k))=true then c.map (fun p=>if p.1=k then (p.1,v) else p) else c++[(k,v)]
noncomputable def keys (c:Tab):List Int:=c.map (·.1)
noncomputable def vals (c:Tab):List Int:=c.map (·.2)
noncomputable def cZ (c:Tab) (cut:Int):Tab:=(c.filter fun p=>decide (cut<p.2)).map fun p=>(p.1,p.2-cut)
theorem afT (k:Int):look [] k=none:=rfl
theorem g8 (p:Int × Int) (r:Tab) (k:Int):look (p::r) k=if p.1=k then some p.2 else look r k:=by
 unfold look
 rw [yP]
 by_cases h:p.1=k
 ·rw [if_pos h];simp [h]
 ·rw [if_neg h];simp [h]
theorem FZ (k:Int):low [] k=0:=rfl
theorem vP (p:Int × Int) (r:Tab) (k:Int):low (p::r) k=if p.1=k then p.2 else low r k:=by
 unfold low
 rw [g8]
 by_cases h:p.1=k
 ·rw [if_pos h,if_pos h];rfl
 ·rw [if_neg h,if_neg h]
theorem aaF (c:Tab) (k:Int):(c.any fun p=>decide (p.1=k))=true↔k∈keys c:=by
 unfold keys
 rw [List.any_eq_true]
 constructor
 ·rintro ⟨p,h1,h2⟩
  exact jW.mpr ⟨p,h1,of_decide_eq_true h2⟩
 ·intro h
  obtain ⟨p,h1,h2⟩:=jW.mp h
  exact ⟨p,h1,decide_eq_true h2⟩
theorem qY (c:Tab) (k:Int):look c k=none↔k∉keys c:=by
 induction c with
 | nil=>simp [afT,keys]
 | cons p r ih =>
  rw [g8]
  by_cases h:p.1=k
  ·rw [if_pos h];simp [keys,h]
  ·rw [if_neg h,ih];simp [keys];intro _ e;exact h e.symm
theorem oO {c:Tab} {k:Int} (h:k∉keys c):low c k=0:=by
 unfold low;rw [(qY c k).mpr h];rfl
theorem afU {c:Tab} {k v:Int} (h:look c k=some v):(k,v)∈c:=by
 induction c with
 | nil=>cases h
 | cons p r ih =>
  rw [g8] at h
  by_cases e:p.1=k
  ·rw [if_pos e] at h
   cases h
   rw [<- e];exact cX
  ·rw [if_neg e] at h;exact gF _ (ih h)
theorem vQ {c:Tab} (hn:(keys c).Nodup) {p:Int × Int} (h:p∈c):look c p.1=some p.2:=by
 induction c with
 | nil=>cases h
 | cons q r ih =>
  rw [g8]
  have hn':(q.1::keys r).Nodup:=hn
  rw [lF] at hn'
  rcases bN.mp h with e | e
  ·subst e;rw [if_pos rfl]
  ·have:p.1∈keys r:=jW.mpr ⟨p,e,rfl⟩
   rw [if_neg (fun (z:q.1=p.1)=>hn'.1 (z ▸ this))]
   exact ih hn'.2 e
theorem tK {c:Tab} (h:∀ p∈c,1<=p.2) (k:Int):0<=low c k:=by
 unfold low
 cases e:look c k with
 | none=>exact eE 0
 | some v=>have:=h _ (afU e);simp at this ⊢; lia
theorem abF (c:Tab) (k v:Int):keys (c.map fun p=>if p.1=k then (p.1,v) else p)=keys c:=by
 unfold keys
 rw [pO]
 apply Ho
 intro p _
 show (if p.1=k then (p.1,v) else p).1=p.1
 split <;> rfl
theorem Qt {c:Tab} {k v:Int} (h:k∈keys c):put c k v=c.map fun p=>if p.1=k then (p.1,v) else p:=by
 unfold put;rw [if_pos ((aaF c k).mpr h)]
theorem Bd {c:Tab} {k v:Int} (h:k∉keys c):put c k v=c++[(k,v)]:=by
 unfold put;rw [if_neg (fun z=>h ((aaF c k).mp z))]
theorem afV (c:Tab) (k v:Int):keys (put c k v)=if k∈keys c then keys c else keys c++[k]:=by
 by_cases h:k∈keys c
 ·rw [if_pos h,Qt h,abF]
 ·rw [if_neg h,Bd h];simp [keys]
theorem Qu {c:Tab} (hn:(keys c).Nodup) (k v:Int):(keys (put c k v)).Nodup:=by
 rw [afV]
 by_cases h:k∈keys c
 ·rw [if_pos h];exact hn
 ·rw [if_neg h,Ol]
  refine ⟨hn,by simp,?_⟩
  intro a ha b hb e
  rw [eZ] at hb
  exact h (by rw [<- hb,<- e];exact ha)
theorem Qv (c:Tab) (k v:Int):(put c k v).length<=c.length+1:=by
 unfold put
 split
 ·rw [bG];lia
 ·rw [dH];simp
theorem abG (c:Tab) (k v j:Int):look (c.map fun p=>if p.1=k then (p.1,v) else p) j=(look c j).map fun x=>if j=k then v else x:=by
 induction c with
 | nil=>rfl
 | cons p r ih =>
  rw [gB,g8,g8,ih]
  by_cases h:p.1=k
  ·rw [if_pos h]
   by_cases e:p.1=j
   ·rw [if_pos e,if_pos e,aeT,if_pos (e.symm.trans h)]
   ·rw [if_neg e,if_neg e]
  ·rw [if_neg h]
   by_cases e:p.1=j
   ·rw [if_pos e,if_pos e,aeT,if_neg (fun z=>h (e.trans z))]
   ·rw [if_neg e,if_neg e]
theorem abH (c:Tab) (k v j:Int) (h:k∉keys c):look (c++[(k,v)]) j=if j=k then some v else look c j:=by
 induction c with
 | nil =>
  rw [CZ,g8]
  by_cases e:k=j
  ·rw [if_pos e,if_pos e.symm]
  ·rw [if_neg e,if_neg (fun z=>e z.symm)]
 | cons p r ih =>
  have hk:¬ p.1=k:=fun z=>h (by simp [keys,z])
  have hr:k∉keys r:=fun z=>h (gF _ z)
  rw [List.cons_append,g8,g8,ih hr]
  by_cases e:p.1=j
  ·rw [if_pos e,if_pos e,if_neg (fun z=>hk (e.trans z))]
  ·rw [if_neg e,if_neg e]
theorem afW (c:Tab) (k v j:Int):look (put c k v) j=if j=k then some v else look c j:=by
 by_cases h:k∈keys c
 ·rw [Qt h,abG]
  by_cases e:j=k
  ·subst e
   cases q:look c j with
   | none=>exact absurd h ((qY c j).mp q)
   | some x=>simp
  ·simp only [if_neg e]
   cases look c j <;> rfl
 ·rw [Bd h,abH c k v j h]
theorem Qw (c:Tab) (k v j:Int):low (put c k v) j=if j=k then v else low c j:=by
 unfold low
 rw [afW]
 split <;> rfl
theorem Qx {c:Tab} (h:∀ p∈c,1<=p.2) {k v:Int} (hv:1<=v):∀ p∈put c k v,1<=p.2:=by
 intro p hp
 unfold put at hp
 split at hp
 ·obtain ⟨q,hq,e⟩:=jW.mp hp
  by_cases z:q.1=k
  ·rw [if_pos z] at e;subst e;exact hv
  ·rw [if_neg z] at e;subst e;exact h q hq
 ·rcases d9.mp hp with z | z
  ·exact h p z
  ·rw [eZ] at z;subst z;exact hv
theorem afX {c:Tab} (hn:(keys c).Nodup) {k v:Int} (h:k∈keys c):(vals (c.map fun p=>if p.1=k then (p.1,v) else p)).sum=(vals c).sum-low c k+v:=by
 induction c with
 | nil=>cases h
 | cons p r ih =>
  have hn':(p.1::keys r).Nodup:=hn
  rw [lF] at hn'
  rw [vP]
  by_cases e:p.1=k
  ·have hr:k∉keys r:=e ▸ hn'.1
   have id_r:(r.map fun p=>if p.1=k then (p.1,v) else p)=r:=by
    have:∀ q∈r,(if q.1=k then (q.1,v) else q)=q:=fun q hq=>if_neg (fun (z:q.1=k)=>hr (z ▸ jW.mpr ⟨q,hq,rfl⟩))
    exact (Ho this).trans (adF r)
   rw [gB,if_pos e,if_pos e,id_r]
   simp only [vals,gB,oA];lia
  ·have hr:k∈keys r:=by
    rcases bN.mp h with z | z
    ·exact absurd z.symm e
    ·exact z
   rw [gB,if_neg e,if_neg e]
   have:=ih hn'.2 hr
   simp only [vals,gB,oA] at this ⊢; lia
theorem aaG {c:Tab} (hn:(keys c).Nodup) (k w:Int):(vals (put c k (low c k+w))).sum=(vals c).sum+w:=by
 by_cases h:k∈keys c
 ·rw [Qt h,afX hn h];lia
 ·rw [Bd h,oO h]
  simp only [vals,eG,gB,Ou,ady,oA,List.sum_nil];lia
theorem Qy {c:Tab} {cut k:Int} (h:k∈keys (cZ c cut)):k∈keys c:=by
 unfold keys cZ at h
 rw [pO] at h
 obtain ⟨p,hp,e⟩:=jW.mp h
 exact jW.mpr ⟨p,(vB.mp hp).1,e⟩
theorem afY (c:Tab) (cut:Int):keys (cZ c cut)=keys (c.filter fun p=>decide (cut<p.2)):=by
 unfold keys cZ;rw [pO];rfl
theorem alz {c:Tab} (hn:(keys c).Nodup) (cut:Int):(keys (cZ c cut)).Nodup:=by
 rw [afY]
 exact ae8 (afg _ List.filter_sublist) hn
theorem ahV (c:Tab) (cut:Int):∀ p∈cZ c cut,1<=p.2:=by
 intro p hp
 unfold cZ at hp
 obtain ⟨q,hq,e⟩:=jW.mp hp
 have:=of_decide_eq_true (vB.mp hq).2
 subst e
 show 1<=q.2-cut
 lia
theorem ahW (c:Tab) (cut:Int):(cZ c cut).length<=c.length:=by
 unfold cZ;rw [bG];exact vo _ _
theorem afZ {c:Tab} (h:∀ p∈c,1<=p.2):cZ c 0=c:=by
 unfold cZ
 rw [Vo.mpr (fun p hp=>decide_eq_true (by have:=h p hp;lia))]
 have:∀ p∈c,(p.1,p.2-0)=p:=fun p _=>by rw [Int.sub_zero]
 exact (Ho this).trans (adF c)
theorem aaH {c:Tab} (hn:(keys c).Nodup) {cut:Int} (hc:0<=cut) (hp:∀ p∈c,0<=p.2) (k:Int):low (cZ c cut) k=if low c k-cut<=0 then 0 else low c k-cut:=by
 induction c with
 | nil=>rw [show cZ [] cut=[] from rfl,FZ];split <;> lia
 | cons p r ih =>
  have hn':(p.1::keys r).Nodup:=hn
  rw [lF] at hn'
  have ih':=ih hn'.2 (fun q hq=>hp q (gF _ hq))
  by_cases h:cut<p.2
  ·have e:cZ (p::r) cut=(p.1,p.2-cut)::cZ r cut:=by
    unfold cZ;rw [vq,if_pos (decide_eq_true h)];rfl
   rw [e,vP,vP,ih']
   by_cases z:p.1=k
   ·rw [if_pos z,if_pos z,if_neg tb_g%]
   ·rw [if_neg z,if_neg z]
  ·have e:cZ (p::r) cut=cZ r cut:=by
    unfold cZ;rw [vq,if_neg (by simp;lia)]
   rw [e,vP,ih']
   by_cases z:p.1=k
   ·rw [if_pos z,if_pos (show p.2-cut<=0 by lia)]
    have:low r k=0:=oO (z ▸ hn'.1)
    rw [this];split <;> lia
   ·rw [if_neg z]
theorem uJ:∀ {d:List Int} {room:Nat} {c:Int},d.Pairwise (· >= ·)->d[room]? = some c->(d.filter fun v=>decide (c<v)).length<=room
 | [],_,_,_,h=>by cases h
 | x::r,0,c,hp,h=>by
  have e:x=c:=by simpa using h
  subst e
  have:((x::r).filter fun v=>decide (x<v))=[]:=by
   rw [Oj]
   intro v hv
   rcases bN.mp hv with z | z
   ·subst z;simp
   ·have:=(iH.mp hp).1 v z
    simp;lia
  rw [this];exact bV _
 | x::r,n+1,c,hp,h=>by
  have ih:=uJ (d:=r) (room:=n) (c:=c) (iH.mp hp).2 (by simpa using h)
  rw [vq]
  split
  ·simp only [iI];lia
  ·lia
noncomputable def above (c:Int) (l:List Int):Int:=((l.filter fun v=>decide (c<v)).map fun v=>v-c).sum
theorem zH (c x:Int) (r:List Int):above c (x::r)=(if c<x then x-c else 0)+above c r:=by
 unfold above
 rw [vq]
 by_cases h:c<x
 ·rw [if_pos (decide_eq_true h),if_pos h];rfl
 ·rw [if_neg (by simp;lia),if_neg h];lia
theorem Mp {c:Int}:∀ {l:List Int},(∀ v∈l,v<=c)->above c l=0
 | [],_=>rfl
 | x::r,h=>by
  rw [zH,Mp (l:=r) fun v hv=>h v (gF _ hv)]
  have:=h x cX
  rw [if_neg tb_g%];rfl
theorem Je:∀ {l:List Int},(∀ v∈l,0<=v)->0<=l.sum
 | [],_=>eE 0
 | x::r,h=>by
  have:=Je (l:=r) fun v hv=>h v (gF _ hv)
  have:=h x cX
  rw [oA];lia
theorem Jf:∀ {d:List Int} {room:Nat} {c:Int},d.Pairwise (· >= ·)->d[room]? = some c->(∀ v∈d,0<=v) ->
  above c d+((room:Int)+1)*c<=d.sum/\(d.length=room+1->above c d+((room:Int)+1)*c=d.sum)
 | [],_,_,_,h,_=>by cases h
 | x::r,0,c,hp,h,h0=>by
  have e:x=c:=by simpa using h
  subst e
  have hr:∀ v∈r,v<=x:=fun v hv=>(iH.mp hp).1 v hv
  have hs:=Je (l:=r) fun v hv=>h0 v (gF _ hv)
  rw [zH,if_neg tb_g%,Mp hr,oA]
  refine ⟨by simp;lia,fun hl=>?_⟩
  have:r=[]:=by
   have:r.length=0:=by simpa using hl
   exact Ac.mp this
  subst this;simp
 | x::r,n+1,c,hp,h,h0=>by
  have h':r[n]? = some c:=by simpa using h
  have ih:=Jf (d:=r) (room:=n) (c:=c) (iH.mp hp).2 h' fun v hv=>h0 v (gF _ hv)
  have hx:c<=x:=(iH.mp hp).1 c (List.mem_of_getElem? h')
  have hm:((n+1:Nat):Int)=(n:Int)+1:=by lia
  have e2:((((n+1:Nat):Int))+1)*c=((n:Int)+1)*c+c:=by rw [hm,Dm ((n:Int)+1) 1 c,aeK]
  rw [zH,oA,e2]
  have ex:(if c<x then x-c else 0)=x-c:=by split <;> lia
  rw [ex]
  refine ⟨by have:=ih.1;lia,fun hl=>?_⟩
  have:=ih.2 (by simpa using hl)
  lia
theorem Ss (c:Tab) (cut:Int):vals (cZ c cut)=(((vals c).filter fun v=>decide (cut<v)).map fun v=>v-cut):=by
 induction c with
 | nil=>rfl
 | cons p r ih =>
  have hv:vals (p::r)=p.2::vals r:=rfl
  rw [hv]
  by_cases h:cut<p.2
  ·have e:cZ (p::r) cut=(p.1,p.2-cut)::cZ r cut:=by
    unfold cZ;rw [vq,if_pos (decide_eq_true h)];rfl
   rw [e,vq,if_pos (decide_eq_true h),gB,<- ih];rfl
  ·have e:cZ (p::r) cut=cZ r cut:=by
    unfold cZ;rw [vq,if_neg (by simp;lia)]
   rw [e,vq,if_neg (by simp;lia),ih]
theorem ahX (c:Tab) (cut:Int):(vals (cZ c cut)).sum=above cut (vals c):=by rw [Ss];rfl
theorem Sv {l l':List Int} (h:l.Perm l'):l.sum=l'.sum:=by
 induction h with
 | nil=>rfl
 | cons x _ ih=>rw [oA,oA,ih]
 | swap x y l=>simp only [oA];lia
 | trans _ _ a b=>exact a.trans b
theorem Zc {c:Int} {l l':List Int} (h:l.Perm l'):above c l=above c l':=by
 unfold above;exact Sv ((h.filter _).map _)
structure IsCut (room:Nat) (c:Tab) (cut:Int):Prop where
 ex:∃ d:List Int,d.Perm (vals c)/\d.Pairwise (· >= ·)/\d[room]? = some cut
theorem IsCut.mem {room:Nat} {c:Tab} {cut:Int} (h:IsCut room c cut):cut∈vals c:=by
 obtain ⟨d,h1,_,h3⟩:=h
 exact h1.mem_iff.mp (List.mem_of_getElem? h3)
theorem IsCut.len {room:Nat} {c:Tab} {cut:Int} (h:IsCut room c cut):(cZ c cut).length<=room:=by
 obtain ⟨d,h1,h2,h3⟩:=h
 have e:(cZ c cut).length=((vals c).filter fun v=>decide (cut<v)).length:=by
  have:=congrArg nF (Ss c cut)
  rw [bG] at this
  rw [<- this];unfold vals;rw [bG]
 rw [e,<- (h1.filter _).length_eq]
 exact uJ h2 h3
theorem IsCut.sum {room:Nat} {c:Tab} {cut:Int} (h:IsCut room c cut) (h0:∀ p∈c,0<=p.2) :
  (vals (cZ c cut)).sum+((room:Int)+1)*cut<=(vals c).sum/\(c.length=room+1->(vals (cZ c cut)).sum+((room:Int)+1)*cut=(vals c).sum):=by
 obtain ⟨d,h1,h2,h3⟩:=h
 rw [ahX,<- Zc h1,<- Sv h1]
 have hd:∀ v∈d,0<=v:=fun v hv=>by
  obtain ⟨p,hp,e⟩:=jW.mp (h1.mem_iff.mp hv)
  rw [<- e];exact h0 p hp
 have:=Jf h2 h3 hd
 refine ⟨this.1,fun hl=>this.2 ?_⟩
 rw [h1.length_eq];unfold vals;rw [bG];exact hl
theorem Qz:∀ {l l':List Int},l.Perm l'->l.Pairwise (· >= ·)->l'.Pairwise (· >= ·)->l=l':=by
 intro l
 induction l with
 | nil=>intro l' h _ _;exact h.nil_eq
 | cons x r ih =>
  intro l' h hp hp'
  cases l' with
  | nil=>exact absurd h.symm (by simp)
  | cons y r' =>
   have hx:x∈y::r':=h.mem_iff.mp cX
   have hy:y∈x::r:=h.mem_iff.mpr cX
   have e:x=y:=by
    rcases bN.mp hx with z | z
    ·exact z
    ·rcases bN.mp hy with z' | z'
     ·exact z'.symm
     ·have a:=(iH.mp hp').1 x z
      have b:=(iH.mp hp).1 y z'
      lia
   subst e
   rw [ih h.cons_inv (iH.mp hp).2 (iH.mp hp').2]
theorem IsCut.uniq {room:Nat} {c:Tab} {x y:Int} (hx:IsCut room c x) (hy:IsCut room c y):x=y:=by
 obtain ⟨d,h1,h2,h3⟩:=hx
 obtain ⟨d',h1',h2',h3'⟩:=hy
 have e:=Qz (h1.trans h1'.symm) h2 h2'
 subst e
 rw [h3] at h3'
 exact cI h3'
noncomputable def gK (room:Nat) (c:Tab) (c':Tab) (cut:Int):Prop :=
 if c.length<=room then cut=0/\c'=c else IsCut room c cut/\c'=cZ c cut
theorem gK.uniq {room:Nat} {c a b:Tab} {x y:Int} (h:gK room c a x) (h':gK room c b y):a=b/\x=y:=by
 unfold gK at h h'
 by_cases e:c.length<=room
 ·rw [if_pos e] at h h'
  exact ⟨h.2.trans h'.2.symm,h.1.trans h'.1.symm⟩
 ·rw [if_neg e] at h h'
  have z:=h.1.uniq h'.1
  subst z
  exact ⟨h.2.trans h'.2.symm,rfl⟩
structure Ok (room:Nat) (c:Tab) (total lost:Int) (tw:Int->Int):Prop where
 nd:(keys c).Nodup
 pos:∀ p∈c,1<=p.2
 len:c.length<=room
 l0:0<=lost
 sum:(vals c).sum+((room:Int)+1)*lost<=total
 lo:∀ k,low c k<=tw k
 hi:∀ k,tw k<=low c k+lost
structure Pre (room:Nat) (c:Tab) (total lost:Int) (tw:Int->Int):Prop where
 nd:(keys c).Nodup
 pos:∀ p∈c,1<=p.2
 l0:0<=lost
 sum:(vals c).sum+((room:Int)+1)*lost<=total
 lo:∀ k,low c k<=tw k
 hi:∀ k,tw k<=low c k+lost
theorem gK.nn {room:Nat} {c c':Tab} {cut:Int} (f:gK room c c' cut) (hp:∀ p∈c,1<=p.2):0<=cut:=by
 unfold gK at f
 by_cases e:c.length<=room
 ·rw [if_pos e] at f;lia
 ·rw [if_neg e] at f
  obtain ⟨p,hp',e'⟩:=jW.mp f.1.mem
  have:=hp p hp'
  lia
theorem Pre.fit {room:Nat} {c c':Tab} {total lost cut:Int} {tw:Int->Int} (h:Pre room c total lost tw) (f:gK room c c' cut):Ok room c' total (lost+cut) tw:=by
 have hc:=f.nn h.pos
 unfold gK at f
 by_cases e:c.length<=room
 ·rw [if_pos e] at f
  obtain ⟨rfl,rfl⟩:=f
  refine ⟨h.nd,h.pos,e,by have:=h.l0;lia,by rw [pR];exact h.sum,h.lo,fun k=>by have:=h.hi k;lia⟩
 ·rw [if_neg e] at f
  obtain ⟨f,rfl⟩:=f
  have hs:=(f.sum fun p hp=>by have:=h.pos p hp;lia).1
  have h0:∀ p∈c,0<=p.2:=fun p hp=>by have:=h.pos p hp;lia
  refine ⟨alz h.nd _,ahV _ _,f.len,by have:=h.l0;lia,?_,fun k=>?_,fun k=>?_⟩
  ·rw [Ww];have:=h.sum;lia
  ·rw [aaH h.nd hc h0 k]
   have:=h.lo k;have:=tK h.pos k;split <;> lia
  ·rw [aaH h.nd hc h0 k]
   have:=h.hi k;split <;> lia
theorem Ok.pre {room:Nat} {c:Tab} {total lost:Int} {tw:Int->Int} (h:Ok room c total lost tw):Pre room c total lost tw:=⟨h.nd,h.pos,h.l0,h.sum,h.lo,h.hi⟩
theorem Ok.add {room:Nat} {c:Tab} {total lost k w:Int} {tw:Int->Int} (h:Ok room c total lost tw) (hw:1<=w) :
  Pre room (put c k (low c k+w)) (total+w) lost (fun j=>if j=k then tw j+w else tw j):=by
 refine ⟨Qu h.nd _ _,Qx h.pos (by have:=tK h.pos k;lia),h.l0,by rw [aaG h.nd];have:=h.sum;lia,fun j=>?_,fun j=>?_⟩
 ·rw [Qw]
  have:=h.lo j
  by_cases e:j=k
  ·subst e;rw [if_pos rfl,if_pos rfl];lia
  ·rw [if_neg e,if_neg e];exact this
 ·rw [Qw]
  have:=h.hi j
  by_cases e:j=k
  ·subst e;rw [if_pos rfl,if_pos rfl];lia
  ·rw [if_neg e,if_neg e];exact this
noncomputable def nM (c d:Tab):Tab:=d.foldl (fun acc p=>put acc p.1 (low acc p.1+p.2)) c
theorem Bf (c:Tab):nM c []=c:=rfl
theorem nZ (c:Tab) (p:Int × Int) (d:Tab):nM c (p::d)=nM (put c p.1 (low c p.1+p.2)) d:=rfl
theorem abI (c d:Tab) (p:Int × Int):nM c (d++[p])=put (nM c d) p.1 (low (nM c d) p.1+p.2):=by
 unfold nM;rw [adu];rfl
theorem QB:∀ (d:Tab) {c:Tab},(keys c).Nodup->(keys (nM c d)).Nodup
 | [],_,h=>h
 | p::d,c,h=>by rw [nZ];exact QB d (Qu h _ _)
theorem Jg:∀ (d:Tab) {c:Tab},(∀ p∈c,1<=p.2)->(∀ p∈d,1<=p.2)->∀ p∈nM c d,1<=p.2
 | [],_,h,_=>h
 | q::d,c,h,hd=>by
  rw [nZ]
  refine Jg d (Qx h ?_) fun p hp=>hd p (gF _ hp)
  have:=tK h q.1;have:=hd q cX;lia
theorem kJ:∀ (d c:Tab),(nM c d).length<=c.length+d.length
 | [],c=>by rw [Bf];simp
 | p::d,c=>by
  rw [nZ]
  have:=kJ d (put c p.1 (low c p.1+p.2));have:=Qv c p.1 (low c p.1+p.2)
  simp only [iI];lia
theorem Jh:∀ (d:Tab) (c:Tab) (k:Int),(keys d).Nodup->low (nM c d) k=low c k+low d k
 | [],c,k,_=>by rw [Bf,FZ];lia
 | p::d,c,k,h=>by
  have h':(p.1::keys d).Nodup:=h
  rw [lF] at h'
  rw [nZ,Jh d _ k h'.2,Qw,vP]
  by_cases e:k=p.1
  ·rw [if_pos e,if_pos e.symm,e,oO h'.1];lia
  ·rw [if_neg e,if_neg (fun z=>e z.symm)]
theorem Mq:∀ (d:Tab) {c:Tab},(keys c).Nodup->(vals (nM c d)).sum=(vals c).sum+(vals d).sum
 | [],c,_=>by rw [Bf];simp [vals]
 | p::d,c,h=>by
  rw [nZ,Mq d (Qu h _ _),aaG h]
  simp only [vals,gB,oA];lia
theorem Ok.Zd {room:Nat} {c d:Tab} {t l t' l':Int} {tw tw':Int->Int} (h:Ok room c t l tw) (h':Ok room d t' l' tw') :
  Pre room (nM c d) (t+t') (l+l') (fun k=>tw k+tw' k):=by
 refine ⟨QB d h.nd,Jg d h.pos h'.pos,by have:=h.l0;have:=h'.l0;lia,?_,fun k=>?_,fun k=>?_⟩
 ·rw [Mq d h.nd,Ww];have:=h.sum;have:=h'.sum;lia
 ·rw [Jh d c k h'.nd];have:=h.lo k;have:=h'.lo k;lia
 ·rw [Jh d c k h'.nd];have:=h.hi k;have:=h'.hi k;lia
theorem Ok.empty (room:Nat):Ok room [] 0 0 (fun _=>0) :=
 ⟨vC,(fun _ h=>by cases h),cY _,eE 0,by simp [vals],fun k=>by rw [FZ];exact eE 0,fun k=>by rw [FZ];exact eE 0⟩
end MG
set_option autoImplicit false
namespace MK
noncomputable def K4 (r:Int) (h:Nat):Prop:=∃ m:Int,r=m*2 ^ h/\m % 2=1
theorem jr (n:Nat):(0:Int)<2 ^ n:=Wx (by decide)
theorem K4.uniq {r:Int} {h k:Nat} (a:K4 r h) (b:K4 r k):h=k:=by
 have key:∀ {h k:Nat} {m n:Int},h<k->m*2 ^ h=n*2 ^ k->m % 2=1->False:=by
  intro h k m n hlt e hm
  obtain ⟨d,rfl⟩:∃ d,k=h+(d+1):=⟨k-h-1,by lia⟩
  rw [Wy,<- Dk,aeD] at e
  have e2:=Int.eq_of_mul_eq_mul_right (aeG (jr h)) e
  rw [vI,<- Dk] at e2
  lia
 obtain ⟨m,e1,h1⟩:=a
 obtain ⟨n,e2,h2⟩:=b
 rcases adX h k with l | l | l
 ·exact (key l (e1.symm.trans e2) h1).elim
 ·exact l
 ·exact (key l (e2.symm.trans e1) h2).elim
noncomputable def To (r x:Int) (i:Nat):Prop:=r=x*2 ^ i/\x≠0
theorem To.step {r x:Int} {i:Nat} (h:To r x i) (e:x % 2=0):To r (x / 2) (i+1):=by
 obtain ⟨h1,h2⟩:=h
 have hx:x=x / 2*2:=by lia
 refine ⟨?_,by lia⟩
 rw [h1,vI,aeH (2 ^ i) 2,<- Dk,<- hx]
theorem To.stop {r x:Int} {i:Nat} (h:To r x i) (e:¬ x % 2=0):K4 r i:=⟨x,h.1,by lia⟩
noncomputable def M:Int:=1152921504606846976
theorem ajj:(2:Int) ^ 60=1152921504606846976:=by decide
theorem K4.ne {r:Int} {h:Nat} (a:K4 r h):r≠0:=by
 obtain ⟨m,e,hm⟩:=a
 intro z
 rw [z] at e
 rcases Int.mul_eq_zero.mp e.symm with q | q
 ·lia
 ·exact absurd q (aeG (jr h))
theorem K4.lt {r:Int} {h:Nat} (a:K4 r h) (h0:0<=r) (h1:r<1152921504606846976):h<60:=by
 obtain ⟨m,e,hm⟩:=a
 rcases jk h 60 with q | q
 ·exact q
 ·obtain ⟨d,rfl⟩:∃ d,h=60+d:=⟨h-60,by lia⟩
  exfalso
  rw [Wy,ajj] at e
  have hd:=jr d
  rcases aeI m 0 with l | l
  ·have:m*(1152921504606846976*2 ^ d)<0:=aeB l tb_g%
   lia
  ·have h3:1*(1152921504606846976*1)<=m*(1152921504606846976*2 ^ d):=aeF tb_g% tb_g% tb_g% tb_g%
   lia
theorem To.lt {r x:Int} {i:Nat} (h:To r x i) (h0:0<r) (h1:r<1152921504606846976):i<60/\0<x/\x<=r:=by
 obtain ⟨e,hx⟩:=h
 have hp:=jr i
 have x0:0<x:=by
  rcases aeI x 0 with l | l
  ·have:x*2 ^ i<0:=aeB l hp
   lia
  ·lia
 refine ⟨?_,x0,?_⟩
 ·rcases jk i 60 with q | q
  ·exact q
  ·obtain ⟨d,rfl⟩:∃ d,i=60+d:=⟨i-60,by lia⟩
   exfalso
   rw [Wy,ajj] at e
   have hd:=jr d
   have h3:1*(1152921504606846976*1)<=x*(1152921504606846976*2 ^ d):=aeF tb_g% tb_g% tb_g% tb_g%
   lia
 ·have h3:x*1<=x*2 ^ i:=Int.mul_le_mul_of_nonneg_left tb_g% tb_g%
  lia
end MK
set_option autoImplicit true
namespace L2
open PySem MG
noncomputable def emb (c:Tab):List (Key × V):=c.map fun p=>((Sum.inl p.1:Key),V.int p.2)
theorem tL (c:Tab):(emb c).length=c.length:=bG _
theorem af0 (c:Tab):(emb c).map (·.2)=(vals c).map V.int:=by
 unfold emb vals;rw [pO,pO];rfl
theorem af2 (c:Tab):((emb c).map fun p=>kV p.1)=(keys c).map V.int:=by
 unfold emb keys;rw [pO,pO];rfl
theorem af3 {c:Tab} {i:Nat} {p:Key × V} (h:(emb c)[i]? = some p):∃ q,c[i]? = some q/\p=(Sum.inl q.1,V.int q.2):=by
 unfold emb at h
 rw [iR] at h
 cases e:c[i]? with
 | none=>rw [e] at h;cases h
 | some q=>rw [e] at h;exact ⟨q,rfl,(cI h).symm⟩
theorem Ga {a b:Int}:((Sum.inl a:Key)=Sum.inl b)↔a=b:=⟨fun h=>afk h,fun h=>by rw [h]⟩
theorem Sw (c:Tab) (k:Int):zG (emb c) (Sum.inl k:Key)=(look c k).map V.int:=by
 induction c with
 | nil=>rfl
 | cons p r ih =>
  have e:emb (p::r)=(Sum.inl p.1,V.int p.2)::emb r:=rfl
  rw [e,g8]
  by_cases h:p.1=k
  ·rw [Ax (p:=((Sum.inl p.1:Key),V.int p.2)) (Ga.mpr h),if_pos h];rfl
  ·rw [Ay (p:=((Sum.inl p.1:Key),V.int p.2)) (fun z=>h (Ga.mp z)),if_neg h,ih]
theorem aaI (c:Tab) (k:Int):(zG (emb c) (Sum.inl k:Key)).getD (.int 0) = .int (low c k):=by
 rw [Sw];unfold low
 cases look c k <;> rfl
theorem af4 {c:Tab} {k v:Int} (h:look c k=some v):zG (emb c) (Sum.inl k:Key)=some (.int v):=by rw [Sw,h];rfl
theorem ahY (c:Tab) (k:Int):((emb c).any fun kv=>decide (kv.1=(Sum.inl k:Key)))=c.any fun p=>decide (p.1=k):=by
 induction c with
 | nil=>rfl
 | cons p r ih =>
  have e:emb (p::r)=(Sum.inl p.1,V.int p.2)::emb r:=rfl
  rw [e,yQ,yQ,ih]
  congr 1
  by_cases h:p.1=k
  ·rw [decide_eq_true h,decide_eq_true (Ga.mpr h)]
  ·rw [decide_eq_false h,decide_eq_false (fun z=>h (Ga.mp z))]
theorem Ji (c:Tab) (k v:Int):putK (emb c) (Sum.inl k:Key) (.int v)=emb (put c k v):=by
 unfold putK put
 rw [ahY]
 by_cases h:(c.any fun p=>decide (p.1=k))=true
 ·rw [if_pos h,if_pos h]
  unfold emb
  rw [pO,pO]
  apply Ho
  intro p _
  by_cases e:p.1=k
  ·simp [e]
  ·simp [e]
 ·rw [if_neg h,if_neg h]
  unfold emb
  rw [eG];rfl
noncomputable def But (p:Addr) (H H':Hp):Prop:=∀ b o,H b=some o->b≠p->H' b=some o
theorem Same.but {H H':Hp} (h:Same H H') (p:Addr):But p H H':=fun b o e _=>h b o e
theorem But.trans {p:Addr} {H H1 H2:Hp} (a:But p H H1) (b:But p H1 H2):But p H H2:=fun c o h n=>b c o (a c o h n) n
theorem But.upd {p:Addr} {H:Hp} {o:HO}:But p H (upd H p o):=fun b u h n=>by rw [au n];exact h
theorem Same.new {H:Hp} {p:Addr} {o:HO} (h:H p=none):Same H (upd H p o):=fun b u e=>by rw [au (ak e h)];exact e
section
variable {K:aZ} {H:Hp} {Q:VK}
theorem rdF {a C dx:Addr} {fs:List (Str × V)} {f:Str} {v:V} (h:H a=some (.ins C dx fs)) (c:Cls K C) (n:cL K C f) (l:fs.lookup f=some v) (q:Q v H):rFld K f (.ref a) H Q:=⟨a,C,dx,fs,v,rfl,h,c,n,l,q⟩
theorem qC {a:Addr} {xs:List V} {i:Int} {v:V} (h:SqL K H a xs) (e:atI xs i=some v) (q:Q v H):KZ K (.ref a) (.int i) H Q:=.inl ⟨a,xs,i,v,rfl,rfl,h,e,q⟩
theorem lH {a:Addr} {xs:List V} {i:Int} {v:V} (h:SqT K H a xs) (e:atI xs i=some v) (q:Q v H):KZ K (.ref a) (.int i) H Q:=.inr (.inl ⟨a,xs,i,v,rfl,rfl,h,e,q⟩)
theorem rdIxD {a:Addr} {kvs:List (Key × V)} {i:Int} {v:V} (h:Rd H a (.dK kvs)) (e:zG kvs (Sum.inl i:Key)=some v) (q:Q v H):KZ K (.ref a) (.int i) H Q :=
 .inr (.inr ⟨a,v,rfl,.inl ⟨kvs,Sum.inl i,h,rfl,e.symm⟩,q⟩)
theorem kO {a:Addr} {xs:List V} (h:SqL K H a xs) (q:Q (.int xs.length) H):aaC K [.ref a] H Q:=.inl ⟨.ref a,xs.length,rfl,.inl ⟨xs,h,rfl⟩,q⟩
theorem alA {a:Addr} {kvs:List (Key × V)} (h:Rd H a (.dK kvs)) (q:Q (.int kvs.length) H):aaC K [.ref a] H Q:=.inr ⟨a,kvs,rfl,h,q⟩
theorem ajk {a:Addr} {kvs:List (Key × V)} {i:Int} (h:Rd H a (.dK kvs)):Qs H a (.int i) (zG kvs (Sum.inl i:Key)):=.inl ⟨kvs,Sum.inl i,h,rfl,rfl⟩
theorem Ze {a:Addr} {kvs:List (Key × V)} {i:Int} {v:V} {R:Hp->Prop} (h:H a=some (.dK kvs)) (hl:kvs.length<sizeLine) (q:R (upd H a (.dK (putK kvs (Sum.inl i) v)))):aji (.ref a) (.int i) v H R :=
 .inr ⟨a,_,rfl,.inl ⟨kvs,Sum.inl i,h,rfl,hl,rfl⟩,q⟩
theorem alB {a C D:Addr} {b:Bool} (t:zE K H (.ref a) (.ref C)) (e:oG K (.ref C) (.ref D)=some b) (q:Q (.bl b) H):rIsi K [.ref a,.ref D] H Q :=
 ⟨_,_,_,_,b,rfl,rfl,fun _ h=>h,t,e,q⟩
end
theorem Sy (K:aZ) (t:Value) (h:(t == t)=true):oG K t t=some true:=by unfold oG;rw [if_pos h]
theorem af5 {i j:Int} (h0:-(2 ^ 64)<i) (h1:i<2 ^ 64):afy i j:=.inl ⟨by lia,by lia⟩
theorem jh {i j:Int} (h0:-(2 ^ 64)<j) (h1:j<2 ^ 64):afy i j:=.inr ⟨by lia,by lia⟩
end L2
namespace L2
open PySem PySem.Spec PyProof.Rows
noncomputable def Jj (cells:List (Str × Addr)):List (Str × Addr)->Prop
 | []=>True
 | p::r=>cells.lookup p.1=some p.2/\Jj cells r
theorem Jj.of {cells:List (Str × Addr)}:∀ {cl:List (Str × Addr)} {y:Str} {c:Addr},Jj cells cl->cl.lookup y=some c->cells.lookup y=some c
 | [],_,_,_,h=>by cases h
 | p::r,y,c,hs,h=>by
  obtain ⟨n,a⟩:=p
  rw [Vv] at h
  by_cases e:y=n
  ·subst e
   rw [beq_self_eq_true] at h
   cases h
   exact hs.1
  ·rw [beq_eq_false_iff_ne.mpr e] at h
   exact Jj.of hs.2 h
@[reducible] noncomputable def dD (X:Cx) (N:List Str) (scope:Scope) (cl:List (Str × Addr)) (s:Shared) (H:Hp) (fp:List Addr) (C:Addr):Cx where
 prog:=X.prog
 w:=X.w
 K:=X.K
 mg:=X.mg
 base:=X.base
 A:=X.A
 N:=N
 s₀:=s
 H₀:=H
 env:=N8 scope cl C X.env
 outer:=X.stack
 stack:=X.stack
 ex:=fp
 fn:=fun _=>false
 calm:=X.calm
 pn:=[]
 xe:=fun _ _=>False
structure Bg (X:Cx) (N:List Str) (scope:Scope) (cl:List (Str × Addr)) (i j:Nat):Prop where
 ok:∃ y c,N[i]? = some y/\X.N[j]? = some y/\(X.env.kindOf y=some .cell\/X.env.kindOf y=some .free)/\((gw scope X.env).names.lookup y=some .cell\/(gw scope X.env).names.lookup y=some .free)/\cl.lookup y=some c
noncomputable def lW (σ:St) (x:Option V) (caps:List Nat):St:=x::caps.map fun j=>(σ[j]?).join
section
variable {X:Cx} {pins:List (Addr × Obj)} {σ:St} {H:Hp} {s:Shared}
theorem Inv.comp {N:List Str} {scope:Scope} {cl:List (Str × Addr)} {fp:List Addr} {caps:List Nat} {h4:Heap} {D C:Addr} {tk:Nat} (I:Inv X pins σ H s) (hkind:scope.kind = .function) (hsub:Jj X.env.cells cl)
  (hhas:∀ y,((gw scope X.env).names.lookup y=some .cell\/(gw scope X.env).names.lookup y=some .free)->∃ c,cl.lookup y=some c) (hf:∀ b∈fp,xq X pins H b) (hfo:∀ b∈fp,∃ o,s.heap.get? b=some o)
  (hlen:N.length=caps.length+1) (hcap:∀ (i:Nat) (j:Nat),caps[i]? = some j->Bg X N scope cl (i+1) j) (hD:s.heap.objs.size<=D) (hC:s.heap.objs.size<=C) (hDC:C≠D)
  (hk:∀ b o,s.heap.get? b=some o->h4.get? b=some o) (hlist:∃ n,h4.get? D=some { cls:=.type "list",data:=.seq #[] n }) (hns:∃ m,h4.Ns C m) :
  Inv (dD X N scope cl s H fp C) (X.pn++pins) (lW σ none caps) (upd H D (.lst [])) { s with heap:=h4,toks:=tk }:=by
 have hnD:H D=none:=I.hok.fresh hD
 have hnC:H C=none:=I.hok.fresh hC
 have lt:∀ b o,s.heap.get? b=some o->b≠D/\b≠C:=fun b o e=>⟨cH (f9 (bQ e) hD),cH (f9 (bQ e) hC)⟩
 have nst:∀ b,b≠X.env.locals->b∉X.fs->b∉frs X.stack:=fun b h1 h2 z=>by
  rcases bN.mp (I.zx b z) with e | e
  ·exact h1 e
  ·exact h2 e
 refine ⟨⟨I.ok.mod,hkind,I.ok.glob,I.ok.blt,hC,fun x y c h1 h2=>I.ok.inj x y c (hsub.of h1) (hsub.of h2),fun y hy=>hhas y hy,fun y c h=>(nomatch h),I.ok.hd,I.ok.frames,.inl rfl,fun b hb=>?_,I.bs,jL I.ok.bsz I.sz,fun b o e hb=>?_,fun b hb=>?_,I.stack,I.Al⟩,
  rfl,I.bare,Un.laid hk hD hnD,?_,fun y c e=>?_,?_,fun y c e=>?_,fun p hp=>?_,?_,?_⟩
 ·obtain ⟨o,e⟩:=hfo b hb
  exact ⟨(lt b o e).2,fun x c q=>(hf b hb).2.2.2.2.1 x c (hsub.of q)⟩
 ·rcases (hf b hb).2.2.2.1 with z | z
  ·exact I.ok.RV b o e z
  ·exact absurd (f9 (bQ e) I.ok.bsz) (O7.mpr z)
 ·exact nst b (hf b hb).2.1 (hf b hb).2.2.1
 ·obtain ⟨m,hm⟩:=hns
  obtain ⟨m0,_,hl⟩:=I.loc
  refine ⟨m,hm,fun i y v h1 h2 h3=>?_⟩
  cases i with
  | zero=>cases h2
  | succ i =>
   have h2':((caps.map fun j=>(σ[j]?).join)[i]?)=some (some v):=h2
   rw [iR] at h2'
   cases ec:caps[i]? with
   | none=>rw [ec] at h2';cases h2'
   | some j =>
    rw [ec] at h2'
    have QC:(σ[j]?).join=some v:=cI h2'
    have e2:σ[j]? = some (some v):=by
     cases q:σ[j]? with
     | none=>rw [q] at QC;cases QC
     | some z=>rw [q] at QC;exact congrArg some QC
    obtain ⟨y',c,n1,n2,k1,k2,lc⟩:=(hcap i j ec).ok
    have ey:y=y':=by
     have h1':N[i+1]? = some y:=h1
     rw [n1] at h1';exact (cI h1').symm
    subst ey
    have vis:Vis X.env.scope y:=k1.elim (fun z=>.inr (.inl z)) fun z=>.inr (.inr z)
    obtain ⟨u,ru,lk⟩:=hl j y v n2 e2 vis
    refine ⟨u,ru,.inr ⟨k2,c,lc,?_⟩⟩
    rcases lk with ⟨z,_⟩ | ⟨_,c',lc',ic⟩
    ·rcases k1 with k1 | k1 <;> (rw [z] at k1;cases k1)
    ·rw [hsub.of lc] at lc'
     cases lc'
     obtain ⟨o,ho,hd⟩:=ic
     exact ⟨o,hk c o ho,hd⟩
 ·obtain ⟨v,o,ho,hd⟩:=I.cell y c (hsub.of e)
  exact ⟨v,o,hk c o ho,hd⟩
 ·show (upd H D (.lst [])) C=none
  rw [au hDC];exact hnC
 ·have n:=I.nH y c (hsub.of e)
  obtain ⟨v,o,ho,hd⟩:=I.cell y c (hsub.of e)
  rw [au (lt c o ho).1];exact n
 ·have hp':p∈X.pn++pins:=hp
  obtain ⟨e,n,ne,nf,d⟩:=I.pin p hp'
  exact ⟨hk _ _ e,by rw [au (lt _ _ e).1];exact n,(lt _ _ e).2,nst _ ne nf,d⟩
 ·obtain ⟨n,e⟩:=hlist
  exact I.hok.laid hk hD ⟨cY _,[],n,.nil,e⟩
 ·show (lW σ none caps).length=N.length
  unfold lW
  rw [iI,bG,hlen]
theorem Inv.Zf {N:List Str} {scope:Scope} {cl:List (Str × Addr)} {fp:List Addr} {C:Addr} {aas:List (Addr × Obj)} {σ':St} {H':Hp} {s':Shared} {h':Heap} (I:Inv X pins σ H s) (hf:∀ b∈fp,xq X pins H b) (hC:s.heap.objs.size<=C)
  (I':Inv (dD X N scope cl s H fp C) aas σ' H' s') (hs:vG C s'.heap h'):Inv X pins σ H' { s' with heap:=h' }:=by
 obtain ⟨hp,g,d,t,os⟩:=s'
 have eo:os=s.os:=I'.os
 subst eo
 have ne:∀ b o,s.heap.get? b=some o->b≠C:=fun b o e=>cH (f9 (bQ e) hC)
 have hn:H' C=none:=I'.free
 have B:Un (frs X.stack) fp H H' s.heap hp:=I'.base
 have kp:∀ b o,b≠C->hp.get? b=some o->h'.get? b=some o:=fun b o hb e=>(hs.2 b hb).trans e
 suffices r:Inv X pins σ H' { s with heap:=h',gens:=g,drawn:=d,toks:=t } from r
 refine I.call (h':=h') (g':=g) (d':=d) (t':=t) (ch:=fp) ⟨fun b o e n h1 h2=>kp b o (ne b o e) (B.keep b o e n h1 h2),fun b o e n h1 h2=>?_,B.free,fun b o e h2=>?_,B.tups,B.uX,B.zq⟩ (fun b u e=>?_) I'.bare fun b hb=>?_
 ·obtain ⟨sl,q⟩:=B.slot b o e n h1 h2
  exact ⟨sl,kp b _ (ne b o e) q⟩
 ·obtain ⟨o',q⟩:=B.there b o e h2
  exact ⟨o',kp b _ (ne b o e) q⟩
 ·have nb:∀ c v,H' c=some v->c≠C:=fun c v q z=>by rw [z,hn] at q;cases q
  refine (I'.hok b u e).stay (fun c v hc q=>kp c v ?_ q) (fun _ q=>q) fun _ _ q=>q
  rcases hc with z | z
  ·rw [z];exact nb b u e
  ·exact nb c _ z
 ·obtain ⟨f0,f1,f2,f3,f4,f5⟩:=hf b hb
  exact ⟨f3,f1,f4,f5⟩
end
noncomputable def Bh (J:It) (caps:List Nat) (tt:TT) (te:TE) (σ:St) (D:Addr) (Q:VK) (H1:Hp):Prop:=∃ W:Nat->Nat->List V->Hp->Prop,(∃ m,W 0 m [] (upd H1 D (.lst [])))/\∀ i m ys H,W i m ys H ->
 H D=some (.lst ys)/\((J.stop i H/\Q (.ref D) H)\/(J.go i H/\ys.length<sizeLine/\∀ x H',J.yld i H x H'->tt (lW σ (some x) caps) H' fun b H2=>if b=true then
  te (lW σ (some x) caps) H2 fun y H3=>H3 D=some (.lst ys)/\∃ m',m'<m/\W (i+1) m' (ys++[y]) (upd H3 D (.lst (ys++[y])))
  else H2 D=some (.lst ys)/\∃ m',m'<m/\W (i+1) m' ys H2))
noncomputable def ajl (wi:TI) (caps:List Nat) (tt:TT) (te:TE):TE:=fun σ H Q=>wi σ H fun J H1=>∀ D,H1 D=none->Bh J caps tt te σ D Q H1
noncomputable def PTs (X:Cx) (ifs:List Expr) (tt:TT):Prop:=∀ (pins:List (Addr × Obj)) (s:Shared) (σ:St) (H:Hp) (Q:Bool->Hp->Prop),Inv X pins σ H s->tt σ H Q ->
 wpAny (model X.prog X.w) X.A (forIn ifs true fun c r=>if r=true then do let ok <- GZ c X.env (eval c X.env);pure (ForInStep.yield ok) else pure (ForInStep.yield r)) (TP X pins σ Q) X.xe s
noncomputable def Bj:TT:=fun _ H Q=>Q true H
theorem Gb {X:Cx}:PTs X [] Bj:=fun _ _ _ H _ I h=>wpAny_tests_nil ⟨H,I,h⟩
theorem Gd {X:Cx} {c:Expr} {tt:TT} (h:PT X c tt):PTs X [c] tt:=fun pins s σ H Q I q=>wpAny_tests_one (h pins s σ H Q I q)
section
variable {X:Cx}
theorem Jk {elt iter:Expr} {x:Str} {px:Pos} {ifs:List Expr} {scope:Scope} {pos:Pos} {cl:List (Str × Addr)} {N:List Str} {caps:List Nat} {tt:TT} {te:TE} {pins:List (Addr × Obj)} {σ:St} {H2:Hp} {s2:Shared} {Q:VK} {it:Addr} {fp:List Addr} {tn:Nat->Heap->Prop} {J:It}
  {RR:Value->Addr->jV->Shared->Prop} {E:Value->Shared->Prop} (hc:X.calm=true)
  (hcell:∀ y∈scope.names,y.2 ≠ .cell) (hkind:scope.kind = .function) (hsub:Jj X.env.cells cl)
  (hhas:∀ y,((gw scope X.env).names.lookup y=some .cell\/(gw scope X.env).names.lookup y=some .free)->∃ c,cl.lookup y=some c)
  (hN:N.Nodup) (hN0:N[0]? = some x) (hx:(gw scope X.env).names.lookup x=some .local) (hlen:N.length=caps.length+1) (hcap:∀ (i:Nat) (j:Nat),caps[i]? = some j->Bg X N scope cl (i+1) j)
  (ht:∀ s H fp C,PTs (dD X N scope cl s H fp C) ifs tt) (he:∀ s H fp C,PE (dD X N scope cl s H fp C) elt te)
  (I2:Inv X pins σ H2 s2) (T:Turn X.prog X.w X.K (.Name x px) J fp it tn) (st2:tn 0 s2.heap) (f2:∀ b∈fp,xq X pins H2 b) (w2:∀ D,H2 D=none->Bh J caps tt te σ D Q H2)
  (hRR:∀ D C σ' H' s5,s2.heap.objs.size<=C->Inv (dD X N scope cl s2 H2 fp C) (X.pn++pins) σ' H' s5->Q (.ref D) H'->RR (.ref D) C (.ok .next) s5) :
  wpAny (model X.prog X.w) X.A (Oc []) (fun acc s₃=>wpAny (model X.prog X.w) X.A (acS scope X.env.globals cl [] X.env.qual none .none (some X.env)) (fun cenv s₄ =>
   fB (model X.prog X.w) X.A (.compStart (.ListComp elt [⟨.Name x px,iter,ifs,0⟩] scope pos) 0 (.ref it) acc { cenv with scope:=gw scope X.env }) (RR acc cenv.locals) s₄) E s₃) E s2:=by
 refine Ab (acG hcell (by intro y hy;simp at hy) (fun h₁ hns₁ hsb₁=>?_) hkind)
 dsimp only at hns₁ hsb₁ ⊢
 generalize hH2:s2.heap.push { cls:=.type "list",dict:=none,data:=.seq ([]:List Value).toArray }=G2 at hns₁ hsb₁ ⊢
 have hC:G2.objs.size=s2.heap.objs.size+1:=by rw [<- hH2,sY]
 have hCle:s2.heap.objs.size<=G2.objs.size:=by rw [hC];exact lM _
 have hDC:G2.objs.size≠s2.heap.objs.size:=by rw [hC];exact tu (yS _)
 have old:∀ b o,s2.heap.get? b=some o->h₁.get? b=some o:=fun b o e =>
  hsb₁.extBut b o (by rw [hC];exact cH (uF (bQ e))) (dN _ (hH2 ▸ dN _ e))
 have hacc:∃ n,h₁.get? s2.heap.objs.size=some { cls:=.type "list",data:=.seq #[] n }:=⟨_,hsb₁.extBut _ _ (aL hDC) (dN _ (hH2 ▸ eO _ rfl))⟩
 have hnD:H2 s2.heap.objs.size=none:=I2.hok.fresh (bV _)
 obtain ⟨W,⟨m0,w0⟩,turn⟩:=w2 s2.heap.objs.size hnD
 have fo:∀ b∈fp,∃ o,s2.heap.get? b=some o:=fun b hb=>by
  obtain ⟨o,e,_⟩:=T.obj _ _ st2 b hb
  exact ⟨o,e⟩
 have I3:Inv (dD X N scope cl s2 H2 fp G2.objs.size) (X.pn++pins) (lW σ none caps) (upd H2 s2.heap.objs.size (.lst [])) { s2 with heap:=h₁,toks:=s2.toks+([]:List (Str × Value)).length } :=
  I2.comp hkind hsub hhas f2 fo hlen hcap (bV _) hCle hDC old hacc ⟨_,hns₁⟩
 have st3:tn 0 h₁:=T.keep _ _ _ st2 fun b _ o e=>old b o e
 have nf:∀ b∈fp,b≠s2.heap.objs.size:=fun b hb=>by
  obtain ⟨o,e⟩:=fo b hb
  exact cH (bQ e)
 have stat:∀ {H':Hp},(∀ b∈fp,H' b=none)->∀ b∈fp,xq (dD X N scope cl s2 H2 fp G2.objs.size) (X.pn++pins) H' b:=fun {H'} hn b hb=>by
  obtain ⟨f0,f1,f2',f3,f4,f5⟩:=f2 b hb
  obtain ⟨o,e⟩:=fo b hb
  refine ⟨hn b hb,cH (f9 (bQ e) hCle),fun z=>?_,.inl hb,fun y c q=>f4 y c (hsub.of q),fun p hp=>f5 p hp⟩
  rcases bN.mp (I2.zx b z) with q | q
  ·exact f1 q
  ·exact f2' q
 have loop:fB (model X.prog X.w) X.A (.compLoop (.ListComp elt [⟨.Name x px,iter,ifs,0⟩] scope pos) 0 (.ref it) (.ref s2.heap.objs.size) (N8 scope cl G2.objs.size X.env))
   (RR (.ref s2.heap.objs.size) G2.objs.size) { s2 with heap:=h₁,toks:=s2.toks+([]:List (Str × Value)).length }:=by
  refine codeAny_compLoop_tests (fun n s'=>∃ i ys σ' H',Inv (dD X N scope cl s2 H2 fp G2.objs.size) (X.pn++pins) σ' H' s'/\(∃ z,σ'=lW σ z caps)/\tn i s'.heap/\(∀ b∈fp,H' b=none)/\W i n ys H') ?_ m0
   ⟨0,[],_,_,I3,⟨none,rfl⟩,st3,fun b hb=>by rw [au (nf b hb)];exact (f2 b hb).1,w0⟩
  rintro n s' ⟨i,ys,σ',H',I',⟨z,rfl⟩,st',fr',w'⟩
  obtain ⟨hl,ends⟩:=turn i n ys H' w'
  rcases ends with ⟨stop,q⟩ | ⟨go,hsz,step⟩
  ·refine eF (T.done (dD X N scope cl s2 H2 fp G2.objs.size) rfl rfl rfl hc i _ s' _ H' (fun _ _=>False) I' (stat fr') st' stop) (fun r s5 ⟨hr,I5⟩=>?_) fun _ _ f=>f.elim
   subst hr
   exact hRR _ _ _ _ _ hCle I5 q
  ·refine eF (T.item (dD X N scope cl s2 H2 fp G2.objs.size) rfl rfl rfl hc i _ s' _ H' (fun _ _=>False) I' (stat fr') st' go) (fun r s5 ⟨u,hr,h5⟩=>?_) fun _ _ f=>f.elim
   subst hr
   show wpAny _ _ (Gz (.Name x px) (.ref it) u >>= fun _=>qR (.Name x px) (N8 scope cl G2.objs.size X.env) u) _ _ _
   refine aG (eF h5 (fun _ s6 ⟨y,H6,I6,r6,y6,st6,fr6⟩=>?_) fun _ _ f=>f.elim)
   have I6':=I6.pinned (stat fr6) (T.obj _ _ st6)
   have hg:PG (dD X N scope cl s2 H2 fp G2.objs.size) (.Name x px) (xR 0):=gG hN hN0 (.inl hx) (.inr hx)
   have again:∀ {σ7:St} {H7:Hp} {s7:Shared},Inv (dD X N scope cl s2 H2 fp G2.objs.size) ((X.pn++pins)++Dw fp s6.heap) σ7 H7 s7->tn (i+1) s7.heap/\∀ b∈fp,H7 b=none:=fun {σ7 H7 s7} I7=>by
    refine ⟨T.keep _ _ _ st6 fun b hb o e=>(I7.pin (b,o) (pN _ (pN _ (lU hb e)))).1,fun b hb=>?_⟩
    obtain ⟨o,e,d⟩:=T.obj _ _ st6 b hb
    exact (I7.pin (b,o) (pN _ (pN _ (lU hb e)))).2.1
   refine eF (hg _ s6 _ H6 y u (fun σ7 H7=>σ7=lW σ (some y) caps/\H7=H6) I6' r6 ⟨rfl,rfl⟩) (fun _ s7 ⟨σ7,H7,I7,e7,e7'⟩=>?_) fun _ _ f=>f.elim
   subst e7 e7'
   refine eF (ht s2 H2 fp G2.objs.size _ s7 _ _ _ I7 (step y H7 y6)) (fun ok s8 ⟨H8,I8,q8⟩=>?_) fun _ _ f=>f.elim
   cases ok with
   | false =>
    obtain ⟨_,m',hm,w8⟩:=q8
    have a8:=again I8
    exact ⟨m',hm,i+1,ys,_,H8,I8.oN,⟨_,rfl⟩,a8.1,a8.2,w8⟩
   | true =>
    refine eF (he s2 H2 fp G2.objs.size _ s8 _ _ _ I8 q8) (fun x9 s9 ⟨y9,H9,I9,r9,l9,m',hm,w9⟩=>?_) fun _ _ f=>f.elim
    refine eF (cM (X:=dD X N scope cl s2 H2 fp G2.objs.size) _ s9 _ H9 (.ref s2.heap.objs.size) [y9] _ [x9] (fun _ H10=>H10=upd H9 s2.heap.objs.size (.lst (ys++[y9]))) I9 rfl (.cons r9 .nil) ⟨_,ys,y9,rfl,rfl,l9,hsz,rfl⟩) (fun _ s10 ⟨_,H10,I10,_,e10⟩=>?_) fun _ _ f=>f.elim
    subst e10
    have a10:=again I10
    exact ⟨m',hm,i+1,ys++[y9],_,_,I10.oN,⟨_,rfl⟩,a10.1,a10.2,w9⟩
 exact acF loop (T.self _ 0 _ _ _ st3 loop)
theorem aaJ {elt iter:Expr} {x:Str} {px:Pos} {ifs:List Expr} {scope:Scope} {pos:Pos} {cl:List (Str × Addr)} {N:List Str} {caps:List Nat} {wi:TI} {tt:TT} {te:TE} (hc:X.calm=true) (hclos:U9 scope X.env=pure cl)
  (hcell:∀ y∈scope.names,y.2 ≠ .cell) (hkind:scope.kind = .function) (hnames:∀ y∈scope.names,y.2 = .local->scope.names.lookup y.1=some .local) (hsub:Jj X.env.cells cl)
  (hhas:∀ y,((gw scope X.env).names.lookup y=some .cell\/(gw scope X.env).names.lookup y=some .free)->∃ c,cl.lookup y=some c)
  (hN:N.Nodup) (hN0:N[0]? = some x) (hx:(gw scope X.env).names.lookup x=some .local) (hlen:N.length=caps.length+1) (hcap:∀ (i:Nat) (j:Nat),caps[i]? = some j->Bg X N scope cl (i+1) j)
  (hi:PI X (.Name x px) iter wi) (ht:∀ s H fp C,PTs (dD X N scope cl s H fp C) ifs tt) (he:∀ s H fp C,PE (dD X N scope cl s H fp C) elt te)
  (hs:∀ x,Gx iter X.env x=pure x:=by intro _;rfl):PE X (.ListComp elt [⟨.Name x px,iter,ifs,0⟩] scope pos) (ajl wi caps tt te):=by
 walk_at "l"
 rw [ac1]
 refine Ut (use:=none) rfl hs hclos hkind hnames (thn (hi pins s σ H _ I h) fun v s1 h1=>thn h1 fun itv s2 h2=>?_)
 obtain ⟨it,fp,tn,J,H2,e,I2,T,st2,f2,w2⟩:=h2
 subst e
 exact Jk hc hcell hkind hsub hhas hN hN0 hx hlen hcap ht he I2 T st2 f2 w2 fun D C σ' H' s5 hC I5 q=>by
  obtain ⟨m,hm,_⟩:=I5.loc
  exact ⟨m,hm,fun h' hs'=>⟨.ref D,H',I2.Zf f2 hC I5 hs',rfl,q⟩⟩
theorem oR {i:Nat} {y:Str} {py spos:Pos} {elt iter:Expr} {x:Str} {px:Pos} {ifs:List Expr} {scope:Scope} {pos:Pos} {cl:List (Str × Addr)} {N:List Str} {caps:List Nat} {wi:TI} {tt:TT} {te:TE} (hXN:X.N.Nodup) (hi0:X.N[i]? = some y) (hy:Loc X.env.scope y)
  (hc:X.calm=true) (hclos:U9 scope X.env=pure cl)
  (hcell:∀ y∈scope.names,y.2 ≠ .cell) (hkind:scope.kind = .function) (hnames:∀ y∈scope.names,y.2 = .local->scope.names.lookup y.1=some .local) (hsub:Jj X.env.cells cl)
  (hhas:∀ y,((gw scope X.env).names.lookup y=some .cell\/(gw scope X.env).names.lookup y=some .free)->∃ c,cl.lookup y=some c)
  (hN:N.Nodup) (hN0:N[0]? = some x) (hx:(gw scope X.env).names.lookup x=some .local) (hlen:N.length=caps.length+1) (hcap:∀ (i:Nat) (j:Nat),caps[i]? = some j->Bg X N scope cl (i+1) j)
  (hi:PI X (.Name x px) iter wi) (ht:∀ s H fp C,PTs (dD X N scope cl s H fp C) ifs tt) (he:∀ s H fp C,PE (dD X N scope cl s H fp C) elt te)
  (hs:∀ x,Gx iter X.env x=pure x:=by intro _;rfl) (hsw:GJ (.ListComp elt [⟨.Name x px,iter,ifs,0⟩] scope pos) (some (.Name y py)) spos.line X.env=pure true:=by rfl)
  (hf:X.fn y=true\/X.env.scope.names.lookup y=some .local:=by first | exact .inl rfl | exact .inr rfl | assumption) :
  PS X (.Assign [.Name y py] (.ListComp elt [⟨.Name x px,iter,ifs,0⟩] scope pos) spos) (tAsg (ajl wi caps tt te) (xR i)):=by
 intro pins s σ H D I h
 rw [exec_Assign_Name_used _ _ _ _ hsw]
 refine aG (UJ (aG ?_))
 show wpAny _ X.A (do let _ <- comprehension (.ListComp elt [⟨.Name x px,iter,ifs,0⟩] scope pos) scope X.env _ (Oc []) false (eval iter X.env) (some (qR (.Name y py) X.env))) _ _ s
 refine aG (eF (Ut (use:=some (qR (.Name y py) X.env)) (Q:=fun _ s'=>SP X pins D .next s') rfl hs hclos hkind hnames
  (thn (hi pins s σ H _ I h) fun v s1 h1=>thn h1 fun itv s2 h2=>?_)) (fun _ s' hq=>bC (bC hq)) fun _ _ e=>e)
 obtain ⟨it,fp,tn,J,H2,e,I2,T,st2,f2,w2⟩:=h2
 subst e
 refine Jk (RR:=fun acc C=>compPost (model X.prog X.w) X.A X.xe (some (qR (.Name y py) X.env)) (fun _ s'=>SP X pins D .next s') acc C) hc hcell hkind hsub hhas hN hN0 hx hlen hcap ht he I2 T st2 f2 w2 fun D' C σ' H' s5 hC I5 q=>?_
 show wpAny _ X.A (qR (.Name y py) X.env (.ref D')) _ _ _
 have IX:Inv X pins σ H' s5:=I2.Zf (h':=s5.heap) f2 hC I5 ⟨rfl,fun _ _=>rfl⟩
 have nL:C≠X.env.locals:=by
  obtain ⟨m,⟨o,_,_,ho,_⟩,_⟩:=I2.loc
  exact tu (f9 (bQ ho) hC)
 have nC:∀ z c,X.env.cells.lookup z=some c->c≠C:=fun z c e=>by
  obtain ⟨v,o,ho,_⟩:=I2.cell z c e
  exact cH (f9 (bQ ho) hC)
 refine acK (Ly IX hXN hi0 hy (v:=.ref D') rfl (fun s6 I6 hb=>?_) hf)
 obtain ⟨m,hm,_⟩:=I5.loc
 obtain ⟨a,sb,ha⟩:=hb
 have na:C≠a:=by
  rcases ha with z | z
  ·rw [z];exact nL
  ·exact aL (nC _ _ z)
 refine ⟨m,hm.sameBut sb na,fun h' hs'=>⟨_,H',?_,q⟩⟩
 obtain ⟨hp6,g6,d6,t6,o6⟩:=s6
 refine I6.turned (it:=C) (t':=t6) (fun b o hb e=>(hs'.2 b hb).trans e) I5.free nL (.inr (jL I2.sz hC)) nC fun p hp z=>?_
 have:=(I2.pin p hp).1
 exact absurd (f9 (bQ this) (by rw [z];exact hC)) (pP _)
end
theorem vR {names:List (Str × yF)} {cl:List (Str × Addr)} (h:(names.all fun p=>(p.2 != .cell && p.2 != .free) || (cl.lookup p.1).isSome)=true) (y:Str) (hy:names.lookup y=some .cell\/names.lookup y=some .free):∃ c,cl.lookup y=some c:=by
 have key:∀ k:yF,(k = .cell\/k = .free)->names.lookup y=some k->∃ c,cl.lookup y=some c:=fun k hk e=>by
  have m:=adw.mp h _ (Cq e)
  have:(k != .cell && k != .free)=false:=by rcases hk with z | z <;> (subst z;rfl)
  rw [show ((y,k):Str × yF).2=k from rfl,this,aez] at m
  exact aeQ.mp m
 rcases hy with z | z
 ·exact key _ (.inl rfl) z
 ·exact key _ (.inr rfl) z
noncomputable def gM (X:Cx) (N:List Str) (scope:Scope) (cl:List (Str × Addr)):Nat->List Nat->Prop
 | _,[]=>True
 | i,j::r=>Bg X N scope cl i j/\gM X N scope cl (i+1) r
theorem gM.at {X:Cx} {N:List Str} {scope:Scope} {cl:List (Str × Addr)}:∀ {caps:List Nat} {k:Nat},gM X N scope cl k caps->∀ (i j:Nat),caps[i]? = some j->Bg X N scope cl (i+k) j
 | [],_,_,i,j,h=>by simp at h
 | a::r,k,hc,0,j,h=>by
  have e:a=j:=by simpa using h
  subst e
  rw [sZ];exact hc.1
 | a::r,k,hc,i+1,j,h=>by
  have:=gM.at hc.2 i j (by simpa using h)
  rw [show i+1+k=i+(k+1) by lia];exact this
theorem DN {K:aZ} {a:Addr} {xs:List V} {caps:List Nat} {te:TE} {σ:St} {H:Hp} {D:Addr} {Q:VK} (Pv:Nat->List V->Hp->Prop) (h0:Pv 0 [] (upd H D (.lst [])))
  (hl:∀ i ys H,i<=xs.length->Pv i ys H->SqL K H a xs/\H D=some (.lst ys)/\ys.length<sizeLine)
  (hs:∀ i ys H x,xs[i]? = some x->Pv i ys H->te (lW σ (some x) caps) H fun y H3=>H3 D=some (.lst ys)/\Pv (i+1) (ys++[y]) (upd H3 D (.lst (ys++[y])))) (hd:∀ ys H,Pv xs.length ys H->Q (.ref D) H)
  (mono:∀ σ H (Q Q':VK),(∀ y H,Q y H->Q' y H)->te σ H Q->te σ H Q') :
  Bh (Itl K a) caps Bj te σ D Q H:=by
 refine ⟨fun i m ys H=>m=xs.length-i/\i<=xs.length/\Pv i ys H,⟨xs.length,by simp,cY _,h0⟩,?_⟩
 rintro i m ys H ⟨rfl,hi,p⟩
 obtain ⟨sq,q,z⟩:=hl i ys H hi p
 refine ⟨q,?_⟩
 by_cases hlt:i<xs.length
 ·refine .inr ⟨⟨xs,xs[i],sq,by simp [hlt]⟩,z,fun x H' y=>?_⟩
  obtain ⟨e,y⟩:=y
  subst e
  unfold Bj;dsimp only
  rw [if_pos rfl]
  exact mono _ _ _ _ (fun y H3 ⟨a,b⟩=>⟨a,xs.length-(i+1),by lia,rfl,hlt,b⟩) (hs i ys _ x (y xs sq) p)
 ·have e:i=xs.length:=by lia
  subst e
  exact .inl ⟨⟨xs,sq,bV _⟩,hd ys H p⟩
section
variable {X:Cx}
theorem Zg {A:bA} {E:Value->Shared->Prop} {s:Shared} {T:String} {r d:Addr} {n:Nat} {P:Nat->Value->Prop} {OK:Heap->Prop} {ns:List Int} {Q:Value->Shared->Prop}
  (K:adR X.prog X.w T r d n P OK) (hh:A.handled=none) (hok:OK s.heap) (hn:n<=sizeLine) (h64:n<64) (hP:∀ us:List Value,us.length=n->(∀ (j:Nat) (v:Value),us[j]? = some v->P j v)->IntsAre us ns)
  (h:∀ (h':Heap) (tk:Nat) (l:Addr) (out:Array Value) (ns':List Int) (e:Nat),(∀ b ob,s.heap.get? b=some ob->h'.get? b=some ob)->(∀ b ob,s.heap.get? b=some ob->b≠l)->h'.get? l=some (dw "list" out e) ->
   IntsAre out.toList ns'->ns'.Perm ns->ns'.Pairwise (· <= ·)->Q (.ref l) { s with heap:=h',toks:=tk }) :
  wpAny (model X.prog X.w) A (call (.builtin "sorted") [.ref r]) Q E s:=by
 refine WK Pn Pj Pk (Wk _) ?_
 unfold dW.«sorted»
 refine aG (m:=N5 "sorted" 1 1 _) (bC ?_)
 refine aG (adI (A:=A.in1) K hh hok hn fun h1 tk acc hk hacc=>?_)
 have hl:acc.toList.length=n:=by rw [fW];exact hacc.1
 have hI:=hP acc.toList hl fun j v e=>hacc.2 j v (by rw [<- iU];exact e)
 refine aG (GC ?_ (by rw [hl];exact hn))
 have hoL:(h1.push (dw "list" acc.toList.toArray 0)).get? h1.objs.size=some (dw "list" acc.toList.toArray 0):=eO _ rfl
 refine aG (jJ (xJ Pb ⟨_,hoL,rfl⟩ Pa (aep hoL hI (by rw [hl];exact h64) fun out ns' a1 a2 a3=>⟨_,rfl,?_⟩) (Wd _)))
 refine bC ⟨_,rfl,?_⟩
 obtain ⟨e,he⟩:=Wg (vs:=acc.toList) (out:=out) hoL
 have hb:∀ b ob,s.heap.get? b=some ob->b<h1.objs.size:=fun b ob e'=>bQ (hk b ob e')
 refine h _ tk _ out ns' e (fun b ob e'=>?_) (fun b ob e'=>cH (hb b ob e')) he a1 a2 a3
 have hlt:=hb b ob e'
 rw [Wc (cH hlt) (by rw [HS];exact uF hlt)]
 exact dN _ (hk b ob e')
noncomputable def af6:List V->Hp->VK->Prop:=fun xs H Q=>∃ a kvs ns,xs=[V.ref a]/\Rd H a (.dK kvs)/\(kvs.map fun p=>kV p.1)=ns.map V.int/\ns.length<64 /\
 ∀ (l:Addr) (ns':List Int),H l=none->ns'.Perm ns->ns'.Pairwise (· <= ·)->Q (.ref l) (upd H l (.lst (ns'.map V.int)))
noncomputable def af7 (K:aZ):List V->Hp->VK->Prop:=fun xs H Q=>∃ a ns,xs=[V.ref a]/\SqL K H a (ns.map V.int)/\ns.length<64 /\
 ∀ (l:Addr) (ns':List Int),H l=none->ns'.Perm ns->ns'.Pairwise (· <= ·)->Q (.ref l) (upd H l (.lst (ns'.map V.int)))
theorem Zh (hc:X.calm=true):gC X (.builtin "sorted") af6:=by
 walk_at "j"
 obtain ⟨a,kvs,ns,rfl,ha,ei,h64,q⟩:=h
 obtain ⟨u,rfl,ru⟩:=vals1 r
 cases ru
 obtain ⟨z,hd,vs,rel,dd⟩:=vO I.hok ha
 obtain ⟨ep,hat⟩:=dd.dictAt
 have hl:=rel.length
 have hns:ns.length=kvs.length:=by have:=congrArg nF ei;simpa using this.symm
 refine Zg (X:=X) (ns:=ns) (adM (knd:=dg X.prog X.w) (kvs:=vs) (ep:=ep) hd) (I.ok.hd hc) hat (by rw [<- hl];exact z) tb_g% (fun us hu hv=>?_) fun h' tk l' out ns' e' kp hne hl' hI hp ho=>?_
 ·have vv:=DK rel hu hv
  rw [ei] at vv
  exact intsAre_of vv
 ·refine ⟨.ref l',_,I.Ez (t':=tk) kp hne (show dh X.prog X.w _ h' l' (.lst (ns'.map V.int)) from ⟨?_,out.toList,e',lV hI,by simpa using hl'⟩),rfl,q l' ns' (I.none_of hne) hp ho⟩
  rw [bG,hp.length_eq,hns];exact z
theorem Jl:gC X (.builtin "sorted") (af7 X.K):=by
 walk_at "j"
 obtain ⟨a,ns,rfl,ha,h64,q⟩:=h
 obtain ⟨u,rfl,ru⟩:=vals1 r
 cases ru
 obtain ⟨its,rv,p,hz⟩:=I.list ha
 have hI:=intsAre_of rv
 have hl:its.length=ns.length:=by rw [<- rv.length,bG]
 refine sorted_ints p.isList hI tb_g% fun out ns' a1 a2 a3=>?_
 obtain ⟨e,he⟩:=Wl s.heap its out
 refine ⟨.ref (s.heap.objs.size+1),_,I.laid (t':=s.toks) (fun _ _=>Wh) (lM _) (show dh X.prog X.w _ _ (s.heap.objs.size+1) (.lst (ns'.map V.int)) from ⟨?_,out.toList,e,lV a1,by simpa using he⟩),rfl,q _ ns' (I.hok.fresh (lM _)) a2 a3⟩
 rw [bG,a2.length_eq]
 rw [bG] at hz
 exact hz
noncomputable def alC (K:aZ):List V->Hp->VK->Prop:=fun xs H Q=>af6 xs H Q\/af7 K xs H Q
theorem Bk (hc:X.calm=true):gC X (.builtin "sorted") (alC X.K):=(Zh hc).or Jl
end
section
variable {prog:aO} {w:World} {A:bA} {E:Value->Shared->Prop}
end
section
variable {X:Cx} {pos:Pos}
end
end L2
namespace Tm
open PySem PyProof.Rows
class Rk where
 kd:SortKind
 R:Keyed->Int
 Ok:Keyed->Prop
class Rl [Rk] (prog:aO) (w:World) (A:bA) (E:Value->Shared->Prop) (s:Shared):Prop where
 lt:∀ {x y:Keyed} {st:SortSt} {Q:Option Bool->SortSt->Prop},kindOf st=Rk.kd->Rk.Ok x->Rk.Ok y->Q (some (decide (Rk.R x<Rk.R y))) st->wpS (model prog w) A E s (lt' x y) Q st
section
variable [Rk]
noncomputable def K (xs:Array Keyed) (i:Nat):Int:=match xs[i]? with
 | some x=>Rk.R x
 | none=>0
noncomputable def kd0:SortKind:=Rk.kd
noncomputable def Is (x:Keyed) (n:Int):Prop:=Rk.Ok x/\Rk.R x=n
noncomputable def SortedTo (xs:Array Keyed) (k:Nat):Prop:=∀ i j,i<=j->j<k->K xs i<=K xs j
noncomputable def IntKeys (xs:Array Keyed):Prop:=∀ x,x∈xs.toList->Rk.Ok x
structure SBase (a₀:Array Keyed) (st:SortSt):Prop where
 perm:(arrOf st).Perm a₀
 kind:kindOf st=kd0
 failed:jC st=none
 pend:cF st = #[]
theorem SBase.size {a₀:Array Keyed} {st:SortSt} (h:SBase a₀ st):(arrOf st).size=a₀.size:=h.perm.size_eq
theorem K_congr {xs ys:Array Keyed} {i j:Nat} (h:xs[i]? = ys[j]?):K xs i=K ys j:=by unfold K;rw [h]
theorem K_bubble {xs:Array Keyed} {src d:Nat} (hs:src<xs.size) (hd:d<=src) (k:Nat) :
  K (bubble xs src d) k=if k=src-d then K xs src else if src-d<k/\k<=src then K xs (k-1) else K xs k:=by
 have e:=aeo hs d hd k
 split at e
 ·rename_i h;rw [if_pos h];exact K_congr e
 ·rename_i h
  rw [if_neg h]
  split at e
  ·rename_i h';rw [if_pos h'];exact K_congr e
  ·rename_i h';rw [if_neg h'];exact K_congr e
theorem K_mirror {xs:Array Keyed} {i j:Nat} (hj:j<=xs.size) (k:Nat):K (yZ xs i j ((j-i) / 2)) k=if i<=k/\k<j then K xs (i+j-1-k) else K xs k:=by
 have e:=HN (i:=i) hj k
 split at e
 ·rename_i h;rw [if_pos h];exact K_congr e
 ·rename_i h;rw [if_neg h];exact K_congr e
theorem K_mirror_equal {xs:Array Keyed} {i j:Nat} (hj:j<=xs.size) (heq:∀ k,i<=k->k<j->K xs k=K xs (j-1)) (k:Nat):K (yZ xs i j ((j-i) / 2)) k=K xs k:=by
 rw [K_mirror hj]
 split
 ·rw [heq _ tb_g% tb_g%,heq k tb_g% tb_g%]
 ·rfl
noncomputable def gal:Bool->Keyed->Array Keyed->Nat->Nat->Nat->StateT SortSt Sem (Option Nat):=sortPriv% PySem.Builtin.gallop
section
variable {prog:aO} {w:World} {A:bA} {E:Value->Shared->Prop} {s:Shared} [Rl prog w A E s]
theorem Zi {st:SortSt} {a b:Int} {x y:Keyed} {Q:Option Bool->SortSt->Prop} (hk:kindOf st=kd0) (h:Q (some (decide (a<b))) st) (hx:Is x a:=by assumption) (hy:Is y b:=by assumption) :
  wpS (model prog w) A E s (lt' x y) Q st:=Rl.lt hk hx.1 hy.1 (by rw [hx.2,hy.2];exact h)
theorem vU {st:SortSt} {arr:Array Keyed} {i:Nat} {x:Keyed} {Q:Keyed->SortSt->Prop} (hi:arr[i]? = some x) (h:Q x st):wpS (model prog w) A E s (elem' arr i) Q st:=by
 rw [elem'_eq,hi]
 exact cG h
noncomputable def bey (left:Bool) (key:Int) (arr:Array Keyed) (i:Nat):Bool:=if left then decide (K arr i<key) else !decide (key<K arr i)
noncomputable def Ints (arr:Array Keyed) (a b:Nat):Prop:=∀ i,a<=i->i<b->∃ (u:Keyed) (_:Is u (K arr i)),arr[i]? = some u
theorem ahZ {left:Bool} {key:Int} {y:Keyed} {arr:Array Keyed} {i:Nat} {st:SortSt} {u:Keyed} {Q:Option Bool->SortSt->Prop} (hk:kindOf st=kd0) (hy:Is y key) (hu:Is u (K arr i)) (hi:arr[i]? = some u) (h:Q (some (bey left key arr i)) st) :
  wpS (model prog w) A E s (do
   let x <- elem' arr i
   if left=true then lt' x y else do
    let r <- lt' y x
    pure (aeU (fun x=>!x) r)) Q st:=by
 refine bH (vU hi ?_)
 unfold bey at h
 cases left with
 | true=>exact Zi hk h
 | false=>exact bH (Zi hk (cG h))
theorem Jm {left:Bool} {key:Int} {y:Keyed} {arr:Array Keyed} {base n hint:Nat} {st:SortSt} {Q:Option Nat->SortSt->Prop} (hk:kindOf st=kd0) (hI:Ints arr base (base+n)) (hh:hint<n)
  (hm:∀ i j,i<=j->j<n->bey left key arr (base+j)=true->bey left key arr (base+i)=true)
  (h:∀ k,k<=n->(∀ i,i<k->bey left key arr (base+i)=true)->(∀ i,k<=i->i<n->bey left key arr (base+i)=false)->Q (some k) st) (hy:Is y key:=by assumption) :
  wpS (model prog w) A E s (gal left y arr base n hint) Q st:=by
 have ask:∀ i,i<n->∀ {Q:Option Bool->SortSt->Prop},Q (some (bey left key arr (base+i))) st->wpS (model prog w) A E s (do
   let x <- elem' arr (base+i)
   if left=true then lt' x y else do
    let r <- lt' y x
    pure (aeU (fun x=>!x) r)) Q st:=fun i hi {Q} hQ=>by
  obtain ⟨u,q,e⟩:=hI (base+i) tb_g% tb_g%
  exact ahZ hk hy q e hQ
 have up:∀ i j,i<=j->j<n->bey left key arr (base+i)=false->bey left key arr (base+j)=false:=fun i j hij hj hf=>by
  cases e:bey left key arr (base+j) with
  | false=>rfl
  | true=>rw [hm i j hij hj e] at hf;cases hf
 refine bH (ask hint hh ?_)
 dsimp only
 cases hb:bey left key arr (base+hint) with
 | true =>
  rw [if_pos rfl]
  refine bH (iz (pQ (I:=fun x c st'=>st'=st/\∃ lastofs ofs,c=(none,lastofs,ofs)/\lastofs<ofs/\x+1<=ofs/\(lastofs=0\/hint+lastofs<n)/\bey left key arr (base+(hint+lastofs))=true)
   (Q:=fun c st'=>st'=st/\∃ lastofs ofs,c=(none,lastofs,ofs)/\lastofs<ofs/\(lastofs=0\/hint+lastofs<n)/\bey left key arr (base+(hint+lastofs))=true/\(n-hint<=ofs\/(hint+ofs<n/\bey left key arr (base+(hint+ofs))=false))) ?_ ?_ ⟨rfl,0,1,rfl,by lia,by lia,.inl rfl,hb⟩) ?_)
  ·rintro x c st' _ hx ⟨rfl,la,of,rfl,h1,h2,h3,h4⟩
   dsimp only
   by_cases hge:of>=n-hint
   ·rw [if_pos hge]
    exact cG ⟨rfl,la,of,rfl,h1,h3,h4,.inl hge⟩
   ·rw [if_neg hge]
    refine bH (ask (hint+of) tb_g% ?_)
    dsimp only
    cases hb2:bey left key arr (base+(hint+of)) with
    | false=>exact cG ⟨rfl,la,of,rfl,h1,h3,h4,.inr ⟨by lia,hb2⟩⟩
    | true=>exact cG ⟨rfl,of,2*of+1,rfl,by lia,by lia,.inr tb_g%,hb2⟩
  ·rintro c st' ⟨rfl,la,of,rfl,h1,h2,h3,h4⟩
   exact ⟨rfl,la,of,rfl,h1,h3,h4,.inl tb_g%⟩
  ·rintro c st' ⟨rfl,la,of,rfl,h1,h3,h4,h5⟩
   dsimp only
   have lo1:∀ i,i<hint+la+1->bey left key arr (base+i)=true:=fun i hi=>hm i (hint+la) tb_g% tb_g% h4
   have hi1:∀ i,hint+min of (n-hint)<=i->i<n->bey left key arr (base+i)=false:=fun i h6 h7=>by
    rcases h5 with z | ⟨z,z'⟩
    ·lia
    ·exact up (hint+of) i tb_g% h7 z'
   have le1:hint+la+1<=hint+min of (n-hint):=by lia
   have le2:hint+min of (n-hint)<=n:=by lia
   generalize hint+la+1=lo at lo1 le1 ⊢
   generalize hint+min of (n-hint)=hi at hi1 le1 le2 ⊢
   refine bH (iz (pQ (I:=fun x c s2=>s2=st'/\∃ lo hi,c=(none,lo,hi)/\lo<=hi/\hi<=n/\(hi-lo<=n-x)/\(∀ i,i<lo->bey left key arr (base+i)=true)/\∀ i,hi<=i->i<n->bey left key arr (base+i)=false)
    (Q:=fun c s2=>s2=st'/\∃ lo hi,c=(none,lo,hi)/\lo=hi/\hi<=n/\(∀ i,i<lo->bey left key arr (base+i)=true)/\∀ i,hi<=i->i<n->bey left key arr (base+i)=false) ?_ ?_ ⟨rfl,lo,hi,rfl,le1,le2,by lia,lo1,hi1⟩) ?_)
   ·rintro x c s2 _ hx ⟨rfl,lo,hi,rfl,g1,g2,g3,g4,g5⟩
    dsimp only
    by_cases hge:lo>=hi
    ·rw [if_pos hge]
     exact cG ⟨rfl,lo,hi,rfl,by lia,g2,g4,g5⟩
    ·rw [if_neg hge]
     refine bH (ask (lo+(hi-lo) / 2) tb_g% ?_)
     dsimp only
     cases hb2:bey left key arr (base+(lo+(hi-lo) / 2)) with
     | true=>exact cG ⟨rfl,lo+(hi-lo) / 2+1,hi,rfl,by lia,g2,by lia,fun i hi'=>hm i (lo+(hi-lo) / 2) tb_g% tb_g% hb2,g5⟩
     | false=>exact cG ⟨rfl,lo,lo+(hi-lo) / 2,rfl,by lia,by lia,by lia,g4,fun i h6 h7=>up (lo+(hi-lo) / 2) i h6 h7 hb2⟩
   ·rintro c s2 ⟨rfl,lo,hi,rfl,g1,g2,g3,g4,g5⟩
    exact ⟨rfl,lo,hi,rfl,by lia,g2,g4,g5⟩
   ·rintro c s2 ⟨rfl,lo,hi,rfl,rfl,g2,g4,g5⟩
    exact cG (h lo g2 g4 g5)
 | false =>
  rw [if_neg (by decide)]
  refine bH (iz (pQ (I:=fun x c st'=>st'=st/\∃ lastofs ofs,c=(none,lastofs,ofs)/\lastofs<ofs/\x+1<=ofs/\lastofs<=hint/\bey left key arr (base+(hint-lastofs))=false)
   (Q:=fun c st'=>st'=st/\∃ lastofs ofs,c=(none,lastofs,ofs)/\lastofs<ofs/\lastofs<=hint/\bey left key arr (base+(hint-lastofs))=false/\(hint+1<=ofs\/bey left key arr (base+(hint-ofs))=true)) ?_ ?_ ⟨rfl,0,1,rfl,by lia,by lia,by lia,hb⟩) ?_)
  ·rintro x c st' _ hx ⟨rfl,la,of,rfl,h1,h2,h3,h4⟩
   dsimp only
   by_cases hge:of>=hint+1
   ·rw [if_pos hge]
    exact cG ⟨rfl,la,of,rfl,h1,h3,h4,.inl hge⟩
   ·rw [if_neg hge]
    refine bH (ask (hint-of) tb_g% ?_)
    dsimp only
    cases hb2:bey left key arr (base+(hint-of)) with
    | true=>exact cG ⟨rfl,la,of,rfl,h1,h3,h4,.inr hb2⟩
    | false=>exact cG ⟨rfl,of,2*of+1,rfl,by lia,by lia,by lia,hb2⟩
  ·rintro c st' ⟨rfl,la,of,rfl,h1,h2,h3,h4⟩
   exact ⟨rfl,la,of,rfl,h1,h3,h4,.inl tb_g%⟩
  ·rintro c st' ⟨rfl,la,of,rfl,h1,h3,h4,h5⟩
   dsimp only
   have lo1:∀ i,i<hint+1-min of (hint+1)->bey left key arr (base+i)=true:=fun i hi=>by
    rcases h5 with z | z
    ·lia
    ·exact hm i (hint-of) tb_g% tb_g% z
   have hi1:∀ i,hint-la<=i->i<n->bey left key arr (base+i)=false:=fun i h6 h7=>up (hint-la) i h6 h7 h4
   have le1:hint+1-min of (hint+1)<=hint-la:=by lia
   have le2:hint-la<=n:=by lia
   generalize hint+1-min of (hint+1)=lo at lo1 le1 ⊢
   generalize hint-la=hi at hi1 le1 le2 ⊢
   refine bH (iz (pQ (I:=fun x c s2=>s2=st'/\∃ lo hi,c=(none,lo,hi)/\lo<=hi/\hi<=n/\(hi-lo<=n-x)/\(∀ i,i<lo->bey left key arr (base+i)=true)/\∀ i,hi<=i->i<n->bey left key arr (base+i)=false)
    (Q:=fun c s2=>s2=st'/\∃ lo hi,c=(none,lo,hi)/\lo=hi/\hi<=n/\(∀ i,i<lo->bey left key arr (base+i)=true)/\∀ i,hi<=i->i<n->bey left key arr (base+i)=false) ?_ ?_ ⟨rfl,lo,hi,rfl,le1,le2,by lia,lo1,hi1⟩) ?_)
   ·rintro x c s2 _ hx ⟨rfl,lo,hi,rfl,g1,g2,g3,g4,g5⟩
    dsimp only
    by_cases hge:lo>=hi
    ·rw [if_pos hge]
     exact cG ⟨rfl,lo,hi,rfl,by lia,g2,g4,g5⟩
    ·rw [if_neg hge]
     refine bH (ask (lo+(hi-lo) / 2) tb_g% ?_)
     dsimp only
     cases hb2:bey left key arr (base+(lo+(hi-lo) / 2)) with
     | true=>exact cG ⟨rfl,lo+(hi-lo) / 2+1,hi,rfl,by lia,g2,by lia,fun i hi'=>hm i (lo+(hi-lo) / 2) tb_g% tb_g% hb2,g5⟩
     | false=>exact cG ⟨rfl,lo,lo+(hi-lo) / 2,rfl,by lia,by lia,by lia,g4,fun i h6 h7=>up (lo+(hi-lo) / 2) i h6 h7 hb2⟩
   ·rintro c s2 ⟨rfl,lo,hi,rfl,g1,g2,g3,g4,g5⟩
    exact ⟨rfl,lo,hi,rfl,by lia,g2,g4,g5⟩
   ·rintro c s2 ⟨rfl,lo,hi,rfl,rfl,g2,g4,g5⟩
    exact cG (h lo g2 g4 g5)
end
noncomputable def Srt (xs:Array Keyed) (a b:Nat):Prop:=∀ i j,a<=i->i<=j->j<b->K xs i<=K xs j
structure Within (xs ys:Array Keyed) (a b:Nat):Prop where
 perm:ys.Perm xs
 out:∀ i,i<a\/b<=i->ys[i]? = xs[i]?
theorem Within.refl (xs:Array Keyed) (a b:Nat):Within xs xs a b:=⟨PK _,fun _ _=>rfl⟩
theorem Within.trans {xs ys zs:Array Keyed} {a b:Nat} (h:Within xs ys a b) (h':Within ys zs a b):Within xs zs a b:=⟨h'.perm.trans h.perm,fun i hi=>(h'.out i hi).trans (h.out i hi)⟩
theorem Within.wide {xs ys:Array Keyed} {a b a' b':Nat} (h:Within xs ys a b) (ha:a'<=a) (hb:b<=b'):Within xs ys a' b':=⟨h.perm,fun i hi=>h.out i tb_g%⟩
theorem zJ {xs:Array Keyed} (h0:IntKeys xs) {i:Nat} (hi:i<xs.size):∃ (t:Keyed) (_:Is t (K xs i)),xs[i]? = some t:=by
 have e:xs[i]? = some xs[i]:=getElem?_pos _ i hi
 refine ⟨xs[i],⟨h0 xs[i] (by simp),?_⟩,e⟩
 unfold K
 rw [e]
theorem qD {xs ys:Array Keyed} (h:IntKeys xs) (p:ys.Perm xs):IntKeys ys:=fun q hq=>h q ((V8.mp p).mem_iff.mp hq)
section
variable {prog:aO} {w:World} {A:bA} {E:Value->Shared->Prop} {s:Shared} [Rl prog w A E s]
theorem DQ {st:SortSt} {i j:Nat} {Q:Option Bool->SortSt->Prop} (hk:kindOf st=kd0) (h0:IntKeys (arrOf st)) (hi:i<(arrOf st).size) (hj:j<(arrOf st).size)
  (h:Q (some (decide (K (arrOf st) i<K (arrOf st) j))) st):wpS (model prog w) A E s (ltAt' i j) Q st:=by
 obtain ⟨t,p,e1⟩:=zJ h0 hi
 obtain ⟨u,q,e2⟩:=zJ h0 hj
 rw [ltAt'_eq]
 refine bH (lN ?_)
 show wpS _ _ _ _ (do let x <- elem' (arrOf st) i;let y <- elem' (arrOf st) j;lt' x y) Q st
 rw [elem'_eq,elem'_eq,e1,e2]
 refine bH (cG (bH (cG ?_)))
 exact Zi hk h
theorem SJ {lo n ok:Nat} {st:SortSt} {Q:Bool->SortSt->Prop} (hk:kindOf st=kd0) (h0:IntKeys (arrOf st)) (hz:lo+n<=(arrOf st).size) (hok:ok<=n) (hs:Srt (arrOf st) lo (lo+ok))
  (h:∀ ys,Within (arrOf st) ys lo (lo+n)->Srt ys lo (lo+n)->Q true (cJ st ys)):wpS (model prog w) A E s (binarySort' lo n ok) Q st:=by
 have hs1:Srt (arrOf st) lo (lo+max ok 1):=fun i j h1 h2 h3=>by
  by_cases e:j<lo+ok
  ·exact hs i j h1 h2 e
  ·have:i=j:=by lia
   rw [this];exact eE _
 refine bH (iz (pQ (I:=fun k c st'=>c=(none,())/\∃ ys,st'=cJ st ys/\Within (arrOf st) ys lo (lo+n)/\Srt ys lo (lo+k))
  (Q:=fun c st'=>c=(none,())/\∃ ys,st'=cJ st ys/\Within (arrOf st) ys lo (lo+n)/\Srt ys lo (lo+n)) ?_ ?_ ⟨rfl,arrOf st,rfl,Within.refl _ _ _,hs1⟩) ?_)
 ·rintro k c st' hk1 hk2 ⟨rfl,ys,rfl,hw,hsr⟩
  have sz:ys.size=(arrOf st).size:=hw.perm.size_eq
  have hi0:IntKeys ys:=qD h0 hw.perm
  dsimp only
  refine bH (iz (pQ (I:=fun x c st'=>st'=cJ st ys/\∃ l r,c=(none,l,r)/\l<=r/\r<=k/\r-l<=k-x/\(∀ i,i<l->K ys (lo+i)<=K ys (lo+k))/\∀ i,r<=i->i<k->K ys (lo+k)<K ys (lo+i))
   (Q:=fun c st'=>st'=cJ st ys/\∃ l r,c=(none,l,r)/\l=r/\r<=k/\(∀ i,i<l->K ys (lo+i)<=K ys (lo+k))/\∀ i,r<=i->i<k->K ys (lo+k)<K ys (lo+i)) ?_ ?_ ⟨rfl,0,k,rfl,cY _,bV _,by lia,fun i hi=>by lia,fun i h1 h2=>by lia⟩) ?_)
  ·rintro x c st' _ hx ⟨rfl,l,r,rfl,g1,g2,g3,g4,g5⟩
   dsimp only
   by_cases hge:l>=r
   ·rw [if_pos hge]
    exact cG ⟨rfl,l,r,rfl,by lia,g2,g4,g5⟩
   ·rw [if_neg hge]
    refine bH (DQ (st:=cJ st ys) hk hi0 (by show lo+k<ys.size;lia) (by show lo+(l+r) / 2<ys.size;lia) ?_)
    dsimp only
    show wpS _ _ _ _ (if decide (K ys (lo+k)<K ys (lo+(l+r) / 2))=true then _ else _) _ _
    by_cases hl:K ys (lo+k)<K ys (lo+(l+r) / 2)
    ·rw [if_pos (decide_eq_true hl)]
     refine cG ⟨rfl,l,(l+r) / 2,rfl,by lia,by lia,by lia,g4,fun i h1 h2=>?_⟩
     exact Int.lt_of_lt_of_le hl (hsr (lo+(l+r) / 2) (lo+i) tb_g% tb_g% tb_g%)
    ·rw [if_neg (by simpa using hl)]
     refine cG ⟨rfl,(l+r) / 2+1,r,rfl,by lia,g2,by lia,fun i h1=>?_,g5⟩
     exact lQ (hsr (lo+i) (lo+(l+r) / 2) tb_g% tb_g% tb_g%) (Dp.mp hl)
  ·rintro c st' ⟨rfl,l,r,rfl,g1,g2,g3,g4,g5⟩
   exact ⟨rfl,l,r,rfl,by lia,g2,g4,g5⟩
  ·rintro c st' ⟨rfl,l,r,rfl,rfl,g2,g4,g5⟩
   dsimp only
   show wpS _ _ _ _ (moveDown' (lo+k) (lo+l) >>= _) _ _
   rw [moveDown'_eq]
   refine bH (qU (cG ⟨rfl,bubble ys (lo+k) (lo+k-(lo+l)),rfl,hw.trans ⟨bubble_perm _ _ _,fun i hi=>?_⟩,fun i j h1 h2 h3=>?_⟩))
   ·rw [aeo tb_g% _ tb_g%,if_neg tb_g%,if_neg tb_g%]
   ·rw [K_bubble tb_g% tb_g%,K_bubble tb_g% tb_g%]
    have e:lo+k-(lo+k-(lo+l))=lo+l:=by lia
    rw [e]
    by_cases a1:i=lo+l
    ·rw [if_pos a1]
     by_cases b1:j=lo+l
     ·rw [if_pos b1];exact eE _
     ·rw [if_neg b1,if_pos tb_g%]
      have:=g5 (j-1-lo) tb_g% tb_g%
      rw [show lo+(j-1-lo)=j-1 by lia] at this
      exact Dl this
    ·rw [if_neg a1]
     by_cases a2:lo+l<i/\i<=lo+k
     ·rw [if_pos a2,if_neg tb_g%,if_pos tb_g%]
      exact hsr (i-1) (j-1) tb_g% tb_g% tb_g%
     ·rw [if_neg a2]
      by_cases b1:j=lo+l
      ·rw [if_pos b1]
       have:=g4 (i-lo) tb_g%
       rw [show lo+(i-lo)=i by lia] at this
       exact this
      ·rw [if_neg b1]
       by_cases b2:lo+l<j/\j<=lo+k
       ·rw [if_pos b2];exact hsr i (j-1) tb_g% tb_g% tb_g%
       ·rw [if_neg b2];exact hsr i j tb_g% tb_g% tb_g%
 ·rintro c st' ⟨rfl,ys,rfl,hw,hsr⟩
  refine ⟨rfl,ys,rfl,hw,?_⟩
  by_cases hn:n=0
  ·intro i j h1 h2 h3;lia
  ·rw [show max (max ok 1) n=n by lia] at hsr;exact hsr
 ·rintro c st' ⟨rfl,ys,rfl,hw,hsr⟩
  exact cG (h ys hw hsr)
theorem aaK {lo nrem:Nat} {st:SortSt} {Q:Option Nat->SortSt->Prop} (hk:kindOf st=kd0) (h0:IntKeys (arrOf st)) (hz:lo+nrem<=(arrOf st).size) (h1:1<=nrem)
  (h:∀ n ys,1<=n->n<=nrem->(∀ q,q<=nrem->Srt (arrOf st) lo (lo+q)->q<=n)->Within (arrOf st) ys lo (lo+nrem)->Srt ys lo (lo+n)->Q (some n) (cJ st ys)):wpS (model prog w) A E s (countRun' lo nrem) Q st:=by
 refine bH (iz (pQ (I:=fun x c st'=>st'=st/\c=(none,x)/\Srt (arrOf st) lo (lo+x))
  (Q:=fun c st'=>st'=st/\∃ n,c=(none,n)/\1<=n/\n<=nrem/\Srt (arrOf st) lo (lo+n)/\(n<nrem->K (arrOf st) (lo+n)<K (arrOf st) (lo+n-1))) ?_ ?_ ⟨rfl,rfl,fun i j g1 g2 g3=>by
   have:i=j:=by lia
   rw [this];exact eE _⟩) ?_)
 ·rintro x c st' hx1 hx2 ⟨rfl,rfl,hs⟩
  dsimp only
  refine bH (DQ hk h0 tb_g% tb_g% ?_)
  dsimp only
  by_cases hl:K (arrOf st') (lo+x)<K (arrOf st') (lo+x-1)
  ·rw [if_pos (decide_eq_true hl)]
   exact cG ⟨rfl,x,rfl,hx1,by lia,hs,fun _=>hl⟩
  ·rw [if_neg (by simpa using hl)]
   refine cG ⟨rfl,rfl,fun i j g1 g2 g3=>?_⟩
   by_cases e:j<lo+x
   ·exact hs i j g1 g2 e
   ·have ej:j=lo+x:=by lia
    subst ej
    by_cases e2:i=lo+x
    ·rw [e2];exact eE _
    ·exact lQ (hs i (lo+x-1) g1 tb_g% tb_g%) (Dp.mp hl)
 ·rintro c st' ⟨rfl,rfl,hs⟩
  rw [show max 1 nrem=nrem by lia] at hs ⊢
  exact ⟨rfl,nrem,rfl,h1,bV _,hs,fun z=>absurd z (pP _)⟩
 ·rintro c st' ⟨rfl,n,rfl,n1,n2,hs,hlt⟩
  k_dat (r0,hr0) "b"
  subst hr0
  k_dat (n0,hn0) "b"
  subst hn0
  have hq0:∀ q,q<=nrem->Srt (arrOf st') lo (lo+q)->q<=n0:=fun q g1 g2=>O7.mp fun z=>by
   have:=hlt tb_g%
   have:=g2 (lo+n0-1) (lo+n0) tb_g% tb_g% tb_g%
   lia
  show wpS _ _ _ _ (if (n0 == nrem)=true then _ else _) Q st'
  by_cases hn:n0=nrem
  ·rw [if_pos (by simpa using hn)]
   exact cG (h n0 (arrOf st') n1 n2 hq0 (Within.refl _ _ _) hs)
  rw [if_neg (by simpa using hn)]
  have hlt':=hlt tb_g%
  k_dat (jp,hjp) "b"
  have key:∀ (u:PUnit) (ys:Array Keyed),Within (arrOf st') ys lo (lo+nrem)->(∀ i,lo<=i->i<lo+n0->K ys i=K ys (lo+n0-1))->K ys (lo+n0)<K ys (lo+n0-1)->wpS (model prog w) A E s (jp u) Q (cJ st' ys):=by
   intro u ys hw heq hless
   rw [hjp]
   refine bH (yX (ou ⟨rfl,?_⟩))
   k_dat (n,hn') "b"
   k_dat (neq,hneq) "b"
   subst hneq
   refine bH (iz (pQ (I:=fun x c st2=>∃ zs q,c=(none,x,q)/\st2=cJ st' zs/\Within (arrOf st') zs lo (lo+nrem)/\q+1<x/\(∀ i j,lo<=i->i<=j->j<lo+x->K zs j<=K zs i)/\(∀ i,lo+x-(q+1)<=i->i<lo+x->K zs i=K zs (lo+x-1)))
    (Q:=fun c st2=>∃ zs x q,c=(none,x,q)/\n<=x/\x<=nrem/\st2=cJ st' zs/\Within (arrOf st') zs lo (lo+nrem)/\q+1<x/\(∀ i j,lo<=i->i<=j->j<lo+x->K zs j<=K zs i)/\(∀ i,lo+x-(q+1)<=i->i<lo+x->K zs i=K zs (lo+x-1))) ?_ ?_ ?_) ?_)
   ·rintro x c st2 hx1 hx2 ⟨zs,q,rfl,rfl,w2,q1,q2,q3⟩
    have sz:zs.size=(arrOf st').size:=w2.perm.size_eq
    have hi0:IntKeys zs:=qD h0 w2.perm
    dsimp only
    refine bH (DQ (st:=cJ st' zs) hk hi0 (by show lo+x<zs.size;lia) (by show lo+x-1<zs.size;lia) ?_)
    dsimp only
    show wpS _ _ _ _ (if decide (K zs (lo+x)<K zs (lo+x-1))=true then _ else _) _ _
    by_cases hl:K zs (lo+x)<K zs (lo+x-1)
    ·rw [if_pos (decide_eq_true hl)]
     have ext:∀ vs:Array Keyed,(∀ i,K vs i=K zs i)->(∀ i j,lo<=i->i<=j->j<lo+(x+1)->K vs j<=K vs i):=fun vs hv i j g1 g2 g3=>by
      rw [hv,hv]
      by_cases e:j<lo+x
      ·exact q2 i j g1 g2 e
      ·have ej:j=lo+x:=by lia
       subst ej
       by_cases e2:i=lo+x
       ·rw [e2];exact eE _
       ·exact lQ (Dl hl) (q2 i (lo+x-1) g1 tb_g% tb_g%)
     have one:∀ vs:Array Keyed,∀ i,lo+(x+1)-(0+1)<=i->i<lo+(x+1)->K vs i=K vs (lo+(x+1)-1):=fun vs i g1 g2=>by
      have:i=lo+(x+1)-1:=by lia
      rw [this]
     by_cases hq:q>0
     ·rw [if_pos hq]
      have me:=K_mirror_equal (xs:=zs) (i:=lo+x-(q+1)) (j:=lo+x) tb_g% (fun k g1 g2=>q3 k g1 g2)
      show wpS _ _ _ _ (Ph (lo+x-(q+1)) (lo+x) >>= _) _ _
      rw [O9]
      refine bH (qU (cG ⟨yZ zs (lo+x-(q+1)) (lo+x) ((lo+x-(lo+x-(q+1))) / 2),0,rfl,rfl,w2.trans ⟨Pq _ _ _ _,fun i hi=>?_⟩,by lia,ext _ me,one _⟩))
      rw [HN tb_g%,if_neg tb_g%]
     ·rw [if_neg hq]
      exact cG ⟨zs,0,rfl,rfl,w2,by lia,ext zs (fun _=>rfl),one zs⟩
    ·rw [if_neg (by simpa using hl)]
     refine bH (DQ (st:=cJ st' zs) hk hi0 (by show lo+x-1<zs.size;lia) (by show lo+x<zs.size;lia) ?_)
     dsimp only
     show wpS _ _ _ _ (if decide (K zs (lo+x-1)<K zs (lo+x))=true then _ else _) _ _
     by_cases hl2:K zs (lo+x-1)<K zs (lo+x)
     ·rw [if_pos (decide_eq_true hl2)]
      exact cG ⟨zs,x,q,rfl,hx1,by lia,rfl,w2,q1,q2,q3⟩
     ·rw [if_neg (by simpa using hl2)]
      have heq2:K zs (lo+x)=K zs (lo+x-1):=by lia
      refine cG ⟨zs,q+1,rfl,rfl,w2,by lia,fun i j g1 g2 g3=>?_,fun i g1 g2=>?_⟩
      ·by_cases e:j<lo+x
       ·exact q2 i j g1 g2 e
       ·have ej:j=lo+x:=by lia
        subst ej
        by_cases e2:i=lo+x
        ·rw [e2];exact eE _
        ·rw [heq2];exact q2 i (lo+x-1) g1 tb_g% tb_g%
      ·rw [show lo+(x+1)-1=lo+x by lia]
       by_cases e:i=lo+x
       ·rw [e]
       ·rw [heq2];exact q3 i tb_g% tb_g%
   ·rintro c st2 ⟨zs,q,rfl,rfl,w2,q1,q2,q3⟩
    have e:max n nrem=nrem:=by lia
    rw [e] at q1 q2 q3 ⊢
    exact ⟨zs,nrem,q,rfl,by lia,bV _,rfl,w2,q1,q2,q3⟩
   ·refine ⟨ys,0,rfl,rfl,hw,by lia,fun i j g1 g2 g3=>?_,fun i g1 g2=>?_⟩
    ·subst hn'
     by_cases e:j<lo+n0
     ·rw [heq i g1 tb_g%,heq j tb_g% e];exact eE _
     ·have ej:j=lo+n0:=by lia
      subst ej
      by_cases e2:i=lo+n0
      ·rw [e2];exact eE _
      ·rw [heq i g1 tb_g%];exact Dl hless
    ·have:i=lo+n-1:=by lia
     rw [this]
   ·rintro c st2 ⟨zs,x,q,rfl,hx1,hx2,rfl,w2,q1,q2,q3⟩
    k_dat (r2,hr2) "b"
    subst hr2
    k_dat (s2,hs2) "b"
    subst hs2
    k_dat (n2',hn2') "b"
    have hn3:x=n2':=hn2'.symm
    subst hn3
    k_dat (neq2,hneq2) "b"
    have hn4:q=neq2:=hneq2.symm
    subst hn4
    walk_at "f"
    k_dat (jp2,hjp2) "b"
    have fin:∀ (u:PUnit) (vs:Array Keyed),Within (arrOf st') vs lo (lo+nrem)->(∀ i j,lo<=i->i<=j->j<lo+x->K vs j<=K vs i)->wpS (model prog w) A E s (jp2 u) Q (cJ st' vs):=by
     intro u vs w3 dec
     rw [hjp2]
     have sz:vs.size=(arrOf st').size:=w3.perm.size_eq
     show wpS _ _ _ _ (Ph lo (lo+x) >>= _) _ _
     rw [O9]
     refine bH (qU ?_)
     have w4:Within (arrOf st') (yZ vs lo (lo+x) ((lo+x-lo) / 2)) lo (lo+nrem):=w3.trans ⟨Pq _ _ _ _,fun i hi=>by rw [HN tb_g%,if_neg tb_g%]⟩
     have s4:Srt (yZ vs lo (lo+x) ((lo+x-lo) / 2)) lo (lo+x):=fun i j g1 g2 g3=>by
      rw [K_mirror tb_g%,K_mirror tb_g%,if_pos tb_g%,if_pos tb_g%]
      exact dec _ _ tb_g% tb_g% tb_g%
     show wpS _ _ _ _ _ Q (cJ st' (yZ vs lo (lo+x) ((lo+x-lo) / 2)))
     generalize yZ vs lo (lo+x) ((lo+x-lo) / 2)=us at w4 s4 ⊢
     have sz4:us.size=(arrOf st').size:=w4.perm.size_eq
     have hi4:IntKeys us:=qD h0 w4.perm
     refine bH (iz (pQ (I:=fun y c st3=>st3=cJ st' us/\c=(none,y)/\Srt us lo (lo+y))
      (Q:=fun c st3=>st3=cJ st' us/\∃ m,c=(none,m)/\x<=m/\m<=nrem/\Srt us lo (lo+m)) ?_ ?_ ⟨rfl,rfl,s4⟩) ?_)
     ·rintro y c st3 hy1 hy2 ⟨rfl,rfl,hs5⟩
      dsimp only
      refine bH (DQ (st:=cJ st' us) hk hi4 (by show lo+y<us.size;lia) (by show lo+y-1<us.size;lia) ?_)
      dsimp only
      show wpS _ _ _ _ (if decide (K us (lo+y)<K us (lo+y-1))=true then _ else _) _ _
      by_cases hl:K us (lo+y)<K us (lo+y-1)
      ·rw [if_pos (decide_eq_true hl)]
       exact cG ⟨rfl,y,rfl,by lia,by lia,hs5⟩
      ·rw [if_neg (by simpa using hl)]
       refine cG ⟨rfl,rfl,fun i j g1 g2 g3=>?_⟩
       by_cases e:j<lo+y
       ·exact hs5 i j g1 g2 e
       ·have ej:j=lo+y:=by lia
        subst ej
        by_cases e2:i=lo+y
        ·rw [e2];exact eE _
        ·exact lQ (hs5 i (lo+y-1) g1 tb_g% tb_g%) (Dp.mp hl)
     ·rintro c st3 ⟨rfl,rfl,hs5⟩
      rw [show max x nrem=nrem by lia] at hs5 ⊢
      exact ⟨rfl,nrem,rfl,hx2,bV _,hs5⟩
     ·rintro c st3 ⟨rfl,m,rfl,m1,m2,hs5⟩
      exact cG (h m us tb_g% m2 (fun z g1 g2=>jL (hq0 z g1 g2) tb_g%) w4 hs5)
    have sz:zs.size=(arrOf st').size:=w2.perm.size_eq
    by_cases hq:q>0
    ·rw [if_pos hq]
     have me:=K_mirror_equal (xs:=zs) (i:=lo+x-(q+1)) (j:=lo+x) tb_g% (fun k g1 g2=>q3 k g1 g2)
     show wpS _ _ _ _ (Ph (lo+x-(q+1)) (lo+x) >>= _) _ _
     rw [O9]
     refine bH (qU (fin _ _ (w2.trans ⟨Pq _ _ _ _,fun i hi=>?_⟩) fun i j g1 g2 g3=>?_))
     ·rw [HN (by show lo+x<=zs.size;lia),if_neg tb_g%]
     ·rw [me,me];exact q2 i j g1 g2 g3
    ·rw [if_neg hq]
     exact fin _ zs w2 q2
  by_cases hn1:n0>1
  ·rw [if_pos hn1]
   refine bH (DQ hk h0 tb_g% tb_g% ?_)
   dsimp only
   by_cases hl:K (arrOf st') lo<K (arrOf st') (lo+n0-1)
   ·rw [if_pos (decide_eq_true hl)]
    exact cG (h n0 (arrOf st') n1 n2 hq0 (Within.refl _ _ _) hs)
   ·rw [if_neg (by simpa using hl)]
    have alike:∀ i,lo<=i->i<lo+n0->K (arrOf st') i=K (arrOf st') (lo+n0-1):=fun i g1 g2=>by
     have a1:=hs lo i (bV _) g1 g2
     have a2:=hs i (lo+n0-1) g1 tb_g% tb_g%
     lia
    have me:=K_mirror_equal (xs:=arrOf st') (i:=lo) (j:=lo+n0) tb_g% alike
    show wpS _ _ _ _ (Ph lo (lo+n0) >>= _) _ _
    rw [O9]
    refine bH (qU (key _ _ ⟨Pq _ _ _ _,fun i hi=>?_⟩ (fun i g1 g2=>?_) ?_))
    ·rw [HN tb_g%,if_neg tb_g%]
    ·rw [me,me];exact alike i g1 g2
    ·rw [me,me];exact hlt'
  ·rw [if_neg hn1]
   refine key _ (arrOf st') (Within.refl _ _ _) (fun i g1 g2=>?_) hlt'
   rw [show i=lo+n0-1 by lia]
end
noncomputable def kv (p:Keyed):Int:=Rk.R p
noncomputable def Asc (l:List Keyed):Prop:=l.Pairwise fun x y=>kv x<=kv y
structure Mg (A B out ra rb:List Keyed):Prop where
 perm:(out++(ra++rb)).Perm (A++B)
 srt:Asc out
 sa:Asc ra
 sb:Asc rb
 le:∀ x∈out,∀ y∈ra++rb,kv x<=kv y
theorem SM {l:List Keyed} {x:Keyed} (h:Asc l) (hx:∀ y∈l,kv y<=kv x):Asc (l++[x]) :=
 vp.mpr ⟨h,List.pairwise_singleton _ _,fun a ha b hb=>by rw [eZ.mp hb];exact hx a ha⟩
theorem Mg.ajm {A B out ra rb:List Keyed} {x:Keyed} (h:Mg A B out (x::ra) rb) (hx:∀ y∈rb,kv x<=kv y):Mg A B (out++[x]) ra rb where
 perm:=by have:=h.perm;rw [lE];exact this
 srt:=SM h.srt fun y hy=>h.le y hy x (by simp)
 sa:=(iH.mp h.sa).2
 sb:=h.sb
 le:=fun y hy z hz=>by
  rcases d9.mp hy with m | m
  ·exact h.le y m z (by rcases d9.mp hz with q | q <;> simp [q])
  ·rw [eZ.mp m]
   rcases d9.mp hz with q | q
   ·exact (iH.mp h.sa).1 z q
   ·exact hx z q
theorem Mg.af8 {A B out ra rb:List Keyed} {x:Keyed} (h:Mg A B out ra (x::rb)) (hx:∀ y∈ra,kv x<=kv y):Mg A B (out++[x]) ra rb where
 perm:=by
  refine List.Perm.trans ?_ h.perm
  rw [lE]
  exact Ie _ (Vw (l₁:=ra) (l₂:=rb) (a:=x)).symm
 srt:=SM h.srt fun y hy=>h.le y hy x (by simp)
 sa:=h.sa
 sb:=(iH.mp h.sb).2
 le:=fun y hy z hz=>by
  rcases d9.mp hy with m | m
  ·exact h.le y m z (by rcases d9.mp hz with q | q <;> simp [q])
  ·rw [eZ.mp m]
   rcases d9.mp hz with q | q
   ·exact hx z q
   ·exact (iH.mp h.sb).1 z q
structure jF (A B out:List Keyed):Prop where
 perm:out.Perm (A++B)
 srt:Asc out
theorem Mg.af9 {A B out ra rb:List Keyed} (h:Mg A B out ra rb) (hx:∀ x∈ra,∀ y∈rb,kv x<=kv y):jF A B (out++ra++rb) :=
 ⟨by rw [lE];exact h.perm,by
  rw [lE]
  exact vp.mpr ⟨h.srt,vp.mpr ⟨h.sa,h.sb,hx⟩,h.le⟩⟩
theorem Mg.aga {A B out ra rb:List Keyed} (h:Mg A B out ra rb) (hx:∀ x∈rb,∀ y∈ra,kv x<=kv y):jF A B (out++rb++ra) :=
 ⟨by rw [lE];exact (Ie _ adf).trans h.perm,by
  rw [lE]
  exact vp.mpr ⟨h.srt,vp.mpr ⟨h.sb,h.sa,hx⟩,fun x m y n=>h.le x m y (by rcases d9.mp n with q | q <;> simp [q])⟩⟩
theorem Mg.start {A B:List Keyed} {x:Keyed} {rb:List Keyed} (ha:Asc A) (hb:Asc B) (e:B=x::rb) (hx:∀ y∈A,kv x<=kv y):Mg A B [x] A rb:=by
 have h0:Mg A B [] A B:=⟨WW _,List.Pairwise.nil,ha,hb,fun _ h=>(nomatch h)⟩
 rw [e] at h0
 have:=h0.af8 hx
 rw [<- e] at this
 exact this
structure Mh (A B out ra rb:List Keyed):Prop where
 perm:(ra++(rb++out)).Perm (A++B)
 srt:Asc out
 sa:Asc ra
 sb:Asc rb
 le:∀ x∈ra++rb,∀ y∈out,kv x<=kv y
theorem Bl {l:List Keyed} {x:Keyed} (h:Asc (l++[x])):Asc l/\∀ y∈l,kv y<=kv x:=by
 obtain ⟨a,_,b⟩:=vp.mp h
 exact ⟨a,fun y hy=>b y hy x (by simp)⟩
theorem Mh.ajm {A B out ra rb:List Keyed} {x:Keyed} (h:Mh A B out (ra++[x]) rb) (hx:∀ y∈rb,kv y<=kv x):Mh A B (x::out) ra rb where
 perm:=by
  refine List.Perm.trans ?_ h.perm
  rw [lE]
  exact Ie _ (Vw (l₁:=rb) (l₂:=out) (a:=x))
 srt:=iH.mpr ⟨fun y hy=>h.le x (by simp) y hy,h.srt⟩
 sa:=(Bl h.sa).1
 sb:=h.sb
 le:=fun y hy z hz=>by
  rcases bN.mp hz with m | m
  ·rw [m]
   rcases d9.mp hy with q | q
   ·exact (Bl h.sa).2 y q
   ·exact hx y q
  ·exact h.le y (by rcases d9.mp hy with q | q <;> simp [q]) z m
theorem Mh.af8 {A B out ra rb:List Keyed} {x:Keyed} (h:Mh A B out ra (rb++[x])) (hx:∀ y∈ra,kv y<=kv x):Mh A B (x::out) ra rb where
 perm:=by
  refine List.Perm.trans (akb ?_) h.perm
  simp
 srt:=iH.mpr ⟨fun y hy=>h.le x (by simp) y hy,h.srt⟩
 sa:=h.sa
 sb:=(Bl h.sb).1
 le:=fun y hy z hz=>by
  rcases bN.mp hz with m | m
  ·rw [m]
   rcases d9.mp hy with q | q
   ·exact hx y q
   ·exact (Bl h.sb).2 y q
  ·exact h.le y (by rcases d9.mp hy with q | q <;> simp [q]) z m
theorem Mh.af9 {A B out ra rb:List Keyed} (h:Mh A B out ra rb) (hx:∀ x∈ra,∀ y∈rb,kv x<=kv y):jF A B (ra++rb++out) :=
 ⟨by rw [lE];exact h.perm,vp.mpr ⟨vp.mpr ⟨h.sa,h.sb,hx⟩,h.srt,h.le⟩⟩
theorem Mh.aga {A B out ra rb:List Keyed} (h:Mh A B out ra rb) (hx:∀ x∈rb,∀ y∈ra,kv x<=kv y):jF A B (rb++ra++out):=by
 refine ⟨?_,vp.mpr ⟨vp.mpr ⟨h.sb,h.sa,hx⟩,h.srt,fun x m y n=>h.le x (by rcases d9.mp m with q | q <;> simp [q]) y n⟩⟩
 refine List.Perm.trans ?_ h.perm
 rw [<- lE]
 exact aeV _ adf
theorem Jo {a:Array Keyed} {i:Nat} (h:i<a.toList.length):kv (a.toList[i])=K a i:=by
 unfold K kv
 have:a[i]? = some a.toList[i]:=by rw [<- iU];exact fY h
 rw [this]
theorem vV {a:Array Keyed} {i:Nat} {x:Keyed} (h:x∈a.toList.drop i):∃ j,i<=j/\j<a.size/\kv x=K a j:=by
 obtain ⟨j,hj,e⟩:=yL.mp h
 rw [Vu] at e
 rw [yN] at hj
 have hl:a.toList.length=a.size:=fW
 exact ⟨i+j,by lia,by lia,by rw [<- e];exact Jo tb_g%⟩
theorem vW {a:Array Keyed} {i:Nat} {x:Keyed} (h:x∈a.toList.take i):∃ j,j<i/\j<a.size/\kv x=K a j:=by
 obtain ⟨j,hj,e⟩:=yL.mp h
 rw [Om] at e
 rw [gU] at hj
 have hl:a.toList.length=a.size:=fW
 exact ⟨j,by lia,by lia,by rw [<- e];exact Jo tb_g%⟩
theorem fV {a:Array Keyed} {i:Nat} {x:Keyed} (h:a[i]? = some x):a.toList.drop i=x::a.toList.drop (i+1):=by
 rw [<- iU] at h
 obtain ⟨hi,e⟩:=jB.mp h
 rw [Hg hi,e]
theorem tM {a:Array Keyed} {i:Nat} {x:Keyed} (h:a[i]? = some x):a.toList.take (i+1)=a.toList.take i++[x]:=by
 rw [<- iU] at h
 rw [xO,h];rfl
theorem SN {a:Array Keyed} {i k:Nat}:a.toList.drop i=(a.extract i (i+k)).toList++a.toList.drop (i+k):=by
 rw [HJ,Hh,show i+k-i=k by lia,<- adz,CV]
theorem aaL {a:Array Keyed} {i k:Nat} {x:Keyed} (h:x∈(a.extract i k).toList):∃ j,i<=j/\j<k/\j<a.size/\kv x=K a j:=by
 rw [HJ,Hh] at h
 obtain ⟨j,hj,e⟩:=yL.mp h
 rw [Om,Vu] at e
 rw [gU,yN] at hj
 have hl:a.toList.length=a.size:=fW
 exact ⟨i+j,by lia,by lia,by lia,by rw [<- e];exact Jo tb_g%⟩
theorem Ge {a:Array Keyed} {i:Nat} {x:Keyed} (h:a[i]? = some x):kv x=K a i:=by unfold K kv;rw [h]
noncomputable def Lo (a b out:Array Keyed) (ia ib:Nat):Prop:=Mg a.toList b.toList out.toList (a.toList.drop ia) (b.toList.drop ib)
theorem Lo.b {a b out:Array Keyed} {ia ib:Nat} {x:Keyed} (h:Lo a b out ia ib) (e:b[ib]? = some x) (hx:∀ j,ia<=j->j<a.size->K b ib<=K a j):Lo a b (out.push x) ia (ib+1):=by
 unfold Lo at h ⊢
 rw [fV e] at h
 rw [yV]
 exact h.af8 fun y hy=>by obtain ⟨j,h1,h2,h3⟩:=vV hy;rw [Ge e,h3];exact hx j h1 h2
theorem Gg (a:Array Keyed) (i:Nat):(a.extract i a.size).toList=a.toList.drop i:=by
 rw [HJ,Hh]
 exact pL (by rw [yN,fW];lia)
theorem Lo.done {a b out:Array Keyed} {ia ib:Nat} (h:Lo a b out ia ib) (hx:∀ i j,ia<=i->i<a.size->ib<=j->j<b.size->K a i<=K b j):jF a.toList b.toList (out++a.extract ia a.size++b.extract ib b.size).toList:=by
 rw [Er,Er,Gg,Gg]
 exact Mg.af9 h fun x hx' y hy=>by
  obtain ⟨i,g1,g2,g3⟩:=vV hx'
  obtain ⟨j,h1,h2,h3⟩:=vV hy
  rw [g3,h3];exact hx i j g1 g2 h1 h2
theorem Lo.last {a b out:Array Keyed} {ia ib:Nat} (h:Lo a b out ia ib) (hx:∀ i j,ib<=i->i<b.size->ia<=j->j<a.size->K b i<=K a j):jF a.toList b.toList (out++b.extract ib b.size++a.extract ia a.size).toList:=by
 rw [Er,Er,Gg,Gg]
 exact Mg.aga h fun x hx' y hy=>by
  obtain ⟨i,g1,g2,g3⟩:=vV hx'
  obtain ⟨j,h1,h2,h3⟩:=vV hy
  rw [g3,h3];exact hx i j g1 g2 h1 h2
noncomputable def Hi (a b out:Array Keyed) (na nb:Nat):Prop:=Mh a.toList b.toList out.toList.reverse (a.toList.take na) (b.toList.take nb)
theorem Hi.a {a b out:Array Keyed} {na nb:Nat} {x:Keyed} (h:Hi a b out (na+1) nb) (e:a[na]? = some x) (hx:∀ j,j<nb->j<b.size->K b j<=K a na):Hi a b (out.push x) na nb:=by
 unfold Hi at h ⊢
 rw [tM e] at h
 rw [yV,List.reverse_append,List.reverse_singleton,List.singleton_append]
 exact h.ajm fun y hy=>by obtain ⟨j,h1,h2,h3⟩:=vW hy;rw [Ge e,h3];exact hx j h1 h2
theorem Bm (a:Array Keyed) (i:Nat):(a.extract 0 i).toList=a.toList.take i:=by
 rw [HJ,Hh];rfl
theorem Hi.done {a b out:Array Keyed} {na nb:Nat} (h:Hi a b out na nb) (hx:∀ i j,i<na->i<a.size->j<nb->j<b.size->K a i<=K b j):jF a.toList b.toList (a.extract 0 na++b.extract 0 nb++out.reverse).toList:=by
 rw [Er,Er,Bm,Bm,ad7]
 exact Mh.af9 h fun x hx' y hy=>by
  obtain ⟨i,g1,g2,g3⟩:=vW hx'
  obtain ⟨j,h1,h2,h3⟩:=vW hy
  rw [g3,h3];exact hx i j g1 g2 h1 h2
theorem Hi.first {a b out:Array Keyed} {na nb:Nat} (h:Hi a b out na nb) (hx:∀ i j,i<nb->i<b.size->j<na->j<a.size->K b i<=K a j):jF a.toList b.toList (b.extract 0 nb++a.extract 0 na++out.reverse).toList:=by
 rw [Er,Er,Bm,Bm,ad7]
 exact Mh.aga h fun x hx' y hy=>by
  obtain ⟨i,g1,g2,g3⟩:=vW hx'
  obtain ⟨j,h1,h2,h3⟩:=vW hy
  rw [g3,h3];exact hx i j g1 g2 h1 h2
theorem QD {a:Array Keyed} (h:Srt a 0 a.size):Asc a.toList:=by
 refine Hf.mpr fun i j hi hj hij=>?_
 rw [Jo hi,Jo hj]
 exact h i j (cY _) (mG hij) (by rw [<- fW];exact hj)
theorem Lo.start {a b:Array Keyed} (ha:Srt a 0 a.size) (hb:Srt b 0 b.size):Lo a b #[] 0 0 :=
 ⟨WW _,List.Pairwise.nil,QD ha,QD hb,fun _ h=>(nomatch h)⟩
theorem Hi.start {a b:Array Keyed} (ha:Srt a 0 a.size) (hb:Srt b 0 b.size):Hi a b #[] a.size b.size:=by
 have e1:a.toList.take a.size=a.toList:=pL (by rw [fW];exact bV _)
 have e2:b.toList.take b.size=b.toList:=pL (by rw [fW];exact bV _)
 unfold Hi
 rw [e1,e2]
 exact ⟨by simp,List.Pairwise.nil,QD ha,QD hb,fun _ _ _ h=>(nomatch h)⟩
noncomputable def mlo:Array Keyed->Array Keyed->StateT SortSt Sem (Array Keyed):=sortPriv% PySem.Builtin.mergeLo
section
variable {prog:aO} {w:World} {A:bA} {E:Value->Shared->Prop} {s:Shared}
theorem nO {α:Type} {c:Prop} [Decidable c] {x y:StateT SortSt Sem α} {Q:α->SortSt->Prop} {st:SortSt} (hc:c) (h:wpS (model prog w) A E s x Q st):wpS (model prog w) A E s (if c then x else y) Q st:=by rw [if_pos hc];exact h
theorem jw {α:Type} {c:Prop} [Decidable c] {x y:StateT SortSt Sem α} {Q:α->SortSt->Prop} {st:SortSt} (hc:¬ c) (h:wpS (model prog w) A E s y Q st):wpS (model prog w) A E s (if c then x else y) Q st:=by rw [if_neg hc];exact h
end
section
variable {prog:aO} {w:World} {A:bA} {E:Value->Shared->Prop} {s:Shared} [Rl prog w A E s]
noncomputable abbrev setG (st:SortSt) (g:Nat):SortSt:=zp (kindOf st) (arrOf st) (cF st) g (jC st)
theorem ah0 {a b:Array Keyed} {st:SortSt} {Q:Array Keyed->SortSt->Prop} (hk:kindOf st=kd0) (ka:IntKeys a) (kb:IntKeys b) (sa:Srt a 0 a.size) (sb:Srt b 0 b.size) (na:1<=a.size) (nb:b.size=1)
  (hF:∀ i,i<a.size->K b 0<=K a i) (hL:∀ j,j<b.size->K b j<=K a (a.size-1)) (h:∀ out g,jF a.toList b.toList out.toList->Q out (setG st g)) :
  wpS (model prog w) A E s (mlo a b) Q st:=by
 refine bH (yX (ou ⟨rfl,?_⟩))
 k_dat (total,htot) "b"
 k_dat (done,hdone) "b"
 k_dat (lastOfA,ajn) "b"
 have ea:∀ i,i<a.size->∃ (t:Keyed) (_:Is t (K a i)),a[i]? = some t:=fun i hi=>zJ ka hi
 have eb:∀ i,i<b.size->∃ (t:Keyed) (_:Is t (K b i)),b[i]? = some t:=fun i hi=>zJ kb hi
 have agb:∀ out ia ib,Lo a b out ia ib->(b.size<=ib\/a.size<=ia)->jF a.toList b.toList (done out ia ib).toList:=fun out ia ib hl hc=>by
  rw [hdone];exact hl.done fun i j h1 h2 h3 h4=>by lia
 have flast:∀ out ia ib,Lo a b out ia ib->ia+1=a.size->jF a.toList b.toList (lastOfA out ia ib).toList:=fun out ia ib hl hc=>by
  rw [ajn];exact hl.last fun i j h1 h2 h3 h4=>by
   have:j=a.size-1:=by lia
   subst this;exact hL i h2
 clear hdone ajn
 obtain ⟨t0,q0,e0⟩:=eb 0 tb_g%
 refine bH (vU e0 ?_)
 k_dat (agc,agd) "b"
 k_dat (ia0,hia0) "b"
 k_dat (ib0,hib0) "b"
 have hLo:Lo a b agc ia0 ib0:=by
  subst agd hia0 hib0
  exact (Lo.start sa sb).b e0 fun j _ hj=>hF j hj
 by_cases c1:ib0=b.size
 ·refine nO (by simpa using c1) ?_
  exact cG (h _ (HX st) (agb _ _ _ hLo (.inl tb_g%)))
 refine jw (by simpa using c1) ?_
 exact absurd tb_g% c1
end
noncomputable def mhi:Array Keyed->Array Keyed->StateT SortSt Sem (Array Keyed):=sortPriv% PySem.Builtin.mergeHi
section
variable {prog:aO} {w:World} {A:bA} {E:Value->Shared->Prop} {s:Shared} [Rl prog w A E s]
theorem Hi.a' {a b out:Array Keyed} {na nb:Nat} {x:Keyed} (h:Hi a b out na nb) (h0:0<na) (e:a[na-1]? = some x) (hx:∀ j,j<nb->j<b.size->K b j<=K a (na-1)):Hi a b (out.push x) (na-1) nb:=by
 refine Hi.a ?_ e hx
 rw [show na-1+1=na by lia];exact h
theorem ah1 {a b:Array Keyed} {st:SortSt} {Q:Array Keyed->SortSt->Prop} (hk:kindOf st=kd0) (ka:IntKeys a) (kb:IntKeys b) (sa:Srt a 0 a.size) (sb:Srt b 0 b.size) (na:1<=a.size) (nb:b.size=1)
  (hF:∀ i,i<a.size->K b 0<=K a i) (hL:∀ j,j<b.size->K b j<=K a (a.size-1)) (h:∀ out g,jF a.toList b.toList out.toList->Q out (setG st g)) :
  wpS (model prog w) A E s (mhi a b) Q st:=by
 refine bH (yX (ou ⟨rfl,?_⟩))
 k_dat (total,htot) "b"
 k_dat (done,hdone) "b"
 k_dat (firstOfB,hfirst) "b"
 have ea:∀ i,i<a.size->∃ (t:Keyed) (_:Is t (K a i)),a[i]? = some t:=fun i hi=>zJ ka hi
 have eb:∀ i,i<b.size->∃ (t:Keyed) (_:Is t (K b i)),b[i]? = some t:=fun i hi=>zJ kb hi
 have agb:∀ out na nb,Hi a b out na nb->(na=0\/nb=0)->jF a.toList b.toList (done out na nb).toList:=fun out na nb hl hc=>by
  rw [hdone];exact hl.done fun i j h1 h2 h3 h4=>by lia
 have alD:∀ out na nb,Hi a b out na nb->nb=1->jF a.toList b.toList (firstOfB out na nb).toList:=fun out na nb hl hc=>by
  rw [hfirst];exact hl.first fun i j h1 h2 h3 h4=>by
   have:i=0:=by lia
   subst this;exact hF j h4
 clear hdone hfirst
 k_dat (na0,hna0) "b"
 k_dat (nb0,hnb0) "b"
 obtain ⟨t0,q0,e0⟩:=ea na0 tb_g%
 refine bH (vU e0 ?_)
 k_dat (agc,agd) "b"
 have hHi:Hi a b agc na0 nb0:=by
  subst agd hnb0 hna0
  exact (Hi.start sa sb).a' tb_g% e0 fun j _ hj=>hL j hj
 by_cases c1:na0=0
 ·refine nO (by simpa using c1) ?_
  exact cG (h _ (HX st) (agb _ _ _ hHi (.inl c1)))
 refine jw (by simpa using c1) ?_
 by_cases c2:nb0=1
 ·refine nO (by simpa using c2) ?_
  exact cG (h _ (HX st) (alD _ _ _ hHi c2))
 refine jw (by simpa using c2) ?_
 exact absurd tb_g% c2
end
theorem aaM:∀ (l:List Keyed) (n p:Nat) (arr:Array Keyed),p+n+l.length<=arr.size ->
  ((l.zipIdx n).foldl (fun a (x:Keyed × Nat)=>a.setIfInBounds (p+x.2) x.1) arr).size=arr.size/\∀ i,((l.zipIdx n).foldl (fun a (x:Keyed × Nat)=>a.setIfInBounds (p+x.2) x.1) arr)[i]? = if p+n<=i/\i<p+n+l.length then l[i-(p+n)]? else arr[i]?
 | [],n,p,arr,h=>⟨rfl,fun i=>by rw [if_neg (by simp only [adx];lia)];rfl⟩
 | x::l,n,p,arr,h=>by
  rw [iI] at h
  have ih:=aaM l (n+1) p (arr.setIfInBounds (p+n) x) (by rw [ad4];lia)
  rw [List.zipIdx_cons,List.foldl_cons]
  refine ⟨ih.1.trans ad4,fun i=>?_⟩
  rw [ih.2 i,iI]
  by_cases h1:p+(n+1)<=i/\i<p+(n+1)+l.length
  ·rw [if_pos h1,if_pos tb_g%,show i-(p+n)=(i-(p+(n+1)))+1 by lia,Vi]
  ·rw [if_neg h1]
   by_cases h2:i=p+n
   ·subst h2
    rw [if_pos tb_g%,V6,List.getElem?_cons_zero,Array.getElem?_setIfInBounds_self,if_pos tb_g%]
   ·rw [if_neg tb_g%,Array.getElem?_setIfInBounds_ne tb_g%]
structure Put (arr R:Array Keyed) (p r:Nat) (m:List Keyed):Prop where
 size:R.size=arr.size
 at_:∀ i,R[i]? = if p<=i/\i<r then m[i-p]? else arr[i]?
theorem Put.list {arr R:Array Keyed} {p r:Nat} {m:List Keyed} (h:Put arr R p r m) (hr:r<=arr.size) (hm:p+m.length=r):R.toList=arr.toList.take p++(m++arr.toList.drop r):=by
 have hl:arr.toList.length=arr.size:=fW
 apply List.ext_getElem?
 intro i
 rw [iU,h.at_ i]
 by_cases h1:i<p
 ·rw [if_neg tb_g%,Eo (by rw [gU];lia),List.getElem?_take,if_pos h1,iU]
 ·rw [xK (by rw [gU];lia),gU,show min p arr.toList.length=p by lia]
  by_cases h2:i<r
  ·rw [if_pos tb_g%,Eo tb_g%]
  ·rw [if_neg tb_g%,xK tb_g%,List.getElem?_drop,show r+(i-p-m.length)=i by lia,iU]
theorem Mr {arr:Array Keyed} {p q i:Nat} (hq:q<=arr.size) (hi:p+i<q):K (arr.extract p q) i=K arr (p+i):=by
 unfold K
 rw [Array.getElem?_extract,if_pos tb_g%]
theorem Jp {arr:Array Keyed} {p q:Nat} (h:IntKeys arr):IntKeys (arr.extract p q):=fun x hx=>h x (by
 rw [HJ,Hh] at hx
 exact Hl (adh hx))
section
variable {prog:aO} {w:World} {A:bA} {E:Value->Shared->Prop} {s:Shared} [Rl prog w A E s]
theorem ah2 {σ:Type} {M:Model} {x:σ} {Q:PUnit->σ->Prop} {st:σ} (h:Q ⟨⟩ x):wpS M A E s (set x:StateT σ Sem PUnit) Q st:=by
 unfold wpS;rw [StateT.run_set];exact bC ⟨rfl,h⟩
noncomputable abbrev iZ (p:Array (Nat × Nat × Nat)) (i:Nat) (x:Nat × Nat × Nat):Array (Nat × Nat × Nat):=(p.setIfInBounds i x).eraseIdxIfInBounds (i+1)
theorem SQ {i sa na nb pw pw':Nat} {st:SortSt} {Q:Bool->SortSt->Prop} (hk:kindOf st=kd0) (hf:jC st=none) (h0:IntKeys (arrOf st))
  (e1:(cF st)[i]? = some (sa,na,pw)) (e2:(cF st)[i+1]? = some (sa+na,nb,pw')) (hna:1<=na) (hnb:nb=1) (hz:sa+na+nb<=(arrOf st).size)
  (S1:Srt (arrOf st) sa (sa+na)) (S2:Srt (arrOf st) (sa+na) (sa+na+nb))
  (h:∀ ys g,Within (arrOf st) ys sa (sa+na+nb)->Srt ys sa (sa+na+nb)->Q true (zp (kindOf st) ys (iZ (cF st) i (sa,na+nb,pw)) g none)) :
  wpS (model prog w) A E s (mergeAt' i) Q st:=by
 refine bH (lN ?_)
 rw [e1,e2]
 walk_at "f"
 refine bH (ah2 ?_)
 have ea:∀ i,i<(arrOf st).size->∃ (t:Keyed) (_:Is t (K (arrOf st) i)),(arrOf st)[i]? = some t:=fun i hi=>zJ h0 hi
 have h':∀ ys g,Within (arrOf st) ys sa (sa+na+nb)->Srt ys sa (sa+na+nb)->Q true (zp (kindOf st) ys (iZ (cF st) i (sa,na+nb,pw)) g (jC st)):=fun ys g a b=>by rw [hf];exact h ys g a b
 clear h
 show wpS _ _ _ _ _ _ (zp (kindOf st) (arrOf st) (iZ (cF st) i (sa,na+nb,pw)) (HX st) (jC st))
 generalize hst:zp (kindOf st) (arrOf st) (iZ (cF st) i (sa,na+nb,pw)) (HX st) (jC st)=st1
 have hk1:kindOf st1=kd0:=by rw [<- hst];exact hk
 have h1:∀ ys g,Within (arrOf st) ys sa (sa+na+nb)->Srt ys sa (sa+na+nb)->Q true (cJ (setG st1 g) ys):=fun ys g a b=>by rw [<- hst];exact h' ys g a b
 have h2:Srt (arrOf st) sa (sa+na+nb)->Q true st1:=fun b=>by rw [<- hst];exact h' _ _ (Within.refl _ _ _) b
 have ha1:arrOf st1=arrOf st:=by rw [<- hst]
 have hf1:jC st1=none:=by rw [<- hst];exact hf
 clear h' hst
 obtain ⟨t1,q1,k1⟩:=ea (sa+na) tb_g%
 refine bH (vU k1 ?_)
 refine bH (Jm hk1 (fun i h1 h2=>ea i tb_g%) tb_g% (fun i j h1 h2 h3=>?_) fun k hk1' hk2 hk3=>?_)
 ·simp only [bey,za,if_false,Wt,decide_eq_false_iff_not,Dp] at h3 ⊢
  exact lQ (S1 _ _ tb_g% tb_g% tb_g%) h3
 simp only [bey,za,if_false,Wt,Bool.not_eq_false',decide_eq_true_eq,decide_eq_false_iff_not,Dp] at hk2 hk3
 walk_at "f"
 by_cases c1:na-k=0
 ·refine nO (by simpa using c1) ?_
  refine cG (h2 fun i j g1 g2 g3=>?_)
  by_cases a1:j<sa+na
  ·exact S1 i j g1 g2 a1
  ·by_cases a2:sa+na<=i
   ·exact S2 i j a2 g2 g3
   ·have:=hk2 (i-sa) tb_g%
    rw [show sa+(i-sa)=i by lia] at this
    exact lQ this (S2 _ j (bV _) tb_g% g3)
 refine jw (by simpa using c1) ?_
 have kq:sa+k+(na-k)-1=sa+na-1:=by lia
 rw [kq]
 obtain ⟨t2,q2,k2⟩:=ea (sa+na-1) tb_g%
 refine bH (vU k2 ?_)
 refine bH (Jm hk1 (fun i h1 h2=>ea i tb_g%) tb_g% (fun i j h1 h2 h3=>?_) fun m hm1 hm2 hm3=>?_)
 ·simp only [bey,if_true,decide_eq_true_eq] at h3 ⊢
  exact Int.lt_of_le_of_lt (S2 _ _ tb_g% tb_g% tb_g%) h3
 simp only [bey,if_true,decide_eq_true_eq,decide_eq_false_iff_not,Dp] at hm2 hm3
 walk_at "f"
 by_cases c2:m=0
 ·refine nO (by simpa using c2) ?_
  refine cG (h2 fun i j g1 g2 g3=>?_)
  by_cases a1:j<sa+na
  ·exact S1 i j g1 g2 a1
  ·by_cases a2:sa+na<=i
   ·exact S2 i j a2 g2 g3
   ·have:=hm3 (j-(sa+na)) tb_g% tb_g%
    rw [show sa+na+(j-(sa+na))=j by lia] at this
    exact lQ (S1 i (sa+na-1) g1 tb_g% tb_g%) this
 refine jw (by simpa using c2) ?_
 k_dat (x,hx) "b"
 k_dat (y,hy) "b"
 k_dat (jp,hjp) "b"
 have xs:x.size=na-k:=by rw [hx,ad9];show min (sa+na) (arrOf st).size-(sa+k)=_;lia
 have ys:y.size=m:=by rw [hy,ad9];show min (sa+na+m) (arrOf st).size-(sa+na)=_;lia
 have Kx:∀ i,i<x.size->K x i=K (arrOf st) (sa+k+i):=fun i hi=>by rw [hx];exact Mr (arr:=arrOf st) tb_g% tb_g%
 have Ky:∀ i,i<y.size->K y i=K (arrOf st) (sa+na+i):=fun i hi=>by rw [hy];exact Mr (arr:=arrOf st) tb_g% tb_g%
 have key:∀ (out:Array Keyed) g,jF x.toList y.toList out.toList->wpS (model prog w) A E s (jp out) Q (setG st1 g):=by
  intro out g hm
  rw [hjp]
  refine bH (qU ?_)
  refine bH (lN (cG ?_))
  show Q (jC st1).isNone (cJ (setG st1 g) (VG (fun a (x:Keyed × Nat)=>a.setIfInBounds (sa+k+x.2) x.1) (arrOf st1) out.toList.zipIdx))
  rw [hf1,ha1]
  have ol:out.toList.length=na-k+m:=by rw [hm.perm.length_eq,dH,fW,fW,xs,ys]
  have hP:Put (arrOf st) (VG (fun a (x:Keyed × Nat)=>a.setIfInBounds (sa+k+x.2) x.1) (arrOf st) out.toList.zipIdx) (sa+k) (sa+na+m) out.toList:=by
   have:=aaM out.toList 0 (sa+k) (arrOf st) tb_g%
   rw [Dg,ol,show sa+k+(na-k+m)=sa+na+m by lia] at this
   exact ⟨this.1,this.2⟩
  generalize VG (fun a (x:Keyed × Nat)=>a.setIfInBounds (sa+k+x.2) x.1) (arrOf st) out.toList.zipIdx=R at hP ⊢
  have mid:∀ i,sa+k<=i->i<sa+na+m->∃ j,sa+k<=j/\j<sa+na+m/\K R i=K (arrOf st) j:=fun i g1 g2=>by
   have e:R[i]? = out.toList[i-(sa+k)]?:=by rw [hP.at_ i,if_pos ⟨g1,g2⟩]
   have hi:i-(sa+k)<out.toList.length:=by lia
   rw [fY hi] at e
   have mem:out.toList[i-(sa+k)]∈x.toList++y.toList:=hm.perm.mem_iff.mp (sX hi)
   have e':=Ge e
   rw [<- e']
   rcases d9.mp mem with z | z
   ·rw [hx] at z
    obtain ⟨j,j1,j2,j3,j4⟩:=aaL z
    exact ⟨j,j1,by lia,j4⟩
   ·rw [hy] at z
    obtain ⟨j,j1,j2,j3,j4⟩:=aaL z
    exact ⟨j,by lia,j2,j4⟩
  have abJ:∀ i,(i<sa+k\/sa+na+m<=i)->K R i=K (arrOf st) i:=fun i hi=>K_congr (by rw [hP.at_ i,if_neg tb_g%])
  have lowK:∀ i,sa<=i->i<sa+k->K (arrOf st) i<=K (arrOf st) (sa+na):=fun i g1 g2=>by
   have:=hk2 (i-sa) tb_g%
   rw [show sa+(i-sa)=i by lia] at this
   exact this
  have highK:∀ j,sa+na+m<=j->j<sa+na+nb->K (arrOf st) (sa+na-1)<=K (arrOf st) j:=fun j g1 g2=>by
   have:=hm3 (j-(sa+na)) tb_g% tb_g%
   rw [show sa+na+(j-(sa+na))=j by lia] at this
   exact this
  refine h1 R g ⟨V8.mpr ?_,fun i hi=>?_⟩ fun i j g1 g2 g3=>?_
  ·rw [hP.list tb_g% tb_g%]
   have e:(arrOf st).toList=(arrOf st).toList.take (sa+k)++((x.toList++y.toList)++(arrOf st).toList.drop (sa+na+m)):=by
    have d1:=SN (a:=arrOf st) (i:=sa+k) (k:=na-k)
    have d2:=SN (a:=arrOf st) (i:=sa+na) (k:=m)
    rw [show sa+k+(na-k)=sa+na by lia] at d1
    rw [d2] at d1
    conv=>lhs;rw [<- CV (sa+k) (arrOf st).toList,d1]
    rw [lE,hx,hy]
   conv=>rhs;rw [e]
   exact Ie _ (aeV _ hm.perm)
  ·rw [hP.at_ i,if_neg tb_g%]
  ·by_cases a1:i<sa+k
   ·rw [abJ i (.inl a1)]
    by_cases b1:j<sa+k
    ·rw [abJ j (.inl b1)];exact S1 i j g1 g2 tb_g%
    ·by_cases b2:j<sa+na+m
     ·obtain ⟨j',j1,j2,j3⟩:=mid j tb_g% b2
      rw [j3]
      by_cases b3:j'<sa+na
      ·exact S1 i j' g1 tb_g% b3
      ·exact lQ (lowK i g1 a1) (S2 _ j' (bV _) tb_g% tb_g%)
     ·rw [abJ j (.inr tb_g%)]
      exact lQ (lowK i g1 a1) (S2 _ j (bV _) tb_g% g3)
   ·by_cases a2:i<sa+na+m
    ·by_cases b2:j<sa+na+m
     ·have f:∀ i,sa+k<=i->i<sa+na+m->∃ hi:i-(sa+k)<out.toList.length,K R i=kv out.toList[i-(sa+k)]:=fun i g1 g2=>by
       have hi:i-(sa+k)<out.toList.length:=by lia
       have e:R[i]? = some out.toList[i-(sa+k)]:=by rw [hP.at_ i,if_pos ⟨g1,g2⟩,fY hi]
       exact ⟨hi,(Ge e).symm⟩
      obtain ⟨hi,ei⟩:=f i tb_g% a2
      obtain ⟨hj,ej⟩:=f j tb_g% b2
      rw [ei,ej]
      by_cases e:i=j
      ·subst e;exact eE _
      ·exact Hf.mp hm.srt _ _ hi hj tb_g%
     ·obtain ⟨i',i1,i2,i3⟩:=mid i tb_g% a2
      rw [i3,abJ j (.inr tb_g%)]
      by_cases b3:i'<sa+na
      ·exact lQ (S1 i' (sa+na-1) tb_g% tb_g% tb_g%) (highK j tb_g% g3)
      ·exact S2 i' j tb_g% tb_g% g3
    ·rw [abJ i (.inr tb_g%),abJ j (.inr tb_g%)]
     exact S2 i j tb_g% g2 g3
 have A1:IntKeys x:=by rw [hx];exact Jp h0
 have A2:IntKeys y:=by rw [hy];exact Jp h0
 have A3:Srt x 0 x.size:=fun i j g1 g2 g3=>by rw [Kx i tb_g%,Kx j g3];exact S1 _ _ tb_g% tb_g% tb_g%
 have A4:Srt y 0 y.size:=fun i j g1 g2 g3=>by rw [Ky i tb_g%,Ky j g3];exact S2 _ _ tb_g% tb_g% tb_g%
 have A5:∀ i,i<x.size->K y 0<=K x i:=fun i hi=>by
  rw [Kx i hi,Ky 0 tb_g%,Dg]
  have:=hk3 (k+i) tb_g% tb_g%
  rw [<- HB] at this
  exact Dl this
 have A6:∀ j,j<y.size->K y j<=K x (x.size-1):=fun j hj=>by
  rw [Ky j hj,Kx _ tb_g%,show sa+k+(x.size-1)=sa+na-1 by lia]
  exact Dl (hm2 j tb_g%)
 clear hjp
 split
 ·exact bH (ah0 hk1 A1 A2 A3 A4 tb_g% tb_g% A5 A6 fun out g hm=>key out g hm)
 ·exact bH (ah1 hk1 A1 A2 A3 A4 tb_g% tb_g% A5 A6 fun out g hm=>key out g hm)
end
noncomputable def Runs (arr:Array Keyed):Nat->List (Nat × Nat × Nat)->Nat->Prop
 | p,[],q=>p=q
 | p,x::r,q=>x.1=p/\1<=x.2.1/\Srt arr p (p+x.2.1)/\Runs arr (p+x.2.1) r q
theorem Runs.le {arr:Array Keyed}:∀ {l:List (Nat × Nat × Nat)} {p q:Nat},Runs arr p l q->p+l.length<=q
 | [],p,q,h=>by rw [show p=q from h];exact bV _
 | x::r,p,q,h=>by have:=Runs.le h.2.2.2;have:=h.2.1;rw [iI];lia
theorem Runs.app {arr:Array Keyed}:∀ {l r:List (Nat × Nat × Nat)} {p q:Nat},Runs arr p (l++r) q↔∃ m,Runs arr p l m/\Runs arr m r q
 | [],r,p,q=>⟨fun h=>⟨p,rfl,h⟩,fun ⟨m,h1,h2⟩=>by rw [show p=m from h1];exact h2⟩
 | x::l,r,p,q=>by
  constructor
  ·rintro ⟨h1,h2,h3,h4⟩
   obtain ⟨m,m1,m2⟩:=Runs.app.mp h4
   exact ⟨m,⟨h1,h2,h3,m1⟩,m2⟩
  ·rintro ⟨m,⟨h1,h2,h3,m1⟩,m2⟩
   exact ⟨h1,h2,h3,Runs.app.mpr ⟨m,m1,m2⟩⟩
theorem Srt.out {xs ys:Array Keyed} {a b c d:Nat} (h:Srt xs c d) (w:Within xs ys a b) (hc:d<=a\/b<=c):Srt ys c d:=fun i j h1 h2 h3=>by
 rw [K_congr (w.out i tb_g%),K_congr (w.out j tb_g%)];exact h i j h1 h2 h3
theorem Runs.out {xs ys:Array Keyed} {a b:Nat} (w:Within xs ys a b):∀ {l:List (Nat × Nat × Nat)} {p q:Nat},Runs xs p l q->(q<=a\/b<=p)->Runs ys p l q
 | [],p,q,h,_=>h
 | x::r,p,q,h,hc=>by
  have:=Runs.le h.2.2.2
  exact ⟨h.1,h.2.1,Srt.out h.2.2.1 w tb_g%,Runs.out w h.2.2.2 tb_g%⟩
theorem Runs.alike {arr:Array Keyed}:∀ {l l':List (Nat × Nat × Nat)} {p q:Nat},l.map (fun x=>(x.1,x.2.1))=l'.map (fun x=>(x.1,x.2.1))->Runs arr p l q->Runs arr p l' q
 | [],[],p,q,_,h=>h
 | [],_::_,p,q,e,h=>by simp at e
 | _::_,[],p,q,e,h=>by simp at e
 | x::r,y::r',p,q,e,h=>by
  rw [gB,gB] at e
  obtain ⟨e1,e2⟩:=Ig e
  obtain ⟨e3,e4⟩:=ae5 e1
  refine ⟨by rw [<- e3];exact h.1,by rw [<- e4];exact h.2.1,by rw [<- e4];exact h.2.2.1,?_⟩
  rw [<- e4];exact Runs.alike e2 h.2.2.2
structure zK (a₀:Array Keyed) (st:SortSt) (lo:Nat):Prop where
 perm:(arrOf st).Perm a₀
 kind:kindOf st=kd0
 failed:jC st=none
 runs:Runs (arrOf st) 0 (cF st).toList lo
 le:lo<=a₀.size
 z64:a₀.size=64
 big:∀ x r,(cF st).toList=x::r->63<=x.2.1
theorem Jq (p:Array (Nat × Nat × Nat)) (i pw:Nat):p.toList.map (fun x=>(x.1,x.2.1))=(p.modify i fun x=>(x.1,x.2.1,pw)).toList.map (fun x=>(x.1,x.2.1)):=by
 apply List.ext_getElem?
 intro j
 rw [iR,iR,iU,iU,Array.getElem?_modify]
 by_cases h:i=j
 ·rw [if_pos h,WR];rfl
 ·rw [if_neg h]
section
variable {prog:aO} {w:World} {A:bA} {E:Value->Shared->Prop} {s:Shared} [Rl prog w A E s]
theorem Bo {a₀:Array Keyed} {i lo:Nat} {st:SortSt} {Q:Bool->SortSt->Prop} (h0:IntKeys a₀) (hI:zK a₀ st lo) (hi:i+1<(cF st).size)
  (h:∀ st',zK a₀ st' lo->(cF st').size+1=(cF st).size->Within (arrOf st) (arrOf st') 0 lo->Q true st'):wpS (model prog w) A E s (mergeAt' i) Q st:=by
 have hl:(cF st).toList.length=(cF st).size:=fW
 obtain ⟨L,x1,x2,R,eL,lL⟩:∃ L x1 x2 R,(cF st).toList=L++x1::x2::R/\L.length=i:=by
  refine ⟨(cF st).toList.take i,(cF st).toList[i],(cF st).toList[i+1],(cF st).toList.drop (i+2),?_,by rw [gU];lia⟩
  conv=>lhs;rw [<- CV i (cF st).toList,Hg tb_g%,Hg tb_g%]
 have hr:=hI.runs
 rw [eL] at hr
 obtain ⟨m,r1,r2⟩:=Runs.app.mp hr
 obtain ⟨sa,na,pw⟩:=x1
 obtain ⟨sb,nb,pw'⟩:=x2
 obtain ⟨e1,n1,s1,e2,n2,s2,r3⟩:=r2
 simp only at e1 n1 s1 e2 n2 s2 r3
 subst e1
 subst e2
 have le3:=r3.le
 have sz:=hI.perm.size_eq
 have hle:=hI.le
 have z64:=hI.z64
 have hL:L=[]:=by
  cases L with
  | nil=>rfl
  | cons y L =>
   have b:=hI.big y _ eL
   obtain ⟨_,_,_,r4⟩:=r1
   have:=r4.le
   lia
 have b63:63<=na:=hI.big (sa,na,pw) _ (by rw [eL,hL];rfl)
 have n0:0=sa:=by rw [hL] at r1;exact r1
 have nb1:nb=1:=by lia
 refine SQ (sa:=sa) (na:=na) (nb:=nb) (pw:=pw) (pw':=pw') hI.kind hI.failed (qD h0 hI.perm) ?_ ?_ n1 nb1 tb_g% s1 s2 fun ys g hw hs=>?_
 ·rw [<- iU,eL,xK tb_g%,lL,V6];rfl
 ·rw [<- iU,eL,xK tb_g%,lL,show i+1-i=1 by lia];rfl
 have eN:(iZ (cF st) i (sa,na+nb,pw)).toList=L++(sa,na+nb,pw)::R:=by
  show ((Array.setIfInBounds _ _ _).eraseIdxIfInBounds (i+1)).toList=_
  rw [Array.toList_eraseIdxIfInBounds,Array.toList_setIfInBounds,eL,<- lL]
  simp [List.eraseIdx_append]
  intro hh;lia
 refine h _ ⟨hw.perm.trans hI.perm,hI.kind,rfl,?_,hI.le,z64,fun x r e=>?_⟩ ?_ (hw.wide (cY _) tb_g%)
 ·show Runs ys 0 (iZ (cF st) i (sa,na+nb,pw)).toList lo
  rw [eN]
  refine Runs.app.mpr ⟨sa,r1.out hw (.inl (bV _)),rfl,by show 1<=na+nb;lia,?_,?_⟩
  ·show Srt ys sa (sa+(na+nb))
   rw [<- HB];exact hs
  ·show Runs ys (sa+(na+nb)) R lo
   rw [<- HB];exact r3.out hw (.inr (bV _))
 ·have e:(iZ (cF st) i (sa,na+nb,pw)).toList=x::r:=e
  rw [eN,hL] at e
  rw [<- (Ig e).1]
  show 63<=na+nb
  lia
 ·show (iZ (cF st) i (sa,na+nb,pw)).size+1=_
  have z1:=congrArg nF eN
  have z2:=congrArg nF eL
  simp only [fW,dH,iI] at z1 z2
  lia
theorem alE {a₀:Array Keyed} {st:SortSt} {Q:Unit->SortSt->Prop} (h0:IntKeys a₀) (hB:SBase a₀ st) (h64:a₀.size=64) (s63:Srt (arrOf st) 0 63)
  (h:∀ st',(arrOf st').Perm a₀->jC st'=none->SortedTo (arrOf st') a₀.size->Q () st'):wpS (model prog w) A E s Wr Q st:=by
 rw [aev]
 refine bH (lN ?_)
 k_dat (size,hsize) "b"
 k_dat (minrun,hmin) "b"
 clear hmin
 have hsz:size=a₀.size:=hsize.trans hB.size
 clear hsize
 subst hsz
 k_dat (lo0,hlo0) "b"
 subst hlo0
 have hI0:zK a₀ st 0:=⟨hB.perm,hB.kind,hB.failed,by rw [hB.pend];rfl,cY _,h64,fun x r e=>by rw [hB.pend] at e;cases e⟩
 refine bH (iz (pQ (a:=0) (I:=fun x c st'=>∃ lo,c=(none,lo)/\zK a₀ st' lo/\x<=lo/\(lo=0->Srt (arrOf st') 0 63)) (Q:=fun c st'=>c=(none,a₀.size)/\zK a₀ st' a₀.size) ?_ ?_ ⟨0,rfl,hI0,bV _,fun _=>s63⟩) ?_)
 ·rintro x c st' _ hx ⟨lo,rfl,hI,hxl,h63⟩
  walk_at "e"
  walk_at "f"
  by_cases c1:lo>=a₀.size
  ·refine nO c1 ?_
   have:lo=a₀.size:=by have:=hI.le;lia
   subst this
   exact cG ⟨rfl,hI⟩
  refine jw c1 ?_
  have sz:=hI.perm.size_eq
  refine bH (aaK hI.kind (qD h0 hI.perm) tb_g% tb_g% fun n ys n1 n2 hq hw hs=>?_)
  walk_at "f"
  walk_at "e"
  walk_at "f"
  k_dat (jp,hjp) "b"
  have n63:lo=0->63<=n:=fun z=>by subst z;exact hq 63 tb_g% (h63 rfl)
  have key:∀ u n zs,Within (arrOf st') zs lo a₀.size->Srt zs lo (lo+n)->1<=n->lo+n<=a₀.size->(lo=0->63<=n)->wpS (model prog w) A E s (jp u n) (fun r st'=>match r with
    | ForInStep.done c'=>c'=(none,a₀.size)/\zK a₀ st' a₀.size
    | ForInStep.yield c'=>∃ lo,c'=(none,lo)/\zK a₀ st' lo/\x+1<=lo/\(lo=0->Srt (arrOf st') 0 63)) (cJ st' zs):=by
   intro u n zs hw hs n1 n2 n3
   rw [hjp]
   clear hjp jp
   have hI1:zK a₀ (cJ st' zs) lo:=⟨hw.perm.trans hI.perm,hI.kind,hI.failed,hI.runs.out hw (.inl (bV _)),hI.le,h64,hI.big⟩
   have hs1:Srt (arrOf (cJ st' zs)) lo (lo+n):=hs
   generalize cJ st' zs=st1 at hI1 hs1 ⊢
   refine bH (lN ?_)
   k_dat (jp2,hjp2) "b"
   have key2:∀ u st2,zK a₀ st2 lo->Srt (arrOf st2) lo (lo+n)->wpS (model prog w) A E s (jp2 u) (fun r st'=>match r with
    | ForInStep.done c'=>c'=(none,a₀.size)/\zK a₀ st' a₀.size
    | ForInStep.yield c'=>∃ lo,c'=(none,lo)/\zK a₀ st' lo/\x+1<=lo/\(lo=0->Srt (arrOf st') 0 63)) st2:=by
    intro u st2 hI2 hs2
    rw [hjp2]
    refine bH (qU ?_)
    walk_at "e"
    walk_at "f"
    refine cG ⟨lo+n,rfl,⟨hI2.perm,hI2.kind,hI2.failed,?_,n2,h64,fun z r e=>?_⟩,by lia,fun z=>by lia⟩
    ·show Runs (arrOf st2) 0 ((cF st2).push (lo,n,0)).toList (lo+n)
     rw [yV]
     exact Runs.app.mpr ⟨lo,hI2.runs,rfl,n1,hs2,rfl⟩
    ·have e:((cF st2).push (lo,n,0)).toList=z::r:=e
     rw [yV] at e
     have b:=hI2.big
     have rr:=hI2.runs
     generalize (cF st2).toList=l at e b rr
     cases l with
     | nil =>
      obtain ⟨rfl,_⟩:=Ig e
      exact n3 (show 0=lo from rr).symm
     | cons y l =>
      obtain ⟨rfl,_⟩:=Ig e
      exact b y l rfl
   clear hjp2
   split
   ·walk_at "e"
    walk_at "f"
    rename_i s1 n1' sn _
    generalize power' a₀.size (2*s1+n1') (2*s1+n1'+n1'+n) a₀.size=pw
    refine bH (iz (pQ (a:=0) (I:=fun _ c st2=>c=(none,())/\zK a₀ st2 lo/\Srt (arrOf st2) lo (lo+n)) (Q:=fun c st2=>c=(none,())/\zK a₀ st2 lo/\Srt (arrOf st2) lo (lo+n)) ?_ (fun _ _ hh=>hh) ⟨rfl,hI1,hs1⟩) ?_)
    ·rintro y c st2 _ hy ⟨rfl,hI2,hs2⟩
     refine bH (lN ?_)
     walk_at "e"
     walk_at "f"
     by_cases c2:(cF st2).size>1
     ·rw [if_pos c2]
      have e:(cF st2)[(cF st2).size-2]? = some ((cF st2)[(cF st2).size-2]'tb_g%):=getElem?_pos _ _ _
      rw [e]
      generalize (cF st2)[(cF st2).size-2]'tb_g%=z
      obtain ⟨z1,z2,older⟩:=z
      walk_at "f"
      by_cases c3:older<=pw
      ·refine nO c3 ?_
       exact cG ⟨rfl,hI2,hs2⟩
      refine jw c3 ?_
      refine bH (Bo h0 hI2 tb_g% fun st3 hI3 _ hw3=>?_)
      refine jw (by decide) ?_
      exact cG ⟨rfl,hI3,Srt.out hs2 hw3 (.inr (bV _))⟩
     ·rw [if_neg c2]
      exact cG ⟨rfl,hI2,hs2⟩
    ·rintro c st2 ⟨rfl,hI2,hs2⟩
     walk_at "e"
     walk_at "f"
     walk_at "f"
     refine bH (qU ?_)
     refine iz (key2 _ _ ⟨hI2.perm,hI2.kind,hI2.failed,hI2.runs.alike (Jq _ _ _),hI2.le,h64,fun z r e=>?_⟩ hs2) fun r st' hh=>by cases r <;> exact hh
     have m:=Jq (cF st2) ((cF st2).size-1) pw
     have b:=hI2.big
     generalize (cF st2).toList=l at m b
     rw [show ((cF st2).modify ((cF st2).size-1) fun x=>(x.1,x.2.1,pw)).toList=z::r from e] at m
     cases l with
     | nil=>cases m
     | cons y l =>
      obtain ⟨m1,_⟩:=Ig m
      rw [<- (ae5 m1).2]
      exact b y l rfl
   ·exact iz (key2 _ _ hI1 hs1) fun r st' hh=>by cases r <;> exact hh
  clear hjp
  rw [show lo+(a₀.size-lo)=a₀.size by lia] at hw
  by_cases c2:n<minrun
  ·refine nO c2 ?_
   refine bH (yX (ou ⟨rfl,?_⟩))
   walk_at "e"
   walk_at "f"
   have zz:ys.size=a₀.size:=(hw.perm.size_eq).trans sz
   refine bH (SJ (st:=cJ st' ys) hI.kind (qD h0 (hw.perm.trans hI.perm)) (by show _<=ys.size;lia) tb_g% hs fun zs hw2 hs2=>?_)
   refine jw (by decide) ?_
   walk_at "e"
   walk_at "f"
   have hw3:Within (arrOf st') zs lo a₀.size:=hw.trans (hw2.wide (bV _) tb_g%)
   exact iz (key _ _ zs hw3 hs2 tb_g% tb_g% fun z=>by have:=n63 z;lia) fun r st' hh=>by cases r <;> exact hh
  ·refine jw c2 ?_
   exact iz (key _ _ ys hw hs n1 tb_g% n63) fun r st' hh=>by cases r <;> exact hh
 ·rintro c st' ⟨lo,rfl,hI,hxl,_⟩
  have:lo=a₀.size:=by have:=hI.le;lia
  subst this
  exact ⟨rfl,hI⟩
 ·rintro c st' ⟨rfl,hI⟩
  iterate 2 (extract_lets +onlyGivenNames -underBinder -merge zz;subst zz)
  walk_at "f"
  walk_at "f"
  have p0:(cF st').size<=a₀.size:=by
   have:=hI.runs.le
   rw [fW] at this
   lia
  refine bH (iz (pQ (a:=0) (I:=fun x c st2=>c=(none,())/\zK a₀ st2 a₀.size/\x+(cF st2).size<=a₀.size+1) (Q:=fun c st2=>c=(none,())/\zK a₀ st2 a₀.size/\(cF st2).size<=1) ?_ ?_ ⟨rfl,hI,by lia⟩) ?_)
  ·rintro x c st2 _ hx ⟨rfl,hI2,hp⟩
   refine bH (lN ?_)
   walk_at "e"
   walk_at "f"
   by_cases c2:(cF st2).size<=1
   ·refine nO c2 ?_
    exact cG ⟨rfl,hI2,c2⟩
   refine jw c2 ?_
   k_dat (i0,hi0) "b"
   k_dat (before,hbefore) "b"
   clear hbefore
   k_dat (i1,hi1) "b"
   have:i1+1<(cF st2).size:=by
    rw [hi1]
    split <;> lia
   refine bH (Bo h0 hI2 this fun st3 hI3 hs3 _=>?_)
   refine jw (by decide) ?_
   exact cG ⟨rfl,hI3,by lia⟩
  ·rintro c st2 ⟨rfl,hI2,hp⟩
   exact ⟨rfl,hI2,by lia⟩
  ·rintro c st2 ⟨rfl,hI2,hp⟩
   walk_at "e"
   walk_at "f"
   walk_at "f"
   refine cG (h _ hI2.perm hI2.failed ?_)
   have hr:=hI2.runs
   have hl:(cF st2).toList.length=(cF st2).size:=fW
   match e:(cF st2).toList,hr with
   | [],hr=>have:0=a₀.size:=hr;lia
   | [x],⟨x1,x2,x3,x4⟩ =>
    have x5:0+x.2.1=a₀.size:=x4
    rw [x5] at x3
    exact fun i j g1 g2=>x3 i j (cY _) g1 g2
   | _::_::_,_=>rw [e] at hl;simp at hl;lia
theorem ah3 {a₀:Array Keyed} {st:SortSt} {Q:Unit->SortSt->Prop} (h0:IntKeys a₀) (hB:SBase a₀ st) (h2:2<=a₀.size) (few:a₀.size<64)
  (q:∀ u,(arrOf u).Perm a₀->jC u=none->SortedTo (arrOf u) a₀.size->Q () u):wpS (model prog w) A E s Wr Q st:=by
 rw [aev]
 apply bH;apply lN;dsimp only
 have mr:minRun' a₀.size a₀.size 0=a₀.size:=by
  generalize hn:a₀.size=n at h2 few
  match n,h2 with
  | f+1,_=>rw [minRun'_succ,if_pos few]
 simp only [hB.size,mr]
 have key:∀ (u:SortSt) (zs:Array Keyed),SBase a₀ u->Within (arrOf u) zs 0 a₀.size->Srt zs 0 a₀.size ->
   (arrOf (cJ u zs)).Perm a₀/\jC (cJ u zs)=none/\(cF (cJ u zs)) = #[]/\SortedTo (arrOf (cJ u zs)) a₀.size:=fun u zs b wi so =>
  ⟨wi.perm.trans b.perm,b.failed,b.pend,fun i j ij hj=>so i j (cY _) ij hj⟩
 refine bH (iz (pQ (a:=0)
  (I:=fun x c u=>(x=0/\c=(none,0)/\SBase a₀ u)\/(1<=x/\c=(none,a₀.size)/\(arrOf u).Perm a₀/\jC u=none/\(cF u).size=1/\SortedTo (arrOf u) a₀.size))
  (Q:=fun c u=>c=(none,a₀.size)/\(arrOf u).Perm a₀/\jC u=none/\(cF u).size=1/\SortedTo (arrOf u) a₀.size) ?s1 ?s2 (.inl ⟨rfl,rfl,hB⟩)) ?s3)
 case s2 =>
  rintro c u (⟨z,_,_⟩ | ⟨_,hc,d⟩)
  ·exact absurd z tb_g%
  ·exact ⟨hc,d⟩
 case s1 =>
  rintro x c u _ _ (⟨rfl,rfl,b⟩ | ⟨x1,rfl,d⟩)
  ·dsimp only
   rw [if_neg tb_g%]
   simp only [Nat.sub_zero,Nat.min_self,sZ]
   have bs:=b.size
   refine bH (aaK (lo:=0) (nrem:=a₀.size) b.kind (qD h0 b.perm) tb_g% tb_g% fun m ys m1 m2 _ wi so=>?_)
   rw [sZ] at wi so
   dsimp only
   by_cases lt:m<a₀.size
   ·rw [if_pos lt]
    apply bH;apply yX;refine ou ⟨rfl,?_⟩
    have yz:ys.size=a₀.size:=wi.perm.size_eq.trans bs
    refine bH (SJ (st:=cJ u ys) (lo:=0) (n:=a₀.size) (ok:=m) b.kind (qD h0 (wi.perm.trans b.perm)) (by show _<=ys.size;lia) tb_g% (by rw [sZ];exact so) fun zs wj sj=>?_)
    rw [sZ] at wj sj
    simp only [aeA,za,if_false]
    apply bH;apply lN
    obtain ⟨k1,k2,k3,k4⟩:=key u zs b (wi.trans wj) sj
    rw [show (cF (cJ (cJ u ys) zs)).back? = none by rw [show cF (cJ (cJ u ys) zs) = #[] from k3];rfl]
    dsimp only
    refine bH (qU (cG (.inr ⟨by lia,rfl,k1,k2,?_,k4⟩)))
    show ((cF (cJ (cJ u ys) zs)).push _).size=1
    rw [V9,show cF (cJ (cJ u ys) zs) = #[] from k3];rfl
   ·rw [if_neg lt]
    obtain rfl:m=a₀.size:=by lia
    apply bH;apply lN
    obtain ⟨k1,k2,k3,k4⟩:=key u ys b wi so
    rw [show (cF (cJ u ys)).back? = none by rw [k3];rfl]
    dsimp only
    refine bH (qU (cG (.inr ⟨by lia,rfl,k1,k2,?_,k4⟩)))
    show ((cF (cJ u ys)).push _).size=1
    rw [V9,k3];rfl
  ·dsimp only
   rw [if_pos (bV a₀.size)]
   exact cG ⟨rfl,d⟩
 case s3 =>
  rintro c u ⟨rfl,d1,d2,d3,d4⟩
  dsimp only
  refine bH (iz (pQ (a:=0) (I:=fun _ c v=>v=u/\c=(none,())) (Q:=fun c v=>v=u/\c=(none,())) ?_ (fun _ _ z=>z) ⟨rfl,rfl⟩) ?_)
  ·rintro x c v _ _ ⟨rfl,rfl⟩
   apply bH;apply lN
   rw [if_pos (by rw [d3];exact bV _)]
   exact cG ⟨rfl,rfl⟩
  ·rintro c v ⟨rfl,rfl⟩
   exact cG (q _ d1 d2 d4)
end
end
section
variable {prog:aO} {w:World} {A:bA} {E:Value->Shared->Prop} {s:Shared}
theorem K_at [Rk] {xs:Array Keyed} {i:Nat} (hi:i<xs.size):K xs i=Rk.R xs[i]:=by unfold K;rw [getElem?_pos xs i hi]
theorem alF [Rk] {vs:List Value} {xs:Array Keyed} (hp:xs.Perm (jD vs)) (hs:SortedTo xs (jD vs).size) :
  (xs.map (·.2)).toList.Perm vs/\(xs.map (·.2)).toList.Pairwise fun x y=>Rk.R (x,x)<=Rk.R (y,y):=by
 have hl:xs.toList.Perm (vs.zip vs):=by rw [<- aer];exact V8.mp hp
 have hm:∀ p,p∈xs.toList->p.1=p.2:=fun p h=>(aew (hl.mem_iff.mp h)).1
 rw [Array.toList_map]
 constructor
 ·have h1:=hl.map Prod.snd
  rwa [List.map_snd_zip (bV _)] at h1
 ·refine Hq.mpr (Hf.mpr fun i j hi hj hij=>?_)
  have hi':i<xs.size:=by simpa using hi
  have hj':j<xs.size:=by simpa using hj
  have h1:=hs i j (mG hij) (by rw [<- hp.size_eq];exact hj')
  rw [K_at hi',K_at hj'] at h1
  have e:∀ p:Keyed,p∈xs.toList->((p.2,p.2):Keyed)=p:=fun p h=>mX (hm p h).symm rfl
  rw [e _ (sX hi),e _ (sX hj)]
  simpa using h1
theorem aaN [Rk] {a:Addr} {vs:List Value} {n:Nat} {P:Fin->Shared->Prop} (at_:s.heap.get? a=some (dw "list" vs.toArray n)) (few:vs.length<=sizeLine) (f64:vs.length<64\/vs.length=64/\Srt (jD vs) 0 63) (hok:∀ v∈vs,Rk.Ok (v,v))
  (hkey:2<=vs.length->∀ (s2:Shared) (Q:SortKind->Shared->Prop),(∀ b o,b≠a->s.heap.get? b=some o->s2.heap.get? b=some o)->Q Rk.kd s2->wpAny (model prog w) A (keyKind' vs.toArray) Q E s2)
  (hlt:∀ s2:Shared,(∀ b o,b≠a->s.heap.get? b=some o->s2.heap.get? b=some o)->Rl prog w A E s2)
  (told:∀ out:Array Value,out.toList.Perm vs->(out.toList.Pairwise fun x y=>Rk.R (x,x)<=Rk.R (y,y))->P (.done (.ret .none)) { s with heap:=HW s.heap a vs out }) :
  wpAny (model prog w) A (dW.«list.sort» ⟨[.ref a],[]⟩) P E s:=by
 have la:=bQ at_
 have len:vs.toArray.size=vs.length:=dI
 obtain ⟨ep,at1⟩:∃ ep,(s.heap.update a (jo fun _=>#[])).get? a=some (dw "list" #[] ep):=⟨_,get?_update_seq at_ (fun _=>#[])⟩
 have keep:∀ b o,b≠a->s.heap.get? b=some o->(((s.heap.update a (jo fun _=>#[])).push (dw "tuple" vs.toArray 0)).push (dw "list" #[] 0)).get? b=some o:=fun b o hb e =>
  dN _ (dN _ (by rw [adU _ _ _ _ hb];exact e))
 have at2:(((s.heap.update a (jo fun _=>#[])).push (dw "tuple" vs.toArray 0)).push (dw "list" #[] 0)).get? a=some (dw "list" #[] ep):=dN _ (dN _ at1)
 rw [list_sort_plain]
 apply aG;apply listItems_at at_ rfl
 apply aG;refine Wj at_ rfl ?_ (by rw [len];exact few) (cY _)
 apply aG;apply Wo at1 rfl
 apply aG;refine acT ?_ (by simpa using few)
 apply aG;refine GC ?_ (cY _)
 apply jJ
 show wpAny (model prog w) A _ P E { s with heap:=((s.heap.update a (jo fun _=>#[])).push (dw "tuple" vs.toArray 0)).push (dw "list" #[] 0) }
 dsimp only
 have close:∀ st:SortSt,(arrOf st).Perm (jD vs)->SortedTo (arrOf st) (jD vs).size->P (.done (.ret .none)) { s with heap:=HW s.heap a vs ((arrOf st).map (·.2)) }:=fun st p so=>by
  obtain ⟨i1,i2⟩:=alF p so
  exact told _ i1 i2
 by_cases two:vs.toArray.size<2
 ·simp only [if_pos two]
  apply aG;apply bC;rw [StateT.run_pure];apply aG;apply bC;dsimp only
  apply aG;apply Wo at2 rfl
  apply aG;refine Wj at2 rfl ?_ (cY _) (by rw [aea];show (jD vs).size<=_;rw [yW];lia)
  simp only [bne_self_eq_false,za,if_false]
  refine bC (close (zp general' (vs.toArray.zip vs.toArray) #[] 7 none) (PK _) fun i j ij hj=>?_)
  rw [yW] at hj
  rw [show i=j by lia];exact eE _
 ·simp only [if_neg two]
  refine aG (hkey tb_g% _ _ keep ?_)
  haveI:=hlt { s with heap:=((s.heap.update a (jo fun _=>#[])).push (dw "tuple" vs.toArray 0)).push (dw "list" #[] 0) } keep
  have ik:IntKeys (jD vs):=fun x hx=>by
   rw [aer] at hx
   obtain ⟨e1,e2⟩:=aew hx
   obtain ⟨x1,x2⟩:=x
   cases e1
   exact hok _ e2
  have go:wpS (model prog w) A E { s with heap:=((s.heap.update a (jo fun _=>#[])).push (dw "tuple" vs.toArray 0)).push (dw "list" #[] 0) } Wr (fun _ st=>(arrOf st).Perm (jD vs)/\jC st=none/\SortedTo (arrOf st) (jD vs).size) (zp Rk.kd (vs.toArray.zip vs.toArray) #[] 7 none):=by
   rcases f64 with f64 | ⟨f64,s63⟩
   ·exact ah3 (a₀:=jD vs) ik ⟨PK _,rfl,rfl,rfl⟩ (by rw [yW];lia) (by rw [yW];exact f64) fun st p1 p2 p3=>⟨p1,p2,p3⟩
   ·exact alE (a₀:=jD vs) ik ⟨PK _,rfl,rfl,rfl⟩ (by rw [yW];exact f64) s63 fun st p1 p2 p3=>⟨p1,p2,p3⟩
  refine aG (eF go ?_ fun _ _ e=>e)
  rintro ⟨⟨⟩,st⟩ s2 ⟨rfl,p1,p2,p3⟩
  dsimp only
  apply aG;apply Wo at2 rfl
  apply aG;refine Wj at2 rfl ?_ (cY _) (by rw [aea,p1.size_eq,yW];lia)
  rw [p2];simp only [bne_self_eq_false,za,if_false]
  exact bC (close st p1 p3)
noncomputable def SX:Rk:=⟨oneType',fun p=>numOf p.1,fun p=>∃ n t,p.1 = .int n t⟩
theorem intRl:@Rl SX prog w A E s:=@Rl.mk SX prog w A E s fun {x y st Q} hk hx hy h=>by
 obtain ⟨⟨n,t,e1⟩,⟨m,u,e2⟩⟩:=And.intro hx hy
 obtain ⟨x1,x2⟩:=x
 obtain ⟨y1,y2⟩:=y
 cases e1
 cases e2
 rw [lt'_eq]
 refine bH (lN ?_)
 rw [show kindOf st=oneType' from hk,keyLt'_oneType]
 refine bH (yX (vd (oneLt_int ⟨rfl,?_⟩)))
 exact cG h
theorem agf {a:Addr} {vs:List Value} {ns:List Int} {n:Nat} {P:Fin->Shared->Prop} (at_:s.heap.get? a=some (dw "list" vs.toArray n)) (hI:IntsAre vs ns) (few:vs.length<=sizeLine) (f64:ns.length=64/\(ns.take 63).Pairwise (· <= ·))
  (told:∀ (out:Array Value) (ns':List Int),IntsAre out.toList ns'->ns'.Perm ns->ns'.Pairwise (fun x y=>x<=y)->P (.done (.ret .none)) { s with heap:=HW s.heap a vs out }) :
  wpAny (model prog w) A (dW.«list.sort» ⟨[.ref a],[]⟩) P E s:=by
 have hn:=hI.nums
 have hl:vs.length=ns.length:=by rw [<- hn,bG]
 refine @aaN prog w A E s SX a vs n P at_ few (.inr ⟨hl.trans f64.1,fun i j _ ij hj=>?_⟩) (fun v hv=>hI.all v hv) (fun h2 s2 Q _ q=>?_) (fun _ _=>intRl) fun out p so=>?_
 ·have e:∀ k,k<63->∃ h:k<(ns.take 63).length,@K SX (jD vs) k=(ns.take 63)[k]:=fun k hk=>by
   have h1:k<(jD vs).size:=by rw [yW];lia
   have h2:k<(ns.take 63).length:=by rw [gU];lia
   refine ⟨h2,?_⟩
   rw [@K_at SX _ _ h1,Om]
   have h3:k<vs.length:=by lia
   have z:(jD vs)[k]=(vs[k],vs[k]):=by simp [jD]
   rw [z]
   show numOf vs[k]=_
   simp only [<- hn,Vx]
  obtain ⟨hi1,e1⟩:=e i tb_g%
  obtain ⟨hj1,e2⟩:=e j hj
  rw [e1,e2]
  rcases jk i j with z | z
  ·exact Hf.mp f64.2 i j hi1 hj1 z
  ·have:i=j:=by lia
   subst this;exact eE _
 ·match vs,hI,h2 with
  | v::v'::r,hI,_=>rw [keyKind_ints hI];exact bC q
  | [],_,z=>simp at z
  | [_],_,z=>simp at z
 ·have h1:=intsAre_map out.toList fun v hv=>hI.all v (p.mem_iff.mp hv)
  refine told out _ h1 ?_ (Hq.mpr so)
  have:=p.map numOf
  rwa [hI.nums] at this
noncomputable def Bq (h:Heap) (l:Addr) (f:Addr->Int × Int) (M:Int):Rk:=⟨tuples' true,fun p=>match p.1 with
 | .ref a=>(f a).1*M+(f a).2
 | _=>0,fun p=>∃ a,p.1 = .ref a/\a≠l/\0<=(f a).2/\(f a).2<M/\∃ o n t1 t2,h.get? a=some o/\o.cls = .type "tuple" /\ o.data = .seq #[.int (f a).1 t1,.int (f a).2 t2] n⟩
theorem lex_lt {a b c d M:Int} (h1:0<=b) (h2:b<M) (h3:0<=d) (h4:d<M) (ne:a≠c):decide (a*M+b<c*M+d)=decide (a<c):=by
 rw [decide_eq_decide]
 constructor
 ·intro h
  refine Int.lt_of_not_ge fun g=>?_
  have:c+1<=a:=by lia
  have:=Ah this (show 0<=M by lia)
  rw [Dm] at this
  lia
 ·intro h
  have:a+1<=c:=by lia
  have:=Ah this (show 0<=M by lia)
  rw [Dm] at this
  lia
theorem tupRl {h:Heap} {l:Addr} {f:Addr->Int × Int} {M:Int} (kp:∀ b o,b≠l->h.get? b=some o->s.heap.get? b=some o):@Rl (Bq h l f M) prog w A E s:=@Rl.mk (Bq h l f M) prog w A E s fun {x y st Q} hk hx hy q=>by
 obtain ⟨⟨a,e1,l1,m1,m2,ox,nx,t1,t2,gx,cx,dx⟩,⟨b,e2,l2,m3,m4,oy,ny,t3,t4,gy,cy,dy⟩⟩:=And.intro hx hy
 obtain ⟨x1,x2⟩:=x
 obtain ⟨y1,y2⟩:=y
 cases e1
 cases e2
 replace gx:=kp _ _ l1 gx
 replace gy:=kp _ _ l2 gy
 have q':Q (some (decide ((f a).1*M+(f a).2<(f b).1*M+(f b).2))) st:=q
 rw [lt'_eq]
 refine bH (lN ?_)
 rw [show kindOf st=tuples' true from hk]
 refine bH (yX (vd (PySem.W.kat_lt gx dx gy dy (adN (Uy ?_)))))
 by_cases c:(f a).1=(f b).1
 ·rw [show ((f a).1 == (f b).1)=true from beq_iff_eq.mpr c]
  refine adP (adN (Uy ?_))
  by_cases d:(f a).2=(f b).2
  ·rw [show ((f a).2 == (f b).2)=true from beq_iff_eq.mpr d]
   refine adP (PySem.W.kat_nil ⟨rfl,cG ?_⟩)
   rw [c,d,decide_eq_false (Int.lt_irrefl _)] at q'
   exact q'
  ·rw [show ((f a).2 == (f b).2)=false from beq_eq_false_iff_ne.mpr d]
   refine adS (PySem.W.kat_one _ _ (ajV ⟨rfl,cG ?_⟩))
   have e:decide ((f a).1*M+(f a).2<(f b).1*M+(f b).2)=decide ((f a).2<(f b).2):=by rw [c,decide_eq_decide];lia
   rw [e] at q'
   exact q'
 ·rw [show ((f a).1 == (f b).1)=false from beq_eq_false_iff_ne.mpr c]
  refine adS (oneLt_int ⟨rfl,cG ?_⟩)
  rw [lex_lt m1 m2 m3 m4 c] at q'
  exact q'
theorem aaO {h h2:Heap} {l:Addr} {f:Addr->Int × Int} {M:Int} (kp:∀ b o,b≠l->h.get? b=some o->h2.get? b=some o):∀ {vs:List Value},(∀ v∈vs,(Bq h l f M).Ok (v,v))->∃ fs:List Value,PySem.W.KatTups h2 vs fs/\fs.length=vs.length/\∀ v∈fs,∃ n t,v = .int n t
 | [],_=>⟨[],ak4,rfl,fun _ h=>(nomatch h)⟩
 | v::vs,hv=>by
  obtain ⟨fs,k1,k2,k3⟩:=aaO kp fun v m=>hv v (gF _ m)
  obtain ⟨a,e1,l1,m1,m2,ox,nx,t1,t2,hx,cx,dx⟩:=hv v cX
  cases e1
  refine ⟨.int (f a).1 t1::fs,ak3 (kp _ _ l1 hx) cx dx rfl k1,by rw [iI,iI,k2],fun v m=>?_⟩
  rcases bN.mp m with rfl | m
  ·exact ⟨_,_,rfl⟩
  ·exact k3 v m
theorem agg {a:Addr} {vs:List Value} {f:Addr->Int × Int} {M:Int} {n:Nat} {P:Fin->Shared->Prop} (at_:s.heap.get? a=some (dw "list" vs.toArray n)) (hok:∀ v∈vs,(Bq s.heap a f M).Ok (v,v)) (few:vs.length<=sizeLine) (f64:vs.length<64)
  (told:∀ out:Array Value,out.toList.Perm vs->(out.toList.Pairwise fun x y=>(Bq s.heap a f M).R (x,x)<=(Bq s.heap a f M).R (y,y))->P (.done (.ret .none)) { s with heap:=HW s.heap a vs out }) :
  wpAny (model prog w) A (dW.«list.sort» ⟨[.ref a],[]⟩) P E s:=by
 refine @aaN prog w A E s (Bq s.heap a f M) a vs n P at_ few (.inl f64) hok (fun h2 s2 Q kp q=>?_) (fun s2 kp=>tupRl kp) told
 obtain ⟨fs,k1,k2,k3⟩:=aaO kp hok
 refine PySem.W.kat_kind (fs:=fs) (T:=.type "int") k1 tb_g% (fun v hv=>?_) (by decide) ?_
 ·obtain ⟨n,t,rfl⟩:=k3 v hv
  intro A' Q' E' s' _ q
  exact bC q
 ·exact q
end
end Tm
namespace L2
open PySem PySem.Spec PyProof.Rows
section
variable {X:Cx}
theorem Jr {A:bA} {E:Value->Shared->Prop} {s:Shared} {l:Addr} {vs:List Value} {OK:Array Value->Prop} {Q:Value->Shared->Prop} (hl:s.heap.IsList l vs.toArray) (few:vs.length<=sizeLine)
  (hsort:∀ (s2:Shared) (a:Addr) (P:Fin->Shared->Prop) (A:bA) (E:Value->Shared->Prop),s2.heap.get? a=some (dw "list" vs.toArray 0)->(∀ b o,s.heap.get? b=some o->s2.heap.get? b=some o/\b≠a)->(∀ out,OK out->P (.done (.ret .none)) { s2 with heap:=HW s2.heap a vs out })->wpAny (model X.prog X.w) A (dW.«list.sort» ⟨[.ref a],[]⟩) P E s2)
  (h:∀ out,OK out->Q (.ref (s.heap.objs.size+1)) { s with heap:=sortedAll s.heap vs out }) :
  wpAny (model X.prog X.w) A (call (.builtin "sorted") [.ref l]) Q E s:=by
 apply WK Pn Pj Pk (Wk _);unfold dW.«sorted»
 apply aG (m:=N5 "sorted" 1 1 _);apply bC
 apply aG;refine collect_list hl ?_ few
 apply aG;refine GC ?_ few
 have z:((s.heap.push (dw "list" #[] 0)).update s.heap.objs.size (jo (· ++ vs.toArray))).objs.size=s.heap.objs.size+1:=(Heap.size_update _ _ _).trans (HS _ _)
 show wpAny _ _ _ _ _ { s with heap:=((s.heap.push (dw "list" #[] 0)).update s.heap.objs.size (jo (· ++ vs.toArray))).push (dw "list" vs.toArray 0) }
 have at_:(((s.heap.push (dw "list" #[] 0)).update s.heap.objs.size (jo (· ++ vs.toArray))).push (dw "list" vs.toArray 0)).get? (s.heap.objs.size+1)=some (dw "list" vs.toArray 0):=z ▸ eO _ rfl
 have keep:∀ b o,s.heap.get? b=some o->(((s.heap.push (dw "list" #[] 0)).update s.heap.objs.size (jo (· ++ vs.toArray))).push (dw "list" vs.toArray 0)).get? b=some o/\b≠s.heap.objs.size+1:=fun b o q=>by
  have hlt:b<s.heap.objs.size:=bQ q
  refine ⟨?_,cH (uF hlt)⟩
  rw [adV _ _ _ (by rw [z];exact cH (uF hlt)),adU _ _ _ _ (cH hlt),adV _ _ _ (cH hlt)]
  exact q
 rw [z]
 apply aG;refine jJ (xJ Pb ⟨_,at_,rfl⟩ Pa (hsort _ _ _ _ _ at_ keep fun out ok=>⟨_,rfl,bC ⟨_,rfl,h out ok⟩⟩) (Wd _))
noncomputable def alG (K:aZ):List V->Hp->VK->Prop:=fun xs H Q=>∃ a ns,xs=[V.ref a]/\SqL K H a (ns.map V.int)/\(ns.length<64\/ns.length=64/\(ns.take 63).Pairwise (· <= ·)) /\
 ∀ (l:Addr) (ns':List Int),H l=none->ns'.Perm ns->ns'.Pairwise (· <= ·)->Q (.ref l) (upd H l (.lst (ns'.map V.int)))
theorem Js:gC X (.builtin "sorted") (alG X.K):=by
 walk_at "j"
 obtain ⟨a,ns,rfl,ha,h64 | h64,q⟩:=h
 ·exact Jl pins s σ H _ us Q I r ⟨a,ns,rfl,ha,h64,q⟩
 obtain ⟨u,rfl,ru⟩:=vals1 r
 cases ru
 obtain ⟨its,rv,p,hz⟩:=I.list ha
 have hI:=intsAre_of rv
 have hl:its.length=ns.length:=by rw [<- rv.length,bG]
 rw [bG] at hz
 refine Jr (vs:=its) (OK:=fun out=>∃ ns',IntsAre out.toList ns'/\ns'.Perm ns/\ns'.Pairwise (· <= ·)) p.isList (hl ▸ hz) (fun s2 b P A E hb kp hP=>Tm.agf hb hI (hl ▸ hz) h64 fun out ns' a1 a2 a3=>hP out ⟨ns',a1,a2,a3⟩) ?_
 rintro out ⟨ns',a1,a2,a3⟩
 obtain ⟨e,he⟩:=Wl s.heap its out
 refine ⟨.ref (s.heap.objs.size+1),_,I.laid (t':=s.toks) (fun _ _=>Wh) (lM _) (show dh X.prog X.w _ _ (s.heap.objs.size+1) (.lst (ns'.map V.int)) from ⟨?_,out.toList,e,lV a1,by simpa using he⟩),rfl,q _ ns' (I.hok.fresh (lM _)) a2 a3⟩
 rw [bG,a2.length_eq];exact hz
noncomputable def ah4:List V->Hp->VK->Prop:=fun xs H Q=>∃ (a:Addr) (ts:List Addr) (f:Addr->Int × Int) (M:Int),xs=[.ref a]/\H a=some (.lst (ts.map V.ref))/\ts.length<64/\(∀ t∈ts,H t=some (.tup [.int (f t).1,.int (f t).2])/\0<=(f t).2/\(f t).2<M) /\
 ∀ (l:Addr) (ts':List Addr),H l=none->ts'.Perm ts->(ts'.Pairwise fun t u=>(f t).1*M+(f t).2<=(f u).1*M+(f u).2)->Q (.ref l) (upd H l (.lst (ts'.map V.ref)))
theorem Jt:∀ {ts:List Addr} {us:List Value},Vals (ts.map V.ref) us->us=ts.map Value.ref
 | [],_,h=>by cases h;rfl
 | t::ts,_,h=>by
  cases h with
  | cons r1 r2=>cases r1;rw [Jt r2];rfl
theorem Ju:∀ ts:List Addr,Vals (ts.map V.ref) (ts.map Value.ref)
 | []=>.nil
 | _::ts=>.cons rfl (Ju ts)
theorem S5:∀ {ts:List Addr} {us:List Value},(∀ v∈us,v∈ts.map Value.ref)->∃ ts':List Addr,us=ts'.map Value.ref
 | _,[],_=>⟨[],rfl⟩
 | ts,u::us,h=>by
  obtain ⟨t,_,e⟩:=jW.mp (h u cX)
  obtain ⟨ts',e'⟩:=S5 fun v m=>h v (gF _ m)
  exact ⟨t::ts',by rw [<- e,e'];rfl⟩
theorem Zj:∀ {ts:List Addr},(ts.map Value.ref).map (fun v=>match v with | Value.ref a=>a | _=>0)=ts
 | []=>rfl
 | t::ts=>by rw [gB,gB,Zj]
theorem S6:gC X (.builtin "sorted") ah4:=by
 walk_at "j"
 obtain ⟨a,ts,f,M,rfl,ha,h64,ht,q⟩:=h
 obtain ⟨u,rfl,ru⟩:=vals1 r
 cases ru
 obtain ⟨its,rv,p,hz⟩:=I.list (a:=a) (xs:=ts.map V.ref) (.inl (.inl ha))
 have hI:=Jt rv
 subst hI
 have hzl:(ts.map Value.ref).length<=sizeLine:=by rw [bG] at hz ⊢; exact hz
 have hfresh:H (s.heap.objs.size+1)=none:=I.hok.fresh (lM _)
 have each:∀ v∈ts.map Value.ref,∃ a,v = .ref a/\0<=(f a).2/\(f a).2<M/\∃ o n t1 t2,s.heap.get? a=some o/\o.cls = .type "tuple" /\ o.data = .seq #[.int (f a).1 t1,.int (f a).2 t2] n:=fun v hv=>by
  obtain ⟨t,mt,rfl⟩:=jW.mp hv
  obtain ⟨h1,h2,h3⟩:=ht t mt
  obtain ⟨itx,rx,px,_⟩:=I.tuple (a:=t) (.inl (.inl h1))
  obtain ⟨t1,t2,rfl⟩:∃ t1 t2,itx=[.int (f t).1 t1,.int (f t).2 t2]:=by
   cases rx with
   | cons r1 r2=>cases r2 with
    | cons r2 r3=>cases r3;obtain ⟨t1,rfl⟩:=r1;obtain ⟨t2,rfl⟩:=r2;exact ⟨t1,t2,rfl⟩
  obtain ⟨o,g1,g2,n,g3⟩:=px
  exact ⟨t,rfl,h2,h3,o,n,t1,t2,g1,g2,g3⟩
 refine Jr (vs:=ts.map Value.ref) (OK:=fun out=>out.toList.Perm (ts.map Value.ref)/\out.toList.Pairwise fun x y=>(Tm.Bq s.heap 0 f M).R (x,x)<=(Tm.Bq s.heap 0 f M).R (y,y)) p.isList hzl (fun s2 b P A E hb kp hP=>?_) fun out hout=>?_
 ·refine Tm.agg (f:=f) (M:=M) hb (fun v hv=>?_) hzl (by rw [bG];exact h64) fun out p1 p2=>hP out ⟨p1,p2⟩
  obtain ⟨a,e,g1,g2,o,n,t1,t2,g3,g4,g5⟩:=each v hv
  exact ⟨a,e,(kp _ _ g3).2,g1,g2,o,n,t1,t2,(kp _ _ g3).1,g4,g5⟩
 ·obtain ⟨p1,p2⟩:=hout
  obtain ⟨ts',e⟩:=S5 fun v m=>p1.mem_iff.mp m
  rw [e] at p1 p2
  have pp:ts'.Perm ts:=by
   have:=p1.map fun v=>match v with | Value.ref a=>a | _=>0
   rwa [Zj,Zj] at this
  have p3:ts'.Pairwise fun t u=>(f t).1*M+(f t).2<=(f u).1*M+(f u).2:=(Hq (f:=Value.ref)).mp p2
  obtain ⟨e1,he⟩:=Wl s.heap (ts.map Value.ref) out
  refine ⟨.ref (s.heap.objs.size+1),_,I.laid (t':=s.toks) (fun _ _=>Wh) (lM _) (show dh X.prog X.w _ _ (s.heap.objs.size+1) (.lst (ts'.map V.ref)) from ⟨?_,ts'.map Value.ref,e1,Ju ts',?_⟩),rfl,q _ ts' hfresh pp p3⟩
  ·rw [bG,pp.length_eq];rw [bG] at hz;exact hz
  ·rw [<- e];simpa using he
noncomputable def fOf (H:Hp) (t:Addr):Int × Int:=match H t with
 | some (.tup [.int i,.int m])=>(i,m)
 | _=>(0,0)
noncomputable def ah5:List V->Hp->VK->Prop:=fun xs H Q=>∃ (a:Addr) (ps:List (Addr × (Int × Int))) (M:Int),xs=[.ref a]/\H a=some (.lst (ps.map fun p=>V.ref p.1))/\ps.length<64/\(∀ p∈ps,H p.1=some (.tup [.int p.2.1,.int p.2.2])/\0<=p.2.2/\p.2.2<M) /\
 ∀ (l:Addr) (ps':List (Addr × (Int × Int))),H l=none->ps'.Perm ps->(ps'.Pairwise fun p q=>p.2.1*M+p.2.2<=q.2.1*M+q.2.2)->Q (.ref l) (upd H l (.lst (ps'.map fun p=>V.ref p.1)))
theorem S7:gC X (.builtin "sorted") ah5:=by
 walk_at "j"
 refine S6 pins s σ H xs us Q I r ?_
 obtain ⟨a,ps,M,rfl,ha,h64,ht,q⟩:=h
 have hf:∀ p∈ps,fOf H p.1=p.2:=fun p m=>by unfold fOf;rw [(ht p m).1]
 have hps:(ps.map (·.1)).map (fun t=>(t,fOf H t))=ps:=by
  rw [pO]
  conv=>rhs;rw [<- adG ps]
  exact Ho fun p m=>mX rfl (hf p m)
 refine ⟨a,ps.map (·.1),fOf H,M,rfl,by rw [ha,pO];rfl,by rw [bG];exact h64,fun t m=>?_,fun l ts hl hp hs=>?_⟩
 ·obtain ⟨p,mp,rfl⟩:=jW.mp m
  show H p.1=some (.tup [.int (fOf H p.1).1,.int (fOf H p.1).2])/\0<=(fOf H p.1).2/\(fOf H p.1).2<M
  rw [hf p mp]
  exact ht p mp
 ·have:=q l (ts.map fun t=>(t,fOf H t)) hl (by have:=hp.map fun t=>(t,fOf H t);rwa [hps] at this) (Hq.mpr hs)
  rw [pO] at this
  exact this
end
end L2
namespace Sx
open PySem
noncomputable def Ris (l:List Nat):Prop:=l.Pairwise (· < ·)
theorem Jv {xs:Array Nat} {j:Nat} (hr:Ris xs.toList):∀ (f lo hi:Nat),hi-lo<=f->lo<=hi->hi<=xs.size->(∀ (i v:Nat),xs[i]? = some v->i<lo->v<j)->(∀ (i v:Nat),xs[i]? = some v->hi<=i->j<=v) ->
  PJ xs j f lo hi<=xs.size/\(∀ (i v:Nat),xs[i]? = some v->i<PJ xs j f lo hi->v<j)/\∀ (i v:Nat),xs[i]? = some v->PJ xs j f lo hi<=i->j<=v
 | 0,lo,hi,h1,h2,h3,h4,h5=>by
  obtain rfl:hi=lo:=by lia
  exact ⟨h3,h4,h5⟩
 | f+1,lo,hi,h1,h2,h3,h4,h5=>by
  unfold PJ
  by_cases c:lo<hi
  ·rw [if_pos c]
   dsimp only
   have mh:(lo+hi) / 2<xs.size:=by lia
   have em:xs[(lo+hi) / 2]? = some xs[(lo+hi) / 2]:=getElem?_pos xs _ mh
   have eg:xs.getD ((lo+hi) / 2) j=xs[(lo+hi) / 2]:=by rw [Array.getD_eq_getD_getElem?,em];rfl
   have mono:∀ (i k v u:Nat),xs[i]? = some v->xs[k]? = some u->i<=k->v<=u:=fun i k v u e1 e2 h=>by
    rw [<- iU] at e1 e2
    obtain ⟨l1,rfl⟩:=jB.mp e1
    obtain ⟨l2,rfl⟩:=jB.mp e2
    rcases jk i k with z | z
    ·exact mG (Hf.mp hr i k l1 l2 z)
    ·obtain rfl:i=k:=by lia
     exact bV _
   rw [eg]
   by_cases d:xs[(lo+hi) / 2]<j
   ·rw [if_pos d]
    refine Jv hr f _ hi tb_g% tb_g% h3 (fun i v e g=>?_) h5
    have:=mono i _ v _ e em tb_g%
    lia
   ·rw [if_neg d]
    refine Jv hr f lo _ tb_g% tb_g% tb_g% h4 fun i v e g=>?_
    have:=mono _ i _ v em e g
    lia
  ·rw [if_neg c]
   obtain rfl:hi=lo:=by lia
   exact ⟨h3,h4,h5⟩
theorem Br {xs:Array Nat} (hr:Ris xs.toList) (j:Nat) :
  jm xs j<=xs.size/\(∀ (i v:Nat),xs[i]? = some v->i<jm xs j->v<j)/\∀ (i v:Nat),xs[i]? = some v->jm xs j<=i->j<=v :=
 Jv hr _ 0 _ tb_g% (cY _) (bV _) (fun _ _ _ h=>absurd h (adZ _)) fun i v e h=>by
  obtain ⟨l,_⟩:=ad3.mp e
  lia
theorem Zk {xs:Array Nat} (hr:Ris xs.toList):jm xs 0=0:=by
 obtain ⟨a,b,c⟩:=Br hr 0
 rcases Hy (jm xs 0) with z | z
 ·exact z
 ·have l:0<xs.size:=by lia
  exact absurd (b 0 _ (getElem?_pos xs 0 l) z) (adZ _)
theorem Zm {xs:Array Nat} (hr:Ris xs.toList) {i v:Nat} (e:xs[i]? = some v):jm xs (v+1)=i+1:=by
 obtain ⟨a,b,c⟩:=Br hr (v+1)
 obtain ⟨l,e'⟩:=ad3.mp e
 have strict:∀ (k u:Nat),xs[k]? = some u->i<k->v<u:=fun k u e2 h=>by
  have e1:=e
  rw [<- iU] at e1 e2
  obtain ⟨l1,rfl⟩:=jB.mp e1
  obtain ⟨l2,rfl⟩:=jB.mp e2
  exact Hf.mp hr i k l1 l2 h
 rcases adX (jm xs (v+1)) (i+1) with z | z | z
 ·have:=c i v e tb_g%
  lia
 ·exact z
 ·have l2:i+1<xs.size:=by lia
  have e2:=getElem?_pos xs (i+1) l2
  have:=b (i+1) _ e2 z
  have:=strict (i+1) _ e2 tb_g%
  lia
structure Tk (t:fK) (n:Nat) (ld:Bool):Prop where
 n:t.place.size=n
 r:Ris t.place.toList
 d:t.dummies = #[]
 l:t.led=ld
theorem Zn {t:fK} {n j:Nat} {ld:Bool} (h:Tk t n ld) (e:t.slot j = .empty):j∉t.place.toList:=fun m=>by
 obtain ⟨i,l,q⟩:=yL.mp m
 have e1:t.place[i]? = some j:=by rw [<- iU,fY l,q]
 obtain ⟨a,b,c⟩:=Br h.r j
 have ge:jm t.place j<=i:=adY fun z=>pP _ (b i j e1 z)
 have eq:jm t.place j=i:=by
  rcases jk (jm t.place j) i with z | z
  ·have l3:i<t.place.size:=by simpa using l
   have l2:jm t.place j<t.place.size:=by lia
   have c1:=c _ _ (getElem?_pos t.place _ l2) (bV _)
   have:=Hf.mp h.r (jm t.place j) i (by simpa using l2) l z
   rw [q] at this
   have c2:j<=t.place.toList[jm t.place j]'(by simpa using l2):=by simpa using c1
   lia
  ·lia
 unfold aeL at e
 dsimp only at e
 rw [eq,e1] at e
 simp at e
theorem K5 {t:fK} {n j:Nat} {ld:Bool} (h:Tk t n ld):t.slot j ≠ .dummy:=fun e=>by
 unfold aeL at e
 dsimp only at e
 split at e
 ·cases e
 ·rw [h.d] at e
  have hs:Px #[] j=false:=by unfold Px;simp
  rw [hs] at e
  simp at e
theorem S8 {t:fK} {n:Nat} {ld:Bool} (h:Tk t n ld) {g:Nat->Int} {hh:Int}:∀ (f:Nat) (p:aj6) (j:Nat) (d:Option Nat),p.dummy=none->afc t g hh f p=some (.empty j d)->d=none/\t.slot j = .empty
 | 0,_,_,_,_,e=>by cases e
 | f+1,p,j,d,hp,e=>by
  unfold afc at e
  have adv:(t.advance p).dummy=none:=by
   unfold aj3
   split
   ·exact hp
   ·exact hp
  cases hs:t.slot p.j with
  | empty =>
   rw [hs] at e
   simp only [V7,akY] at e
   obtain ⟨rfl,rfl⟩:=e
   exact ⟨hp,hs⟩
  | dummy=>exact absurd hs (K5 h)
  | live i =>
   rw [hs] at e
   dsimp only at e
   split at e
   ·cases e
   ·exact S8 h f _ j d adv e
theorem ah6 {t:fK} {n:Nat} {ld:Bool} (h:Tk t n ld) {hh:Int} {slot:Nat} {wd:Bool} (e:t.freeSlot hh=some (slot,wd)):slot∉t.place.toList:=by
 unfold aj0 at e
 split at e
 ·rename_i j d hq
  obtain ⟨rfl,q⟩:=S8 h _ _ j d (by unfold ajX;rfl) hq
  simp only [WQ,Option.isSome_none,V7,W6] at e
  rw [<- e.1]
  exact Zn h q
 ·cases e
theorem ah7 {xs:Array Nat} (hr:Ris xs.toList) {j:Nat} (nj:j∉xs.toList):Ris (aj1 xs (jm xs j) j).toList:=by
 obtain ⟨a,b,c⟩:=Br hr j
 rw [ajW]
 unfold Ris at hr ⊢
 rw [vp]
 have e:xs.toList=xs.toList.take (jm xs j)++xs.toList.drop (jm xs j):=(CV _ _).symm
 have lo:∀ v∈xs.toList.take (jm xs j),v<j:=fun v m=>by
  obtain ⟨i,l,q⟩:=yL.mp m
  rw [gU] at l
  rw [Om] at q
  exact b i v (by rw [<- iU,fY tb_g%,q]) tb_g%
 have hi:∀ v∈xs.toList.drop (jm xs j),j<v:=fun v m=>by
  have m':v∈xs.toList:=Hl m
  obtain ⟨i,l,q⟩:=yL.mp m
  rw [Vu] at q
  rw [yN] at l
  have:=c (jm xs j+i) v (by rw [<- iU,fY tb_g%,q]) tb_g%
  rcases jk j v with z | z
  ·exact z
  ·exact absurd m' (by rw [show v=j by lia];exact nj)
 refine ⟨hr.sublist (Vt _ _),iH.mpr ⟨hi,hr.sublist (List.drop_sublist _ _)⟩,fun v m u m2=>?_⟩
 rcases bN.mp m2 with rfl | m2
 ·exact lo v m
 ·exact ad0 (lo v m) (hi u m2)
theorem abK (n:Nat):Ris (Array.range n).toList:=by
 unfold Ris
 rw [Array.toList_range]
 exact ade
theorem tO {t:fK} (n:Nat) {ld:Bool} (hl:t.led=ld):Tk (t.standIn n) n ld:=⟨by unfold aj4;simp,abK n,rfl,hl⟩
theorem abL {t:fK} {es:Array (Int × Value)} {ld:Bool} (h:Tk t es.size ld) (hh:Int) (x:Value):Tk (G9 t es hh x).2.1 (es.size+1) ld/\(G9 t es hh x).1.size=es.size+1:=by
 have sz:(G9 t es hh x).1.size=es.size+1:=by
  have:=(layNew_perm t es hh x).length_eq
  simpa using this
 refine ⟨?_,sz⟩
 rw [<- sz]
 unfold G9
 split
 ·rename_i slot wd e
  dsimp only
  unfold ajY
  split
  ·rename_i hf
   refine ⟨?_,?_,?_,h.l⟩
   ·unfold aeM at hf
    simp only [HY,beq_iff_eq] at hf
    exact hf.1
   ·exact ah7 h.r (ah6 h e)
   ·unfold aj8
    dsimp only
    rw [h.d]
    have hs:Px #[] slot=false:=by unfold Px;simp
    rw [hs];rfl
  ·exact tO _ h.l
 ·have e:(es.push (hh,x)).size=es.size+1:=V9 ..
  rw [e]
  exact tO _ h.l
theorem agh (owner:Array (Option Nat)) (m:Nat):Ris (((oE (m+1)).filterMap fun j=>(owner.getD j none).map (j,·)).map (·.1)):=by
 unfold Ris
 rw [adp]
 refine ak0 _ (R:=(· < ·)) (fun a a' hlt b hb b' hb'=>?_) ade
 cases h1:owner.getD a none with
 | none=>rw [h1] at hb;cases hb
 | some u =>
  cases h2:owner.getD a' none with
  | none=>rw [h2] at hb';cases hb'
  | some u' =>
   rw [h1] at hb
   rw [h2] at hb'
   simp at hb hb'
   lia
theorem agi {t:fK} {es:Array (Int × Value)} {ld:Bool} (hl:t.led=ld) (wanted:Nat):Tk (vh t es wanted).2.1 es.size ld/\(vh t es wanted).1.size=es.size:=by
 have sz:(vh t es wanted).1.size=es.size:=by
  have:=(ac2 t es wanted).length_eq
  simpa using this
 refine ⟨?_,sz⟩
 have hf:=ac3 t es wanted
 rw [sz] at hf
 unfold vh at hf ⊢
 split
 ·rename_i t' order e
  rw [e] at hf
  dsimp only at hf ⊢
  split
  ·rename_i hc
   rw [if_pos hc] at hf
   dsimp only at hf ⊢
   unfold aj5 aj7 at e
   cases ow:aj2 (ajZ wanted-1) (es.map (·.1)) with
   | none=>rw [ow] at e;cases e
   | some owner =>
    rw [ow] at e
    simp only [Option.bind_eq_bind,Option.bind_some,Option.pure_def,V7,W6] at e
    obtain ⟨rfl,_⟩:=e
    refine ⟨?_,?_,rfl,hl⟩
    ·unfold aeM at hf
     simp only [HY,beq_iff_eq] at hf
     exact hf.1
    ·exact agh owner _
  ·exact tO _ hl
 ·exact tO _ hl
theorem Jw {α:Type} {l:List α} {i:Nat} (h:i<l.length):(l[i]::l.eraseIdx i).Perm l:=by
 rw [List.eraseIdx_eq_take_drop_succ]
 refine Vw.symm.trans ?_
 rw [List.getElem_cons_drop h,CV]
theorem aaP {α:Type} (next:Nat->Nat):∀ (f k:Nat) (left:List α) (out:Array α),left.length=f->(pickOrder.go next f k left out).toList.Perm (out.toList++left)
 | 0,k,left,out,h=>by
  rw [Ac.mp h,yO];exact .rfl
 | f+1,k,left,out,h=>by
  unfold pickOrder.go
  have lt:next k % left.length<left.length:=ad2 _ tb_g%
  rw [fY lt]
  dsimp only
  have ih:=aaP next f (k+1) (left.eraseIdx (next k % left.length)) (out.push left[next k % left.length]) (by rw [ac8 lt];lia)
  refine ih.trans ?_
  rw [yV,lE]
  exact Ie _ (Jw lt)
theorem abM {α:Type} (next:Nat->Nat) (xs:Array α):(N7 next xs).toList.Perm xs.toList:=by
 have:=aaP next xs.size 0 xs.toList #[] (by simp)
 simpa [N7] using this
end Sx
set_option autoImplicit false
namespace Sx
open PySem
noncomputable def iv:Value->Int
 | .int n _=>n
 | _=>0
noncomputable def keys (es:Array (Int × Value)):List Int:=es.toList.map fun e=>iv e.2
noncomputable def dd1 (C:List Int) (x:Int):List Int:=if x∈C then C else C++[x]
noncomputable def dd (ns:List Int):List Int:=ns.foldl dd1 []
theorem agj {C D:List Int} (x:Int) (h:C.Perm D):(dd1 C x).Perm (dd1 D x):=by
 unfold dd1
 by_cases m:x∈C
 ·rw [if_pos m,if_pos (h.mem_iff.mp m)];exact h
 ·rw [if_neg m,if_neg (fun z=>m (h.mem_iff.mpr z))];exact h.append_right _
theorem ah8 {ns:List Int} {i:Nat} {x:Int} (e:ns[i]? = some x):dd (ns.take (i+1))=dd1 (dd (ns.take i)) x:=by
 unfold dd
 rw [xO,e,adu];rfl
theorem ah9 {C:List Int} {x z:Int}:z∈dd1 C x↔z∈C\/z=x:=by
 unfold dd1
 split
 ·rename_i h
  exact ⟨.inl,fun q=>q.elim id fun e=>e ▸ h⟩
 ·rw [d9,eZ]
theorem Ms {C:List Int} {x:Int} (h:C.Nodup):(dd1 C x).Nodup:=by
 unfold dd1
 split
 ·exact h
 ·rename_i n
  refine Ol.mpr ⟨h,lF.mpr ⟨jK,vC⟩,fun a m b m2 e=>?_⟩
  rw [eZ] at m2
  exact n (by rw [<- m2,<- e];exact m)
theorem Zo (ns:List Int):∀ C:List Int,C.Nodup->(ns.foldl dd1 C).Nodup/\(∀ z,z∈ns.foldl dd1 C↔z∈C\/z∈ns)/\(ns.foldl dd1 C).length<=C.length+ns.length:=by
 induction ns with
 | nil=>exact fun C h=>⟨h,fun z=>by simp,by simp⟩
 | cons x r ih =>
  intro C h
  obtain ⟨a,b,c⟩:=ih (dd1 C x) (Ms h)
  refine ⟨a,fun z=>?_,?_⟩
  ·show z∈r.foldl dd1 (dd1 C x)↔_
   rw [b z,ah9,bN]
   constructor
   ·rintro ((q | q) | q)
    ·exact .inl q
    ·exact .inr (.inl q)
    ·exact .inr (.inr q)
   ·rintro (q | q | q)
    ·exact .inl (.inl q)
    ·exact .inl (.inr q)
    ·exact .inr q
  ·show (r.foldl dd1 (dd1 C x)).length<=_
   have:(dd1 C x).length<=C.length+1:=by unfold dd1;split <;> simp
   rw [iI];lia
theorem S9 (ns:List Int):(dd ns).Nodup:=(Zo ns [] vC).1
theorem agk {ns:List Int} {z:Int}:z∈dd ns↔z∈ns:=by
 rw [show dd ns=ns.foldl dd1 [] from rfl,(Zo ns [] vC).2.1 z];simp
theorem QF (ns:List Int):(dd ns).length<=ns.length:=by have:=(Zo ns [] vC).2.2;simpa [dd] using this
section
variable {prog:aO} {w:World} {A:bA} {E:Value->Shared->Prop} {s:Shared}
structure fj (prog:aO) (w:World) (h:Heap) (a:Addr) (es:Array (Int × Value)) (ep:Nat) (t:fK) (ld:Bool):Prop where
 o:h.get? a=some { cls:=.type "set",dict:=none,data:=.set es ep t,slots:=#[] }
 el:Od (iw prog w) es.toList
 tk:Tk t es.size ld
 few:es.size<scanBound
 ft:t.fits es.size=true
theorem fj.keep {h h':Heap} {a:Addr} {es:Array (Int × Value)} {ep:Nat} {t:fK} {ld:Bool} (x:fj prog w h a es ep t ld) (k:∀ o,h.get? a=some o->h'.get? a=some o):fj prog w h' a es ep t ld:=⟨k _ x.o,x.el,x.tk,x.few,x.ft⟩
theorem fj.ty {a:Addr} {es:Array (Int × Value)} {ep:Nat} {t:fK} {ld:Bool} (x:fj prog w s.heap a es ep t ld):s.TypeIs (.ref a) "set" := ⟨_,x.o,rfl⟩
theorem ajo {k:Int} {v:Value} (h:(iw prog w).is k v=true) (hs:v.scannable=true):iv v=k:=by
 have h:Dr k v=true:=h
 cases v <;> simp_all [Dr,iv,Value.scannable]
theorem alH {es:List (Int × Value)} (h:Od (iw prog w) es) {e:Int × Value} (m:e∈es):(iw prog w).is (iv e.2) e.2=true:=by
 obtain ⟨⟨k,hk,_⟩,hs⟩:=h e m
 rw [ajo hk hs];exact hk
theorem agl {h:Heap} {a:Addr} {es:Array (Int × Value)} {ep:Nat} {t:fK} (o:h.get? a=some { cls:=.type "set",dict:=none,data:=.set es ep t,slots:=#[] }) (es':Array (Int × Value)) (t':fK) :
  (h.update a (Py es' t')).get? a=some { cls:=.type "set",dict:=none,data:=.set es' (ep+1) t',slots:=#[] }:=by
 have:=Ag (Py es' t') o (by rw [putSet_of es' t' rfl];rfl)
 rw [putSet_of es' t' rfl] at this;exact this
theorem alI {a:Addr} {es:Array (Int × Value)} {ep:Nat} {t:fK} {ld:Bool} {n:Int} {k:Tok} {Q:Bool->Shared->Prop} (x:fj prog w s.heap a es ep t ld) (room:es.size+1<scanBound)
  (q:∀ (h':Heap) (es':Array (Int × Value)) (ep':Nat) (t':fK) (b:Bool),vG a s.heap h'->fj prog w h' a es' ep' t' ld->(keys es').Perm (dd1 (keys es) n)->Q b { s with heap:=h' }) :
  wpAny (model prog w) A (ac5 a (.int n k) ((iw prog w).hash n)) Q E s:=by
 have key:(iw prog w).is n (.int n k)=true:=decide_eq_true rfl
 unfold ac5 Nv
 refine jJ (aG (Cu x.o rfl x.ft ?_));dsimp only
 rw [byScan_of rfl x.few x.el,if_pos rfl]
 unfold setAddByScan
 refine aG (aG (ou (aG (wpAny_setScan_of key x.o rfl x.ft x.el ?_))))
 cases hr:List.findIdx? (fun e=>(iw prog w).is n e.2) es.toList with
 | some j =>
  dsimp only
  obtain ⟨hj,hp,_⟩:=List.findIdx?_eq_some_iff_getElem.mp hr
  have hm:n∈keys es:=by
   have sc:=(x.el _ (sX hj)).2
   exact jW.mpr ⟨_,sX hj,ajo hp sc⟩
  refine bC (bC ?_)
  have:=q s.heap es ep t false (akq a s.heap) x (by unfold dd1;rw [if_pos hm])
  cases s;exact this
 | none =>
  dsimp only
  have hm:n∉keys es:=fun m=>by
   obtain ⟨e,me,q1⟩:=jW.mp m
   have h1:=List.findIdx?_eq_none_iff.mp hr e me
   have h2:=alH x.el me
   rw [q1] at h2
   rw [h2] at h1;cases h1
  have p1:=layNew_perm t es ((iw prog w).hash n) (.int n k)
  have f1:=layNew_fits t es ((iw prog w).hash n) (.int n k)
  obtain ⟨k1,z1⟩:=abL x.tk ((iw prog w).hash n) (.int n k)
  generalize G9 t es ((iw prog w).hash n) (.int n k)=L at p1 f1 k1 z1 ⊢
  obtain ⟨es1,t1,wd,gv⟩:=L
  dsimp only at p1 f1 k1 z1 ⊢
  have e1:Od (iw prog w) es1.toList:=(x.el.push key rfl).perm (by rw [yV] at p1;exact p1)
  have pk:(keys es1).Perm (dd1 (keys es) n):=by
   unfold dd1
   rw [if_neg hm]
   have:=p1.map fun e=>iv e.2
   rw [yV,eG] at this
   exact this
  have S1:∀ h':Heap,h'.get? a=some { cls:=.type "set",dict:=none,data:=.set es1 (ep+1) t1,slots:=#[] }->fj prog w h' a es1 (ep+1) t1 ld:=fun h' o=>⟨o,e1,by rw [z1];exact k1,by lia,f1⟩
  have rest:wpAny (model prog w) A (yG a es1 t1 >>= fun _=>if (!wd && t1.tooFull)=true then (match vh t1 es1 (zj es1.size) with
    | (es2,t2,gave)=>(match gave with | true=>rule "set.scan.the-table-gave-way" | false=>pure ()) >>= fun _=>yG a es2 t2 >>= fun _=>pure (some true)) else pure (some true))
    (fun r s'=>wpAny (model prog w) A (match r with | some added=>pure added | none=>Nv a (.int n k) ((iw prog w).hash n) 99999) Q E s') E s:=by
   refine aG (acM x.o rfl ?_ (Cv tb_g%))
   have o1:=agl x.o es1 t1
   have b1:=ae4 s.heap a (Py es1 t1)
   split
   ·have p2:=ac2 t1 es1 (zj es1.size)
    have f2:=ac3 t1 es1 (zj es1.size)
    obtain ⟨k2,z2⟩:=agi (es:=es1) k1.l (zj es1.size)
    generalize vh t1 es1 (zj es1.size)=L2 at p2 f2 k2 z2 ⊢
    obtain ⟨es2,t2,gv2⟩:=L2
    dsimp only at p2 f2 k2 z2 ⊢
    refine aG ?_
    have fin:wpAny (model prog w) A (yG a es2 t2 >>= fun _=>pure (some true)) (fun r s'=>wpAny (model prog w) A (match r with | some added=>pure added | none=>Nv a (.int n k) ((iw prog w).hash n) 99999) Q E s') E { s with heap:=s.heap.update a (Py es1 t1) }:=by
     refine aG <| acM o1 rfl (bC (bC ?_)) (Cv tb_g%)
     refine q _ es2 (ep+1+1) t2 true (b1.trans (ae4 _ a _)) ⟨agl o1 es2 t2,e1.perm p2,by rw [z2];exact k2,by lia,f2⟩ ?_
     exact (show (keys es2).Perm (keys es1) from p2.map _).trans pk
    cases gv2
    ·exact bC fin
    ·exact ou fin
   ·exact bC (bC (q _ es1 (ep+1) t1 true b1 (S1 _ o1) pk))
  have go:∀ b:Bool,wpAny (model prog w) A (if b=true then hashByValue 8 (.int n k) >>= fun v=>(fun byValue=>yG a es1 (if byValue=true then t1 else { t1 with plain:=false }) >>= fun _=>if (!wd && (if byValue=true then t1 else { t1 with plain:=false }).tooFull)=true then (match vh (if byValue=true then t1 else { t1 with plain:=false }) es1 (zj es1.size) with
    | (es2,t2,gave)=>(match gave with | true=>rule "set.scan.the-table-gave-way" | false=>pure ()) >>= fun _=>yG a es2 t2 >>= fun _=>pure (some true)) else pure (some true)) v else pure true >>= fun v=>(fun byValue=>yG a es1 (if byValue=true then t1 else { t1 with plain:=false }) >>= fun _=>if (!wd && (if byValue=true then t1 else { t1 with plain:=false }).tooFull)=true then (match vh (if byValue=true then t1 else { t1 with plain:=false }) es1 (zj es1.size) with
    | (es2,t2,gave)=>(match gave with | true=>rule "set.scan.the-table-gave-way" | false=>pure ()) >>= fun _=>yG a es2 t2 >>= fun _=>pure (some true)) else pure (some true)) v)
    (fun r s'=>wpAny (model prog w) A (match r with | some added=>pure added | none=>Nv a (.int n k) ((iw prog w).hash n) 99999) Q E s') E s:=fun b=>by
   cases b
   ·exact aG (bC rest)
   ·exact aG (qP (a:=true) rfl rest)
  cases gv
  ·exact aG (bC (go t1.plain))
  ·exact aG (ou (go t1.plain))
end
end Sx
set_option autoImplicit false
namespace Sx
open PySem PyProof.Rows
theorem alJ {vs:List Value} {ns:List Int} (h:IntsAre vs ns):∀ {i:Nat} {v:Value},vs[i]? = some v->∃ n t,ns[i]? = some n/\v = .int n t:=by
 induction h with
 | nil=>intro i v e;cases i <;> cases e
 | cons n t _ ih =>
  intro i v e
  cases i with
  | zero=>cases e;exact ⟨n,t,rfl,rfl⟩
  | succ i=>exact ih e
section
variable {prog:aO} {w:World} {A:bA} {E:Value->Shared->Prop} {s:Shared}
theorem agm {R:jV->Shared->Prop} {S I l:Addr} {items:Array Value} {ns:List Int} {ld:Bool} (hh:A.in1.handled=none) (n1:S≠I) (n2:S≠l) (n3:l≠I) (hi:IntsAre items.toList ns) (few:items.size+1<scanBound) :
  ∀ (k i:Nat) (s:Shared) (es:Array (Int × Value)) (ep:Nat) (t:fK),items.size-i=k->i<=items.size->s.heap.IsListIter I l i->s.heap.IsList l items->fj prog w s.heap S es ep t ld->(keys es).Perm (dd (ns.take i)) ->
   (∀ (h':Heap) (tk:Nat) (es':Array (Int × Value)) (ep':Nat) (t':fK),(∀ b o,b≠S->b≠I->s.heap.get? b=some o->h'.get? b=some o)->fj prog w h' S es' ep' t' ld->(keys es').Perm (dd ns)->R (.ok (.ret .none)) { s with heap:=h',toks:=tk }) ->
   fB (model prog w) A (.builtin "set.update.loop" ⟨[.ref S,.ref I],[]⟩) R s:=by
 have len:ns.length=items.size:=by rw [<- fW,hi.length]
 have W:=Ii (prog:=prog) (w:=w) hh I l n3 items
 intro k
 induction k with
 | zero =>
  intro i s es ep t hk hle it li x pk q
  obtain rfl:i=items.size:=by lia
  refine rG F.entry_set_update_loop ?_;rw [vJ F.plain_set_update_loop _]
  show wpAny _ A.in1 (lJ (.ref I) >>= _) _ _ s;refine aG (W.done s _ _ ⟨it,li⟩ fun h' tk kp=>?_)
  show wpAny _ A.in1 (ret Value.none) _ _ _
  refine bC (q h' tk es ep t (fun b o _ b2 e=>kp b o (by simpa using b2) e) (x.keep fun o e=>kp S o (by simpa using n1) e) ?_)
  rw [<- len,vA] at pk;exact pk
 | succ k ih =>
  intro i s es ep t hk hle it li x pk q
  have lt:i<items.size:=by lia
  refine rG F.entry_set_update_loop ?_;rw [vJ F.plain_set_update_loop _]
  show wpAny _ A.in1 (lJ (.ref I) >>= _) _ _ s;refine aG (W.item i s _ _ lt ⟨it,li⟩ fun v h' tk hP st kp=>?_)
  obtain ⟨n,t0,en,rfl⟩:=alJ hi (v:=v) (by rw [iU];exact hP)
  have x1:fj prog w h' S es ep t ld:=x.keep fun o e=>kp S o (by simpa using n1) e
  show wpAny _ A.in1 (CN [Value.int n t0] (setAdd S (.int n t0)) >>= _) _ _ _;refine aG (jJ ?_)
  unfold setAdd
  refine jJ (aG ((iw prog w).pyHash (k:=n) (decide_eq_true rfl) ?_))
  have room:es.size+1<scanBound:=by
   have h1:=pk.length_eq
   have h2:=QF (ns.take i)
   rw [gU] at h2
   have h3:(keys es).length=es.size:=by unfold keys;simp
   lia
  refine alI (s:={ s with heap:=h',toks:=tk+1 }) x1 room fun h2 es2 ep2 t2 b sb x2 p2=>?_
  have Jx:∀ b o,b≠S->h'.get? b=some o->h2.get? b=some o:=fun b o nb e=>by rw [sb.2 b nb];exact e
  refine bC ⟨pK F.plain_set_update_loop _,ih (i+1) _ es2 ep2 t2 tb_g% lt (st.1.at fun o e=>Jx I o (aL n1) e) (st.2.at fun o e=>Jx l o (aL n2) e) x2 ?_ fun h3 tk3 es3 ep3 t3 kp3 x3 p3=>?_⟩
  ·rw [ah8 en];exact p2.trans (agj n pk)
  ·exact q h3 tk3 es3 ep3 t3 (fun b o b1 b2 e=>kp3 b o b1 b2 (Jx b o b1 (kp b o (by simpa using b2) e))) x3 p3
end
end Sx
set_option autoImplicit false
set_option maxRecDepth 100000
namespace Sx
open PySem PyProof.Rows
section
variable {prog:aO} {w:World} {A:bA} {E:Value->Shared->Prop} {s:Shared}
noncomputable def jc (w:World):Bool:=!w.params.followText "set-order"
noncomputable def Zq (ld:Bool):Obj:={ cls:=.type "set",dict:=none,data:=.set #[] 0 (.fresh 0 0 ld) }
theorem aia (a:Value) {Q₁:Value->Shared->Prop} (h:Q₁ (.ref s.heap.objs.size) { s with heap:=s.heap.push (Zq (jc w)) }) :
  fB (model prog w) A (.call (.builtin "set.__new__") ⟨[.type "set",a],[]⟩) (wants Q₁ E) s:=by
 refine acP ?_;show wpAny _ A.in1 (Nq "set.__new__" ⟨[.type "set",a],[]⟩ >>= fun _=>again (.builtin "set.__new__" ⟨[.type "set",a],[]⟩)) _ _ s
 refine aG (qP (F.newCall_set_1 a) (bC ⟨pK F.plain_set_new _,rG F.entry_set_new ?_⟩));rw [vJ F.plain_set_new _]
 unfold dW.«set.__new__» akA;have hsub:=sub_set_self
 obtain ⟨hp,g,d,tk,os⟩:=s
 dsimp only;wp_walk
 refine Cw (bC ?_);dsimp only;simp only [newObj]
 refine aG (wpAny_alloc (bC (bC ?_)))
 exact h
set_option maxHeartbeats 3200000 in
theorem agn {l:Addr} {items:Array Value} {ns:List Int} {Q:Value->Shared->Prop} (hh:A.handled=none) (hl:s.heap.IsList l items) (hi:IntsAre items.toList ns) (few:items.size+1<scanBound)
  (q:∀ (h':Heap) (tk:Nat) (es:Array (Int × Value)) (ep:Nat) (t:fK),fj prog w h' s.heap.objs.size es ep t (jc w)->(keys es).Perm (dd ns)->(∀ b o,s.heap.get? b=some o->h'.get? b=some o)->Q (.ref s.heap.objs.size) { s with heap:=h',toks:=tk }) :
  wpAny (model prog w) A (call (.type "set") [.ref l]) Q E s:=by
 obtain ⟨c,tl,hmro⟩:=F.called_set.mro;have hmade:=F.called_set.made;have hsub:=F.called_set.sub
 refine yD (acP ?_);show wpAny _ _ (callAny (.type "set") _) _ _ _
 refine bC ⟨ae9 _ tb_g%,rG F.entry_type_call ?_⟩;rw [Around.under_plain (weight_type_call_type "set" [.ref l] []) rfl]
 have h1:=F.called_set.notType;have h2:=F.called_set.canCreate;have hct:=F.typeCall_set_1 (.ref l)
 repeat (any_goals (first | assumption | wp_step))
 refine sU (aia (.ref l) (E:=E) (Q₁:=fun obj s₁=>obj = .ref s.heap.objs.size/\s₁={ s with heap:=s.heap.push (Zq (jc w)) }) ⟨rfl,rfl⟩) fun r s₁ hr=>?_
 rcases r with e | fl
 ·exact hr
 cases fl with
 | ret obj =>
  obtain ⟨rfl,rfl⟩:=hr
  have hS:(s.heap.push (Zq (jc w))).get? s.heap.objs.size=some (Zq (jc w)):=eO _ rfl
  have hT:afj { s with heap:=s.heap.push (Zq (jc w)) } (.ref s.heap.objs.size) "set" := ⟨_,hS,rfl⟩
  have hli:=F.called_set.init.lookup;have hbi:=F.called_set.init.bind (.ref s.heap.objs.size)
  repeat (any_goals (first | assumption | wp_step))
  refine sU (Nm (R:=wants (fun r s₂=>r = .none/\∃ h' tk es ep t,s₂={ s with heap:=h',toks:=tk }/\fj prog w h' s.heap.objs.size es ep t (jc w)/\(keys es).Perm (dd ns)/\∀ b o,s.heap.get? b=some o->h'.get? b=some o) E)
   F.called_set.init.plain F.entry_set_init (check_set_init_1 hT ?_)) fun r₂ s₂ hr₂=>?_
  ·obtain ⟨ol,hol,hcl,nl,hdl⟩:=hl
   obtain ⟨ocls,odict,odata,oslots⟩:=ol
   simp only at hcl hdl
   subst hcl;subst hdl
   have hlS:l<s.heap.objs.size:=bQ hol
   have hol':=dN (Zq (jc w)) hol
   unfold Zq at hS hT hol' ⊢
   have hsls:=F.sub_list_set;have hslf:=F.sub_list_frozenset
   have hne:(Value.type "list" == Value.type "dict")=false:=by decide
   have hl1:Heap.IsList (s.heap.push { cls:=.type "set",dict:=none,data:=.set #[] 0 (.fresh 0 0 (jc w)) }) l items:=⟨_,hol',rfl,nl,rfl⟩
   unfold dW.«set.__init__» noKeywords akz
   generalize hPI:yJ=PI;wp_walk;subst hPI
   refine acL hl1 ?_;refine aG (acU ?_)
   have z:(s.heap.push { cls:=.type "set",dict:=none,data:=.set #[] 0 (.fresh 0 0 (jc w)) }).objs.size=s.heap.objs.size+1:=sY ..
   refine agm (ld:=jc w) (by simp [hh]) (by rw [z];exact cH (yS _)) (tu hlS) (by rw [z];exact cH (uF hlS)) hi few (items.size-0) 0 _ #[] 0 (.fresh 0 0 (jc w)) rfl (cY _)
    ⟨_,eO _ rfl,rfl,rfl⟩ (hl1.push _) ⟨dN _ hS,fun e m=>by simp at m,⟨rfl,List.Pairwise.nil,rfl,rfl⟩,by decide,rfl⟩ (by exact .nil) fun h' tk es ep t kp x p=>?_
   show wpAny _ _ _ _ _ _;refine bC ?_
   show wpAny _ _ (ret Value.none) _ _ _;refine bC ⟨rfl,h',tk,es,ep,t,rfl,x,p,fun b o e=>?_⟩
   have hb:=bQ e
   exact kp b o (cH hb) (by rw [z];exact cH (uF hb)) (dN _ (dN _ e))
  ·rcases r₂ with e | fl₂
   ·exact hr₂
   cases fl₂ with
   | ret r =>
    obtain ⟨rfl,h',tk,es,ep,t,rfl,x,p,kp⟩:=hr₂
    repeat (any_goals (first | assumption | wp_step))
    exact q _ _ _ _ _ x p kp
   | _=>exact hr₂.elim
 | _=>exact hr.elim
end
end Sx
set_option autoImplicit false
set_option maxRecDepth 100000
namespace Sx
open PySem PyProof.Rows
theorem kW:Slot "set_iterator" "__next__" "set_iterator.__next__" := .of (owner := "set_iterator") (n := "__next__") (by rw [Nu,Nk];kernel_rfl) tb_g% tb_g% tb_g% (by first | exact .inl tb_g% | exact .inr tb_g%) (by rw [Nx];kernel_rfl)
theorem aaQ:Slot "set_iterator" "__iter__" "set_iterator.__iter__" := .of (owner := "set_iterator") (n := "__iter__") (by rw [Nu,Nk];kernel_rfl) tb_g% tb_g% tb_g% (by first | exact .inl tb_g% | exact .inr tb_g%) (by rw [Nx];kernel_rfl)
theorem Gh:GR table "set_iterator.__next__" = some dW.«set_iterator.__next__» := entryFor_of_tree (by kernel_rfl)
theorem aib:GR table "set_iterator.__iter__" = some dW.«dict_keyiterator.__iter__» := UG (id' := "dict_keyiterator.__iter__") (by kernel_rfl) rfl tb_g% (by kernel_rfl)
theorem ago:GR table "set.__iter__" = some dW.«frozenset.__iter__» := UG (id' := "frozenset.__iter__") (by kernel_rfl) rfl tb_g% (by kernel_rfl)
theorem Gi (a:Value):qT "set_iterator.__next__" ⟨[a],[]⟩:=by unfold qT;kernel_rfl
theorem aic (a:Value):qT "set_iterator.__iter__" ⟨[a],[]⟩:=by unfold qT;kernel_rfl
section
variable {prog:aO} {w:World} {A:bA} {E:Value->Shared->Prop} {s:Shared}
theorem abN {M:Model} {src:Source} {n:Nat} {Q:Nat->Shared->Prop} (h0:n≠0) (q:∀ (i:Nat) (d:Drawn),i<n->Q i { s with drawn:=d }):wpAny M A (choose src n) Q E s:=fun Γ p _=>by
 unfold choose
 rw [Sem.wp_choose]
 exact ⟨h0,q _ _ (ad2 _ (Nat.pos_of_ne_zero h0))⟩
theorem aaR {M:Model} {α:Type}:∀ (n:Nat) (xs:List α) (s:Shared) {Q:List α->Shared->Prop},xs.length=n->(∀ (ys:List α) (d:Drawn),ys.Perm xs->Q ys { s with drawn:=d })->wpAny M A (drawOrder n xs) Q E s
 | 0,xs,s,Q,h,q=>by
  obtain rfl:=Ac.mp h
  exact bC (q [] s.drawn .nil)
 | n+1,[],s,Q,h,q=>by cases h
 | n+1,x::xs,s,Q,h,q=>by
  show wpAny M A (choose .order (x::xs).length >>= _) Q E s
  refine aG (abN (by rw [h];exact Nat.succ_ne_zero n) fun i d hi=>?_)
  rw [fY hi]
  refine aG (aaR n ((x::xs).eraseIdx i) _ (by rw [ac8 hi,h];rfl) fun ys d2 p=>bC (q _ d2 ?_))
  exact (p.cons _).trans (Jw hi)
noncomputable def itO (f:Value) (i:Nat) (a:Addr) (n ep:Nat):Obj:={ cls:=.type "set_iterator",dict:=none,data:=.fields #[f,.int i 0,.ref a,.int n 0,.int ep 0],slots:=#[] }
theorem aaS {I a:Addr} {f:Value} {i n ep:Nat} {Q:Value->Shared->Prop} (o:s.heap.get? I=some (itO f i a n ep)) (q:Q (.ref I) s):wpAny (model prog w) A (yJ (.ref I)) Q E s:=by
 have hT:s.TypeIs (.ref I) "set_iterator" := ⟨_,o,rfl⟩
 refine Ux hT aaQ (xJ aaQ hT aib ?_ (aic _))
 show wpAny _ _ (ret (.ref I)) _ _ s
 exact bC ⟨_,rfl,"set_iterator",_,hT,kW.lookup,q⟩
theorem aaT {α:Type} {Q:α->Shared->Prop} (hh:A.handled=none) (q:∀ (h':Heap) (x:Addr),(∀ b o,s.heap.get? b=some o->h'.get? b=some o)->afj { s with heap:=h' } (.ref x) "StopIteration" -> E (.ref x) { s with heap:=h' }) :
  wpAny (model prog w) A (newExc (.type "StopIteration") [] >>= fun e=>(raiseNew e:Sem α)) Q E s:=by
 refine aG ?_
 simp only [newExc,newTuple]
 refine aG (Ab ?_ (by size_fits));refine aG (m:=acV _ _) (qP (a:=Value.none) (by first | rfl | (simp only [acV];rfl)) ?_)
 refine Ab ?_ (by size_fits)
 simp only [raiseNew]
 refine aG (wpAny_handled ?_);rw [hh]
 refine aG (bC (wpAny_throw (q _ _ (fun b o e=>dN _ (dN _ e)) ⟨_,eO _ rfl,rfl⟩)))
end
end Sx
set_option autoImplicit false
set_option maxRecDepth 100000
namespace Sx
open PySem PyProof.Rows
section
variable {prog:aO} {w:World} {A:bA} {E:Value->Shared->Prop} {s:Shared} {I a:Addr} {es:Array (Int × Value)} {ep:Nat} {t:fK} {ld:Bool}
noncomputable def DR (prog:aO) (w:World) (s:Shared) (a:Addr) (sl i ep:Nat) (r:Option (Value × Nat)):Prop:=∀ (A:bA) (E:Value->Shared->Prop) (Q:Option (Value × Nat)->Shared->Prop),Q r s->wpAny (model prog w) A (setNext a sl i ep) Q E s
theorem abO {sl i nx:Nat} {x:Value} {Q:Option Value->Shared->Prop} (o:s.heap.get? I=some (itO (.int sl 0) i a es.size ep)) (X:fj prog w s.heap a es ep t ld) (N:DR prog w s a sl i ep (some (x,nx)))
  (q:∀ h',h'.get? I=some (itO (.int nx 0) (i+1) a es.size ep)->vG I s.heap h'->Q (some x) { s with heap:=h' }):wpAny (model prog w) A (lJ (.ref I)) Q E s:=by
 have hT:s.TypeIs (.ref I) "set_iterator" := ⟨_,o,rfl⟩
 unfold lJ
 refine aG (vd (Nj (name:=vK "__next__") hT kW (xJ kW hT Gh ?_ (Gi _))))
 unfold dW.«set_iterator.__next__»
 refine aG (qP (a:=(Value.ref I,[])) rfl ?_)
 refine aG (Ny o rfl ?_)
 dsimp only
 refine aG (Gu X.o rfl X.ft ?_)
 rw [if_neg (by simp)]
 refine aG (N _ _ _ ?_)
 dsimp only
 refine aG (Cr o (by simp) fun h1 o1 b1=>?_)
 refine aG (Cr o1 (by simp) fun h2 o2 b2=>bC ⟨x,rfl,bC (q h2 ?_ (b1.trans b2))⟩)
 rw [o2];rfl
theorem abP {sl i:Nat} {Q:Option Value->Shared->Prop} (hh:A.handled=none) (o:s.heap.get? I=some (itO (.int sl 0) i a es.size ep)) (X:fj prog w s.heap a es ep t ld) (N:DR prog w s a sl i ep none)
  (q:∀ h',(∀ b u,b≠I->s.heap.get? b=some u->h'.get? b=some u)->Q none { s with heap:=h' }):wpAny (model prog w) A (lJ (.ref I)) Q E s:=by
 have hT:s.TypeIs (.ref I) "set_iterator" := ⟨_,o,rfl⟩
 unfold lJ
 refine aG (vd (Nj (name:=vK "__next__") hT kW (xJ kW hT Gh ?_ (Gi _))))
 unfold dW.«set_iterator.__next__»
 refine aG (qP (a:=(Value.ref I,[])) rfl ?_)
 refine aG (Ny o rfl ?_)
 dsimp only
 refine aG (Gu X.o rfl X.ft ?_)
 rw [if_neg (by simp)]
 refine aG (N _ _ _ ?_)
 dsimp only
 refine aG (Cr o (by simp) fun h1 o1 b1=>?_)
 refine aaT (A:=A.in1) hh fun h2 x kp ty=>?_
 refine aG (Nr (T := "StopIteration") (b:=true) ty acW (bC (q h2 fun b u nb e=>kp b u ?_)))
 rw [b1.2 b nb];exact e
theorem bt' (h:w.params.followText "set-order" = true):({ program:=(model prog w).prog,params:=(model prog w).w.params }:Setting).params.followText "set-order" = true:=h
theorem abQ (X:fj prog w s.heap a es ep t ld) (bt:w.params.followText "set-order" = true) (i:Nat):DR prog w s a 0 i ep (((N7 (w.params.setOrder a ep) es)[i]?).map fun e=>(e.2,0)):=fun A E Q q=>by
 unfold setNext
 refine aG (Cu X.o rfl X.ft ?_);dsimp only
 unfold N6
 refine aG (aG (Cw (bC ?_)))
 rw [if_pos (bt' bt),if_neg (by simp)]
 unfold setWalk
 refine aG (aG (Cu X.o rfl X.ft ?_));dsimp only
 unfold N6
 refine aG (aG (Cw (bC ?_)))
 rw [if_pos (bt' bt)]
 exact aG (Cw (bC (bC q)))
noncomputable def slotAt (t:fK):Nat->Nat
 | 0=>0
 | i+1=>t.place.getD i 0+1
theorem Zr (X:fj prog w s.heap a es ep t ld) (bt:w.params.followText "set-order" = false) (hl:ld=true) (pl:(!t.plain && decide (es.size>1))=false) {i:Nat} (hi:i<=es.size) :
  DR prog w s a (slotAt t i) i ep ((es[i]?).map fun e=>(e.2,slotAt t (i+1))):=fun A E Q q=>by
 have bl:jm t.place (slotAt t i)=i:=by
  cases i with
  | zero=>exact Zk X.tk.r
  | succ i =>
   have l:i<t.place.size:=by rw [X.tk.n];lia
   have e:=getElem?_pos t.place i l
   show jm t.place (t.place.getD i 0+1)=i+1
   rw [Array.getD_eq_getD_getElem?,e]
   exact Zm X.tk.r e
 unfold setNext
 refine aG (Cu X.o rfl X.ft ?_);dsimp only
 unfold N6
 refine aG (aG (Cw (bC ?_)))
 rw [if_neg (fun z=>by have z:w.params.followText "set-order" = true:=z;rw [bt] at z;cases z)]
 show wpAny _ _ (if (!t.plain && decide (es.size>1))=true then _ else _) _ _ _
 rw [if_neg (by rw [pl];decide)]
 refine aG (m:=if (!t.led && !es.isEmpty)=true then U6 "set:maker-not-led" else pure ()) ?_
 rw [if_neg (by rw [X.tk.l,hl];simp)]
 refine bC ?_
 rw [bl]
 refine bC ?_
 rcases jk i es.size with l | l
 ·have l2:i<t.place.size:=by rw [X.tk.n];exact l
  rw [getElem?_pos es i l] at q ⊢
  rw [getElem?_pos t.place i l2]
  have:slotAt t (i+1)=t.place[i]+1   := by show t.place.getD i 0+1=_;rw [Array.getD_eq_getD_getElem?,getElem?_pos t.place i l2];rfl
  simpa [this] using q
 ·rw [getElem?_neg es i tb_g%] at q ⊢
  exact q
theorem agp {ord:List Value} {sl:Nat->Nat} (hh:A.handled=none) (ne:a≠I) (hn:ord.length=es.size) (N:∀ (s:Shared) (i:Nat),fj prog w s.heap a es ep t ld->i<=es.size->DR prog w s a (sl i) i ep ((ord[i]?).map fun v=>(v,sl (i+1)))) :
  Walks prog w A I [I,a] [I] es.size (fun i v=>ord[i]? = some v) (fun i h=>h.get? I=some (itO (.int (sl i) 0) i a es.size ep)/\fj prog w h a es ep t ld) where
 sub:=fun b hb=>by simp at hb;simp [hb]
 frame:=fun i h h' st kp=>⟨kp I (by simp) _ st.1,st.2.keep fun o e=>kp a (by simp) o e⟩
 item:=fun i s Q E hi st q=>by
  have nx:=N s i st.2 (mG hi)
  rw [fY (by rw [hn];exact hi)] at nx
  refine abO st.1 st.2 nx fun h' o b=>?_
  have kp:∀ c u,c≠I->s.heap.get? c=some u->h'.get? c=some u:=fun c u nc e=>by rw [b.2 c nc];exact e
  exact q _ h' s.toks (fY (by rw [hn];exact hi)) ⟨o,st.2.keep fun u e=>kp a u ne e⟩ fun c u nc e=>kp c u (by simpa using nc) e
 done:=fun s Q E st q=>by
  have nx:=N s es.size st.2 (bV _)
  rw [rH (by rw [hn];exact bV _)] at nx
  exact abP hh st.1 st.2 nx fun h' kp=>q h' s.toks fun c u nc e=>kp c u (by simpa using nc) e
 self:=fun i s Q E st q=>aaS st.1 q
end
end Sx
set_option autoImplicit false
set_option maxRecDepth 100000
namespace Sx
open PySem PyProof.Rows
section
variable {prog:aO} {w:World} {A:bA} {E:Value->Shared->Prop} {s:Shared} {I a tp:Addr} {es:Array (Int × Value)} {ep:Nat} {t:fK} {ld:Bool}
noncomputable def ordD (es:Array (Int × Value)) (ps:List Nat):List Value:=ps.map fun p=>(es.getD p (0,.none)).2
theorem abR {ps:List Nat} (h:ps.Perm (oE es.size)):(ordD es ps).Perm (es.toList.map (·.2)):=by
 refine (h.map _).trans ?_
 have:(oE es.size).map (fun p=>(es.getD p (0,.none)).2)=es.toList.map (·.2):=by
  apply List.ext_getElem
  ·simp
  ·intro i h1 h2
   have l:i<es.size:=by simpa using h1
   rw [Vx,Vx,List.getElem_range,Array.getD_eq_getD_getElem?,getElem?_pos es i l]
   simp
 rw [this]
noncomputable def K6 (ps:List Nat):Obj:={ cls:=.type "tuple",data:=.seq (ps.map fun (i:Nat)=>mW i).toArray }
theorem Zt {i p:Nat} {h0:Int} {x:Value} {ps:List Nat} {Q:Option Value->Shared->Prop} (o:s.heap.get? I=some (itO (.ref tp) i a es.size ep)) (ot:s.heap.get? tp=some (K6 ps)) (X:fj prog w s.heap a es ep t ld)
  (hp:ps[i]? = some p) (hx:es[p]? = some (h0,x)) (q:∀ h',h'.get? I=some (itO (.ref tp) (i+1) a es.size ep)->vG I s.heap h'->Q (some x) { s with heap:=h' }):wpAny (model prog w) A (lJ (.ref I)) Q E s:=by
 have hT:s.TypeIs (.ref I) "set_iterator" := ⟨_,o,rfl⟩
 unfold lJ
 refine aG (vd (Nj (name:=vK "__next__") hT kW (xJ kW hT Gh ?_ (Gi _))))
 unfold dW.«set_iterator.__next__»
 refine aG (qP (a:=(Value.ref I,[])) rfl ?_)
 refine aG (Ny o rfl ?_)
 dsimp only
 refine aG (Gu X.o rfl X.ft ?_)
 rw [if_neg (by simp)]
 refine aG (sS ot rfl ?_)
 dsimp only
 have e1:((ps.map fun (i:Nat)=>mW i).toArray)[(i:Int).toNat]? = some (.int p 0):=by
  show ((ps.map fun (i:Nat)=>mW i).toArray)[i]? = _
  rw [Vm,iR,hp];rfl
 rw [e1]
 dsimp only
 refine aG ?_
 unfold setNextDrawn
 refine aG (Cu X.o rfl X.ft ?_)
 dsimp only
 rw [if_neg (by simp)]
 have e2:es[(p:Int).toNat]? = some (h0,x):=hx
 rw [e2]
 refine bC ?_
 refine aG (Cr o (by simp) fun h1 o1 b1=>bC ⟨x,rfl,bC (q h1 ?_ b1)⟩)
 rw [o1];rfl
theorem Zu {ps:List Nat} {Q:Option Value->Shared->Prop} (hh:A.handled=none) (o:s.heap.get? I=some (itO (.ref tp) ps.length a es.size ep)) (ot:s.heap.get? tp=some (K6 ps)) (X:fj prog w s.heap a es ep t ld)
  (q:∀ h',(∀ b u,b≠I->s.heap.get? b=some u->h'.get? b=some u)->Q none { s with heap:=h' }):wpAny (model prog w) A (lJ (.ref I)) Q E s:=by
 have hT:s.TypeIs (.ref I) "set_iterator" := ⟨_,o,rfl⟩
 unfold lJ
 refine aG (vd (Nj (name:=vK "__next__") hT kW (xJ kW hT Gh ?_ (Gi _))))
 unfold dW.«set_iterator.__next__»
 refine aG (qP (a:=(Value.ref I,[])) rfl ?_)
 refine aG (Ny o rfl ?_)
 dsimp only
 refine aG (Gu X.o rfl X.ft ?_)
 rw [if_neg (by simp)]
 refine aG (sS ot rfl ?_)
 dsimp only
 have e1:((ps.map fun (i:Nat)=>mW i).toArray)[(ps.length:Int).toNat]? = none:=by
  show ((ps.map fun (i:Nat)=>mW i).toArray)[ps.length]? = _
  rw [Vm,iR,rH (bV _)];rfl
 rw [e1]
 dsimp only
 refine aG (Cr o (by simp) fun h1 o1 b1=>?_)
 refine aG (Cr o1 (by simp) fun h2 o2 b2=>?_)
 refine aaT (A:=A.in1) hh fun h3 x kp ty=>?_
 refine aG (Nr (T := "StopIteration") (b:=true) ty acW (bC (q h3 fun b u nb e=>kp b u ?_)))
 rw [b2.2 b nb,b1.2 b nb];exact e
theorem Zv {ps:List Nat} (hh:A.handled=none) (ne:a≠I) (nt:tp≠I) (hp:ps.Perm (oE es.size)) :
  Walks prog w A I [I,a,tp] [I] es.size (fun i v=>(ordD es ps)[i]? = some v) (fun i h=>h.get? I=some (itO (.ref tp) i a es.size ep)/\h.get? tp=some (K6 ps)/\fj prog w h a es ep t ld) where
 sub:=fun b hb=>by simp at hb;simp [hb]
 frame:=fun i h h' st kp=>⟨kp I (by simp) _ st.1,kp tp (by simp) _ st.2.1,st.2.2.keep fun o e=>kp a (by simp) o e⟩
 item:=fun i s Q E hi st q=>by
  have hl:ps.length=es.size:=by rw [hp.length_eq,Hr]
  have lt:i<ps.length:=by lia
  have pm:ps[i]<es.size:=Oq.mp (hp.mem_iff.mp (sX lt))
  have ex:=getElem?_pos es ps[i] pm
  refine Zt (h0:=es[ps[i]].1) (x:=es[ps[i]].2) st.1 st.2.1 st.2.2 (fY lt) ex fun h' o b=>?_
  have kp:∀ c u,c≠I->s.heap.get? c=some u->h'.get? c=some u:=fun c u nc e=>by rw [b.2 c nc];exact e
  refine q _ h' s.toks ?_ ⟨o,kp tp _ nt st.2.1,st.2.2.keep fun u e=>kp a u ne e⟩ fun c u nc e=>kp c u (by simpa using nc) e
  unfold ordD
  rw [iR,fY lt]
  show some (es.getD ps[i] (0,.none)).2=_
  rw [Array.getD_eq_getD_getElem?,ex];rfl
 done:=fun s Q E st q=>by
  have hl:ps.length=es.size:=by rw [hp.length_eq,Hr]
  exact Zu hh (by rw [hl];exact st.1) st.2.1 st.2.2 fun h' kp=>q h' s.toks fun c u nc e=>kp c u (by simpa using nc) e
 self:=fun i s Q E st q=>aaS st.1 q
end
end Sx
set_option autoImplicit false
set_option maxRecDepth 100000
namespace Sx
open PySem PyProof.Rows
section
variable {prog:aO} {w:World} {A:bA} {E:Value->Shared->Prop} {s:Shared} {a:Addr} {es:Array (Int × Value)} {ep:Nat} {t:fK}
theorem aie {Q:Value->Shared->Prop} (hh:A.handled=none) (X:fj prog w s.heap a es ep t (jc w))
  (q:∀ (h':Heap) (d:Drawn) (I:Addr) (fp:List Addr) (ord:List Value) (St:Nat->Heap->Prop),ord.Perm (es.toList.map (·.2))->(∀ b o,s.heap.get? b=some o->h'.get? b=some o)->s.heap.objs.size<=I->(∀ b∈fp,b=a\/s.heap.objs.size<=b) ->
   (∀ B:bA,B.handled=none->Walks prog w B I fp [I] es.size (fun i v=>ord[i]? = some v) St)->St 0 h'->Q (.ref I) { s with heap:=h',drawn:=d }):wpAny (model prog w) A (yJ (.ref a)) Q E s:=by
 have la:=bQ X.o
 refine Ux X.ty F.slot_set_iter (xJ F.slot_set_iter X.ty ago ?_ (F.args_set_iter_1 _))
 unfold dW.«frozenset.__iter__»
 refine aG (qP (a:=a) rfl ?_)
 refine aG ?_
 unfold akB
 refine aG (Gu X.o rfl X.ft (bC ?_))
 refine aG ?_
 unfold setDrawn
 refine aG (Cu X.o rfl X.ft ?_);dsimp only
 unfold N6
 refine aG (aG (Cw (bC (bC ?_))))
 show wpAny _ _ (if (!w.params.followText "set-order" && (!t.plain && decide (es.size>1)))=true then _ else _) _ _ _
 have ways:∀ (ord:List Value) (sl:Nat->Nat),sl 0=0->ord.Perm (es.toList.map (·.2))->(∀ (s:Shared) (i:Nat),fj prog w s.heap a es ep t (jc w)->i<=es.size->DR prog w s a (sl i) i ep ((ord[i]?).map fun v=>(v,sl (i+1)))) ->
   Q (.ref s.heap.objs.size) { s with heap:=s.heap.push (itO (.int 0 0) 0 a es.size ep) }:=fun ord sl h0 hp N=>by
  refine q _ s.drawn s.heap.objs.size [s.heap.objs.size,a] ord (fun i h=>h.get? s.heap.objs.size=some (itO (.int (sl i) 0) i a es.size ep)/\fj prog w h a es ep t (jc w)) hp (fun b o e=>dN _ e) (bV _) ?_ (fun B hB=>agp hB (cH la) (by rw [hp.length_eq];simp) N)
   ⟨by rw [h0];exact eO _ rfl,X.keep fun o e=>dN _ e⟩
  intro b m
  rcases bN.mp m with rfl | m
  ·exact .inr (bV _)
  ·exact .inl (eZ.mp m)
 have fin:∀ {Q':Value->Shared->Prop},Q' (.ref s.heap.objs.size) { s with heap:=s.heap.push (itO (.int 0 0) 0 a es.size ep) }->wpAny (model prog w) A.in1 (setEpoch a >>= fun e=>Vf "set_iterator" [mW 0,mW 0,.ref a,mW es.size,mW e] >>= fun r=>ret r) (fun fin s'=>∃ v,fin = .done (.ret v)/\∃ T' r,s'.TypeIs v T'/\NZ (.type T') "__next__" = pure (some r)/\Q' v s') E s:=fun {Q'} z=>by
  refine aG (acN X.o rfl X.ft ?_)
  unfold Vf
  refine aG (Ab (bC ⟨_,rfl,"set_iterator",_,⟨_,eO _ rfl,rfl⟩,kW.lookup,?_⟩))
  exact z
 cases bt:w.params.followText "set-order" with
 | true =>
  rw [if_neg (by simp)]
  refine aG (bC (fin ?_))
  have pp:=abM (w.params.setOrder a ep) es
  refine ways ((N7 (w.params.setOrder a ep) es).toList.map (·.2)) (fun _=>0) rfl (pp.map _) fun s i X' _=>?_
  have:=abQ X' bt i
  rw [iR,iU,WR]
  exact this
 | false =>
  have hl:jc w=true:=by unfold jc;rw [bt];rfl
  cases pl:(!t.plain && decide (es.size>1)) with
  | false =>
   rw [if_neg (by simp)]
   refine aG (bC (fin ?_))
   refine ways (es.toList.map (·.2)) (slotAt t) rfl .rfl fun s i X' hi=>?_
   have:=Zr X' bt hl pl hi
   rw [iR,iU,WR]
   exact this
  | true =>
   rw [if_pos (by simp)]
   refine aG (aaR es.size (oE es.size) _ (Hr) fun ps d hp=>aG ?_)
   have zl:(ps.map fun (i:Nat)=>mW i).length<=sizeLine:=by rw [bG,hp.length_eq,Hr];exact Cv X.few
   refine acT ?_ zl
   have X1:fj prog w (s.heap.push (K6 ps)) a es ep t (jc w):=X.keep fun o e=>dN _ e
   refine aG (acN (s:={ s with heap:=s.heap.push (K6 ps),drawn:=d }) X1.o rfl X1.ft ?_)
   unfold Vf
   refine aG (Ab (bC ⟨_,rfl,"set_iterator",_,⟨_,eO _ rfl,rfl⟩,kW.lookup,?_⟩))
   have zt:(s.heap.push (K6 ps)).objs.size=s.heap.objs.size+1:=sY ..
   refine q _ d (s.heap.push (K6 ps)).objs.size [(s.heap.push (K6 ps)).objs.size,a,s.heap.objs.size] (ordD es ps) (fun i h=>h.get? (s.heap.push (K6 ps)).objs.size=some (itO (.ref s.heap.objs.size) i a es.size ep)/\h.get? s.heap.objs.size=some (K6 ps)/\fj prog w h a es ep t (jc w)) (abR hp) (fun b o e=>dN _ (dN _ e)) (by rw [zt];exact lM _) ?_
    (fun B hB=>Zv hB (by rw [zt];exact cH (uF la)) (by rw [zt];exact cH (yS _)) hp) ⟨eO _ rfl,dN _ (eO _ rfl),X1.keep fun o e=>dN _ e⟩
   intro b m
   rcases bN.mp m with rfl | m
   ·exact .inr (by rw [zt];exact lM _)
   rcases bN.mp m with rfl | m
   ·exact .inl rfl
   ·exact .inr (by rw [eZ.mp m];exact bV _)
end
end Sx
set_option autoImplicit false
set_option maxRecDepth 100000
namespace Sx
open PySem PyProof.Rows
section
variable {prog:aO} {w:World} {A:bA} {E:Value->Shared->Prop} {s:Shared} {r:Addr} {es:Array (Int × Value)} {ep:Nat} {t:fK}
theorem agq {Q:Bool->Shared->Prop} (hT:s.TypeIs (.ref r) "set") (h:Q false s):wpAny (model prog w) A (Pz (.ref r)) Q E s:=by
 unfold Pz;refine aG (Nt hT F.slot_set_len.lookup ?_)
 generalize hid:("set.__len__" : String)=id0
 wp_delta;rw [show splitId id0=some ("set","__len__") from by subst hid;decide +kernel];subst hid
 refine aG (Nr (T := "set") (b:=true) hT (by rw [Nx];kernel_rfl) ?_);refine sI (fun hab=>absurd hab (by decide)) (fun _=>?_)
 refine sI (fun _=>?_) (fun hab=>absurd tb_g% hab);exact aG (U3 hT (bC h))
noncomputable def Jy (acc:Array Value) (c:Nat):Obj:={ cls:=.type "list",dict:=none,data:=.seq acc c,slots:=#[] }
theorem Tc {Q:List Value->Shared->Prop} (hh:A.handled=none) (X:fj prog w s.heap r es ep t (jc w))
  (q:∀ (h':Heap) (tk:Nat) (d:Drawn) (acc:List Value),acc.Perm (es.toList.map (·.2))->(∀ b o,s.heap.get? b=some o->h'.get? b=some o)->Q acc { s with heap:=h',toks:=tk,drawn:=d }) :
  wpAny (model prog w) A (collect (.ref r)) Q E s:=by
 have lr:=bQ X.o
 have hn:=Cv X.few
 unfold collect
 refine aG (acU (rG F.entry_proto_collect ?_));rw [vJ F.plain_proto_collect _]
 show wpAny _ A.in1 (Oc [] >>= fun l=>again (.builtin "list.__iadd__" ⟨[l,.ref r],[]⟩)) _ _ s;refine aG (Ab ?_)
 refine bC ⟨pK F.plain_list_iadd _,rG F.entry_list_iadd ?_⟩;rw [vJ F.plain_list_iadd _]
 have hS:(s.heap.push (Jy #[] 0)).get? s.heap.objs.size=some (Jy #[] 0):=eO _ rfl
 have X1:fj prog w (s.heap.push (Jy #[] 0)) r es ep t (jc w):=X.keep fun o e=>dN _ e
 have z1:(s.heap.push (Jy #[] 0)).objs.size=s.heap.objs.size+1:=sY ..
 show wpAny _ A.in1 (Lq (.ref s.heap.objs.size) (.ref r) (.ref s.heap.objs.size)) _ _ { s with heap:=s.heap.push (Jy #[] 0) }
 unfold Lq
 refine aG (U3 (T := "set") (fj.ty (s:={ s with heap:=s.heap.push (Jy #[] 0) }) X1) ?_)
 have h1:PB (.ref s.heap.objs.size) (.ref r)=false:=by simp [PB,tu lr]
 rw [if_neg (by rw [h1];decide)]
 refine aG (aie (A:=A.in1) (s:={ s with heap:=s.heap.push (Jy #[] 0) }) hh X1 fun h' d I fp ord St hp kp hI hfp W st=>?_)
 have hS2:h'.get? s.heap.objs.size=some (Jy #[] 0):=kp _ _ hS
 have X2:fj prog w h' r es ep t (jc w):=X1.keep fun o e=>kp r o e
 have nI:s.heap.objs.size≠I:=by rw [z1] at hI;lia
 have nf:s.heap.objs.size∉fp:=fun m=>by
  rcases hfp _ m with e | e
  ·exact tu lr e
  ·rw [z1] at e;lia
 have hlen:ord.length=es.size:=by rw [hp.length_eq];simp
 have key:∀ (h2:Heap) (c:Nat),St 0 h2->(∀ b o,b≠s.heap.objs.size->h'.get? b=some o->h2.get? b=some o)->h2.get? s.heap.objs.size=some (Jy #[] c) ->
   fB (model prog w) A (.builtin "list.extend.loop" ⟨[.ref s.heap.objs.size,.ref I,.ref s.heap.objs.size],[]⟩) (fun res s'=>∃ (h3:Heap) (tk:Nat) (acc:Array Value) (c':Nat),res = .ok (.ret (.ref s.heap.objs.size))/\s'={ s with heap:=h3,toks:=tk,drawn:=d }/\acc.toList=ord/\h3.get? s.heap.objs.size=some (Jy acc c')/\∀ b o,s.heap.get? b=some o->h3.get? b=some o)
    { s with heap:=h2,drawn:=d }:=fun h2 c st2 kp2 hS3=>by
  refine acH (W A.in1 hh).toS hn s.heap.objs.size nf (.ref s.heap.objs.size) es.size 0 _ #[] c rfl (cY _) st2 hS3 (afl _) fun s' acc c' hm hS' hacc=>?_
  obtain ⟨h3,g3,d3,tk3,o3⟩:=s'
  have e1:g3=s.gens:=hm.gens
  have e2:d3=d:=hm.drawn
  have e3:o3=s.os:=hm.os
  subst e1;subst e2;subst e3
  refine ⟨h3,tk3,acc,c',rfl,rfl,?_,hS',fun b o e=>hm.heap b o (fun m=>?_) (kp2 b o (cH (bQ e)) (kp b o (dN _ e)))⟩
  ·apply List.ext_getElem?
   intro i
   rw [iU]
   rcases jk i es.size with l | l
   ·have e:=getElem?_pos acc i (by rw [hacc.1];exact l)
    rw [hacc.2 i _ e,e]
   ·rw [getElem?_neg acc i (by rw [hacc.1];lia),rH tb_g%]
  ·have lb:=bQ e
   rcases bN.mp m with rfl | m
   ·exact pP _ lb
   ·have m:b=I:=eZ.mp m
    have hI:s.heap.objs.size+1<=I:=by rw [<- z1];exact hI
    have lb:I<s.heap.objs.size:=m ▸ lb
    exact absurd lb (O7.mpr (Nat.le_of_succ_le hI))
 have fin:∀ (res:jV) (s':Shared),(∃ (h3:Heap) (tk:Nat) (acc:Array Value) (c':Nat),res = .ok (.ret (.ref s.heap.objs.size))/\s'={ s with heap:=h3,toks:=tk,drawn:=d }/\acc.toList=ord/\h3.get? s.heap.objs.size=some (Jy acc c')/\∀ b o,s.heap.get? b=some o->h3.get? b=some o) ->
   ∃ v,res = .ok (.ret v)/\wpAny (model prog w) A (match v with
    | .ref a=>load a >>= fun o=>match o.data with
     | .seq xs _=>pure xs.toList
     | _=>U6 "internal:collect"
    | _=>U6 "internal:collect") Q E s':=by
  rintro res s' ⟨h3,tk,acc,c',rfl,rfl,ea,hS',kp3⟩
  refine ⟨_,rfl,aG (wpAny_load hS' (bC ?_))⟩
  exact q h3 tk d acc.toList (by rw [ea];exact hp) kp3
 refine aG (jJ (agq (fj.ty (s:={ s with heap:=h',drawn:=d }) X2) ?_))
 refine sI (fun _=>?_) (fun _=>?_)
 ·refine aG (ou (aG ?_))
  show wpAny _ _ (Vg s.heap.objs.size (·.push .none) >>= fun _=>Vg s.heap.objs.size (·.pop)) _ _ _
  refine aG (sO hS2 rfl ?_)
  have hS3:=Ag (jo (·.push Value.none)) hS2 rfl
  refine sO (hz:=by seq_fits) hS3 rfl ?_
  have hS4:=Ag (jo (·.pop)) hS3 rfl
  have ot:∀ b o,b≠s.heap.objs.size->h'.get? b=some o->((h'.update s.heap.objs.size (jo (·.push Value.none))).update s.heap.objs.size (jo (·.pop))).get? b=some o:=fun b o nb e=>(oH _ _ (aL nb)).trans ((oH _ _ (aL nb)).trans e)
  refine bC ⟨pK F.plain_extend_loop _,sU (key _ _ ((W A hh).frame 0 _ _ st fun b m o e=>ot b o (fun z=>nf (by rw [<- z];exact m)) e) ot hS4) fun res s' z=>?_⟩
  obtain ⟨v,rfl,g⟩:=fin res s' z
  exact g
 ·refine bC ⟨pK F.plain_extend_loop _,sU (key h' 0 st (fun b o _ e=>e) hS2) fun res s' z=>?_⟩
  obtain ⟨v,rfl,g⟩:=fin res s' z
  exact g
end
end Sx
namespace L2
open PySem PySem.Spec PyProof.Rows
section
variable {X:Cx}
noncomputable def SetO (P:aO) (w:World) (a:Addr) (ns:List Int):HO:=.ext fun h=>∃ es ep t,Sx.fj P w h a es ep t (Sx.jc w)/\(Sx.keys es).Perm (Sx.dd ns)
theorem Inv.drew {pins:List (Addr × Obj)} {σ:List (Option V)} {H:Hp} {s:Shared} (d:Drawn) (I:Inv X pins σ H s):Inv X pins σ H { s with drawn:=d }:=⟨I.ok,I.os,I.bare,I.base,I.loc,I.cell,I.free,I.nH,I.pin,I.hok,I.len⟩
noncomputable def rSetC (P:aO) (w:World) (K:aZ):List V->Hp->VK->Prop:=fun xs H Q=>∃ a ns,xs=[V.ref a]/\SqL K H a (ns.map V.int)/\ns.length<1000/\∀ l:Addr,H l=none->Q (.ref l) (upd H l (SetO P w l ns))
theorem abS (hc:X.calm=true):gC X (.type "set") (rSetC X.prog X.w X.K):=by
 walk_at "j"
 obtain ⟨a,ns,rfl,ha,few,q⟩:=h
 obtain ⟨u,rfl,ru⟩:=vals1 r
 cases ru
 obtain ⟨its,rv,p,hz⟩:=I.list ha
 have hI:=intsAre_of rv
 have hl:its.length=ns.length:=by rw [<- rv.length,bG]
 have hs:its.toArray.size=its.length:=dI
 refine Sx.agn (items:=its.toArray) (ns:=ns) (I.ok.hd hc) p.isList (by simpa using hI) (by unfold scanBound;lia) fun h' tk es ep t x pk kp=>?_
 refine ⟨.ref s.heap.objs.size,_,I.laid (t':=tk) kp (bV _) (show dh X.prog X.w _ h' s.heap.objs.size (SetO X.prog X.w s.heap.objs.size ns) from ⟨⟨es,ep,t,x,pk⟩,⟨_,x.o⟩,fun h1 h2 ⟨e,p1,t1,y,pe⟩ k=>⟨e,p1,t1,y.keep k,pe⟩⟩),rfl,q _ (I.hok.fresh (bV _))⟩
noncomputable def alK (P:aO) (w:World):List V->Hp->VK->Prop:=fun xs H Q=>∃ a ns,xs=[V.ref a]/\H a=some (SetO P w a ns)/\(Sx.dd ns).length<64/\∀ (l:Addr) (ns':List Int),H l=none->ns'.Perm (Sx.dd ns)->ns'.Pairwise (· <= ·)->Q (.ref l) (upd H l (.lst (ns'.map V.int)))
theorem Mt {P:aO} {w:World}:∀ {es:List (Int × Value)},Od (iw P w) es->IntsAre (es.map (·.2)) (es.map fun e=>Sx.iv e.2)
 | [],_=>.nil
 | (h,v)::r,e=>by
  obtain ⟨⟨k,hk,_⟩,hs⟩:=e (h,v) cX
  have hk:Dr k v=true:=hk
  cases v <;> first | (simp [Dr] at hk;done) | skip
  exact .cons _ _ (Mt fun x m=>e x (gF _ m))
theorem IntsAre.alL {us vs:List Value} {ns:List Int} (h:IntsAre vs ns) (p:us.Perm vs):∃ ms,IntsAre us ms/\ms.Perm ns:=by
 induction p generalizing ns with
 | nil=>exact ⟨ns,h,.rfl⟩
 | cons x _ ih =>
  cases h with
  | cons n t h =>
   obtain ⟨ms,a,b⟩:=ih h
   exact ⟨n::ms,.cons n t a,b.cons n⟩
 | swap x y l =>
  cases h with
  | cons n t h =>
   cases h with
   | cons m u h=>exact ⟨m::n::_,.cons m u (.cons n t h),.swap ..⟩
 | trans _ _ ih1 ih2 =>
  obtain ⟨ms,a,b⟩:=ih2 h
  obtain ⟨ks,c,d⟩:=ih1 a
  exact ⟨ks,c,d.trans b⟩
theorem Zw (hc:X.calm=true):gC X (.builtin "sorted") (alK X.prog X.w):=by
 walk_at "j"
 obtain ⟨a,ns,rfl,ha,f64,q⟩:=h
 obtain ⟨u,rfl,ru⟩:=vals1 r
 cases ru
 obtain ⟨⟨es,ep,t,x,pk⟩,_,_⟩:=I.hok a _ ha
 apply WK Pn Pj Pk (Wk _);unfold dW.«sorted»
 apply aG (m:=N5 "sorted" 1 1 _);apply bC
 apply aG;refine Sx.Tc (A:=X.A.in1) (I.ok.hd hc) x fun h1 tk d acc pa kp=>?_
 obtain ⟨ms,hI,pm⟩:=IntsAre.alL (Mt x.el) pa
 have hz:acc.length<=sizeLine:=by rw [pa.length_eq,bG,fW];exact Cv x.few
 have h64:acc.length<64:=by
  have e1:=pa.length_eq
  have e2:=pk.length_eq
  unfold Sx.keys at e2
  rw [bG] at e1 e2
  lia
 apply aG;refine GC ?_ hz
 have hoL:(h1.push (dw "list" acc.toArray 0)).get? h1.objs.size=some (dw "list" acc.toArray 0):=eO _ rfl
 apply aG;refine jJ (xJ Pb ⟨_,hoL,rfl⟩ Pa (aep hoL hI h64 fun out ns' a1 a2 a3=>⟨_,rfl,?_⟩) (Wd _))
 refine bC ⟨_,rfl,?_⟩
 obtain ⟨e,he⟩:=Wg (vs:=acc) (out:=out) hoL
 have hb:∀ b ob,s.heap.get? b=some ob->b<h1.objs.size:=fun b ob e'=>bQ (kp b ob e')
 have pf:ns'.Perm (Sx.dd ns):=(a2.trans pm).trans pk
 refine ⟨.ref h1.objs.size,_,(I.drew d).Ez (t':=tk) (fun b ob e'=>?_) (fun b ob e'=>cH (hb b ob e')) (show dh X.prog X.w _ _ h1.objs.size (.lst (ns'.map V.int)) from ⟨?_,out.toList,e,lV a1,by simpa using he⟩),rfl,q _ ns' (I.none_of fun b ob e'=>cH (hb b ob e')) pf a3⟩
 ·have hlt:=hb b ob e'
  rw [Wc (cH hlt) (by rw [HS];exact uF hlt)];exact dN _ (kp b ob e')
 ·rw [bG,(a2.trans pm).length_eq,bG,fW];exact Cv x.few
end
end L2
set_option autoImplicit false
namespace RG
noncomputable abbrev Ls:=List (List Int)
noncomputable def Sd (l:List Int):Prop:=l.Pairwise (· <= ·)
noncomputable def srt (ns:List Int):List Int:=ns.mergeSort fun a b=>decide (a<=b)
theorem n8:∀ {xs ys:List Int},xs.Perm ys->xs.Pairwise (· <= ·)->ys.Pairwise (· <= ·)->xs=ys
 | [],ys,p,_,_=>by rw [VD.mp p]
 | x::xs,[],p,_,_=>absurd p (by simp)
 | x::xs,y::ys,p,h1,h2=>by
  have a1:=iH.mp h1
  have a2:=iH.mp h2
  have e:x=y:=by
   have m1:x∈y::ys:=p.mem_iff.mp cX
   have m2:y∈x::xs:=p.mem_iff.mpr cX
   rcases bN.mp m1 with z | z
   ·exact z
   ·rcases bN.mp m2 with z' | z'
    ·exact z'.symm
    ·exact aeE (a1.1 y z') (a2.1 x z)
  subst e
  rw [n8 (WT p) a1.2 a2.2]
theorem gZ (ns:List Int):(srt ns).Perm ns:=Vp _ _
theorem qZ (ns:List Int):Sd (srt ns):=by
 have:=Vj (le:=fun a b:Int=>decide (a<=b)) (fun a b c h1 h2=>by simp only [decide_eq_true_eq] at *; lia) (fun a b=>by simp only [Wu,decide_eq_true_eq];lia) ns
 exact this.imp fun h=>of_decide_eq_true h
theorem rm {ns ms:List Int} (p:ms.Perm ns) (h:ms.Pairwise (· <= ·)):ms=srt ns:=n8 (p.trans (gZ ns).symm) h (qZ ns)
theorem gn (ns:List Int):(srt ns).length=ns.length:=(gZ ns).length_eq
theorem qF {z:Int} {ns:List Int}:z∈srt ns↔z∈ns:=(gZ ns).mem_iff
theorem Td {ns:List Int} (h:Sd ns):srt ns=ns:=(rm (WW _) h).symm
noncomputable def pick (o:Bool):List Int->List Int
 | a::b::r=>(if o then b else a)::pick o r
 | _=>[]
noncomputable def lft:List Int->List Int
 | _::_::r=>lft r
 | l=>l
theorem wM:∀ l:List Int,(lft l).length=l.length % 2
 | []=>rfl
 | [_]=>rfl
 | _::_::r=>by
  have:=wM r
  show (lft r).length=(r.length+1+1) % 2
  lia
theorem mK (o:Bool):∀ l:List Int,(pick o l).length=l.length / 2
 | []=>by simp [pick]
 | [_]=>by simp [pick]
 | _::_::r=>by
  have:=mK o r
  show (pick o r).length+1=(r.length+1+1) / 2
  lia
theorem Te:∀ l:List Int,lft l=l.drop (l.length-l.length % 2)
 | []=>rfl
 | [_]=>rfl
 | a::b::r=>by
  have:=Te r
  show lft r=(a::b::r).drop (r.length+1+1-(r.length+1+1) % 2)
  rw [show r.length+1+1-(r.length+1+1) % 2=(r.length-r.length % 2)+1+1 by lia,adl,adl]
  exact this
theorem aaU {z:Int}:∀ {l:List Int},z∈lft l->z∈l
 | [],h=>h
 | [_],h=>h
 | _::_::r,h=>gF _ (gF _ (aaU (l:=r) h))
theorem Tf {o:Bool} {z:Int}:∀ {l:List Int},z∈pick o l->z∈l
 | [],h=>nomatch h
 | [_],h=>nomatch h
 | a::b::r,h=>by
  rcases bN.mp h with e | e
  ·cases o
   ·rw [e];exact cX
   ·rw [e];exact gF _ cX
  ·exact gF _ (gF _ (Tf (l:=r) e))
theorem agr:∀ {l:List Int},Sd l->Sd (lft l)
 | [],h=>h
 | [_],h=>h
 | _::_::r,h=>agr (l:=r) (iH.mp (iH.mp h).2).2
noncomputable def cnt (x:Int) (l:List Int):Nat:=(l.filter fun z=>decide (z<=x)).length
noncomputable def val:Ls->Nat
 | []=>0
 | l::r=>l.length+2*val r
noncomputable def nr (x:Int):Ls->Nat
 | []=>0
 | l::r=>cnt x l+2*nr x r
noncomputable def pot (h:Nat):Ls->Nat
 | []=>0
 | l::r=>h*2 ^ h*l.length+pot (h+1) r
theorem Zx (ls:Ls):val ls=(ls.headD []).length+2*val ls.tail:=by cases ls <;> rfl
theorem ags (h:Nat) (ls:Ls):pot h ls=h*2 ^ h*(ls.headD []).length+pot (h+1) ls.tail:=by
 cases ls
 ·show 0=h*2 ^ h*0+0;rw [O6]
 ·rfl
theorem QG {P:List Int->Prop} {ls:Ls} (h:∀ l∈ls,P l) (h0:P []):P (ls.headD []):=by
 cases ls
 ·exact h0
 ·exact h _ cX
theorem Zy {P:List Int->Prop} {ls:Ls} (h:∀ l∈ls,P l):∀ l∈ls.tail,P l:=fun l hl=>h l (adi hl)
noncomputable def gO (t:Int) (ls:Ls) (w:Nat):Ls :=
 if w=0 then ls else (if w % 2=1 then srt (ls.headD []++[t]) else ls.headD [])::gO t ls.tail (w / 2)
termination_by w
decreasing_by lia
theorem gR (t:Int) (ls:Ls):gO t ls 0=ls:=by rw [gO,if_pos rfl]
theorem ig {w:Nat} (t:Int) (ls:Ls) (h:w≠0):gO t ls w=(if w % 2=1 then srt (ls.headD []++[t]) else ls.headD [])::gO t ls.tail (w / 2):=by rw [gO,if_neg h]
theorem abT {w:Nat} (t:Int) (h:w≠0):gO t [[]] w=gO t [] w:=by rw [ig t _ h,ig t [] h];rfl
theorem Mu (t:Int):∀ (w:Nat) (ls:Ls),val (gO t ls w)=val ls+w:=by
 intro w
 induction w using Hz with
 | _ w ih =>
  intro ls
  by_cases h:w=0
  ·rw [h,gR];rfl
  ·rw [ig t ls h]
   show nF _+2*val _=_
   rw [ih (w / 2) tb_g%,Zx ls]
   split
   ·rw [gn,dH];show _+1+_=_;lia
   ·lia
theorem abU (t:Int):∀ (w:Nat) (h:Nat) (ls:Ls),pot h ls<=pot h (gO t ls w):=by
 intro w
 induction w using Hz with
 | _ w ih =>
  intro h ls
  by_cases hw:w=0
  ·rw [hw,gR];exact bV _
  ·rw [ig t ls hw,ags h ls]
   show _<=h*2 ^ h*nF _+pot (h+1) _
   have:=ih (w / 2) tb_g% (h+1) ls.tail
   refine Nat.add_le_add (adW _ ?_) this
   split
   ·rw [gn,dH];lia
   ·exact bV _
theorem abV {P:List Int->Prop} (t:Int) (h0:P []) (h1:∀ l,P l->P (srt (l++[t]))):∀ (w:Nat) (ls:Ls),(∀ l∈ls,P l)->∀ l∈gO t ls w,P l:=by
 intro w
 induction w using Hz with
 | _ w ih =>
  intro ls hl
  by_cases hw:w=0
  ·rw [hw,gR];exact hl
  ·rw [ig t ls hw]
   intro l m
   rcases bN.mp m with e | e
   ·rw [e]
    split
    ·exact h1 _ (QG hl h0)
    ·exact QG hl h0
   ·exact ih (w / 2) tb_g% ls.tail (Zy hl) l e
noncomputable def Full (ls:Ls):Prop:=∀ l,ls.getLast? = some l->l≠[]
theorem wN {l:List Int} {ls:Ls} (h:Full ls) (h0:ls=[]->l≠[]):Full (l::ls):=by
 intro m hm
 cases ls with
 | nil=>simp at hm;rw [<- hm];exact h0 rfl
 | cons a r=>exact h m (by rw [adb] at hm;exact hm)
theorem rP {ls:Ls} (h:Full ls):Full ls.tail:=by
 intro m hm
 cases ls with
 | nil=>exact nomatch hm
 | cons a r =>
  cases r with
  | nil=>exact nomatch hm
  | cons b r=>exact h m (by rw [adb];exact hm)
theorem Tg {t:Int} {w:Nat} {ls:Ls} (h:w≠0):gO t ls w≠[]:=by rw [ig t ls h];exact Vy _ _
theorem abW {t:Int} {w:Nat} {ls:Ls} (h:gO t ls w=[]):w=0/\ls=[]:=by
 by_cases hw:w=0
 ·rw [hw,gR] at h;exact ⟨hw,h⟩
 ·exact absurd h (Tg hw)
theorem Zz (t:Int):∀ (w:Nat) (ls:Ls),Full ls->Full (gO t ls w):=by
 intro w
 induction w using Hz with
 | _ w ih =>
  intro ls hl
  by_cases hw:w=0
  ·rw [hw,gR];exact hl
  ·rw [ig t ls hw]
   refine wN (ih (w / 2) tb_g% _ (rP hl)) fun e=>?_
   have hw2:=(abW e).1
   rw [if_pos (show w % 2=1 by lia)]
   intro z
   have:=congrArg nF z
   rw [gn,dH] at this
   exact absurd this (by show ¬ _+1=0;lia)
inductive Stl (room:Int):Nat->Int->Int->Int->Ls->Ls->Int->Int->Int->Prop
 | nil (h:Nat) (tn ov un:Int):Stl room h tn ov un [] [] tn ov un
 | keep {h:Nat} {tn ov un:Int} {l:List Int} {ls out:Ls} {tn' ov' un':Int}:(l.length:Int)<=room->Stl room (h+1) tn ov un ls out tn' ov' un'->Stl room h tn ov un (l::ls) (l::out) tn' ov' un'
 | turn {h:Nat} {tn ov un:Int} {l:List Int} {ls out:Ls} {tn' ov' un':Int}:room<(l.length:Int) ->
   Stl room (h+1) (tn+1) (if tn % 2=0 then ov+2 ^ h else ov) (if tn % 2=0 then un else un+2 ^ h) (srt (ls.headD []++pick (decide (tn % 2=1)) l)::ls.tail) out tn' ov' un'->Stl room h tn ov un (l::ls) (lft l::out) tn' ov' un'
theorem Stl.uniq {room:Int} {h:Nat} {tn ov un:Int} {ls out:Ls} {tn' ov' un':Int} (a:Stl room h tn ov un ls out tn' ov' un'):∀ {out2:Ls} {tn2 ov2 un2:Int},Stl room h tn ov un ls out2 tn2 ov2 un2->out2=out/\tn2=tn'/\ov2=ov'/\un2=un':=by
 induction a with
 | nil=>intro _ _ _ _ b;cases b;exact ⟨rfl,rfl,rfl,rfl⟩
 | keep hl _ ih =>
  intro _ _ _ _ b
  cases b with
  | keep _ b=>obtain ⟨e1,e2,e3,e4⟩:=ih b;exact ⟨by rw [e1],e2,e3,e4⟩
  | turn hg _=>lia
 | turn hl _ ih =>
  intro _ _ _ _ b
  cases b with
  | keep hg _=>lia
  | turn _ b=>obtain ⟨e1,e2,e3,e4⟩:=ih b;exact ⟨by rw [e1],e2,e3,e4⟩
theorem Stl.val {room:Int} {h:Nat} {tn ov un:Int} {ls out:Ls} {tn' ov' un':Int} (a:Stl room h tn ov un ls out tn' ov' un'):val out=val ls:=by
 induction a with
 | nil=>rfl
 | keep _ _ ih=>show _+2*_=_+2*_;rw [ih]
 | @turn _ _ _ _ l ls _ _ _ _ _ _ ih =>
  show nF _+2*_=_+2*_
  rw [ih,wM]
  show _+2*(nF _+2*RG.val ls.tail)=_
  rw [gn,dH,mK,Zx ls]
  lia
theorem Stl.all {P:List Int->Prop} (h0:P []) (hL:∀ l,P l->P (lft l)) (hP:∀ l m o,P l->P m->P (srt (l++pick o m))) {room:Int} {h:Nat} {tn ov un:Int} {ls out:Ls} {tn' ov' un':Int} (a:Stl room h tn ov un ls out tn' ov' un'):(∀ l∈ls,P l)->∀ l∈out,P l:=by
 induction a with
 | nil=>exact id
 | keep _ _ ih =>
  intro hl l m
  rcases bN.mp m with e | e
  ·rw [e];exact hl _ cX
  ·exact ih (fun l hm=>hl l (gF _ hm)) l e
 | @turn _ _ _ _ l0 ls _ _ _ _ _ _ ih =>
  intro hl l m
  have h1:P l0:=hl _ cX
  have h2:∀ l∈ls,P l:=fun l hm=>hl l (gF _ hm)
  rcases bN.mp m with e | e
  ·rw [e];exact hL _ h1
  ·refine ih (fun l hm=>?_) l e
   rcases bN.mp hm with z | z
   ·rw [z];exact hP _ _ _ (QG h2 h0) h1
   ·exact Zy h2 l z
theorem Stl.small {room:Int} (r1:1<=room) {h:Nat} {tn ov un:Int} {ls out:Ls} {tn' ov' un':Int} (a:Stl room h tn ov un ls out tn' ov' un'):∀ l∈out,(l.length:Int)<=room:=by
 induction a with
 | nil=>exact fun _ h=>nomatch h
 | keep hl _ ih =>
  intro l m
  rcases bN.mp m with e | e
  ·rw [e];exact hl
  ·exact ih l e
 | turn _ _ ih =>
  intro l m
  rcases bN.mp m with e | e
  ·rw [e,wM];lia
  ·exact ih l e
theorem Stl.empty {room:Int} {h:Nat} {tn ov un:Int} {ls out:Ls} {tn' ov' un':Int} (a:Stl room h tn ov un ls out tn' ov' un') (e:out=[]):ls=[]:=by
 cases a with
 | nil=>rfl
 | keep _ _=>cases e
 | turn _ _=>cases e
theorem Stl.full {room:Int} (r1:1<=room) {h:Nat} {tn ov un:Int} {ls out:Ls} {tn' ov' un':Int} (a:Stl room h tn ov un ls out tn' ov' un'):Full ls->Full out:=by
 induction a with
 | nil=>exact id
 | @keep _ _ _ _ l ls out _ _ _ _ a ih =>
  intro f
  refine wN (ih (rP f)) fun e=>?_
  have:=a.empty e
  subst this
  exact f l rfl
 | @turn _ _ _ _ l ls out _ _ _ hl a ih =>
  intro f
  refine wN (ih (wN (rP (rP f)) fun _ z=>?_)) fun e=>?_
  ·have:=congrArg nF z
   rw [gn,dH,mK] at this
   have:(_:Nat)+l.length / 2=0:=this
   lia
  ·exact absurd (a.empty e) (Vy _ _)
theorem Stl.mono {room:Int} {h:Nat} {tn ov un:Int} {ls out:Ls} {tn' ov' un':Int} (a:Stl room h tn ov un ls out tn' ov' un'):tn<=tn'/\ov<=ov'/\un<=un':=by
 induction a with
 | nil=>exact ⟨eE _,eE _,eE _⟩
 | keep _ _ ih=>exact ih
 | @turn h tn ov un _ _ _ _ _ _ _ _ ih =>
  have p:(0:Int)<2 ^ h:=Wx (by decide)
  obtain ⟨i1,i2,i3⟩:=ih
  refine ⟨by lia,?_,?_⟩
  ·split at i2 <;> lia
  ·split at i3 <;> lia
theorem Stl.pot {room:Int} (ev:room % 2=0) {h:Nat} {tn ov un:Int} {ls out:Ls} {tn' ov' un':Int} (a:Stl room h tn ov un ls out tn' ov' un'):room*(ov'+un'-ov-un)+pot h ls<=pot h out:=by
 induction a with
 | nil h tn ov un =>
  rw [show ov+un-ov-un=0 by lia,Int.mul_zero]
  lia
 | @keep h _ _ _ l ls out _ _ _ _ _ ih =>
  show _+((h*2 ^ h*l.length+RG.pot (h+1) ls:Nat):Int)<=((h*2 ^ h*l.length+RG.pot (h+1) out:Nat):Int)
  lia
 | @turn h tn ov un l ls out tn' ov' un' hl _ ih =>
  show _+((h*2 ^ h*l.length+RG.pot (h+1) ls:Nat):Int)<=((h*2 ^ h*(lft l).length+RG.pot (h+1) out:Nat):Int)
  have e:RG.pot (h+1) (srt (ls.headD []++pick (decide (tn % 2=1)) l)::ls.tail)=RG.pot (h+1) ls+(h+1)*2 ^ (h+1)*(l.length / 2):=by
   show (h+1)*2 ^ (h+1)*nF _+RG.pot (h+1+1) ls.tail=_
   rw [gn,dH,mK,ags (h+1) ls,yU]
   lia
  rw [e] at ih
  have d:(if tn % 2=0 then ov+2 ^ h else ov)+(if tn % 2=0 then un else un+2 ^ h)=ov+un+2 ^ h:=by split <;> lia
  have ih2:room*(ov'+un'-(ov+un+2 ^ h))+((RG.pot (h+1) ls+(h+1)*2 ^ (h+1)*(l.length / 2):Nat):Int)<=RG.pot (h+1) out:=by
   rw [<- d]
   refine lQ (Int.le_of_eq ?_) ih
   congr 2
   lia
  rw [wM]
  have m1:room*(ov'+un'-(ov+un+2 ^ h))=room*(ov'+un'-ov-un)-room*2 ^ h:=by
   rw [<- Int.mul_sub];congr 1;lia
  rw [m1] at ih2
  have key:h*2 ^ h*l.length+(2*(l.length / 2))*2 ^ h=h*2 ^ h*(l.length % 2)+(h+1)*2 ^ (h+1)*(l.length / 2):=by
   have e1:l.length=2*(l.length / 2)+l.length % 2:=by lia
   generalize l.length / 2=m at e1 ⊢
   generalize l.length % 2=c at e1 ⊢
   rw [e1,vH]
   grind
  have big:room*2 ^ h<=((2*(l.length / 2)*2 ^ h:Nat):Int):=by
   have r2:room<=((2*(l.length / 2):Nat):Int):=by lia
   have p:(0:Int)<=2 ^ h:=Int.pow_nonneg (by decide)
   have:=Ah r2 p
   rw [Int.natCast_mul]
   rw [Pu]
   exact this
  have key':((h*2 ^ h*l.length:Nat):Int)+((2*(l.length / 2)*2 ^ h:Nat):Int)=((h*2 ^ h*(l.length % 2):Nat):Int)+(((h+1)*2 ^ (h+1)*(l.length / 2):Nat):Int):=by
   rw [<- Ia,<- Ia,key]
  rw [Ia,Ia]
  rw [Ia] at ih2
  lia
theorem aaV:∀ {ls:Ls},Full ls->ls≠[]->2 ^ (ls.length-1)<=val ls
 | [],_,h=>absurd rfl h
 | [l],f,_=>by
  have:=f l rfl
  show 1<=l.length+2*0
  cases l with
  | nil=>exact absurd rfl this
  | cons a r=>show 1<=r.length+1+0;lia
 | l::m::r,f,_=>by
  have ih:=aaV (ls:=m::r) (rP f) (Vy _ _)
  show 2 ^ ((m::r).length+1-1)<=l.length+2*val (m::r)
  rw [show (m::r).length+1-1=((m::r).length-1)+1 by rw [iI];lia,vH]
  lia
theorem tM {α:Type} {ms:List α} {p:Nat} {l:α} (h:ms[p]? = some l):ms.take (p+1)=ms.take p++[l]:=by rw [xO,h];rfl
theorem fV {α:Type} {ms:List α} {p:Nat} {l:α} (h:ms[p]? = some l):ms.drop p=l::ms.drop (p+1):=by
 obtain ⟨hp,e⟩:=jB.mp h
 rw [Hg hp,e]
theorem Ti {α:Type} {ms:List α} {p:Nat} {l m:α} (h:ms[p]? = some l):(ms.set p m).take (p+1)=ms.take p++[m]:=by
 obtain ⟨hp,e⟩:=jB.mp h
 rw [tM (l:=m) (by rw [Hj hp]),adn (bV _)]
theorem set_drop {α:Type} {ms:List α} {p:Nat} {m:α}:(ms.set p m).drop (p+1)=ms.drop (p+1):=by rw [Vq (yS p)]
theorem Bs {α:Type} {ms:List α} {p:Nat} {l:α} (h:ms[p]? = some l):ms.set p l=ms:=by
 obtain ⟨hp,e⟩:=jB.mp h
 rw [<- e,List.set_getElem_self]
theorem Jz {t:Int} {ms:Ls} {p k:Nat} {l:List Int} (h:ms[p]? = some l) (hk:k≠0) :
  (ms.set p (if k % 2=1 then srt (l++[t]) else l)).take (p+1)++gO t ((ms.set p (if k % 2=1 then srt (l++[t]) else l)).drop (p+1)) (k / 2)=ms.take p++gO t (ms.drop p) k:=by
 rw [Ti h,set_drop,fV h,ig t _ hk,lE];rfl
theorem ZC {t:Int} {ms:Ls} {p k:Nat} (h:p=ms.length) (hk:k≠0):(ms++[[]]).take p++gO t ((ms++[[]]).drop p) k=ms.take p++gO t (ms.drop p) k:=by
 rw [h,adA,adB,vA,Vz,abT t hk]
theorem oU:∀ (xs ys:Ls),val (xs++ys)=val xs+2 ^ xs.length*val ys
 | [],ys=>by show val ys=0+1*val ys;lia
 | x::xs,ys=>by
  show x.length+2*val (xs++ys)=x.length+2*val xs+2 ^ (xs.length+1)*val ys
  rw [oU xs ys,vH,yU,Dh _ 2,HD]
  lia
structure Run (room tn ov un:Int) (ls:Ls) (q:Nat) (tn2 ov2 un2:Int) (ms:Ls):Prop where
 cont:∀ out tn' ov' un',Stl room q tn2 ov2 un2 (ms.drop q) out tn' ov' un'->Stl room 0 tn ov un ls (ms.take q++out) tn' ov' un'
 vl:val (ms.take q)+2 ^ q*val (ms.drop q)=val ls
 le:q<=ms.length
 b1:(∀ l∈ls,l.length<=31)->∀ l∈ms,l.length<=62
 b2:(∀ l∈ls,l.length<=31)->∀ l∈ms.drop (q+1),l.length<=31
 b0:(∀ l∈ls,(l.length:Int)<=room)->ms=ls
theorem Run.start {room tn ov un:Int} {ls:Ls}:Run room tn ov un ls 0 tn ov un ls :=
 ⟨fun _ _ _ _ h=>h,by show 0+1*_=_;rw [adC];lia,cY _,fun h l hl=>by have:=h l hl;lia,fun h l hl=>h l (Hl hl),fun _=>rfl⟩
theorem Run.done {room tn ov un tn2 ov2 un2:Int} {ls ms:Ls} {q:Nat} (r:Run room tn ov un ls q tn2 ov2 un2 ms) (h:ms.length<=q):Stl room 0 tn ov un ls ms tn2 ov2 un2:=by
 have:=r.cont [] tn2 ov2 un2 (by rw [Vl h];exact .nil _ _ _ _)
 rw [yO,pL h] at this
 exact this
theorem Run.keep {room tn ov un tn2 ov2 un2:Int} {ls ms:Ls} {q:Nat} {l:List Int} (r:Run room tn ov un ls q tn2 ov2 un2 ms) (h:ms[q]? = some l) (hl:(l.length:Int)<=room):Run room tn ov un ls (q+1) tn2 ov2 un2 ms:=by
 obtain ⟨hp,_⟩:=jB.mp h
 refine ⟨fun out tn' ov' un' s=>?_,?_,hp,r.b1,fun h l hl=>r.b2 h l (by rw [show q+1+1=1+(q+1) by lia,Nat.add_comm 1] at hl;exact Hl (i:=1) (by rw [adz];exact hl)),r.b0⟩
 ·have:=r.cont (l::out) tn' ov' un' (by rw [fV h];exact .keep hl s)
  rw [tM h,lE];exact this
 ·have:=r.vl
  rw [fV h] at this
  rw [tM h,oU,gU,O5 tb_g%,<- this,vH]
  show _+2 ^ q*(l.length+2*0)+_=_+2 ^ q*(l.length+2*_)
  rw [yU,yU,HD]
  lia
theorem Run.big {room tn ov un tn2 ov2 un2:Int} {ls ms:Ls} {q:Nat} {l:List Int} (r:Run room tn ov un ls q tn2 ov2 un2 ms) (h:ms[q]? = some l) (hl:l≠[]):2 ^ q<=val ls:=by
 have:=r.vl
 rw [fV h] at this
 have e:val (l::ms.drop (q+1))=l.length+2*val (ms.drop (q+1)):=rfl
 have l1:1<=l.length:=by
  cases l with
  | nil=>exact absurd rfl hl
  | cons a b=>show 1<=b.length+1;lia
 have m:=adW (2 ^ q) (show 1<=val (l::ms.drop (q+1)) by lia)
 lia
noncomputable def More (q:Nat) (ms ms':Ls) (nx:List Int):Prop:=(ms'=ms/\ms[q+1]? = some nx)\/(q+1=ms.length/\ms'=ms++[[]]/\nx=[])
theorem More.at {q:Nat} {ms ms':Ls} {nx l:List Int} (m:More q ms ms' nx) (h:ms[q]? = some l):ms'[q]? = some l/\ms'[q+1]? = some nx/\ms'.take q=ms.take q/\(ms.drop (q+1)).headD []=nx/\(ms.drop (q+1)).tail=ms'.drop (q+2):=by
 rcases m with ⟨rfl,e⟩ | ⟨e,rfl,rfl⟩
 ·refine ⟨h,e,rfl,?_,?_⟩
  ·rw [fV e];rfl
  ·rw [fV e];rfl
 ·obtain ⟨hp,_⟩:=jB.mp h
  refine ⟨by rw [Eo hp];exact h,by rw [e,xK (bV _),V6];rfl,List.take_append_of_le_length tb_g%,?_,?_⟩
  ·rw [e,Vz];rfl
  ·rw [e,Vz,Vl (by rw [dH];show _+1<=_;lia)];rfl
theorem Run.turn {room tn ov un tn2 ov2 un2:Int} {ls ms ms':Ls} {q:Nat} {l nx:List Int} (r:Run room tn ov un ls q tn2 ov2 un2 ms) (m:More q ms ms' nx) (h:ms[q]? = some l) (hl:room<(l.length:Int)) :
  Run room tn ov un ls (q+1) (tn2+1) (if tn2 % 2=0 then ov2+2 ^ q else ov2) (if tn2 % 2=0 then un2 else un2+2 ^ q) ((ms'.set q (lft l)).set (q+1) (srt (nx++pick (decide (tn2 % 2=1)) l))):=by
 obtain ⟨h1,h2,h3,h4,h5⟩:=m.at h
 obtain ⟨p1,_⟩:=jB.mp h1
 obtain ⟨p2,_⟩:=jB.mp h2
 have e0:(ms'.set q (lft l))[q+1]? = some nx:=by rw [yK tb_g%];exact h2
 have e1:((ms'.set q (lft l)).set (q+1) (srt (nx++pick (decide (tn2 % 2=1)) l))).take (q+1)=ms.take q++[lft l]:=by
  rw [adn (bV _),Ti h1,h3]
 have e2:((ms'.set q (lft l)).set (q+1) (srt (nx++pick (decide (tn2 % 2=1)) l))).drop (q+1)=srt (nx++pick (decide (tn2 % 2=1)) l)::(ms.drop (q+1)).tail:=by
  rw [fV (l:=srt (nx++pick (decide (tn2 % 2=1)) l)) (by rw [Hj (by rw [lG];exact p2)]),set_drop,Vq tb_g%,h5]
 have hm:(∀ l∈ls,l.length<=31)->∀ k∈ms',k.length<=62:=by
  intro hs
  rcases m with ⟨rfl,_⟩ | ⟨_,rfl,_⟩
  ·exact r.b1 hs
  ·intro k hk
   rcases d9.mp hk with z | z
   ·exact r.b1 hs k z
   ·rw [eZ.mp z];exact cY _
 have nx2:(∀ l∈ls,l.length<=31)->nx.length<=31:=by
  intro hs
  rcases m with ⟨rfl,e⟩ | ⟨_,_,rfl⟩
  ·exact r.b2 hs nx (by rw [fV e];exact cX)
  ·exact cY _
 have ll:(∀ l∈ls,l.length<=31)->l.length<=62:=fun z=>r.b1 z l (List.mem_of_getElem? h)
 refine ⟨fun out tn' ov' un' s=>?_,?_,by rw [lG,lG];lia,fun hs k hk=>?_,fun hs k hk=>?_,fun hs=>?_⟩
 ·rw [e1,lE]
  refine r.cont (lft l::out) tn' ov' un' ?_
  rw [fV h]
  refine .turn hl ?_
  rw [h4]
  rw [e2] at s
  exact s
 ·have v:=r.vl
  rw [fV h] at v
  rw [e1,e2,oU,gU,O5 (by have:=r.le;lia),<- v,vH]
  show _+2 ^ q*((lft l).length+2*0)+2 ^ q*2*((srt _).length+2*val _)=_+2 ^ q*(l.length+2*val _)
  rw [gn,dH,mK,wM,Zx (ms.drop (q+1)),h4,HD,HB,<- yU]
  congr 2
  lia
 ·rcases xM hk with z | z
  ·rcases xM z with z | z
   ·exact hm hs k z
   ·rw [z,wM];lia
  ·have:=nx2 hs
   have:=ll hs
   rw [z,gn,dH,mK];lia
 ·rw [set_drop,Vq tb_g%,<- h5] at hk
  exact r.b2 hs k (adi hk)
 ·have e:=r.b0 hs
  have:=hs l (by rw [<- e];exact List.mem_of_getElem? h)
  lia
theorem Mv (t:Int):∀ (n w:Nat) (ls:Ls),w<2 ^ n->(gO t ls w).length<=max ls.length n
 | 0,w,ls,h=>by
  have:w=0:=by rw [ad1] at h;lia
  rw [this,gR];lia
 | n+1,w,ls,h=>by
  by_cases hw:w=0
  ·rw [hw,gR];lia
  ·rw [ig t ls hw,iI]
   have:=Mv t n (w / 2) ls.tail (by rw [vH] at h;lia)
   rw [List.length_tail] at this
   lia
theorem JB (t:Int) {b:Nat}:∀ (w:Nat) (ls:Ls),(∀ l∈ls,l.length<=b)->∀ l∈gO t ls w,l.length<=b+1:=by
 intro w
 induction w using Hz with
 | _ w ih =>
  intro ls hl
  by_cases hw:w=0
  ·rw [hw,gR];exact fun l h=>O3 (hl l h)
  ·rw [ig t ls hw]
   intro l m
   have hd:=QG (P:=fun l=>l.length<=b) hl (cY _)
   rcases bN.mp m with e | e
   ·rw [e]
    split
    ·rw [gn,dH];show _+1<=_;lia
    ·exact O3 hd
   ·exact ih (w / 2) tb_g% ls.tail (Zy hl) l e
theorem agt (t:Int) (w:Nat) (ls:Ls) (h:∀ l∈ls,Sd l):∀ l∈gO t ls w,Sd l:=abV (P:=Sd) t List.Pairwise.nil (fun _ _=>qZ _) w ls h
theorem Stl.mem {P:Int->Prop} {room:Int} {h:Nat} {tn ov un:Int} {ls out:Ls} {tn' ov' un':Int} (a:Stl room h tn ov un ls out tn' ov' un'):(∀ l∈ls,∀ z∈l,P z)->∀ l∈out,∀ z∈l,P z :=
 a.all (P:=fun l=>∀ z∈l,P z) (fun _ h=>nomatch h) (fun l hl z hz=>hl z (aaU hz)) fun l m o hl hm z hz=>by
  rcases d9.mp (qF.mp hz) with e | e
  ·exact hl z e
  ·exact hm z (Tf e)
theorem Stl.sd {room:Int} {h:Nat} {tn ov un:Int} {ls out:Ls} {tn' ov' un':Int} (a:Stl room h tn ov un ls out tn' ov' un'):(∀ l∈ls,Sd l)->∀ l∈out,Sd l :=
 a.all (P:=Sd) List.Pairwise.nil (fun _=>agr) fun _ _ _ _ _=>qZ _
structure Good (r T ov un:Int) (ls:Ls):Prop where
 r2:2<=r
 r64:r<=64
 ev:r % 2=0
 vl:(val ls:Int)=T
 sd:∀ l∈ls,Sd l
 sm:∀ l∈ls,(l.length:Int)<=r
 fl:Full ls
 pt:(ov+un)*r<=pot 0 ls
 ov0:0<=ov
 un0:0<=un
theorem Good.new {r:Int} (h1:2<=r) (h2:r<=64) (h3:r % 2=0):Good r 0 0 0 [] :=
 ⟨h1,h2,h3,rfl,fun _ h=>(nomatch h),fun _ h=>(nomatch h),fun _ h=>(nomatch h),by show (0+0)*r<=0;lia,eE _,eE _⟩
theorem Good.add {r T ov un tn tn' ov' un' t w:Int} {ls out:Ls} (g:Good r T ov un ls) (w1:1<=w) (s:Stl r 0 tn ov un (gO t ls w.toNat) out tn' ov' un'):Good r (T+w) ov' un' out/\out≠[]:=by
 have h1:=g.r2
 have mo:=s.mono
 have o0:=g.ov0
 have u0:=g.un0
 refine ⟨⟨g.r2,g.r64,g.ev,?_,s.sd (agt t _ _ g.sd),s.small tb_g%,s.full tb_g% (Zz t _ _ g.fl),?_,by lia,by lia⟩,fun e=>?_⟩
 ·rw [s.val,Mu];have:=g.vl;lia
 ·have p1:=s.pot g.ev
  have p2:=abU t w.toNat 0 ls
  have p3:=g.pt
  have e:r*(ov'+un'-ov-un)=(ov'+un')*r-(ov+un)*r:=by grind
  lia
 ·exact Tg tb_g% (s.empty e)
theorem Good.bits {r T ov un:Int} {ls:Ls} (g:Good r T ov un ls) (h:ls≠[]):(2:Int) ^ (ls.length-1)<=T:=by
 have:=aaV g.fl h
 have e:=g.vl
 have c:((2 ^ (ls.length-1):Nat):Int)=(2:Int) ^ (ls.length-1):=by rw [Pu];rfl
 lia
theorem agu {ls:Ls} {i:Nat} {l:List Int} (h:ls[i]? = some l):val (ls.take (i+1))=val (ls.take i)+l.length*2 ^ i:=by
 obtain ⟨hi,_⟩:=jB.mp h
 rw [tM h,oU,gU,O5 tb_g%]
 show _+2 ^ i*(l.length+2*0)=_
 rw [O6,Dg,Dh]
theorem Good.len {r T ov un:Int} {ls:Ls} (g:Good r T ov un ls) {n:Nat} (h:T<2 ^ n):ls.length<=n:=by
 by_cases e:ls=[]
 ·rw [e];exact cY _
 ·have:=g.bits e
  rcases jk (ls.length-1) n with z | z
  ·lia
  ·have p:=V3 (show 0<2 by decide) z
   have c:((2 ^ n:Nat):Int)=(2:Int) ^ n:=by rw [Pu];rfl
   have c2:((2 ^ (ls.length-1):Nat):Int)=(2:Int) ^ (ls.length-1):=by rw [Pu];rfl
   lia
theorem Good.small {r T ov un:Int} {ls:Ls} (g:Good r T ov un ls):∀ l∈ls,l.length<=64:=fun l h=>by have:=g.sm l h;have:=g.r64;lia
noncomputable def tw (x:Int):List (Int × Int)->Int
 | []=>0
 | p::r=>(if p.1<=x then p.2 else 0)+tw x r
noncomputable def Rk (T ov un:Int) (ls:Ls) (rs:List (Int × Int)):Prop:=∀ x,0<=tw x rs/\tw x rs<=T/\(nr x ls:Int)-ov<=tw x rs/\tw x rs<=nr x ls+un
noncomputable def jn (l m:Ls) (i:Nat):List Int:=srt (l.getD i []++m.getD i [])
noncomputable def rQ (n:Nat) (l m:Ls):Ls:=(oE n).map (jn l m)
noncomputable def join (l m:Ls):Ls:=rQ (max l.length m.length) l m
theorem zL (n:Nat) (l m:Ls):rQ (n+1) l m=rQ n l m++[jn l m n]:=by
 unfold rQ
 rw [List.range_succ,eG];rfl
theorem wO (n:Nat) (l m:Ls):(rQ n l m).length=n:=by
 unfold rQ
 rw [bG,Hr]
theorem xT (l:Ls) (n:Nat):val (l.take (n+1))=val (l.take n)+(l.getD n []).length*2 ^ n:=by
 rcases jk n l.length with h | h
 ·rw [agu (fY h),vm,fY h];rfl
 ·rw [pL tb_g%,pL h,vm,rH h]
  show _=_+0*_
  rw [Nat.zero_mul];rfl
theorem zM:∀ (xs ys:Ls) (h:Nat),pot h (xs++ys)=pot h xs+pot (h+xs.length) ys
 | [],ys,h=>by show pot h ys=0+pot (h+0) ys;rw [sZ,Dg]
 | x::xs,ys,h=>by
  show h*2 ^ h*x.length+pot (h+1) (xs++ys)=h*2 ^ h*x.length+pot (h+1) xs+pot (h+(xs.length+1)) ys
  rw [zM xs ys (h+1),show h+1+xs.length=h+(xs.length+1) by lia,HB]
theorem xU (l:Ls) (n:Nat):pot 0 (l.take (n+1))=pot 0 (l.take n)+n*2 ^ n*(l.getD n []).length:=by
 rcases jk n l.length with h | h
 ·rw [tM (fY h),zM,gU,O5 tb_g%,sZ,vm,fY h]
  rfl
 ·rw [pL tb_g%,pL h,vm,rH h]
  show _=_+_*0
  rw [O6];rfl
theorem zN (l m:Ls) (i:Nat):(jn l m i).length=(l.getD i []).length+(m.getD i []).length:=by
 unfold jn;rw [gn,dH]
theorem Mw (l m:Ls):∀ n,val (rQ n l m)=val (l.take n)+val (m.take n)
 | 0=>rfl
 | n+1=>by
  rw [zL,oU,wO,Mw l m n,xT,xT]
  show _+2 ^ n*((jn l m n).length+2*0)=_
  rw [O6,Dg,zN,yU,Dh (2 ^ n),Dh (2 ^ n)]
  lia
theorem Mx (l m:Ls):∀ n,pot 0 (rQ n l m)=pot 0 (l.take n)+pot 0 (m.take n)
 | 0=>rfl
 | n+1=>by
  rw [zL,zM,wO,Mx l m n,xU,xU,sZ]
  show _+(n*2 ^ n*(jn l m n).length+0)=_
  rw [Dg,zN,yU]
  lia
theorem Tj (l m:Ls):val (join l m)=val l+val m:=by
 unfold join
 rw [Mw,pL tb_g%,pL tb_g%]
theorem agv (l m:Ls):pot 0 (join l m)=pot 0 l+pot 0 m:=by
 unfold join
 rw [Mx,pL tb_g%,pL tb_g%]
theorem vX (l m:Ls):(join l m).length=max l.length m.length:=wO _ _ _
theorem rR {P:List Int->Prop} {ls:Ls} (h:∀ l∈ls,P l) (h0:P []) (i:Nat):P (ls.getD i []):=by
 rcases jk i ls.length with z | z
 ·rw [vm,fY z];exact h _ (sX z)
 ·rw [vm,rH z];exact h0
theorem Bt {P:List Int->Prop} {l m:Ls} (h:∀ i,P (jn l m i)):∀ k∈join l m,P k:=by
 intro k hk
 unfold join rQ at hk
 obtain ⟨i,_,rfl⟩:=jW.mp hk
 exact h i
theorem aif (l m:Ls):∀ k∈join l m,Sd k:=Bt fun _=>qZ _
theorem abX {l m:Ls} (hl:Full l) (hm:Full m):Full (join l m):=by
 intro k hk
 rw [List.getLast?_eq_getElem?,vX] at hk
 have hp:=(jB.mp hk).1
 rw [vX] at hp
 unfold join rQ at hk
 rw [iR,ado tb_g%] at hk
 have e:jn l m (max l.length m.length-1)=k:=cI hk
 intro z
 have hz:(jn l m (max l.length m.length-1)).length=0:=by rw [e,z];rfl
 rw [zN] at hz
 have one:∀ {ls:Ls},Full ls->max l.length m.length=ls.length->(ls.getD (max l.length m.length-1) []).length=0->False:=by
  intro ls f e0 h0
  have hi:ls.length-1<ls.length:=by lia
  have:=f ls[ls.length-1] (by rw [List.getLast?_eq_getElem?,fY hi])
  rw [e0,vm,fY hi] at h0
  exact this (Ac.mp h0)
 rcases Nat.le_total l.length m.length with a | a
 ·exact one hm tb_g% tb_g%
 ·exact one hl tb_g% tb_g%
theorem Good.Zd {r T1 ov1 un1 T2 ov2 un2 tn tn' ov' un':Int} {l m out:Ls} (g:Good r T1 ov1 un1 l) (h:Good r T2 ov2 un2 m) (s:Stl r 0 tn (ov1+ov2) (un1+un2) (join l m) out tn' ov' un'):Good r (T1+T2) ov' un' out:=by
 have h1:=g.r2
 have mo:=s.mono
 have a1:=g.ov0
 have a2:=g.un0
 have a3:=h.ov0
 have a4:=h.un0
 refine ⟨g.r2,g.r64,g.ev,?_,s.sd (aif l m),s.small tb_g%,s.full tb_g% (abX g.fl h.fl),?_,by lia,by lia⟩
 ·rw [s.val,Tj];have:=g.vl;have:=h.vl;lia
 ·have p1:=s.pot g.ev
  have p2:=agv l m
  have p3:=g.pt
  have p4:=h.pt
  have e:r*(ov'+un'-(ov1+ov2)-(un1+un2))=(ov'+un')*r-(ov1+un1)*r-(ov2+un2)*r:=by grind
  lia
end RG
set_option autoImplicit false
namespace WN
structure Box where
 f:Int
 l:Int
 s:Int
noncomputable def sum (bs:List Box):Int:=(bs.map (·.s)).sum
theorem sum_nil:sum []=0:=rfl
theorem sum_cons (b:Box) (r:List Box):sum (b::r)=b.s+sum r:=by unfold sum;rw [gB,oA]
theorem sum_append (a b:List Box):sum (a++b)=sum a+sum b:=by unfold sum;rw [eG,ady]
noncomputable def settle (room:Int):Int->Box->List Box->List Box
 | _,b,[]=>[b]
 | S,b,o::os=>if (b.s+o.s)*room<=S then settle room S ⟨o.f,b.l,b.s+o.s⟩ os else b::settle room (S+b.s) o os
theorem zO (room S:Int) (b:Box):settle room S b []=[b]:=rfl
theorem jN (room S:Int) (b o:Box) (os:List Box):settle room S b (o::os)=if (b.s+o.s)*room<=S then settle room S ⟨o.f,b.l,b.s+o.s⟩ os else b::settle room (S+b.s) o os:=rfl
noncomputable def settled (room:Int):List Box->List Box
 | []=>[]
 | b::os=>settle room 0 b os
theorem zP (room:Int):∀ (os:List Box) (S:Int) (b:Box),(settle room S b os).length<=os.length+1
 | [],S,b=>by rw [zO];simp
 | o::os,S,b=>by
  rw [jN]
  split
  ·have:=zP room os S ⟨o.f,b.l,b.s+o.s⟩;simp only [iI];lia
  ·have:=zP room os (S+b.s) o;simp only [iI];lia
theorem Tn (room:Int) (bs:List Box):(settled room bs).length<=bs.length:=by
 cases bs with
 | nil=>exact bV _
 | cons b os=>exact zP room os 0 b
noncomputable def uK (room:Int):Int->List Box->Prop
 | _,[]=>True
 | _,[_]=>True
 | S,b::o::os=>S<(b.s+o.s)*room/\uK room (S+b.s) (o::os)
theorem tQ {room:Int} (hr:0<=room):∀ (os:List Box) (S:Int) (b:Box),0<=b.s->(∀ x∈os,0<=x.s)->(∃ h t,settle room S b os=h::t/\b.s<=h.s)/\uK room S (settle room S b os)
 | [],S,b,_,_=>⟨⟨b,[],rfl,eE _⟩,trivial⟩
 | o::os,S,b,hb,ho=>by
  have h0:=ho o cX
  rw [jN]
  split
  ·obtain ⟨⟨h,t,e,le⟩,n⟩:=tQ hr os S ⟨o.f,b.l,b.s+o.s⟩ (by show 0<=b.s+o.s;lia) fun x m=>ho x (gF _ m)
   have le':b.s+o.s<=h.s:=le
   exact ⟨⟨h,t,e,by lia⟩,n⟩
  ·rename_i c
   obtain ⟨⟨h,t,e,le⟩,n⟩:=tQ hr os (S+b.s) o h0 fun x m=>ho x (gF _ m)
   refine ⟨⟨b,_,rfl,eE _⟩,?_⟩
   rw [e] at n ⊢
   refine ⟨?_,n⟩
   have:(b.s+o.s)*room<=(b.s+h.s)*room:=Ah tb_g% hr
   lia
theorem K7 {room:Int} (hr:0<=room) {bs:List Box} (h:∀ x∈bs,0<=x.s):uK room 0 (settled room bs):=by
 cases bs with
 | nil=>trivial
 | cons b os=>exact (tQ hr os 0 b (h b cX) fun x m=>h x (gF _ m)).2
structure Sums (P:Int->Int):Prop where
 zero:∀ n,n<=0->P n=0
 mono:∀ a b,a<=b->P a<=P b
noncomputable def Chain (P:Int->Int) (edge:Int):Int->List Box->Prop
 | u,[]=>edge<=u->P u=P edge
 | u,b::os=>1<=b.f/\b.f<=b.l/\b.l<=u/\P u=P b.l/\b.s=P b.l-P (b.f-1)/\P (b.f-1)<P b.f/\P (b.l-1)<P b.l/\Chain P edge (b.f-1) os
theorem Chain.pos {P:Int->Int} (hP:Sums P) {edge:Int}:∀ {bs:List Box} {u:Int},Chain P edge u bs->∀ b∈bs,1<=b.s
 | b::os,u,⟨_,h2,_,_,h5,h6,_,r⟩,x,m=>by
  rcases bN.mp m with rfl | m
  ·have:=hP.mono x.f x.l h2;lia
  ·exact Chain.pos hP r x m
theorem Chain.below {P:Int->Int} {edge:Int}:∀ {bs:List Box} {u:Int},Chain P edge u bs->∀ b∈bs,1<=b.f/\b.f<=b.l/\b.l<=u
 | b::os,u,⟨h1,h2,h3,_,_,_,_,r⟩,x,m=>by
  rcases bN.mp m with rfl | m
  ·exact ⟨h1,h2,h3⟩
  ·obtain ⟨k1,k2,k3⟩:=Chain.below r x m;exact ⟨k1,k2,by lia⟩
theorem Chain.join {P:Int->Int} {edge u:Int} {b o:Box} {os:List Box} (h:Chain P edge u (b::o::os)):Chain P edge u (⟨o.f,b.l,b.s+o.s⟩::os):=by
 obtain ⟨h1,h2,h3,h4,h5,h6,h7,k1,k2,k3,k4,k5,k6,k7,r⟩:=h
 refine ⟨k1,?_,h3,h4,?_,k6,h7,r⟩
 ·show o.f<=b.l;lia
 ·show b.s+o.s=P b.l-P (o.f-1);lia
theorem Chain.settle {P:Int->Int} {edge room:Int}:∀ {os:List Box} {S u:Int} {b:Box},Chain P edge u (b::os)->Chain P edge u (settle room S b os)
 | [],S,u,b,h=>h
 | o::os,S,u,b,h=>by
  rw [jN]
  split
  ·exact Chain.settle h.join
  ·obtain ⟨h1,h2,h3,h4,h5,h6,h7,r⟩:=h
   exact ⟨h1,h2,h3,h4,h5,h6,h7,Chain.settle r⟩
theorem Chain.settled {P:Int->Int} {edge room:Int} {bs:List Box} {u:Int} (h:Chain P edge u bs):Chain P edge u (settled room bs):=by
 cases bs with
 | nil=>exact h
 | cons b os=>exact Chain.settle h
noncomputable def low (e:Int) (bs:List Box):Int:=sum (bs.filter fun b=>decide (e<b.f))
noncomputable def cut (e:Int) (bs:List Box):Int:=sum (bs.filter fun b=>decide (b.f<=e/\e<b.l))
theorem agw {P:Int->Int} {edge e:Int}:∀ {bs:List Box} {u:Int},Chain P edge u bs->u<=e->low e bs=0/\cut e bs=0:=by
 intro bs u h hu
 have k:=Chain.below h
 constructor
 ·unfold low
  rw [Oj.mpr (fun x m=>by obtain ⟨_,_,_⟩:=k x m;simp;lia)];rfl
 ·unfold cut
  rw [Oj.mpr (fun x m=>by obtain ⟨_,_,_⟩:=k x m;simp;lia)];rfl
theorem Chain.holds {P:Int->Int} (hP:Sums P) {edge e:Int} (he:edge<=e):∀ {bs:List Box} {u:Int},Chain P edge u bs->e<=u->low e bs<=P u-P e/\P u-P e<=low e bs+cut e bs
 | [],u,h,hu=>by
  have h1:=h (lQ he hu)
  have h2:=hP.mono edge e he
  have h3:=hP.mono e u hu
  show 0<=P u-P e/\P u-P e<=0+0
  lia
 | b::os,u,h,hu=>by
  obtain ⟨h1,h2,h3,h4,h5,h6,h7,r⟩:=h
  by_cases c1:e<b.f
  ·obtain ⟨k1,k2⟩:=Chain.holds hP he r tb_g%
   have e1:low e (b::os)=b.s+low e os:=by unfold low;rw [Vk (by simpa using c1),sum_cons]
   have e2:cut e (b::os)=cut e os:=by unfold cut;rw [Oi (by simp;lia)]
   rw [e1,e2];lia
  ·obtain ⟨k1,k2⟩:=agw r (e:=e) tb_g%
   have e1:low e (b::os)=low e os:=by unfold low;rw [Oi (by simpa using c1)]
   by_cases c2:e<b.l
   ·have e2:cut e (b::os)=b.s+cut e os:=by unfold cut;rw [Vk (by simp;lia),sum_cons]
    have m1:=hP.mono e b.l tb_g%
    have m2:=hP.mono (b.f-1) e tb_g%
    rw [e1,e2,k1,k2];lia
   ·have e2:cut e (b::os)=cut e os:=by unfold cut;rw [Oi (by simp;lia)]
    have m1:=hP.mono b.l e tb_g%
    have m2:=hP.mono e u hu
    rw [e1,e2,k1,k2];lia
theorem jr {a:Int} (h:0<a) (n:Nat):0<a ^ n:=Wx h
theorem grown {room:Int} (hr:1<=room):∀ (q:Nat) {bs:List Box} {S:Int},1<=S->uK room S bs->bs.length=2*q->S*(room+1) ^ q<=(S+sum bs)*room ^ q/\(0<q->S*(room+1) ^ q<(S+sum bs)*room ^ q)
 | 0,bs,S,h,n,l=>by
  have:bs=[]:=Ac.mp tb_g%
  subst this
  refine ⟨?_,fun z=>absurd z (pP _)⟩
  rw [sum_nil];simp
 | q+1,bs,S,h,n,l=>by
  match bs,n,l with
  | b::o::os,n,l =>
   have l':os.length=2*q:=by simp only [iI] at l;lia
   obtain ⟨n1,n2⟩:=n
   have n3:uK room (S+b.s+o.s) os:=by
    cases os with
    | nil=>trivial
    | cons c cs=>exact n2.2
   have hb:S*(room+1)+1<=(S+b.s+o.s)*room:=by
    rw [Ww,aeJ,Int.add_assoc S b.s o.s,Dm];lia
   have S0:1<=S+b.s+o.s:=by
    by_cases c:1<=S+b.s+o.s
    ·exact c
    ·have:(S+b.s+o.s)*room<=0:=Int.mul_nonpos_of_nonpos_of_nonneg tb_g% tb_g%
     have:0<=S*(room+1):=Int.mul_nonneg tb_g% tb_g%
     lia
   obtain ⟨g1,_⟩:=grown hr q S0 n3 l'
   have p0:=jr (show (0:Int)<room+1 by lia) q
   have p1:=jr (show (0:Int)<room by lia) q
   have strict:S*(room+1) ^ (q+1)<(S+sum (b::o::os))*room ^ (q+1):=by
    rw [sum_cons,sum_cons,vI,vI]
    have e1:S*((room+1) ^ q*(room+1))=S*(room+1)*(room+1) ^ q:=by rw [aeH ((room+1) ^ q),Dk]
    have e2:(S+(b.s+(o.s+sum os)))*(room ^ q*room)=(S+b.s+o.s+sum os)*room ^ q*room:=by rw [<- Dk];congr 2;lia
    rw [e1,e2]
    have k1:(S*(room+1)+1)*(room+1) ^ q<=(S+b.s+o.s)*room*(room+1) ^ q:=Ah hb tb_g%
    have k2:(S+b.s+o.s)*(room+1) ^ q*room<=(S+b.s+o.s+sum os)*room ^ q*room:=Ah g1 tb_g%
    have e3:(S+b.s+o.s)*room*(room+1) ^ q=(S+b.s+o.s)*(room+1) ^ q*room:=by rw [aeD]
    rw [Dm,aeK] at k1
    lia
   exact ⟨Dl strict,fun _=>strict⟩
theorem few {room:Int} (hr:1<=room) {bs:List Box} (pos:∀ b∈bs,1<=b.s) (n:uK room 0 bs):∀ p:Nat,2+2*p<bs.length->(room+1) ^ (p+1)<sum bs*room ^ (p+1):=by
 have shrink:∀ (k:Nat) {bs:List Box} {S:Int},uK room S bs->uK room S (bs.take k):=by
  intro k bs
  induction bs generalizing k with
  | nil=>intro S _;rw [VF];trivial
  | cons b r ih =>
   intro S h
   cases k with
   | zero=>trivial
   | succ k =>
    cases r with
    | nil=>rw [Vr,VF];trivial
    | cons o os =>
     cases k with
     | zero=>rw [Vr,adD];trivial
     | succ k=>exact ⟨h.1,ih (k+1) h.2⟩
 have aii:∀ (k:Nat) {bs:List Box},(∀ b∈bs,1<=b.s)->sum (bs.take k)<=sum bs:=by
  intro k bs
  induction bs generalizing k with
  | nil=>intro _;rw [VF];exact eE _
  | cons b r ih =>
   intro h
   cases k with
   | zero =>
    have:∀ {l:List Box},(∀ b∈l,1<=b.s)->0<=sum l:=fun {l}=>by
     induction l with
     | nil=>intro _;exact eE _
     | cons c cs ih=>intro h;rw [sum_cons];have:=h c cX;have:=ih fun x m=>h x (gF _ m);lia
    rw [adD];exact this h
   | succ k=>rw [Vr,sum_cons,sum_cons];have:=ih k fun x m=>h x (gF _ m);lia
 intro p hl
 match bs,pos,n,hl with
 | b::r,pos,n,hl =>
  have lr:2*(p+1)<=r.length:=by simp only [iI] at hl;lia
  have hb:=pos b cX
  have n2:uK room b.s (r.take (2*(p+1))):=by
   refine shrink _ ?_
   cases r with
   | nil=>trivial
   | cons o os=>have:=n.2;rw [oJ] at this;exact this
  obtain ⟨_,g⟩:=grown hr (p+1) hb n2 (by rw [gU];lia)
  have g':=g (Nat.succ_pos _)
  have s1:=aii (2*(p+1)) (bs:=r) fun x m=>pos x (gF _ m)
  have p0:=jr (show (0:Int)<room+1 by lia) (p+1)
  have p1:=jr (show (0:Int)<room by lia) (p+1)
  have k1:1*(room+1) ^ (p+1)<=b.s*(room+1) ^ (p+1):=Ah hb tb_g%
  have k2:(b.s+sum (r.take (2*(p+1))))*room ^ (p+1)<=(b.s+sum r)*room ^ (p+1):=Ah tb_g% tb_g%
  rw [sum_cons]
  lia
end WN
namespace L2
open PySem PySem.Spec PyProof.Rows
section
variable {prog:aO} {w:World} {A:bA} {E:Value->Shared->Prop} {s:Shared}
noncomputable def outR (Q E:Value->Shared->Prop) (r:jV) (z:Shared):Prop:=match r with
 | .ok (.ret u)=>Q u z
 | .ok _=>False
 | .error u=>E u z
noncomputable def outF (prog:aO) (w:World) (A:bA) (Q E:Value->Shared->Prop) (f:Fin) (z:Shared):Prop:=match f with
 | .done g=>outR Q E (.ok g) z
 | .again c=>c.quiet=true/\fB (model prog w) A c (outR Q E) z
theorem aaW {id:String} {b:dW} {xs:List Value} {kw:List (Str × Value)} {Q:Value->Shared->Prop} (hk:builtinKind id=none)
  (hp:plainId id=true) (hb:GR table id=some b) (ha:qT id ⟨xs,kw⟩)
  (hc:wpAny (model prog w) A.in1 (b ⟨xs,kw⟩) (outF prog w A Q E) E s):wpAny (model prog w) A (call (.builtin id) xs kw) Q E s:=by
 refine yD (Nm hp hb ?_)
 simp only [Nq,hk]
 have hc2:=eF hc (Q':=fun f z=>match f with
  | .done g=>outR Q E (.ok g) z
  | .again c=>c.quiet=true/\fB (model prog w) A c (outR Q E) z) (fun _ _ h=>h) fun _ _ h=>h
 generalize hsig:Manifest.signature? id=sg at *
 cases sg with
 | none=>exact bC hc2
 | some sig =>
  have e:afi id sig ⟨xs,kw⟩=pure ():=by
   simp only [qT,hsig] at ha
   exact ha
  refine (?_:wpAny _ A.in1 (afi id sig ⟨xs,kw⟩) _ _ s)
  rw [e]
  exact bC hc2
end
section
variable {prog:aO} {w:World} {A:bA} {R:jV->Shared->Prop} {it:Addr} {fp wr:List Addr} {n:Nat} {P:Nat->Value->Prop} {St:Nat->Heap->Prop}
theorem aij (W:Walks prog w A.in1 it fp wr n P St) (bt:Nat->Nat->Bool)
  (cm:CmpOf prog w A.in1 .Lt P bt) (S:Addr) (nS:S∉fp) (kw:List (Str × Value)) :
  ∀ (k j:Nat) (s:Shared) (u:Value) (c:Nat),k+(j+1)=n->St (j+1) s.heap->P (iy bt j) u ->
   s.heap.get? S=some { cls:=.type "list",data:=.seq #[u,u] c } ->
   (∀ v h' tk,P (iy bt (n-1)) v->(∀ b o,b∉wr->b≠S->s.heap.get? b=some o->h'.get? b=some o) ->
    R (.ok (.ret v)) { s with heap:=h',toks:=tk }) ->
   fB (model prog w) A (.builtin "min.loop" ⟨[.ref it,.none,.ref S],kw⟩) R s:=by
 have nw:S∉wr:=fun h=>nS (W.sub _ h)
 have nm:(toString "min" ++ toString ".loop" : String) = "min.loop" := by decide
 intro k
 induction k with
 | zero =>
  intro j s u c e st pu hS post
  have ej:j=n-1:=by lia
  have en:j+1=n:=by lia
  rw [ej] at pu
  rw [en] at st
  refine rG F.entry_min_loop ?_
  rw [vJ F.plain_min_loop _]
  refine aG (sS hS rfl ?_)
  refine aG (qO (W.done s _ _ st fun h1 tk1 kp=>?_))
  refine aG (sO (kp S _ nw hS) rfl (aG (sV (bC ?_))))
  exact post u _ tk1 pu fun b o nb nbS eb=>by
   rw [oH _ _ (aL nbS)];exact kp b o nb eb
 | succ k ih =>
  intro j s u c e st pu hS post
  refine rG F.entry_min_loop ?_
  rw [vJ F.plain_min_loop _]
  refine aG (sS hS rfl ?_)
  refine aG (qO (W.item (j+1) s _ _ tb_g% st fun v h1 tk1 pv st1 kp=>?_))
  have hS1:=kp S _ nw hS
  refine aG (bC ?_)
  refine aG (qO (jJ (aG (cm (j+1) (iy bt j) v u _ _ _ pv pu ?_))))
  refine aG (jJ (Gv (aG (sV (bC ?_)))))
  have ab:iy bt (j+1)=if bt (j+1) (iy bt j) then j+1 else iy bt j:=rfl
  cases hb:bt (j+1) (iy bt j) with
  | true =>
   rw [hb,if_pos rfl] at ab
   rw [if_pos rfl]
   refine aG (sO hS1 rfl (aG (sV ?_)))
   rw [nm]
   refine bC ⟨pK F.plain_min_loop _,ih (j+1) _ v _ tb_g% (W.frame _ _ _ st1 fun b hb o eb=>?_) (by rw [ab];exact pv) (Ag _ hS1 rfl) fun v2 h2 tk2 p2 k2=>?_⟩
   ·rw [oH _ _ (fun z:S=b=>nS (z ▸ hb))];exact eb
   ·exact post v2 h2 tk2 p2 fun b o nb nbS eb=>k2 b o nb nbS (by
     rw [oH _ _ (aL nbS)];exact kp b o nb eb)
  | false =>
   rw [hb,if_neg (by decide)] at ab
   rw [if_neg (by decide)]
   refine aG (sV ?_)
   rw [nm]
   refine bC ⟨pK F.plain_min_loop _,ih (j+1) _ u c tb_g% st1 (by rw [ab];exact pu) hS1 fun v2 h2 tk2 p2 k2=>?_⟩
   exact post v2 h2 tk2 p2 fun b o nb nbS eb=>k2 b o nb nbS (kp b o nb eb)
theorem ZD (W:Walks prog w A.in1 it fp wr n P St) (bt:Nat->Nat->Bool)
  (cm:CmpOf prog w A.in1 .Lt P bt) (S:Addr) (nS:S∉fp) (d:Value) {s:Shared} {c:Nat} (st:St 0 s.heap)
  (hS:s.heap.get? S=some { cls:=.type "list",data:=.seq #[] c })
  (post:∀ v h' tk,(if 0<n then P (iy bt (n-1)) v else v=d)->(∀ b o,b∉wr->b≠S->s.heap.get? b=some o->h'.get? b=some o) ->
   R (.ok (.ret v)) { s with heap:=h',toks:=tk }) :
  fB (model prog w) A (.builtin "min.loop" ⟨[.ref it,.none,.ref S],[("default",d)]⟩) R s:=by
 have nw:S∉wr:=fun h=>nS (W.sub _ h)
 have nm:(toString "min" ++ toString ".loop" : String) = "min.loop" := by decide
 refine rG F.entry_min_loop ?_
 rw [vJ F.plain_min_loop _]
 refine aG (sS hS rfl ?_)
 rcases Hy n with e | e
 ·subst e
  refine aG (qO (W.done s _ _ st fun h1 tk1 kp=>?_))
  refine aG (ou ?_)
  exact bC (post d h1 tk1 rfl fun b o nb _ eb=>kp b o nb eb)
 ·refine aG (qO (W.item 0 s _ _ e st fun v h1 tk1 pv st1 kp=>?_))
  have hS1:=kp S _ nw hS
  refine aG (bC ?_)
  refine aG (sO hS1 rfl ?_)
  rw [nm]
  refine bC ⟨pK F.plain_min_loop _,aij W bt cm S nS _ (n-1) 0 _ v _ tb_g% (W.frame _ _ _ st1 fun b hb o eb=>?_) pv (Ag _ hS1 rfl) fun v2 h2 tk2 p2 k2=>?_⟩
  ·rw [oH _ _ (fun z:S=b=>nS (z ▸ hb))];exact eb
  ·exact post v2 h2 tk2 (by rw [if_pos (show 0<n from e)];exact p2) fun b o nb nbS eb=>k2 b o nb nbS (by
    rw [oH _ _ (aL nbS)];exact kp b o nb eb)
end
section
variable {prog:aO} {w:World} {A:bA} {E:Value->Shared->Prop} {s:Shared} {l:Addr} {xs:Array (Int × Tok)}
theorem abY (a d:Value):qT "min" ⟨[a],[("default",d)]⟩:=by unfold qT;kernel_rfl
theorem abZ {Q:Value->Shared->Prop} (d:Value) (hh:A.handled=none) (hl:s.heap.IsList l (mV xs))
  (post:∀ v h' tk,(if 0<xs.size then (mV xs)[iy (fun i j=>decide (numAt xs i<numAt xs j)) (xs.size-1)]? = some v else v=d) ->
   (∀ b o,s.heap.get? b=some o->h'.get? b=some o)->Q v { s with heap:=h',toks:=tk }) :
  wpAny (model prog w) A (call (.builtin "min") [.ref l] [("default",d)]) Q E s:=by
 have nm:(toString "min" ++ toString ".loop" : String) = "min.loop" := by decide
 have sz:(mV xs).size=xs.size:=by simp [mV]
 refine aaW F.kind_min F.plain_min F.entry_min (abY _ _) ?_
 refine aG (qP (show aeX "min" ["key","default"] 0 ⟨[],[("default",d)]⟩=pure [none,some d] from rfl) ?_)
 refine aG (bC ?_)
 refine aG (ac6 hl fun s2 e st hfp nlI=>?_)
 subst e
 refine aG (Ab ?_)
 rw [nm]
 refine bC ⟨pK F.plain_min_loop _,ZD (Ii (A:=A.in1) hh _ l nlI (mV xs)) _ (CmpOf.ints_lt (numAt xs) fun _ _=>NQ) _ (fun hm=>pP _ (hfp _ hm)) d ?_ (eO _ rfl) fun v h' tk hv kp=>?_⟩
 ·exact (Ii (A:=A.in1) (prog:=prog) (w:=w) hh _ l nlI (mV xs)).frame _ _ _ st fun b _ o e=>dN _ e
 ·rw [sz] at hv
  refine post v h' tk hv fun b o e=>kp b o ?_ ?_ (dN _ (dN _ e))
  ·intro hm
   have h1:=eZ.mp hm
   have h2:=bQ e
   rw [h1] at h2
   exact pP _ h2
  ·have h2:=bQ e
   rw [sY]
   exact cH (uF h2)
end
section
variable {prog:aO} {w:World} {A:bA} {R:jV->Shared->Prop} {it:Addr} {fp wr:List Addr} {n:Nat} {P:Nat->Value->Prop} {St:Nat->Heap->Prop}
theorem aik (W:Walks prog w A.in1 it fp wr n P St) (bt:Nat->Nat->Bool)
  (cm:CmpOf prog w A.in1 .Gt P bt) (S:Addr) (nS:S∉fp) (kw:List (Str × Value)) :
  ∀ (k j:Nat) (s:Shared) (u:Value) (c:Nat),k+(j+1)=n->St (j+1) s.heap->P (iy bt j) u ->
   s.heap.get? S=some { cls:=.type "list",data:=.seq #[u,u] c } ->
   (∀ v h' tk,P (iy bt (n-1)) v->(∀ b o,b∉wr->b≠S->s.heap.get? b=some o->h'.get? b=some o) ->
    R (.ok (.ret v)) { s with heap:=h',toks:=tk }) ->
   fB (model prog w) A (.builtin "max.loop" ⟨[.ref it,.none,.ref S],kw⟩) R s:=by
 have nw:S∉wr:=fun h=>nS (W.sub _ h)
 have nm:(toString "max" ++ toString ".loop" : String) = "max.loop" := by decide
 intro k
 induction k with
 | zero =>
  intro j s u c e st pu hS post
  have ej:j=n-1:=by lia
  have en:j+1=n:=by lia
  rw [ej] at pu
  rw [en] at st
  refine rG F.entry_max_loop ?_
  rw [vJ F.plain_max_loop _]
  refine aG (sS hS rfl ?_)
  refine aG (qO (W.done s _ _ st fun h1 tk1 kp=>?_))
  refine aG (sO (kp S _ nw hS) rfl (aG (sV (bC ?_))))
  exact post u _ tk1 pu fun b o nb nbS eb=>by
   rw [oH _ _ (aL nbS)];exact kp b o nb eb
 | succ k ih =>
  intro j s u c e st pu hS post
  refine rG F.entry_max_loop ?_
  rw [vJ F.plain_max_loop _]
  refine aG (sS hS rfl ?_)
  refine aG (qO (W.item (j+1) s _ _ tb_g% st fun v h1 tk1 pv st1 kp=>?_))
  have hS1:=kp S _ nw hS
  refine aG (bC ?_)
  refine aG (qO (jJ (aG (cm (j+1) (iy bt j) v u _ _ _ pv pu ?_))))
  refine aG (jJ (Gv (aG (sV (bC ?_)))))
  have ab:iy bt (j+1)=if bt (j+1) (iy bt j) then j+1 else iy bt j:=rfl
  cases hb:bt (j+1) (iy bt j) with
  | true =>
   rw [hb,if_pos rfl] at ab
   rw [if_pos rfl]
   refine aG (sO hS1 rfl (aG (sV ?_)))
   rw [nm]
   refine bC ⟨pK F.plain_max_loop _,ih (j+1) _ v _ tb_g% (W.frame _ _ _ st1 fun b hb o eb=>?_) (by rw [ab];exact pv) (Ag _ hS1 rfl) fun v2 h2 tk2 p2 k2=>?_⟩
   ·rw [oH _ _ (fun z:S=b=>nS (z ▸ hb))];exact eb
   ·exact post v2 h2 tk2 p2 fun b o nb nbS eb=>k2 b o nb nbS (by
     rw [oH _ _ (aL nbS)];exact kp b o nb eb)
  | false =>
   rw [hb,if_neg (by decide)] at ab
   rw [if_neg (by decide)]
   refine aG (sV ?_)
   rw [nm]
   refine bC ⟨pK F.plain_max_loop _,ih (j+1) _ u c tb_g% st1 (by rw [ab];exact pu) hS1 fun v2 h2 tk2 p2 k2=>?_⟩
   exact post v2 h2 tk2 p2 fun b o nb nbS eb=>k2 b o nb nbS (kp b o nb eb)
theorem ZF (W:Walks prog w A.in1 it fp wr n P St) (bt:Nat->Nat->Bool)
  (cm:CmpOf prog w A.in1 .Gt P bt) (S:Addr) (nS:S∉fp) (d:Value) {s:Shared} {c:Nat} (st:St 0 s.heap)
  (hS:s.heap.get? S=some { cls:=.type "list",data:=.seq #[] c })
  (post:∀ v h' tk,(if 0<n then P (iy bt (n-1)) v else v=d)->(∀ b o,b∉wr->b≠S->s.heap.get? b=some o->h'.get? b=some o) ->
   R (.ok (.ret v)) { s with heap:=h',toks:=tk }) :
  fB (model prog w) A (.builtin "max.loop" ⟨[.ref it,.none,.ref S],[("default",d)]⟩) R s:=by
 have nw:S∉wr:=fun h=>nS (W.sub _ h)
 have nm:(toString "max" ++ toString ".loop" : String) = "max.loop" := by decide
 refine rG F.entry_max_loop ?_
 rw [vJ F.plain_max_loop _]
 refine aG (sS hS rfl ?_)
 rcases Hy n with e | e
 ·subst e
  refine aG (qO (W.done s _ _ st fun h1 tk1 kp=>?_))
  refine aG (ou ?_)
  exact bC (post d h1 tk1 rfl fun b o nb _ eb=>kp b o nb eb)
 ·refine aG (qO (W.item 0 s _ _ e st fun v h1 tk1 pv st1 kp=>?_))
  have hS1:=kp S _ nw hS
  refine aG (bC ?_)
  refine aG (sO hS1 rfl ?_)
  rw [nm]
  refine bC ⟨pK F.plain_max_loop _,aik W bt cm S nS _ (n-1) 0 _ v _ tb_g% (W.frame _ _ _ st1 fun b hb o eb=>?_) pv (Ag _ hS1 rfl) fun v2 h2 tk2 p2 k2=>?_⟩
  ·rw [oH _ _ (fun z:S=b=>nS (z ▸ hb))];exact eb
  ·exact post v2 h2 tk2 (by rw [if_pos (show 0<n from e)];exact p2) fun b o nb nbS eb=>k2 b o nb nbS (by
    rw [oH _ _ (aL nbS)];exact kp b o nb eb)
end
section
variable {prog:aO} {w:World} {A:bA} {E:Value->Shared->Prop} {s:Shared} {l:Addr} {xs:Array (Int × Tok)}
theorem ab0 (a d:Value):qT "max" ⟨[a],[("default",d)]⟩:=by unfold qT;kernel_rfl
theorem ab1 {Q:Value->Shared->Prop} (d:Value) (hh:A.handled=none) (hl:s.heap.IsList l (mV xs))
  (post:∀ v h' tk,(if 0<xs.size then (mV xs)[iy (fun i j=>decide (numAt xs i>numAt xs j)) (xs.size-1)]? = some v else v=d) ->
   (∀ b o,s.heap.get? b=some o->h'.get? b=some o)->Q v { s with heap:=h',toks:=tk }) :
  wpAny (model prog w) A (call (.builtin "max") [.ref l] [("default",d)]) Q E s:=by
 have nm:(toString "max" ++ toString ".loop" : String) = "max.loop" := by decide
 have sz:(mV xs).size=xs.size:=by simp [mV]
 refine aaW F.kind_max F.plain_max F.entry_max (ab0 _ _) ?_
 refine aG (qP (show aeX "max" ["key","default"] 0 ⟨[],[("default",d)]⟩=pure [none,some d] from rfl) ?_)
 refine aG (bC ?_)
 refine aG (ac6 hl fun s2 e st hfp nlI=>?_)
 subst e
 refine aG (Ab ?_)
 rw [nm]
 refine bC ⟨pK F.plain_max_loop _,ZF (Ii (A:=A.in1) hh _ l nlI (mV xs)) _ (CmpOf.ints_gt (numAt xs) fun _ _=>NQ) _ (fun hm=>pP _ (hfp _ hm)) d ?_ (eO _ rfl) fun v h' tk hv kp=>?_⟩
 ·exact (Ii (A:=A.in1) (prog:=prog) (w:=w) hh _ l nlI (mV xs)).frame _ _ _ st fun b _ o e=>dN _ e
 ·rw [sz] at hv
  refine post v h' tk hv fun b o e=>kp b o ?_ ?_ (dN _ (dN _ e))
  ·intro hm
   have h1:=eZ.mp hm
   have h2:=bQ e
   rw [h1] at h2
   exact pP _ h2
  ·have h2:=bQ e
   rw [sY]
   exact cH (uF h2)
end
section
variable {X:Cx} {x:Str} {tl:TE} {px p kp pos:Pos} {j:Nat} {bpos:Pos}
noncomputable def Best (lo:Bool) (ns:List Int) (v:V):Prop:=(ns=[]/\v = .non)\/∃ m,v = .int m/\m∈ns/\∀ z∈ns,if lo then m<=z else z<=m
noncomputable def agx (K:aZ) (lo:Bool) (tl:TE):TE:=fun σ H Q=>tl σ H fun y H1=>∃ (a:Addr) (ns:List Int),y = .ref a/\SqL K H1 a (ns.map V.int)/\∀ v,Best lo ns v->Q v H1
theorem ail (hm0:X.mg "min" = none) (hl:PE X (.Name x px) tl) (hc:X.calm=true) (hg:Gl X "min" := by rfl) :
  PE X (.Call (.Name "min" p) [.Name x px] [⟨some "default",.Constant .none j bpos,kp⟩] pos) (agx X.K true tl):=by
 walk_at "l"
 refine Aa (oM I hg hm0 boot_min ?_)
 refine Wm (zm (thn (hl pins s σ H _ I h) fun v s1 ⟨y,H1,I1,r1,q1⟩=>?_))
 obtain ⟨a,ns,rfl,ha,q⟩:=q1
 obtain rfl:v=Value.ref a:=r1
 refine Dq (Ws ?_)
 refine Wf (kws_nil ?_)
 show wpAny _ _ (call (.builtin "min") [.ref a] [(vK "default",.none)]) _ _ _
 obtain ⟨its,rv,pl,hz⟩:=I1.list ha
 have hi:=intsAre_of rv
 have hl:=pl.isList
 obtain ⟨ys,e⟩:=hi.allInts.items
 have hns:ns=ys.toList.map (·.1):=by rw [<- hi.numsOf,<- UL,<- e]
 have hsz:ns.length=ys.size:=by rw [hns,bG,fW]
 rw [e] at hl
 refine abZ .none (I1.ok.hd hc) hl fun v h' tk hv hk=>?_
 rcases Hy ys.size with z | z
 ·rw [if_neg tb_g%] at hv
  subst hv
  exact ⟨.non,H1,I1.kept hk,rfl,q _ (.inl ⟨Ac.mp tb_g%,rfl⟩)⟩
 ·rw [if_pos z] at hv
  obtain ⟨t,rfl⟩:=NQ hv
  obtain ⟨h1,h2⟩:=argBest_lt (numAt ys) (ys.size-1)
  refine ⟨.int _,H1,I1.kept hk,⟨t,rfl⟩,q _ (.inr ⟨_,rfl,?_,fun b hb=>?_⟩)⟩
  ·rw [hns,Oa];exact getD_mem (by rw [bG,fW];lia)
  ·rw [hns] at hb
   obtain ⟨j,hj,rfl⟩:=mem_getD hb
   rw [bG,fW] at hj
   rw [if_pos rfl,<- Oa];exact h2 j tb_g%
theorem ain (hm0:X.mg "max" = none) (hl:PE X (.Name x px) tl) (hc:X.calm=true) (hg:Gl X "max" := by rfl) :
  PE X (.Call (.Name "max" p) [.Name x px] [⟨some "default",.Constant .none j bpos,kp⟩] pos) (agx X.K false tl):=by
 walk_at "l"
 refine Aa (oM I hg hm0 boot_max ?_)
 refine Wm (zm (thn (hl pins s σ H _ I h) fun v s1 ⟨y,H1,I1,r1,q1⟩=>?_))
 obtain ⟨a,ns,rfl,ha,q⟩:=q1
 obtain rfl:v=Value.ref a:=r1
 refine Dq (Ws ?_)
 refine Wf (kws_nil ?_)
 show wpAny _ _ (call (.builtin "max") [.ref a] [(vK "default",.none)]) _ _ _
 obtain ⟨its,rv,pl,hz⟩:=I1.list ha
 have hi:=intsAre_of rv
 have hl:=pl.isList
 obtain ⟨ys,e⟩:=hi.allInts.items
 have hns:ns=ys.toList.map (·.1):=by rw [<- hi.numsOf,<- UL,<- e]
 have hsz:ns.length=ys.size:=by rw [hns,bG,fW]
 rw [e] at hl
 refine ab1 .none (I1.ok.hd hc) hl fun v h' tk hv hk=>?_
 rcases Hy ys.size with z | z
 ·rw [if_neg tb_g%] at hv
  subst hv
  exact ⟨.non,H1,I1.kept hk,rfl,q _ (.inl ⟨Ac.mp tb_g%,rfl⟩)⟩
 ·rw [if_pos z] at hv
  obtain ⟨t,rfl⟩:=NQ hv
  obtain ⟨h1,h2⟩:=argBest_gt (numAt ys) (ys.size-1)
  refine ⟨.int _,H1,I1.kept hk,⟨t,rfl⟩,q _ (.inr ⟨_,rfl,?_,fun b hb=>?_⟩)⟩
  ·rw [hns,Oa];exact getD_mem (by rw [bG,fW];lia)
  ·rw [hns] at hb
   obtain ⟨j,hj,rfl⟩:=mem_getD hb
   rw [bG,fW] at hj
   rw [if_neg (by decide),<- Oa];exact h2 j tb_g%
end
variable {pins:List (Addr × Obj)} {s:Shared} {X:Cx} {H:Hp} {scope:Scope} {w:World} {caps:List Nat} {σ:St} {E:Value->Shared->Prop} {mg:Str->Option Value} {N ps:List Str} {R:jV->Shared->Prop} {items:Array Value} {P:aO} {k t' i:Nat} {C e D f B:Addr} {ifs elts:List Expr} {Q:Bool->Shared->Prop} {te:TE} {xs:List V} {A:bA} {tg iter:Expr} {x qual:Str} {ta:TA} {outer:List Env} {bmB:List Value} {base h:Heap} {g:TG} {ch fp:List Addr} {fd:FuncData} {tt:TT} {newId:String} {cd:Value} {st:Stmt} {tpos p:Pos} {sp:Sp} {o:HO}
theorem JC {K:aZ} {a:Addr} {Q:VK}
  (Pv:Nat->List V->Hp->Prop) (h0:Pv 0 [] (upd H D (.lst [])))
  (hl:∀ i ys H,i<=xs.length->Pv i ys H->SqT K H a xs/\H D=some (.lst ys)/\ys.length<sizeLine)
  (hs:∀ i ys H x,xs[i]? = some x->Pv i ys H->tt (lW σ (some x) caps) H fun b H2=>if b=true then te (lW σ (some x) caps) H2 fun y H3=>H3 D=some (.lst ys)/\Pv (i+1) (ys++[y]) (upd H3 D (.lst (ys++[y]))) else H2 D=some (.lst ys)/\Pv (i+1) ys H2)
  (hd:∀ ys H,Pv xs.length ys H->Q (.ref D) H)
  (mT:∀ σ H (R R':Bool->Hp->Prop),(∀ b H,R b H->R' b H)->tt σ H R->tt σ H R')
  (mE:∀ σ H (Q Q':VK),(∀ y H,Q y H->Q' y H)->te σ H Q->te σ H Q'):Bh (Itt K a) caps tt te σ D Q H:=by
 refine ⟨fun i m ys G=>m=xs.length-i/\i<=xs.length/\Pv i ys G,⟨xs.length,rfl,cY _,h0⟩,?_⟩
 rintro i m ys G ⟨rfl,hi,p⟩
 obtain ⟨sq,q,z⟩:=hl i ys G hi p
 refine ⟨q,?_⟩
 rcases jk i xs.length with lt | ge
 ·refine .inr ⟨⟨xs,xs[i],sq,fY lt⟩,z,fun x G' y=>?_⟩
  obtain ⟨rfl,y⟩:=y
  refine mT _ _ _ _ (fun b G2 hb=>?_) (hs i ys _ x (y xs sq) p)
  cases b with
  | true =>
   rw [if_pos rfl] at hb ⊢
   exact mE _ _ _ _ (fun y G3 ⟨a,b⟩=>⟨a,xs.length-(i+1),by lia,rfl,lt,b⟩) hb
  | false =>
   rw [if_neg (by decide)] at hb ⊢
   exact ⟨hb.1,xs.length-(i+1),by lia,rfl,lt,hb.2⟩
 ·obtain rfl:i=xs.length:=by lia
  exact .inl ⟨⟨xs,sq,bV _⟩,hd ys G p⟩
section
variable {e se:Expr} {lo hi:Option Expr} {tl th ts:TO} {p2 pos:Pos}
noncomputable def tR {α:Type} (xs:List α) (lo hi:Option Int):List α :=
 (sliceRange (jz lo hi (some 2) xs.length).1 (jz lo hi (some 2) xs.length).2.1 (jz lo hi (some 2) xs.length).2.2).filterMap (xs[·]?)
noncomputable def rSl2 (K:aZ):V->Option Int->Option Int->Hp->VK->Prop:=fun x lo hi H Q=>∃ a xs,x = .ref a/\SqL K H a xs/\∀ p,H p=none->Q (.ref p) (upd H p (.lst (tR xs lo hi)))
noncomputable def tSl2 (K:aZ) (te:TE) (tl th ts:TO):TE:=fun σ H Q=>te σ H fun x H1=>tl σ H1 fun l H2=>th σ H2 fun u H3=>ts σ H3 fun t H4=>t=some 2/\rSl2 K x l u H4 Q
theorem aio:∀ {xs:List V} {us:List Value},Vals xs us->∀ ks:List Nat,Vals (ks.filterMap (xs[·]?)) (ks.filterMap (us[·]?)):=by
 intro xs us r ks
 induction ks with
 | nil=>exact .nil
 | cons k ks ih =>
  rw [Ep,Ep]
  rcases jk k xs.length with h | h
  ·obtain ⟨u,eu,ru⟩:=r.get (fY h)
   rw [fY h,eu]
   exact .cons ru ih
  ·rw [rH h,rH (by rw [<- r.length];exact h)]
   exact ih
theorem agy {α:Type} (xs:List α) (lo hi:Option Int):(tR xs lo hi).length<=xs.length:=by
 have:=slicePick_size_le (Array.replicate xs.length Value.none) lo hi (some 2)
 rw [ad8] at this
 unfold GP at this
 rw [dI,ad8] at this
 refine jL (HF ?_) this
 unfold tR
 rw [ac7,ac7]
 apply List.countP_congr
 intro k _
 simp [Array.getElem?_replicate]
theorem ab2 (he:PE X e te) (hl:PO X lo tl) (hu:PO X hi th) (hs:PO X (some se) ts):PE X (.Subscript e (.Slice lo hi (some se) p2) pos) (tSl2 X.K te tl th ts):=by
 walk_at "l"
 refine Wq (thn (he pins s σ H _ I h) fun v s1 ⟨x,H1,I1,r1,q1⟩=>?_)
 refine wpAny_Slice (thn (hl pins s1 σ H1 _ I1 q1) fun vl s2 ⟨l,H2,I2,pl,q2⟩=>thn (hu pins s2 σ H2 _ I2 q2) fun vu s3 ⟨u,H3,I3,pu,q3⟩=>thn (hs pins s3 σ H3 _ I3 q3) fun vs s4 ⟨t,H4,I4,pt,q4⟩=>?_)
 obtain ⟨rfl,a,xs,rfl,hx,q⟩:=q4
 cases r1
 have I5:Inv X pins σ H4 { s4 with heap:=s4.heap.push { cls:=.type "slice",data:=.fields #[vl,vu,vs] } }:=I4.kept (t':=s4.toks) fun b ob q=>dN _ q
 obtain ⟨its,r,ht,hz⟩:=I5.list hx
 have hlen:=r.length
 show wpAny (model X.prog X.w) X.A (Pg e (.Slice lo hi (some se) p2) (.ref a) (.ref s4.heap.objs.size)) (EP X pins σ Q) X.xe { s4 with heap:=s4.heap.push { cls:=.type "slice",data:=.fields #[vl,vu,vs] } }
 refine tail_any (ops:=[.ref a,.ref s4.heap.objs.size]) ht.isList.typeIs Uv.lookup ?_ (by with_unfolding_all rfl)
 refine acE ht.isList (ae7 ..) pl pu pt (by simp) ?_ (by rw [dI];lia)
 have ec:GP its.toArray l u (some 2)=(tR its l u).toArray:=by
  unfold GP tR
  rw [dI]
  simp only [Vm]
 rw [ec]
 refine ⟨.ref _,_,I5.laid (t':=s4.toks) (o:=.lst (tR xs l u)) (fun b ob q=>dN _ q) (bV _) ?_,rfl,q _ (I5.hok.fresh (bV _))⟩
 refine ⟨jL (agy xs l u) hz,_,0,?_,eO _ rfl⟩
 unfold tR
 rw [<- hlen]
 exact aio r _
end
theorem ab3 {ns:List Int} {t:Int} (ht:t=0\/t=1):tR (ns.map V.int) (some t) (some ((ns.length:Int)-(ns.length:Int) % 2))=(RG.pick (decide (t=1)) ns).map V.int:=by
 have hp:∀ (ns:List Int) (o:Bool),RG.pick o ns=(oE (ns.length / 2)).filterMap fun k=>ns[(if o then 1 else 0)+2*k]?:=by
  intro ns o
  fun_induction RG.pick o ns with
  | case1 a b r ih =>
   have e:(a::b::r).length / 2=r.length / 2+1:=by simp only [iI];lia
   have sh:(fun k=>(a::b::r)[(if o=true then 1 else 0)+2*k]?) ∘ Nat.succ=fun k=>r[(if o=true then 1 else 0)+2*k]?:=by
    funext k
    show (a::b::r)[(if o=true then 1 else 0)+2*(k+1)]? = _
    rw [show (if o=true then 1 else 0)+2*(k+1)=(if o=true then 1 else 0)+2*k+1+1 by lia,Vi,Vi]
   rw [ih,e,List.range_succ_eq_map,Ep,adq,sh]
   cases o <;> rfl
  | case2 l h =>
   match l,h with
   | [],_=>rfl
   | [x],_=>simp
   | a::b::r,h=>exact absurd rfl (h a b r)
 unfold tR
 rw [hp,adp]
 have hn:(ns.map V.int).length=ns.length:=bG _
 rw [hn]
 have b1:(jz (some t) (some ((ns.length:Int)-(ns.length:Int) % 2)) (some 2) ns.length).1=min t ns.length:=by
  rcases ht with rfl | rfl <;> simp [jz] <;> lia
 have b2:(jz (some t) (some ((ns.length:Int)-(ns.length:Int) % 2)) (some 2) ns.length).2.1=(ns.length:Int)-(ns.length:Int) % 2:=by
  simp [jz];lia
 have b3:(jz (some t) (some ((ns.length:Int)-(ns.length:Int) % 2)) (some 2) ns.length).2.2=2:=rfl
 rw [b1,b2,b3]
 unfold sliceRange
 rw [adq]
 have cnt:(if (2:Int)>0 then (if min t ns.length<(ns.length:Int)-(ns.length:Int) % 2 then ((ns.length:Int)-(ns.length:Int) % 2-min t ns.length+2-1) / 2 else 0) else (if min t ns.length>(ns.length:Int)-(ns.length:Int) % 2 then (min t ns.length-((ns.length:Int)-(ns.length:Int) % 2)-2-1) / (-2) else 0)).toNat=ns.length / 2:=by
  rw [if_pos (by decide)]
  split
  ·rcases ht with rfl | rfl <;> lia
  ·rcases ht with rfl | rfl <;> lia
 rw [cnt]
 have fm:∀ (ks:List Nat) (f g:Nat->Option V),(∀ k∈ks,f k=g k)->ks.filterMap f=ks.filterMap g:=by
  intro ks f g
  induction ks with
  | nil=>intro _;rfl
  | cons k r ih =>
   intro h
   rw [Ep,Ep,h k cX,ih fun j hj=>h j (gF _ hj)]
 refine fm _ _ _ fun k hk=>?_
 have hk:=Oq.mp hk
 show (ns.map V.int)[(min t ns.length+2*(k:Int)).toNat]? = _
 have:(min t ns.length+2*(k:Int)).toNat=(if decide (t=1) then 1 else 0)+2*k:=by
  rcases ht with rfl | rfl
  ·simp;lia
  ·simp;lia
 rw [this,iR]
noncomputable def Itv (K:aZ) (a:Addr) (n:Nat):It :=
 ⟨fun i H=>∃ xs,SqL K H a xs/\xs.length=n/\i<n,fun i H x H'=>H'=H/\∀ xs,SqL K H a xs->xs[n-1-i]? = some x,fun i _=>n<=i⟩
theorem agz {K:aZ} (a it:Addr) (n:Nat):Turn P w K tg (Itv K a n) [it] it (fun i h=>i<=n/\h.IsRevIter it a ((n:Int)-1-i)) where
 mem:=by simp
 obj:=fun i h st b hb=>by
  have e:b=it:=by simpa using hb
  subst e
  obtain ⟨_,o,e,c,d⟩:=st
  exact ⟨o,e,fun v z=>by rw [d] at z;cases z⟩
 keep:=fun i h h' st k=>⟨st.1,st.2.at fun o e=>k it (by simp) o e⟩
 item:=by
  walk_at "h"
  subst hP hw hK
  obtain ⟨xs,hq,hn,hi⟩:=hg
  obtain ⟨its,rv,p,hz⟩:=I.list hq
  have hx:xs[n-1-i]? = some (xs[n-1-i]'tb_g%):=fY tb_g%
  obtain ⟨u,hu,ru⟩:=rv.get hx
  k_dat it "i"
  have st2:=st.2
  rw [show (n:Int)-1-i=((n-1-i:Nat):Int) by lia] at st2
  refine wpAny_pyNext_rev_item st2 p.isList (x:=u) (by simpa using hu) fun h' st' sb=>?_
  rw [show ((n-1-i:Nat):Int)-1=(n:Int)-1-((i+1:Nat):Int) by lia] at st'
  have I1:Inv X pins σ H { s with heap:=h' }:=I.turned (t':=s.toks) (fun b o hb e=>(sb.2 b hb).trans e) f0 f1 f3 f4 f5
  obtain ⟨o,e,c,d⟩:=id st'
  exact ⟨u,rfl,aat (s:={ s with heap:=h' }) e c d (by decide) ⟨_,H,I1,ru,⟨rfl,fun ys hy=>by rw [I.RW hy hq];exact hx⟩,⟨hi,st'⟩,fun b hb=>(hf b hb).1⟩⟩
 done:=by
  walk_at "h"
  subst hP hw hK
  have hle:n<=i:=hg
  have e:i=n:=Nat.le_antisymm st.1 hle
  subst e
  k_dat it "i"
  have st2:=st.2
  rw [show (i:Int)-1-i = -1 by lia] at st2
  exact wpAny_pyNext_rev_end (I.ok.hd hc) st2 fun h' eb=>⟨rfl,I.turned (t':=s.toks) (fun b o hb e=>eb b o hb e) f0 f1 f3 f4 f5⟩
 self:=fun _ _ _ _ _ st h=>Uu st.2 h
noncomputable def iRev (K:aZ) (ta:TA):TI:=fun σ H R=>ta σ H fun vs H1=>∃ a xs,vs=[.ref a]/\SqL K H1 a xs/\R (Itv K a xs.length) H1
theorem alM {a:Expr} {pos:Pos} (hg:Gl X "reversed") (hm:X.mg "reversed" = none) (ha:PA X [a] ta) (hs:cW [a] X.env=[(false,eval a X.env)]:=by rfl) :
  PI X tg (.Call (.Name "reversed" p) [a] [] pos) (iRev X.K ta):=by
 intro pins s σ H R I h
 refine Call_ (oM I hg hm aeu (Lp (thn (ha pos pins s σ H _ I h) fun us s1 ⟨vs,H1,I1,r1,q1⟩=>?_) hs rfl))
 obtain ⟨l,xs,e,hq,q⟩:=q1
 subst e
 obtain ⟨u,rfl,ru⟩:=vals1 r1
 cases ru
 obtain ⟨its,rv,pl,hz⟩:=I1.list hq
 have hlen:=rv.length
 refine acJ pl.isList ?_
 have el:((its.toArray.size:Nat):Int)-1=(xs.length:Int)-1-((0:Nat):Int):=by rw [dI];lia
 refine Uu ⟨_,eO _ rfl,rfl,rfl⟩ ⟨_,[s1.heap.objs.size],_,Itv X.K l xs.length,H1,rfl,I1.kept (t':=s1.toks) fun b o e=>dN _ e,agz l _ _,⟨cY _,_,eO _ rfl,rfl,by rw [<- el];rfl⟩,fun b hb=>?_,q⟩
 have e:b=s1.heap.objs.size:=by simpa using hb
 subst e
 exact I1.abr (bV _) (I1.hok.fresh (bV _))
theorem aip {K:aZ} {a:Addr} {tb:TS} {D:Ends} (Pv:Nat->St->Hp->Prop) (h0:Pv 0 σ H) (hl:∀ i σ H,i<=xs.length->Pv i σ H->SqL K H a xs)
  (hs:∀ i x σ H,xs.reverse[i]? = some x->Pv i σ H->g x σ H fun σ2 H2=>tb { D with nx:=Pv (i+1),ct:=Pv (i+1),bk:=D.nx } σ2 H2) (hd:∀ σ H,Pv xs.length σ H->D.nx σ H) :
  ∃ W:Nat->Nat->St->Hp->Prop,(∃ m,W 0 m σ H)/\∀ i m σ H,W i m σ H ->
   ((Itv K a xs.length).stop i H/\D.nx σ H)\/((Itv K a xs.length).go i H/\∃ N:St->Hp->Prop,(∀ σ' H',N σ' H'->∃ m',m'<m/\W (i+1) m' σ' H')/\∀ x H',(Itv K a xs.length).yld i H x H'->g x σ H' fun σ2 H2=>tb { D with nx:=N,ct:=N,bk:=D.nx } σ2 H2):=by
 refine ⟨fun i m σ H=>m=xs.length-i/\i<=xs.length/\Pv i σ H,⟨xs.length,by simp,cY _,h0⟩,?_⟩
 rintro i m σ H ⟨rfl,hi,p⟩
 have q:=hl i σ H hi p
 by_cases hlt:i<xs.length
 ·refine .inr ⟨⟨xs,q,rfl,hlt⟩,Pv (i+1),fun σ' H' p'=>⟨xs.length-(i+1),by lia,rfl,hlt,p'⟩,fun x H' y=>?_⟩
  obtain ⟨rfl,hx⟩:=y
  exact hs i x σ H' (by rw [adg hlt];exact hx xs q) p
 ·have e:i=xs.length:=by lia
  subst e
  exact .inl ⟨bV _,hd σ H p⟩
theorem ZG:NZ (.type "list_reverseiterator") "__len__" = pure none:=by rw [Nu,Nk];kernel_rfl
theorem agA:NZ (.type "list_reverseiterator") "__length_hint__" = pure (some (.builtin "list_reverseiterator.__length_hint__")):=by rw [Nu,Nk];kernel_rfl
section
variable {prog:aO} {r l:Addr}
theorem agB (ty:s.TypeIs (.ref r) "list_reverseiterator") (h:Q false s):wpAny (model prog w) A (Pz (.ref r)) Q E s:=by
 unfold Pz
 refine aG (Nt ty ZG ?_)
 wp_delta
 refine sI (fun q=>absurd q (by decide)) fun _=>?_
 refine sI (fun q=>absurd q (by decide)) fun _=>?_
 refine aG (Nt ty agA ?_)
 generalize hid:("list_reverseiterator.__length_hint__" : String)=nm
 wp_delta
 rw [show splitId nm=some ("list_reverseiterator","__length_hint__") from by rw [<- hid];decide +kernel]
 subst hid
 refine aG (Nr (T := "list_reverseiterator") (b:=true) ty (by rw [Nx];kernel_rfl) ?_)
 refine sI (fun q=>absurd q (by decide)) fun _=>?_
 refine sI (fun _=>?_) fun q=>absurd tb_g% q
 refine sI (fun q=>absurd q tb_g%) fun _=>?_
 exact bC h
noncomputable def Behind (items:Array Value) (i:Nat) (v:Value):Prop:=items[items.size-1-i]? = some v
theorem agC (hh:A.handled=none) (hr:s.heap.IsRevIter r l ((items.size:Int)-1)) (hl:s.heap.IsList l items) (hrl:l≠r) (S:Addr) (n1:S≠r) (n2:S≠l) (res:Value) (c:Nat)
  (hS:s.heap.get? S=some { cls:=.type "list",data:=.seq #[] c }) (hz:items.size<=sizeLine)
  (hR:∀ h' tk acc d,(∀ b o,b≠S->b≠r->s.heap.get? b=some o->h'.get? b=some o)->h'.get? S=some { cls:=.type "list",dict:=none,data:=.seq acc d,slots:=#[] }->ItemsOf (Behind items) acc items.size->R (.ok (.ret res)) { s with heap:=h',toks:=tk }) :
  wpAny (model prog w) A.in1 (Lq (.ref S) (.ref r) res) (fun fin t=>match fin with | .done f=>R (.ok f) t | .again k=>k.quiet=true/\fB (model prog w) A k R t) (fun e t=>R (.error e) t) s:=by
 have W:=Walks.listRev (prog:=prog) (w:=w) (A:=A.in1) hh r l hrl items
 have away:S∉[r,l]:=by
  simp only [bN,jK,or_false,not_or]
  exact ⟨n1,n2⟩
 unfold Lq
 refine aG (U3 (T := "list_reverseiterator") hr.typeIs ?_)
 have e1:PB (.ref S) (.ref r)=false:=by simp [PB,n1]
 have e2:(Value.type "list_reverseiterator" == Value.type "list")=false:=by decide
 have e3:(Value.type "list_reverseiterator" == Value.type "tuple")=false:=by decide
 simp only [e1,e2,e3,Bool.or_false,za,if_false]
 refine aG (Uu hr ?_)
 refine aG (jJ (agB hr.typeIs ?_))
 refine sI (fun q=>absurd q (by decide)) fun _=>bC ⟨pK PySem.F.plain_extend_loop _,?_⟩
 refine acH W.toS hz S away res items.size 0 _ #[] c rfl (cY _) ⟨cY _,by simpa using hr,hl⟩ hS (afl _) fun t acc d hm hS2 hacc=>?_
 rw [Moved.eq_with hm]
 refine hR t.heap t.toks acc d (fun b o hb hb2 e=>hm.heap b o (fun m=>?_) e) hS2 hacc
 rcases bN.mp m with q | q
 ·exact hb q
 ·exact hb2 (eZ.mp q)
theorem agD (hh:A.handled=none) (hr:s.heap.IsRevIter r l ((items.size:Int)-1)) (hl:s.heap.IsList l items) (hrl:l≠r) (S:Addr) (n1:S≠r) (n2:S≠l)
  (hS:s.heap.get? S=some { cls:=.type "list",data:=.seq #[] }) (hz:items.size<=sizeLine)
  (hR:∀ h' tk acc d,(∀ b o,b≠S->b≠r->s.heap.get? b=some o->h'.get? b=some o)->h'.get? S=some { cls:=.type "list",dict:=none,data:=.seq acc d,slots:=#[] }->ItemsOf (Behind items) acc items.size->R (.ok (.ret .none)) { s with heap:=h',toks:=tk }) :
  wpAny (model prog w) A.in1 (dW.«list.__init__» ⟨[.ref S,.ref r],[]⟩) (fun fin t=>match fin with | .done f=>R (.ok f) t | .again k=>k.quiet=true/\fB (model prog w) A k R t) (fun e t=>R (.error e) t) s:=by
 show wpAny _ _ (do let was <- aeN (.ref S);aj9 (.ref S) (fun _=>#[]);letGo was.toList.reverse;Lq (.ref S) (.ref r) .none) _ _ s
 refine aG ?_
 unfold aeN
 refine aG (sS hS rfl (bC ?_))
 show wpAny _ _ (Vg S (fun _=>#[]) >>= fun _=>letGo (#[]:Array Value).toList.reverse >>= fun _=>Lq (.ref S) (.ref r) Value.none) _ _ s
 refine aG (sO hS rfl ?_)
 have hS2:=Ag (jo (fun _=>(#[]:Array Value))) hS rfl
 have rest:∀ b o,b≠S->s.heap.get? b=some o->(s.heap.update S (jo (fun _=>(#[]:Array Value)))).get? b=some o:=fun b o n e=>(oH _ _ (aL n)).trans e
 refine aG (sV ?_)
 refine agC hh (hr.at fun o e=>rest r o (aL n1) e) (hl.at fun o e=>rest l o (aL n2) e) hrl S n1 n2 .none _ hS2 hz fun h' tk acc d hk hS3 hacc=>?_
 exact hR h' tk acc d (fun b o n m e=>hk b o n m (rest b o n e)) hS3 hacc
theorem agE {Q:Value->Shared->Prop} (hh:A.handled=none) (hr:s.heap.IsRevIter r l ((items.size:Int)-1)) (hl:s.heap.IsList l items) (hrl:l≠r) (hz:items.size<=sizeLine)
  (hQ:∀ h' tk acc d,(∀ b o,b≠r->s.heap.get? b=some o->h'.get? b=some o)->h'.get? s.heap.objs.size=some { cls:=.type "list",dict:=none,data:=.seq acc d,slots:=#[] }->ItemsOf (Behind items) acc items.size->Q (.ref s.heap.objs.size) { s with heap:=h',toks:=tk }) :
  wpAny (model prog w) A (call (.type "list") [.ref r]) Q E s:=by
 refine callType_codes (Q₁:=fun o t=>o = .ref s.heap.objs.size/\t={ s with heap:=s.heap.push { cls:=.type "list",data:=.seq #[] } }) PySem.F.called_list (PySem.F.typeCall_list_1 _) PySem.F.entry_list_init (code_list_new _ ⟨rfl,rfl⟩) fun o t ht=>?_
 obtain ⟨rfl,rfl⟩:=ht
 have hS:(s.heap.push { cls:=.type "list",data:=.seq #[] }).get? s.heap.objs.size=some { cls:=.type "list",data:=.seq #[] }:=eO _ rfl
 obtain ⟨o1,g1,_⟩:=id hr
 obtain ⟨o2,g2,_⟩:=id hl
 refine ⟨⟨_,hS,rfl⟩,PySem.F.args_list_init_2 _ _,agD (A:=A.in1) hh (hr.at fun o e=>dN _ e) (hl.at fun o e=>dN _ e) hrl _ (tu (bQ g1)) (tu (bQ g2)) hS hz fun h' tk acc d hk hS2 hacc=>?_⟩
 exact ⟨rfl,hQ h' tk acc d (fun b o n e=>hk b o (cH (bQ e)) n (dN _ e)) hS2 hacc⟩
theorem aaX:∀ {xs:List V} {us:List Value},us.length=xs.length->(∀ (j:Nat) (x:V) (u:Value),xs[j]? = some x->us[j]? = some u->RelV x u)->Vals xs us
 | [],[],_,_=>.nil
 | [],_::_,h,_=>by cases h
 | _::_,[],h,_=>by cases h
 | x::xs,u::us,h,k=>.cons (k 0 x u rfl rfl) (aaX (by simpa using h) fun j y v hy hv=>k (j+1) y v (by simpa using hy) (by simpa using hv))
end
section
variable {l:Expr} {tl:TE} {p' pos pos':Pos}
noncomputable def agF (K:aZ) (ta:TA):TE:=fun σ H Q=>ta σ H fun vs H1=>∃ a xs,vs=[.ref a]/\SqL K H1 a xs/\∀ q,H1 q=none->Q (.ref q) (upd H1 q (.lst xs.reverse))
theorem ZJ (hm0:X.mg "list" = none) (hm1:X.mg "reversed" = none) (ha:PA X [l] ta) (hc:X.calm=true) (hg0:Gl X "list" := by rfl) (hg1:Gl X "reversed" := by rfl)
  (he:cW [.Call (.Name "reversed" p') [l] [] pos'] X.env=[(false,eval (.Call (.Name "reversed" p') [l] [] pos') X.env)]:=by rfl) (hs:cW [l] X.env=[(false,eval l X.env)]:=by rfl) :
  PE X (.Call (.Name "list" p) [.Call (.Name "reversed" p') [l] [] pos'] [] pos) (agF X.K ta):=by
 walk_at "l"
 refine Call_ (oM I hg0 hm0 boot_list (Lp ?_ he rfl))
 rw [he]
 refine zm (Call_ (oM I hg1 hm1 aeu (Lp (thn (ha pos' pins s σ H _ I h) fun us s1 ⟨vs,H1,I1,r1,q1⟩=>?_) hs rfl)))
 obtain ⟨a,xs,e,hq,q⟩:=q1
 subst e
 obtain ⟨u,rfl,ru⟩:=vals1 r1
 cases ru
 obtain ⟨its,rv,pl,hz⟩:=I1.list hq
 have hlen:=rv.length
 refine acJ pl.isList (Dq ?_)
 show wpAny _ _ (call (.type "list") [.ref s1.heap.objs.size]) _ _ _
 have hla:a≠s1.heap.objs.size:=by
  obtain ⟨o,g,_⟩:=pl.isList
  exact cH (bQ g)
 refine agE (items:=its.toArray) (I1.ok.hd hc) ⟨_,eO _ rfl,rfl,rfl⟩ (pl.isList.at fun o e=>dN _ e) hla (by rw [dI];lia) fun h' tk acc d hk hS hacc=>?_
 have kp:∀ b o,s1.heap.get? b=some o->h'.get? b=some o:=fun b o e=>hk b o (cH (bQ e)) (dN _ e)
 have hsz:(s1.heap.push (revObj a ((its.toArray.size:Int)-1))).objs.size=s1.heap.objs.size+1:=HS _ _
 have rr:Vals xs.reverse acc.toList:=aaX (by rw [fW,hacc.1,dI,yM];lia) fun j x u hx hu=>by
  have hj:j<xs.length:=by
   have:=(jB.mp hx).1
   rwa [yM] at this
  rw [adg hj] at hx
  have hb:Behind its.toArray j u:=hacc.2 j u (by rw [<- iU];exact hu)
  unfold Behind at hb
  rw [dI,<- hlen] at hb
  obtain ⟨v,hv,rvv⟩:=rv.get hx
  have:u=v:=cI (hb.symm.trans (by simpa using hv))
  rw [this];exact rvv
 refine ⟨.ref _,_,I1.laid (a:=(s1.heap.push (revObj a ((its.toArray.size:Int)-1))).objs.size) (o:=.lst xs.reverse) (t':=tk) kp (by rw [hsz];exact lM _) ?_,rfl,q _ (I1.hok.fresh (by rw [hsz];exact lM _))⟩
 exact ⟨by rw [yM];lia,acc.toList,d,rr,by first | (rw [ad6];exact hS) | simpa using hS⟩
end
section
variable {h':Heap}
theorem Inv.ab4 {t:Addr} (I:Inv X pins σ H s) (k:∀ b u,b∉ch->s.heap.get? b=some u->h'.get? b=some u) (hf:∀ b∈ch,xq X pins H b) (ht:s.heap.objs.size<=t)
  (new:dh X.prog X.w (upd H t o) h' t o):Inv X pins σ (upd H t o) { s with heap:=h',toks:=t' }:=by
 have nit:∀ b u,H b=some u->b∉ch:=fun b u e z=>by rw [(hf b z).1] at e;cases e
 have ntt:H t=none:=I.hok.fresh ht
 have lt:∀ b u,s.heap.get? b=some u->b≠t:=fun b u e=>cH (f9 (bQ e) ht)
 refine I.step (g':=s.gens) (d':=s.drawn) (ch:=ch) (fun b hb=>⟨(hf b hb).2.2.2.1,(hf b hb).2.1,(hf b hb).2.2.2.2.1,(hf b hb).2.2.2.2.2⟩) (fun b o _ _ hc e _=>k b o hc e) (fun b o _ _ hc e _=>⟨o.slots,k b o hc e⟩) (fun b u _ e n=>by rw [au (lt b u e)];exact n)
  (fun b o hc e=>⟨o,k b o hc e⟩) (fun b xs e=>by rw [au (ak e ntt)];exact e) (fun b q u e=>by rw [au (ak e ntt)];exact e) (fun b ps e=>⟨#[],by rw [au (ak e ntt),e];simp⟩) (fun m hm=>?_) (fun b u e=>?_) I.bare
 ·obtain ⟨o,es,ep,ho,r⟩:=hm
  exact ⟨o,es,ep,k _ o (fun z=>(hf _ z).2.1 rfl) ho,r⟩
 ·by_cases hb:b=t
  ·subst hb;rw [ao] at e;cases e;exact new
  ·rw [au hb] at e
   refine (I.hok b u e).stay (fun c v hc q=>k c v ?_ q) (fun c q=>by rw [au (ak q ntt)];exact q) fun c xs q=>by rw [au (ak q ntt)];exact q
   rcases hc with z | z
   ·rw [z];exact nit b u e
   ·exact nit c _ z
theorem Inv.aiq (I:Inv X pins σ H s) (k:∀ b u,b∉ch->s.heap.get? b=some u->h'.get? b=some u) (hf:∀ b∈ch,xq X pins H b):Inv X pins σ H { s with heap:=h',toks:=t' }:=by
 have nit:∀ b u,H b=some u->b∉ch:=fun b u e z=>by rw [(hf b z).1] at e;cases e
 refine I.step (g':=s.gens) (d':=s.drawn) (ch:=ch) (fun b hb=>⟨(hf b hb).2.2.2.1,(hf b hb).2.1,(hf b hb).2.2.2.2.1,(hf b hb).2.2.2.2.2⟩) (fun b o _ _ hc e _=>k b o hc e) (fun b o _ _ hc e _=>⟨o.slots,k b o hc e⟩) (fun b u _ _ n=>n)
  (fun b o hc e=>⟨o,k b o hc e⟩) (fun _ _ e=>e) (fun _ _ _ e=>e) (fun b ps e=>⟨#[],by rw [e];simp⟩) (fun m hm=>?_) (fun b u e=>?_) I.bare
 ·obtain ⟨o,es,ep,ho,r⟩:=hm
  exact ⟨o,es,ep,k _ o (fun z=>(hf _ z).2.1 rfl) ho,r⟩
 ·refine (I.hok b u e).stay (fun c v hc q=>k c v ?_ q) (fun _ q=>q) fun _ _ q=>q
  rcases hc with z | z
  ·rw [z];exact nit b u e
  ·exact nit c _ z
end
noncomputable def Itz (a b:Addr):It :=
 ⟨fun i H=>∃ xs ys,H a=some (.lst xs)/\H b=some (.lst ys)/\i<xs.length/\i<ys.length,
  fun i H x H'=>∃ t u v xs ys,H a=some (.lst xs)/\H b=some (.lst ys)/\xs[i]? = some u/\ys[i]? = some v/\H t=none/\x = .ref t/\H'=upd H t (.tup [u,v]),
  fun i H=>∃ xs ys,H a=some (.lst xs)/\H b=some (.lst ys)/\(xs.length<=i\/ys.length<=i)⟩
theorem ajp {c z TI TO i1 i2:Addr} (h:c∈[z,TO,i1,i2]):c∈[z,TI,TO,i1,i2]:=by
 simp only [bN,jK,or_false] at h ⊢
 rcases h with h | h | h | h <;> simp [h]
structure Z5 (z TI TO i1 i2:Addr):Prop where
 a:TI≠z
 b:TO≠z
 c:i1≠z
 d:i2≠z
 e:TI≠TO
 f:TI≠i1
 g:TI≠i2
 h:TO≠i1
 i:TO≠i2
 j:i1≠i2
theorem Z5.apart {z TI TO i1 i2 a b:Addr} (k:Z5 z TI TO i1 i2) {ys:List V} (ha:H a=some (.lst xs)) (hb:H b=some (.lst ys)) (f:∀ c∈[z,TI,TO,i1,i2],H c=none):ZipApart z TI TO i1 i2 a b :=
 ⟨k.a,k.b,k.c,k.d,k.e,k.f,k.g,k.h,k.i,k.j,ak ha (f z (by simp)),ak ha (f TO (by simp)),ak ha (f i1 (by simp)),ak ha (f i2 (by simp)),ak hb (f z (by simp)),ak hb (f TO (by simp)),ak hb (f i1 (by simp)),ak hb (f i2 (by simp))⟩
theorem z5_of (n:Nat):Z5 (n+4) (n+2) (n+3) n (n+1) :=
 ⟨(show ¬ (n+2:Nat)=n+4 by lia),(show ¬ (n+3:Nat)=n+4 by lia),(show ¬ (n:Nat)=n+4 by lia),(show ¬ (n+1:Nat)=n+4 by lia),(show ¬ (n+2:Nat)=n+3 by lia),(show ¬ (n+2:Nat)=n by lia),(show ¬ (n+2:Nat)=n+1 by lia),(show ¬ (n+3:Nat)=n by lia),(show ¬ (n+3:Nat)=n+1 by lia),(show ¬ (n:Nat)=n+1 by lia)⟩
theorem agG {K:aZ} {x1} (a b z TI TO i1 i2:Addr) (k5:Z5 z TI TO i1 i2) :
  Turn P w K (.Tuple elts x1 tpos) (Itz a b) [z,TI,TO,i1,i2] z (fun i h=>IsZip h z TI TO .none/\IsPair h TI (.ref i1) (.ref i2)/\(∃ u v,IsPair h TO u v)/\h.IsListIter i1 a i/\h.IsListIter i2 b i) where
 mem:=by simp
 obj:=fun i h st c hc=>by
  obtain ⟨hz,hTI,⟨u,v,hTO⟩,⟨o1,h1,_,d1⟩,⟨o2,h2,_,d2⟩⟩:=st
  simp only [bN,jK,or_false] at hc
  rcases hc with rfl | rfl | rfl | rfl | rfl
  ·exact ⟨_,hz,fun v z=>by cases z⟩
  ·exact ⟨_,hTI,fun v z=>by cases z⟩
  ·exact ⟨_,hTO,fun v z=>by cases z⟩
  ·exact ⟨_,h1,fun v z=>by rw [d1] at z;cases z⟩
  ·exact ⟨_,h2,fun v z=>by rw [d2] at z;cases z⟩
 keep:=fun i h h' st k=>by
  obtain ⟨hz,hTI,⟨u,v,hTO⟩,⟨o1,h1,r1⟩,⟨o2,h2,r2⟩⟩:=st
  exact ⟨k z (by simp) _ hz,k TI (by simp) _ hTI,⟨u,v,k TO (by simp) _ hTO⟩,⟨o1,k i1 (by simp) _ h1,r1⟩,⟨o2,k i2 (by simp) _ h2,r2⟩⟩
 item:=by
  walk_at "h"
  subst hP hw hK
  obtain ⟨hz,hTI,⟨pa,pb,hTO⟩,h1,h2⟩:=st
  obtain ⟨xs,ys,ea,eb,li,lj⟩:=hg
  obtain ⟨_,us,n,rv,_,gl⟩:=I.Qq ea
  obtain ⟨_,vs,m,rw',_,gr⟩:=I.Qq eb
  have ex:xs[i]? = some xs[i]:=fY li
  have ey:ys[i]? = some ys[i]:=fY lj
  obtain ⟨u,hu,ru⟩:=rv.get ex
  obtain ⟨v,hv,rv'⟩:=rw'.get ey
  have D:=k5.apart ea eb fun c hc=>(hf c hc).1
  refine wpAny_pyNext_zip_item D hz hTI hTO h1 h2 ⟨_,gl,rfl,n,rfl⟩ ⟨_,gr,rfl,m,rfl⟩ (by simpa using hu) (by simpa using hv) fun h' a1 a2 a3 a4 a5 a6 hk=>?_
  have nt:H s.heap.objs.size=none:=I.hok.fresh (bV _)
  have hf4:∀ c∈[z,TO,i1,i2],xq X pins H c:=fun c hc=>hf c (ajp hc)
  have I1:Inv X pins σ (upd H s.heap.objs.size (.tup [xs[i],ys[i]])) { s with heap:=h' }:=I.ab4 (t':=s.toks) (ch:=[z,TO,i1,i2])
   (fun c o hc e=>hk c o (fun q=>hc (by simp [q])) (fun q=>hc (by simp [q])) (fun q=>hc (by simp [q])) (fun q=>hc (by simp [q])) e) hf4 (bV _)
   ⟨by show 2<=sizeLine;decide,[u,v],.cons ru (.cons rv' .nil),⟨_,a5,rfl,_,rfl⟩⟩
  have lts:∀ c∈[z,TI,TO,i1,i2],c≠s.heap.objs.size:=fun c hc=>by
   have:∃ o,s.heap.get? c=some o:=by
    obtain ⟨o1,g1,_⟩:=h1
    obtain ⟨o2,g2,_⟩:=h2
    simp only [bN,jK,or_false] at hc
    rcases hc with rfl | rfl | rfl | rfl | rfl
    ·exact ⟨_,hz⟩
    ·exact ⟨_,hTI⟩
    ·exact ⟨_,hTO⟩
    ·exact ⟨_,g1⟩
    ·exact ⟨_,g2⟩
   obtain ⟨o,e⟩:=this
   exact cH (bQ e)
  have fr1:∀ c∈[z,TI,TO,i1,i2],(upd H s.heap.objs.size (.tup [xs[i],ys[i]])) c=none:=fun c hc=>by rw [au (lts c hc)];exact (hf c hc).1
  refine ⟨.ref s.heap.objs.size,rfl,wpAny_letOwnedTupleGo_zip a1 fun h2' hz' hs'=>?_⟩
  k_dat z "i"
  refine ⟨.ref s.heap.objs.size,_,I1.turned (t':=s.toks) (fun c ob hb q=>(hs'.2 c hb).trans q) (fr1 z (by simp)) f1 f3 f4 f5,rfl,⟨_,_,_,xs,ys,ea,eb,ex,ey,nt,rfl,rfl⟩,⟨hz',?_,⟨u,v,?_⟩,?_,?_⟩,fr1⟩
  ·exact (hs'.2 TI k5.a).trans (hk TI _ k5.a k5.e k5.f k5.g hTI)
  ·exact (hs'.2 TO k5.b).trans a2
  ·obtain ⟨o,e,r⟩:=a3;exact ⟨o,(hs'.2 i1 k5.c).trans e,r⟩
  ·obtain ⟨o,e,r⟩:=a4;exact ⟨o,(hs'.2 i2 k5.d).trans e,r⟩
 done:=by
  walk_at "h"
  subst hP hw hK
  obtain ⟨hz,hTI,⟨pa,pb,hTO⟩,h1,h2⟩:=st
  obtain ⟨xs,ys,ea,eb,le⟩:=hg
  obtain ⟨_,us,n,rv,el,gl⟩:=I.Qq ea
  obtain ⟨_,vs,m,rw',er,gr⟩:=I.Qq eb
  have D:=k5.apart ea eb fun c hc=>(hf c hc).1
  have hend:us.toArray[i]? = none\/vs.toArray[i]? = none:=by
   rcases le with z | z
   ·exact .inl (ad5 (by rw [dI,<- el];exact z))
   ·exact .inr (ad5 (by rw [dI,<- er];exact z))
  refine wpAny_pyNext_zip_end (I.ok.hd hc) D hz hTI hTO h1 h2 ⟨_,gl,rfl,n,rfl⟩ ⟨_,gr,rfl,m,rfl⟩ hend fun h' hk=>⟨rfl,?_⟩
  exact I.aiq (t':=s.toks) (ch:=[z,TO,i1,i2]) (fun c o hc e=>hk c o (fun q=>hc (by simp [q])) (fun q=>hc (by simp [q])) (fun q=>hc (by simp [q])) (fun q=>hc (by simp [q])) e)
   (fun c hc=>hf c (ajp hc))
 self:=fun A i s Q E st h=>acO st.1 h
noncomputable def iZip (ta:TA):TI:=fun σ H R=>ta σ H fun vs H1=>∃ a b xs ys,vs=[.ref a,.ref b]/\H1 a=some (.lst xs)/\H1 b=some (.lst ys)/\R (Itz a b) H1
theorem alN {a b:Expr} {x1} {pos:Pos} (hg:Gl X "zip") (hm:X.mg "zip" = none) (ha:PA X [a,b] ta) (hs:cW [a,b] X.env=[(false,eval a X.env),(false,eval b X.env)]:=by rfl)
  (hs2:cW [b] X.env=[(false,eval b X.env)]:=by rfl):PI X (.Tuple elts x1 tpos) (.Call (.Name "zip" p) [a,b] [] pos) (iZip ta):=by
 intro pins s σ H R I h
 refine Call_ (oM I hg hm boot_zip (Lp (thn (ha pos pins s σ H _ I h) fun us s1 ⟨vs,H1,I1,r1,q1⟩=>?_) (by rw [hs,hs2]) (by rw [hs2];rfl)))
 obtain ⟨l1,l2,xs,ys,e,e1,e2,q⟩:=q1
 subst e
 cases r1 with
 | cons r rr =>
  cases rr with
  | cons r' rr =>
   cases rr
   cases r
   cases r'
   obtain ⟨_,us,n,rv,_,gl⟩:=I1.Qq e1
   obtain ⟨_,vs,m,rw',_,gr⟩:=I1.Qq e2
   refine call_zip_2 (xs:=us.toArray) (ys:=vs.toArray) ⟨_,gl,rfl,n,rfl⟩ ⟨_,gr,rfl,m,rfl⟩ fun h' z1 z2 z3 z4 z5 z6 hk=>?_
   refine acO z1 ⟨_,[s1.heap.objs.size+4,s1.heap.objs.size+2,s1.heap.objs.size+3,s1.heap.objs.size,s1.heap.objs.size+1],_,Itz l1 l2,H1,rfl,I1.kept (t':=s1.toks) hk,
    agG l1 l2 (s1.heap.objs.size+4) (s1.heap.objs.size+2) (s1.heap.objs.size+3) s1.heap.objs.size (s1.heap.objs.size+1) (z5_of _),⟨z1,z2,⟨_,_,z3⟩,z4,z5⟩,fun c hc=>?_,q⟩
   have hle:s1.heap.objs.size<=c:=by
    simp only [bN,jK,or_false] at hc
    rcases hc with rfl | rfl | rfl | rfl | rfl <;> lia
   exact I1.abr hle (I1.hok.fresh hle)
noncomputable def nP (σ:St) (zs:List (Option V)) (caps:List Nat):St:=zs++caps.map fun j=>(σ[j]?).join
noncomputable def JD (J:It) (g:TG) (k:Nat) (caps:List Nat) (tt:TT) (te:TE) (σ:St) (D:Addr) (Q:VK) (H1:Hp):Prop:=∃ W:Nat->Nat->List V->Hp->Prop,(∃ m,W 0 m [] (upd H1 D (.lst [])))/\∀ i m ys H,W i m ys H ->
 H D=some (.lst ys)/\((J.stop i H/\Q (.ref D) H)\/(J.go i H/\ys.length<sizeLine/\∀ x H',J.yld i H x H'->∀ zs:List (Option V),zs.length=k->g x (nP σ zs caps) H' fun σ2 H2=>(∃ zs':List (Option V),zs'.length=k/\σ2=nP σ zs' caps)/\tt σ2 H2 fun b H3=>if b=true then
  te σ2 H3 fun y H4=>H4 D=some (.lst ys)/\∃ m',m'<m/\W (i+1) m' (ys++[y]) (upd H4 D (.lst (ys++[y])))
  else H3 D=some (.lst ys)/\∃ m',m'<m/\W (i+1) m' ys H3))
noncomputable def alO (wi:TI) (g:TG) (k:Nat) (caps:List Nat) (tt:TT) (te:TE):TE:=fun σ H Q=>wi σ H fun J H1=>∀ D,H1 D=none->JD J g k caps tt te σ D Q H1
theorem Inv.compT {cl:List (Str × Addr)} {h4:Heap} {tk:Nat} (I:Inv X pins σ H s) (hkind:scope.kind = .function) (hsub:Jj X.env.cells cl)
  (hhas:∀ y,((gw scope X.env).names.lookup y=some .cell\/(gw scope X.env).names.lookup y=some .free)->∃ c,cl.lookup y=some c) (hf:∀ b∈fp,xq X pins H b) (hfo:∀ b∈fp,∃ o,s.heap.get? b=some o)
  (hlen:N.length=k+caps.length) (hcap:∀ (i:Nat) (j:Nat),caps[i]? = some j->Bg X N scope cl (i+k) j) (hD:s.heap.objs.size<=D) (hC:s.heap.objs.size<=C) (hDC:C≠D)
  (hk:∀ b o,s.heap.get? b=some o->h4.get? b=some o) (hlist:∃ n,h4.get? D=some { cls:=.type "list",data:=.seq #[] n }) (hns:∃ m,h4.Ns C m) :
  Inv (dD X N scope cl s H fp C) (X.pn++pins) (nP σ (Hs k none) caps) (upd H D (.lst [])) { s with heap:=h4,toks:=tk }:=by
 have hnD:H D=none:=I.hok.fresh hD
 have hnC:H C=none:=I.hok.fresh hC
 have lt:∀ b o,s.heap.get? b=some o->b≠D/\b≠C:=fun b o e=>⟨cH (f9 (bQ e) hD),cH (f9 (bQ e) hC)⟩
 have nst:∀ b,b≠X.env.locals->b∉X.fs->b∉frs X.stack:=fun b h1 h2 z=>by
  rcases bN.mp (I.zx b z) with e | e
  ·exact h1 e
  ·exact h2 e
 refine ⟨⟨I.ok.mod,hkind,I.ok.glob,I.ok.blt,hC,fun x y c h1 h2=>I.ok.inj x y c (hsub.of h1) (hsub.of h2),fun y hy=>hhas y hy,fun y c h=>(nomatch h),I.ok.hd,I.ok.frames,.inl rfl,fun b hb=>?_,I.bs,jL I.ok.bsz I.sz,fun b o e hb=>?_,fun b hb=>?_,I.stack,I.Al⟩,
  rfl,I.bare,Un.laid hk hD hnD,?_,fun y c e=>?_,?_,fun y c e=>?_,fun p hp=>?_,?_,?_⟩
 ·obtain ⟨o,e⟩:=hfo b hb
  exact ⟨(lt b o e).2,fun x c q=>(hf b hb).2.2.2.2.1 x c (hsub.of q)⟩
 ·rcases (hf b hb).2.2.2.1 with z | z
  ·exact I.ok.RV b o e z
  ·exact absurd (f9 (bQ e) I.ok.bsz) (O7.mpr z)
 ·exact nst b (hf b hb).2.1 (hf b hb).2.2.1
 ·obtain ⟨m,hm⟩:=hns
  obtain ⟨m0,_,hl⟩:=I.loc
  refine ⟨m,hm,fun i y v h1 h2 h3=>?_⟩
  have h2a:(Hs k (none:Option V)++caps.map fun j=>(σ[j]?).join)[i]? = some (some v):=h2
  by_cases hik:i<k
  ·rw [Eo (by rw [CT];exact hik),ada,if_pos hik] at h2a
   cases h2a
  ·rw [xK (by rw [CT];lia),CT] at h2a
   obtain ⟨i',rfl⟩:∃ i',i=i'+k:=⟨i-k,by lia⟩
   rw [Nat.add_sub_cancel] at h2a
   have h2':=h2a
   rw [iR] at h2'
   cases ec:caps[i']? with
   | none=>rw [ec] at h2';cases h2'
   | some j =>
    rw [ec] at h2'
    have QC:(σ[j]?).join=some v:=cI h2'
    have e2:σ[j]? = some (some v):=by
     cases q:σ[j]? with
     | none=>rw [q] at QC;cases QC
     | some z=>rw [q] at QC;exact congrArg some QC
    obtain ⟨y',c,n1,n2,k1,k2,lc⟩:=(hcap i' j ec).ok
    have ey:y=y':=by
     have h1':N[i'+k]? = some y:=h1
     rw [n1] at h1';exact (cI h1').symm
    subst ey
    have vis:Vis X.env.scope y:=k1.elim (fun z=>.inr (.inl z)) fun z=>.inr (.inr z)
    obtain ⟨u,ru,lk⟩:=hl j y v n2 e2 vis
    refine ⟨u,ru,.inr ⟨k2,c,lc,?_⟩⟩
    rcases lk with ⟨z,_⟩ | ⟨_,c',lc',ic⟩
    ·rcases k1 with k1 | k1 <;> (rw [z] at k1;cases k1)
    ·rw [hsub.of lc] at lc'
     cases lc'
     obtain ⟨o,ho,hd⟩:=ic
     exact ⟨o,hk c o ho,hd⟩
 ·obtain ⟨v,o,ho,hd⟩:=I.cell y c (hsub.of e)
  exact ⟨v,o,hk c o ho,hd⟩
 ·show (upd H D (.lst [])) C=none
  rw [au hDC];exact hnC
 ·have n:=I.nH y c (hsub.of e)
  obtain ⟨v,o,ho,hd⟩:=I.cell y c (hsub.of e)
  rw [au (lt c o ho).1];exact n
 ·have hp':p∈X.pn++pins:=hp
  obtain ⟨e,n,ne,nf,d⟩:=I.pin p hp'
  exact ⟨hk _ _ e,by rw [au (lt _ _ e).1];exact n,(lt _ _ e).2,nst _ ne nf,d⟩
 ·obtain ⟨n,e⟩:=hlist
  exact I.hok.laid hk hD ⟨cY _,[],n,.nil,e⟩
 ·show (nP σ (Hs k none) caps).length=N.length
  unfold nP
  rw [dH,CT,bG,hlen]
section
variable {B:bA}
noncomputable def agH (P:aO) (w:World) (B:bA) (R:jV->Shared->Prop) (elt tg:Expr) (ifs:List Expr) (it acc:Value) (en:Env) (J:Nat->Shared->Prop) (n:Nat):Option Value->Shared->Prop
 | none,t1=>R (.ok .next) t1
 | some v,t1 =>
  let X:=notedBy (model P w) B en fun e t=>R (.error e) t
  wpAny (model P w) B (Gz tg it v) (fun _ t2=>wpAny (model P w) B (qR tg en v) (fun _ t3 =>
   wpAny (model P w) B (forIn ifs true fun c r=>if r=true then do let yes <- GZ c en (eval c en);pure (ForInStep.yield yes) else pure (ForInStep.yield r)) (fun yes t4 =>
    if yes=true then wpAny (model P w) B (eval elt en) (fun x t5=>wpAny (model P w) B (call (.builtin "list.append") [acc,x]) (fun _ t6=>∃ m,m<n/\J m t6) X t5) X t4
    else ∃ m,m<n/\J m t4) X t3) X t2) X t1
theorem ZL {elt:Expr} {pos:Pos} {it acc:Value} {en:Env} (J:Nat->Shared->Prop)
  (owe:∀ n t,J n t->wpAny (model P w) B (lJ it) (agH P w B R elt tg ifs it acc en J n) (notedBy (model P w) B en fun e t'=>R (.error e) t') t) (n:Nat) (h:J n s) :
  fB (model P w) B (.compLoop (.ListComp elt [⟨tg,iter,ifs,0⟩] scope pos) 0 it acc en) R s:=by
 have same:∀ {X:Value->Shared->Prop} (a:Value) (b:Shared),X a b->X a b:=fun _ _ h=>h
 refine codeAny_loop rfl J (fun n t hJ=>?_) n h
 show wpAny _ B ((compTurn (.ListComp elt [⟨tg,iter,ifs,0⟩] scope pos) 0 it acc en).onRaise (fun x=>do noteFrame x en;theTreesLotGoes x)) _ _ t
 refine wpAny_noted ?_
 rw [compTurn_list]
 refine aG (UJ (aG (eF (owe n t hJ) (fun r t1 h1=>?_) same)))
 cases r with
 | none=>exact bC h1
 | some v =>
  refine aG (eF h1 (fun _ t2 h2=>aG (eF h2 (fun _ t3 h3=>aG (eF h3 (fun yes t4 h4=>?_) same)) same)) same)
  cases yes with
  | false=>exact bC ⟨rfl,h4⟩
  | true=>exact aG (aG (eF h4 (fun x t5 h5=>aG (eF h5 (fun _ t6 h6=>bC (bC ⟨rfl,h6⟩)) same)) same))
end
theorem Tp {elt:Expr} {pos:Pos} {cl:List (Str × Addr)} {H2:Hp} {s2:Shared} {Q:VK} {it:Addr} {tn:Nat->Heap->Prop} {J:It}
  {RR:Value->Addr->jV->Shared->Prop} {E:Value->Shared->Prop} (hc:X.calm=true)
  (hcell:∀ y∈scope.names,y.2 ≠ .cell) (hkind:scope.kind = .function) (hsub:Jj X.env.cells cl)
  (hhas:∀ y,((gw scope X.env).names.lookup y=some .cell\/(gw scope X.env).names.lookup y=some .free)->∃ c,cl.lookup y=some c)
  (hg:∀ s H fp C,PG (dD X N scope cl s H fp C) tg g) (hlen:N.length=k+caps.length) (hcap:∀ (i:Nat) (j:Nat),caps[i]? = some j->Bg X N scope cl (i+k) j)
  (ht:∀ s H fp C,PTs (dD X N scope cl s H fp C) ifs tt) (he:∀ s H fp C,PE (dD X N scope cl s H fp C) elt te)
  (I2:Inv X pins σ H2 s2) (T:Turn X.prog X.w X.K tg J fp it tn) (st2:tn 0 s2.heap) (f2:∀ b∈fp,xq X pins H2 b) (w2:∀ D,H2 D=none->JD J g k caps tt te σ D Q H2)
  (hRR:∀ D C σ' H' s5,s2.heap.objs.size<=C->Inv (dD X N scope cl s2 H2 fp C) (X.pn++pins) σ' H' s5->Q (.ref D) H'->RR (.ref D) C (.ok .next) s5) :
  wpAny (model X.prog X.w) X.A (Oc []) (fun acc s₃=>wpAny (model X.prog X.w) X.A (acS scope X.env.globals cl [] X.env.qual none .none (some X.env)) (fun cenv s₄ =>
   fB (model X.prog X.w) X.A (.compStart (.ListComp elt [⟨tg,iter,ifs,0⟩] scope pos) 0 (.ref it) acc { cenv with scope:=gw scope X.env }) (RR acc cenv.locals) s₄) E s₃) E s2:=by
 refine Ab (acG hcell (by intro y hy;simp at hy) (fun h₁ hns₁ hsb₁=>?_) hkind)
 dsimp only at hns₁ hsb₁ ⊢
 generalize hH2:s2.heap.push { cls:=.type "list",dict:=none,data:=.seq ([]:List Value).toArray }=G2 at hns₁ hsb₁ ⊢
 have hC:G2.objs.size=s2.heap.objs.size+1:=by rw [<- hH2,sY]
 have hCle:s2.heap.objs.size<=G2.objs.size:=by rw [hC];exact lM _
 have hDC:G2.objs.size≠s2.heap.objs.size:=by rw [hC];exact tu (yS _)
 have old:∀ b o,s2.heap.get? b=some o->h₁.get? b=some o:=fun b o e =>
  hsb₁.extBut b o (by rw [hC];exact cH (uF (bQ e))) (dN _ (hH2 ▸ dN _ e))
 have hacc:∃ n,h₁.get? s2.heap.objs.size=some { cls:=.type "list",data:=.seq #[] n }:=⟨_,hsb₁.extBut _ _ (aL hDC) (dN _ (hH2 ▸ eO _ rfl))⟩
 have hnD:H2 s2.heap.objs.size=none:=I2.hok.fresh (bV _)
 obtain ⟨W,⟨m0,w0⟩,turn⟩:=w2 s2.heap.objs.size hnD
 have fo:∀ b∈fp,∃ o,s2.heap.get? b=some o:=fun b hb=>by
  obtain ⟨o,e,_⟩:=T.obj _ _ st2 b hb
  exact ⟨o,e⟩
 have I3:Inv (dD X N scope cl s2 H2 fp G2.objs.size) (X.pn++pins) (nP σ (Hs k none) caps) (upd H2 s2.heap.objs.size (.lst [])) { s2 with heap:=h₁,toks:=s2.toks+([]:List (Str × Value)).length } :=
  I2.compT hkind hsub hhas f2 fo hlen hcap (bV _) hCle hDC old hacc ⟨_,hns₁⟩
 have st3:tn 0 h₁:=T.keep _ _ _ st2 fun b _ o e=>old b o e
 have nf:∀ b∈fp,b≠s2.heap.objs.size:=fun b hb=>by
  obtain ⟨o,e⟩:=fo b hb
  exact cH (bQ e)
 have stat:∀ {H':Hp},(∀ b∈fp,H' b=none)->∀ b∈fp,xq (dD X N scope cl s2 H2 fp G2.objs.size) (X.pn++pins) H' b:=fun {H'} hn b hb=>by
  obtain ⟨f0,f1,f2',f3,f4,f5⟩:=f2 b hb
  obtain ⟨o,e⟩:=fo b hb
  refine ⟨hn b hb,cH (f9 (bQ e) hCle),fun z=>?_,.inl hb,fun y c q=>f4 y c (hsub.of q),fun p hp=>f5 p hp⟩
  rcases bN.mp (I2.zx b z) with q | q
  ·exact f1 q
  ·exact f2' q
 have loop:fB (model X.prog X.w) X.A (.compLoop (.ListComp elt [⟨tg,iter,ifs,0⟩] scope pos) 0 (.ref it) (.ref s2.heap.objs.size) (N8 scope cl G2.objs.size X.env))
   (RR (.ref s2.heap.objs.size) G2.objs.size) { s2 with heap:=h₁,toks:=s2.toks+([]:List (Str × Value)).length }:=by
  refine ZL (fun n s'=>∃ i ys σ' H',Inv (dD X N scope cl s2 H2 fp G2.objs.size) (X.pn++pins) σ' H' s'/\(∃ zs:List (Option V),zs.length=k/\σ'=nP σ zs caps)/\tn i s'.heap/\(∀ b∈fp,H' b=none)/\W i n ys H') ?_ m0
   ⟨0,[],_,_,I3,⟨_,CT,rfl⟩,st3,fun b hb=>by rw [au (nf b hb)];exact (f2 b hb).1,w0⟩
  rintro n s' ⟨i,ys,σ',H',I',⟨zs,hzs,rfl⟩,st',fr',w'⟩
  obtain ⟨hl,ends⟩:=turn i n ys H' w'
  rcases ends with ⟨stop,q⟩ | ⟨go,hsz,step⟩
  ·refine eF (T.done (dD X N scope cl s2 H2 fp G2.objs.size) rfl rfl rfl hc i _ s' _ H' (fun _ _=>False) I' (stat fr') st' stop) (fun r s5 ⟨hr,I5⟩=>?_) fun _ _ f=>f.elim
   subst hr
   exact hRR _ _ _ _ _ hCle I5 q
  ·refine eF (T.item (dD X N scope cl s2 H2 fp G2.objs.size) rfl rfl rfl hc i _ s' _ H' (fun _ _=>False) I' (stat fr') st' go) (fun r s5 ⟨u,hr,h5⟩=>?_) fun _ _ f=>f.elim
   subst hr
   refine eF h5 (fun _ s6 ⟨y,H6,I6,r6,y6,st6,fr6⟩=>?_) fun _ _ f=>f.elim
   have I6':=I6.pinned (stat fr6) (T.obj _ _ st6)
   have again:∀ {σ7:St} {H7:Hp} {s7:Shared},Inv (dD X N scope cl s2 H2 fp G2.objs.size) ((X.pn++pins)++Dw fp s6.heap) σ7 H7 s7->tn (i+1) s7.heap/\∀ b∈fp,H7 b=none:=fun {σ7 H7 s7} I7=>by
    refine ⟨T.keep _ _ _ st6 fun b hb o e=>(I7.pin (b,o) (pN _ (pN _ (lU hb e)))).1,fun b hb=>?_⟩
    obtain ⟨o,e,d⟩:=T.obj _ _ st6 b hb
    exact (I7.pin (b,o) (pN _ (pN _ (lU hb e)))).2.1
   refine eF (hg s2 H2 fp G2.objs.size _ s6 _ H6 y u _ I6' r6 (step y H6 y6 zs hzs)) (fun _ s7 ⟨σ7,H7,I7,⟨zs7,hz7,e7⟩,q7⟩=>?_) fun _ _ f=>f.elim
   subst e7
   refine eF (ht s2 H2 fp G2.objs.size _ s7 _ _ _ I7 q7) (fun ok s8 ⟨H8,I8,q8⟩=>?_) fun _ _ f=>f.elim
   cases ok with
   | false =>
    obtain ⟨_,m',hm,w8⟩:=q8
    have a8:=again I8
    exact ⟨m',hm,i+1,ys,_,H8,I8.oN,⟨zs7,hz7,rfl⟩,a8.1,a8.2,w8⟩
   | true =>
    refine eF (he s2 H2 fp G2.objs.size _ s8 _ _ _ I8 q8) (fun x9 s9 ⟨y9,H9,I9,r9,l9,m',hm,w9⟩=>?_) fun _ _ f=>f.elim
    refine eF (cM (X:=dD X N scope cl s2 H2 fp G2.objs.size) _ s9 _ H9 (.ref s2.heap.objs.size) [y9] _ [x9] (fun _ H10=>H10=upd H9 s2.heap.objs.size (.lst (ys++[y9]))) I9 rfl (.cons r9 .nil) ⟨_,ys,y9,rfl,rfl,l9,hsz,rfl⟩) (fun _ s10 ⟨_,H10,I10,_,e10⟩=>?_) fun _ _ f=>f.elim
    subst e10
    have a10:=again I10
    exact ⟨m',hm,i+1,ys++[y9],_,_,I10.oN,⟨zs7,hz7,rfl⟩,a10.1,a10.2,w9⟩
 exact acF loop (T.self _ 0 _ _ _ st3 loop)
theorem agI {elt:Expr} {pos:Pos} {cl:List (Str × Addr)} {wi:TI} (hc:X.calm=true) (hclos:U9 scope X.env=pure cl)
  (hcell:∀ y∈scope.names,y.2 ≠ .cell) (hkind:scope.kind = .function) (hnames:∀ y∈scope.names,y.2 = .local->scope.names.lookup y.1=some .local) (hsub:Jj X.env.cells cl)
  (hhas:∀ y,((gw scope X.env).names.lookup y=some .cell\/(gw scope X.env).names.lookup y=some .free)->∃ c,cl.lookup y=some c)
  (hg:∀ s H fp C,PG (dD X N scope cl s H fp C) tg g) (hlen:N.length=k+caps.length) (hcap:∀ (i:Nat) (j:Nat),caps[i]? = some j->Bg X N scope cl (i+k) j)
  (hi:PI X tg iter wi) (ht:∀ s H fp C,PTs (dD X N scope cl s H fp C) ifs tt) (he:∀ s H fp C,PE (dD X N scope cl s H fp C) elt te)
  (hs:∀ x,Gx iter X.env x=pure x:=by intro _;rfl):PE X (.ListComp elt [⟨tg,iter,ifs,0⟩] scope pos) (alO wi g k caps tt te):=by
 walk_at "l"
 rw [ac1]
 refine Ut (use:=none) rfl hs hclos hkind hnames (thn (hi pins s σ H _ I h) fun v s1 h1=>thn h1 fun itv s2 h2=>?_)
 obtain ⟨it,fp,tn,J,H2,e,I2,T,st2,f2,w2⟩:=h2
 subst e
 exact Tp hc hcell hkind hsub hhas hg hlen hcap ht he I2 T st2 f2 w2 fun D C σ' H' s5 hC I5 q=>by
  obtain ⟨m,hm,_⟩:=I5.loc
  exact ⟨m,hm,fun h' hs'=>⟨.ref D,H',I2.Zf f2 hC I5 hs',rfl,q⟩⟩
theorem ab5 {a b:Addr} {ys:List V} {Q:VK} (Pv:Nat->List V->Hp->Prop) (h0:Pv 0 [] (upd H D (.lst [])))
  (hl:∀ i zs H,Pv i zs H->H a=some (.lst xs)/\H b=some (.lst ys)/\H D=some (.lst zs)/\zs.length<sizeLine)
  (hs:∀ i zs H x y t (ws:List (Option V)),xs[i]? = some x->ys[i]? = some y->Pv i zs H->H t=none->ws.length=k->g (.ref t) (nP σ ws caps) (upd H t (.tup [x,y])) fun σ2 H2=>(∃ ws':List (Option V),ws'.length=k/\σ2=nP σ ws' caps)/\te σ2 H2 fun u H4=>H4 D=some (.lst zs)/\Pv (i+1) (zs++[u]) (upd H4 D (.lst (zs++[u]))))
  (hd:∀ zs H,Pv (min xs.length ys.length) zs H->Q (.ref D) H)
  (monoG:∀ x σ H (R R':St->Hp->Prop),(∀ σ H,R σ H->R' σ H)->g x σ H R->g x σ H R')
  (mono:∀ σ H (Q Q':VK),(∀ y H,Q y H->Q' y H)->te σ H Q->te σ H Q') :
  JD (Itz a b) g k caps Bj te σ D Q H:=by
 refine ⟨fun i m zs H=>m=min xs.length ys.length-i/\i<=min xs.length ys.length/\Pv i zs H,⟨min xs.length ys.length,by simp,cY _,h0⟩,?_⟩
 rintro i m zs H ⟨rfl,hi,p⟩
 obtain ⟨qa,qb,qd,hz⟩:=hl i zs H p
 refine ⟨qd,?_⟩
 by_cases hlt:i<min xs.length ys.length
 ·refine .inr ⟨⟨xs,ys,qa,qb,by lia,by lia⟩,hz,fun x H' y ws hw=>?_⟩
  obtain ⟨t,u,v,xs',ys',ea,eb,ex,ey,ht,rfl,rfl⟩:=y
  rw [qa] at ea;cases ea
  rw [qb] at eb;cases eb
  refine monoG _ _ _ _ _ (fun σ2 H2 h2=>⟨h2.1,?_⟩) (hs i zs H u v t ws ex ey p ht hw)
  unfold Bj
  dsimp only
  rw [if_pos rfl]
  exact mono _ _ _ _ (fun y H3 ⟨a,b⟩=>⟨a,min xs.length ys.length-(i+1),by lia,rfl,hlt,b⟩) h2.2
 ·have e:i=min xs.length ys.length:=by lia
  subst e
  exact .inl ⟨⟨xs,ys,qa,qb,by lia⟩,hd zs H p⟩
structure Fly (g:Heap) (H:Hp) (h:Heap) (e C T:Addr) (fl:Value):Prop where
 ue:H e=none
 uT:H T=none
 ge:g.get? e=none
 gT:g.get? T=none
 tr:∃ oe vs oT ts a0,h.get? e=some oe/\(oe.cls = .ref C/\vs[0]? = some a0)/\oe.data = .fields vs/\vs[1]? = some (.ref T)/\T≠e/\h.get? T=some oT/\oT.data = .fields ts/\ts[3]? = some fl
noncomputable abbrev Bare (h:Heap) (l:List Env) (hid:List Addr):Heap:=adO h (frs l++hid)
section
variable {g h':Heap} {H0:Hp} {l:List Env} {fs hid:List Addr} {T:Addr} {a0 fl:Value}
theorem vY (ff:h.FunFrames base l):h.FunFrames (Bare h l hid) l :=
 PySem.W.funFrames_hide ff fun env he _ hf=>Vn _ (Vs.mpr ⟨env,he,hf⟩)
theorem QH (u:Un fs [] H0 H g h) (hok:HOk P w H h) (ff:h.FunFrames base l) (free:∀ b∈frs l,H b=none) (sub:∀ b∈frs l,b∈fs\/g.get? b=none)
  (hh:∀ b∈hid,H b=none/\g.get? b=none) (ue:H e=none) (ge:g.get? e=none) (st:(Bare h l hid).StaysIn h') (up:h.UpToSlots h') (tr:h'.TracedAtW (Bare h l hid) e (.ref C) a0 fl) :
  Un fs [] H0 H g h'/\HOk P w H h'/\∃ T,Fly g H h' e C T fl:=by
 have keep:∀ b o,h.get? b=some o->b∉frs l->b∉hid->h'.get? b=some o:=fun b o q n1 n2=>st b o (VH _ q fun m=>(d9.mp m).elim n1 n2)
 have slot:∀ b,b∈frs l->∀ o,h.get? b=some o->∃ sl,h'.get? b=some { o with slots:=sl }:=fun b hb o q=>by
  obtain ⟨_,o',q',nf⟩:=ff.mem hb
  rw [q] at q';cases q'
  exact up b o q nf
 have nog:∀ {b:Addr} {o:Obj},g.get? b=some o->b∉hid:=fun q z=>by rw [(hh _ z).2] at q;cases q
 have tracked:∀ b v o,H b=some v->h.get? b=some o->h'.get? b=some o:=fun b v o q r =>
  keep b o r (fun z=>by rw [free b z] at q;cases q) fun z=>by rw [(hh b z).1] at q;cases q
 refine ⟨⟨fun b o q n hb hx=>?_,fun b o q n hb hx=>?_,u.free,fun b o q hx=>?_,u.tups,u.uX,u.zq⟩,fun b v q=>?_,?_⟩
 ·refine keep b o (u.keep b o q n hb hx) (fun z=>?_) (nog q)
  rcases sub b z with z | z
  ·exact hb z
  ·rw [z] at q;cases q
 ·obtain ⟨sl,r⟩:=u.slot b o q n hb hx
  by_cases z:b∈frs l
  ·obtain ⟨sl',r'⟩:=slot b z _ r
   exact ⟨sl',r'⟩
  ·exact ⟨sl,keep b _ r z (nog q)⟩
 ·obtain ⟨o',r⟩:=u.there b o q hx
  by_cases z:b∈frs l
  ·obtain ⟨sl',r'⟩:=slot b z _ r
   exact ⟨_,r'⟩
  ·exact ⟨o',keep b _ r z (nog q)⟩
 ·refine (hok b v q).stay (fun c o hc r=>?_) (fun _ r=>r) fun _ _ r=>r
  rcases hc with rfl | hc
  ·exact tracked c v o q r
  ·exact tracked c _ o hc r
 ·obtain ⟨oe,vs,T,oT,ts,q1,q2,q3,q4,q5,q6,q7,q8,q9⟩:=tr
  have ajq:∀ o,h.get? T=some o->T∈hid:=fun o r=>by
   by_cases z:T∈frs l
   ·obtain ⟨_,o',q',nf⟩:=ff.mem z
    rw [r] at q';cases q'
    obtain ⟨sl,r'⟩:=slot T z o r
    rw [q7] at r';cases r'
    exact absurd q8 (nf ts)
   ·by_cases z':T∈hid
    ·exact z'
    ·have k:=VH (frs l++hid) r fun m=>(d9.mp m).elim z z'
     rw [q5] at k;cases k
  refine ⟨T,ue,?_,ge,?_,oe,vs,oT,ts,a0,q1,q2,q3,q4,q6,q7,q8,q9⟩
  ·cases r:H T with
   | none=>rfl
   | some v =>
    obtain ⟨o,r'⟩:=(hok T v r).ex
    rw [(hh T (ajq o r')).1] at r;cases r
  ·cases r:g.get? T with
   | none=>rfl
   | some o =>
    obtain ⟨o',r'⟩:=u.there T o r (by simp)
    rw [(hh T (ajq o' r')).2] at r;cases r
theorem Fly.traced (x:Fly g H h e C T fl):∃ a0,h.TracedAtW (Bare h l [e,T]) e (.ref C) a0 fl:=by
 obtain ⟨oe,vs,oT,ts,a0,q1,q2,q3,q4,q6,q7,q8,q9⟩:=x.tr
 exact ⟨a0,oe,vs,T,oT,ts,q1,q2,q3,q4,Ov _ (by simp),q6,q7,q8,q9⟩
theorem Fly.flying (x:Fly g H h e C T .none) (ff:h.FunFrames base l):∃ a0,Heap.FlyingW (Bare h l [e,T]) l e (.ref C) a0 h:=by
 obtain ⟨a0,tr⟩:=x.traced (l:=l)
 exact ⟨a0,fun b o q=>Ox _ q,Ov _ (by simp),vY ff,tr⟩
theorem Fly.held {L:Addr} (x:Fly g H h e C T (mW L)) (ff:h.FunFrames base l):∃ a0,Heap.HeldW (Bare h l [e,T]) l e (.ref C) a0 L h:=by
 obtain ⟨a0,tr⟩:=x.traced (l:=l)
 exact ⟨a0,fun b o q=>Ox _ q,Ov _ (by simp),vY ff,tr⟩
theorem Fly.hidden (x:Fly g H h e C T fl):∀ b∈[e,T],H b=none/\g.get? b=none:=fun b hb=>by
 rcases bN.mp hb with rfl | hb
 ·exact ⟨x.ue,x.ge⟩
 ·have z:b=T:=by simpa using hb
  subst z;exact ⟨x.uT,x.gT⟩
end
noncomputable def CXE (P:aO) (w:World):CXT:=fun outer H s E ev s'=>∃ e C T H',ev = .ref e/\s'.os=s.os/\qW s'.gens/\Un (frs outer) [] H H' s.heap s'.heap/\HOk P w H' s'.heap/\Fly s.heap H' s'.heap e C T .none/\E (.ref C) none H'
theorem iG :Passes (CXE P w) X E0:=fun _ _ _ _ _ _ _ ⟨_,_,_,_,_,_,_,_,_,_,z⟩=>z.elim
section
variable {K:aZ} {E:XK}
theorem Fun.okE (F:Fun K x qual st f fd) (S:aP N ps (aH st)) (len:∀ vs H Q E,sp vs H Q E->vs.length=ps.length)
  (hbody:∀ (cdv:Value) (A:bA) (outer:List Env) (s:Shared) (H:Hp) (vs:List V) (Q:VK) (E:XK),jE k (A.deeper (lO qual (aH st) s.heap.objs.size f cdv))->sp vs H Q E ->
   ∃ t,PSs (Av (CXE P w) P w K mg base N qual (aH st) f cdv A outer s H E) (jg st) t/\t { nx:=fun _ H'=>Q .non H',rt:=Q } (start N vs) H):cP P w K mg base (CXE P w) (k+1) f fd ps sp:=by
 obtain ⟨oc,od,kV,doc,pm,an,cdv,ct,osl,rfl,lk,hcd⟩:=F.ex
 exact aje lk hcd S len fun A outer s H vs Q E hr hsp=>hbody cdv A outer s H vs Q E hr hsp
end
theorem PS.nox {t:TS} (h:PS X.nox st t):PS X st t:=fun pins s σ H D I hw =>
 eF (h pins s σ H D (I.wish _) hw) (fun _ _ q=>q.lR) fun _ _ z=>j8 z
theorem alP {K:aZ} (kin:K.In h) (hm:mg x=some (.ref C)) (q:Hw K C bmB newId=true):OwnCls x C bmB newId mg h:=by
 refine ⟨hm,?_⟩
 simp only [Hw] at q
 split at q
 case h_2=>cases q
 case h_1 ho =>
  rename_i dd cl sl
  split at q
  case h_2=>cases q
  case h_1 hm' hs =>
   rename_i C' bm k0 k1 k2 k3 n k5
   simp only [HY,beq_iff_eq,Wt] at q
   obtain ⟨⟨⟨⟨⟨e1,e2⟩,e3⟩,e4⟩,e5⟩,e6⟩:=q
   subst e1;subst e2
   cases cl with
   | mk nm bs mro ns qn hd sn sub ab col del =>
    simp only at hm' e3 e5 e6
    subst hm';subst e3
    have es:sl = #[k0,k1,k2,k3,some (.builtin n),k5]:=by cases sl with | mk ls=>simp only at hs;rw [hs]
    subst es
    exact ⟨bm,ns,nm,qn,bs,hd,sn,sub,ab,col,dd,k0,k1,k2,k3,k5,h.nsMap ns,kin _ _ ho,.of_isNs (PySem.W.isNs_of_in kin e5),PySem.W.nsMap_none_of_in kin e5 e6,PySem.W.tail_of_in kin e4⟩
noncomputable def alQ (ta:TA) (E:XK) (C:Addr):TS:=fun _ σ H=>ta σ H fun vs H1=>vs.length<=sizeLine/\E (.ref C) none H1
section
variable {K:aZ} {E:XK}
theorem rT {e₀:Expr} {rest:List Expr} {np cpos pos:Pos} {B initId:String} (FB:ExcBaseFacts B newId initId bmB) (q:Hw K C bmB newId=true)
  (hg:Gl (Av (CXE P w) P w K mg base N qual scope f cd A outer s H E) x) (hm:mg x=some (.ref C)) (ha:PA (Av (CXE P w) P w K mg base N qual scope f cd A outer s H E) (e₀::rest) ta)
  (he:cW (e₀::rest) (Av (CXE P w) P w K mg base N qual scope f cd A outer s H E).env=(false,eval e₀ (Av (CXE P w) P w K mg base N qual scope f cd A outer s H E).env)::cW rest (Av (CXE P w) P w K mg base N qual scope f cd A outer s H E).env:=by rfl)
  (hpl:(gH cpos (cW rest (Av (CXE P w) P w K mg base N qual scope f cd A outer s H E).env)).any (·.1)=false:=by rfl) (hd:(x == ("__debug__" : Str))=false:=by decide) :
  PS (Av (CXE P w) P w K mg base N qual scope f cd A outer s H E) (.Raise (some (.Call (.Name x np) (e₀::rest) [] cpos)) none pos) (alQ ta E C):=by
 intro pins s1 σ H1 D I h
 obtain ⟨bm,N',nm,qn,bs,hdct,sn,sub,ab,col,dd,k0,k1,k2,k3,k5,mN,hC,hN,hni,TL⟩:=(alP I.mod.kin hm q).obj
 refine wpAny_Raise_call_subT (C:=C) (nm:=nm) (q:=qn) (N:=N') (bs:=bs) (bm:=bm) (hdct:=hdct) (sn:=sn) (sub:=sub) (ab:=ab) (col:=col) (dd:=dd) (k0:=k0) (k1:=k1) (k2:=k2) (k3:=k3) (k5:=k5)
  FB (mN:=mN) (TL.hasType FB.hasBase) (I.ok.hd rfl) ?_ hni (tE I hg hm ⟨rfl,?_⟩ hd)
 ·rw [he]
  show (false || (gH cpos (cW rest _)).any (·.1))=false
  rw [hpl];rfl
 have h2:=ha cpos pins s1 σ H1 _ I h
 rw [he] at h2 ⊢
 refine WM (eF h2 (fun us s2 ⟨vs,H2,I2,r,z,hE⟩=>?_) fun _ _ y=>y)
 refine ⟨rfl,by rw [<- r.length];exact z,I2.bk _ _ hC,hN.keeps I2.bk,TL.keeps I2.bk,fun h' e hx=>?_⟩
 have ue:H2 e=none:=by
  cases k:H2 e with
  | none=>rfl
  | some v =>
   obtain ⟨o,k'⟩:=(I2.hok e v k).ex
   rw [hx.new] at k';cases k'
 have ge:s.heap.get? e=none:=by
  cases k:s.heap.get? e with
  | none=>rfl
  | some o =>
   obtain ⟨o',k'⟩:=I2.base.there e o k (by intro z;exact absurd (show e∈([]:List Addr) from z) (by simp))
   rw [hx.new] at k';cases k'
 refine wpAny_leaves_madeW (base:=Bare s2.heap (lO qual scope s.heap.objs.size f cd::outer) []) I2.ok.frames rfl (fun b o k=>Ox _ k) (vY I2.stack) hx fun h'' t x1 x2 x3 x4=>?_
 have sub:∀ b∈frs (lO qual scope s.heap.objs.size f cd::outer),b∈frs outer\/s.heap.get? b=none:=fun b hb=>by
  rcases bN.mp (I2.zx b hb) with z | z
  ·refine .inr ?_
   rw [z];exact adT I.ok.above
  ·exact .inl z
 obtain ⟨r1,r2,T',r3⟩:=QH (g:=s.heap) (H0:=H) (fs:=frs outer) (hid:=[]) (l:=lO qual scope s.heap.objs.size f cd::outer) I2.base I2.hok I2.stack I2.Al sub (by simp) ue ge x1.1 ((ak2 hx.keeps).trans x4) x1.2.2.2.at
 exact ⟨e,C,T',H2,rfl,I2.os,I2.bare,r1,r2,r3,hE⟩
end
noncomputable def XP (X:Cx) (pins:List (Addr × Obj)) (σ:St) (E:XK) (ev:Value) (s':Shared):Prop:=∃ s0 H0,Inv X pins σ H0 s0/\CXE X.prog X.w X.stack H0 s0 E ev s'
noncomputable abbrev TX:=St->Hp->VK->XK->Prop
noncomputable def PX (X:Cx) (e:Expr) (t:TX):Prop :=
 ∀ (pins:List (Addr × Obj)) (s:Shared) (σ:St) (H:Hp) (Q:VK) (E:XK),Inv X pins σ H s->t σ H Q E->wpAny (model X.prog X.w) X.A (eval e X.env) (EP X pins σ Q) (XP X pins σ E) s
@[reducible] noncomputable def xCall (sp:Sp) (dvs:List V) (t:TA):TX:=fun σ H Q E=>t σ H fun vs H1=>sp (vs++dvs) H1 Q E
section
variable {dvs:List V} {ds:List Value} {m:Str} {pos apos:Pos} {e o:Expr} {es:List Expr} {ta:TE} {t:TA}
theorem air {Q:VK} {E:XK} {us:List Value} {vs:List V} (F:cP X.prog X.w X.K X.mg X.base (CXE X.prog X.w) k f fd ps sp) (hr:jE k X.A) (hb:Binds X.K fd ps ds) (hd:Vals dvs ds)
  (I:Inv X pins σ H s) (r:Vals vs us) (h:sp (vs++dvs) H Q E):wpAny (model X.prog X.w) X.A (call (.ref f) us) (EP X pins σ Q) (XP X pins σ E) s:=by
 have r2:Vals (vs++dvs) (us++ds):=r.append hd
 have hl:(us++ds).length=ps.length:=by rw [<- r2.length];exact F.len _ _ _ _ h
 refine yD (sU (F.run X.A X.stack s H ⟨us,[]⟩ (us++ds) (vs++dvs) Q E hr I.env0 (hb s us I.kIn hl) r2 h) fun r s' hq=>?_)
 cases r with
 | error e=>exact ⟨s,H,I,hq⟩
 | ok fl =>
  cases fl with
  | ret u=>exact I.after hq
  | next=>exact j8 hq
  | brk=>exact j8 hq
  | cont=>exact j8 hq
theorem ais (F:cP X.prog X.w X.K X.mg X.base (CXE X.prog X.w) k f fd ps sp) (hr:jE k X.A) (hg:Gl X x) (hm:X.mg x=some (.ref f)) (hk:oF X.K (.ref f)=true) (hb:Binds X.K fd ps ds) (hd:Vals dvs ds)
  (ha:PA X.nox (e::es) t) (hdb:(x == ("__debug__" : Str))=false:=by decide) (he:cW (e::es) X.env=(false,eval e X.env)::cW es X.env:=by rfl) (hpl:(gH pos (cW es X.env)).any (·.1)=false:=by rfl) :
  PX X (.Call (.Name x p) (e::es) [] pos) (xCall sp dvs t):=by
 intro pins s σ H Q E I h
 refine Aa (tE I hg hm ?_ hdb)
 refine Oz (h₀:=X.base) I.ok.mod.kin hk (eF (ha pos pins s σ H _ (I.wish _) h) (fun us s1 ⟨vs,H1,I1,r,q⟩=>⟨I1.lR.kIn,?_⟩) fun _ _ z=>z.elim) he hpl
 exact air F hr hb hd I1.lR r q
end
noncomputable def Fj (e C:Addr):HO:=.ext fun h=>∃ o,h.get? e=some o/\o.cls = .ref C
structure Catch (K:aZ) (C B:Addr):Prop where
 sub:nG K C (.ref B)=some true
 exc:nG K B (.type "BaseException")=some true
 ty:Dd K (.ref B)=some (.type "type")
theorem JF {K:aZ} {r q:Bool} {v:Value} (hs:nG K C (.ref B)=some r) (hx:nG K B v=some q) (ht:Dd K (.ref B)=some (.type "type")):V0 K (.ref C) (.ref B)=some r:=by
 have h1:(V2 K B).isSome=true:=by
  cases e:V2 K B with
  | none=>unfold nG at hx;rw [e] at hx;cases hx
  | some cd=>rfl
 unfold V0
 simp only [h1,ht]
 exact hs
theorem Catch.kit {K:aZ} (c:Catch K C B):V0 K (.ref C) (.ref B)=some true:=JF c.sub c.exc c.ty
theorem ab6 {M:Model} {K:aZ} {oe:Obj} (kin:K.In s.heap) (c:Catch K C B) (he:s.heap.get? e=some oe) (hc:oe.cls = .ref C) (h:Q true s) :
  wpAny M A (excMatches (.ref e) (.ref B)) Q E s:=by
 obtain ⟨hh,g,d,t,os⟩:=s
 obtain ⟨L1,L2,L3⟩:=adQ (M:=M) kin c.kit
 have L4:=VL (M:=M) kin c.exc
 have L5:Df M hh (isSubtype (.type "type") (.type "tuple")) false:=PySem.W.looks_subIn (t:=.type "type") (base:=.type "tuple") (r:=false) kin (show (fastBuiltinMro "type").map (·.contains (.type "tuple"))=some false by decide +kernel)
 have L6:Df M hh (Va (.ref B) (.type "tuple")) false:=L1.andThen L5
 have L7:Df M hh (Oh (.ref e)) (.ref C):=hc ▸ (afh he).andThen .now
 unfold excMatches
 refine aG (L6.at ?_)
 rw [if_neg iK]
 refine aG (bC ?_)
 unfold isExcClass
 simp only [List.forIn_cons,List.forIn_nil]
 refine aG (aG (aG (aG (L2.at ?_))))
 rw [if_pos rfl]
 refine L4.at ?_
 simp only [aeA,za,if_false]
 refine bC ?_
 refine bC ?_
 refine aG (L7.at ?_)
 refine aG (aG (aG (L3.at ?_)))
 rw [if_pos rfl]
 exact bC (bC (bC h))
noncomputable def Cx.marked (X:Cx) (e:Addr):Cx:={ X with A:=X.A.mark (some (.ref e)),calm:=false,xe:=fun _ _=>False }
theorem Inv.marked (I:Inv X pins σ H s) (e:Addr):Inv (X.marked e) pins σ H s :=
 ⟨⟨I.ok.mod,I.ok.kind,I.ok.glob,I.ok.blt,I.ok.above,I.ok.inj,I.ok.has,I.ok.cab,(fun z=>by cases z),I.ok.frames,I.ok.stk,I.ok.exf,I.ok.bs,I.ok.bsz,I.ok.RV,I.ok.abp,I.ok.zu,I.ok.frf⟩,I.os,I.bare,I.base,I.loc,I.cell,I.free,I.nH,I.pin,I.hok,I.len⟩
theorem Inv.unmarked (hd:X.calm=true->X.A.handled=none) (I:Inv (X.marked e) pins σ H s):Inv X pins σ H s :=
 ⟨⟨I.ok.mod,I.ok.kind,I.ok.glob,I.ok.blt,I.ok.above,I.ok.inj,I.ok.has,I.ok.cab,hd,I.ok.frames,I.ok.stk,I.ok.exf,I.ok.bs,I.ok.bsz,I.ok.RV,I.ok.abp,I.ok.zu,I.ok.frf⟩,I.os,I.bare,I.base,I.loc,I.cell,I.free,I.nH,I.pin,I.hok,I.len⟩
theorem Gj {M:Model} {n:Str} {pos:Pos} {Q:Unit->Shared->Prop} (I:Inv X pins σ H s) (hN:X.N.Nodup) (hi:X.N[i]? = some n) (hl:X.env.scope.names.lookup n=some .local)
  (h:∀ s',Inv X pins (σ.set i none) H s'->Q () s'):wpAny M A (do bindName X.env n .none;unbindBehindTheSuite X.env n pos) Q E s:=by
 obtain ⟨m,hn,hlk⟩:=id I.loc
 have hcls:(X.env.scope.kind == .class || (X.env.scope.kind == .module && X.env.locals != X.env.globals))=false:=by rw [I.ok.kind];rfl
 have hiσ:i<σ.length:=by rw [I.len];exact (jB.mp hi).1
 have cne:=I.cne
 refine wpAny_nameGoes_keeps hl hn hcls fun h' v hn' hs=>h _ ?_
 have away:∀ b o,X.s₀.heap.get? b=some o->h'.get? b=s.heap.get? b:=fun b o e=>hs.2 b (cH (f9 (bQ e) I.ok.above))
 refine ⟨I.ok,I.os,I.bare,⟨fun b o e n hb hx=>?_,fun b o e n hb hx=>?_,I.base.free,fun b o e hx=>?_,I.base.tups,I.base.uX,I.base.zq⟩,⟨_,hn',fun j y v' e1 e2 e3=>?_⟩,fun y c e=>?_,I.free,I.nH,fun p hp=>?_,fun b ob e=>?_,by simpa using I.len⟩
 ·exact (away b o e).trans (I.base.keep b o e n hb hx)
 ·obtain ⟨sl,e1⟩:=I.base.slot b o e n hb hx
  exact ⟨sl,(away b o e).trans e1⟩
 ·obtain ⟨o',e1⟩:=I.base.there b o e hx
  exact ⟨o',(away b o e).trans e1⟩
 ·by_cases hj:j=i
  ·subst hj
   rw [Hj hiσ] at e2
   cases e2
  ·rw [yK (aL hj)] at e2
   obtain ⟨u',r',q⟩:=hlk j y v' e1 e2 e3
   refine ⟨u',r',?_⟩
   rcases q with ⟨k,e⟩ | ⟨k,c,e,z⟩
   ·refine .inl ⟨k,?_⟩
    have:y≠n:=fun e=>hj (Iv hN e1 (e ▸ hi))
    simp [this,e]
   ·exact .inr ⟨k,c,e,z.sameBut hs (cne y c e)⟩
 ·obtain ⟨w',z⟩:=I.cell y c e
  exact ⟨w',z.sameBut hs (cne y c e)⟩
 ·obtain ⟨e,n,ne,nf,d⟩:=I.pin p hp
  exact ⟨(hs.2 p.1 ne).trans e,n,ne,nf,d⟩
 ·refine (I.hok b ob e).stay (fun c w' hc q=>(hs.2 c ?_).trans q) (fun _ q=>q) fun _ _ q=>q
  rintro rfl
  rcases hc with rfl | hc
  ·rw [I.free] at e;cases e
  ·rw [I.free] at hc;cases hc
noncomputable def drops (i:Nat) (D:Ends):Ends:={ nx:=fun σ H=>D.nx (σ.set i none) H,rt:=D.rt,bk:=fun σ H=>D.bk (σ.set i none) H,ct:=fun σ H=>D.ct (σ.set i none) H }
theorem Un.track {fs:List Addr} {H0:Hp} {g:Heap} (u:Un fs [] H0 H g h) (ue:H e=none) (ge:g.get? e=none):Un fs [] H0 (upd H e o) g h where
 keep:=u.keep
 slot:=u.slot
 free:=fun b ob q n hx=>by rw [au (fun z=>by rw [z,ge] at q;cases q)];exact u.free b ob q n hx
 there:=u.there
 tups:=fun b xs q=>by rw [au (ak (u.tups b xs q) ue)];exact u.tups b xs q
 uX:=fun b ob v q=>by rw [au (ak (u.uX b ob v q) ue)];exact u.uX b ob v q
 zq:=fun b ps q=>by
  obtain ⟨m,r⟩:=u.zq b ps q
  exact ⟨m,by rw [au (ak r ue)];exact r⟩
section
variable {n:Str} {np hpos pos:Pos} {b₀:Stmt} {suite:List Stmt} {th:TS}
theorem ab7 {D:Ends} {ev:Value} {s1:Shared} (hst:X.stack=X.env::X.outer) (hfr:X.env.frame=some X.env.locals) (hg:Gl X x) (hm:X.mg x=some (.ref B)) (hN:X.N.Nodup) (hi:X.N[i]? = some n)
  (hl:X.env.scope.names.lookup n=some .local) (hs:∀ e,PSs (X.marked e) (b₀::suite) th) (hdb:(x == ("__debug__" : Str))=false)
  (hx:XP X pins σ (fun cls _ H1=>∃ C,cls = .ref C/\Catch X.K C B/\∀ e,H1 e=none->th (drops i D) (σ.set i (some (.ref e))) (upd H1 e (Fj e C))) ev s1) :
  wpAny (model X.prog X.w) X.A (noteFrame ev X.env) (fun _ s2=>wpAny (model X.prog X.w) X.A (setFlight ev none) (fun _ s3=>wpAny (model X.prog X.w) X.A (handleBy ev X.env [.ExceptHandler (some (.Name x np)) (some n) (b₀::suite) hpos]) (SP X pins D) X.xe s3) X.xe s2) X.xe s1:=by
 obtain ⟨s0,H0,I0,e,C,T,H',rfl,os,bare,u,hok,fly,C2,eC,cat,hth⟩:=hx
 cases eC
 have sub:∀ b∈frs (X.env::X.outer),b∈frs X.stack\/s0.heap.get? b=none:=fun b hb=>.inl (by rw [hst];exact hb)
 have fre:∀ b∈frs (X.env::X.outer),H' b=none:=fun b hb=>(I0.call' (ch:=[]) os u hok bare (by simp)).Al b (by rw [hst];exact hb)
 have ab8:∀ {h:Heap},Un (frs X.stack) [] H0 H' s0.heap h->HOk X.prog X.w H' h->h.FunFrames X.base (X.env::X.outer):=fun {h} u' hok'=>by
  have:=(I0.call' (ch:=[]) (s':={ s1 with heap:=h }) os u' hok' bare (by simp)).stack
  rw [hst] at this;exact this
 have hA:X.A.frames=some (X.env::X.outer):=by rw [I0.ok.frames,hst]
 obtain ⟨a0,hfl⟩:=fly.flying (ab8 u hok)
 refine wpAny_looks_onW hA hfr hfl fun h2 x1 x2=>?_
 obtain ⟨u2,hok2,T2,fly2⟩:=QH u hok (ab8 u hok) fre sub fly.hidden fly.ue fly.ge x1.1 x2 x1.2.2.2
 obtain ⟨a2,hh2⟩:=fly2.held (ab8 u2 hok2)
 refine wpAny_landsW (s:={ s1 with heap:=h2 }) hh2 fun h3 x1 x2=>?_
 obtain ⟨u3,hok3,T3,agJ⟩:=QH u2 hok2 (ab8 u2 hok2) fre sub fly2.hidden fly2.ue fly2.ge x1.1 x2 x1.2.2.2.at
 have I3:=I0.call' (ch:=[]) (s':={ s1 with heap:=h3 }) os u3 hok3 bare (by simp)
 refine wpAny_handleBy_cons (codeAny_handlers_test (tE (X:=X.marked e) (I3.marked e) hg hm ?_ hdb)) (by intro q;cases q)
 obtain ⟨oe,_,_,_,_,q1,q2,_⟩:=agJ.tr
 refine ab6 I3.kIn cat q1 q2.1 ?_
 show fB _ _ (.handlers (.ref e) [.ExceptHandler none (some n) (b₀::suite) hpos] X.env) _ _
 refine codeAny_handlers_suite_as ?_
 obtain ⟨a3,hfl3⟩:=agJ.flying (ab8 u3 hok3)
 refine lands_againW (s:={ s1 with heap:=h3 }) hfl3 fun h4 x1 x2=>?_
 obtain ⟨u4,hok4,T4,agK⟩:=QH u3 hok3 (ab8 u3 hok3) fre sub agJ.hidden agJ.ue agJ.ge x1.1 x2 x1.2.2.2.at
 obtain ⟨oe4,_,_,_,_,q41,q42,_⟩:=agK.tr
 have hok5:HOk X.prog X.w (upd H' e (Fj e C)) h4:=hok4.Ez (fun _ _ q=>q) agK.ue
  ⟨⟨oe4,q41,q42.1⟩,⟨oe4,q41⟩,fun k1 k2 ⟨o,r1,r2⟩ r=>⟨o,r o r1,r2⟩⟩
 have I5:=I0.call' (ch:=[]) (s':={ s1 with heap:=h4 }) os (u4.track (o:=Fj e C) agK.ue agK.ge) hok5 bare (by simp)
 refine Iw (X:=X.marked e) (v:=.ref e) (I5.marked e) hN hi (.inl hl) rfl (fun s6 I6=>?_) (.inr hl)
 refine eF (hs e pins s6 _ _ (drops i D) I6 (hth e agK.ue)) (fun f s7 q=>?_) fun _ _ z=>z.elim
 cases f with
 | next =>
  obtain ⟨σ7,H7,I7,q7⟩:=q
  exact Gj (I7.unmarked I0.ok.hd) hN hi hl fun s8 I8=>⟨_,H7,I8,q7⟩
 | brk =>
  obtain ⟨σ7,H7,I7,q7⟩:=q
  exact Gj (I7.unmarked I0.ok.hd) hN hi hl fun s8 I8=>⟨_,H7,I8,q7⟩
 | cont =>
  obtain ⟨σ7,H7,I7,q7⟩:=q
  exact Gj (I7.unmarked I0.ok.hd) hN hi hl fun s8 I8=>⟨_,H7,I8,q7⟩
 | ret u =>
  obtain ⟨v,σ7,H7,I7,r7,q7⟩:=q
  exact Gj (I7.unmarked I0.ok.hd) hN hi hl fun s8 I8=>⟨v,_,H7,I8,r7,q7⟩
noncomputable def tTry (K:aZ) (tc:TX) (nx:V->St->St) (i:Nat) (B:Addr) (th:TS):TS:=fun D σ H=>tc σ H (fun v H1=>D.nx (nx v σ) H1)
 fun cls _ H1=>∃ C,cls = .ref C/\Catch K C B/\∀ e,H1 e=none->th (drops i D) (σ.set i (some (.ref e))) (upd H1 e (Fj e C))
theorem ait {ce:Expr} {epos:Pos} {tc:TX} (hst:X.stack=X.env::X.outer) (hfr:X.env.frame=some X.env.locals) (hg:Gl X x) (hm:X.mg x=some (.ref B)) (hN:X.N.Nodup) (hi:X.N[i]? = some n)
  (hl:X.env.scope.names.lookup n=some .local) (hc:PX X ce tc) (hs:∀ e,PSs (X.marked e) (b₀::suite) th) (hsw:GJ ce none epos.line X.env=pure false:=by rfl) (hdb:(x == ("__debug__" : Str))=false:=by decide) :
  PS X (.Try [.Expr ce epos] [.ExceptHandler (some (.Name x np)) (some n) (b₀::suite) hpos] [] [] pos) (tTry X.K tc (fun _ σ=>σ) i B th):=by
 intro pins s σ H D I h
 have key:wpAny (model X.prog X.w) X.A (exec (.Expr ce epos) X.env) (fun f s1=>f = .next/\∃ H1,Inv X pins σ H1 s1/\D.nx σ H1) (XP X pins σ _) s :=
  acQ (eF (hc pins s σ H _ _ I h) (fun v s1 ⟨x,H1,I1,r1,q1⟩=>⟨rfl,H1,I1,q1⟩) fun _ _ z=>z) I.quiet hsw
 refine wpAny_Try_except (Uz (eF key (fun f s1 ⟨ef,H1,I1,q1⟩=>?_) fun ev s1 hx=>?_))
 ·subst ef
  exact Cy (Cy ⟨σ,H1,I1,q1⟩)
 ·exact ab7 hst hfr hg hm hN hi hl hs hdb hx
end
end L2
namespace L2
open PySem PySem.Spec PyProof.Rows PySem.Builtin PySem.Builtin.ObjectAttr PySem.Builtin.Getset_descriptor
structure K8 (K:aZ) (C:Addr):Prop where
 ga:iJ K (.ref C) "__getattribute__" = some (some (.builtin "BaseException.__getattribute__"))
 gt:iJ K (.ref C) "__getattr__" = some none
 cl:iJ K (.ref C) "__class__" = some (some (.builtin "object.__class__"))
 sp:Hu K (.builtin "object.__class__") "__get__" = some (some (.builtin "getset_descriptor.__get__"))
 tk:O1 K (.builtin "object.__class__")=some true
 ex:nG K C (.type "BaseException")=some true
 ob:nG K C (.type "object")=some true
 se:nG K C (.ref C)=some true
 ty:Dd K (.ref C)=some (.type "type")
section
variable {K:aZ} {e C:Addr} {o:Obj} {prog:aO} {w:World} {A:bA} {E:Value->Shared->Prop} {s:Shared}
theorem rW {M:Model} {h:Heap} (he:h.get? e=some o) (hc:o.cls = .ref C):Df M h (Oh (.ref e)) (.ref C):=hc ▸ (afh he).andThen .now
theorem DW {M:Model} {h:Heap} (kin:K.In h) (X:K8 K C):Df M h (aeY (.ref e) (.ref C) "__class__") (.bind (.builtin "getset_descriptor.__get__") (.builtin "object.__class__")):=by
 have l1:=Ow (M:=M) kin X.cl
 have l2:=PySem.W.looks_specialIn (M:=M) kin X.sp
 have l3:=PySem.W.looks_takesIn (M:=M) kin X.tk
 intro A Q E s k q
 obtain ⟨hh,g,d,t,os⟩:=s
 have L1:=l1.keeps k
 have L2:=l2.keeps k
 have L3:=l3.keeps k
 clear l1 l2 l3
 unfold aeY akc dW.ObjectAttr.dataDescriptor?
 repeat lk
 exact q
theorem K9 {tp:Value} {R:jV->Shared->Prop} (kin:K.In s.heap) (X:K8 K C) (he:s.heap.get? e=some o) (hc:o.cls = .ref C) (h:R (.ok (.ret (.ref C))) s) :
  fB (model prog w) A (.call (.builtin "getset_descriptor.__get__") ⟨[.builtin "object.__class__",.ref e,tp],[]⟩) R s:=by
 obtain ⟨hh,g,dr,t,os⟩:=s
 have L0:=rW (M:=model prog w) he hc
 have L1:=VL (M:=model prog w) kin X.ob
 refine Nm afb.plain akv ?_
 refine afb.check _ _ _ _ _ _ _ _ aku (akx _ _ _) ?_
 unfold dW.«getset_descriptor.__get__» descrGet
 rw [PySem.W.dga_obj]
 refine aG (bC ?_)
 unfold descrGetter descrCheckInstance descrNameAndClass Va
 simp only [aks]
 repeat lk
 refine ⟨ae9 _ tb_g%,?_⟩
 refine rG akt ?_
 unfold dW.«object.__class__» shownTypeOf
 repeat lk
 exact h
theorem ab9 {M:Model} {nameV:Value} {Q:Unit->Shared->Prop} (kin:K.In s.heap) (X:K8 K C) (he:s.heap.get? e=some o) (hc:o.cls = .ref C) (hq:Q () s) :
  wpAny M A (Nq "BaseException.__getattribute__" ⟨[.ref e,nameV],[]⟩) Q E s:=by
 obtain ⟨hh,g,dr,t,os⟩:=s
 have L0:=rW (M:=M) he hc
 have L1:=VL (M:=M) kin X.ex
 have L2:Df M hh (Va (.ref e) (.type "BaseException")) true:=L0.andThen L1
 have hk:builtinKind "BaseException.__getattribute__" = some .slot:=by decide +kernel
 have hsp:splitId "BaseException.__getattribute__" = some ("BaseException","__getattribute__"):=by decide +kernel
 have ha:=F.args_bexc_ga (.ref e) nameV
 simp only [Nq,hk,hsp]
 refine aG (L2.at ?_)
 repeat (first | wp_step | lk)
 all_goals exact hq
theorem acd {tk:Tok} {Q:PySem.Fin->Shared->Prop} (kin:K.In s.heap) (X:K8 K C) (he:s.heap.get? e=some o) (hc:o.cls = .ref C) (hq:Q (.done (.ret (.ref C))) s) :
  wpAny (model prog w) A (dW.«object.__getattribute__» ⟨[.ref e,.str "__class__" tk],[]⟩) Q E s:=by
 obtain ⟨hh,g,dr,t,os⟩:=s
 have L0:=rW (M:=model prog w) he hc
 have L1:=DW (e:=e) (M:=model prog w) kin X
 unfold dW.«object.__getattribute__»
 refine aG (bC (a:=(Value.ref e,[Value.str "__class__" tk])) ?_)
 dsimp only
 refine aG (bC (a:=("__class__" : Str)) ?_)
 refine aG (L0.at ?_)
 refine aG (L1.at ?_)
 dsimp only
 unfold bindTo
 refine aG (jJ (yD ?_))
 exact K9 kin X he hc (bC hq)
theorem alR {tk:Tok} {Q:Value->Shared->Prop} (kin:K.In s.heap) (X:K8 K C) (he:s.heap.get? e=some o) (hc:o.cls = .ref C) (hq:Q (.ref C) s) :
  wpAny (model prog w) A (getAttrBy (.ref e) (.str "__class__" tk) false) Q E s:=by
 obtain ⟨hh,g,dr,t,os⟩:=s
 have L0:=rW (M:=model prog w) he hc
 have L1:=Ow (M:=model prog w) kin X.ga
 have L2:=Ow (M:=model prog w) kin X.gt
 have hx2:(Value.builtin "BaseException.__getattribute__" == Value.builtin "object.__getattribute__")=false:=by decide +kernel
 have hb:=F.attr_ValueError.ga.bind (.ref e)
 unfold getAttrBy
 refine jJ (aG (L0.at (aG (L1.at ?_))))
 dsimp only
 rw [hx2,Bool.and_false,if_neg iK]
 unfold getAttrByItsOwn hookBefore
 rw [if_pos (show onTheHeap (Value.ref C)=true from rfl)]
 refine aG (L2.at ?_)
 refine aG (vd (jJ ?_))
 unfold callGetattribute
 rw [aey,if_neg iK]
 unfold boundAndCalled
 rw [hb]
 refine aG (bC ?_)
 refine yD (Nm F.attr_ValueError.ga.plain F.entry_bexc_ga (ab9 kin X he hc (acd kin X he hc ?_)))
 repeat (first | exact hq | wp_step | lk)
theorem agL {Q:Option Value->Shared->Prop} (kin:K.In s.heap) (X:K8 K C) (he:s.heap.get? e=some o) (hc:o.cls = .ref C) (hq:Q (some (.ref C)) { s with toks:=s.toks+1 }) :
  wpAny (model prog w) A (getAttr? (.ref e) "__class__") Q E s:=by
 obtain ⟨hh,g,dr,t,os⟩:=s
 unfold getAttr? getAttrBy?
 refine aG (wpAny_mkText (aG (vd ?_)))
 exact alR (s:=⟨hh,g,dr,t+1,os⟩) kin X he hc (bC hq)
theorem Tq (X:K8 K C):PySem.W.KitX K (.ref e) (.ref C) (fun h=>∃ o,h.get? e=some o/\o.cls = .ref C) where
 ty:=fun _ _ _ ⟨_,he,hc⟩=>rW he hc
 it:=fun _ _ kin _=>(adQ kin (JF (K:=K) (C:=C) (B:=C) (r:=true) X.se X.ob X.ty)).2.1
 ne:=fun h tp dd its n sl kin htp=>by
  refine Bool.eq_false_iff.mpr fun q=>?_
  have e1:C=tp:=alc (beq_iff_eq.mp q)
  subst e1
  have k:=X.ob
  unfold nG V2 at k
  split at k
  ·rename_i ho
   have z:=(kin _ _ ho).symm.trans htp
   cases z
  ·cases k
 ca:=fun kin ⟨_,he,hc⟩ k=>agL kin X he hc k
end
section
variable {X:Cx}
noncomputable def ajr (K:aZ):List V->Hp->VK->Prop:=fun xs H Q=>∃ e C c cv b,xs=[.ref e,c]/\H e=some (Fj e C)/\K8 K C/\RelV c cv/\(∀ u,RelV c u->u=cv)/\oG K (.ref C) cv=some b/\Q (.bl b) H
theorem ace:gC X (.builtin "isinstance") (ajr X.K):=by
 walk_at "j"
 obtain ⟨e,C,c,cv,b,rfl,he,xc,rc,inj,k,q⟩:=h
 obtain ⟨u,w',rfl,ru,rw'⟩:=vals2 r
 obtain rfl:=inj w' rw'
 obtain rfl:u=Value.ref e:=ru
 obtain ⟨p,_,_⟩:=(show dh X.prog X.w H s.heap e (Fj e C) from I.hok e _ he)
 exact uE (Tq xc) I.kIn p k (fun z=>nomatch z) fun tk=>⟨.bl b,H,I.tok tk,rfl,q⟩
noncomputable def agM (K:aZ):List V->Hp->VK->Prop:=fun xs H Q=>∃ (e C tp:Addr) (cs:List Addr) (b:Bool),xs=[.ref e,.ref tp]/\H e=some (Fj e C)/\K8 K C/\H tp=some (.tup (cs.map V.ref))/\VR K (.ref C) (cs.map Value.ref)=some b/\Q (.bl b) H
theorem Mz:∀ {cs:List Addr} {us:List Value},Vals (cs.map V.ref) us->us=cs.map Value.ref
 | [],_,.nil=>rfl
 | _::_,_,.cons r t=>by rw [gB,<- Mz t];cases r;rfl
theorem ZM:gC X (.builtin "isinstance") (agM X.K):=by
 walk_at "j"
 obtain ⟨e,C,tp,cs,b,rfl,he,xc,ht,k,q⟩:=h
 obtain ⟨u,w',rfl,ru,rw'⟩:=vals2 r
 obtain rfl:u=Value.ref e:=ru
 obtain rfl:w'=Value.ref tp:=rw'
 obtain ⟨p,_,_⟩:=(show dh X.prog X.w H s.heap e (Fj e C) from I.hok e _ he)
 obtain ⟨_,its,rv,⟨oc,od,odt,osl⟩,ho,hcl,n,hd⟩:=(show dh X.prog X.w H s.heap tp (.tup (cs.map V.ref)) from I.hok tp _ ht)
 have hi:=Mz rv
 subst hi
 simp only at hcl hd
 subst hcl hd
 exact PySem.W.kia_tup (Tq xc) I.kIn p ho k (fun z=>nomatch z) fun tk=>⟨.bl b,H,I.tok tk,rfl,q⟩
end
end L2
namespace L2
open PySem PySem.Spec PyProof.Rows
section
variable {X:Cx} {k:Addr} {o e:Expr} {es:List Expr} {to:TE} {t:TA} {name:Str} {apos cpos:Pos} {T id:String} {r:V->List V->Hp->VK->Prop}
theorem alS (pa:PlainAttrs T) (slot:Slot T name id) (hty:Oh (.builtin id)=pure (.type "method_descriptor")) (hm:MtR (X.marked k) id r) (ho:PE (X.marked k) o to) (ha:PA (X.marked k) (e::es) t)
  (hbase:yC o name X.env (eval o X.env)=eval o X.env:=by rfl)
  (hfew:((gH cpos (cW (e::es) X.env)).all (fun x=>!x.1) && (GQ cpos (GF [] X.env)).all (fun x=>x.1.isSome)
   && decide ((e::es).length+([]:List sW).length+(if ([]:List sW).isEmpty then 0 else 1)<30))=true:=by rfl)
  (hline:(apos.endLine == cpos.line)=true:=by rfl) (hs:cW (e::es) X.env=(false,eval e X.env)::cW es X.env:=by rfl) (hplain:(gH cpos (cW es X.env)).any (·.1)=false:=by rfl) :
  PE (X.marked k) (.Call (.Attribute o name apos) (e::es) [] cpos) (tBM X.K T r to t):=kE pa slot hty hm ho ha hbase hfew hline hs hplain
theorem Tt:gC (X.marked k) (.builtin "isinstance") (agM X.K):=ZM
theorem JG:gC (X.marked k) (.builtin "isinstance") (ajr X.K):=ace
end
inductive Alike (K:aZ) (H:Hp):Nat->V->V->Prop where
 | flat {n:Nat} {x:V} (h:uI x=true):Alike K H n x x
 | lst {n:Nat} {a b:Addr} {xs ys:List V} (ha:SqL K H a xs) (hb:SqL K H b ys) (hl:xs.length=ys.length) (h:∀ (i:Nat) (x y:V),xs[i]? = some x->ys[i]? = some y->Alike K H n x y):Alike K H (n+1) (.ref a) (.ref b)
 | tup {n:Nat} {a b:Addr} {xs ys:List V} (ha:SqT K H a xs) (hb:SqT K H b ys) (hl:xs.length=ys.length) (h:∀ (i:Nat) (x y:V),xs[i]? = some x->ys[i]? = some y->Alike K H n x y):Alike K H (n+1) (.ref a) (.ref b)
theorem Tv {x:V} (h:uI x=true):eqV x x=true:=by
 cases x with
 | non=>rfl
 | bl b=>show (b == b)=true;simp
 | int i=>show (i == i)=true;simp
 | str z=>show (z == z)=true;simp
 | byt _=>cases h
 | flt _=>cases h
 | ref _=>cases h
 | ty _=>cases h
section
variable {X:Cx} {pins:List (Addr × Obj)} {σ:St} {H:Hp} {s:Shared}
theorem all_true (n:Nat):((oE n).all fun _=>true)=true:=by simp
theorem jO {K:aZ} {A:bA} {n:Nat} {xs ys:List V} {us vs:List Value} (ru:Vals xs us) (rv:Vals ys vs)
  (h:∀ (i:Nat) (x y:V),xs[i]? = some x->ys[i]? = some y->Alike K H n x y) (ih:∀ (x y:V) (u v:Value),Alike K H n x y->RelV x u->RelV y v->Ih A s u v true) :
  ∀ j (h1:j<us.toArray.size) (h2:j<vs.toArray.size),Ih A s us.toArray[j] vs.toArray[j] true:=fun j h1 h2=>by
 have e1:j<us.length:=by simpa using h1
 have e2:j<vs.length:=by simpa using h2
 have l1:j<xs.length:=by rw [ru.length];exact e1
 have l2:j<ys.length:=by rw [rv.length];exact e2
 have g1:xs[j]? = some xs[j]:=fY l1
 have g2:ys[j]? = some ys[j]:=fY l2
 obtain ⟨u,k1,r1⟩:=ru.get g1
 obtain ⟨v,k2,r2⟩:=rv.get g2
 have m1:us.toArray[j]=u:=by
  rw [fY e1] at k1
  simpa using k1
 have m2:vs.toArray[j]=v:=by
  rw [fY e2] at k2
  simpa using k2
 rw [m1,m2]
 exact ih _ _ _ _ (h j _ _ g1 g2) r1 r2
theorem JH (I:Inv X pins σ H s):∀ (n:Nat) (A:bA) (x y:V) (u v:Value),A.units+n<cLine->Alike X.K H n x y->RelV x u->RelV y v->Ih A s u v true
 | 0,A,x,y,u,v,hu,h,ru,rv=>by
  cases h with
  | flat f=>have:=Y6 (A:=A) (s:=s) ru rv f f;rw [Tv f] at this;exact this
 | n+1,A,x,y,u,v,hu,h,ru,rv=>by
  have ih:=fun (x y:V) (u v:Value) (k:Alike X.K H n x y) (r1:RelV x u) (r2:RelV y v)=>JH I n A.in1 x y u v (by show A.units+1+n<cLine;lia) k r1 r2
  cases h with
  | flat f=>have:=Y6 (A:=A) (s:=s) ru rv f f;rw [Tv f] at this;exact this
  | @lst _ a b xs ys ha hb hl k =>
   obtain rfl:u=Value.ref a:=ru
   obtain rfl:v=Value.ref b:=rv
   by_cases e:a=b
   ·subst e;exact WY _
   ·obtain ⟨us,r1,p1,_⟩:=I.list ha
    obtain ⟨vs,r2,p2,_⟩:=I.list hb
    have:=afe (A:=A) p1.isList p2.isList (by rw [dI,dI,<- r1.length,<- r2.length,hl]) tb_g% (jO r1 r2 k ih)
    rw [all_true] at this
    exact ae1 e this
  | @tup _ a b xs ys ha hb hl k =>
   obtain rfl:u=Value.ref a:=ru
   obtain rfl:v=Value.ref b:=rv
   by_cases e:a=b
   ·subst e;exact WY _
   ·obtain ⟨us,r1,p1,_⟩:=I.tuple ha
    obtain ⟨vs,r2,p2,_⟩:=I.tuple hb
    have hs:us.toArray.size=vs.toArray.size:=by rw [dI,dI,<- r1.length,<- r2.length,hl]
    have:=afd (A:=A) p1 p2 tb_g% (jO r1 r2 k ih)
    rw [all_true,hs] at this
    exact ae1 e (by simpa using this)
noncomputable def agN (K:aZ) (b:Bool):R2:=fun x y H Q=>∃ n p q,x = .ref p/\y = .ref q/\n<=40/\Alike K H n x y/\Q (.bl b) H
theorem agO (hu:X.A.units+64<cLine):OpR X (jA .Eq) (agN X.K true):=by
 walk_at "m"
 obtain ⟨n,p,q,rfl,rfl,hn,k,w⟩:=h
 obtain rfl:v=Value.ref p:=rx
 obtain rfl:u=Value.ref q:=ry
 have ih:=fun m (hm:m+1<=40) (x y:V) (u v:Value) (k:Alike X.K H m x y) (r1:RelV x u) (r2:RelV y v)=>JH I m X.A.in1 x y u v (by show X.A.units+1+m<cLine;lia) k r1 r2
 have fin:EP X pins σ Q (.bool true) s:=⟨.bl true,H,I,rfl,w⟩
 cases k with
 | flat f=>cases f
 | @lst m a b xs ys ha hb hl k =>
  obtain ⟨us,r1,p1,_⟩:=I.list ha
  obtain ⟨vs,r2,p2,_⟩:=I.list hb
  have:=afe (A:=X.A) p1.isList p2.isList (by rw [dI,dI,<- r1.length,<- r2.length,hl]) tb_g% (jO r1 r2 k (ih m tb_g%))
  rw [all_true] at this
  exact this X.prog X.w X.xe _ fin
 | @tup m a b xs ys ha hb hl k =>
  obtain ⟨us,r1,p1,_⟩:=I.tuple ha
  obtain ⟨vs,r2,p2,_⟩:=I.tuple hb
  have hs:us.toArray.size=vs.toArray.size:=by rw [dI,dI,<- r1.length,<- r2.length,hl]
  have:=afd (A:=X.A) p1 p2 tb_g% (jO r1 r2 k (ih m tb_g%))
  rw [all_true,hs] at this
  exact (show SeqAt.RcAt X.A s (.ref p) (.ref q) true by simpa using this) X.prog X.w X.xe _ fin
theorem DX (hu:X.A.units+64<cLine):OpR X (jA .NotEq) (agN X.K false):=by
 walk_at "m"
 obtain ⟨n,p,q,rfl,rfl,hn,k,w⟩:=h
 obtain rfl:v=Value.ref p:=rx
 obtain rfl:u=Value.ref q:=ry
 have ih:=fun m (hm:m+1<=40) (x y:V) (u v:Value) (k:Alike X.K H m x y) (r1:RelV x u) (r2:RelV y v)=>JH I m X.A.in1 x y u v (by show X.A.units+1+m<cLine;lia) k r1 r2
 have fin:EP X pins σ Q (.bool false) s:=⟨.bl false,H,I,rfl,w⟩
 cases k with
 | flat f=>cases f
 | @lst m a b xs ys ha hb hl k =>
  obtain ⟨us,r1,p1,_⟩:=I.list ha
  obtain ⟨vs,r2,p2,_⟩:=I.list hb
  have:=ak6 (A:=X.A) p1.isList p2.isList (by rw [dI,dI,<- r1.length,<- r2.length,hl]) tb_g% (jO r1 r2 k (ih m tb_g%))
  rw [all_true] at this
  exact this X.prog X.w X.xe _ fin
 | @tup m a b xs ys ha hb hl k =>
  obtain ⟨us,r1,p1,_⟩:=I.tuple ha
  obtain ⟨vs,r2,p2,_⟩:=I.tuple hb
  have hs:us.toArray.size=vs.toArray.size:=by rw [dI,dI,<- r1.length,<- r2.length,hl]
  have:=ak5 (A:=X.A) p1 p2 tb_g% (jO r1 r2 k (ih m tb_g%))
  rw [all_true,hs] at this
  exact (show SeqAt.RcNeAt X.A s (.ref p) (.ref q) false by simpa using this) X.prog X.w X.xe _ fin
end
section
variable {X:Cx}
noncomputable def rSumL (K:aZ):List V->Hp->VK->Prop:=fun xs H Q=>∃ (a:Addr) (ns:List Int),xs=[V.ref a]/\SqL K H a (ns.map V.int)/\Q (.int ns.sum) H
theorem MF (hc:X.calm=true):gC X (.builtin "sum") (rSumL X.K):=by
 walk_at "j"
 obtain ⟨a,ns,rfl,ha,q⟩:=h
 obtain ⟨u,rfl,ru⟩:=vals1 r
 cases ru
 obtain ⟨its,rv,p,hz⟩:=I.list ha
 have hi:=intsAre_of rv
 have hl:=p.isList
 obtain ⟨ys,e⟩:=hi.allInts.items
 have hns:ns=ys.toList.map (·.1):=by rw [<- hi.numsOf,<- UL,<- e]
 rw [e] at hl
 refine sum_intListG (I.ok.hd hc) hl fun h' tk t' hk=>⟨.int ns.sum,H,I.kept hk,⟨t',?_⟩,q⟩
 rw [preSum_eq,pL (by simp),hns]
end
theorem EY {K:aZ} {a:Addr} {xs:List V} {caps:List Nat} {tt:TT} {te:TE} {σ:St} {H:Hp} {D:Addr} {Q:VK} (Pv:Nat->List V->Hp->Prop) (h0:Pv 0 [] (upd H D (.lst [])))
  (hl:∀ i ys H,i<=xs.length->Pv i ys H->SqL K H a xs/\H D=some (.lst ys)/\ys.length<sizeLine)
  (hs:∀ i ys H x,xs[i]? = some x->Pv i ys H->tt (lW σ (some x) caps) H fun b H2=>if b=true then te (lW σ (some x) caps) H2 fun y H3=>H3 D=some (.lst ys)/\Pv (i+1) (ys++[y]) (upd H3 D (.lst (ys++[y]))) else H2 D=some (.lst ys)/\Pv (i+1) ys H2) (hd:∀ ys H,Pv xs.length ys H->Q (.ref D) H)
  (monoT:∀ σ H (R R':Bool->Hp->Prop),(∀ b H,R b H->R' b H)->tt σ H R->tt σ H R')
  (mono:∀ σ H (Q Q':VK),(∀ y H,Q y H->Q' y H)->te σ H Q->te σ H Q') :
  Bh (Itl K a) caps tt te σ D Q H:=by
 refine ⟨fun i m ys H=>m=xs.length-i/\i<=xs.length/\Pv i ys H,⟨xs.length,by simp,cY _,h0⟩,?_⟩
 rintro i m ys H ⟨rfl,hi,p⟩
 obtain ⟨sq,q,z⟩:=hl i ys H hi p
 refine ⟨q,?_⟩
 by_cases hlt:i<xs.length
 ·refine .inr ⟨⟨xs,xs[i],sq,by simp [hlt]⟩,z,fun x H' y=>?_⟩
  obtain ⟨e,y⟩:=y
  subst e
  refine monoT _ _ _ _ (fun b H2 hb=>?_) (hs i ys _ x (y xs sq) p)
  cases b with
  | true =>
   rw [if_pos rfl] at hb ⊢
   exact mono _ _ _ _ (fun y H3 ⟨a,b⟩=>⟨a,xs.length-(i+1),by lia,rfl,hlt,b⟩) hb
  | false =>
   rw [if_neg (by decide)] at hb ⊢
   exact ⟨hb.1,xs.length-(i+1),by lia,rfl,hlt,hb.2⟩
 ·have e:i=xs.length:=by lia
  subst e
  exact .inl ⟨⟨xs,sq,bV _⟩,hd ys H p⟩
noncomputable def uZ (te:TE):Prop:=∀ σ H (Q Q':VK),(∀ y H,Q y H->Q' y H)->te σ H Q->te σ H Q'
theorem Gk {r:R2} {ta tb:TE} (hr:∀ x y H (Q Q':VK),(∀ y H,Q y H->Q' y H)->r x y H Q->r x y H Q') (ma:uZ ta) (mb:uZ tb):uZ (tOp r ta tb):=fun σ H Q Q' hq h =>
 ma σ H _ _ (fun x H1 h1=>mb σ H1 _ _ (fun y H2 h2=>hr x y H2 Q Q' hq h2) h1) h
theorem Bu {K:aZ} {ta tb:TE} (ma:uZ ta) (mb:uZ tb):uZ (tOp (KZ K) ta tb):=Gk (fun x y H Q Q' hq h2=>by
 rcases h2 with ⟨a1,a2,a3,a4,a5,a6,a7,a8,q⟩ | ⟨a1,a2,a3,a4,a5,a6,a7,a8,q⟩ | ⟨a1,a2,a3,a4,q⟩
 ·exact .inl ⟨a1,a2,a3,a4,a5,a6,a7,a8,hq _ _ q⟩
 ·exact .inr (.inl ⟨a1,a2,a3,a4,a5,a6,a7,a8,hq _ _ q⟩)
 ·exact .inr (.inr ⟨a1,a2,a3,a4,hq _ _ q⟩)) ma mb
theorem tU {f:Int->Int->V} {ta tb:TE} (ma:uZ ta) (mb:uZ tb):uZ (tOp (rI0 f) ta tb):=Gk (fun x y H Q Q' hq h2=>by
 obtain ⟨a1,a2,a3,a4,q⟩:=h2
 exact ⟨a1,a2,a3,a4,hq _ _ q⟩) ma mb
theorem cO (i:Nat):uZ (tVar i):=fun σ H Q Q' hq ⟨v,e,q⟩=>⟨v,e,hq _ _ q⟩
theorem zQ (v:V):uZ (tC v):=fun σ H Q Q' hq q=>hq _ _ q
noncomputable def MJ (ta:TA):Prop:=∀ σ H (Q Q':List V->Hp->Prop),(∀ xs H,Q xs H->Q' xs H)->ta σ H Q->ta σ H Q'
theorem vZ:MJ aby:=fun σ H Q Q' hq q=>hq _ _ q
theorem jP {ta:TE} {tr:TA} (ma:uZ ta) (mr:MJ tr):MJ (Ew ta tr):=fun σ H Q Q' hq h=>ma σ H _ _ (fun x H1 h1=>mr σ H1 _ _ (fun xs H2 h2=>hq _ _ h2) h1) h
theorem Tw {ta:TA} (ma:MJ ta):uZ (tTup ta):=fun σ H Q Q' hq h=>ma σ H _ _ (fun xs H1 h1=>⟨h1.1,fun p hp=>hq _ _ (h1.2 p hp)⟩) h
section
variable {X:Cx} {tg:Expr}
end
theorem Jo:∀ {kvs:List (Key × V)} {vs:List (Key × Value)} {i:Nat} {k:Key} {u:Value},KV kvs vs->vs[i]? = some (k,u)->∃ p,kvs[i]? = some p/\RelV p.2 u
 | _,_,_,_,_,.nil,h=>by simp at h
 | p::ps,_,0,k,u,.cons (b:=q) r t,h=>by
  have e:q=(k,u):=by simpa using h
  subst e
  exact ⟨p,rfl,r.2⟩
 | p::ps,_,i+1,k,u,.cons r t,h=>by
  obtain ⟨p',e,rr⟩:=Jo (i:=i) t (by simpa using h)
  exact ⟨p',by simpa using e,rr⟩
section
variable {X:Cx} {l:Expr} {td:TE} {p cpos apos pos:Pos}
end
noncomputable def MonoT (tt:TT):Prop:=∀ σ H (R R':Bool->Hp->Prop),(∀ b H,R b H->R' b H)->tt σ H R->tt σ H R'
theorem lX {te:TE} (m:uZ te):MonoT (afB te):=fun σ H R R' hr h=>m σ H _ _ (fun y H1 h1=>by
 obtain ⟨b,e,r⟩:=h1
 exact ⟨b,e,hr _ _ r⟩) h
theorem ZP {K:aZ} (i j:Nat):∀ x σ H (R R':St->Hp->Prop),(∀ σ H,R σ H->R' σ H)->gTup K 2 (IK (xR i) (IK (xR j) gNil)) x σ H R->gTup K 2 (IK (xR i) (IK (xR j) gNil)) x σ H R':=fun x σ H R R' hr h=>by
 obtain ⟨a,xs,e,sq,hl,v,r,e1,v2,r2,e2,e3,q⟩:=h
 exact ⟨a,xs,e,sq,hl,v,r,e1,v2,r2,e2,e3,hr _ _ q⟩
section
variable {X:Cx}
end
theorem aaY {r:List V->Hp->VK->Prop} {ta:TA} (hr:∀ vs H (Q Q':VK),(∀ y H,Q y H->Q' y H)->r vs H Q->r vs H Q') (ma:MJ ta):uZ (tCB r ta):=fun σ H Q Q' hq h=>ma σ H _ _ (fun vs H1 h1=>hr vs H1 Q Q' hq h1) h
theorem Tz {K:aZ} {ta:TA} (ma:MJ ta):uZ (tCB (aaC K) ta):=aaY (fun vs H Q Q' hq h=>by
 rcases h with ⟨x,n,e,l,q⟩ | ⟨a,kvs,e,r,q⟩
 ·exact .inl ⟨x,n,e,l,hq _ _ q⟩
 ·exact .inr ⟨a,kvs,e,r,hq _ _ q⟩) ma
theorem Bv {K:aZ} {ta:TE} {f:Str} (ma:uZ ta):uZ (afF K ta f):=fun σ H Q Q' hq h=>ma σ H _ _ (fun x H1 h1=>by
 obtain ⟨a,C,dx,fs,v,e,h2,c,n,l,q⟩:=h1
 exact ⟨a,C,dx,fs,v,e,h2,c,n,l,hq _ _ q⟩) h
section
variable {X:Cx}
end
theorem TF (ns:List Int) (lo hi:Option Int):∃ ms:List Int,KR (ns.map V.int) lo hi=ms.map V.int/\ms.length<=ns.length/\∀ m∈ms,m∈ns:=by
 refine ⟨(ns.drop (HT.sIx (ns.map V.int).length 0 lo)).take (HT.sIx (ns.map V.int).length (ns.map V.int).length hi-HT.sIx (ns.map V.int).length 0 lo),?_,?_,fun m hm=>Hl (adh hm)⟩
 ·unfold KR
  rw [List.map_take,Ot]
 ·rw [gU,yN]
  lia
theorem int_at {ns:List Int} {i:Nat} {y:V} (h:(ns.map V.int)[i]? = some y):∃ z,ns[i]? = some z/\y=V.int z:=by
 rw [iR] at h
 cases e:ns[i]? with
 | none=>rw [e] at h;cases h
 | some z=>rw [e] at h;exact ⟨z,rfl,(cI h).symm⟩
theorem wQ {ns:List Int} {i:Int} (h0:0<=i) (h1:i<(ns.length:Int)):∃ v,v∈ns/\atI (ns.map V.int) i=some (.int v):=by
 have e:ns[i.toNat]? = some (ns[i.toNat]'tb_g%):=fY tb_g%
 refine ⟨_,List.mem_of_getElem? e,?_⟩
 have:=Ql (xs:=ns.map V.int) (j:=i.toNat) (v:=.int (ns[i.toNat]'tb_g%)) (by rw [iR,e];rfl)
 rwa [aeC h0] at this
theorem four {a b c d v:Int} (h:v∈[a,b,c,d]):v=a\/v=b\/v=c\/v=d:=by simpa using h
theorem agP (f:Str) (v:V):bU f v []=[(f,v)]:=rfl
theorem aiu (f:Str) (v:V) (r:List (Str × V)) (u:V):bU f v ((f,u)::r)=(f,v)::r:=by
 unfold bU
 rw [if_pos rfl]
theorem aiv {f g:Str} (h:¬ g=f) (v:V) (r:List (Str × V)) (u:V):bU f v ((g,u)::r)=(g,u)::bU f v r:=by
 rw [bU,if_neg h]
theorem cR {f m:Str} {v:V} {r:List (Str × V)} (h:¬ m=f):((f,v)::r).lookup m=r.lookup m:=by
 rw [Vv]
 rw [beq_eq_false_iff_ne.mpr h]
theorem TJ {a:Addr}:decide (V.ref a=V.non)=false:=decide_eq_false (by intro z;cases z)
theorem TQ:decide (V.non=V.non)=true:=decide_eq_true rfl
theorem cT {p a:Addr} {H H':Hp} (b:But p H H') (h:H' a=none) (n:a≠p):H a=none:=by
 cases e:H a with
 | none=>rfl
 | some o=>rw [b a o e n] at h;cases h
section
variable {X:Cx}
end
end L2
set_option Elab.async false
set_option maxRecDepth 100000
set_option maxHeartbeats 4000000
namespace My
open PySem L2 MG
set_option genInjectivity false in
set_option genSizeOf false in
structure Ad where
 cV:Addr
 gW:Addr
 gQ:Addr
 gY:Addr
 rM:Addr
 bw:Addr
 gJ:Addr
 KJ:Addr
 Im:Addr
 Io:Addr
 Ip:Addr
 Ir:Addr
 f'0:Addr
 tV:FuncData
 f'1:Addr
 rA:FuncData
 f'2:Addr
 QJ:FuncData
 f'3:Addr
 tW:FuncData
 f'4:Addr
 oW:FuncData
 f'5:Addr
 JK:FuncData
 f'6:Addr
 DY:FuncData
 f'7:Addr
 tX:FuncData
 f'8:Addr
 v8:FuncData
 f'9:Addr
 JL:FuncData
 Ro:Addr
 rB:FuncData
 Xd:Addr
 mY:FuncData
 Xe:Addr
 tY:FuncData
 Xf:Addr
 rC:FuncData
 Xg:Addr
 JM:FuncData
 Xh:Addr
 ZQ:FuncData
 Rp:Addr
 mZ:FuncData
 Xi:Addr
 zR:FuncData
 Xj:Addr
 kY:FuncData
 Xk:Addr
 oX:FuncData
 Rq:Addr
 m8:FuncData
 Xl:Addr
 JN:FuncData
 Xm:Addr
 Ea:FuncData
 Xn:Addr
 oY:FuncData
 Xo:Addr
 oZ:FuncData
 Xp:Addr
 zT:FuncData
 Rr:Addr
 o8:FuncData
 Xq:Addr
 rD:FuncData
 Xr:Addr
 o9:FuncData
 Xu:Addr
 pA:FuncData
 Xv:Addr
 m9:FuncData
 Xw:Addr
 ni:FuncData
 Rt:Addr
 nu:FuncData
 Xx:Addr
 QK:FuncData
 Xy:Addr
 tZ:FuncData
 Xz:Addr
 uc:FuncData
 XC:Addr
 rE:FuncData
 XD:Addr
 zU:FuncData
 XF:Addr
 ud:FuncData
 XH:Addr
 JQ:FuncData
 XJ:Addr
 uf:FuncData
 XM:Addr
 Eb:FuncData
 XQ:Addr
 Ec:FuncData
 XR:Addr
 kZ:FuncData
 XS:Addr
 Ed:FuncData
 X3:Addr
 pB:FuncData
 X4:Addr
 zV:FuncData
 X5:Addr
 lY:FuncData
 X6:Addr
 lg:FuncData
 X7:Addr
 ug:FuncData
 X8:Addr
 JR:FuncData
 Yb:Addr
 uh:FuncData
 Yc:Addr
 zW:FuncData
 Yd:Addr
 v9:FuncData
 abl:Addr
 agQ:FuncData
variable {n room i h:Nat} {H H' G G' H0:Hp} {A:Ad} {C ks D ns:List Int} {v reach r span k th:Int} {fd:FuncData} {f l L dx e:Addr} {ls:RG.Ls} {xs vs:List V} {m q p0:Str} {c:Tab} {st s:Stmt} {p:Int × Int} {α:Type} {P':Addr->Prop} {R:Prop} {σ:St}
structure Tx (K:aZ) (mg:Str->Option Value) (A:Ad):Prop where
 bO:Cls K A.cV
 QL:mg "Rungs" = some (.ref A.cV)
 agR:Mk K A.cV A.f'7
 xV:cL K A.cV "room"
 Bw:cL K A.cV "total"
 Bx:cL K A.cV "over"
 BJ:cL K A.cV "under"
 qG:cL K A.cV "turns"
 BK:cL K A.cV "least"
 BL:cL K A.cV "most"
 xW:cL K A.cV "rungs"
 cU:Cls K A.gW
 TV:mg "Window" = some (.ref A.gW)
 ajs:Mk K A.gW A.Ro
 wg:cL K A.gW "room"
 wu:cL K A.gW "reach"
 mL:cL K A.gW "clock"
 xX:cL K A.gW "boxes"
 dR:Cls K A.gQ
 JT:mg "Distinct" = some (.ref A.gQ)
 ajt:Mk K A.gQ A.Rp
 wA:cL K A.gQ "room"
 xY:cL K A.gQ "arrivals"
 rY:cL K A.gQ "level"
 xZ:cL K A.gQ "kept"
 fu:Cls K A.gY
 zX:mg "Frequent" = some (.ref A.gY)
 agS:Mk K A.gY A.Rq
 yc:cL K A.gY "room"
 BP:cL K A.gY "total"
 BR:cL K A.gY "lost"
 BW:cL K A.gY "counts"
 jQ:Cls K A.rM
 MN:mg "Balance" = some (.ref A.rM)
 aju:Mk K A.rM A.Rr
 yd:cL K A.rM "span"
 uL:cL K A.rM "sums"
 aW:Cls K A.bw
 jd:mg "Keepsake" = some (.ref A.bw)
 JV:Mk K A.bw A.Rt
 yg:cL K A.bw "room"
 yh:cL K A.bw "reach"
 uM:cL K A.bw "span"
 yj:cL K A.bw "came"
 yp:cL K A.bw "went"
 yq:cL K A.bw "up"
 yt:cL K A.bw "down"
 uN:cL K A.bw "window"
 yu:cL K A.bw "seen"
 uO:cL K A.bw "balance"
 TY:∀ (H:Hp) (a dx:Addr) (fs:List (Str × V)),H a=some (.ins A.bw dx fs)->zE K H (.ref a) (.ref A.bw)
 pC:mg "Unlike" = some (.ref A.gJ)
 T5:mg "KeepError" = some (.ref A.KJ)
 acf:mg "BadText" = some (.ref A.Im)
 QM:mg "OutOfReach" = some (.ref A.Io)
 acg:mg "TooFine" = some (.ref A.Ip)
 QS:mg "TooManyOff" = some (.ref A.Ir)
 iW:Hw K A.gJ [.type "ValueError",.type "Exception",.type "BaseException",.type "object"] "ValueError.__new__" = true
 xG:Catch K A.gJ A.KJ
 Ef:K8 K A.gJ
 fH:oG K (.ref A.gJ) (.ref A.gJ)=some true
 dJ:oG K (.ref A.gJ) (.type "ValueError")=some true
 nY:VR K (.ref A.gJ) [(.ref A.Im),(.ref A.Io),(.ref A.Ip),(.ref A.Ir)]=some false
 F'0:Fun K "with_thing" "with_thing" s'0 A.f'0 A.tV
 b'0:Binds K A.tV ["lists","thing","weight"] []
 QT:mg "with_thing" = some (.ref A.f'0)
 F'1:Fun K "left_behind" "left_behind" s'1 A.f'1 A.rA
 b'1:Binds K A.rA ["things"] []
 La:mg "left_behind" = some (.ref A.f'1)
 F'2:Fun K "risen" "risen" s'2 A.f'2 A.QJ
 b'2:Binds K A.QJ ["things","turns"] []
 aiw:mg "risen" = some (.ref A.f'2)
 F'3:Fun K "turn" "Rungs.turn" s'3 A.f'3 A.tW
 b'3:Binds K A.tW ["self","stands_for"] []
 QV:Meth K A.cV "turn" A.f'3
 F'4:Fun K "settle" "Rungs.settle" s'4 A.f'4 A.oW
 b'4:Binds K A.oW ["self","lists"] []
 wB:Meth K A.cV "settle" A.f'4
 F'5:Fun K "lesser" "lesser" s'5 A.f'5 A.JK
 b'5:Binds K A.JK ["one","other"] []
 T6:mg "lesser" = some (.ref A.f'5)
 F'6:Fun K "greater" "greater" s'6 A.f'6 A.DY
 b'6:Binds K A.DY ["one","other"] []
 MP:mg "greater" = some (.ref A.f'6)
 F'7:Fun K "__init__" "Rungs.__init__" s'7 A.f'7 A.tX
 b'7:Binds K A.tX ["self","room"] []
 aix:Meth K A.cV "__init__" A.f'7
 F'8:Fun K "add" "Rungs.add" s'8 A.f'8 A.v8
 b'8:Binds K A.v8 ["self","thing","weight"] []
 Fb:Meth K A.cV "add" A.f'8
 F'9:Fun K "joined" "joined" s'9 A.f'9 A.JL
 b'9:Binds K A.JL ["boxes","room"] []
 agT:mg "joined" = some (.ref A.f'9)
 F'10:Fun K "__init__" "Window.__init__" s'10 A.Ro A.rB
 b'10:Binds K A.rB ["self","room","reach"] []
 ahC:Meth K A.gW "__init__" A.Ro
 F'11:Fun K "settle" "Window.settle" s'11 A.Xd A.mY
 b'11:Binds K A.mY ["self","boxes"] []
 nA:Meth K A.gW "settle" A.Xd
 F'12:Fun K "add" "Window.add" s'12 A.Xe A.tY
 b'12:Binds K A.tY ["self","weight"] []
 QW:Meth K A.gW "add" A.Xe
 F'13:Fun K "idle" "Window.idle" s'13 A.Xf A.rC
 b'13:Binds K A.rC ["self","many"] []
 yw:Meth K A.gW "idle" A.Xf
 F'14:Fun K "spread" "spread" s'14 A.Xg A.JM
 b'14:Binds K A.JM ["thing"] []
 agU:mg "spread" = some (.ref A.Xg)
 F'15:Fun K "mark" "mark" s'15 A.Xh A.ZQ
 b'15:Binds K A.ZQ ["thing"] []
 agV:mg "mark" = some (.ref A.Xh)
 F'16:Fun K "__init__" "Distinct.__init__" s'16 A.Rp A.mZ
 b'16:Binds K A.mZ ["self","room"] []
 acB:Meth K A.gQ "__init__" A.Rp
 F'17:Fun K "of_marks" "of_marks" s'17 A.Xi A.zR
 b'17:Binds K A.zR ["things","level"] []
 JW:mg "of_marks" = some (.ref A.Xi)
 F'18:Fun K "settle" "Distinct.settle" s'18 A.Xj A.kY
 b'18:Binds K A.kY ["self","things"] []
 qH:Meth K A.gQ "settle" A.Xj
 F'19:Fun K "add" "Distinct.add" s'19 A.Xk A.oX
 b'19:Binds K A.oX ["self","thing"] []
 JX:Meth K A.gQ "add" A.Xk
 F'20:Fun K "__init__" "Frequent.__init__" s'20 A.Rq A.m8
 b'20:Binds K A.m8 ["self","room"] []
 acC:Meth K A.gY "__init__" A.Rq
 F'21:Fun K "cut_of" "cut_of" s'21 A.Xl A.JN
 b'21:Binds K A.JN ["counts","room"] []
 agW:mg "cut_of" = some (.ref A.Xl)
 F'22:Fun K "lowered" "lowered" s'22 A.Xm A.Ea
 b'22:Binds K A.Ea ["counts","cut"] []
 ach:mg "lowered" = some (.ref A.Xm)
 F'23:Fun K "fit" "Frequent.fit" s'23 A.Xn A.oY
 b'23:Binds K A.oY ["self","grown"] []
 wC:Meth K A.gY "fit" A.Xn
 F'24:Fun K "add" "Frequent.add" s'24 A.Xo A.oZ
 b'24:Binds K A.oZ ["self","thing","weight"] []
 wD:Meth K A.gY "add" A.Xo
 F'25:Fun K "with_row" "with_row" s'25 A.Xp A.zT
 b'25:Binds K A.zT ["sums","thing","weight"] []
 JZ:mg "with_row" = some (.ref A.Xp)
 F'26:Fun K "__init__" "Balance.__init__" s'26 A.Rr A.o8
 b'26:Binds K A.o8 ["self","span"] []
 agX:Meth K A.rM "__init__" A.Rr
 F'27:Fun K "put" "Balance.put" s'27 A.Xq A.rD
 b'27:Binds K A.rD ["self","thing","weight"] []
 Lb:Meth K A.rM "put" A.Xq
 F'28:Fun K "take" "Balance.take" s'28 A.Xr A.o9
 b'28:Binds K A.o9 ["self","thing","weight"] []
 J0:Meth K A.rM "take" A.Xr
 F'29:Fun K "put" "Keepsake.put" s'29 A.Xu A.pA
 b'29:Binds K A.pA ["self","thing","weight"] []
 wF:Meth K A.bw "put" A.Xu
 F'30:Fun K "take" "Keepsake.take" s'30 A.Xv A.m9
 b'30:Binds K A.m9 ["self","thing","weight"] []
 uP:Meth K A.bw "take" A.Xv
 F'31:Fun K "idle" "Keepsake.idle" s'31 A.Xw A.ni
 b'31:Binds K A.ni ["self","many"] []
 Fl:Meth K A.bw "idle" A.Xw
 F'32:Fun K "__init__" "Keepsake.__init__" s'32 A.Rt A.nu
 ZR:Binds K A.nu ["self","room","reach","span"] []
 acD:Meth K A.bw "__init__" A.Rt
 F'33:Fun K "_law_mix" "_law_mix" s'33 A.Xx A.QK
 b'33:Binds K A.QK ["_law_cell","_law_factor","_law_prime"] []
 aaZ:mg "_law_mix" = some (.ref A.Xx)
 F'34:Fun K "_law_far_back" "_law_far_back" s'34 A.Xy A.tZ
 b'34:Binds K A.tZ [] []
 QX:mg "_law_far_back" = some (.ref A.Xy)
 F'35:Fun K "_law_thing_by" "_law_thing_by" s'35 A.Xz A.uc
 b'35:Binds K A.uc ["_law_cell"] []
 QZ:mg "_law_thing_by" = some (.ref A.Xz)
 F'36:Fun K "_law_weight_by" "_law_weight_by" s'36 A.XC A.rE
 b'36:Binds K A.rE ["_law_cell"] []
 Ld:mg "_law_weight_by" = some (.ref A.XC)
 F'37:Fun K "_law_row_by" "_law_row_by" s'37 A.XD A.zU
 b'37:Binds K A.zU ["_law_cell"] []
 ZS:mg "_law_row_by" = some (.ref A.XD)
 F'38:Fun K "_law_shape_by" "_law_shape_by" s'38 A.XF A.ud
 b'38:Binds K A.ud ["_law_cell"] []
 Q0:mg "_law_shape_by" = some (.ref A.XF)
 F'39:Fun K "_law_done" "_law_done" s'39 A.XH A.JQ
 b'39:Binds K A.JQ ["_law_keepsake","_law_row"] []
 agY:mg "_law_done" = some (.ref A.XH)
 agZ:Fun K "_law_frequent" "_law_frequent" s'40 A.XJ A.uf
 b'40:Binds K A.uf ["_law_one"] []
 nQ:mg "_law_frequent" = some (.ref A.XJ)
 ag0:Fun K "_law_rungs" "_law_rungs" s'41 A.XM A.Eb
 b'41:Binds K A.Eb ["_law_one"] []
 wR:mg "_law_rungs" = some (.ref A.XM)
 Eh:Fun K "_law_state" "_law_state" s'42 A.XQ A.Ec
 Fo:Binds K A.Ec ["_law_keepsake"] []
 fZ:mg "_law_state" = some (.ref A.XQ)
 ag1:Fun K "poured_frequent" "poured_frequent" s'43 A.XR A.kZ
 b'43:Binds K A.kZ ["one","other"] []
 iQ:mg "poured_frequent" = some (.ref A.XR)
 F'44:Fun K "list_at" "list_at" s'44 A.XS A.Ed
 b'44:Binds K A.Ed ["lists","place"] []
 M5:mg "list_at" = some (.ref A.XS)
 ag2:Fun K "poured_rungs" "poured_rungs" s'45 A.X3 A.pB
 b'45:Binds K A.pB ["one","other"] []
 lA:mg "poured_rungs" = some (.ref A.X3)
 F'46:Fun K "followed" "followed" s'46 A.X4 A.zV
 b'46:Binds K A.zV ["one","other"] []
 Ka:mg "followed" = some (.ref A.X4)
 F'47:Fun K "poured_balance" "poured_balance" s'47 A.X5 A.lY
 b'47:Binds K A.lY ["one","other"] []
 rZ:mg "poured_balance" = some (.ref A.X5)
 F'48:Fun K "poured_distinct" "poured_distinct" s'48 A.X6 A.lg
 b'48:Binds K A.lg ["one","other"] []
 qI:mg "poured_distinct" = some (.ref A.X6)
 ag3:Fun K "empty_like" "empty_like" s'49 A.X7 A.ug
 b'49:Binds K A.ug ["keepsake"] []
 nR:mg "empty_like" = some (.ref A.X7)
 aci:Fun K "poured" "poured" s'50 A.X8 A.JR
 ag4:Binds K A.JR ["one","other"] []
 wG:mg "poured" = some (.ref A.X8)
 F'51:Fun K "_law_by_parts" "_law_by_parts" s'51 A.Yb A.uh
 b'51:Binds K A.uh ["_law_one","_law_other"] []
 Q5:mg "_law_by_parts" = some (.ref A.Yb)
 F'52:Fun K "_law_unlike" "_law_unlike" s'52 A.Yc A.zW
 b'52:Binds K A.zW ["_law_one","_law_other"] []
 Kc:mg "_law_unlike" = some (.ref A.Yc)
 F'53:Fun K "_law_refused" "_law_refused" s'53 A.Yd A.v9
 b'53:Binds K A.v9 ["_law_keepsake","_law_room","_law_reach","_law_span"] []
 T7:mg "_law_refused" = some (.ref A.Yd)
 F'54:Fun K "law" "law" s'54 A.abl A.agQ
 b'54:Binds K A.agQ ["_law_script"] []
 g_law:mg "law" = some (.ref A.abl)
 Q6:mg "ValueError" = none
 ag5:mg "dict" = none
 nT:mg "isinstance" = none
 pD:mg "len" = none
 pF:mg "list" = none
 ag6:mg "max" = none
 n_min:mg "min" = none
 Q7:mg "range" = none
 Kd:mg "reversed" = none
 n_set:mg "set" = none
 pG:mg "sorted" = none
 ajv:mg "sum" = none
 n_zip:mg "zip" = none
 alT:∃ u,mg "MOST" = some u/\RelV (.int 1152921504606846976) u
 Fp:∃ u,mg "MOST_HALVINGS" = some u/\RelV (.int 60) u
 ag7:∃ u,mg "SPREAD" = some u/\RelV (.int 770093176312745717) u
 amv:oG K (.type "int") (.type "int")=some true
variable {P:aO} {w:World} {K:aZ} {mg:Str->Option Value} {base:Heap} {A:Ad}
local macro_rules | `(tactic| walk_at "sc") => `(tactic| exact ⟨rfl, rfl, rfl, by decide +kernel, rfl, by decide +kernel, by decide +kernel⟩)
theorem iu:aP ["lists","thing","weight","grown","place","bits"] ["lists","thing","weight"] (aH s'0):=by walk_at "sc"
theorem Ke:aP ["things"] ["things"] (aH s'1):=by walk_at "sc"
theorem ag8:aP ["things","turns"] ["things","turns"] (aH s'2):=by walk_at "sc"
theorem Le:aP ["self","stands_for"] ["self","stands_for"] (aH s'3):=by walk_at "sc"
theorem eY:aP ["self","lists","settled","place","stands_for","things"] ["self","lists"] (aH s'4):=by walk_at "sc"
theorem M6:aP ["one","other","known"] ["one","other"] (aH s'5):=by walk_at "sc"
theorem Kf:aP ["one","other","known"] ["one","other"] (aH s'6):=by walk_at "sc"
theorem Lf:aP ["self","room"] ["self","room"] (aH s'7):=by walk_at "sc"
theorem Q8:aP ["self","thing","weight"] ["self","thing","weight"] (aH s'8):=by walk_at "sc"
theorem ji:aP ["boxes","room","done","newer","at_hand","box"] ["boxes","room"] (aH s'9):=by walk_at "sc"
theorem Kg:aP ["self","room","reach"] ["self","room","reach"] (aH s'10):=by walk_at "sc"
theorem lZ:aP ["self","boxes","edge","within"] ["self","boxes"] (aH s'11):=by walk_at "sc"
theorem Lg:aP ["self","weight"] ["self","weight"] (aH s'12):=by walk_at "sc"
theorem Kl:aP ["self","many"] ["self","many"] (aH s'13):=by walk_at "sc"
theorem acj:aP ["thing"] ["thing"] (aH s'14):=by walk_at "sc"
theorem BX:aP ["thing","rest","halvings"] ["thing"] (aH s'15):=by walk_at "sc"
theorem Ei:aP ["self","room"] ["self","room"] (aH s'16):=by walk_at "sc"
theorem T8:aP ["things","level"] ["things","level"] (aH s'17):=by walk_at "sc"
theorem jG:aP ["self","things","left"] ["self","things"] (aH s'18):=by walk_at "sc"
theorem Ft:aP ["self","thing"] ["self","thing"] (aH s'19):=by walk_at "sc"
theorem Ej:aP ["self","room"] ["self","room"] (aH s'20):=by walk_at "sc"
theorem M7:aP ["counts","room","falling"] ["counts","room"] (aH s'21):=by walk_at "sc"
theorem um:aP ["counts","cut","left","thing","count"] ["counts","cut"] (aH s'22):=by walk_at "sc"
theorem uQ:aP ["self","grown","cut"] ["self","grown"] (aH s'23):=by walk_at "sc"
theorem uR:aP ["self","thing","weight","grown"] ["self","thing","weight"] (aH s'24):=by walk_at "sc"
theorem mO:aP ["sums","thing","weight","grown","share","held"] ["sums","thing","weight"] (aH s'25):=by walk_at "sc"
theorem Fv:aP ["self","span"] ["self","span"] (aH s'26):=by walk_at "sc"
theorem Km:aP ["self","thing","weight"] ["self","thing","weight"] (aH s'27):=by walk_at "sc"
theorem Fw:aP ["self","thing","weight"] ["self","thing","weight"] (aH s'28):=by walk_at "sc"
theorem Fx:aP ["self","thing","weight"] ["self","thing","weight"] (aH s'29):=by walk_at "sc"
theorem Ek:aP ["self","thing","weight"] ["self","thing","weight"] (aH s'30):=by walk_at "sc"
theorem El:aP ["self","many"] ["self","many"] (aH s'31):=by walk_at "sc"
theorem Em:aP ["self","room","reach","span"] ["self","room","reach","span"] (aH s'32):=by walk_at "sc"
theorem ag9:aP ["_law_cell","_law_factor","_law_prime"] ["_law_cell","_law_factor","_law_prime"] (aH s'33):=by walk_at "sc"
theorem mC:aP ["_law_way","_law_turn"] [] (aH s'34):=by walk_at "sc"
theorem rF:aP ["_law_cell","_law_how","_law_high"] ["_law_cell"] (aH s'35):=by walk_at "sc"
theorem Kq:aP ["_law_cell"] ["_law_cell"] (aH s'36):=by walk_at "sc"
theorem qJ:aP ["_law_cell","_law_kind","_law_thing","_law_weight"] ["_law_cell"] (aH s'37):=by walk_at "sc"
theorem mD:aP ["_law_cell","_law_room","_law_reach","_law_span"] ["_law_cell"] (aH s'38):=by walk_at "sc"
theorem acn:aP ["_law_keepsake","_law_row"] ["_law_keepsake","_law_row"] (aH s'39):=by walk_at "sc"
theorem Lh:aP ["_law_one"] ["_law_one"] (aH s'40):=by walk_at "sc"
theorem Kr:aP ["_law_one","_law_lists"] ["_law_one"] (aH s'41):=by walk_at "sc"
theorem uo:aP ["_law_keepsake","_law_window","_law_seen","_law_told"] ["_law_keepsake"] (aH s'42):=by walk_at "sc"
theorem fP:aP ["one","other","poured","together","thing","count"] ["one","other"] (aH s'43):=by walk_at "sc"
theorem ZV:aP ["lists","place"] ["lists","place"] (aH s'44):=by walk_at "sc"
theorem jx:aP ["one","other","poured","together","place"] ["one","other"] (aH s'45):=by walk_at "sc"
theorem wH:aP ["one","other","both","behind"] ["one","other"] (aH s'46):=by walk_at "sc"
theorem qK:aP ["one","other","poured"] ["one","other"] (aH s'47):=by walk_at "sc"
theorem pH:aP ["one","other","poured"] ["one","other"] (aH s'48):=by walk_at "sc"
theorem Li:aP ["keepsake"] ["keepsake"] (aH s'49):=by walk_at "sc"
theorem M8:aP ["one","other","both"] ["one","other"] (aH s'50):=by walk_at "sc"
theorem jt:aP ["_law_one","_law_other","_law_told","_law_window","_law_seen","_law_balance"] ["_law_one","_law_other"] (aH s'51):=by walk_at "sc"
theorem qL:aP ["_law_one","_law_other","_law_kinds","e"] ["_law_one","_law_other"] (aH s'52):=by walk_at "sc"
theorem nU:aP ["_law_keepsake","_law_room","_law_reach","_law_span","_law_others","_law_other"] ["_law_keepsake","_law_room","_law_reach","_law_span"] (aH s'53):=by walk_at "sc"
theorem pI:aP ["_law_script","_law_room","_law_reach","_law_span","_law_place","_law_one","_law_other","_law_k","_law_states","_law_due","_law_found"] ["_law_script"] (aH s'54):=by walk_at "sc"
noncomputable def aha (K:aZ):Sp:=fun vs H Q _=>∃ (a:Addr) (ns:List Int),vs=[.ref a]/\SqL K H a (ns.map V.int)/\ns.length<=63/\∀ H',Q (.bl true) H'
theorem sq {t u:TS} {D:Ends} (h:∀ R:St->Hp->Prop,(∀ σ H,u D σ H->R σ H)->t { D with nx:=R } σ H):tSeq t u D σ H:=h (u D) fun _ _ z=>z
theorem Ks {l:List Int} {t:Int} (h:l.length<=63/\l.Pairwise (· <= ·)):(l++[t]).length<64\/(l++[t]).length=64/\((l++[t]).take 63).Pairwise (· <= ·):=by
 rw [dH]
 rcases jk l.length 63 with z | z
 ·exact .inl (by show l.length+1<64;lia)
 ·have e:l.length=63:=by have:=h.1;lia
  exact .inr ⟨by show l.length+1=64;lia,by rw [<- e,adA];exact h.2⟩
local macro_rules | `(tactic| walk_at "rec") => `(tactic| repeat first | rw [agP] | rw [aiu] | (rw [aiv ?h]; (case h => decide +kernel)))
noncomputable def rg (aD bI cC bJ bK bL cD bM:V):List (Str × V):=[("room",aD),("total",bI),("over",cC),("under",bJ),("turns",bK),("least",bL),("most",cD),("rungs",bM)]
theorem uq (aD bI cC bJ bK bL cD bM:V):(rg aD bI cC bJ bK bL cD bM).lookup ("room" : Str)=some aD:=by rfl
theorem BZ (aD bI cC bJ bK bL cD bM:V):(rg aD bI cC bJ bK bL cD bM).lookup ("total" : Str)=some bI:=by rfl
theorem Gm (aD bI cC bJ bK bL cD bM:V):(rg aD bI cC bJ bK bL cD bM).lookup ("over" : Str)=some cC:=by rfl
theorem Ca (aD bI cC bJ bK bL cD bM:V):(rg aD bI cC bJ bK bL cD bM).lookup ("under" : Str)=some bJ:=by rfl
theorem mQ (aD bI cC bJ bK bL cD bM:V):(rg aD bI cC bJ bK bL cD bM).lookup ("turns" : Str)=some bK:=by rfl
theorem Cd (aD bI cC bJ bK bL cD bM:V):(rg aD bI cC bJ bK bL cD bM).lookup ("least" : Str)=some bL:=by rfl
theorem Gn (aD bI cC bJ bK bL cD bM:V):(rg aD bI cC bJ bK bL cD bM).lookup ("most" : Str)=some cD:=by rfl
theorem sy (aD bI cC bJ bK bL cD bM:V):(rg aD bI cC bJ bK bL cD bM).lookup ("rungs" : Str)=some bM:=by rfl
theorem alU (aD bI cC bJ bK bL cD bM:V):bU "rungs" bM (bU "most" cD (bU "least" bL (bU "turns" bK (bU "under" bJ (bU "over" cC (bU "total" bI (bU "room" aD [])))))))=rg aD bI cC bJ bK bL cD bM:=by
 unfold rg
 walk_at "rec"
theorem Ce (aD bI cC bJ bK bL cD bM y:V):bU "total" y (rg aD bI cC bJ bK bL cD bM)=rg aD y cC bJ bK bL cD bM:=by
 unfold rg
 walk_at "rec"
theorem Fd (aD bI cC bJ bK bL cD bM y:V):bU "over" y (rg aD bI cC bJ bK bL cD bM)=rg aD bI y bJ bK bL cD bM:=by
 unfold rg
 walk_at "rec"
theorem Cg (aD bI cC bJ bK bL cD bM y:V):bU "under" y (rg aD bI cC bJ bK bL cD bM)=rg aD bI cC y bK bL cD bM:=by
 unfold rg
 walk_at "rec"
theorem ur (aD bI cC bJ bK bL cD bM y:V):bU "turns" y (rg aD bI cC bJ bK bL cD bM)=rg aD bI cC bJ y bL cD bM:=by
 unfold rg
 walk_at "rec"
theorem Ci (aD bI cC bJ bK bL cD bM y:V):bU "least" y (rg aD bI cC bJ bK bL cD bM)=rg aD bI cC bJ bK y cD bM:=by
 unfold rg
 walk_at "rec"
theorem Fe (aD bI cC bJ bK bL cD bM y:V):bU "most" y (rg aD bI cC bJ bK bL cD bM)=rg aD bI cC bJ bK bL y bM:=by
 unfold rg
 walk_at "rec"
theorem Q9 (aD bI cC bJ bK bL cD bM y:V):bU "rungs" y (rg aD bI cC bJ bK bL cD bM)=rg aD bI cC bJ bK bL cD y:=by
 unfold rg
 walk_at "rec"
theorem rgN {aD bI cC bJ bK bL cD bM:V} (h:m∉[("room" : Str),("total" : Str),("over" : Str),("under" : Str),("turns" : Str),("least" : Str),("most" : Str),("rungs" : Str)]):(rg aD bI cC bJ bK bL cD bM).lookup m=none:=by
 simp only [bN,jK,or_false,not_or] at h
 obtain ⟨zY,aiy,alV,aiz,aiA,aiB,alW,aiC⟩:=h
 unfold rg
 rw [cR zY,cR aiy,cR alV,cR aiz,cR aiA,cR aiB,cR alW,cR aiC]
 rfl
/-- None,or a whole number -/
noncomputable def oV:Option Int->V
 | none=>.non
 | some i=>.int i
/-- a list of lists -/
structure LL (H:Hp) (a:Addr) (bs:List Addr) (ls:RG.Ls):Prop where
 o:H a=some (.lst (bs.map V.ref))
 n:bs.length=ls.length
 e:∀ (i:Nat) (b:Addr) (l:List Int),bs[i]? = some b->ls[i]? = some l->H b=some (.lst (l.map V.int))
 x:a∉bs
section
variable {a c:Addr} {bs:List Addr} {m:List Int}
theorem LL.same (h:LL H a bs ls) (s:Same H H'):LL H' a bs ls:=⟨s _ _ h.o,h.n,fun i b l e1 e2=>s _ _ (h.e i b l e1 e2),h.x⟩
theorem LL.at (h:LL H a bs ls) (hi:i<ls.length):∃ b l,bs[i]? = some b/\ls[i]? = some l/\H b=some (.lst (l.map V.int)):=by
 have hb:i<bs.length:=by rw [h.n];exact hi
 exact ⟨bs[i],ls[i],fY hb,fY hi,h.e i _ _ (fY hb) (fY hi)⟩
theorem LL.ix {b:Addr} (h:bs[i]? = some b):atI (bs.map V.ref) (i:Int)=some (.ref b):=Ql (by rw [iR,h];rfl)
theorem wU {j:Nat} (h:j<n):ixN n (j:Int)=some j:=by
 unfold ixN
 rw [if_pos tb_g%,if_pos tb_g%]
 simp
theorem LL.set (h:LL H a bs ls) (hc:H c=some (.lst (m.map V.int))) (nc:c≠a):LL (upd H a (.lst ((bs.map V.ref).set i (.ref c)))) a (bs.set i c) (ls.set i m):=by
 refine ⟨by rw [ao,List.map_set],by rw [lG,lG,h.n],fun j b l e1 e2=>?_,fun z=>?_⟩
 ·by_cases ij:i=j
  ·subst ij
   rw [List.getElem?_set] at e1 e2
   rw [if_pos rfl] at e1 e2
   split at e1
   ·split at e2
    ·obtain rfl:=cI e1
     obtain rfl:=cI e2
     rw [au nc];exact hc
    ·cases e2
   ·cases e1
  ·rw [yK ij] at e1 e2
   have nb:b≠a:=fun z=>h.x (by rw [<- z];exact List.mem_of_getElem? e1)
   rw [au nb]
   exact h.e j b l e1 e2
 ·rcases xM z with y | y
  ·exact h.x y
  ·exact nc y.symm
theorem LL.app (h:LL H a bs ls) (hc:H c=some (.lst (m.map V.int))) (nc:c≠a):LL (upd H a (.lst (bs.map V.ref++[.ref c]))) a (bs++[c]) (ls++[m]):=by
 refine ⟨by rw [ao,eG];rfl,by rw [dH,dH,h.n];rfl,fun j b l e1 e2=>?_,fun z=>?_⟩
 ·rcases jk j bs.length with lt | ge
  ·rw [Eo lt] at e1
   rw [Eo (by rw [<- h.n];exact lt)] at e2
   have nb:b≠a:=fun z=>h.x (by rw [<- z];exact List.mem_of_getElem? e1)
   rw [au nb]
   exact h.e j b l e1 e2
  ·rw [xK ge] at e1
   rw [xK (by rw [<- h.n];exact ge),<- h.n] at e2
   obtain e:j-bs.length=0:=by
    have:=(jB.mp e1).1
    have:j-bs.length<1:=this
    lia
   rw [e] at e1 e2
   obtain rfl:=cI e1
   obtain rfl:=cI e2
   rw [au nc];exact hc
 ·rcases d9.mp z with y | y
  ·exact h.x y
  ·exact nc (eZ.mp y).symm
/-- the same lists,in a new list -/
theorem LL.copy {g:Addr} (h:LL H a bs ls) (hg:H g=none):LL (upd H g (.lst (bs.map V.ref))) g bs ls:=by
 have s:Same H (upd H g (.lst (bs.map V.ref))):=Same.new hg
 refine ⟨ao,h.n,(h.same s).e,fun z=>?_⟩
 obtain ⟨i,hi,e⟩:=yL.mp z
 obtain ⟨b,l,e1,_,e3⟩:=h.at (i:=i) (by rw [<- h.n];exact hi)
 rw [fY hi,e] at e1
 obtain rfl:=cI e1
 rw [hg] at e3;cases e3
end
noncomputable def alX (σ:St) (_:Hp):Nat:=match σ with
 | [_,_,_,_,_,some (.int n)]=>n.toNat
 | _=>0
noncomputable def aiD:Sp:=fun vs H Q _=>∃ (a:Addr) (bs:List Addr) (ls:RG.Ls) (t w:Int),vs=[.ref a,.int t,.int w]/\LL H a bs ls/\0<=w/\w<2 ^ 64/\ls.length<=800/\(∀ l∈ls,(l.length<=63/\RG.Sd l)) /\
 ∀ (g:Addr) (bs':List Addr) (H':Hp),H g=none->LL H' g bs' (RG.gO t ls w.toNat)->Same H H'->(∀ c∈bs',c∈bs\/H c=none)->Q (.ref g) H'
theorem ok'0 (T:Tx K mg A):cP P w K mg base CX0 1 A.f'0 A.tV ["lists","thing","weight"] aiD:=by
 k_dat (T.F'0.ok,iu) "a"
 ·obtain ⟨a,bs,ls,t,w,rfl,_⟩:=h
  rfl
 ·obtain ⟨a,bs0,ls,t,w,rfl,hL,w0,w64,hn,h9,q⟩:=h
  have w64':w.toNat<2 ^ 64:=by lia
  refine ⟨_,(aq (aX (i:=3) iu.nd rfl (Or.inl rfl) (fJ (gA rfl) (by rfl) T.pF xP (aj (pv 0) aA)))
   (aq (aX (i:=4) iu.nd rfl (Or.inl rfl) aC)
   (aq (aX (i:=5) iu.nd rfl (Or.inl rfl) (pv 2))
   (aq (Ao uG (bB RZ (pv 5) aC (bR _)) (aq (fO (bB uH (pv 4) (cA dZ (by rfl) T.pD oh (aj (pv 3) aA)) (bR _)) (aF (bF (kE j7 jY jZ cM (pv 3) (aj (dY aA) aA)))) dj)
   (aq (fO (bB uH (aM dM (pv 5) aC) aC (bR _)) (aF (zA (cA Js (by rfl) T.pG Dj (aj (aM zF (fX (ixG (dO hr)) (pv 3) (pv 4) (fun _ _=>rfl)) (dY (aj (pv 1) aA))) aA)) (Du (pv 3) (pv 4) (setG (dO hr))))) dj)
   (aq (aX (i:=4) iu.nd rfl (Or.inl rfl) (aM cu (pv 4) aC))
   (aF (aX (i:=5) iu.nd rfl (Or.inl rfl) (aM iM (pv 5) aC)))))))
   (aF (cB (pv 3))))))),?_⟩
  refine ⟨_,rfl,.inl ⟨a,_,rfl,.inl (.inl (.inl hL.o)),fun g hg=>?_⟩⟩
  have L0:=hL.copy hg
  have s0:Same H (upd H g (.lst (bs0.map V.ref))):=Same.new hg
  generalize upd H g (.lst (bs0.map V.ref))=H1 at L0 s0 ⊢
  refine ⟨_,rfl,?_⟩
  refine Aq (fun σ G=>∃ (bs:List Addr) (ms:RG.Ls) (p k:Nat),σ=[some (.ref a),some (.int t),some (.int w),some (.ref g),some (.int (p:Int)),some (.int (k:Int))]/\LL G g bs ms/\Same H G/\p<=ms.length/\ms.length<=800/\k*2 ^ p<=w.toNat/\ms.take p++RG.gO t (ms.drop p) k=RG.gO t ls w.toNat/\(∀ l∈ms.drop p,(l.length<=63/\RG.Sd l))/\∀ c∈bs,c∈bs0\/H c=none) alX
   ⟨bs0,ls,0,w.toNat,by rw [aeC w0];rfl,L0,s0,cY _,hn,by rw [ad1];lia,rfl,h9,fun c hc=>.inl hc⟩ ?_ ?_
  ·rintro σ G ⟨bs,ms,p,k,rfl,L,sG,hp,h8,kp,eq,b9,fr⟩
   refine ⟨_,rfl,_,_,rfl,rfl,_,rfl,gP (fun hc=>?_) (fun hc=>?_)⟩
   ·have k0:0<k:=by have:=of_decide_eq_true hc;lia
    have p64:p<=63:=by
     rcases jk p (63+1) with z | z
     ·lia
     ·have h1:=V3 (show 0<2 by decide) z
      have h2:=V4 (2 ^ p) k0
      lia
    refine ⟨_,rfl,_,rfl,kO (.inl (.inl L.o)) ⟨rfl,_,rfl,gP (fun he=>?_) (fun he=>?_)⟩⟩
    ·have he:p=ms.length:=by
      have:=V.int.inj (of_decide_eq_true he)
      rw [bG,L.n] at this
      lia
     refine ⟨_,rfl,.inl ⟨rfl,_,.inl (.inl L.o)⟩,by show 0<=sizeLine;decide,fun c hc=>?_⟩
     have s1:Same G (upd G c (.lst [])):=Same.new hc
     have f1:(upd G c (.lst [])) c=some (.lst (([]:List Int).map V.int)):=ao
     generalize upd G c (.lst [])=G1 at s1 f1 ⊢
     have nc:c≠g:=aL (ak L.o hc)
     refine ⟨g,_,_,rfl,rfl,s1 _ _ L.o,aV (by rw [bG,L.n];lia),?_⟩
     have L2:=(L.same s1).app f1 nc
     have s2:Same H (upd G1 g (.lst (bs.map V.ref++[.ref c]))):=fun b o e=>by rw [au (ak e hg)];exact s1 _ _ (sG b o e)
     generalize upd G1 g (.lst (bs.map V.ref++[.ref c]))=GX at L2 s2 ⊢
     have lp:p<(ms++[[]]).length:=by rw [dH];show p<ms.length+1;lia
     have lp8:(ms++[[]]).length<=800:=by rw [dH];show ms.length+1<=800;lia
     have b92:∀ l∈(ms++[[]]).drop p,(l.length<=63/\RG.Sd l):=fun l hl=>by
      rw [he,adB] at hl
      rw [eZ.mp hl];exact ⟨cY _,List.Pairwise.nil⟩
     have fr2:∀ x∈bs++[c],x∈bs0\/H x=none:=fun x hx=>by
      rcases d9.mp hx with z | z
      ·exact fr x z
      ·rw [eZ.mp z];exact .inr (sG.free hc)
     have eq2:=(RG.ZC (t:=t) he (show k≠0 by lia)).trans eq
     obtain ⟨b,l,eb,el,hb⟩:=L2.at lp
     have hl9:(l.length<=63/\RG.Sd l):=b92 l (by rw [RG.fV el];exact cX)
     have e9:∀ m,∀ l∈((ms++[[]]).set p m).drop (p+1),(l.length<=63/\RG.Sd l):=fun m l hl=>b92 l (by rw [RG.set_drop] at hl;rw [RG.fV el];exact gF _ hl)
     have st:=RG.Jz (t:=t) el (show k≠0 by lia)
     have kh:k / 2*2 ^ (p+1)<=w.toNat:=by
      rw [vH,Dh (2 ^ p) 2,<- HD]
      exact jL (V4 _ tb_g%) kp
     have ek:((k:Int) / 2)=((k / 2:Nat):Int):=by lia
     have ep:((p:Int)+1)=((p+1:Nat):Int):=by lia
     refine ⟨_,rfl,_,_,rfl,rfl,(by show (0:Int)<2;decide),rfl,_,rfl,gP (fun hb2=>?_) (fun hb2=>?_)⟩
     ·have o2:k % 2=1:=by have:=V.int.inj (of_decide_eq_true hb2);lia
      rw [if_pos o2] at st
      refine ⟨_,rfl,_,rfl,qC (.inl (.inl L2.o)) (v:=.ref b) (LL.ix eb) ⟨_,rfl,by show 1<=sizeLine;decide,fun c1 hc1=>?_⟩⟩
      have y1:Same GX (upd GX c1 (.lst [.int t])):=Same.new hc1
      have z1:(upd GX c1 (.lst [.int t])) c1=some (.lst [.int t]):=ao
      generalize upd GX c1 (.lst [.int t])=J1 at y1 z1 ⊢
      refine ⟨b,c1,_,_,rfl,rfl,y1 _ _ hb,z1,mG (aV (by rw [bG];show l.length+1<=1000;lia)),fun c2 hc2=>?_⟩
      rw [show l.map V.int++[V.int t]=(l++[t]).map V.int by rw [eG];rfl]
      have y2:Same J1 (upd J1 c2 (.lst ((l++[t]).map V.int))):=Same.new hc2
      have z2:(upd J1 c2 (.lst ((l++[t]).map V.int))) c2=some (.lst ((l++[t]).map V.int)):=ao
      generalize upd J1 c2 (.lst ((l++[t]).map V.int))=J2 at y2 z2 ⊢
      refine ⟨c2,l++[t],rfl,.inl (.inl z2),Ks hl9,fun c3 ns hc3 pm so=>?_⟩
      obtain rfl:=RG.rm pm so
      have y3:Same J2 (upd J2 c3 (.lst ((RG.srt (l++[t])).map V.int))):=Same.new hc3
      have z3:(upd J2 c3 (.lst ((RG.srt (l++[t])).map V.int))) c3=some (.lst ((RG.srt (l++[t])).map V.int)):=ao
      generalize upd J2 c3 (.lst ((RG.srt (l++[t])).map V.int))=J3 at y3 z3 ⊢
      have y03:=y1.trans (y2.trans y3)
      have M3:=L2.same y03
      have nc3:c3≠g:=aL (ak ((y1.trans y2) _ _ L2.o) hc3)
      refine ⟨_,rfl,_,rfl,.inl ⟨g,_,_,p,rfl,rfl,M3.o,wU (by rw [bG,L2.n];exact lp),?_⟩⟩
      have M4:=M3.set (i:=p) z3 nc3
      have y4:Same H (upd J3 g (.lst (((bs++[c]).map V.ref).set p (.ref c3)))):=fun b o e=>by rw [au (ak e hg)];exact y03 _ _ (s2 b o e)
      generalize upd J3 g (.lst (((bs++[c]).map V.ref).set p (.ref c3)))=J4 at M4 y4 ⊢
      refine ⟨_,rfl,_,_,rfl,rfl,_,rfl,_,_,rfl,rfl,⟨by decide,by decide⟩,?_,?_⟩
      ·exact ⟨_,_,p+1,k / 2,by rw [<- ek,<- ep];rfl,M4,y4,by rw [lG];lia,by rw [lG];lia,kh,st.trans eq2,e9 _,fun c hc=>by
        rcases xM hc with z | z
        ·exact fr2 c z
        ·rw [z];exact .inr ((s2.trans (y1.trans y2)).free hc3)⟩
      ·show ((k:Int) / 2).toNat<(k:Int).toNat
       lia
     ·have o2:¬ k % 2=1:=fun z=>hb2 (decide_eq_true (congrArg V.int tb_g%))
      rw [if_neg o2,RG.Bs el] at st
      have e9':=e9 l
      rw [RG.Bs el] at e9'
      refine ⟨_,rfl,_,_,rfl,rfl,_,rfl,_,_,rfl,rfl,⟨by decide,by decide⟩,?_,?_⟩
      ·exact ⟨(bs++[c]),(ms++[[]]),p+1,k / 2,by rw [<- ek,<- ep];rfl,L2,s2,by lia,by lia,kh,st.trans eq2,e9',fr2⟩
      ·show ((k:Int) / 2).toNat<(k:Int).toNat
       lia
    ·have he:¬ p=ms.length:=fun z=>he (decide_eq_true (congrArg V.int (by rw [bG,L.n];lia)))
     have lp:p<ms.length:=by lia
     obtain ⟨b,l,eb,el,hb⟩:=L.at lp
     have hl9:(l.length<=63/\RG.Sd l):=b9 l (by rw [RG.fV el];exact cX)
     have e9:∀ m,∀ l∈(ms.set p m).drop (p+1),(l.length<=63/\RG.Sd l):=fun m l hl=>b9 l (by rw [RG.set_drop] at hl;rw [RG.fV el];exact gF _ hl)
     have st:=RG.Jz (t:=t) el (show k≠0 by lia)
     have kh:k / 2*2 ^ (p+1)<=w.toNat:=by
      rw [vH,Dh (2 ^ p) 2,<- HD]
      exact jL (V4 _ tb_g%) kp
     have ek:((k:Int) / 2)=((k / 2:Nat):Int):=by lia
     have ep:((p:Int)+1)=((p+1:Nat):Int):=by lia
     refine ⟨_,rfl,_,_,rfl,rfl,(by show (0:Int)<2;decide),rfl,_,rfl,gP (fun hb2=>?_) (fun hb2=>?_)⟩
     ·have o2:k % 2=1:=by have:=V.int.inj (of_decide_eq_true hb2);lia
      rw [if_pos o2] at st
      refine ⟨_,rfl,_,rfl,qC (.inl (.inl L.o)) (v:=.ref b) (LL.ix eb) ⟨_,rfl,by show 1<=sizeLine;decide,fun c1 hc1=>?_⟩⟩
      have y1:Same G (upd G c1 (.lst [.int t])):=Same.new hc1
      have z1:(upd G c1 (.lst [.int t])) c1=some (.lst [.int t]):=ao
      generalize upd G c1 (.lst [.int t])=J1 at y1 z1 ⊢
      refine ⟨b,c1,_,_,rfl,rfl,y1 _ _ hb,z1,mG (aV (by rw [bG];show l.length+1<=1000;lia)),fun c2 hc2=>?_⟩
      rw [show l.map V.int++[V.int t]=(l++[t]).map V.int by rw [eG];rfl]
      have y2:Same J1 (upd J1 c2 (.lst ((l++[t]).map V.int))):=Same.new hc2
      have z2:(upd J1 c2 (.lst ((l++[t]).map V.int))) c2=some (.lst ((l++[t]).map V.int)):=ao
      generalize upd J1 c2 (.lst ((l++[t]).map V.int))=J2 at y2 z2 ⊢
      refine ⟨c2,l++[t],rfl,.inl (.inl z2),Ks hl9,fun c3 ns hc3 pm so=>?_⟩
      obtain rfl:=RG.rm pm so
      have y3:Same J2 (upd J2 c3 (.lst ((RG.srt (l++[t])).map V.int))):=Same.new hc3
      have z3:(upd J2 c3 (.lst ((RG.srt (l++[t])).map V.int))) c3=some (.lst ((RG.srt (l++[t])).map V.int)):=ao
      generalize upd J2 c3 (.lst ((RG.srt (l++[t])).map V.int))=J3 at y3 z3 ⊢
      have y03:=y1.trans (y2.trans y3)
      have M3:=L.same y03
      have nc3:c3≠g:=aL (ak ((y1.trans y2) _ _ L.o) hc3)
      refine ⟨_,rfl,_,rfl,.inl ⟨g,_,_,p,rfl,rfl,M3.o,wU (by rw [bG,L.n];exact lp),?_⟩⟩
      have M4:=M3.set (i:=p) z3 nc3
      have y4:Same H (upd J3 g (.lst ((bs.map V.ref).set p (.ref c3)))):=fun b o e=>by rw [au (ak e hg)];exact y03 _ _ (sG b o e)
      generalize upd J3 g (.lst ((bs.map V.ref).set p (.ref c3)))=J4 at M4 y4 ⊢
      refine ⟨_,rfl,_,_,rfl,rfl,_,rfl,_,_,rfl,rfl,⟨by decide,by decide⟩,?_,?_⟩
      ·exact ⟨_,_,p+1,k / 2,by rw [<- ek,<- ep];rfl,M4,y4,by rw [lG];lia,by rw [lG];lia,kh,st.trans eq,e9 _,fun c hc=>by
        rcases xM hc with z | z
        ·exact fr c z
        ·rw [z];exact .inr ((sG.trans (y1.trans y2)).free hc3)⟩
      ·show ((k:Int) / 2).toNat<(k:Int).toNat
       lia
     ·have o2:¬ k % 2=1:=fun z=>hb2 (decide_eq_true (congrArg V.int tb_g%))
      rw [if_neg o2,RG.Bs el] at st
      have e9':=e9 l
      rw [RG.Bs el] at e9'
      refine ⟨_,rfl,_,_,rfl,rfl,_,rfl,_,_,rfl,rfl,⟨by decide,by decide⟩,?_,?_⟩
      ·exact ⟨bs,ms,p+1,k / 2,by rw [<- ek,<- ep];rfl,L,sG,by lia,by lia,kh,st.trans eq,e9',fr⟩
      ·show ((k:Int) / 2).toNat<(k:Int).toNat
       lia
   ·have k0:k=0:=by have:¬ (0:Int)<k:=fun z=>hc (decide_eq_true z);lia
    subst k0
    rw [RG.gR,CV] at eq
    rw [eq] at L
    exact ⟨_,rfl,q g bs G hg L sG fr⟩
  ·exact fun σ H Q Q' hq h=>lX (tU (cO 5) (zQ _)) σ H Q Q' hq h
noncomputable def alY:Sp:=fun vs H Q _=>∃ (b:Addr) (l:List Int),vs=[.ref b]/\H b=some (.lst (l.map V.int))/\∀ (c:Addr) (H':Hp),H c=none->H' c=some (.lst ((RG.lft l).map V.int))->Same H H'->Q (.ref c) H'
theorem ok'1 (T:Tx K mg A):cP P w K mg base CX0 1 A.f'1 A.rA ["things"] alY:=by
 k_dat (T.F'1.ok,Ke) "a"
 ·obtain ⟨b,l,rfl,_⟩:=h
  rfl
 ·obtain ⟨b,l,rfl,hb,q⟩:=h
  have h2:(l.length:Int)-(l.length:Int) % 2=((l.length-l.length % 2:Nat):Int):=by lia
  refine ⟨_,(aF (cB (Aw FW (pv 0) (tH (aM IV (cA dZ (by rfl) T.pD oh (aj (pv 0) aA)) (aM dM (cA dZ (by rfl) T.pD oh (aj (pv 0) aA)) aC))) FT))),?_⟩
  refine ⟨_,rfl,_,rfl,kO (.inl (.inl hb)) ⟨_,rfl,kO (.inl (.inl hb)) ⟨_,_,rfl,rfl,(by show (0:Int)<2;decide),_,_,rfl,rfl,_,rfl,b,_,rfl,.inl (.inl hb),fun c hc=>?_⟩⟩⟩
  rw [bG,h2]
  have e:KR (l.map V.int) (some ((l.length-l.length % 2:Nat):Int)) none=(RG.lft l).map V.int:=by
   rw [RG.Te,Ot]
   unfold KR HT.sIx
   simp only [bG]
   rw [if_neg tb_g%]
   rw [pL]
   ·congr 1
    simp
   ·rw [yN,bG]
    simp
  rw [e]
  exact q c _ hc ao (Same.new hc)
noncomputable def aiE:Sp:=fun vs H Q _=>∃ (b:Addr) (l:List Int) (tn:Int),vs=[.ref b,.int tn]/\H b=some (.lst (l.map V.int))/\∀ (c:Addr) (H':Hp),H c=none->H' c=some (.lst ((RG.pick (decide (tn % 2=1)) l).map V.int))->Same H H'->Q (.ref c) H'
theorem ok'2 (T:Tx K mg A):cP P w K mg base CX0 1 A.f'2 A.QJ ["things","turns"] aiE:=by
 k_dat (T.F'2.ok,ag8) "a"
 ·obtain ⟨b,l,tn,rfl,_⟩:=h
  rfl
 ·obtain ⟨b,l,tn,rfl,hb,q⟩:=h
  refine ⟨_,(aF (cB (ab2 (pv 0) (tH (aM dM (pv 1) aC)) (tH (aM IV (cA dZ (by rfl) T.pD oh (aj (pv 0) aA)) (aM dM (cA dZ (by rfl) T.pD oh (aj (pv 0) aA)) aC))) (tH aC)))),?_⟩
  refine ⟨_,rfl,_,rfl,_,_,rfl,rfl,(by show (0:Int)<2;decide),_,rfl,?_⟩
  refine ⟨_,rfl,kO (.inl (.inl hb)) ⟨_,rfl,kO (.inl (.inl hb)) ⟨_,_,rfl,rfl,(by show (0:Int)<2;decide),_,_,rfl,rfl,_,rfl,?_⟩⟩⟩
  refine ⟨_,rfl,rfl,b,_,rfl,.inl (.inl hb),fun c hc=>?_⟩
  rw [bG,ab3 tb_g%]
  exact q c _ hc ao (Same.new hc)
noncomputable def alZ (A:Ad):Sp:=fun vs H Q _=>∃ (p dx:Addr) (r T ov un tn st:Int) (mi ma rf:V),vs=[.ref p,.int st]/\H p=some (.ins A.cV dx (rg (.int r) (.int T) (.int ov) (.int un) (.int tn) mi ma rf)) /\
 Q .non (upd H p (.ins A.cV dx (rg (.int r) (.int T) (.int (if tn % 2=0 then ov+st else ov)) (.int (if tn % 2=0 then un else un+st)) (.int (tn+1)) mi ma rf)))
theorem ok'3 (T:Tx K mg A):cP P w K mg base CX0 1 A.f'3 A.tW ["self","stands_for"] (alZ A):=by
 k_dat (T.F'3.ok,Le) "a"
 ·obtain ⟨p,dx,r,T,ov,un,tn,st,mi,ma,rf,rfl,_⟩:=h
  rfl
 ·obtain ⟨p,dx,r,T',ov,un,tn,st,mi,ma,rf,rfl,hp,q⟩:=h
  refine ⟨_,(aq (fO (bB uH (aM dM (aB (pv 0) rfl) aC) aC (bR _)) (aF (aU (pv 0) (aM cu (aB (pv 0) rfl) (pv 1)) rfl)) (aF (aU (pv 0) (aM cu (aB (pv 0) rfl) (pv 1)) rfl)))
   (aF (aU (pv 0) (aM cu (aB (pv 0) rfl) aC) rfl))),?_⟩
  refine ⟨_,rfl,rdF hp T.bO T.qG (mQ ..) ⟨_,_,rfl,rfl,(by show (0:Int)<2;decide),rfl,_,rfl,gP (fun h=>?_) (fun h=>?_)⟩⟩
  ·have h0:tn % 2=0:=V.int.inj (of_decide_eq_true h)
   rw [if_pos h0,if_pos h0] at q
   refine ⟨_,rfl,rdF hp T.bO T.Bx (Gm ..) ⟨_,rfl,_,_,rfl,rfl,_,rfl,p,_,dx,_,rfl,hp,T.bO,T.Bx,(by show 8<1000;decide),?_⟩⟩
   rw [Fd]
   refine ⟨_,rfl,rdF ao T.bO T.qG (mQ ..) ⟨_,_,rfl,rfl,_,rfl,p,_,dx,_,rfl,ao,T.bO,T.qG,(by show 8<1000;decide),?_⟩⟩
   rw [ur,cQ]
   exact q
  ·have h0:¬ tn % 2=0:=fun z=>h (decide_eq_true (congrArg V.int z))
   rw [if_neg h0,if_neg h0] at q
   refine ⟨_,rfl,rdF hp T.bO T.BJ (Ca ..) ⟨_,rfl,_,_,rfl,rfl,_,rfl,p,_,dx,_,rfl,hp,T.bO,T.BJ,(by show 8<1000;decide),?_⟩⟩
   rw [Cg]
   refine ⟨_,rfl,rdF ao T.bO T.qG (mQ ..) ⟨_,_,rfl,rfl,_,rfl,p,_,dx,_,rfl,ao,T.bO,T.qG,(by show 8<1000;decide),?_⟩⟩
   rw [ur,cQ]
   exact q
theorem LL.but {a p C:Addr} {bs:List Addr} {fs:List (Str × V)} (h:LL H a bs ls) (b:But p H H') (hp:H p=some (.ins C e fs)):LL H' a bs ls :=
 ⟨b _ _ h.o (jq h.o hp (by intro z;cases z)),h.n,fun i c l e1 e2=>b _ _ (h.e i c l e1 e2) (jq (h.e i c l e1 e2) hp (by intro z;cases z)),h.x⟩
noncomputable def placeOf (σ:St) (_:Hp):Nat:=match σ with
 | [_,_,_,some (.int n),_,_]=>(1000-n).toNat
 | _=>0
noncomputable def ahb (A:Ad):Sp:=fun vs H Q _=>∃ (p dx a:Addr) (bs:List Addr) (ls:RG.Ls) (r tt ov un tn:Int) (mi ma:Option Int) (rf:V),vs=[.ref p,.ref a]/\H p=some (.ins A.cV dx (rg (.int r) (.int tt) (.int ov) (.int un) (.int tn) (oV mi) (oV ma) rf))/\LL H a bs ls/\2<=r/\r<=64/\((∀ l∈ls,l.length<=31)\/∀ l∈ls,(l.length:Int)<=r)/\ls.length<=400/\RG.val ls<2 ^ 500 /\
 ∀ (g:Addr) (bs':List Addr) (out:RG.Ls) (tn' ov' un':Int) (H':Hp),RG.Stl r 0 tn ov un ls out tn' ov' un'->H g=none->LL H' g bs' out->H' p=some (.ins A.cV dx (rg (.int r) (.int tt) (.int ov') (.int un') (.int tn') (oV mi) (oV ma) (.ref g)))->But p H H'->out.length<=501->(∀ c∈bs',c∈bs\/H c=none)->Q .non H'
theorem ok'4 (T:Tx K mg A):cP P w K mg base CX0 2 A.f'4 A.oW ["self","lists"] (ahb A):=by
 k_dat (T.F'4.ok,eY) "a"
 ·obtain ⟨p,dx,a,bs,ls,r,tt,ov,un,tn,mi,ma,rf,rfl,_⟩:=h
  rfl
 ·obtain ⟨p,dx,a,bs0,ls,r,tt,ov,un,tn,mi,ma,rf,rfl,hp,hL,r2,r64,h2,h4,h5,q⟩:=h
  refine ⟨_,(aq (aX (i:=2) eY.nd rfl (Or.inl rfl) (fJ (gA rfl) (by rfl) T.pF xP (aj (pv 1) aA)))
   (aq (aX (i:=3) eY.nd rfl (Or.inl rfl) aC)
   (aq (aX (i:=4) eY.nd rfl (Or.inl rfl) aC)
   (aq (Ao uG (bB IW (pv 3) (cA dZ (by rfl) T.pD oh (aj (pv 2) aA)) (bR _)) (aq (aX (i:=5) eY.nd rfl (Or.inl rfl) (fX (ixG (dO hr)) (pv 2) (pv 3) (fun _ _=>rfl)))
   (aq (fO (bB RZ (cA dZ (by rfl) T.pD oh (aj (pv 5) aA)) (aB (pv 0) rfl) (bR _)) (aq (fO (bB uH (aM cu (pv 3) aC) (cA dZ (by rfl) T.pD oh (aj (pv 2) aA)) (bR _)) (aF (bF (kE j7 jY jZ cM (pv 2) (aj (dY aA) aA)))) dj)
   (aq (zA (aJ (ok'1 T) tb_g% rfl T.La T.F'1.kp T.b'1 .nil aQ (aj (pv 5) aA)) (Du (pv 2) (pv 3) (setG (dO hr))))
   (aq (zA (cA (Bk rfl) (by rfl) T.pG Dj (aj (aM zF (fX (ixG (dO hr)) (pv 2) (aM cu (pv 3) aC) (fun _ _=>rfl)) (aJ (ok'2 T) tb_g% rfl T.aiw T.F'2.kp T.b'2 .nil aQ (aj (pv 5) (aj (aB (pv 0) rfl) aA)))) aA)) (Du (pv 2) (aM cu (pv 3) aC) (setG (dO hr))))
   (aF (bF (dG (pv 0) T.bO T.QV (ok'3 T) tb_g% T.b'3 .nil aQ (aj (pv 4) aA))))))) dj)
   (aq (aX (i:=3) eY.nd rfl (Or.inl rfl) (aM cu (pv 3) aC))
   (aF (aX (i:=4) eY.nd rfl (Or.inl rfl) (aM qX (pv 4) aC)))))))
   (aF (aU (pv 0) (pv 2) rfl)))))),?_⟩
  refine ⟨_,rfl,.inl ⟨a,_,rfl,.inl (.inl (.inl hL.o)),fun g hg=>?_⟩⟩
  have L0:=hL.copy hg
  have s0:Same H (upd H g (.lst (bs0.map V.ref))):=Same.new hg
  generalize upd H g (.lst (bs0.map V.ref))=H1 at L0 s0 ⊢
  refine Aq (fun σ G=>∃ (bs:List Addr) (ms:RG.Ls) (j:Nat) (tn2 ov2 un2:Int) (x:Option V),σ=[some (.ref p),some (.ref a),some (.ref g),some (.int (j:Int)),some (.int (2 ^ j)),x]/\LL G g bs ms/\G p=some (.ins A.cV dx (rg (.int r) (.int tt) (.int ov2) (.int un2) (.int tn2) (oV mi) (oV ma) rf))/\But p H G/\RG.Run r tn ov un ls j tn2 ov2 un2 ms/\ms.length<=501/\∀ c∈bs,c∈bs0\/H c=none) placeOf
   ⟨bs0,ls,0,tn,ov,un,none,rfl,L0,s0 _ _ hp,s0.but p,RG.Run.start,by lia,fun c hc=>.inl hc⟩ ?_ ?_
  ·rintro σ G ⟨bs,ms,j,tn2,ov2,un2,x,rfl,L,gp,bt,R,ln,fr⟩
   have jl:=R.le
   have ep:((j:Int)+1)=((j+1:Nat):Int):=by lia
   refine ⟨_,rfl,_,rfl,kO (.inl (.inl L.o)) ⟨_,_,rfl,rfl,_,rfl,gP (fun hc=>?_) (fun hc=>?_)⟩⟩
   ·have hj:j<ms.length:=by
     have:=of_decide_eq_true hc
     rw [bG,L.n] at this
     lia
    obtain ⟨b,l,eb,el,hb⟩:=L.at hj
    have nbg:b≠g:=fun z=>L.x (by rw [<- z];exact List.mem_of_getElem? eb)
    refine ⟨_,rfl,_,rfl,qC (.inl (.inl L.o)) (v:=.ref b) (LL.ix eb) ?_⟩
    refine ⟨_,rfl,kO (.inl (.inl hb)) ⟨_,rfl,rdF gp T.bO T.xV (uq ..) ⟨_,_,rfl,rfl,_,rfl,gP (fun hg2=>?_) (fun hg2=>?_)⟩⟩⟩
    ·have hgt:r<(l.length:Int):=by have:=of_decide_eq_true hg2;rw [bG] at this;exact this
     have hs:∀ l∈ls,l.length<=31:=h2.resolve_right fun z=>by
      have e:=R.b0 z
      have:=z l (by rw [<- e];exact List.mem_of_getElem? el)
      lia
     have ll4:=R.b1 hs l (List.mem_of_getElem? el)
     have hl2:2<=l.length:=by lia
     have hbig:=R.big el (fun z=>by rw [z] at hl2;exact absurd hl2 (by decide))
     have j5:j<500:=by
      rcases jk j 500 with z | z
      ·exact z
      ·have:=V3 (show 0<2 by decide) z
       lia
     refine ⟨_,rfl,_,_,rfl,rfl,_,rfl,kO (.inl (.inl L.o)) ⟨rfl,_,rfl,gP (fun he=>?_) (fun he=>?_)⟩⟩
     ·have he:j+1=ms.length:=by
       have:=V.int.inj (of_decide_eq_true he)
       rw [bG,L.n] at this
       lia
      refine ⟨_,rfl,.inl ⟨rfl,_,.inl (.inl L.o)⟩,by show 0<=sizeLine;decide,fun c hc0=>?_⟩
      have s1:Same G (upd G c (.lst [])):=Same.new hc0
      have f1:(upd G c (.lst [])) c=some (.lst (([]:List Int).map V.int)):=ao
      generalize upd G c (.lst [])=G1 at s1 f1 ⊢
      have nc:c≠g:=aL (ak L.o hc0)
      refine ⟨g,_,_,rfl,rfl,s1 _ _ L.o,aV (by rw [bG,L.n];lia),?_⟩
      have LX:=(L.same s1).app f1 nc
      have gx:∀ x o,G x=some o->x≠g->(upd G1 g (.lst (bs.map V.ref++[.ref c]))) x=some o:=fun x o e n=>by rw [au n];exact s1 _ _ e
      have pX:=gx _ _ gp (jq gp L.o (by intro z;cases z))
      have bX:=gx _ _ hb nbg
      have btX:But p H (upd G1 g (.lst (bs.map V.ref++[.ref c]))):=fun b o e n=>gx _ _ (bt b o e n) (ak e hg)
      generalize upd G1 g (.lst (bs.map V.ref++[.ref c]))=GX at LX pX bX btX ⊢
      obtain ⟨nx,MR⟩:∃ nx:List Int,RG.More j ms (ms++[[]]) nx:=⟨[],.inr ⟨he,rfl,rfl⟩⟩
      have hb:=bX
      have SG:Same GX GX:=Same.refl _
      have fr2:∀ x∈bs++[c],x∈bs0\/H x=none:=fun x hx=>by
       rcases d9.mp hx with z | z
       ·exact fr x z
       ·rw [eZ.mp z];exact .inr (cT bt hc0 fun y=>by rw [y,gp] at hc0;cases hc0)
      have LN:(ms++[[]]).length<=501:=by rw [dH];show ms.length+1<=501;lia
      obtain ⟨h1,h2,_,_,_⟩:=MR.at el
      obtain ⟨hp1,_⟩:=jB.mp h1
      obtain ⟨hp2,_⟩:=jB.mp h2
      have hb':GX b=some (.lst (l.map V.int)):=SG _ _ hb
      refine ⟨_,rfl,b,l,rfl,hb',fun c1 G1 nc1 f1 s1=>?_⟩
      have L1:=LX.same s1
      have n1:c1≠g:=aL (ak LX.o nc1)
      refine ⟨_,rfl,_,rfl,.inl ⟨g,_,_,j,rfl,rfl,L1.o,wU (by rw [bG,LX.n];exact hp1),?_⟩⟩
      have L2:=L1.set (i:=j) f1 n1
      have pg:p≠g:=jq (s1 _ _ pX) L1.o (by intro z;cases z)
      have u2:∀ x o,G1 x=some o->x≠g->(upd G1 g (.lst (((bs++[c]).map V.ref).set j (.ref c1)))) x=some o:=fun x o e n=>by rw [au n];exact e
      have po2:=u2 _ _ (s1 _ _ pX) pg
      have hb2:=u2 _ _ (s1 _ _ hb') nbg
      have s02:But p H (upd G1 g (.lst (((bs++[c]).map V.ref).set j (.ref c1)))):=fun x o e n=>u2 _ _ (s1 _ _ (btX x o e n)) (ak e hg)
      generalize upd G1 g (.lst (((bs++[c]).map V.ref).set j (.ref c1)))=G2 at L2 po2 hb2 s02 ⊢
      have e2:((ms++[[]]).set j (RG.lft l))[j+1]? = some nx:=by rw [yK tb_g%];exact h2
      obtain ⟨b3,l3,eb3,el3,hb3⟩:=L2.at (i:=j+1) (by rw [lG];exact hp2)
      obtain rfl:l3=nx:=by rw [e2] at el3;exact (cI el3).symm
      have nx2:l3.length<=31:=by
       rcases MR with ⟨_,e⟩ | ⟨_,_,e⟩
       ·exact R.b2 hs l3 (by rw [RG.fV e];exact cX)
       ·rw [e];exact cY _
      refine ⟨_,rfl,_,rfl,_,_,rfl,rfl,qC (.inl (.inl L2.o)) (v:=.ref b3) (by rw [ep];exact LL.ix eb3) ?_⟩
      refine ⟨_,rfl,_,rfl,rdF po2 T.bO T.qG (mQ ..) ⟨b,l,tn2,rfl,hb2,fun c4 G4 nc4 f4 s4=>?_⟩⟩
      have lp:=RG.mK (decide (tn2 % 2=1)) l
      refine ⟨b3,c4,_,_,rfl,rfl,s4 _ _ hb3,f4,mG (aV (by rw [bG,bG];lia)),fun c5 nc5=>?_⟩
      rw [<- eG]
      have s5:Same G4 (upd G4 c5 (.lst ((l3++RG.pick (decide (tn2 % 2=1)) l).map V.int))):=Same.new nc5
      have f5:(upd G4 c5 (.lst ((l3++RG.pick (decide (tn2 % 2=1)) l).map V.int))) c5=some (.lst ((l3++RG.pick (decide (tn2 % 2=1)) l).map V.int)):=ao
      generalize upd G4 c5 (.lst ((l3++RG.pick (decide (tn2 % 2=1)) l).map V.int))=G5 at s5 f5 ⊢
      refine .inr ⟨c5,_,rfl,.inl (.inl f5),by rw [dH];lia,fun c6 ns nc6 pm so=>?_⟩
      obtain rfl:=RG.rm pm so
      have s6:Same G5 (upd G5 c6 (.lst ((RG.srt (l3++RG.pick (decide (tn2 % 2=1)) l)).map V.int))):=Same.new nc6
      have f6:(upd G5 c6 (.lst ((RG.srt (l3++RG.pick (decide (tn2 % 2=1)) l)).map V.int))) c6=some (.lst ((RG.srt (l3++RG.pick (decide (tn2 % 2=1)) l)).map V.int)):=ao
      generalize upd G5 c6 (.lst ((RG.srt (l3++RG.pick (decide (tn2 % 2=1)) l)).map V.int))=G6 at s6 f6 ⊢
      have s26:=s4.trans (s5.trans s6)
      have L6:=L2.same s26
      have n6:c6≠g:=aL (ak ((s4.trans s5) _ _ L2.o) nc6)
      refine ⟨_,rfl,_,rfl,_,_,rfl,rfl,.inl ⟨g,_,_,j+1,rfl,rfl,L6.o,by rw [ep];exact wU (by rw [bG,lG,LX.n];exact hp2),?_⟩⟩
      have L7:=L6.set (i:=j+1) f6 n6
      have po7:(upd G6 g (.lst ((((bs++[c]).set j c1).map V.ref).set (j+1) (.ref c6)))) p=_:=(au pg).trans (s26 _ _ po2)
      have s07:But p H (upd G6 g (.lst ((((bs++[c]).set j c1).map V.ref).set (j+1) (.ref c6)))):=fun x o e n=>by rw [au (ak e hg)];exact s26 _ _ (s02 x o e n)
      generalize upd G6 g (.lst ((((bs++[c]).set j c1).map V.ref).set (j+1) (.ref c6)))=G7 at L7 po7 s07 ⊢
      refine ⟨_,rfl,p,dx,_,rfl,po7,rgN tb_g%,_,rfl,p,dx,r,tt,ov2,un2,tn2,2 ^ j,oV mi,oV ma,rf,rfl,po7,?_⟩
      have R8:=R.turn MR el hgt
      have L8:LL (upd G7 p (.ins A.cV dx (rg (.int r) (.int tt) (.int (if tn2 % 2=0 then ov2+2 ^ j else ov2)) (.int (if tn2 % 2=0 then un2 else un2+2 ^ j)) (.int (tn2+1)) (oV mi) (oV ma) rf))) g _ _:=L7.but (But.upd) po7
      have po8:(upd G7 p (.ins A.cV dx (rg (.int r) (.int tt) (.int (if tn2 % 2=0 then ov2+2 ^ j else ov2)) (.int (if tn2 % 2=0 then un2 else un2+2 ^ j)) (.int (tn2+1)) (oV mi) (oV ma) rf))) p=_:=ao
      have s08:But p H (upd G7 p (.ins A.cV dx (rg (.int r) (.int tt) (.int (if tn2 % 2=0 then ov2+2 ^ j else ov2)) (.int (if tn2 % 2=0 then un2 else un2+2 ^ j)) (.int (tn2+1)) (oV mi) (oV ma) rf))):=s07.trans But.upd
      generalize upd G7 p (.ins A.cV dx (rg (.int r) (.int tt) (.int (if tn2 % 2=0 then ov2+2 ^ j else ov2)) (.int (if tn2 % 2=0 then un2 else un2+2 ^ j)) (.int (tn2+1)) (oV mi) (oV ma) rf))=G8 at L8 po8 s08 ⊢
      refine ⟨_,rfl,_,_,rfl,rfl,_,rfl,_,_,rfl,rfl,jh (by decide) (by decide),?_,?_⟩
      ·exact ⟨_,_,j+1,_,_,_,_,by rw [<- ep,vI];rfl,L8,po8,s08,R8,by rw [lG,lG];exact LN,fun c hc=>by
        rcases xM hc with z | z
        ·rcases xM z with z | z
         ·exact fr2 c z
         ·rw [z];exact .inr (cT btX nc1 fun y=>by rw [y,pX] at nc1;cases nc1)
        ·rw [z];exact .inr (cT (s02.trans ((s4.trans s5).but p)) nc6 fun y=>by rw [y,(s4.trans s5) _ _ po2] at nc6;cases nc6)⟩
      ·show (1000-((j:Int)+1)).toNat<(1000-(j:Int)).toNat
       lia
     ·have he:¬ j+1=ms.length:=fun z=>he (decide_eq_true (congrArg V.int (by rw [bG,L.n];lia)))
      obtain ⟨b',nx,eb',el',_⟩:=L.at (i:=j+1) tb_g%
      have MR:RG.More j ms ms nx:=.inl ⟨rfl,el'⟩
      have SG:Same G G:=Same.refl _
      have LN:=ln
      obtain ⟨h1,h2,_,_,_⟩:=MR.at el
      obtain ⟨hp1,_⟩:=jB.mp h1
      obtain ⟨hp2,_⟩:=jB.mp h2
      have hb':G b=some (.lst (l.map V.int)):=SG _ _ hb
      refine ⟨_,rfl,b,l,rfl,hb',fun c1 G1 nc1 f1 s1=>?_⟩
      have L1:=L.same s1
      have n1:c1≠g:=aL (ak L.o nc1)
      refine ⟨_,rfl,_,rfl,.inl ⟨g,_,_,j,rfl,rfl,L1.o,wU (by rw [bG,L.n];exact hp1),?_⟩⟩
      have L2:=L1.set (i:=j) f1 n1
      have pg:p≠g:=jq (s1 _ _ gp) L1.o (by intro z;cases z)
      have u2:∀ x o,G1 x=some o->x≠g->(upd G1 g (.lst ((bs.map V.ref).set j (.ref c1)))) x=some o:=fun x o e n=>by rw [au n];exact e
      have po2:=u2 _ _ (s1 _ _ gp) pg
      have hb2:=u2 _ _ (s1 _ _ hb') nbg
      have s02:But p H (upd G1 g (.lst ((bs.map V.ref).set j (.ref c1)))):=fun x o e n=>u2 _ _ (s1 _ _ (bt x o e n)) (ak e hg)
      generalize upd G1 g (.lst ((bs.map V.ref).set j (.ref c1)))=G2 at L2 po2 hb2 s02 ⊢
      have e2:(ms.set j (RG.lft l))[j+1]? = some nx:=by rw [yK tb_g%];exact h2
      obtain ⟨b3,l3,eb3,el3,hb3⟩:=L2.at (i:=j+1) (by rw [lG];exact hp2)
      obtain rfl:l3=nx:=by rw [e2] at el3;exact (cI el3).symm
      have nx2:l3.length<=31:=by
       rcases MR with ⟨_,e⟩ | ⟨_,_,e⟩
       ·exact R.b2 hs l3 (by rw [RG.fV e];exact cX)
       ·rw [e];exact cY _
      refine ⟨_,rfl,_,rfl,_,_,rfl,rfl,qC (.inl (.inl L2.o)) (v:=.ref b3) (by rw [ep];exact LL.ix eb3) ?_⟩
      refine ⟨_,rfl,_,rfl,rdF po2 T.bO T.qG (mQ ..) ⟨b,l,tn2,rfl,hb2,fun c4 G4 nc4 f4 s4=>?_⟩⟩
      have lp:=RG.mK (decide (tn2 % 2=1)) l
      refine ⟨b3,c4,_,_,rfl,rfl,s4 _ _ hb3,f4,mG (aV (by rw [bG,bG];lia)),fun c5 nc5=>?_⟩
      rw [<- eG]
      have s5:Same G4 (upd G4 c5 (.lst ((l3++RG.pick (decide (tn2 % 2=1)) l).map V.int))):=Same.new nc5
      have f5:(upd G4 c5 (.lst ((l3++RG.pick (decide (tn2 % 2=1)) l).map V.int))) c5=some (.lst ((l3++RG.pick (decide (tn2 % 2=1)) l).map V.int)):=ao
      generalize upd G4 c5 (.lst ((l3++RG.pick (decide (tn2 % 2=1)) l).map V.int))=G5 at s5 f5 ⊢
      refine .inr ⟨c5,_,rfl,.inl (.inl f5),by rw [dH];lia,fun c6 ns nc6 pm so=>?_⟩
      obtain rfl:=RG.rm pm so
      have s6:Same G5 (upd G5 c6 (.lst ((RG.srt (l3++RG.pick (decide (tn2 % 2=1)) l)).map V.int))):=Same.new nc6
      have f6:(upd G5 c6 (.lst ((RG.srt (l3++RG.pick (decide (tn2 % 2=1)) l)).map V.int))) c6=some (.lst ((RG.srt (l3++RG.pick (decide (tn2 % 2=1)) l)).map V.int)):=ao
      generalize upd G5 c6 (.lst ((RG.srt (l3++RG.pick (decide (tn2 % 2=1)) l)).map V.int))=G6 at s6 f6 ⊢
      have s26:=s4.trans (s5.trans s6)
      have L6:=L2.same s26
      have n6:c6≠g:=aL (ak ((s4.trans s5) _ _ L2.o) nc6)
      refine ⟨_,rfl,_,rfl,_,_,rfl,rfl,.inl ⟨g,_,_,j+1,rfl,rfl,L6.o,by rw [ep];exact wU (by rw [bG,lG,L.n];exact hp2),?_⟩⟩
      have L7:=L6.set (i:=j+1) f6 n6
      have po7:(upd G6 g (.lst (((bs.set j c1).map V.ref).set (j+1) (.ref c6)))) p=_:=(au pg).trans (s26 _ _ po2)
      have s07:But p H (upd G6 g (.lst (((bs.set j c1).map V.ref).set (j+1) (.ref c6)))):=fun x o e n=>by rw [au (ak e hg)];exact s26 _ _ (s02 x o e n)
      generalize upd G6 g (.lst (((bs.set j c1).map V.ref).set (j+1) (.ref c6)))=G7 at L7 po7 s07 ⊢
      refine ⟨_,rfl,p,dx,_,rfl,po7,rgN tb_g%,_,rfl,p,dx,r,tt,ov2,un2,tn2,2 ^ j,oV mi,oV ma,rf,rfl,po7,?_⟩
      have R8:=R.turn MR el hgt
      have L8:LL (upd G7 p (.ins A.cV dx (rg (.int r) (.int tt) (.int (if tn2 % 2=0 then ov2+2 ^ j else ov2)) (.int (if tn2 % 2=0 then un2 else un2+2 ^ j)) (.int (tn2+1)) (oV mi) (oV ma) rf))) g _ _:=L7.but (But.upd) po7
      have po8:(upd G7 p (.ins A.cV dx (rg (.int r) (.int tt) (.int (if tn2 % 2=0 then ov2+2 ^ j else ov2)) (.int (if tn2 % 2=0 then un2 else un2+2 ^ j)) (.int (tn2+1)) (oV mi) (oV ma) rf))) p=_:=ao
      have s08:But p H (upd G7 p (.ins A.cV dx (rg (.int r) (.int tt) (.int (if tn2 % 2=0 then ov2+2 ^ j else ov2)) (.int (if tn2 % 2=0 then un2 else un2+2 ^ j)) (.int (tn2+1)) (oV mi) (oV ma) rf))):=s07.trans But.upd
      generalize upd G7 p (.ins A.cV dx (rg (.int r) (.int tt) (.int (if tn2 % 2=0 then ov2+2 ^ j else ov2)) (.int (if tn2 % 2=0 then un2 else un2+2 ^ j)) (.int (tn2+1)) (oV mi) (oV ma) rf))=G8 at L8 po8 s08 ⊢
      refine ⟨_,rfl,_,_,rfl,rfl,_,rfl,_,_,rfl,rfl,jh (by decide) (by decide),?_,?_⟩
      ·exact ⟨_,_,j+1,_,_,_,_,by rw [<- ep,vI];rfl,L8,po8,s08,R8,by rw [lG,lG];exact LN,fun c hc=>by
        rcases xM hc with z | z
        ·rcases xM z with z | z
         ·exact fr c z
         ·rw [z];exact .inr (cT bt nc1 fun y=>by rw [y,gp] at nc1;cases nc1)
        ·rw [z];exact .inr (cT (s02.trans ((s4.trans s5).but p)) nc6 fun y=>by rw [y,(s4.trans s5) _ _ po2] at nc6;cases nc6)⟩
      ·show (1000-((j:Int)+1)).toNat<(1000-(j:Int)).toNat
       lia
    ·have hle:(l.length:Int)<=r:=by
      have:¬ r<((l.map V.int).length:Int):=fun z=>hg2 (decide_eq_true z)
      rw [bG] at this
      lia
     refine ⟨_,rfl,_,_,rfl,rfl,_,rfl,_,_,rfl,rfl,jh (by decide) (by decide),?_,?_⟩
     ·exact ⟨bs,ms,j+1,_,_,_,_,by rw [<- ep,vI];rfl,L,gp,bt,R.keep el hle,ln,fr⟩
     ·show (1000-((j:Int)+1)).toNat<(1000-(j:Int)).toNat
      lia
   ·have hj:ms.length<=j:=by
     have:¬ (j:Int)<((bs.map V.ref).length:Int):=fun z=>hc (decide_eq_true z)
     rw [bG,L.n] at this
     lia
    refine ⟨_,rfl,_,rfl,p,_,dx,_,rfl,gp,T.bO,T.xW,(by show 8<1000;decide),?_⟩
    rw [Q9]
    exact q g bs ms tn2 ov2 un2 _ (R.done hj) hg (L.but But.upd gp) ao (bt.trans But.upd) ln fr
  ·exact fun σ H Q Q' hq h=>lX (tU (cO 3) (Tz (jP (cO 2) vZ))) σ H Q Q' hq h
noncomputable def lo2:Option Int->Option Int->Option Int
 | none,b=>b
 | a,none=>a
 | some a,some b=>some (min a b)
noncomputable def hi2:Option Int->Option Int->Option Int
 | none,b=>b
 | a,none=>a
 | some a,some b=>some (max a b)
noncomputable def M9 (a b:Option Int):List Int:=a.toList++b.toList
theorem aiF {a b:Option Int} {v:V} (h:Best true (M9 a b) v):v=oV (lo2 a b):=by
 rcases h with ⟨e,rfl⟩ | ⟨m,rfl,hm,hb⟩
 ·cases a <;> cases b <;> first | rfl | cases e
 ·cases a with
  | none=>cases b with
   | none=>cases hm
   | some b=>rw [eZ.mp hm];rfl
  | some a=>cases b with
   | none=>rw [eZ.mp hm];rfl
   | some b =>
    have h1:=hb a cX
    have h2:=hb b (gF _ cX)
    rw [if_pos rfl] at h1 h2
    have:m=min a b:=by
     rcases bN.mp hm with z | z
     ·lia
     ·have:=eZ.mp z;lia
    rw [this];rfl
theorem aiG {a b:Option Int} {v:V} (h:Best false (M9 a b) v):v=oV (hi2 a b):=by
 rcases h with ⟨e,rfl⟩ | ⟨m,rfl,hm,hb⟩
 ·cases a <;> cases b <;> first | rfl | cases e
 ·cases a with
  | none=>cases b with
   | none=>cases hm
   | some b=>rw [eZ.mp hm];rfl
  | some a=>cases b with
   | none=>rw [eZ.mp hm];rfl
   | some b =>
    have h1:=hb a cX
    have h2:=hb b (gF _ cX)
    rw [if_neg (by decide)] at h1 h2
    have:m=max a b:=by
     rcases bN.mp hm with z | z
     ·lia
     ·have:=eZ.mp z;lia
    rw [this];rfl
noncomputable def known (a b:Option Int) (i:Nat):List V:=(([a,b].take i).flatMap Option.toList).map V.int
noncomputable def T9 (f:Option Int->Option Int->Option Int):Sp:=fun vs H Q _=>∃ (a b:Option Int),vs=[oV a,oV b]/\∀ H',Same H H'->Q (oV (f a b)) H'
theorem ok'5 (T:Tx K mg A):cP P w K mg base CX0 1 A.f'5 A.JK ["one","other"] (T9 lo2):=by
 k_dat (T.F'5.ok,M6) "a"
 ·obtain ⟨a,b,rfl,_⟩:=h
  rfl
 ·obtain ⟨a,b,rfl,q⟩:=h
  refine ⟨_,(aq (oR (i:=2) (cl:=[]) (N:=["thing"]) (caps:=[]) (tt:=_) (te:=_) M6.nd rfl (Or.inl rfl) rfl (by with_unfolding_all rfl) tb_g% rfl tb_g% trivial (vR (by with_unfolding_all rfl)) tb_g% rfl rfl rfl (gM.at (k:=1) (show gM _ _ _ _ 1 [] from trivial)) (afw (iY (aj (pv 0) (aj (pv 1) aA)))) (fun _ _ _ _=>(Gd (bB Qj (pv 0) zy (bR _)))) (fun _ _ _ _=>(pv 0)))
   (aF (cB (ail T.n_min (pv 2) rfl)))),?_⟩
  refine ⟨_,rfl,_,rfl,by show 2<=sizeLine;decide,fun t ht=>?_⟩
  have s1:Same H (upd H t (.tup [oV a,oV b])):=Same.new ht
  have f1:(upd H t (.tup [oV a,oV b])) t=some (.tup [oV a,oV b]):=ao
  generalize upd H t (.tup [oV a,oV b])=H1 at s1 f1 ⊢
  refine ⟨t,rfl,⟨_,.inl (.inl f1)⟩,fun D hD=>?_⟩
  refine JC (K:=K) (a:=t) (xs:=[oV a,oV b]) (fun i ys G=>ys=known a b i/\G=upd H1 D (.lst ys)) ⟨rfl,rfl⟩ ?_ ?_ ?_ ?_ ?_
  ·rintro i ys G hi ⟨rfl,rfl⟩
   refine ⟨.inl (.inl ((Same.new hD) _ _ f1)),ao,aV ?_⟩
   unfold known
   cases a <;> cases b <;> match i,hi with
    | 0,_=>simp
    | 1,_=>simp
    | 2,_=>simp
  ·rintro i ys G x hx ⟨rfl,rfl⟩
   match i,hx with
   | 0,hx =>
    obtain rfl:oV a=x:=cI hx
    cases a with
    | none=>exact ⟨_,rfl,rfl,_,rfl,gP (fun h=>absurd h (by decide)) (fun _=>⟨ao,rfl,rfl⟩)⟩
    | some z=>exact ⟨_,rfl,rfl,_,rfl,gP (fun _=>⟨_,rfl,ao,rfl,by rw [cQ]⟩) (fun h=>absurd (show (!decide (V.int z=V.non))=true by rw [decide_eq_false (by intro y;cases y)];rfl) h)⟩
   | 1,hx =>
    obtain rfl:oV b=x:=cI hx
    cases b with
    | none=>exact ⟨_,rfl,rfl,_,rfl,gP (fun h=>absurd h (by decide)) (fun _=>⟨ao,by cases a <;> rfl,by cases a <;> rfl⟩)⟩
    | some z=>exact ⟨_,rfl,rfl,_,rfl,gP (fun _=>⟨_,rfl,ao,by cases a <;> rfl,by rw [cQ]⟩) (fun h=>absurd (show (!decide (V.int z=V.non))=true by rw [decide_eq_false (by intro y;cases y)];rfl) h)⟩
  ·rintro ys G ⟨rfl,rfl⟩
   have ek:known a b [oV a,oV b].length=(M9 a b).map V.int:=by cases a <;> cases b <;> rfl
   rw [ek]
   refine ⟨_,rfl,D,M9 a b,rfl,.inl (.inl ao),fun v hv=>?_⟩
   rw [aiF hv]
   exact q _ (s1.trans (Same.new hD))
  ·exact fun σ H R R' hr h=>lX (Gk (r:=fun x y H Q=>y = .non/\Q (.bl (!decide (x = .non))) H) (fun x y H Q Q' hq h=>⟨h.1,hq _ _ h.2⟩) (cO 0) (zQ _)) σ H R R' hr h
  ·exact cO 0
theorem ok'6 (T:Tx K mg A):cP P w K mg base CX0 1 A.f'6 A.DY ["one","other"] (T9 hi2):=by
 k_dat (T.F'6.ok,Kf) "a"
 ·obtain ⟨a,b,rfl,_⟩:=h
  rfl
 ·obtain ⟨a,b,rfl,q⟩:=h
  refine ⟨_,(aq (oR (i:=2) (cl:=[]) (N:=["thing"]) (caps:=[]) (tt:=_) (te:=_) Kf.nd rfl (Or.inl rfl) rfl (by with_unfolding_all rfl) tb_g% rfl tb_g% trivial (vR (by with_unfolding_all rfl)) tb_g% rfl rfl rfl (gM.at (k:=1) (show gM _ _ _ _ 1 [] from trivial)) (afw (iY (aj (pv 0) (aj (pv 1) aA)))) (fun _ _ _ _=>(Gd (bB Qj (pv 0) zy (bR _)))) (fun _ _ _ _=>(pv 0)))
   (aF (cB (ain T.ag6 (pv 2) rfl)))),?_⟩
  refine ⟨_,rfl,_,rfl,by show 2<=sizeLine;decide,fun t ht=>?_⟩
  have s1:Same H (upd H t (.tup [oV a,oV b])):=Same.new ht
  have f1:(upd H t (.tup [oV a,oV b])) t=some (.tup [oV a,oV b]):=ao
  generalize upd H t (.tup [oV a,oV b])=H1 at s1 f1 ⊢
  refine ⟨t,rfl,⟨_,.inl (.inl f1)⟩,fun D hD=>?_⟩
  refine JC (K:=K) (a:=t) (xs:=[oV a,oV b]) (fun i ys G=>ys=known a b i/\G=upd H1 D (.lst ys)) ⟨rfl,rfl⟩ ?_ ?_ ?_ ?_ ?_
  ·rintro i ys G hi ⟨rfl,rfl⟩
   refine ⟨.inl (.inl ((Same.new hD) _ _ f1)),ao,aV ?_⟩
   unfold known
   cases a <;> cases b <;> match i,hi with
    | 0,_=>simp
    | 1,_=>simp
    | 2,_=>simp
  ·rintro i ys G x hx ⟨rfl,rfl⟩
   match i,hx with
   | 0,hx =>
    obtain rfl:oV a=x:=cI hx
    cases a with
    | none=>exact ⟨_,rfl,rfl,_,rfl,gP (fun h=>absurd h (by decide)) (fun _=>⟨ao,rfl,rfl⟩)⟩
    | some z=>exact ⟨_,rfl,rfl,_,rfl,gP (fun _=>⟨_,rfl,ao,rfl,by rw [cQ]⟩) (fun h=>absurd (show (!decide (V.int z=V.non))=true by rw [decide_eq_false (by intro y;cases y)];rfl) h)⟩
   | 1,hx =>
    obtain rfl:oV b=x:=cI hx
    cases b with
    | none=>exact ⟨_,rfl,rfl,_,rfl,gP (fun h=>absurd h (by decide)) (fun _=>⟨ao,by cases a <;> rfl,by cases a <;> rfl⟩)⟩
    | some z=>exact ⟨_,rfl,rfl,_,rfl,gP (fun _=>⟨_,rfl,ao,by cases a <;> rfl,by rw [cQ]⟩) (fun h=>absurd (show (!decide (V.int z=V.non))=true by rw [decide_eq_false (by intro y;cases y)];rfl) h)⟩
  ·rintro ys G ⟨rfl,rfl⟩
   have ek:known a b [oV a,oV b].length=(M9 a b).map V.int:=by cases a <;> cases b <;> rfl
   rw [ek]
   refine ⟨_,rfl,D,M9 a b,rfl,.inl (.inl ao),fun v hv=>?_⟩
   rw [aiG hv]
   exact q _ (s1.trans (Same.new hD))
  ·exact fun σ H R R' hr h=>lX (Gk (r:=fun x y H Q=>y = .non/\Q (.bl (!decide (x = .non))) H) (fun x y H Q Q' hq h=>⟨h.1,hq _ _ h.2⟩) (cO 0) (zQ _)) σ H R R' hr h
  ·exact cO 0
noncomputable def aiH (A:Ad):Sp:=fun vs H Q _=>∃ (p dx:Addr) (r:Int),vs=[.ref p,.int r]/\H p=some (.ins A.cV dx []) /\
 ∀ (d:Addr) (H':Hp),H d=none->H' p=some (.ins A.cV dx (rg (.int r) (.int 0) (.int 0) (.int 0) (.int 0) .non .non (.ref d)))->H' d=some (.lst [])->But p H H'->Q .non H'
theorem ok'7 (T:Tx K mg A):cP P w K mg base CX0 1 A.f'7 A.tX ["self","room"] (aiH A):=by
 k_dat (T.F'7.ok,Lf) "a"
 ·obtain ⟨p,dx,r,rfl,_⟩:=h
  rfl
 ·obtain ⟨p,dx,r,rfl,hp,q⟩:=h
  refine ⟨_,(aq (aU (pv 0) (pv 1) rfl)
   (aq (aU (pv 0) aC rfl)
   (aq (aU (pv 0) aC rfl)
   (aq (aU (pv 0) aC rfl)
   (aq (aU (pv 0) aC rfl)
   (aq (aU (pv 0) zy rfl)
   (aq (aU (pv 0) zy rfl)
   (aF (aU (pv 0) (dY aA) rfl))))))))),?_⟩
  refine ⟨_,rfl,_,rfl,p,_,dx,[],rfl,hp,T.bO,T.xV,(by show 0<1000;decide),?_⟩
  k_dat (p,dx,ao,T.bO,T.Bw,1) "c"
  k_dat (p,dx,ao,T.bO,T.Bx,2) "c"
  k_dat (p,dx,ao,T.bO,T.BJ,3) "c"
  k_dat (p,dx,ao,T.bO,T.qG,4) "c"
  k_dat (p,dx,ao,T.bO,T.BK,5) "c"
  k_dat (p,dx,ao,T.bO,T.BL,6) "c"
  rw [cQ,cQ,cQ,cQ,cQ,cQ]
  refine ⟨(by show 0<=sizeLine;decide),fun d hd=>?_⟩
  have npd:p≠d:=fun z=>by rw [<- z,ao] at hd;cases hd
  rw [au (aL npd)] at hd
  refine ⟨_,rfl,p,_,dx,_,rfl,(by rw [au npd];exact ao),T.bO,T.xW,(by show 7<1000;decide),?_⟩
  refine q d _ hd (Ij ao (by rw [alU])) (by rw [au (aL npd),ao]) fun b o e hb=>?_
  rw [au hb,au (ak e hd),au hb]
  exact e
/-- a Rungs -/
structure Rn (A:Ad) (H:Hp) (p dx a:Addr) (bs:List Addr) (r tt ov un tn:Int) (mi ma:Option Int) (ls:RG.Ls):Prop where
 o:H p=some (.ins A.cV dx (rg (.int r) (.int tt) (.int ov) (.int un) (.int tn) (oV mi) (oV ma) (.ref a)))
 l:LL H a bs ls
section
variable {p a:Addr} {bs:List Addr} {tt ov un tn:Int} {mi ma:Option Int}
theorem Rn.same (h:Rn A H p dx a bs r tt ov un tn mi ma ls) (s:Same H H'):Rn A H' p dx a bs r tt ov un tn mi ma ls:=⟨s _ _ h.o,h.l.same s⟩
theorem Rn.but {q C:Addr} {fs:List (Str × V)} (h:Rn A H p dx a bs r tt ov un tn mi ma ls) (b:But q H H') (hq:H q=some (.ins C e fs)) (n:p≠q):Rn A H' p dx a bs r tt ov un tn mi ma ls:=⟨b _ _ h.o n,h.l.but b hq⟩
theorem Rn.new {d:Addr} (h1:H p=some (.ins A.cV dx (rg (.int r) (.int 0) (.int 0) (.int 0) (.int 0) .non .non (.ref d)))) (h2:H d=some (.lst [])):Rn A H p dx d [] r 0 0 0 0 none none [] :=
 ⟨h1,⟨h2,rfl,fun i b l e=>by (cases i <;> cases e),fun z=>nomatch z⟩⟩
end
noncomputable def al0 (A:Ad):Sp:=fun vs H Q _=>∃ (p dx a:Addr) (bs:List Addr) (r tt ov un tn t w:Int) (mi ma:Option Int) (ls:RG.Ls),vs=[.ref p,.int t,.int w]/\Rn A H p dx a bs r tt ov un tn mi ma ls/\2<=r/\r<=64/\0<=w/\w<2 ^ 64/\ls.length<=400/\(∀ l∈ls,l.length<=63/\RG.Sd l)/\((∀ l∈ls,l.length<=30)\/∀ l∈ls,(l.length:Int)+1<=r)/\RG.val ls<2 ^ 400 /\
 ∀ (a':Addr) (bs':List Addr) (out:RG.Ls) (tn' ov' un':Int) (H':Hp),RG.Stl r 0 tn ov un (RG.gO t ls w.toNat) out tn' ov' un'->Rn A H' p dx a' bs' r (tt+w) ov' un' tn' (lo2 mi (some t)) (hi2 ma (some t)) out->But p H H'->H a'=none->(∀ c∈bs',c∈bs\/H c=none)->Q .non H'
theorem ok'8 (T:Tx K mg A):cP P w K mg base CX0 5 A.f'8 A.v8 ["self","thing","weight"] (al0 A):=by
 k_dat (T.F'8.ok,Q8) "a"
 ·obtain ⟨p,dx,a,bs,r,tt,ov,un,tn,t,w,mi,ma,ls,rfl,_⟩:=h
  rfl
 ·obtain ⟨p,dx,a,bs,r,tt,ov,un,tn,t,w,mi,ma,ls,rfl,hR,r2,r64,w0,w64,h3,h1,h6,hv,q⟩:=h
  refine ⟨_,(aq (aU (pv 0) (aM cu (aB (pv 0) rfl) (pv 2)) rfl)
   (aq (aU (pv 0) (aJ (ok'5 T) tb_g% rfl T.T6 T.F'5.kp T.b'5 .nil aQ (aj (aB (pv 0) rfl) (aj (pv 1) aA))) rfl)
   (aq (aU (pv 0) (aJ (ok'6 T) tb_g% rfl T.MP T.F'6.kp T.b'6 .nil aQ (aj (aB (pv 0) rfl) (aj (pv 1) aA))) rfl)
   (aF (bF (dG (pv 0) T.bO T.wB (ok'4 T) tb_g% T.b'4 .nil aQ (aj (aJ (ok'0 T) tb_g% rfl T.QT T.F'0.kp T.b'0 .nil aQ (aj (aB (pv 0) rfl) (aj (pv 1) (aj (pv 2) aA)))) aA))))))),?_⟩
  refine ⟨_,rfl,rdF hR.o T.bO T.Bw (BZ ..) ⟨_,rfl,_,_,rfl,rfl,_,rfl,p,_,dx,_,rfl,hR.o,T.bO,T.Bw,(by show 8<1000;decide),?_⟩⟩
  rw [Ce]
  have b1:But p H (upd H p (.ins A.cV dx (rg (.int r) (.int (tt+w)) (.int ov) (.int un) (.int tn) (oV mi) (oV ma) (.ref a)))):=But.upd
  have o1:(upd H p (.ins A.cV dx (rg (.int r) (.int (tt+w)) (.int ov) (.int un) (.int tn) (oV mi) (oV ma) (.ref a)))) p=_:=ao
  have L1:=hR.l.but b1 hR.o
  generalize upd H p (.ins A.cV dx (rg (.int r) (.int (tt+w)) (.int ov) (.int un) (.int tn) (oV mi) (oV ma) (.ref a)))=H1 at b1 o1 L1 ⊢
  refine ⟨_,rfl,rdF o1 T.bO T.BK (Cd ..) ⟨_,rfl,mi,some t,rfl,fun H2 s2=>⟨_,rfl,p,_,dx,_,rfl,s2 _ _ o1,T.bO,T.BK,(by show 8<1000;decide),?_⟩⟩⟩
  rw [Ci]
  have b3:But p H2 (upd H2 p (.ins A.cV dx (rg (.int r) (.int (tt+w)) (.int ov) (.int un) (.int tn) (oV (lo2 mi (some t))) (oV ma) (.ref a)))):=But.upd
  have o3:(upd H2 p (.ins A.cV dx (rg (.int r) (.int (tt+w)) (.int ov) (.int un) (.int tn) (oV (lo2 mi (some t))) (oV ma) (.ref a)))) p=_:=ao
  have L3:=(L1.same s2).but b3 (s2 _ _ o1)
  have b03:But p H (upd H2 p (.ins A.cV dx (rg (.int r) (.int (tt+w)) (.int ov) (.int un) (.int tn) (oV (lo2 mi (some t))) (oV ma) (.ref a)))):=(b1.trans (s2.but p)).trans b3
  generalize upd H2 p (.ins A.cV dx (rg (.int r) (.int (tt+w)) (.int ov) (.int un) (.int tn) (oV (lo2 mi (some t))) (oV ma) (.ref a)))=H3 at b03 o3 L3 ⊢
  refine ⟨_,rfl,rdF o3 T.bO T.BL (Gn ..) ⟨_,rfl,ma,some t,rfl,fun H4 s4=>⟨_,rfl,p,_,dx,_,rfl,s4 _ _ o3,T.bO,T.BL,(by show 8<1000;decide),?_⟩⟩⟩
  rw [Fe]
  have b5:But p H4 (upd H4 p (.ins A.cV dx (rg (.int r) (.int (tt+w)) (.int ov) (.int un) (.int tn) (oV (lo2 mi (some t))) (oV (hi2 ma (some t))) (.ref a)))):=But.upd
  have o5:(upd H4 p (.ins A.cV dx (rg (.int r) (.int (tt+w)) (.int ov) (.int un) (.int tn) (oV (lo2 mi (some t))) (oV (hi2 ma (some t))) (.ref a)))) p=_:=ao
  have L5:=(L3.same s4).but b5 (s4 _ _ o3)
  have b05:But p H (upd H4 p (.ins A.cV dx (rg (.int r) (.int (tt+w)) (.int ov) (.int un) (.int tn) (oV (lo2 mi (some t))) (oV (hi2 ma (some t))) (.ref a)))):=(b03.trans (s4.but p)).trans b5
  generalize upd H4 p (.ins A.cV dx (rg (.int r) (.int (tt+w)) (.int ov) (.int un) (.int tn) (oV (lo2 mi (some t))) (oV (hi2 ma (some t))) (.ref a)))=H5 at b05 o5 L5 ⊢
  refine ⟨_,rfl,p,dx,_,rfl,o5,rgN tb_g%,?_⟩
  refine ⟨_,rfl,rdF o5 T.bO T.xW (sy ..) ⟨_,rfl,_,rfl,a,bs,ls,t,w,rfl,L5,w0,w64,by lia,fun l hl=>by have:=h1 l hl;lia,fun g bs' H6 ng L6 s6 fr6=>?_⟩⟩
  refine ⟨p,dx,g,bs',_,r,tt+w,ov,un,tn,lo2 mi (some t),hi2 ma (some t),.ref a,rfl,s6 _ _ o5,L6,r2,r64,(h6.imp (fun z=>RG.JB t _ _ z) fun z l m=>by have:=RG.JB t (b:=(r-1).toNat) w.toNat ls (fun k hk=>by have:=z k hk;lia) l m;lia),?_,?_,fun g2 bs2 out tn' ov' un' H7 st ng2 L7 o7 b7 _ fr7=>?_⟩
  ·have:=RG.Mv t 64 w.toNat ls tb_g%
   lia
  ·rw [RG.Mu]
   have:(2:Nat) ^ 400+2 ^ 64<2 ^ 500:=by decide
   lia
  ·have b07:But p H H7:=(b05.trans (s6.but p)).trans b7
   have n5:H5 g2=none:=s6.free ng2
   refine q g2 bs2 out tn' ov' un' H7 st ⟨o7,L7⟩ b07 (cT b05 n5 fun z=>by rw [z,o5] at n5;cases n5) fun c hc=>?_
   have h5:H5 c=none->c∈bs\/H c=none:=fun n=>.inr (cT b05 n fun z=>by rw [z,o5] at n;cases n)
   rcases fr7 c hc with z | z
   ·rcases fr6 c z with z | z
    ·exact .inl z
    ·exact h5 z
   ·exact h5 (s6.free z)
noncomputable def wf (aD aK eU eV:V):List (Str × V):=[("room",aD),("reach",aK),("clock",eU),("boxes",eV)]
theorem qM (aD aK eU eV:V):(wf aD aK eU eV).lookup ("room" : Str)=some aD:=by rfl
theorem mR (aD aK eU eV:V):(wf aD aK eU eV).lookup ("reach" : Str)=some aK:=by rfl
theorem je (aD aK eU eV:V):(wf aD aK eU eV).lookup ("clock" : Str)=some eU:=by rfl
theorem sE (aD aK eU eV:V):(wf aD aK eU eV).lookup ("boxes" : Str)=some eV:=by rfl
theorem al1 (aD aK eU eV:V):bU "boxes" eV (bU "clock" eU (bU "reach" aK (bU "room" aD [])))=wf aD aK eU eV:=by
 unfold wf
 walk_at "rec"
theorem ux (aD aK eU eV y:V):bU "clock" y (wf aD aK eU eV)=wf aD aK y eV:=by
 unfold wf
 walk_at "rec"
theorem Ra (aD aK eU eV y:V):bU "boxes" y (wf aD aK eU eV)=wf aD aK eU y:=by
 unfold wf
 walk_at "rec"
theorem Nb (aD aK eU eV:V) (zY:¬ m = "room") (Rb:¬ m = "reach") (aiI:¬ m = "clock") (aiJ:¬ m = "boxes"):(wf aD aK eU eV).lookup m=none:=by
 unfold wf
 rw [cR zY,cR Rb,cR aiI,cR aiJ]
 rfl
noncomputable abbrev Bp:=Addr × WN.Box
variable {ps:List Bp}
noncomputable def bt (b:WN.Box):HO:=.tup [.int b.f,.int b.l,.int b.s]
structure Bxs (H:Hp) (l:Addr) (ps:List Bp):Prop where
 l:H l=some (.lst (ps.map fun p=>V.ref p.1))
 t:∀ p∈ps,H p.1=some (bt p.2)
noncomputable def bx (ps:List Bp):List WN.Box:=ps.map (·.2)
theorem jH (ps:List Bp):(bx ps).length=ps.length:=bG _
theorem Bxs.same (h:Bxs H l ps) (s:Same H H'):Bxs H' l ps:=⟨s _ _ h.l,fun p m=>s _ _ (h.t p m)⟩
theorem Bxs.but {q C:Addr} {fs:List (Str × V)} (h:Bxs H l ps) (s:But q H H') (hq:H q=some (.ins C e fs)):Bxs H' l ps :=
 ⟨s _ _ h.l (jq h.l hq (by intro z;cases z)),fun p m=>s _ _ (h.t p m) (jq (h.t p m) hq (by intro z;cases z))⟩
theorem Rf {y:V} (h:(ps.map fun p=>V.ref p.1)[i]? = some y):∃ p,ps[i]? = some p/\y=V.ref p.1:=by
 rw [iR] at h
 cases e:ps[i]? with
 | none=>rw [e] at h;cases h
 | some z=>rw [e] at h;exact ⟨z,rfl,(cI h).symm⟩
noncomputable def dF (room edge:Int) (bs:List WN.Box):List WN.Box:=(WN.settled room (bs.filter fun b=>decide (edge<b.l)).reverse).reverse
noncomputable def ahc:Sp:=fun vs H Q _=>∃ (l:Addr) (room:Int) (ps:List Bp),vs=[.ref l,.int room]/\Bxs H l ps/\ps.length<=500/\0<=room/\room<=64 /\
 ∀ (l':Addr) (ps':List Bp) (H':Hp),H l'=none->bx ps'=(WN.settled room (bx ps).reverse).reverse->Bxs H' l' ps'->Same H H'->Q (.ref l') H'
noncomputable def Ua:Option Bp->V
 | none=>.non
 | some h=>.ref h.1
theorem al2 {p:Bp} (h:ps.reverse[i]? = some p):(bx ps).reverse.drop i=p.2::(bx ps).reverse.drop (i+1):=by
 unfold bx
 rw [<- Oo,<- Ot,<- Ot]
 have hi:i<ps.reverse.length:=(jB.mp h).1
 rw [Hg hi,gB]
 rw [(jB.mp h).2]
theorem ok'9 (T:Tx K mg A):cP P w K mg base CX0 1 A.f'9 A.JL ["boxes","room"] ahc:=by
 k_dat (T.F'9.ok,ji) "a"
 ·obtain ⟨l,room,ps,rfl,_⟩:=h
  rfl
 ·obtain ⟨l,room,ps,rfl,hb,h500,r0,r64,q⟩:=h
  refine ⟨_,(aq (aX (i:=2) ji.nd rfl (Or.inl rfl) (dY aA))
   (aq (aX (i:=3) ji.nd rfl (Or.inl rfl) aC)
   (aq (aX (i:=4) ji.nd rfl (Or.inl rfl) zy)
   (aq (zB uG rfl (alM rfl T.Kd (aj (pv 0) aA)) (gG (i:=5) ji.nd rfl (Or.inl rfl)) (aF (fO (bB aln (pv 4) zy (bR _)) (aF (aX (i:=4) ji.nd rfl (Or.inl rfl) (pv 5))) (aF (fO (bB ajb (aM qX (aM cu (fX (ixG (dO hr)) (pv 4) aC (fun _ _=>rfl)) (fX (ixG (dO hr)) (pv 5) aC (fun _ _=>rfl))) (pv 1)) (pv 3) (bR _)) (aF (aX (i:=4) ji.nd rfl (Or.inl rfl) (iY (aj (fX (ixG (dO hr)) (pv 5) aC (fun _ _=>rfl)) (aj (fX (ixG (dO hr)) (pv 4) aC (fun _ _=>rfl)) (aj (aM cu (fX (ixG (dO hr)) (pv 5) aC (fun _ _=>rfl)) (fX (ixG (dO hr)) (pv 4) aC (fun _ _=>rfl))) aA)))))) (aq (bF (kE j7 jY jZ cM (pv 2) (aj (pv 4) aA)))
   (aq (aX (i:=3) ji.nd rfl (Or.inl rfl) (aM cu (pv 3) (fX (ixG (dO hr)) (pv 4) aC (fun _ _=>rfl))))
   (aF (aX (i:=4) ji.nd rfl (Or.inl rfl) (pv 5))))))))))
   (aq (fO (bB Qj (pv 4) zy (bR _)) (aF (bF (kE j7 jY jZ cM (pv 2) (aj (pv 4) aA)))) dj)
   (aF (cB (ZJ T.pF T.Kd (aj (pv 2) aA) rfl)))))))),?_⟩
  refine ⟨(by show 0<=sizeLine;decide),fun D hD=>?_⟩
  have sD:Same H (upd H D (.lst [])):=Same.new hD
  refine ⟨_,rfl,l,_,rfl,.inl (.inl (sD _ _ hb.l)),aip (K:=K) (a:=l) (xs:=ps.map fun p=>V.ref p.1) (fun i σ H2=>∃ (xb:Option V) (S:Int) (ds:List Bp) (hand:Option Bp),σ=[some (.ref l),some (.int room),some (.ref D),some (.int S),some (Ua hand),xb]/\Same H H2/\Bxs H2 D ds/\ds.length<=i /\
    (hand=none->i=0/\ds=[]/\S=0)/\(∀ h,hand=some h->1<=i/\H2 h.1=some (bt h.2)/\bx ds++WN.settle room S h.2 ((bx ps).reverse.drop i)=WN.settled room (bx ps).reverse))
   ⟨none,0,[],none,rfl,sD,⟨ao,(fun p m=>nomatch m)⟩,bV _,fun _=>⟨rfl,rfl,rfl⟩,(fun h e=>nomatch e)⟩ (fun i σ H2 _ ⟨_,_,_,_,_,s,_⟩=>.inl (.inl (s _ _ hb.l))) ?_ ?_⟩
  ·rintro i y σ H2 hi ⟨xb,S,ds,hand,rfl,s2,hD2,hlen,hn,hs⟩
   rw [<- Oo] at hi
   obtain ⟨p,hp,rfl⟩:=Rf hi
   have hip:i<ps.length:=by
    have:=(jB.mp hp).1
    rwa [yM] at this
   have pm:p∈ps:=CW.mp (List.mem_of_getElem? hp)
   have ht:=s2 _ _ (hb.t p pm)
   have hdrop:=al2 hp
   cases hand with
   | none =>
    obtain ⟨rfl,rfl,rfl⟩:=hn rfl
    refine ⟨_,rfl,rfl,_,rfl,?_⟩
    rw [show decide (Ua none=V.non)=true from TQ]
    refine Bb ⟨_,rfl,_,0,[],some p,rfl,s2,hD2,cY _,(fun e=>nomatch e),fun h e=>?_⟩
    obtain rfl:=cI e
    refine ⟨bV _,ht,?_⟩
    rw [adC] at hdrop
    rw [hdrop];rfl
   | some h =>
    obtain ⟨i1,hht,heq⟩:=hs h rfl
    rw [hdrop,WN.jN] at heq
    refine ⟨_,rfl,rfl,_,rfl,?_⟩
    rw [show decide (Ua (some h)=V.non)=false from TJ]
    refine Az ?_
    refine ⟨_,rfl,lH (.inl (.inl hht)) (v:=.int h.2.s) rfl ⟨_,rfl,lH (.inl (.inl ht)) (v:=.int p.2.s) rfl ⟨_,_,rfl,rfl,_,rfl,_,_,rfl,rfl,jh tb_g% tb_g%,_,rfl,_,_,rfl,rfl,_,rfl,gP (fun hc=>?_) (fun hc=>?_)⟩⟩⟩
    ·have hc:(h.2.s+p.2.s)*room<=S:=of_decide_eq_true hc
     rw [if_pos hc] at heq
     refine ⟨_,rfl,lH (.inl (.inl ht)) (v:=.int p.2.f) rfl ⟨_,rfl,lH (.inl (.inl hht)) (v:=.int h.2.l) rfl ⟨_,rfl,lH (.inl (.inl ht)) (v:=.int p.2.s) rfl ⟨_,rfl,lH (.inl (.inl hht)) (v:=.int h.2.s) rfl ⟨_,_,rfl,rfl,(by show 3<=sizeLine;decide),fun t1 ht1=>?_⟩⟩⟩⟩⟩
     have s3:Same H2 (upd H2 t1 (bt ⟨p.2.f,h.2.l,p.2.s+h.2.s⟩)):=Same.new ht1
     refine ⟨_,S,ds,some (t1,⟨p.2.f,h.2.l,p.2.s+h.2.s⟩),rfl,s2.trans s3,hD2.same s3,by lia,(fun e=>nomatch e),fun h' e=>?_⟩
     obtain rfl:=cI e
     refine ⟨by lia,ao,?_⟩
     rw [show p.2.s+h.2.s=h.2.s+p.2.s by lia]
     exact heq
    ·have hc:¬ (h.2.s+p.2.s)*room<=S:=fun z=>hc (decide_eq_true z)
     rw [if_neg hc] at heq
     refine ⟨_,rfl,.inl ⟨rfl,_,.inl (.inl hD2.l)⟩,_,rfl,D,_,_,rfl,rfl,hD2.l,aV (by rw [bG];lia),?_⟩
     have nD:∀ a b,H2 a=some (bt b)->a≠D:=fun a b e=>jq e hD2.l (by intro z;cases z)
     have ht3:∀ L,(upd H2 D L) h.1=some (bt h.2):=fun L=>by rw [au (nD _ _ hht)];exact hht
     refine ⟨_,rfl,_,rfl,lH (.inl (.inl (ht3 _))) (v:=.int h.2.s) rfl ⟨_,_,rfl,rfl,?_⟩⟩
     refine ⟨_,rfl,_,S+h.2.s,ds++[h],some p,rfl,fun b o e=>?_,⟨?_,fun z m=>?_⟩,by rw [dH];show ds.length+1<=i+1;lia,(fun e=>nomatch e),fun h' e=>?_⟩
     ·rw [au (ak e hD)];exact s2 _ _ e
     ·rw [ao,eG];rfl
     ·rcases d9.mp m with m | m
      ·have:=hD2.t z m
       rw [au (nD _ _ this)];exact this
      ·rw [eZ.mp m];exact ht3 _
     ·obtain rfl:=cI e
      refine ⟨by lia,by rw [au (nD _ _ ht)];exact ht,?_⟩
      unfold bx at heq ⊢
      rw [eG,lE]
      exact heq
  ·rintro σ H2 ⟨xb,S,ds,hand,rfl,s2,hD2,hlen,hn,hs⟩
   rw [bG] at hlen hn hs
   cases hand with
   | none =>
    obtain ⟨h0,rfl,rfl⟩:=hn rfl
    have e0:ps=[]:=Ac.mp h0
    subst e0
    refine ⟨_,rfl,rfl,_,rfl,?_⟩
    rw [show decide (Ua none=V.non)=true from TQ]
    refine Az ⟨_,rfl,D,_,rfl,.inl (.inl hD2.l),fun l' hl'=>?_⟩
    exact q l' [] _ (s2.free hl') rfl ⟨ao,(fun p m=>nomatch m)⟩ (s2.trans (Same.new hl'))
   | some h =>
    obtain ⟨i1,hht,heq⟩:=hs h rfl
    refine ⟨_,rfl,rfl,_,rfl,?_⟩
    rw [show decide (Ua (some h)=V.non)=false from TJ]
    refine Bb ⟨_,rfl,.inl ⟨rfl,_,.inl (.inl hD2.l)⟩,_,rfl,D,_,_,rfl,rfl,hD2.l,aV (by rw [bG];lia),?_⟩
    have nD:∀ a b,H2 a=some (bt b)->a≠D:=fun a b e=>jq e hD2.l (by intro z;cases z)
    have eL:((ds.map fun p=>V.ref p.1)++[V.ref h.1])=(ds++[h]).map fun p=>V.ref p.1:=by rw [eG];rfl
    have s3:Same H (upd H2 D (.lst ((ds.map fun p=>V.ref p.1)++[V.ref h.1]))):=fun b o e=>by rw [au (ak e hD)];exact s2 _ _ e
    have t3:∀ p∈ds++[h],(upd H2 D (.lst ((ds.map fun p=>V.ref p.1)++[V.ref h.1]))) p.1=some (bt p.2):=fun z m=>by
     rcases d9.mp m with m | m
     ·have:=hD2.t z m
      rw [au (nD _ _ this)];exact this
     ·rw [eZ.mp m,au (nD _ _ hht)];exact hht
    refine ⟨_,rfl,D,_,rfl,.inl (.inl ao),fun l' hl'=>?_⟩
    refine q l' (ds++[h]).reverse _ (s3.free hl') ?_ ⟨?_,fun z m=>?_⟩ (s3.trans (Same.new hl'))
    ·rw [Vl (by rw [yM,jH];exact bV _),WN.zO] at heq
     rw [<- heq]
     unfold bx
     rw [Oo,eG];rfl
    ·rw [ao,Oo,<- eL];rfl
    ·rw [au (ak (t3 z (CW.mp m)) hl')]
     exact t3 z (CW.mp m)
noncomputable def aiK (A:Ad):Sp:=fun vs H Q _=>∃ (p dx:Addr) (r k:Int),vs=[.ref p,.int r,.int k]/\H p=some (.ins A.gW dx []) /\
 ∀ (d:Addr) (H':Hp),H d=none->H' p=some (.ins A.gW dx (wf (.int r) (.int k) (.int 0) (.ref d)))->H' d=some (.lst [])->But p H H'->Q .non H'
theorem ajw (T:Tx K mg A):cP P w K mg base CX0 1 A.Ro A.rB ["self","room","reach"] (aiK A):=by
 k_dat (T.F'10.ok,Kg) "a"
 ·obtain ⟨p,dx,r,k,rfl,_⟩:=h
  rfl
 ·obtain ⟨p,dx,r,k,rfl,hp,q⟩:=h
  refine ⟨_,(aq (aU (pv 0) (pv 1) rfl)
   (aq (aU (pv 0) (pv 2) rfl)
   (aq (aU (pv 0) aC rfl)
   (aF (aU (pv 0) (dY aA) rfl))))),?_⟩
  refine ⟨_,rfl,_,rfl,p,_,dx,[],rfl,hp,T.cU,T.wg,(by show 0<1000;decide),?_⟩
  refine ⟨_,rfl,_,rfl,p,_,dx,_,rfl,ao,T.cU,T.wu,(by show 1<1000;decide),?_⟩
  k_dat (p,dx,ao,T.cU,T.mL,2) "c"
  rw [cQ,cQ]
  refine ⟨(by show 0<=sizeLine;decide),fun d hd=>?_⟩
  have npd:p≠d:=fun z=>by rw [<- z,ao] at hd;cases hd
  rw [au (aL npd)] at hd
  refine ⟨_,rfl,p,_,dx,_,rfl,(by rw [au npd];exact ao),T.cU,T.xX,(by show 3<1000;decide),?_⟩
  refine q d _ hd (Ij ao (by rw [al1])) (by rw [au (aL npd),ao]) fun b o e hb=>?_
  rw [au hb,au (ak e hd),au hb]
  exact e
/-- a Window -/
structure Wn (A:Ad) (H:Hp) (p dx l:Addr) (r k c:Int) (ps:List Bp):Prop where
 o:H p=some (.ins A.gW dx (wf (.int r) (.int k) (.int c) (.ref l)))
 b:Bxs H l ps
theorem Wn.same {p:Addr} {c:Int} (h:Wn A H p dx l r k c ps) (s:Same H H'):Wn A H' p dx l r k c ps:=⟨s _ _ h.o,h.b.same s⟩
theorem Wn.but {p q C:Addr} {fs:List (Str × V)} {c:Int} (h:Wn A H p dx l r k c ps) (s:But q H H') (hq:H q=some (.ins C e fs)) (n:p≠q):Wn A H' p dx l r k c ps:=⟨s _ _ h.o n,h.b.but s hq⟩
noncomputable def aco (A:Ad):Sp:=fun vs H Q _=>∃ (p dx l l0:Addr) (r k c:Int) (ps:List Bp),vs=[.ref p,.ref l]/\H p=some (.ins A.gW dx (wf (.int r) (.int k) (.int c) (.ref l0)))/\Bxs H l ps/\ps.length<=500/\0<=r/\r<=64 /\
 ∀ (l':Addr) (ps':List Bp) (H':Hp),bx ps'=dF r (c-k) (bx ps)->Wn A H' p dx l' r k c ps'->But p H H'->H l'=none->Q .non H'
theorem ahd (T:Tx K mg A):cP P w K mg base CX0 2 A.Xd A.mY ["self","boxes"] (aco A):=by
 k_dat (T.F'11.ok,lZ) "a"
 ·obtain ⟨p,dx,l,l0,r,k,c,ps,rfl,_⟩:=h
  rfl
 ·obtain ⟨p,dx,l,l0,r,k,c,ps,rfl,hp,hb,h500,r0,r64,q⟩:=h
  refine ⟨_,(aq (aX (i:=2) lZ.nd rfl (Or.inr rfl) (aM IV (aB (pv 0) rfl) (aB (pv 0) rfl)))
   (aq (oR (i:=3) (cl:=[("edge",s.heap.objs.size+1)]) (N:=["box","edge"]) (caps:=[2]) (tt:=(afB (tOp _ (tOp (KZ K) _ _) _))) (te:=_) lZ.nd rfl (Or.inl rfl) rfl (by with_unfolding_all rfl) tb_g% rfl tb_g% ⟨rfl,trivial⟩ (vR (by with_unfolding_all rfl)) tb_g% rfl rfl rfl (gM.at (k:=1) (show gM _ _ _ _ 1 [2] from ⟨⟨"edge",_,rfl,rfl,.inl rfl,.inl rfl,rfl⟩,trivial⟩)) (tG (pv 1)) (fun _ _ _ _=>(Gd (bB RZ (fX (ixG (by exact dO hr)) (pv 0) aC (fun _ _=>rfl)) (pv 1) (bR _)))) (fun _ _ _ _=>(pv 0)))
   (aF (aU (pv 0) (aJ (ok'9 T) tb_g% rfl T.agT T.F'9.kp T.b'9 .nil aQ (aj (pv 3) (aj (aB (pv 0) rfl) aA))) rfl)))),?_⟩
  refine ⟨_,rfl,rdF hp T.cU T.mL (je _ _ _ _) ⟨_,rfl,rdF hp T.cU T.wu (mR _ _ _ _) ⟨_,_,rfl,rfl,?_⟩⟩⟩
  refine ⟨_,rfl,l,rfl,⟨_,.inl (.inl hb.l)⟩,fun D hD=>?_⟩
  refine EY (K:=K) (a:=l) (xs:=ps.map fun p=>V.ref p.1) (fun i ys H2=>ys=((ps.take i).filter fun p=>decide (c-k<p.2.l)).map (fun p=>V.ref p.1)/\H2=upd H D (.lst ys)) ⟨by simp,rfl⟩ ?_ ?_ ?_ ?_ ?_
  ·rintro i ys H2 hi ⟨rfl,rfl⟩
   refine ⟨.inl (.inl ((Same.new hD) _ _ hb.l)),ao,aV ?_⟩
   rw [bG]
   have:=vo (fun p:Bp=>decide (c-k<p.2.l)) (ps.take i)
   rw [gU] at this
   lia
  ·rintro i ys H2 x hx ⟨rfl,rfl⟩
   obtain ⟨z,hz,rfl⟩:=Rf hx
   have ht:=(Same.new (o:=.lst (((ps.take i).filter fun p=>decide (c-k<p.2.l)).map (fun p=>V.ref p.1))) hD) _ _ (hb.t z (List.mem_of_getElem? hz))
   refine ⟨_,rfl,lH (.inl (.inl ht)) (v:=.int z.2.l) rfl ⟨_,rfl,_,_,rfl,rfl,_,rfl,gP (fun hc=>?_) (fun hc=>?_)⟩⟩
   ·have hc:c-k<z.2.l:=of_decide_eq_true hc
    refine ⟨_,rfl,ao,?_,by rw [cQ]⟩
    rw [xO,hz,Ae,eG]
    show _=_++(([z]:List Bp).filter fun p=>decide (c-k<p.2.l)).map (fun p=>V.ref p.1)
    rw [Vk (by simpa using hc)];rfl
   ·have hc:¬ c-k<z.2.l:=fun y=>hc (decide_eq_true y)
    refine ⟨ao,?_,rfl⟩
    rw [xO,hz,Ae,eG]
    show _=_++(([z]:List Bp).filter fun p=>decide (c-k<p.2.l)).map (fun p=>V.ref p.1)
    rw [Oi (by simpa using hc)];simp
  ·rintro ys H2 ⟨rfl,rfl⟩
   rw [bG,vA]
   have sD:Same H (upd H D (.lst ((ps.filter fun p=>decide (c-k<p.2.l)).map (fun p=>V.ref p.1)))):=Same.new hD
   have bD:Bxs (upd H D (.lst ((ps.filter fun p=>decide (c-k<p.2.l)).map (fun p=>V.ref p.1)))) D (ps.filter fun p=>decide (c-k<p.2.l)):=⟨ao,fun z m=>sD _ _ (hb.t z (vB.mp m).1)⟩
   generalize upd H D (.lst ((ps.filter fun p=>decide (c-k<p.2.l)).map (fun p=>V.ref p.1)))=H3 at sD bD ⊢
   have hlen:=vo (fun p:Bp=>decide (c-k<p.2.l)) ps
   refine ⟨_,rfl,_,rfl,rdF (sD _ _ hp) T.cU T.wg (qM _ _ _ _) ?_⟩
   refine ⟨D,r,_,rfl,bD,by lia,r0,r64,fun l' ps' H4 hl' e' b' s4=>?_⟩
   have hp4:=s4 _ _ (sD _ _ hp)
   k_dat (p,dx,hp4,T.cU,T.xX,4) "c"
   rw [Ra]
   have npl:∀ b o,H4 b=some o->(∀ C d fs,o ≠ .ins C d fs)->b≠p:=fun b o e n z=>by rw [z,hp4] at e;exact n _ _ _ (cI e).symm
   refine q l' ps' _ ?_ ⟨ao,⟨by rw [au (npl _ _ b'.l (by intro _ _ _ z;cases z))];exact b'.l,fun z m=>by rw [au (npl _ _ (b'.t z m) (by intro _ _ _ z;cases z))];exact b'.t z m⟩⟩ (fun b o e n=>by rw [au n];exact s4 _ _ (sD _ _ e)) (sD.free hl')
   rw [e']
   unfold dF bx
   rw [List.filter_map];rfl
  ·exact fun σ H R R' hr h=>lX (tU (Bu (cO 0) (zQ _)) (cO 1)) σ H R R' hr h
  ·exact cO 0
noncomputable def al3 (A:Ad):Sp:=fun vs H Q _=>∃ (p dx l:Addr) (r k c v:Int) (ps:List Bp),vs=[.ref p,.int v]/\Wn A H p dx l r k c ps/\ps.length<=400/\0<=r/\r<=64 /\
 ∀ (l':Addr) (ps':List Bp) (H':Hp),bx ps'=dF r (c+1-k) (bx ps++[⟨c+1,c+1,v⟩])->Wn A H' p dx l' r k (c+1) ps'->But p H H'->H l'=none->Q .non H'
theorem ok'12 (T:Tx K mg A):cP P w K mg base CX0 5 A.Xe A.tY ["self","weight"] (al3 A):=by
 k_dat (T.F'12.ok,Lg) "a"
 ·obtain ⟨p,dx,l,r,k,c,v,ps,rfl,_⟩:=h
  rfl
 ·obtain ⟨p,dx,l,r,k,c,v,ps,rfl,hw,h400,r0,r64,q⟩:=h
  refine ⟨_,(aq (aU (pv 0) (aM cu (aB (pv 0) rfl) aC) rfl)
   (aF (bF (dG (pv 0) T.cU T.nA (ahd T) tb_g% T.b'11 .nil aQ (aj (aM zF (aB (pv 0) rfl) (dY (aj (iY (aj (aB (pv 0) rfl) (aj (aB (pv 0) rfl) (aj (pv 1) aA)))) aA))) aA))))),?_⟩
  refine ⟨_,rfl,rdF hw.o T.cU T.mL (je _ _ _ _) ⟨_,_,rfl,rfl,_,rfl,p,_,dx,_,rfl,hw.o,T.cU,T.mL,(by show 4<1000;decide),?_⟩⟩
  rw [ux]
  have b1:But p H (upd H p (.ins A.gW dx (wf (.int r) (.int k) (.int (c+1)) (.ref l)))):=But.upd
  have w1:(upd H p (.ins A.gW dx (wf (.int r) (.int k) (.int (c+1)) (.ref l)))) p=some (.ins A.gW dx (wf (.int r) (.int k) (.int (c+1)) (.ref l))):=ao
  have x1:=hw.b.but b1 hw.o
  generalize upd H p (.ins A.gW dx (wf (.int r) (.int k) (.int (c+1)) (.ref l)))=H1 at b1 w1 x1 ⊢
  refine ⟨_,rfl,p,dx,_,rfl,w1,Nb _ _ _ _ tb_g% tb_g% tb_g% tb_g%,?_⟩
  refine ⟨_,rfl,rdF w1 T.cU T.xX (sE _ _ _ _) ?_⟩
  refine ⟨_,rfl,rdF w1 T.cU T.mL (je _ _ _ _) ⟨_,rfl,rdF w1 T.cU T.mL (je _ _ _ _) ⟨_,rfl,(by show 3<=sizeLine;decide),fun t ht=>⟨(by show 1<=sizeLine;decide),fun l1 hl1=>?_⟩⟩⟩⟩
  have s2:Same H1 (upd H1 t (bt ⟨c+1,c+1,v⟩)):=Same.new ht
  have t2:(upd H1 t (bt ⟨c+1,c+1,v⟩)) t=some (bt ⟨c+1,c+1,v⟩):=ao
  show rCat _ _ (upd (upd H1 t (bt ⟨c+1,c+1,v⟩)) l1 (.lst [.ref t])) _
  have hl1':(upd H1 t (bt ⟨c+1,c+1,v⟩)) l1=none:=hl1
  generalize upd H1 t (bt ⟨c+1,c+1,v⟩)=H2 at s2 t2 hl1' ⊢
  have s3:Same H2 (upd H2 l1 (.lst [.ref t])):=Same.new hl1'
  have t3:(upd H2 l1 (.lst [.ref t])) l1=some (.lst [.ref t]):=ao
  generalize upd H2 l1 (.lst [.ref t])=H3 at s3 t3 ⊢
  refine ⟨l,l1,_,_,rfl,rfl,s3 _ _ (s2 _ _ x1.l),t3,mG (aV (by rw [bG];show ps.length+1<=1000;lia)),fun l2 hl2=>?_⟩
  have s4:Same H3 (upd H3 l2 (.lst ((ps.map fun p=>V.ref p.1)++[.ref t]))):=Same.new hl2
  have s14:Same H1 (upd H3 l2 (.lst ((ps.map fun p=>V.ref p.1)++[.ref t]))):=s2.trans (s3.trans s4)
  have x4:Bxs (upd H3 l2 (.lst ((ps.map fun p=>V.ref p.1)++[.ref t]))) l2 (ps++[(t,⟨c+1,c+1,v⟩)]):=by
   refine ⟨by rw [ao,eG];rfl,fun z m=>?_⟩
   rcases d9.mp m with m | m
   ·exact s14 _ _ (x1.t z m)
   ·rw [eZ.mp m];exact s4 _ _ (s3 _ _ t2)
  generalize upd H3 l2 (.lst ((ps.map fun p=>V.ref p.1)++[.ref t]))=H4 at s4 s14 x4 ⊢
  refine ⟨p,dx,l2,l,r,k,c+1,_,rfl,s14 _ _ w1,x4,by rw [dH];show ps.length+1<=500;lia,r0,r64,fun l' ps' H5 e' w5 b5 n5=>?_⟩
  have bb:But p H H5:=fun b o e n=>b5 b o (s14 _ _ (b1 b o e n)) n
  refine q l' ps' H5 (by rw [e'];unfold bx;rw [eG];rfl) w5 bb ?_
  exact cT b1 (s14.free n5) (fun z=>by rw [z,s14 _ _ w1] at n5;cases n5)
noncomputable def aiL (A:Ad):Sp:=fun vs H Q _=>∃ (p dx l:Addr) (r k c v:Int) (ps:List Bp),vs=[.ref p,.int v]/\Wn A H p dx l r k c ps/\ps.length<=400/\0<=r/\r<=64 /\
 ∀ (l':Addr) (ps':List Bp) (H':Hp),bx ps'=dF r (c+v-k) (bx ps)->Wn A H' p dx l' r k (c+v) ps'->But p H H'->H l'=none->Q .non H'
theorem ajx (T:Tx K mg A):cP P w K mg base CX0 5 A.Xf A.rC ["self","many"] (aiL A):=by
 k_dat (T.F'13.ok,Kl) "a"
 ·obtain ⟨p,dx,l,r,k,c,v,ps,rfl,_⟩:=h
  rfl
 ·obtain ⟨p,dx,l,r,k,c,v,ps,rfl,hw,h400,r0,r64,q⟩:=h
  refine ⟨_,(aq (aU (pv 0) (aM cu (aB (pv 0) rfl) (pv 1)) rfl)
   (aF (bF (dG (pv 0) T.cU T.nA (ahd T) tb_g% T.b'11 .nil aQ (aj (aB (pv 0) rfl) aA))))),?_⟩
  refine ⟨_,rfl,rdF hw.o T.cU T.mL (je _ _ _ _) ⟨_,rfl,_,_,rfl,rfl,_,rfl,p,_,dx,_,rfl,hw.o,T.cU,T.mL,(by show 4<1000;decide),?_⟩⟩
  rw [ux]
  have b1:But p H (upd H p (.ins A.gW dx (wf (.int r) (.int k) (.int (c+v)) (.ref l)))):=But.upd
  have w1:(upd H p (.ins A.gW dx (wf (.int r) (.int k) (.int (c+v)) (.ref l)))) p=some (.ins A.gW dx (wf (.int r) (.int k) (.int (c+v)) (.ref l))):=ao
  have x1:=hw.b.but b1 hw.o
  generalize upd H p (.ins A.gW dx (wf (.int r) (.int k) (.int (c+v)) (.ref l)))=H1 at b1 w1 x1 ⊢
  refine ⟨_,rfl,p,dx,_,rfl,w1,Nb _ _ _ _ tb_g% tb_g% tb_g% tb_g%,?_⟩
  refine ⟨_,rfl,rdF w1 T.cU T.xX (sE _ _ _ _) ?_⟩
  refine ⟨p,dx,l,l,r,k,c+v,ps,rfl,w1,x1,by lia,r0,r64,fun l' ps' H5 e' w5 b5 n5=>?_⟩
  exact q l' ps' H5 e' w5 (fun b o e n=>b5 b o (b1 b o e n) n) (cT b1 n5 (fun z=>by rw [z,w1] at n5;cases n5))
open MK
noncomputable def ahe:Sp:=fun vs H Q _=>∃ n:Int,vs=[.int n]/\Q (.int (n*770093176312745717 % 1152921504606846976)) H
theorem ok'14 (T:Tx K mg A):cP P w K mg base CX0 1 A.Xg A.JM ["thing"] ahe:=by
 k_dat (T.F'14.ok,acj) "a"
 ·obtain ⟨n,rfl,_⟩:=h
  rfl
 ·obtain ⟨n,rfl,q⟩:=h
  obtain ⟨_,al4,al5⟩:=T.alT
  obtain ⟨_,ahf,ahg⟩:=T.ag7
  refine ⟨_,(aF (cB (aM dM (aM qX (pv 0) (nJ (v:=.int 770093176312745717) rfl ahf ahg)) (nJ (v:=.int 1152921504606846976) rfl al4 al5)))),?_⟩
  exact ⟨_,rfl,_,_,rfl,rfl,jh (by decide) (by decide),_,_,rfl,rfl,(by show (0:Int)<1152921504606846976;decide),q⟩
noncomputable def zZ (r:Int) (h:Nat):Prop:=(r=0/\h=60)\/K4 r h
theorem zZ.uniq {k:Nat} (a:zZ r h) (b:zZ r k):h=k:=by
 rcases a with ⟨a,rfl⟩ | a
 ·rcases b with ⟨_,rfl⟩ | b
  ·rfl
  ·exact absurd a b.ne
 ·rcases b with ⟨b,rfl⟩ | b
  ·exact absurd b a.ne
  ·exact a.uniq b
noncomputable def al6:Sp:=fun vs H Q _=>∃ n:Int,vs=[.int n]/\∀ h:Nat,zZ (n*770093176312745717 % 1152921504606846976) h->Q (.int h) H
/-- what is left to halve -/
noncomputable def restOf (σ:St) (_:Hp):Nat:=match σ with
 | [_,some (.int x),_]=>x.toNat
 | _=>0
theorem ajy (T:Tx K mg A):cP P w K mg base CX0 2 A.Xh A.ZQ ["thing"] al6:=by
 k_dat (T.F'15.ok,BX) "a"
 ·obtain ⟨n,rfl,_⟩:=h
  rfl
 ·obtain ⟨n,rfl,q⟩:=h
  obtain ⟨_,Fy,Fz⟩:=T.Fp
  refine ⟨_,(aq (aX (i:=1) BX.nd rfl (Or.inl rfl) (aJ (ok'14 T) tb_g% rfl T.agU T.F'14.kp T.b'14 .nil aQ (aj (pv 0) aA)))
   (aq (fO (bB uH (pv 1) aC (bR _)) (aF (cB (nJ (v:=.int 60) rfl Fy Fz))) dj)
   (aq (aX (i:=2) BX.nd rfl (Or.inl rfl) aC)
   (aq (Ao uG (bB uH (aM dM (pv 1) aC) aC (bR _)) (aq (aX (i:=1) BX.nd rfl (Or.inl rfl) (aM iM (pv 1) aC))
   (aF (aX (i:=2) BX.nd rfl (Or.inl rfl) (aM cu (pv 2) aC)))))
   (aF (cB (pv 2))))))),?_⟩
  refine ⟨_,rfl,n,rfl,?_⟩
  have z0:=zf (n*770093176312745717) (show (1152921504606846976:Int)≠0 by decide)
  have z1:=zc (n*770093176312745717) (show (0:Int)<1152921504606846976 by decide)
  generalize n*770093176312745717 % 1152921504606846976=r at q z0 z1
  refine ⟨_,rfl,rfl,_,rfl,gP (fun h=>?_) (fun h=>?_)⟩
  ·have e:V.int r=V.int 0:=of_decide_eq_true h
   exact q 60 (.inl ⟨V.int.inj e,rfl⟩)
  ·have ne:r≠0:=fun z=>h (decide_eq_true (congrArg V.int z))
   refine Aq (fun σ H'=>∃ (x:Int) (i:Nat),σ=[some (.int n),some (.int x),some (.int (i:Int))]/\To r x i/\H'=H) restOf ⟨r,0,rfl,⟨by simp,ne⟩,rfl⟩ ?_
    (fun σ H Q Q' hq ⟨v,e,i,j,e1,e2,h,sc,k,e3,q⟩=>⟨v,e,i,j,e1,e2,h,sc,k,e3,hq _ _ q⟩)
   rintro σ H' ⟨x,i,rfl,ht,rfl⟩
   refine ⟨_,rfl,_,_,rfl,rfl,(by show (0:Int)<2;decide),rfl,_,rfl,gP (fun h=>?_) (fun h=>?_)⟩
   ·have e:x % 2=0:=V.int.inj (of_decide_eq_true h)
    have hx:=ht.lt tb_g% z1
    refine ⟨_,rfl,_,_,rfl,rfl,⟨by decide,by decide⟩,_,rfl,_,_,rfl,rfl,⟨x / 2,i+1,?_,ht.step e,rfl⟩,?_⟩
    ·rw [show ((i+1:Nat):Int)=(i:Int)+1 by lia];rfl
    ·show (x / 2).toNat<x.toNat
     lia
   ·have e:¬ x % 2=0:=fun z=>h (decide_eq_true (congrArg V.int z))
    exact ⟨_,rfl,q i (.inr (ht.stop e))⟩
noncomputable def df (aD bW dU fQ:V):List (Str × V):=[("room",aD),("arrivals",bW),("level",dU),("kept",fQ)]
theorem qN (aD bW dU fQ:V):(df aD bW dU fQ).lookup ("room" : Str)=some aD:=by rfl
theorem mU (aD bW dU fQ:V):(df aD bW dU fQ).lookup ("arrivals" : Str)=some bW:=by rfl
theorem lB (aD bW dU fQ:V):(df aD bW dU fQ).lookup ("level" : Str)=some dU:=by rfl
theorem wV (aD bW dU fQ:V):(df aD bW dU fQ).lookup ("kept" : Str)=some fQ:=by rfl
theorem al7 (aD bW dU fQ:V):bU "kept" fQ (bU "level" dU (bU "arrivals" bW (bU "room" aD [])))=df aD bW dU fQ:=by
 unfold df
 walk_at "rec"
theorem uU (aD bW dU fQ y:V):bU "arrivals" y (df aD bW dU fQ)=df aD y dU fQ:=by
 unfold df
 walk_at "rec"
theorem Cj (aD bW dU fQ y:V):bU "level" y (df aD bW dU fQ)=df aD bW y fQ:=by
 unfold df
 walk_at "rec"
theorem Ub (aD bW dU fQ y:V):bU "kept" y (df aD bW dU fQ)=df aD bW dU y:=by
 unfold df
 walk_at "rec"
theorem ahh (aD bW dU fQ:V) (zY:¬ m = "room") (ZW:¬ m = "arrivals") (aiM:¬ m = "level") (al8:¬ m = "kept"):(df aD bW dU fQ).lookup m=none:=by
 unfold df
 rw [cR zY,cR ZW,cR aiM,cR al8]
 rfl
noncomputable def aiN (A:Ad):Sp:=fun vs H Q _=>∃ (p dx:Addr) (r:Int),vs=[.ref p,.int r]/\H p=some (.ins A.gQ dx []) /\
 ∀ (d:Addr) (H':Hp),H d=none->H' p=some (.ins A.gQ dx (df (.int r) (.int 0) (.int 0) (.ref d)))->H' d=some (.lst [])->But p H H'->Q .non H'
theorem ajz (T:Tx K mg A):cP P w K mg base CX0 1 A.Rp A.mZ ["self","room"] (aiN A):=by
 k_dat (T.F'16.ok,Ei) "a"
 ·obtain ⟨p,dx,r,rfl,_⟩:=h
  rfl
 ·obtain ⟨p,dx,r,rfl,hp,q⟩:=h
  refine ⟨_,(aq (aU (pv 0) (pv 1) rfl)
   (aq (aU (pv 0) aC rfl)
   (aq (aU (pv 0) aC rfl)
   (aF (aU (pv 0) (dY aA) rfl))))),?_⟩
  refine ⟨_,rfl,_,rfl,p,_,dx,[],rfl,hp,T.dR,T.wA,(by show 0<1000;decide),?_⟩
  k_dat (p,dx,ao,T.dR,T.xY,1) "c"
  k_dat (p,dx,ao,T.dR,T.rY,2) "c"
  rw [cQ,cQ]
  refine ⟨(by show 0<=sizeLine;decide),fun d hd=>?_⟩
  have npd:p≠d:=fun z=>by rw [<- z,ao] at hd;cases hd
  rw [au (aL npd)] at hd
  refine ⟨_,rfl,p,_,dx,_,rfl,(by rw [au npd];exact ao),T.dR,T.xZ,(by show 3<1000;decide),?_⟩
  refine q d _ hd (Ij ao (by rw [al7])) (by rw [au (aL npd),ao]) fun b o e hb=>?_
  rw [au hb,au (ak e hd),au hb]
  exact e
theorem aiO {n:Int} (m:zZ (n*770093176312745717 % 1152921504606846976) h):h<=60:=by
 rcases m with ⟨_,rfl⟩ | m
 ·exact bV _
 ·have:=m.lt (zf _ (by decide)) (zc _ (by decide))
  lia
theorem aa0:∀ (n:Nat) (r:Int),r.natAbs<=n->r≠0->∃ h,K4 r h
 | 0,r,h,h0=>absurd (show r=0 by lia) h0
 | n+1,r,h,h0=>by
  by_cases e:r % 2=1
  ·exact ⟨0,r,by simp,e⟩
  ·obtain ⟨k,m,e1,e2⟩:=aa0 n (r / 2) tb_g% tb_g%
   refine ⟨k+1,m,?_,e2⟩
   rw [vI,<- Dk,<- e1]
   lia
theorem Rg (k:Int):∃ h,zZ (k*770093176312745717 % 1152921504606846976) h:=by
 by_cases e:k*770093176312745717 % 1152921504606846976=0
 ·exact ⟨60,.inl ⟨e,rfl⟩⟩
 ·obtain ⟨h,hh⟩:=aa0 _ _ (bV _) e
  exact ⟨h,.inr hh⟩
/-- the mark of k -/
noncomputable def mkOf (k:Int):Int:=(ae3 (Rg k):Nat)
theorem mk_eq (m:zZ (k*770093176312745717 % 1152921504606846976) h):(h:Int)=mkOf k:=by
 rw [m.uniq (ae2 (Rg k))];rfl
theorem mk_le (k:Int):mkOf k<=60:=by
 obtain ⟨h,m⟩:=Rg k
 have:=aiO m
 rw [<- mk_eq m];lia
noncomputable def up (v:Int) (ks:List Int):List Int:=ks.filter fun z=>decide (v<=mkOf z)
theorem aa1 {w:Int} (h:v<=w) (ks:List Int):up w (up v ks)=up w ks:=by
 unfold up
 rw [List.filter_filter]
 apply List.filter_congr
 intro x _
 by_cases e:w<=mkOf x
 ·rw [decide_eq_true e,decide_eq_true (show v<=mkOf x by lia)];rfl
 ·rw [decide_eq_false e];rfl
theorem al9 (h:∀ z∈ks,v<=mkOf z):up v ks=ks:=by
 unfold up
 rw [Vo]
 exact fun z hz=>decide_eq_true (h z hz)
theorem aa2 (h:60<v) (ks:List Int):up v ks=[]:=by
 unfold up
 rw [Oj]
 intro z _ e
 have:=of_decide_eq_true e
 have:=mk_le z
 lia
theorem mj {z:Int} :z∈up v ks↔z∈ks/\v<=mkOf z:=by
 unfold up;rw [vB,decide_eq_true_iff]
/-- the sorted one -/
noncomputable def srt (ns:List Int):List Int:=ns.mergeSort fun a b=>decide (a<=b)
theorem n8:∀ {xs ys:List Int},xs.Perm ys->xs.Pairwise (· <= ·)->ys.Pairwise (· <= ·)->xs=ys
 | [],ys,p,_,_=>by rw [VD.mp p]
 | x::xs,[],p,_,_=>absurd p (by simp)
 | x::xs,y::ys,p,h1,h2=>by
  have a1:=iH.mp h1
  have a2:=iH.mp h2
  have e:x=y:=by
   have m1:x∈y::ys:=p.mem_iff.mp cX
   have m2:y∈x::xs:=p.mem_iff.mpr cX
   rcases bN.mp m1 with z | z
   ·exact z
   ·rcases bN.mp m2 with z' | z'
    ·exact z'.symm
    ·exact aeE (a1.1 y z') (a2.1 x z)
  subst e
  rw [n8 (WT p) a1.2 a2.2]
theorem gZ (ns:List Int):(srt ns).Perm ns:=Vp _ _
theorem qZ (ns:List Int):(srt ns).Pairwise (· <= ·):=by
 have:=Vj (le:=fun a b:Int=>decide (a<=b)) (fun a b c h1 h2=>by simp only [decide_eq_true_eq] at *; lia) (fun a b=>by simp only [Wu,decide_eq_true_eq];lia) ns
 exact this.imp fun h=>of_decide_eq_true h
theorem rm {ms:List Int} (p:ms.Perm ns) (h:ms.Pairwise (· <= ·)):ms=srt ns:=n8 (p.trans (gZ ns).symm) h (qZ ns)
theorem En {ms:List Int} (p:ms.Perm ns):srt ms=srt ns:=n8 ((gZ ms).trans (p.trans (gZ ns).symm)) (qZ _) (qZ _)
theorem ZX (v:Int) (ns:List Int):up v (srt ns)=srt (up v ns):=rm ((gZ ns).filter _) ((qZ ns).filter _)
theorem gn (ns:List Int):(srt ns).length=ns.length:=(gZ ns).length_eq
theorem qF {z:Int} :z∈srt ns↔z∈ns:=(gZ ns).mem_iff
noncomputable def acp:Sp:=fun vs H Q _=>∃ (l:Addr) (v:Int) (ks:List Int),vs=[.ref l,.int v]/\H l=some (.lst (ks.map V.int))/\ks.length<=900 /\
 ∀ (l':Addr) (H':Hp),H l'=none->H' l'=some (.lst ((up v ks).map V.int))->Same H H'->Q (.ref l') H'
theorem ajA (T:Tx K mg A):cP P w K mg base CX0 3 A.Xi A.zR ["things","level"] acp:=by
 k_dat (T.F'17.ok,T8) "a"
 ·obtain ⟨l,v,ks,rfl,_⟩:=h
  rfl
 ·obtain ⟨l,v,ks,rfl,hl,h500,q⟩:=h
  refine ⟨_,(aF (cB (aaJ (cl:=[("level",s.heap.objs.size+1)]) (N:=["thing","level"]) (caps:=[1]) (tt:=_) (te:=_) rfl (by with_unfolding_all rfl) tb_g% rfl tb_g% ⟨rfl,trivial⟩ (vR (by with_unfolding_all rfl)) tb_g% rfl rfl rfl (gM.at (k:=1) (show gM _ _ _ _ 1 [1] from ⟨⟨"level",_,rfl,rfl,.inl rfl,.inl rfl,rfl⟩,trivial⟩)) (tG (pv 0)) (fun _ _ _ _=>(Gd (bB ajc (aJ (ajy T) (by exact hr.mono (by decide)) rfl T.agV T.F'15.kp T.b'15 .nil aQ (aj (pv 0) aA)) (pv 1) (bR _)))) (fun _ _ _ _=>(pv 0))))),?_⟩
  refine ⟨_,rfl,l,rfl,⟨_,.inl (.inl hl)⟩,fun D hD=>?_⟩
  refine EY (K:=K) (a:=l) (xs:=ks.map V.int) (fun i ys H2=>ys=(up v (ks.take i)).map V.int/\H2=upd H D (.lst ys)) ⟨rfl,rfl⟩ ?_ ?_ ?_ ?_ ?_
  ·rintro i ys H2 hi ⟨rfl,rfl⟩
   refine ⟨.inl (.inl ((Same.new hD) _ _ hl)),ao,aV ?_⟩
   have:(up v (ks.take i)).length<=(ks.take i).length:=vo _ _
   rw [gU] at this
   rw [bG]
   lia
  ·rintro i ys H2 x hx ⟨rfl,rfl⟩
   obtain ⟨z,hz,rfl⟩:=int_at hx
   refine ⟨_,rfl,z,rfl,fun h hh=>⟨_,rfl,_,_,rfl,rfl,_,rfl,gP (fun hc=>?_) (fun hc=>?_)⟩⟩
   ·have hc:v<=(h:Int):=of_decide_eq_true hc
    rw [mk_eq hh] at hc
    refine ⟨_,rfl,ao,?_,by rw [cQ]⟩
    have e:up v (ks.take (i+1))=up v (ks.take i)++[z]:=by
     rw [xO,hz]
     unfold up
     rw [Ae]
     simp [hc]
    rw [e,eG];rfl
   ·have hc:¬ v<=(h:Int):=fun y=>hc (decide_eq_true y)
    rw [mk_eq hh] at hc
    refine ⟨ao,?_,rfl⟩
    have e:up v (ks.take (i+1))=up v (ks.take i):=by
     rw [xO,hz]
     unfold up
     rw [Ae]
     simp [hc]
    rw [e]
  ·rintro ys H2 ⟨rfl,rfl⟩
   rw [bG,vA]
   exact q D _ hD ao (Same.new hD)
  ·exact fun σ H R R' hr ⟨v,e,n,en,q⟩=>⟨v,e,n,en,fun h m=>by
    obtain ⟨u,eu,i,j,ei,ej,k,ek,r⟩:=q h m
    exact ⟨u,eu,i,j,ei,ej,k,ek,hr _ _ r⟩⟩
  ·exact cO 0
/-- a Distinct -/
structure Dn (A:Ad) (H:Hp) (p dx l:Addr) (r n v:Int) (ks:List Int):Prop where
 o:H p=some (.ins A.gQ dx (df (.int r) (.int n) (.int v) (.ref l)))
 l:H l=some (.lst (ks.map V.int))
theorem Dn.same {p:Addr} {n:Int} (h:Dn A H p dx l r n v ks) (s:Same H H'):Dn A H' p dx l r n v ks:=⟨s _ _ h.o,s _ _ h.l⟩
theorem Dn.but {p q C:Addr} {fs:List (Str × V)} {n:Int} (h:Dn A H p dx l r n v ks) (s:But q H H') (hq:H q=some (.ins C e fs)) (m:p≠q):Dn A H' p dx l r n v ks:=⟨s _ _ h.o m,s _ _ h.l (jq h.l hq (by intro z;cases z))⟩
/-- the level that v must rise to -/
noncomputable def Lvl (r v v':Int) (ks:List Int):Prop:=v<=v'/\((up v' ks).length:Int)<=r/\∀ w,v<=w->w<v'->r<((up w ks).length:Int)
theorem Lvl.uniq {a b:Int} (h:Lvl r v a ks) (g:Lvl r v b ks):a=b:=by
 rcases (show a<b\/a=b\/b<a by lia) with z | z | z
 ·have:=g.2.2 a h.1 z;have:=h.2.1;lia
 ·exact z
 ·have:=h.2.2 b g.1 z;have:=g.2.1;lia
theorem Lvl.le {v':Int} (h:Lvl r v v' ks) (r0:0<=r) (hv:v<=61):v'<=61:=by
 rcases (show v'<=61\/61<v' by lia) with z | z
 ·exact z
 ·have:=h.2.2 61 hv z
  rw [aa2 (by decide)] at this
  have e:(([]:List Int).length:Int)=0:=rfl
  lia
noncomputable def acq (A:Ad):Sp:=fun vs H Q _=>∃ (p dx l l0:Addr) (r n v:Int) (ks:List Int),vs=[.ref p,.ref l]/\H p=some (.ins A.gQ dx (df (.int r) (.int n) (.int v) (.ref l0)))/\H l=some (.lst (ks.map V.int))/\(ks.length<64\/ks.length=64/\(ks.take 63).Pairwise (· <= ·))/\0<=r/\0<=v/\v<=61/\(∀ z∈ks,v<=mkOf z) /\
 ∀ (l':Addr) (v':Int) (H':Hp),Lvl r v v' ks->Dn A H' p dx l' r n v' (up v' (srt ks))->But p H H'->H l'=none->Q .non H'
noncomputable def lvV:Option V->Nat
 | some (.int v)=>(100-v).toNat
 | _=>0
noncomputable def lvO:Option HO->Nat
 | some (.ins _ _ fs)=>lvV (fs.lookup ("level" : Str))
 | _=>0
noncomputable def lvOf (σ:St) (H:Hp):Nat:=match σ with
 | some (.ref p)::_=>lvO (H p)
 | _=>0
theorem aa3 {p C:Addr} {a b c:V} (h:H p=some (.ins C dx (df a b (.int v) c))):lvOf (some (.ref p)::σ) H=(100-v).toNat:=by
 show lvO (H p)=_
 rw [h]
 show lvV ((df a b (.int v) c).lookup ("level" : Str))=_
 rw [lB];rfl
theorem ajB (T:Tx K mg A):cP P w K mg base CX0 4 A.Xj A.kY ["self","things"] (acq A):=by
 k_dat (T.F'18.ok,jG) "a"
 ·obtain ⟨p,dx,l,l0,r,n,v,ks,rfl,_⟩:=h
  rfl
 ·obtain ⟨p,dx,l,l0,r,n,v,ks,rfl,hp,hl,h900,r0,v0,v61,hv,q⟩:=h
  refine ⟨_,(aq (aX (i:=2) jG.nd rfl (Or.inl rfl) (cA Js (by rfl) T.pG Dj (aj (pv 1) aA)))
   (aq (Ao uG (bB RZ (cA dZ (by rfl) T.pD oh (aj (pv 2) aA)) (aB (pv 0) rfl) (bR _)) (aq (aU (pv 0) (aM cu (aB (pv 0) rfl) aC) rfl)
   (aF (aX (i:=2) jG.nd rfl (Or.inl rfl) (aJ (ajA T) tb_g% rfl T.JW T.F'17.kp T.b'17 .nil aQ (aj (pv 2) (aj (aB (pv 0) rfl) aA)))))))
   (aF (aU (pv 0) (pv 2) rfl)))),?_⟩
  have h901:ks.length<=64:=by rcases h900 with z | z;exact mG z;exact HF z.1
  refine ⟨_,rfl,⟨l,ks,rfl,.inl (.inl hl),h900,fun l1 ms hl1 pm so=>?_⟩⟩
  have s1:Same H (upd H l1 (.lst (ms.map V.int))):=Same.new hl1
  have f1:(upd H l1 (.lst (ms.map V.int))) l1=some (.lst (ms.map V.int)):=ao
  obtain rfl:ms=srt ks:=rm pm so
  have lm:=pm.length_eq
  show YL _ _ _ [some (.ref p),some (.ref l),some (.ref l1)] (upd H l1 (.lst ((srt ks).map V.int)))
  generalize upd H l1 (.lst ((srt ks).map V.int))=H1 at s1 f1 ⊢
  have e0:up v (srt ks)=srt ks:=al9 fun z hz=>hv z (qF.mp hz)
  have lu:∀ w,(up w (srt ks)).length=(up w ks).length:=fun w=>by rw [ZX,gn]
  refine Aq (fun σ G=>∃ (l2:Addr) (w:Int),σ=[some (.ref p),some (.ref l),some (.ref l2)]/\H l2=none/\G p=some (.ins A.gQ dx (df (.int r) (.int n) (.int w) (.ref l0)))/\G l2=some (.lst ((up w (srt ks)).map V.int))/\But p H G/\v<=w/\(w<=61)/\∀ u,v<=u->u<w->r<((up u ks).length:Int)) lvOf
   ⟨l1,v,rfl,hl1,s1 _ _ hp,by rw [e0];exact f1,s1.but p,eE _,v61,fun u a b=>by lia⟩ ?_ ?_
  ·rintro σ G ⟨l2,w,rfl,nl2,gp,gl,bt,hvw,hw,hd⟩
   have lms:(up w (srt ks)).length<=ks.length:=by rw [lu];exact vo _ _
   refine ⟨_,rfl,kO (.inl (.inl gl)) ⟨_,rfl,rdF gp T.dR T.wA (qN _ _ _ _) ⟨_,_,rfl,rfl,_,rfl,gP (fun hc=>?_) (fun hc=>?_)⟩⟩⟩
   ·have hc:r<(((up w (srt ks)).map V.int).length:Int):=of_decide_eq_true hc
    rw [bG] at hc
    have hw60:w<=60:=by
     rcases (show w<=60\/60<w by lia) with z | z
     ·exact z
     ·rw [aa2 z] at hc
      have e:(([]:List Int).length:Int)=0:=rfl
      lia
    refine ⟨_,rfl,rdF gp T.dR T.rY (lB _ _ _ _) ⟨_,_,rfl,rfl,_,rfl,p,_,dx,_,rfl,gp,T.dR,T.rY,(by show 4<1000;decide),?_⟩⟩
    rw [Cj]
    have npl:l2≠p:=jq gl gp (by intro z;cases z)
    have b2:But p G (upd G p (.ins A.gQ dx (df (.int r) (.int n) (.int (w+1)) (.ref l0)))):=But.upd
    have o2:(upd G p (.ins A.gQ dx (df (.int r) (.int n) (.int (w+1)) (.ref l0)))) p=some (.ins A.gQ dx (df (.int r) (.int n) (.int (w+1)) (.ref l0))):=ao
    have lw:=aa3 (σ:=[some (.ref l),some (.ref l2)]) gp
    have gl2:=b2 _ _ gl npl
    refine ⟨_,rfl,_,rfl,rdF o2 T.dR T.rY (lB _ _ _ _) ⟨l2,w+1,_,rfl,gl2,by lia,fun l3 G3 nl3 gl3 s3=>?_⟩⟩
    have nl3':H l3=none:=by
     refine cT (fun b o e m=>b2 b o (bt b o e m) m) nl3 fun z=>?_
     rw [z,o2] at nl3;cases nl3
    rw [aa1 (show w<=w+1 by lia)] at gl3
    refine ⟨⟨l3,w+1,rfl,nl3',s3 _ _ o2,gl3,fun b o e m=>s3 _ _ (b2 b o (bt b o e m) m),by lia,by lia,fun u a b=>?_⟩,?_⟩
    ·rcases (show u<w\/u=w by lia) with z | z
     ·exact hd u a z
     ·rw [z,<- lu];exact hc
    ·rw [lw]
     refine V5 (HF (aa3 (s3 _ _ o2))) ?_
     lia
   ·have hc:¬ r<(((up w (srt ks)).map V.int).length:Int):=fun z=>hc (decide_eq_true z)
    rw [bG] at hc
    refine ⟨_,rfl,_,rfl,p,_,dx,_,rfl,gp,T.dR,T.xZ,(by show 4<1000;decide),?_⟩
    rw [Ub]
    have npl:l2≠p:=jq gl gp (by intro z;cases z)
    refine q l2 w _ ⟨hvw,by rw [<- lu];lia,hd⟩ ⟨ao,by rw [au npl];exact gl⟩ (fun b o e m=>by rw [au m];exact bt b o e m) nl2
  ·exact fun σ H Q Q' hq h=>lX (tU (Tz (jP (cO 2) vZ)) (Bv (cO 0))) σ H Q Q' hq h
theorem ahi (k:Int) (ks:List Int):inV (.int k) (ks.map V.int)=decide (k∈ks):=by
 induction ks with
 | nil=>rfl
 | cons x r ih =>
  show (eqV (.int x) (.int k) || inV (.int k) (r.map V.int))=_
  rw [ih]
  show ((x == k) || decide (k∈r))=decide (k∈x::r)
  by_cases e:k=x
  ·subst e;simp
  ·have:(x == k)=false:=by simp;exact fun z=>e z.symm
   rw [this];simp [e]
theorem ahj (ks:List Int):(ks.map V.int).all uI=true:=by
 rw [adw]
 intro x m
 obtain ⟨z,_,rfl⟩:=jW.mp m
 rfl
/-- the different things that came,k behind them -/
noncomputable def came (C:List Int) (k:Int):List Int:=if k∈C then C else C++[k]
theorem ahk (C:List Int) (k:Int):C.length<=(came C k).length/\(came C k).length<=C.length+1:=by
 unfold came
 split
 ·lia
 ·rw [dH];show C.length<=C.length+1/\_;exact ⟨by lia,bV _⟩
theorem aiP {w:Int}:(up w C).length<=(up w (came C k)).length:=by
 unfold came
 split
 ·exact bV _
 ·unfold up;rw [Ae,dH];lia
/-- a level v of the different things C: the least that will do -/
noncomputable def lC (r v:Int) (C:List Int):Prop:=0<=v/\((up v C).length:Int)<=r/\∀ w,0<=w->w<v->r<((up w C).length:Int)
theorem lC.lvl {v':Int} (h:lC r v C) (g:Lvl r v v' D) (hm:∀ w,(up w C).length<=(up w D).length):lC r v' D:=by
 have:=h.1
 have:=g.1
 refine ⟨by lia,g.2.1,fun w a b=>?_⟩
 rcases (show w<v\/v<=w by lia) with z | z
 ·have:=h.2.2 w a z;have:=hm w;lia
 ·exact g.2.2 w z b
theorem lC.le (h:lC r v C) (r0:0<=r):v<=61:=Lvl.le (ks:=C) (v:=0) ⟨h.1,h.2.1,h.2.2⟩ r0 (by decide)
noncomputable def ama (A:Ad):Sp:=fun vs H Q _=>∃ (p dx l:Addr) (r n v k:Int) (C:List Int),vs=[.ref p,.int k]/\Dn A H p dx l r n v (srt (up v C))/\lC r v C/\C.length<=63/\0<=r/\r<=800 /\
 ∀ (l':Addr) (v':Int) (H':Hp),Lvl r v v' (came C k)->Dn A H' p dx l' r (n+1) v' (srt (up v' (came C k)))->But p H H'->(l'=l\/H l'=none)->Q .non H'
theorem ok'19 (T:Tx K mg A):cP P w K mg base CX0 5 A.Xk A.oX ["self","thing"] (ama A):=by
 k_dat (T.F'19.ok,Ft) "a"
 ·obtain ⟨p,dx,l,r,n,v,k,C,rfl,_⟩:=h
  rfl
 ·obtain ⟨p,dx,l,r,n,v,k,C,rfl,hd,hL,h8,r0,r8,q⟩:=h
  have v0:=hL.1
  have v61:=hL.le r0
  have hlen:(srt (up v C)).length<=63:=by have:(up v C).length<=C.length:=vo _ _;rw [gn];lia
  refine ⟨_,(aq (aU (pv 0) (aM cu (aB (pv 0) rfl) aC) rfl)
   (aF (fO (PW.pt (pw_and (bB ajc (aJ (ajy T) tb_g% rfl T.agV T.F'15.kp T.b'15 .nil aQ (aj (pv 1) aA)) (aB (pv 0) rfl) (bR _)) (pw_and1 (bB (alx (dO hr)) (pv 1) (aB (pv 0) rfl) (by with_unfolding_all rfl))))) (aF (bF (dG (pv 0) T.dR T.qH (ajB T) tb_g% T.b'18 .nil aQ (aj (aM zF (aB (pv 0) rfl) (dY (aj (pv 1) aA))) aA)))) dj))),?_⟩
  refine ⟨_,rfl,rdF hd.o T.dR T.xY (mU _ _ _ _) ⟨_,_,rfl,rfl,_,rfl,p,_,dx,_,rfl,hd.o,T.dR,T.xY,(by show 4<1000;decide),?_⟩⟩
  rw [uU]
  have b1:But p H (upd H p (.ins A.gQ dx (df (.int r) (.int (n+1)) (.int v) (.ref l)))):=But.upd
  have d1:Dn A (upd H p (.ins A.gQ dx (df (.int r) (.int (n+1)) (.int v) (.ref l)))) p dx l r (n+1) v (srt (up v C)):=⟨ao,by rw [au (jq hd.l hd.o (by intro z;cases z))];exact hd.l⟩
  generalize upd H p (.ins A.gQ dx (df (.int r) (.int (n+1)) (.int v) (.ref l)))=H1 at b1 d1 ⊢
  refine ⟨_,rfl,k,rfl,fun h hh=>⟨_,rfl,rdF d1.o T.dR T.rY (lB _ _ _ _) ⟨_,_,rfl,rfl,_,rfl,gP (fun hc=>?_) (fun hc=>?_)⟩⟩⟩
  ·have hc:v<=(h:Int):=of_decide_eq_true hc
   rw [mk_eq hh] at hc
   refine ⟨_,rfl,_,rfl,rdF d1.o T.dR T.xZ (wV _ _ _ _) (.inl ⟨l,_,rfl,.inl (.inl (.inl d1.l)),rfl,ahj _,_,rfl,?_⟩)⟩
   rw [if_pos rfl,ahi]
   by_cases m:k∈srt (up v C)
   ·rw [decide_eq_true m]
    have ec:came C k=C:=by unfold came;rw [if_pos (mj.mp (qF.mp m)).1]
    rw [ec] at q
    exact Az (q l v _ ⟨eE _,hL.2.1,fun w a b=>by lia⟩ d1 b1 (.inl rfl))
   ·rw [decide_eq_false m]
    have hk:k∉C:=fun z=>m (qF.mpr (mj.mpr ⟨z,hc⟩))
    have ec:came C k=C++[k]:=by unfold came;rw [if_neg hk]
    have eu:∀ w,v<=w->up w (srt (up v C)++[k])=up w (srt (up v C))++up w [k]:=fun w _=>by unfold up;rw [Ae]
    refine Bb ⟨_,rfl,p,dx,_,rfl,d1.o,ahh _ _ _ _ tb_g% tb_g% tb_g% tb_g%,?_⟩
    refine ⟨_,rfl,rdF d1.o T.dR T.xZ (wV _ _ _ _) ⟨_,rfl,(by show 1<=sizeLine;decide),fun l1 hl1=>?_⟩⟩
    have s2:Same H1 (upd H1 l1 (.lst [.int k])):=Same.new hl1
    refine ⟨l,l1,_,_,rfl,rfl,s2 _ _ d1.l,ao,mG (aV (by rw [bG];show (srt (up v C)).length+1<=1000;lia)),fun l2 hl2=>?_⟩
    have s3:Same H1 (upd (upd H1 l1 (.lst [.int k])) l2 (.lst ((srt (up v C)++[k]).map V.int))):=s2.trans (Same.new hl2)
    have f3:(upd (upd H1 l1 (.lst [.int k])) l2 (.lst ((srt (up v C)++[k]).map V.int))) l2=some (.lst ((srt (up v C)++[k]).map V.int)):=ao
    rw [show (srt (up v C)).map V.int++[V.int k]=(srt (up v C)++[k]).map V.int by rw [eG];rfl]
    generalize upd (upd H1 l1 (.lst [.int k])) l2 (.lst ((srt (up v C)++[k]).map V.int))=H3 at s3 f3 ⊢
    have d3:=d1.same s3
    have pm:(srt (up v C)++[k]).Perm (up v (C++[k])):=by
     have:up v (C++[k])=up v C++[k]:=by unfold up;rw [Ae];simp [hc]
     rw [this]
     exact (gZ _).append_right _
    refine ⟨p,dx,l2,l,r,n+1,v,_,rfl,d3.o,f3,Ks ⟨hlen,qZ _⟩,r0,v0,v61,(fun z hz=>(mj.mp (pm.mem_iff.mp hz)).2),fun l' v' H' lv dn bt nl=>?_⟩
    have el:∀ w,v<=w->(up w (srt (up v C)++[k])).length=(up w (C++[k])).length:=fun w hw=>(pm.filter _).length_eq.trans (congrArg nF (aa1 hw _))
    have nl1:H1 l'=none:=s3.free nl
    have nl0:H l'=none:=cT b1 nl1 fun z=>by rw [z,d1.o] at nl1;cases nl1
    refine q l' v' H' ?_ ?_ (fun b o e m'=>bt b o (s3 _ _ (b1 b o e m')) m') (.inr nl0)
    ·rw [ec]
     exact ⟨lv.1,by rw [<- el _ lv.1];exact lv.2.1,fun w a b=>by rw [<- el _ a];exact lv.2.2 w a b⟩
    ·rw [ec]
     have:up v' (srt (srt (up v C)++[k]))=srt (up v' (C++[k])):=by
      rw [En pm,ZX,aa1 lv.1]
     rw [this] at dn
     exact dn
  ·have hc:¬ v<=(h:Int):=fun z=>hc (decide_eq_true z)
   rw [mk_eq hh] at hc
   have ew:∀ w,v<=w->up w (came C k)=up w C:=fun w hw=>by
    unfold came
    split
    ·rfl
    ·unfold up;rw [Ae];simp [show ¬ w<=mkOf k by lia]
   refine Az (q l v _ ⟨eE _,by rw [ew v (eE _)];exact hL.2.1,fun w a b=>by lia⟩ ?_ b1 (.inl rfl))
   rw [ew v (eE _)];exact d1
noncomputable def fl (r t l:Int) (d:Addr):List (Str × V):=[("room",.int r),("total",.int t),("lost",.int l),("counts",.ref d)]
theorem uy (r t l:Int) (d:Addr):(fl r t l d).lookup ("room" : Str)=some (.int r):=by rfl
theorem Ck (r t l:Int) (d:Addr):(fl r t l d).lookup ("total" : Str)=some (.int t):=by rfl
theorem Gp (r t l:Int) (d:Addr):(fl r t l d).lookup ("lost" : Str)=some (.int l):=by rfl
theorem sH (r t l:Int) (d:Addr):(fl r t l d).lookup ("counts" : Str)=some (.ref d):=by rfl
theorem ne1:¬ (("room" : Str) = "total"):=by decide +kernel
theorem ne2:¬ (("room" : Str) = "lost"):=by decide +kernel
theorem ne3:¬ (("room" : Str) = "counts"):=by decide +kernel
theorem ne4:¬ (("total" : Str) = "lost"):=by decide +kernel
theorem ne5:¬ (("total" : Str) = "counts"):=by decide +kernel
theorem ne6:¬ (("lost" : Str) = "counts"):=by decide +kernel
theorem Rh (f:Str) (v:V) (r:List (Str × V)) (u:V):bU f v ((f,u)::r)=(f,v)::r:=by unfold bU;rw [if_pos rfl]
theorem jy {f g:Str} (h:¬ g=f) (v:V) (r:List (Str × V)) (u:V):bU f v ((g,u)::r)=(g,u)::bU f v r:=by rw [bU,if_neg h]
theorem amb (r t l:Int) (d:Addr):bU "counts" (.ref d) (bU "lost" (.int l) (bU "total" (.int t) (bU "room" (.int r) [])))=fl r t l d:=by
 unfold fl
 rw [show bU "room" (.int r) []=[(("room" : Str),V.int r)] from rfl,jy ne1,show bU "total" (.int t) []=[(("total" : Str),V.int t)] from rfl,jy ne2,jy ne4,
  show bU "lost" (.int l) []=[(("lost" : Str),V.int l)] from rfl,jy ne3,jy ne5,jy ne6]
 rfl
theorem aa4 (r t l y:Int) (d:Addr):bU "total" (.int y) (fl r t l d)=fl r y l d:=by
 unfold fl;rw [jy ne1,Rh]
theorem aa5 (r t l y:Int) (d:Addr):bU "lost" (.int y) (fl r t l d)=fl r t y d:=by
 unfold fl;rw [jy ne2,jy ne4,Rh]
theorem aiQ (r t l:Int) (d e:Addr):bU "counts" (.ref e) (fl r t l d)=fl r t l e:=by
 unfold fl;rw [jy ne3,jy ne5,jy ne6,Rh]
theorem Gq {f:Str} {v:V} {r:List (Str × V)} (h:¬ m=f):((f,v)::r).lookup m=r.lookup m:=by
 rw [Vv]
 rw [beq_eq_false_iff_ne.mpr h]
theorem aa6 (r t l:Int) (d:Addr) (h1:¬ m = "room") (h2:¬ m = "total") (h3:¬ m = "lost") (h4:¬ m = "counts"):(fl r t l d).lookup m=none:=by
 unfold fl
 rw [Gq h1,Gq h2,Gq h3,Gq h4]
 rfl
noncomputable def amc (A:Ad):Sp:=fun vs H Q _=>∃ (p dx:Addr) (r:Int),vs=[.ref p,.int r]/\H p=some (.ins A.gY dx []) /\
 ∀ (d:Addr) (H':Hp),H d=none->H' p=some (.ins A.gY dx (fl r 0 0 d))->H' d=some (.dK (emb []))->But p H H'->Q .non H'
theorem ahl (T:Tx K mg A):cP P w K mg base CX0 1 A.Rq A.m8 ["self","room"] (amc A):=by
 k_dat (T.F'20.ok,Ej) "a"
 ·obtain ⟨p,dx,r,rfl,_⟩:=h
  rfl
 ·obtain ⟨p,dx,r,rfl,hp,k⟩:=h
  refine ⟨_,(aq (aU (pv 0) (pv 1) rfl)
   (aq (aU (pv 0) aC rfl)
   (aq (aU (pv 0) aC rfl)
   (aF (aU (pv 0) Sg rfl))))),?_⟩
  refine ⟨_,rfl,_,rfl,p,_,dx,[],rfl,hp,T.fu,T.yc,(by show 0<1000;decide),?_⟩
  k_dat (p,dx,ao,T.fu,T.BP,1) "c"
  k_dat (p,dx,ao,T.fu,T.BR,2) "c"
  rw [cQ,cQ]
  intro d hd
  have npd:p≠d:=fun z=>by rw [<- z,ao] at hd;cases hd
  rw [au (aL npd)] at hd
  refine ⟨_,rfl,p,_,dx,_,rfl,(by rw [au npd];exact ao),T.fu,T.BW,(by show 3<1000;decide),?_⟩
  refine k d _ hd (Ij ao (by rw [amb])) (by rw [au (aL npd),ao];rfl) fun b o e hb=>?_
  rw [au hb,au (ak e hd),au hb]
  exact e
/-- the cut of the counts c -/
noncomputable def Nf (room:Nat) (c:Tab) (cut:Int):Prop:=if c.length<=room then cut=0 else IsCut room c cut
theorem Nf.amd {cut:Int} (h:Nf room c cut) (hp:∀ p∈c,1<=p.2):gK room c (cZ c cut) cut:=by
 unfold Nf at h;unfold gK
 by_cases e:c.length<=room
 ·rw [if_pos e] at h ⊢; exact ⟨h,by rw [h,afZ hp]⟩
 ·rw [if_neg e] at h ⊢; exact ⟨h,rfl⟩
noncomputable def spCut:Sp:=fun vs H Q _=>∃ (g:Addr) (c:Tab) (room:Nat),vs=[.ref g,.int room]/\H g=some (.dK (emb c))/\(c.length<64\/c.length=64/\c.length<=room)/\∀ (cut:Int) (H':Hp),Nf room c cut->Same H H'->Q (.int cut) H'
theorem ok'21 (T:Tx K mg A):cP P w K mg base CX0 1 A.Xl A.JN ["counts","room"] spCut:=by
 k_dat (T.F'21.ok,M7) "a"
 ·obtain ⟨g,c,room,rfl,_⟩:=h
  rfl
 ·obtain ⟨g,c,room,rfl,hg,h64,q⟩:=h
  refine ⟨_,(aq (fO (bB ajb (cA dZ (by rfl) T.pD oh (aj (pv 0) aA)) (pv 1) (bR _)) (aF (cB aC)) dj)
   (aq (aX (i:=2) M7.nd rfl (Or.inl rfl) (abE T.pG (pv 0) ⟨rfl,rfl⟩ rfl))
   (aF (cB (fX (ixG (dO hr)) (pv 2) (pv 1) (fun _ _=>rfl)))))),?_⟩
  refine ⟨_,rfl,alA (.inl hg) ⟨_,rfl,_,_,rfl,rfl,_,rfl,gP (fun h=>?_) (fun h=>?_)⟩⟩
  ·have h':((emb c).length:Int)<=room:=of_decide_eq_true h
   rw [tL] at h'
   exact q 0 H (by unfold Nf;rw [if_pos tb_g%]) (Same.refl H)
  ·have h':¬ ((emb c).length:Int)<=room:=fun z=>h (decide_eq_true z)
   rw [tL] at h'
   refine ⟨_,rfl,g,emb c,vals c,rfl,.inl hg,af0 c,(by unfold vals;rw [bG];lia),fun l d hl hp hs=>?_⟩
   have hlen:d.length=c.length:=by rw [hp.length_eq];unfold vals;rw [bG]
   have e:d[room]? = some d[room]:=fY tb_g%
   refine ⟨_,rfl,_,rfl,qC (.inl (.inl ao)) (v:=.int d[room]) (Ql (by rw [iR,e];rfl)) (q _ _ ?_ (Same.new hl))⟩
   unfold Nf
   rw [if_neg tb_g%]
   exact ⟨d,hp,hs,e⟩
noncomputable def acr:Sp:=fun vs H Q _=>∃ (g:Addr) (c:Tab) (cut:Int),vs=[.ref g,.int cut]/\H g=some (.dK (emb c))/\(keys c).Nodup/\c.length<=1000 /\
 ∀ (d:Addr) (H':Hp),H d=none->H' d=some (.dK (emb (cZ c cut)))->Same H H'->Q (.ref d) H'
theorem Uc (c:Tab) (p:Int × Int) (cut:Int):cZ (c++[p]) cut=if cut<p.2 then cZ c cut++[(p.1,p.2-cut)] else cZ c cut:=by
 unfold cZ
 rw [Ae,eG]
 by_cases h:cut<p.2
 ·rw [if_pos h];simp [h]
 ·rw [if_neg h];simp [h]
theorem take_snoc (h:c[i]? = some p):c.take (i+1)=c.take i++[p]:=by
 rw [xO,h];rfl
theorem aiR {cut:Int} (hn:(keys c).Nodup) (h:c[i]? = some p) (hc:cut<p.2):put (cZ (c.take i) cut) p.1 (p.2-cut)=cZ (c.take (i+1)) cut:=by
 rw [take_snoc h,Uc,if_pos hc]
 refine Bd fun z=>?_
 have z1:=Qy z
 have e:keys (c.take (i+1))=keys (c.take i)++[p.1]:=by rw [take_snoc h];unfold keys;rw [eG];rfl
 have hn':(keys (c.take (i+1))).Nodup:=ae8 (afg _ (Vt _ _)) hn
 rw [e,Ol] at hn'
 exact hn'.2.2 p.1 z1 p.1 (by simp) rfl
theorem ok'22 (T:Tx K mg A):cP P w K mg base CX0 1 A.Xm A.Ea ["counts","cut"] acr:=by
 k_dat (T.F'22.ok,um) "a"
 ·obtain ⟨g,c,cut,rfl,_⟩:=h
  rfl
 ·obtain ⟨g,c,cut,rfl,hg,hn,hl,q⟩:=h
  refine ⟨_,(aq (aX (i:=2) um.nd rfl (Or.inl rfl) Sg)
   (aq (aaE uG rfl (pv 0) ⟨rfl,rfl⟩ (Qi rfl (kj (gG (i:=3) um.nd rfl (Or.inl rfl)) (kj (gG (i:=4) um.nd rfl (Or.inl rfl)) FN))) (aF (fO (bB RZ (pv 4) (pv 1) (bR _)) (aF (zA (aM IV (pv 4) (pv 1)) (Du (pv 2) (pv 3) (setG (dO hr))))) dj)))
   (aF (cB (pv 2))))),?_⟩
  intro d hd
  have ngd:g≠d:=ak hg hd
  have hg1:(upd H d (.dK [])) g=some (.dK (emb c)):=by rw [au ngd];exact hg
  refine ⟨_,rfl,g,emb c,rfl,hg1,fun o wm=>Ml (fun i σ H2=>∃ (x y:Option V),σ=[some (.ref g),some (.int cut),some (.ref d),x,y]/\H2 g=some (.frz o (.dK (emb c)))/\H2 d=some (.dK (emb (cZ (c.take i) cut)))/\(∀ b u,H b=some u->b≠g->H2 b=some u))
   ⟨none,none,rfl,ao,by rw [au (aL ngd),ao];rfl,fun b u e hb=>by rw [au hb,au (ak e hd)];exact e⟩ (fun i σ H2 ⟨_,_,_,h,_⟩=>h) ?_ ?_⟩
  ·rintro i p t σ H2 hi ⟨x,y,rfl,f1,f2,f3⟩ ht
   obtain ⟨pr,hpr,rfl⟩:=af3 hi
   have ngt:g≠t:=ak f1 ht
   have ndt:d≠t:=ak f2 ht
   have f1':(upd H2 t (.tup [.int pr.1,.int pr.2])) g=some (.frz o (.dK (emb c))):=by rw [au ngt];exact f1
   have f2':(upd H2 t (.tup [.int pr.1,.int pr.2])) d=some (.dK (emb (cZ (c.take i) cut))):=by rw [au ndt];exact f2
   have f3':∀ b u,H b=some u->b≠g->(upd H2 t (.tup [.int pr.1,.int pr.2])) b=some u:=fun b u e hb=>by
    have:=f3 b u e hb
    rw [au (ak this ht)];exact this
   refine ⟨t,_,rfl,.inl (.inl ao),rfl,_,_,rfl,_,_,rfl,rfl,?_⟩
   refine ⟨_,rfl,_,rfl,_,_,rfl,rfl,_,rfl,gP (fun h=>?_) (fun h=>?_)⟩
   ·have hc:cut<pr.2:=of_decide_eq_true h
    have hz:(emb (cZ (c.take i) cut)).length<sizeLine:=by
     rw [tL]
     have:=ahW (c.take i) cut
     rw [gU] at this
     exact aV tb_g%
    refine ⟨_,rfl,_,rfl,_,_,rfl,rfl,_,rfl,_,rfl,Ze f2' hz ?_⟩
    rw [Ji,aiR hn hpr hc]
    refine ⟨_,_,rfl,by rw [au ngd];exact f1',ao,fun b u e hb=>?_⟩
    have nb:b≠d:=ak e hd
    rw [au nb];exact f3' b u e hb
   ·have hc:¬ cut<pr.2:=fun z=>h (decide_eq_true z)
    refine ⟨_,_,rfl,f1',?_,f3'⟩
    rw [take_snoc hpr,Uc,if_neg hc];exact f2'
  ·rintro σ H2 ⟨x,y,rfl,f1,f2,f3⟩
   rw [tL,vA] at f2
   refine ⟨g,emb c,o,wm,f1,_,rfl,q d _ hd ?_ fun b u e=>?_⟩
   ·rw [au (aL ngd)];exact f2
   ·by_cases hb:b=g
    ·subst hb;rw [ao,<- e,hg]
    ·rw [au hb];exact f3 b u e hb
noncomputable def spFit (A:Ad):Sp:=fun vs H Q _=>∃ (p dx g d:Addr) (room:Nat) (t l:Int) (c:Tab),vs=[.ref p,.ref g]/\H p=some (.ins A.gY dx (fl room t l d))/\H g=some (.dK (emb c))/\(keys c).Nodup/\(∀ p∈c,1<=p.2)/\(c.length<64\/c.length=64/\c.length<=room) /\
 ∀ (d':Addr) (c':Tab) (cut:Int) (H':Hp),H d'=none->gK room c c' cut->H' p=some (.ins A.gY dx (fl room t (l+cut) d'))->H' d'=some (.dK (emb c'))->But p H H'->Q .non H'
theorem ajC (T:Tx K mg A):cP P w K mg base CX0 2 A.Xn A.oY ["self","grown"] (spFit A):=by
 k_dat (T.F'23.ok,uQ) "a"
 ·obtain ⟨p,dx,g,d,room,t,l,c,rfl,_⟩:=h
  rfl
 ·obtain ⟨p,dx,g,d,room,t,l,c,rfl,hp,hg,hn,pos,h64,q⟩:=h
  refine ⟨_,(aq (aX (i:=2) uQ.nd rfl (Or.inl rfl) (aJ (ok'21 T) tb_g% rfl T.agW T.F'21.kp T.b'21 .nil aQ (aj (pv 1) (aj (aB (pv 0) rfl) aA))))
   (aq (aU (pv 0) (aJ (ok'22 T) tb_g% rfl T.ach T.F'22.kp T.b'22 .nil aQ (aj (pv 1) (aj (pv 2) aA))) rfl)
   (aF (aU (pv 0) (aM cu (aB (pv 0) rfl) (pv 2)) rfl)))),?_⟩
  refine ⟨_,rfl,_,rfl,rdF hp T.fu T.yc (uy _ _ _ _) ⟨g,c,room,rfl,hg,h64,fun cut H1 hc s1=>?_⟩⟩
  refine ⟨_,rfl,_,rfl,g,c,cut,rfl,s1 _ _ hg,hn,by lia,fun d' H2 hd' e2 s2=>?_⟩
  have hp2:=s2 _ _ (s1 _ _ hp)
  have npd:p≠d':=ak (s1 _ _ hp) hd'
  k_dat (p,dx,hp2,T.fu,T.BW,4) "c"
  rw [aiQ]
  refine ⟨_,rfl,rdF ao T.fu T.BR (Gp _ _ _ _) ⟨_,rfl,_,_,rfl,rfl,_,rfl,p,_,dx,_,rfl,ao,T.fu,T.BR,(by show 4<1000;decide),?_⟩⟩
  rw [aa5,cQ]
  refine q d' (cZ c cut) cut _ (s1.free hd') (hc.amd pos) ao (by rw [au (aL npd)];exact e2) fun b o e hb=>?_
  rw [au hb];exact s2 _ _ (s1 _ _ e)
noncomputable def spAdd (A:Ad):Sp:=fun vs H Q _=>∃ (p dx d:Addr) (room:Nat) (t l k v:Int) (c:Tab),vs=[.ref p,.int k,.int v]/\H p=some (.ins A.gY dx (fl room t l d))/\H d=some (.dK (emb c))/\(keys c).Nodup/\(∀ p∈c,1<=p.2)/\1<=v/\(c.length<63\/c.length<=63/\c.length+1<=room) /\
 ∀ (d':Addr) (c':Tab) (cut:Int) (H':Hp),H d'=none->gK room (put c k (low c k+v)) c' cut->H' p=some (.ins A.gY dx (fl room (t+v) (l+cut) d'))->H' d'=some (.dK (emb c'))->But p H H'->Q .non H'
theorem ajD (T:Tx K mg A):cP P w K mg base CX0 3 A.Xo A.oZ ["self","thing","weight"] (spAdd A):=by
 k_dat (T.F'24.ok,uR) "a"
 ·obtain ⟨p,dx,d,room,t,l,k,v,c,rfl,_⟩:=h
  rfl
 ·obtain ⟨p,dx,d,room,t,l,k,v,c,rfl,hp,hd,hn,pos,hv,h63,q⟩:=h
  have npd:p≠d:=jq hp hd (by intro z;cases z)
  refine ⟨_,(aq (aU (pv 0) (aM cu (aB (pv 0) rfl) (pv 2)) rfl)
   (aq (aX (i:=3) uR.nd rfl (Or.inl rfl) (fJ Jc (by rfl) T.ag5 aek (aj (aB (pv 0) rfl) aA)))
   (aq (zA (aM cu (Sh (dO hr) (pv 3) (pv 1) aC ⟨rfl,rfl,rfl,rfl⟩) (pv 2)) (Du (pv 3) (pv 1) (setG (dO hr))))
   (aF (bF (dG (pv 0) T.fu T.wC (ajC T) tb_g% T.b'23 .nil aQ (aj (pv 3) aA))))))),?_⟩
  refine ⟨_,rfl,rdF hp T.fu T.BP (Ck _ _ _ _) ⟨_,rfl,_,_,rfl,rfl,_,rfl,p,_,dx,_,rfl,hp,T.fu,T.BP,(by show 4<1000;decide),?_⟩⟩
  rw [aa4]
  have hd1:(upd H p (.ins A.gY dx (fl room (t+v) l d))) d=some (.dK (emb c)):=by rw [au (aL npd)];exact hd
  refine ⟨_,rfl,rdF ao T.fu T.BW (sH _ _ _ _) ⟨d,emb c,rfl,.inl hd1,fun g hg=>?_⟩⟩
  have ngp:p≠g:=fun z=>by rw [<- z,ao] at hg;cases hg
  have hg0:H g=none:=by rw [au (aL ngp)] at hg;exact hg
  refine ⟨_,rfl,g,rfl,.inl ⟨emb c,.inl ao⟩,_,rfl,_,ajk (.inl ao),?_⟩
  rw [aaI]
  refine ⟨_,rfl,_,_,rfl,rfl,_,rfl,_,rfl,Ze ao (by rw [tL];exact aV tb_g%) ?_⟩
  rw [Ji,cQ]
  have hp2:∀ o,(upd (upd H p (.ins A.gY dx (fl room (t+v) l d))) g o) p=some (.ins A.gY dx (fl room (t+v) l d)):=fun o=>by rw [au ngp];exact ao
  refine ⟨_,rfl,p,dx,_,rfl,hp2 _,aa6 _ _ _ _ tb_g% tb_g% tb_g% tb_g%,_,rfl,p,dx,g,d,room,t+v,l,_,rfl,hp2 _,ao,Qu hn _ _,Qx pos (by have:=tK pos k;lia),?_,fun d' c' cut H' e1 e2 e3 e4 e5=>?_⟩
  ·have:=Qv c k (low c k+v);lia
  ·have ngd:g≠d':=fun z=>by rw [<- z,ao] at e1;cases e1
   have npd':p≠d':=fun z=>by rw [<- z,hp2] at e1;cases e1
   rw [au (aL ngd),au (aL npd')] at e1
   refine q d' c' cut H' e1 e2 e3 e4 fun b o e hb=>e5 b o ?_ hb
   rw [au (ak e hg0),au hb];exact e
noncomputable def bf (bh mq:V):List (Str × V):=[("span",bh),("sums",mq)]
theorem uz (bh mq:V):(bf bh mq).lookup ("span" : Str)=some bh:=by rfl
theorem wW (bh mq:V):(bf bh mq).lookup ("sums" : Str)=some mq:=by rfl
theorem ame (bh mq:V):bU "sums" mq (bU "span" bh [])=bf bh mq:=by
 unfold bf
 walk_at "rec"
theorem wI (bh mq y:V):bU "sums" y (bf bh mq)=bf bh y:=by
 unfold bf
 walk_at "rec"
theorem ajE (bh mq:V) (Z0:¬ m = "span") (amf:¬ m = "sums"):(bf bh mq).lookup m=none:=by
 unfold bf
 rw [cR Z0,cR amf]
 rfl
structure Q4 where
 a:Int
 b:Int
 c:Int
 d:Int
noncomputable def L4 (q:Q4):List Int:=[q.a,q.b,q.c,q.d]
noncomputable def addQ (q p:Q4):Q4:=⟨q.a+p.a,q.b+p.b,q.c+p.c,q.d+p.d⟩
noncomputable def pwQ (t w:Int):Q4:=⟨w,w*t,w*t*t,w*t*t*t⟩
noncomputable def Fg:Q4:=⟨0,0,0,0⟩
noncomputable def ahm (t w:Int):Nat->Int
 | 0=>w
 | n+1=>ahm t w n*t
/-- a Balance -/
structure Bn (A:Ad) (H:Hp) (p dx l:Addr) (s:Int) (q:Q4):Prop where
 o:H p=some (.ins A.rM dx (bf (.int s) (.ref l)))
 l:H l=some (.lst ((L4 q).map V.int))
theorem Bn.same {p:Addr} {s:Int} {q:Q4} (h:Bn A H p dx l s q) (z:Same H H'):Bn A H' p dx l s q:=⟨z _ _ h.o,z _ _ h.l⟩
theorem Bn.but {p x C:Addr} {fs:List (Str × V)} {s:Int} {q:Q4} (h:Bn A H p dx l s q) (z:But x H H') (hq:H x=some (.ins C e fs)) (m:p≠x):Bn A H' p dx l s q:=⟨z _ _ h.o m,z _ _ h.l (jq h.l hq (by intro z;cases z))⟩
noncomputable def acs:Sp:=fun vs H Q _=>∃ (l:Addr) (t w:Int) (q:Q4),vs=[.ref l,.int t,.int w]/\H l=some (.lst ((L4 q).map V.int))/\0<=t/\t<2 ^ 64/\∀ (l':Addr) (H':Hp),H l'=none->H' l'=some (.lst ((L4 (addQ q (pwQ t w))).map V.int))->Same H H'->Q (.ref l') H'
theorem mz {q:Q4} {x:V} (h:((L4 q).map V.int)[i]? = some x):(i=0/\x = .int q.a)\/(i=1/\x = .int q.b)\/(i=2/\x = .int q.c)\/(i=3/\x = .int q.d):=by
 match i,h with
 | 0,h=>exact .inl ⟨rfl,(cI h).symm⟩
 | 1,h=>exact .inr (.inl ⟨rfl,(cI h).symm⟩)
 | 2,h=>exact .inr (.inr (.inl ⟨rfl,(cI h).symm⟩))
 | 3,h=>exact .inr (.inr (.inr ⟨rfl,(cI h).symm⟩))
 | n+4,h=>simp [L4] at h
theorem ajF (T:Tx K mg A):cP P w K mg base CX0 1 A.Xp A.zT ["sums","thing","weight"] acs:=by
 k_dat (T.F'25.ok,mO) "a"
 ·obtain ⟨l,t,w,q,rfl,_⟩:=h
  rfl
 ·obtain ⟨l,t,w,q,rfl,hl,t0,t1,k⟩:=h
  refine ⟨_,(aq (aX (i:=3) mO.nd rfl (Or.inl rfl) (dY aA))
   (aq (aX (i:=4) mO.nd rfl (Or.inl rfl) (pv 2))
   (aq (zB uG rfl (tG (pv 0)) (gG (i:=5) mO.nd rfl (Or.inl rfl)) (aq (bF (kE j7 jY jZ cM (pv 3) (aj (aM cu (pv 5) (pv 4)) aA)))
   (aF (aX (i:=4) mO.nd rfl (Or.inl rfl) (aM qX (pv 4) (pv 1))))))
   (aF (cB (pv 3)))))),?_⟩
  refine ⟨(by show 0<=sizeLine;decide),fun D hD=>?_⟩
  refine ⟨_,rfl,?_⟩
  have sD:Same H (upd H D (.lst [])):=Same.new hD
  refine ⟨_,rfl,l,rfl,⟨_,.inl (.inl (sD _ _ hl))⟩,RX (K:=K) (a:=l) (xs:=(L4 q).map V.int) (fun i σ H2=>∃ x,σ=[some (.ref l),some (.int t),some (.int w),some (.ref D),some (.int (ahm t w i)),x]/\H2 D=some (.lst (((L4 (addQ q (pwQ t w))).take i).map V.int))/\Same H H2) ⟨none,rfl,ao,sD⟩ (fun i σ H2 _ ⟨_,_,_,s⟩=>.inl (.inl (s _ _ hl))) ?_ ?_⟩
  ·rintro i y σ H2 hi ⟨x,rfl,f,s2⟩
   have hz:∀ n:Nat,n<=4->(((L4 (addQ q (pwQ t w))).take n).map V.int).length<sizeLine:=fun n hn=>aV (by rw [bG,gU];lia)
   have keep:∀ L b o,H b=some o->(upd H2 D L) b=some o:=fun L b o e=>by rw [au (ak e hD)];exact s2 _ _ e
   rcases mz hi with ⟨rfl,rfl⟩ | ⟨rfl,rfl⟩ | ⟨rfl,rfl⟩ | ⟨rfl,rfl⟩
   ·refine ⟨_,rfl,.inl ⟨rfl,_,.inl (.inl f)⟩,_,rfl,_,rfl,_,_,rfl,rfl,D,_,_,rfl,rfl,f,hz 0 (by decide),?_⟩
    exact ⟨_,rfl,_,rfl,_,_,rfl,rfl,jh tb_g% t1,_,rfl,ao,keep _⟩
   ·refine ⟨_,rfl,.inl ⟨rfl,_,.inl (.inl f)⟩,_,rfl,_,rfl,_,_,rfl,rfl,D,_,_,rfl,rfl,f,hz 1 (by decide),?_⟩
    exact ⟨_,rfl,_,rfl,_,_,rfl,rfl,jh tb_g% t1,_,rfl,ao,keep _⟩
   ·refine ⟨_,rfl,.inl ⟨rfl,_,.inl (.inl f)⟩,_,rfl,_,rfl,_,_,rfl,rfl,D,_,_,rfl,rfl,f,hz 2 (by decide),?_⟩
    exact ⟨_,rfl,_,rfl,_,_,rfl,rfl,jh tb_g% t1,_,rfl,ao,keep _⟩
   ·refine ⟨_,rfl,.inl ⟨rfl,_,.inl (.inl f)⟩,_,rfl,_,rfl,_,_,rfl,rfl,D,_,_,rfl,rfl,f,hz 3 (by decide),?_⟩
    exact ⟨_,rfl,_,rfl,_,_,rfl,rfl,jh tb_g% t1,_,rfl,ao,keep _⟩
  ·rintro σ H2 ⟨x,rfl,f,s2⟩
   exact ⟨_,rfl,k D H2 hD f s2⟩
noncomputable def aiS (A:Ad):Sp:=fun vs H Q _=>∃ (p dx:Addr) (s:Int),vs=[.ref p,.int s]/\H p=some (.ins A.rM dx [])/\∀ (d:Addr) (H':Hp),H d=none->Bn A H' p dx d s Fg->But p H H'->Q .non H'
theorem ajG (T:Tx K mg A):cP P w K mg base CX0 1 A.Rr A.o8 ["self","span"] (aiS A):=by
 k_dat (T.F'26.ok,Fv) "a"
 ·obtain ⟨p,dx,s,rfl,_⟩:=h
  rfl
 ·obtain ⟨p,dx,sp,rfl,hp,q⟩:=h
  refine ⟨_,(aq (aU (pv 0) (pv 1) rfl)
   (aF (aU (pv 0) (dY (aj aC (aj aC (aj aC (aj aC aA))))) rfl))),?_⟩
  refine ⟨_,rfl,_,rfl,p,_,dx,[],rfl,hp,T.jQ,T.yd,(by show 0<1000;decide),?_⟩
  refine ⟨(by show 4<=sizeLine;decide),fun d hd=>?_⟩
  have npd:p≠d:=fun z=>by rw [<- z,ao] at hd;cases hd
  rw [au (aL npd)] at hd
  refine ⟨_,rfl,p,_,dx,_,rfl,(by rw [au npd];exact ao),T.jQ,T.uL,(by show 1<1000;decide),?_⟩
  refine q d _ hd ⟨Ij ao (by rw [ame]),by rw [au (aL npd),ao];rfl⟩ fun b o e hb=>?_
  rw [au hb,au (ak e hd),au hb]
  exact e
noncomputable def ahn (A:Ad) (sg:Bool):Sp:=fun vs H Q _=>∃ (p dx l:Addr) (s t w:Int) (q:Q4),vs=[.ref p,.int t,.int w]/\Bn A H p dx l s q/\0<=t/\t<2 ^ 64/\∀ (l':Addr) (H':Hp),Bn A H' p dx l' s (addQ q (pwQ t (if sg then -w else w)))->But p H H'->H l'=none->Q .non H'
theorem ok'27 (T:Tx K mg A):cP P w K mg base CX0 2 A.Xq A.rD ["self","thing","weight"] (ahn A false):=by
 k_dat (T.F'27.ok,Km) "a"
 ·obtain ⟨p,dx,l,sp,t,w,q,rfl,_⟩:=h
  rfl
 ·obtain ⟨p,dx,l,sp,t,w,q,rfl,hb,t0,t1,k⟩:=h
  refine ⟨_,(aF (aU (pv 0) (aJ (ajF T) tb_g% rfl T.JZ T.F'25.kp T.b'25 .nil aQ (aj (aB (pv 0) rfl) (aj (pv 1) (aj (pv 2) aA)))) rfl)),?_⟩
  refine ⟨_,rfl,rdF hb.o T.jQ T.uL (wW _ _) ⟨_,rfl,_,rfl,l,t,w,q,rfl,hb.l,t0,t1,fun l' H1 nl' f1 s1=>?_⟩⟩
  refine ⟨_,rfl,p,_,dx,_,rfl,s1 _ _ hb.o,T.jQ,T.uL,(by show 2<1000;decide),?_⟩
  rw [wI]
  have npl:l'≠p:=aL (ak hb.o nl')
  exact k l' _ ⟨ao,by rw [au npl];exact f1⟩ (fun b o e m=>by rw [au m];exact s1 _ _ e) nl'
theorem ok'28 (T:Tx K mg A):cP P w K mg base CX0 2 A.Xr A.o9 ["self","thing","weight"] (ahn A true):=by
 k_dat (T.F'28.ok,Fw) "a"
 ·obtain ⟨p,dx,l,sp,t,w,q,rfl,_⟩:=h
  rfl
 ·obtain ⟨p,dx,l,sp,t,w,q,rfl,hb,t0,t1,k⟩:=h
  refine ⟨_,(aF (aU (pv 0) (aJ (ajF T) tb_g% rfl T.JZ T.F'25.kp T.b'25 .nil aQ (aj (aB (pv 0) rfl) (aj (pv 1) (aj (aja afz (pv 2)) aA)))) rfl)),?_⟩
  refine ⟨_,rfl,rdF hb.o T.jQ T.uL (wW _ _) ⟨_,rfl,_,rfl,_,rfl,l,t,-w,q,rfl,hb.l,t0,t1,fun l' H1 nl' f1 s1=>?_⟩⟩
  refine ⟨_,rfl,p,_,dx,_,rfl,s1 _ _ hb.o,T.jQ,T.uL,(by show 2<1000;decide),?_⟩
  rw [wI]
  have npl:l'≠p:=aL (ak hb.o nl')
  exact k l' _ ⟨ao,by rw [au npl];exact f1⟩ (fun b o e m=>by rw [au m];exact s1 _ _ e) nl'
noncomputable def kf (aD aK bh bY bZ fU cg aR cj aN:V):List (Str × V):=[("room",aD),("reach",aK),("span",bh),("came",bY),("went",bZ),("up",fU),("down",cg),("window",aR),("seen",cj),("balance",aN)]
theorem uD (aD aK bh bY bZ fU cg aR cj aN:V):(kf aD aK bh bY bZ fU cg aR cj aN).lookup ("room" : Str)=some aD:=by rfl
theorem pJ (aD aK bh bY bZ fU cg aR cj aN:V):(kf aD aK bh bY bZ fU cg aR cj aN).lookup ("reach" : Str)=some aK:=by rfl
theorem nW (aD aK bh bY bZ fU cg aR cj aN:V):(kf aD aK bh bY bZ fU cg aR cj aN).lookup ("span" : Str)=some bh:=by rfl
theorem wX (aD aK bh bY bZ fU cg aR cj aN:V):(kf aD aK bh bY bZ fU cg aR cj aN).lookup ("came" : Str)=some bY:=by rfl
theorem wY (aD aK bh bY bZ fU cg aR cj aN:V):(kf aD aK bh bY bZ fU cg aR cj aN).lookup ("went" : Str)=some bZ:=by rfl
theorem Ng (aD aK bh bY bZ fU cg aR cj aN:V):(kf aD aK bh bY bZ fU cg aR cj aN).lookup ("up" : Str)=some fU:=by rfl
theorem wZ (aD aK bh bY bZ fU cg aR cj aN:V):(kf aD aK bh bY bZ fU cg aR cj aN).lookup ("down" : Str)=some cg:=by rfl
theorem jR (aD aK bh bY bZ fU cg aR cj aN:V):(kf aD aK bh bY bZ fU cg aR cj aN).lookup ("window" : Str)=some aR:=by rfl
theorem xg (aD aK bh bY bZ fU cg aR cj aN:V):(kf aD aK bh bY bZ fU cg aR cj aN).lookup ("seen" : Str)=some cj:=by rfl
theorem jf (aD aK bh bY bZ fU cg aR cj aN:V):(kf aD aK bh bY bZ fU cg aR cj aN).lookup ("balance" : Str)=some aN:=by rfl
theorem amg (aD aK bh bY bZ fU cg aR cj aN:V):bU "balance" aN (bU "seen" cj (bU "window" aR (bU "down" cg (bU "up" fU (bU "went" bZ (bU "came" bY (bU "span" bh (bU "reach" aK (bU "room" aD [])))))))))=kf aD aK bh bY bZ fU cg aR cj aN:=by
 unfold kf
 walk_at "rec"
theorem Ud (aD aK bh bY bZ fU cg aR cj aN y:V):bU "came" y (kf aD aK bh bY bZ fU cg aR cj aN)=kf aD aK bh y bZ fU cg aR cj aN:=by
 unfold kf
 walk_at "rec"
theorem Ue (aD aK bh bY bZ fU cg aR cj aN y:V):bU "went" y (kf aD aK bh bY bZ fU cg aR cj aN)=kf aD aK bh bY y fU cg aR cj aN:=by
 unfold kf
 walk_at "rec"
theorem acu (aD aK bh bY bZ fU cg aR cj aN y:V):bU "up" y (kf aD aK bh bY bZ fU cg aR cj aN)=kf aD aK bh bY bZ y cg aR cj aN:=by
 unfold kf
 walk_at "rec"
theorem Ug (aD aK bh bY bZ fU cg aR cj aN y:V):bU "down" y (kf aD aK bh bY bZ fU cg aR cj aN)=kf aD aK bh bY bZ fU y aR cj aN:=by
 unfold kf
 walk_at "rec"
theorem Lj (aD aK bh bY bZ fU cg aR cj aN y:V):bU "window" y (kf aD aK bh bY bZ fU cg aR cj aN)=kf aD aK bh bY bZ fU cg y cj aN:=by
 unfold kf
 walk_at "rec"
theorem Uh (aD aK bh bY bZ fU cg aR cj aN y:V):bU "seen" y (kf aD aK bh bY bZ fU cg aR cj aN)=kf aD aK bh bY bZ fU cg aR y aN:=by
 unfold kf
 walk_at "rec"
theorem Ku (aD aK bh bY bZ fU cg aR cj aN y:V):bU "balance" y (kf aD aK bh bY bZ fU cg aR cj aN)=kf aD aK bh bY bZ fU cg aR cj y:=by
 unfold kf
 walk_at "rec"
theorem kfN {aD aK bh bY bZ fU cg aR cj aN:V} (h:m∉[("room" : Str),("reach" : Str),("span" : Str),("came" : Str),("went" : Str),("up" : Str),("down" : Str),("window" : Str),("seen" : Str),("balance" : Str)]):(kf aD aK bh bY bZ fU cg aR cj aN).lookup m=none:=by
 simp only [bN,jK,or_false,not_or] at h
 obtain ⟨zY,Rb,Z0,amh,ami,h_up,amj,aho,amk,acv⟩:=h
 unfold kf
 rw [cR zY,cR Rb,cR Z0,cR amh,cR ami,cR h_up,cR amj,cR aho,cR amk,cR acv]
 rfl
structure Fq where
 (p dx d:Addr) (t l:Int) (c:Tab)
structure Rs where
 (dx a:Addr) (bs:List Addr) (r tt ov un tn:Int) (mi ma:Option Int) (ls:RG.Ls)
variable {g:Rs}
noncomputable abbrev RnX (A:Ad) (H:Hp) (p:Addr) (x:Rs):Prop:=Rn A H p x.dx x.a x.bs x.r x.tt x.ov x.un x.tn x.mi x.ma x.ls
structure Ru where
 (p:Addr) (x:Rs)
structure Wi where
 (p dx l:Addr) (c:Int) (ps:List Bp)
structure Di where
 (p dx l:Addr) (n v:Int) (C:List Int)
structure Ba where
 (p dx l:Addr) (q:Q4)
structure KS where
 (k dk:Addr) (room:Nat) (reach span:Int) (cm wn:Fq) (up dn:Ru) (wi:Wi) (di:Di) (ba:Ba)
variable {x y x' z:KS}
structure wJ (A:Ad) (H:Hp) (room:Nat) (f:Fq):Prop where
 o:H f.p=some (.ins A.gY f.dx (fl room f.t f.l f.d))
 d:H f.d=some (.dK (emb f.c))
theorem wJ.same {f:Fq} (h:wJ A H room f) (s:Same H H'):wJ A H' room f:=⟨s _ _ h.o,s _ _ h.d⟩
theorem wJ.but {f:Fq} {q C:Addr} {fs:List (Str × V)} (h:wJ A H room f) (s:L2.But q H H') (hq:H q=some (.ins C e fs)) (n:f.p≠q):wJ A H' room f :=
 ⟨s _ _ h.o n,s _ _ h.d (jq h.d hq (by intro z;cases z))⟩
noncomputable def KS.all (x:KS):List Addr:=[x.k,x.cm.p,x.wn.p,x.up.p,x.dn.p,x.wi.p,x.di.p,x.ba.p]
structure Kp (A:Ad) (H:Hp) (x:KS):Prop where
 o:H x.k=some (.ins A.bw x.dk (kf (.int x.room) (.int x.reach) (.int x.span) (.ref x.cm.p) (.ref x.wn.p) (.ref x.up.p) (.ref x.dn.p) (.ref x.wi.p) (.ref x.di.p) (.ref x.ba.p)))
 cm:wJ A H x.room x.cm
 wn:wJ A H x.room x.wn
 up:RnX A H x.up.p x.up.x
 dn:RnX A H x.dn.p x.dn.x
 wi:Wn A H x.wi.p x.wi.dx x.wi.l x.room x.reach x.wi.c x.wi.ps
 di:Dn A H x.di.p x.di.dx x.di.l x.room x.di.n x.di.v (srt (My.up x.di.v x.di.C))
 ba:Bn A H x.ba.p x.ba.dx x.ba.l x.span x.ba.q
 nd:x.all.Nodup
theorem Kp.same (h:Kp A H x) (s:Same H H'):Kp A H' x:=⟨s _ _ h.o,h.cm.same s,h.wn.same s,h.up.same s,h.dn.same s,h.wi.same s,h.di.same s,h.ba.same s,h.nd⟩
/-- the eight are eight -/
structure Ap (x:KS):Prop where
 k1:x.k≠x.cm.p
 k2:x.k≠x.wn.p
 k3:x.k≠x.up.p
 k4:x.k≠x.dn.p
 k5:x.k≠x.wi.p
 k6:x.k≠x.di.p
 k7:x.k≠x.ba.p
 c2:x.cm.p≠x.wn.p
 c3:x.cm.p≠x.up.p
 c4:x.cm.p≠x.dn.p
 c5:x.cm.p≠x.wi.p
 c6:x.cm.p≠x.di.p
 c7:x.cm.p≠x.ba.p
 w3:x.wn.p≠x.up.p
 w4:x.wn.p≠x.dn.p
 w5:x.wn.p≠x.wi.p
 w6:x.wn.p≠x.di.p
 w7:x.wn.p≠x.ba.p
 u4:x.up.p≠x.dn.p
 u5:x.up.p≠x.wi.p
 u6:x.up.p≠x.di.p
 u7:x.up.p≠x.ba.p
 d5:x.dn.p≠x.wi.p
 d6:x.dn.p≠x.di.p
 d7:x.dn.p≠x.ba.p
 i6:x.wi.p≠x.di.p
 i7:x.wi.p≠x.ba.p
 s7:x.di.p≠x.ba.p
theorem Kp.ap (h:Kp A H x):Ap x:=by
 have n:=h.nd
 unfold KS.all at n
 simp only [lF,bN,jK,or_false,not_or,vC,and_true,not_false_eq_true] at n
 obtain ⟨⟨k1,k2,k3,k4,k5,k6,k7⟩,⟨c2,c3,c4,c5,c6,c7⟩,⟨w3,w4,w5,w6,w7⟩,⟨u4,u5,u6,u7⟩,⟨d5,d6,d7⟩,⟨i6,i7⟩,s7⟩:=n
 exact ⟨k1,k2,k3,k4,k5,k6,k7,c2,c3,c4,c5,c6,c7,w3,w4,w5,w6,w7,u4,u5,u6,u7,d5,d6,d7,i6,i7,s7⟩
open MK
theorem Ui (r e:Int) (bs:List WN.Box):(dF r e bs).length<=bs.length:=by
 unfold dF
 rw [yM]
 have h1:=WN.Tn r (bs.filter fun b=>decide (e<b.l)).reverse
 rw [yM] at h1
 exact jL h1 (vo _ _)
theorem gq {T ov un:Int} (g:RG.Good r T ov un ls) (h:T<=1000000000000*n) (hn:n<=63):ls.length<=60/\RG.val ls<2 ^ 400:=by
 have e:(2:Int) ^ 60=1152921504606846976:=by decide
 refine ⟨g.len (by rw [e];lia),?_⟩
 have:=g.vl
 have e:(1152921504606846976:Nat)<2 ^ 400:=by decide
 lia
noncomputable def KS.pts (x:KS):List Addr:=[x.cm.p,x.wn.p,x.up.p,x.dn.p,x.wi.p,x.di.p,x.ba.p]
structure Pp (A:Ad) (H:Hp) (x:KS):Prop where
 cm:wJ A H x.room x.cm
 wn:wJ A H x.room x.wn
 up:RnX A H x.up.p x.up.x
 dn:RnX A H x.dn.p x.dn.x
 wi:Wn A H x.wi.p x.wi.dx x.wi.l x.room x.reach x.wi.c x.wi.ps
 di:Dn A H x.di.p x.di.dx x.di.l x.room x.di.n x.di.v (srt (My.up x.di.v x.di.C))
 ba:Bn A H x.ba.p x.ba.dx x.ba.l x.span x.ba.q
 nd:x.pts.Nodup
theorem Kp.pp (h:Kp A H x):Pp A H x:=⟨h.cm,h.wn,h.up,h.dn,h.wi,h.di,h.ba,(lF.mp h.nd).2⟩
theorem Kp.nk (h:Kp A H x):x.k∉x.pts:=(lF.mp h.nd).1
theorem Pp.kp (h:Pp A H x) (o:H x.k=some (.ins A.bw x.dk (kf (.int x.room) (.int x.reach) (.int x.span) (.ref x.cm.p) (.ref x.wn.p) (.ref x.up.p) (.ref x.dn.p) (.ref x.wi.p) (.ref x.di.p) (.ref x.ba.p)))) (n:x.k∉x.pts):Kp A H x :=
 ⟨o,h.cm,h.wn,h.up,h.dn,h.wi,h.di,h.ba,lF.mpr ⟨n,h.nd⟩⟩
theorem Pp.same (h:Pp A H x) (s:Same H H'):Pp A H' x:=⟨h.cm.same s,h.wn.same s,h.up.same s,h.dn.same s,h.wi.same s,h.di.same s,h.ba.same s,h.nd⟩
theorem Pp.but {q C:Addr} {fs:List (Str × V)} (h:Pp A H x) (b:L2.But q H H') (hq:H q=some (.ins C e fs)) (n:q∉x.pts):Pp A H' x:=by
 unfold KS.pts at n
 simp only [bN,jK,or_false,not_or] at n
 obtain ⟨n1,n2,n3,n4,n5,n6,n7⟩:=n
 exact ⟨h.cm.but b hq (aL n1),h.wn.but b hq (aL n2),h.up.but b hq (aL n3),h.dn.but b hq (aL n4),h.wi.but b hq (aL n5),h.di.but b hq (aL n6),h.ba.but b hq (aL n7),h.nd⟩
/-- the seven are seven -/
structure Ap7 (x:KS):Prop where
 c:x.cm.p≠x.wn.p/\x.cm.p≠x.up.p/\x.cm.p≠x.dn.p/\x.cm.p≠x.wi.p/\x.cm.p≠x.di.p/\x.cm.p≠x.ba.p
 w:x.wn.p≠x.up.p/\x.wn.p≠x.dn.p/\x.wn.p≠x.wi.p/\x.wn.p≠x.di.p/\x.wn.p≠x.ba.p
 u:x.up.p≠x.dn.p/\x.up.p≠x.wi.p/\x.up.p≠x.di.p/\x.up.p≠x.ba.p
 d:x.dn.p≠x.wi.p/\x.dn.p≠x.di.p/\x.dn.p≠x.ba.p
 i:x.wi.p≠x.di.p/\x.wi.p≠x.ba.p
 s:x.di.p≠x.ba.p
theorem Pp.ap (h:Pp A H x):Ap7 x:=by
 have n:=h.nd
 unfold KS.pts at n
 simp only [lF,bN,jK,or_false,not_or,vC,and_true,not_false_eq_true] at n
 obtain ⟨c,w,u,d,i,s⟩:=n
 exact ⟨c,w,u,d,i,s⟩
theorem Pp.setC (h:Pp A H x) {f:Fq} (e:f.p=x.cm.p) (b:L2.But x.cm.p H H') (hf:wJ A H' x.room f):Pp A H' { x with cm:=f }:=by
 have a:=h.ap
 have q:=h.cm.o
 obtain ⟨a1,a2,a3,a4,a5,a6⟩:=a.c
 exact ⟨hf,h.wn.but b q (aL a1),h.up.but b q (aL a2),h.dn.but b q (aL a3),h.wi.but b q (aL a4),h.di.but b q (aL a5),h.ba.but b q (aL a6),by
  show [f.p,x.wn.p,x.up.p,x.dn.p,x.wi.p,x.di.p,x.ba.p].Nodup
  rw [e];exact h.nd⟩
theorem Pp.setW (h:Pp A H x) {f:Fq} (e:f.p=x.wn.p) (b:L2.But x.wn.p H H') (hf:wJ A H' x.room f):Pp A H' { x with wn:=f }:=by
 have a:=h.ap
 have q:=h.wn.o
 obtain ⟨a2,a3,a4,a5,a6⟩:=a.w
 exact ⟨h.cm.but b q a.c.1,hf,h.up.but b q (aL a2),h.dn.but b q (aL a3),h.wi.but b q (aL a4),h.di.but b q (aL a5),h.ba.but b q (aL a6),by
  show [x.cm.p,f.p,x.up.p,x.dn.p,x.wi.p,x.di.p,x.ba.p].Nodup
  rw [e];exact h.nd⟩
theorem Pp.setU (h:Pp A H x) {f:Ru} (e:f.p=x.up.p) (b:L2.But x.up.p H H') (hf:RnX A H' f.p f.x):Pp A H' { x with up:=f }:=by
 have a:=h.ap
 have q:=h.up.o
 obtain ⟨a3,a4,a5,a6⟩:=a.u
 exact ⟨h.cm.but b q a.c.2.1,h.wn.but b q a.w.1,hf,h.dn.but b q (aL a3),h.wi.but b q (aL a4),h.di.but b q (aL a5),h.ba.but b q (aL a6),by
  show [x.cm.p,x.wn.p,f.p,x.dn.p,x.wi.p,x.di.p,x.ba.p].Nodup
  rw [e];exact h.nd⟩
theorem Pp.setD (h:Pp A H x) {f:Ru} (e:f.p=x.dn.p) (b:L2.But x.dn.p H H') (hf:RnX A H' f.p f.x):Pp A H' { x with dn:=f }:=by
 have a:=h.ap
 have q:=h.dn.o
 obtain ⟨a4,a5,a6⟩:=a.d
 exact ⟨h.cm.but b q a.c.2.2.1,h.wn.but b q a.w.2.1,h.up.but b q a.u.1,hf,h.wi.but b q (aL a4),h.di.but b q (aL a5),h.ba.but b q (aL a6),by
  show [x.cm.p,x.wn.p,x.up.p,f.p,x.wi.p,x.di.p,x.ba.p].Nodup
  rw [e];exact h.nd⟩
theorem Pp.setI (h:Pp A H x) {f:Wi} (e:f.p=x.wi.p) (b:L2.But x.wi.p H H') (hf:Wn A H' f.p f.dx f.l x.room x.reach f.c f.ps):Pp A H' { x with wi:=f }:=by
 have a:=h.ap
 have q:=h.wi.o
 exact ⟨h.cm.but b q a.c.2.2.2.1,h.wn.but b q a.w.2.2.1,h.up.but b q a.u.2.1,h.dn.but b q a.d.1,hf,h.di.but b q (aL a.i.1),h.ba.but b q (aL a.i.2),by
  show [x.cm.p,x.wn.p,x.up.p,x.dn.p,f.p,x.di.p,x.ba.p].Nodup
  rw [e];exact h.nd⟩
theorem Pp.setS (h:Pp A H x) {f:Di} (e:f.p=x.di.p) (b:L2.But x.di.p H H') (hf:Dn A H' f.p f.dx f.l x.room f.n f.v (srt (My.up f.v f.C))):Pp A H' { x with di:=f }:=by
 have a:=h.ap
 have q:=h.di.o
 exact ⟨h.cm.but b q a.c.2.2.2.2.1,h.wn.but b q a.w.2.2.2.1,h.up.but b q a.u.2.2.1,h.dn.but b q a.d.2.1,h.wi.but b q a.i.1,hf,h.ba.but b q (aL a.s),by
  show [x.cm.p,x.wn.p,x.up.p,x.dn.p,x.wi.p,f.p,x.ba.p].Nodup
  rw [e];exact h.nd⟩
theorem Pp.setB (h:Pp A H x) {f:Ba} (e:f.p=x.ba.p) (b:L2.But x.ba.p H H') (hf:Bn A H' f.p f.dx f.l x.span f.q):Pp A H' { x with ba:=f }:=by
 have a:=h.ap
 have q:=h.ba.o
 exact ⟨h.cm.but b q a.c.2.2.2.2.2,h.wn.but b q a.w.2.2.2.2,h.up.but b q a.u.2.2.2,h.dn.but b q a.d.2.2,h.wi.but b q a.i.2,h.di.but b q a.s,hf,by
  show [x.cm.p,x.wn.p,x.up.p,x.dn.p,x.wi.p,x.di.p,f.p].Nodup
  rw [e];exact h.nd⟩
/-- nothing but these parts has changed -/
structure Far (A:Ad) (ps:List Addr) (H H':Hp):Prop where
 pb:∀ b o,H b=some o->b∉ps->H' b=some o
 py:∀ y:KS,Pp A H y->(∀ b∈y.pts,b∉ps)->Pp A H' y
theorem Far.of {ps:List Addr} {p C:Addr} {fs:List (Str × V)} (m:p∈ps) (hq:H p=some (.ins C e fs)) (b:L2.But p H H'):Far A ps H H' :=
 ⟨fun c o e n=>b c o e fun z=>n (by rw [z];exact m),fun y h d=>h.but b hq fun z=>d p z m⟩
theorem Far.trans {ps:List Addr} {H1:Hp} (a:Far A ps H H1) (b:Far A ps H1 H'):Far A ps H H':=⟨fun c o e n=>b.pb c o (a.pb c o e n) n,fun y h d=>b.py y (a.py y h d) d⟩
noncomputable def FS (room:Nat) (th w:Int) (f g:Fq):Prop:=∃ cut,gK room (put f.c th (low f.c th+w)) g.c cut/\g.t=f.t+w/\g.l=f.l+cut
structure RS (th w:Int) (f g:Rs):Prop where
 r:g.r=f.r
 tt:g.tt=f.tt+w
 mi:g.mi=lo2 f.mi (some th)
 ma:g.ma=hi2 f.ma (some th)
 st:RG.Stl f.r 0 f.tn f.ov f.un (RG.gO th f.ls w.toNat) g.ls g.tn g.ov g.un
noncomputable def WS (room:Nat) (reach c:Int) (bs:List WN.Box) (g:Wi):Prop:=g.c=c/\bx g.ps=dF room (c-reach) bs
noncomputable def DS (room:Nat) (th:Int) (f g:Di):Prop:=g.n=f.n+1/\g.C=came f.C th/\Lvl room f.v g.v (came f.C th)
structure SB (x x':KS):Prop where
 room:x'.room=x.room
 reach:x'.reach=x.reach
 span:x'.span=x.span
 pts:x'.pts=x.pts
 k:x'.k=x.k
 dk:x'.dk=x.dk
structure SP (th w:Int) (x x':KS):Prop where
 sb:SB x x'
 cm:FS x.room th w x.cm x'.cm
 wn:x'.wn=x.wn
 up:RS th w x.up.x x'.up.x
 dn:x'.dn=x.dn
 wi:WS x.room x.reach (x.wi.c+1) (bx x.wi.ps++[⟨x.wi.c+1,x.wi.c+1,w⟩]) x'.wi
 di:DS x.room th x.di x'.di
 ba:x'.ba.q=if th<x.span then addQ x.ba.q (pwQ th w) else x.ba.q
structure ST (th w:Int) (x x':KS):Prop where
 sb:SB x x'
 cm:x'.cm=x.cm
 wn:FS x.room th w x.wn x'.wn
 up:x'.up=x.up
 dn:RS th w x.dn.x x'.dn.x
 wi:WS x.room x.reach (x.wi.c+1) (bx x.wi.ps) x'.wi
 di:x'.di=x.di
 ba:x'.ba.q=if th<x.span then addQ x.ba.q (pwQ th (-w)) else x.ba.q
structure SI (w:Int) (x x':KS):Prop where
 sb:SB x x'
 cm:x'.cm=x.cm
 wn:x'.wn=x.wn
 up:x'.up=x.up
 dn:x'.dn=x.dn
 wi:WS x.room x.reach (x.wi.c+w) (bx x.wi.ps) x'.wi
 di:x'.di=x.di
 ba:x'.ba=x.ba
/-- the same data -/
structure EF (f g:Fq):Prop where
 t:f.t=g.t
 l:f.l=g.l
 c:f.c=g.c
structure ER (f g:Rs):Prop where
 r:f.r=g.r
 tt:f.tt=g.tt
 ov:f.ov=g.ov
 un:f.un=g.un
 tn:f.tn=g.tn
 mi:f.mi=g.mi
 ma:f.ma=g.ma
 ls:f.ls=g.ls
structure EW (f g:Wi):Prop where
 c:f.c=g.c
 b:bx f.ps=bx g.ps
structure ED (f g:Di):Prop where
 n:f.n=g.n
 v:f.v=g.v
 C:f.C=g.C
structure Eqp (x y:KS):Prop where
 room:x.room=y.room
 reach:x.reach=y.reach
 span:x.span=y.span
 cm:EF x.cm y.cm
 wn:EF x.wn y.wn
 up:ER x.up.x y.up.x
 dn:ER x.dn.x y.dn.x
 wi:EW x.wi y.wi
 di:ED x.di y.di
 ba:x.ba.q=y.ba.q
theorem Eqp.idle {w:Int} {y':KS} (e:Eqp x y) (a:SI w x x') (b:SI w y y'):Eqp x' y' :=
 ⟨by rw [a.sb.room,b.sb.room,e.room],by rw [a.sb.reach,b.sb.reach,e.reach],by rw [a.sb.span,b.sb.span,e.span],by rw [a.cm,b.cm];exact e.cm,by rw [a.wn,b.wn];exact e.wn,by rw [a.up,b.up];exact e.up,by rw [a.dn,b.dn];exact e.dn,
  ⟨by rw [a.wi.1,b.wi.1,e.wi.c],by rw [a.wi.2,b.wi.2,e.wi.c,e.wi.b,e.room,e.reach]⟩,by rw [a.di,b.di];exact e.di,by rw [a.ba,b.ba,e.ba]⟩
theorem Kv {room:Int}:∀ {ls:RG.Ls} (h:Nat) (tn ov un:Int),(∀ l∈ls,(l.length:Int)<=room)->RG.Stl room h tn ov un ls ls tn ov un
 | [],h,tn,ov,un,_=>.nil h tn ov un
 | l::ls,h,tn,ov,un,hs=>.keep (hs l cX) (Kv (h+1) tn ov un fun k m=>hs k (gF _ m))
theorem Gs {b:Tab} {cut:Int} (h:gK room c b cut):b.length<=c.length:=by
 unfold gK at h
 split at h
 ·rw [h.2];exact bV _
 ·rw [h.2];unfold cZ;rw [bG];exact vo _ _
structure Gf (room:Nat) (f:Fq) (n:Nat):Prop where
 ok:∃ W,Ok room f.c f.t f.l W
 t:f.t<=1000000000000*n
 k:f.c.length<=n
structure Gr (room:Nat) (f:Rs) (n:Nat):Prop where
 r:f.r=room
 g:RG.Good f.r f.tt f.ov f.un f.ls
 t:f.tt<=1000000000000*n
 sm:room<=15\/∀ l∈f.ls,l.length<=n
structure Kh (x:KS) (n:Nat):Prop where
 r2:2<=x.room
 r64:x.room<=64
 rr:x.room<=15\/x.room=64
 cm:Gf x.room x.cm n
 wn:Gf x.room x.wn n
 up:Gr x.room x.up.x n
 dn:Gr x.room x.dn.x n
 wl:x.wi.ps.length<=n
 dl:lC x.room x.di.v x.di.C
 dc:x.di.C.length<=n
 few:n<=63
theorem Gf.add {f g:Fq} {w:Int} (h:Gf room f n) (s:FS room th w f g) (w1:1<=w) (w2:w<=1000000000000):Gf room g (n+1):=by
 obtain ⟨cut,a,b,c⟩:=s
 obtain ⟨W,ok⟩:=h.ok
 have:=h.t
 exact ⟨⟨_,by rw [b,c];exact (ok.add (k:=th) w1).fit a⟩,by rw [b];lia,by have:=Gs a;have:=Qv f.c th (low f.c th+w);have:=h.k;lia⟩
theorem Gf.next {f:Fq} (h:Gf room f n):Gf room f (n+1):=⟨h.ok,by have:=h.t;lia,O3 h.k⟩
theorem Gr.add {f:Rs} {w:Int} (h:Gr room f n) (s:RS th w f g) (w1:1<=w) (w2:w<=1000000000000) (rr:room<=15\/room=64) (hn:n<63):Gr room g (n+1):=by
 have:=h.t
 obtain ⟨g',_⟩:=h.g.add w1 s.st
 refine ⟨by rw [s.r,h.r],by rw [s.r,s.tt];exact g',by rw [s.tt];lia,rr.imp id fun z=>?_⟩
 have sl:=h.sm.resolve_left tb_g%
 have wl:=RG.JB th w.toNat f.ls sl
 have hr:=h.r
 obtain ⟨e,_⟩:=(Kv 0 f.tn f.ov f.un fun l m=>by have:=wl l m;lia).uniq s.st
 rw [e];exact wl
theorem Gr.next {f:Rs} (h:Gr room f n):Gr room f (n+1):=⟨h.r,h.g,by have:=h.t;lia,h.sm.imp id fun z l m=>O3 (z l m)⟩
theorem Gr.le62 {f:Rs} (h:Gr room f n) (rr:room<=15\/room=64) (hn:n<64):(∀ l∈f.ls,l.length<=63/\RG.Sd l)/\((∀ l∈f.ls,l.length<=30)\/∀ l∈f.ls,(l.length:Int)+1<=f.r):=by
 have e:=h.r
 rcases rr with z | z
 ·exact ⟨fun l m=>⟨by have:=h.g.sm l m;lia,h.g.sd l m⟩,.inl fun l m=>by have:=h.g.sm l m;lia⟩
 ·have sl:=h.sm.resolve_left tb_g%
  exact ⟨fun l m=>⟨by have:=sl l m;lia,h.g.sd l m⟩,.inr fun l m=>by have:=sl l m;lia⟩
theorem WS.len {c:Int} {bs:List WN.Box} {g:Wi} (h:WS room reach c bs g):g.ps.length<=bs.length:=by
 have h1:=Ui room (c-reach) bs
 rw [<- h.2,jH] at h1
 exact h1
theorem Kh.put {w:Int} (h:Kh x n) (hn:n<63) (s:SP th w x x') (w1:1<=w) (w2:w<=1000000000000):Kh x' (n+1):=by
 have r:=s.sb.room
 refine ⟨by rw [r];exact h.r2,by rw [r];exact h.r64,by rw [r];exact h.rr,by rw [r];exact h.cm.add s.cm w1 w2,by rw [r,s.wn];exact h.wn.next,by rw [r];exact h.up.add s.up w1 w2 h.rr hn,by rw [r,s.dn];exact h.dn.next,?_,?_,?_,hn⟩
 ·have:=s.wi.len
  rw [dH,jH] at this
  have l1:=h.wl
  exact jL this (by show x.wi.ps.length+1<=n+1;lia)
 ·rw [r,s.di.2.1];exact h.dl.lvl s.di.2.2 fun w=>aiP
 ·rw [s.di.2.1];have:=(ahk x.di.C th).2;have:=h.dc;lia
theorem Kh.take {w:Int} (h:Kh x n) (hn:n<63) (s:ST th w x x') (w1:1<=w) (w2:w<=1000000000000):Kh x' (n+1):=by
 have r:=s.sb.room
 refine ⟨by rw [r];exact h.r2,by rw [r];exact h.r64,by rw [r];exact h.rr,by rw [r,s.cm];exact h.cm.next,by rw [r];exact h.wn.add s.wn w1 w2,by rw [r,s.up];exact h.up.next,by rw [r];exact h.dn.add s.dn w1 w2 h.rr hn,?_,by rw [r,s.di];exact h.dl,by rw [s.di];have:=h.dc;lia,hn⟩
 have:=s.wi.len
 rw [jH] at this
 have l1:=h.wl
 lia
theorem Kh.idle {w:Int} (h:Kh x n) (hn:n<63) (s:SI w x x'):Kh x' (n+1):=by
 have r:=s.sb.room
 refine ⟨by rw [r];exact h.r2,by rw [r];exact h.r64,by rw [r];exact h.rr,by rw [r,s.cm];exact h.cm.next,by rw [r,s.wn];exact h.wn.next,by rw [r,s.up];exact h.up.next,by rw [r,s.dn];exact h.dn.next,?_,by rw [r,s.di];exact h.dl,by rw [s.di];have:=h.dc;lia,hn⟩
 have:=s.wi.len
 rw [jH] at this
 have l1:=h.wl
 lia
/-- two like a third -/
theorem EF.by {f g z:Fq} (a:EF f z) (b:EF g z):EF f g:=⟨a.t.trans b.t.symm,a.l.trans b.l.symm,a.c.trans b.c.symm⟩
theorem ER.by {f z:Rs} (a:ER f z) (b:ER g z):ER f g:=⟨a.r.trans b.r.symm,a.tt.trans b.tt.symm,a.ov.trans b.ov.symm,a.un.trans b.un.symm,a.tn.trans b.tn.symm,a.mi.trans b.mi.symm,a.ma.trans b.ma.symm,a.ls.trans b.ls.symm⟩
theorem Eqp.by (a:Eqp x z) (b:Eqp y z):Eqp x y :=
 ⟨a.room.trans b.room.symm,a.reach.trans b.reach.symm,a.span.trans b.span.symm,a.cm.by b.cm,a.wn.by b.wn,a.up.by b.up,a.dn.by b.dn,⟨a.wi.c.trans b.wi.c.symm,a.wi.b.trans b.wi.b.symm⟩,⟨a.di.n.trans b.di.n.symm,a.di.v.trans b.di.v.symm,a.di.C.trans b.di.C.symm⟩,a.ba.trans b.ba.symm⟩
noncomputable def R0 (room:Nat):Rs:=⟨0,0,[],room,0,0,0,0,none,none,[]⟩
/-- the data of a keepsake to which nothing came -/
noncomputable def K0 (room:Nat) (reach span:Int):KS:=⟨0,0,room,reach,span,⟨0,0,0,0,0,[]⟩,⟨0,0,0,0,0,[]⟩,⟨0,R0 room⟩,⟨0,R0 room⟩,⟨0,0,0,0,[]⟩,⟨0,0,0,0,0,[]⟩,⟨0,0,0,Fg⟩⟩
theorem Kh.eq (h:Kh y n) (e:Eqp x y):Kh x n:=by
 have gf:∀ {f g:Fq},EF f g->Gf y.room g n->Gf x.room f n:=fun {f g} e1 g1=>⟨by rw [e.room,e1.t,e1.l,e1.c];exact g1.ok,by rw [e1.t];exact g1.t,by rw [e1.c];exact g1.k⟩
 have gr:∀ {f g:Rs},ER f g->Gr y.room g n->Gr x.room f n:=fun {f g} e1 g1=>⟨by rw [e.room,e1.r];exact g1.r,by rw [e1.r,e1.tt,e1.ov,e1.un,e1.ls];exact g1.g,by rw [e1.tt];exact g1.t,by rw [e.room,e1.ls];exact g1.sm⟩
 refine ⟨by rw [e.room];exact h.r2,by rw [e.room];exact h.r64,by rw [e.room];exact h.rr,gf e.cm h.cm,gf e.wn h.wn,gr e.up h.up,gr e.dn h.dn,?_,by rw [e.room,e.di.v,e.di.C];exact h.dl,by rw [e.di.C];exact h.dc,h.few⟩
 rw [<- jH,e.wi.b,jH];exact h.wl
theorem kh0 (reach span:Int) (r2:2<=room) (r64:room<=64) (ev:room % 2=0) (rr:room<=15\/room=64):Kh (K0 room reach span) 0:=by
 have ok0:Gf room ⟨0,0,0,0,0,[]⟩ 0:=⟨⟨_,Ok.empty room⟩,eE _,bV _⟩
 have g0:RG.Good (room:Int) 0 0 0 []:=RG.Good.new tb_g% tb_g% tb_g%
 exact ⟨r2,r64,rr,ok0,ok0,⟨rfl,g0,eE _,.inr fun l m=>(nomatch m)⟩,⟨rfl,g0,eE _,.inr fun l m=>(nomatch m)⟩,bV _,⟨eE _,by show ((0:Nat):Int)<=room;lia,fun w a b=>absurd a (by have b2:w<0:=b;lia)⟩,bV _,by decide⟩
/-- what a take asks -/
structure Kt (x:KS) (n:Nat):Prop where
 r2:2<=x.room
 r64:x.room<=64
 rr:x.room<=15\/x.room=64
 wn:Gf x.room x.wn n
 dn:Gr x.room x.dn.x n
 wl:x.wi.ps.length<=100
 few:n<=63
theorem Kh.kt (h:Kh x n):Kt x n:=⟨h.r2,h.r64,h.rr,h.wn,h.dn,by have:=h.wl;have:=h.few;lia,h.few⟩
open MK
noncomputable def aml (A:Ad):Sp:=fun vs H Q _=>∃ (x:KS) (n:Nat) (th w:Int),vs=[.ref x.k,.int th,.int w]/\Kp A H x/\Kh x n/\0<=th/\th<1152921504606846976/\1<=w/\w<=1000000000000 /\
 ∀ (x':KS) (H':Hp),Kp A H' x'->SP th w x x'->Far A x.pts H H'->Q .non H'
theorem ajH (T:Tx K mg A):cP P w K mg base CX0 6 A.Xu A.pA ["self","thing","weight"] (aml A):=by
 k_dat (T.F'29.ok,Fx) "a"
 ·obtain ⟨x,n,th,w,rfl,_⟩:=h
  rfl
 ·obtain ⟨x,n,th,w,rfl,hK,hG,th0,th1,w1,w2,q⟩:=h
  have e64:(2:Int) ^ 64=18446744073709551616:=by decide
  have hn:=hG.few
  have r2:=hG.r2
  have r64:=hG.r64
  have lu:=gq hG.up.g hG.up.t hG.few
  have su:=hG.up.g.small
  have hrm:=hG.up.r
  obtain ⟨W,okf⟩:=hG.cm.ok
  refine ⟨_,(aq (bF (dG (aB (pv 0) rfl) T.fu T.wD (ajD T) tb_g% T.b'24 .nil aQ (aj (pv 1) (aj (pv 2) aA))))
   (aq (bF (dG (aB (pv 0) rfl) T.bO T.Fb (ok'8 T) tb_g% T.b'8 .nil aQ (aj (pv 1) (aj (pv 2) aA))))
   (aq (bF (dG (aB (pv 0) rfl) T.cU T.QW (ok'12 T) tb_g% T.b'12 .nil aQ (aj (pv 2) aA)))
   (aq (bF (dG (aB (pv 0) rfl) T.dR T.JX (ok'19 T) tb_g% T.b'19 .nil aQ (aj (pv 1) aA)))
   (aF (fO (bB IW (pv 1) (aB (pv 0) rfl) (bR _)) (aF (bF (dG (aB (pv 0) rfl) T.jQ T.Lb (ok'27 T) tb_g% T.b'27 .nil aQ (aj (pv 1) (aj (pv 2) aA))))) dj)))))),?_⟩
  refine ⟨_,rfl,rdF hK.o T.aW T.yj (wX ..) ⟨x.cm.p,x.cm.dx,_,rfl,hK.cm.o,aa6 _ _ _ _ tb_g% tb_g% tb_g% tb_g%,_,rfl,_,rfl,x.cm.p,x.cm.dx,x.cm.d,x.room,x.cm.t,x.cm.l,th,w,x.cm.c,rfl,hK.cm.o,hK.cm.d,okf.nd,okf.pos,w1,by have:=hG.cm.k;have:=okf.len;have:=hG.rr;have:=hG.few;lia,fun d1 c1 cut H1 hd1 ft o1 e1 b1=>?_⟩⟩
  have P1:=hK.pp.setC (f:=⟨x.cm.p,x.cm.dx,d1,x.cm.t+w,x.cm.l+cut,c1⟩) rfl b1 ⟨o1,e1⟩
  have f1:Far A x.pts H H1:=Far.of (by simp [KS.pts]) hK.cm.o b1
  refine ⟨_,rfl,rdF (f1.pb _ _ hK.o hK.nk) T.aW T.yq (Ng ..) ⟨x.up.p,x.up.x.dx,_,rfl,P1.up.o,rgN tb_g%,_,rfl,_,rfl,x.up.p,x.up.x.dx,x.up.x.a,x.up.x.bs,x.up.x.r,x.up.x.tt,x.up.x.ov,x.up.x.un,x.up.x.tn,th,w,x.up.x.mi,x.up.x.ma,x.up.x.ls,rfl,P1.up,hG.up.g.r2,hG.up.g.r64,by lia,by rw [e64];lia,by lia,(hG.up.le62 hG.rr (O4 hG.few)).1,(hG.up.le62 hG.rr (O4 hG.few)).2,lu.2,fun a' bs' out tn' ov' un' H2 st rn b2 na2 nb2=>?_⟩⟩
  have P2:=P1.setU (f:=⟨x.up.p,⟨x.up.x.dx,a',bs',x.up.x.r,x.up.x.tt+w,ov',un',tn',_,_,out⟩⟩) rfl b2 rn
  have f2:=f1.trans (Far.of (A:=A) (ps:=x.pts) (by simp [KS.pts]) P1.up.o b2)
  refine ⟨_,rfl,rdF (f2.pb _ _ hK.o hK.nk) T.aW T.uN (jR ..) ⟨x.wi.p,x.wi.dx,_,rfl,P2.wi.o,Nb _ _ _ _ tb_g% tb_g% tb_g% tb_g%,_,rfl,x.wi.p,x.wi.dx,x.wi.l,x.room,x.reach,x.wi.c,w,x.wi.ps,rfl,P2.wi,by have:=hG.wl;lia,by lia,by lia,fun l3 ps3 H3 eb3 wn3 b3 nl3=>?_⟩⟩
  have P3:=P2.setI (f:=⟨x.wi.p,x.wi.dx,l3,x.wi.c+1,ps3⟩) rfl b3 wn3
  have f3:=f2.trans (Far.of (A:=A) (ps:=x.pts) (by simp [KS.pts]) P2.wi.o b3)
  refine ⟨_,rfl,rdF (f3.pb _ _ hK.o hK.nk) T.aW T.yu (xg ..) ⟨x.di.p,x.di.dx,_,rfl,P3.di.o,ahh _ _ _ _ tb_g% tb_g% tb_g% tb_g%,_,rfl,x.di.p,x.di.dx,x.di.l,x.room,x.di.n,x.di.v,th,x.di.C,rfl,P3.di,hG.dl,by have:=hG.dc;lia,by lia,by lia,fun l4 v4 H4 lv4 dn4 b4 nl4=>?_⟩⟩
  have P4:=P3.setS (f:=⟨x.di.p,x.di.dx,l4,x.di.n+1,v4,came x.di.C th⟩) rfl b4 dn4
  have f4:=f3.trans (Far.of (A:=A) (ps:=x.pts) (by simp [KS.pts]) P3.di.o b4)
  have o4:=f4.pb _ _ hK.o hK.nk
  refine ⟨_,rfl,_,rfl,rdF o4 T.aW T.uM (nW ..) ⟨_,_,rfl,rfl,_,rfl,gP (fun hs=>?_) (fun hs=>?_)⟩⟩
  ·have hs:th<x.span:=of_decide_eq_true hs
   refine ⟨_,rfl,rdF o4 T.aW T.uO (jf ..) ⟨x.ba.p,x.ba.dx,_,rfl,P4.ba.o,ajE _ _ tb_g% tb_g%,_,rfl,_,rfl,x.ba.p,x.ba.dx,x.ba.l,x.span,th,w,x.ba.q,rfl,P4.ba,th0,by rw [e64];lia,fun l5 H5 bn5 b5 nl5=>?_⟩⟩
   have P5:=P4.setB (f:=⟨x.ba.p,x.ba.dx,l5,_⟩) rfl b5 bn5
   have f5:=f4.trans (Far.of (A:=A) (ps:=x.pts) (by simp [KS.pts]) P4.ba.o b5)
   exact q _ H5 (P5.kp (f5.pb _ _ hK.o hK.nk) hK.nk) ⟨⟨rfl,rfl,rfl,rfl,rfl,rfl⟩,⟨cut,ft,rfl,rfl⟩,rfl,⟨rfl,rfl,rfl,rfl,st⟩,rfl,⟨rfl,eb3⟩,⟨rfl,rfl,lv4⟩,(if_pos hs).symm⟩ f5
  ·have hs:¬ th<x.span:=fun z=>hs (decide_eq_true z)
   exact q _ H4 (P4.kp o4 hK.nk) ⟨⟨rfl,rfl,rfl,rfl,rfl,rfl⟩,⟨cut,ft,rfl,rfl⟩,rfl,⟨rfl,rfl,rfl,rfl,st⟩,rfl,⟨rfl,eb3⟩,⟨rfl,rfl,lv4⟩,(if_neg hs).symm⟩ f4
noncomputable def aiT (A:Ad):Sp:=fun vs H Q _=>∃ (x:KS) (n:Nat) (th w:Int),vs=[.ref x.k,.int th,.int w]/\Kp A H x/\Kt x n/\0<=th/\th<1152921504606846976/\1<=w/\w<=1000000000000 /\
 ∀ (x':KS) (H':Hp),Kp A H' x'->ST th w x x'->Far A x.pts H H'->Q .non H'
theorem ajI (T:Tx K mg A):cP P w K mg base CX0 7 A.Xv A.m9 ["self","thing","weight"] (aiT A):=by
 k_dat (T.F'30.ok,Ek) "a"
 ·obtain ⟨x,n,th,w,rfl,_⟩:=h
  rfl
 ·obtain ⟨x,n,th,w,rfl,hK,hG,th0,th1,w1,w2,q⟩:=h
  have e64:(2:Int) ^ 64=18446744073709551616:=by decide
  have hn:=hG.few
  have r2:=hG.r2
  have r64:=hG.r64
  have lu:=gq hG.dn.g hG.dn.t hG.few
  have su:=hG.dn.g.small
  have hrm:=hG.dn.r
  obtain ⟨W,okf⟩:=hG.wn.ok
  refine ⟨_,(aq (bF (dG (aB (pv 0) rfl) T.fu T.wD (ajD T) tb_g% T.b'24 .nil aQ (aj (pv 1) (aj (pv 2) aA))))
   (aq (bF (dG (aB (pv 0) rfl) T.bO T.Fb (ok'8 T) tb_g% T.b'8 .nil aQ (aj (pv 1) (aj (pv 2) aA))))
   (aq (bF (dG (aB (pv 0) rfl) T.cU T.yw (ajx T) tb_g% T.b'13 .nil aQ (aj aC aA)))
   (aF (fO (bB IW (pv 1) (aB (pv 0) rfl) (bR _)) (aF (bF (dG (aB (pv 0) rfl) T.jQ T.J0 (ok'28 T) tb_g% T.b'28 .nil aQ (aj (pv 1) (aj (pv 2) aA))))) dj))))),?_⟩
  refine ⟨_,rfl,rdF hK.o T.aW T.yp (wY ..) ⟨x.wn.p,x.wn.dx,_,rfl,hK.wn.o,aa6 _ _ _ _ tb_g% tb_g% tb_g% tb_g%,_,rfl,_,rfl,x.wn.p,x.wn.dx,x.wn.d,x.room,x.wn.t,x.wn.l,th,w,x.wn.c,rfl,hK.wn.o,hK.wn.d,okf.nd,okf.pos,w1,by have:=hG.wn.k;have:=okf.len;have:=hG.rr;have:=hG.few;lia,fun d1 c1 cut H1 hd1 ft o1 e1 b1=>?_⟩⟩
  have P1:=hK.pp.setW (f:=⟨x.wn.p,x.wn.dx,d1,x.wn.t+w,x.wn.l+cut,c1⟩) rfl b1 ⟨o1,e1⟩
  have f1:Far A x.pts H H1:=Far.of (by simp [KS.pts]) hK.wn.o b1
  refine ⟨_,rfl,rdF (f1.pb _ _ hK.o hK.nk) T.aW T.yt (wZ ..) ⟨x.dn.p,x.dn.x.dx,_,rfl,P1.dn.o,rgN tb_g%,_,rfl,_,rfl,x.dn.p,x.dn.x.dx,x.dn.x.a,x.dn.x.bs,x.dn.x.r,x.dn.x.tt,x.dn.x.ov,x.dn.x.un,x.dn.x.tn,th,w,x.dn.x.mi,x.dn.x.ma,x.dn.x.ls,rfl,P1.dn,hG.dn.g.r2,hG.dn.g.r64,by lia,by rw [e64];lia,by lia,(hG.dn.le62 hG.rr (O4 hG.few)).1,(hG.dn.le62 hG.rr (O4 hG.few)).2,lu.2,fun a' bs' out tn' ov' un' H2 st rn b2 na2 nb2=>?_⟩⟩
  have P2:=P1.setD (f:=⟨x.dn.p,⟨x.dn.x.dx,a',bs',x.dn.x.r,x.dn.x.tt+w,ov',un',tn',_,_,out⟩⟩) rfl b2 rn
  have f2:=f1.trans (Far.of (A:=A) (ps:=x.pts) (by simp [KS.pts]) P1.dn.o b2)
  refine ⟨_,rfl,rdF (f2.pb _ _ hK.o hK.nk) T.aW T.uN (jR ..) ⟨x.wi.p,x.wi.dx,_,rfl,P2.wi.o,Nb _ _ _ _ tb_g% tb_g% tb_g% tb_g%,x.wi.p,x.wi.dx,x.wi.l,x.room,x.reach,x.wi.c,1,x.wi.ps,rfl,P2.wi,by have:=hG.wl;lia,by lia,by lia,fun l3 ps3 H3 eb3 wn3 b3 nl3=>?_⟩⟩
  have P3:=P2.setI (f:=⟨x.wi.p,x.wi.dx,l3,x.wi.c+1,ps3⟩) rfl b3 wn3
  have f3:=f2.trans (Far.of (A:=A) (ps:=x.pts) (by simp [KS.pts]) P2.wi.o b3)
  have o3:=f3.pb _ _ hK.o hK.nk
  refine ⟨_,rfl,_,rfl,rdF o3 T.aW T.uM (nW ..) ⟨_,_,rfl,rfl,_,rfl,gP (fun hs=>?_) (fun hs=>?_)⟩⟩
  ·have hs:th<x.span:=of_decide_eq_true hs
   refine ⟨_,rfl,rdF o3 T.aW T.uO (jf ..) ⟨x.ba.p,x.ba.dx,_,rfl,P3.ba.o,ajE _ _ tb_g% tb_g%,_,rfl,_,rfl,x.ba.p,x.ba.dx,x.ba.l,x.span,th,w,x.ba.q,rfl,P3.ba,th0,by rw [e64];lia,fun l5 H5 bn5 b5 nl5=>?_⟩⟩
   have P5:=P3.setB (f:=⟨x.ba.p,x.ba.dx,l5,_⟩) rfl b5 bn5
   have f5:=f3.trans (Far.of (A:=A) (ps:=x.pts) (by simp [KS.pts]) P3.ba.o b5)
   exact q _ H5 (P5.kp (f5.pb _ _ hK.o hK.nk) hK.nk) ⟨⟨rfl,rfl,rfl,rfl,rfl,rfl⟩,rfl,⟨cut,ft,rfl,rfl⟩,rfl,⟨rfl,rfl,rfl,rfl,st⟩,⟨rfl,eb3⟩,rfl,(if_pos hs).symm⟩ f5
  ·have hs:¬ th<x.span:=fun z=>hs (decide_eq_true z)
   exact q _ H3 (P3.kp o3 hK.nk) ⟨⟨rfl,rfl,rfl,rfl,rfl,rfl⟩,rfl,⟨cut,ft,rfl,rfl⟩,rfl,⟨rfl,rfl,rfl,rfl,st⟩,⟨rfl,eb3⟩,rfl,(if_neg hs).symm⟩ f3
noncomputable def aiU (A:Ad):Sp:=fun vs H Q _=>∃ (x:KS) (n:Nat) (w:Int),vs=[.ref x.k,.int w]/\Kp A H x/\Kh x n /\
 ∀ (x':KS) (H':Hp),Kp A H' x'->SI w x x'->Far A x.pts H H'->Q .non H'
theorem ok'31 (T:Tx K mg A):cP P w K mg base CX0 6 A.Xw A.ni ["self","many"] (aiU A):=by
 k_dat (T.F'31.ok,El) "a"
 ·obtain ⟨x,n,w,rfl,_⟩:=h
  rfl
 ·obtain ⟨x,n,w,rfl,hK,hG,q⟩:=h
  have hn:=hG.few
  have r2:=hG.r2
  have r64:=hG.r64
  have few:=hG.few
  refine ⟨_,(aF (bF (dG (aB (pv 0) rfl) T.cU T.yw (ajx T) tb_g% T.b'13 .nil aQ (aj (pv 1) aA)))),?_⟩
  refine ⟨_,rfl,rdF hK.o T.aW T.uN (jR ..) ⟨x.wi.p,x.wi.dx,_,rfl,hK.wi.o,Nb _ _ _ _ tb_g% tb_g% tb_g% tb_g%,_,rfl,x.wi.p,x.wi.dx,x.wi.l,x.room,x.reach,x.wi.c,w,x.wi.ps,rfl,hK.wi,by have:=hG.wl;lia,by lia,by lia,fun l3 ps3 H3 eb3 wn3 b3 nl3=>?_⟩⟩
  have P3:=hK.pp.setI (f:=⟨x.wi.p,x.wi.dx,l3,x.wi.c+w,ps3⟩) rfl b3 wn3
  have f3:Far A x.pts H H3:=Far.of (by simp [KS.pts]) hK.wi.o b3
  exact q _ H3 (P3.kp (f3.pb _ _ hK.o hK.nk) hK.nk) ⟨⟨rfl,rfl,rfl,rfl,rfl,rfl⟩,rfl,rfl,rfl,rfl,⟨rfl,eb3⟩,rfl,rfl⟩ f3
open MK
noncomputable def aiV (A:Ad):Sp:=fun vs H Q _=>∃ (k dk:Addr) (room:Nat) (reach span:Int),vs=[.ref k,.int room,.int reach,.int span]/\H k=some (.ins A.bw dk [])/\2<=room/\room<=64/\room % 2=0 /\
 ∀ (x:KS) (H':Hp),Kp A H' x->Eqp x (K0 room reach span)->x.k=k->(∀ b∈x.pts,H b=none)->But k H H'->Q .non H'
noncomputable abbrev kI (room:Nat) (reach span:Int):List (Str × V):=bU "span" (.int span) (bU "reach" (.int reach) (bU "room" (.int room) []))
noncomputable abbrev kI1 (room:Nat) (reach span:Int) (p1:Addr):List (Str × V):=bU "came" (.ref p1) (kI room reach span)
noncomputable abbrev kI2 (room:Nat) (reach span:Int) (p1 p2:Addr):List (Str × V):=bU "went" (.ref p2) (kI1 room reach span p1)
noncomputable abbrev kI3 (room:Nat) (reach span:Int) (p1 p2 p3:Addr):List (Str × V):=bU "up" (.ref p3) (kI2 room reach span p1 p2)
noncomputable abbrev kI4 (room:Nat) (reach span:Int) (p1 p2 p3 p4:Addr):List (Str × V):=bU "down" (.ref p4) (kI3 room reach span p1 p2 p3)
noncomputable abbrev kI5 (room:Nat) (reach span:Int) (p1 p2 p3 p4 p5:Addr):List (Str × V):=bU "window" (.ref p5) (kI4 room reach span p1 p2 p3 p4)
noncomputable abbrev kI6 (room:Nat) (reach span:Int) (p1 p2 p3 p4 p5 p6:Addr):List (Str × V):=bU "seen" (.ref p6) (kI5 room reach span p1 p2 p3 p4 p5)
theorem Kz (T:Tx K mg A):cP P w K mg base CX0 3 A.Rt A.nu ["self","room","reach","span"] (aiV A):=by
 k_dat (T.F'32.ok,Em) "a"
 ·obtain ⟨k,dk,room,reach,span,rfl,_⟩:=h
  rfl
 ·obtain ⟨k,dk,room,reach,span,rfl,hk,r2,r64,ev,q⟩:=h
  refine ⟨_,(aq (aU (pv 0) (pv 1) rfl)
   (aq (aU (pv 0) (pv 2) rfl)
   (aq (aU (pv 0) (pv 3) rfl)
   (aq (aU (pv 0) (fC T.agS (ahl T) tb_g% rfl T.zX T.b'20 .nil aQ (aj (pv 1) aA)) rfl)
   (aq (aU (pv 0) (fC T.agS (ahl T) tb_g% rfl T.zX T.b'20 .nil aQ (aj (pv 1) aA)) rfl)
   (aq (aU (pv 0) (fC T.agR (ok'7 T) tb_g% rfl T.QL T.b'7 .nil aQ (aj (pv 1) aA)) rfl)
   (aq (aU (pv 0) (fC T.agR (ok'7 T) tb_g% rfl T.QL T.b'7 .nil aQ (aj (pv 1) aA)) rfl)
   (aq (aU (pv 0) (fC T.ajs (ajw T) tb_g% rfl T.TV T.b'10 .nil aQ (aj (pv 1) (aj (pv 2) aA))) rfl)
   (aq (aU (pv 0) (fC T.ajt (ajz T) tb_g% rfl T.JT T.b'16 .nil aQ (aj (pv 1) aA)) rfl)
   (aF (aU (pv 0) (fC T.aju (ajG T) tb_g% rfl T.MN T.b'26 .nil aQ (aj (pv 3) aA)) rfl))))))))))),?_⟩
  refine ⟨_,rfl,_,rfl,k,_,dk,[],rfl,hk,T.aW,T.yg,(by show 0<1000;decide),?_⟩
  refine ⟨_,rfl,_,rfl,k,_,dk,_,rfl,ao,T.aW,T.yh,(by show 1<1000;decide),?_⟩
  refine ⟨_,rfl,_,rfl,k,_,dk,_,rfl,ao,T.aW,T.uM,(by show 2<1000;decide),?_⟩
  rw [cQ,cQ]
  have b0:But k H (upd H k (.ins A.bw dk (kI room reach span))):=But.upd
  have o0:(upd H k (.ins A.bw dk (kI room reach span))) k=some (.ins A.bw dk (kI room reach span)):=ao
  generalize upd H k (.ins A.bw dk (kI room reach span))=G0 at b0 o0 ⊢
  refine ⟨_,rfl,fun p1 dx1 n1 m1 z1=>⟨p1,dx1,(room:Int),rfl,ao,fun d1 I1 hd1 e1 g1 bt1=>⟨rfl,?_⟩⟩⟩
  have s1:Same G0 I1:=fun b o e=>bt1 b o (by rw [au (ak e n1),au (ak e m1)];exact e) (ak e n1)
  have nk1:p1≠k:=aL (ak o0 n1)
  have ok1:=s1 _ _ o0
  k_dat (k,dk,ok1,T.aW,T.yj,3) "c"
  have u1:But k I1 (upd I1 k (.ins A.bw dk (kI1 room reach span p1))):=But.upd
  have F1:wJ A I1 room ⟨p1,dx1,d1,0,0,[]⟩:=⟨e1,g1⟩
  replace F1:=F1.but u1 ok1 nk1
  have o1:(upd I1 k (.ins A.bw dk (kI1 room reach span p1))) k=some (.ins A.bw dk (kI1 room reach span p1)):=ao
  have b1:But k H (upd I1 k (.ins A.bw dk (kI1 room reach span p1))):=(b0.trans (s1.but k)).trans u1
  have v1:H p1=none:=cT b0 n1 nk1
  generalize upd I1 k (.ins A.bw dk (kI1 room reach span p1))=G1 at u1 o1 b1 F1 ⊢
  refine ⟨_,rfl,fun p2 dx2 n2 m2 z2=>⟨p2,dx2,(room:Int),rfl,ao,fun d2 I2 hd2 e2 g2 bt2=>⟨rfl,?_⟩⟩⟩
  have s2:Same G1 I2:=fun b o e=>bt2 b o (by rw [au (ak e n2),au (ak e m2)];exact e) (ak e n2)
  have q12:p1≠p2:=ak F1.o n2
  have nk2:p2≠k:=aL (ak o1 n2)
  have ok2:=s2 _ _ o1
  k_dat (k,dk,ok2,T.aW,T.yp,4) "c"
  have u2:But k I2 (upd I2 k (.ins A.bw dk (kI2 room reach span p1 p2))):=But.upd
  have F2:wJ A I2 room ⟨p2,dx2,d2,0,0,[]⟩:=⟨e2,g2⟩
  replace F2:=F2.but u2 ok2 nk2
  replace F1:=(F1.same s2).but u2 ok2 nk1
  have o2:(upd I2 k (.ins A.bw dk (kI2 room reach span p1 p2))) k=some (.ins A.bw dk (kI2 room reach span p1 p2)):=ao
  have b2:But k H (upd I2 k (.ins A.bw dk (kI2 room reach span p1 p2))):=(b1.trans (s2.but k)).trans u2
  have v2:H p2=none:=cT b1 n2 nk2
  generalize upd I2 k (.ins A.bw dk (kI2 room reach span p1 p2))=G2 at u2 o2 b2 F1 F2 ⊢
  refine ⟨_,rfl,fun p3 dx3 n3 m3 z3=>⟨p3,dx3,(room:Int),rfl,ao,fun d3 I3 hd3 e3 g3 bt3=>⟨rfl,?_⟩⟩⟩
  have s3:Same G2 I3:=fun b o e=>bt3 b o (by rw [au (ak e n3),au (ak e m3)];exact e) (ak e n3)
  have q13:p1≠p3:=ak F1.o n3
  have q23:p2≠p3:=ak F2.o n3
  have nk3:p3≠k:=aL (ak o2 n3)
  have ok3:=s3 _ _ o2
  k_dat (k,dk,ok3,T.aW,T.yq,5) "c"
  have u3:But k I3 (upd I3 k (.ins A.bw dk (kI3 room reach span p1 p2 p3))):=But.upd
  have F3:Rn A I3 p3 dx3 d3 [] room 0 0 0 0 none none []:=Rn.new e3 g3
  replace F3:=F3.but u3 ok3 nk3
  replace F1:=(F1.same s3).but u3 ok3 nk1
  replace F2:=(F2.same s3).but u3 ok3 nk2
  have o3:(upd I3 k (.ins A.bw dk (kI3 room reach span p1 p2 p3))) k=some (.ins A.bw dk (kI3 room reach span p1 p2 p3)):=ao
  have b3:But k H (upd I3 k (.ins A.bw dk (kI3 room reach span p1 p2 p3))):=(b2.trans (s3.but k)).trans u3
  have vd3:H d3=none:=by
   have y:(upd (upd G2 dx3 (.own p3)) p3 (.ins A.cV dx3 [])) d3=none:=hd3
   have np:d3≠p3:=fun z=>by rw [z,ao] at y;cases y
   rw [au np] at y
   have nq:d3≠dx3:=fun z=>by rw [z,ao] at y;cases y
   rw [au nq] at y
   exact cT b2 y (aL (ak o2 y))
  have v3:H p3=none:=cT b2 n3 nk3
  generalize upd I3 k (.ins A.bw dk (kI3 room reach span p1 p2 p3))=G3 at u3 o3 b3 F1 F2 F3 ⊢
  refine ⟨_,rfl,fun p4 dx4 n4 m4 z4=>⟨p4,dx4,(room:Int),rfl,ao,fun d4 I4 hd4 e4 g4 bt4=>⟨rfl,?_⟩⟩⟩
  have s4:Same G3 I4:=fun b o e=>bt4 b o (by rw [au (ak e n4),au (ak e m4)];exact e) (ak e n4)
  have q14:p1≠p4:=ak F1.o n4
  have q24:p2≠p4:=ak F2.o n4
  have q34:p3≠p4:=ak F3.o n4
  have nk4:p4≠k:=aL (ak o3 n4)
  have ok4:=s4 _ _ o3
  k_dat (k,dk,ok4,T.aW,T.yt,6) "c"
  have u4:But k I4 (upd I4 k (.ins A.bw dk (kI4 room reach span p1 p2 p3 p4))):=But.upd
  have F4:Rn A I4 p4 dx4 d4 [] room 0 0 0 0 none none []:=Rn.new e4 g4
  replace F4:=F4.but u4 ok4 nk4
  replace F1:=(F1.same s4).but u4 ok4 nk1
  replace F2:=(F2.same s4).but u4 ok4 nk2
  replace F3:=(F3.same s4).but u4 ok4 nk3
  have o4:(upd I4 k (.ins A.bw dk (kI4 room reach span p1 p2 p3 p4))) k=some (.ins A.bw dk (kI4 room reach span p1 p2 p3 p4)):=ao
  have b4:But k H (upd I4 k (.ins A.bw dk (kI4 room reach span p1 p2 p3 p4))):=(b3.trans (s4.but k)).trans u4
  have vd4:H d4=none:=by
   have y:(upd (upd G3 dx4 (.own p4)) p4 (.ins A.cV dx4 [])) d4=none:=hd4
   have np:d4≠p4:=fun z=>by rw [z,ao] at y;cases y
   rw [au np] at y
   have nq:d4≠dx4:=fun z=>by rw [z,ao] at y;cases y
   rw [au nq] at y
   exact cT b3 y (aL (ak o3 y))
  have v4:H p4=none:=cT b3 n4 nk4
  generalize upd I4 k (.ins A.bw dk (kI4 room reach span p1 p2 p3 p4))=G4 at u4 o4 b4 F1 F2 F3 F4 ⊢
  refine ⟨_,rfl,_,rfl,fun p5 dx5 n5 m5 z5=>⟨p5,dx5,(room:Int),reach,rfl,ao,fun d5 I5 hd5 e5 g5 bt5=>⟨rfl,?_⟩⟩⟩
  have s5:Same G4 I5:=fun b o e=>bt5 b o (by rw [au (ak e n5),au (ak e m5)];exact e) (ak e n5)
  have q15:p1≠p5:=ak F1.o n5
  have q25:p2≠p5:=ak F2.o n5
  have q35:p3≠p5:=ak F3.o n5
  have q45:p4≠p5:=ak F4.o n5
  have nk5:p5≠k:=aL (ak o4 n5)
  have ok5:=s5 _ _ o4
  k_dat (k,dk,ok5,T.aW,T.uN,7) "c"
  have u5:But k I5 (upd I5 k (.ins A.bw dk (kI5 room reach span p1 p2 p3 p4 p5))):=But.upd
  have F5:Wn A I5 p5 dx5 d5 room reach 0 []:=⟨e5,⟨g5,fun _ h=>(nomatch h)⟩⟩
  replace F5:=F5.but u5 ok5 nk5
  replace F1:=(F1.same s5).but u5 ok5 nk1
  replace F2:=(F2.same s5).but u5 ok5 nk2
  replace F3:=(F3.same s5).but u5 ok5 nk3
  replace F4:=(F4.same s5).but u5 ok5 nk4
  have o5:(upd I5 k (.ins A.bw dk (kI5 room reach span p1 p2 p3 p4 p5))) k=some (.ins A.bw dk (kI5 room reach span p1 p2 p3 p4 p5)):=ao
  have b5:But k H (upd I5 k (.ins A.bw dk (kI5 room reach span p1 p2 p3 p4 p5))):=(b4.trans (s5.but k)).trans u5
  have vd5:H d5=none:=by
   have y:(upd (upd G4 dx5 (.own p5)) p5 (.ins A.gW dx5 [])) d5=none:=hd5
   have np:d5≠p5:=fun z=>by rw [z,ao] at y;cases y
   rw [au np] at y
   have nq:d5≠dx5:=fun z=>by rw [z,ao] at y;cases y
   rw [au nq] at y
   exact cT b4 y (aL (ak o4 y))
  have v5:H p5=none:=cT b4 n5 nk5
  generalize upd I5 k (.ins A.bw dk (kI5 room reach span p1 p2 p3 p4 p5))=G5 at u5 o5 b5 F1 F2 F3 F4 F5 ⊢
  refine ⟨_,rfl,fun p6 dx6 n6 m6 z6=>⟨p6,dx6,(room:Int),rfl,ao,fun d6 I6 hd6 e6 g6 bt6=>⟨rfl,?_⟩⟩⟩
  have s6:Same G5 I6:=fun b o e=>bt6 b o (by rw [au (ak e n6),au (ak e m6)];exact e) (ak e n6)
  have q16:p1≠p6:=ak F1.o n6
  have q26:p2≠p6:=ak F2.o n6
  have q36:p3≠p6:=ak F3.o n6
  have q46:p4≠p6:=ak F4.o n6
  have q56:p5≠p6:=ak F5.o n6
  have nk6:p6≠k:=aL (ak o5 n6)
  have ok6:=s6 _ _ o5
  k_dat (k,dk,ok6,T.aW,T.yu,8) "c"
  have u6:But k I6 (upd I6 k (.ins A.bw dk (kI6 room reach span p1 p2 p3 p4 p5 p6))):=But.upd
  have F6:Dn A I6 p6 dx6 d6 room 0 0 (srt (My.up 0 [])):=⟨e6,by rw [show srt (My.up 0 [])=[] from Ac.mp (gn _)];exact g6⟩
  replace F6:=F6.but u6 ok6 nk6
  replace F1:=(F1.same s6).but u6 ok6 nk1
  replace F2:=(F2.same s6).but u6 ok6 nk2
  replace F3:=(F3.same s6).but u6 ok6 nk3
  replace F4:=(F4.same s6).but u6 ok6 nk4
  replace F5:=(F5.same s6).but u6 ok6 nk5
  have o6:(upd I6 k (.ins A.bw dk (kI6 room reach span p1 p2 p3 p4 p5 p6))) k=some (.ins A.bw dk (kI6 room reach span p1 p2 p3 p4 p5 p6)):=ao
  have b6:But k H (upd I6 k (.ins A.bw dk (kI6 room reach span p1 p2 p3 p4 p5 p6))):=(b5.trans (s6.but k)).trans u6
  have vd6:H d6=none:=by
   have y:(upd (upd G5 dx6 (.own p6)) p6 (.ins A.gQ dx6 [])) d6=none:=hd6
   have np:d6≠p6:=fun z=>by rw [z,ao] at y;cases y
   rw [au np] at y
   have nq:d6≠dx6:=fun z=>by rw [z,ao] at y;cases y
   rw [au nq] at y
   exact cT b5 y (aL (ak o5 y))
  have v6:H p6=none:=cT b5 n6 nk6
  generalize upd I6 k (.ins A.bw dk (kI6 room reach span p1 p2 p3 p4 p5 p6))=G6 at u6 o6 b6 F1 F2 F3 F4 F5 F6 ⊢
  refine ⟨_,rfl,fun p7 dx7 n7 m7 z7=>⟨p7,dx7,span,rfl,ao,fun d7 I7 hd7 e7 bt7=>⟨rfl,?_⟩⟩⟩
  have s7:Same G6 I7:=fun b o e=>bt7 b o (by rw [au (ak e n7),au (ak e m7)];exact e) (ak e n7)
  have q17:p1≠p7:=ak F1.o n7
  have q27:p2≠p7:=ak F2.o n7
  have q37:p3≠p7:=ak F3.o n7
  have q47:p4≠p7:=ak F4.o n7
  have q57:p5≠p7:=ak F5.o n7
  have q67:p6≠p7:=ak F6.o n7
  have nk7:p7≠k:=aL (ak o6 n7)
  have ok7:=s7 _ _ o6
  k_dat (k,dk,ok7,T.aW,T.uO,9) "c"
  have u7:But k I7 (upd I7 k (.ins A.bw dk (bU "balance" (.ref p7) (kI6 room reach span p1 p2 p3 p4 p5 p6)))):=But.upd
  have F7:Bn A I7 p7 dx7 d7 span Fg:=e7
  replace F7:=F7.but u7 ok7 nk7
  replace F1:=(F1.same s7).but u7 ok7 nk1
  replace F2:=(F2.same s7).but u7 ok7 nk2
  replace F3:=(F3.same s7).but u7 ok7 nk3
  replace F4:=(F4.same s7).but u7 ok7 nk4
  replace F5:=(F5.same s7).but u7 ok7 nk5
  replace F6:=(F6.same s7).but u7 ok7 nk6
  have o7:(upd I7 k (.ins A.bw dk (bU "balance" (.ref p7) (kI6 room reach span p1 p2 p3 p4 p5 p6)))) k=some (.ins A.bw dk (bU "balance" (.ref p7) (kI6 room reach span p1 p2 p3 p4 p5 p6))):=ao
  have b7:But k H (upd I7 k (.ins A.bw dk (bU "balance" (.ref p7) (kI6 room reach span p1 p2 p3 p4 p5 p6)))):=(b6.trans (s7.but k)).trans u7
  have vd7:H d7=none:=by
   have y:(upd (upd G6 dx7 (.own p7)) p7 (.ins A.rM dx7 [])) d7=none:=hd7
   have np:d7≠p7:=fun z=>by rw [z,ao] at y;cases y
   rw [au np] at y
   have nq:d7≠dx7:=fun z=>by rw [z,ao] at y;cases y
   rw [au nq] at y
   exact cT b6 y (aL (ak o6 y))
  have v7:H p7=none:=cT b6 n7 nk7
  generalize upd I7 k (.ins A.bw dk (bU "balance" (.ref p7) (kI6 room reach span p1 p2 p3 p4 p5 p6)))=G7 at u7 o7 b7 F1 F2 F3 F4 F5 F6 F7 ⊢
  rw [amg] at o7
  refine q ⟨k,dk,room,reach,span,⟨p1,dx1,d1,0,0,[]⟩,⟨p2,dx2,d2,0,0,[]⟩,⟨p3,⟨dx3,d3,[],room,0,0,0,0,none,none,[]⟩⟩,⟨p4,⟨dx4,d4,[],room,0,0,0,0,none,none,[]⟩⟩,⟨p5,dx5,d5,0,[]⟩,⟨p6,dx6,d6,0,0,[]⟩,⟨p7,dx7,d7,Fg⟩⟩ G7 ⟨o7,F1,F2,F3,F4,F5,F6,F7,?_⟩
   ⟨rfl,rfl,rfl,⟨rfl,rfl,rfl⟩,⟨rfl,rfl,rfl⟩,⟨rfl,rfl,rfl,rfl,rfl,rfl,rfl,rfl⟩,⟨rfl,rfl,rfl,rfl,rfl,rfl,rfl,rfl⟩,⟨rfl,rfl⟩,⟨rfl,rfl,rfl⟩,rfl⟩ rfl ?_ b7
  ·show [k,p1,p2,p3,p4,p5,p6,p7].Nodup
   simp only [lF,bN,jK,or_false,not_or,vC,and_true,not_false_eq_true]
   exact ⟨⟨aL nk1,aL nk2,aL nk3,aL nk4,aL nk5,aL nk6,aL nk7⟩,⟨q12,q13,q14,q15,q16,q17⟩,⟨q23,q24,q25,q26,q27⟩,⟨q34,q35,q36,q37⟩,⟨q45,q46,q47⟩,⟨q56,q57⟩,q67⟩
  ·intro b m
   unfold KS.pts at m
   simp only [bN,jK,or_false] at m
   rcases m with rfl | rfl | rfl | rfl | rfl | rfl | rfl
   all_goals assumption
open MK
noncomputable def spMix:Sp:=fun vs H Q _=>∃ c f p:Int,vs=[.int c,.int f,.int p]/\0<f/\f<2 ^ 64/\0<p/\∀ v:Int,0<=v->v<p->Q (.int v) H
theorem ajJ (T:Tx K mg A):cP P w K mg base CX0 1 A.Xx A.QK ["_law_cell","_law_factor","_law_prime"] spMix:=by
 k_dat (T.F'33.ok,ag9) "a"
 ·obtain ⟨c,f,p,rfl,_⟩:=h
  rfl
 ·obtain ⟨c,f,p,rfl,f0,f1,p0,q⟩:=h
  refine ⟨_,(aF (cB (aM dM (aM qX (pv 0) (pv 1)) (pv 2)))),?_⟩
  exact ⟨_,rfl,_,rfl,_,_,rfl,rfl,jh tb_g% f1,_,rfl,_,_,rfl,rfl,p0,q _ (zf _ tb_g%) (zc _ p0)⟩
noncomputable def spFar:Sp:=fun vs H Q _=>vs=[]/\∀ v:Int,0<=v->v<1152921504606846976->Q (.int v) H
theorem ok'34 (T:Tx K mg A):cP P w K mg base CX0 1 A.Xy A.tZ [] spFar:=by
 k_dat (T.F'34.ok,mC) "a"
 ·obtain ⟨rfl,_⟩:=h
  rfl
 ·obtain ⟨rfl,q⟩:=h
  refine ⟨_,(aq (aX (i:=0) mC.nd rfl (Or.inl rfl) aC)
   (aq (zB uG rfl (Dv rfl T.Q7 (aj aC aA)) (gG (i:=1) mC.nd rfl (Or.inl rfl)) (aF (aX (i:=0) mC.nd rfl (Or.inl rfl) (aM dM (aM qX (pv 0) (aM IV aC (aM qX aC (pv 0)))) aC))))
   (aF (cB (pv 0))))),?_⟩
  refine ⟨5,rfl,by decide,by decide,?_⟩
  refine Dy (fun i σ G=>∃ (v:Int) (y:Option V),σ=[some (.int v),y]/\0<=v/\v<1152921504606846976/\G=H) ⟨770093176312745717,none,rfl,by decide,by decide,rfl⟩ ?_ ?_
  ·rintro i σ G hi ⟨v,y,rfl,v0,v1,rfl⟩
   refine ⟨_,rfl,_,rfl,_,_,rfl,rfl,af5 (by decide) (by decide),_,_,rfl,rfl,_,_,rfl,rfl,af5 tb_g% tb_g%,_,_,rfl,rfl,(by show (0:Int)<1152921504606846976;decide),?_⟩
   exact ⟨_,_,rfl,zf _ (by decide),zc _ (by decide),rfl⟩
  ·rintro σ G ⟨v,y,rfl,v0,v1,rfl⟩
   exact ⟨_,rfl,q v v0 v1⟩
noncomputable def ahp:Sp:=fun vs H Q _=>∃ c:Int,vs=[.int c]/\∀ (v:Int) (H':Hp),0<=v->v<1152921504606846976->Same H H'->Q (.int v) H'
theorem ok'35 (T:Tx K mg A):cP P w K mg base CX0 2 A.Xz A.uc ["_law_cell"] ahp:=by
 k_dat (T.F'35.ok,rF) "a"
 ·obtain ⟨c,rfl,_⟩:=h
  rfl
 ·obtain ⟨c,rfl,q⟩:=h
  refine ⟨_,(aq (aX (i:=1) rF.nd rfl (Or.inl rfl) (aM dM (pv 0) aC))
   (aq (fO (bB IW (pv 1) aC (bR _)) (aF (cB (aM dM (aM iM (pv 0) aC) (fX (ixG (dO hr)) (dY (aj aC (aj aC aA))) (pv 1) (fun _ _=>rfl))))) dj)
   (aq (fO (bB uH (pv 1) aC (bR _)) (aF (cB (aM dM (aM qX (aM iM (pv 0) aC) aC) aC))) dj)
   (aq (aX (i:=2) rF.nd rfl (Or.inl rfl) (aM alm (aM cu aC (aM dM (aM iM (pv 0) aC) aC)) (aM dM (aM iM (pv 0) aC) aC)))
   (aF (cB (aM dM (aM qX (pv 2) (afG (ok'34 T) tb_g% rfl T.QX T.F'34.kp T.b'34 .nil aQ)) aC))))))),?_⟩
  refine ⟨_,rfl,_,_,rfl,rfl,(by show (0:Int)<4;decide),?_⟩
  refine ⟨_,rfl,_,_,rfl,rfl,_,rfl,gP (fun h=>?_) (fun h=>?_)⟩
  ·have h:c % 4<2:=of_decide_eq_true h
   refine ⟨_,rfl,_,_,rfl,rfl,⟨by decide,by decide⟩,(by show 2<=sizeLine;decide),fun p hp=>⟨_,rfl,?_⟩⟩
   obtain ⟨v,hv,e⟩:=wQ (ns:=[7,60]) (i:=c % 4) tb_g% (by show c % 4<2;lia)
   have hv:v=7\/v=60:=by simpa using hv
   refine qC (.inl (.inl ao)) (v:=.int v) e ⟨_,_,rfl,rfl,(by show (0:Int)<v;lia),?_⟩
   have a1:=zf (c / 4) (show v≠0 by lia)
   have a2:=zc (c / 4) (show 0<v by lia)
   exact q _ _ a1 (by show c / 4 % v<_;lia) (Same.new hp)
  refine ⟨_,rfl,rfl,_,rfl,gP (fun h=>?_) (fun h=>?_)⟩
  ·refine ⟨_,rfl,_,_,rfl,rfl,⟨by decide,by decide⟩,_,_,rfl,rfl,jh (by decide) (by decide),_,_,rfl,rfl,(by show (0:Int)<1152921504606846976;decide),?_⟩
   exact q _ _ (zf _ (by decide)) (zc _ (by decide)) (Same.refl H)
  ·refine ⟨_,rfl,_,_,rfl,rfl,⟨by decide,by decide⟩,_,_,rfl,rfl,(by show (0:Int)<40;decide),_,_,rfl,rfl,_,rfl,_,_,rfl,rfl,⟨by decide,by decide⟩,_,_,rfl,rfl,(by show (0:Int)<50;decide),_,_,rfl,rfl,⟨by lia,by lia,?_⟩,?_⟩
   ·lia
   refine ⟨_,rfl,rfl,fun v v0 v1=>⟨_,_,rfl,rfl,jh tb_g% tb_g%,_,_,rfl,rfl,(by show (0:Int)<1152921504606846976;decide),?_⟩⟩
   exact q _ _ (zf _ (by decide)) (zc _ (by decide)) (Same.refl H)
noncomputable def acw:Sp:=fun vs H Q _=>∃ c:Int,vs=[.int c]/\∀ v:Int,1<=v->v<=1000000000000->Q (.int v) H
theorem ok'36 (T:Tx K mg A):cP P w K mg base CX0 1 A.XC A.rE ["_law_cell"] acw:=by
 k_dat (T.F'36.ok,Kq) "a"
 ·obtain ⟨c,rfl,_⟩:=h
  rfl
 ·obtain ⟨c,rfl,q⟩:=h
  refine ⟨_,(aq (fO (bB uH (aM dM (pv 0) aC) aC (bR _)) (aF (cB (aM cu aC (aM dM (aM qX (aM iM (pv 0) aC) aC) aC)))) dj)
   (aF (cB (aM cu aC (aM dM (aM iM (pv 0) aC) aC))))),?_⟩
  refine ⟨_,rfl,_,_,rfl,rfl,(by show (0:Int)<5;decide),rfl,_,rfl,gP (fun h=>?_) (fun h=>?_)⟩
  ·refine ⟨_,rfl,_,_,rfl,rfl,⟨by decide,by decide⟩,_,_,rfl,rfl,jh (by decide) (by decide),_,_,rfl,rfl,(by show (0:Int)<1000000000000;decide),_,_,rfl,rfl,?_⟩
   exact q _ tb_g% tb_g%
  ·refine ⟨_,rfl,_,_,rfl,rfl,⟨by decide,by decide⟩,_,_,rfl,rfl,(by show (0:Int)<12;decide),_,_,rfl,rfl,?_⟩
   exact q _ tb_g% tb_g%
/-- a row: its kind,its thing,its weight -/
structure R3 where
 (kd th w:Int)
structure R3.ok (r:R3):Prop where
 k0:0<=r.kd
 k2:r.kd<=2
 t0:0<=r.th
 t1:r.th<1152921504606846976
 w1:1<=r.w
 w2:r.w<=1000000000000
noncomputable def r3V (r:R3):HO:=.tup [.int r.kd,.int r.th,.int r.w]
noncomputable def aiW:Sp:=fun vs H Q _=>∃ c:Int,vs=[.int c]/\∀ (t:Addr) (r:R3) (H':Hp),r.ok->H t=none->H' t=some (r3V r)->Same H H'->Q (.ref t) H'
theorem ok'37 (T:Tx K mg A):cP P w K mg base CX0 3 A.XD A.zU ["_law_cell"] aiW:=by
 k_dat (T.F'37.ok,qJ) "a"
 ·obtain ⟨c,rfl,_⟩:=h
  rfl
 ·obtain ⟨c,rfl,q⟩:=h
  refine ⟨_,(aq (aX (i:=1) qJ.nd rfl (Or.inl rfl) (fX (ixG (dO hr)) (dY (aj aC (aj aC (aj aC (aj aC (aj aC (aj aC (aj aC aA)))))))) (aM dM (pv 0) aC) (fun _ _=>rfl)))
   (aq (aX (i:=2) qJ.nd rfl (Or.inl rfl) (aJ (ok'35 T) tb_g% rfl T.QZ T.F'35.kp T.b'35 .nil aQ (aj (aJ (ajJ T) tb_g% rfl T.aaZ T.F'33.kp T.b'33 .nil aQ (aj (pv 0) (aj aC (aj aC aA)))) aA)))
   (aq (aX (i:=3) qJ.nd rfl (Or.inl rfl) (aJ (ok'36 T) tb_g% rfl T.Ld T.F'36.kp T.b'36 .nil aQ (aj (aJ (ajJ T) tb_g% rfl T.aaZ T.F'33.kp T.b'33 .nil aQ (aj (pv 0) (aj aC (aj aC aA)))) aA)))
   (aF (cB (iY (aj (pv 1) (aj (pv 2) (aj (pv 3) aA))))))))),?_⟩
  refine ⟨(by show 7<=sizeLine;decide),fun p hp=>⟨_,rfl,_,_,rfl,rfl,(by show (0:Int)<7;decide),?_⟩⟩
  obtain ⟨kd,hkd,e⟩:=wQ (ns:=[0,0,0,0,1,1,2]) (i:=c % 7) tb_g% (by show c % 7<7;lia)
  have hkd:0<=kd/\kd<=2:=by
   simp only [bN,jK,or_false] at hkd
   lia
  refine qC (.inl (.inl ao)) (v:=.int kd) e ?_
  have s1:=Same.new (o:=.lst [.int 0,.int 0,.int 0,.int 0,.int 1,.int 1,.int 2]) hp
  generalize upd H p (.lst [.int 0,.int 0,.int 0,.int 0,.int 1,.int 1,.int 2])=H1 at s1 ⊢
  refine ⟨_,rfl,c,6364136223846793005,18446744073709551557,rfl,by decide,by decide,by decide,fun m _ _=>⟨m,rfl,fun th H2 t0 t1 s2=>?_⟩⟩
  refine ⟨_,rfl,c,69621,2147483629,rfl,by decide,by decide,by decide,fun m2 _ _=>⟨m2,rfl,fun w w1 w2=>?_⟩⟩
  exact ⟨_,rfl,_,rfl,_,rfl,by show 3<=sizeLine;decide,fun t ht=>q t ⟨kd,th,w⟩ _ ⟨hkd.1,hkd.2,t0,t1,w1,w2⟩ ((s1.trans s2).free ht) ao (s1.trans (s2.trans (Same.new ht)))⟩
noncomputable def aiX:Sp:=fun vs H Q _=>∃ c:Int,vs=[.int c]/\∀ (t:Addr) (room:Nat) (reach span:Int) (H':Hp),2<=room->room<=64->room % 2=0->(room<=15\/room=64)->(0<=reach/\reach<1152921504606846976)->(0<=span/\span<1152921504606846976)->H' t=some (.tup [.int room,.int reach,.int span])->Same H H'->Q (.ref t) H'
theorem rooms (h:v∈[2,4,2,6,8,64]):∃ r:Nat,v=r/\2<=r/\r<=64/\r % 2=0/\(r<=15\/r=64):=by
 simp only [bN,jK,or_false] at h
 exact ⟨v.toNat,by lia,by lia,by lia,by lia,by lia⟩
theorem ok'38 (T:Tx K mg A):cP P w K mg base CX0 1 A.XF A.ud ["_law_cell"] aiX:=by
 k_dat (T.F'38.ok,mD) "a"
 ·obtain ⟨c,rfl,_⟩:=h
  rfl
 ·obtain ⟨c,rfl,q⟩:=h
  refine ⟨_,(aq (aX (i:=1) mD.nd rfl (Or.inl rfl) (fX (ixG (dO hr)) (dY (aj aC (aj aC (aj aC (aj aC (aj aC (aj aC aA))))))) (aM dM (pv 0) aC) (fun _ _=>rfl)))
   (aq (aX (i:=2) mD.nd rfl (Or.inl rfl) (fX (ixG (dO hr)) (dY (aj aC (aj (aM cu aC (aM dM (aM iM (pv 0) aC) aC)) (aj (aM cu aC (aM dM (aM iM (pv 0) aC) aC)) aA)))) (aM dM (aM iM (pv 0) aC) aC) (fun _ _=>rfl)))
   (aq (aX (i:=3) mD.nd rfl (Or.inl rfl) (fX (ixG (dO hr)) (dY (aj (aM cu aC (aM dM (aM iM (pv 0) aC) aC)) (aj aC (aj aC aA)))) (aM dM (aM iM (pv 0) aC) aC) (fun _ _=>rfl)))
   (aF (cB (iY (aj (pv 1) (aj (pv 2) (aj (pv 3) aA))))))))),?_⟩
  refine ⟨(by show 6<=sizeLine;decide),fun p hp=>⟨_,rfl,_,_,rfl,rfl,(by show (0:Int)<6;decide),?_⟩⟩
  obtain ⟨rv,hrv,e⟩:=wQ (ns:=[2,4,2,6,8,64]) (i:=c % 6) tb_g% (by show c % 6<6;lia)
  obtain ⟨room,rfl,r2,r64,ev,rr⟩:=rooms hrv
  refine qC (.inl (.inl ao)) (v:=.int room) e ?_
  have s1:=Same.new (o:=.lst [.int 2,.int 4,.int 2,.int 6,.int 8,.int 64]) hp
  generalize upd H p (.lst [.int 2,.int 4,.int 2,.int 6,.int 8,.int 64])=H1 at s1 ⊢
  refine ⟨_,rfl,_,_,rfl,rfl,⟨by decide,by decide⟩,_,_,rfl,rfl,(by show (0:Int)<9;decide),_,_,rfl,rfl,_,rfl,_,_,rfl,rfl,⟨by decide,by decide⟩,_,_,rfl,rfl,(by show (0:Int)<1000000;decide),_,_,rfl,rfl,(by show 3<=sizeLine;decide),fun p2 hp2=>⟨_,rfl,_,_,rfl,rfl,⟨by decide,by decide⟩,_,_,rfl,rfl,(by show (0:Int)<3;decide),?_⟩⟩
  obtain ⟨reach,hre,e2⟩:=wQ (ns:=[1000000000,1+c / 6 % 9,1+c / 6 % 1000000]) (i:=c / 6 % 3) tb_g% (by show c / 6 % 3<3;lia)
  refine qC (.inl (.inl ao)) (v:=.int reach) e2 ?_
  have s2:=s1.trans (Same.new (o:=.lst [.int 1000000000,.int (1+c / 6 % 9),.int (1+c / 6 % 1000000)]) hp2)
  generalize upd H1 p2 (.lst [.int 1000000000,.int (1+c / 6 % 9),.int (1+c / 6 % 1000000)])=H2 at s2 ⊢
  refine ⟨_,rfl,_,_,rfl,rfl,⟨by decide,by decide⟩,_,_,rfl,rfl,(by show (0:Int)<9;decide),_,_,rfl,rfl,(by show 3<=sizeLine;decide),fun p3 hp3=>⟨_,rfl,_,_,rfl,rfl,⟨by decide,by decide⟩,_,_,rfl,rfl,(by show (0:Int)<3;decide),?_⟩⟩
  obtain ⟨span,hsp,e3⟩:=wQ (ns:=[1+c / 18 % 9,60,1000000000]) (i:=c / 18 % 3) tb_g% (by show c / 18 % 3<3;lia)
  refine qC (.inl (.inl ao)) (v:=.int span) e3 ?_
  have s3:=s2.trans (Same.new (o:=.lst [.int (1+c / 18 % 9),.int 60,.int 1000000000]) hp3)
  generalize upd H2 p3 (.lst [.int (1+c / 18 % 9),.int 60,.int 1000000000])=H3 at s3 ⊢
  simp only [bN,jK,or_false] at hre hsp
  exact ⟨_,rfl,_,rfl,_,rfl,by show 3<=sizeLine;decide,fun t ht=>q t room reach span _ r2 r64 ev rr tb_g% tb_g% ao (s3.trans (Same.new ht))⟩
/-- what a row does -/
noncomputable def SR (r:R3) (x x':KS):Prop:=if r.kd=0 then SP r.th r.w x x' else if r.kd=1 then ST r.th r.w x x' else SI r.w x x'
theorem SR.sb {r:R3} (h:SR r x x'):SB x x':=by
 unfold SR at h
 split at h
 ·exact h.sb
 ·split at h
  ·exact h.sb
  ·exact h.sb
theorem Kh.row {r:R3} (h:Kh x n) (hn:n<63) (ok:r.ok) (s:SR r x x'):Kh x' (n+1):=by
 unfold SR at s
 split at s
 ·exact h.put hn s ok.w1 ok.w2
 ·split at s
  ·exact h.take hn s ok.w1 ok.w2
  ·exact h.idle hn s
noncomputable def amm (A:Ad):Sp:=fun vs H Q _=>∃ (x:KS) (n:Nat) (t:Addr) (r:R3),vs=[.ref x.k,.ref t]/\Kp A H x/\Kh x n/\n<63/\H t=some (r3V r)/\r.ok /\
 ∀ (x':KS) (H':Hp),Kp A H' x'->SR r x x'->Far A x.pts H H'->Q .non H'
theorem ok'39 (T:Tx K mg A):cP P w K mg base CX0 8 A.XH A.JQ ["_law_keepsake","_law_row"] (amm A):=by
 k_dat (T.F'39.ok,acn) "a"
 ·obtain ⟨x,n,t,r,rfl,_⟩:=h
  rfl
 ·obtain ⟨x,n,t,r,rfl,hK,hG,hn,ht,ok,q⟩:=h
  unfold r3V at ht
  unfold SR at q
  refine ⟨_,(aF (fO (bB uH (fX (ixG (dO hr)) (pv 1) aC (fun _ _=>rfl)) aC (bR _)) (aF (bF (dG (pv 0) T.aW T.wF (ajH T) tb_g% T.b'29 .nil aQ (aj (fX (ixG (dO hr)) (pv 1) aC (fun _ _=>rfl)) (aj (fX (ixG (dO hr)) (pv 1) aC (fun _ _=>rfl)) aA))))) (aF (fO (bB uH (fX (ixG (dO hr)) (pv 1) aC (fun _ _=>rfl)) aC (bR _)) (aF (bF (dG (pv 0) T.aW T.uP (ajI T) tb_g% T.b'30 .nil aQ (aj (fX (ixG (dO hr)) (pv 1) aC (fun _ _=>rfl)) (aj (fX (ixG (dO hr)) (pv 1) aC (fun _ _=>rfl)) aA))))) (aF (bF (dG (pv 0) T.aW T.Fl (ok'31 T) tb_g% T.b'31 .nil aQ (aj (fX (ixG (dO hr)) (pv 1) aC (fun _ _=>rfl)) aA)))))))),?_⟩
  refine ⟨_,rfl,lH (.inl (.inl ht)) (v:=.int r.kd) rfl ⟨rfl,_,rfl,gP (fun h=>?_) (fun h=>?_)⟩⟩
  ·have h:r.kd=0:=V.int.inj (of_decide_eq_true h)
   simp only [if_pos h] at q
   exact ⟨_,rfl,x.k,x.dk,_,rfl,hK.o,kfN tb_g%,_,rfl,lH (.inl (.inl ht)) (v:=.int r.th) rfl ⟨_,rfl,lH (.inl (.inl ht)) (v:=.int r.w) rfl ⟨x,n,r.th,r.w,rfl,hK,hG,ok.t0,ok.t1,ok.w1,ok.w2,q⟩⟩⟩
  have h:¬ r.kd=0:=fun z=>h (decide_eq_true (congrArg V.int z))
  simp only [if_neg h] at q
  refine ⟨_,rfl,lH (.inl (.inl ht)) (v:=.int r.kd) rfl ⟨rfl,_,rfl,gP (fun h2=>?_) (fun h2=>?_)⟩⟩
  ·have h2:r.kd=1:=V.int.inj (of_decide_eq_true h2)
   simp only [if_pos h2] at q
   exact ⟨_,rfl,x.k,x.dk,_,rfl,hK.o,kfN tb_g%,_,rfl,lH (.inl (.inl ht)) (v:=.int r.th) rfl ⟨_,rfl,lH (.inl (.inl ht)) (v:=.int r.w) rfl ⟨x,n,r.th,r.w,rfl,hK,hG.kt,ok.t0,ok.t1,ok.w1,ok.w2,q⟩⟩⟩
  ·have h2:¬ r.kd=1:=fun z=>h2 (decide_eq_true (congrArg V.int z))
   simp only [if_neg h2] at q
   exact ⟨_,rfl,x.k,x.dk,_,rfl,hK.o,kfN tb_g%,_,rfl,lH (.inl (.inl ht)) (v:=.int r.w) rfl ⟨x,n,r.w,rfl,hK,hG,q⟩⟩
inductive Tr where
 | f (v:V)
 | l (ts:List Tr)
 | t (ts:List Tr)
variable {ts:List Tr} {t:Tr}
inductive Is (H:Hp) (P:Addr->Prop):Nat->V->Tr->Prop where
 | flat {n:Nat} {v:V} (h:uI v=true):Is H P n v (.f v)
 | lst {n:Nat} {a:Addr} {xs:List V} {ts:List Tr} (pa:P a) (ha:H a=some (.lst xs)) (hl:xs.length=ts.length) (h:∀ (i:Nat) (x:V) (t:Tr),xs[i]? = some x->ts[i]? = some t->Is H P n x t):Is H P (n+1) (.ref a) (.l ts)
 | tup {n:Nat} {a:Addr} {xs:List V} {ts:List Tr} (ha:H a=some (.tup xs)) (hl:xs.length=ts.length) (h:∀ (i:Nat) (x:V) (t:Tr),xs[i]? = some x->ts[i]? = some t->Is H P n x t):Is H P (n+1) (.ref a) (.t ts)
theorem Is.keep {H H':Hp} {P P':Addr->Prop} (k1:∀ b xs,P b->H b=some (.lst xs)->H' b=some (.lst xs)) (k2:∀ b xs,H b=some (.tup xs)->H' b=some (.tup xs)) (kp:∀ b,P b->P' b) {n:Nat} {v:V} {t:Tr} (h:Is H P n v t):Is H' P' n v t:=by
 induction h with
 | flat h=>exact .flat h
 | lst pa ha hl _ ih=>exact .lst (kp _ pa) (k1 _ _ pa ha) hl ih
 | tup ha hl _ ih=>exact .tup (k2 _ _ ha) hl ih
theorem Is.Jx {P:Addr->Prop} {v:V} (h:Is H P n v t) (k1:∀ b xs,P b->H b=some (.lst xs)->H' b=some (.lst xs)/\P' b) (k2:∀ b xs,H b=some (.tup xs)->H' b=some (.tup xs)):Is H' P' n v t:=by
 induction h with
 | flat h=>exact .flat h
 | lst pa ha hl _ ih=>exact .lst (k1 _ _ pa ha).2 (k1 _ _ pa ha).1 hl ih
 | tup ha hl _ ih=>exact .tup (k2 _ _ ha) hl ih
theorem Is.same {P:Addr->Prop} (s:Same H H') {v:V} (h:Is H P n v t):Is H' P n v t:=h.keep (fun _ _ _=>s _ _) (fun _ _=>s _ _) fun _ p=>p
/-- a list that is not in it may change -/
theorem Is.upd {P:Addr->Prop} {zs ys:List V} (hL:H L=some (.lst zs)) (n1:¬ P L) {v:V} (h:Is H P n v t):Is (L2.upd H L (.lst ys)) P n v t :=
 h.keep (fun b xs p e=>by rw [au (fun z=>n1 (by rw [<- z];exact p))];exact e) (fun b xs e=>by rw [au (jq e hL (by intro z;cases z))];exact e) fun _ p=>p
theorem Is.alike {K:aZ} {P:Addr->Prop} {u:V} (h:Is H P n u t):∀ {v:V},Is H P' n v t->Alike K H n u v:=by
 induction h with
 | flat h=>intro v g;cases g with | flat _=>exact .flat h
 | @lst n a xs ts _ ha hl _ ih =>
  intro v g
  cases g with
  | @lst _ b ys _ _ hb gl gh =>
   exact .lst (.inl (.inl ha)) (.inl (.inl hb)) (hl.trans gl.symm) fun i x y e1 e2=>by
    have li:i<ts.length:=by rw [<- hl];exact (jB.mp e1).1
    exact ih i x _ e1 (fY li) (gh i y _ e2 (fY li))
 | @tup n a xs ts ha hl _ ih =>
  intro v g
  cases g with
  | @tup _ b ys _ hb gl gh =>
   exact .tup (.inl (.inl ha)) (.inl (.inl hb)) (hl.trans gl.symm) fun i x y e1 e2=>by
    have li:i<ts.length:=by rw [<- hl];exact (jB.mp e1).1
    exact ih i x _ e1 (fY li) (gh i y _ e2 (fY li))
inductive IsL (H:Hp) (P:Addr->Prop) (n:Nat):List V->List Tr->Prop where
 | nil:IsL H P n [] []
 | cons {v:V} {t:Tr} {vs:List V} {ts:List Tr} (h:Is H P n v t) (r:IsL H P n vs ts):IsL H P n (v::vs) (t::ts)
theorem IsL.at {P:Addr->Prop} (h:IsL H P n vs ts):vs.length=ts.length/\∀ (i:Nat) (x:V) (t:Tr),vs[i]? = some x->ts[i]? = some t->Is H P n x t:=by
 induction h with
 | nil=>exact ⟨rfl,fun i x t e=>by cases i <;> cases e⟩
 | cons h _ ih =>
  refine ⟨congrArg (· + 1) ih.1,fun i x t e1 e2=>?_⟩
  cases i with
  | zero=>cases e1;cases e2;exact h
  | succ i=>exact ih.2 i x t e1 e2
theorem IsL.imp {P:Addr->Prop} (f:∀ v t,Is H P n v t->Is H' P' n v t) (h:IsL H P n vs ts):IsL H' P' n vs ts:=by
 induction h with
 | nil=>exact .nil
 | cons h _ ih=>exact .cons (f _ _ h) ih
theorem IsL.snoc {P:Addr->Prop} {v:V} (h:IsL H P n vs ts) (g:Is H P n v t):IsL H P n (vs++[v]) (ts++[t]):=by
 induction h with
 | nil=>exact .cons g .nil
 | cons h _ ih=>exact .cons h ih
theorem Is.ofL {P:Addr->Prop} {a:Addr} (pa:P a) (ha:H a=some (.lst xs)) (h:IsL H P n xs ts):Is H P (n+1) (.ref a) (.l ts):=.lst pa ha h.at.1 h.at.2
theorem Is.ofT {P:Addr->Prop} {a:Addr} (ha:H a=some (.tup xs)) (h:IsL H P n xs ts):Is H P (n+1) (.ref a) (.t ts):=.tup ha h.at.1 h.at.2
theorem IsL.map {P:Addr->Prop} {f:α->V} {g:α->Tr}:∀ {xs:List α},(∀ x∈xs,Is H P n (f x) (g x))->IsL H P n (xs.map f) (xs.map g)
 | [],_=>.nil
 | x::r,h=>.cons (h x (cX ..)) (IsL.map fun y m=>h y (gF _ m))
noncomputable abbrev iT (i:Int):Tr:=.f (.int i)
theorem jj {P:Addr->Prop} (i:Int):Is H P n (.int i) (iT i):=.flat rfl
theorem Cm {P:Addr->Prop} {a:Addr} (pa:P a) (h:H a=some (.lst (ns.map V.int))):Is H P (n+1) (.ref a) (.l (ns.map iT)):=.ofL pa h (.map fun i _=>jj i)
/-- a list that grows: what is in it was not there before -/
structure Gw (H G:Hp) (L:Addr) (n:Nat) (xs:List V) (ts:List Tr):Prop where
 s:Same H G
 fL:H L=none
 gL:G L=some (.lst xs)
 is:IsL G (fun a=>H a=none/\a≠L) n xs ts
theorem Gw.same (h:Gw H G L n xs ts) (s:Same G G'):Gw H G' L n xs ts:=⟨h.s.trans s,h.fL,s _ _ h.gL,h.is.imp fun _ _ q=>q.same s⟩
theorem Gw.push {v:V} (h:Gw H G L n xs ts) (s:Same G G') (g:Is G' (fun a=>G a=none) n v t):Gw H (L2.upd G' L (.lst (xs++[v]))) L n (xs++[v]) (ts++[t]):=by
 have gL:=s _ _ h.gL
 have g2:Is G' (fun a=>H a=none/\a≠L) n v t:=g.keep (fun _ _ _ e=>e) (fun _ _ e=>e) fun b p=>⟨h.s.free p,aL (ak h.gL p)⟩
 exact ⟨fun b o e=>by rw [au (ak e h.fL)];exact s _ _ (h.s b o e),h.fL,ao,((h.is.imp fun _ _ q=>q.same s).snoc g2).imp fun _ _ q=>q.upd gL fun z=>z.2 rfl⟩
theorem Gw.done (h:Gw H G L n xs ts):Is G (fun a=>H a=none) (n+1) (.ref L) (.l ts):=.ofL h.fL h.gL (h.is.imp fun _ _ q=>q.keep (fun _ _ _ e=>e) (fun _ _ e=>e) fun _ p=>p.1)
open MK
theorem aiY:∀ {c:Tab},(keys c).Nodup->∀ a∈c,∀ b∈c,a.1=b.1->a=b:=fun {c} nd a ma b mb e=>by
 have h1:=vQ nd ma
 have h2:=vQ nd mb
 rw [e,h2] at h1
 exact mX e (cI h1).symm
theorem ajK {le:α->α->Prop}:∀ {xs ys:List α},(∀ a∈xs,∀ b∈xs,le a b->le b a->a=b)->xs.Perm ys->xs.Pairwise le->ys.Pairwise le->xs=ys
 | [],ys,_,p,_,_=>by rw [VD.mp p]
 | x::xs,[],_,p,_,_=>absurd p (by simp)
 | x::xs,y::ys,an,p,h1,h2=>by
  have a1:=iH.mp h1
  have a2:=iH.mp h2
  have m1:x∈y::ys:=p.mem_iff.mp cX
  have m2:y∈x::xs:=p.mem_iff.mpr cX
  have e:x=y:=by
   rcases bN.mp m1 with z | z
   ·exact z
   ·rcases bN.mp m2 with z' | z'
    ·exact z'.symm
    ·exact an x cX y m2 (a1.1 y z') (a2.1 x z)
  subst e
  rw [ajK (fun a ma b mb=>an a (gF _ ma) b (gF _ mb)) (WT p) a1.2 a2.2]
/-- the pairs by rising keys -/
noncomputable def srtP (c:Tab):Tab:=c.mergeSort fun a b=>decide (a.1<=b.1)
theorem aiZ {L:Tab} {M:Int} (nd:(keys c).Nodup) (p:L.Perm c) (hv:∀ q∈c,0<=q.2/\q.2<M) (h:L.Pairwise fun a b=>a.1*M+a.2<=b.1*M+b.2):L=srtP c:=by
 have h1:L.Pairwise fun a b:Int × Int=>a.1<=b.1:=akZ (fun {a b} ma mb hab=>by
  have va:=hv a (p.mem_iff.mp ma)
  have vb:=hv b (p.mem_iff.mp mb)
  refine Int.le_of_not_gt fun g=>?_
  have:(b.1+1)*M<=a.1*M:=Ah tb_g% tb_g%
  rw [Dm] at this
  lia) h
 have h2:(srtP c).Pairwise fun a b:Int × Int=>a.1<=b.1:=by
  have:=Vj (le:=fun a b:Int × Int=>decide (a.1<=b.1)) (fun a b c h1 h2=>by simp only [decide_eq_true_eq] at *; lia) (fun a b=>by simp only [Wu,decide_eq_true_eq];lia) c
  exact this.imp fun h=>of_decide_eq_true h
 exact ajK (le:=fun a b:Int × Int=>a.1<=b.1) (fun a ma b mb e1 e2=>aiY nd a (p.mem_iff.mp ma) b (p.mem_iff.mp mb) tb_g%) (p.trans (Vp _ _).symm) h1 h2
noncomputable def mxV:Tab->Int
 | []=>0
 | p::r=>max p.2 (mxV r)
theorem ahq:∀ {c:Tab} {p:Int × Int},p∈c->p.2<=mxV c
 | x::r,p,m=>by
  rcases bN.mp m with rfl | m
  ·exact Int.le_max_left _ _
  ·exact lQ (ahq m) (Int.le_max_right _ _)
noncomputable def pT (p:Int × Int):Tr:=.t [iT p.1,iT p.2]
noncomputable def oT (o:Option Int):Tr:=.f (oV o)
theorem is_o {P:Addr->Prop} (o:Option Int):Is H P n (oV o) (oT o):=.flat (by cases o <;> rfl)
noncomputable def Cp (room:Nat) (f:Fq):Tr:=.t [iT room,iT f.t,iT f.l,.l ((srtP f.c).map pT)]
noncomputable def Nh (f:Rs):Tr:=.t [iT f.r,iT f.tt,iT f.ov,iT f.un,iT f.tn,oT f.mi,oT f.ma,.l (f.ls.map fun l=>.l (l.map iT))]
noncomputable def bT (b:WN.Box):Tr:=.t [iT b.f,iT b.l,iT b.s]
noncomputable def Ni (room:Nat) (reach:Int) (f:Wi):Tr:=.t [iT room,iT reach,iT f.c,.l ((bx f.ps).map bT)]
noncomputable def wK (room:Nat) (f:Di):Tr:=.t [iT room,iT f.n,iT f.v,.l ((srt (My.up f.v f.C)).map iT)]
noncomputable def ahr (span:Int) (q:Q4):Tr:=.t [iT span,.l ((L4 q).map iT)]
noncomputable def jT (x:KS):Tr:=.l [iT x.room,iT x.reach,iT x.span,Cp x.room x.cm,Cp x.room x.wn,Nh x.up.x,Nh x.dn.x,Ni x.room x.reach x.wi,wK x.room x.di,ahr x.span x.ba.q]
theorem ER.tree {f:Rs} (e:ER f g):Nh f=Nh g:=by unfold Nh;rw [e.r,e.tt,e.ov,e.un,e.tn,e.mi,e.ma,e.ls]
theorem EF.tree {f g:Fq} (e:EF f g):Cp room f=Cp room g:=by unfold Cp;rw [e.t,e.l,e.c]
theorem Eqp.tree (e:Eqp x y):jT x=jT y:=by
 unfold jT Ni wK
 rw [e.room,e.reach,e.span,e.cm.tree,e.wn.tree,e.up.tree,e.dn.tree,e.wi.c,e.wi.b,e.di.n,e.di.v,e.di.C,e.ba]
noncomputable def amn (A:Ad):Sp:=fun vs H Q _=>∃ (f:Fq) (room:Nat),vs=[.ref f.p]/\wJ A H room f/\(keys f.c).Nodup/\(∀ p∈f.c,1<=p.2)/\f.c.length<=63/\∀ (t:Addr) (H':Hp),Same H H'->Is H' (fun a=>H a=none) 3 (.ref t) (Cp room f)->Q (.ref t) H'
theorem aa7 (T:Tx K mg A):cP P w K mg base CX0 1 A.XJ A.uf ["_law_one"] (amn A):=by
 k_dat (T.agZ.ok,Lh) "a"
 ·obtain ⟨f,room,rfl,_⟩:=h
  rfl
 ·obtain ⟨f,room,rfl,hF,nd,ps,ln,q⟩:=h
  refine ⟨_,(aF (cB (iY (aj (aB (pv 0) rfl) (aj (aB (pv 0) rfl) (aj (aB (pv 0) rfl) (aj (cA S7 (by rfl) T.pG Dj (aj (aaJ (cl:=[("_law_one",s.heap.objs.size+1)]) (N:=["_law_thing","_law_one"]) (caps:=[0]) (tt:=_) (te:=(tTup (Ew _ (Ew (tOp (KZ K) (afF K _ "counts") _) aby)))) rfl (by with_unfolding_all rfl) tb_g% rfl tb_g% ⟨rfl,trivial⟩ (vR (by with_unfolding_all rfl)) tb_g% rfl rfl rfl (gM.at (k:=1) (show gM _ _ _ _ 1 [0] from ⟨⟨"_law_one",_,rfl,rfl,.inl rfl,.inl rfl,rfl⟩,trivial⟩)) (tG (fJ (gA rfl) (by rfl) T.pF xP (aj (aB (pv 0) rfl) aA))) (fun _ _ _ _=>Gb) (fun _ _ _ _=>(iY (aj (pv 0) (aj (fX (ixG (by exact dO hr)) (aB (pv 1) rfl) (pv 0) (fun _ _=>rfl)) aA))))) aA)) aA))))))),?_⟩
  refine ⟨_,rfl,rdF hF.o T.fu T.yc (uy ..) ⟨_,rfl,rdF hF.o T.fu T.BP (Ck ..) ⟨_,rfl,rdF hF.o T.fu T.BR (Gp ..) ?_⟩⟩⟩
  refine ⟨_,rfl,rdF hF.o T.fu T.BW (sH ..) (.inr ⟨f.d,_,rfl,.inl hF.d,fun p hp=>?_⟩)⟩
  rw [af2]
  have s1:=Same.new (o:=.lst ((keys f.c).map V.int)) hp
  have f1:(upd H p (.lst ((keys f.c).map V.int))) p=some (.lst ((keys f.c).map V.int)):=ao
  generalize upd H p (.lst ((keys f.c).map V.int))=H1 at s1 f1 ⊢
  refine ⟨p,rfl,⟨_,.inl (.inl f1)⟩,fun D hD=>?_⟩
  have kl:(keys f.c).length=f.c.length:=bG _
  refine DN (K:=K) (a:=p) (xs:=(keys f.c).map V.int) (fun i ys G=>∃ zs:List (Addr × (Int × Int)),ys=zs.map (fun z=>V.ref z.1)/\zs.map (·.2)=f.c.take i/\G D=some (.lst ys)/\(∀ z∈zs,G z.1=some (.tup [.int z.2.1,.int z.2.2]))/\Same H1 G) ⟨[],rfl,rfl,ao,fun _ h=>(nomatch h),Same.new hD⟩ ?_ ?_ ?_ ?_
  ·rintro i ys G hi ⟨zs,rfl,ez,gD,gt,sG⟩
   refine ⟨.inl (.inl (sG _ _ f1)),gD,aV ?_⟩
   have:=congrArg nF ez
   rw [bG,gU] at this
   rw [bG];lia
  ·rintro i ys G x hx ⟨zs,rfl,ez,gD,gt,sG⟩
   obtain ⟨k,hk,rfl⟩:=int_at hx
   obtain ⟨z,hz,rfl⟩:∃ z,f.c[i]? = some z/\z.1=k:=by
    unfold keys at hk
    rw [iR] at hk
    cases e:f.c[i]? with
    | none=>rw [e] at hk;cases hk
    | some z=>rw [e] at hk;exact ⟨z,rfl,cI hk⟩
   have hG:=hF.same (s1.trans sG)
   refine ⟨_,rfl,_,rfl,rdF hG.o T.fu T.BW (sH ..) ⟨_,rfl,rdIxD (.inl hG.d) (af4 (vQ nd (List.mem_of_getElem? hz))) ⟨by show 2<=sizeLine;decide,fun t ht=>?_⟩⟩⟩
   have nt:D≠t:=ak gD ht
   refine ⟨by rw [au nt];exact gD,zs++[(t,z)],by rw [eG];rfl,?_,ao,fun y m=>?_,fun b o e=>?_⟩
   ·rw [eG,ez,xO,hz];rfl
   ·rcases d9.mp m with m | m
    ·have h1:=gt y m
     rw [au (jq h1 gD (by intro z;cases z)),au (ak h1 ht)];exact h1
    ·rw [eZ.mp m,au (aL nt),ao]
   ·rw [au (ak e hD),au (ak (sG b o e) ht)];exact sG b o e
  ·rintro ys G ⟨zs,rfl,ez,gD,gt,sG⟩
   rw [bG,kl,vA] at ez
   have zin:∀ z∈zs,z.2∈f.c:=fun z m=>by rw [<- ez];exact List.mem_map_of_mem m
   refine ⟨D,zs,mxV f.c+1,rfl,gD,by have:=congrArg nF ez;rw [bG] at this;lia,fun z m=>⟨gt z m,by have:=ps _ (zin z m);lia,by have:=ahq (zin z m);lia⟩,fun l zs' hl pm so=>⟨by show 4<=sizeLine;decide,fun t ht=>?_⟩⟩
   have e2:zs'.map (·.2)=srtP f.c:=aiZ (M:=mxV f.c+1) nd (by rw [<- ez];exact pm.map _) (fun w m=>⟨by have:=ps _ m;lia,by have:=ahq m;lia⟩) (Hq.mpr so)
   have sl:=Same.new (o:=.lst (zs'.map fun z=>V.ref z.1)) hl
   have st:Same G (upd (upd G l (.lst (zs'.map fun z=>V.ref z.1))) t (.tup [.int room,.int f.t,.int f.l,.ref l])):=sl.trans (Same.new ht)
   refine q t _ (s1.trans (sG.trans st)) (.ofT ao (.cons (jj _) (.cons (jj _) (.cons (jj _) (.cons (.ofL (xs:=zs'.map fun z=>V.ref z.1) ((s1.trans sG).free hl) ?_ ?_) .nil)))))
   ·rw [au (ak ao ht)];exact ao
   ·rw [<- e2,pO]
    exact .map fun z m=>.ofT (st _ _ (gt z (pm.mem_iff.mp m))) (.cons (jj _) (.cons (jj _) .nil))
  ·exact Tw (jP (cO 0) (jP (Bu (Bv (cO 1)) (cO 0)) vZ))
noncomputable def ai0 (A:Ad):Sp:=fun vs H Q _=>∃ (p:Addr) (f:Rs),vs=[.ref p]/\RnX A H p f/\f.ls.length<=400/\∀ (t:Addr) (H':Hp),Same H H'->Is H' (fun a=>H a=none) 3 (.ref t) (Nh f)->Q (.ref t) H'
theorem aa8 (T:Tx K mg A):cP P w K mg base CX0 1 A.XM A.Eb ["_law_one"] (ai0 A):=by
 k_dat (T.ag0.ok,Kr) "a"
 ·obtain ⟨p,f,rfl,_⟩:=h
  rfl
 ·obtain ⟨p,f,rfl,hF,ln,q⟩:=h
  refine ⟨_,(aq (oR (i:=1) (cl:=[]) (N:=["_law_things"]) (caps:=[]) (tt:=_) (te:=(tCB (afO K) (Ew _ aby))) Kr.nd rfl (Or.inl rfl) rfl (by with_unfolding_all rfl) tb_g% rfl tb_g% trivial (vR (by with_unfolding_all rfl)) tb_g% rfl rfl rfl (gM.at (k:=1) (show gM _ _ _ _ 1 [] from trivial)) (tG (aB (pv 0) rfl)) (fun _ _ _ _=>Gb) (fun _ _ _ _=>(fJ (gA rfl) (by rfl) T.pF xP (aj (pv 0) aA))))
   (aF (cB (iY (aj (aB (pv 0) rfl) (aj (aB (pv 0) rfl) (aj (aB (pv 0) rfl) (aj (aB (pv 0) rfl) (aj (aB (pv 0) rfl) (aj (aB (pv 0) rfl) (aj (aB (pv 0) rfl) (aj (pv 1) aA)))))))))))),?_⟩
  refine ⟨_,rfl,rdF hF.o T.bO T.xW (sy ..) ⟨f.a,rfl,⟨_,.inl (.inl hF.l.o)⟩,fun D hD=>?_⟩⟩
  refine DN (K:=K) (a:=f.a) (xs:=f.bs.map V.ref) (fun i ys G=>∃ zs:List Addr,ys=zs.map V.ref/\zs.length=i/\(∀ (j:Nat) (b:Addr) (l:List Int),zs[j]? = some b->f.ls[j]? = some l->G b=some (.lst (l.map V.int))/\b≠D/\H b=none)/\G D=some (.lst ys)/\Same H G) ⟨[],rfl,rfl,fun j b l e=>by (cases j <;> cases e),ao,Same.new hD⟩ ?_ ?_ ?_ ?_
  ·rintro i ys G hi ⟨zs,rfl,lz,gz,gD,sG⟩
   refine ⟨.inl (.inl (sG _ _ hF.l.o)),gD,aV ?_⟩
   rw [bG] at hi ⊢
   have:=hF.l.n
   lia
  ·rintro i ys G x hx ⟨zs,rfl,lz,gz,gD,sG⟩
   rw [iR] at hx
   cases eb:f.bs[i]? with
   | none=>rw [eb] at hx;cases hx
   | some b =>
    rw [eb] at hx
    obtain rfl:=cI hx
    have li:i<f.ls.length:=by rw [<- hF.l.n];exact (jB.mp eb).1
    have el:=fY li
    have hb:=hF.l.e i b _ eb el
    refine ⟨_,rfl,.inl ⟨b,_,rfl,.inl (.inl (.inl (sG _ _ hb))),fun t ht=>?_⟩⟩
    have nt:D≠t:=ak gD ht
    refine ⟨by rw [au nt];exact gD,zs++[t],by rw [eG];rfl,by rw [dH,lz];rfl,fun j c l e1 e2=>?_,ao,fun c o e=>?_⟩
    ·rcases jk j zs.length with lj | lj
     ·rw [Eo lj] at e1
      obtain ⟨g1,g2,g3⟩:=gz j c l e1 e2
      exact ⟨by rw [au g2,au (ak g1 ht)];exact g1,g2,g3⟩
     ·rw [xK lj] at e1
      obtain ⟨j0,rfl⟩:∃ h:j-zs.length=0,c=t:=by
       cases hj:j-zs.length with
       | zero=>rw [hj] at e1;exact ⟨rfl,(cI e1).symm⟩
       | succ m=>rw [hj] at e1;cases e1
      obtain rfl:j=i:=by lia
      rw [el] at e2
      obtain rfl:=cI e2
      exact ⟨by rw [au (aL nt)];exact ao,aL nt,sG.free ht⟩
    ·rw [au (ak e hD),au (ak (sG c o e) ht)];exact sG c o e
  ·rintro ys G ⟨zs,rfl,lz,gz,gD,sG⟩
   have hG:=hF.same sG
   rw [bG,hF.l.n] at lz
   refine ⟨_,rfl,rdF hG.o T.bO T.xV (uq ..) ⟨_,rfl,rdF hG.o T.bO T.Bw (BZ ..) ⟨_,rfl,rdF hG.o T.bO T.Bx (Gm ..) ⟨_,rfl,rdF hG.o T.bO T.BJ (Ca ..) ⟨_,rfl,rdF hG.o T.bO T.qG (mQ ..) ⟨_,rfl,rdF hG.o T.bO T.BK (Cd ..) ⟨_,rfl,rdF hG.o T.bO T.BL (Gn ..) ⟨_,rfl,by show 8<=sizeLine;decide,fun t ht=>?_⟩⟩⟩⟩⟩⟩⟩⟩
   have st:=Same.new (o:=.tup [.int f.r,.int f.tt,.int f.ov,.int f.un,.int f.tn,oV f.mi,oV f.ma,.ref D]) ht
   refine q t _ (sG.trans st) (.ofT ao (.cons (jj _) (.cons (jj _) (.cons (jj _) (.cons (jj _) (.cons (jj _) (.cons (is_o _) (.cons (is_o _) (.cons (.lst hD (st _ _ gD) ?_ ?_) .nil)))))))))
   ·rw [bG,bG,lz]
   ·intro i x tr e1 e2
    rw [iR] at e1 e2
    cases ez:zs[i]? with
    | none=>rw [ez] at e1;cases e1
    | some b =>
     cases el:f.ls[i]? with
     | none=>rw [el] at e2;cases e2
     | some l =>
      rw [ez] at e1
      rw [el] at e2
      obtain rfl:=cI e1
      obtain rfl:=cI e2
      exact Cm (gz i b l ez el).2.2 (st _ _ (gz i b l ez el).1)
  ·exact aaY (fun vs H Q Q' hq h=>by
    rcases h with ⟨p,ys,e,s,k⟩ | ⟨a,kvs,e,r,k⟩
    ·exact .inl ⟨p,ys,e,s,fun l hl=>hq _ _ (k l hl)⟩
    ·exact .inr ⟨a,kvs,e,r,fun l hl=>hq _ _ (k l hl)⟩) (jP (cO 0) vZ)
/-- the window's part of what is told,the seen things',the sums' -/
theorem Uj {q:Addr} {P:Addr->Prop} (pq:P q) (hb:Bxs G l ps) (hq:G q=some (.lst (ps.map fun p=>V.ref p.1))):Is G P (n+2) (.ref q) (.l ((bx ps).map bT)):=by
 refine .ofL pq hq ?_
 unfold bx
 rw [pO]
 exact .map fun p m=>.ofT (hb.t p m) (.cons (jj _) (.cons (jj _) (.cons (jj _) .nil)))
open MK
noncomputable def ai1 (A:Ad):Sp:=fun vs H Q _=>∃ (x:KS) (n:Nat),vs=[.ref x.k]/\Kp A H x/\Kh x n/\∀ (v:Addr) (H':Hp),Same H H'->Is H' (fun a=>H a=none) 4 (.ref v) (jT x)->Q (.ref v) H'
theorem uV (T:Tx K mg A):cP P w K mg base CX0 2 A.XQ A.Ec ["_law_keepsake"] (ai1 A):=by
 k_dat (T.Eh.ok,uo) "a"
 ·obtain ⟨x,n,rfl,_⟩:=h
  rfl
 ·obtain ⟨x,n,rfl,hK,hG,q⟩:=h
  obtain ⟨W1,ok1⟩:=hG.cm.ok
  obtain ⟨W2,ok2⟩:=hG.wn.ok
  have r64:=hG.r64
  have lu:=gq hG.up.g hG.up.t hG.few
  have ld:=gq hG.dn.g hG.dn.t hG.few
  have hP:=hK.pp
  refine ⟨_,(aq (aX (i:=1) uo.nd rfl (Or.inl rfl) (aB (pv 0) rfl))
   (aq (aX (i:=2) uo.nd rfl (Or.inl rfl) (aB (pv 0) rfl))
   (aq (aX (i:=3) uo.nd rfl (Or.inl rfl) (dY (aj (aB (pv 0) rfl) (aj (aB (pv 0) rfl) (aj (aB (pv 0) rfl) (aj (aJ (aa7 T) tb_g% rfl T.nQ T.agZ.kp T.b'40 .nil aQ (aj (aB (pv 0) rfl) aA)) (aj (aJ (aa7 T) tb_g% rfl T.nQ T.agZ.kp T.b'40 .nil aQ (aj (aB (pv 0) rfl) aA)) aA)))))))
   (aq (bF (kE j7 jY jZ cM (pv 3) (aj (aJ (aa8 T) tb_g% rfl T.wR T.ag0.kp T.b'41 .nil aQ (aj (aB (pv 0) rfl) aA)) aA)))
   (aq (bF (kE j7 jY jZ cM (pv 3) (aj (aJ (aa8 T) tb_g% rfl T.wR T.ag0.kp T.b'41 .nil aQ (aj (aB (pv 0) rfl) aA)) aA)))
   (aq (bF (kE j7 jY jZ cM (pv 3) (aj (iY (aj (aB (pv 1) rfl) (aj (aB (pv 1) rfl) (aj (aB (pv 1) rfl) (aj (fJ (gA rfl) (by rfl) T.pF xP (aj (aB (pv 1) rfl) aA)) aA))))) aA)))
   (aq (bF (kE j7 jY jZ cM (pv 3) (aj (iY (aj (aB (pv 2) rfl) (aj (aB (pv 2) rfl) (aj (aB (pv 2) rfl) (aj (fJ (gA rfl) (by rfl) T.pF xP (aj (aB (pv 2) rfl) aA)) aA))))) aA)))
   (aq (bF (kE j7 jY jZ cM (pv 3) (aj (iY (aj (aB (aB (pv 0) rfl) rfl) (aj (fJ (gA rfl) (by rfl) T.pF xP (aj (aB (aB (pv 0) rfl) rfl) aA)) aA))) aA)))
   (aF (cB (pv 3))))))))))),?_⟩
  refine ⟨_,rfl,rdF hK.o T.aW T.uN (jR ..) ⟨_,rfl,rdF hK.o T.aW T.yu (xg ..) ?_⟩⟩
  refine ⟨_,rfl,rdF hK.o T.aW T.yg (uD ..) ⟨_,rfl,rdF hK.o T.aW T.yh (pJ ..) ⟨_,rfl,rdF hK.o T.aW T.uM (nW ..) ?_⟩⟩⟩
  refine ⟨_,rfl,rdF hK.o T.aW T.yj (wX ..) ⟨x.cm,x.room,rfl,hP.cm,ok1.nd,ok1.pos,by have:=hG.cm.k;have:=hG.few;lia,fun t1 H1 s1 i1=>?_⟩⟩
  refine ⟨_,rfl,rdF (s1 _ _ hK.o) T.aW T.yp (wY ..) ⟨x.wn,x.room,rfl,hP.wn.same s1,ok2.nd,ok2.pos,by have:=hG.wn.k;have:=hG.few;lia,fun t2 H2 s2 i2=>⟨by show 5<=sizeLine;decide,fun L hL=>?_⟩⟩⟩
  have s12:=s1.trans s2
  have WL:Gw H (upd H2 L (.lst [.int x.room,.int x.reach,.int x.span,.ref t1,.ref t2])) L 3 [.int x.room,.int x.reach,.int x.span,.ref t1,.ref t2] [iT x.room,iT x.reach,iT x.span,Cp x.room x.cm,Cp x.room x.wn]:=by
   have sL:=Same.new (o:=.lst [.int x.room,.int x.reach,.int x.span,.ref t1,.ref t2]) hL
   have fl:∀ a,H1 a=none->H a=none:=fun a e=>s1.free e
   have nl:∀ {a:Addr} {xs:List V},H2 a=some (.lst xs)->a≠L:=fun e=>ak e hL
   refine ⟨s12.trans sL,s12.free hL,ao,.cons (jj _) (.cons (jj _) (.cons (jj _) (.cons ?_ (.cons ?_ .nil))))⟩
   ·exact (i1.same s2).Jx (fun b xs p e=>⟨sL _ _ e,p,nl e⟩) fun b xs e=>sL _ _ e
   ·exact i2.Jx (fun b xs p e=>⟨sL _ _ e,fl _ p,nl e⟩) fun b xs e=>sL _ _ e
  generalize upd H2 L (.lst [.int x.room,.int x.reach,.int x.span,.ref t1,.ref t2])=G0 at WL ⊢
  have P0:=hP.same WL.s
  refine ⟨_,rfl,.inl ⟨rfl,_,.inl (.inl WL.gL)⟩,_,rfl,rdF (WL.s _ _ hK.o) T.aW T.yq (Ng ..) ⟨x.up.p,x.up.x,rfl,P0.up,by lia,fun t4 G4 s4 i4=>?_⟩⟩
  refine ⟨L,_,_,rfl,rfl,s4 _ _ WL.gL,aV (by simp),?_⟩
  have W5:=WL.push s4 i4
  generalize upd G4 L _=G5 at W5 ⊢
  have P5:=hP.same W5.s
  refine ⟨_,rfl,.inl ⟨rfl,_,.inl (.inl W5.gL)⟩,_,rfl,rdF (W5.s _ _ hK.o) T.aW T.yt (wZ ..) ⟨x.dn.p,x.dn.x,rfl,P5.dn,by lia,fun t6 G6 s6 i6=>?_⟩⟩
  refine ⟨L,_,_,rfl,rfl,s6 _ _ W5.gL,aV (by simp),?_⟩
  have W7:=W5.push s6 i6
  generalize upd G6 L _=G7 at W7 ⊢
  have P7:=hP.same W7.s
  k_dat W7.gL "k"
  refine ⟨_,rfl,rdF P7.wi.o T.cU T.wg (qM ..) ⟨_,rfl,rdF P7.wi.o T.cU T.wu (mR ..) ⟨_,rfl,rdF P7.wi.o T.cU T.mL (je ..) ⟨_,rfl,rdF P7.wi.o T.cU T.xX (sE ..) (.inl ⟨_,_,rfl,.inl (.inl (.inl P7.wi.b.l)),fun q1 hq1=>⟨by show 4<=sizeLine;decide,fun t1 ht1=>?_⟩⟩)⟩⟩⟩⟩
  have sq1:=(Same.new (o:=.lst (x.wi.ps.map fun p=>V.ref p.1)) hq1).trans (Same.new (o:=.tup [.int x.room,.int x.reach,.int x.wi.c,.ref q1]) ht1)
  have gq1:(upd (upd G7 q1 (.lst (x.wi.ps.map fun p=>V.ref p.1))) t1 (.tup [.int x.room,.int x.reach,.int x.wi.c,.ref q1])) q1=some (.lst (x.wi.ps.map fun p=>V.ref p.1)):=by rw [au (ak ao ht1)];exact ao
  have gt1:(upd (upd G7 q1 (.lst (x.wi.ps.map fun p=>V.ref p.1))) t1 (.tup [.int x.room,.int x.reach,.int x.wi.c,.ref q1])) t1=some (.tup [.int x.room,.int x.reach,.int x.wi.c,.ref q1]):=ao
  generalize upd (upd G7 q1 (.lst (x.wi.ps.map fun p=>V.ref p.1))) t1 (.tup [.int x.room,.int x.reach,.int x.wi.c,.ref q1])=GW at sq1 gq1 gt1 ⊢
  have TW:Is GW (fun a=>G7 a=none) 3 (.ref t1) (Ni x.room x.reach x.wi):=.ofT gt1 (.cons (jj _) (.cons (jj _) (.cons (jj _) (.cons (Uj hq1 (P7.wi.b.same sq1) gq1) .nil))))
  refine ⟨L,_,_,rfl,rfl,sq1 _ _ W7.gL,aV (by simp),?_⟩
  have WNW:=W7.push sq1 TW
  generalize upd GW L _=GNW at WNW ⊢
  have PNW:=hP.same WNW.s
  k_dat WNW.gL "k"
  refine ⟨_,rfl,rdF PNW.di.o T.dR T.wA (qN ..) ⟨_,rfl,rdF PNW.di.o T.dR T.xY (mU ..) ⟨_,rfl,rdF PNW.di.o T.dR T.rY (lB ..) ⟨_,rfl,rdF PNW.di.o T.dR T.xZ (wV ..) (.inl ⟨_,_,rfl,.inl (.inl (.inl PNW.di.l)),fun q2 hq2=>⟨by show 4<=sizeLine;decide,fun t2 ht2=>?_⟩⟩)⟩⟩⟩⟩
  have sq2:=(Same.new (o:=.lst ((srt (My.up x.di.v x.di.C)).map V.int)) hq2).trans (Same.new (o:=.tup [.int x.room,.int x.di.n,.int x.di.v,.ref q2]) ht2)
  have gq2:(upd (upd GNW q2 (.lst ((srt (My.up x.di.v x.di.C)).map V.int))) t2 (.tup [.int x.room,.int x.di.n,.int x.di.v,.ref q2])) q2=some (.lst ((srt (My.up x.di.v x.di.C)).map V.int)):=by rw [au (ak ao ht2)];exact ao
  have gt2:(upd (upd GNW q2 (.lst ((srt (My.up x.di.v x.di.C)).map V.int))) t2 (.tup [.int x.room,.int x.di.n,.int x.di.v,.ref q2])) t2=some (.tup [.int x.room,.int x.di.n,.int x.di.v,.ref q2]):=ao
  generalize upd (upd GNW q2 (.lst ((srt (My.up x.di.v x.di.C)).map V.int))) t2 (.tup [.int x.room,.int x.di.n,.int x.di.v,.ref q2])=GD at sq2 gq2 gt2 ⊢
  have TD:Is GD (fun a=>GNW a=none) 3 (.ref t2) (wK x.room x.di):=.ofT gt2 (.cons (jj _) (.cons (jj _) (.cons (jj _) (.cons (Cm hq2 gq2) .nil))))
  refine ⟨L,_,_,rfl,rfl,sq2 _ _ WNW.gL,aV (by simp),?_⟩
  have WND:=WNW.push sq2 TD
  generalize upd GD L _=GND at WND ⊢
  have PND:=hP.same WND.s
  k_dat WND.gL "k"
  refine ⟨_,rfl,rdF (WND.s _ _ hK.o) T.aW T.uO (jf ..) (rdF PND.ba.o T.jQ T.yd (uz ..) ⟨_,rfl,rdF (WND.s _ _ hK.o) T.aW T.uO (jf ..) (rdF PND.ba.o T.jQ T.uL (wW ..) (.inl ⟨_,_,rfl,.inl (.inl (.inl PND.ba.l)),fun q3 hq3=>⟨by show 2<=sizeLine;decide,fun t3 ht3=>?_⟩⟩))⟩)⟩
  have sq3:=(Same.new (o:=.lst ((L4 x.ba.q).map V.int)) hq3).trans (Same.new (o:=.tup [.int x.span,.ref q3]) ht3)
  have gq3:(upd (upd GND q3 (.lst ((L4 x.ba.q).map V.int))) t3 (.tup [.int x.span,.ref q3])) q3=some (.lst ((L4 x.ba.q).map V.int)):=by rw [au (ak ao ht3)];exact ao
  have gt3:(upd (upd GND q3 (.lst ((L4 x.ba.q).map V.int))) t3 (.tup [.int x.span,.ref q3])) t3=some (.tup [.int x.span,.ref q3]):=ao
  generalize upd (upd GND q3 (.lst ((L4 x.ba.q).map V.int))) t3 (.tup [.int x.span,.ref q3])=GB at sq3 gq3 gt3 ⊢
  have TB:Is GB (fun a=>GND a=none) 3 (.ref t3) (ahr x.span x.ba.q):=.ofT gt3 (.cons (jj _) (.cons (Cm hq3 gq3) .nil))
  refine ⟨L,_,_,rfl,rfl,sq3 _ _ WND.gL,aV (by simp),?_⟩
  have WNB:=WND.push sq3 TB
  generalize upd GB L _=GNB at WNB ⊢
  have PNB:=hP.same WNB.s
  exact ⟨_,rfl,q _ _ WNB.s WNB.done⟩
open MK
noncomputable def ahs (A:Ad):Sp:=fun vs H Q _=>∃ (p dx d p' dx' d':Addr) (room:Nat) (t l t' l':Int) (c c':Tab),vs=[.ref p,.ref p']/\H p=some (.ins A.gY dx (fl room t l d))/\H d=some (.dK (emb c)) /\
 H p'=some (.ins A.gY dx' (fl room t' l' d'))/\H d'=some (.dK (emb c'))/\(keys c).Nodup/\(∀ p∈c,1<=p.2)/\(∀ p∈c',1<=p.2)/\(nM c c').length<64/\c.length+c'.length<=900 /\
 ∀ (x dxx e:Addr) (b:Tab) (cut:Int) (H':Hp),H x=none->H e=none->gK room (nM c c') b cut->H' x=some (.ins A.gY dxx (fl room (t+t') (l+l'+cut) e))->H' e=some (.dK (emb b))->Same H H'->Q (.ref x) H'
theorem acy {d:Tab} (h:d[i]? = some p):nM c (d.take (i+1))=put (nM c (d.take i)) p.1 (low (nM c (d.take i)) p.1+p.2):=by
 rw [take_snoc h,abI]
noncomputable def acz (A:Ad):Sp:=fun vs H Q E=>ahs A vs H Q E\/∃ (p dx p' dx' d d':Addr) (r r' t l t' l':Int),vs=[.ref p,.ref p']/\H p=some (.ins A.gY dx (fl r t l d))/\H p'=some (.ins A.gY dx' (fl r' t' l' d'))/\r≠r'/\E (.ref A.gJ) none H
theorem aa9 (T:Tx K mg A):cP P w K mg base (CXE P w) 3 A.XR A.kZ ["one","other"] (acz A):=by
 k_dat (T.ag1.okE,fP) "a"
 ·rcases h with ⟨p,dx,d,p',dx',d',room,t,l,t',l',c,c',rfl,_⟩ | ⟨p,dx,p',dx',d,d',r,r',t,l,t',l',rfl,_⟩ <;> rfl
 ·skip
  refine ⟨_,(aq (fO (PT.nox (bB Ar (aB (pv 0) rfl) (aB (pv 1) rfl) (bR _))) (aF (rT Ln T.iW rfl T.pC (aj Dt aA))) dj)
   (aq (PS.nox (aX (i:=2) fP.nd rfl (Or.inl rfl) (fC T.agS (ahl T) tb_g% rfl T.zX T.b'20 .nil aQ (aj (aB (pv 0) rfl) aA))))
   (aq (PS.nox (aU (pv 2) (aM cu (aB (pv 0) rfl) (aB (pv 1) rfl)) rfl))
   (aq (PS.nox (aU (pv 2) (aM cu (aB (pv 0) rfl) (aB (pv 1) rfl)) rfl))
   (aq (PS.nox (aX (i:=3) fP.nd rfl (Or.inl rfl) (fJ Jc (by rfl) T.ag5 aek (aj (aB (pv 0) rfl) aA))))
   (aq (PS.nox (aaE uG rfl (aB (pv 1) rfl) ⟨rfl,rfl⟩ (Qi rfl (kj (gG (i:=4) fP.nd rfl (Or.inl rfl)) (kj (gG (i:=5) fP.nd rfl (Or.inl rfl)) FN))) (aF (zA (aM cu (Sh (dO hr) (pv 3) (pv 4) aC ⟨rfl,rfl,rfl,rfl⟩) (pv 5)) (Du (pv 3) (pv 4) (setG (dO hr)))))))
   (aq (PS.nox (bF (dG (pv 2) T.fu T.wC (ajC T) tb_g% T.b'23 .nil aQ (aj (pv 3) aA))))
   (aF (PS.nox (cB (pv 2))))))))))),?_⟩
  rcases h with ⟨p,dx,d,p',dx',d',room,t,l,t',l',c,c',rfl,hp,hd,hp',hd',hn,pos,pos',h64,h900,q⟩ | ⟨p,dx,p',dx',d,d',r,r',t,l,t',l',rfl,hp,hp',hne,q⟩
  rotate_left
  ·refine ⟨_,rfl,rdF hp T.fu T.yc (uy _ _ _ _) ⟨_,rfl,rdF hp' T.fu T.yc (uy _ _ _ _) ⟨rfl,_,rfl,?_⟩⟩⟩
   have e:(!decide (V.int r=V.int r'))=true:=by rw [decide_eq_false (fun z=>hne (V.int.inj z))];rfl
   rw [e]
   exact Bb ⟨by show 1<=sizeLine;decide,q⟩
  refine ⟨_,rfl,rdF hp T.fu T.yc (uy _ _ _ _) ⟨_,rfl,rdF hp' T.fu T.yc (uy _ _ _ _) ⟨rfl,_,rfl,Bc rfl ?_⟩⟩⟩
  refine ⟨_,rfl,rdF hp T.fu T.yc (uy _ _ _ _) fun x dxx nx ndx nex=>?_⟩
  refine ⟨x,dxx,_,rfl,ao,fun e0 H1 he0 e1 e2 bt=>⟨rfl,?_⟩⟩
  have s0:Same H (upd (upd H dxx (.own x)) x (.ins A.gY dxx [])):=fun b o e=>by
   rw [au (ak e nx),au (ak e ndx)];exact e
  have s1:Same H H1:=fun b o e=>bt b o (s0 b o e) (ak e nx)
  have nx1:∀ b o,H b=some o->b≠x:=fun b o e=>ak e nx
  refine ⟨_,rfl,rdF (s1 _ _ hp) T.fu T.BP (Ck _ _ _ _) ⟨_,rfl,rdF (s1 _ _ hp') T.fu T.BP (Ck _ _ _ _) ⟨_,_,rfl,rfl,_,rfl,x,_,dxx,_,rfl,e1,T.fu,T.BP,(by show 4<1000;decide),?_⟩⟩⟩
  rw [aa4]
  have k2:∀ b o,H b=some o->∀ u,(upd H1 x u) b=some o:=fun b o e u=>by rw [au (nx1 b o e)];exact s1 _ _ e
  refine ⟨_,rfl,rdF (k2 _ _ hp _) T.fu T.BR (Gp _ _ _ _) ⟨_,rfl,rdF (k2 _ _ hp' _) T.fu T.BR (Gp _ _ _ _) ⟨_,_,rfl,rfl,_,rfl,x,_,dxx,_,rfl,ao,T.fu,T.BR,(by show 4<1000;decide),?_⟩⟩⟩
  rw [aa5,cQ]
  refine ⟨_,rfl,rdF (k2 _ _ hp _) T.fu T.BW (sH _ _ _ _) ⟨d,emb c,rfl,.inl (k2 _ _ hd _),fun g hg=>?_⟩⟩
  have ngx:x≠g:=fun z=>by rw [<- z,ao] at hg;cases hg
  have ng:∀ b o,H b=some o->b≠g:=fun b o e z=>by rw [<- z,k2 _ _ e] at hg;cases hg
  have k3:∀ b o,H b=some o->(upd (upd H1 x (.ins A.gY dxx (fl room (t+t') (l+l') e0))) g (.dK (emb c))) b=some o:=fun b o e=>by rw [au (ng b o e)];exact k2 b o e _
  refine ⟨_,rfl,rdF (k3 _ _ hp') T.fu T.BW (sH _ _ _ _) ⟨d',emb c',rfl,k3 _ _ hd',fun o wm=>Ml (fun i σ H2=>∃ (y z:Option V),σ=[some (.ref p),some (.ref p'),some (.ref x),some (.ref g),y,z]/\H2 d'=some (.frz o (.dK (emb c')))/\H2 g=some (.dK (emb (nM c (c'.take i))))/\H2 x=some (.ins A.gY dxx (fl room (t+t') (l+l') e0))/\(∀ b u,H b=some u->b≠d'->H2 b=some u))
   ⟨none,none,rfl,ao,?_,?_,fun b u e hb=>by rw [au hb];exact k3 b u e⟩ (fun i σ H2 ⟨_,_,_,h,_⟩=>h) ?_ ?_⟩⟩
  ·rw [au (aL (ng _ _ hd')),ao];rfl
  ·rw [au (aL (nx1 _ _ hd')),au ngx,ao]
  ·rintro i pp t2 σ H2 hi ⟨y,z,rfl,f1,f2,f3,f4⟩ ht
   obtain ⟨pr,hpr,rfl⟩:=af3 hi
   have m1:∀ b u,H2 b=some u->(upd H2 t2 (.tup [.int pr.1,.int pr.2])) b=some u:=fun b u e=>by rw [au (ak e ht)];exact e
   refine ⟨t2,_,rfl,.inl (.inl ao),rfl,_,_,rfl,_,_,rfl,rfl,?_⟩
   refine ⟨_,rfl,g,rfl,.inl ⟨_,.inl (m1 _ _ f2)⟩,_,rfl,_,ajk (.inl (m1 _ _ f2)),?_⟩
   rw [aaI]
   have hz:(emb (nM c (c'.take i))).length<sizeLine:=by
    rw [tL]
    have:=kJ (c'.take i) c
    rw [gU] at this
    exact aV tb_g%
   refine ⟨_,rfl,_,_,rfl,rfl,_,rfl,_,rfl,Ze (m1 _ _ f2) hz ?_⟩
   rw [Ji,<- acy hpr]
   have ngd:d'≠g:=ng _ _ hd'
   exact ⟨_,_,rfl,by rw [au ngd];exact m1 _ _ f1,ao,by rw [au ngx];exact m1 _ _ f3,fun b u e hb=>by rw [au (ng b u e)];exact m1 _ _ (f4 b u e hb)⟩
  ·rintro σ H2 ⟨y,z,rfl,f1,f2,f3,f4⟩
   rw [tL,vA] at f2
   refine ⟨d',emb c',o,wm,f1,?_⟩
   have ngd:g≠d':=aL (ng _ _ hd')
   have nxd:x≠d':=aL (nx1 _ _ hd')
   have f2':(upd H2 d' (.dK (emb c'))) g=some (.dK (emb (nM c c'))):=by rw [au ngd];exact f2
   have f3':(upd H2 d' (.dK (emb c'))) x=some (.ins A.gY dxx (fl room (t+t') (l+l') e0)):=by rw [au nxd];exact f3
   have f4':Same H (upd H2 d' (.dK (emb c'))):=fun b u e=>by
    by_cases hb:b=d'
    ·subst hb;rw [ao,<- e,hd']
    ·rw [au hb];exact f4 b u e hb
   refine ⟨_,rfl,x,dxx,_,rfl,f3',aa6 _ _ _ _ tb_g% tb_g% tb_g% tb_g%,_,rfl,x,dxx,g,e0,room,t+t',l+l',nM c c',rfl,f3',f2',QB _ hn,Jg _ pos pos',.inl h64,fun e' b' cut H3 n3 fit g3 g4 bt3=>?_⟩
   exact ⟨_,rfl,q x dxx e' b' cut H3 nx (f4'.free n3) fit g3 g4 fun b u e=>bt3 b u (f4' b u e) (nx1 b u e)⟩
noncomputable def aht:Sp:=fun vs H Q _=>∃ (a:Addr) (bs:List Addr) (ls:RG.Ls) (i:Nat),vs=[.ref a,.int (i:Int)]/\LL H a bs ls/\∀ (c:Addr) (H':Hp),H' c=some (.lst ((ls.getD i []).map V.int))->Same H H'->Q (.ref c) H'
theorem ajL (T:Tx K mg A):cP P w K mg base CX0 1 A.XS A.Ed ["lists","place"] aht:=by
 k_dat (T.F'44.ok,ZV) "a"
 ·obtain ⟨a,bs,ls,i,rfl,_⟩:=h
  rfl
 ·obtain ⟨a,bs,ls,i,rfl,hL,q⟩:=h
  refine ⟨_,(aF (cB (Iz (bB IW (pv 1) (cA dZ (by rfl) T.pD oh (aj (pv 0) aA)) (bR _)) (fX (ixG (dO hr)) (pv 0) (pv 1) (fun _ _=>rfl)) (dY aA)))),?_⟩
  refine ⟨_,rfl,_,rfl,kO (.inl (.inl hL.o)) ⟨_,_,rfl,rfl,_,rfl,gP (fun h=>?_) (fun h=>?_)⟩⟩
  ·have hi:i<ls.length:=by
    have:=of_decide_eq_true h
    rw [bG,hL.n] at this
    lia
   obtain ⟨b,l,eb,el,hb⟩:=hL.at hi
   refine ⟨_,rfl,_,rfl,qC (.inl (.inl hL.o)) (v:=.ref b) (LL.ix eb) (q b H ?_ (Same.refl _))⟩
   rw [vm,el];exact hb
  ·have hi:ls.length<=i:=by
    have:¬ (i:Int)<((bs.map V.ref).length:Int):=fun z=>h (decide_eq_true z)
    rw [bG,hL.n] at this
    lia
   refine ⟨by show 0<=sizeLine;decide,fun c hc=>q c _ ?_ (Same.new hc)⟩
   rw [vm,rH hi];exact ao
noncomputable def ai2 (A:Ad):Sp:=fun vs H Q _=>∃ (p dx a p' dx' a':Addr) (bs bs':List Addr) (r tt ov un tn tt' ov' un' tn':Int) (mi ma mi' ma':Option Int) (ls ls':RG.Ls),vs=[.ref p,.ref p']/\Rn A H p dx a bs r tt ov un tn mi ma ls/\Rn A H p' dx' a' bs' r tt' ov' un' tn' mi' ma' ls'/\2<=r/\r<=64/\ls.length<=400/\ls'.length<=400/\(∀ k∈RG.join ls ls',k.length<=63)/\((∀ k∈RG.join ls ls',k.length<=31)\/∀ k∈RG.join ls ls',(k.length:Int)<=r)/\RG.val ls<2 ^ 400/\RG.val ls'<2 ^ 400 /\
 ∀ (z dz g:Addr) (cs:List Addr) (out:RG.Ls) (tn2 ov2 un2:Int) (H':Hp),RG.Stl r 0 (tn+tn') (ov+ov') (un+un') (RG.join ls ls') out tn2 ov2 un2->Rn A H' z dz g cs r (tt+tt') ov2 un2 tn2 (lo2 mi mi') (hi2 ma ma') out->H z=none->H g=none->(∀ c∈cs,H c=none)->Same H H'->Q (.ref z) H'
noncomputable def ahu (A:Ad):Sp:=fun vs H Q E=>ai2 A vs H Q E\/∃ (p dx a p' dx' a':Addr) (bs bs':List Addr) (r tt ov un tn r' tt' ov' un' tn':Int) (mi ma mi' ma':Option Int) (ls ls':RG.Ls),vs=[.ref p,.ref p']/\Rn A H p dx a bs r tt ov un tn mi ma ls/\Rn A H p' dx' a' bs' r' tt' ov' un' tn' mi' ma' ls'/\r≠r'/\E (.ref A.gJ) none H
theorem abb (T:Tx K mg A):cP P w K mg base (CXE P w) 5 A.X3 A.pB ["one","other"] (ahu A):=by
 k_dat (T.ag2.okE,jx) "a"
 ·rcases h with ⟨p,dx,a,p',dx',a',bs,bs',r,tt,ov,un,tn,tt',ov',un',tn',mi,ma,mi',ma',ls,ls',rfl,_⟩ | ⟨p,dx,a,p',dx',a',bs,bs',r,tt,ov,un,tn,r',tt',ov',un',tn',mi,ma,mi',ma',ls,ls',rfl,_⟩ <;> rfl
 ·skip
  refine ⟨_,(aq (fO (PT.nox (bB Ar (aB (pv 0) rfl) (aB (pv 1) rfl) (bR _))) (aF (rT Ln T.iW rfl T.pC (aj Dt aA))) dj)
   (aq (PS.nox (aX (i:=2) jx.nd rfl (Or.inl rfl) (fC T.agR (ok'7 T) tb_g% rfl T.QL T.b'7 .nil aQ (aj (aB (pv 0) rfl) aA))))
   (aq (PS.nox (aU (pv 2) (aM cu (aB (pv 0) rfl) (aB (pv 1) rfl)) rfl))
   (aq (PS.nox (aU (pv 2) (aM cu (aB (pv 0) rfl) (aB (pv 1) rfl)) rfl))
   (aq (PS.nox (aU (pv 2) (aM cu (aB (pv 0) rfl) (aB (pv 1) rfl)) rfl))
   (aq (PS.nox (aU (pv 2) (aM cu (aB (pv 0) rfl) (aB (pv 1) rfl)) rfl))
   (aq (PS.nox (aU (pv 2) (aJ (ok'5 T) tb_g% rfl T.T6 T.F'5.kp T.b'5 .nil aQ (aj (aB (pv 0) rfl) (aj (aB (pv 1) rfl) aA))) rfl))
   (aq (PS.nox (aU (pv 2) (aJ (ok'6 T) tb_g% rfl T.MP T.F'6.kp T.b'6 .nil aQ (aj (aB (pv 0) rfl) (aj (aB (pv 1) rfl) aA))) rfl))
   (aq (PS.nox (aX (i:=3) jx.nd rfl (Or.inl rfl) (dY aA)))
   (aq (PS.nox (zB uG rfl (Dv rfl T.Q7 (aj (cA (Lz rfl) (by rfl) T.ag6 ael (aj (cA dZ (by rfl) T.pD oh (aj (aB (pv 0) rfl) aA)) (aj (cA dZ (by rfl) T.pD oh (aj (aB (pv 1) rfl) aA)) aA))) aA)) (gG (i:=4) jx.nd rfl (Or.inl rfl)) (aF (bF (kE j7 jY jZ cM (pv 3) (aj (cA (Bk rfl) (by rfl) T.pG Dj (aj (aM zF (aJ (ajL T) tb_g% rfl T.M5 T.F'44.kp T.b'44 .nil aQ (aj (aB (pv 0) rfl) (aj (pv 4) aA))) (aJ (ajL T) tb_g% rfl T.M5 T.F'44.kp T.b'44 .nil aQ (aj (aB (pv 1) rfl) (aj (pv 4) aA)))) aA)) aA))))))
   (aq (PS.nox (bF (dG (pv 2) T.bO T.wB (ok'4 T) tb_g% T.b'4 .nil aQ (aj (pv 3) aA))))
   (aF (PS.nox (cB (pv 2))))))))))))))),?_⟩
  rcases h with ⟨p,dx,a,p',dx',a',bs,bs',r,tt,ov,un,tn,tt',ov',un',tn',mi,ma,mi',ma',ls,ls',rfl,hR,hS,r2,r64,l4,l4',jb,j6,v1,v2,q⟩ | ⟨p,dx,a,p',dx',a',bs,bs',r,tt,ov,un,tn,r',tt',ov',un',tn',mi,ma,mi',ma',ls,ls',rfl,hR,hS,hne,q⟩
  rotate_left
  ·refine ⟨_,rfl,rdF hR.o T.bO T.xV (uq ..) ⟨_,rfl,rdF hS.o T.bO T.xV (uq ..) ⟨rfl,_,rfl,?_⟩⟩⟩
   have e:(!decide (V.int r=V.int r'))=true:=by rw [decide_eq_false (fun z=>hne (V.int.inj z))];rfl
   rw [e]
   exact Bb ⟨by show 1<=sizeLine;decide,q⟩
  refine ⟨_,rfl,rdF hR.o T.bO T.xV (uq ..) ⟨_,rfl,rdF hS.o T.bO T.xV (uq ..) ⟨rfl,_,rfl,Bc rfl ?_⟩⟩⟩
  refine ⟨_,rfl,rdF hR.o T.bO T.xV (uq ..) fun z dz nz ndz nez=>?_⟩
  refine ⟨z,dz,_,rfl,ao,fun e0 H1 he0 o1 f1 bt=>⟨rfl,?_⟩⟩
  have s1:Same H H1:=fun b o e=>bt b o (by rw [au (ak e nz),au (ak e ndz)];exact e) (ak e nz)
  have k1:∀ u:HO,Same H (upd H1 z u):=fun u b o e=>by rw [au (ak e nz)];exact s1 _ _ e
  have R1:=hR.same s1
  have R2:=hS.same s1
  refine ⟨_,rfl,rdF R1.o T.bO T.Bw (BZ ..) ⟨_,rfl,rdF R2.o T.bO T.Bw (BZ ..) ⟨_,_,rfl,rfl,_,rfl,z,_,dz,_,rfl,o1,T.bO,T.Bw,(by show 8<1000;decide),?_⟩⟩⟩
  rw [Ce]
  have R1:=hR.same (k1 (.ins A.cV dz (rg (.int r) (.int (tt+tt')) (.int 0) (.int 0) (.int 0) .non .non (.ref e0))))
  have R2:=hS.same (k1 (.ins A.cV dz (rg (.int r) (.int (tt+tt')) (.int 0) (.int 0) (.int 0) .non .non (.ref e0))))
  refine ⟨_,rfl,rdF R1.o T.bO T.Bx (Gm ..) ⟨_,rfl,rdF R2.o T.bO T.Bx (Gm ..) ⟨_,_,rfl,rfl,_,rfl,z,_,dz,_,rfl,ao,T.bO,T.Bx,(by show 8<1000;decide),?_⟩⟩⟩
  rw [Fd]
  rw [cQ]
  have R1:=hR.same (k1 (.ins A.cV dz (rg (.int r) (.int (tt+tt')) (.int (ov+ov')) (.int 0) (.int 0) .non .non (.ref e0))))
  have R2:=hS.same (k1 (.ins A.cV dz (rg (.int r) (.int (tt+tt')) (.int (ov+ov')) (.int 0) (.int 0) .non .non (.ref e0))))
  refine ⟨_,rfl,rdF R1.o T.bO T.BJ (Ca ..) ⟨_,rfl,rdF R2.o T.bO T.BJ (Ca ..) ⟨_,_,rfl,rfl,_,rfl,z,_,dz,_,rfl,ao,T.bO,T.BJ,(by show 8<1000;decide),?_⟩⟩⟩
  rw [Cg]
  rw [cQ]
  have R1:=hR.same (k1 (.ins A.cV dz (rg (.int r) (.int (tt+tt')) (.int (ov+ov')) (.int (un+un')) (.int 0) .non .non (.ref e0))))
  have R2:=hS.same (k1 (.ins A.cV dz (rg (.int r) (.int (tt+tt')) (.int (ov+ov')) (.int (un+un')) (.int 0) .non .non (.ref e0))))
  refine ⟨_,rfl,rdF R1.o T.bO T.qG (mQ ..) ⟨_,rfl,rdF R2.o T.bO T.qG (mQ ..) ⟨_,_,rfl,rfl,_,rfl,z,_,dz,_,rfl,ao,T.bO,T.qG,(by show 8<1000;decide),?_⟩⟩⟩
  rw [ur]
  rw [cQ]
  have s2:=k1 (.ins A.cV dz (rg (.int r) (.int (tt+tt')) (.int (ov+ov')) (.int (un+un')) (.int (tn+tn')) .non .non (.ref e0)))
  have o2:(upd H1 z (.ins A.cV dz (rg (.int r) (.int (tt+tt')) (.int (ov+ov')) (.int (un+un')) (.int (tn+tn')) .non .non (.ref e0)))) z=_:=ao
  have R1:=hR.same s2
  have R2:=hS.same s2
  generalize upd H1 z (.ins A.cV dz (rg (.int r) (.int (tt+tt')) (.int (ov+ov')) (.int (un+un')) (.int (tn+tn')) .non .non (.ref e0)))=H2 at s2 o2 R1 R2 ⊢
  refine ⟨_,rfl,rdF R1.o T.bO T.BK (Cd ..) ⟨_,rfl,rdF R2.o T.bO T.BK (Cd ..) ⟨mi,mi',rfl,fun H3 s3=>⟨_,rfl,z,_,dz,_,rfl,s3 _ _ o2,T.bO,T.BK,(by show 8<1000;decide),?_⟩⟩⟩⟩
  rw [Ci]
  have s4:Same H (upd H3 z (.ins A.cV dz (rg (.int r) (.int (tt+tt')) (.int (ov+ov')) (.int (un+un')) (.int (tn+tn')) (oV (lo2 mi mi')) .non (.ref e0)))):=fun b o e=>by rw [au (ak e nz)];exact s3 _ _ (s2 b o e)
  have o4:(upd H3 z (.ins A.cV dz (rg (.int r) (.int (tt+tt')) (.int (ov+ov')) (.int (un+un')) (.int (tn+tn')) (oV (lo2 mi mi')) .non (.ref e0)))) z=_:=ao
  have R1:=hR.same s4
  have R2:=hS.same s4
  generalize upd H3 z (.ins A.cV dz (rg (.int r) (.int (tt+tt')) (.int (ov+ov')) (.int (un+un')) (.int (tn+tn')) (oV (lo2 mi mi')) .non (.ref e0)))=H4 at s4 o4 R1 R2 ⊢
  refine ⟨_,rfl,rdF R1.o T.bO T.BL (Gn ..) ⟨_,rfl,rdF R2.o T.bO T.BL (Gn ..) ⟨ma,ma',rfl,fun H5 s5=>⟨_,rfl,z,_,dz,_,rfl,s5 _ _ o4,T.bO,T.BL,(by show 8<1000;decide),?_⟩⟩⟩⟩
  rw [Fe]
  have s6:Same H (upd H5 z (.ins A.cV dz (rg (.int r) (.int (tt+tt')) (.int (ov+ov')) (.int (un+un')) (.int (tn+tn')) (oV (lo2 mi mi')) (oV (hi2 ma ma')) (.ref e0)))):=fun b o e=>by rw [au (ak e nz)];exact s5 _ _ (s4 b o e)
  have o6:(upd H5 z (.ins A.cV dz (rg (.int r) (.int (tt+tt')) (.int (ov+ov')) (.int (un+un')) (.int (tn+tn')) (oV (lo2 mi mi')) (oV (hi2 ma ma')) (.ref e0)))) z=_:=ao
  generalize upd H5 z (.ins A.cV dz (rg (.int r) (.int (tt+tt')) (.int (ov+ov')) (.int (un+un')) (.int (tn+tn')) (oV (lo2 mi mi')) (oV (hi2 ma ma')) (.ref e0)))=H6 at s6 o6 ⊢
  refine ⟨by show 0<=sizeLine;decide,fun g hg=>?_⟩
  have s7:Same H6 (upd H6 g (.lst [])):=Same.new hg
  have f7:(upd H6 g (.lst [])) g=some (.lst []):=ao
  have n7:H g=none:=s6.free hg
  have zg:z≠g:=ak o6 hg
  generalize upd H6 g (.lst [])=H7 at s7 f7 ⊢
  have s07:=s6.trans s7
  have R1:=hR.same s07
  have R2:=hS.same s07
  have na:((bs.map V.ref).length:Int)=(ls.length:Int):=by rw [bG,hR.l.n]
  have nb:((bs'.map V.ref).length:Int)=(ls'.length:Int):=by rw [bG,hS.l.n]
  refine ⟨_,rfl,rdF R1.o T.bO T.xW (sy ..) (kO (.inl (.inl R1.l.o)) ⟨_,rfl,rdF R2.o T.bO T.xW (sy ..) (kO (.inl (.inl R2.l.o)) ⟨_,_,rfl,?_⟩)⟩)⟩
  rw [na,nb]
  have em:(if (ls'.length:Int)>(ls.length:Int) then (ls'.length:Int) else (ls.length:Int))=((max ls.length ls'.length:Nat):Int):=by split <;> lia
  rw [em]
  refine ⟨_,rfl,by lia,by lia,?_⟩
  refine Dy (fun i σ G=>∃ (cs:List Addr) (y:Option V),σ=[some (.ref p),some (.ref p'),some (.ref z),some (.ref g),y]/\LL G g cs (RG.rQ i ls ls')/\Same H G/\G z=H6 z/\∀ c∈cs,H c=none)
   ⟨[],none,rfl,⟨f7,rfl,fun i b l e=>by (cases i <;> cases e),fun z=>nomatch z⟩,s07,(s7 _ _ o6).trans o6.symm,fun _ h=>nomatch h⟩ ?_ ?_
  ·rintro i σ G hi ⟨cs,y,rfl,L,sG,gz,fr⟩
   have hi':i<max ls.length ls'.length:=by lia
   have R1:=hR.same sG
   have R2:=hS.same sG
   have jl:(RG.jn ls ls' i).length<=63:=jb _ (by unfold RG.join RG.rQ;exact jW.mpr ⟨i,Oq.mpr hi',rfl⟩)
   rw [RG.zN] at jl
   refine ⟨_,rfl,.inl ⟨rfl,_,.inl (.inl L.o)⟩,_,rfl,rdF R1.o T.bO T.xW (sy ..) ⟨_,rfl,a,bs,ls,i,by rw [oJ];rfl,R1.l,fun c1 G1 f1 t1=>?_⟩⟩
   refine ⟨_,rfl,rdF (R2.same t1).o T.bO T.xW (sy ..) ⟨_,rfl,a',bs',ls',i,by rw [oJ];rfl,(R2.same t1).l,fun c2 G2 f2 t2=>?_⟩⟩
   refine ⟨c1,c2,_,_,rfl,rfl,t2 _ _ f1,f2,mG (aV (by rw [bG,bG];lia)),fun c3 hc3=>?_⟩
   rw [<- eG]
   have t3:Same G2 (upd G2 c3 (.lst ((ls.getD i []++ls'.getD i []).map V.int))):=Same.new hc3
   have f3:(upd G2 c3 (.lst ((ls.getD i []++ls'.getD i []).map V.int))) c3=some (.lst ((ls.getD i []++ls'.getD i []).map V.int)):=ao
   generalize upd G2 c3 (.lst ((ls.getD i []++ls'.getD i []).map V.int))=G3 at t3 f3 ⊢
   refine .inr ⟨c3,_,rfl,.inl (.inl f3),by rw [dH];lia,fun c4 ns hc4 pm so=>?_⟩
   obtain rfl:=RG.rm pm so
   have t4:Same G3 (upd G3 c4 (.lst ((RG.srt (ls.getD i []++ls'.getD i [])).map V.int))):=Same.new hc4
   have f4:(upd G3 c4 (.lst ((RG.srt (ls.getD i []++ls'.getD i [])).map V.int))) c4=some (.lst ((RG.srt (ls.getD i []++ls'.getD i [])).map V.int)):=ao
   have t03:=t1.trans (t2.trans t3)
   have n4:c4≠g:=aL (ak (t03 _ _ L.o) hc4)
   have N4:H c4=none:=(sG.trans t03).free hc4
   have t04:=t03.trans t4
   have L4:=L.same t04
   have z4:=t04 _ _ (gz.trans o6)
   have s4:=sG.trans t04
   generalize upd G3 c4 (.lst ((RG.srt (ls.getD i []++ls'.getD i [])).map V.int))=G4 at f4 L4 z4 s4 ⊢
   refine ⟨g,_,_,rfl,rfl,L4.o,aV (by rw [bG,L4.n,RG.wO];lia),?_⟩
   have L5:=L4.app (m:=RG.jn ls ls' i) f4 n4
   rw [<- RG.zL] at L5
   refine ⟨_,_,rfl,L5,fun b o e=>by rw [au (ak e n7)];exact s4 b o e,by rw [au zg,o6];exact z4,fun c hc=>?_⟩
   rcases d9.mp hc with y | y
   ·exact fr c y
   ·rw [eZ.mp y];exact N4
  ·rintro σ G ⟨cs,y,rfl,L,sG,gz,fr⟩
   rw [Wv] at L
   rw [o6] at gz
   have jv:RG.val (RG.join ls ls')<2 ^ 500:=by
    rw [RG.Tj]
    have:(2:Nat) ^ 400+2 ^ 400<2 ^ 500:=by decide
    lia
   refine ⟨_,rfl,z,dz,_,rfl,gz,rgN tb_g%,_,rfl,z,dz,g,cs,RG.join ls ls',r,tt+tt',ov+ov',un+un',tn+tn',lo2 mi mi',hi2 ma ma',.ref e0,rfl,gz,L,r2,r64,j6,by rw [RG.vX];lia,jv,fun g2 bs2 out tn2 ov2 un2 G7 st ng2 L7 o7 b7 _ fr7=>?_⟩
   have nz2:∀ c,G c=none->H c=none:=fun c n=>sG.free n
   exact ⟨_,rfl,q z dz g2 bs2 out tn2 ov2 un2 G7 st ⟨o7,L7⟩ nz (nz2 _ ng2) (fun c hc=>by
    rcases fr7 c hc with y | y
    ·exact fr c y
    ·exact nz2 c y) fun b o e=>b7 b o (sG b o e) (ak e nz)⟩
open MK
noncomputable def shift (c:Int) (b:WN.Box):WN.Box:=⟨b.f+c,b.l+c,b.s⟩
noncomputable def Z1 (A:Ad):Sp:=fun vs H Q _=>∃ (p dx l p' dx' l':Addr) (r k c c':Int) (ps ps':List Bp),vs=[.ref p,.ref p']/\Wn A H p dx l r k c ps/\Wn A H p' dx' l' r k c' ps'/\ps.length+ps'.length<=400/\0<=r/\r<=64 /\
 ∀ (x dxx l2:Addr) (ps2:List Bp) (H':Hp),H x=none->H l2=none->bx ps2=dF r (c+c'-k) (bx ps++(bx ps').map (shift c))->Wn A H' x dxx l2 r k (c+c') ps2->Same H H'->Q (.ref x) H'
theorem Z2 {c:Int} {p:Bp} (h:ps[i]? = some p):(bx (ps.take (i+1))).map (shift c)=(bx (ps.take i)).map (shift c)++[shift c p.2]:=by
 unfold bx;rw [xO,h,eG,eG];rfl
noncomputable def Uk (A:Ad):Sp:=fun vs H Q E=>Z1 A vs H Q E\/∃ (p dx l p' dx' l':Addr) (r k c r' k' c':Int) (ps ps':List Bp),vs=[.ref p,.ref p']/\Wn A H p dx l r k c ps/\Wn A H p' dx' l' r' k' c' ps'/\(r≠r'\/k≠k')/\E (.ref A.gJ) none H
theorem ajM (T:Tx K mg A):cP P w K mg base (CXE P w) 5 A.X4 A.zV ["one","other"] (Uk A):=by
 k_dat (T.F'46.okE,wH) "a"
 ·rcases h with ⟨p,dx,l,p',dx',l',r,k,c,c',ps,ps',rfl,_⟩ | ⟨p,dx,l,p',dx',l',r,k,c,r',k',c',ps,ps',rfl,_⟩ <;> rfl
 ·skip
  refine ⟨_,(aq (fO (PT.nox (PW.pt (pw_or (bB Ar (aB (pv 0) rfl) (aB (pv 1) rfl) (bR _)) (pw_or1 (bB Ar (aB (pv 0) rfl) (aB (pv 1) rfl) (bR _)))))) (aF (rT Ln T.iW rfl T.pC (aj Dt aA))) dj)
   (aq (PS.nox (aX (i:=2) wH.nd rfl (Or.inl rfl) (fC T.ajs (ajw T) tb_g% rfl T.TV T.b'10 .nil aQ (aj (aB (pv 0) rfl) (aj (aB (pv 0) rfl) aA)))))
   (aq (PS.nox (aU (pv 2) (aM cu (aB (pv 0) rfl) (aB (pv 1) rfl)) rfl))
   (aq (PS.nox (oR (i:=3) (cl:=[("one",s.heap.objs.size+1)]) (N:=["box","one"]) (caps:=[0]) (tt:=_) (te:=(tTup (Ew (tOp _ (tOp (KZ K) _ _) (afF K _ "clock")) (Ew (tOp _ (tOp (KZ K) _ _) (afF K _ "clock")) (Ew (tOp (KZ K) _ _) aby))))) wH.nd rfl (Or.inl rfl) rfl (by with_unfolding_all rfl) tb_g% rfl tb_g% ⟨rfl,trivial⟩ (vR (by with_unfolding_all rfl)) tb_g% rfl rfl rfl (gM.at (k:=1) (show gM _ _ _ _ 1 [0] from ⟨⟨"one",_,rfl,rfl,.inl rfl,.inl rfl,rfl⟩,trivial⟩)) (tG (aB (pv 1) rfl)) (fun _ _ _ _=>Gb) (fun _ _ _ _=>(iY (aj (aM cu (fX (ixG (by exact dO hr)) (pv 0) aC (fun _ _=>rfl)) (aB (pv 1) rfl)) (aj (aM cu (fX (ixG (by exact dO hr)) (pv 0) aC (fun _ _=>rfl)) (aB (pv 1) rfl)) (aj (fX (ixG (by exact dO hr)) (pv 0) aC (fun _ _=>rfl)) aA)))))))
   (aq (PS.nox (bF (dG (pv 2) T.cU T.nA (ahd T) tb_g% T.b'11 .nil aQ (aj (aM zF (aB (pv 0) rfl) (pv 3)) aA))))
   (aF (PS.nox (cB (pv 2))))))))),?_⟩
  rcases h with ⟨p,dx,l,p',dx',l',r,k,c,c',ps,ps',rfl,hw,hw',h400,r0,r64,q⟩ | ⟨p,dx,l,p',dx',l',r,k,c,r',k',c',ps,ps',rfl,hw,hw',hd,q⟩
  rotate_left
  ·refine ⟨_,rfl,rdF hw.o T.cU T.wg (qM _ _ _ _) ⟨_,rfl,rdF hw'.o T.cU T.wg (qM _ _ _ _) ⟨rfl,_,rfl,gP (fun h=>?_) (fun h=>?_)⟩⟩⟩
   ·exact Bb ⟨by show 1<=sizeLine;decide,q⟩
   ·have e:r=r':=by
     by_cases z:r=r'
     ·exact z
     ·exfalso;apply h;rw [decide_eq_false (fun y=>z (V.int.inj y))];rfl
    refine ⟨_,rfl,rdF hw.o T.cU T.wu (mR _ _ _ _) ⟨_,rfl,rdF hw'.o T.cU T.wu (mR _ _ _ _) ⟨rfl,_,rfl,?_⟩⟩⟩
    have hk:k≠k':=by rcases hd with z | z;exact absurd e z;exact z
    rw [decide_eq_false (fun y=>hk (V.int.inj y))]
    exact Bb ⟨by show 1<=sizeLine;decide,q⟩
  refine ⟨_,rfl,rdF hw.o T.cU T.wg (qM _ _ _ _) ⟨_,rfl,rdF hw'.o T.cU T.wg (qM _ _ _ _) ⟨rfl,_,rfl,Bc rfl ?_⟩⟩⟩
  refine ⟨_,rfl,rdF hw.o T.cU T.wu (mR _ _ _ _) ⟨_,rfl,rdF hw'.o T.cU T.wu (mR _ _ _ _) ⟨rfl,_,rfl,Bc rfl ?_⟩⟩⟩
  refine ⟨_,rfl,rdF hw.o T.cU T.wg (qM _ _ _ _) ⟨_,rfl,rdF hw.o T.cU T.wu (mR _ _ _ _) fun x dxx nx ndx nex=>?_⟩⟩
  refine ⟨x,dxx,r,k,rfl,ao,fun d H1 hd e1 e2 bt1=>⟨rfl,?_⟩⟩
  have s1:Same H H1:=fun b o e=>bt1 b o (by rw [au (ak e nx),au (ak e ndx)];exact e) (ak e nx)
  refine ⟨_,rfl,rdF (s1 _ _ hw.o) T.cU T.mL (je _ _ _ _) ⟨_,rfl,rdF (s1 _ _ hw'.o) T.cU T.mL (je _ _ _ _) ⟨_,_,rfl,rfl,_,rfl,x,_,dxx,_,rfl,e1,T.cU,T.mL,(by show 4<1000;decide),?_⟩⟩⟩
  rw [ux]
  have s2:Same H (upd H1 x (.ins A.gW dxx (wf (.int r) (.int k) (.int (c+c')) (.ref d)))):=fun b o e=>by rw [au (ak e nx)];exact s1 b o e
  have o2:(upd H1 x (.ins A.gW dxx (wf (.int r) (.int k) (.int (c+c')) (.ref d)))) x=some (.ins A.gW dxx (wf (.int r) (.int k) (.int (c+c')) (.ref d))):=ao
  generalize upd H1 x (.ins A.gW dxx (wf (.int r) (.int k) (.int (c+c')) (.ref d)))=H2 at s2 o2 ⊢
  have w2:=hw.same s2
  have w2':=hw'.same s2
  refine ⟨_,rfl,rdF w2'.o T.cU T.xX (sE _ _ _ _) ⟨l',rfl,⟨_,.inl (.inl w2'.b.l)⟩,fun D hD=>?_⟩⟩
  refine DN (K:=K) (a:=l') (xs:=ps'.map fun p=>V.ref p.1) (fun i ys H3=>∃ qs:List Bp,ys=qs.map (fun p=>V.ref p.1)/\bx qs=(bx (ps'.take i)).map (shift c)/\(∀ p∈qs,H3 p.1=some (bt p.2))/\H3 D=some (.lst ys)/\Same H2 H3) ⟨[],rfl,rfl,(fun p m=>nomatch m),ao,Same.new hD⟩ ?_ ?_ ?_ ?_
  ·rintro i ys H3 hi ⟨qs,rfl,eq,tq,fD,s3⟩
   refine ⟨.inl (.inl (s3 _ _ w2'.b.l)),fD,aV ?_⟩
   have:qs.length=(ps'.take i).length:=by rw [<- jH,eq,bG,jH]
   rw [bG,this,gU]
   lia
  ·rintro i ys H3 y hy ⟨qs,rfl,eq,tq,fD,s3⟩
   obtain ⟨z,hz,rfl⟩:=Rf hy
   have hzt:=s3 _ _ (w2'.b.t z (List.mem_of_getElem? hz))
   have w3:=w2.same s3
   refine ⟨_,rfl,lH (.inl (.inl hzt)) (v:=.int z.2.f) rfl ⟨_,rfl,rdF w3.o T.cU T.mL (je _ _ _ _) ⟨_,_,rfl,rfl,?_⟩⟩⟩
   refine ⟨_,rfl,lH (.inl (.inl hzt)) (v:=.int z.2.l) rfl ⟨_,rfl,rdF w3.o T.cU T.mL (je _ _ _ _) ⟨_,_,rfl,rfl,?_⟩⟩⟩
   refine ⟨_,rfl,lH (.inl (.inl hzt)) (v:=.int z.2.s) rfl ⟨(by show 3<=sizeLine;decide),fun t ht=>?_⟩⟩
   have s4:Same H3 (upd H3 t (bt (shift c z.2))):=Same.new ht
   have f4:(upd H3 t (bt (shift c z.2))) t=some (bt (shift c z.2)):=ao
   show (upd H3 t (bt (shift c z.2))) D=_/\∃ qs':List Bp,_
   have nD:∀ a b,H3 a=some (bt b)->a≠D:=fun a b e=>jq e fD (by intro z;cases z)
   refine ⟨s4 _ _ fD,qs++[(t,shift c z.2)],by rw [eG];rfl,?_,fun p m=>?_,ao,fun b o e=>?_⟩
   ·rw [Z2 hz,<- eq];unfold bx;rw [eG];rfl
   ·rcases d9.mp m with m | m
    ·have:=tq p m
     rw [au (nD _ _ this)];exact s4 _ _ this
    ·rw [eZ.mp m]
     have:t≠D:=aL (ak fD ht)
     rw [au this];exact f4
   ·rw [au (ak e hD)];exact s4 _ _ (s3 _ _ e)
  ·rintro ys H3 ⟨qs,rfl,eq,tq,fD,s3⟩
   rw [bG,vA] at eq
   have s03:=s2.trans s3
   have lq:qs.length=ps'.length:=by rw [<- jH,eq,bG,jH]
   refine ⟨_,rfl,x,dxx,_,rfl,s3 _ _ o2,Nb _ _ _ _ tb_g% tb_g% tb_g% tb_g%,?_⟩
   refine ⟨_,rfl,rdF (s03 _ _ hw.o) T.cU T.xX (sE _ _ _ _) ⟨_,rfl,l,D,_,_,rfl,rfl,s03 _ _ hw.b.l,fD,mG (aV (by rw [bG,bG];lia)),fun l4 hl4=>?_⟩⟩
   have s4:Same H3 (upd H3 l4 (.lst ((ps.map fun p=>V.ref p.1)++(qs.map fun p=>V.ref p.1)))):=Same.new hl4
   have b4:Bxs (upd H3 l4 (.lst ((ps.map fun p=>V.ref p.1)++(qs.map fun p=>V.ref p.1)))) l4 (ps++qs):=by
    refine ⟨by rw [ao,eG],fun z m=>?_⟩
    rcases d9.mp m with m | m
    ·exact s4 _ _ (s03 _ _ (hw.b.t z m))
    ·exact s4 _ _ (tq z m)
   generalize upd H3 l4 (.lst ((ps.map fun p=>V.ref p.1)++(qs.map fun p=>V.ref p.1)))=H4 at s4 b4 ⊢
   refine ⟨x,dxx,l4,d,r,k,c+c',_,rfl,s4 _ _ (s3 _ _ o2),b4,by rw [dH];lia,r0,r64,fun l5 ps5 H5 e5 w5 b5 n5=>?_⟩
   have s04:=s03.trans s4
   refine ⟨_,rfl,q x dxx l5 ps5 H5 nx (s04.free n5) ?_ w5 fun b o e=>b5 b o (s04 _ _ e) (ak e nx)⟩
   rw [e5]
   congr 1
   unfold bx at eq ⊢
   rw [eG,eq]
  ·exact Tw (jP (tU (Bu (cO 0) (zQ _)) (Bv (cO 1))) (jP (tU (Bu (cO 0) (zQ _)) (Bv (cO 1))) (jP (Bu (cO 0) (zQ _)) vZ)))
noncomputable def acA (A:Ad):Sp:=fun vs H Q _=>∃ (p dx l p' dx' l':Addr) (s:Int) (q q':Q4),vs=[.ref p,.ref p']/\Bn A H p dx l s q/\Bn A H p' dx' l' s q'/\∀ (x dxx l2:Addr) (H':Hp),H x=none->Bn A H' x dxx l2 s (addQ q q')->Same H H'->Q (.ref x) H'
noncomputable def Z4 (A:Ad):Sp:=fun vs H Q E=>acA A vs H Q E\/∃ (p dx l p' dx' l':Addr) (s s':Int) (q q':Q4),vs=[.ref p,.ref p']/\Bn A H p dx l s q/\Bn A H p' dx' l' s' q'/\s≠s'/\E (.ref A.gJ) none H
theorem ajN (T:Tx K mg A):cP P w K mg base (CXE P w) 3 A.X5 A.lY ["one","other"] (Z4 A):=by
 k_dat (T.F'47.okE,qK) "a"
 ·rcases h with ⟨p,dx,l,p',dx',l',s,q,q',rfl,_⟩ | ⟨p,dx,l,p',dx',l',s,s',q,q',rfl,_⟩ <;> rfl
 ·skip
  refine ⟨_,(aq (fO (PT.nox (bB Ar (aB (pv 0) rfl) (aB (pv 1) rfl) (bR _))) (aF (rT Ln T.iW rfl T.pC (aj Dt aA))) dj)
   (aq (PS.nox (aX (i:=2) qK.nd rfl (Or.inl rfl) (fC T.aju (ajG T) tb_g% rfl T.MN T.b'26 .nil aQ (aj (aB (pv 0) rfl) aA))))
   (aq (PS.nox (aU (pv 2) (agI (g:=(gTup K 2 (IK (xR 0) (IK (xR 1) gNil)))) (k:=2) (cl:=[]) (N:=["first","second"]) (caps:=[]) (tt:=_) (te:=_) rfl (by with_unfolding_all rfl) tb_g% rfl tb_g% trivial (vR (by with_unfolding_all rfl)) (fun _ _ _ _=>Qi rfl (kj (gG (i:=0) (show (["first","second"]:List Str).Nodup by decide +kernel) rfl (Or.inl rfl)) (kj (gG (i:=1) (show (["first","second"]:List Str).Nodup by decide +kernel) rfl (Or.inl rfl)) FN))) rfl (gM.at (k:=2) (show gM _ _ _ _ 2 [] from trivial)) (alN rfl T.n_zip (aj (aB (pv 0) rfl) (aj (aB (pv 1) rfl) aA))) (fun _ _ _ _=>Gb) (fun _ _ _ _=>(aM cu (pv 0) (pv 1)))) rfl))
   (aF (PS.nox (cB (pv 2))))))),?_⟩
  rcases h with ⟨p,dx,l,p',dx',l',sp,q,q',rfl,hb,hb',k⟩ | ⟨p,dx,l,p',dx',l',sp,sp',q,q',rfl,hb,hb',hne,k⟩
  rotate_left
  ·refine ⟨_,rfl,rdF hb.o T.jQ T.yd (uz _ _) ⟨_,rfl,rdF hb'.o T.jQ T.yd (uz _ _) ⟨rfl,_,rfl,?_⟩⟩⟩
   rw [decide_eq_false (fun z=>hne (V.int.inj z))]
   exact Bb ⟨by show 1<=sizeLine;decide,k⟩
  refine ⟨_,rfl,rdF hb.o T.jQ T.yd (uz _ _) ⟨_,rfl,rdF hb'.o T.jQ T.yd (uz _ _) ⟨rfl,_,rfl,Bc rfl ?_⟩⟩⟩
  refine ⟨_,rfl,rdF hb.o T.jQ T.yd (uz _ _) fun x dxx nx ndx nex=>?_⟩
  refine ⟨x,dxx,sp,rfl,ao,fun d H1 hd b1 bt1=>⟨rfl,?_⟩⟩
  have s1:Same H H1:=fun b o e=>bt1 b o (by rw [au (ak e nx),au (ak e ndx)];exact e) (ak e nx)
  refine ⟨_,rfl,rdF (s1 _ _ hb.o) T.jQ T.uL (wW _ _) ⟨_,rfl,rdF (s1 _ _ hb'.o) T.jQ T.uL (wW _ _) ⟨l,l',_,_,rfl,s1 _ _ hb.l,s1 _ _ hb'.l,fun D hD=>?_⟩⟩⟩
  refine ab5 (xs:=(L4 q).map V.int) (ys:=(L4 q').map V.int) (fun i zs H2=>zs=((L4 (addQ q q')).take i).map V.int/\H2 D=some (.lst zs)/\Same H1 H2) ⟨rfl,ao,Same.new hD⟩ ?_ ?_ ?_ (ZP 0 1) ?_
  ·rintro i zs H2 ⟨rfl,f,s2⟩
   exact ⟨s2 _ _ (s1 _ _ hb.l),s2 _ _ (s1 _ _ hb'.l),f,aV (by rw [bG,gU];show min i 4<=1000;lia)⟩
  ·rintro i zs H2 u v t ws hu hv ⟨rfl,f,s2⟩ ht hw
   obtain ⟨w0,w1,rfl⟩:∃ w0 w1,ws=[w0,w1]:=by
    match ws,hw with
    | [a,b],_=>exact ⟨a,b,rfl⟩
   have s3:Same H2 (upd H2 t (.tup [u,v])):=Same.new ht
   have keep:∀ L b o,H1 b=some o->(upd (upd H2 t (.tup [u,v])) D L) b=some o:=fun L b o e=>by rw [au (ak e hD)];exact s3 _ _ (s2 _ _ e)
   refine ⟨t,_,rfl,.inl (.inl ao),rfl,_,_,rfl,_,_,rfl,rfl,⟨[some u,some v],rfl,rfl⟩,?_⟩
   rcases mz hu with ⟨rfl,rfl⟩ | ⟨rfl,rfl⟩ | ⟨rfl,rfl⟩ | ⟨rfl,rfl⟩
   ·rcases mz hv with ⟨_,rfl⟩ | ⟨h,_⟩ | ⟨h,_⟩ | ⟨h,_⟩
    ·exact ⟨_,rfl,_,rfl,_,_,rfl,rfl,s3 _ _ f,rfl,ao,keep _⟩
    all_goals lia
   ·rcases mz hv with ⟨h,_⟩ | ⟨_,rfl⟩ | ⟨h,_⟩ | ⟨h,_⟩
    ·lia
    ·exact ⟨_,rfl,_,rfl,_,_,rfl,rfl,s3 _ _ f,rfl,ao,keep _⟩
    all_goals lia
   ·rcases mz hv with ⟨h,_⟩ | ⟨h,_⟩ | ⟨_,rfl⟩ | ⟨h,_⟩
    ·lia
    ·lia
    ·exact ⟨_,rfl,_,rfl,_,_,rfl,rfl,s3 _ _ f,rfl,ao,keep _⟩
    ·lia
   ·rcases mz hv with ⟨h,_⟩ | ⟨h,_⟩ | ⟨h,_⟩ | ⟨_,rfl⟩
    ·lia
    ·lia
    ·lia
    ·exact ⟨_,rfl,_,rfl,_,_,rfl,rfl,s3 _ _ f,rfl,ao,keep _⟩
  ·rintro zs H2 ⟨rfl,f,s2⟩
   refine ⟨_,rfl,x,_,dxx,_,rfl,s2 _ _ b1.o,T.jQ,T.uL,(by show 2<1000;decide),?_⟩
   rw [wI]
   have npl:D≠x:=aL (ak b1.o hD)
   refine ⟨_,rfl,k x dxx D _ nx ⟨ao,by rw [au npl];exact f⟩ fun b o e=>?_⟩
   rw [au (ak e nx)];exact s2 _ _ (s1 _ _ e)
  ·exact tU (cO 0) (cO 1)
open MK
noncomputable def un (C D:List Int):List Int:=Sx.dd (C++D)
theorem KC {z:Int}:z∈un C D↔z∈C\/z∈D:=by unfold un;rw [Sx.agk,d9]
theorem abd (C D:List Int):(un C D).Nodup:=Sx.S9 _
theorem amo (C D:List Int):(un C D).length<=C.length+D.length:=by have:=Sx.QF (C++D);rw [dH] at this;exact this
theorem Ul (h:C.Nodup):(up v C).Nodup:=h.filter _
theorem ahv (nd:C.Nodup) (h:∀ z∈C,z∈D):(up v C).length<=(up v D).length :=
 (Ul nd).length_le_of_subset fun z m=>mj.mpr ⟨h z (mj.mp m).1,(mj.mp m).2⟩
theorem abe (n1:C.Nodup) (n2:D.Nodup) (h:∀ z,z∈C↔z∈D):(up v C).Perm (up v D) :=
 (ac9 (Ul n1) (Ul n2)).mpr fun z=>by rw [mj,mj,h z]
theorem lC.set (h:lC r v C) (n1:C.Nodup) (n2:D.Nodup) (e:∀ z,z∈C↔z∈D):lC r v D:=by
 have l:∀ w,(up w C).length=(up w D).length:=fun w=>(abe n1 n2 e).length_eq
 exact ⟨h.1,by rw [<- l];exact h.2.1,fun w a b=>by rw [<- l];exact h.2.2 w a b⟩
theorem lC.uniq {w:Int} (h:lC r v C) (g:lC r w C):v=w:=Lvl.uniq (v:=0) ⟨h.1,h.2.1,h.2.2⟩ ⟨g.1,g.2.1,g.2.2⟩
theorem ai3 (h:C.Nodup):(came C k).Nodup:=Sx.Ms h
noncomputable def ai4 (A:Ad):Sp:=fun vs H Q _=>∃ (p dx l p' dx' l':Addr) (r n v n' v':Int) (C D:List Int),vs=[.ref p,.ref p']/\Dn A H p dx l r n v (srt (up v C))/\Dn A H p' dx' l' r n' v' (srt (up v' D))/\lC r v C/\lC r v' D/\C.Nodup/\D.Nodup/\0<=r/\r<=400/\C.length+D.length<=63 /\
 ∀ (x dxx l2:Addr) (w:Int) (H':Hp),H x=none->H l2=none->lC r w (un C D)->Dn A H' x dxx l2 r (n+n') w (srt (up w (un C D)))->Same H H'->Q (.ref x) H'
noncomputable def ahw (A:Ad):Sp:=fun vs H Q E=>ai4 A vs H Q E\/∃ (p dx l p' dx' l':Addr) (r n v r' n' v':Int) (ks ms:List Int),vs=[.ref p,.ref p']/\Dn A H p dx l r n v ks/\Dn A H p' dx' l' r' n' v' ms/\r≠r'/\E (.ref A.gJ) none H
theorem ajO (T:Tx K mg A):cP P w K mg base (CXE P w) 5 A.X6 A.lg ["one","other"] (ahw A):=by
 k_dat (T.F'48.okE,pH) "a"
 ·rcases h with ⟨p,dx,l,p',dx',l',r,n,v,n',v',C,D,rfl,_⟩ | ⟨p,dx,l,p',dx',l',r,n,v,r',n',v',ks,ms,rfl,_⟩ <;> rfl
 ·skip
  refine ⟨_,(aq (fO (PT.nox (bB Ar (aB (pv 0) rfl) (aB (pv 1) rfl) (bR _))) (aF (rT Ln T.iW rfl T.pC (aj Dt aA))) dj)
   (aq (PS.nox (aX (i:=2) pH.nd rfl (Or.inl rfl) (fC T.ajt (ajz T) tb_g% rfl T.JT T.b'16 .nil aQ (aj (aB (pv 0) rfl) aA))))
   (aq (PS.nox (aU (pv 2) (aM cu (aB (pv 0) rfl) (aB (pv 1) rfl)) rfl))
   (aq (PS.nox (aU (pv 2) (cA (Lz rfl) (by rfl) T.ag6 ael (aj (aB (pv 0) rfl) (aj (aB (pv 1) rfl) aA))) rfl))
   (aq (PS.nox (bF (dG (pv 2) T.dR T.qH (ajB T) tb_g% T.b'18 .nil aQ (aj (aJ (ajA T) tb_g% rfl T.JW T.F'17.kp T.b'17 .nil aQ (aj (cA (Zw rfl) (by rfl) T.pG Dj (aj (fJ (abS rfl) (by rfl) T.n_set ajU (aj (aM zF (aB (pv 0) rfl) (aB (pv 1) rfl)) aA)) aA)) (aj (aB (pv 2) rfl) aA))) aA))))
   (aF (PS.nox (cB (pv 2))))))))),?_⟩
  rcases h with ⟨p,dx,l,p',dx',l',r,n,v,n',v',C,D,rfl,h1,h2,L1,L2',nC,nD,r0,r4,f63,q⟩ | ⟨p,dx,l,p',dx',l',r,n,v,r',n',v',ks,ms,rfl,h1,h2,hd,q⟩
  rotate_left
  ·refine ⟨_,rfl,rdF h1.o T.dR T.wA (qN ..) ⟨_,rfl,rdF h2.o T.dR T.wA (qN ..) ⟨rfl,_,rfl,?_⟩⟩⟩
   rw [decide_eq_false (fun y=>hd (V.int.inj y))]
   exact Bb ⟨by show 1<=sizeLine;decide,q⟩
  refine ⟨_,rfl,rdF h1.o T.dR T.wA (qN ..) ⟨_,rfl,rdF h2.o T.dR T.wA (qN ..) ⟨rfl,_,rfl,Bc rfl ?_⟩⟩⟩
  refine ⟨_,rfl,rdF h1.o T.dR T.wA (qN ..) fun x dxx nx ndx nex=>?_⟩
  refine ⟨x,dxx,r,rfl,L2.ao,fun d H1 hd e1 e2 bt1=>⟨rfl,?_⟩⟩
  have s1:Same H H1:=fun b o e=>bt1 b o (by rw [au (ak e nx),au (ak e ndx)];exact e) (ak e nx)
  have v0:=L1.1
  have v0':=L2'.1
  have v61:=L1.le r0
  have v61':=L2'.le r0
  refine ⟨_,rfl,rdF (s1 _ _ h1.o) T.dR T.xY (mU ..) ⟨_,rfl,rdF (s1 _ _ h2.o) T.dR T.xY (mU ..) ⟨_,_,rfl,rfl,_,rfl,x,_,dxx,_,rfl,e1,T.dR,T.xY,(by show 4<1000;decide),?_⟩⟩⟩
  rw [uU]
  have s2:Same H (upd H1 x (.ins A.gQ dxx (df (.int r) (.int (n+n')) (.int 0) (.ref d)))):=fun b o e=>by rw [au (ak e nx)];exact s1 b o e
  have o2:(upd H1 x (.ins A.gQ dxx (df (.int r) (.int (n+n')) (.int 0) (.ref d)))) x=some (.ins A.gQ dxx (df (.int r) (.int (n+n')) (.int 0) (.ref d))):=L2.ao
  generalize upd H1 x (.ins A.gQ dxx (df (.int r) (.int (n+n')) (.int 0) (.ref d)))=H2 at s2 o2 ⊢
  refine ⟨_,rfl,rdF (s2 _ _ h1.o) T.dR T.rY (lB ..) ⟨_,rfl,rdF (s2 _ _ h2.o) T.dR T.rY (lB ..) ⟨_,_,rfl,_,rfl,x,_,dxx,_,rfl,o2,T.dR,T.rY,(by show 4<1000;decide),?_⟩⟩⟩
  rw [Cj]
  have hm:v<=(if v'>v then v' else v)/\v'<=(if v'>v then v' else v)/\(if v'>v then v' else v)<=61/\((if v'>v then v' else v)=v\/(if v'>v then v' else v)=v'):=by split <;> lia
  generalize (if v'>v then v' else v)=m at hm ⊢
  obtain ⟨m1,m2,m61,me⟩:=hm
  have s3:Same H (upd H2 x (.ins A.gQ dxx (df (.int r) (.int (n+n')) (.int m) (.ref d)))):=fun b o e=>by rw [au (ak e nx)];exact s2 b o e
  have o3:(upd H2 x (.ins A.gQ dxx (df (.int r) (.int (n+n')) (.int m) (.ref d)))) x=some (.ins A.gQ dxx (df (.int r) (.int (n+n')) (.int m) (.ref d))):=L2.ao
  generalize upd H2 x (.ins A.gQ dxx (df (.int r) (.int (n+n')) (.int m) (.ref d)))=H3 at s3 o3 ⊢
  have k1:(srt (up v C)).length<=C.length:=by rw [gn];exact vo _ _
  have k2:(srt (up v' D)).length<=D.length:=by rw [gn];exact vo _ _
  have k3:=Sx.QF (srt (up v C)++srt (up v' D))
  rw [dH] at k3
  refine ⟨_,rfl,x,dxx,_,rfl,o3,ahh _ _ _ _ tb_g% tb_g% tb_g% tb_g%,?_⟩
  refine ⟨_,rfl,rdF (s3 _ _ h1.o) T.dR T.xZ (wV ..) ⟨_,rfl,rdF (s3 _ _ h2.o) T.dR T.xZ (wV ..) ⟨l,l',_,_,rfl,rfl,s3 _ _ h1.l,s3 _ _ h2.l,mG (aV (by rw [bG,bG];lia)),fun l4 hl4=>?_⟩⟩⟩
  rw [<- eG]
  have s4:=s3.trans (Same.new (o:=.lst ((srt (up v C)++srt (up v' D)).map V.int)) hl4)
  have o4:=(Same.new (o:=.lst ((srt (up v C)++srt (up v' D)).map V.int)) hl4) _ _ o3
  have f4:(upd H3 l4 (.lst ((srt (up v C)++srt (up v' D)).map V.int))) l4=some (.lst ((srt (up v C)++srt (up v' D)).map V.int)):=L2.ao
  generalize upd H3 l4 (.lst ((srt (up v C)++srt (up v' D)).map V.int))=H4 at s4 o4 f4 ⊢
  refine ⟨l4,_,rfl,.inl (.inl f4),by rw [dH];lia,fun sa hsa=>⟨sa,_,rfl,L2.ao,by lia,fun l5 ns hl5 pm so=>?_⟩⟩
  obtain rfl:ns=srt (Sx.dd (srt (up v C)++srt (up v' D))):=rm pm so
  have t5:=(Same.new hsa).trans (Same.new (o:=.lst ((srt (Sx.dd (srt (up v C)++srt (up v' D)))).map V.int)) hl5)
  generalize hH5:upd (upd H4 sa _) l5 (.lst ((srt (Sx.dd (srt (up v C)++srt (up v' D)))).map V.int))=H5 at t5 ⊢
  have f5:H5 l5=some (.lst ((srt (Sx.dd (srt (up v C)++srt (up v' D)))).map V.int)):=by rw [<- hH5];exact L2.ao
  have s5:=s4.trans t5
  have o5:=t5 _ _ o4
  have ln:(srt (Sx.dd (srt (up v C)++srt (up v' D)))).length<=63:=by
   rw [gn]
   have:=Sx.QF (srt (up v C)++srt (up v' D))
   rw [dH] at this
   lia
  refine ⟨_,rfl,rdF o5 T.dR T.rY (lB ..) ⟨l5,m,_,rfl,f5,by lia,fun l6 H6 nl6 g6 s6=>?_⟩⟩
  have o6:=s6 _ _ o5
  have nS:(srt (Sx.dd (srt (up v C)++srt (up v' D)))).Nodup:=(gZ _).nodup_iff.mpr (Sx.S9 _)
  have ks:∀ w,m<=w->(up w (up m (srt (Sx.dd (srt (up v C)++srt (up v' D)))))).Perm (up w (un C D)):=fun w hw=>by
   rw [aa1 hw]
   refine (ac9 (Ul nS) (Ul (abd C D))).mpr fun z=>?_
   rw [mj,mj,qF,Sx.agk,d9,qF,qF,mj,mj,KC]
   constructor
   ·rintro ⟨a | a,b⟩
    ·exact ⟨.inl a.1,b⟩
    ·exact ⟨.inr a.1,b⟩
   ·rintro ⟨a | a,b⟩
    ·exact ⟨.inl ⟨a,by lia⟩,b⟩
    ·exact ⟨.inr ⟨a,by lia⟩,b⟩
  have lu:(up m (srt (Sx.dd (srt (up v C)++srt (up v' D))))).length<=63:=jL (vo _ _) ln
  refine ⟨x,dxx,l6,d,r,n+n',m,_,rfl,o6,g6,by lia,r0,by lia,m61,fun z hz=>(mj.mp hz).2,fun l7 w H7 lv dn bt nl7=>⟨_,rfl,?_⟩⟩
  have s06:=s5.trans s6
  have lw:=lv.1
  refine q x dxx l7 w H7 nx (s06.free nl7) ⟨by lia,?_,fun u u0 uw=>?_⟩ ?_ fun b o e=>bt b o (s06 _ _ e) (ak e nx)
  ·rw [<- (ks w lw).length_eq];exact lv.2.1
  ·rcases (show u<m\/m<=u by lia) with z | z
   ·rcases me with e | e
    ·have:=L1.2.2 u u0 tb_g%
     have:=ahv (v:=u) nC (D:=un C D) fun z m=>KC.mpr (.inl m)
     lia
    ·have:=L2'.2.2 u u0 tb_g%
     have:=ahv (v:=u) nD (D:=un C D) fun z m=>KC.mpr (.inr m)
     lia
   ·rw [<- (ks u z).length_eq];exact lv.2.2 u z uw
  ·rw [ZX,En (ks w lw)] at dn;exact dn
open MK
noncomputable def FP (room:Nat) (f g h:Fq):Prop:=∃ cut,gK room (nM f.c g.c) h.c cut/\h.t=f.t+g.t/\h.l=f.l+g.l+cut
structure RP (f g h:Rs):Prop where
 r:h.r=f.r
 tt:h.tt=f.tt+g.tt
 mi:h.mi=lo2 f.mi g.mi
 ma:h.ma=hi2 f.ma g.ma
 st:RG.Stl f.r 0 (f.tn+g.tn) (f.ov+g.ov) (f.un+g.un) (RG.join f.ls g.ls) h.ls h.tn h.ov h.un
noncomputable def WP (room:Nat) (reach:Int) (f g h:Wi):Prop:=h.c=f.c+g.c/\bx h.ps=dF room (f.c+g.c-reach) (bx f.ps++(bx g.ps).map (shift f.c))
noncomputable def DP (room:Nat) (f g h:Di):Prop:=h.n=f.n+g.n/\h.C=un f.C g.C/\lC room h.v (un f.C g.C)
structure KP (x y z:KS):Prop where
 room:z.room=x.room
 reach:z.reach=x.reach
 span:z.span=x.span
 cm:FP x.room x.cm y.cm z.cm
 wn:FP x.room x.wn y.wn z.wn
 up:RP x.up.x y.up.x z.up.x
 dn:RP x.dn.x y.dn.x z.dn.x
 wi:WP x.room x.reach x.wi y.wi z.wi
 di:DP x.room x.di y.di z.di
 ba:z.ba.q=addQ x.ba.q y.ba.q
/-- two that can be poured together -/
structure Alk (x y:KS) (n m:Nat):Prop where
 room:y.room=x.room
 reach:y.reach=x.reach
 span:y.span=x.span
 kx:Kh x n
 ky:Kh y m
 few:n+m<=63
 nx:x.di.C.Nodup
 ny:y.di.C.Nodup
theorem KP.kh {m:Nat} (h:KP x y z) (a:Alk x y n m):Kh z (n+m):=by
 have gf:∀ {f g k:Fq},FP x.room f g k->Gf x.room f n->Gf y.room g m->Gf z.room k (n+m):=fun {f g k} ⟨cut,ft,e1,e2⟩ ⟨⟨W,o1⟩,t1,k1⟩ ⟨⟨V,o2⟩,t2,k2⟩=>by
  rw [a.room] at o2
  rw [h.room]
  exact ⟨⟨_,by rw [e1,e2];exact (o1.Zd o2).fit ft⟩,by rw [e1];lia,by have:=Gs ft;have:=kJ g.c f.c;lia⟩
 have gr:∀ {f g k:Rs},RP f g k->Gr x.room f n->Gr y.room g m->Gr z.room k (n+m):=fun {f g k} p g1 g2=>by
  have e:g.r=f.r:=by rw [g1.r,g2.r,a.room]
  have h2:=g2.g
  rw [e] at h2
  refine ⟨by rw [p.r,g1.r,h.room],by rw [p.r,p.tt];exact g1.g.Zd h2 p.st,by have:=g1.t;have:=g2.t;rw [p.tt];lia,?_⟩
  rw [h.room]
  refine a.kx.rr.imp id fun z=>?_
  have jl:=RG.Bt (P:=fun k=>k.length<=n+m) (l:=f.ls) (m:=g.ls) fun i=>by
   rw [RG.zN]
   have e1:=RG.rR (P:=fun k=>k.length<=n) (g1.sm.resolve_left tb_g%) (cY _) i
   have e2:=RG.rR (P:=fun k=>k.length<=m) (g2.sm.resolve_left (by have:=a.room;lia)) (cY _) i
   lia
  have fe:=a.few
  have fr:=g1.r
  obtain ⟨e,_⟩:=(Kv 0 (f.tn+g.tn) (f.ov+g.ov) (f.un+g.un) fun l ml=>by have:=jl l ml;lia).uniq p.st
  rw [e];exact jl
 have l1:=a.kx.wl
 have l2:=a.ky.wl
 have l3:=a.kx.dc
 have l4:=a.ky.dc
 refine ⟨by rw [h.room];exact a.kx.r2,by rw [h.room];exact a.kx.r64,by rw [h.room];exact a.kx.rr,gf h.cm a.kx.cm a.ky.cm,gf h.wn a.kx.wn a.ky.wn,gr h.up a.kx.up a.ky.up,gr h.dn a.kx.dn a.ky.dn,?_,by rw [h.room,h.di.2.1];exact h.di.2.2,?_,a.few⟩
 ·have:=Ui x.room (x.wi.c+y.wi.c-x.reach) (bx x.wi.ps++(bx y.wi.ps).map (shift x.wi.c))
  rw [<- h.wi.2,jH,dH,bG,jH,jH] at this
  lia
 ·have:=amo x.di.C y.di.C
  rw [h.di.2.1];lia
theorem Alk.jb {m:Nat} (a:Alk x y n m) {f:Rs} (g1:Gr x.room f n) (g2:Gr y.room g m):(∀ k∈RG.join f.ls g.ls,k.length<=63)/\((∀ k∈RG.join f.ls g.ls,k.length<=31)\/∀ k∈RG.join f.ls g.ls,(k.length:Int)<=f.r):=by
 have fe:=a.few
 have e1:=g1.r
 have e2:=g2.r
 have e3:=a.room
 rcases a.kx.rr with z | z
 ·have jl:=RG.Bt (P:=fun k=>k.length<=30) (l:=f.ls) (m:=g.ls) fun i=>by
   rw [RG.zN]
   have e1:=RG.rR (P:=fun k=>k.length<=15) (fun k hk=>by have:=g1.g.sm k hk;lia) (cY _) i
   have e2:=RG.rR (P:=fun k=>k.length<=15) (fun k hk=>by have:=g2.g.sm k hk;lia) (cY _) i
   lia
  exact ⟨fun k hk=>by have:=jl k hk;lia,.inl fun k hk=>by have:=jl k hk;lia⟩
 ·have jl:=RG.Bt (P:=fun k=>k.length<=n+m) (l:=f.ls) (m:=g.ls) fun i=>by
   rw [RG.zN]
   have e1:=RG.rR (P:=fun k=>k.length<=n) (g1.sm.resolve_left tb_g%) (cY _) i
   have e2:=RG.rR (P:=fun k=>k.length<=m) (g2.sm.resolve_left tb_g%) (cY _) i
   lia
  exact ⟨fun k hk=>by have:=jl k hk;lia,.inr fun k hk=>by have:=jl k hk;lia⟩
theorem FP.eq {f g h k:Fq} (a:FP room f g h) (b:FP room f g k):EF h k:=by
 obtain ⟨c1,f1,t1,l1⟩:=a
 obtain ⟨c2,f2,t2,l2⟩:=b
 obtain ⟨e1,e2⟩:=f1.uniq f2
 exact ⟨t1.trans t2.symm,by rw [l1,l2,e2],e1⟩
theorem RP.eq {f h k:Rs} (a:RP f g h) (b:RP f g k):ER h k:=by
 obtain ⟨e1,e2,e3,e4⟩:=b.st.uniq a.st
 exact ⟨a.r.trans b.r.symm,a.tt.trans b.tt.symm,e3,e4,e2,a.mi.trans b.mi.symm,a.ma.trans b.ma.symm,e1⟩
/-- poured twice,they are alike -/
theorem KP.eq {k:KS} (a:KP x y z) (b:KP x y k):Eqp z k :=
 ⟨a.room.trans b.room.symm,a.reach.trans b.reach.symm,a.span.trans b.span.symm,a.cm.eq b.cm,a.wn.eq b.wn,a.up.eq b.up,a.dn.eq b.dn,⟨a.wi.1.trans b.wi.1.symm,a.wi.2.trans b.wi.2.symm⟩,⟨a.di.1.trans b.di.1.symm,a.di.2.2.uniq b.di.2.2,a.di.2.1.trans b.di.2.1.symm⟩,a.ba.trans b.ba.symm⟩
theorem z8 {L:List Addr} {y:Addr}:∀ {i:Nat},L.Nodup->y∉L->(L.set i y).Nodup:=by
 induction L with
 | nil=>intro i h _;exact h
 | cons a r ih =>
  intro i h n
  obtain ⟨h1,h2⟩:=lF.mp h
  have n1:y≠a:=fun z=>n (by rw [z];exact cX)
  have n2:y∉r:=fun z=>n (gF _ z)
  cases i with
  | zero=>exact lF.mpr ⟨n2,h2⟩
  | succ i =>
   refine lF.mpr ⟨fun m=>?_,ih h2 n2⟩
   rcases xM m with z | z
   ·exact h1 z
   ·exact n1 z.symm
theorem Kp.fresh (h:Kp A G x) {p:Addr} (n:G p=none):p∉x.all:=by
 intro m
 unfold KS.all at m
 simp only [bN,jK,or_false] at m
 rcases m with rfl | rfl | rfl | rfl | rfl | rfl | rfl | rfl
 ·rw [h.o] at n;cases n
 ·rw [h.cm.o] at n;cases n
 ·rw [h.wn.o] at n;cases n
 ·rw [h.up.o] at n;cases n
 ·rw [h.dn.o] at n;cases n
 ·rw [h.wi.o] at n;cases n
 ·rw [h.di.o] at n;cases n
 ·rw [h.ba.o] at n;cases n
theorem Kp.putC (h:Kp A G x) (s:Same G G') {f:Fq} (n:G f.p=none) (hf:wJ A G' x.room f):Kp A (L2.upd G' x.k (.ins A.bw x.dk (kf (.int x.room) (.int x.reach) (.int x.span) (.ref f.p) (.ref x.wn.p) (.ref x.up.p) (.ref x.dn.p) (.ref x.wi.p) (.ref x.di.p) (.ref x.ba.p)))) { x with cm:=f }:=by
 have a:=h.ap
 have o:=s _ _ h.o
 have b:L2.But x.k G' (L2.upd G' x.k (.ins A.bw x.dk (kf (.int x.room) (.int x.reach) (.int x.span) (.ref f.p) (.ref x.wn.p) (.ref x.up.p) (.ref x.dn.p) (.ref x.wi.p) (.ref x.di.p) (.ref x.ba.p)))):=But.upd
 have nk:f.p≠x.k:=aL (ak h.o n)
 have hf:=hf.but b o nk
 have h1:=(h.cm.same s).but b o (aL a.k1)
 have h2:=(h.wn.same s).but b o (aL a.k2)
 have h3:=(h.up.same s).but b o (aL a.k3)
 have h4:=(h.dn.same s).but b o (aL a.k4)
 have h5:=(h.wi.same s).but b o (aL a.k5)
 have h6:=(h.di.same s).but b o (aL a.k6)
 have h7:=(h.ba.same s).but b o (aL a.k7)
 exact ⟨L2.ao,hf,h2,h3,h4,h5,h6,h7,z8 (L:=x.all) (i:=1) h.nd (h.fresh n)⟩
theorem Kp.putW (h:Kp A G x) (s:Same G G') {f:Fq} (n:G f.p=none) (hf:wJ A G' x.room f):Kp A (L2.upd G' x.k (.ins A.bw x.dk (kf (.int x.room) (.int x.reach) (.int x.span) (.ref x.cm.p) (.ref f.p) (.ref x.up.p) (.ref x.dn.p) (.ref x.wi.p) (.ref x.di.p) (.ref x.ba.p)))) { x with wn:=f }:=by
 have a:=h.ap
 have o:=s _ _ h.o
 have b:L2.But x.k G' (L2.upd G' x.k (.ins A.bw x.dk (kf (.int x.room) (.int x.reach) (.int x.span) (.ref x.cm.p) (.ref f.p) (.ref x.up.p) (.ref x.dn.p) (.ref x.wi.p) (.ref x.di.p) (.ref x.ba.p)))):=But.upd
 have nk:f.p≠x.k:=aL (ak h.o n)
 have hf:=hf.but b o nk
 have h1:=(h.cm.same s).but b o (aL a.k1)
 have h2:=(h.wn.same s).but b o (aL a.k2)
 have h3:=(h.up.same s).but b o (aL a.k3)
 have h4:=(h.dn.same s).but b o (aL a.k4)
 have h5:=(h.wi.same s).but b o (aL a.k5)
 have h6:=(h.di.same s).but b o (aL a.k6)
 have h7:=(h.ba.same s).but b o (aL a.k7)
 exact ⟨L2.ao,h1,hf,h3,h4,h5,h6,h7,z8 (L:=x.all) (i:=2) h.nd (h.fresh n)⟩
theorem Kp.putU (h:Kp A G x) (s:Same G G') {f:Ru} (n:G f.p=none) (hf:RnX A G' f.p f.x):Kp A (L2.upd G' x.k (.ins A.bw x.dk (kf (.int x.room) (.int x.reach) (.int x.span) (.ref x.cm.p) (.ref x.wn.p) (.ref f.p) (.ref x.dn.p) (.ref x.wi.p) (.ref x.di.p) (.ref x.ba.p)))) { x with up:=f }:=by
 have a:=h.ap
 have o:=s _ _ h.o
 have b:L2.But x.k G' (L2.upd G' x.k (.ins A.bw x.dk (kf (.int x.room) (.int x.reach) (.int x.span) (.ref x.cm.p) (.ref x.wn.p) (.ref f.p) (.ref x.dn.p) (.ref x.wi.p) (.ref x.di.p) (.ref x.ba.p)))):=But.upd
 have nk:f.p≠x.k:=aL (ak h.o n)
 have hf:=hf.but b o nk
 have h1:=(h.cm.same s).but b o (aL a.k1)
 have h2:=(h.wn.same s).but b o (aL a.k2)
 have h3:=(h.up.same s).but b o (aL a.k3)
 have h4:=(h.dn.same s).but b o (aL a.k4)
 have h5:=(h.wi.same s).but b o (aL a.k5)
 have h6:=(h.di.same s).but b o (aL a.k6)
 have h7:=(h.ba.same s).but b o (aL a.k7)
 exact ⟨L2.ao,h1,h2,hf,h4,h5,h6,h7,z8 (L:=x.all) (i:=3) h.nd (h.fresh n)⟩
theorem Kp.putD (h:Kp A G x) (s:Same G G') {f:Ru} (n:G f.p=none) (hf:RnX A G' f.p f.x):Kp A (L2.upd G' x.k (.ins A.bw x.dk (kf (.int x.room) (.int x.reach) (.int x.span) (.ref x.cm.p) (.ref x.wn.p) (.ref x.up.p) (.ref f.p) (.ref x.wi.p) (.ref x.di.p) (.ref x.ba.p)))) { x with dn:=f }:=by
 have a:=h.ap
 have o:=s _ _ h.o
 have b:L2.But x.k G' (L2.upd G' x.k (.ins A.bw x.dk (kf (.int x.room) (.int x.reach) (.int x.span) (.ref x.cm.p) (.ref x.wn.p) (.ref x.up.p) (.ref f.p) (.ref x.wi.p) (.ref x.di.p) (.ref x.ba.p)))):=But.upd
 have nk:f.p≠x.k:=aL (ak h.o n)
 have hf:=hf.but b o nk
 have h1:=(h.cm.same s).but b o (aL a.k1)
 have h2:=(h.wn.same s).but b o (aL a.k2)
 have h3:=(h.up.same s).but b o (aL a.k3)
 have h4:=(h.dn.same s).but b o (aL a.k4)
 have h5:=(h.wi.same s).but b o (aL a.k5)
 have h6:=(h.di.same s).but b o (aL a.k6)
 have h7:=(h.ba.same s).but b o (aL a.k7)
 exact ⟨L2.ao,h1,h2,h3,hf,h5,h6,h7,z8 (L:=x.all) (i:=4) h.nd (h.fresh n)⟩
theorem Kp.putI (h:Kp A G x) (s:Same G G') {f:Wi} (n:G f.p=none) (hf:Wn A G' f.p f.dx f.l x.room x.reach f.c f.ps):Kp A (L2.upd G' x.k (.ins A.bw x.dk (kf (.int x.room) (.int x.reach) (.int x.span) (.ref x.cm.p) (.ref x.wn.p) (.ref x.up.p) (.ref x.dn.p) (.ref f.p) (.ref x.di.p) (.ref x.ba.p)))) { x with wi:=f }:=by
 have a:=h.ap
 have o:=s _ _ h.o
 have b:L2.But x.k G' (L2.upd G' x.k (.ins A.bw x.dk (kf (.int x.room) (.int x.reach) (.int x.span) (.ref x.cm.p) (.ref x.wn.p) (.ref x.up.p) (.ref x.dn.p) (.ref f.p) (.ref x.di.p) (.ref x.ba.p)))):=But.upd
 have nk:f.p≠x.k:=aL (ak h.o n)
 have hf:=hf.but b o nk
 have h1:=(h.cm.same s).but b o (aL a.k1)
 have h2:=(h.wn.same s).but b o (aL a.k2)
 have h3:=(h.up.same s).but b o (aL a.k3)
 have h4:=(h.dn.same s).but b o (aL a.k4)
 have h5:=(h.wi.same s).but b o (aL a.k5)
 have h6:=(h.di.same s).but b o (aL a.k6)
 have h7:=(h.ba.same s).but b o (aL a.k7)
 exact ⟨L2.ao,h1,h2,h3,h4,hf,h6,h7,z8 (L:=x.all) (i:=5) h.nd (h.fresh n)⟩
theorem Kp.putS (h:Kp A G x) (s:Same G G') {f:Di} (n:G f.p=none) (hf:Dn A G' f.p f.dx f.l x.room f.n f.v (srt (My.up f.v f.C))):Kp A (L2.upd G' x.k (.ins A.bw x.dk (kf (.int x.room) (.int x.reach) (.int x.span) (.ref x.cm.p) (.ref x.wn.p) (.ref x.up.p) (.ref x.dn.p) (.ref x.wi.p) (.ref f.p) (.ref x.ba.p)))) { x with di:=f }:=by
 have a:=h.ap
 have o:=s _ _ h.o
 have b:L2.But x.k G' (L2.upd G' x.k (.ins A.bw x.dk (kf (.int x.room) (.int x.reach) (.int x.span) (.ref x.cm.p) (.ref x.wn.p) (.ref x.up.p) (.ref x.dn.p) (.ref x.wi.p) (.ref f.p) (.ref x.ba.p)))):=But.upd
 have nk:f.p≠x.k:=aL (ak h.o n)
 have hf:=hf.but b o nk
 have h1:=(h.cm.same s).but b o (aL a.k1)
 have h2:=(h.wn.same s).but b o (aL a.k2)
 have h3:=(h.up.same s).but b o (aL a.k3)
 have h4:=(h.dn.same s).but b o (aL a.k4)
 have h5:=(h.wi.same s).but b o (aL a.k5)
 have h6:=(h.di.same s).but b o (aL a.k6)
 have h7:=(h.ba.same s).but b o (aL a.k7)
 exact ⟨L2.ao,h1,h2,h3,h4,h5,hf,h7,z8 (L:=x.all) (i:=6) h.nd (h.fresh n)⟩
theorem Kp.putB (h:Kp A G x) (s:Same G G') {f:Ba} (n:G f.p=none) (hf:Bn A G' f.p f.dx f.l x.span f.q):Kp A (L2.upd G' x.k (.ins A.bw x.dk (kf (.int x.room) (.int x.reach) (.int x.span) (.ref x.cm.p) (.ref x.wn.p) (.ref x.up.p) (.ref x.dn.p) (.ref x.wi.p) (.ref x.di.p) (.ref f.p)))) { x with ba:=f }:=by
 have a:=h.ap
 have o:=s _ _ h.o
 have b:L2.But x.k G' (L2.upd G' x.k (.ins A.bw x.dk (kf (.int x.room) (.int x.reach) (.int x.span) (.ref x.cm.p) (.ref x.wn.p) (.ref x.up.p) (.ref x.dn.p) (.ref x.wi.p) (.ref x.di.p) (.ref f.p)))):=But.upd
 have nk:f.p≠x.k:=aL (ak h.o n)
 have hf:=hf.but b o nk
 have h1:=(h.cm.same s).but b o (aL a.k1)
 have h2:=(h.wn.same s).but b o (aL a.k2)
 have h3:=(h.up.same s).but b o (aL a.k3)
 have h4:=(h.dn.same s).but b o (aL a.k4)
 have h5:=(h.wi.same s).but b o (aL a.k5)
 have h6:=(h.di.same s).but b o (aL a.k6)
 have h7:=(h.ba.same s).but b o (aL a.k7)
 exact ⟨L2.ao,h1,h2,h3,h4,h5,h6,hf,z8 (L:=x.all) (i:=7) h.nd (h.fresh n)⟩
open MK
noncomputable def ai5 (A:Ad):Sp:=fun vs H Q _=>∃ x:KS,vs=[.ref x.k]/\Kp A H x/\2<=x.room/\x.room<=64/\x.room % 2=0/\∀ (y:KS) (H':Hp),Kp A H' y->Eqp y (K0 x.room x.reach x.span)->(∀ b∈y.all,H b=none)->Same H H'->Q (.ref y.k) H'
theorem abf (T:Tx K mg A):cP P w K mg base CX0 5 A.X7 A.ug ["keepsake"] (ai5 A):=by
 k_dat (T.ag3.ok,Li) "a"
 ·obtain ⟨x,rfl,_⟩:=h
  rfl
 ·obtain ⟨x,rfl,hK,r2,r64,ev,q⟩:=h
  refine ⟨_,(aF (cB (fC T.JV (Kz T) tb_g% rfl T.jd T.ZR .nil aQ (aj (aB (pv 0) rfl) (aj (aB (pv 0) rfl) (aj (aB (pv 0) rfl) aA)))))),?_⟩
  refine ⟨_,rfl,rdF hK.o T.aW T.yg (uD ..) ⟨_,rfl,rdF hK.o T.aW T.yh (pJ ..) ⟨_,rfl,rdF hK.o T.aW T.uM (nW ..) ?_⟩⟩⟩
  refine fun k dk n1 n2 n3=>⟨k,dk,x.room,x.reach,x.span,rfl,ao,r2,r64,ev,fun y H2 kp eqy ek xH bt=>⟨rfl,?_⟩⟩
  k_dat H "d"
  rw [<- ek]
  exact q y H2 kp eqy (fun b m=>by
   rcases bN.mp (show b∈y.k::y.pts from m) with z | z
   ·rw [z,ek];exact n1
   ·exact up2.free (xH b z)) fun b o e=>bt b o (up2 b o e) (ak e n1)
noncomputable def ai6 (A:Ad):Sp:=fun vs H Q _=>∃ (x y:KS) (n m:Nat),vs=[.ref x.k,.ref y.k]/\Kp A H x/\Kp A H y/\Alk x y n m/\∀ (z:KS) (H':Hp),Kp A H' z->KP x y z->(∀ b∈z.all,H b=none)->Same H H'->Q (.ref z.k) H'
/-- the object alone -/
noncomputable def Ko (A:Ad) (H:Hp) (x:KS):Prop:=H x.k=some (.ins A.bw x.dk (kf (.int x.room) (.int x.reach) (.int x.span) (.ref x.cm.p) (.ref x.wn.p) (.ref x.up.p) (.ref x.dn.p) (.ref x.wi.p) (.ref x.di.p) (.ref x.ba.p)))
noncomputable def ahx (A:Ad):Sp:=fun vs H Q E=>ai6 A vs H Q E\/∃ x y:KS,vs=[.ref x.k,.ref y.k]/\Ko A H x/\Ko A H y/\(x.room≠y.room\/x.reach≠y.reach\/x.span≠y.span)/\E (.ref A.gJ) none H
theorem Um (T:Tx K mg A):cP P w K mg base (CXE P w) 6 A.X8 A.JR ["one","other"] (ahx A):=by
 k_dat (T.aci.okE,M8) "a"
 ·rcases h with ⟨x,y,n,m,rfl,_⟩ | ⟨x,y,rfl,_⟩ <;> rfl
 ·skip
  refine ⟨_,(aq (fO (PT.nox (PW.pt (pw_or (bB Ar (aB (pv 0) rfl) (aB (pv 1) rfl) (bR _)) (pw_or (bB Ar (aB (pv 0) rfl) (aB (pv 1) rfl) (bR _)) (pw_or1 (bB Ar (aB (pv 0) rfl) (aB (pv 1) rfl) (bR _))))))) (aF (rT Ln T.iW rfl T.pC (aj Dt aA))) dj)
   (aq (PS.nox (aX (i:=2) M8.nd rfl (Or.inl rfl) (aJ (abf T) tb_g% rfl T.nR T.ag3.kp T.b'49 .nil aQ (aj (pv 0) aA))))
   (aq (PS.nox (aU (pv 2) (aJ (aa9 T) tb_g% rfl T.iQ T.ag1.kp T.b'43 .nil iG (aj (aB (pv 0) rfl) (aj (aB (pv 1) rfl) aA))) rfl))
   (aq (PS.nox (aU (pv 2) (aJ (aa9 T) tb_g% rfl T.iQ T.ag1.kp T.b'43 .nil iG (aj (aB (pv 0) rfl) (aj (aB (pv 1) rfl) aA))) rfl))
   (aq (PS.nox (aU (pv 2) (aJ (abb T) tb_g% rfl T.lA T.ag2.kp T.b'45 .nil iG (aj (aB (pv 0) rfl) (aj (aB (pv 1) rfl) aA))) rfl))
   (aq (PS.nox (aU (pv 2) (aJ (abb T) tb_g% rfl T.lA T.ag2.kp T.b'45 .nil iG (aj (aB (pv 0) rfl) (aj (aB (pv 1) rfl) aA))) rfl))
   (aq (PS.nox (aU (pv 2) (aJ (ajM T) tb_g% rfl T.Ka T.F'46.kp T.b'46 .nil iG (aj (aB (pv 0) rfl) (aj (aB (pv 1) rfl) aA))) rfl))
   (aq (PS.nox (aU (pv 2) (aJ (ajO T) tb_g% rfl T.qI T.F'48.kp T.b'48 .nil iG (aj (aB (pv 0) rfl) (aj (aB (pv 1) rfl) aA))) rfl))
   (aq (PS.nox (aU (pv 2) (aJ (ajN T) tb_g% rfl T.rZ T.F'47.kp T.b'47 .nil iG (aj (aB (pv 0) rfl) (aj (aB (pv 1) rfl) aA))) rfl))
   (aF (PS.nox (cB (pv 2))))))))))))),?_⟩
  rcases h with ⟨x,y,n,m,rfl,hX,hY,al,q⟩ | ⟨x,y,rfl,hX,hY,hd,q⟩
  rotate_left
  ·skip
   refine ⟨_,rfl,rdF hX T.aW T.yg (uD ..) ⟨_,rfl,rdF hY T.aW T.yg (uD ..) ⟨rfl,_,rfl,gP (fun h=>Bb ⟨by show 1<=sizeLine;decide,q⟩) (fun h1=>?_)⟩⟩⟩
   refine ⟨_,rfl,rdF hX T.aW T.yh (pJ ..) ⟨_,rfl,rdF hY T.aW T.yh (pJ ..) ⟨rfl,_,rfl,gP (fun h=>Bb ⟨by show 1<=sizeLine;decide,q⟩) (fun h2=>?_)⟩⟩⟩
   refine ⟨_,rfl,rdF hX T.aW T.uM (nW ..) ⟨_,rfl,rdF hY T.aW T.uM (nW ..) ⟨rfl,_,rfl,?_⟩⟩⟩
   have no:∀ {a b:Int},¬ (!decide (V.int a=V.int b))=true->a=b:=fun {a b} h=>by
    by_cases z:a=b
    ·exact z
    ·exfalso;apply h;rw [decide_eq_false (fun y=>z (V.int.inj y))];rfl
   have e1:=no h1
   have e2:=no h2
   have hs:x.span≠y.span:=by
    rcases hd with z | z | z
    ·exact absurd (ald e1) z
    ·exact absurd e2 z
    ·exact z
   rw [decide_eq_false (fun y=>hs (V.int.inj y))]
   exact Bb ⟨by show 1<=sizeLine;decide,q⟩
  refine ⟨_,rfl,rdF hX.o T.aW T.yg (uD ..) ⟨_,rfl,rdF hY.o T.aW T.yg (uD ..) ⟨rfl,_,rfl,Bc (by rw [al.room]) ?_⟩⟩⟩
  refine ⟨_,rfl,rdF hX.o T.aW T.yh (pJ ..) ⟨_,rfl,rdF hY.o T.aW T.yh (pJ ..) ⟨rfl,_,rfl,Bc (by rw [al.reach]) ?_⟩⟩⟩
  refine ⟨_,rfl,rdF hX.o T.aW T.uM (nW ..) ⟨_,rfl,rdF hY.o T.aW T.uM (nW ..) ⟨rfl,_,rfl,Bc (by rw [al.span]) ?_⟩⟩⟩
  have r2:=al.kx.r2
  have r64:=al.kx.r64
  have ev:x.room % 2=0:=by have:=al.kx.up.g.ev;have:=al.kx.up.r;lia
  dsimp only [afv]
  refine sq fun R hR=>?_
  refine ⟨_,rfl,x,rfl,hX,r2,r64,ev,fun z0 H1 kp0 eq0 fr0 s0=>?_⟩
  obtain ⟨k,dk,r0,rc,sp,c1,c2,u1,u2,w5,d6,b7⟩:=z0
  obtain rfl:r0=x.room:=eq0.room
  obtain rfl:rc=x.reach:=eq0.reach
  obtain rfl:sp=x.span:=eq0.span
  have vk:H k=none:=fr0 k (cX ..)
  have kG:=kp0
  have sG:=s0
  have o:H1 k=some (.ins A.bw dk (kf (.int x.room) (.int x.reach) (.int x.span) (.ref c1.p) (.ref c2.p) (.ref u1.p) (.ref u2.p) (.ref w5.p) (.ref d6.p) (.ref b7.p))):=kG.o
  have X:=hX.same sG
  have Y:=hY.same sG
  clear kp0 s0 eq0 fr0
  obtain ⟨W1,ok1⟩:=al.kx.cm.ok
  obtain ⟨W2,ok2⟩:=al.ky.cm.ok
  obtain ⟨W3,ok3⟩:=al.kx.wn.ok
  obtain ⟨W4,ok4⟩:=al.ky.wn.ok
  have yr:=al.room
  have er1:y.up.x.r=x.up.x.r:=by rw [al.kx.up.r,al.ky.up.r,al.room]
  have er2:y.dn.x.r=x.dn.x.r:=by rw [al.kx.dn.r,al.ky.dn.r,al.room]
  walk_at "g"
  refine ⟨_,rfl,rdF X.o T.aW T.yj (wX ..) ⟨_,rfl,rdF Y.o T.aW T.yj (wX ..) (.inl ⟨x.cm.p,x.cm.dx,x.cm.d,y.cm.p,y.cm.dx,y.cm.d,x.room,x.cm.t,x.cm.l,y.cm.t,y.cm.l,x.cm.c,y.cm.c,rfl,X.cm.o,X.cm.d,(by rw [<- al.room];exact Y.cm.o),Y.cm.d,ok1.nd,ok1.pos,ok2.pos,by have:=kJ y.cm.c x.cm.c;have:=al.kx.cm.k;have:=al.ky.cm.k;have:=al.few;lia,by have:=ok1.len;have:=ok2.len;lia,fun p1 dx1 d1 b1 KD G1 np ne ft1 o1 o2 s1=>?_⟩)⟩⟩
  refine ⟨_,rfl,k,_,dk,_,rfl,s1 _ _ o,T.aW,T.yj,(by show 10<1000;decide),?_⟩
  rw [Ud]
  have K2:Kp A (upd G1 k (.ins A.bw dk (kf (.int x.room) (.int x.reach) (.int x.span) (.ref p1) (.ref c2.p) (.ref u1.p) (.ref u2.p) (.ref w5.p) (.ref d6.p) (.ref b7.p)))) ⟨k,dk,x.room,x.reach,x.span,⟨p1,dx1,d1,x.cm.t+y.cm.t,x.cm.l+y.cm.l+KD,b1⟩,c2,u1,u2,w5,d6,b7⟩:=kG.putC s1 np (f:=⟨p1,dx1,d1,_,_,b1⟩) ⟨o1,o2⟩
  have sG2:Same H (upd G1 k (.ins A.bw dk (kf (.int x.room) (.int x.reach) (.int x.span) (.ref p1) (.ref c2.p) (.ref u1.p) (.ref u2.p) (.ref w5.p) (.ref d6.p) (.ref b7.p)))):=fun b o e=>by rw [au (ak e vk)];exact (sG.trans s1) b o e
  have v1:H p1=none:=sG.free np
  clear kG o X Y sG
  generalize upd G1 k (.ins A.bw dk (kf (.int x.room) (.int x.reach) (.int x.span) (.ref p1) (.ref c2.p) (.ref u1.p) (.ref u2.p) (.ref w5.p) (.ref d6.p) (.ref b7.p)))=J1 at K2 sG2 ⊢
  have kG:=K2
  have sG:=sG2
  have o:J1 k=some (.ins A.bw dk (kf (.int x.room) (.int x.reach) (.int x.span) (.ref p1) (.ref c2.p) (.ref u1.p) (.ref u2.p) (.ref w5.p) (.ref d6.p) (.ref b7.p))):=kG.o
  have X:=hX.same sG
  have Y:=hY.same sG
  clear K2 sG2 s1 np
  walk_at "g"
  refine ⟨_,rfl,rdF X.o T.aW T.yp (wY ..) ⟨_,rfl,rdF Y.o T.aW T.yp (wY ..) (.inl ⟨x.wn.p,x.wn.dx,x.wn.d,y.wn.p,y.wn.dx,y.wn.d,x.room,x.wn.t,x.wn.l,y.wn.t,y.wn.l,x.wn.c,y.wn.c,rfl,X.wn.o,X.wn.d,(by rw [<- al.room];exact Y.wn.o),Y.wn.d,ok3.nd,ok3.pos,ok4.pos,by have:=kJ y.wn.c x.wn.c;have:=al.kx.wn.k;have:=al.ky.wn.k;have:=al.few;lia,by have:=ok3.len;have:=ok4.len;lia,fun p2 dx2 d2 b2 tR G1 np ne ft2 o1 o2 s1=>?_⟩)⟩⟩
  refine ⟨_,rfl,k,_,dk,_,rfl,s1 _ _ o,T.aW,T.yp,(by show 10<1000;decide),?_⟩
  rw [Ue]
  have K2:Kp A (upd G1 k (.ins A.bw dk (kf (.int x.room) (.int x.reach) (.int x.span) (.ref p1) (.ref p2) (.ref u1.p) (.ref u2.p) (.ref w5.p) (.ref d6.p) (.ref b7.p)))) ⟨k,dk,x.room,x.reach,x.span,⟨p1,dx1,d1,x.cm.t+y.cm.t,x.cm.l+y.cm.l+KD,b1⟩,⟨p2,dx2,d2,x.wn.t+y.wn.t,x.wn.l+y.wn.l+tR,b2⟩,u1,u2,w5,d6,b7⟩:=kG.putW s1 np (f:=⟨p2,dx2,d2,_,_,b2⟩) ⟨o1,o2⟩
  have sG2:Same H (upd G1 k (.ins A.bw dk (kf (.int x.room) (.int x.reach) (.int x.span) (.ref p1) (.ref p2) (.ref u1.p) (.ref u2.p) (.ref w5.p) (.ref d6.p) (.ref b7.p)))):=fun b o e=>by rw [au (ak e vk)];exact (sG.trans s1) b o e
  have v2:H p2=none:=sG.free np
  clear kG o X Y sG
  generalize upd G1 k (.ins A.bw dk (kf (.int x.room) (.int x.reach) (.int x.span) (.ref p1) (.ref p2) (.ref u1.p) (.ref u2.p) (.ref w5.p) (.ref d6.p) (.ref b7.p)))=J2 at K2 sG2 ⊢
  have kG:=K2
  have sG:=sG2
  have o:J2 k=some (.ins A.bw dk (kf (.int x.room) (.int x.reach) (.int x.span) (.ref p1) (.ref p2) (.ref u1.p) (.ref u2.p) (.ref w5.p) (.ref d6.p) (.ref b7.p))):=kG.o
  have X:=hX.same sG
  have Y:=hY.same sG
  clear K2 sG2 s1 np
  have L1:=gq al.kx.up.g al.kx.up.t al.kx.few
  have L2':=gq al.ky.up.g al.ky.up.t al.ky.few
  walk_at "g"
  refine ⟨_,rfl,rdF X.o T.aW T.yq (Ng ..) ⟨_,rfl,rdF Y.o T.aW T.yq (Ng ..) (.inl ⟨x.up.p,x.up.x.dx,x.up.x.a,y.up.p,y.up.x.dx,y.up.x.a,x.up.x.bs,y.up.x.bs,x.up.x.r,x.up.x.tt,x.up.x.ov,x.up.x.un,x.up.x.tn,y.up.x.tt,y.up.x.ov,y.up.x.un,y.up.x.tn,x.up.x.mi,x.up.x.ma,y.up.x.mi,y.up.x.ma,x.up.x.ls,y.up.x.ls,rfl,X.up,(by rw [<- er1];exact Y.up),al.kx.up.g.r2,al.kx.up.g.r64,by have:=L1.1;lia,by have:=L2'.1;lia,(al.jb al.kx.up al.ky.up).1,(al.jb al.kx.up al.ky.up).2,L1.2,L2'.2,fun p3 dx3 d3 bs3 Uo tn3 ov3 un3 G1 st3 rn3 np nd2 nc2 s1=>?_⟩)⟩⟩
  refine ⟨_,rfl,k,_,dk,_,rfl,s1 _ _ o,T.aW,T.yq,(by show 10<1000;decide),?_⟩
  rw [acu]
  have K2:Kp A (upd G1 k (.ins A.bw dk (kf (.int x.room) (.int x.reach) (.int x.span) (.ref p1) (.ref p2) (.ref p3) (.ref u2.p) (.ref w5.p) (.ref d6.p) (.ref b7.p)))) ⟨k,dk,x.room,x.reach,x.span,⟨p1,dx1,d1,x.cm.t+y.cm.t,x.cm.l+y.cm.l+KD,b1⟩,⟨p2,dx2,d2,x.wn.t+y.wn.t,x.wn.l+y.wn.l+tR,b2⟩,⟨p3,⟨dx3,d3,bs3,x.up.x.r,x.up.x.tt+y.up.x.tt,ov3,un3,tn3,lo2 x.up.x.mi y.up.x.mi,hi2 x.up.x.ma y.up.x.ma,Uo⟩⟩,u2,w5,d6,b7⟩:=kG.putU s1 np (f:=⟨p3,⟨dx3,d3,bs3,x.up.x.r,_,ov3,un3,tn3,_,_,Uo⟩⟩) rn3
  have sG2:Same H (upd G1 k (.ins A.bw dk (kf (.int x.room) (.int x.reach) (.int x.span) (.ref p1) (.ref p2) (.ref p3) (.ref u2.p) (.ref w5.p) (.ref d6.p) (.ref b7.p)))):=fun b o e=>by rw [au (ak e vk)];exact (sG.trans s1) b o e
  have v3:H p3=none:=sG.free np
  clear kG o X Y sG
  generalize upd G1 k (.ins A.bw dk (kf (.int x.room) (.int x.reach) (.int x.span) (.ref p1) (.ref p2) (.ref p3) (.ref u2.p) (.ref w5.p) (.ref d6.p) (.ref b7.p)))=J3 at K2 sG2 ⊢
  have kG:=K2
  have sG:=sG2
  have o:J3 k=some (.ins A.bw dk (kf (.int x.room) (.int x.reach) (.int x.span) (.ref p1) (.ref p2) (.ref p3) (.ref u2.p) (.ref w5.p) (.ref d6.p) (.ref b7.p))):=kG.o
  have X:=hX.same sG
  have Y:=hY.same sG
  clear K2 sG2 s1 np
  have L1:=gq al.kx.dn.g al.kx.dn.t al.kx.few
  have L2':=gq al.ky.dn.g al.ky.dn.t al.ky.few
  walk_at "g"
  refine ⟨_,rfl,rdF X.o T.aW T.yt (wZ ..) ⟨_,rfl,rdF Y.o T.aW T.yt (wZ ..) (.inl ⟨x.dn.p,x.dn.x.dx,x.dn.x.a,y.dn.p,y.dn.x.dx,y.dn.x.a,x.dn.x.bs,y.dn.x.bs,x.dn.x.r,x.dn.x.tt,x.dn.x.ov,x.dn.x.un,x.dn.x.tn,y.dn.x.tt,y.dn.x.ov,y.dn.x.un,y.dn.x.tn,x.dn.x.mi,x.dn.x.ma,y.dn.x.mi,y.dn.x.ma,x.dn.x.ls,y.dn.x.ls,rfl,X.dn,(by rw [<- er2];exact Y.dn),al.kx.dn.g.r2,al.kx.dn.g.r64,by have:=L1.1;lia,by have:=L2'.1;lia,(al.jb al.kx.dn al.ky.dn).1,(al.jb al.kx.dn al.ky.dn).2,L1.2,L2'.2,fun p4 dx4 d4 bs4 Z6 tn4 ov4 un4 G1 st4 rn4 np nd2 nc2 s1=>?_⟩)⟩⟩
  refine ⟨_,rfl,k,_,dk,_,rfl,s1 _ _ o,T.aW,T.yt,(by show 10<1000;decide),?_⟩
  rw [Ug]
  have K2:Kp A (upd G1 k (.ins A.bw dk (kf (.int x.room) (.int x.reach) (.int x.span) (.ref p1) (.ref p2) (.ref p3) (.ref p4) (.ref w5.p) (.ref d6.p) (.ref b7.p)))) ⟨k,dk,x.room,x.reach,x.span,⟨p1,dx1,d1,x.cm.t+y.cm.t,x.cm.l+y.cm.l+KD,b1⟩,⟨p2,dx2,d2,x.wn.t+y.wn.t,x.wn.l+y.wn.l+tR,b2⟩,⟨p3,⟨dx3,d3,bs3,x.up.x.r,x.up.x.tt+y.up.x.tt,ov3,un3,tn3,lo2 x.up.x.mi y.up.x.mi,hi2 x.up.x.ma y.up.x.ma,Uo⟩⟩,⟨p4,⟨dx4,d4,bs4,x.dn.x.r,x.dn.x.tt+y.dn.x.tt,ov4,un4,tn4,lo2 x.dn.x.mi y.dn.x.mi,hi2 x.dn.x.ma y.dn.x.ma,Z6⟩⟩,w5,d6,b7⟩:=kG.putD s1 np (f:=⟨p4,⟨dx4,d4,bs4,x.dn.x.r,_,ov4,un4,tn4,_,_,Z6⟩⟩) rn4
  have sG2:Same H (upd G1 k (.ins A.bw dk (kf (.int x.room) (.int x.reach) (.int x.span) (.ref p1) (.ref p2) (.ref p3) (.ref p4) (.ref w5.p) (.ref d6.p) (.ref b7.p)))):=fun b o e=>by rw [au (ak e vk)];exact (sG.trans s1) b o e
  have v4:H p4=none:=sG.free np
  clear kG o X Y sG
  generalize upd G1 k (.ins A.bw dk (kf (.int x.room) (.int x.reach) (.int x.span) (.ref p1) (.ref p2) (.ref p3) (.ref p4) (.ref w5.p) (.ref d6.p) (.ref b7.p)))=J4 at K2 sG2 ⊢
  have kG:=K2
  have sG:=sG2
  have o:J4 k=some (.ins A.bw dk (kf (.int x.room) (.int x.reach) (.int x.span) (.ref p1) (.ref p2) (.ref p3) (.ref p4) (.ref w5.p) (.ref d6.p) (.ref b7.p))):=kG.o
  have X:=hX.same sG
  have Y:=hY.same sG
  clear K2 sG2 s1 np
  generalize hf1:Fq.mk p1 dx1 d1 (x.cm.t+y.cm.t) (x.cm.l+y.cm.l+KD) b1=f1 at kG
  generalize hf2:Fq.mk p2 dx2 d2 (x.wn.t+y.wn.t) (x.wn.l+y.wn.l+tR) b2=f2 at kG
  generalize hf3:Ru.mk p3 ⟨dx3,d3,bs3,x.up.x.r,x.up.x.tt+y.up.x.tt,ov3,un3,tn3,lo2 x.up.x.mi y.up.x.mi,hi2 x.up.x.ma y.up.x.ma,Uo⟩=f3 at kG
  generalize hf4:Ru.mk p4 ⟨dx4,d4,bs4,x.dn.x.r,x.dn.x.tt+y.dn.x.tt,ov4,un4,tn4,lo2 x.dn.x.mi y.dn.x.mi,hi2 x.dn.x.ma y.dn.x.ma,Z6⟩=f4 at kG
  have q1:f1.p=p1:=by rw [<- hf1]
  have q2:f2.p=p2:=by rw [<- hf2]
  have q3:f3.p=p3:=by rw [<- hf3]
  have q4:f4.p=p4:=by rw [<- hf4]
  rw [<- q1,<- q2,<- q3,<- q4] at o
  have d1':FP x.room x.cm y.cm f1:=by rw [<- hf1];exact ⟨KD,ft1,rfl,rfl⟩
  have d2':FP x.room x.wn y.wn f2:=by rw [<- hf2];exact ⟨tR,ft2,rfl,rfl⟩
  have d3':RP x.up.x y.up.x f3.x:=by rw [<- hf3];exact ⟨rfl,rfl,rfl,rfl,st3⟩
  have d4':RP x.dn.x y.dn.x f4.x:=by rw [<- hf4];exact ⟨rfl,rfl,rfl,rfl,st4⟩
  rw [<- q1] at v1
  rw [<- q2] at v2
  rw [<- q3] at v3
  rw [<- q4] at v4
  clear q1 q2 q3 q4 hf1 hf2 hf3 hf4
  walk_at "g"
  refine ⟨_,rfl,rdF X.o T.aW T.uN (jR ..) ⟨_,rfl,rdF Y.o T.aW T.uN (jR ..) (.inl ⟨x.wi.p,x.wi.dx,x.wi.l,y.wi.p,y.wi.dx,y.wi.l,x.room,x.reach,x.wi.c,y.wi.c,x.wi.ps,y.wi.ps,rfl,X.wi,(by rw [<- al.room,<- al.reach];exact Y.wi),by have:=al.kx.wl;have:=al.ky.wl;have:=al.few;lia,by lia,by lia,fun p5 dx5 d5 ps5 G1 np nd5 eb5 wn5 s1=>?_⟩)⟩⟩
  refine ⟨_,rfl,k,_,dk,_,rfl,s1 _ _ o,T.aW,T.uN,(by show 10<1000;decide),?_⟩
  rw [Lj]
  have K2:Kp A (upd G1 k (.ins A.bw dk (kf (.int x.room) (.int x.reach) (.int x.span) (.ref f1.p) (.ref f2.p) (.ref f3.p) (.ref f4.p) (.ref p5) (.ref d6.p) (.ref b7.p)))) ⟨k,dk,x.room,x.reach,x.span,f1,f2,f3,f4,⟨p5,dx5,d5,x.wi.c+y.wi.c,ps5⟩,d6,b7⟩:=kG.putI s1 np (f:=⟨p5,dx5,d5,_,ps5⟩) wn5
  have sG2:Same H (upd G1 k (.ins A.bw dk (kf (.int x.room) (.int x.reach) (.int x.span) (.ref f1.p) (.ref f2.p) (.ref f3.p) (.ref f4.p) (.ref p5) (.ref d6.p) (.ref b7.p)))):=fun b o e=>by rw [au (ak e vk)];exact (sG.trans s1) b o e
  have v5:H p5=none:=sG.free np
  clear kG o X Y sG
  generalize upd G1 k (.ins A.bw dk (kf (.int x.room) (.int x.reach) (.int x.span) (.ref f1.p) (.ref f2.p) (.ref f3.p) (.ref f4.p) (.ref p5) (.ref d6.p) (.ref b7.p)))=J5 at K2 sG2 ⊢
  have kG:=K2
  have sG:=sG2
  have o:J5 k=some (.ins A.bw dk (kf (.int x.room) (.int x.reach) (.int x.span) (.ref f1.p) (.ref f2.p) (.ref f3.p) (.ref f4.p) (.ref p5) (.ref d6.p) (.ref b7.p))):=kG.o
  have X:=hX.same sG
  have Y:=hY.same sG
  clear K2 sG2 s1 np
  walk_at "g"
  refine ⟨_,rfl,rdF X.o T.aW T.yu (xg ..) ⟨_,rfl,rdF Y.o T.aW T.yu (xg ..) (.inl ⟨x.di.p,x.di.dx,x.di.l,y.di.p,y.di.dx,y.di.l,x.room,x.di.n,x.di.v,y.di.n,y.di.v,x.di.C,y.di.C,rfl,X.di,(by rw [<- al.room];exact Y.di),al.kx.dl,(by rw [<- al.room];exact al.ky.dl),al.nx,al.ny,by lia,by lia,by have:=al.kx.dc;have:=al.ky.dc;have:=al.few;lia,fun p6 dx6 l6 v6' G1 np nd6 ls6 dn6 s1=>?_⟩)⟩⟩
  refine ⟨_,rfl,k,_,dk,_,rfl,s1 _ _ o,T.aW,T.yu,(by show 10<1000;decide),?_⟩
  rw [Uh]
  have K2:Kp A (upd G1 k (.ins A.bw dk (kf (.int x.room) (.int x.reach) (.int x.span) (.ref f1.p) (.ref f2.p) (.ref f3.p) (.ref f4.p) (.ref p5) (.ref p6) (.ref b7.p)))) ⟨k,dk,x.room,x.reach,x.span,f1,f2,f3,f4,⟨p5,dx5,d5,x.wi.c+y.wi.c,ps5⟩,⟨p6,dx6,l6,x.di.n+y.di.n,v6',un x.di.C y.di.C⟩,b7⟩:=kG.putS s1 np (f:=⟨p6,dx6,l6,_,v6',_⟩) dn6
  have sG2:Same H (upd G1 k (.ins A.bw dk (kf (.int x.room) (.int x.reach) (.int x.span) (.ref f1.p) (.ref f2.p) (.ref f3.p) (.ref f4.p) (.ref p5) (.ref p6) (.ref b7.p)))):=fun b o e=>by rw [au (ak e vk)];exact (sG.trans s1) b o e
  have v6:H p6=none:=sG.free np
  clear kG o X Y sG
  generalize upd G1 k (.ins A.bw dk (kf (.int x.room) (.int x.reach) (.int x.span) (.ref f1.p) (.ref f2.p) (.ref f3.p) (.ref f4.p) (.ref p5) (.ref p6) (.ref b7.p)))=J6 at K2 sG2 ⊢
  have kG:=K2
  have sG:=sG2
  have o:J6 k=some (.ins A.bw dk (kf (.int x.room) (.int x.reach) (.int x.span) (.ref f1.p) (.ref f2.p) (.ref f3.p) (.ref f4.p) (.ref p5) (.ref p6) (.ref b7.p))):=kG.o
  have X:=hX.same sG
  have Y:=hY.same sG
  clear K2 sG2 s1 np
  walk_at "g"
  refine ⟨_,rfl,rdF X.o T.aW T.uO (jf ..) ⟨_,rfl,rdF Y.o T.aW T.uO (jf ..) (.inl ⟨x.ba.p,x.ba.dx,x.ba.l,y.ba.p,y.ba.dx,y.ba.l,x.span,x.ba.q,y.ba.q,rfl,X.ba,(by rw [<- al.span];exact Y.ba),fun p7 dx7 l7 G1 np bn7 s1=>?_⟩)⟩⟩
  refine ⟨_,rfl,k,_,dk,_,rfl,s1 _ _ o,T.aW,T.uO,(by show 10<1000;decide),?_⟩
  rw [Ku]
  have K2:Kp A (upd G1 k (.ins A.bw dk (kf (.int x.room) (.int x.reach) (.int x.span) (.ref f1.p) (.ref f2.p) (.ref f3.p) (.ref f4.p) (.ref p5) (.ref p6) (.ref p7)))) ⟨k,dk,x.room,x.reach,x.span,f1,f2,f3,f4,⟨p5,dx5,d5,x.wi.c+y.wi.c,ps5⟩,⟨p6,dx6,l6,x.di.n+y.di.n,v6',un x.di.C y.di.C⟩,⟨p7,dx7,l7,addQ x.ba.q y.ba.q⟩⟩:=kG.putB s1 np (f:=⟨p7,dx7,l7,_⟩) bn7
  have sG2:Same H (upd G1 k (.ins A.bw dk (kf (.int x.room) (.int x.reach) (.int x.span) (.ref f1.p) (.ref f2.p) (.ref f3.p) (.ref f4.p) (.ref p5) (.ref p6) (.ref p7)))):=fun b o e=>by rw [au (ak e vk)];exact (sG.trans s1) b o e
  have v7:H p7=none:=sG.free np
  clear kG o X Y sG
  generalize upd G1 k (.ins A.bw dk (kf (.int x.room) (.int x.reach) (.int x.span) (.ref f1.p) (.ref f2.p) (.ref f3.p) (.ref f4.p) (.ref p5) (.ref p6) (.ref p7)))=J7 at K2 sG2 ⊢
  have kG:=K2
  have sG:=sG2
  have o:J7 k=some (.ins A.bw dk (kf (.int x.room) (.int x.reach) (.int x.span) (.ref f1.p) (.ref f2.p) (.ref f3.p) (.ref f4.p) (.ref p5) (.ref p6) (.ref p7))):=kG.o
  have X:=hX.same sG
  have Y:=hY.same sG
  clear K2 sG2 s1 np
  refine hR _ _ ?_
  refine ⟨_,rfl,q ⟨k,dk,x.room,x.reach,x.span,f1,f2,f3,f4,⟨p5,dx5,d5,x.wi.c+y.wi.c,ps5⟩,⟨p6,dx6,l6,x.di.n+y.di.n,v6',un x.di.C y.di.C⟩,⟨p7,dx7,l7,addQ x.ba.q y.ba.q⟩⟩ J7 kG ⟨rfl,rfl,rfl,d1',d2',d3',d4',⟨rfl,eb5⟩,⟨rfl,rfl,ls6⟩,rfl⟩ (fun b m=>?_) sG⟩
  unfold KS.all at m
  simp only [bN,jK,or_false] at m
  rcases m with rfl | rfl | rfl | rfl | rfl | rfl | rfl | rfl
  all_goals assumption
open MK
theorem KH {room:Int}:∀ {os:List WN.Box} {S:Int} {b:WN.Box},WN.uK room S (b::os)->WN.settle room S b os=b::os
 | [],_,_,_=>rfl
 | o::os,S,b,h=>by rw [WN.jN,if_neg (by have:=h.1;lia),KH h.2]
theorem Uq {room:Int} {bs:List WN.Box} (h:WN.uK room 0 bs):WN.settled room bs=bs:=by
 cases bs with
 | nil=>rfl
 | cons b os=>exact KH h
theorem z9 {room:Int} {P:WN.Box->Prop} (hj:∀ b o:WN.Box,P b->P o->P ⟨o.f,b.l,b.s+o.s⟩):∀ {os:List WN.Box} {S:Int} {b:WN.Box},P b->(∀ x∈os,P x)->∀ x∈WN.settle room S b os,P x
 | [],S,b,hb,_,x,m=>by rw [WN.zO] at m;rw [eZ.mp m];exact hb
 | o::os,S,b,hb,ho,x,m=>by
  rw [WN.jN] at m
  have h1:=ho o cX
  have h2:∀ y∈os,P y:=fun y z=>ho y (gF _ z)
  split at m
  ·exact z9 hj (hj b o hb h1) h2 x m
  ·rcases bN.mp m with z | z
   ·rw [z];exact hb
   ·exact z9 hj h1 h2 x z
theorem lD {room e:Int} {bs:List WN.Box} (h:∀ x∈bs,0<=x.s):∀ x∈dF room e bs,0<=x.s/\e<x.l:=by
 unfold dF
 intro x m
 have m:=CW.mp m
 have ha:∀ y∈(bs.filter fun b=>decide (e<b.l)).reverse,0<=y.s/\e<y.l:=fun y my=>by
  obtain ⟨m1,m2⟩:=vB.mp (CW.mp my)
  exact ⟨h y m1,of_decide_eq_true m2⟩
 generalize (bs.filter fun b=>decide (e<b.l)).reverse=cs at m ha
 cases cs with
 | nil=>exact nomatch m
 | cons b os=>exact z9 (P:=fun y=>0<=y.s/\e<y.l) (fun b o hb ho=>⟨by have:=hb.1;have:=ho.1;show 0<=b.s+o.s;lia,hb.2⟩) (ha b cX) (fun y my=>ha y (gF _ my)) x m
theorem Ri {room e:Int} (hr:0<=room) {bs:List WN.Box} (h:∀ x∈bs,0<=x.s):dF room e (dF room e bs)=dF room e bs:=by
 have ha:=lD (room:=room) (e:=e) h
 have hn:WN.uK room 0 (dF room e bs).reverse:=by
  unfold dF
  rw [adk]
  exact WN.K7 hr fun x m=>h x (vB.mp (CW.mp m)).1
 generalize dF room e bs=cs at ha hn ⊢
 unfold dF
 rw [Vo.mpr (fun x m=>decide_eq_true (ha x m).2),Uq hn,adk]
theorem ahy {ms:RG.Ls} (h:i<max ls.length ms.length):(RG.join ls ms)[i]? = some (RG.jn ls ms i):=by
 unfold RG.join RG.rQ
 rw [iR,ado h];rfl
theorem join_nil (sd:∀ l∈ls,RG.Sd l):RG.join ls []=ls:=by
 apply List.ext_getElem?
 intro i
 rcases jk i ls.length with h | h
 ·rw [ahy (by show i<max ls.length 0;lia),fY h]
  unfold RG.jn
  rw [vm,fY h]
  show some (RG.srt (ls[i]++[]))=_
  rw [yO,RG.Td (sd _ (sX h))]
 ·rw [rH h,rH (by rw [RG.vX];show max ls.length 0<=i;lia)]
theorem ahz (sd:∀ l∈ls,RG.Sd l):RG.join [] ls=ls:=by
 apply List.ext_getElem?
 intro i
 rcases jk i ls.length with h | h
 ·rw [ahy (by show i<max 0 ls.length;lia),fY h]
  unfold RG.jn
  rw [vm (l:=ls),fY h]
  show some (RG.srt ([]++ls[i]))=_
  rw [CZ,RG.Td (sd _ (sX h))]
 ·rw [rH h,rH (by rw [RG.vX];show max 0 ls.length<=i;lia)]
theorem RP.right {f h:Rs} (p:RP f g h) (gf:Gr room f n) (e:ER g (R0 room)):ER h f:=by
 have st:=p.st
 rw [e.tn,e.ov,e.un,e.ls,show RG.join f.ls (R0 room).ls=f.ls from join_nil gf.g.sd,show f.tn+(R0 room).tn=f.tn from pR _,show f.ov+(R0 room).ov=f.ov from pR _,show f.un+(R0 room).un=f.un from pR _] at st
 obtain ⟨e1,e2,e3,e4⟩:=(Kv 0 f.tn f.ov f.un gf.g.sm).uniq st
 refine ⟨p.r,?_,e3,e4,e2,?_,?_,e1⟩
 ·rw [p.tt,e.tt];exact pR _
 ·rw [p.mi,e.mi];cases f.mi <;> rfl
 ·rw [p.ma,e.ma];cases f.ma <;> rfl
theorem RP.left {f h:Rs} (p:RP g f h) (gf:Gr room f n) (e:ER g (R0 room)):ER h f:=by
 have st:=p.st
 have er:g.r=f.r:=by rw [e.r,gf.r];rfl
 rw [er,e.tn,e.ov,e.un,e.ls,show RG.join (R0 room).ls f.ls=f.ls from ahz gf.g.sd,show (R0 room).tn+f.tn=f.tn from oJ _,show (R0 room).ov+f.ov=f.ov from oJ _,show (R0 room).un+f.un=f.un from oJ _] at st
 obtain ⟨e1,e2,e3,e4⟩:=(Kv 0 f.tn f.ov f.un gf.g.sm).uniq st
 refine ⟨p.r.trans er,?_,e3,e4,e2,?_,?_,e1⟩
 ·rw [p.tt,e.tt];exact oJ _
 ·rw [p.mi,e.mi];rfl
 ·rw [p.ma,e.ma];rfl
theorem ai7 (h:k∉keys c):low c k=0:=by
 unfold low;rw [(qY c k).mpr h];rfl
theorem Ur:∀ {d c:Tab},(keys (c++d)).Nodup->nM c d=c++d
 | [],c,_=>by rw [Bf,yO]
 | p::d,c,h=>by
  have hk:p.1∉keys c:=fun m=>by
   unfold keys at h m
   rw [eG,Ol] at h
   exact h.2.2 _ m _ (by rw [gB];exact cX) rfl
  rw [nZ,ai7 hk,oJ,Bd hk,Ur (by rw [lE];exact h),lE];rfl
theorem Us {b:Tab} {cut:Int} (h:gK room c b cut) (l:c.length<=room):cut=0/\b=c:=by
 unfold gK at h
 rwa [if_pos l] at h
theorem FP.right {f g h:Fq} (p:FP room f g h) (gf:Gf room f n) (e:EF g ⟨0,0,0,0,0,[]⟩):EF h f:=by
 obtain ⟨cut,ft,e1,e2⟩:=p
 obtain ⟨W,ok⟩:=gf.ok
 rw [e.c] at ft
 obtain ⟨z,ec⟩:=Us ft ok.len
 exact ⟨by rw [e1,e.t];exact pR _,by rw [e2,e.l,z];show f.l+0+0=f.l;lia,ec⟩
theorem FP.left {f g h:Fq} (p:FP room g f h) (gf:Gf room f n) (e:EF g ⟨0,0,0,0,0,[]⟩):EF h f:=by
 obtain ⟨cut,ft,e1,e2⟩:=p
 obtain ⟨W,ok⟩:=gf.ok
 rw [e.c,Ur (by rw [CZ];exact ok.nd),CZ] at ft
 obtain ⟨z,ec⟩:=Us ft ok.len
 exact ⟨by rw [e1,e.t];exact oJ _,by rw [e2,e.l,z];show 0+f.l+0=f.l;lia,ec⟩
/-- what was settled stays so -/
noncomputable def Kw (x:KS):Prop:=(∀ b∈bx x.wi.ps,0<=b.s)/\dF x.room (x.wi.c-x.reach) (bx x.wi.ps)=bx x.wi.ps
theorem amq (bs:List WN.Box):bs.map (shift 0)=bs:=by
 have:shift 0=id:=funext fun b=>by unfold shift;rw [pR,pR];rfl
 rw [this,adG]
theorem DP.tree {f h:Di} {n m:Int} (e1:h.n=f.n) (e2:h.C=D) (l:lC room h.v D) (lf:lC room f.v f.C) (nf:f.C.Nodup) (nD:D.Nodup) (em:∀ z,z∈f.C↔z∈D):wK room h=wK room f:=by
 have ev:h.v=f.v:=l.uniq (lf.set nf nD em)
 unfold wK
 rw [e1,e2,ev,En (abe nf nD em)]
theorem KP.right (p:KP x y z) (k:Kh x n) (nd:x.di.C.Nodup) (w:Kw x) (e:Eqp y (K0 x.room x.reach x.span)):jT z=jT x:=by
 have eD:wK x.room z.di=wK x.room x.di:=DP.tree (n:=0) (m:=0) (by rw [p.di.1,e.di.n];exact pR _) p.di.2.1 p.di.2.2 k.dl nd (abd _ _) fun v=>by rw [KC,e.di.C];exact ⟨.inl,fun h=>h.elim id (fun h=>nomatch h)⟩
 have ec:z.wi.c=x.wi.c:=by rw [p.wi.1,e.wi.c];exact pR _
 have eb:bx z.wi.ps=bx x.wi.ps:=by
  have h:=p.wi.2
  rw [<- p.wi.1,ec,e.wi.b] at h
  rw [h]
  show dF _ _ (bx x.wi.ps++[])=_
  rw [yO];exact w.2
 have eq:z.ba.q=x.ba.q:=by rw [p.ba,e.ba];show addQ x.ba.q Fg=_;unfold addQ Fg;rw [pR,pR,pR,pR]
 unfold jT Ni
 rw [p.room,p.reach,p.span,(p.cm.right k.cm e.cm).tree,(p.wn.right k.wn e.wn).tree,(p.up.right k.up e.up).tree,(p.dn.right k.dn e.dn).tree,ec,eb,eD,eq]
theorem KP.left (p:KP y x z) (k:Kh x n) (nd:x.di.C.Nodup) (w:Kw x) (e:Eqp y (K0 x.room x.reach x.span)):jT z=jT x:=by
 have er:y.room=x.room:=e.room
 have eh:y.reach=x.reach:=e.reach
 have es:y.span=x.span:=e.span
 have pd:=p.di
 have pw:=p.wi
 have pc:=p.cm
 have pn:=p.wn
 rw [er] at pd pw pc pn
 rw [eh] at pw
 have eD:wK x.room z.di=wK x.room x.di:=DP.tree (n:=0) (m:=0) (by rw [pd.1,e.di.n];exact oJ _) pd.2.1 pd.2.2 k.dl nd (abd _ _) fun v=>by rw [KC,e.di.C];exact ⟨.inr,fun h=>h.elim (fun h=>nomatch h) id⟩
 have ec:z.wi.c=x.wi.c:=by rw [pw.1,e.wi.c];exact oJ _
 have eb:bx z.wi.ps=bx x.wi.ps:=by
  have h:=pw.2
  rw [<- pw.1,ec,e.wi.b,e.wi.c] at h
  rw [h]
  show dF _ _ ([]++(bx x.wi.ps).map (shift 0))=_
  rw [CZ,amq];exact w.2
 have eq:z.ba.q=x.ba.q:=by rw [p.ba,e.ba];show addQ Fg x.ba.q=_;unfold addQ Fg;rw [oJ,oJ,oJ,oJ]
 unfold jT Ni
 rw [p.room,p.reach,p.span,er,eh,es,(pc.left k.cm e.cm).tree,(pn.left k.wn e.wn).tree,(p.up.left k.up e.up).tree,(p.dn.left k.dn e.dn).tree,ec,eb,eD,eq]
/-- of the boxes that came -/
noncomputable def Kb (x:KS):Prop:=(∀ b∈bx x.wi.ps,0<=b.s)/\x.di.C.Nodup
theorem Kb.row {r:R3} (h:Kb x) (ok:r.ok) (s:SR r x x'):Kb x':=by
 have w1:=ok.w1
 unfold SR at s
 split at s
 ·refine ⟨?_,by rw [s.di.2.1];exact ai3 h.2⟩
  rw [s.wi.2]
  refine fun b m=>(lD (fun y my=>?_) b m).1
  rcases d9.mp my with z | z
  ·exact h.1 y z
  ·rw [eZ.mp z];show 0<=r.w;lia
 ·split at s
  ·refine ⟨?_,by rw [s.di];exact h.2⟩
   rw [s.wi.2]
   exact fun b m=>(lD h.1 b m).1
  ·refine ⟨?_,by rw [s.di];exact h.2⟩
   rw [s.wi.2]
   exact fun b m=>(lD h.1 b m).1
theorem KP.kb (p:KP x y z) (a:Kb x) (b:Kb y):Kb z/\(0<=(x.room:Int)->Kw z):=by
 have hs:∀ v∈bx x.wi.ps++(bx y.wi.ps).map (shift x.wi.c),0<=v.s:=fun v m=>by
  rcases d9.mp m with m | m
  ·exact a.1 v m
  ·obtain ⟨u,mu,rfl⟩:=jW.mp m
   exact b.1 u mu
 have h1:∀ v∈bx z.wi.ps,0<=v.s:=by rw [p.wi.2];exact fun v m=>(lD hs v m).1
 refine ⟨⟨h1,by rw [p.di.2.1];exact abd _ _⟩,fun hr=>⟨h1,?_⟩⟩
 rw [p.room,p.reach,p.wi.1,p.wi.2]
 exact Ri hr hs
open MK
theorem Is.old {G1 G2:Hp} {v:V} (h:Is G2 (fun a=>G1 a=none) n v t) (s:Same G G1):Is G2 (fun a=>G a=none) n v t:=h.keep (fun _ _ _ e=>e) (fun _ _ e=>e) fun _ p=>s.free p
noncomputable def spBy (A:Ad):Sp:=fun vs H Q _=>∃ (x y:KS) (n m:Nat),vs=[.ref x.k,.ref y.k]/\Kp A H x/\Kp A H y/\Alk x y n m/\∀ (v:Addr) (z:KS) (H':Hp),Same H H'->KP x y z->Is H' (fun a=>H a=none) 4 (.ref v) (jT z)->Q (.ref v) H'
theorem ok'51 (T:Tx K mg A):cP P w K mg base CX0 6 A.Yb A.uh ["_law_one","_law_other"] (spBy A):=by
 k_dat (T.F'51.ok,jt) "a"
 ·obtain ⟨x,y,n,m,rfl,_⟩:=h
  rfl
 ·obtain ⟨x,y,n,m,rfl,hX,hY,al,q⟩:=h
  obtain ⟨W1,ok1⟩:=al.kx.cm.ok
  obtain ⟨W2,ok2⟩:=al.ky.cm.ok
  obtain ⟨W3,ok3⟩:=al.kx.wn.ok
  obtain ⟨W4,ok4⟩:=al.ky.wn.ok
  have yr:=al.room
  have r2:=al.kx.r2
  have r64:=al.kx.r64
  have fw:=al.few
  have er1:y.up.x.r=x.up.x.r:=by rw [al.kx.up.r,al.ky.up.r,al.room]
  have er2:y.dn.x.r=x.dn.x.r:=by rw [al.kx.dn.r,al.ky.dn.r,al.room]
  refine ⟨_,(aq (aX (i:=2) jt.nd rfl (Or.inl rfl) (dY (aj (aB (pv 0) rfl) (aj (aB (pv 0) rfl) (aj (aB (pv 0) rfl) (aj (aJ (aa7 T) tb_g% rfl T.nQ T.agZ.kp T.b'40 .nil aQ (aj (aJ (aa9 T) tb_g% rfl T.iQ T.ag1.kp T.b'43 .nil iG (aj (aB (pv 0) rfl) (aj (aB (pv 1) rfl) aA))) aA)) aA))))))
   (aq (bF (kE j7 jY jZ cM (pv 2) (aj (aJ (aa7 T) tb_g% rfl T.nQ T.agZ.kp T.b'40 .nil aQ (aj (aJ (aa9 T) tb_g% rfl T.iQ T.ag1.kp T.b'43 .nil iG (aj (aB (pv 0) rfl) (aj (aB (pv 1) rfl) aA))) aA)) aA)))
   (aq (bF (kE j7 jY jZ cM (pv 2) (aj (aJ (aa8 T) tb_g% rfl T.wR T.ag0.kp T.b'41 .nil aQ (aj (aJ (abb T) tb_g% rfl T.lA T.ag2.kp T.b'45 .nil iG (aj (aB (pv 0) rfl) (aj (aB (pv 1) rfl) aA))) aA)) aA)))
   (aq (bF (kE j7 jY jZ cM (pv 2) (aj (aJ (aa8 T) tb_g% rfl T.wR T.ag0.kp T.b'41 .nil aQ (aj (aJ (abb T) tb_g% rfl T.lA T.ag2.kp T.b'45 .nil iG (aj (aB (pv 0) rfl) (aj (aB (pv 1) rfl) aA))) aA)) aA)))
   (aq (aX (i:=3) jt.nd rfl (Or.inl rfl) (aJ (ajM T) tb_g% rfl T.Ka T.F'46.kp T.b'46 .nil iG (aj (aB (pv 0) rfl) (aj (aB (pv 1) rfl) aA))))
   (aq (bF (kE j7 jY jZ cM (pv 2) (aj (iY (aj (aB (pv 3) rfl) (aj (aB (pv 3) rfl) (aj (aB (pv 3) rfl) (aj (fJ (gA rfl) (by rfl) T.pF xP (aj (aB (pv 3) rfl) aA)) aA))))) aA)))
   (aq (aX (i:=4) jt.nd rfl (Or.inl rfl) (aJ (ajO T) tb_g% rfl T.qI T.F'48.kp T.b'48 .nil iG (aj (aB (pv 0) rfl) (aj (aB (pv 1) rfl) aA))))
   (aq (bF (kE j7 jY jZ cM (pv 2) (aj (iY (aj (aB (pv 4) rfl) (aj (aB (pv 4) rfl) (aj (aB (pv 4) rfl) (aj (fJ (gA rfl) (by rfl) T.pF xP (aj (aB (pv 4) rfl) aA)) aA))))) aA)))
   (aq (aX (i:=5) jt.nd rfl (Or.inl rfl) (aJ (ajN T) tb_g% rfl T.rZ T.F'47.kp T.b'47 .nil iG (aj (aB (pv 0) rfl) (aj (aB (pv 1) rfl) aA))))
   (aq (bF (kE j7 jY jZ cM (pv 2) (aj (iY (aj (aB (pv 5) rfl) (aj (fJ (gA rfl) (by rfl) T.pF xP (aj (aB (pv 5) rfl) aA)) aA))) aA)))
   (aF (cB (pv 2))))))))))))),?_⟩
  refine sq fun R hR=>?_
  refine ⟨_,rfl,rdF hX.o T.aW T.yg (uD ..) ⟨_,rfl,rdF hX.o T.aW T.yh (pJ ..) ⟨_,rfl,rdF hX.o T.aW T.uM (nW ..) ?_⟩⟩⟩
  have X:=hX
  have Y:=hY
  refine ⟨_,rfl,rdF X.o T.aW T.yj (wX ..) ⟨_,rfl,rdF Y.o T.aW T.yj (wX ..) (.inl ⟨x.cm.p,x.cm.dx,x.cm.d,y.cm.p,y.cm.dx,y.cm.d,x.room,x.cm.t,x.cm.l,y.cm.t,y.cm.l,x.cm.c,y.cm.c,rfl,X.cm.o,X.cm.d,(by rw [<- al.room];exact Y.cm.o),Y.cm.d,ok1.nd,ok1.pos,ok2.pos,by have:=kJ y.cm.c x.cm.c;have:=al.kx.cm.k;have:=al.ky.cm.k;have:=al.few;lia,by have:=ok1.len;have:=ok2.len;lia,fun p1 dx1 d1 b1 KD G1 np ne ft1 o1 o2 s1=>?_⟩)⟩⟩
  rw [yr] at ok2 ok4
  have k1:=(ok1.Zd ok2).fit ft1
  refine ⟨⟨p1,dx1,d1,x.cm.t+y.cm.t,x.cm.l+y.cm.l+KD,b1⟩,x.room,rfl,⟨o1,o2⟩,k1.nd,k1.pos,by show b1.length<=63;have:=Gs ft1;have:=kJ y.cm.c x.cm.c;have:=al.kx.cm.k;have:=al.ky.cm.k;lia,fun t1 H2 s2 i2=>⟨by show 4<=sizeLine;decide,fun L hL=>?_⟩⟩
  have s12:=s1.trans s2
  have WL:Gw H (upd H2 L (.lst [.int x.room,.int x.reach,.int x.span,.ref t1])) L 3 [.int x.room,.int x.reach,.int x.span,.ref t1] [iT x.room,iT x.reach,iT x.span,Cp x.room ⟨p1,dx1,d1,x.cm.t+y.cm.t,x.cm.l+y.cm.l+KD,b1⟩]:=by
   have sL:=Same.new (o:=.lst [.int x.room,.int x.reach,.int x.span,.ref t1]) hL
   refine ⟨s12.trans sL,s12.free hL,ao,.cons (jj _) (.cons (jj _) (.cons (jj _) (.cons ?_ .nil)))⟩
   exact i2.Jx (fun b xs p e=>⟨sL _ _ e,s1.free p,ak e hL⟩) fun b xs e=>sL _ _ e
  generalize upd H2 L (.lst [.int x.room,.int x.reach,.int x.span,.ref t1])=J1 at WL ⊢
  have X:=hX.same WL.s
  have Y:=hY.same WL.s
  clear s1 s2 s12 i2
  walk_at "g"
  k_dat WL.gL "k"
  refine ⟨_,rfl,rdF X.o T.aW T.yp (wY ..) ⟨_,rfl,rdF Y.o T.aW T.yp (wY ..) (.inl ⟨x.wn.p,x.wn.dx,x.wn.d,y.wn.p,y.wn.dx,y.wn.d,x.room,x.wn.t,x.wn.l,y.wn.t,y.wn.l,x.wn.c,y.wn.c,rfl,X.wn.o,X.wn.d,(by rw [<- al.room];exact Y.wn.o),Y.wn.d,ok3.nd,ok3.pos,ok4.pos,by have:=kJ y.wn.c x.wn.c;have:=al.kx.wn.k;have:=al.ky.wn.k;have:=al.few;lia,by have:=ok3.len;have:=ok4.len;lia,fun p2 dx2 d2 b2 tR G1 np ne ft2 o1 o2 s1=>?_⟩)⟩⟩
  have k2:=(ok3.Zd ok4).fit ft2
  refine ⟨⟨p2,dx2,d2,x.wn.t+y.wn.t,x.wn.l+y.wn.l+tR,b2⟩,x.room,rfl,⟨o1,o2⟩,k2.nd,k2.pos,by show b2.length<=63;have:=Gs ft2;have:=kJ y.wn.c x.wn.c;have:=al.kx.wn.k;have:=al.ky.wn.k;lia,fun t2 G2 s2 i2=>?_⟩
  refine ⟨L,_,_,rfl,rfl,(s1.trans s2) _ _ WL.gL,aV (by simp),?_⟩
  have WA:=WL.push (s1.trans s2) (i2.old s1)
  generalize upd G2 L _=J2 at WA ⊢
  have X:=hX.same WA.s
  have Y:=hY.same WA.s
  clear s1 s2 i2
  have L1:=gq al.kx.up.g al.kx.up.t al.kx.few
  have L2':=gq al.ky.up.g al.ky.up.t al.ky.few
  walk_at "g"
  k_dat WA.gL "k"
  refine ⟨_,rfl,rdF X.o T.aW T.yq (Ng ..) ⟨_,rfl,rdF Y.o T.aW T.yq (Ng ..) (.inl ⟨x.up.p,x.up.x.dx,x.up.x.a,y.up.p,y.up.x.dx,y.up.x.a,x.up.x.bs,y.up.x.bs,x.up.x.r,x.up.x.tt,x.up.x.ov,x.up.x.un,x.up.x.tn,y.up.x.tt,y.up.x.ov,y.up.x.un,y.up.x.tn,x.up.x.mi,x.up.x.ma,y.up.x.mi,y.up.x.ma,x.up.x.ls,y.up.x.ls,rfl,X.up,(by rw [<- er1];exact Y.up),al.kx.up.g.r2,al.kx.up.g.r64,by have:=L1.1;lia,by have:=L2'.1;lia,(al.jb al.kx.up al.ky.up).1,(al.jb al.kx.up al.ky.up).2,L1.2,L2'.2,fun p3 dx3 d3 bs3 Uo tn3 ov3 un3 G1 st3 rn3 np nd2 nc2 s1=>?_⟩)⟩⟩
  have g3:=gq (n:=n+m) (al.kx.up.g.Zd (by rw [<- er1];exact al.ky.up.g) st3) (by have:=al.kx.up.t;have:=al.ky.up.t;lia) al.few
  refine ⟨p3,⟨dx3,d3,bs3,x.up.x.r,x.up.x.tt+y.up.x.tt,ov3,un3,tn3,lo2 x.up.x.mi y.up.x.mi,hi2 x.up.x.ma y.up.x.ma,Uo⟩,rfl,rn3,by have:=g3.1;show Uo.length<=400;lia,fun t3 G2 s2 i2=>?_⟩
  refine ⟨L,_,_,rfl,rfl,(s1.trans s2) _ _ WA.gL,aV (by simp),?_⟩
  have WB:=WA.push (s1.trans s2) (i2.old s1)
  generalize upd G2 L _=J3 at WB ⊢
  have X:=hX.same WB.s
  have Y:=hY.same WB.s
  clear s1 s2 i2
  have L1:=gq al.kx.dn.g al.kx.dn.t al.kx.few
  have L2':=gq al.ky.dn.g al.ky.dn.t al.ky.few
  walk_at "g"
  k_dat WB.gL "k"
  refine ⟨_,rfl,rdF X.o T.aW T.yt (wZ ..) ⟨_,rfl,rdF Y.o T.aW T.yt (wZ ..) (.inl ⟨x.dn.p,x.dn.x.dx,x.dn.x.a,y.dn.p,y.dn.x.dx,y.dn.x.a,x.dn.x.bs,y.dn.x.bs,x.dn.x.r,x.dn.x.tt,x.dn.x.ov,x.dn.x.un,x.dn.x.tn,y.dn.x.tt,y.dn.x.ov,y.dn.x.un,y.dn.x.tn,x.dn.x.mi,x.dn.x.ma,y.dn.x.mi,y.dn.x.ma,x.dn.x.ls,y.dn.x.ls,rfl,X.dn,(by rw [<- er2];exact Y.dn),al.kx.dn.g.r2,al.kx.dn.g.r64,by have:=L1.1;lia,by have:=L2'.1;lia,(al.jb al.kx.dn al.ky.dn).1,(al.jb al.kx.dn al.ky.dn).2,L1.2,L2'.2,fun p4 dx4 d4 bs4 Z6 tn4 ov4 un4 G1 st4 rn4 np nd2 nc2 s1=>?_⟩)⟩⟩
  have g4:=gq (n:=n+m) (al.kx.dn.g.Zd (by rw [<- er2];exact al.ky.dn.g) st4) (by have:=al.kx.dn.t;have:=al.ky.dn.t;lia) al.few
  refine ⟨p4,⟨dx4,d4,bs4,x.dn.x.r,x.dn.x.tt+y.dn.x.tt,ov4,un4,tn4,lo2 x.dn.x.mi y.dn.x.mi,hi2 x.dn.x.ma y.dn.x.ma,Z6⟩,rfl,rn4,by have:=g4.1;show Z6.length<=400;lia,fun t4 G2 s2 i2=>?_⟩
  refine ⟨L,_,_,rfl,rfl,(s1.trans s2) _ _ WB.gL,aV (by simp),?_⟩
  have WC:=WB.push (s1.trans s2) (i2.old s1)
  generalize upd G2 L _=J4 at WC ⊢
  have X:=hX.same WC.s
  have Y:=hY.same WC.s
  clear s1 s2 i2
  walk_at "g"
  refine ⟨_,rfl,rdF X.o T.aW T.uN (jR ..) ⟨_,rfl,rdF Y.o T.aW T.uN (jR ..) (.inl ⟨x.wi.p,x.wi.dx,x.wi.l,y.wi.p,y.wi.dx,y.wi.l,x.room,x.reach,x.wi.c,y.wi.c,x.wi.ps,y.wi.ps,rfl,X.wi,(by rw [<- al.room,<- al.reach];exact Y.wi),by have:=al.kx.wl;have:=al.ky.wl;have:=al.few;lia,by lia,by lia,fun p5 dx5 d5 ps5 G5 np5 nd5 eb5 wn5 s5=>?_⟩)⟩⟩
  have WD:=WC.same s5
  walk_at "g"
  k_dat WD.gL "k"
  refine ⟨_,rfl,rdF wn5.o T.cU T.wg (qM ..) ⟨_,rfl,rdF wn5.o T.cU T.wu (mR ..) ⟨_,rfl,rdF wn5.o T.cU T.mL (je ..) ⟨_,rfl,rdF wn5.o T.cU T.xX (sE ..) (.inl ⟨_,_,rfl,.inl (.inl (.inl wn5.b.l)),fun q1 hq1=>⟨by show 4<=sizeLine;decide,fun u1 hu1=>?_⟩⟩)⟩⟩⟩⟩
  have s1:Same J4 G5:=s5
  have s2:=(Same.new (o:=.lst (ps5.map fun p=>V.ref p.1)) hq1).trans (Same.new (o:=.tup [.int x.room,.int x.reach,.int (x.wi.c+y.wi.c),.ref q1]) hu1)
  have gq1:(upd (upd G5 q1 (.lst (ps5.map fun p=>V.ref p.1))) u1 (.tup [.int x.room,.int x.reach,.int (x.wi.c+y.wi.c),.ref q1])) q1=some (.lst (ps5.map fun p=>V.ref p.1)):=by rw [au (ak ao hu1)];exact ao
  have gt1:(upd (upd G5 q1 (.lst (ps5.map fun p=>V.ref p.1))) u1 (.tup [.int x.room,.int x.reach,.int (x.wi.c+y.wi.c),.ref q1])) u1=some (.tup [.int x.room,.int x.reach,.int (x.wi.c+y.wi.c),.ref q1]):=ao
  generalize upd (upd G5 q1 (.lst (ps5.map fun p=>V.ref p.1))) u1 (.tup [.int x.room,.int x.reach,.int (x.wi.c+y.wi.c),.ref q1])=G2 at s2 gq1 gt1 ⊢
  have i2:Is G2 (fun a=>G5 a=none) 3 (.ref u1) (Ni x.room x.reach ⟨p5,dx5,d5,x.wi.c+y.wi.c,ps5⟩):=.ofT gt1 (.cons (jj _) (.cons (jj _) (.cons (jj _) (.cons (Uj hq1 (wn5.b.same s2) gq1) .nil))))
  refine ⟨L,_,_,rfl,rfl,(s1.trans s2) _ _ WC.gL,aV (by simp),?_⟩
  have WE:=WC.push (s1.trans s2) (i2.old s1)
  generalize upd G2 L _=J5 at WE ⊢
  have X:=hX.same WE.s
  have Y:=hY.same WE.s
  clear s1 s2 i2
  walk_at "g"
  refine ⟨_,rfl,rdF X.o T.aW T.yu (xg ..) ⟨_,rfl,rdF Y.o T.aW T.yu (xg ..) (.inl ⟨x.di.p,x.di.dx,x.di.l,y.di.p,y.di.dx,y.di.l,x.room,x.di.n,x.di.v,y.di.n,y.di.v,x.di.C,y.di.C,rfl,X.di,(by rw [<- al.room];exact Y.di),al.kx.dl,(by rw [<- al.room];exact al.ky.dl),al.nx,al.ny,by lia,by lia,by have:=al.kx.dc;have:=al.ky.dc;have:=al.few;lia,fun p6 dx6 l6 v6 G6 np6 nd6 ls6 dn6 s6=>?_⟩)⟩⟩
  have WF:=WE.same s6
  walk_at "g"
  k_dat WF.gL "k"
  refine ⟨_,rfl,rdF dn6.o T.dR T.wA (qN ..) ⟨_,rfl,rdF dn6.o T.dR T.xY (mU ..) ⟨_,rfl,rdF dn6.o T.dR T.rY (lB ..) ⟨_,rfl,rdF dn6.o T.dR T.xZ (wV ..) (.inl ⟨_,_,rfl,.inl (.inl (.inl dn6.l)),fun q2 hq2=>⟨by show 4<=sizeLine;decide,fun u2 hu2=>?_⟩⟩)⟩⟩⟩⟩
  have s1:Same J5 G6:=s6
  have s2:=(Same.new (o:=.lst ((srt (My.up v6 (un x.di.C y.di.C))).map V.int)) hq2).trans (Same.new (o:=.tup [.int x.room,.int (x.di.n+y.di.n),.int v6,.ref q2]) hu2)
  have gq2:(upd (upd G6 q2 (.lst ((srt (My.up v6 (un x.di.C y.di.C))).map V.int))) u2 (.tup [.int x.room,.int (x.di.n+y.di.n),.int v6,.ref q2])) q2=some (.lst ((srt (My.up v6 (un x.di.C y.di.C))).map V.int)):=by rw [au (ak ao hu2)];exact ao
  have gt2:(upd (upd G6 q2 (.lst ((srt (My.up v6 (un x.di.C y.di.C))).map V.int))) u2 (.tup [.int x.room,.int (x.di.n+y.di.n),.int v6,.ref q2])) u2=some (.tup [.int x.room,.int (x.di.n+y.di.n),.int v6,.ref q2]):=ao
  generalize upd (upd G6 q2 (.lst ((srt (My.up v6 (un x.di.C y.di.C))).map V.int))) u2 (.tup [.int x.room,.int (x.di.n+y.di.n),.int v6,.ref q2])=G2 at s2 gq2 gt2 ⊢
  have i2:Is G2 (fun a=>G6 a=none) 3 (.ref u2) (wK x.room ⟨p6,dx6,l6,x.di.n+y.di.n,v6,un x.di.C y.di.C⟩):=.ofT gt2 (.cons (jj _) (.cons (jj _) (.cons (jj _) (.cons (Cm hq2 gq2) .nil))))
  refine ⟨L,_,_,rfl,rfl,(s1.trans s2) _ _ WE.gL,aV (by simp),?_⟩
  have WG:=WE.push (s1.trans s2) (i2.old s1)
  generalize upd G2 L _=J6 at WG ⊢
  have X:=hX.same WG.s
  have Y:=hY.same WG.s
  clear s1 s2 i2
  walk_at "g"
  refine ⟨_,rfl,rdF X.o T.aW T.uO (jf ..) ⟨_,rfl,rdF Y.o T.aW T.uO (jf ..) (.inl ⟨x.ba.p,x.ba.dx,x.ba.l,y.ba.p,y.ba.dx,y.ba.l,x.span,x.ba.q,y.ba.q,rfl,X.ba,(by rw [<- al.span];exact Y.ba),fun p7 dx7 l7 G7 np7 bn7 s7=>?_⟩)⟩⟩
  have WH:=WG.same s7
  walk_at "g"
  k_dat WH.gL "k"
  refine ⟨_,rfl,rdF bn7.o T.jQ T.yd (uz ..) ⟨_,rfl,rdF bn7.o T.jQ T.uL (wW ..) (.inl ⟨_,_,rfl,.inl (.inl (.inl bn7.l)),fun q3 hq3=>⟨by show 2<=sizeLine;decide,fun u3 hu3=>?_⟩⟩)⟩⟩
  have s1:Same J6 G7:=s7
  have s2:=(Same.new (o:=.lst ((L4 (addQ x.ba.q y.ba.q)).map V.int)) hq3).trans (Same.new (o:=.tup [.int x.span,.ref q3]) hu3)
  have gq3:(upd (upd G7 q3 (.lst ((L4 (addQ x.ba.q y.ba.q)).map V.int))) u3 (.tup [.int x.span,.ref q3])) q3=some (.lst ((L4 (addQ x.ba.q y.ba.q)).map V.int)):=by rw [au (ak ao hu3)];exact ao
  have gt3:(upd (upd G7 q3 (.lst ((L4 (addQ x.ba.q y.ba.q)).map V.int))) u3 (.tup [.int x.span,.ref q3])) u3=some (.tup [.int x.span,.ref q3]):=ao
  generalize upd (upd G7 q3 (.lst ((L4 (addQ x.ba.q y.ba.q)).map V.int))) u3 (.tup [.int x.span,.ref q3])=G2 at s2 gq3 gt3 ⊢
  have i2:Is G2 (fun a=>G7 a=none) 3 (.ref u3) (ahr x.span (addQ x.ba.q y.ba.q)):=.ofT gt3 (.cons (jj _) (.cons (Cm hq3 gq3) .nil))
  refine ⟨L,_,_,rfl,rfl,(s1.trans s2) _ _ WG.gL,aV (by simp),?_⟩
  have WI:=WG.push (s1.trans s2) (i2.old s1)
  generalize upd G2 L _=J7 at WI ⊢
  have X:=hX.same WI.s
  have Y:=hY.same WI.s
  clear s1 s2 i2
  refine hR _ _ ?_
  exact ⟨_,rfl,q L ⟨0,0,x.room,x.reach,x.span,⟨p1,dx1,d1,x.cm.t+y.cm.t,x.cm.l+y.cm.l+KD,b1⟩,⟨p2,dx2,d2,x.wn.t+y.wn.t,x.wn.l+y.wn.l+tR,b2⟩,⟨p3,⟨dx3,d3,bs3,x.up.x.r,x.up.x.tt+y.up.x.tt,ov3,un3,tn3,lo2 x.up.x.mi y.up.x.mi,hi2 x.up.x.ma y.up.x.ma,Uo⟩⟩,⟨p4,⟨dx4,d4,bs4,x.dn.x.r,x.dn.x.tt+y.dn.x.tt,ov4,un4,tn4,lo2 x.dn.x.mi y.dn.x.mi,hi2 x.dn.x.ma y.dn.x.ma,Z6⟩⟩,⟨p5,dx5,d5,x.wi.c+y.wi.c,ps5⟩,⟨p6,dx6,l6,x.di.n+y.di.n,v6,un x.di.C y.di.C⟩,⟨p7,dx7,l7,addQ x.ba.q y.ba.q⟩⟩ J7 WI.s ⟨rfl,rfl,rfl,⟨KD,ft1,rfl,rfl⟩,⟨tR,ft2,rfl,rfl⟩,⟨rfl,rfl,rfl,rfl,st3⟩,⟨rfl,rfl,rfl,rfl,st4⟩,⟨rfl,eb5⟩,⟨rfl,rfl,ls6⟩,rfl⟩ WI.done⟩
open MK
noncomputable def spUnl (A:Ad):Sp:=fun vs H Q _=>∃ x y:KS,vs=[.ref x.k,.ref y.k]/\Ko A H x/\Ko A H y/\(x.room≠y.room\/x.reach≠y.reach\/x.span≠y.span)/\∀ H',Same H H'->Q (.bl true) H'
theorem ajP (T:Tx K mg A):cP P w K mg base CX0 7 A.Yc A.zW ["_law_one","_law_other"] (spUnl A):=by
 k_dat (T.F'52.ok,qL) "a"
 ·obtain ⟨x,y,rfl,_⟩:=h
  rfl
 ·obtain ⟨x,y,rfl,hX,hY,hd,q⟩:=h
  refine ⟨_,(aq (aX (i:=2) qL.nd rfl (Or.inl rfl) (dY aA))
   (aq (ait (i:=3) (B:=A.KJ) rfl rfl rfl T.T5 qL.nd rfl rfl (ais (Um T) tb_g% rfl T.wG T.aci.kp T.ag4 .nil (aj (pv 0) (aj (pv 1) aA))) (fun _=>(aq (aX (i:=2) qL.nd rfl (Or.inl rfl) (dY (aj (cA JG (by rfl) T.nT O8 (aj (pv 3) (aj (nJ (v:=.ref A.gJ) (by rfl) T.pC (by rfl)) aA))) (aj (cA JG (by rfl) T.nT O8 (aj (pv 3) (aj (ahJ (v:=.ty "ValueError") rfl T.Q6 PyProof.Rows.Boot.«ValueError» rfl) aA))) aA))))
   (aF (bF (alS j7 jY jZ cM (pv 2) (aj (cA Tt (by rfl) T.nT O8 (aj (pv 3) (aj (iY (aj (nJ (v:=.ref A.Im) (by rfl) T.acf (by rfl)) (aj (nJ (v:=.ref A.Io) (by rfl) T.QM (by rfl)) (aj (nJ (v:=.ref A.Ip) (by rfl) T.acg (by rfl)) (aj (nJ (v:=.ref A.Ir) (by rfl) T.QS (by rfl)) aA))))) aA))) aA)))))))
   (aF (cB (aax (agO hr.units) (pv 2) (dY (aj Am (aj Am (aj Am aA)))) (bR _)))))),?_⟩
  refine ⟨by show 0<=sizeLine;decide,fun L hL=>?_⟩
  have s1:=Same.new (o:=.lst []) hL
  have f1:(upd H L (.lst [])) L=some (.lst []):=ao
  generalize upd H L (.lst [])=H1 at s1 f1 ⊢
  refine ⟨_,rfl,_,rfl,.inr ⟨x,y,rfl,s1 _ _ hX,s1 _ _ hY,hd,A.gJ,rfl,T.xG,fun e he=>?_⟩⟩
  have se:=s1.trans (Same.new (o:=Fj e A.gJ) he)
  have fe:(upd H1 e (Fj e A.gJ)) e=some (Fj e A.gJ):=ao
  generalize upd H1 e (Fj e A.gJ)=HE at se fe ⊢
  refine ⟨_,rfl,⟨e,A.gJ,_,_,true,rfl,fe,T.Ef,rfl,(fun _ h=>h),T.fH,?_⟩⟩
  refine ⟨_,rfl,⟨e,A.gJ,_,_,true,rfl,fe,T.Ef,rfl,(fun _ h=>h),T.dJ,?_⟩⟩
  refine ⟨by show 2<=sizeLine;decide,fun M hM=>?_⟩
  have sM:=Same.new (o:=.lst [.bl true,.bl true]) hM
  have s2:=se.trans sM
  have fe2:=sM _ _ fe
  have vM:H M=none:=se.free hM
  have fM:(upd HE M (.lst [.bl true,.bl true])) M=some (.lst [.bl true,.bl true]):=ao
  generalize upd HE M (.lst [.bl true,.bl true])=H2 at s2 fe2 fM ⊢
  refine ⟨_,rfl,.inl ⟨rfl,_,.inl (.inl fM)⟩,_,rfl,by show 4<=sizeLine;decide,fun tp htp=>?_⟩
  have s3:=Same.new (o:=.tup [.ref A.Im,.ref A.Io,.ref A.Ip,.ref A.Ir]) htp
  refine ⟨e,A.gJ,tp,[A.Im,A.Io,A.Ip,A.Ir],false,rfl,s3 _ _ fe2,T.Ef,ao,T.nY,?_⟩
  refine ⟨M,_,_,rfl,rfl,s3 _ _ fM,aV (by simp),?_⟩
  refine ⟨_,rfl,by show 3<=sizeLine;decide,fun N hN=>?_⟩
  have s4:Same H (upd (upd H2 tp (.tup [.ref A.Im,.ref A.Io,.ref A.Ip,.ref A.Ir])) M (.lst ([.bl true,.bl true]++[.bl false]))):=fun b o e=>by rw [au (ak e vM)];exact (s2.trans s3) b o e
  have sN:=Same.new (o:=.lst [.bl true,.bl true,.bl false]) hN
  exact ⟨1,M,N,rfl,rfl,by decide,Is.alike (P:=fun _=>True) (t:=.l [.f (.bl true),.f (.bl true),.f (.bl false)]) (.ofL trivial (sN _ _ ao) (.cons (.flat rfl) (.cons (.flat rfl) (.cons (.flat rfl) .nil)))) (P':=fun _=>True) (.ofL trivial ao (.cons (.flat rfl) (.cons (.flat rfl) (.cons (.flat rfl) .nil)))),q _ (s4.trans sN)⟩
noncomputable def spRef (A:Ad):Sp:=fun vs H Q _=>∃ (x:KS) (ev:x.room % 2=0),vs=[.ref x.k,.int x.room,.int x.reach,.int x.span]/\Kp A H x/\2<=x.room/\x.room<=64/\∀ H',Same H H'->Q (.bl true) H'
theorem share (C:α->Prop) {G:α->Prop} (f:(∀ x,C x->G x)->R) (k:∀ x,C x->G x):R:=f k
theorem amr {β:Type} (C:α->β->Prop) {G:α->β->Prop} (f:(∀ x y,C x y->G x y)->R) (k:∀ x y,C x y->G x y):R:=f k
theorem ok'53 (T:Tx K mg A):cP P w K mg base CX0 8 A.Yd A.v9 ["_law_keepsake","_law_room","_law_reach","_law_span"] (spRef A):=by
 k_dat (T.F'53.ok,nU) "a"
 ·obtain ⟨x,ev,rfl,_⟩:=h
  rfl
 ·obtain ⟨x,ev,rfl,hX,r2,r64,q⟩:=h
  refine ⟨_,(aq (aX (i:=4) nU.nd rfl (Or.inl rfl) (dY (aj (fC T.JV (Kz T) tb_g% rfl T.jd T.ZR .nil aQ (aj (Iz (bB IW (pv 1) aC (bR _)) (aM cu (pv 1) aC) aC) (aj (pv 2) (aj (pv 3) aA)))) (aj (fC T.JV (Kz T) tb_g% rfl T.jd T.ZR .nil aQ (aj (pv 1) (aj (aM cu (aM dM (pv 2) aC) aC) (aj (pv 3) aA)))) aA))))
   (aq (bF (kE j7 jY jZ cM (pv 4) (aj (fC T.JV (Kz T) tb_g% rfl T.jd T.ZR .nil aQ (aj (pv 1) (aj (pv 2) (aj (aM cu (aM dM (pv 3) aC) aC) aA)))) aA)))
   (aq (fO (PW.pt (pw_or (bB uH (aM cu (aM dM (pv 2) aC) aC) (pv 2) (bR _)) (pw_or1 (bB uH (aM cu (aM dM (pv 3) aC) aC) (pv 3) (bR _))))) (aF (aX (i:=4) nU.nd rfl (Or.inl rfl) (Aw FW (pv 4) FT (tH aC)))) dj)
   (aq (zB uG rfl (tG (pv 4)) (gG (i:=5) nU.nd rfl (Or.inl rfl)) (aF (fO (PW.pt (pw_or (YK (YJ (aJ (ajP T) tb_g% rfl T.Kc T.F'52.kp T.b'52 .nil aQ (aj (pv 0) (aj (pv 5) aA))))) (pw_or1 (YK (YJ (aJ (ajP T) tb_g% rfl T.Kc T.F'52.kp T.b'52 .nil aQ (aj (pv 5) (aj (pv 0) aA)))))))) (aF (cB Am)) dj)))
   (aF (cB Am)))))),?_⟩
  apply share (fun rc:Int=>∃ ra:Nat,rc=ra/\2<=ra/\ra<=64/\ra % 2=0/\ra≠x.room)
  ·intro key
   refine ⟨_,rfl,_,_,rfl,rfl,_,rfl,gP (fun h=>?_) (fun h=>?_)⟩
   ·have h:=of_decide_eq_true h
    refine ⟨_,rfl,_,_,rfl,rfl,?_⟩
    dsimp only
    generalize hrc:(x.room:Int)+2=rc
    exact key rc ⟨x.room+2,by lia,by lia,by lia,by lia,by lia⟩
   ·have h:¬ (x.room:Int)<60+4:=fun z=>h (decide_eq_true z)
    exact key 2 ⟨2,rfl,by lia,by lia,by lia,by lia⟩
  intro rc ⟨ra,erc,ra2,ra64,rae,rane⟩
  subst erc
  apply amr (fun (L:Addr) (G:Hp)=>∃ ys:List KS,G L=some (.lst (ys.map fun y=>.ref y.k))/\Same H G/\∀ y∈ys,Ko A G y/\(x.room≠y.room\/x.reach≠y.reach\/x.span≠y.span))
  ·intro key
   refine ⟨_,rfl,_,rfl,?_⟩
   refine fun k dk n1 n2 n3=>⟨k,dk,ra,x.reach,x.span,rfl,ao,by lia,by lia,by lia,fun y1 H1 K1 E1 ek xH bt=>⟨rfl,?_⟩⟩
   k_dat H "d"
   have s1:Same H H1:=fun b o e=>bt b o (up2 b o e) (ak e n1)
   rw [<- ek]
   clear n1 n2 n3 bt xH up2 ek
   refine ⟨_,rfl,_,rfl,_,_,rfl,rfl,(by show (0:Int)<1000;decide),_,_,rfl,rfl,_,rfl,?_⟩
   refine fun k dk n1 n2 n3=>⟨k,dk,x.room,(x.reach % 1000+1001),x.span,rfl,ao,by lia,by lia,by lia,fun y2 H2 K2 E2 ek xH bt=>⟨rfl,?_⟩⟩
   k_dat H1 "d"
   have s2:Same H1 H2:=fun b o e=>bt b o (up2 b o e) (ak e n1)
   rw [<- ek]
   clear n1 n2 n3 bt xH up2 ek
   refine ⟨by show 2<=sizeLine;decide,fun L hL=>?_⟩
   have sL:=Same.new (o:=.lst [.ref y1.k,.ref y2.k]) hL
   have fL:(upd H2 L (.lst [.ref y1.k,.ref y2.k])) L=some (.lst [.ref y1.k,.ref y2.k]):=ao
   generalize upd H2 L (.lst [.ref y1.k,.ref y2.k])=H3 at sL fL ⊢
   refine ⟨_,rfl,.inl ⟨rfl,_,.inl (.inl fL)⟩,_,rfl,_,rfl,_,rfl,_,_,rfl,rfl,(by show (0:Int)<1000;decide),_,_,rfl,rfl,?_⟩
   refine fun k dk n1 n2 n3=>⟨k,dk,x.room,x.reach,(x.span % 1000+1001),rfl,ao,by lia,by lia,by lia,fun y3 H4 K3 E3 ek xH bt=>⟨rfl,?_⟩⟩
   k_dat H3 "d"
   have s4:Same H3 H4:=fun b o e=>bt b o (up2 b o e) (ak e n1)
   rw [<- ek]
   clear n1 n2 n3 bt xH up2 ek
   refine ⟨L,_,_,rfl,rfl,s4 _ _ fL,aV (by simp),?_⟩
   have o1:Ko A H4 y1:=(s2.trans (sL.trans s4)) _ _ K1.o
   have o2:Ko A H4 y2:=(sL.trans s4) _ _ K2.o
   have o3:Ko A H4 y3:=K3.o
   have s04:=s1.trans (s2.trans (sL.trans s4))
   have vL:H L=none:=(s1.trans s2).free hL
   have f4:=s4 _ _ fL
   have ko:∀ {y:KS},Ko A H4 y->Ko A (upd H4 L (.lst ([.ref y1.k,.ref y2.k]++[.ref y3.k]))) y:=fun {y} h=>(au (jq h f4 (by intro z;cases z))).trans h
   have p1:=ko o1
   have p2:=ko o2
   have p3:=ko o3
   have s5:Same H (upd H4 L (.lst ([.ref y1.k,.ref y2.k]++[.ref y3.k]))):=fun b o e=>by rw [au (ak e vL)];exact s04 b o e
   have f5:(upd H4 L (.lst ([.ref y1.k,.ref y2.k]++[.ref y3.k]))) L=some (.lst ([y1,y2,y3].map fun y=>.ref y.k)):=ao
   generalize upd H4 L (.lst ([.ref y1.k,.ref y2.k]++[.ref y3.k]))=G at p1 p2 p3 s5 f5 ⊢
   have d1:x.room≠y1.room:=fun z=>rane (by rw [z];exact E1.room.symm)
   have one:∀ L':Addr,∀ G':Hp,G' L'=some (.lst [.ref y1.k])->Same G G'->∃ ys:List KS,G' L'=some (.lst (ys.map fun y=>.ref y.k))/\Same H G'/\∀ y∈ys,Ko A G' y/\(x.room≠y.room\/x.reach≠y.reach\/x.span≠y.span):=fun L' G' h s=>⟨[y1],h,s5.trans s,fun y m=>by
    rw [eZ.mp m];exact ⟨s _ _ p1,.inl d1⟩⟩
   refine ⟨_,rfl,_,_,rfl,rfl,(by show (0:Int)<1000;decide),_,_,rfl,rfl,_,rfl,rfl,_,rfl,gP (fun h=>?_) (fun h1=>?_)⟩
   rotate_left
   ·refine ⟨_,rfl,_,_,rfl,rfl,(by show (0:Int)<1000;decide),_,_,rfl,rfl,_,rfl,rfl,_,rfl,gP (fun h=>?_) (fun h2=>?_)⟩
    rotate_left
    ·have e1:¬ x.reach % 1000+1001=x.reach:=fun z=>h1 (decide_eq_true (congrArg V.int z))
     have e2:¬ x.span % 1000+1001=x.span:=fun z=>h2 (decide_eq_true (congrArg V.int z))
     exact key L G ⟨[y1,y2,y3],f5,s5,fun y m=>by
      simp only [bN,jK,or_false] at m
      rcases m with rfl | rfl | rfl
      ·exact ⟨p1,.inl d1⟩
      ·exact ⟨p2,.inr (.inl fun z=>e1 (z.trans E2.reach).symm)⟩
      ·exact ⟨p3,.inr (.inr fun z=>e2 (z.trans E3.span).symm)⟩⟩
    ·refine ⟨_,rfl,_,rfl,L,_,rfl,.inl (.inl f5),fun M hM=>?_⟩
     have sM:=Same.new (o:=.lst (KR ([y1,y2,y3].map fun y=>.ref y.k) none (some 1))) hM
     exact key M _ (one M _ ao sM)
   ·refine Bb ⟨_,rfl,_,rfl,L,_,rfl,.inl (.inl f5),fun M hM=>?_⟩
    have sM:=Same.new (o:=.lst (KR ([y1,y2,y3].map fun y=>.ref y.k) none (some 1))) hM
    exact key M _ (one M _ ao sM)
  intro L G ⟨ys,fL,sG,hy⟩
  refine ⟨_,rfl,L,rfl,⟨_,.inl (.inl fL)⟩,RX (K:=K) (a:=L) (xs:=ys.map fun y=>.ref y.k) (fun i σ J=>∃ y5:Option V,σ=[some (.ref x.k),some (.int x.room),some (.int x.reach),some (.int x.span),some (.ref L),y5]/\Same G J) ⟨none,rfl,Same.refl _⟩ (fun i σ J _ ⟨_,_,s⟩=>.inl (.inl (s _ _ fL))) ?_ ?_⟩
  ·rintro i v σ J hi ⟨y5,rfl,sJ⟩
   obtain ⟨y,my,rfl⟩:∃ y∈ys,v = .ref y.k:=by
    rw [iR] at hi
    cases e:ys[i]? with
    | none=>rw [e] at hi;cases hi
    | some y=>rw [e] at hi;exact ⟨y,List.mem_of_getElem? e,(cI hi).symm⟩
   obtain ⟨hK,hd⟩:=hy y my
   have hx:Ko A J x:=(sG.trans sJ) _ _ hX.o
   refine ⟨_,rfl,_,rfl,x,y,rfl,hx,sJ _ _ hK,hd,fun J1 t1=>⟨_,rfl,Az ?_⟩⟩
   refine ⟨_,rfl,_,rfl,y,x,rfl,(sJ.trans t1) _ _ hK,t1 _ _ hx,by rcases hd with z | z | z;exact .inl (aL z);exact .inr (.inl (aL z));exact .inr (.inr (aL z)),fun J2 t2=>⟨_,rfl,Az ?_⟩⟩
   exact ⟨_,rfl,sJ.trans (t1.trans t2)⟩
  ·rintro σ J ⟨y5,rfl,sJ⟩
   exact q _ (sG.trans sJ)
open MK
theorem Kh.putT {w:Int} (h:Kh x n) (s:SP th w x x'):Kt x' n:=by
 have r:=s.sb.room
 refine ⟨by rw [r];exact h.r2,by rw [r];exact h.r64,by rw [r];exact h.rr,by rw [r,s.wn];exact h.wn,by rw [r,s.dn];exact h.dn,?_,h.few⟩
 have:=s.wi.len
 rw [dH,jH] at this
 have l1:=h.wl
 have l2:=h.few
 exact jL this (by show x.wi.ps.length+1<=100;lia)
theorem ams (a:Addr):(Value.ref a == Value.ref a)=true:=by simp
theorem mF {b:Addr}:b∈x.all↔b=x.k\/b∈x.pts:=by unfold KS.all KS.pts;exact bN
theorem SB.all (h:SB x x'):x'.all=x.all:=by
 have:x'.k::x'.pts=x.k::x.pts:=by rw [h.k,h.pts]
 exact this
theorem Kp.live (h:Kp A H x):∀ b∈x.all,∃ C e fs,H b=some (.ins C e fs):=by
 intro b m
 unfold KS.all at m
 simp only [bN,jK,or_false] at m
 rcases m with rfl | rfl | rfl | rfl | rfl | rfl | rfl | rfl
 ·exact ⟨_,_,_,h.o⟩
 ·exact ⟨_,_,_,h.cm.o⟩
 ·exact ⟨_,_,_,h.wn.o⟩
 ·exact ⟨_,_,_,h.up.o⟩
 ·exact ⟨_,_,_,h.dn.o⟩
 ·exact ⟨_,_,_,h.wi.o⟩
 ·exact ⟨_,_,_,h.di.o⟩
 ·exact ⟨_,_,_,h.ba.o⟩
theorem Kp.apart (h:Kp A H x) {b:Addr} {o:HO} (e:H b=some o) (no:∀ C e fs,o ≠ .ins C e fs):b∉x.pts:=fun m=>by
 obtain ⟨C,d,fs,e2⟩:=h.live b (mF.mpr (.inr m))
 exact no C d fs (cI (e.symm.trans e2))
/-- another keepsake,where this one's parts change -/
theorem Far.kp (f:Far A x.pts H H') (hy:Kp A H y) (d:∀ b∈y.all,b∉x.all):Kp A H' y :=
 (f.py y hy.pp fun b m m2=>d b (mF.mpr (.inr m)) (mF.mpr (.inr m2))).kp (f.pb _ _ hy.o fun m=>d _ (mF.mpr (.inl rfl)) (mF.mpr (.inr m))) hy.nk
theorem Far.is (f:Far A x.pts H H') (hx:Kp A H x) {v:V} (h:Is H (fun _=>True) n v t):Is H' (fun _=>True) n v t :=
 h.keep (fun _ _ _ e=>f.pb _ _ e (hx.apart e fun _ _ _ z=>by cases z)) (fun _ _ e=>f.pb _ _ e (hx.apart e fun _ _ _ z=>by cases z)) fun _ p=>p
structure W3 (A:Ad) (H0 H:Hp) (x y:KS) (n m room:Nat) (reach span:Int):Prop where
 scr:Same H0 H
 kx:Kp A H x
 ky:Kp A H y
 hx:Kh x n
 hy:Kh y m
 bx:Kb x
 by':Kb y
 ex:x.room=room/\x.reach=reach/\x.span=span
 ey:y.room=room/\y.reach=reach/\y.span=span
 ap:∀ b∈y.all,b∉x.all
 fx:∀ b∈x.all,H0 b=none
 fy:∀ b∈y.all,H0 b=none
theorem W3.same {m:Nat} (h:W3 A H0 H x y n m room reach span) (s:Same H H'):W3 A H0 H' x y n m room reach span:=⟨h.scr.trans s,h.kx.same s,h.ky.same s,h.hx,h.hy,h.bx,h.by',h.ex,h.ey,h.ap,h.fx,h.fy⟩
theorem W3.swap {m:Nat} (h:W3 A H0 H x y n m room reach span):W3 A H0 H y x m n room reach span:=⟨h.scr,h.ky,h.kx,h.hy,h.hx,h.by',h.bx,h.ey,h.ex,fun b m1 m2=>h.ap b m2 m1,h.fy,h.fx⟩
theorem W3.row {H1:Hp} {m:Nat} {r:R3} (h:W3 A H0 H x y n m room reach span) (hn:n<63) (ok:r.ok) (k1:Kp A H1 x') (s1:SR r x x') (f1:Far A x.pts H H1):W3 A H0 H1 x' y (n+1) m room reach span:=by
 refine ⟨fun b o e=>f1.pb _ _ (h.scr b o e) fun m=>?_,k1,f1.kp h.ky h.ap,h.hx.row hn ok s1,h.hy,h.bx.row ok s1,h.by',⟨s1.sb.room.trans h.ex.1,s1.sb.reach.trans h.ex.2.1,s1.sb.span.trans h.ex.2.2⟩,h.ey,by rw [s1.sb.all];exact h.ap,by rw [s1.sb.all];exact h.fx,h.fy⟩
 have:=h.fx b (mF.mpr (.inr m));rw [e] at this;cases this
theorem W3.al {m:Nat} (h:W3 A H0 H x y n m room reach span) (l:n+m<=63):Alk x y n m :=
 ⟨h.ey.1.trans h.ex.1.symm,h.ey.2.1.trans h.ex.2.1.symm,h.ey.2.2.trans h.ex.2.2.symm,h.hx,h.hy,l,h.bx.2,h.by'.2⟩
theorem W3.far {m:Nat} (h:W3 A H0 H x y n m room reach span) (f:Far A z.pts H H') (fz:∀ b∈z.all,H0 b=none) (d1:∀ b∈x.all,b∉z.all) (d2:∀ b∈y.all,b∉z.all):W3 A H0 H' x y n m room reach span:=by
 refine ⟨fun b o e=>f.pb _ _ (h.scr b o e) fun m=>?_,f.kp h.kx d1,f.kp h.ky d2,h.hx,h.hy,h.bx,h.by',h.ex,h.ey,h.ap,h.fx,h.fy⟩
 have:=fz b (mF.mpr (.inr m));rw [e] at this;cases this
theorem Kp.off (h:Kp A H x) (fz:∀ b∈z.all,H b=none):∀ b∈x.all,b∉z.all:=fun b m m2=>by
 obtain ⟨_,_,_,e⟩:=h.live b m
 have:=fz b m2
 rw [e] at this;cases this
theorem kb0 (e:Eqp y (K0 room reach span)):Kb y:=by
 unfold Kb
 rw [e.wi.b,e.di.C]
 exact ⟨fun b m=>(nomatch m),List.Pairwise.nil⟩
theorem Is.any {P:Addr->Prop} {v:V} (h:Is H P n v t):Is H (fun _=>True) n v t:=h.keep (fun _ _ _ e=>e) (fun _ _ e=>e) fun _ _=>trivial
theorem ok'54 (T:Tx K mg A):cP P w K mg base CX0 9 A.abl A.agQ ["_law_script"] (aha K):=by
 k_dat (T.F'54.ok,pI) "a"
 ·obtain ⟨a,ns,rfl,_⟩:=h
  rfl
 ·obtain ⟨a,ns,rfl,hS,hlen,q⟩:=h
  refine ⟨_,(aq (zA (aJ (ok'38 T) tb_g% rfl T.Q0 T.F'38.kp T.b'38 .nil aQ (aj (cA (MF rfl) (by rfl) T.ajv aem (aj (Aw FW (pv 0) FT (tH aC)) aA)) aA)) (Qi rfl (kj (gG (i:=1) pI.nd rfl (Or.inl rfl)) (kj (gG (i:=2) pI.nd rfl (Or.inl rfl)) (kj (gG (i:=3) pI.nd rfl (Or.inl rfl)) FN)))))
   (aq (aX (i:=4) pI.nd rfl (Or.inl rfl) (aM dM (aM iM (cA (MF rfl) (by rfl) T.ajv aem (aj (Aw FW (pv 0) (tH (aja afz aC)) FT) aA)) aC) (aM cu (cA dZ (by rfl) T.pD oh (aj (pv 0) aA)) aC)))
   (aq (aX (i:=5) pI.nd rfl (Or.inl rfl) (fC T.JV (Kz T) tb_g% rfl T.jd T.ZR .nil aQ (aj (pv 1) (aj (pv 2) (aj (pv 3) aA)))))
   (aq (aX (i:=6) pI.nd rfl (Or.inl rfl) (fC T.JV (Kz T) tb_g% rfl T.jd T.ZR .nil aQ (aj (pv 1) (aj (pv 2) (aj (pv 3) aA)))))
   (aq (zB uG rfl (Dv rfl T.Q7 (aj (cA dZ (by rfl) T.pD oh (aj (pv 0) aA)) aA)) (gG (i:=7) pI.nd rfl (Or.inl rfl)) (aF (bF (aJ (ok'39 T) tb_g% rfl T.agY T.F'39.kp T.b'39 .nil aQ (aj (Iz (bB IW (pv 7) (pv 4) (bR _)) (pv 5) (pv 6)) (aj (aJ (ok'37 T) tb_g% rfl T.ZS T.F'37.kp T.b'37 .nil aQ (aj (fX (ixG (dO hr)) (pv 0) (pv 7) (fun _ _=>rfl)) aA)) aA))))))
   (aq (aX (i:=8) pI.nd rfl (Or.inl rfl) (dY (aj (aJ (uV T) tb_g% rfl T.fZ T.Eh.kp T.Fo .nil aQ (aj (pv 5) aA)) (aj (aJ (uV T) tb_g% rfl T.fZ T.Eh.kp T.Fo .nil aQ (aj (pv 6) aA)) aA))))
   (aq (aX (i:=9) pI.nd rfl (Or.inl rfl) (aJ (ok'51 T) tb_g% rfl T.Q5 T.F'51.kp T.b'51 .nil aQ (aj (pv 5) (aj (pv 6) aA))))
   (aq (aX (i:=10) pI.nd rfl (Or.inl rfl) (aJ (Um T) tb_g% rfl T.wG T.aci.kp T.ag4 .nil iG (aj (pv 5) (aj (pv 6) aA))))
   (aq (fO (PW.pt (pw_or (YK (YJ (cA call_isinstance (by rfl) T.nT O8 (aj (pv 10) (aj (nJ (v:=.ref A.bw) (by rfl) T.jd (by rfl)) aA))))) (pw_or (bB (DX hr.units) (aJ (uV T) tb_g% rfl T.fZ T.Eh.kp T.Fo .nil aQ (aj (pv 10) aA)) (pv 9) (bR _)) (pw_or1 (bB (DX hr.units) (dY (aj (aJ (uV T) tb_g% rfl T.fZ T.Eh.kp T.Fo .nil aQ (aj (pv 5) aA)) (aj (aJ (uV T) tb_g% rfl T.fZ T.Eh.kp T.Fo .nil aQ (aj (pv 6) aA)) aA))) (pv 8) (bR _)))))) (aF (cB Am)) dj)
   (aq (fO (PW.pt (pw_or (bB (DX hr.units) (aJ (uV T) tb_g% rfl T.fZ T.Eh.kp T.Fo .nil aQ (aj (aJ (Um T) tb_g% rfl T.wG T.aci.kp T.ag4 .nil iG (aj (pv 10) (aj (aJ (abf T) tb_g% rfl T.nR T.ag3.kp T.b'49 .nil aQ (aj (pv 10) aA)) aA))) aA)) (pv 9) (bR _)) (pw_or1 (bB (DX hr.units) (aJ (uV T) tb_g% rfl T.fZ T.Eh.kp T.Fo .nil aQ (aj (aJ (Um T) tb_g% rfl T.wG T.aci.kp T.ag4 .nil iG (aj (aJ (abf T) tb_g% rfl T.nR T.ag3.kp T.b'49 .nil aQ (aj (pv 10) aA)) (aj (pv 10) aA))) aA)) (pv 9) (bR _))))) (aF (cB Am)) dj)
   (aq (bF (dG (pv 10) T.aW T.wF (ajH T) tb_g% T.b'29 .nil aQ (aj aC (aj aC aA))))
   (aq (bF (dG (pv 10) T.aW T.uP (ajI T) tb_g% T.b'30 .nil aQ (aj aC (aj aC aA))))
   (aq (fO (bB (DX hr.units) (dY (aj (aJ (uV T) tb_g% rfl T.fZ T.Eh.kp T.Fo .nil aQ (aj (pv 5) aA)) (aj (aJ (uV T) tb_g% rfl T.fZ T.Eh.kp T.Fo .nil aQ (aj (pv 6) aA)) aA))) (pv 8) (bR _)) (aF (cB Am)) dj)
   (aq (fO (bB (DX hr.units) (aJ (uV T) tb_g% rfl T.fZ T.Eh.kp T.Fo .nil aQ (aj (aJ (abf T) tb_g% rfl T.nR T.ag3.kp T.b'49 .nil aQ (aj (pv 10) aA)) aA)) (aJ (uV T) tb_g% rfl T.fZ T.Eh.kp T.Fo .nil aQ (aj (fC T.JV (Kz T) tb_g% rfl T.jd T.ZR .nil aQ (aj (pv 1) (aj (pv 2) (aj (pv 3) aA)))) aA)) (bR _)) (aF (cB Am)) dj)
   (aF (cB (alk (aJ (ok'53 T) tb_g% rfl T.T7 T.F'53.kp T.b'53 .nil aQ (aj (pv 5) (aj (pv 1) (aj (pv 2) (aj (pv 3) aA))))) (alj (aax (agO hr.units) (aJ (uV T) tb_g% rfl T.fZ T.Eh.kp T.Fo .nil aQ (aj (aJ (Um T) tb_g% rfl T.wG T.aci.kp T.ag4 .nil iG (aj (pv 5) (aj (pv 6) aA))) aA)) (pv 9) (bR _)))))))))))))))))))),?_⟩
  obtain ⟨cs,ecs,lcs,_⟩:=TF ns none (some 1)
  refine ⟨_,rfl,_,rfl,a,_,rfl,hS,fun z hz=>?_⟩
  rw [ecs]
  refine ⟨z,_,rfl,.inl (.inl ao),?_⟩
  have s0:=Same.new (o:=.lst (cs.map V.int)) hz
  generalize upd H z (.lst (cs.map V.int))=H0 at s0 ⊢
  refine ⟨_,rfl,fun t room reach span H1 r2 r64 ev rr hre hsp ht s1=>?_⟩
  refine ⟨t,_,rfl,.inl (.inl ht),rfl,_,_,rfl,_,_,rfl,_,_,rfl,rfl,?_⟩
  have s01:=s0.trans s1
  obtain ⟨c2,ec2,_,_⟩:=TF ns (some (-1)) none
  refine ⟨_,rfl,_,rfl,_,rfl,a,_,rfl,s01.seq hS,fun z2 hz2=>?_⟩
  rw [ec2]
  refine ⟨z2,_,rfl,.inl (.inl ao),?_⟩
  have s02:=s01.trans (Same.new (o:=.lst (c2.map V.int)) hz2)
  generalize upd H1 z2 (.lst (c2.map V.int))=H2 at s02 ⊢
  refine ⟨_,_,rfl,rfl,⟨by decide,by decide⟩,_,rfl,kO (s02.seq hS) ⟨_,_,rfl,rfl,_,_,rfl,rfl,(by show (0:Int)<_+1;lia),?_⟩⟩
  dsimp only
  generalize c2.sum / 5 % (((ns.map V.int).length:Int)+1)=pl
  refine ⟨_,rfl,_,rfl,_,rfl,?_⟩
  refine fun k dk n1 n2 n3=>⟨k,dk,room,reach,span,rfl,ao,r2,r64,ev,fun x H3 kx ex ek xH bt=>⟨rfl,?_⟩⟩
  k_dat H2 "d"
  have s3:Same H2 H3:=fun b o e=>bt b o (up2 b o e) (ak e n1)
  have f3:∀ b∈x.all,H2 b=none:=fun b m=>by
   rcases mF.mp m with z | z
   ·rw [z,ek];exact n1
   ·exact up2.free (xH b z)
  rw [<- ek]
  clear n1 n2 n3 bt xH up2 ek
  refine ⟨_,rfl,_,rfl,_,rfl,?_⟩
  refine fun k dk n1 n2 n3=>⟨k,dk,room,reach,span,rfl,ao,r2,r64,ev,fun y H4 ky ey ek xH bt=>⟨rfl,?_⟩⟩
  k_dat H3 "d"
  have s4:Same H3 H4:=fun b o e=>bt b o (up2 b o e) (ak e n1)
  have f4:∀ b∈y.all,H3 b=none:=fun b m=>by
   rcases mF.mp m with z | z
   ·rw [z,ek];exact n1
   ·exact up2.free (xH b z)
  rw [<- ek]
  clear n1 n2 n3 bt xH up2 ek
  have s04:=s02.trans (s3.trans s4)
  have W0:W3 A H H4 x y 0 0 room reach span:=⟨s04,kx.same s4,ky,(kh0 reach span r2 r64 ev rr).eq ex,(kh0 reach span r2 r64 ev rr).eq ey,kb0 ex,kb0 ey,⟨ex.room,ex.reach,ex.span⟩,⟨ey.room,ey.reach,ey.span⟩,fun b m1 m2=>(by
   obtain ⟨_,_,_,e⟩:=kx.live b m2
   have:=f4 b m1
   rw [e] at this;cases this),fun b m=>s02.free (f3 b m),fun b m=>(s02.trans s3).free (f4 b m)⟩
  clear kx ky ex ey s3 s4 f3 f4
  refine ⟨_,rfl,kO (W0.scr.seq hS) ⟨_,rfl,by lia,by rw [bG];lia,?_⟩⟩
  refine Dy (fun i σ G=>∃ (x' y':KS) (n m:Nat) (y7:Option V),σ=[some (.ref a),some (.int room),some (.int reach),some (.int span),some (.int pl),some (.ref x.k),some (.ref y.k),y7,none,none,none]/\W3 A H G x' y' n m room reach span/\x'.k=x.k/\y'.k=y.k/\n+m=i) ⟨x,y,0,0,none,rfl,W0,rfl,rfl,rfl⟩ ?_ ?_
  ·rintro i σ G hi ⟨x1,y1,n,m,y7,rfl,W,hk,hk',hnm⟩
   have hi':i<ns.length:=by rw [Wv,bG] at hi;exact hi
   obtain ⟨cell,_,ei⟩:=wQ (ns:=ns) (i:=0+(i:Int)) tb_g% tb_g%
   refine ⟨_,rfl,_,rfl,_,_,rfl,rfl,_,rfl,gP (fun h=>?_) (fun h=>?_)⟩
   ·refine ⟨_,rfl,_,rfl,_,rfl,qC (W.scr.seq hS) (v:=.int cell) ei ⟨cell,rfl,fun tr r G1 ok nt htr s1=>?_⟩⟩
    have W1:=W.same s1
    refine ⟨x1,n,tr,r,by rw [hk];rfl,W1.kx,W1.hx,by lia,htr,ok,fun x3 G2 k3 sr3 f3=>?_⟩
    exact ⟨x3,y1,n+1,m,_,rfl,W1.row tb_g% ok k3 sr3 f3,sr3.sb.k.trans hk,hk',by lia⟩
   ·refine ⟨_,rfl,_,rfl,_,rfl,qC (W.scr.seq hS) (v:=.int cell) ei ⟨cell,rfl,fun tr r G1 ok nt htr s1=>?_⟩⟩
    have W1:=W.same s1
    refine ⟨y1,m,tr,r,by rw [hk'];rfl,W1.ky,W1.hy,by lia,htr,ok,fun y3 G2 k3 sr3 f3=>?_⟩
    exact ⟨x1,y3,n,m+1,_,rfl,(W1.swap.row tb_g% ok k3 sr3 f3).swap,hk,sr3.sb.k.trans hk',by lia⟩
  ·rintro σ G ⟨x1,y1,n,m,y7,rfl,W,hk,hk',hnm⟩
   rw [<- hk,<- hk']
   have l63:n+m<=63:=by rw [hnm,Wv,bG];exact hlen
   have al:=W.al tb_g%
   dsimp only [afv]
   refine sq fun R hR=>?_
   refine ⟨_,rfl,x1,n,rfl,W.kx,W.hx,fun a1 GA sa ia=>?_⟩
   refine ⟨_,rfl,y1,m,rfl,(W.same sa).ky,W.hy,fun a2 GB sb ib=>⟨by show 2<=sizeLine;decide,fun LS hLL=>?_⟩⟩
   have sL:=Same.new (o:=.lst [.ref a1,.ref a2]) hLL
   have sA:=sa.trans (sb.trans sL)
   have iS:Is (upd GB LS (.lst [.ref a1,.ref a2])) (fun _=>True) 5 (.ref LS) (.l [jT x1,jT y1]):=.ofL trivial ao (.cons (ia.any.same (sb.trans sL)) (.cons (ib.any.same sL) .nil))
   generalize upd GB LS (.lst [.ref a1,.ref a2])=J1 at sA iS ⊢
   clear sL sa sb ia ib hLL
   have W1:=W.same sA
   walk_at "g"
   refine ⟨_,rfl,_,rfl,x1,y1,n,m,rfl,W1.kx,W1.ky,al,fun D zd J2 s2 kpd id=>?_⟩
   have W2:=W1.same s2
   walk_at "g"
   refine ⟨_,rfl,_,rfl,.inl ⟨x1,y1,n,m,rfl,W2.kx,W2.ky,al,fun z J3 kz kp fz s3=>?_⟩⟩
   have W3':=W2.same s3
   have ez:jT zd=jT z:=(kpd.eq kp).tree
   have hz:=kp.kh al
   obtain ⟨bz,wz⟩:=kp.kb W.bx W.by'
   have wz:=wz tb_g%
   have ozr:z.room=room:=kp.room.trans W.ex.1
   have ozh:z.reach=reach:=kp.reach.trans W.ex.2.1
   have ozs:z.span=span:=kp.span.trans W.ex.2.2
   have iD:Is J3 (fun _=>True) 4 (.ref D) (jT z):=by rw [<- ez];exact id.any.same s3
   have iS3:=iS.same (s2.trans s3)
   have dx:=W2.kx.off fz
   have dy:=W2.ky.off fz
   have fz0:∀ b∈z.all,H b=none:=fun b m=>W2.scr.free (fz b m)
   clear id ez kpd zd iS
   walk_at "g"
   refine ⟨_,rfl,alB (T.TY _ _ _ _ kz.o) (Sy _ _ (ams _)) ⟨_,rfl,Az ?_⟩⟩
   refine ⟨_,rfl,z,n+m,rfl,kz,hz,fun v1 J4 s4 i4=>⟨_,rfl,4,v1,D,rfl,rfl,by decide,i4.alike (iD.same s4),_,rfl,Az ?_⟩⟩
   have W4:=W3'.same s4
   refine ⟨_,rfl,x1,n,rfl,W4.kx,W4.hx,fun a3 GA sa ia=>?_⟩
   refine ⟨_,rfl,y1,m,rfl,(W4.same sa).ky,W4.hy,fun a4 GB sb ib=>⟨by show 2<=sizeLine;decide,fun L2' hLL=>?_⟩⟩
   have sL:=Same.new (o:=.lst [.ref a3,.ref a4]) hLL
   have sB:=sa.trans (sb.trans sL)
   have iB:Is (upd GB L2' (.lst [.ref a3,.ref a4])) (fun _=>True) 5 (.ref L2') (.l [jT x1,jT y1]):=.ofL trivial ao (.cons (ia.any.same (sb.trans sL)) (.cons (ib.any.same sL) .nil))
   generalize upd GB L2' (.lst [.ref a3,.ref a4])=J5 at sB iB ⊢
   clear sL sa sb ia ib hLL
   refine ⟨_,rfl,5,L2',LS,rfl,rfl,by decide,iB.alike (iS3.same (s4.trans sB)),_,rfl,Az ?_⟩
   have W5:=W4.same sB
   have k5:=kz.same (s4.trans sB)
   have d5:=iD.same (s4.trans sB)
   have t5:=iS3.same (s4.trans sB)
   clear iB W4 W3' iS3 iD i4
   walk_at "g"
   refine ⟨_,rfl,_,rfl,z,rfl,k5,by lia,by lia,by lia,fun e1 J6 ke1 ee1 fe1 s6=>?_⟩
   refine .inl ⟨z,e1,n+m,0,rfl,k5.same s6,ke1,⟨ee1.room,ee1.reach,ee1.span,hz,(kh0 _ _ hz.r2 hz.r64 tb_g% hz.rr).eq ee1,by lia,bz.2,(kb0 ee1).2⟩,fun z2 J7 kz2 kp2 fz2 s7=>?_⟩
   have a6:Alk z e1 (n+m) 0:=⟨ee1.room,ee1.reach,ee1.span,hz,(kh0 _ _ hz.r2 hz.r64 tb_g% hz.rr).eq ee1,by lia,bz.2,(kb0 ee1).2⟩
   refine ⟨z2,n+m+0,rfl,kz2,kp2.kh a6,fun v2 J8 s8 i8=>⟨_,rfl,4,v2,D,rfl,rfl,by decide,i8.alike (by rw [kp2.right hz bz.2 wz ee1];exact d5.same (s6.trans (s7.trans s8))),_,rfl,Az ?_⟩⟩
   have s58:=s6.trans (s7.trans s8)
   have k8:=k5.same s58
   have d8:=d5.same s58
   have t8:=t5.same s58
   have W8:=W5.same s58
   clear k5 d5 t5 W5 s58 s6 s7 s8 i8 kp2 kz2 fz2 a6 ke1 ee1 fe1
   refine ⟨_,rfl,z,rfl,k8,by lia,by lia,by lia,fun e2 J9 ke2 ee2 fe2 s9=>?_⟩
   have a9:Alk e2 z 0 (n+m):=⟨ee2.room.symm,ee2.reach.symm,ee2.span.symm,(kh0 _ _ hz.r2 hz.r64 tb_g% hz.rr).eq ee2,hz,by lia,(kb0 ee2).2,bz.2⟩
   refine ⟨_,rfl,.inl ⟨e2,z,0,n+m,rfl,ke2,k8.same s9,a9,fun z3 J10 kz3 kp3 fz3 s10=>?_⟩⟩
   refine ⟨z3,0+(n+m),rfl,kz3,kp3.kh a9,fun v3 J11 s11 i11=>⟨_,rfl,4,v3,D,rfl,rfl,by decide,i11.alike (by rw [kp3.left hz bz.2 wz ee2];exact d8.same (s9.trans (s10.trans s11))),_,rfl,Az ?_⟩⟩
   have ahA:=s9.trans (s10.trans s11)
   have k11:=k8.same ahA
   have d11:=d8.same ahA
   have t11:=t8.same ahA
   have W11:=W8.same ahA
   clear k8 d8 t8 W8 ahA s9 s10 s11 i11 kp3 kz3 fz3 a9 ke2 ee2 fe2
   walk_at "g"
   refine ⟨_,rfl,z.k,z.dk,_,rfl,k11.o,kfN tb_g%,z,n+m,5,3,rfl,k11,hz,by decide,by decide,by decide,by decide,fun z4 J12 k12 sp f12=>?_⟩
   have W12:=W11.far f12 fz0 dx dy
   have d12:=f12.is k11 d11
   have t12:=f12.is k11 t11
   have h4:=hz.putT sp
   have ea:=sp.sb.all
   walk_at "g"
   refine ⟨_,rfl,z4.k,z4.dk,_,by rw [sp.sb.k],k12.o,kfN tb_g%,z4,n+m,2,1,by rw [sp.sb.k];rfl,k12,h4,by decide,by decide,by decide,by decide,fun z5 J13 k13 st f13=>?_⟩
   have W13:=W12.far f13 (by rw [ea];exact fz0) (by rw [ea];exact dx) (by rw [ea];exact dy)
   have d13:=f13.is k12 d12
   have t13:=f13.is k12 t12
   have ek:z5.k=z.k:=st.sb.k.trans sp.sb.k
   have er:z5.room=room:=(st.sb.room.trans sp.sb.room).trans ozr
   have eh:z5.reach=reach:=(st.sb.reach.trans sp.sb.reach).trans ozh
   have es:z5.span=span:=(st.sb.span.trans sp.sb.span).trans ozs
   walk_at "g"
   refine ⟨_,rfl,x1,n,rfl,W13.kx,W13.hx,fun a5 GA sa ia=>?_⟩
   refine ⟨_,rfl,y1,m,rfl,(W13.same sa).ky,W13.hy,fun a6 GB sb ib=>⟨by show 2<=sizeLine;decide,fun L3' hLL=>?_⟩⟩
   have sL:=Same.new (o:=.lst [.ref a5,.ref a6]) hLL
   have sC:=sa.trans (sb.trans sL)
   have iC:Is (upd GB L3' (.lst [.ref a5,.ref a6])) (fun _=>True) 5 (.ref L3') (.l [jT x1,jT y1]):=.ofL trivial ao (.cons (ia.any.same (sb.trans sL)) (.cons (ib.any.same sL) .nil))
   generalize upd GB L3' (.lst [.ref a5,.ref a6])=J14 at sC iC ⊢
   clear sL sa sb ia ib hLL
   refine ⟨_,rfl,5,L3',LS,rfl,rfl,by decide,iC.alike (t13.same sC),_,rfl,Az ?_⟩
   have W14:=W13.same sC
   have d14:=d13.same sC
   have k14:=k13.same sC
   walk_at "g"
   refine ⟨_,rfl,z5,by rw [ek];rfl,k14,by lia,by lia,by lia,fun e3 J15 ke3 ee3 fe3 s15=>?_⟩
   rw [er,eh,es] at ee3
   refine ⟨e3,0,rfl,ke3,(kh0 reach span r2 r64 ev rr).eq ee3,fun v4 J16 s16 i16=>?_⟩
   refine ⟨_,rfl,_,rfl,_,rfl,?_⟩
   refine fun k dk n1 n2 n3=>⟨k,dk,room,reach,span,rfl,ao,r2,r64,ev,fun y5 J17 ky5 ey5 ek xH bt=>⟨rfl,?_⟩⟩
   k_dat J16 "d"
   have s17:Same J16 J17:=fun b o e=>bt b o (up2 b o e) (ak e n1)
   have f17:∀ b∈y5.all,J16 b=none:=fun b m=>by
    rcases mF.mp m with z | z
    ·rw [z,ek];exact n1
    ·exact up2.free (xH b z)
   rw [<- ek]
   clear n1 n2 n3 bt xH up2 ek
   refine ⟨y5,0,rfl,ky5,(kh0 reach span r2 r64 ev rr).eq ey5,fun v5 J18 s18 i18=>⟨4,v4,v5,rfl,rfl,by decide,(i16.same (s17.trans s18)).alike (by rw [(ee3.by ey5).tree];exact i18),_,rfl,Az ?_⟩⟩
   have ajQ:=s15.trans (s16.trans (s17.trans s18))
   have W18:=W14.same ajQ
   have d18:=d14.same ajQ
   have xr:x1.room % 2=0:=by rw [W.ex.1];exact ev
   refine hR _ _ ?_
   refine ⟨_,rfl,_,rfl,_,rfl,_,rfl,x1,xr,by rw [W.ex.1,W.ex.2.1,W.ex.2.2];rfl,W18.kx,W.hx.r2,W.hx.r64,fun J19 s19=>⟨true,rfl,Bb ?_⟩⟩
   have W19:=W18.same s19
   refine ⟨_,rfl,_,rfl,.inl ⟨x1,y1,n,m,rfl,W19.kx,W19.ky,al,fun z6 J20 kz6 kp6 fz6 s20=>?_⟩⟩
   exact ⟨z6,n+m,rfl,kz6,kp6.kh al,fun v6 J21 s21 i21=>⟨_,rfl,4,v6,D,rfl,rfl,by decide,i21.alike (by rw [(kp6.eq kp).tree];exact d18.same (s19.trans (s20.trans s21))),q _⟩⟩
theorem bOf0 {K:aZ} {x:Str} (F:Fun K x q st f fd) (h:∀ (kV dc pm:Value) (an:Option Addr) (cd ct:Value),yE (lK x q (j9 st) (jg st) (aH st) .none kV dc pm an cd ct) ⟨[],[]⟩=pure []):Binds K fd [] [] :=
 F.binds fun _ _ _ _ _ _ us hl=>match us,hl with | [],_=>h _ _ _ _ _ _
theorem FJ {K:aZ} {x:Str} (F:Fun K x q st f fd) (h:∀ (kV dc pm:Value) (an:Option Addr) (cd ct u0:Value),yE (lK x q (j9 st) (jg st) (aH st) .none kV dc pm an cd ct) ⟨[u0],[]⟩=pure [(p0,u0)]):Binds K fd [p0] [] :=
 F.binds fun _ _ _ _ _ _ us hl=>match us,hl with | [u0],_=>h _ _ _ _ _ _ u0
theorem jU {K:aZ} {x:Str} {p1:Str} (F:Fun K x q st f fd) (h:∀ (kV dc pm:Value) (an:Option Addr) (cd ct u0 u1:Value),yE (lK x q (j9 st) (jg st) (aH st) .none kV dc pm an cd ct) ⟨[u0,u1],[]⟩=pure [(p0,u0),(p1,u1)]):Binds K fd [p0,p1] [] :=
 F.binds fun _ _ _ _ _ _ us hl=>match us,hl with | [u0,u1],_=>h _ _ _ _ _ _ u0 u1
theorem Lk {K:aZ} {x:Str} {p1 p2:Str} (F:Fun K x q st f fd) (h:∀ (kV dc pm:Value) (an:Option Addr) (cd ct u0 u1 u2:Value),yE (lK x q (j9 st) (jg st) (aH st) .none kV dc pm an cd ct) ⟨[u0,u1,u2],[]⟩=pure [(p0,u0),(p1,u1),(p2,u2)]):Binds K fd [p0,p1,p2] [] :=
 F.binds fun _ _ _ _ _ _ us hl=>match us,hl with | [u0,u1,u2],_=>h _ _ _ _ _ _ u0 u1 u2
theorem bOf4 {K:aZ} {x:Str} {p1 p2 p3:Str} (F:Fun K x q st f fd) (h:∀ (kV dc pm:Value) (an:Option Addr) (cd ct u0 u1 u2 u3:Value),yE (lK x q (j9 st) (jg st) (aH st) .none kV dc pm an cd ct) ⟨[u0,u1,u2,u3],[]⟩=pure [(p0,u0),(p1,u1),(p2,u2),(p3,u3)]):Binds K fd [p0,p1,p2,p3] [] :=
 F.binds fun _ _ _ _ _ _ us hl=>match us,hl with | [u0,u1,u2,u3],_=>h _ _ _ _ _ _ u0 u1 u2 u3
theorem LK.fn {K:aZ} {n:Str} (h:LK K n q s f):∃ fd,Fun K n q s f fd:=by
 obtain ⟨oc,od,an,sl,kV,dc,pm,cd,ct,l,c,k⟩:=h
 exact ⟨_,alw l c k⟩
noncomputable def fdOf {K:aZ} {n q:Str} {s:Stmt} {f:Addr} (h:LK K n q s f):FuncData:=ae3 h.fn
theorem aY {K:aZ} {n:Str} (h:LK K n q s f):Fun K n q s f (fdOf h):=ae2 h.fn
theorem CK.cl {K:aZ} {C:Addr} (h:CK K C):Cls K C:=⟨h.1,h.2.1,h.2.2.1,h.2.2.2.1⟩
theorem CK.mk {K:aZ} {C:Addr} (h:CK K C) (m:MeK K C "__init__" q s f):Mk K C f:=⟨h.2.2.2.2.1,m.1,m.2.1,h.2.2.2.2.2⟩
theorem MeK.mt {K:aZ} {C:Addr} {n:Str} (m:MeK K C n q s f) (F:Fun K n q s f fd):Meth K C n f:=⟨m.1,m.2.1,F.kp⟩
noncomputable def RR (w:World) (K:aZ) (mg:Str->Option Value) (fa:Addr):Prop:=∃ fd:FuncData,(∀ (s:Shared) (v:Value),CP s fd ⟨[v],[]⟩ [("_law_script",v)])/\∀ base:Heap,K.In base->base.Ns dX mg->cP Es.prog w K mg base CX0 9 fa fd ["_law_script"] (aha K)
theorem all_mk:aft RR:=by
 intro w K h mg fa cV gW gQ gY rM bw gJ KJ Im Io Ip Ir f'0 f'1 f'2 f'3 f'4 f'5 f'6 f'7 f'8 f'9 Ro Xd Xe Xf Xg Xh Rp Xi Xj Xk Rq Xl Xm Xn Xo Xp Rr Xq Xr Xu Xv Xw Rt Xx Xy Xz XC XD XF XH XJ XM XQ XR XS X3 X4 X5 X6 X7 X8 Yb Yc Yd abl X G hfa aae vN Aj aaf rN wL aag mH pW aah mJ pY aai oK tD aaj jM pZ p8 qe qg qj aak aal aam aan aao aap iW gb gj gk ql qm qp qt qu qw qx qy qz fH dJ nY a'0 a'1 a'2 a'3 a'4 a'5 a'6 a'7 a'8 a'9 Qa Rv Rw Rx Ye Yg Qc Yh Ry Rz Qd Yi Yj RB RD Yk Qe RJ RK RL RM RN Qf Yl Ym Yn Yo Yp Yq Yr Ys Yt Yu Yv Yw Yx Yy Yz YB YC YD YF YG YH KN zk aaq Qg rO ju Lx Ak
 have e:=hfa.symm.trans (cN X G KN.1)
 cases e
 obtain ⟨xV,Bw,Bx,BJ,qG,BK,BL,xW,_⟩:=Aj
 obtain ⟨wg,wu,mL,xX,_⟩:=wL
 obtain ⟨wA,xY,rY,xZ,_⟩:=pW
 obtain ⟨yc,BP,BR,BW,_⟩:=pY
 obtain ⟨yd,uL,_⟩:=tD
 obtain ⟨yg,yh,uM,yj,yp,yq,yt,uN,yu,uO,_⟩:=pZ
 obtain ⟨Rj,amt,Rm,z_len,amu,z_max,z_min,ai8,Z7,z_set,ahB,z_sum,z_zip,_⟩:=zk
 have T:Tx K mg ⟨cV,gW,gQ,gY,rM,bw,gJ,KJ,Im,Io,Ip,Ir,f'0,fdOf a'0.2,f'1,fdOf a'1.2,f'2,fdOf a'2.2,f'3,fdOf a'3.2.2,f'4,fdOf a'4.2.2,f'5,fdOf a'5.2,f'6,fdOf a'6.2,f'7,fdOf a'7.2.2,f'8,fdOf a'8.2.2,f'9,fdOf a'9.2,Ro,fdOf Qa.2.2,Xd,fdOf Rv.2.2,Xe,fdOf Rw.2.2,Xf,fdOf Rx.2.2,Xg,fdOf Ye.2,Xh,fdOf Yg.2,Rp,fdOf Qc.2.2,Xi,fdOf Yh.2,Xj,fdOf Ry.2.2,Xk,fdOf Rz.2.2,Rq,fdOf Qd.2.2,Xl,fdOf Yi.2,Xm,fdOf Yj.2,Xn,fdOf RB.2.2,Xo,fdOf RD.2.2,Xp,fdOf Yk.2,Rr,fdOf Qe.2.2,Xq,fdOf RJ.2.2,Xr,fdOf RK.2.2,Xu,fdOf RL.2.2,Xv,fdOf RM.2.2,Xw,fdOf RN.2.2,Rt,fdOf Qf.2.2,Xx,fdOf Yl.2,Xy,fdOf Ym.2,Xz,fdOf Yn.2,XC,fdOf Yo.2,XD,fdOf Yp.2,XF,fdOf Yq.2,XH,fdOf Yr.2,XJ,fdOf Ys.2,XM,fdOf Yt.2,XQ,fdOf Yu.2,XR,fdOf Yv.2,XS,fdOf Yw.2,X3,fdOf Yx.2,X4,fdOf Yy.2,X5,fdOf Yz.2,X6,fdOf YB.2,X7,fdOf YC.2,X8,fdOf YD.2,Yb,fdOf YF.2,Yc,fdOf YG.2,Yd,fdOf YH.2,fa,fdOf KN.2⟩:=⟨vN.cl,
  cN X G aae,
  vN.mk a'7,
  xV,
  Bw,
  Bx,
  BJ,
  qG,
  BK,
  BL,
  xW,
  rN.cl,
  cN X G aaf,
  rN.mk Qa,
  wg,
  wu,
  mL,
  xX,
  mH.cl,
  cN X G aag,
  mH.mk Qc,
  wA,
  xY,
  rY,
  xZ,
  mJ.cl,
  cN X G aah,
  mJ.mk Qd,
  yc,
  BP,
  BR,
  BW,
  oK.cl,
  cN X G aai,
  oK.mk Qe,
  yd,
  uL,
  jM.cl,
  cN X G aaj,
  jM.mk Qf,
  yg,
  yh,
  uM,
  yj,
  yp,
  yq,
  yt,
  uN,
  yu,
  uO,
  fun H a dx fs e=>.ins e jM.cl p8 qe qg qj,
  cN X G aak,
  cN X G aal,
  cN X G aam,
  cN X G aan,
  cN X G aao,
  cN X G aap,
  iW,
  ⟨gb,gj,gk⟩,
  ⟨ql,qm,qp,qy,qz,qt,qu,qx,qw⟩,
  fH,
  dJ,
  nY,
  aY a'0.2,
  Lk (aY a'0.2) (by intros;rfl),
  cN X G a'0.1,
  aY a'1.2,
  FJ (aY a'1.2) (by intros;rfl),
  cN X G a'1.1,
  aY a'2.2,
  jU (aY a'2.2) (by intros;rfl),
  cN X G a'2.1,
  aY a'3.2.2,
  jU (aY a'3.2.2) (by intros;rfl),
  a'3.mt (aY a'3.2.2),
  aY a'4.2.2,
  jU (aY a'4.2.2) (by intros;rfl),
  a'4.mt (aY a'4.2.2),
  aY a'5.2,
  jU (aY a'5.2) (by intros;rfl),
  cN X G a'5.1,
  aY a'6.2,
  jU (aY a'6.2) (by intros;rfl),
  cN X G a'6.1,
  aY a'7.2.2,
  jU (aY a'7.2.2) (by intros;rfl),
  a'7.mt (aY a'7.2.2),
  aY a'8.2.2,
  Lk (aY a'8.2.2) (by intros;rfl),
  a'8.mt (aY a'8.2.2),
  aY a'9.2,
  jU (aY a'9.2) (by intros;rfl),
  cN X G a'9.1,
  aY Qa.2.2,
  Lk (aY Qa.2.2) (by intros;rfl),
  Qa.mt (aY Qa.2.2),
  aY Rv.2.2,
  jU (aY Rv.2.2) (by intros;rfl),
  Rv.mt (aY Rv.2.2),
  aY Rw.2.2,
  jU (aY Rw.2.2) (by intros;rfl),
  Rw.mt (aY Rw.2.2),
  aY Rx.2.2,
  jU (aY Rx.2.2) (by intros;rfl),
  Rx.mt (aY Rx.2.2),
  aY Ye.2,
  FJ (aY Ye.2) (by intros;rfl),
  cN X G Ye.1,
  aY Yg.2,
  FJ (aY Yg.2) (by intros;rfl),
  cN X G Yg.1,
  aY Qc.2.2,
  jU (aY Qc.2.2) (by intros;rfl),
  Qc.mt (aY Qc.2.2),
  aY Yh.2,
  jU (aY Yh.2) (by intros;rfl),
  cN X G Yh.1,
  aY Ry.2.2,
  jU (aY Ry.2.2) (by intros;rfl),
  Ry.mt (aY Ry.2.2),
  aY Rz.2.2,
  jU (aY Rz.2.2) (by intros;rfl),
  Rz.mt (aY Rz.2.2),
  aY Qd.2.2,
  jU (aY Qd.2.2) (by intros;rfl),
  Qd.mt (aY Qd.2.2),
  aY Yi.2,
  jU (aY Yi.2) (by intros;rfl),
  cN X G Yi.1,
  aY Yj.2,
  jU (aY Yj.2) (by intros;rfl),
  cN X G Yj.1,
  aY RB.2.2,
  jU (aY RB.2.2) (by intros;rfl),
  RB.mt (aY RB.2.2),
  aY RD.2.2,
  Lk (aY RD.2.2) (by intros;rfl),
  RD.mt (aY RD.2.2),
  aY Yk.2,
  Lk (aY Yk.2) (by intros;rfl),
  cN X G Yk.1,
  aY Qe.2.2,
  jU (aY Qe.2.2) (by intros;rfl),
  Qe.mt (aY Qe.2.2),
  aY RJ.2.2,
  Lk (aY RJ.2.2) (by intros;rfl),
  RJ.mt (aY RJ.2.2),
  aY RK.2.2,
  Lk (aY RK.2.2) (by intros;rfl),
  RK.mt (aY RK.2.2),
  aY RL.2.2,
  Lk (aY RL.2.2) (by intros;rfl),
  RL.mt (aY RL.2.2),
  aY RM.2.2,
  Lk (aY RM.2.2) (by intros;rfl),
  RM.mt (aY RM.2.2),
  aY RN.2.2,
  jU (aY RN.2.2) (by intros;rfl),
  RN.mt (aY RN.2.2),
  aY Qf.2.2,
  bOf4 (aY Qf.2.2) (by intros;rfl),
  Qf.mt (aY Qf.2.2),
  aY Yl.2,
  Lk (aY Yl.2) (by intros;rfl),
  cN X G Yl.1,
  aY Ym.2,
  bOf0 (aY Ym.2) (by intros;rfl),
  cN X G Ym.1,
  aY Yn.2,
  FJ (aY Yn.2) (by intros;rfl),
  cN X G Yn.1,
  aY Yo.2,
  FJ (aY Yo.2) (by intros;rfl),
  cN X G Yo.1,
  aY Yp.2,
  FJ (aY Yp.2) (by intros;rfl),
  cN X G Yp.1,
  aY Yq.2,
  FJ (aY Yq.2) (by intros;rfl),
  cN X G Yq.1,
  aY Yr.2,
  jU (aY Yr.2) (by intros;rfl),
  cN X G Yr.1,
  aY Ys.2,
  FJ (aY Ys.2) (by intros;rfl),
  cN X G Ys.1,
  aY Yt.2,
  FJ (aY Yt.2) (by intros;rfl),
  cN X G Yt.1,
  aY Yu.2,
  FJ (aY Yu.2) (by intros;rfl),
  cN X G Yu.1,
  aY Yv.2,
  jU (aY Yv.2) (by intros;rfl),
  cN X G Yv.1,
  aY Yw.2,
  jU (aY Yw.2) (by intros;rfl),
  cN X G Yw.1,
  aY Yx.2,
  jU (aY Yx.2) (by intros;rfl),
  cN X G Yx.1,
  aY Yy.2,
  jU (aY Yy.2) (by intros;rfl),
  cN X G Yy.1,
  aY Yz.2,
  jU (aY Yz.2) (by intros;rfl),
  cN X G Yz.1,
  aY YB.2,
  jU (aY YB.2) (by intros;rfl),
  cN X G YB.1,
  aY YC.2,
  FJ (aY YC.2) (by intros;rfl),
  cN X G YC.1,
  aY YD.2,
  jU (aY YD.2) (by intros;rfl),
  cN X G YD.1,
  aY YF.2,
  jU (aY YF.2) (by intros;rfl),
  cN X G YF.1,
  aY YG.2,
  jU (aY YG.2) (by intros;rfl),
  cN X G YG.1,
  aY YH.2,
  bOf4 (aY YH.2) (by intros;rfl),
  cN X G YH.1,
  aY KN.2,
  FJ (aY KN.2) (by intros;rfl),
  cN X G KN.1,
  rJ X G Rj,
  rJ X G amt,
  rJ X G Rm,
  rJ X G z_len,
  rJ X G amu,
  rJ X G z_max,
  rJ X G z_min,
  rJ X G ai8,
  rJ X G Z7,
  rJ X G z_set,
  rJ X G ahB,
  rJ X G z_sum,
  rJ X G z_zip,
  ⟨_,cN X G Qg,_,rfl⟩,
  ⟨_,cN X G ju,_,rfl⟩,
  ⟨_,cN X G Ak,_,rfl⟩,
  Sy _ _ (by decide)⟩
 refine ⟨fdOf KN.2,fun s v=>?_,fun base _ _=>ok'54 T⟩
 obtain ⟨_,_,_,_,_,_,_,_,_,e,_⟩:=(aY KN.2).ex
 rw [e];exact .of_eq rfl
theorem walk {q:aO} {loose:List Str} {XP:(Str->Option Value)->Heap->Prop} {YP:World->Heap->Prop} {d:Og} {K:CQ->aZ} (hn:Es.most=some 63) (hdf:d.params.defaults=[]) (hY:∀ (w:World) (h:Heap),YP w h->(K w.params).In h) (F:∀ (w:World) (mg:Str->Option Value) (fa:Addr) (h:Heap),(K w.params).In h->h.Ns dX mg->mg d.name=some (.ref fa)->RR w (K w.params) mg fa):V1 q loose XP YP Es.row.toRowW d [] (fun f vs=>NT f vs) :=
 L2.ahR (n:=63) (k:=9) (x := "_law_script") (CX:=fun _=>CX0) (sp:=fun w=>aha (K w.params)) hn (by decide) hdf ⟨rfl,by decide,by decide⟩ hY F (fun _ _ a ns hl _ hS=>⟨a,ns,rfl,hS,hl,fun _=>rfl⟩) fun _ _ _ _ _ z=>z
end My
theorem PySem.Challenge.cw_sketchbounds_k27_poured_part_by_part_holds : PySem.Challenge.rw_sketchbounds_k27_poured_part_by_part.Holds := by
  exact My.head My.RR My.all_mk My.walk

